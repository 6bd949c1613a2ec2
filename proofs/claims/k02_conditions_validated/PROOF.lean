import PyProof.Rows.All
import Wide.All
import OpenK.AllK
import Wide.FinOn
import KE.KExcSuper
import HandS.Nested
import HandS.ExcInit
import HandS.FStr
import KE.GoesMore
import HandS.Iter
import HandS.ForMost
import HandS.ForExc
import HandS.EndTab
import HandS.IsInst
import HandS.SetFor
import HandS.ExcIs
import HandS.ExcField
import HandS.TupAny
import HandS.Wide
import HandS.WideBits
import HandS.Walk
import HandS.Deep
import KE.KExcIs
import PySem.Challenge.RW_smallcourt_k02_conditions_validated
import HandS.Property
import HandS.NamedTupGet
import HandS.More
set_option Elab.async false
set_option linter.all false
set_option maxRecDepth 100000
set_option maxHeartbeats 4000000
namespace Sc
open PySem PySem.Spec PySem.Calls PyProof.Rows L2 NdefX
/-! ### super().__init__(..) in an own error's __init__ -/
/-- what the written part tells for super() in the __init__ of the class at C: cc its cell, cda the code object of __init__ -/
structure SupC (prog : Program) (K : PySem.W.Frag) (mg : Str → Option Value) (C cc cda : Addr) : Prop where
  cell : ∃ cl cld csl, K.lookup cc = some ⟨cl, cld, .cell (some (.ref C)), csl⟩
  code : ∃ ccl cdd vs ccs file tf, K.lookup cda = some ⟨ccl, cdd, .fields vs, ccs⟩ ∧ vs[2]? = some (.str file tf) ∧ ((prog.main.file : Str) == file) = true
  sub : PySem.W.mroIn K C (.ref C) = some true
  noS : mg "super" = none
  opq : PySem.W.nsIn K cStatics "thirdparty.any" = some none
  up : PySem.W.ks_superIn K C C "__init__" = some (some (.builtin "ValueError.__init__"))
  isB : PySem.W.subIn K (.ref C) (.type "ValueError") = some true
  top : (prog.main.scope.names.lookup ("super" : Str)).isSome = false
section
variable {X : Cx} {pins : List (Addr × Obj)} {σ : L2.St} {H : Hp} {s : Shared} {a C cc cda f : Addr}
theorem sup_bound {u : Addr} {us : List Value} {A : Around} {E : Value → Shared → Prop} {Q : Value → Shared → Prop} (T : OexC X.K C) (I : Inv X pins σ H s) (e : H a = some (exo a C none)) (hu : s.heap.get? u = some (PySem.W.kxs_mw "ValueError.__init__" a)) (hl : us.length ≤ sizeLine)
    (h : ∀ s', Inv X pins σ H s' → Q .none s') : wpAny (model X.prog X.w) A (call (.ref u) us) Q E s := by
  obtain ⟨nm, q, N, bs, bm, sn, sub, ab, col, dd, k0, k1, k2, k3, k5, hC, hbm⟩ := T.cls
  obtain ⟨t1, ho⟩ := exo_at I.hok e
  have hC' := I.kIn _ _ hC
  obtain ⟨hp, g, d, tk, os⟩ := s
  refine wpAny_call (codeAny_of_tree ?_)
  show wpAny _ A.in1 (callAny (.ref u) ⟨us, []⟩) _ _ _
  simp only [callAny]
  refine wpAny_bind (wpAny_load hu ?_)
  have b1 : (Value.type "method-wrapper" == Value.type "method" || Value.type "method-wrapper" == Value.type "builtin_function_or_method" || Value.type "method-wrapper" == Value.type "method-wrapper") = true := by decide
  simp only [PySem.W.kxs_mw, b1, if_true]
  refine PySem.W.KFB.if_so (by decide) (wpAny_bind (PySem.W.check_bound_init PySem.F.excBase_ValueError.toExcCallFacts hC' ho rfl (wpAny_bind (wpAny_pure (wpAny_pure ?_)))))
  refine ⟨plainId_quiet PySem.F.excBase_ValueError.init.plain _, codeAny_builtin PySem.F.excBase_ValueError.initEntry ?_⟩
  refine PySem.W.exc_init_tree (cls := .ref C) (t0 := t1) (dv := none) (c2 := .none) (c3 := .none) (b4 := .bool false) ho hl fun h' k hx _ => ?_
  have J := I.write (t' := tk) (x := a) (e := a) (o := exo a C none) (by rw [e]; exact True.intro) (.inl rfl) k ⟨_, hx⟩ (exo_ok hx)
  have eu : upd H a (exo a C none) = H := funext fun b => by
    by_cases hb : b = a
    · rw [hb, upd_same, e]
    · rw [upd_ne hb]
  rw [eu] at J
  exact h _ J
theorem at_super {pl : Sem Bool} {body : List Stmt} {e : Expr} {es : List Expr} {ta : TA} {D : Ends} {p0 p1 p2 p3 p4 : Pos} {fd : FuncData} {ar : Arg} {oc : Value} {od : Option Addr} {osl : Array (Option Value)}
    (T : OexC X.K C) (S : SupC X.prog X.K X.mg C cc cda) (hks : X.env.kindOf "super" = some .globalImplicit) (hkc : X.env.kindOf "__class__" = some .free) (hcl : X.env.cells.lookup ("__class__" : Str) = some cc)
    (hfu : X.env.func = some f) (hco : X.env.code = .ref cda) (lk : X.K.lookup f = some ⟨oc, od, .func fd, osl⟩) (hp : (fd.params.posonlyargs ++ fd.params.args).head? = some ar) (hN0 : X.N[0]? = some ar.arg) (hka : X.env.kindOf ar.arg = some .local)
    (hA : PA X (e :: es) ta) (I : Inv X pins σ H s) (hσ : σ[0]? = some (some (.ref a))) (ha : H a = some (exo a C none)) (q : ta σ H fun vs H1 => vs.length ≤ 1000 ∧ H1 a = some (exo a C none) ∧ D.nx σ H1)
    (he : starEach (e :: es) X.env = (false, eval e X.env) :: starEach es X.env := by rfl) (hpl : (backTo p3 (starEach es X.env)).any (·.1) = false := by rfl) (hi : interactive X.env = false := by rfl)
    (hev : eval (.Call (.Attribute (.Call (.Name "super" p0) [] [] p1) "__init__" p2) (e :: es) [] p3) X.env = (do
      let ov ← attributeBase (.Call (.Name "super" p0) [] [] p1) "__init__" X.env (eval (.Call (.Name "super" p0) [] [] p1) X.env)
      standAt p2.atName
      let (g, first) ← holding [ov] (getMethod ov "__init__" pl)
      callWith p3 g first (backTo p3 (starEach (e :: es) X.env)) []) := by rfl) (hsw : swapsWith (.Call (.Attribute (.Call (.Name "super" p0) [] [] p1) "__init__" p2) (e :: es) [] p3) none p4.line X.env = pure false := by rfl) :
    PySem.wpAt (model X.prog X.w) X.A (.func body X.env) (exec (.Expr (.Call (.Attribute (.Call (.Name "super" p0) [] [] p1) "__init__" p2) (e :: es) [] p3) p4) X.env) (SP X pins D) X.xe s := by
  obtain ⟨cl, cld, csl, hcell⟩ := S.cell
  obtain ⟨ccl, cdd, vs, ccs, file, tf, hcode, hvs, hfile⟩ := S.code
  have KX := I.kIn
  refine ks_wpAt_Expr_any (ks_wpAt_MethodCall (pl := pl) ?_ hev) hi hsw
  refine ks_wpAt_super_base hks hkc (by decide) hfu (KX _ _ lk) rfl hp hco (KX _ _ hcode) rfl hvs hfile S.top ?_
  obtain ⟨mb, b1, b2⟩ := I.mod.blt
  refine PySem.W.ks_loadName_global I.ok.kind hks (Calls.loadGlobal_builtin (v := .type "super") (by rw [I.ok.glob]; exact I.mod.glob.keeps I.bk) S.noS (by rw [I.ok.blt]; exact b1.keeps I.bk) ((b2 _ (by decide +kernel)).trans (by decide +kernel)) ⟨rfl, ?_⟩)
  refine wpAny_loadName_free I.ok.kind hkc hcl ⟨_, KX _ _ hcell, rfl⟩ ?_
  obtain ⟨m, hn, hloc⟩ := I.loc
  obtain ⟨u, ru, hlook⟩ := hloc 0 ar.arg (.ref a) hN0 hσ (.inl hka)
  obtain rfl : u = Value.ref a := ru
  have hm : m ar.arg = some (.ref a) := by
    rcases hlook with ⟨_, z⟩ | ⟨z, _⟩
    · exact z
    · rcases z with z | z <;> rw [show X.env.kindOf ar.arg = _ from hka] at z <;> cases z
  refine wpAny_loadName_local I.ok.kind hka hn hm ?_
  obtain ⟨nm, qn, N, bs, bm, sn, sub, ab, col, dd, k0, k1, k2, k3, k5, hC, hbm⟩ := T.cls
  have hcls : PySem.W.clsIn X.K C = some { name := nm, bases := bs, mro := .ref C :: bm, ns := N, qualname := qn, hasDict := true, slotNames := sn, subclasses := sub, abstract := ab, collection := col, hasDel := false } := by unfold PySem.W.clsIn; rw [hC] <;> rfl
  obtain ⟨t1, ho⟩ := exo_at I.hok ha
  have hC' := KX _ _ hC
  have ex := S.up
  unfold PySem.W.ks_superIn at ex
  rw [hcls] at ex
  obtain ⟨hp', g, d, tk, os⟩ := s
  refine ks_wpAny_isType_cls hC' rfl ⟨rfl, ?_⟩
  refine ks_wpAny_call_super hC' rfl ho rfl (fun c z => nomatch z) (PySem.W.looks_mroIn KX S.sub) (fun h' e1 k => ?_)
  have I1 : Inv X pins σ H ⟨h', g, d, tk, os⟩ := I.kept (t' := tk) k
  have IA : PySem.W.InstAt h' a { cls := .ref C, dict := none, data := .fields #[.ref t1, .none, .none, .none, .bool false, .none] } C none := ⟨k _ _ ho, rfl, rfl, trivial⟩
  have hIs : PySem.W.Looks (model X.prog X.w) h' (isInstance (.ref a) (.type "ValueError")) true := IA.type.andThen (PySem.W.looks_subIn I1.kIn S.isB)
  refine PySem.W.kxs_getMethod PySem.W.kxs_ValueError e1 (PySem.W.looks_opaque I1.kIn S.opq) (l₀ := .ref C :: bm) (fun A Q E s k q => wpAny_bind ((PySem.W.looks_clsIn I1.kIn hcls) A _ E s k (wpAny_pure q))) rfl I1.kIn ex hIs (PySem.W.ks_ne I1.kIn IA hcls) (by decide) ?_
  have I2 : Inv X pins σ H ⟨h'.push (PySem.W.kxs_mw "ValueError.__init__" a), g, d, tk + 1, os⟩ := I1.kept (t' := tk + 1) fun b o z => Heap.get?_push_of_some _ z
  have hu : (h'.push (PySem.W.kxs_mw "ValueError.__init__" a)).get? h'.objs.size = some (PySem.W.kxs_mw "ValueError.__init__" a) := Heap.get?_push_at rfl rfl
  have hun : H h'.objs.size = none := I1.hok.fresh (Nat.le_refl _)
  have hunf : h'.objs.size ∉ X.fs ∧ h'.objs.size ≠ X.env.locals := ⟨I1.nofs (Nat.le_refl _), fun z => Nat.lt_irrefl _ (by have := I1.lt; rw [← z] at this; exact this)⟩
  have I3 : Inv X ((h'.objs.size, PySem.W.kxs_mw "ValueError.__init__" a) :: pins) σ H ⟨h'.push (PySem.W.kxs_mw "ValueError.__init__" a), g, d, tk + 1, os⟩ := I2.pins_of fun p hp => by
    rcases List.mem_cons.mp hp with rfl | hp
    · exact ⟨hu, hun, hunf.2, hunf.1, fun v z => nomatch z⟩
    · exact I2.pin p (List.mem_append_right _ hp)
  rw [he]
  refine PySem.W.kxs_callWith (i := "ValueError.__init__") (x := a) (first := []) (by show (false || (backTo p3 (starEach es X.env)).any (·.1)) = false; rw [hpl]; rfl) (evalArgs_plain ?_)
  show wpAny _ _ (spliced (backTo p3 ((false, eval e X.env) :: starEach es X.env))) _ _ _
  rw [← he]
  refine thn (hA.run p3 _ _ σ H _ I3 q) fun us s1 ⟨vs, H1, I4, r1, hl, e4, q4⟩ => ?_
  have I5 : Inv X pins σ H1 s1 := I4.pins_of fun p hp => I4.pin p (List.mem_append_right _ (.tail _ hp))
  have hu4 := (I4.pin _ (List.mem_append_right _ List.mem_cons_self)).1
  refine ⟨hu4, ?_⟩
  refine sup_bound T I5 e4 hu4 (by show us.length ≤ sizeLine; rw [← Paired.length r1, sizeLine_eq]; omega) fun s' J => ?_
  exact ⟨σ, H1, J, q4⟩
end
/-! ### the __init__ as a def -/
/-- the reading of a body that begins with super().__init__(e ..) -/
def tInit (C : Addr) (ta : TA) (tr : TS) : TS := fun D σ H => ∃ a : Addr, σ[0]? = some (some (.ref a)) ∧ H a = some (exo a C none) ∧ ta σ H fun vs H1 => vs.length ≤ 1000 ∧ H1 a = some (exo a C none) ∧ tr D σ H1
section
variable {P : Program} {w : World} {K : PySem.W.Frag} {mg : Str → Option Value} {base : Heap} {N ps : List Str} {F : NF} {f C cc : Addr} {k : Nat} {sp : Sp} {kV doc pm ct oc : Value} {an od : Option Addr} {osl : Array (Option Value)}
/-- the def's data as it stands -/
abbrev supFd (F : NF) (kV doc pm : Value) (an : Option Addr) (ct : Value) : FuncData := PySem.W.fnX F.name F.qual F.params F.body F.scope F.cl .none kV doc pm an (.ref F.c) ct
theorem fn_sup {e : Expr} {es : List Expr} {rest : List Stmt} {ar : Arg} {p0 p1 p2 p3 p4 : Pos} (lk : K.lookup f = some ⟨oc, od, .func (supFd F kV doc pm an ct), osl⟩) (hcd : PySem.W.codeIn K (.ref F.c) F.qual = true) (hcl : F.cl = [(("__class__" : Str), cc)])
    (SC : NScope N ps ["__class__"] F.scope) (T : OexC K C) (S : SupC P K mg C cc F.c) (len : ∀ vs H Q E, sp vs H Q E → vs.length = ps.length)
    (hbd : F.body = .Expr (.Call (.Attribute (.Call (.Name "super" p0) [] [] p1) "__init__" p2) (e :: es) [] p3) p4 :: rest)
    (hp : (F.params.posonlyargs ++ F.params.args).head? = some ar) (hN0 : N[0]? = some ar.arg) (hka : F.scope.names.lookup ar.arg = some .local) (hks : F.scope.names.lookup ("super" : Str) = some .globalImplicit)
    (hbody : ∀ (A : Around) (outer : List Env) (s : Shared) (H : Hp) (vs : List V) (Q : VK) (E : XK), Room k (A.deeper (envF F f s.heap.objs.size)) → sp vs H Q E →
      ∃ ta tr, PA (ncx CX0 P w K mg base N F f A outer s H E) (e :: es) ta ∧ PSs (ncx CX0 P w K mg base N F f A outer s H E) rest tr ∧ tInit C ta tr { nx := fun _ H' => Q .non H', rt := Q } (startF N vs [none]) H)
    (hev : ∀ L, ∃ pl, eval (.Call (.Attribute (.Call (.Name "super" p0) [] [] p1) "__init__" p2) (e :: es) [] p3) (envF F f L) = (do
      let ov ← attributeBase (.Call (.Name "super" p0) [] [] p1) "__init__" (envF F f L) (eval (.Call (.Name "super" p0) [] [] p1) (envF F f L))
      standAt p2.atName
      let (g, first) ← holding [ov] (getMethod ov "__init__" pl)
      callWith p3 g first (backTo p3 (starEach (e :: es) (envF F f L))) []))
    (hsw : ∀ L, swapsWith (.Call (.Attribute (.Call (.Name "super" p0) [] [] p1) "__init__" p2) (e :: es) [] p3) none p4.line (envF F f L) = pure false) (he : ∀ L, starEach (e :: es) (envF F f L) = (false, eval e (envF F f L)) :: starEach es (envF F f L))
    (hpl : ∀ L, (backTo p3 (starEach es (envF F f L))).any (·.1) = false) (hi : ∀ L, interactive (envF F f L) = false) :
    FnOk P w K mg base CX0 (k + 1) f (supFd F kV doc pm an ct) ps sp := by
  refine ⟨len, fun A outer s H args us vs Q E hr e0 hb r hsp => ?_⟩
  have hl := len _ _ _ _ hsp
  have KX : K.In s.heap := e0.mod.kin.keeps fun b o e => (e0.bs b o e).1
  have lim : s.heap.NoLimit := e0.mod.nolimit.keeps fun b o e => (e0.bs b o e).1
  obtain ⟨cl, cld, csl, hcell⟩ := S.cell
  have hcH : H cc = none := by
    have z := e0.mod.kin _ _ hcell
    exact (e0.bs _ _ z).2
  have CA : CellsAt F.cl ["__class__"] [none] s.heap H := by
    rw [hcl]
    refine ⟨rfl, fun y c h => ?_, fun x y c h1 h2 => ?_, fun i y h => ?_⟩
    · have q : y = ("__class__" : Str) ∧ c = cc := by
        simp only [List.lookup] at h
        split at h
        · rename_i z; exact ⟨by simpa using z, (Option.some.inj h).symm⟩
        · cases h
      rw [q.2]
      exact ⟨hcH, some (.ref C), ⟨_, KX _ _ hcell, rfl⟩⟩
    · have q : ∀ z, List.lookup z [(("__class__" : Str), cc)] = some c → z = ("__class__" : Str) := fun z h => by
        simp only [List.lookup] at h
        split at h
        · rename_i z; simpa using z
        · cases h
      rw [q x h1, q y h2]
    · cases i with
      | zero =>
        have q : y = ("__class__" : Str) := (Option.some.inj h).symm
        subst q
        exact ⟨cc, by simp [List.lookup], fun v z => by cases z⟩
      | succ i => simp at h
  refine ks_codeAny_call_defAt (fd := supFd F kV doc pm an ct) (body := F.body) (binds := ps.zip us) hr.depth (KX _ _ lk) rfl lim (PySem.W.codeRec_of KX hcd) rfl hb SC.nocell (fun ⟨n, _⟩ hy => SC.par n (List.of_mem_zip hy).1) (fun h₁ hns kp => ?_) SC.co SC.gen SC.kind
  obtain ⟨ta, tr, hta, htr, a, hσ, ha, q⟩ := hbody A outer s H vs Q E (hr.deeper _) hsp
  have I : Inv (ncx CX0 P w K mg base N F f A outer s H E) [] (startF N vs [none]) H { s with heap := h₁, toks := s.toks + (ps.zip us).length } := inv_startN SC hr.hd e0 hl r CA hns kp
  obtain ⟨pl, hev⟩ := hev s.heap.objs.size
  have fin : ∀ {s' : Shared} {σ' : L2.St} {H' : Hp} {v : V} {u : Value}, Inv (ncx CX0 P w K mg base N F f A outer s H E) [] σ' H' s' → L2.RelV v u → Q v H' → CE outer P w H s Q u s' :=
    fun {s' σ' H' v u} J rv q => ⟨v, H', J.os, J.bare, J.base, J.hok, rv, q⟩
  rw [hbd]
  refine ks_wpAt_execs_cons (ks_wpAt_mono (at_super (X := ncx CX0 P w K mg base N F f A outer s H E) (D := { nx := fun σ' H' => tr { nx := fun _ H' => Q .non H', rt := Q } σ' H', rt := fun _ _ => False }) (pl := pl) (f := f) (ar := ar) (fd := supFd F kV doc pm an ct) T S hks (SC.frk _ List.mem_cons_self) (by show F.cl.lookup _ = _; rw [hcl]; simp [List.lookup]) rfl rfl lk hp hN0 hka hta I hσ ha q (he _) (hpl _) (hi _) hev (hsw _)) (fun fl s' hs => ?_) fun _ _ z => z)
  cases fl with
  | ret u =>
    obtain ⟨_, _, _, _, _, z⟩ := hs
    exact z.elim
  | brk =>
    obtain ⟨_, _, _, z⟩ := hs
    exact z.elim
  | cont =>
    obtain ⟨_, _, _, z⟩ := hs
    exact z.elim
  | next =>
    obtain ⟨σ', H', J, z⟩ := hs
    refine PySem.wpAt_of_wpAny (wpAny_mono (htr.run [] s' σ' H' _ J z) (fun fl2 s2 h2 => ?_) fun _ _ y => y)
    cases fl2 with
    | ret u =>
      obtain ⟨v, σ2, H2, J2, rv, q2⟩ := h2
      exact fin J2 rv q2
    | next =>
      obtain ⟨σ2, H2, J2, q2⟩ := h2
      exact fin (v := V.non) (u := Value.none) J2 rfl q2
    | brk =>
      obtain ⟨_, _, _, q2⟩ := h2
      exact q2.elim
    | cont =>
      obtain ⟨_, _, _, q2⟩ := h2
      exact q2.elim
end
end Sc
namespace Sc
open PySem PySem.Spec PySem.Calls PyProof.Rows L2
/-! ### enumerate(tuple) -/
theorem enumT_new (l : Addr) (items : Array Value) (n : Nat) (dct : Option Addr) (sl : Array (Option Value)) :
    Meets (Builtin.«enumerate.__new__» ⟨[.type "enumerate", .ref l], []⟩) (fun _ R s =>
      s.heap.get? l = some { cls := .type "tuple", dict := dct, data := .seq items n, slots := sl } ∧
      R (.ok (.ret (.ref (s.heap.objs.size + 1)))) { s with heap := (s.heap.push { cls := .type "tuple_iterator", data := .fields #[.ref l, .int 0 0] }).push { cls := .type "enumerate", data := .fields #[.none, .bool false, .ref s.heap.objs.size, rawInt 0, .none, .none] } }) :=
  .of_wp fun prog w A R s h => by
    obtain ⟨hp, g, d, tk, os⟩ := s
    obtain ⟨hl, hR⟩ := h
    have hsub := sub_enumerate
    have hT : Heap.IsTuple hp l items := ⟨_, hl, rfl, n, rfl⟩
    have hz : (hp.push { cls := .type "tuple_iterator", data := .fields #[.ref l, .int 0 0] }).objs.size = hp.objs.size + 1 := Heap.size_push ..
    rw [← hz] at hR
    have it1 : ∀ {A' : Around} {E : Value → Shared → Prop} {Q : Value → Shared → Prop}, Q (.ref hp.objs.size) ⟨hp.push { cls := .type "tuple_iterator", data := .fields #[.ref l, .int 0 0] }, g, d, tk, os⟩ →
        wpAny (model prog w) A' (pyIter (.ref l)) Q E ⟨hp, g, d, tk, os⟩ := fun q => wpAny_pyIter_tuple (s := ⟨hp, g, d, tk, os⟩) hT q
    wp_walk using AutoSeq1.wpAny_loadPart' hl, it1
    refine wpAny_stack_any fun st => wpAny_pure ?_
    split
    · rename_i c _ _ _ _ _
      cases (c == Value.type "enumerate") <;>
      · wp_walk using AutoSeq1.wpAny_loadPart' hl, it1
        exact ⟨_, rfl, hR⟩
    · wp_walk using AutoSeq1.wpAny_loadPart' hl, it1
      exact ⟨_, rfl, hR⟩
section
variable {prog : Program} {w : World} {A : Around} {E : Value → Shared → Prop} {s : Shared}
theorem enumT_call {l : Addr} {items : Array Value} {Q : Value → Shared → Prop} (hL : s.heap.IsTuple l items)
    (h : ∀ h', IsEnum h' (s.heap.objs.size + 1) s.heap.objs.size 0 .none → h'.IsTupleIter s.heap.objs.size l 0 → (∀ b o, s.heap.get? b = some o → h'.get? b = some o) →
      Q (.ref (s.heap.objs.size + 1)) { s with heap := h' }) : wpAny (model prog w) A (call (.type "enumerate") [.ref l]) Q E s := by
  obtain ⟨⟨c, dct, dt, sl⟩, hl, hc, n, hd⟩ := hL
  dsimp only at hc hd
  subst hc hd
  refine callType_new F.called_enumerate (by decide) (F.typeCall_enumerate_1 _) (F.newCall_enumerate_1 _) (fun obj => F.args_object_init_2 obj _) F.entry_enumerate_new (enumT_new l items n dct sl) ⟨hl, ?_⟩
  have hz : (s.heap.push { cls := .type "tuple_iterator", data := .fields #[.ref l, .int 0 0] }).objs.size = s.heap.objs.size + 1 := Heap.size_push ..
  have he := Heap.get?_push_size (s.heap.push { cls := .type "tuple_iterator", data := .fields #[.ref l, .int 0 0] })
    (o := { cls := .type "enumerate", data := .fields #[.none, .bool false, .ref s.heap.objs.size, rawInt 0, .none, .none] }) rfl
  rw [hz] at he
  exact ⟨⟨_, he, rfl⟩, h _ he ⟨_, Heap.get?_push_of_some _ (Heap.get?_push_size _ rfl), rfl, rfl⟩ fun b o x => Heap.get?_push_of_some _ (Heap.get?_push_of_some _ x)⟩
end
/-- the tuple at a, each item in a new pair -/
def IteT (K : PySem.W.Frag) (a : Addr) : It where
  go := fun i H => ∃ (xs : List V) (x : V), SqT K H a xs ∧ xs[i]? = some x
  yld := fun i H v H' => ∃ T x, v = .ref T ∧ H T = none ∧ H' = upd H T (.tup [.int (i : Nat), x]) ∧ ∀ xs, SqT K H a xs → xs[i]? = some x
  stop := fun i H => ∃ xs : List V, SqT K H a xs ∧ xs.length ≤ i
theorem enumT_turn {P : Program} {w : World} {K : PySem.W.Frag} {elts : List Expr} {kk : Nat} {tpos : Pos} (a e it : Addr) :
    Turn P w K (.Tuple elts kk tpos) (IteT K a) [e, it] e (fun i h => (∃ old, IsEnum h e it ((i : Nat) : Int) old) ∧ h.IsTupleIter it a i ∧ e ≠ it) where
  mem := List.mem_cons_self
  obj := fun i h st b hb => by
    obtain ⟨⟨old, he⟩, ⟨o, ho, hc, hd⟩, _⟩ := st
    rcases List.mem_cons.mp hb with rfl | hb
    · exact ⟨_, he, fun v q => nomatch q⟩
    · rcases List.mem_cons.mp hb with rfl | hb
      · exact ⟨o, ho, fun v q => by rw [hd] at q; cases q⟩
      · cases hb
  keep := fun i h h' st k => by
    obtain ⟨⟨old, he⟩, hi, hne⟩ := st
    exact ⟨⟨old, k e (by simp) _ he⟩, hi.at fun o q => k it (by simp) o q, hne⟩
  item := by
    intro X hP hw hK hc i pins s σ H E I hf st hg
    subst hP hw hK
    obtain ⟨⟨old, he⟩, hit, hne⟩ := st
    obtain ⟨xs, x, hq, hx⟩ := hg
    obtain ⟨its, rv, p, hz⟩ := I.tuple hq
    obtain ⟨u, hu, ru⟩ := rv.get hx
    have hel : e < s.heap.objs.size := Heap.lt_size he
    have hil : it < s.heap.objs.size := by obtain ⟨_, q, _⟩ := hit; exact Heap.lt_size q
    have p' : s.heap.IsTuple a its.toArray := p
    have hae : a ≠ e := fun z => by
      obtain ⟨o, ho, hcl, n, hd⟩ := p'
      rw [z, he] at ho
      cases ho
      cases hd
    have hai : a ≠ it := fun z => by
      obtain ⟨o, ho, hcl, n, hd⟩ := p'
      obtain ⟨o2, ho2, hcl2, hd2⟩ := hit
      rw [z, ho2] at ho
      cases ho
      rw [hd2] at hd
      cases hd
    have hlt : i < its.toArray.size := by
      rw [List.size_toArray]
      exact (List.getElem?_eq_some_iff.mp hu).1
    refine wpAny_pyNext_enum_itemD (Draws.tuple (A := X.A.in1) (I.ok.hd hc) it a hai its.toArray) he ⟨hit, p'⟩ hlt hne (by simp [hne, hae.symm]) fun y h' tk hy ho st' hT hsz hk => ?_
    obtain ⟨hit', hp'⟩ := st'
    have ey : y = u := by
      have z : its.toArray[i]? = some u := by simpa using hu
      rw [hy] at z
      exact Option.some.inj z
    subst ey
    refine ⟨_, rfl, wpAny_letOwnedTupleGo_enum (s := { s with heap := h', toks := tk + 1 }) ho fun h'' he' sb => ?_⟩
    have hT2 : h''.get? s.heap.objs.size = some { cls := .type "tuple", data := .seq #[.int i tk, y] } := (sb.2 _ (Nat.ne_of_gt hel)).trans hT
    have new : ObjOk X.prog X.w (upd H s.heap.objs.size (.tup [.int (i : Nat), x])) h'' s.heap.objs.size (.tup [.int (i : Nat), x]) :=
      ⟨by show 2 ≤ sizeLine; decide, [.int i tk, y], .cons ⟨_, rfl⟩ (.cons ru .nil), ⟨_, hT2, rfl, _, rfl⟩⟩
    have I1 : Inv X pins σ (upd H s.heap.objs.size (.tup [.int (i : Nat), x])) { s with heap := h'', toks := tk + 1 } :=
      I.turnedNew (ch := [e, it]) (fun b ob hb q => (sb.2 b (fun z => hb (by simp [z]))).trans (hk b ob (fun z => hb (by simp [z])) (fun z => hb (by simp [z])) q)) hf (Nat.le_refl _) new
    refine ⟨.ref s.heap.objs.size, _, I1, rfl, ⟨_, x, rfl, I.hok.fresh (Nat.le_refl _), rfl, fun ys hy => by rw [I.tuple_inj hy hq]; exact hx⟩, ⟨⟨y, ?_⟩, hit'.at fun o q => (sb.2 it (Ne.symm hne)).trans q, hne⟩, fun b hb => ?_⟩
    · have e1 : ((i + 1 : Nat) : Int) = (i : Int) + 1 := by omega
      rw [e1]
      exact he'
    · have hb' : b < s.heap.objs.size := by
        rcases List.mem_cons.mp hb with rfl | hb
        · exact hel
        · rcases List.mem_cons.mp hb with rfl | hb
          · exact hil
          · cases hb
      rw [upd_ne (Nat.ne_of_lt hb')]
      exact (hf b hb).1
  done := by
    intro X hP hw hK hc i pins s σ H E I hf st hg
    subst hP hw hK
    obtain ⟨⟨old, he⟩, hit, hne⟩ := st
    obtain ⟨xs, hq, hx⟩ := hg
    obtain ⟨its, rv, p, hz⟩ := I.tuple hq
    obtain ⟨f0, f1, f2, f3, f4, f5⟩ := hf it (by simp)
    have hl := rv.length
    have p' : s.heap.IsTuple a its.toArray := p
    have hai : a ≠ it := fun z => by
      obtain ⟨o, ho, hcl, n, hd⟩ := p'
      obtain ⟨o2, ho2, hcl2, hd2⟩ := hit
      rw [z, ho2] at ho
      cases ho
      rw [hd2] at hd
      cases hd
    have D : Draws X.prog X.w X.A.in1 it [it, a] i (fun _ _ => True) (fun j h => h.IsTupleIter it a j ∧ h.IsTuple a its.toArray ∧ j = i) :=
      { live := fun _ _ st => let ⟨o, ho, _⟩ := st.1; ⟨o, ho⟩
        frame := fun _ _ _ st hk => ⟨st.1.at fun o e => hk it (by simp) o e, st.2.1.at fun o e => hk a (by simp) o e, st.2.2⟩
        item := fun j s Q E hj stj hQ => absurd hj (by rw [stj.2.2]; exact Nat.lt_irrefl i)
        done := fun s Q E stj hE => wpAny_nextOf_tuple_end (I.ok.hd hc) stj.1 stj.2.1 (by simp; omega) hE }
    exact wpAny_pyNext_enum_endD D he ⟨hit, p', rfl⟩ fun h' eb => ⟨rfl, I.turned (t' := s.toks) (fun b o hb q => eb b o hb q) f0 f1 f3 f4 f5⟩
  self := fun A i s Q E st h => by
    obtain ⟨⟨_, he⟩, _⟩ := st
    exact wpAny_pyIter_enum he h
def iEnumT (K : PySem.W.Frag) (ta : TA) : TI := fun σ H R => ta σ H fun vs H1 => ∃ a xs, vs = [.ref a] ∧ SqT K H1 a xs ∧ R (IteT K a) H1
theorem pi_enumT {X : Cx} {e : Expr} {ta : TA} {p pos tpos : Pos} {elts : List Expr} {kk : Nat} (hg : Gl X "enumerate") (hm : X.mg "enumerate" = none) (ha : PA X [e] ta) (hs : starEach [e] X.env = [(false, eval e X.env)] := by rfl) :
    PI X (.Tuple elts kk tpos) (.Call (.Name "enumerate" p) [e] [] pos) (iEnumT X.K ta) := by
  refine ⟨fun pins s σ H R I h => ?_⟩
  refine Call_ (ld_blt I hg hm boot_enumerate (PyProof.Rows.callWith_type1 (thn (ha.run pos pins s σ H _ I h) fun us s1 ⟨vs, H1, I1, r1, a, xs, ex, hq, q⟩ => ?_) hs rfl))
  subst ex
  cases r1 with
  | cons r rr =>
    cases rr
    cases r
    obtain ⟨its, rv, p', hz⟩ := I1.tuple hq
    refine enumT_call (show s1.heap.IsTuple a its.toArray from p') fun h' he hit hk => wpAny_pyIter_enum he ?_
    have I2 : Inv X pins σ H1 { s1 with heap := h' } := I1.kept (t' := s1.toks) hk
    refine ⟨s1.heap.objs.size + 1, [s1.heap.objs.size + 1, s1.heap.objs.size], _, _, H1, rfl, I2, enumT_turn a (s1.heap.objs.size + 1) s1.heap.objs.size, ⟨⟨.none, he⟩, hit, Nat.succ_ne_self _⟩, fun b hb => ?_, q⟩
    have hle : s1.heap.objs.size ≤ b := by
      rcases List.mem_cons.mp hb with rfl | hb
      · exact Nat.le_succ _
      · rcases List.mem_cons.mp hb with rfl | hb
        · exact Nat.le_refl _
        · cases hb
    exact I1.fpOk hle (I1.hok.fresh hle)
end Sc
namespace Sc
open PySem PySem.Spec PyProof.Rows L2
/-- the built-ins are not hidden -/
structure Blt (mg : Str → Option Value) : Prop where
  b_isinstance : mg "isinstance" = none
  b_len : mg "len" = none
  b_all : mg "all" = none
  b_any : mg "any" = none
  b_sum : mg "sum" = none
  b_max : mg "max" = none
  b_min : mg "min" = none
  b_int : mg "int" = none
  b_str : mg "str" = none
  b_bool : mg "bool" = none
  b_list : mg "list" = none
  b_tuple : mg "tuple" = none
  b_dict : mg "dict" = none
  b_range : mg "range" = none
  b_enumerate : mg "enumerate" = none
  b_sorted : mg "sorted" = none
  b_reversed : mg "reversed" = none
  b_zip : mg "zip" = none
  b_set : mg "set" = none
  b_ValueError : mg "ValueError" = none
/-- a def as its callers see it -/
structure Cal (P : Program) (w : World) (K : PySem.W.Frag) (mg : Str → Option Value) (base : Heap) (CX : CXT) (k : Nat) (x : Str) (ps : List Str) (sp : Sp) : Prop where
  ex : ∃ (f : Addr) (fd : FuncData), FnOk P w K mg base CX k f fd ps sp ∧ mg x = some (.ref f) ∧ PySem.W.keepIn K (.ref f) = true ∧ Binds K fd ps []
section
variable {X : Cx} {k : Nat} {x : Str} {ps : List Str} {sp : Sp} {e : Expr} {es : List Expr} {t : TA} {p pos : Pos}
theorem pe_cal (C : Cal X.prog X.w X.K X.mg X.base CX0 k x ps sp) (hr : Room k X.A) (ha : PA X (e :: es) t) (hg : Gl X x := by rfl) (hdb : (x == ("__debug__" : Str)) = false := by decide)
    (he : starEach (e :: es) X.env = (false, eval e X.env) :: starEach es X.env := by rfl) (hpl : (backTo pos (starEach es X.env)).any (·.1) = false := by rfl) : PE X (.Call (.Name x p) (e :: es) [] pos) (tCall sp [] E0 t) := by
  obtain ⟨f, fd, F, hm, hk, hb⟩ := C.ex
  exact pe_call F hr hg hm hk hb .nil pass0 ha hdb he hpl
/-- a def that may raise, where it does not -/
theorem pe_calN (C : Cal X.prog X.w X.K X.mg X.base (L2.CX X.prog X.w) k x ps sp) (hr : Room k X.A) (ha : PA X (e :: es) t) (hg : Gl X x := by rfl) (hdb : (x == ("__debug__" : Str)) = false := by decide)
    (he : starEach (e :: es) X.env = (false, eval e X.env) :: starEach es X.env := by rfl) (hpl : (backTo pos (starEach es X.env)).any (·.1) = false := by rfl) : PE X (.Call (.Name x p) (e :: es) [] pos) (tCall sp [] E0 t) := by
  obtain ⟨f, fd, F, hm, hk, hb⟩ := C.ex
  exact pe_call F hr hg hm hk hb .nil passL ha hdb he hpl
/-- a def that may raise -/
theorem pe_calX {W : WX} (C : Cal X.prog X.w X.K X.mg X.base (L2.CX X.prog X.w) k x ps sp) (hr : Room k X.A) (tk : Takes X W) (ha : PA X (e :: es) t) (hg : Gl X x := by rfl) (hdb : (x == ("__debug__" : Str)) = false := by decide)
    (he : starEach (e :: es) X.env = (false, eval e X.env) :: starEach es X.env := by rfl) (hpl : (backTo pos (starEach es X.env)).any (·.1) = false := by rfl) : PE X (.Call (.Name x p) (e :: es) [] pos) (tCallS sp (WE W) t) := by
  obtain ⟨f, fd, F, hm, hk, hb⟩ := C.ex
  exact pe_callS F hr hg hm hk hb (fun σ => passAt tk σ) ha hdb he hpl
end
/-! ### a reading that does not lean on the state within which it is asked -/
theorem pe_.re {X : Cx} {e : Expr} {t t' : TE} (h : PE X e t) (q : t = t') : PE X e t' := q ▸ h
theorem pts_.re {X : Cx} {es : List Expr} {t t' : TT} (h : PTs X es t) (q : t = t') : PTs X es t' := q ▸ h
theorem pss_.re {X : Cx} {sts : List Stmt} {t t' : TS} (h : PSs X sts t) (q : t = t') : PSs X sts t' := q ▸ h
/-- a value's truth -/
def tTru (K : PySem.W.Frag) (ta : TE) : TT := fun σ H Q => ta σ H fun x H' => ∃ k, TruV K x H' k ∧ Q k H'
theorem pt_tru {X : Cx} {a : Expr} {ta : TE} (ha : PE X a ta) (he : ∀ whole, isTrue a X.env whole = (do let v ← whole; standAt a.pos; holding [v] (truthy v))) : PT X a (tTru X.K ta) := pt_truth ha he
/-! ### lists -/
theorem take_more {α : Type} {l : List α} {i : Nat} {x : α} (h : l[i]? = some x) : l.take (i + 1) = l.take i ++ [x] := by
  rw [List.take_add_one, h]
  rfl
/-! ### heaps -/
theorem _root_.L2.Same.put {H H' : Hp} {p : Addr} {o : HO} (s : Same H H') (n : H p = none) : Same H (upd H' p o) := fun b x e => by
  rw [upd_ne (ne_of_none e n)]
  exact s b x e
theorem _root_.L2.Same.put' {H H' : Hp} {p : Addr} {o : HO} (s : Same H H') (n : H' p = none) : Same H (upd H' p o) := s.put (s.free n)
theorem _root_.L2.Same.tup {K : PySem.W.Frag} {H H' : Hp} {a : Addr} {xs : List V} (e : Same H H') (h : SqT K H a xs) : SqT K H' a xs := by
  rcases h with (h | ⟨o, h⟩) | h
  · exact .inl (.inl (e _ _ h))
  · exact .inl (.inr ⟨o, e _ _ h⟩)
  · exact .inr h
theorem sqT_new {K : PySem.W.Frag} {H : Hp} {p : Addr} {xs : List V} : SqT K (upd H p (.tup xs)) p xs := .inl (.inl upd_same)
theorem sqL_new {K : PySem.W.Frag} {H : Hp} {p : Addr} {xs : List V} : SqL K (upd H p (.lst xs)) p xs := .inl (.inl upd_same)
theorem sqT_of {K : PySem.W.Frag} {H : Hp} {p : Addr} {xs : List V} (h : H p = some (.tup xs)) : SqT K H p xs := .inl (.inl h)
theorem sqL_of {K : PySem.W.Frag} {H : Hp} {p : Addr} {xs : List V} (h : H p = some (.lst xs)) : SqL K H p xs := .inl (.inl h)
/-- a comprehension's list grows -/
theorem grow {H1 H4 : Hp} {D : Addr} {acc : Nat → List V} {i : Nat} {y : V} (nD : H1 D = none) (s : Same H1 H4) (e : H4 D = some (.lst (acc i))) (l : (acc i).length < sizeLine) (n : acc (i + 1) = acc i ++ [y]) :
    ∃ a, H4 D = some (.lst a) ∧ a.length < sizeLine ∧ (Same H1 (upd H4 D (.lst (a ++ [y]))) ∧ (upd H4 D (.lst (a ++ [y]))) D = some (.lst (acc (i + 1)))) :=
  ⟨acc i, e, l, s.put nD, by rw [upd_same, n]⟩
theorem bcase {b : Bool} {A B : Prop} (h1 : b = true → A) (h2 : b = false → B) : if b = true then A else B := by
  cases b with
  | true => exact iteT (h1 rfl)
  | false => exact iteF (h2 rfl)
/-- isinstance(x, T), T a built-in class -/
def rIsT (K : PySem.W.Frag) (T : String) : List V → Hp → VK → Prop := fun xs H Q => ∃ (x : V) (t : String) (b : Bool), xs = [x, .ty T] ∧ TyOf K H x (.type t) ∧ kitB t T = some b ∧ Q (.bl b) H
theorem call_isT {X : Cx} (T : String) : CallR X (.builtin "isinstance") (rIsT X.K T) := by
  intro pins s σ H xs us Q I r h
  obtain ⟨x, t, b, ex, ht, hb, q⟩ := h
  exact call_isi pins s σ H xs us Q I r ⟨_, _, _, _, _, ex, .ty _, .base ht, kit_ty hb, q⟩
/-- a comprehension without a test -/
theorem yes_ {σ : L2.St} {H : Hp} {A : Hp → Prop} {B : Hp → Prop} (h : A H) : tYes σ H fun b H3 => if b = true then A H3 else B H3 := by
  show (if true = true then A H else B H)
  rw [if_pos rfl]
  exact h
/-- as many slots as names -/
theorem takes_len {X : Cx} {W : WX} (tk : Takes X W) : Takes X (fun cls d σ H => σ.length = X.N.length → W cls d σ H) := fun u s' ⟨a, B, sI, pins, σ, H, cls, d, e, I, nb, up, sky, na, os, ag, w⟩ =>
  tk u s' ⟨a, B, sI, pins, σ, H, cls, d, e, I, nb, up, sky, na, os, ag, w I.len⟩
/-! ### walks -/
theorem walk_enumT {K : PySem.W.Frag} {a : Addr} {xs : List V} : Walk (IteT K a) xs.length (fun H => SqT K H a xs) (YPair (fun i => some (.int (i : Nat))) (fun i => xs[i]?)) := by
  refine ⟨fun i _ hi q => ⟨xs, xs[i], q, by simp [hi]⟩, fun _ q => ⟨xs, q, Nat.le_refl _⟩, fun i H v H' _ q y => ?_⟩
  obtain ⟨T, x, h1, h2, h3, h4⟩ := y
  exact ⟨T, .int (i : Nat), x, h1, h2, h3, rfl, h4 xs q⟩
/-! ### list.count of truth values -/
section
variable {X : Cx}
theorem countP_eqU {x : V} : ∀ {xs : List V} {us : List Value}, Vals xs us → xs.all flatV = true → us.countP (eqU x) = xs.countP fun y => eqV y x
  | _, _, .nil, _ => rfl
  | y :: xs, u :: us, .cons r t, f => by
    rw [List.all_cons, Bool.and_eq_true] at f
    rw [List.countP_cons, List.countP_cons, eqU_of r f.1, countP_eqU t f.2]
def rCount (K : PySem.W.Frag) : V → List V → Hp → VK → Prop := fun x xs H Q => ∃ (p : Addr) (ys : List V) (y : V), x = .ref p ∧ xs = [y] ∧ SqL K H p ys ∧ flatV y = true ∧ ys.all flatV = true ∧ Q (.int (ys.countP (fun z => eqV z y) : Nat)) H
theorem mt_lcountB : MtR X "list.count" (rCount X.K) := by
  intro pins s σ H x xs v us Q I rx rxs h
  obtain ⟨p, ys, y, rfl, rfl, hs, fy, fys, q⟩ := h
  cases rx
  cases rxs with
  | cons ry rt =>
    rename_i uy ut
    cases rt
    obtain ⟨its, rv, ⟨⟨cls, dd, data, sl⟩, n, ho, hc, hdn, hd⟩, hlen⟩ := I.list hs
    simp only at hc hd
    subst hc hd
    refine call_meets PySem.F.slot_list_count ⟨_, ho, rfl⟩ PySem.F.entry_list_count (PySem.F.args_list_count_2 _ _)
      (SeqAt.list_countAt p its.toArray n dd sl uy (eqU y)) ⟨ho, fun u' hu' => mem_eqAt ry fy rv fys u' (by simpa using hu'), ?_⟩
    have ec : its.toArray.toList.countP (eqU y) = ys.countP fun z => eqV z y := countP_eqU rv fys
    refine ⟨.int (ys.countP (fun z => eqV z y) : Nat), H, I.tok _, ⟨s.toks, ?_⟩, q⟩
    show Value.int ((its.toArray.toList.countP (eqU y) : Nat) : Int) s.toks = Value.int ((ys.countP (fun z => eqV z y) : Nat) : Int) s.toks
    rw [ec]
end
/-! ### the caught error, whatever it bears -/
/-- an own class of errors, as isinstance and the reading of a field ask for it -/
structure ErrC (K : PySem.W.Frag) (D : Addr) : Prop where
  cl : (PySem.W.clsIn K D).isSome = true
  ga : PySem.W.findIn K (.ref D) "__getattribute__" = some (some (.builtin "BaseException.__getattribute__"))
  gt : PySem.W.findIn K (.ref D) "__getattr__" = some none
  be : PySem.W.subIn K (.ref D) (.type "BaseException") = some true
  kc : PySem.W.findIn K (.ref D) "__class__" = some (some (.builtin "object.__class__"))
  sg : PySem.W.specialIn K (.builtin "object.__class__") "__get__" = some (some (.builtin "getset_descriptor.__get__"))
  tk : PySem.W.takesIn K (.builtin "object.__class__") = some true
  ob : PySem.W.mroIn K D (.type "object") = some true
  hd : PySem.W.hasDictIn K D = true
def errB (K : PySem.W.Frag) (D : Addr) : Bool :=
  (PySem.W.clsIn K D).isSome && (decide (PySem.W.findIn K (.ref D) "__getattribute__" = some (some (.builtin "BaseException.__getattribute__"))) && (decide (PySem.W.findIn K (.ref D) "__getattr__" = some none) &&
  (decide (PySem.W.subIn K (.ref D) (.type "BaseException") = some true) && (decide (PySem.W.findIn K (.ref D) "__class__" = some (some (.builtin "object.__class__"))) &&
  (decide (PySem.W.specialIn K (.builtin "object.__class__") "__get__" = some (some (.builtin "getset_descriptor.__get__"))) && (decide (PySem.W.takesIn K (.builtin "object.__class__") = some true) &&
  (decide (PySem.W.mroIn K D (.type "object") = some true) && PySem.W.hasDictIn K D)))))))
theorem errC_of {K : PySem.W.Frag} {D : Addr} (h : errB K D = true) : ErrC K D := by
  unfold errB at h
  simp only [Bool.and_eq_true, decide_eq_true_eq] at h
  obtain ⟨h1, h2, h3, h4, h5, h6, h7, h8, h9⟩ := h
  exact ⟨h1, h2, h3, h4, h5, h6, h7, h8, h9⟩
section
variable {X : Cx} {a : Addr} {cls : Value} {oe : Obj} {pn : List (Addr × Obj)} {d : Option Addr}
theorem err_inst {D : Addr} {h : Heap} (hz : Zc (.ref D) d oe) (hf : ∃ vs, oe.data = .fields vs) (hget : h.get? a = some oe) (hd : ∀ dd, d = some dd → ∃ od, h.get? dd = some od) : ∃ od, PySem.W.InstAt h a oe D od := by
  obtain ⟨oc, odd, oda, osl⟩ := oe
  obtain ⟨h1, h2⟩ := hz
  obtain ⟨vs, hv⟩ := hf
  dsimp only at h1 h2 hv
  subst h1 h2 hv
  cases odd with
  | none => exact ⟨none, hget, rfl, rfl, trivial⟩
  | some dd =>
    obtain ⟨od, ho⟩ := hd dd rfl
    exact ⟨some od, hget, rfl, rfl, ho⟩
/-- its dict stands, where it has one -/
def XdOk (d : Option Addr) (H : Hp) : Prop := ∀ dd, d = some dd → ∃ fs, H dd = some (.xd fs)
def rIsG (K : PySem.W.Frag) (a : Addr) (cls : Value) (d : Option Addr) : List V → Hp → VK → Prop := fun xs H Q =>
  ∃ (D : Addr) (c : V) (cv : Value) (b : Bool), cls = .ref D ∧ ErrC K D ∧ XdOk d H ∧ xs = [.ref a, c] ∧ (∀ u, RelV c u → u = cv) ∧ PySem.W.kitOne K (.ref D) cv = some b ∧ Q (.bl b) H
theorem call_isG (hz : Zc cls d oe) (hf : ∃ vs, oe.data = .fields vs) : CallR (X.suite a ((a, oe) :: pn)) (.builtin "isinstance") (rIsG X.K a cls d) := by
  intro pins s σ H xs us Q I r h
  obtain ⟨D, c, cv, b, ec, C, hx, rfl, hcv, e, q⟩ := h
  subst ec
  obtain ⟨u1, u2, rfl, r1, r2⟩ := vals2 r
  obtain rfl : u1 = Value.ref a := r1
  have e2 := hcv _ r2
  subst e2
  obtain ⟨hget, _⟩ := I.pin (a, oe) (List.mem_append_left _ List.mem_cons_self)
  obtain ⟨od, J⟩ := err_inst (h := s.heap) hz hf hget fun dd ed => by
    obtain ⟨fs, e⟩ := hx dd ed
    obtain ⟨mA, ⟨o, _, _, ho, _⟩, _⟩ := (show ObjOk X.prog X.w H s.heap dd (.xd fs) from I.hok dd _ e)
    exact ⟨o, ho⟩
  exact PySem.W.kia_one (PySem.W.kitx_exc C.cl C.ga C.gt C.be C.kc C.sg C.tk C.ob) I.kIn J e (fun z => nomatch z) fun tk => ⟨.bl b, H, I.kept (t' := tk) fun _ _ z => z, rfl, q⟩
/-- e.n, e the error that the suite holds -/
def tXg (K : PySem.W.Frag) (a : Addr) (cls : Value) (d : Option Addr) (n : Str) (te : TE) : TE := fun σ H Q => te σ H fun x H1 => x = .ref a ∧ ∃ (D dd : Addr) (fs : List (Str × V)) (v : V), cls = .ref D ∧ ErrC K D ∧ PySem.W.findIn K (.ref D) n = some none ∧ d = some dd ∧ H1 dd = some (.xd fs) ∧ fs.lookup n = some v ∧ Q v H1
theorem pe_xg {e : Expr} {te : TE} {pos : Pos} {n : Str} (hz : Zc cls d oe) (hf : ∃ vs, oe.data = .fields vs) (he : PE (X.suite a ((a, oe) :: pn)) e te) (hb : attributeBase e n X.env (eval e X.env) = eval e X.env := by rfl) :
    PE (X.suite a ((a, oe) :: pn)) (.Attribute e n pos) (tXg X.K a cls d n te) := by
  refine ⟨fun pins s σ H Q I h => attr_of hb (thn (he.run pins s σ H _ I h) fun u s1 hh => ?_)⟩
  obtain ⟨x, H1, I1, rx, ex, D, dd, fs, v, ec, C, hno, ed, ea, l, q⟩ := hh
  subst ex ec ed
  obtain rfl : u = Value.ref a := rx
  obtain ⟨ha, _⟩ := I1.pin (a, oe) (List.mem_append_left _ List.mem_cons_self)
  obtain ⟨vs, hd⟩ := hf
  obtain ⟨mA, hns, hr⟩ := (show ObjOk X.prog X.w H1 s1.heap dd (.xd fs) from I1.hok dd _ ea)
  obtain ⟨od, ho, hl⟩ := lookIn_ns hns
  obtain ⟨u, hu, ru⟩ := RelO.some_of (v := v) (o := mA n) (by rw [← l]; exact hr n)
  have J : PySem.W.InstAt s1.heap a oe D (some od) := ⟨ha, hz.1, by unfold PySem.W.notCls; rw [hd] <;> rfl, by rw [hz.2]; exact ho⟩
  exact HandSPX.exc_get I1.kIn J C.ga C.gt C.be (PySem.W.findObj_own C.hd hno rfl (by rw [hl, hu])) (handed_of ru) ⟨v, H1, I1.tok _, ru, q⟩
end
end Sc
namespace Sc
open PySem PySem.Spec PyProof.Rows L2 NdefX
/-! ### own errors with fields, made and raised -/
/-- what an f-string takes -/
def FOk : V → Prop
  | .int i => i.natAbs.log2 < 1920
  | .str z => z.length ≤ 1000000
  | _ => False
theorem fmt_at {y : V} {R : Str → Prop} (ok : FOk y) (q : ∀ z : Str, z.length ≤ 1000000 → R z) : (∃ z : Str, y = .str z ∧ z.length ≤ sizeLine ∧ R z) ∨ ∃ i : Int, y = .int i ∧ i.natAbs.log2 < 1920 ∧ R (toString i) := by
  cases y with
  | str z => exact .inl ⟨z, rfl, Nat.le_trans ok (by rw [sizeLine_eq]; decide), q z ok⟩
  | int i =>
    refine .inr ⟨i, rfl, ok, q _ ?_⟩
    have e : (PySem.Str.ofString (toString i)).length ≤ 1921 := int_text_len_1921 ok
    exact Nat.le_trans e (by decide)
  | _ => exact ok.elim
theorem fok_nat {i : Nat} (hi : i ≤ 1000) : FOk (.int (i : Nat)) := by
  show (i : Int).natAbs.log2 < 1920
  have e1 : (i : Int).natAbs = i := rfl
  rw [e1]
  by_cases h0 : i = 0
  · subst h0
    decide
  · have := (Nat.log2_lt h0 (k := 10)).mpr (Nat.lt_of_le_of_lt hi (by decide))
    omega
theorem app_len {a b : Str} : (a ++ b).length = a.length + b.length := by
  show (a.cps ++ b.cps).size = a.cps.size + b.cps.size
  exact Array.size_append
/-- a rule of arguments, its reading made monotone -/
theorem pa_mono {X : Cx} {es : List Expr} {ta : TA} (h : PA X es ta) : PA X es (fun σ H Q => ∃ R, ta σ H R ∧ ∀ vs H1, R vs H1 → Q vs H1) := by
  refine ⟨fun pos pins s σ H Q I ⟨R, q, k⟩ => wpAny_mono (h.run pos pins s σ H R I q) (fun us s1 ⟨vs, H1, J, r, z⟩ => ⟨vs, H1, J, r, k vs H1 z⟩) fun _ _ z => z⟩
/-- the promise of an __init__ that keeps its fields fs, in their order -/
def sp_init1 (C : Addr) (f : Str) : Sp := fun vs H Q _ => ∃ (a : Addr) (y : V), vs = [.ref a, y] ∧ H a = some (exo a C none) ∧ FOk y ∧ ∀ dx, H dx = none → dx ≠ a → Q .non (upd (upd H dx (exd dx [(f, y)])) a (exo a C (some dx)))
def sp_init2 (C : Addr) (f g : Str) : Sp := fun vs H Q _ => ∃ (a : Addr) (y z : V), vs = [.ref a, y, z] ∧ H a = some (exo a C none) ∧ FOk y ∧ FOk z ∧
  ∀ dx, H dx = none → dx ≠ a → Q .non (upd (upd (upd H dx (exd dx [(f, y)])) a (exo a C (some dx))) dx (exd dx [(g, z), (f, y)]))
/-- the class x at C, its __init__ keeping sp -/
structure ErrMk (P : Program) (w : World) (K : PySem.W.Frag) (mg : Str → Option Value) (base : Heap) (x : Str) (C : Addr) (ps : List Str) (sp : Sp) : Prop where
  ex : ∃ (fI : Addr) (fd : FuncData), OexC K C ∧ PySem.W.findIn K (.ref C) "__init__" = some (some (.ref fI)) ∧ PySem.W.typeIn K (.ref fI) = some (.type "function") ∧ FnOk P w K mg base CX0 1 fI fd ps sp ∧ Binds K fd ps [] ∧ mg x = some (.ref C)
theorem let_go {H : Hp} {a d : Addr} {o o' u : HO} (n : H a = none) (ne : d ≠ a) : upd (del (upd (upd H d u) a o) a) d o' = upd H d o' := by
  funext b
  by_cases hd : b = d
  · rw [hd, upd_same, upd_same]
  · rw [upd_ne hd, upd_ne hd]
    by_cases ha : b = a
    · rw [ha, del_same, n]
    · rw [del_ne ha, upd_ne ha, upd_ne hd]
section
variable {X : Cx} {x f g : Str} {C : Addr} {ps : List Str} {e e2 : Expr} {te te2 : TE} {p pos : Pos}
/-- x(e): an error whose own dict, new, holds the field -/
def tErr1 (C : Addr) (f : Str) (te : TE) : L2.St → Hp → XK → Prop := fun σ H Q => te σ H fun y H1 => FOk y ∧ ∀ d, H1 d = none → Q (.ref C) (some d) (upd H1 d (.xd [(f, y)]))
theorem pmk_err1 (M : ErrMk X.prog X.w X.K X.mg X.base x C ps (sp_init1 C f)) (hr : Room 2 X.A) (he : PE X e te) (hg : Gl X x := by rfl) (hdb : (x == ("__debug__" : Str)) = false := by decide)
    (hs : starEach [e] X.env = (false, eval e X.env) :: starEach [] X.env := by rfl) : PMk X (.Call (.Name x p) [e] [] pos) (tErr1 C f te) := by
  obtain ⟨fI, fd, T, iC, tI, F, hb, hm⟩ := M.ex
  intro pins s σ H Q I h
  refine pmk_oex (CX := CX0) T iC tI F hr hb .nil (fun _ _ _ _ _ _ _ z => z.elim) hg hm (pa_mono (pa_cons he pa_nil hs)) hdb hs rfl pins s σ H Q I ?_
  refine ⟨fun vs H1 => match vs with
    | [y] => FOk y ∧ ∀ d, H1 d = none → Q (.ref C) (some d) (upd H1 d (.xd [(f, y)]))
    | _ => False, h, fun vs H1 r => ?_⟩
  match vs, r with
  | [y], ⟨ok, q⟩ =>
    refine ⟨by simp, fun a na => ⟨a, y, rfl, upd_same, ok, fun dx nd ne => ⟨rfl, dx, _, upd_same, by rw [upd_ne ne, upd_same], ?_, ?_⟩⟩⟩
    · rw [upd_ne ne] at nd
      exact nd
    · rw [upd_ne ne] at nd
      have e1 : upd (upd (upd H1 a (exo a C none)) dx (exd dx [(f, y)])) a (exo a C (some dx)) = upd (upd H1 dx (exd dx [(f, y)])) a (exo a C (some dx)) := by
        funext b
        by_cases ha : b = a
        · rw [ha, upd_same, upd_same]
        · rw [upd_ne ha, upd_ne ha]
          by_cases hb : b = dx
          · rw [hb, upd_same, upd_same]
          · rw [upd_ne hb, upd_ne hb, upd_ne ha]
      rw [e1, let_go na ne]
      exact q dx nd
/-- x(e, e2): two fields -/
def tErr2 (C : Addr) (f g : Str) (te te2 : TE) : L2.St → Hp → XK → Prop := fun σ H Q => te σ H fun y H0 => te2 σ H0 fun z H1 => (FOk y ∧ FOk z) ∧ ∀ d, H1 d = none → Q (.ref C) (some d) (upd H1 d (.xd [(g, z), (f, y)]))
theorem pmk_err2 (M : ErrMk X.prog X.w X.K X.mg X.base x C ps (sp_init2 C f g)) (hr : Room 2 X.A) (he : PE X e te) (he2 : PE X e2 te2) (hg : Gl X x := by rfl) (hdb : (x == ("__debug__" : Str)) = false := by decide)
    (hs : starEach [e, e2] X.env = (false, eval e X.env) :: starEach [e2] X.env := by rfl) (hs2 : starEach [e2] X.env = (false, eval e2 X.env) :: starEach [] X.env := by rfl) (hpl : (backTo pos (starEach [e2] X.env)).any (·.1) = false := by rfl) :
    PMk X (.Call (.Name x p) [e, e2] [] pos) (tErr2 C f g te te2) := by
  obtain ⟨fI, fd, T, iC, tI, F, hb, hm⟩ := M.ex
  intro pins s σ H Q I h
  refine pmk_oex (CX := CX0) T iC tI F hr hb .nil (fun _ _ _ _ _ _ _ z => z.elim) hg hm (pa_mono (pa_cons he (pa_cons he2 pa_nil hs2) hs)) hdb hs hpl pins s σ H Q I ?_
  refine ⟨fun vs H1 => match vs with
    | [y, z] => (FOk y ∧ FOk z) ∧ ∀ d, H1 d = none → Q (.ref C) (some d) (upd H1 d (.xd [(g, z), (f, y)]))
    | _ => False, h, fun vs H1 r => ?_⟩
  match vs, r with
  | [y, z], ⟨⟨ok, ok2⟩, q⟩ =>
    refine ⟨by simp, fun a na => ⟨a, y, z, rfl, upd_same, ok, ok2, fun dx nd ne => ⟨rfl, dx, _, by rw [upd_ne ne.symm, upd_same], upd_same, ?_, ?_⟩⟩⟩
    · rw [upd_ne ne] at nd
      exact nd
    · rw [upd_ne ne] at nd
      have e1 : upd (del (upd (upd (upd (upd H1 a (exo a C none)) dx (exd dx [(f, y)])) a (exo a C (some dx))) dx (exd dx [(g, z), (f, y)])) a) dx (.xd [(g, z), (f, y)]) = upd H1 dx (.xd [(g, z), (f, y)]) := by
        funext b
        by_cases hb : b = dx
        · rw [hb, upd_same, upd_same]
        · rw [upd_ne hb, upd_ne hb]
          by_cases ha : b = a
          · rw [ha, del_same, na]
          · rw [del_ne ha, upd_ne hb, upd_ne ha, upd_ne hb, upd_ne ha]
      rw [e1]
      exact q dx nd
/-- the class x at C, without an __init__ of its own -/
structure ErrMk0 (K : PySem.W.Frag) (mg : Str → Option Value) (x : Str) (C : Addr) : Prop where
  q : PySem.W.excIn K C [.type "ValueError", .type "Exception", .type "BaseException", .type "object"] "ValueError.__new__" = true
  g : mg x = some (.ref C)
  k : PySem.W.keepIn K (.ref C) = true
  b : PySem.W.subIn K (.ref C) (.type "BaseException") = some true
  t : PySem.W.typeIn K (.ref C) = some (.type "type")
theorem pmk_err0 {m : Str} {j : Nat} {p2 : Pos} (M : ErrMk0 X.K X.mg x C) (hg : Gl X x := by rfl) (hdb : (x == ("__debug__" : Str)) = false := by decide) :
    PMk X (.Call (.Name x p) [.Constant (.str m) j p2] [] pos) (fun _ H Q => Q (.ref C) none H) := pmk_own PySem.F.excBase_ValueError M.q M.g M.k (raises_own M.b M.t) hg hdb
end
end Sc
namespace Sc
open PySem PySem.Spec PyProof.Rows L2 NdefX
def topS (i : Nat) : Stmt := PySem.Challenge.pw_smallcourt_k02_conditions_validated.main.body.getD i (.Pass ⟨0, 0, 0, 0⟩)
section
variable {P : Program} {w : World} {K : PySem.W.Frag} {mg : Str → Option Value} {base : Heap}
theorem sc_init_InvalidFacts : NScope ["self", "index", "__class__"] ["self", "index"] ["__class__"] (defScope (inClass (topS 3) 0)) := nscope_by (by decide +kernel)
abbrev nf_InvalidFacts (cc c : Addr) : NF := ⟨"__init__", "InvalidFacts.__init__", defArgs (inClass (topS 3) 0), defBody (inClass (topS 3) 0), defScope (inClass (topS 3) 0), [(("__class__" : Str), cc)], c⟩
theorem ok_init_InvalidFacts {fI C cc c : Addr} {oc kV doc pm ct : Value} {od an : Option Addr} {osl : Array (Option Value)} (lk : K.lookup fI = some ⟨oc, od, .func (supFd (nf_InvalidFacts cc c) kV doc pm an ct), osl⟩)
    (hcd : PySem.W.codeIn K (.ref c) "InvalidFacts.__init__" = true) (T : OexC K C) (S : SupC P K mg C cc c) (n0 : PySem.W.findIn K (.ref C) "index" = some none) : FnOk P w K mg base CX0 1 fI (supFd (nf_InvalidFacts cc c) kV doc pm an ct) ["self", "index"] (sp_init1 C "index") := by
  refine fn_sup (N := ["self", "index", "__class__"]) (ps := ["self", "index"]) lk hcd rfl sc_init_InvalidFacts T S (fun vs H Q E h => ?_) rfl rfl rfl rfl rfl (fun A outer s H vs Q E hr h => ?_) (fun L => ⟨_, rfl⟩) (fun L => rfl) (fun L => rfl) (fun L => rfl) (fun L => rfl)
  · obtain ⟨a, y0, rfl, ha, ok0, q⟩ := h
    rfl
  · obtain ⟨a, y0, rfl, ha, ok0, q⟩ := h
    refine ⟨_, _, pa_cons (pe_joined (PJ.cons pe_str (PJ.cons (pe_fmt (pv 1)) PJ.nil))) pa_nil, pss_one (ps_ost (pv 0) (pv 1)), a, rfl, ha, ?_⟩
    refine ⟨_, rfl, (by rw [sizeLine_eq]; simp only [app_len]; have e0 : Str.empty.length = 0 := rfl; have e1 : (("wrong fact at index " : Str)).length = 20 := (by decide +kernel); omega), ⟨y0, rfl, fmt_at ok0 fun z0 hz0 => ⟨_, rfl, (by rw [sizeLine_eq]; simp only [app_len]; have e0 : Str.empty.length = 0 := rfl; have e1 : (("wrong fact at index " : Str)).length = 20 := (by decide +kernel); omega), ⟨by simp, ha, y0, rfl, .ref a, rfl, a, C, rfl, T, n0, .inl ⟨ha, fun dx nd ne => q dx nd ne⟩⟩⟩⟩⟩

theorem sc_init_InvalidCase : NScope ["self", "index", "__class__"] ["self", "index"] ["__class__"] (defScope (inClass (topS 4) 0)) := nscope_by (by decide +kernel)
abbrev nf_InvalidCase (cc c : Addr) : NF := ⟨"__init__", "InvalidCase.__init__", defArgs (inClass (topS 4) 0), defBody (inClass (topS 4) 0), defScope (inClass (topS 4) 0), [(("__class__" : Str), cc)], c⟩
theorem ok_init_InvalidCase {fI C cc c : Addr} {oc kV doc pm ct : Value} {od an : Option Addr} {osl : Array (Option Value)} (lk : K.lookup fI = some ⟨oc, od, .func (supFd (nf_InvalidCase cc c) kV doc pm an ct), osl⟩)
    (hcd : PySem.W.codeIn K (.ref c) "InvalidCase.__init__" = true) (T : OexC K C) (S : SupC P K mg C cc c) (n0 : PySem.W.findIn K (.ref C) "index" = some none) : FnOk P w K mg base CX0 1 fI (supFd (nf_InvalidCase cc c) kV doc pm an ct) ["self", "index"] (sp_init1 C "index") := by
  refine fn_sup (N := ["self", "index", "__class__"]) (ps := ["self", "index"]) lk hcd rfl sc_init_InvalidCase T S (fun vs H Q E h => ?_) rfl rfl rfl rfl rfl (fun A outer s H vs Q E hr h => ?_) (fun L => ⟨_, rfl⟩) (fun L => rfl) (fun L => rfl) (fun L => rfl) (fun L => rfl)
  · obtain ⟨a, y0, rfl, ha, ok0, q⟩ := h
    rfl
  · obtain ⟨a, y0, rfl, ha, ok0, q⟩ := h
    refine ⟨_, _, pa_cons (pe_joined (PJ.cons pe_str (PJ.cons (pe_fmt (pv 1)) PJ.nil))) pa_nil, pss_one (ps_ost (pv 0) (pv 1)), a, rfl, ha, ?_⟩
    refine ⟨_, rfl, (by rw [sizeLine_eq]; simp only [app_len]; have e0 : Str.empty.length = 0 := rfl; have e1 : (("wrong name in the case at index " : Str)).length = 32 := (by decide +kernel); omega), ⟨y0, rfl, fmt_at ok0 fun z0 hz0 => ⟨_, rfl, (by rw [sizeLine_eq]; simp only [app_len]; have e0 : Str.empty.length = 0 := rfl; have e1 : (("wrong name in the case at index " : Str)).length = 32 := (by decide +kernel); omega), ⟨by simp, ha, y0, rfl, .ref a, rfl, a, C, rfl, T, n0, .inl ⟨ha, fun dx nd ne => q dx nd ne⟩⟩⟩⟩⟩

theorem sc_init_InvalidCondition : NScope ["self", "part", "index", "__class__"] ["self", "part", "index"] ["__class__"] (defScope (inClass (topS 6) 0)) := nscope_by (by decide +kernel)
abbrev nf_InvalidCondition (cc c : Addr) : NF := ⟨"__init__", "InvalidCondition.__init__", defArgs (inClass (topS 6) 0), defBody (inClass (topS 6) 0), defScope (inClass (topS 6) 0), [(("__class__" : Str), cc)], c⟩
theorem ok_init_InvalidCondition {fI C cc c : Addr} {oc kV doc pm ct : Value} {od an : Option Addr} {osl : Array (Option Value)} (lk : K.lookup fI = some ⟨oc, od, .func (supFd (nf_InvalidCondition cc c) kV doc pm an ct), osl⟩)
    (hcd : PySem.W.codeIn K (.ref c) "InvalidCondition.__init__" = true) (T : OexC K C) (S : SupC P K mg C cc c) (n0 : PySem.W.findIn K (.ref C) "part" = some none) (n1 : PySem.W.findIn K (.ref C) "index" = some none) : FnOk P w K mg base CX0 1 fI (supFd (nf_InvalidCondition cc c) kV doc pm an ct) ["self", "part", "index"] (sp_init2 C "part" "index") := by
  refine fn_sup (N := ["self", "part", "index", "__class__"]) (ps := ["self", "part", "index"]) lk hcd rfl sc_init_InvalidCondition T S (fun vs H Q E h => ?_) rfl rfl rfl rfl rfl (fun A outer s H vs Q E hr h => ?_) (fun L => ⟨_, rfl⟩) (fun L => rfl) (fun L => rfl) (fun L => rfl) (fun L => rfl)
  · obtain ⟨a, y0, y1, rfl, ha, ok0, ok1, q⟩ := h
    rfl
  · obtain ⟨a, y0, y1, rfl, ha, ok0, ok1, q⟩ := h
    refine ⟨_, _, pa_cons (pe_joined (PJ.cons pe_str (PJ.cons (pe_fmt (pv 1)) (PJ.cons pe_str (PJ.cons (pe_fmt (pv 2)) PJ.nil))))) pa_nil, pss_cons (ps_ost (pv 0) (pv 1)) (pss_one (ps_ost (pv 0) (pv 2))), a, rfl, ha, ?_⟩
    refine ⟨_, rfl, (by rw [sizeLine_eq]; simp only [app_len]; have e0 : Str.empty.length = 0 := rfl; have e1 : (("wrong name in part " : Str)).length = 19 := (by decide +kernel); have e2 : ((" of the condition at index " : Str)).length = 27 := (by decide +kernel); omega), ⟨y0, rfl, fmt_at ok0 fun z0 hz0 => ⟨_, rfl, (by rw [sizeLine_eq]; simp only [app_len]; have e0 : Str.empty.length = 0 := rfl; have e1 : (("wrong name in part " : Str)).length = 19 := (by decide +kernel); have e2 : ((" of the condition at index " : Str)).length = 27 := (by decide +kernel); omega), ⟨_, rfl, (by rw [sizeLine_eq]; simp only [app_len]; have e0 : Str.empty.length = 0 := rfl; have e1 : (("wrong name in part " : Str)).length = 19 := (by decide +kernel); have e2 : ((" of the condition at index " : Str)).length = 27 := (by decide +kernel); omega), ⟨y1, rfl, fmt_at ok1 fun z1 hz1 => ⟨_, rfl, (by rw [sizeLine_eq]; simp only [app_len]; have e0 : Str.empty.length = 0 := rfl; have e1 : (("wrong name in part " : Str)).length = 19 := (by decide +kernel); have e2 : ((" of the condition at index " : Str)).length = 27 := (by decide +kernel); omega), ⟨by simp, ha, y0, rfl, .ref a, rfl, a, C, rfl, T, n0, .inl ⟨ha, fun dx nd ne => ⟨y1, rfl, .ref a, rfl, a, C, rfl, T, n1, .inr ⟨dx, _, upd_same, by rw [upd_ne ne, upd_same], by simp, q dx nd ne⟩⟩⟩⟩⟩⟩⟩⟩⟩⟩

theorem sc_init_InvalidRule : NScope ["self", "part", "__class__"] ["self", "part"] ["__class__"] (defScope (inClass (topS 8) 0)) := nscope_by (by decide +kernel)
abbrev nf_InvalidRule (cc c : Addr) : NF := ⟨"__init__", "InvalidRule.__init__", defArgs (inClass (topS 8) 0), defBody (inClass (topS 8) 0), defScope (inClass (topS 8) 0), [(("__class__" : Str), cc)], c⟩
theorem ok_init_InvalidRule {fI C cc c : Addr} {oc kV doc pm ct : Value} {od an : Option Addr} {osl : Array (Option Value)} (lk : K.lookup fI = some ⟨oc, od, .func (supFd (nf_InvalidRule cc c) kV doc pm an ct), osl⟩)
    (hcd : PySem.W.codeIn K (.ref c) "InvalidRule.__init__" = true) (T : OexC K C) (S : SupC P K mg C cc c) (n0 : PySem.W.findIn K (.ref C) "part" = some none) : FnOk P w K mg base CX0 1 fI (supFd (nf_InvalidRule cc c) kV doc pm an ct) ["self", "part"] (sp_init1 C "part") := by
  refine fn_sup (N := ["self", "part", "__class__"]) (ps := ["self", "part"]) lk hcd rfl sc_init_InvalidRule T S (fun vs H Q E h => ?_) rfl rfl rfl rfl rfl (fun A outer s H vs Q E hr h => ?_) (fun L => ⟨_, rfl⟩) (fun L => rfl) (fun L => rfl) (fun L => rfl) (fun L => rfl)
  · obtain ⟨a, y0, rfl, ha, ok0, q⟩ := h
    rfl
  · obtain ⟨a, y0, rfl, ha, ok0, q⟩ := h
    refine ⟨_, _, pa_cons (pe_joined (PJ.cons pe_str (PJ.cons (pe_fmt (pv 1)) (PJ.cons pe_str PJ.nil)))) pa_nil, pss_one (ps_ost (pv 0) (pv 1)), a, rfl, ha, ?_⟩
    refine ⟨_, rfl, (by rw [sizeLine_eq]; simp only [app_len]; have e0 : Str.empty.length = 0 := rfl; have e1 : (("wrong " : Str)).length = 6 := (by decide +kernel); have e2 : ((" of a rule" : Str)).length = 10 := (by decide +kernel); omega), ⟨y0, rfl, fmt_at ok0 fun z0 hz0 => ⟨_, rfl, (by rw [sizeLine_eq]; simp only [app_len]; have e0 : Str.empty.length = 0 := rfl; have e1 : (("wrong " : Str)).length = 6 := (by decide +kernel); have e2 : ((" of a rule" : Str)).length = 10 := (by decide +kernel); omega), ⟨_, rfl, (by rw [sizeLine_eq]; simp only [app_len]; have e0 : Str.empty.length = 0 := rfl; have e1 : (("wrong " : Str)).length = 6 := (by decide +kernel); have e2 : ((" of a rule" : Str)).length = 10 := (by decide +kernel); omega), ⟨by simp, ha, y0, rfl, .ref a, rfl, a, C, rfl, T, n0, .inl ⟨ha, fun dx nd ne => q dx nd ne⟩⟩⟩⟩⟩⟩

theorem sc_init_InvalidBook : NScope ["self", "word", "index", "__class__"] ["self", "word", "index"] ["__class__"] (defScope (inClass (topS 9) 0)) := nscope_by (by decide +kernel)
abbrev nf_InvalidBook (cc c : Addr) : NF := ⟨"__init__", "InvalidBook.__init__", defArgs (inClass (topS 9) 0), defBody (inClass (topS 9) 0), defScope (inClass (topS 9) 0), [(("__class__" : Str), cc)], c⟩
theorem ok_init_InvalidBook {fI C cc c : Addr} {oc kV doc pm ct : Value} {od an : Option Addr} {osl : Array (Option Value)} (lk : K.lookup fI = some ⟨oc, od, .func (supFd (nf_InvalidBook cc c) kV doc pm an ct), osl⟩)
    (hcd : PySem.W.codeIn K (.ref c) "InvalidBook.__init__" = true) (T : OexC K C) (S : SupC P K mg C cc c) (n0 : PySem.W.findIn K (.ref C) "word" = some none) (n1 : PySem.W.findIn K (.ref C) "index" = some none) : FnOk P w K mg base CX0 1 fI (supFd (nf_InvalidBook cc c) kV doc pm an ct) ["self", "word", "index"] (sp_init2 C "word" "index") := by
  refine fn_sup (N := ["self", "word", "index", "__class__"]) (ps := ["self", "word", "index"]) lk hcd rfl sc_init_InvalidBook T S (fun vs H Q E h => ?_) rfl rfl rfl rfl rfl (fun A outer s H vs Q E hr h => ?_) (fun L => ⟨_, rfl⟩) (fun L => rfl) (fun L => rfl) (fun L => rfl) (fun L => rfl)
  · obtain ⟨a, y0, y1, rfl, ha, ok0, ok1, q⟩ := h
    rfl
  · obtain ⟨a, y0, y1, rfl, ha, ok0, ok1, q⟩ := h
    refine ⟨_, _, pa_cons (pe_joined (PJ.cons pe_str (PJ.cons (pe_fmt (pv 1)) (PJ.cons pe_str (PJ.cons (pe_fmt (pv 2)) PJ.nil))))) pa_nil, pss_cons (ps_ost (pv 0) (pv 1)) (pss_one (ps_ost (pv 0) (pv 2))), a, rfl, ha, ?_⟩
    refine ⟨_, rfl, (by rw [sizeLine_eq]; simp only [app_len]; have e0 : Str.empty.length = 0 := rfl; have e1 : (("wrong book by " : Str)).length = 14 := (by decide +kernel); have e2 : ((" at index " : Str)).length = 10 := (by decide +kernel); omega), ⟨y0, rfl, fmt_at ok0 fun z0 hz0 => ⟨_, rfl, (by rw [sizeLine_eq]; simp only [app_len]; have e0 : Str.empty.length = 0 := rfl; have e1 : (("wrong book by " : Str)).length = 14 := (by decide +kernel); have e2 : ((" at index " : Str)).length = 10 := (by decide +kernel); omega), ⟨_, rfl, (by rw [sizeLine_eq]; simp only [app_len]; have e0 : Str.empty.length = 0 := rfl; have e1 : (("wrong book by " : Str)).length = 14 := (by decide +kernel); have e2 : ((" at index " : Str)).length = 10 := (by decide +kernel); omega), ⟨y1, rfl, fmt_at ok1 fun z1 hz1 => ⟨_, rfl, (by rw [sizeLine_eq]; simp only [app_len]; have e0 : Str.empty.length = 0 := rfl; have e1 : (("wrong book by " : Str)).length = 14 := (by decide +kernel); have e2 : ((" at index " : Str)).length = 10 := (by decide +kernel); omega), ⟨by simp, ha, y0, rfl, .ref a, rfl, a, C, rfl, T, n0, .inl ⟨ha, fun dx nd ne => ⟨y1, rfl, .ref a, rfl, a, C, rfl, T, n1, .inr ⟨dx, _, upd_same, by rw [upd_ne ne, upd_same], by simp, q dx nd ne⟩⟩⟩⟩⟩⟩⟩⟩⟩⟩

theorem sc_init_InvalidChance : NScope ["self", "fact", "__class__"] ["self", "fact"] ["__class__"] (defScope (inClass (topS 15) 0)) := nscope_by (by decide +kernel)
abbrev nf_InvalidChance (cc c : Addr) : NF := ⟨"__init__", "InvalidChance.__init__", defArgs (inClass (topS 15) 0), defBody (inClass (topS 15) 0), defScope (inClass (topS 15) 0), [(("__class__" : Str), cc)], c⟩
theorem ok_init_InvalidChance {fI C cc c : Addr} {oc kV doc pm ct : Value} {od an : Option Addr} {osl : Array (Option Value)} (lk : K.lookup fI = some ⟨oc, od, .func (supFd (nf_InvalidChance cc c) kV doc pm an ct), osl⟩)
    (hcd : PySem.W.codeIn K (.ref c) "InvalidChance.__init__" = true) (T : OexC K C) (S : SupC P K mg C cc c) (n0 : PySem.W.findIn K (.ref C) "fact" = some none) : FnOk P w K mg base CX0 1 fI (supFd (nf_InvalidChance cc c) kV doc pm an ct) ["self", "fact"] (sp_init1 C "fact") := by
  refine fn_sup (N := ["self", "fact", "__class__"]) (ps := ["self", "fact"]) lk hcd rfl sc_init_InvalidChance T S (fun vs H Q E h => ?_) rfl rfl rfl rfl rfl (fun A outer s H vs Q E hr h => ?_) (fun L => ⟨_, rfl⟩) (fun L => rfl) (fun L => rfl) (fun L => rfl) (fun L => rfl)
  · obtain ⟨a, y0, rfl, ha, ok0, q⟩ := h
    rfl
  · obtain ⟨a, y0, rfl, ha, ok0, q⟩ := h
    refine ⟨_, _, pa_cons (pe_joined (PJ.cons pe_str (PJ.cons (pe_fmt (pv 1)) PJ.nil))) pa_nil, pss_one (ps_ost (pv 0) (pv 1)), a, rfl, ha, ?_⟩
    refine ⟨_, rfl, (by rw [sizeLine_eq]; simp only [app_len]; have e0 : Str.empty.length = 0 := rfl; have e1 : (("wrong chance of " : Str)).length = 16 := (by decide +kernel); omega), ⟨y0, rfl, fmt_at ok0 fun z0 hz0 => ⟨_, rfl, (by rw [sizeLine_eq]; simp only [app_len]; have e0 : Str.empty.length = 0 := rfl; have e1 : (("wrong chance of " : Str)).length = 16 := (by decide +kernel); omega), ⟨by simp, ha, y0, rfl, .ref a, rfl, a, C, rfl, T, n0, .inl ⟨ha, fun dx nd ne => q dx nd ne⟩⟩⟩⟩⟩

end
end Sc
namespace Sc
open PySem PySem.Spec PyProof.Rows L2
/-! ### names -/
abbrev s_is_name : Stmt := topS 23
theorem sc_is_name : FnScope ["value", "letter"] ["value"] (defScope s_is_name) := ⟨rfl, rfl, rfl, by decide +kernel, rfl, by decide +kernel, by decide +kernel⟩
abbrev s_rises : Stmt := topS 24
theorem sc_rises : FnScope ["names", "index"] ["names", "index"] (defScope s_rises) := ⟨rfl, rfl, rfl, by decide +kernel, rfl, by decide +kernel, by decide +kernel⟩
def letters : Str := "abcdefghijklmnopqrstuvwxyz"
def isLetters (x : Str) : Bool := x.cps.toList.all fun c => decide (c ∈ letters.cps.toList)
def isName (x : Str) : Bool := decide (1 ≤ x.length) && (decide (x.length ≤ 8) && isLetters x)
def isLetterV (c : Nat) : V := .bl (decide (c ∈ letters.cps.toList))
structure GNames (mg : Str → Option Value) : Prop where
  m_LETTERS : ∃ t, mg "LETTERS" = some (.str letters t)
  m_LONGEST : ∃ t, mg "LONGEST_NAME" = some (.int 8 t)
section
variable {P : Program} {w : World} {K : PySem.W.Frag} {mg : Str → Option Value} {base : Heap}
def sp_is_name : Sp := fun vs H Q _ => ∃ x : Str, vs = [.str x] ∧ x.length ≤ sizeLine ∧ ∀ H', Same H H' → Q (.bl (isName x)) H'
theorem ok_is_name {f : Addr} {fd : FuncData} (F : Fun K "is_name" "is_name" s_is_name f fd) (B : Blt mg) (G : GNames mg) : FnOk P w K mg base CX0 1 f fd ["value"] sp_is_name := by
  obtain ⟨⟨t1, mL⟩, ⟨t2, mN⟩⟩ := G
  refine F.ok sc_is_name (fun vs H Q E h => by obtain ⟨x, rfl, _⟩ := h; rfl) (fun cdv A outer s H vs Q E hr h => ?_)
  obtain ⟨x, rfl, hx, q⟩ := h
  refine ⟨_, (pss_cons (ps_if (PW.pt (pw_or (pt_not (pt_val (pe_callB (call_isT "str") (by rfl) B.b_isinstance PyProof.Rows.boot_isinstance (pa_cons (pv 0) (pa_cons (pe_bltn (v := .ty "str") (by rfl) B.b_str PyProof.Rows.boot_str rfl) pa_nil))))) (pw_or1 (pt_not (pt_chain op_le op_le pe_int (pe_callB call_len_str (by rfl) B.b_len PySem.boot_len (pa_cons (pv 0) pa_nil)) (pe_glob (v := .int 8) rfl mN ⟨_, rfl⟩)))))) (pss_one (ps_ret pe_bl)) pss_nil)
      (pss_one (ps_ret (pe_callB (cr_all rfl) (by rfl) B.b_all PyProof.Rows.boot_all (pa_cons (pe_lc (own := [("letter", 1)]) (g := gName 1) (tt := tYes) rfl sc_is_name.nd (pi_str (pv 0)) (blkOk_by (own := [("letter", 1)]) (N := ["value", "letter"]) (sc := defScope s_is_name) (by decide +kernel)) (fun _ _ _ _ _ => (pg_name (i := 1) sc_is_name.nd rfl (Or.inl rfl))) (fun _ _ _ _ _ => pts_nil) (fun _ _ _ _ _ => (pe_.re (pe_cmpR op_in_sign (pv 1) (pe_glob (v := .str "abcdefghijklmnopqrstuvwxyz") rfl mL ⟨_, rfl⟩) rfl) (by first | (dsimp only [Cx.blk]; done) | exact rfl)))) pa_nil))))), ?_⟩
  refine ⟨.str x, rfl, _, "str", true, rfl, .str _, by decide +kernel, _, rfl, iteF ?_⟩
  refine ⟨.str x, rfl, x, rfl, hx, 1, x.length, rfl, rfl, _, rfl, bcase (fun h1 => ?_) (fun h1 => ?_)⟩
  · refine ⟨_, _, rfl, rfl, _, rfl, ?_⟩
    have h1 : 1 ≤ x.length := by have := of_decide_eq_true h1; omega
    by_cases h2 : x.length ≤ 8
    · have e2 : decide ((x.length : Int) ≤ 8) = true := decide_eq_true (by omega)
      rw [e2]
      refine iteF ?_
      refine ⟨.str x, rfl, x, rfl, fun D nD => lc_it walk_str (fun i H' => Same H H' ∧ H' D = some (.lst ((x.cps.toList.take i).map isLetterV))) ⟨(Same.refl H).put nD, upd_same⟩ (fun _ _ _ _ => trivial) ?_ ?_⟩
      · rintro i y H2 H3 hi ⟨s, e⟩ ⟨rfl, c, hc, rfl⟩
        refine ⟨rfl, yes_ ⟨_, rfl, c, letters, rfl, rfl, grow (acc := fun i => .map isLetterV (x.cps.toList.take i)) nD s e ?_ ?_⟩⟩
        · rw [List.length_map, List.length_take]
          exact small1000 (by have : x.cps.toList.length = x.length := rfl; omega)
        · show List.map _ _ = _
          rw [take_more (x := c) (by rw [Array.getElem?_toList]; exact hc), List.map_append]
          rfl
      · rintro H2 ⟨s, e⟩
        have el : x.cps.toList.take x.cps.size = x.cps.toList := List.take_of_length_le (by rw [Array.length_toList]; exact Nat.le_refl _)
        rw [el] at e
        refine ⟨D, x.cps.toList.map fun c => decide (c ∈ letters.cps.toList), rfl, sqL_of (by rw [e, List.map_map]; rfl), ?_⟩
        have ea : isName x = (x.cps.toList.map fun c => decide (c ∈ letters.cps.toList)).all id := by
          unfold isName isLetters
          rw [decide_eq_true h1, decide_eq_true h2, Bool.true_and, Bool.true_and, List.all_map]
          rfl
        rw [← ea]
        exact q H2 s
    · have e2 : decide ((x.length : Int) ≤ 8) = false := decide_eq_false (by omega)
      rw [e2]
      refine iteT ?_
      have e : isName x = false := by unfold isName; rw [decide_eq_false h2, Bool.false_and, Bool.and_false]
      rw [← e]
      exact q H (Same.refl H)
  · have h1 : ¬ 1 ≤ x.length := by have := of_decide_eq_false h1; omega
    refine ⟨_, rfl, iteT ?_⟩
    have e : isName x = false := by unfold isName; rw [decide_eq_false h1, Bool.false_and]
    rw [← e]
    exact q H (Same.refl H)
/-- does the i-th name come behind the one before it -/
def risesAt (xs : List Str) (i : Nat) : Bool := decide (i = 0) || match xs[i - 1]?, xs[i]? with
  | some a, some b => decide (a.cps.toList < b.cps.toList)
  | _, _ => false
def sp_rises (K : PySem.W.Frag) : Sp := fun vs H Q _ => ∃ (a : Addr) (xs : List Str) (i : Nat), vs = [.ref a, .int i] ∧ SqT K H a (xs.map V.str) ∧ i < xs.length ∧ Q (.bl (risesAt xs i)) H
theorem ok_rises {f : Addr} {fd : FuncData} (F : Fun K "rises" "rises" s_rises f fd) : FnOk P w K mg base CX0 1 f fd ["names", "index"] (sp_rises K) := by
  refine F.ok sc_rises (fun vs H Q E h => by obtain ⟨a, xs, i, rfl, _⟩ := h; rfl) (fun cdv A outer s H vs Q E hr h => ?_)
  obtain ⟨a, xs, i, rfl, hS, hi, q⟩ := h
  refine ⟨_, (pss_one (ps_ret (pe_or (pe_cmpR op_eq (pv 1) pe_int (nomark _)) (pe_one (pe_cmpR op_lt_str (pe_ix ix_tup (pv 0) (pe_op op_sub (pv 1) pe_int) (fun _ _ => rfl)) (pe_ix ix_tup (pv 0) (pv 1) (fun _ _ => rfl)) (nomark _)))))), ?_⟩
  refine ⟨_, rfl, rfl, _, rfl, bcase (fun e => ?_) (fun e => ?_)⟩
  · have e0 : i = 0 := by have := V.int.inj (of_decide_eq_true e); omega
    have er : risesAt xs i = true := by unfold risesAt; rw [decide_eq_true e0, Bool.true_or]
    rw [er] at q
    exact q
  · have e0 : i ≠ 0 := fun z => by subst z; exact Bool.noConfusion (e.symm.trans (decide_eq_true rfl))
    have h1 : i - 1 < xs.length := by omega
    have g1 : (xs.map V.str)[i - 1]? = some (.str xs[i - 1]) := by rw [List.getElem?_map, List.getElem?_eq_getElem h1]; rfl
    have g2 : (xs.map V.str)[i]? = some (.str xs[i]) := by rw [List.getElem?_map, List.getElem?_eq_getElem hi]; rfl
    refine ⟨.ref a, rfl, .int i, rfl, i, 1, rfl, rfl, a, _, _, _, rfl, rfl, hS, at_of (j := i - 1) (by omega) g1, .ref a, rfl, .int i, rfl, a, _, _, _, rfl, rfl, hS, at_of rfl g2, xs[i - 1], xs[i], rfl, rfl, ?_⟩
    have er : risesAt xs i = decide (xs[i - 1].cps.toList < xs[i].cps.toList) := by
      unfold risesAt
      rw [decide_eq_false e0, Bool.false_or, List.getElem?_eq_getElem h1, List.getElem?_eq_getElem hi]
    rw [← er]
    exact q
end
end Sc
namespace Sc
open PySem PySem.Spec PyProof.Rows L2
/-! ### the law's draws -/
abbrev s__law_mix : Stmt := topS 31
theorem sc__law_mix : FnScope ["_law_script", "_law_seed", "_law_state", "_law_cell"] ["_law_script", "_law_seed"] (defScope s__law_mix) := ⟨rfl, rfl, rfl, by decide +kernel, rfl, by decide +kernel, by decide +kernel⟩
abbrev s__law_next : Stmt := topS 32
theorem sc__law_next : FnScope ["_law_h", "_law_limit", "_law_cell"] ["_law_h", "_law_limit"] (defScope s__law_next) := ⟨rfl, rfl, rfl, by decide +kernel, rfl, by decide +kernel, by decide +kernel⟩
abbrev s__law_facts : Stmt := topS 35
theorem sc__law_facts : FnScope ["_law_h", "_law_count", "_law_some"] ["_law_h", "_law_count"] (defScope s__law_facts) := ⟨rfl, rfl, rfl, by decide +kernel, rfl, by decide +kernel, by decide +kernel⟩
abbrev s__law_alike : Stmt := topS 33
theorem sc__law_alike : FnScope ["_law_found", "_law_due_here", "_law_k"] ["_law_found", "_law_due_here"] (defScope s__law_alike) := ⟨rfl, rfl, rfl, by decide +kernel, rfl, by decide +kernel, by decide +kernel⟩
def twelve : List Str := ["age", "bad", "cold", "dear", "early", "first", "good", "hot", "idle", "just", "keen", "late"]
/-- the state of the draws: a list at a, its cells at l -/
def RS (H : Hp) (a l : Addr) : Prop := ∃ (st k : Int) (ns : List Int), H a = some (.lst [.int st, .ref l, .int k]) ∧ H l = some (.lst (ns.map V.int)) ∧ 0 ≤ st ∧ st < 2147483647 ∧ ns.length ≤ 63 ∧ ∀ z ∈ ns, Builtin.Int.intBits z ≤ 1048576
/-- all but the draws' state stands -/
structure Kp (a l : Addr) (H H' : Hp) : Prop where
  old : RS H a l
  new : RS H' a l
  keep : ∀ b o, b ≠ a → b ≠ l → H b = some o → H' b = some o
section
variable {P : Program} {w : World} {K : PySem.W.Frag} {mg : Str → Option Value} {base : Heap} {a l : Addr} {H H' H'' : Hp}
theorem RS.ne (r : RS H a l) : a ≠ l := fun z => by
  obtain ⟨st, k, ns, h1, h2, _⟩ := r
  subst z
  rw [h1] at h2
  have e := HO.lst.inj (Option.some.inj h2)
  match ns, e with
  | [x, y, z], e => cases (List.cons.inj (List.cons.inj e).2).1
theorem RS.same (r : RS H a l) (s : Same H H') : RS H' a l := by
  obtain ⟨st, k, ns, h1, h2, q⟩ := r
  exact ⟨st, k, ns, s _ _ h1, s _ _ h2, q⟩
theorem Kp.refl (r : RS H a l) : Kp a l H H := ⟨r, r, fun _ _ _ _ e => e⟩
theorem Kp.trans (k : Kp a l H H') (k' : Kp a l H' H'') : Kp a l H H'' := ⟨k.old, k'.new, fun b o n1 n2 e => k'.keep b o n1 n2 (k.keep b o n1 n2 e)⟩
theorem Kp.of (r : RS H a l) (s : Same H H') : Kp a l H H' := ⟨r, r.same s, fun b o _ _ e => s b o e⟩
theorem Kp.same (k : Kp a l H H') (s : Same H' H'') : Kp a l H H'' := k.trans (.of k.new s)
theorem RS.no {b : Addr} (r : RS H a l) (e : H b = none) : b ≠ a ∧ b ≠ l := by
  obtain ⟨st, k, ns, h1, h2, _⟩ := r
  exact ⟨fun z => (by rw [z, h1] at e; cases e), fun z => (by rw [z, h2] at e; cases e)⟩
theorem RS.not {b : Addr} {o : HO} (r : RS H a l) (e : H b = some o) (n : ∀ xs, o ≠ .lst xs) : b ≠ a ∧ b ≠ l := by
  obtain ⟨st, k, ns, h1, h2, _⟩ := r
  exact ⟨fun z => (by rw [z, h1] at e; exact n _ (Option.some.inj e).symm), fun z => (by rw [z, h2] at e; exact n _ (Option.some.inj e).symm)⟩
theorem Kp.free {b : Addr} (k : Kp a l H H') (e : H' b = none) : H b = none := by
  cases q : H b with
  | none => rfl
  | some o =>
    obtain ⟨n1, n2⟩ := k.new.no e
    rw [k.keep b o n1 n2 q] at e
    cases e
theorem Kp.put {p : Addr} {o : HO} (k : Kp a l H H') (n : H' p = none) : Kp a l H (upd H' p o) := k.same ((Same.refl H').put n)
theorem Kp.put0 {p : Addr} {o : HO} (k : Kp a l H H') (n : H p = none) : Kp a l H (upd H' p o) := by
  obtain ⟨n1, n2⟩ := k.old.no n
  obtain ⟨st, x, ns, h1, h2, q⟩ := k.new
  exact ⟨k.old, ⟨st, x, ns, by rw [upd_ne n1.symm]; exact h1, by rw [upd_ne n2.symm]; exact h2, q⟩, fun b o m1 m2 e => by rw [upd_ne (ne_of_none e n)]; exact k.keep b o m1 m2 e⟩
theorem ixN_of {n j : Nat} (hj : j < n) : ixN n (j : Int) = some j := by
  unfold ixN
  rw [if_pos (by omega), if_pos (by omega)]
  rfl
theorem Kp.obj {b : Addr} {o : HO} (k : Kp a l H H') (e : H b = some o) (n : ∀ xs, o ≠ .lst xs) : H' b = some o := by
  obtain ⟨n1, n2⟩ := k.old.not e n
  exact k.keep b o n1 n2 e
theorem Kp.tup {b : Addr} {xs : List V} (k : Kp a l H H') (h : SqT K H b xs) : SqT K H' b xs := by
  rcases h with (h | ⟨o, h⟩) | h
  · exact .inl (.inl (k.obj h fun _ z => nomatch z))
  · exact .inl (.inr ⟨o, k.obj h fun _ z => nomatch z⟩)
  · exact .inr h
theorem bits_div {x n : Int} (h0 : 0 ≤ x) (hn : 0 < n) : Builtin.Int.intBits (x / n) ≤ Builtin.Int.intBits x := by
  have h1 : 0 ≤ x / n := Int.ediv_nonneg h0 (Int.le_of_lt hn)
  have h2 : x / n ≤ x := Int.ediv_le_self n h0
  unfold Builtin.Int.intBits
  by_cases e : x / n = 0
  · rw [e]
    exact Nat.zero_le _
  · have e2 : x ≠ 0 := fun z => by rw [z, Int.zero_ediv] at e; exact e rfl
    rw [if_neg (by simpa using e), if_neg (by simpa using e2)]
    have e3 : (x / n).natAbs.log2 ≤ x.natAbs.log2 := (Nat.le_log2 (by omega)).mpr (Nat.le_trans (Nat.log2_self_le (by omega)) (by omega))
    omega
theorem small_bits {x : Int} {k : Nat} (h : x.natAbs < 2 ^ k) : Builtin.Int.intBits x ≤ k := by
  unfold Builtin.Int.intBits
  split
  · exact Nat.zero_le k
  · rename_i e
    have e : x ≠ 0 := by simpa using e
    have := (Nat.log2_lt (n := x.natAbs) (by omega)).mpr h
    omega
def sp_mix (K : PySem.W.Frag) : Sp := fun vs H Q _ => ∃ (s : Addr) (ns : List Int) (z : Int), vs = [.ref s, .int z] ∧ SqL K H s (ns.map V.int) ∧ ns.length ≤ 63 ∧ (∀ z ∈ ns, Builtin.Int.intBits z ≤ 1048576) ∧ 0 ≤ z ∧ z < 2147483647 ∧
  ∀ H' a l, Same H H' → RS H' a l → Q (.ref a) H'
theorem ok_mix {f : Addr} {fd : FuncData} (F : Fun K "_law_mix" "_law_mix" s__law_mix f fd) (B : Blt mg) : FnOk P w K mg base CX0 1 f fd ["_law_script", "_law_seed"] (sp_mix K) := by
  refine F.ok sc__law_mix (fun vs H Q E h => by obtain ⟨s, ns, z, rfl, _⟩ := h; rfl) (fun cdv A outer s H vs Q E hr h => ?_)
  obtain ⟨s, ns, z, rfl, hS, hl, hb, z0, z1, q⟩ := h
  refine ⟨_, (pss_cons (ps_set (i := 2) sc__law_mix.nd rfl (Or.inl rfl) (pv 1))
      (pss_cons (ps_for PassesOwn.never rfl (pi_list (pv 0)) (pg_name (i := 3) sc__law_mix.nd rfl (Or.inl rfl)) (pss_one (ps_set (i := 2) sc__law_mix.nd rfl (Or.inl rfl) (pe_op op_mod (pe_callTy call_int1 (by rfl) B.b_int PyProof.Rows.boot_int (pa_cons (pe_op op_add (pe_op op_add (pe_op op_mul (pv 2) pe_int) (pe_op op_mod (pe_callTy call_int1 (by rfl) B.b_int PyProof.Rows.boot_int (pa_cons (pv 3) pa_nil)) pe_int)) pe_int) pa_nil)) pe_int))))
      (pss_one (ps_ret (pe_lst (pa_cons (pv 2) (pa_cons (pe_callTy call_list_of (by rfl) B.b_list PyProof.Rows.boot_list (pa_cons (pv 0) pa_nil)) (pa_cons pe_int pa_nil)))))))), ?_⟩
  refine ⟨_, rfl, .ref s, rfl, s, rfl, ⟨_, hS⟩, for_it walk_list (fun i σ H' => ∃ (st : Int) (y : Option V), σ = [some (.ref s), some (.int z), some (.int st), y] ∧ H' = H ∧ 0 ≤ st ∧ st < 2147483647)
    ⟨z, none, rfl, rfl, z0, z1⟩ (fun i σ H' _ ⟨_, _, _, e, _⟩ => by rw [e]; exact hS) ?_ ?_⟩
  · rintro i x σ H2 H3 hi ⟨st, y, rfl, rfl, h0, h1⟩ ⟨rfl, hx⟩
    obtain ⟨c, hc, rfl⟩ : ∃ c, ns[i]? = some c ∧ x = V.int c := by
      rw [List.getElem?_map] at hx
      cases e : ns[i]? with
      | none => rw [e] at hx; cases hx
      | some c => rw [e] at hx; exact ⟨c, rfl, (Option.some.inj hx).symm⟩
    refine ⟨_, rfl, st, 48271, rfl, rfl, .inl ⟨by omega, by omega⟩, _, rfl, .inl ⟨c, rfl, c, 2147483629, rfl, rfl, (show (0 : Int) < 2147483629 by decide), _, _, rfl, rfl, _, _, rfl, rfl, .inl ⟨_, rfl, _, 2147483647, rfl, rfl, (show (0 : Int) < 2147483647 by decide), ?_⟩⟩⟩
    exact ⟨_, _, rfl, rfl, Int.emod_nonneg _ (by decide), Int.emod_lt_of_pos _ (by decide)⟩
  · rintro σ H2 ⟨st, y, rfl, rfl, h0, h1⟩
    refine ⟨_, rfl, .ref s, rfl, s, _, rfl, .inl hS, fun l nl => ⟨(by show 3 ≤ sizeLine; decide), fun a na => q _ a l ?_ ⟨st, 0, ns, upd_same, ?_, h0, h1, hl, hb⟩⟩⟩
    · exact ((Same.refl _).put nl).put' na
    · rw [upd_ne (ne_of_none upd_same na), upd_same]
def sp_next : Sp := fun vs H Q _ => ∃ (a l : Addr) (n : Int), vs = [.ref a, .int n] ∧ RS H a l ∧ 0 < n ∧ n.natAbs.log2 < 9000 ∧ ∀ H' r, Kp a l H H' → 0 ≤ r → r < n → Q (.int r) H'
theorem ok_next {f : Addr} {fd : FuncData} (F : Fun K "_law_next" "_law_next" s__law_next f fd) (B : Blt mg) : FnOk P w K mg base CX0 1 f fd ["_law_h", "_law_limit"] sp_next := by
  refine F.ok sc__law_next (fun vs H Q E h => by obtain ⟨a, l, n, rfl, _⟩ := h; rfl) (fun cdv A outer s H vs Q E hr h => ?_)
  obtain ⟨a, l, n, rfl, hR, n0, n9, q⟩ := h
  refine ⟨_, (pss_cons (ps_set (i := 2) sc__law_next.nd rfl (Or.inl rfl) (pe_ix ix_list (pe_op op_cat (pe_ix ix_list (pv 0) pe_int (fun _ _ => rfl)) (pe_lst (pa_cons pe_int pa_nil))) (pe_op op_mod (pe_callTy call_int1 (by rfl) B.b_int PyProof.Rows.boot_int (pa_cons (pe_ix ix_list (pv 0) pe_int (fun _ _ => rfl)) pa_nil)) (pe_callB (call_max2 rfl) (by rfl) B.b_max PyProof.Rows.boot_max (pa_cons pe_int (pa_cons (pe_callB call_len_seq (by rfl) B.b_len PySem.boot_len (pa_cons (pe_ix ix_list (pv 0) pe_int (fun _ _ => rfl)) pa_nil)) pa_nil)))) (fun _ _ => rfl)))
      (pss_cons (ps_if (pt_cmpR op_ge (pv 2) (pe_op op_pow pe_int pe_int) (nomark _)) (pss_cons (ps_asg (pe_op op_fdivW (pv 2) (pv 1)) (pg_sub (pe_ix ix_list (pv 0) pe_int (fun _ _ => rfl)) (pe_op op_mod (pe_callTy call_int1 (by rfl) B.b_int PyProof.Rows.boot_int (pa_cons (pe_ix ix_list (pv 0) pe_int (fun _ _ => rfl)) pa_nil)) (pe_callB call_len_seq (by rfl) B.b_len PySem.boot_len (pa_cons (pe_ix ix_list (pv 0) pe_int (fun _ _ => rfl)) pa_nil))) set_list))
      (pss_one (ps_ret (pe_op op_mod (pe_callTy call_int1 (by rfl) B.b_int PyProof.Rows.boot_int (pa_cons (pv 2) pa_nil)) (pv 1))))) pss_nil)
      (pss_cons (ps_asg (pe_op op_mod (pe_callTy call_int1 (by rfl) B.b_int PyProof.Rows.boot_int (pa_cons (pe_op op_add (pe_op op_add (pe_op op_mul (pe_ix ix_list (pv 0) pe_int (fun _ _ => rfl)) pe_int) (pe_op op_mulX (pv 2) pe_int)) pe_int) pa_nil)) pe_int) (pg_sub (pv 0) pe_int set_list))
      (pss_cons (ps_asg (pe_op op_add (pe_ix ix_list (pv 0) pe_int (fun _ _ => rfl)) pe_int) (pg_sub (pv 0) pe_int set_list))
      (pss_one (ps_ret (pe_op op_mod (pe_callTy call_int1 (by rfl) B.b_int PyProof.Rows.boot_int (pa_cons (pe_op op_fdiv (pe_ix ix_list (pv 0) pe_int (fun _ _ => rfl)) pe_int) pa_nil)) (pv 1)))))))), ?_⟩
  obtain ⟨st, k, ns, ha, hl, s0, s1, hlen, hb⟩ := id hR
  have nal := hR.ne
  have hm0 : 0 < (if ((ns.map V.int).length : Int) > 1 then ((ns.map V.int).length : Int) else 1) := by
    split <;> omega
  have hmx : (if ((ns.map V.int).length : Int) > 1 then ((ns.map V.int).length : Int) else 1) ≤ ns.length + 1 := by
    rw [List.length_map]
    split <;> omega
  have hcell : ∃ (j : Nat) (c : Int), k % (if ((ns.map V.int).length : Int) > 1 then ((ns.map V.int).length : Int) else 1) = j ∧ (ns.map V.int ++ [V.int 0])[j]? = some (.int c) ∧ (10 ^ 18 ≤ c → j < ns.length ∧ ns[j]? = some c ∧ k % (ns.length : Int) = j) ∧ Builtin.Int.intBits c ≤ 1048576 := by
    have r0 := Int.emod_nonneg k (Int.ne_of_gt hm0)
    have r1 := Int.emod_lt_of_pos k hm0
    obtain ⟨j, ej⟩ := Int.eq_ofNat_of_zero_le r0
    have ej : k % (if ((ns.map V.int).length : Int) > 1 then ((ns.map V.int).length : Int) else 1) = (j : Int) := ej
    by_cases hj : j < ns.length
    · refine ⟨j, ns[j], ej, ?_, fun _ => ⟨hj, List.getElem?_eq_getElem hj, ?_⟩, hb _ (List.getElem_mem hj)⟩
      · rw [List.getElem?_append_left (by rw [List.length_map]; exact hj), List.getElem?_map, List.getElem?_eq_getElem hj]
        rfl
      · rw [← ej, List.length_map]
        by_cases h1 : (ns.length : Int) > 1
        · rw [if_pos h1]
        · rw [if_neg h1]
          have e1 : (ns.length : Int) = 1 := by omega
          rw [e1]
    · have ejn : j = ns.length := by omega
      refine ⟨j, 0, ej, ?_, fun z => absurd z (by decide), by decide⟩
      rw [List.getElem?_append_right (by rw [List.length_map]; omega), List.length_map, ejn, Nat.sub_self]
      rfl
  obtain ⟨j, c, ej, gc, big, hc⟩ := hcell
  refine ⟨.ref a, rfl, a, _, 1, .ref l, rfl, rfl, sqL_of ha, atI_nat (j := 1) rfl, (by show 1 ≤ sizeLine; decide), fun p np => ?_⟩
  have npa := ne_of_none ha np
  have npl := ne_of_none hl np
  refine ⟨l, p, ns.map V.int, [.int 0], rfl, rfl, by rw [upd_ne npl]; exact hl, upd_same, by rw [List.length_map, sizeLine_eq]; show ns.length + 1 ≤ _; omega, fun p2 np2 => ?_⟩
  have np2' : H p2 = none := by
    cases e : H p2 with
    | none => rfl
    | some o => rw [upd_ne (ne_of_none e np)] at np2; rw [e] at np2; cases np2
  have s2 : Same H (upd (upd H p (.lst [.int 0])) p2 (.lst (ns.map V.int ++ [.int 0]))) := ((Same.refl H).put np).put np2'
  generalize hH2 : upd (upd H p (.lst [.int 0])) p2 (.lst (ns.map V.int ++ [.int 0])) = H2 at s2
  have hp2 : H2 p2 = some (.lst (ns.map V.int ++ [.int 0])) := by rw [← hH2, upd_same]
  have ha2 := s2 _ _ ha
  have hl2 := s2 _ _ hl
  refine ⟨.ref a, rfl, a, _, 2, .int k, rfl, rfl, sqL_of ha2, atI_nat (j := 2) rfl, .inl ⟨k, rfl, ?_⟩⟩
  refine ⟨.ref a, rfl, a, _, 1, .ref l, rfl, rfl, sqL_of ha2, atI_nat (j := 1) rfl, l, _, rfl, .inl (sqL_of hl2), 1, _, rfl, ?_⟩
  refine ⟨k, _, rfl, rfl, hm0, p2, _, _, .int c, rfl, rfl, sqL_of hp2, at_of ej gc, ?_⟩
  refine ⟨.int c, rfl, 10, 18, rfl, rfl, ⟨by decide, by decide, by decide⟩, c, 10 ^ 18, rfl, rfl, _, rfl, bcase (fun c1 => ?_) (fun c1 => ?_)⟩
  · have c1 : (10 : Int) ^ 18 ≤ c := of_decide_eq_true c1
    obtain ⟨hj, gj, ej2⟩ := big c1
    have hlp : 0 < (ns.length : Int) := by omega
    refine ⟨_, rfl, .int n, rfl, c, n, rfl, rfl, ⟨n0, n9⟩, .ref a, rfl, a, _, 1, .ref l, rfl, rfl, sqL_of ha2, atI_nat (j := 1) rfl, .ref a, rfl, a, _, 2, .int k, rfl, rfl, sqL_of ha2, atI_nat (j := 2) rfl, .inl ⟨k, rfl, ?_⟩⟩
    refine ⟨.ref a, rfl, a, _, 1, .ref l, rfl, rfl, sqL_of ha2, atI_nat (j := 1) rfl, l, _, rfl, .inl (sqL_of hl2), k, _, rfl, rfl, by rw [List.length_map]; exact hlp, l, _, _, j, rfl, rfl, hl2, ?_, ?_⟩
    · rw [List.length_map, ej2]
      unfold ixN
      rw [if_pos (by omega), if_pos (by omega)]
      rfl
    · refine ⟨.int c, rfl, .inl ⟨c, rfl, .int n, rfl, c, n, rfl, rfl, n0, q _ _ ⟨hR, ?_, fun b o n1 n2 e => ?_⟩ (Int.emod_nonneg _ (Int.ne_of_gt n0)) (Int.emod_lt_of_pos _ n0)⟩⟩
      · refine ⟨st, k, ns.set j (c / n), by rw [upd_ne nal]; exact ha2, by rw [upd_same, List.map_set], s0, s1, by rw [List.length_set]; exact hlen, fun z hz => ?_⟩
        rcases List.mem_or_eq_of_mem_set hz with h | h
        · exact hb z h
        · rw [h]
          exact Nat.le_trans (bits_div (by omega) n0) hc
      · rw [upd_ne n2]
        exact s2 b o e
  · refine ⟨.ref a, rfl, a, _, 0, .int st, rfl, rfl, sqL_of ha2, atI_nat (j := 0) rfl, st, 48271, rfl, rfl, .inl ⟨by omega, by omega⟩, .int c, rfl, c, 69621, rfl, rfl, ?_, _, _, rfl, rfl, _, 11, rfl, rfl, .inl ⟨_, rfl, _, 2147483647, rfl, rfl, (show (0 : Int) < 2147483647 by decide), .ref a, rfl, ?_⟩⟩
    · show (Builtin.Int.intBits c : Int) + (Builtin.Int.intBits 69621 : Int) ≤ 134217728
      have e1 : Builtin.Int.intBits 69621 ≤ 20 := small_bits (by decide)
      omega
    have z0 : 0 ≤ (st * 48271 + c * 69621 + 11) % 2147483647 := Int.emod_nonneg _ (by decide)
    have z1 : (st * 48271 + c * 69621 + 11) % 2147483647 < 2147483647 := Int.emod_lt_of_pos _ (by decide)
    refine ⟨a, _, 0, 0, rfl, rfl, ha2, rfl, ?_⟩
    refine ⟨.ref a, rfl, a, _, 2, .int k, rfl, rfl, sqL_of upd_same, atI_nat (j := 2) rfl, k, 1, rfl, rfl, .ref a, rfl, a, _, 2, 2, rfl, rfl, upd_same, rfl, ?_⟩
    refine ⟨.ref a, rfl, a, _, 0, .int ((st * 48271 + c * 69621 + 11) % 2147483647), rfl, rfl, sqL_of upd_same, atI_nat (j := 0) rfl, _, 7, rfl, rfl, ⟨by decide, by decide⟩, .inl ⟨_, rfl, .int n, rfl, _, n, rfl, rfl, n0, q _ _ ⟨hR, ?_, fun b o n1 n2 e => ?_⟩ (Int.emod_nonneg _ (Int.ne_of_gt n0)) (Int.emod_lt_of_pos _ n0)⟩⟩
    · exact ⟨_, k + 1, ns, upd_same, by rw [upd_ne nal.symm, upd_ne nal.symm]; exact hl2, z0, z1, hlen, hb⟩
    · rw [upd_ne n1, upd_ne n1]
      exact s2 b o e
theorem map_eraseIdx {α β : Type} {f : α → β} : ∀ (xs : List α) (j : Nat), (xs.map f).eraseIdx j = (xs.eraseIdx j).map f
  | [], _ => rfl
  | _ :: _, 0 => rfl
  | x :: r, j + 1 => by
    show f x :: (r.map f).eraseIdx j = f x :: (r.eraseIdx j).map f
    rw [map_eraseIdx r j]
/-- some of the twelve facts, in their order -/
def sp_facts : Sp := fun vs H Q _ => ∃ (a l : Addr) (c : Int), vs = [.ref a, .int c] ∧ RS H a l ∧ 0 ≤ c ∧ ∀ H' p fs, Kp a l H H' → H' p = some (.tup (fs.map V.str)) → H p = none → List.Sublist fs twelve → (fs.length : Int) ≤ c → (c ≤ 12 → (fs.length : Int) = c) → Q (.ref p) H'
theorem ok_facts {f : Addr} {fd : FuncData} (F : Fun K "_law_facts" "_law_facts" s__law_facts f fd) (B : Blt mg) (c__law_next : Cal P w K mg base CX0 1 "_law_next" ["_law_h", "_law_limit"] sp_next) : FnOk P w K mg base CX0 2 f fd ["_law_h", "_law_count"] sp_facts := by
  refine F.ok sc__law_facts (fun vs H Q E h => by obtain ⟨a, l, c, rfl, _⟩ := h; rfl) (fun cdv A outer s H vs Q E hr h => ?_)
  obtain ⟨a, l, c, rfl, hR, c0, q⟩ := h
  refine ⟨_, (pss_cons (ps_set (i := 2) sc__law_facts.nd rfl (Or.inl rfl) (pe_lst (pa_cons pe_str (pa_cons pe_str (pa_cons pe_str (pa_cons pe_str (pa_cons pe_str (pa_cons pe_str (pa_cons pe_str (pa_cons pe_str (pa_cons pe_str (pa_cons pe_str (pa_cons pe_str (pa_cons pe_str pa_nil))))))))))))))
      (pss_cons (ps_while PassesOwn.never (pt_cmpR op_gt (pe_callB call_len_seq (by rfl) B.b_len PySem.boot_len (pa_cons (pv 2) pa_nil)) (pv 1) (nomark _)) (pss_one (ps_expr (pe_bm PySem.F.plainAttrs_list PySem.F.slot_list_pop PySem.F.type_list_pop mt_popAt (pv 2) (pa_cons (pe_cal c__law_next (hr.mono (by decide)) (pa_cons (pv 0) (pa_cons (pe_callB call_len_seq (by rfl) B.b_len PySem.boot_len (pa_cons (pv 2) pa_nil)) pa_nil))) pa_nil)))))
      (pss_one (ps_ret (pe_callTy call_tuple_of (by rfl) B.b_tuple PyProof.Rows.boot_tuple (pa_cons (pv 2) pa_nil)))))), ?_⟩
  refine ⟨(by show 12 ≤ sizeLine; decide), fun p np => ?_⟩
  obtain ⟨npa, npl⟩ := hR.no np
  refine ⟨fun m σ H' => ∃ zs : List Str, m = zs.length ∧ σ = [some (.ref a), some (.int c), some (.ref p)] ∧ Kp a l H H' ∧ H' p = some (.lst (zs.map V.str)) ∧ List.Sublist zs twelve ∧ (c ≤ zs.length ∨ zs = twelve),
    ⟨_, twelve, rfl, rfl, (Kp.refl hR).put np, upd_same, List.Sublist.refl _, .inr rfl⟩, ?_⟩
  rintro m σ H1 ⟨zs, rfl, rfl, k1, e1, sb, hc⟩
  have hz : zs.length ≤ 12 := sb.length_le
  refine ⟨.ref p, rfl, p, _, rfl, .inl (sqL_of e1), .int c, rfl, _, c, rfl, rfl, _, rfl, bcase (fun t1 => ?_) (fun t1 => ?_)⟩
  · have t1 : c < ((zs.map V.str).length : Int) := of_decide_eq_true t1
    rw [List.length_map] at t1
    refine ⟨fun σ' H' => ∃ zs' : List Str, zs'.length < zs.length ∧ (σ' = [some (.ref a), some (.int c), some (.ref p)] ∧ Kp a l H H' ∧ H' p = some (.lst (zs'.map V.str)) ∧ List.Sublist zs' twelve ∧ (c ≤ zs'.length ∨ zs' = twelve)),
      fun σ' H' ⟨zs', lt, x⟩ => ⟨_, lt, zs', rfl, x⟩, ?_⟩
    refine ⟨.ref p, rfl, .inl ⟨rfl, _, sqL_of e1⟩, .ref a, rfl, .ref p, rfl, p, _, rfl, .inl (sqL_of e1), a, l, _, rfl, k1.new, by rw [List.length_map]; omega, ?_, fun H2 r k2 r0 r1 => ?_⟩
    · rw [List.length_map]
      exact Nat.lt_of_le_of_lt (Nat.log2_le_self _) (by show zs.length < 9000; omega)
    · have e2 : H2 p = some (.lst (zs.map V.str)) := k2.keep p _ npa npl e1
      rw [List.length_map] at r1
      obtain ⟨j, rfl⟩ := Int.eq_ofNat_of_zero_le r0
      have hj : j < zs.length := by omega
      have hj' : j < (zs.map V.str).length := by rw [List.length_map]; exact hj
      refine ⟨p, _, _, j, _, rfl, rfl, e2, by omega, by omega, (ixN_seq (ixN_of hj')).1, List.getElem?_eq_getElem hj', zs.eraseIdx j, ?_, rfl, (k1.trans k2).put0 np, ?_, (List.eraseIdx_sublist zs j).trans sb, ?_⟩
      · rw [List.length_eraseIdx_of_lt hj]
        omega
      · rw [upd_same, map_eraseIdx]
      · rw [List.length_eraseIdx_of_lt hj]
        exact .inl (by omega)
  · have t1 : ¬ c < ((zs.map V.str).length : Int) := of_decide_eq_false t1
    rw [List.length_map] at t1
    refine ⟨.ref p, rfl, p, _, rfl, .inl ⟨sqL_of e1, fun t nt => q _ t zs (k1.put nt) upd_same (k1.free nt) sb (by omega) (fun h => ?_)⟩⟩
    rcases hc with h2 | h2
    · omega
    · rw [h2] at t1 ⊢
      have : twelve.length = 12 := rfl
      omega
/-- what stands at a value, read as data, at most n lists or tuples deep -/
inductive AD (H : Hp) : Nat → V → PyData → Prop where
  | non (n : Nat) : AD H n .non .none
  | bl (n : Nat) (b : Bool) : AD H n (.bl b) (.bool b)
  | int (n : Nat) (i : Int) : AD H n (.int i) (.int i)
  | str (n : Nat) (x : Str) : AD H n (.str x) (.str x)
  | lst {n : Nat} {a : Addr} {xs : List V} {ds : List PyData} (e : H a = some (.lst xs)) (l : xs.length = ds.length) (z : xs.length ≤ 1000000) (all : ∀ (i : Nat) (x : V) (d : PyData), xs[i]? = some x → ds[i]? = some d → AD H n x d) : AD H (n + 1) (.ref a) (.list ds)
  | tup {n : Nat} {a : Addr} {xs : List V} {ds : List PyData} (e : H a = some (.tup xs)) (l : xs.length = ds.length) (z : xs.length ≤ 1000000) (all : ∀ (i : Nat) (x : V) (d : PyData), xs[i]? = some x → ds[i]? = some d → AD H n x d) : AD H (n + 1) (.ref a) (.tuple ds)
theorem AD.same {n : Nat} {x : V} {d : PyData} (s : Same H H') (h : AD H n x d) : AD H' n x d := by
  induction h with
  | non n => exact .non n
  | bl n b => exact .bl n b
  | int n i => exact .int n i
  | str n x => exact .str n x
  | lst e l z all ih => exact .lst (s _ _ e) l z ih
  | tup e l z all ih => exact .tup (s _ _ e) l z ih
def sp_alike (n : Nat) : Sp := fun vs H Q _ => ∃ (x y : V) (d : PyData), vs = [x, y] ∧ AD H n x d ∧ AD H n y d ∧ ∀ H', Same H H' → Q (.bl true) H'
/-- the answer where no list or tuple stands -/
theorem ok_alike0 {f : Addr} {fd : FuncData} (F : Fun K "_law_alike" "_law_alike" s__law_alike f fd) (B : Blt mg) : FnOk P w K mg base CX0 1 f fd ["_law_found", "_law_due_here"] (sp_alike 0) := by
  refine F.ok sc__law_alike (fun vs H Q E h => by obtain ⟨x, y, d, rfl, _⟩ := h; rfl) (fun cdv A outer s H vs Q E hr h => ?_)
  obtain ⟨x, y, d, rfl, hx, hy, q⟩ := h
  refine ⟨_, (pss_cons (ps_if (pt_val (pe_callB (call_isT "dict") (by rfl) B.b_isinstance PyProof.Rows.boot_isinstance (pa_cons (pv 1) (pa_cons (pe_bltn (v := .ty "dict") (by rfl) B.b_dict (by decide +kernel) rfl) pa_nil)))) pss_never pss_nil)
      (pss_cons (ps_if (pt_val (pe_callB call_isiT (by rfl) B.b_isinstance PyProof.Rows.boot_isinstance (pa_cons (pv 1) (pa_cons (pe_tup (pa_cons (pe_bltn (v := .ty "tuple") (by rfl) B.b_tuple PyProof.Rows.boot_tuple rfl) (pa_cons (pe_bltn (v := .ty "list") (by rfl) B.b_list PyProof.Rows.boot_list rfl) pa_nil))) pa_nil)))) pss_never pss_nil)
      (pss_cons (ps_if (PW.pt (pw_or (pt_cmpR op_isN (pv 1) pe_non (nomark _)) (pw_or1 (pt_val (pe_callB (call_isT "str") (by rfl) B.b_isinstance PyProof.Rows.boot_isinstance (pa_cons (pv 1) (pa_cons (pe_bltn (v := .ty "str") (by rfl) B.b_str PyProof.Rows.boot_str rfl) pa_nil))))))) (pss_one (ps_ret (pe_and (pe_cmpR op_eq (pv 0) (pv 1) (nomark _)) (pe_one (pe_cmpR op_eq (pe_callB (call_isT "str") (by rfl) B.b_isinstance PyProof.Rows.boot_isinstance (pa_cons (pv 0) (pa_cons (pe_bltn (v := .ty "str") (by rfl) B.b_str PyProof.Rows.boot_str rfl) pa_nil))) (pe_callB (call_isT "str") (by rfl) B.b_isinstance PyProof.Rows.boot_isinstance (pa_cons (pv 1) (pa_cons (pe_bltn (v := .ty "str") (by rfl) B.b_str PyProof.Rows.boot_str rfl) pa_nil))) (nomark _)))))) pss_nil)
      (pss_one (ps_ret (pe_and (pe_callB (call_isT "int") (by rfl) B.b_isinstance PyProof.Rows.boot_isinstance (pa_cons (pv 0) (pa_cons (pe_bltn (v := .ty "int") (by rfl) B.b_int PyProof.Rows.boot_int rfl) pa_nil))) (pe_and (pe_cmpR op_eq (pe_callB (call_isT "bool") (by rfl) B.b_isinstance PyProof.Rows.boot_isinstance (pa_cons (pv 0) (pa_cons (pe_bltn (v := .ty "bool") (by rfl) B.b_bool PyProof.Rows.boot_bool rfl) pa_nil))) (pe_callB (call_isT "bool") (by rfl) B.b_isinstance PyProof.Rows.boot_isinstance (pa_cons (pv 1) (pa_cons (pe_bltn (v := .ty "bool") (by rfl) B.b_bool PyProof.Rows.boot_bool rfl) pa_nil))) (nomark _)) (pe_one (pe_cmpR op_eq (pv 0) (pv 1) (nomark _)))))))))), ?_⟩
  cases hx with
  | non _ =>
    cases hy
    refine ⟨_, rfl, _, "NoneType", false, rfl, .non, by decide +kernel, false, rfl, iteF ?_⟩
    refine ⟨_, rfl, (by show 2 ≤ sizeLine; decide), fun tp ntp => ⟨_, tp, _, .type "NoneType", [.type "tuple", .type "list"], false, rfl, upd_same, .cons (.ty _) (.cons (.ty _) .nil), .base (.non), kitAny_cons (b := false) (kit_ty (by decide +kernel)) (fun _ => kitAny_cons (b := false) (kit_ty (by decide +kernel)) (fun _ => kitAny_nil) (fun z => nomatch z)) (fun z => nomatch z), false, rfl, iteF ?_⟩⟩
    have s1 : Same H (upd H tp (.tup [.ty "tuple", .ty "list"])) := (Same.refl H).put ntp
    refine ⟨_, rfl, rfl, true, rfl, iteT (iteT ?_)⟩
    refine ⟨_, rfl, _, rfl, rfl, decide (V.non = V.non), rfl, ?_⟩
    rw [decide_eq_true rfl]
    refine iteT ?_
    refine ⟨_, rfl, _, "NoneType", false, rfl, .non, by decide +kernel, _, rfl, _, "NoneType", false, rfl, .non, by decide +kernel, rfl, ?_⟩
    exact q _ s1
  | bl _ b =>
    cases hy
    refine ⟨_, rfl, _, "bool", false, rfl, .bl b, by decide +kernel, false, rfl, iteF ?_⟩
    refine ⟨_, rfl, (by show 2 ≤ sizeLine; decide), fun tp ntp => ⟨_, tp, _, .type "bool", [.type "tuple", .type "list"], false, rfl, upd_same, .cons (.ty _) (.cons (.ty _) .nil), .base (.bl b), kitAny_cons (b := false) (kit_ty (by decide +kernel)) (fun _ => kitAny_cons (b := false) (kit_ty (by decide +kernel)) (fun _ => kitAny_nil) (fun z => nomatch z)) (fun z => nomatch z), false, rfl, iteF ?_⟩⟩
    have s1 : Same H (upd H tp (.tup [.ty "tuple", .ty "list"])) := (Same.refl H).put ntp
    refine ⟨_, rfl, rfl, false, rfl, iteF ⟨_, rfl, _, "bool", false, rfl, .bl b, by decide +kernel, false, rfl, iteF ?_⟩⟩
    refine ⟨_, rfl, _, "bool", true, rfl, .bl b, by decide +kernel, true, rfl, iteT ?_⟩
    refine ⟨_, rfl, _, "bool", true, rfl, .bl b, by decide +kernel, _, rfl, _, "bool", true, rfl, .bl b, by decide +kernel, rfl, true, rfl, iteT ?_⟩
    refine ⟨_, rfl, _, rfl, rfl, ?_⟩
    rw [decide_eq_true rfl]
    exact q _ s1
  | int _ i =>
    cases hy
    refine ⟨_, rfl, _, "int", false, rfl, .int i, by decide +kernel, false, rfl, iteF ?_⟩
    refine ⟨_, rfl, (by show 2 ≤ sizeLine; decide), fun tp ntp => ⟨_, tp, _, .type "int", [.type "tuple", .type "list"], false, rfl, upd_same, .cons (.ty _) (.cons (.ty _) .nil), .base (.int i), kitAny_cons (b := false) (kit_ty (by decide +kernel)) (fun _ => kitAny_cons (b := false) (kit_ty (by decide +kernel)) (fun _ => kitAny_nil) (fun z => nomatch z)) (fun z => nomatch z), false, rfl, iteF ?_⟩⟩
    have s1 : Same H (upd H tp (.tup [.ty "tuple", .ty "list"])) := (Same.refl H).put ntp
    refine ⟨_, rfl, rfl, false, rfl, iteF ⟨_, rfl, _, "int", false, rfl, .int i, by decide +kernel, false, rfl, iteF ?_⟩⟩
    refine ⟨_, rfl, _, "int", true, rfl, .int i, by decide +kernel, true, rfl, iteT ?_⟩
    refine ⟨_, rfl, _, "int", false, rfl, .int i, by decide +kernel, _, rfl, _, "int", false, rfl, .int i, by decide +kernel, rfl, true, rfl, iteT ?_⟩
    refine ⟨_, rfl, _, rfl, rfl, ?_⟩
    rw [decide_eq_true rfl]
    exact q _ s1
  | str _ x =>
    cases hy
    refine ⟨_, rfl, _, "str", false, rfl, .str x, by decide +kernel, false, rfl, iteF ?_⟩
    refine ⟨_, rfl, (by show 2 ≤ sizeLine; decide), fun tp ntp => ⟨_, tp, _, .type "str", [.type "tuple", .type "list"], false, rfl, upd_same, .cons (.ty _) (.cons (.ty _) .nil), .base (.str x), kitAny_cons (b := false) (kit_ty (by decide +kernel)) (fun _ => kitAny_cons (b := false) (kit_ty (by decide +kernel)) (fun _ => kitAny_nil) (fun z => nomatch z)) (fun z => nomatch z), false, rfl, iteF ?_⟩⟩
    have s1 : Same H (upd H tp (.tup [.ty "tuple", .ty "list"])) := (Same.refl H).put ntp
    refine ⟨_, rfl, rfl, false, rfl, iteF ⟨_, rfl, _, "str", true, rfl, .str x, by decide +kernel, true, rfl, iteT ?_⟩⟩
    refine ⟨_, rfl, _, rfl, rfl, decide (V.str x = V.str x), rfl, ?_⟩
    rw [decide_eq_true rfl]
    refine iteT ?_
    refine ⟨_, rfl, _, "str", true, rfl, .str x, by decide +kernel, _, rfl, _, "str", true, rfl, .str x, by decide +kernel, rfl, ?_⟩
    exact q _ s1
theorem ok_alike {n : Nat} {f : Addr} {fd : FuncData} (F : Fun K "_law_alike" "_law_alike" s__law_alike f fd) (B : Blt mg) (c__law_alike : Cal P w K mg base CX0 (n + 1) "_law_alike" ["_law_found", "_law_due_here"] (sp_alike n)) : FnOk P w K mg base CX0 (n + 2) f fd ["_law_found", "_law_due_here"] (sp_alike (n + 1)) := by
  refine F.ok sc__law_alike (fun vs H Q E h => by obtain ⟨x, y, d, rfl, _⟩ := h; rfl) (fun cdv A outer s H vs Q E hr h => ?_)
  obtain ⟨x, y, d, rfl, hx, hy, q⟩ := h
  refine ⟨_, (pss_cons (ps_if (pt_val (pe_callB (call_isT "dict") (by rfl) B.b_isinstance PyProof.Rows.boot_isinstance (pa_cons (pv 1) (pa_cons (pe_bltn (v := .ty "dict") (by rfl) B.b_dict (by decide +kernel) rfl) pa_nil)))) pss_never pss_nil)
      (pss_cons (ps_if (pt_val (pe_callB call_isiT (by rfl) B.b_isinstance PyProof.Rows.boot_isinstance (pa_cons (pv 1) (pa_cons (pe_tup (pa_cons (pe_bltn (v := .ty "tuple") (by rfl) B.b_tuple PyProof.Rows.boot_tuple rfl) (pa_cons (pe_bltn (v := .ty "list") (by rfl) B.b_list PyProof.Rows.boot_list rfl) pa_nil))) pa_nil)))) (pss_cons (ps_if (PW.pt (pw_or (pt_not (pt_val (pe_callB call_isiT (by rfl) B.b_isinstance PyProof.Rows.boot_isinstance (pa_cons (pv 0) (pa_cons (pe_tup (pa_cons (pe_bltn (v := .ty "tuple") (by rfl) B.b_tuple PyProof.Rows.boot_tuple rfl) (pa_cons (pe_bltn (v := .ty "list") (by rfl) B.b_list PyProof.Rows.boot_list rfl) pa_nil))) pa_nil))))) (pw_or1 (pt_cmpR op_ne (pe_callB (call_isT "list") (by rfl) B.b_isinstance PyProof.Rows.boot_isinstance (pa_cons (pv 0) (pa_cons (pe_bltn (v := .ty "list") (by rfl) B.b_list PyProof.Rows.boot_list rfl) pa_nil))) (pe_callB (call_isT "list") (by rfl) B.b_isinstance PyProof.Rows.boot_isinstance (pa_cons (pv 1) (pa_cons (pe_bltn (v := .ty "list") (by rfl) B.b_list PyProof.Rows.boot_list rfl) pa_nil))) (nomark _))))) (pss_one (ps_ret pe_bl)) pss_nil)
      (pss_cons (ps_if (pt_cmpR op_ne (pe_callB call_len_seq (by rfl) B.b_len PySem.boot_len (pa_cons (pv 0) pa_nil)) (pe_callB call_len_seq (by rfl) B.b_len PySem.boot_len (pa_cons (pv 1) pa_nil)) (nomark _)) (pss_one (ps_ret pe_bl)) pss_nil)
      (pss_one (ps_ret (pe_cmpR (op_eqD hr.units) (pe_lc (own := [("_law_k", 2)]) (g := gName 2) rfl sc__law_alike.nd (pi_range1 (by rfl) B.b_range (pa_cons (pe_callB call_len_seq (by rfl) B.b_len PySem.boot_len (pa_cons (pv 1) pa_nil)) pa_nil)) (blkOk_by (own := [("_law_k", 2)]) (N := ["_law_found", "_law_due_here", "_law_k"]) (sc := defScope s__law_alike) (by decide +kernel)) (fun _ _ _ _ _ => (pg_name (i := 2) sc__law_alike.nd rfl (Or.inl rfl))) (fun _ _ _ _ _ => (pts_.re (pts_one (pt_not (pt_val (pe_cal c__law_alike hr (pa_cons (pe_ix ix_seq (pv 0) (pv 2) (fun _ _ => rfl)) (pa_cons (pe_ix ix_seq (pv 1) (pv 2) (fun _ _ => rfl)) pa_nil)))))) (by first | (dsimp only [Cx.blk]; done) | exact rfl))) (fun _ _ _ _ _ => (pe_.re (pv 2) (by first | (dsimp only [Cx.blk]; done) | exact rfl)))) (pe_lst pa_nil) (nomark _)))))) pss_nil)
      (pss_cons (ps_if (PW.pt (pw_or (pt_cmpR op_isN (pv 1) pe_non (nomark _)) (pw_or1 (pt_val (pe_callB (call_isT "str") (by rfl) B.b_isinstance PyProof.Rows.boot_isinstance (pa_cons (pv 1) (pa_cons (pe_bltn (v := .ty "str") (by rfl) B.b_str PyProof.Rows.boot_str rfl) pa_nil))))))) (pss_one (ps_ret (pe_and (pe_cmpR op_eq (pv 0) (pv 1) (nomark _)) (pe_one (pe_cmpR op_eq (pe_callB (call_isT "str") (by rfl) B.b_isinstance PyProof.Rows.boot_isinstance (pa_cons (pv 0) (pa_cons (pe_bltn (v := .ty "str") (by rfl) B.b_str PyProof.Rows.boot_str rfl) pa_nil))) (pe_callB (call_isT "str") (by rfl) B.b_isinstance PyProof.Rows.boot_isinstance (pa_cons (pv 1) (pa_cons (pe_bltn (v := .ty "str") (by rfl) B.b_str PyProof.Rows.boot_str rfl) pa_nil))) (nomark _)))))) pss_nil)
      (pss_one (ps_ret (pe_and (pe_callB (call_isT "int") (by rfl) B.b_isinstance PyProof.Rows.boot_isinstance (pa_cons (pv 0) (pa_cons (pe_bltn (v := .ty "int") (by rfl) B.b_int PyProof.Rows.boot_int rfl) pa_nil))) (pe_and (pe_cmpR op_eq (pe_callB (call_isT "bool") (by rfl) B.b_isinstance PyProof.Rows.boot_isinstance (pa_cons (pv 0) (pa_cons (pe_bltn (v := .ty "bool") (by rfl) B.b_bool PyProof.Rows.boot_bool rfl) pa_nil))) (pe_callB (call_isT "bool") (by rfl) B.b_isinstance PyProof.Rows.boot_isinstance (pa_cons (pv 1) (pa_cons (pe_bltn (v := .ty "bool") (by rfl) B.b_bool PyProof.Rows.boot_bool rfl) pa_nil))) (nomark _)) (pe_one (pe_cmpR op_eq (pv 0) (pv 1) (nomark _)))))))))), ?_⟩
  cases hx with
  | non _ =>
    cases hy
    refine ⟨_, rfl, _, "NoneType", false, rfl, .non, by decide +kernel, false, rfl, iteF ?_⟩
    refine ⟨_, rfl, (by show 2 ≤ sizeLine; decide), fun tp ntp => ⟨_, tp, _, .type "NoneType", [.type "tuple", .type "list"], false, rfl, upd_same, .cons (.ty _) (.cons (.ty _) .nil), .base (.non), kitAny_cons (b := false) (kit_ty (by decide +kernel)) (fun _ => kitAny_cons (b := false) (kit_ty (by decide +kernel)) (fun _ => kitAny_nil) (fun z => nomatch z)) (fun z => nomatch z), false, rfl, iteF ?_⟩⟩
    have s1 : Same H (upd H tp (.tup [.ty "tuple", .ty "list"])) := (Same.refl H).put ntp
    refine ⟨_, rfl, rfl, true, rfl, iteT (iteT ?_)⟩
    refine ⟨_, rfl, _, rfl, rfl, decide (V.non = V.non), rfl, ?_⟩
    rw [decide_eq_true rfl]
    refine iteT ?_
    refine ⟨_, rfl, _, "NoneType", false, rfl, .non, by decide +kernel, _, rfl, _, "NoneType", false, rfl, .non, by decide +kernel, rfl, ?_⟩
    exact q _ s1
  | bl _ b =>
    cases hy
    refine ⟨_, rfl, _, "bool", false, rfl, .bl b, by decide +kernel, false, rfl, iteF ?_⟩
    refine ⟨_, rfl, (by show 2 ≤ sizeLine; decide), fun tp ntp => ⟨_, tp, _, .type "bool", [.type "tuple", .type "list"], false, rfl, upd_same, .cons (.ty _) (.cons (.ty _) .nil), .base (.bl b), kitAny_cons (b := false) (kit_ty (by decide +kernel)) (fun _ => kitAny_cons (b := false) (kit_ty (by decide +kernel)) (fun _ => kitAny_nil) (fun z => nomatch z)) (fun z => nomatch z), false, rfl, iteF ?_⟩⟩
    have s1 : Same H (upd H tp (.tup [.ty "tuple", .ty "list"])) := (Same.refl H).put ntp
    refine ⟨_, rfl, rfl, false, rfl, iteF ⟨_, rfl, _, "bool", false, rfl, .bl b, by decide +kernel, false, rfl, iteF ?_⟩⟩
    refine ⟨_, rfl, _, "bool", true, rfl, .bl b, by decide +kernel, true, rfl, iteT ?_⟩
    refine ⟨_, rfl, _, "bool", true, rfl, .bl b, by decide +kernel, _, rfl, _, "bool", true, rfl, .bl b, by decide +kernel, rfl, true, rfl, iteT ?_⟩
    refine ⟨_, rfl, _, rfl, rfl, ?_⟩
    rw [decide_eq_true rfl]
    exact q _ s1
  | int _ i =>
    cases hy
    refine ⟨_, rfl, _, "int", false, rfl, .int i, by decide +kernel, false, rfl, iteF ?_⟩
    refine ⟨_, rfl, (by show 2 ≤ sizeLine; decide), fun tp ntp => ⟨_, tp, _, .type "int", [.type "tuple", .type "list"], false, rfl, upd_same, .cons (.ty _) (.cons (.ty _) .nil), .base (.int i), kitAny_cons (b := false) (kit_ty (by decide +kernel)) (fun _ => kitAny_cons (b := false) (kit_ty (by decide +kernel)) (fun _ => kitAny_nil) (fun z => nomatch z)) (fun z => nomatch z), false, rfl, iteF ?_⟩⟩
    have s1 : Same H (upd H tp (.tup [.ty "tuple", .ty "list"])) := (Same.refl H).put ntp
    refine ⟨_, rfl, rfl, false, rfl, iteF ⟨_, rfl, _, "int", false, rfl, .int i, by decide +kernel, false, rfl, iteF ?_⟩⟩
    refine ⟨_, rfl, _, "int", true, rfl, .int i, by decide +kernel, true, rfl, iteT ?_⟩
    refine ⟨_, rfl, _, "int", false, rfl, .int i, by decide +kernel, _, rfl, _, "int", false, rfl, .int i, by decide +kernel, rfl, true, rfl, iteT ?_⟩
    refine ⟨_, rfl, _, rfl, rfl, ?_⟩
    rw [decide_eq_true rfl]
    exact q _ s1
  | str _ x =>
    cases hy
    refine ⟨_, rfl, _, "str", false, rfl, .str x, by decide +kernel, false, rfl, iteF ?_⟩
    refine ⟨_, rfl, (by show 2 ≤ sizeLine; decide), fun tp ntp => ⟨_, tp, _, .type "str", [.type "tuple", .type "list"], false, rfl, upd_same, .cons (.ty _) (.cons (.ty _) .nil), .base (.str x), kitAny_cons (b := false) (kit_ty (by decide +kernel)) (fun _ => kitAny_cons (b := false) (kit_ty (by decide +kernel)) (fun _ => kitAny_nil) (fun z => nomatch z)) (fun z => nomatch z), false, rfl, iteF ?_⟩⟩
    have s1 : Same H (upd H tp (.tup [.ty "tuple", .ty "list"])) := (Same.refl H).put ntp
    refine ⟨_, rfl, rfl, false, rfl, iteF ⟨_, rfl, _, "str", true, rfl, .str x, by decide +kernel, true, rfl, iteT ?_⟩⟩
    refine ⟨_, rfl, _, rfl, rfl, decide (V.str x = V.str x), rfl, ?_⟩
    rw [decide_eq_true rfl]
    refine iteT ?_
    refine ⟨_, rfl, _, "str", true, rfl, .str x, by decide +kernel, _, rfl, _, "str", true, rfl, .str x, by decide +kernel, rfl, ?_⟩
    exact q _ s1
  | lst e l z all =>
    rename_i p xs ds
    cases hy with
    | lst e2 l2 z2 all2 =>
      rename_i q0 ys
      refine ⟨_, rfl, _, "list", false, rfl, .lst e2, by decide +kernel, false, rfl, iteF ?_⟩
      refine ⟨_, rfl, (by show 2 ≤ sizeLine; decide), fun tp ntp => ?_⟩
      have s1 : Same H (upd H tp (.tup [.ty "tuple", .ty "list"])) := (Same.refl H).put ntp
      refine ⟨_, tp, _, .type "list", [.type "tuple", .type "list"], true, rfl, upd_same, .cons (.ty _) (.cons (.ty _) .nil), .base (.lst (s1 _ _ e2)), kitAny_cons (b := false) (kit_ty (by decide +kernel)) (fun _ => kitAny_cons (b := true) (kit_ty (by decide +kernel)) (fun z => nomatch z) (fun _ => rfl)) (fun z => nomatch z), true, rfl, iteT ?_⟩
      refine ⟨_, rfl, (by show 2 ≤ sizeLine; decide), fun tp2 ntp2 => ?_⟩
      have s2 := s1.put' (o := .tup [.ty "tuple", .ty "list"]) ntp2
      refine ⟨_, tp2, _, .type "list", [.type "tuple", .type "list"], true, rfl, upd_same, .cons (.ty _) (.cons (.ty _) .nil), .base (.lst (s2 _ _ e)), kitAny_cons (b := false) (kit_ty (by decide +kernel)) (fun _ => kitAny_cons (b := true) (kit_ty (by decide +kernel)) (fun z => nomatch z) (fun _ => rfl)) (fun z => nomatch z), true, rfl, iteF ?_⟩
      refine ⟨_, rfl, _, "list", true, rfl, .lst (s2 _ _ e), by decide +kernel, _, rfl, _, "list", true, rfl, .lst (s2 _ _ e2), by decide +kernel, rfl, _, rfl, iteF ?_⟩
      refine ⟨_, rfl, p, _, rfl, .inl (sqL_of (s2 _ _ e)), _, rfl, q0, _, rfl, .inl (sqL_of (s2 _ _ e2)), rfl, _, rfl, ?_⟩
      have el : ((xs.length : Nat) : Int) = (ys.length : Nat) := by rw [l, l2]
      rw [el, decide_eq_true rfl]
      refine iteF ?_
      refine ⟨_, rfl, q0, _, rfl, .inl (sqL_of (s2 _ _ e2)), _, rfl, by omega, by omega, fun D nD => lc_it walk_range (fun i H' => Same H H' ∧ H' D = some (.lst [])) ⟨s2.put' nD, upd_same⟩ (fun _ _ _ _ => trivial) ?_ ?_⟩
      · rintro i y H2 H3 hi ⟨s3, e3⟩ ⟨rfl, hy⟩
        have hy : y = V.int (i : Nat) := by
          rw [hy]
          show V.int (0 + (i : Nat)) = _
          rw [Int.zero_add]
        subst hy
        have hi : i < ys.length := by simpa using hi
        have hix : i < xs.length := by omega
        have hid : i < ds.length := by omega
        refine ⟨rfl, _, rfl, _, rfl, .inl ⟨_, _, (i : Nat), _, rfl, rfl, sqL_of (s3 _ _ e), atI_nat (List.getElem?_eq_getElem hix), ?_⟩⟩
        refine ⟨_, rfl, _, rfl, .inl ⟨_, _, (i : Nat), _, rfl, rfl, sqL_of (s3 _ _ e2), atI_nat (List.getElem?_eq_getElem hi), ?_⟩⟩
        refine ⟨_, _, ds[i], rfl, (all i _ _ (List.getElem?_eq_getElem hix) (List.getElem?_eq_getElem hid)).same s3, (all2 i _ _ (List.getElem?_eq_getElem hi) (List.getElem?_eq_getElem hid)).same s3, fun H4 s4 => ⟨true, rfl, iteF ⟨s3.trans s4, s4 _ _ e3⟩⟩⟩
      · rintro H2 ⟨s3, e3⟩
        refine ⟨Nat.zero_le _, fun p2 np2 => ⟨.list [], .list [], .lst (sqL_of (by rw [upd_ne (ne_of_none e3 np2)]; exact e3)) .nil, .lst sqL_new .nil, rfl, rfl, q _ (s3.put' np2)⟩⟩
  | tup e l z all =>
    rename_i p xs ds
    cases hy with
    | tup e2 l2 z2 all2 =>
      rename_i q0 ys
      refine ⟨_, rfl, _, "tuple", false, rfl, .tup e2, by decide +kernel, false, rfl, iteF ?_⟩
      refine ⟨_, rfl, (by show 2 ≤ sizeLine; decide), fun tp ntp => ?_⟩
      have s1 : Same H (upd H tp (.tup [.ty "tuple", .ty "list"])) := (Same.refl H).put ntp
      refine ⟨_, tp, _, .type "tuple", [.type "tuple", .type "list"], true, rfl, upd_same, .cons (.ty _) (.cons (.ty _) .nil), .base (.tup (s1 _ _ e2)), kitAny_cons (b := true) (kit_ty (by decide +kernel)) (fun z => nomatch z) (fun _ => rfl), true, rfl, iteT ?_⟩
      refine ⟨_, rfl, (by show 2 ≤ sizeLine; decide), fun tp2 ntp2 => ?_⟩
      have s2 := s1.put' (o := .tup [.ty "tuple", .ty "list"]) ntp2
      refine ⟨_, tp2, _, .type "tuple", [.type "tuple", .type "list"], true, rfl, upd_same, .cons (.ty _) (.cons (.ty _) .nil), .base (.tup (s2 _ _ e)), kitAny_cons (b := true) (kit_ty (by decide +kernel)) (fun z => nomatch z) (fun _ => rfl), true, rfl, iteF ?_⟩
      refine ⟨_, rfl, _, "tuple", false, rfl, .tup (s2 _ _ e), by decide +kernel, _, rfl, _, "tuple", false, rfl, .tup (s2 _ _ e2), by decide +kernel, rfl, _, rfl, iteF ?_⟩
      refine ⟨_, rfl, p, _, rfl, .inr (sqT_of (s2 _ _ e)), _, rfl, q0, _, rfl, .inr (sqT_of (s2 _ _ e2)), rfl, _, rfl, ?_⟩
      have el : ((xs.length : Nat) : Int) = (ys.length : Nat) := by rw [l, l2]
      rw [el, decide_eq_true rfl]
      refine iteF ?_
      refine ⟨_, rfl, q0, _, rfl, .inr (sqT_of (s2 _ _ e2)), _, rfl, by omega, by omega, fun D nD => lc_it walk_range (fun i H' => Same H H' ∧ H' D = some (.lst [])) ⟨s2.put' nD, upd_same⟩ (fun _ _ _ _ => trivial) ?_ ?_⟩
      · rintro i y H2 H3 hi ⟨s3, e3⟩ ⟨rfl, hy⟩
        have hy : y = V.int (i : Nat) := by
          rw [hy]
          show V.int (0 + (i : Nat)) = _
          rw [Int.zero_add]
        subst hy
        have hi : i < ys.length := by simpa using hi
        have hix : i < xs.length := by omega
        have hid : i < ds.length := by omega
        refine ⟨rfl, _, rfl, _, rfl, .inr (.inl ⟨_, _, (i : Nat), _, rfl, rfl, sqT_of (s3 _ _ e), atI_nat (List.getElem?_eq_getElem hix), ?_⟩)⟩
        refine ⟨_, rfl, _, rfl, .inr (.inl ⟨_, _, (i : Nat), _, rfl, rfl, sqT_of (s3 _ _ e2), atI_nat (List.getElem?_eq_getElem hi), ?_⟩)⟩
        refine ⟨_, _, ds[i], rfl, (all i _ _ (List.getElem?_eq_getElem hix) (List.getElem?_eq_getElem hid)).same s3, (all2 i _ _ (List.getElem?_eq_getElem hi) (List.getElem?_eq_getElem hid)).same s3, fun H4 s4 => ⟨true, rfl, iteF ⟨s3.trans s4, s4 _ _ e3⟩⟩⟩
      · rintro H2 ⟨s3, e3⟩
        refine ⟨Nat.zero_le _, fun p2 np2 => ⟨.list [], .list [], .lst (sqL_of (by rw [upd_ne (ne_of_none e3 np2)]; exact e3)) .nil, .lst sqL_new .nil, rfl, rfl, q _ (s3.put' np2)⟩⟩
end
end Sc
namespace Sc
open PySem PySem.Spec PyProof.Rows L2
theorem strAt_inj {xs : List Str} {i : Nat} {x : Str} {v : V} (hx : xs[i]? = some x) (h : (xs.map V.str)[i]? = some v) : V.str x = v := by
  rw [List.getElem?_map, hx] at h
  exact Option.some.inj h
theorem find_none {n : Nat} {p : Nat → Bool} (h : ∀ j, j < n → p j = false) : (List.range n).find? p = none := by
  rw [List.find?_eq_none]
  intro j hj
  rw [h j (List.mem_range.mp hj)]
  exact Bool.false_ne_true
theorem find_at {n i : Nat} {p : Nat → Bool} (hi : i < n) (hp : p i = true) (h : ∀ j, j < i → p j = false) : (List.range n).find? p = some i := by
  rw [List.find?_range_eq_some]
  exact ⟨hp, List.mem_range.mpr hi, fun j hj => by rw [h j hj]; rfl⟩
/-- names that texts of a program may have -/
def Txts (xs : List Str) : Prop := ∀ x ∈ xs, x.length ≤ 1000
def errIx (C : Addr) (i : Nat) (H : Hp) (E : XK) : Prop := ∀ H' d, Same H H' → H' d = none → E (.ref C) (some d) (upd H' d (.xd [(("index" : Str), .int i)]))
theorem flat_strs : ∀ xs : List Str, (xs.map V.str).all flatV = true
  | [] => rfl
  | _ :: r => flat_strs r
theorem inV_str {x : Str} : ∀ xs : List Str, inV (.str x) (xs.map V.str) = decide (x ∈ xs)
  | [] => rfl
  | y :: r => by
    show (eqV (.str y) (.str x) || inV (.str x) (r.map V.str)) = _
    rw [inV_str r]
    show ((y == x) || _) = _
    by_cases h : y = x
    · subst h
      simp
    · have e : (y == x) = false := by simpa using h
      rw [e, Bool.false_or]
      simp [List.mem_cons, show ¬ x = y from fun z => h z.symm]
end Sc
namespace Sc
open PySem PySem.Spec PyProof.Rows L2
/-! ### conditions -/
abbrev s_check_part : Stmt := topS 28
theorem sc_check_part : FnScope ["part", "names", "before", "index", "name", "wrong"] ["part", "names", "before"] (defScope s_check_part) := ⟨rfl, rfl, rfl, by decide +kernel, rfl, by decide +kernel, by decide +kernel⟩
abbrev s_merged : Stmt := topS 29
theorem sc_merged : FnScope ["names", "others", "name"] ["names", "others"] (defScope s_merged) := ⟨rfl, rfl, rfl, by decide +kernel, rfl, by decide +kernel, by decide +kernel⟩
theorem filter1 {α : Type} (p : α → Bool) (y : α) : List.filter p [y] = if p y = true then [y] else [] := by cases h : p y <;> simp [List.filter, h]
section
variable {P : Program} {w : World} {K : PySem.W.Frag} {mg : Str → Option Value} {base : Heap} {CC : Addr}
/-- the i-th name of a part is wrong; ys the part ahead of it -/
def wrongAt (xs ys : List Str) (i : Nat) : Bool := match xs[i]? with
  | some x => (!isName x || !risesAt xs i) || (decide (8 ≤ ys.length + i) || decide (x ∈ ys))
  | none => false
def firstWrong (xs ys : List Str) : Option Nat := (List.range xs.length).find? (wrongAt xs ys)
def errPI (C : Addr) (part : Int) (i : Nat) (H : Hp) (E : XK) : Prop := ∀ H' d, Same H H' → H' d = none → E (.ref C) (some d) (upd H' d (.xd [(("index" : Str), .int i), (("part" : Str), .int part)]))
def sp_check_part (K : PySem.W.Frag) (C : Addr) : Sp := fun vs H Q E => ∃ (part : Nat) (a b : Addr) (xs ys : List Str), vs = [.int part, .ref a, .ref b] ∧ part ≤ 1 ∧ SqT K H a (xs.map V.str) ∧ SqT K H b (ys.map V.str) ∧ Txts xs ∧ xs.length ≤ 1000 ∧ ys.length ≤ 1000 ∧
  (firstWrong xs ys = none → ∀ H', Same H H' → Q .non H') ∧ (∀ i, firstWrong xs ys = some i → errPI C part i H E)
theorem ok_check_part {f : Addr} {fd : FuncData} (F : Fun K "check_part" "check_part" s_check_part f fd) (B : Blt mg) (mM : ∃ t, mg "MOST_NAMES" = some (.int 8 t))
    (e_InvalidCondition : ErrMk P w K mg base "InvalidCondition" CC ["self", "part", "index"] (sp_init2 CC "part" "index")) (c_is_name : Cal P w K mg base CX0 1 "is_name" ["value"] sp_is_name) (c_rises : Cal P w K mg base CX0 1 "rises" ["names", "index"] (sp_rises K)) :
    FnOk P w K mg base (L2.CX P w) 3 f fd ["part", "names", "before"] (sp_check_part K CC) := by
  obtain ⟨t1, mM⟩ := mM
  refine F.okX sc_check_part (fun vs H Q E h => by obtain ⟨part, a, b, xs, ys, rfl, _⟩ := h; rfl) (fun cdv A outer s H vs Q E hr h => ?_)
  obtain ⟨part, a, b, xs, ys, rfl, hp, hS, hY, hT, hl, hly, q, e⟩ := h
  refine ⟨_, (pss_one (ps_for (passes_of rfl) rfl (pi_enumT (by rfl) B.b_enumerate (pa_cons (pv 1) pa_nil)) (pg_tup (by rfl) (pgs_cons (pg_name (i := 3) sc_check_part.nd rfl (Or.inl rfl)) (pgs_cons (pg_name (i := 4) sc_check_part.nd rfl (Or.inl rfl)) pgs_nil))) (pss_cons (ps_set (i := 5) sc_check_part.nd rfl (Or.inl rfl) (pe_or (pe_not (pe_cal c_is_name (hr.mono (by decide)) (pa_cons (pv 4) pa_nil))) (pe_one (pe_not (pe_cal c_rises (hr.mono (by decide)) (pa_cons (pv 1) (pa_cons (pv 3) pa_nil)))))))
      (pss_one (ps_if (PW.pt (pw_or (pt_val (pv 5)) (pw_or (pt_cmpR op_ge (pe_op op_add (pe_callB call_len_seq (by rfl) B.b_len PySem.boot_len (pa_cons (pv 2) pa_nil)) (pv 3)) (pe_glob (v := .int 8) rfl mM ⟨_, rfl⟩) (nomark _)) (pw_or1 (pt_cmpR op_in_seq (pv 4) (pv 2) rfl))))) (pss_one (ps_raise rfl (takes_of rfl rfl rfl rfl) (pmk_err2 e_InvalidCondition (hr.mono (by decide)) (pv 0) (pv 3)))) pss_nil))))), ?_⟩
  refine ⟨.ref a, rfl, a, _, rfl, hS, for_it walk_enumT (fun i σ H' => ∃ y1 y2 y3, σ = [some (.int part), some (.ref a), some (.ref b), y1, y2, y3] ∧ Same H H' ∧ ∀ j, j < i → wrongAt xs ys j = false)
    ⟨none, none, none, rfl, Same.refl H, fun j hj => absurd hj (Nat.not_lt_zero j)⟩ (fun i σ H' _ ⟨_, _, _, _, s, _⟩ => s.tup hS) ?_ ?_⟩
  · rintro i x σ H2 H3 hi ⟨y1, y2, y3, rfl, s, hb⟩ ⟨T, v1, v2, rfl, nT, rfl, h1, h2⟩
    obtain rfl : V.int (i : Nat) = v1 := Option.some.inj h1
    rw [List.length_map] at hi
    have hx : xs[i]? = some xs[i] := List.getElem?_eq_getElem hi
    obtain rfl : V.str xs[i] = v2 := strAt_inj hx h2
    have s3 : Same H (upd H2 T (.tup [.int (i : Nat), .str xs[i]])) := s.put' nT
    have rz : ∀ {H' : Hp}, wrongAt xs ys i = true → Same H H' → ∀ d, H' d = none → E (.ref CC) (some d) (upd H' d (.xd [(("index" : Str), .int (i : Nat)), (("part" : Str), .int part)])) := fun {H'} hp sH d nd => e i (find_at hi hp hb) H' d sH nd
    refine ⟨T, [.int (i : Nat), .str xs[i]], rfl, sqT_new, rfl, _, _, rfl, _, _, rfl, rfl, ?_⟩
    have ew : wrongAt xs ys i = ((!isName xs[i] || !risesAt xs i) || (decide (8 ≤ ys.length + i) || decide (xs[i] ∈ ys))) := by unfold wrongAt; rw [hx]
    have fk : FOk (.int part) ∧ FOk (.int (i : Nat)) := ⟨fok_nat (by omega), fok_nat (by omega)⟩
    refine ⟨_, rfl, xs[i], rfl, Nat.le_trans (hT _ (List.getElem_mem hi)) (by rw [sizeLine_eq]; decide), fun H4 s4 => ⟨_, rfl, _, rfl, bcase (fun c1 => ?_) (fun c1 => ?_)⟩⟩
    · exact ⟨_, rfl, _, rfl, iteT (iteT ⟨_, rfl, _, rfl, fk, rz (by rw [ew, c1, Bool.true_or, Bool.true_or]) (s3.trans s4)⟩)⟩
    · have s5 := s3.trans s4
      rw [c1, Bool.false_or] at ew
      refine ⟨.ref a, rfl, .int i, rfl, a, xs, i, rfl, s5.tup hS, hi, _, rfl, ?_⟩
      refine ⟨_, rfl, _, rfl, bcase (fun c2 => ?_) (fun c2 => ?_)⟩
      · exact iteT ⟨_, rfl, _, rfl, fk, rz (by rw [ew, c2, Bool.true_or]) s5⟩
      · rw [c2, Bool.false_or] at ew
        refine ⟨.ref b, rfl, b, _, rfl, .inr (s5.tup hY), .int i, rfl, _, i, rfl, rfl, _, 8, rfl, rfl, _, rfl, ?_⟩
        rw [List.length_map]
        by_cases h8 : 8 ≤ ys.length + i
        · rw [decide_eq_true (show (8 : Int) ≤ (ys.length : Int) + (i : Int) by omega)]
          exact iteT (iteT ⟨_, rfl, _, rfl, fk, rz (by rw [ew, decide_eq_true h8, Bool.true_or]) s5⟩)
        · rw [decide_eq_false (show ¬ (8 : Int) ≤ (ys.length : Int) + (i : Int) by omega)]
          rw [decide_eq_false h8, Bool.false_or] at ew
          refine iteF ⟨.str xs[i], rfl, .ref b, rfl, b, _, rfl, .inr (s5.tup hY), rfl, flat_strs ys, _, rfl, bcase (fun c3 => ?_) (fun c3 => ?_)⟩
          · have c3 : decide (xs[i] ∈ ys) = true := by rw [← inV_str]; exact c3
            exact ⟨_, rfl, _, rfl, fk, rz (by rw [ew, c3]) s5⟩
          · have c3 : decide (xs[i] ∈ ys) = false := by rw [← inV_str]; exact c3
            refine ⟨_, _, _, rfl, s5, fun j hj => ?_⟩
            by_cases hj2 : j < i
            · exact hb j hj2
            · have ej : j = i := by omega
              subst ej
              rw [ew, c3]
  · rintro σ H2 ⟨y1, y2, y3, rfl, s, hb⟩
    rw [List.length_map] at hb
    exact q (find_none hb) H2 s
def sp_merged (K : PySem.W.Frag) : Sp := fun vs H Q _ => ∃ (a b : Addr) (xs ys : List Str), vs = [.ref a, .ref b] ∧ SqT K H a (xs.map V.str) ∧ SqT K H b (ys.map V.str) ∧ xs.length + ys.length < 64 ∧
  ∀ H' p (zs : List Str), Same H H' → H' p = some (.tup (zs.map V.str)) → zs.Perm (xs ++ ys.filter fun y => !decide (y ∈ xs)) → sortedS zs = true → Q (.ref p) H'
theorem ok_merged {f : Addr} {fd : FuncData} (F : Fun K "merged" "merged" s_merged f fd) (B : Blt mg) : FnOk P w K mg base CX0 1 f fd ["names", "others"] (sp_merged K) := by
  refine F.ok sc_merged (fun vs H Q E h => by obtain ⟨a, b, xs, ys, rfl, _⟩ := h; rfl) (fun cdv A outer s H vs Q E hr h => ?_)
  obtain ⟨a, b, xs, ys, rfl, hS, hY, hl, q⟩ := h
  refine ⟨_, (pss_one (ps_ret (pe_callTy call_tuple_of (by rfl) B.b_tuple PyProof.Rows.boot_tuple (pa_cons (pe_callB cr_sortedS (by rfl) B.b_sorted (by decide +kernel) (pa_cons (pe_op op_cat (pe_callTy call_list_of (by rfl) B.b_list PyProof.Rows.boot_list (pa_cons (pv 0) pa_nil)) (pe_lc (own := [("name", 2)]) (g := gName 2) rfl sc_merged.nd (pi_tup (pv 1)) (blkOk_by (own := [("name", 2)]) (N := ["names", "others", "name"]) (sc := defScope s_merged) (by decide +kernel)) (fun _ _ _ _ _ => (pg_name (i := 2) sc_merged.nd rfl (Or.inl rfl))) (fun _ _ _ _ _ => (pts_.re (pts_one (pt_cmpR op_notIn_seq (pv 2) (pv 0) rfl)) (by first | (dsimp only [Cx.blk]; done) | exact rfl))) (fun _ _ _ _ _ => (pe_.re (pv 2) (by first | (dsimp only [Cx.blk]; done) | exact rfl))))) pa_nil)) pa_nil)))), ?_⟩
  have big : ∀ {m : Nat}, m ≤ 1000 → m ≤ sizeLine := fun {m} h => by rw [sizeLine_eq]; omega
  refine ⟨.ref a, rfl, a, _, rfl, .inr hS, fun l nl => ?_⟩
  have s1 := (Same.refl H).put (o := .lst (xs.map V.str)) nl
  have e1 : (upd H l (.lst (xs.map V.str))) l = some (.lst (xs.map V.str)) := upd_same
  generalize upd H l (.lst (xs.map V.str)) = H1 at s1 e1 ⊢
  refine ⟨.ref b, rfl, b, rfl, ⟨_, s1.tup hY⟩, fun D nD => lc_it walk_tup (fun i H' => Same H1 H' ∧ H' D = some (.lst (((ys.take i).filter fun y => !decide (y ∈ xs)).map V.str))) ⟨(Same.refl H1).put nD, upd_same⟩ (fun _ _ _ h => (s1.trans h.1).tup hY) ?_ ?_⟩
  · rintro i y H2 H3 hi ⟨s, e⟩ ⟨rfl, hy⟩
    rw [List.length_map] at hi
    have hx : ys[i]? = some ys[i] := List.getElem?_eq_getElem hi
    obtain rfl : V.str ys[i] = y := strAt_inj hx hy
    refine ⟨rfl, .str ys[i], rfl, .ref a, rfl, a, _, rfl, .inr ((s1.trans s).tup hS), rfl, flat_strs xs, _, rfl, bcase (fun c1 => ?_) (fun c1 => ?_)⟩
    · have c1 : (!decide (ys[i] ∈ xs)) = true := by rw [← inV_str]; exact c1
      refine ⟨_, rfl, grow (acc := fun i => ((ys.take i).filter fun y => !decide (y ∈ xs)).map V.str) nD s e ?_ ?_⟩
      · rw [List.length_map]
        refine small1000 (Nat.le_trans (List.length_filter_le _ _) ?_)
        rw [List.length_take]
        omega
      · show List.map V.str _ = _
        rw [take_more hx, List.filter_append, List.map_append, filter1, if_pos c1]
        rfl
    · have c1 : (!decide (ys[i] ∈ xs)) = false := by rw [← inV_str]; exact c1
      refine ⟨s, ?_⟩
      rw [take_more hx, List.filter_append, filter1, if_neg (by rw [c1]; exact Bool.false_ne_true), List.append_nil]
      exact e
  · rintro H2 ⟨s, e⟩
    rw [List.length_map, List.take_length] at e
    have hfl := List.length_filter_le (fun y => !decide (y ∈ xs)) ys
    refine ⟨l, D, _, _, rfl, rfl, s _ _ e1, e, big (by rw [List.length_map, List.length_map]; omega), fun p np => ?_⟩
    have s2 := (s1.trans s).put' (o := .lst (xs.map V.str ++ (ys.filter fun y => !decide (y ∈ xs)).map V.str)) np
    refine ⟨p, xs ++ ys.filter fun y => !decide (y ∈ xs), rfl, ?_, ?_, fun zs p2 hp hs np2 => ?_⟩
    · rw [List.map_append]
      exact sqL_new
    · rw [List.length_append]
      omega
    · refine ⟨p2, _, rfl, .inl ⟨sqL_new, fun p3 np3 => q _ p3 zs ((s2.put' np2).put' np3) upd_same hp hs⟩⟩
end
end Sc
namespace Sc
open PySem PySem.Spec PyProof.Rows L2
/-! ### an object Condition -/
abbrev s_Condition___init__ : Stmt := (inClass (topS 27) 0)
theorem sc_Condition___init__ : FnScope ["self", "holding", "failing"] ["self", "holding", "failing"] (defScope s_Condition___init__) := ⟨rfl, rfl, rfl, by decide +kernel, rfl, by decide +kernel, by decide +kernel⟩
section
variable {P : Program} {w : World} {K : PySem.W.Frag} {mg : Str → Option Value} {base : Heap} {CC C : Addr}
theorem wrongs_none {xs ys : List Str} (h : firstWrong xs ys = none) (i : Nat) (hi : i < xs.length) : ((!isName xs[i] || !risesAt xs i) = false ∧ ¬ 8 ≤ ys.length + i) ∧ ¬ xs[i] ∈ ys := by
  unfold firstWrong at h
  rw [List.find?_eq_none] at h
  have h := (Bool.not_eq_true _).mp (h i (List.mem_range.mpr hi))
  unfold wrongAt at h
  rw [List.getElem?_eq_getElem hi] at h
  dsimp only at h
  rw [Bool.or_eq_false_iff, Bool.or_eq_false_iff (x := decide _)] at h
  exact ⟨⟨h.1, of_decide_eq_false h.2.1⟩, of_decide_eq_false h.2.2⟩
theorem fw_len {xs ys : List Str} (h : firstWrong xs ys = none) : xs.length = 0 ∨ ys.length + xs.length ≤ 8 := by
  by_cases e : xs.length = 0
  · exact .inl e
  · have := (wrongs_none h (xs.length - 1) (by omega)).1.2
    exact .inr (by omega)
theorem fw_out {xs ys : List Str} (h : firstWrong xs ys = none) : ∀ x ∈ xs, ¬ x ∈ ys := by
  intro x hx
  obtain ⟨i, hi, rfl⟩ := List.getElem_of_mem hx
  exact (wrongs_none h i hi).2
theorem filter_out {xs ys : List Str} (h : ∀ x ∈ xs, ¬ x ∈ ys) : xs.filter (fun x => !decide (x ∈ ys)) = xs := by
  rw [List.filter_eq_self]
  intro x hx
  rw [decide_eq_false (h x hx)]
  rfl
/-- all but the object at x stands -/
def SameX (x : Addr) (H H' : Hp) : Prop := ∀ b o, b ≠ x → H b = some o → H' b = some o
/-- the fields of a condition -/
def condF (a b n : Addr) : List (Str × V) := putF "_names" (.ref n) (putF "_failing" (.ref b) (putF "_holding" (.ref a) []))
def sp_cond_init (K : PySem.W.Frag) (C CC : Addr) : Sp := fun vs H Q E => ∃ (x dx a b : Addr) (xs ys : List Str), vs = [.ref x, .ref a, .ref b] ∧ H x = some (.ins C dx []) ∧ SqT K H a (xs.map V.str) ∧ SqT K H b (ys.map V.str) ∧ Txts xs ∧ Txts ys ∧ xs.length ≤ 1000 ∧ ys.length ≤ 1000 ∧
  (∀ i, firstWrong xs [] = some i → errPI CC ((0 : Nat) : Int) i H E) ∧ (firstWrong xs [] = none → (∀ i, firstWrong ys xs = some i → errPI CC ((1 : Nat) : Int) i H E) ∧
  (firstWrong ys xs = none → ∀ H' n zs, SameX x H H' → H' x = some (.ins C dx (condF a b n)) → H' n = some (.tup (zs.map V.str)) → zs.Perm (xs ++ ys) → sortedS zs = true → Q .non H'))
theorem sqT_upd {H : Hp} {x dx a' : Addr} {fs : List (Str × V)} {o : HO} {vs : List V} (hx : H x = some (.ins C dx fs)) (h : SqT K H a' vs) : SqT K (upd H x o) a' vs := by
  rcases h with (h | ⟨ob, h⟩) | h
  · have ne : a' ≠ x := fun e => by rw [e, hx] at h; cases h
    exact .inl (.inl (by rw [upd_ne ne]; exact h))
  · have ne : a' ≠ x := fun e => by rw [e, hx] at h; cases h
    exact .inl (.inr ⟨ob, by rw [upd_ne ne]; exact h⟩)
  · exact .inr h
theorem putF_len (f : Str) (v : V) : ∀ fs : List (Str × V), (putF f v fs).length ≤ fs.length + 1
  | [] => Nat.le_refl 1
  | (g, x) :: r => by
    unfold putF
    split
    · exact Nat.le_succ _
    · show (putF f v r).length + 1 ≤ r.length + 1 + 1
      exact Nat.succ_le_succ (putF_len f v r)
theorem ok_cond_init {f : Addr} {fd : FuncData} (F : Fun K "__init__" "Condition.__init__" s_Condition___init__ f fd) (B : Blt mg) (T : Cls K C) (n1 : NoAttr K C "_holding") (n2 : NoAttr K C "_failing") (n3 : NoAttr K C "_names")
    (c_check_part : Cal P w K mg base (L2.CX P w) 3 "check_part" ["part", "names", "before"] (sp_check_part K CC)) (c_merged : Cal P w K mg base CX0 1 "merged" ["names", "others"] (sp_merged K)) :
    FnOk P w K mg base (L2.CX P w) 4 f fd ["self", "holding", "failing"] (sp_cond_init K C CC) := by
  refine F.okX sc_Condition___init__ (fun vs H Q E h => by obtain ⟨x, dx, a, b, xs, ys, rfl, _⟩ := h; rfl) (fun cdv A outer s H vs Q E hr h => ?_)
  obtain ⟨x, dx, a, b, xs, ys, rfl, hx, hA, hB, tA, tB, lA, lB, e0, q⟩ := h
  refine ⟨_, (pss_cons (ps_expr (pe_calX c_check_part (hr.mono (by decide)) (takes_of rfl rfl rfl rfl) (pa_cons pe_int (pa_cons (pv 1) (pa_cons (pe_tup pa_nil) pa_nil)))))
      (pss_cons (ps_expr (pe_calX c_check_part (hr.mono (by decide)) (takes_of rfl rfl rfl rfl) (pa_cons pe_int (pa_cons (pv 2) (pa_cons (pv 1) pa_nil)))))
      (pss_cons (ps_fld (pv 0) (pv 1) rfl)
      (pss_cons (ps_fld (pv 0) (pv 2) rfl)
      (pss_one (ps_fld (pv 0) (pe_cal c_merged (hr.mono (by decide)) (pa_cons (pv 1) (pa_cons (pv 2) pa_nil))) rfl)))))), ?_⟩
  refine ⟨.ref a, rfl, Nat.zero_le _, fun t nt => ⟨0, a, t, xs, [], rfl, by decide, ((Same.refl H).put nt).tup hA, sqT_new, tA, lA, by decide, fun e1 H1 s1 => ?_, fun i ei H' d sH nd => e0 i ei H' d (((Same.refl H).put nt).trans sH) nd⟩⟩
  obtain ⟨e1', q⟩ := q e1
  have s1 := ((Same.refl H).put nt).trans s1
  refine ⟨.ref b, rfl, .ref a, rfl, 1, b, a, ys, xs, rfl, by decide, s1.tup hB, s1.tup hA, tB, lB, lA, fun e2 H2 s2 => ?_, fun i ei H' d sH nd => e1' i ei H' d (s1.trans sH) nd⟩
  have s2 := s1.trans s2
  have q := q e2
  have hlen : xs.length + ys.length < 64 := by
    have h1 := fw_len e1
    have h2 := fw_len e2
    simp only [List.length_nil] at h1
    omega
  have hx2 := s2 _ _ hx
  refine ⟨.ref a, rfl, .ref x, rfl, x, C, dx, [], rfl, hx2, T, n1, by decide, ?_⟩
  refine ⟨.ref b, rfl, .ref x, rfl, x, C, dx, _, rfl, upd_same, T, n2, Nat.lt_of_le_of_lt (putF_len _ _ _) (by decide), ?_⟩
  refine ⟨.ref a, rfl, .ref b, rfl, a, b, xs, ys, rfl, ?_, ?_, hlen, fun H' p zs sH ep hperm hsort => ?_⟩
  · exact sqT_upd upd_same (sqT_upd hx2 (s2.tup hA))
  · exact sqT_upd upd_same (sqT_upd hx2 (s2.tup hB))
  · rw [filter_out (fw_out e2)] at hperm
    refine ⟨.ref x, rfl, x, C, dx, _, rfl, sH _ _ upd_same, T, n3, Nat.lt_of_le_of_lt (putF_len _ _ _) (Nat.lt_of_le_of_lt (Nat.succ_le_succ (putF_len _ _ _)) (by decide)), q _ p zs (fun b' o ne hb => ?_) upd_same ?_ hperm hsort⟩
    · rw [upd_ne ne]
      refine sH _ _ ?_
      rw [upd_ne ne, upd_ne ne]
      exact s2 _ _ hb
    · have ne : p ≠ x := fun e => by
        have h2 := sH _ _ (upd_same (H := upd H2 x (.ins C dx (putF "_holding" (.ref a) []))) (a := x) (o := .ins C dx (putF "_failing" (.ref b) (putF "_holding" (.ref a) []))))
        rw [e, h2] at ep
        cases ep
      rw [upd_ne ne]
      exact ep
end
end Sc
namespace Sc
open PySem PySem.Spec PyProof.Rows L2
/-- texts that can be compared and are not long -/
def Fine (x : Str) : Prop := x.length ≤ 1000 ∧ (PyData.str x).canLay0 = true
def Fines (xs : List Str) : Prop := ∀ x ∈ xs, Fine x
section
variable {P : Program} {w : World} {K : PySem.W.Frag} {mg : Str → Option Value} {base : Heap} {a l : Addr} {H H' H'' : Hp}
theorem Fines.txts {xs : List Str} (h : Fines xs) : Txts xs := fun x hx => (h x hx).1
theorem dps (K : PySem.W.Frag) (H : Hp) : ∀ xs : List Str, DpAll K H (xs.map V.str) (xs.map PyData.str)
  | [] => .nil
  | x :: r => .cons (.str x) (dps K H r)
theorem strs_lay : ∀ {xs : List Str}, Fines xs → PyData.canLayAll0 (xs.map PyData.str) = true
  | [], _ => rfl
  | x :: r, h => by
    show ((PyData.str x).canLay0 && PyData.canLayAll0 (r.map PyData.str)) = true
    rw [(h x List.mem_cons_self).2, strs_lay fun y hy => h y (List.mem_cons_of_mem x hy)]
    rfl
theorem strs_depth : ∀ xs : List Str, PyData.depthAll (xs.map PyData.str) = 0
  | [] => rfl
  | x :: r => by
    show max (PyData.str x).depth (PyData.depthAll (r.map PyData.str)) = 0
    rw [strs_depth r]
    rfl
theorem shT {xs : List Str} (h : Fines xs) : SeqAt.shaped (.tuple (xs.map PyData.str)) = true := by
  unfold SeqAt.shaped
  have e1 : (PyData.tuple (xs.map PyData.str)).canLay0 = true := strs_lay h
  have e2 : (PyData.tuple (xs.map PyData.str)).depth = 1 := by show PyData.depthAll (xs.map PyData.str) + 1 = 1; rw [strs_depth]
  rw [e1, e2]
  rfl
theorem shL {xs : List Str} (h : Fines xs) : SeqAt.shaped (.list (xs.map PyData.str)) = true := by
  unfold SeqAt.shaped
  have e1 : (PyData.list (xs.map PyData.str)).canLay0 = true := strs_lay h
  have e2 : (PyData.list (xs.map PyData.str)).depth = 1 := by show PyData.depthAll (xs.map PyData.str) + 1 = 1; rw [strs_depth]
  rw [e1, e2]
  rfl
theorem eqvA_nil : ∀ xs : List Str, PyData.eqvAll (xs.map PyData.str) [] = decide (xs = [])
  | [] => rfl
  | _ :: _ => rfl
theorem eqvA : ∀ xs ys : List Str, PyData.eqvAll (xs.map PyData.str) (ys.map PyData.str) = decide (xs = ys)
  | [], [] => rfl
  | [], _ :: _ => rfl
  | _ :: _, [] => rfl
  | x :: r, y :: t => by
    show ((x == y) && PyData.eqvAll (r.map PyData.str) (t.map PyData.str)) = _
    rw [eqvA r t]
    by_cases h : x = y
    · subst h
      simp
    · have e : (x == y) = false := by simpa using h
      rw [e, Bool.false_and, decide_eq_false fun z => h (List.cons.inj z).1]
def chr1 (c : Nat) : Str := ⟨#[c]⟩
def oddL (x : Str) (i : Nat) : List Str := ((x.cps.toList.take i).filter fun c => !decide (c ∈ letters.cps.toList)).map chr1
theorem oddL_len {x : Str} {i : Nat} : (oddL x i).length ≤ x.length := by
  unfold oddL
  rw [List.length_map]
  exact Nat.le_trans (List.length_filter_le _ _) (by rw [List.length_take]; exact Nat.min_le_right _ _)
theorem oddL_fine {x : Str} {i : Nat} (h : Fine x) : Fines (oddL x i) := by
  intro y hy
  unfold oddL at hy
  obtain ⟨c, hc, rfl⟩ := List.mem_map.mp hy
  have hc := List.mem_of_mem_take (List.mem_filter.mp hc).1
  refine ⟨(show 1 ≤ 1000 by decide), ?_⟩
  have h2 : PyData.strOk x = true := h.2
  show PyData.strOk (chr1 c) = true
  unfold PyData.strOk at h2 ⊢
  rw [Array.all_eq_true'] at h2
  have h3 := h2 c (by rw [← Array.mem_toList_iff]; exact hc)
  rw [Array.all_eq_true']
  intro y hy
  have ey : y = c := by
    have hy : y ∈ (#[c] : Array Nat) := hy
    simpa using hy
  subst ey
  exact h3
theorem oddL_nil {x : Str} : decide (oddL x x.length = []) = isLetters x := by
  have el : x.cps.toList.take x.length = x.cps.toList := List.take_of_length_le (by rw [Array.length_toList]; exact Nat.le_refl _)
  unfold oddL isLetters
  rw [el]
  cases h : x.cps.toList.all fun c => decide (c ∈ letters.cps.toList) with
  | true =>
    rw [List.all_eq_true] at h
    have e : (x.cps.toList.filter fun c => !decide (c ∈ letters.cps.toList)) = [] := by
      rw [List.filter_eq_nil_iff]
      intro c hc z
      rw [h c hc] at z
      cases z
    rw [e]
    rfl
  | false =>
    rw [decide_eq_false]
    intro z
    have z := List.map_eq_nil_iff.mp z
    rw [List.filter_eq_nil_iff] at z
    rw [List.all_eq_false] at h
    obtain ⟨c, hc, hn⟩ := h
    exact z c hc (by cases e : decide (c ∈ letters.cps.toList) with | true => exact absurd e hn | false => rfl)
theorem risesAt_eq {xs : List Str} {i : Nat} (hi : i < xs.length) (h0 : i ≠ 0) (h1 : i - 1 < xs.length) : risesAt xs i = decide (xs[i - 1].cps.toList < xs[i].cps.toList) := by
  unfold risesAt
  rw [decide_eq_false h0, Bool.false_or, List.getElem?_eq_getElem h1, List.getElem?_eq_getElem hi]
theorem risesAt_0 {xs : List Str} : risesAt xs 0 = true := rfl
theorem strG {xs : List Str} {i : Nat} (hi : i < xs.length) : (xs.map V.str)[i]? = some (.str xs[i]) := by rw [List.getElem?_map, List.getElem?_eq_getElem hi]; rfl
theorem small_lim {z : Int} (h0 : 0 ≤ z) (h1 : z ≤ 1000) : z.natAbs.log2 < 9000 := by
  by_cases e : z.natAbs = 0
  · rw [e]; decide
  · exact (Nat.log2_lt e).mpr (Nat.lt_of_le_of_lt (show z.natAbs ≤ 2 ^ 10 by omega) (Nat.pow_lt_pow_right (by decide) (by decide)))
end
end Sc
namespace Sc
open PySem PySem.Spec PyProof.Rows L2
abbrev s__law_due : Stmt := topS 36
theorem sc__law_due : FnScope ["_law_parts", "_law_part", "_law_k", "_law_name", "_law_odd", "_law_late", "_law_many", "_law_sign"] ["_law_parts"] (defScope s__law_due) := ⟨rfl, rfl, rfl, by decide +kernel, rfl, by decide +kernel, by decide +kernel⟩
section
variable {P : Program} {w : World} {K : PySem.W.Frag} {mg : Str → Option Value} {base : Heap} {a l : Addr} {H H' H'' : Hp}
def condBad (xs ys : List Str) : Option (Nat × Nat) := match firstWrong xs [] with
  | some i => some (0, i)
  | none => match firstWrong ys xs with
    | some i => some (1, i)
    | none => none
def dueC : Option (Nat × Nat) → List V
  | none => [.str "none"]
  | some (p, i) => [.str "condition", .int p, .int i]
def sp_due (K : PySem.W.Frag) : Sp := fun vs H Q _ => ∃ (t a b : Addr) (xs ys : List Str), vs = [.ref t] ∧ SqT K H t [.ref a, .ref b] ∧ SqT K H a (xs.map V.str) ∧ SqT K H b (ys.map V.str) ∧ Fines xs ∧ Fines ys ∧ xs.length ≤ 1000 ∧ ys.length ≤ 1000 ∧
  ∀ H' p, Same H H' → H' p = some (.tup (dueC (condBad xs ys))) → Q (.ref p) H'
theorem wk_ps {X : Cx} {st : Stmt} {t : TS} (t' : TS) (h : PS X st t) (w : ∀ D σ H, t' D σ H → t D σ H) : PS X st t' := ⟨fun pins s σ H D I x => h.run pins s σ H D I (w D σ H x)⟩
/-- whether the name comes too early -/
def tLate (K : PySem.W.Frag) : TS := fun D σ H => ∃ (t ad : Addr) (ps : List V) (X : List Str) (j k : Nat) (x : Str), σ[0]? = some (some (.ref t)) ∧ σ[1]? = some (some (.int j)) ∧ σ[2]? = some (some (.int k)) ∧ σ[3]? = some (some (.str x)) ∧ SqT K H t ps ∧ ps[j]? = some (.ref ad) ∧
  SqT K H ad (X.map V.str) ∧ X[k]? = some x ∧ D.nx (σ.set 5 (some (.bl (!risesAt X k)))) H
theorem ok_due {f : Addr} {fd : FuncData} (F : Fun K "_law_due" "_law_due" s__law_due f fd) (B : Blt mg) : FnOk P w K mg base CX0 1 f fd ["_law_parts"] (sp_due K) := by
  refine F.ok sc__law_due (fun vs H Q E h => by obtain ⟨t, a, b, xs, ys, rfl, _⟩ := h; rfl) (fun cdv A outer s H vs Q E hr h => ?_)
  obtain ⟨t, a, b, xs, ys, rfl, hP, hA, hB, fA, fB, lA, lB, q⟩ := h
  refine ⟨_, (pss_cons (ps_for PassesOwn.never rfl (pi_range1 (by rfl) B.b_range (pa_cons pe_int pa_nil)) (pg_name (i := 1) sc__law_due.nd rfl (Or.inl rfl)) (pss_one (ps_for PassesOwn.never rfl (pi_range1 (by rfl) B.b_range (pa_cons (pe_callB call_len_seq (by rfl) B.b_len PySem.boot_len (pa_cons (pe_ix ix_tup (pv 0) (pv 1) (fun _ _ => rfl)) pa_nil)) pa_nil)) (pg_name (i := 2) sc__law_due.nd rfl (Or.inl rfl)) (pss_cons (ps_set (i := 3) sc__law_due.nd rfl (Or.inl rfl) (pe_ix ix_tup (pe_ix ix_tup (pv 0) (pv 1) (fun _ _ => rfl)) (pv 2) (fun _ _ => rfl)))
      (pss_cons (ps_setLc (i := 4) (own := [("_law_sign", 7)]) (g := gName 7) rfl sc__law_due.nd rfl rfl (sw_true rfl rfl rfl (by decide +kernel)) (pi_str (pv 3)) (blkOk_by (own := [("_law_sign", 7)]) (N := ["_law_parts", "_law_part", "_law_k", "_law_name", "_law_odd", "_law_late", "_law_many", "_law_sign"]) (sc := defScope s__law_due) (by decide +kernel)) (fun _ _ _ _ _ => (pg_name (i := 7) sc__law_due.nd rfl (Or.inl rfl))) (fun _ _ _ _ _ => (pts_.re (pts_one (pt_cmpR op_notIn_sign (pv 7) pe_str rfl)) (by first | (dsimp only [Cx.blk]; done) | exact rfl))) (fun _ _ _ _ _ => (pe_.re (pv 7) (by first | (dsimp only [Cx.blk]; done) | exact rfl))))
      (pss_cons (wk_ps (tLate K) (ps_set (i := 5) sc__law_due.nd rfl (Or.inl rfl) (pe_and (pe_cmpR op_gt (pv 2) pe_int (nomark _)) (pe_one (pe_cmpR op_le_str (pv 3) (pe_ix ix_tup (pe_ix ix_tup (pv 0) (pv 1) (fun _ _ => rfl)) (pe_op op_sub (pv 2) pe_int) (fun _ _ => rfl)) (nomark _))))) ?wl)
      (pss_cons (ps_set (i := 6) sc__law_due.nd rfl (Or.inl rfl) (pe_cmpR op_gt (pe_op op_add (pe_op op_add (pv 2) pe_int) (pe_op op_mul (pv 1) (pe_callB call_len_seq (by rfl) B.b_len PySem.boot_len (pa_cons (pe_ix ix_tup (pv 0) pe_int (fun _ _ => rfl)) pa_nil)))) pe_int (nomark _)))
      (pss_one (ps_if (PW.pt (pw_or (pt_cmpR (op_neD hr.units) (pv 4) (pe_lst pa_nil) (nomark _)) (pw_or (pt_not (pt_chain op_le op_le pe_int (pe_callB call_len_str (by rfl) B.b_len PySem.boot_len (pa_cons (pv 3) pa_nil)) pe_int)) (pw_or (pt_val (pv 5)) (pw_or (pt_val (pv 6)) (pw_or1 (PW.pt (pw_and (pt_cmpR op_eq (pv 1) pe_int (nomark _)) (pw_and1 (pt_cmpR op_in_seq (pv 3) (pe_ix ix_tup (pv 0) pe_int (fun _ _ => rfl)) rfl)))))))))) (pss_one (ps_ret (pe_tup (pa_cons pe_str (pa_cons (pv 1) (pa_cons (pv 2) pa_nil)))))) pss_nil)))))))))
      (pss_one (ps_ret (pe_tup (pa_cons pe_str pa_nil))))), ?_⟩
  case wl =>
    rintro D σ H1 ⟨t, ad, ps, X, j, k, x, e0, e1, e2, e3, hP, eg, hX, hx, q⟩
    have hk : k < X.length := by
      by_cases h : k < X.length
      · exact h
      · rw [List.getElem?_eq_none (by omega)] at hx; cases hx
    have hxk : X[k] = x := Option.some.inj ((List.getElem?_eq_getElem hk).symm.trans hx)
    refine ⟨_, e2, k, 0, rfl, rfl, _, rfl, bcase (fun c => ?_) (fun c => ?_)⟩
    · have c : k ≠ 0 := by have := of_decide_eq_true c; omega
      have h1 : k - 1 < X.length := by omega
      refine ⟨_, e3, _, e0, _, e1, t, _, j, _, rfl, rfl, hP, atI_nat eg, _, e2, k, 1, rfl, rfl, ad, _, _, _, rfl, rfl, hX, at_of (j := k - 1) (by omega) (strG h1), x, X[k - 1], rfl, rfl, ?_⟩
      rw [risesAt_eq hk c h1, hxk] at q
      exact q
    · have c : k = 0 := by have := of_decide_eq_false c; omega
      subst c
      exact q
  refine ⟨2, rfl, by decide, by decide, for_it walk_range (fun j σ H' => ∃ y1 y2 y3 y4 y5 y6 y7, σ = [some (.ref t), y1, y2, y3, y4, y5, y6, y7] ∧ Same H H' ∧ (0 < j → firstWrong xs [] = none) ∧ (1 < j → firstWrong ys xs = none))
    ⟨none, none, none, none, none, none, none, rfl, Same.refl H, fun h => absurd h (by decide), fun h => absurd h (by decide)⟩ (fun _ _ _ _ _ => trivial) ?_ ?_⟩
  · rintro j x σ H2 H3 hj ⟨y1, y2, y3, y4, y5, y6, y7, rfl, s, hb0, hb1⟩ ⟨rfl, hy⟩
    have hy : x = V.int (j : Nat) := by
      rw [hy]
      show V.int (0 + (j : Nat)) = _
      rw [Int.zero_add]
    subst hy
    have hj : j < 2 := hj
    have key : ∃ ad X Y, [V.ref a, V.ref b][j]? = some (.ref ad) ∧ SqT K H ad (X.map V.str) ∧ Fines X ∧ X.length ≤ 1000 ∧ (∀ k, firstWrong X Y = some k → condBad xs ys = some (j, k)) ∧ (firstWrong X Y = none → (0 < j + 1 → firstWrong xs [] = none) ∧ (1 < j + 1 → firstWrong ys xs = none)) ∧ ((j = 0 ∧ Y = []) ∨ (j = 1 ∧ Y = xs)) := by
      match j, hj, hb0, hb1 with
      | 0, _, _, _ => exact ⟨a, xs, [], rfl, hA, fA, lA, fun k hk => by unfold condBad; rw [hk], fun h => ⟨fun _ => h, fun h => absurd h (by decide)⟩, .inl ⟨rfl, rfl⟩⟩
      | 1, _, h0, _ => exact ⟨b, ys, xs, rfl, hB, fB, lB, fun k hk => by unfold condBad; rw [h0 (by decide), hk], fun h => ⟨fun _ => h0 (by decide), fun _ => h⟩, .inr ⟨rfl, rfl⟩⟩
    obtain ⟨ad, X, Y, eg, hX, fX, lX, hbad, hgood, hjY⟩ := key
    refine ⟨.ref t, rfl, .int j, rfl, t, _, j, .ref ad, rfl, rfl, s.tup hP, atI_nat eg, ad, _, rfl, .inr (s.tup hX), _, rfl, by omega, by rw [List.length_map]; omega, for_it walk_range (fun k σ H' => ∃ z2 z3 z4 z5 z6 z7, σ = [some (.ref t), some (.int j), z2, z3, z4, z5, z6, z7] ∧ Same H H' ∧ ∀ k', k' < k → wrongAt X Y k' = false)
      ⟨_, _, _, _, _, _, rfl, s, fun k' hk' => absurd hk' (Nat.not_lt_zero k')⟩ (fun _ _ _ _ _ => trivial) ?_ ?_⟩
    · rintro k x σ H4 H5 hk ⟨z2, z3, z4, z5, z6, z7, rfl, s5, hb⟩ ⟨rfl, hy⟩
      have hy : x = V.int (k : Nat) := by
        rw [hy]
        show V.int (0 + (k : Nat)) = _
        rw [Int.zero_add]
      subst hy
      have hk : k < X.length := by simpa using hk
      have hx := fX _ (List.getElem_mem hk)
      refine ⟨.ref t, rfl, .int j, rfl, t, _, j, .ref ad, rfl, rfl, s5.tup hP, atI_nat eg, .int k, rfl, ad, _, _, _, rfl, rfl, s5.tup hX, at_of rfl (strG hk), ?_⟩
      refine ⟨_, rfl, _, rfl, fun D nD => lc_it walk_str (fun i H' => Same H5 H' ∧ H' D = some (.lst ((oddL X[k] i).map V.str))) ⟨(Same.refl H5).put nD, upd_same⟩ (fun _ _ _ _ => trivial) ?_ ?_⟩
      · rintro i y H6 H7 hi ⟨s4, e4⟩ ⟨rfl, c, hc, rfl⟩
        have hm : oddL X[k] (i + 1) = if (!decide (c ∈ letters.cps.toList)) = true then oddL X[k] i ++ [chr1 c] else oddL X[k] i := by
          unfold oddL
          rw [take_more (x := c) (by rw [Array.getElem?_toList]; exact hc), List.filter_append, List.map_append, filter1]
          split
          · rfl
          · exact List.append_nil _
        refine ⟨rfl, _, rfl, c, letters, rfl, rfl, _, rfl, bcase (fun c1 => ?_) (fun c1 => ?_)⟩
        · refine ⟨_, rfl, grow (acc := fun i => (oddL X[k] i).map V.str) nD s4 e4 ?_ ?_⟩
          · rw [List.length_map]
            exact small1000 (Nat.le_trans oddL_len hx.1)
          · show List.map _ _ = _
            rw [hm, if_pos c1, List.map_append]
            rfl
        · refine ⟨s4, ?_⟩
          rw [hm, if_neg (by rw [c1]; exact Bool.false_ne_true)]
          exact e4
      · rintro H6 ⟨s6, e6⟩
        have s7 := s5.trans s6
        refine ⟨t, ad, _, X, j, k, X[k], rfl, rfl, rfl, rfl, s7.tup hP, eg, s7.tup hX, List.getElem?_eq_getElem hk, ?_⟩
        have em : decide ((8 : Int) < (k : Int) + 1 + (j : Int) * ((xs.map V.str).length : Nat)) = decide (8 ≤ Y.length + k) := by
          rw [List.length_map]
          rcases hjY with ⟨rfl, rfl⟩ | ⟨rfl, rfl⟩
          · exact decide_eq_decide.mpr ⟨fun h => by simp at h ⊢; omega, fun h => by simp at h ⊢; omega⟩
          · exact decide_eq_decide.mpr ⟨fun h => by simp at h ⊢; omega, fun h => by simp at h ⊢; omega⟩
        refine ⟨.int k, rfl, k, 1, rfl, rfl, .int j, rfl, .ref t, rfl, t, _, 0, .ref a, rfl, rfl, s7.tup hP, atI_nat (j := 0) rfl, a, _, rfl, .inr (s7.tup hA), j, _, rfl, rfl, .inl ⟨by omega, by omega⟩, _, _, rfl, rfl, _, 8, rfl, rfl, ?_⟩
        simp only [em]
        refine ⟨.ref D, rfl, Nat.zero_le _, fun tt nt => ⟨_, _, .lst (sqL_of (by rw [upd_ne (ne_of_none e6 nt)]; exact e6)) (dps K _ _), .lst sqL_new .nil, shL (oddL_fine hx), rfl, _, rfl, ?_⟩⟩
        have s8 := s7.put' (o := .lst []) nt
        generalize upd H6 tt (.lst []) = H8 at s8 ⊢
        have ew : wrongAt X Y k = ((!isName X[k] || !risesAt X k) || (decide (8 ≤ Y.length + k) || decide (X[k] ∈ Y))) := by unfold wrongAt; rw [List.getElem?_eq_getElem hk]
        have nm : isName X[k] = (decide (1 ≤ X[k].length) && (decide (X[k].length ≤ 8) && isLetters X[k])) := rfl
        have ret : wrongAt X Y k = true → ∀ p, H8 p = none → Q (.ref p) (upd H8 p (.tup [.str "condition", .int j, .int k])) := fun hp p np => q _ p (s8.put' np) (by rw [hbad k (find_at hk hp hb)]; exact upd_same)
        have go : wrongAt X Y k = false → ∀ k', k' < k + 1 → wrongAt X Y k' = false := fun hp k' hk' => by
          by_cases h2 : k' < k
          · exact hb k' h2
          · have ek : k' = k := by omega
            subst ek
            exact hp
        have l3 : ([V.str "condition", V.int j, V.int k]).length ≤ sizeLine := by show 3 ≤ sizeLine; decide
        refine bcase (fun c2 => ?_) (fun c2 => ?_)
        · have c2 : isLetters X[k] = false := by
            rw [← oddL_nil, ← eqvA_nil]
            exact (Bool.not_eq_true' _).mp c2
          exact iteT ⟨_, rfl, _, rfl, l3, ret (by rw [ew, nm, c2, Bool.and_false, Bool.and_false]; rfl)⟩
        have c2 : isLetters X[k] = true := by
          rw [← oddL_nil, ← eqvA_nil]
          exact (Bool.not_eq_false' _).mp c2
        rw [c2, Bool.and_true] at nm
        refine ⟨_, rfl, X[k], rfl, Nat.le_trans hx.1 (by rw [sizeLine_eq]; decide), 1, X[k].length, rfl, rfl, _, rfl, bcase (fun h1 => ?_) (fun h1 => ?_)⟩
        · have h1 : 1 ≤ X[k].length := by have := of_decide_eq_true h1; omega
          rw [decide_eq_true h1, Bool.true_and] at nm
          refine ⟨_, _, rfl, rfl, _, rfl, ?_⟩
          by_cases h2 : X[k].length ≤ 8
          · have e2 : decide ((X[k].length : Int) ≤ 8) = true := decide_eq_true (by omega)
            rw [e2]
            rw [decide_eq_true h2] at nm
            rw [nm, Bool.not_true, Bool.false_or] at ew
            refine iteF ⟨_, rfl, _, rfl, bcase (fun c3 => ?_) (fun c3 => ?_)⟩
            · exact iteT ⟨_, rfl, _, rfl, l3, ret (by rw [ew, c3, Bool.true_or])⟩
            · rw [c3, Bool.false_or] at ew
              refine ⟨_, rfl, _, rfl, bcase (fun c4 => ?_) (fun c4 => ?_)⟩
              · exact iteT ⟨_, rfl, _, rfl, l3, ret (by rw [ew, c4, Bool.true_or])⟩
              · rw [c4, Bool.false_or] at ew
                refine ⟨_, rfl, rfl, _, rfl, ?_⟩
                rcases hjY with ⟨rfl, rfl⟩ | ⟨rfl, rfl⟩
                · exact iteF (iteF ⟨_, _, _, _, _, _, rfl, s8, go (by rw [ew]; rfl)⟩)
                · refine iteT ⟨_, rfl, .ref t, rfl, t, _, 0, .ref a, rfl, rfl, s8.tup hP, atI_nat (j := 0) rfl, a, _, rfl, .inr (s8.tup hA), rfl, flat_strs _, _, rfl, bcase (fun c5 => ?_) (fun c5 => ?_)⟩
                  · have c5 : decide (X[k] ∈ Y) = true := by rw [← inV_str]; exact c5
                    exact ⟨_, rfl, _, rfl, l3, ret (by rw [ew]; exact c5)⟩
                  · have c5 : decide (X[k] ∈ Y) = false := by rw [← inV_str]; exact c5
                    exact ⟨_, _, _, _, _, _, rfl, s8, go (by rw [ew]; exact c5)⟩
          · have e2 : decide ((X[k].length : Int) ≤ 8) = false := decide_eq_false (by omega)
            rw [e2]
            rw [decide_eq_false h2] at nm
            rw [nm] at ew
            exact iteT (iteT ⟨_, rfl, _, rfl, l3, ret (by rw [ew]; rfl)⟩)
        · have h1 : ¬ 1 ≤ X[k].length := by have := of_decide_eq_false h1; omega
          rw [decide_eq_false h1] at nm
          rw [nm] at ew
          exact ⟨_, rfl, iteT (iteT ⟨_, rfl, _, rfl, l3, ret (by rw [ew]; rfl)⟩)⟩
    · rintro σ H4 ⟨z2, z3, z4, z5, z6, z7, rfl, s5, hb⟩
      have hb : ∀ k', k' < X.length → wrongAt X Y k' = false := fun k' h => hb k' (by simpa using h)
      exact ⟨_, _, _, _, _, _, _, rfl, s5, hgood (find_none hb)⟩
  · rintro σ H2 ⟨y1, y2, y3, y4, y5, y6, y7, rfl, s, hb0, hb1⟩
    refine ⟨(by show 1 ≤ sizeLine; decide), fun p np => q _ p (s.put' np) ?_⟩
    have e : condBad xs ys = none := by unfold condBad; rw [hb0 (by decide), hb1 (by decide)]
    rw [e]
    exact upd_same
end
end Sc
namespace Sc
open PySem PySem.Spec PyProof.Rows L2 LamX
/-! ### _law_error -/
abbrev s__law_error : Stmt := topS 34
theorem sc__law_error : FnScope ["_law_call", "e", "_law_kinds", "_law_names", "_law_name"] ["_law_call"] (defScope s__law_error) := ⟨rfl, rfl, rfl, by decide +kernel, rfl, by decide +kernel, by decide +kernel⟩
/-- the classes of errors that the law tells apart, by their places -/
structure GErr (mg : Str → Option Value) (cl : Nat → Addr) (CE : Addr) : Prop where
  m_CourtError : mg "CourtError" = some (.ref CE)
  m_InvalidFacts : mg "InvalidFacts" = some (.ref (cl 0))
  m_InvalidCase : mg "InvalidCase" = some (.ref (cl 1))
  m_InvalidNumber : mg "InvalidNumber" = some (.ref (cl 2))
  m_InvalidCondition : mg "InvalidCondition" = some (.ref (cl 3))
  m_NeverMet : mg "NeverMet" = some (.ref (cl 4))
  m_InvalidRule : mg "InvalidRule" = some (.ref (cl 5))
  m_InvalidBook : mg "InvalidBook" = some (.ref (cl 6))
  m_UnknownRule : mg "UnknownRule" = some (.ref (cl 7))
  m_InvalidRuling : mg "InvalidRuling" = some (.ref (cl 8))
  m_UnknownFact : mg "UnknownFact" = some (.ref (cl 9))
  m_NoReason : mg "NoReason" = some (.ref (cl 10))
  m_TooMany : mg "TooMany" = some (.ref (cl 11))
  m_InvalidChance : mg "InvalidChance" = some (.ref (cl 12))
  m_OtherFacts : mg "OtherFacts" = some (.ref (cl 13))
  m_NoNeighbor : mg "NoNeighbor" = some (.ref (cl 14))
  m_NoFacts : mg "NoFacts" = some (.ref (cl 15))
  m_AlreadyKnown : mg "AlreadyKnown" = some (.ref (cl 16))
def kindNames : List Str := ["facts", "case", "number", "condition", "never", "rule", "book", "norule", "ruling", "fact", "reason", "many", "chance", "other", "neighbor", "nofacts", "known"]
/-- the class at D is the k-th -/
structure ErrRow (K : PySem.W.Frag) (cl : Nat → Addr) (CE D : Addr) (k : Nat) : Prop where
  lt : k < 17
  err : ErrC K D
  ex : PySem.W.exmOne K (.ref D) (.ref CE) = some true
  kit : ∀ i, i < 17 → PySem.W.kitOne K (.ref D) (.ref (cl i)) = some (decide (i = k))
  ve : PySem.W.kitOne K (.ref D) (.type "ValueError") = some true
  noF : ∀ n ∈ (["index", "part", "word", "fact"] : List Str), PySem.W.findIn K (.ref D) n = some none
abbrev kb (k i : Nat) : V := .bl (decide (i = k))

def kname (k : Nat) : Str := kindNames.getD k "other"
/-- what the law tells of an error: its kind, and what it bears -/
inductive Pay (H : Hp) (d : Option Addr) : Nat → List V → Prop where
  | ix {k : Nat} {dd : Addr} {fs : List (Str × V)} {v : V} (hk : k < 2) (ed : d = some dd) (ea : H dd = some (.xd fs)) (l : fs.lookup ("index" : Str) = some v) : Pay H d k [.str (kname k), v]
  | cond {dd : Addr} {fs : List (Str × V)} {v u : V} (ed : d = some dd) (ea : H dd = some (.xd fs)) (l : fs.lookup ("part" : Str) = some v) (l2 : fs.lookup ("index" : Str) = some u) : Pay H d 3 [.str "condition", v, u]
  | book {dd : Addr} {fs : List (Str × V)} {v u : V} (ed : d = some dd) (ea : H dd = some (.xd fs)) (l : fs.lookup ("word" : Str) = some v) (l2 : fs.lookup ("index" : Str) = some u) : Pay H d 6 [.str "book", v, u]
  | rule {dd : Addr} {fs : List (Str × V)} {v : V} (ed : d = some dd) (ea : H dd = some (.xd fs)) (l : fs.lookup ("part" : Str) = some v) : Pay H d 5 [.str "rule", v]
  | chance {dd : Addr} {fs : List (Str × V)} {v : V} (ed : d = some dd) (ea : H dd = some (.xd fs)) (l : fs.lookup ("fact" : Str) = some v) : Pay H d 12 [.str "chance", v]
  | plain {k : Nat} (hx : XdOk d H) (hk : ¬ k < 2) (h3 : k ≠ 3) (h5 : k ≠ 5) (h6 : k ≠ 6) (h12 : k ≠ 12) : Pay H d k [.str (kname k)]
theorem Pay.xd {H : Hp} {d : Option Addr} {k : Nat} {vs : List V} (p : Pay H d k vs) : XdOk d H := by
  cases p with
  | ix hk ed ea l => intro dd e; rw [ed] at e; cases e; exact ⟨_, ea⟩
  | cond ed ea l l2 => intro dd e; rw [ed] at e; cases e; exact ⟨_, ea⟩
  | book ed ea l l2 => intro dd e; rw [ed] at e; cases e; exact ⟨_, ea⟩
  | rule ed ea l => intro dd e; rw [ed] at e; cases e; exact ⟨_, ea⟩
  | chance ed ea l => intro dd e; rw [ed] at e; cases e; exact ⟨_, ea⟩
  | plain hx => exact hx
/-- _law_error: the lambda is called; the answer is a new tuple -/
def TErr (K : PySem.W.Frag) (cl : Nat → Addr) (CE : Addr) : (XK → Hp → VK → Prop) → Hp → VK → Prop := fun tl H Q =>
  tl (fun cls d H1 => ∃ (D : Addr) (k : Nat) (vs : List V), cls = .ref D ∧ ErrRow K cl CE D k ∧ Pay H1 d k vs ∧ ∀ H2 p, Same H1 H2 → H2 p = some (.tup vs) → H1 p = none → Q (.ref p) H2)
    H fun _ H1 => ([V.str "none"].length ≤ sizeLine ∧ ∀ p, H1 p = none → Q (.ref p) (upd H1 p (.tup [.str "none"])))
def kinds (k : Nat) : List V := [kb k 0, kb k 1, kb k 2, kb k 3, kb k 4, kb k 5, kb k 6, kb k 7, kb k 8, kb k 9, kb k 10, kb k 11, kb k 12, kb k 13, kb k 14, kb k 15, kb k 16]
theorem kinds_count : ∀ k, k < 17 → (kinds k).countP (fun z => eqV z (.bl true)) = 1 := by decide +kernel
theorem kinds_at : ∀ k, k < 17 → (kinds k)[k]? = some (.bl true) := by decide +kernel
theorem kinds_off : ∀ k, k < 17 → ∀ m, m < k → (kinds k)[m]? = some (.bl false) := by decide +kernel
theorem names_at : ∀ k, k < 17 → (kindNames.map V.str)[k]? = some (.str (kname k)) := by decide +kernel
theorem in_two : ∀ k, k < 17 → inV (.str (kname k)) [.str "facts", .str "case"] = decide (k < 2) := by decide +kernel
theorem in_rule : ∀ k, k < 17 → inV (.str (kname k)) [.str "rule", .str "chance"] = (decide (k = 5) || decide (k = 12)) := by decide +kernel
theorem is_cond : ∀ k, k < 17 → decide (V.str (kname k) = V.str "condition") = decide (k = 3) := by decide +kernel
theorem is_book : ∀ k, k < 17 → decide (V.str (kname k) = V.str "book") = decide (k = 6) := by decide +kernel
theorem XdOk.same {H H' : Hp} {d : Option Addr} (x : XdOk d H) (s : Same H H') : XdOk d H' := fun dd e => by
  obtain ⟨fs, h⟩ := x dd e
  exact ⟨fs, s _ _ h⟩
theorem five {σ : L2.St} (h : σ.length = 5) : ∃ x0 x1 x2 x3 x4, σ = [x0, x1, x2, x3, x4] := by
  match σ, h with
  | [a, b, c, d, e], _ => exact ⟨a, b, c, d, e, rfl⟩
theorem err_gives {X : Cx} {g : Addr} {cdg : Value} {q : Str} {cl : Nat → Addr} {CE : Addr} (B : Blt X.mg) (G : GErr X.mg cl CE) : GivesTo X ["_law_call", "e", "_law_kinds", "_law_names", "_law_name"] "_law_error" (defScope s__law_error) g cdg (defBody s__law_error) "_law_call" q (TErr X.K cl CE) := by
  intro f c' s H Q tl act hc h
  refine ⟨_, pss_cons (ps_try_as (X := (cxOf C8.CX0 X.prog X.w X.K X.mg X.base ["_law_call", "e", "_law_kinds", "_law_names", "_law_name"] "_law_error" (defScope s__law_error) g cdg X.A X.stack s H C8.E0).nox) (i := 1) (c := .ref CE)
      (tb := fun W D σ H => ∃ Ech : XK, (∀ cls d σ' H', Ech cls d H' → σ'.length = 5 → W cls d σ' H') ∧ σ[0]? = some (some (.ref f)) ∧ H c' = some (CodeO c' q) ∧ tl Ech H fun _ H1 => D.nx σ H1)
      (Wout := fun _ _ _ _ => False) rfl rfl sc__law_error.nd rfl rfl ⟨rfl, by decide, .inl G.m_CourtError⟩ L2.takes0 (fun W pn xe tk _ => ?_)
      (fun a oe cls d pn hz hf => pss_.re (pss_cons (ps_set (i := 2) sc__law_error.nd rfl (Or.inl rfl) (pe_lst (pa_cons (pe_callB (call_isG hz hf) (by rfl) B.b_isinstance PyProof.Rows.boot_isinstance (pa_cons (pv 1) (pa_cons (pe_glob (v := .ref (cl 0)) rfl G.m_InvalidFacts rfl) pa_nil))) (pa_cons (pe_callB (call_isG hz hf) (by rfl) B.b_isinstance PyProof.Rows.boot_isinstance (pa_cons (pv 1) (pa_cons (pe_glob (v := .ref (cl 1)) rfl G.m_InvalidCase rfl) pa_nil))) (pa_cons (pe_callB (call_isG hz hf) (by rfl) B.b_isinstance PyProof.Rows.boot_isinstance (pa_cons (pv 1) (pa_cons (pe_glob (v := .ref (cl 2)) rfl G.m_InvalidNumber rfl) pa_nil))) pa_nil)))))
      (pss_cons (ps_expr (pe_bm PySem.F.plainAttrs_list PySem.F.slot_list_extend PySem.F.type_list_extend mt_extend (pv 2) (pa_cons (pe_lst (pa_cons (pe_callB (call_isG hz hf) (by rfl) B.b_isinstance PyProof.Rows.boot_isinstance (pa_cons (pv 1) (pa_cons (pe_glob (v := .ref (cl 3)) rfl G.m_InvalidCondition rfl) pa_nil))) (pa_cons (pe_callB (call_isG hz hf) (by rfl) B.b_isinstance PyProof.Rows.boot_isinstance (pa_cons (pv 1) (pa_cons (pe_glob (v := .ref (cl 4)) rfl G.m_NeverMet rfl) pa_nil))) (pa_cons (pe_callB (call_isG hz hf) (by rfl) B.b_isinstance PyProof.Rows.boot_isinstance (pa_cons (pv 1) (pa_cons (pe_glob (v := .ref (cl 5)) rfl G.m_InvalidRule rfl) pa_nil))) pa_nil)))) pa_nil)))
      (pss_cons (ps_expr (pe_bm PySem.F.plainAttrs_list PySem.F.slot_list_extend PySem.F.type_list_extend mt_extend (pv 2) (pa_cons (pe_lst (pa_cons (pe_callB (call_isG hz hf) (by rfl) B.b_isinstance PyProof.Rows.boot_isinstance (pa_cons (pv 1) (pa_cons (pe_glob (v := .ref (cl 6)) rfl G.m_InvalidBook rfl) pa_nil))) (pa_cons (pe_callB (call_isG hz hf) (by rfl) B.b_isinstance PyProof.Rows.boot_isinstance (pa_cons (pv 1) (pa_cons (pe_glob (v := .ref (cl 7)) rfl G.m_UnknownRule rfl) pa_nil))) (pa_cons (pe_callB (call_isG hz hf) (by rfl) B.b_isinstance PyProof.Rows.boot_isinstance (pa_cons (pv 1) (pa_cons (pe_glob (v := .ref (cl 8)) rfl G.m_InvalidRuling rfl) pa_nil))) pa_nil)))) pa_nil)))
      (pss_cons (ps_expr (pe_bm PySem.F.plainAttrs_list PySem.F.slot_list_extend PySem.F.type_list_extend mt_extend (pv 2) (pa_cons (pe_lst (pa_cons (pe_callB (call_isG hz hf) (by rfl) B.b_isinstance PyProof.Rows.boot_isinstance (pa_cons (pv 1) (pa_cons (pe_glob (v := .ref (cl 9)) rfl G.m_UnknownFact rfl) pa_nil))) (pa_cons (pe_callB (call_isG hz hf) (by rfl) B.b_isinstance PyProof.Rows.boot_isinstance (pa_cons (pv 1) (pa_cons (pe_glob (v := .ref (cl 10)) rfl G.m_NoReason rfl) pa_nil))) (pa_cons (pe_callB (call_isG hz hf) (by rfl) B.b_isinstance PyProof.Rows.boot_isinstance (pa_cons (pv 1) (pa_cons (pe_glob (v := .ref (cl 11)) rfl G.m_TooMany rfl) pa_nil))) pa_nil)))) pa_nil)))
      (pss_cons (ps_expr (pe_bm PySem.F.plainAttrs_list PySem.F.slot_list_extend PySem.F.type_list_extend mt_extend (pv 2) (pa_cons (pe_lst (pa_cons (pe_callB (call_isG hz hf) (by rfl) B.b_isinstance PyProof.Rows.boot_isinstance (pa_cons (pv 1) (pa_cons (pe_glob (v := .ref (cl 12)) rfl G.m_InvalidChance rfl) pa_nil))) (pa_cons (pe_callB (call_isG hz hf) (by rfl) B.b_isinstance PyProof.Rows.boot_isinstance (pa_cons (pv 1) (pa_cons (pe_glob (v := .ref (cl 13)) rfl G.m_OtherFacts rfl) pa_nil))) (pa_cons (pe_callB (call_isG hz hf) (by rfl) B.b_isinstance PyProof.Rows.boot_isinstance (pa_cons (pv 1) (pa_cons (pe_glob (v := .ref (cl 14)) rfl G.m_NoNeighbor rfl) pa_nil))) pa_nil)))) pa_nil)))
      (pss_cons (ps_expr (pe_bm PySem.F.plainAttrs_list PySem.F.slot_list_extend PySem.F.type_list_extend mt_extend (pv 2) (pa_cons (pe_lst (pa_cons (pe_callB (call_isG hz hf) (by rfl) B.b_isinstance PyProof.Rows.boot_isinstance (pa_cons (pv 1) (pa_cons (pe_glob (v := .ref (cl 15)) rfl G.m_NoFacts rfl) pa_nil))) (pa_cons (pe_callB (call_isG hz hf) (by rfl) B.b_isinstance PyProof.Rows.boot_isinstance (pa_cons (pv 1) (pa_cons (pe_glob (v := .ref (cl 16)) rfl G.m_AlreadyKnown rfl) pa_nil))) pa_nil))) pa_nil)))
      (pss_cons (ps_if (PW.pt (pw_or (pt_cmpR op_ne (pe_bm PySem.F.plainAttrs_list PySem.F.slot_list_count PySem.F.type_list_count mt_lcountB (pv 2) (pa_cons pe_bl pa_nil)) pe_int (nomark _)) (pw_or1 (pt_not (pt_val (pe_callB (call_isG hz hf) (by rfl) B.b_isinstance PyProof.Rows.boot_isinstance (pa_cons (pv 1) (pa_cons (pe_bltn (v := .ty "ValueError") (by rfl) B.b_ValueError (by decide +kernel) rfl) pa_nil)))))))) (pss_one (ps_ret (pe_tup (pa_cons pe_str pa_nil)))) pss_nil)
      (pss_cons (ps_set (i := 3) sc__law_error.nd rfl (Or.inl rfl) (pe_lst (pa_cons pe_str (pa_cons pe_str (pa_cons pe_str (pa_cons pe_str (pa_cons pe_str (pa_cons pe_str (pa_cons pe_str (pa_cons pe_str (pa_cons pe_str (pa_cons pe_str (pa_cons pe_str pa_nil)))))))))))))
      (pss_cons (ps_set (i := 4) sc__law_error.nd rfl (Or.inl rfl) (pe_ix ix_list (pe_op op_cat (pv 3) (pe_lst (pa_cons pe_str (pa_cons pe_str (pa_cons pe_str (pa_cons pe_str (pa_cons pe_str (pa_cons pe_str pa_nil)))))))) (pe_bm PySem.F.plainAttrs_list PySem.F.slot_list_index PySem.F.type_list_index mt_index (pv 2) (pa_cons pe_bl pa_nil)) (fun _ _ => rfl)))
      (pss_cons (ps_if (pt_cmpR op_in_seq (pv 4) (pe_tup (pa_cons pe_str (pa_cons pe_str pa_nil))) rfl) (pss_one (ps_ret (pe_tup (pa_cons (pv 4) (pa_cons (pe_xg hz hf (pv 1)) pa_nil))))) pss_nil)
      (pss_cons (ps_if (pt_cmpR op_eq (pv 4) pe_str (nomark _)) (pss_one (ps_ret (pe_tup (pa_cons (pv 4) (pa_cons (pe_xg hz hf (pv 1)) (pa_cons (pe_xg hz hf (pv 1)) pa_nil)))))) pss_nil)
      (pss_cons (ps_if (pt_cmpR op_eq (pv 4) pe_str (nomark _)) (pss_one (ps_ret (pe_tup (pa_cons (pv 4) (pa_cons (pe_xg hz hf (pv 1)) (pa_cons (pe_xg hz hf (pv 1)) pa_nil)))))) pss_nil)
      (pss_cons (ps_if (pt_cmpR op_in_seq (pv 4) (pe_tup (pa_cons pe_str (pa_cons pe_str pa_nil))) rfl) (pss_one (ps_ret (pe_tup (pa_cons (pv 4) (pa_cons (pe_ifExp (pt_cmpR op_eq (pv 4) pe_str (nomark _)) (pe_xg hz hf (pv 1)) (pe_xg hz hf (pv 1))) pa_nil))))) pss_nil)
      (pss_one (ps_ret (pe_tup (pa_cons (pv 4) pa_nil))))))))))))))))) (by first | (dsimp only [Cx.suite]; done) | exact rfl)))
      (pss_one (ps_ret (pe_tup (pa_cons pe_str pa_nil)))), ?_⟩
  · refine ⟨fun pins s' σ H' D I h' => ?_⟩
    obtain ⟨Ech, hW, h1, h2, h3⟩ := h'
    exact (pss_one (ps_expr (act _ pn xe Ech _ _ (takes_len tk) fun cls d σ' H'' z e => hW cls d σ' H'' z e))).run pins s' σ H' D I ⟨h1, h2, h3⟩
  · refine ⟨_, fun cls d σ' H1 z hl => ?_, rfl, hc, h⟩
    obtain ⟨D, k, vs, rfl, R, P, qq⟩ := z
    obtain ⟨x0, x1, x2, x3, x4, rfl⟩ := five hl
    have xd := P.xd
    refine ⟨true, R.ex, fun _ ea _ => ?_, fun z => nomatch z⟩
    refine ⟨_, rfl, D, _, _, _, rfl, R.err, xd, rfl, (fun u r => r), R.kit 0 (by decide), _, rfl, D, _, _, _, rfl, R.err, xd, rfl, (fun u r => r), R.kit 1 (by decide), _, rfl, D, _, _, _, rfl, R.err, xd, rfl, (fun u r => r), R.kit 2 (by decide), (by show 3 ≤ sizeLine; decide), fun p np => ?_⟩
    have s1 : Same H1 (upd H1 p (.lst [kb k 0, kb k 1, kb k 2])) := (Same.refl H1).put np
    have e1 : (upd H1 p (.lst [kb k 0, kb k 1, kb k 2])) p = some (.lst [kb k 0, kb k 1, kb k 2]) := upd_same
    generalize upd H1 p (.lst [kb k 0, kb k 1, kb k 2]) = G1 at s1 e1 ⊢
    refine ⟨.ref p, rfl, .inl ⟨rfl, _, sqL_of e1⟩, _, rfl, D, _, _, _, rfl, R.err, (xd.same s1), rfl, (fun u r => r), R.kit 3 (by decide), _, rfl, D, _, _, _, rfl, R.err, (xd.same s1), rfl, (fun u r => r), R.kit 4 (by decide), _, rfl, D, _, _, _, rfl, R.err, (xd.same s1), rfl, (fun u r => r), R.kit 5 (by decide), (by show 3 ≤ sizeLine; decide), fun q1 nq1 => ⟨p, q1, _, _, rfl, rfl, by rw [upd_ne (ne_of_none e1 nq1)]; exact e1, upd_same, (by show 6 ≤ sizeLine; decide), ?_⟩⟩
    have s2 : Same H1 (upd (upd G1 q1 (.lst [kb k 3, kb k 4, kb k 5])) p (.lst ([kb k 0, kb k 1, kb k 2] ++ [kb k 3, kb k 4, kb k 5]))) := (s1.put' nq1).put np
    have e2 : (upd (upd G1 q1 (.lst [kb k 3, kb k 4, kb k 5])) p (.lst ([kb k 0, kb k 1, kb k 2] ++ [kb k 3, kb k 4, kb k 5]))) p = some (.lst [kb k 0, kb k 1, kb k 2, kb k 3, kb k 4, kb k 5]) := upd_same
    generalize upd (upd G1 q1 (.lst [kb k 3, kb k 4, kb k 5])) p (.lst ([kb k 0, kb k 1, kb k 2] ++ [kb k 3, kb k 4, kb k 5])) = G2 at s2 e2 ⊢
    refine ⟨.ref p, rfl, .inl ⟨rfl, _, sqL_of e2⟩, _, rfl, D, _, _, _, rfl, R.err, (xd.same s2), rfl, (fun u r => r), R.kit 6 (by decide), _, rfl, D, _, _, _, rfl, R.err, (xd.same s2), rfl, (fun u r => r), R.kit 7 (by decide), _, rfl, D, _, _, _, rfl, R.err, (xd.same s2), rfl, (fun u r => r), R.kit 8 (by decide), (by show 3 ≤ sizeLine; decide), fun q2 nq2 => ⟨p, q2, _, _, rfl, rfl, by rw [upd_ne (ne_of_none e2 nq2)]; exact e2, upd_same, (by show 9 ≤ sizeLine; decide), ?_⟩⟩
    have s3 : Same H1 (upd (upd G2 q2 (.lst [kb k 6, kb k 7, kb k 8])) p (.lst ([kb k 0, kb k 1, kb k 2, kb k 3, kb k 4, kb k 5] ++ [kb k 6, kb k 7, kb k 8]))) := (s2.put' nq2).put np
    have e3 : (upd (upd G2 q2 (.lst [kb k 6, kb k 7, kb k 8])) p (.lst ([kb k 0, kb k 1, kb k 2, kb k 3, kb k 4, kb k 5] ++ [kb k 6, kb k 7, kb k 8]))) p = some (.lst [kb k 0, kb k 1, kb k 2, kb k 3, kb k 4, kb k 5, kb k 6, kb k 7, kb k 8]) := upd_same
    generalize upd (upd G2 q2 (.lst [kb k 6, kb k 7, kb k 8])) p (.lst ([kb k 0, kb k 1, kb k 2, kb k 3, kb k 4, kb k 5] ++ [kb k 6, kb k 7, kb k 8])) = G3 at s3 e3 ⊢
    refine ⟨.ref p, rfl, .inl ⟨rfl, _, sqL_of e3⟩, _, rfl, D, _, _, _, rfl, R.err, (xd.same s3), rfl, (fun u r => r), R.kit 9 (by decide), _, rfl, D, _, _, _, rfl, R.err, (xd.same s3), rfl, (fun u r => r), R.kit 10 (by decide), _, rfl, D, _, _, _, rfl, R.err, (xd.same s3), rfl, (fun u r => r), R.kit 11 (by decide), (by show 3 ≤ sizeLine; decide), fun q3 nq3 => ⟨p, q3, _, _, rfl, rfl, by rw [upd_ne (ne_of_none e3 nq3)]; exact e3, upd_same, (by show 12 ≤ sizeLine; decide), ?_⟩⟩
    have s4 : Same H1 (upd (upd G3 q3 (.lst [kb k 9, kb k 10, kb k 11])) p (.lst ([kb k 0, kb k 1, kb k 2, kb k 3, kb k 4, kb k 5, kb k 6, kb k 7, kb k 8] ++ [kb k 9, kb k 10, kb k 11]))) := (s3.put' nq3).put np
    have e4 : (upd (upd G3 q3 (.lst [kb k 9, kb k 10, kb k 11])) p (.lst ([kb k 0, kb k 1, kb k 2, kb k 3, kb k 4, kb k 5, kb k 6, kb k 7, kb k 8] ++ [kb k 9, kb k 10, kb k 11]))) p = some (.lst [kb k 0, kb k 1, kb k 2, kb k 3, kb k 4, kb k 5, kb k 6, kb k 7, kb k 8, kb k 9, kb k 10, kb k 11]) := upd_same
    generalize upd (upd G3 q3 (.lst [kb k 9, kb k 10, kb k 11])) p (.lst ([kb k 0, kb k 1, kb k 2, kb k 3, kb k 4, kb k 5, kb k 6, kb k 7, kb k 8] ++ [kb k 9, kb k 10, kb k 11])) = G4 at s4 e4 ⊢
    refine ⟨.ref p, rfl, .inl ⟨rfl, _, sqL_of e4⟩, _, rfl, D, _, _, _, rfl, R.err, (xd.same s4), rfl, (fun u r => r), R.kit 12 (by decide), _, rfl, D, _, _, _, rfl, R.err, (xd.same s4), rfl, (fun u r => r), R.kit 13 (by decide), _, rfl, D, _, _, _, rfl, R.err, (xd.same s4), rfl, (fun u r => r), R.kit 14 (by decide), (by show 3 ≤ sizeLine; decide), fun q4 nq4 => ⟨p, q4, _, _, rfl, rfl, by rw [upd_ne (ne_of_none e4 nq4)]; exact e4, upd_same, (by show 15 ≤ sizeLine; decide), ?_⟩⟩
    have s5 : Same H1 (upd (upd G4 q4 (.lst [kb k 12, kb k 13, kb k 14])) p (.lst ([kb k 0, kb k 1, kb k 2, kb k 3, kb k 4, kb k 5, kb k 6, kb k 7, kb k 8, kb k 9, kb k 10, kb k 11] ++ [kb k 12, kb k 13, kb k 14]))) := (s4.put' nq4).put np
    have e5 : (upd (upd G4 q4 (.lst [kb k 12, kb k 13, kb k 14])) p (.lst ([kb k 0, kb k 1, kb k 2, kb k 3, kb k 4, kb k 5, kb k 6, kb k 7, kb k 8, kb k 9, kb k 10, kb k 11] ++ [kb k 12, kb k 13, kb k 14]))) p = some (.lst [kb k 0, kb k 1, kb k 2, kb k 3, kb k 4, kb k 5, kb k 6, kb k 7, kb k 8, kb k 9, kb k 10, kb k 11, kb k 12, kb k 13, kb k 14]) := upd_same
    generalize upd (upd G4 q4 (.lst [kb k 12, kb k 13, kb k 14])) p (.lst ([kb k 0, kb k 1, kb k 2, kb k 3, kb k 4, kb k 5, kb k 6, kb k 7, kb k 8, kb k 9, kb k 10, kb k 11] ++ [kb k 12, kb k 13, kb k 14])) = G5 at s5 e5 ⊢
    refine ⟨.ref p, rfl, .inl ⟨rfl, _, sqL_of e5⟩, _, rfl, D, _, _, _, rfl, R.err, (xd.same s5), rfl, (fun u r => r), R.kit 15 (by decide), _, rfl, D, _, _, _, rfl, R.err, (xd.same s5), rfl, (fun u r => r), R.kit 16 (by decide), (by show 2 ≤ sizeLine; decide), fun q5 nq5 => ⟨p, q5, _, _, rfl, rfl, by rw [upd_ne (ne_of_none e5 nq5)]; exact e5, upd_same, (by show 17 ≤ sizeLine; decide), ?_⟩⟩
    have s6 : Same H1 (upd (upd G5 q5 (.lst [kb k 15, kb k 16])) p (.lst ([kb k 0, kb k 1, kb k 2, kb k 3, kb k 4, kb k 5, kb k 6, kb k 7, kb k 8, kb k 9, kb k 10, kb k 11, kb k 12, kb k 13, kb k 14] ++ [kb k 15, kb k 16]))) := (s5.put' nq5).put np
    have e6 : (upd (upd G5 q5 (.lst [kb k 15, kb k 16])) p (.lst ([kb k 0, kb k 1, kb k 2, kb k 3, kb k 4, kb k 5, kb k 6, kb k 7, kb k 8, kb k 9, kb k 10, kb k 11, kb k 12, kb k 13, kb k 14] ++ [kb k 15, kb k 16]))) p = some (.lst [kb k 0, kb k 1, kb k 2, kb k 3, kb k 4, kb k 5, kb k 6, kb k 7, kb k 8, kb k 9, kb k 10, kb k 11, kb k 12, kb k 13, kb k 14, kb k 15, kb k 16]) := upd_same
    generalize upd (upd G5 q5 (.lst [kb k 15, kb k 16])) p (.lst ([kb k 0, kb k 1, kb k 2, kb k 3, kb k 4, kb k 5, kb k 6, kb k 7, kb k 8, kb k 9, kb k 10, kb k 11, kb k 12, kb k 13, kb k 14] ++ [kb k 15, kb k 16])) = G6 at s6 e6 ⊢
    refine ⟨.ref p, rfl, .inl ⟨rfl, _, sqL_of e6⟩, p, _, .bl true, rfl, rfl, sqL_of e6, rfl, rfl, rfl, _, rfl, ?_⟩
    have kc : ([kb k 0, kb k 1, kb k 2, kb k 3, kb k 4, kb k 5, kb k 6, kb k 7, kb k 8, kb k 9, kb k 10, kb k 11, kb k 12, kb k 13, kb k 14, kb k 15, kb k 16]).countP (fun z => eqV z (.bl true)) = 1 := kinds_count k R.lt
    rw [kc]
    refine iteF ⟨_, rfl, D, .ty "ValueError", _, true, rfl, R.err, xd.same s6, rfl, (fun u r => r), R.ve, true, rfl, iteF ?_⟩
    refine ⟨(by show 11 ≤ sizeLine; decide), fun p2 np2 => ?_⟩
    have s7 : Same H1 (upd G6 p2 (.lst [.str "facts", .str "case", .str "number", .str "condition", .str "never", .str "rule", .str "book", .str "norule", .str "ruling", .str "fact", .str "reason"])) := s6.put' np2
    have e7 : (upd G6 p2 (.lst [.str "facts", .str "case", .str "number", .str "condition", .str "never", .str "rule", .str "book", .str "norule", .str "ruling", .str "fact", .str "reason"])) p = some (.lst [kb k 0, kb k 1, kb k 2, kb k 3, kb k 4, kb k 5, kb k 6, kb k 7, kb k 8, kb k 9, kb k 10, kb k 11, kb k 12, kb k 13, kb k 14, kb k 15, kb k 16]) := (upd_ne (ne_of_none e6 np2)).trans e6
    have f7 : (upd G6 p2 (.lst [.str "facts", .str "case", .str "number", .str "condition", .str "never", .str "rule", .str "book", .str "norule", .str "ruling", .str "fact", .str "reason"])) p2 = some (.lst [.str "facts", .str "case", .str "number", .str "condition", .str "never", .str "rule", .str "book", .str "norule", .str "ruling", .str "fact", .str "reason"]) := upd_same
    generalize upd G6 p2 (.lst [.str "facts", .str "case", .str "number", .str "condition", .str "never", .str "rule", .str "book", .str "norule", .str "ruling", .str "fact", .str "reason"]) = H7 at s7 e7 f7 ⊢
    refine ⟨.ref p2, rfl, (by show 6 ≤ sizeLine; decide), fun q8 nq8 => ?_⟩
    refine ⟨p2, q8, _, _, rfl, rfl, (upd_ne (ne_of_none f7 nq8)).trans f7, upd_same, (by show 17 ≤ sizeLine; decide), fun r nr => ?_⟩
    have s8 := s7.put' (o := .lst [.str "many", .str "chance", .str "other", .str "neighbor", .str "nofacts", .str "known"]) nq8
    have e8 := (upd_ne (o := .lst [.str "many", .str "chance", .str "other", .str "neighbor", .str "nofacts", .str "known"]) (ne_of_none e7 nq8)).trans e7
    have s9 : Same H1 (upd (upd H7 q8 (.lst [.str "many", .str "chance", .str "other", .str "neighbor", .str "nofacts", .str "known"])) r (.lst ([.str "facts", .str "case", .str "number", .str "condition", .str "never", .str "rule", .str "book", .str "norule", .str "ruling", .str "fact", .str "reason"] ++ [.str "many", .str "chance", .str "other", .str "neighbor", .str "nofacts", .str "known"]))) := s8.put' nr
    have e9 : (upd (upd H7 q8 (.lst [.str "many", .str "chance", .str "other", .str "neighbor", .str "nofacts", .str "known"])) r (.lst ([.str "facts", .str "case", .str "number", .str "condition", .str "never", .str "rule", .str "book", .str "norule", .str "ruling", .str "fact", .str "reason"] ++ [.str "many", .str "chance", .str "other", .str "neighbor", .str "nofacts", .str "known"]))) p = some (.lst [kb k 0, kb k 1, kb k 2, kb k 3, kb k 4, kb k 5, kb k 6, kb k 7, kb k 8, kb k 9, kb k 10, kb k 11, kb k 12, kb k 13, kb k 14, kb k 15, kb k 16]) := (upd_ne (ne_of_none e8 nr)).trans e8
    have f9 : (upd (upd H7 q8 (.lst [.str "many", .str "chance", .str "other", .str "neighbor", .str "nofacts", .str "known"])) r (.lst ([.str "facts", .str "case", .str "number", .str "condition", .str "never", .str "rule", .str "book", .str "norule", .str "ruling", .str "fact", .str "reason"] ++ [.str "many", .str "chance", .str "other", .str "neighbor", .str "nofacts", .str "known"]))) r = some (.lst (kindNames.map V.str)) := upd_same
    generalize upd (upd H7 q8 (.lst [.str "many", .str "chance", .str "other", .str "neighbor", .str "nofacts", .str "known"])) r (.lst ([.str "facts", .str "case", .str "number", .str "condition", .str "never", .str "rule", .str "book", .str "norule", .str "ruling", .str "fact", .str "reason"] ++ [.str "many", .str "chance", .str "other", .str "neighbor", .str "nofacts", .str "known"])) = H9 at s9 e9 f9 ⊢
    refine ⟨.ref p, rfl, .inl ⟨rfl, _, sqL_of e9⟩, p, _, .bl true, k, .bl true, rfl, rfl, sqL_of e9, rfl, rfl, kinds_at k R.lt, rfl, fun m z' hm hz => ?_, r, _, _, _, rfl, rfl, sqL_of f9, atI_nat (names_at k R.lt), ?_⟩
    · have := (kinds_off k R.lt m hm).symm.trans hz
      cases this
      rfl
    refine ⟨_, rfl, (by show 2 ≤ sizeLine; decide), fun t1 nt1 => ⟨t1, _, rfl, .inr sqT_new, rfl, rfl, _, rfl, ?_⟩⟩
    have s10 := s9.put' (o := .tup [.str "facts", .str "case"]) nt1
    rw [in_two k R.lt]
    cases P with
    | ix hk ed ea l =>
      rw [decide_eq_true hk]
      exact iteT ⟨_, rfl, _, rfl, rfl, D, _, _, _, rfl, R.err, R.noF "index" (by decide), ed, s10 _ _ ea, l, (by show 2 ≤ sizeLine; decide), fun t nt => qq _ t (s10.put' nt) upd_same (s10.free nt)⟩
    | cond ed ea l l2 =>
      exact iteF ⟨_, rfl, rfl, _, rfl, iteT ⟨_, rfl, _, rfl, rfl, D, _, _, _, rfl, R.err, R.noF "part" (by decide), ed, s10 _ _ ea, l, _, rfl, rfl, D, _, _, _, rfl, R.err, R.noF "index" (by decide), ed, s10 _ _ ea, l2, (by show 3 ≤ sizeLine; decide), fun t nt => qq _ t (s10.put' nt) upd_same (s10.free nt)⟩⟩
    | book ed ea l l2 =>
      exact iteF ⟨_, rfl, rfl, _, rfl, iteF ⟨_, rfl, rfl, _, rfl, iteT ⟨_, rfl, _, rfl, rfl, D, _, _, _, rfl, R.err, R.noF "word" (by decide), ed, s10 _ _ ea, l, _, rfl, rfl, D, _, _, _, rfl, R.err, R.noF "index" (by decide), ed, s10 _ _ ea, l2, (by show 3 ≤ sizeLine; decide), fun t nt => qq _ t (s10.put' nt) upd_same (s10.free nt)⟩⟩⟩
    | rule ed ea l =>
      exact iteF ⟨_, rfl, rfl, _, rfl, iteF ⟨_, rfl, rfl, _, rfl, iteF ⟨_, rfl, (by show 2 ≤ sizeLine; decide), fun t2 nt2 => ⟨t2, _, rfl, .inr sqT_new, rfl, rfl, _, rfl, iteT ⟨_, rfl, _, rfl, rfl, _, rfl, iteT ⟨_, rfl, rfl, D, _, _, _, rfl, R.err, R.noF "part" (by decide), ed, s10.put' nt2 _ _ ea, l, (by show 2 ≤ sizeLine; decide), fun t nt => qq _ t ((s10.put' nt2).put' nt) upd_same ((s10.put' nt2).free nt)⟩⟩⟩⟩⟩⟩
    | chance ed ea l =>
      exact iteF ⟨_, rfl, rfl, _, rfl, iteF ⟨_, rfl, rfl, _, rfl, iteF ⟨_, rfl, (by show 2 ≤ sizeLine; decide), fun t2 nt2 => ⟨t2, _, rfl, .inr sqT_new, rfl, rfl, _, rfl, iteT ⟨_, rfl, _, rfl, rfl, _, rfl, iteF ⟨_, rfl, rfl, D, _, _, _, rfl, R.err, R.noF "fact" (by decide), ed, s10.put' nt2 _ _ ea, l, (by show 2 ≤ sizeLine; decide), fun t nt => qq _ t ((s10.put' nt2).put' nt) upd_same ((s10.put' nt2).free nt)⟩⟩⟩⟩⟩⟩
    | plain hx hk h3 h5 h6 h12 =>
      rw [decide_eq_false hk]
      refine iteF ⟨_, rfl, rfl, _, rfl, ?_⟩
      rw [is_cond k R.lt, decide_eq_false h3]
      refine iteF ⟨_, rfl, rfl, _, rfl, ?_⟩
      rw [is_book k R.lt, decide_eq_false h6]
      refine iteF ⟨_, rfl, (by show 2 ≤ sizeLine; decide), fun t2 nt2 => ⟨t2, _, rfl, .inr sqT_new, rfl, rfl, _, rfl, ?_⟩⟩
      rw [in_rule k R.lt, decide_eq_false h5, decide_eq_false h12]
      exact iteF ⟨_, rfl, (by show 1 ≤ sizeLine; decide), fun t nt => qq _ t ((s10.put' nt2).put' nt) upd_same ((s10.put' nt2).free nt)⟩
end Sc
namespace Sc
open PySem PySem.Spec PyProof.Rows L2
/-- len(o), o an object whose class has its own __len__ -/
def rLenO (C : Addr) (sp : Sp) : List V → Hp → VK → Prop := fun xs H Q => ∃ (a dx : Addr) (fs : List (Str × V)), xs = [.ref a] ∧ H a = some (.ins C dx fs) ∧ sp [.ref a] H (fun v H' => ∃ n : Nat, v = .int n ∧ n < 2 ^ 62 ∧ Q (.int n) H') (fun _ _ _ => False)
theorem call_lenO {X : Cx} {C g : Addr} {k : Nat} {fd : FuncData} {ps : List Str} {sp : Sp} (at_ : PySem.W.findIn X.K (.ref C) "__len__" = some (some (.ref g))) (ty : PySem.W.typeIn X.K (.ref g) = some (.type "function"))
    (F : FnOk X.prog X.w X.K X.mg X.base CX0 k g fd ps sp) (hr : Room (k + 1) X.A) (hb : Binds X.K fd ps []) : CallR X (.builtin "len") (rLenO C sp) := by
  intro pins s σ H xs us Q I r h
  obtain ⟨a, dx, fs, rfl, ea, h⟩ := h
  obtain ⟨u, rfl, ru⟩ := vals1 r
  obtain rfl : u = Value.ref a := ru
  obtain ⟨mA, O, _⟩ := ins_get I.hok ea
  obtain ⟨od, J, _⟩ := ObjM.look O
  have hl : ([Value.ref a] ++ ([] : List Value)).length = ps.length := F.len _ _ _ _ h
  refine Calls.call_function_entry kind_len plain_len entry_len (args_len1 (.ref a)) ?_
  unfold Builtin.len
  rw [show oneArg "len" { pos := [Value.ref a] } = pure (.ref a) from rfl, pure_bind]
  refine wpAny_bind (PySem.W.special_fn I.kIn J at_ ty (wpAny_call (codeAny_mono (F.run X.A.in1 X.stack s H ⟨[.ref a], []⟩ [.ref a] [.ref a] _ _ (Room.in1 hr) (Env0.in1 I.env0) (hb s [.ref a] I.kIn hl) (Paired.cons rfl .nil) h) fun res s' hq => ?_)))
  cases res with
  | error e => exact hq.elim
  | ok fl =>
    cases fl with
    | ret v =>
      obtain ⟨y, H', I', ry, n, rfl, hn, q⟩ := I.after hq
      obtain ⟨t, rfl⟩ := ry
      dsimp only
      have e62 : (2 : Nat) ^ 62 < 2 ^ 63 := by decide
      refine wpAny_bind (wpAny_holding (wpAny_pure (wpAny_bind (wpAny_letGo ?_))))
      have h1 : ¬ (n : Int) < 0 := by omega
      have h2 : ¬ (n : Int) ≥ 2 ^ 63 := by
        have : (n : Int) < 2 ^ 62 := by exact_mod_cast hn
        omega
      rw [if_neg h1, if_neg h2]
      exact wpAny_bind (wpAny_mkInt (wpAny_pure ⟨_, rfl, .int n, H', I'.tok _, ⟨_, rfl⟩, q⟩))
    | next => exact hq.elim
    | brk => exact hq.elim
    | cont => exact hq.elim
end Sc
namespace Sc
open PySem PySem.Spec PyProof.Rows L2
section
variable {P : Program} {w : World} {K : PySem.W.Frag} {mg : Str → Option Value} {base : Heap} {a l : Addr} {H H' H'' : Hp}
/-- a def whose code is known -/
structure FunC (K : PySem.W.Frag) (x qual : Str) (st : Stmt) (f : Addr) (fd : FuncData) (c : Addr) : Prop where
  ex : ∃ (oc : Value) (od : Option Addr) (kV doc pm : Value) (an : Option Addr) (ct : Value) (osl : Array (Option Value)), fd = PySem.W.fnOf x qual (defArgs st) (defBody st) (defScope st) .none kV doc pm an (.ref c) ct ∧ K.lookup f = some ⟨oc, od, .func fd, osl⟩ ∧ PySem.W.codeIn K (.ref c) qual = true
  kp : PySem.W.keepIn K (.ref f) = true
theorem FunC.ok {x qual : Str} {st : Stmt} {f : Addr} {fd : FuncData} {c : Addr} {N ps : List Str} {k : Nat} {sp : Sp} (F : FunC K x qual st f fd c) (S : FnScope N ps (defScope st))
    (len : ∀ (vs : List V) (H : Hp) (Q : VK) (E : XK), sp vs H Q E → vs.length = ps.length)
    (hb : ∀ (A : Around) (outer : List Env) (s : Shared) (H : Hp) (vs : List V) (Q : VK) (E : XK), Room k (A.deeper (envOfC qual (defScope st) s.heap.objs.size f (.ref c))) → sp vs H Q E →
      ∃ t, PSs (cxOf CX0 P w K mg base N qual (defScope st) f (.ref c) A outer s H E).nox (defBody st) t ∧ t { nx := fun x H' => Q .non H', rt := Q } (L2.start N vs) H) : FnOk P w K mg base CX0 (k + 1) f fd ps sp := by
  obtain ⟨oc, od, kV, doc, pm, an, ct, osl, rfl, lk, hcd⟩ := F.ex
  exact fn_of lk hcd S len fun A outer s H vs Q E hr h => by
    obtain ⟨t, h1, h2⟩ := hb A outer s H vs Q E hr h
    exact ⟨t, PSs.nox h1, h2⟩
/-- _law_error(lambda: ..) -/
theorem pe_errlam {X : Cx} {c PT : Addr} {k : Nat} {g : Addr} {fd : FuncData} {cl : Nat → Addr} {CE : Addr} {params : Arguments} {body : Expr} {scope : Scope} {t : XK → TE} {p lpos pos : Pos}
    (F : Fun X.K "_law_error" "_law_error" s__law_error g fd) (hm : X.mg "_law_error" = some (.ref g)) (hb : Binds X.K fd ["_law_call"] []) (B : Blt X.mg) (G : GErr X.mg cl CE) (TB : LamX.TabB X.base X.mg c PT) (hcode : X.env.code = .ref c)
    (hr : Room (k + 2) X.A) (L : LamX.LamS X.env.scope scope) (hdef : defaultsOf params X.env = ([], []))
    (hbind : ∀ (q : Str) (cl : List (Str × Addr)) (pm cv ctv : Value), bindArgs (PySem.W.kla_fn "<lambda>" q params body scope cl pm cv ctv) {} = pure [])
    (hbody : ∀ (A : Around) (outer : List Env) (s : Shared) (H : Hp) (E : XK) (f c' : Addr), Room k (A.deeper (LamX.lamEnv X scope s.heap.objs.size f c')) → PE (LamX.lamCx X A outer s H E scope f c') body (t E)) (hg : Gl X "_law_error" := by rfl) :
    PE X (.Call (.Name "_law_error" p) [.Lambda params body scope lpos] [] pos) (LamX.tLam [(PT, X.env.qual ++ "<lambda>")] (TErr X.K cl CE) t) := by
  obtain ⟨oc, od, kV, doc, pm, an, cdv, ct, osl, rfl, lk, hcd⟩ := F.ex
  exact LamX.pe_lamcall hg hm F.kp lk hcd hb sc__law_error rfl (Or.inl rfl) (err_gives B G) TB hcode (List.mem_singleton.mpr rfl) (fun p hp _ => by rw [List.mem_singleton.mp hp]) hr L hdef hbind hbody
theorem twelve_fine : Fines twelve := by
  unfold Fines Fine
  decide +kernel
theorem tabs_kp {T : List (Addr × Str)} (k : Kp a l H H') (t : LamX.Tabs T H) : LamX.Tabs T H' := fun p hp => by
  obtain ⟨ps, h1, h2, h3⟩ := t p hp
  refine ⟨ps, k.obj h1 (fun _ z => nomatch z), h2, fun pos cv e => ?_⟩
  obtain ⟨c, e1, e2⟩ := h3 pos cv e
  exact ⟨c, e1, k.obj e2 (fun _ z => by unfold LamX.CodeO at z; cases z)⟩
theorem RS.ext (r : RS H a l) (e : LamX.ExtN H H') : RS H' a l := by
  obtain ⟨st, k, ns, h1, h2, q⟩ := r
  exact ⟨st, k, ns, e _ _ h1 (fun _ z => nomatch z), e _ _ h2 (fun _ z => nomatch z), q⟩
theorem sqT_ext {b : Addr} {xs : List V} (e : LamX.ExtN H H') (h : SqT K H b xs) : SqT K H' b xs := by
  rcases h with (h | ⟨o, h⟩) | h
  · exact .inl (.inl (e _ _ h fun _ z => nomatch z))
  · exact .inl (.inr ⟨o, e _ _ h fun _ z => nomatch z⟩)
  · exact .inr h
abbrev dOne (x : Str) : PyData := .tuple [.str x]
theorem dp_one {b : Addr} {x : Str} (h : SqT K H b [.str x]) : Dp K H (.ref b) (dOne x) := .tup h (.cons (.str _) .nil)
theorem lay_one {x : Str} (h : (PyData.str x).canLay0 = true) : (dOne x).canLay0 = true := by show ((PyData.str x).canLay0 && true) = true; rw [h]; rfl
theorem sh_one {x : Str} (h : (PyData.str x).canLay0 = true) : SeqAt.shaped (dOne x) = true := by
  unfold SeqAt.shaped
  rw [lay_one h]
  rfl
theorem eq_one {x : Str} (h : (PyData.str x).canLay0 = true) : (dOne x).eqv (dOne x) = true := SeqAt.eqv_refl _ (lay_one h)
theorem ad_strs {p : Addr} {cs : List Str} (e : H p = some (.tup (cs.map V.str))) (hl : cs.length ≤ 1000) : AD H 1 (.ref p) (.tuple (cs.map PyData.str)) := by
  refine .tup e (by rw [List.length_map, List.length_map]) (by rw [List.length_map]; omega) fun i x d hx hd => ?_
  rw [List.getElem?_map] at hx hd
  cases h : cs[i]? with
  | none => rw [h] at hx; cases hx
  | some z =>
    rw [h] at hx hd
    cases hx
    cases hd
    exact .str 0 z
abbrev qLam : Str := (Str.ofString "law" ++ Str.ofString ".<locals>.") ++ Str.ofString "<lambda>"
end
end Sc
namespace Sc
open PySem PySem.Spec PyProof.Rows L2
def SLe (a b : Str) : Prop := a.cps.toList ≤ b.cps.toList
theorem rising_pw : ∀ (x : Str) (r : List Str), risingS x r = true → (∀ y ∈ r, SLe x y) ∧ r.Pairwise SLe
  | _, [], _ => ⟨(fun _ h => nomatch h), List.Pairwise.nil⟩
  | x, y :: r, h => by
    have h : (!ltCps y.cps.toList x.cps.toList && risingS y r) = true := h
    rw [Bool.and_eq_true, ltCps_eq] at h
    obtain ⟨h1, h2⟩ := h
    obtain ⟨i1, i2⟩ := rising_pw y r h2
    have hxy : SLe x y := by
      have h1 : ¬ y.cps.toList < x.cps.toList := by simpa using h1
      exact h1
    refine ⟨fun z hz => ?_, List.pairwise_cons.mpr ⟨i1, i2⟩⟩
    rcases List.mem_cons.mp hz with rfl | h
    · exact hxy
    · exact List.le_trans hxy (i1 z h)
theorem sorted_pw : ∀ {r : List Str}, sortedS r = true → r.Pairwise SLe
  | [], _ => .nil
  | x :: r, h => List.pairwise_cons.mpr (rising_pw x r h)
theorem str_ext {a b : Str} (h : a.cps.toList = b.cps.toList) : a = b := by
  obtain ⟨x⟩ := a
  obtain ⟨y⟩ := b
  congr 1
  exact Array.toList_inj.mp h
theorem sorted_uniq {a b : List Str} (p : a.Perm b) (sa : sortedS a = true) (sb : sortedS b = true) : a = b :=
  List.Perm.eq_of_pairwise (le := SLe) (fun x y _ _ h1 h2 => str_ext (List.le_antisymm h1 h2)) (sorted_pw sa) (sorted_pw sb) p
end Sc
namespace Sc
open PySem PySem.Spec PyProof.Rows L2
abbrev s_law : Stmt := topS 37
theorem sc_law : FnScope ["_law_script", "_law_h", "_law_time", "_law_facts_here", "_law_parts", "_law_fact", "_law_fault", "_law_part", "_law_k", "_law_odd", "_law_kind", "_law_due_here", "_law_found", "_law_every", "_law_some", "_law_failing", "_law_holding"] ["_law_script"] (defScope s_law) := ⟨rfl, rfl, rfl, by decide +kernel, rfl, by decide +kernel, by decide +kernel⟩
section
variable {P : Program} {w : World} {K : PySem.W.Frag} {mg : Str → Option Value} {base : Heap} {a l : Addr} {H H' H'' : Hp}
theorem wk_ss {X : Cx} {st : List Stmt} {t : TS} (t' : TS) (h : PSs X st t) (w : ∀ D σ H, t' D σ H → t D σ H) : PSs X st t' := ⟨fun pins s σ H D I x => h.run pins s σ H D I (w D σ H x)⟩
/-- a class whose objects a def of its own makes -/
structure Mkr (P : Program) (w : World) (K : PySem.W.Frag) (mg : Str → Option Value) (base : Heap) (k : Nat) (x : Str) (C : Addr) (ps : List Str) (sp : Sp) : Prop where
  ex : ∃ (f : Addr) (fd : FuncData), Mk K C f ∧ FnOk P w K mg base (L2.CX P w) k f fd ps sp ∧ mg x = some (.ref C) ∧ Binds K fd ps []
section
variable {X : Cx} {k : Nat} {x : Str} {C : Addr} {ps : List Str} {sp : Sp} {e : Expr} {es : List Expr} {t : TA} {p pos : Pos}
theorem pe_mkN (M : Mkr X.prog X.w X.K X.mg X.base k x C ps sp) (hr : Room (k + 1) X.A) (ha : PA X (e :: es) t) (hg : Gl X x := by rfl) (hdb : (x == ("__debug__" : Str)) = false := by decide)
    (he : starEach (e :: es) X.env = (false, eval e X.env) :: starEach es X.env := by rfl) (hpl : (backTo pos (starEach es X.env)).any (·.1) = false := by rfl) : PE X (.Call (.Name x p) (e :: es) [] pos) (tMake C sp [] E0 t) := by
  obtain ⟨f, fd, hk, F, hm, hb⟩ := M.ex
  exact pe_make hk F hr hg hm hb .nil passL ha hdb he hpl
theorem pe_mkX {E : XK} (M : Mkr X.prog X.w X.K X.mg X.base k x C ps sp) (hr : Room (k + 1) X.A) (tk : Takes X (fun cls d _ H => E cls d H)) (ha : PA X (e :: es) t) (hg : Gl X x := by rfl) (hdb : (x == ("__debug__" : Str)) = false := by decide)
    (he : starEach (e :: es) X.env = (false, eval e X.env) :: starEach es X.env := by rfl) (hpl : (backTo pos (starEach es X.env)).any (·.1) = false := by rfl) : PE X (.Call (.Name x p) (e :: es) [] pos) (tMake C sp [] E t) := by
  obtain ⟨f, fd, hk, F, hm, hb⟩ := M.ex
  exact pe_make hk F hr hg hm hb .nil (fun pins σ H s e s' I h => passAt tk σ pins H s e s' I h) ha hdb he hpl
end
def sp_prop (C : Addr) (n : Str) : Sp := fun vs H Q _ => ∃ (x dx : Addr) (fs : List (Str × V)) (v : V), vs = [.ref x] ∧ H x = some (.ins C dx fs) ∧ fs.lookup n = some v ∧ Q v H
def sp_len (K : PySem.W.Frag) (C : Addr) : Sp := fun vs H Q _ => ∃ (x dx n : Addr) (fs : List (Str × V)) (zs : List V), vs = [.ref x] ∧ H x = some (.ins C dx fs) ∧ fs.lookup ("_names" : Str) = some (.ref n) ∧ SqT K H n zs ∧ Q (.int zs.length) H
structure CondC (P : Program) (w : World) (K : PySem.W.Frag) (mg : Str → Option Value) (base : Heap) (C p1 g1 p2 g2 p3 g3 g4 : Addr) (fd1 fd2 fd3 fd4 : FuncData) : Prop where
  cls : Cls K C
  p_holding : PropOf K C "holding" p1 g1 ∧ FnOk P w K mg base CX0 1 g1 fd1 ["self"] (sp_prop C "_holding") ∧ Binds K fd1 ["self"] []
  p_failing : PropOf K C "failing" p2 g2 ∧ FnOk P w K mg base CX0 1 g2 fd2 ["self"] (sp_prop C "_failing") ∧ Binds K fd2 ["self"] []
  p_names : PropOf K C "names" p3 g3 ∧ FnOk P w K mg base CX0 1 g3 fd3 ["self"] (sp_prop C "_names") ∧ Binds K fd3 ["self"] []
  lenAt : PySem.W.findIn K (.ref C) "__len__" = some (some (.ref g4))
  lenTy : PySem.W.typeIn K (.ref g4) = some (.type "function")
  lenF : FnOk P w K mg base CX0 1 g4 fd4 ["self"] (sp_len K C)
  lenB : Binds K fd4 ["self"] []
def sp_law (K : PySem.W.Frag) (PT : Addr) : Sp := fun vs H Q _ => ∃ (s : Addr) (ns : List Int), vs = [.ref s] ∧ SqL K H s (ns.map V.int) ∧ ns.length ≤ 63 ∧ (∀ z ∈ ns, Builtin.Int.intBits z ≤ 1048576) ∧ H PT = some (.tbl #[]) ∧ ∀ H', Q (.bl true) H'
theorem Kp.lst {b : Addr} {xs : List V} (k : Kp a l H H') (h : H b = some (.lst xs)) (n1 : b ≠ a) (n2 : b ≠ l) : H' b = some (.lst xs) := k.keep b _ n1 n2 h
/-- the two parts, while they are made -/
structure Pt (K : PySem.W.Frag) (a l lp l0 l1 fp : Addr) (fs : List Str) (T : List (Addr × Str)) (n : Nat) (H : Hp) : Prop where
  rs : RS H a l
  tb : LamX.Tabs T H
  hp : H lp = some (.lst [.ref l0, .ref l1])
  hs : ∃ xs ys : List Str, H l0 = some (.lst (xs.map V.str)) ∧ H l1 = some (.lst (ys.map V.str)) ∧ Fines xs ∧ Fines ys ∧ xs.length ≤ n ∧ ys.length ≤ n
  tup : SqT K H fp (fs.map V.str)
  ne : (l0 ≠ l1 ∧ lp ≠ l0 ∧ lp ≠ l1) ∧ (lp ≠ a ∧ lp ≠ l) ∧ (l0 ≠ a ∧ l0 ≠ l) ∧ (l1 ≠ a ∧ l1 ≠ l)
section
variable {lp l0 l1 fp : Addr} {fs : List Str} {T : List (Addr × Str)} {n m : Nat}
theorem Pt.kp (p : Pt K a l lp l0 l1 fp fs T n H) (k : Kp a l H H') : Pt K a l lp l0 l1 fp fs T n H' := by
  obtain ⟨xs, ys, h0, h1, q⟩ := p.hs
  obtain ⟨_, n0, n1, n2⟩ := id p.ne
  exact ⟨k.new, tabs_kp k p.tb, k.keep _ _ n0.1 n0.2 p.hp, ⟨xs, ys, k.keep _ _ n1.1 n1.2 h0, k.keep _ _ n2.1 n2.2 h1, q⟩, k.tup p.tup, p.ne⟩
theorem Pt.le (p : Pt K a l lp l0 l1 fp fs T n H) (h : n ≤ m) : Pt K a l lp l0 l1 fp fs T m H := by
  obtain ⟨xs, ys, h0, h1, f0, f1, b0, b1⟩ := p.hs
  exact ⟨p.rs, p.tb, p.hp, ⟨xs, ys, h0, h1, f0, f1, by omega, by omega⟩, p.tup, p.ne⟩
def pk (l0 l1 : Addr) (j : Nat) : Addr := if j = 0 then l0 else l1
theorem pk_at (j : Nat) (hj : j < 2) : [V.ref l0, V.ref l1][j]? = some (.ref (pk l0 l1 j)) := by
  match j, hj with
  | 0, _ => rfl
  | 1, _ => rfl
theorem rs_upd {b : Addr} {o : HO} (r : RS H a l) (n1 : b ≠ a) (n2 : b ≠ l) : RS (upd H b o) a l := by
  obtain ⟨st, k, ns, h1, h2, q⟩ := r
  exact ⟨st, k, ns, by rw [upd_ne n1.symm]; exact h1, by rw [upd_ne n2.symm]; exact h2, q⟩
theorem tabs_upd {b : Addr} {xs ys : List V} (e : H b = some (.lst xs)) (t : LamX.Tabs T H) : LamX.Tabs T (upd H b (.lst ys)) := fun p hp => by
  obtain ⟨ps, h1, h2, h3⟩ := t p hp
  refine ⟨ps, by rw [upd_ne (fun z => by rw [z, e] at h1; cases h1)]; exact h1, h2, fun pos cv ee => ?_⟩
  obtain ⟨c, e1, e2⟩ := h3 pos cv ee
  exact ⟨c, e1, by rw [upd_ne (fun z => by rw [z, e] at e2; unfold LamX.CodeO at e2; cases e2)]; exact e2⟩
theorem tup_upd {b c : Addr} {xs ys zs : List V} (e : H b = some (.lst xs)) (h : SqT K H c zs) : SqT K (upd H b (.lst ys)) c zs := by
  rcases h with (h | ⟨ob, h⟩) | h
  · exact .inl (.inl (by rw [upd_ne (fun z => by rw [z, e] at h; cases h)]; exact h))
  · exact .inl (.inr ⟨ob, by rw [upd_ne (fun z => by rw [z, e] at h; cases h)]; exact h⟩)
  · exact .inr h
theorem Pt.sel (p : Pt K a l lp l0 l1 fp fs T n H) (j : Nat) (hj : j < 2) : ∃ zs : List Str, H (pk l0 l1 j) = some (.lst (zs.map V.str)) ∧ Fines zs ∧ zs.length ≤ n ∧ pk l0 l1 j ≠ a ∧ pk l0 l1 j ≠ l ∧
    ∀ (zs' : List Str) (m : Nat), Fines zs' → zs'.length ≤ m → n ≤ m → Pt K a l lp l0 l1 fp fs T m (upd H (pk l0 l1 j) (.lst (zs'.map V.str))) := by
  obtain ⟨xs, ys, h0, h1, f0, f1, b0, b1⟩ := p.hs
  obtain ⟨⟨m0, m1, m2⟩, n0, n1, n2⟩ := id p.ne
  match j, hj with
  | 0, _ => exact ⟨xs, h0, f0, b0, n1.1, n1.2, fun zs' m f b h => ⟨rs_upd p.rs n1.1 n1.2, tabs_upd h0 p.tb, by rw [show pk l0 l1 0 = l0 from rfl, upd_ne m1]; exact p.hp, ⟨zs', ys, upd_same, by rw [show pk l0 l1 0 = l0 from rfl, upd_ne m0.symm]; exact h1, f, f1, b, by omega⟩, tup_upd h0 p.tup, p.ne⟩⟩
  | 1, _ => exact ⟨ys, h1, f1, b1, n2.1, n2.2, fun zs' m f b h => ⟨rs_upd p.rs n2.1 n2.2, tabs_upd h1 p.tb, by rw [show pk l0 l1 1 = l1 from rfl, upd_ne m2]; exact p.hp, ⟨xs, zs', by rw [show pk l0 l1 1 = l1 from rfl, upd_ne m0]; exact h0, upd_same, f0, f, by omega, b⟩, tup_upd h1 p.tup, p.ne⟩⟩
end
def odd7 : List Str := ["", "Abc", "abcdefghi", "a1", "zz", "a", "abcdefgh"]
theorem odd7_at : ∀ j, j < 7 → ∃ x, odd7[j]? = some x ∧ Fine x := by
  have h : ∀ x ∈ odd7, Fine x := by
    unfold Fine
    decide +kernel
  exact fun j hj => ⟨odd7[j], List.getElem?_eq_getElem hj, h _ (List.getElem_mem hj)⟩
abbrev dTrip (p i : Int) : PyData := .tuple [.str "condition", .int p, .int i]
theorem ad_four {q : Addr} {v1 v2 v3 : V} {k : Int} {d1 d2 d3 : PyData} (e : H q = some (.lst [v1, v2, v3, .int k])) (h1 : AD H 1 v1 d1) (h2 : AD H 1 v2 d2) (h3 : AD H 1 v3 d3) : AD H 2 (.ref q) (.list [d1, d2, d3, .int k]) := by
  refine .lst e rfl (by show 4 ≤ _; decide) fun i x d hx hd => ?_
  match i, hx, hd with
  | 0, hx, hd => cases hx; cases hd; exact h1
  | 1, hx, hd => cases hx; cases hd; exact h2
  | 2, hx, hd => cases hx; cases hd; exact h3
  | 3, hx, hd => cases hx; cases hd; exact .int 1 k
theorem ok_w3 : (PyData.str (Str.ofString "none")).canLay0 = true := by decide +kernel
theorem ok_w5 : (PyData.str (Str.ofString "condition")).canLay0 = true := by decide +kernel
theorem dp_trip {b : Addr} {p i : Int} (h : SqT K H b [.str "condition", .int p, .int i]) : Dp K H (.ref b) (dTrip p i) := .tup h (.cons (.str _) (.cons (.int _) (.cons (.int _) .nil)))
theorem lay_trip {p i : Int} : (dTrip p i).canLay0 = true := by show ((PyData.str _).canLay0 && ((PyData.int p).canLay0 && ((PyData.int i).canLay0 && true))) = true; rw [ok_w5]; rfl
theorem sh_trip {p i : Int} : SeqAt.shaped (dTrip p i) = true := by
  unfold SeqAt.shaped
  rw [lay_trip]
  rfl
theorem eq_trip {p i : Int} : (dTrip p i).eqv (dTrip p i) = true := SeqAt.eqv_refl _ lay_trip
/-- the condition of both parts is asked for -/
def tChk (K : PySem.W.Frag) (PT : Addr) : TS := fun D σ H => ∃ (hA hB dp : Addr) (xs ys : List Str), σ[11]? = some (some (.ref dp)) ∧ σ[16]? = some (some (.ref hA)) ∧ σ[15]? = some (some (.ref hB)) ∧ LamX.Tabs [(PT, qLam)] H ∧
  H hA = some (.tup (xs.map V.str)) ∧ H hB = some (.tup (ys.map V.str)) ∧ H dp = some (.tup (dueC (condBad xs ys))) ∧ Fines xs ∧ Fines ys ∧ xs.length ≤ 100 ∧ ys.length ≤ 100 ∧ ∀ H', LamX.ExtN H H' → LamX.Tabs [(PT, qLam)] H' → D.nx σ H'
theorem ok_law {f : Addr} {fd : FuncData} {c PT : Addr} {g : Addr} {fdE : FuncData} {cl : Nat → Addr} {CE CC C p1 g1 p2 g2 p3 g3 g4 : Addr} {fd1 fd2 fd3 fd4 : FuncData} (F : FunC K "law" "law" s_law f fd c) (B : Blt mg) (G : GErr mg cl CE)
    (FE : Fun K "_law_error" "_law_error" s__law_error g fdE) (mE : mg "_law_error" = some (.ref g)) (bE : Binds K fdE ["_law_call"] []) (TB : LamX.TabB base mg c PT)
    (eC : ErrRow K cl CE CC 3)
    (c__law_mix : Cal P w K mg base CX0 1 "_law_mix" ["_law_script", "_law_seed"] (sp_mix K)) (c__law_next : Cal P w K mg base CX0 1 "_law_next" ["_law_h", "_law_limit"] sp_next)
    (c__law_facts : Cal P w K mg base CX0 2 "_law_facts" ["_law_h", "_law_count"] sp_facts) (c__law_due : Cal P w K mg base CX0 1 "_law_due" ["_law_parts"] (sp_due K))
    (c__law_alike : Cal P w K mg base CX0 3 "_law_alike" ["_law_found", "_law_due_here"] (sp_alike 2))
    (k_Condition : Mkr P w K mg base 4 "Condition" C ["self", "holding", "failing"] (sp_cond_init K C CC)) (kC : CondC P w K mg base C p1 g1 p2 g2 p3 g3 g4 fd1 fd2 fd3 fd4) :
    FnOk P w K mg base CX0 8 f fd ["_law_script"] (sp_law K PT) := by
  refine F.ok sc_law (fun vs H Q E h => by obtain ⟨s, ns, rfl, _⟩ := h; rfl) (fun A outer s H vs Q E hr h => ?_)
  obtain ⟨s, ns, rfl, hS, hl, hb, hT, q⟩ := h
  refine ⟨_, (pss_cons (ps_set (i := 1) sc_law.nd rfl (Or.inl rfl) (pe_cal c__law_mix (hr.mono (by decide)) (pa_cons (pv 0) (pa_cons pe_int pa_nil))))
      (pss_cons (ps_for PassesOwn.never rfl (pi_range1 (by rfl) B.b_range (pa_cons pe_int pa_nil)) (pg_name (i := 2) sc_law.nd rfl (Or.inl rfl)) (pss_cons (ps_set (i := 3) sc_law.nd rfl (Or.inl rfl) (pe_cal c__law_facts (hr.mono (by decide)) (pa_cons (pv 1) (pa_cons (pe_op op_add pe_int (pe_cal c__law_next (hr.mono (by decide)) (pa_cons (pv 1) (pa_cons pe_int pa_nil)))) pa_nil))))
      (pss_cons (ps_set (i := 4) sc_law.nd rfl (Or.inl rfl) (pe_lst (pa_cons (pe_lst pa_nil) (pa_cons (pe_lst pa_nil) pa_nil))))
      (pss_cons (ps_for PassesOwn.never rfl (pi_tup (pv 3)) (pg_name (i := 5) sc_law.nd rfl (Or.inl rfl)) (pss_one (ps_if (pt_cmpR op_gt (pe_cal c__law_next (hr.mono (by decide)) (pa_cons (pv 1) (pa_cons pe_int pa_nil))) pe_int (nomark _)) (pss_one (ps_expr (pe_bm PySem.F.plainAttrs_list PySem.F.slot_list_append PySem.F.type_list_append mt_append (pe_ix ix_list (pv 4) (pe_cal c__law_next (hr.mono (by decide)) (pa_cons (pv 1) (pa_cons pe_int pa_nil))) (fun _ _ => rfl)) (pa_cons (pv 5) pa_nil)))) pss_nil)))
      (pss_cons (ps_for PassesOwn.never rfl (pi_range1 (by rfl) B.b_range (pa_cons (pe_cal c__law_next (hr.mono (by decide)) (pa_cons (pv 1) (pa_cons pe_int pa_nil))) pa_nil)) (pg_name (i := 6) sc_law.nd rfl (Or.inl rfl)) (pss_cons (ps_set (i := 7) sc_law.nd rfl (Or.inl rfl) (pe_ix ix_list (pv 4) (pe_cal c__law_next (hr.mono (by decide)) (pa_cons (pv 1) (pa_cons pe_int pa_nil))) (fun _ _ => rfl)))
      (pss_cons (ps_set (i := 8) sc_law.nd rfl (Or.inl rfl) (pe_cal c__law_next (hr.mono (by decide)) (pa_cons (pv 1) (pa_cons (pe_op op_add (pe_callB call_len_seq (by rfl) B.b_len PySem.boot_len (pa_cons (pv 7) pa_nil)) pe_int) pa_nil))))
      (pss_cons (ps_set (i := 9) sc_law.nd rfl (Or.inl rfl) (pe_ix ix_list (pe_lst (pa_cons pe_str (pa_cons pe_str (pa_cons pe_str (pa_cons pe_str (pa_cons pe_str (pa_cons pe_str (pa_cons pe_str pa_nil)))))))) (pe_cal c__law_next (hr.mono (by decide)) (pa_cons (pv 1) (pa_cons pe_int pa_nil))) (fun _ _ => rfl)))
      (pss_cons (ps_set (i := 10) sc_law.nd rfl (Or.inl rfl) (pe_cal c__law_next (hr.mono (by decide)) (pa_cons (pv 1) (pa_cons pe_int pa_nil))))
      (pss_one (ps_if (pt_cmpR op_eq (pv 10) pe_int (nomark _)) (pss_one (ps_expr (pe_bm PySem.F.plainAttrs_list PySem.F.slot_list_insert PySem.F.type_list_insert mt_insert (pv 7) (pa_cons (pv 8) (pa_cons (pv 9) pa_nil))))) (pss_one (ps_if (PW.pt (pw_and (pt_cmpR op_eq (pv 10) pe_int (nomark _)) (pw_and1 (pt_cmpR (op_neD hr.units) (pv 7) (pe_lst pa_nil) (nomark _))))) (pss_one (ps_expr (pe_bm PySem.F.plainAttrs_list PySem.F.slot_list_insert PySem.F.type_list_insert mt_insert (pv 7) (pa_cons (pv 8) (pa_cons (pe_ix ix_list (pv 7) (pe_callB (call_min2 rfl) (by rfl) B.b_min (by decide +kernel) (pa_cons (pv 8) (pa_cons (pe_op op_sub (pe_callB call_len_seq (by rfl) B.b_len PySem.boot_len (pa_cons (pv 7) pa_nil)) pe_int) pa_nil))) (fun _ _ => rfl)) pa_nil))))) (pss_one (ps_if (pt_cmpR op_eq (pv 10) pe_int (nomark _)) (pss_one (ps_expr (pe_bm0 PySem.F.plainAttrs_list PySem.F.slot_list_reverse PySem.F.type_list_reverse mt_reverse (pv 7)))) (pss_one (ps_expr (pe_bm PySem.F.plainAttrs_list PySem.F.slot_list_insert PySem.F.type_list_insert mt_insert (pv 7) (pa_cons (pv 8) (pa_cons (pe_ix ix_tup (pv 3) (pe_cal c__law_next (hr.mono (by decide)) (pa_cons (pv 1) (pa_cons (pe_callB call_len_seq (by rfl) B.b_len PySem.boot_len (pa_cons (pv 3) pa_nil)) pa_nil))) (fun _ _ => rfl)) pa_nil))))))))))))))))
      (pss_cons (ps_asg (pe_tup (pa_cons (pe_callTy call_tuple_of (by rfl) B.b_tuple PyProof.Rows.boot_tuple (pa_cons (pe_ix ix_list (pv 4) pe_int (fun _ _ => rfl)) pa_nil)) (pa_cons (pe_callTy call_tuple_of (by rfl) B.b_tuple PyProof.Rows.boot_tuple (pa_cons (pe_ix ix_list (pv 4) pe_int (fun _ _ => rfl)) pa_nil)) pa_nil))) (pg_tup (by rfl) (pgs_cons (pg_name (i := 16) sc_law.nd rfl (Or.inr rfl)) (pgs_cons (pg_name (i := 15) sc_law.nd rfl (Or.inr rfl)) pgs_nil))))
      (pss_cons (ps_set (i := 11) sc_law.nd rfl (Or.inl rfl) (pe_cal c__law_due (hr.mono (by decide)) (pa_cons (pe_tup (pa_cons (pv 16) (pa_cons (pv 15) pa_nil))) pa_nil)))
      (pss_cons (wk_ps (tChk K PT) (ps_if (pt_cmpR (op_neD hr.units) (pe_errlam FE mE bE B G TB rfl (hr.mono (by decide)) (LamX.lamS_by (show LamX.lamSB (defScope s_law) _ = true by decide +kernel)) rfl (fun _ _ _ _ _ => rfl) (fun A' outer' s' H' E' f' c' hr' => (pe_mkX k_Condition hr' (takes_of rfl rfl rfl rfl) (pa_cons (pv 16) (pa_cons (pv 15) pa_nil))))) (pv 11) (nomark _)) (pss_one (ps_ret pe_bl)) pss_nil) ?wc)
      (pss_one (ps_if (pt_cmpR (op_eqD hr.units) (pv 11) (pe_tup (pa_cons pe_str pa_nil)) (nomark _)) (pss_cons (ps_set (i := 12) sc_law.nd rfl (Or.inl rfl) (pe_mkN k_Condition (hr.mono (by decide)) (pa_cons (pv 16) (pa_cons (pv 15) pa_nil))))
      (pss_cons (ps_set (i := 13) sc_law.nd rfl (Or.inl rfl) (pe_callTy call_tuple_of (by rfl) B.b_tuple PyProof.Rows.boot_tuple (pa_cons (pe_callB cr_sortedS (by rfl) B.b_sorted (by decide +kernel) (pa_cons (pe_op op_cat (pe_ix ix_list (pv 4) pe_int (fun _ _ => rfl)) (pe_ix ix_list (pv 4) pe_int (fun _ _ => rfl))) pa_nil)) pa_nil)))
      (pss_cons (ps_set (i := 14) sc_law.nd rfl (Or.inl rfl) (pe_lst (pa_cons (pe_prop (pv 12) kC.cls kC.p_holding.1 kC.p_holding.2.1 (hr.mono (by decide)) kC.p_holding.2.2 .nil pass0 rfl) (pa_cons (pe_prop (pv 12) kC.cls kC.p_failing.1 kC.p_failing.2.1 (hr.mono (by decide)) kC.p_failing.2.2 .nil pass0 rfl) (pa_cons (pe_prop (pv 12) kC.cls kC.p_names.1 kC.p_names.2.1 (hr.mono (by decide)) kC.p_names.2.2 .nil pass0 rfl) (pa_cons (pe_callB (call_lenO kC.lenAt kC.lenTy kC.lenF (hr.mono (by decide)) kC.lenB) (by rfl) B.b_len PySem.boot_len (pa_cons (pv 12) pa_nil)) pa_nil))))))
      (pss_one (ps_if (pt_not (pt_val (pe_cal c__law_alike (hr.mono (by decide)) (pa_cons (pv 14) (pa_cons (pe_lst (pa_cons (pv 16) (pa_cons (pv 15) (pa_cons (pv 13) (pa_cons (pe_callB call_len_seq (by rfl) B.b_len PySem.boot_len (pa_cons (pv 13) pa_nil)) pa_nil))))) pa_nil))))) (pss_one (ps_ret pe_bl)) pss_nil))))) pss_nil))))))))))
      (pss_one (ps_ret pe_bl)))), ?_⟩
  case wc =>
    rintro D σ H1 ⟨hA, hB, dp, xs, ys, e11, e16, e15, Tb, eA, eB, ed, f0, f1, b0, b1, q⟩
    refine ⟨Tb, fun H2 x2 Tb2 => ?_⟩
    have eA := x2 _ _ eA (fun _ z => nomatch z)
    have eB := x2 _ _ eB (fun _ z => nomatch z)
    have ed := x2 _ _ ed (fun _ z => nomatch z)
    refine ⟨_, e16, _, e15, fun x dx nx ndx nex => ?_⟩
    have s3 : Same H2 (upd (upd H2 dx (.own x)) x (.ins C dx [])) := ((Same.refl H2).put ndx).put nx
    have due : ∀ (pt i : Nat), condBad xs ys = some (pt, i) → ∀ (HB : Hp) (p : Addr), Same H2 HB → HB p = some (.tup [.str "condition", .int pt, .int i]) →
        tVar 11 σ HB fun y H3 => rNeD K (.ref p) y H3 fun x H' => ∃ k, x = V.bl k ∧ (fun b H1 => if b = true then tRet (tC (.bl false)) D σ H1 else tNext D σ H1) k H' := fun pt i hc HB p sC ep => by
      rw [hc] at ed
      refine ⟨_, e11, _, _, dp_trip (sqT_of ep), dp_trip (sqT_of (sC _ _ ed)), sh_trip, sh_trip, _, rfl, ?_⟩
      rw [eq_trip]
      exact iteF (q _ (x2.trans (LamX.ExtN.of sC)) (Tb2.ext sC))
    refine ⟨x, dx, hA, hB, xs, ys, rfl, upd_same, sqT_of (s3 _ _ eA), sqT_of (s3 _ _ eB), f0.txts, f1.txts, by omega, by omega, fun i ei H' d sH nd => ?_, fun en => ⟨fun i ei H' d sH nd => ?_, fun en2 H' n zs sX hx hn hperm hsort => ?_⟩⟩
    · exact ⟨CC, 3, _, rfl, eC, .cond rfl upd_same rfl rfl, fun HB p sB epB _ => due 0 i (by unfold condBad; rw [ei]) HB p (((s3.trans sH).put' nd).trans sB) epB⟩
    · exact ⟨CC, 3, _, rfl, eC, .cond rfl upd_same rfl rfl, fun HB p sB epB _ => due 1 i (by unfold condBad; rw [en, ei]) HB p (((s3.trans sH).put' nd).trans sB) epB⟩
    · have sS : Same H2 H' := fun b o h => sX b o (fun e => by rw [e, nx] at h; cases h) (s3 _ _ h)
      refine ⟨rfl, (by show 1 ≤ sizeLine; decide), fun p np => ?_⟩
      have sC := sS.put' (o := .tup [.str "none"]) np
      have hc : condBad xs ys = none := by unfold condBad; rw [en, en2]
      rw [hc] at ed
      refine ⟨_, e11, _, _, dp_one (x := "none") sqT_new, dp_one (x := "none") (sqT_of (sC _ _ ed)), sh_one ok_w3, sh_one ok_w3, _, rfl, ?_⟩
      rw [eq_one ok_w3]
      exact iteF (q _ (x2.trans (LamX.ExtN.of sC)) (Tb2.ext sC))
  refine ⟨.ref s, rfl, s, ns, 2, rfl, hS, hl, hb, by decide, by decide, fun H1 a l s1 R1 => ?_⟩
  refine ⟨9, rfl, by decide, by decide, for_it walk_range (fun i σ H' => ∃ (y0 y2 y3 y4 y5 y6 y7 y8 y9 y10 y11 y12 y13 y14 y15 y16 : Option V), σ = [y0, some (.ref a), y2, y3, y4, y5, y6, y7, y8, y9, y10, y11, y12, y13, y14, y15, y16] ∧ RS H' a l ∧ LamX.Tabs [(PT, qLam)] H')
      ⟨_, _, _, _, _, _, _, _, _, _, _, _, _, _, _, _, rfl, R1, ?_⟩ (fun _ _ _ _ _ => trivial) ?_ ?_⟩
  · intro p hp
    rw [List.mem_singleton.mp hp]
    exact LamX.TabS.nil (s1 _ _ hT)
  · rintro i x σ H2 H3 hi ⟨y0, y2, y3, y4, y5, y6, y7, y8, y9, y10, y11, y12, y13, y14, y15, y16, rfl, R, Tb⟩ ⟨rfl, hy⟩
    refine ⟨.ref a, rfl, .ref a, rfl, a, l, 12, rfl, R, by decide, by decide, fun H4 r k4 r0 r1 => ?_⟩
    refine ⟨1, r, rfl, rfl, a, l, _, rfl, k4.new, by omega, fun H5 fp fs k5 ep _ sub hfl hfe => ?_⟩
    have hfe := hfe (by omega)
    have k5 := k4.trans k5
    refine ⟨Nat.zero_le _, fun l0 n0 => ⟨Nat.zero_le _, fun l1 n1 => ⟨(by show 2 ≤ sizeLine; decide), fun lp np => ?_⟩⟩⟩
    have P0 : Pt K a l lp l0 l1 fp fs [(PT, qLam)] 0 (upd (upd (upd H5 l0 (.lst [])) l1 (.lst [])) lp (.lst [.ref l0, .ref l1])) := by
      have z0 : upd H5 l0 (.lst []) l0 = some (.lst []) := upd_same
      have z1 : upd (upd H5 l0 (.lst [])) l1 (.lst []) l1 = some (.lst []) := upd_same
      have m0 := ne_of_none z0 n1
      have z0' : upd (upd H5 l0 (.lst [])) l1 (.lst []) l0 = some (.lst []) := by rw [upd_ne m0]; exact z0
      have m1 := ne_of_none z0' np
      have m2 := ne_of_none z1 np
      have ka := (Kp.refl k5.new).put (o := .lst []) n0
      have kb := ka.put (o := .lst []) n1
      have kc := kb.put (o := .lst [.ref l0, .ref l1]) np
      have q0 := k5.new.no n0
      have q1 := ka.new.no n1
      have q2 := kb.new.no np
      exact ⟨kc.new, tabs_kp (k5.trans kc) Tb, upd_same, ⟨[], [], by rw [upd_ne m1]; exact z0', by rw [upd_ne m2]; exact z1, (fun _ h => nomatch h), (fun _ h => nomatch h), Nat.le_refl 0, Nat.le_refl 0⟩, kc.tup (sqT_of ep), ⟨⟨m0, m1.symm, m2.symm⟩, q2, q0, q1⟩⟩
    generalize upd (upd (upd H5 l0 (.lst [])) l1 (.lst [])) lp (.lst [.ref l0, .ref l1]) = H6 at P0 ⊢
    have hfs : Fines fs := fun x hx => twelve_fine x (sub.subset hx)
    have hf12 : fs.length ≤ 12 := sub.length_le
    refine ⟨.ref fp, rfl, fp, rfl, ⟨_, P0.tup⟩, for_it walk_tup (fun i σ H' => ∃ (z5 : Option V), σ = [y0, some (.ref a), some x, some (.ref fp), some (.ref lp), z5, y6, y7, y8, y9, y10, y11, y12, y13, y14, y15, y16] ∧ Pt K a l lp l0 l1 fp fs [(PT, qLam)] i H')
      ⟨_, rfl, P0⟩ (fun i σ H' _ h => by obtain ⟨_, _, p⟩ := h; exact p.tup) ?_ ?_⟩
    · rintro i y σ H7 H8 hi ⟨z5, rfl, p⟩ ⟨rfl, hy⟩
      rw [List.length_map] at hi
      obtain rfl : V.str fs[i] = y := strAt_inj (List.getElem?_eq_getElem hi) hy
      refine ⟨.ref a, rfl, a, l, 3, rfl, p.rs, by decide, by decide, fun H9 r k9 _ _ => ⟨r, 0, rfl, rfl, _, rfl, bcase (fun c => ?_) (fun c => ?_)⟩⟩
      · have p := p.kp k9
        refine ⟨.ref lp, rfl, .ref a, rfl, a, l, 2, rfl, p.rs, by decide, by decide, fun H10 j k10 j0 j1 => ?_⟩
        obtain ⟨j, rfl⟩ := Int.eq_ofNat_of_zero_le j0
        have p := p.kp k10
        obtain ⟨zs, hz, fz, lz, _, _, set⟩ := p.sel j (by omega)
        refine ⟨lp, _, j, .ref (pk l0 l1 j), rfl, rfl, sqL_of p.hp, atI_nat (pk_at j (by omega)), .inl ⟨rfl, _, sqL_of hz⟩, _, rfl, pk l0 l1 j, _, _, rfl, rfl, hz, ?_, ?_⟩
        · rw [List.length_map]
          exact small1000 (by omega)
        · have p2 := set (zs ++ [fs[i]]) (i + 1) (fun x hx => (List.mem_append.mp hx).elim (fz x) (fun h => by rw [List.mem_singleton.mp h]; exact hfs _ (List.getElem_mem hi))) (by rw [List.length_append]; show zs.length + 1 ≤ _; omega) (by omega)
          rw [List.map_append] at p2
          exact ⟨_, rfl, p2⟩
      · exact ⟨_, rfl, (p.kp k9).le (by omega)⟩
    · rintro σ H7 ⟨z5, rfl, p⟩
      rw [List.length_map] at p
      have p := p.le hf12
      refine ⟨.ref a, rfl, a, l, 3, rfl, p.rs, by decide, by decide, fun H8 r8 k8 r80 r81 => ?_⟩
      have p := p.kp k8
      refine ⟨r8, rfl, by omega, by omega, for_it walk_range (fun i σ H' => ∃ (z5 z6 z7 z8 z9 z10 : Option V), σ = [y0, some (.ref a), some x, some (.ref fp), some (.ref lp), z5, z6, z7, z8, z9, z10, y11, y12, y13, y14, y15, y16] ∧ Pt K a l lp l0 l1 fp fs [(PT, qLam)] (12 + i) H')
        ⟨_, _, _, _, _, _, rfl, p⟩ (fun _ _ _ _ _ => trivial) ?_ ?_⟩
      · rintro i y σ H9 H10 hi ⟨z5, z6, z7, z8, z9, z10, rfl, p⟩ ⟨rfl, hy⟩
        have hi : i < 3 := by omega
        refine ⟨.ref lp, rfl, .ref a, rfl, a, l, 2, rfl, p.rs, by decide, by decide, fun H11 j k11 j0 j1 => ?_⟩
        obtain ⟨j, rfl⟩ := Int.eq_ofNat_of_zero_le j0
        have p := p.kp k11
        obtain ⟨zs, hz, fz, lz, m1, m2, set⟩ := p.sel j (by omega)
        refine ⟨lp, _, j, .ref (pk l0 l1 j), rfl, rfl, sqL_of p.hp, atI_nat (pk_at j (by omega)), ?_⟩
        refine ⟨.ref a, rfl, .ref (pk l0 l1 j), rfl, pk l0 l1 j, _, rfl, .inl (sqL_of hz), _, 1, rfl, rfl, a, l, _, rfl, p.rs, by omega, small_lim (by omega) (by rw [List.length_map]; omega), fun H12 q12 k12 q0 q1 => ?_⟩
        rw [List.length_map] at q1
        refine ⟨(by show 7 ≤ sizeLine; decide), fun od nod => ?_⟩
        have k13 := k12.put (o := .lst (odd7.map V.str)) nod
        obtain ⟨o1, o2⟩ := k12.new.no nod
        refine ⟨.ref a, rfl, a, l, 7, rfl, k13.new, by decide, by decide, fun H14 j7 k14 j70 j71 => ?_⟩
        obtain ⟨j7, rfl⟩ := Int.eq_ofNat_of_zero_le j70
        obtain ⟨ow, eow, how⟩ := odd7_at j7 (by omega)
        have eo := k14.lst upd_same o1 o2
        refine ⟨od, _, (j7 : Int), .str ow, rfl, rfl, sqL_of eo, atI_nat (show (odd7.map V.str)[j7]? = some (.str ow) by rw [List.getElem?_map, eow]; rfl), ?_⟩
        refine ⟨.ref a, rfl, a, l, 4, rfl, (k13.trans k14).new, by decide, by decide, fun H15 kd k15 kd0 kd1 => ?_⟩
        have kk := (k13.trans k14).trans k15
        have p := p.kp kk
        have hz2 := kk.lst hz m1 m2
        obtain ⟨zs2, hz3, fz2, lz2, _, _, set⟩ := p.sel j (by omega)
        obtain ⟨q12, rfl⟩ := Int.eq_ofNat_of_zero_le q0
        have hq12 : q12 ≤ zs.length := by omega
        have fin : ∀ {Hx : Hp}, Kp a l H15 Hx → ∀ zs' : List Str, Fines zs' → zs'.length ≤ 12 + i + 1 → Pt K a l lp l0 l1 fp fs [(PT, qLam)] (12 + (i + 1)) (upd Hx (pk l0 l1 j) (.lst (zs'.map V.str))) := fun kx zs' f b => by
          obtain ⟨_, _, _, _, _, _, set⟩ := (p.kp kx).sel j (by omega)
          exact set zs' _ f (by omega) (by omega)
        have ins : ∀ {Hx : Hp} (w : Str), Fine w → Kp a l H15 Hx → Pt K a l lp l0 l1 fp fs [(PT, qLam)] (12 + (i + 1)) (upd Hx (pk l0 l1 j) (.lst ((zs.map V.str).take ((q12 : Int)).toNat ++ [V.str w] ++ (zs.map V.str).drop ((q12 : Int)).toNat))) := fun {Hx} w fw kx => by
          have := fin kx (zs.take q12 ++ [w] ++ zs.drop q12) (fun y hy => by
            rcases List.mem_append.mp hy with h | h
            · rcases List.mem_append.mp h with h | h
              · exact fz y (List.mem_of_mem_take h)
              · rw [List.mem_singleton.mp h]; exact fw
            · exact fz y (List.mem_of_mem_drop h)) (by
            rw [List.length_append, List.length_append, List.length_take, List.length_drop]
            show min q12 zs.length + 1 + (zs.length - q12) ≤ _
            omega)
          rw [List.map_append, List.map_append, List.map_take, List.map_drop] at this
          exact this
        have lsz : (zs.map V.str).length < sizeLine := by rw [List.length_map]; exact small1000 (by omega)
        have q63 : (q12 : Int) < 2 ^ 63 := by omega
        refine ⟨_, rfl, rfl, _, rfl, bcase (fun c0 => ?_) (fun c0 => ?_)⟩
        · exact ⟨_, rfl, .inl ⟨rfl, _, sqL_of hz2⟩, _, rfl, _, rfl, pk l0 l1 j, _, (q12 : Int), .str ow, rfl, rfl, hz2, lsz, by omega, q63, _, _, _, _, _, _, rfl, ins ow how (Kp.refl p.rs)⟩
        refine ⟨_, rfl, rfl, _, rfl, bcase (fun c1 => ?_) (fun c1 => ?_)⟩
        · refine ⟨_, rfl, Nat.zero_le _, fun t nt => ⟨_, _, .lst (sqL_of (by rw [upd_ne (ne_of_none hz2 nt)]; exact hz2)) (dps K _ _), .lst sqL_new .nil, shL fz, rfl, _, rfl, bcase (fun c3 => ?_) (fun c3 => ?_)⟩⟩
          · have kt := (Kp.refl p.rs).put (o := .lst []) nt
            have c3 : zs ≠ [] := fun e => by
              rw [e] at c3
              exact absurd c3 (by decide)
            have hz4 := kt.lst hz2 m1 m2
            have hl0 : 0 < zs.length := List.length_pos_iff.mpr c3
            have hmi : ∃ mi : Nat, (if ((zs.map V.str).length : Int) - 1 < (q12 : Int) then ((zs.map V.str).length : Int) - 1 else (q12 : Int)) = (mi : Int) ∧ mi < zs.length := by
              rw [List.length_map]
              split
              · exact ⟨zs.length - 1, by omega, by omega⟩
              · exact ⟨q12, rfl, by omega⟩
            obtain ⟨mi, emi, hmi⟩ := hmi
            exact ⟨_, rfl, .inl ⟨rfl, _, sqL_of hz4⟩, _, rfl, _, rfl, _, rfl, _, rfl, pk l0 l1 j, _, rfl, .inl (sqL_of hz4), _, 1, rfl, rfl, _, _, rfl, pk l0 l1 j, _, _, .str zs[mi], rfl, rfl, sqL_of hz4, at_of emi (strG hmi), pk l0 l1 j, _, (q12 : Int), .str zs[mi], rfl, rfl, hz4, lsz, by omega, q63, _, _, _, _, _, _, rfl, ins zs[mi] (fz _ (List.getElem_mem hmi)) kt⟩
          ·
            refine ⟨_, rfl, rfl, _, rfl, bcase (fun c2 => ?_) (fun c2 => ?_)⟩
            · have kx := (Kp.refl p.rs).put (o := .lst []) nt
              refine ⟨_, rfl, .inl ⟨rfl, _, sqL_of (kx.lst hz2 m1 m2)⟩, pk l0 l1 j, _, rfl, rfl, kx.lst hz2 m1 m2, _, _, _, _, _, _, rfl, ?_⟩
              have this := fin kx zs.reverse (fun y hy => fz y (List.mem_reverse.mp hy)) (by rw [List.length_reverse]; omega)
              rw [List.map_reverse] at this
              exact this
            · have kx := (Kp.refl p.rs).put (o := .lst []) nt
              refine ⟨_, rfl, .inl ⟨rfl, _, sqL_of (kx.lst hz2 m1 m2)⟩, _, rfl, .ref fp, rfl, .ref a, rfl, .ref fp, rfl, fp, _, rfl, .inr (p.kp kx).tup, a, l, _, rfl, (p.kp kx).rs, by rw [List.length_map]; omega, small_lim (by omega) (by rw [List.length_map]; omega), fun Hy rr ky rr0 rr1 => ?_⟩
              obtain ⟨rr, rfl⟩ := Int.eq_ofNat_of_zero_le rr0
              rw [List.length_map] at rr1
              have hrr : rr < fs.length := by omega
              have k2 := kx.trans ky
              exact ⟨fp, _, (rr : Int), .str fs[rr], rfl, rfl, (p.kp k2).tup, atI_nat (strG hrr), pk l0 l1 j, _, (q12 : Int), _, rfl, rfl, k2.lst hz2 m1 m2, lsz, by omega, q63, _, _, _, _, _, _, rfl, ins fs[rr] (hfs _ (List.getElem_mem hrr)) k2⟩
        ·
          refine ⟨_, rfl, rfl, _, rfl, bcase (fun c2 => ?_) (fun c2 => ?_)⟩
          · have kx := Kp.refl p.rs
            refine ⟨_, rfl, .inl ⟨rfl, _, sqL_of (kx.lst hz2 m1 m2)⟩, pk l0 l1 j, _, rfl, rfl, kx.lst hz2 m1 m2, _, _, _, _, _, _, rfl, ?_⟩
            have this := fin kx zs.reverse (fun y hy => fz y (List.mem_reverse.mp hy)) (by rw [List.length_reverse]; omega)
            rw [List.map_reverse] at this
            exact this
          · have kx := Kp.refl p.rs
            refine ⟨_, rfl, .inl ⟨rfl, _, sqL_of (kx.lst hz2 m1 m2)⟩, _, rfl, .ref fp, rfl, .ref a, rfl, .ref fp, rfl, fp, _, rfl, .inr (p.kp kx).tup, a, l, _, rfl, (p.kp kx).rs, by rw [List.length_map]; omega, small_lim (by omega) (by rw [List.length_map]; omega), fun Hy rr ky rr0 rr1 => ?_⟩
            obtain ⟨rr, rfl⟩ := Int.eq_ofNat_of_zero_le rr0
            rw [List.length_map] at rr1
            have hrr : rr < fs.length := by omega
            have k2 := kx.trans ky
            exact ⟨fp, _, (rr : Int), .str fs[rr], rfl, rfl, (p.kp k2).tup, atI_nat (strG hrr), pk l0 l1 j, _, (q12 : Int), _, rfl, rfl, k2.lst hz2 m1 m2, lsz, by omega, q63, _, _, _, _, _, _, rfl, ins fs[rr] (hfs _ (List.getElem_mem hrr)) k2⟩
      · rintro σ H9 ⟨z5, z6, z7, z8, z9, z10, rfl, p⟩
        have p := p.le (m := 14) (by omega)
        obtain ⟨xs, ys, h0, h1, f0, f1, b0, b1⟩ := p.hs
        refine ⟨.ref lp, rfl, lp, _, 0, .ref l0, rfl, rfl, sqL_of p.hp, atI_nat (j := 0) rfl, l0, _, rfl, .inl ⟨sqL_of h0, fun hA nA => ?_⟩⟩
        have kA := (Kp.refl p.rs).put (o := .tup (xs.map V.str)) nA
        have pA := p.kp kA
        have eA : (upd H9 hA (.tup (xs.map V.str))) hA = some (.tup (xs.map V.str)) := upd_same
        have h1 := kA.lst h1 p.ne.2.2.2.1 p.ne.2.2.2.2
        have h0 := kA.lst h0 p.ne.2.2.1.1 p.ne.2.2.1.2
        generalize upd H9 hA (.tup (xs.map V.str)) = G1 at kA pA eA h1 h0 ⊢
        refine ⟨.ref lp, rfl, lp, _, 1, .ref l1, rfl, rfl, sqL_of pA.hp, atI_nat (j := 1) rfl, l1, _, rfl, .inl ⟨sqL_of h1, fun hB nB => ?_⟩⟩
        have kB := (Kp.refl pA.rs).put (o := .tup (ys.map V.str)) nB
        have pB := pA.kp kB
        have eB : (upd G1 hB (.tup (ys.map V.str))) hB = some (.tup (ys.map V.str)) := upd_same
        have eA := kB.obj eA (fun _ z => nomatch z)
        have h1 := kB.lst h1 p.ne.2.2.2.1 p.ne.2.2.2.2
        have h0 := kB.lst h0 p.ne.2.2.1.1 p.ne.2.2.1.2
        generalize upd G1 hB (.tup (ys.map V.str)) = G2 at kB pB eB eA h1 h0 ⊢
        refine ⟨(by show 2 ≤ sizeLine; decide), fun tt nt => ?_⟩
        have kT := (Kp.refl pB.rs).put (o := .tup [.ref hA, .ref hB]) nt
        have pT := pB.kp kT
        have eA := kT.obj eA (fun _ z => nomatch z)
        have eB := kT.obj eB (fun _ z => nomatch z)
        have h1 := kT.lst h1 p.ne.2.2.2.1 p.ne.2.2.2.2
        have h0 := kT.lst h0 p.ne.2.2.1.1 p.ne.2.2.1.2
        have eT : (upd G2 tt (.tup [.ref hA, .ref hB])) tt = some (.tup [.ref hA, .ref hB]) := upd_same
        generalize upd G2 tt (.tup [.ref hA, .ref hB]) = G3 at kT pT eA eB eT h1 h0 ⊢
        refine ⟨tt, [.ref hA, .ref hB], rfl, sqT_of eT, rfl, _, _, rfl, _, _, rfl, rfl, ?_⟩
        refine ⟨_, rfl, _, rfl, (by show 2 ≤ sizeLine; decide), fun t2 nt2 => ?_⟩
        have sT := (Same.refl G3).put (o := .tup [.ref hA, .ref hB]) nt2
        refine ⟨t2, hA, hB, xs, ys, rfl, sqT_new, sqT_of (sT _ _ eA), sqT_of (sT _ _ eB), f0, f1, by omega, by omega, fun H10 dp s10 ed => ?_⟩
        have s10 := sT.trans s10
        have p10 := pT.kp (Kp.of pT.rs s10)
        have eA := s10 _ _ eA
        have eB := s10 _ _ eB
        have h0 := s10 _ _ h0
        have h1 := s10 _ _ h1
        clear sT s10 eT kT kB kA pA pB pT
        refine ⟨hA, hB, dp, xs, ys, rfl, rfl, rfl, p10.tb, eA, eB, ed, f0, f1, by omega, by omega, fun H11 x11 Tb11 => ?_⟩
        have R11 := p10.rs.ext x11
        have eA := x11 _ _ eA (fun _ z => nomatch z)
        have eB := x11 _ _ eB (fun _ z => nomatch z)
        have h0 := x11 _ _ h0 (fun _ z => nomatch z)
        have h1 := x11 _ _ h1 (fun _ z => nomatch z)
        have hp := x11 _ _ p10.hp (fun _ z => nomatch z)
        have ed := x11 _ _ ed (fun _ z => nomatch z)
        clear x11 p10
        cases hc : condBad xs ys with
        | some pi =>
          obtain ⟨pt, ix⟩ := pi
          rw [hc] at ed
          refine ⟨_, rfl, (by show 1 ≤ sizeLine; decide), fun t nt => ?_⟩
          have st := (Same.refl H11).put (o := .tup [.str "none"]) nt
          refine ⟨_, _, dp_trip (sqT_of (st _ _ ed)), dp_one (x := "none") sqT_new, sh_trip, sh_one ok_w3, _, rfl, ?_⟩
          rw [show (dTrip pt ix).eqv (dOne "none") = false from (by show ((PyData.str "condition").eqv (.str "none") && false) = false; exact Bool.and_false _)]
          exact iteF ⟨_, _, _, _, _, _, _, _, _, _, _, _, _, _, _, _, rfl, R11.same st, tabs_kp (Kp.of R11 st) Tb11⟩
        | none =>
          rw [hc] at ed
          have hw0 : firstWrong xs [] = none := by
            cases e : firstWrong xs [] with
            | none => rfl
            | some i => unfold condBad at hc; rw [e] at hc; cases hc
          have hw1 : firstWrong ys xs = none := by
            cases e : firstWrong ys xs with
            | none => rfl
            | some i => unfold condBad at hc; rw [hw0, e] at hc; cases hc
          refine ⟨_, rfl, (by show 1 ≤ sizeLine; decide), fun t nt => ?_⟩
          have st := (Same.refl H11).put (o := .tup [.str "none"]) nt
          refine ⟨_, _, dp_one (x := "none") (sqT_of (st _ _ ed)), dp_one (x := "none") sqT_new, sh_one ok_w3, sh_one ok_w3, _, rfl, ?_⟩
          rw [eq_one ok_w3]
          generalize upd H11 t (.tup [.str "none"]) = H12 at st ⊢
          refine iteT ⟨_, rfl, _, rfl, fun o dx no ndx nex => ?_⟩
          have s3 : Same H11 (upd (upd H12 dx (.own o)) o (.ins C dx [])) := (st.put' ndx).trans (((Same.refl _).put (by rw [upd_ne (Ne.symm nex)]; exact no)))
          refine ⟨o, dx, hA, hB, xs, ys, rfl, upd_same, sqT_of (s3 _ _ eA), sqT_of (s3 _ _ eB), f0.txts, f1.txts, by omega, by omega, fun i ei => absurd (hw0.symm.trans ei) (fun z => nomatch z), fun _ => ⟨fun i ei => absurd (hw1.symm.trans ei) (fun z => nomatch z), fun _ H13 n zs sX hx hn hperm hsort => ⟨rfl, ?_⟩⟩⟩
          have sS : Same H11 H13 := fun b o' h => sX b o' (fun e => by rw [e] at h; rw [st _ _ h] at no; cases no) (s3 _ _ h)
          have eA := sS _ _ eA
          have eB := sS _ _ eB
          have h0 := sS _ _ h0
          have h1 := sS _ _ h1
          have hp := sS _ _ hp
          have R13 := R11.same sS
          have Tb13 := tabs_kp (Kp.of R11 sS) Tb11
          clear sX s3 st sS R11 Tb11 ed
          refine ⟨.ref lp, rfl, lp, _, 0, .ref l0, rfl, rfl, sqL_of hp, atI_nat (j := 0) rfl, .ref lp, rfl, lp, _, 1, .ref l1, rfl, rfl, sqL_of hp, atI_nat (j := 1) rfl, l0, l1, _, _, rfl, rfl, h0, h1, by rw [List.length_map, List.length_map, sizeLine_eq]; omega, fun p5 np5 => ?_⟩
          have s5 := (Same.refl H13).put (o := .lst (xs.map V.str ++ ys.map V.str)) np5
          refine ⟨p5, xs ++ ys, rfl, by rw [List.map_append]; exact sqL_new, by rw [List.length_append]; omega, fun zs2 p6 perm2 sort2 np6 => ⟨p6, _, rfl, .inl ⟨sqL_new, fun ep nep => ?_⟩⟩⟩
          obtain rfl : zs2 = zs := sorted_uniq (perm2.trans hperm.symm) sort2 hsort
          have s7 := (s5.put' (o := .lst (zs2.map V.str)) np6).put' (o := .tup (zs2.map V.str)) nep
          have eE : (upd (upd (upd H13 p5 (.lst (xs.map V.str ++ ys.map V.str))) p6 (.lst (zs2.map V.str))) ep (.tup (zs2.map V.str))) ep = some (.tup (zs2.map V.str)) := upd_same
          generalize upd (upd (upd H13 p5 (.lst (xs.map V.str ++ ys.map V.str))) p6 (.lst (zs2.map V.str))) ep (.tup (zs2.map V.str)) = H14 at s7 eE ⊢
          have hx := s7 _ _ hx
          have eA := s7 _ _ eA
          have eB := s7 _ _ eB
          have hn := s7 _ _ hn
          have hz28 : zs2.length ≤ 28 := by
            have := hperm.length_eq
            rw [List.length_append] at this
            omega
          have lk1 : (condF hA hB n).lookup ("_holding" : Str) = some (.ref hA) := rfl
          have lk2 : (condF hA hB n).lookup ("_failing" : Str) = some (.ref hB) := rfl
          have lk3 : (condF hA hB n).lookup ("_names" : Str) = some (.ref n) := rfl
          refine ⟨_, rfl, o, dx, _, rfl, hx, ⟨o, dx, _, _, rfl, hx, lk1, ?_⟩⟩
          refine ⟨_, rfl, o, dx, _, rfl, hx, ⟨o, dx, _, _, rfl, hx, lk2, ?_⟩⟩
          refine ⟨_, rfl, o, dx, _, rfl, hx, ⟨o, dx, _, _, rfl, hx, lk3, ?_⟩⟩
          refine ⟨_, rfl, o, dx, _, rfl, hx, ⟨o, dx, n, _, _, rfl, hx, lk3, sqT_of hn, zs2.length, by rw [List.length_map], Nat.lt_of_le_of_lt hz28 (by decide), ?_⟩⟩
          refine ⟨(by show 4 ≤ sizeLine; decide), fun sp nsp => ?_⟩
          have s8 := (Same.refl H14).put (o := .lst [.ref hA, .ref hB, .ref n, .int (zs2.length : Nat)]) nsp
          have eS : (upd H14 sp (.lst [.ref hA, .ref hB, .ref n, .int (zs2.length : Nat)])) sp = some (.lst [.ref hA, .ref hB, .ref n, .int (zs2.length : Nat)]) := upd_same
          generalize upd H14 sp (.lst [.ref hA, .ref hB, .ref n, .int (zs2.length : Nat)]) = H15 at s8 eS ⊢
          refine ⟨_, rfl, _, rfl, _, rfl, _, rfl, _, rfl, ep, _, rfl, .inr (sqT_of (s8 _ _ eE)), (by show 4 ≤ sizeLine; decide), fun q9 nq9 => ?_⟩
          rw [List.length_map]
          have s9 := (Same.refl H15).put (o := .lst [.ref hA, .ref hB, .ref ep, .int (zs2.length : Nat)]) nq9
          have s89 := s8.trans s9
          refine ⟨_, _, _, rfl, ad_four (s9 _ _ eS) (ad_strs (s89 _ _ eA) (by omega)) (ad_strs (s89 _ _ eB) (by omega)) (ad_strs (s89 _ _ hn) (by omega)), ad_four upd_same (ad_strs (s89 _ _ eA) (by omega)) (ad_strs (s89 _ _ eB) (by omega)) (ad_strs (s89 _ _ eE) (by omega)), fun HC sC => ⟨true, rfl, iteF ?_⟩⟩
          have sF := (s7.trans s89).trans sC
          exact ⟨_, _, _, _, _, _, _, _, _, _, _, _, _, _, _, _, rfl, R13.same sF, tabs_kp (Kp.of R13 sF) Tb13⟩
  · rintro σ H2 ⟨y0, y2, y3, y4, y5, y6, y7, y8, y9, y10, y11, y12, y13, y14, y15, y16, rfl, R, Tb⟩
    exact q H2
end
end Sc
namespace Sc
open PySem PySem.Spec PyProof.Rows L2
abbrev s_Condition_holding : Stmt := (inClass (topS 27) 1)
theorem sc_Condition_holding : FnScope ["self"] ["self"] (defScope s_Condition_holding) := ⟨rfl, rfl, rfl, by decide +kernel, rfl, by decide +kernel, by decide +kernel⟩
abbrev s_Condition_failing : Stmt := (inClass (topS 27) 2)
theorem sc_Condition_failing : FnScope ["self"] ["self"] (defScope s_Condition_failing) := ⟨rfl, rfl, rfl, by decide +kernel, rfl, by decide +kernel, by decide +kernel⟩
abbrev s_Condition_names : Stmt := (inClass (topS 27) 3)
theorem sc_Condition_names : FnScope ["self"] ["self"] (defScope s_Condition_names) := ⟨rfl, rfl, rfl, by decide +kernel, rfl, by decide +kernel, by decide +kernel⟩
abbrev s_Condition___len__ : Stmt := (inClass (topS 27) 5)
theorem sc_Condition___len__ : FnScope ["self"] ["self"] (defScope s_Condition___len__) := ⟨rfl, rfl, rfl, by decide +kernel, rfl, by decide +kernel, by decide +kernel⟩
section
variable {P : Program} {w : World} {K : PySem.W.Frag} {mg : Str → Option Value} {base : Heap} {C : Addr}
theorem ok_holding {f : Addr} {fd : FuncData} (F : Fun K "holding" "Condition.holding" s_Condition_holding f fd) (T : Cls K C) (n : NoAttr K C "_holding") : FnOk P w K mg base CX0 1 f fd ["self"] (sp_prop C "_holding") := by
  refine F.ok sc_Condition_holding (fun vs H Q E h => by obtain ⟨x, dx, fs, v, rfl, _⟩ := h; rfl) (fun cdv A outer s H vs Q E hr h => ?_)
  obtain ⟨x, dx, fs, v, rfl, hx, hl, q⟩ := h
  exact ⟨_, (pss_one (ps_ret (pe_fld (pv 0) rfl))), ⟨_, rfl, x, C, dx, fs, v, rfl, hx, T, n, hl, q⟩⟩
theorem ok_failing {f : Addr} {fd : FuncData} (F : Fun K "failing" "Condition.failing" s_Condition_failing f fd) (T : Cls K C) (n : NoAttr K C "_failing") : FnOk P w K mg base CX0 1 f fd ["self"] (sp_prop C "_failing") := by
  refine F.ok sc_Condition_failing (fun vs H Q E h => by obtain ⟨x, dx, fs, v, rfl, _⟩ := h; rfl) (fun cdv A outer s H vs Q E hr h => ?_)
  obtain ⟨x, dx, fs, v, rfl, hx, hl, q⟩ := h
  exact ⟨_, (pss_one (ps_ret (pe_fld (pv 0) rfl))), ⟨_, rfl, x, C, dx, fs, v, rfl, hx, T, n, hl, q⟩⟩
theorem ok_cnames {f : Addr} {fd : FuncData} (F : Fun K "names" "Condition.names" s_Condition_names f fd) (T : Cls K C) (n : NoAttr K C "_names") : FnOk P w K mg base CX0 1 f fd ["self"] (sp_prop C "_names") := by
  refine F.ok sc_Condition_names (fun vs H Q E h => by obtain ⟨x, dx, fs, v, rfl, _⟩ := h; rfl) (fun cdv A outer s H vs Q E hr h => ?_)
  obtain ⟨x, dx, fs, v, rfl, hx, hl, q⟩ := h
  exact ⟨_, (pss_one (ps_ret (pe_fld (pv 0) rfl))), ⟨_, rfl, x, C, dx, fs, v, rfl, hx, T, n, hl, q⟩⟩
theorem ok_clen {f : Addr} {fd : FuncData} (F : Fun K "__len__" "Condition.__len__" s_Condition___len__ f fd) (B : Blt mg) (T : Cls K C) (n : NoAttr K C "_names") : FnOk P w K mg base CX0 1 f fd ["self"] (sp_len K C) := by
  refine F.ok sc_Condition___len__ (fun vs H Q E h => by obtain ⟨x, dx, m, fs, zs, rfl, _⟩ := h; rfl) (fun cdv A outer s H vs Q E hr h => ?_)
  obtain ⟨x, dx, m, fs, zs, rfl, hx, hl, hz, q⟩ := h
  exact ⟨_, (pss_one (ps_ret (pe_callB call_len_seq (by rfl) B.b_len PySem.boot_len (pa_cons (pe_fld (pv 0) rfl) pa_nil)))), ⟨_, rfl, x, C, dx, fs, _, rfl, hx, T, n, hl, m, _, rfl, .inr hz, q⟩⟩
end
end Sc
namespace Sc
open PySem PySem.Spec PyProof.Rows L2
theorem four {K : PySem.W.Frag} {D : Value} (h1 : PySem.W.findIn K D "index" = some none) (h2 : PySem.W.findIn K D "part" = some none) (h3 : PySem.W.findIn K D "word" = some none) (h4 : PySem.W.findIn K D "fact" = some none) :
    ∀ n ∈ (["index", "part", "word", "fact"] : List Str), PySem.W.findIn K D n = some none := by
  intro n hn
  simp only [List.mem_cons, List.not_mem_nil, or_false] at hn
  rcases hn with rfl | rfl | rfl | rfl
  · exact h1
  · exact h2
  · exact h3
  · exact h4
theorem exm_by {K : PySem.W.Frag} {D C : Addr} (h1 : PySem.W.subIn K (.ref C) (.type "BaseException") = some true) (h2 : PySem.W.isClsIn K C = true) (h3 : PySem.W.typeIn K (.ref C) = some (.type "type")) (h4 : PySem.W.subIn K (.ref D) (.ref C) = some true) : PySem.W.exmOne K (.ref D) (.ref C) = some true := by
  have e1 : (PySem.W.subIn K (.ref C) (.type "BaseException") == some true) = true := by rw [h1] <;> rfl
  have e2 : ((PySem.W.clsIn K C).isSome && PySem.W.typeIn K (.ref C) == some (.type "type")) = true := by
    have h2' : (PySem.W.clsIn K C).isSome = true := h2
    rw [h2', h3] <;> rfl
  unfold PySem.W.exmOne PySem.W.kitCls
  rw [if_pos e1]
  dsimp only
  rw [if_pos e2]
  exact h4
theorem kit_by {K : PySem.W.Frag} {D C : Addr} {b : Bool} (h1 : PySem.W.subIn K (.ref D) (.ref D) = some true) (h2 : PySem.W.isClsIn K C = true) (h3 : PySem.W.typeIn K (.ref C) = some (.type "type")) (h4 : PySem.W.subIn K (.ref D) (.ref C) = some b) : PySem.W.kitOne K (.ref D) (.ref C) = some b := by
  have e2 : ((PySem.W.clsIn K C).isSome && PySem.W.typeIn K (.ref C) == some (.type "type")) = true := by
    have h2' : (PySem.W.clsIn K C).isSome = true := h2
    rw [h2', h3] <;> rfl
  unfold PySem.W.kitOne
  split
  · rename_i e
    have e := eq_of_beq e
    cases e
    exact h1.symm.trans h4
  · unfold PySem.W.kitCls
    dsimp only
    rw [if_pos e2]
    exact h4
theorem kit_ve {K : PySem.W.Frag} {D : Addr} (h : PySem.W.subIn K (.ref D) (.type "ValueError") = some true) : PySem.W.kitOne K (.ref D) (.type "ValueError") = some true := by
  unfold PySem.W.kitOne PySem.W.kitCls
  rw [if_neg (by intro z; cases eq_of_beq z)]
  dsimp only
  rw [if_pos (by decide +kernel)]
  exact h
theorem codeHd_by {K : PySem.W.Frag} {c T : Addr} {o : Obj} (lk : K.lookup c = some o) (h : PySem.W.codeHdIn [(c, o)] c T = true) : PySem.W.codeHdIn K c T = true := by
  unfold PySem.W.codeHdIn at h ⊢
  rw [lk]
  have e : ([(c, o)] : PySem.W.Frag).lookup c = some o := by simp [List.lookup]
  rw [e] at h
  exact h
theorem lookup_no {K : PySem.W.Frag} {a : Addr} (h : (K.map (·.1)).contains a = false) : K.lookup a = none := by
  induction K with
  | nil => rfl
  | cons p r ih =>
    rw [List.map_cons, List.contains_cons, Bool.or_eq_false_iff] at h
    obtain ⟨x, o⟩ := p
    rw [List.lookup_cons, h.1]
    exact ih h.2
theorem sup_by {K : PySem.W.Frag} {C CE : Addr} {z : Value} {nm q nm2 q2 : Str} {N N2 : Addr} {bs bm su bs2 bm2 su2 : List Value} {sn sn2 : List Str} {ab ab2 : Bool} {col col2 : Option Bool} {dd dd2 : Option Addr} {x0 x1 x2 x3 x5 y0 y1 y2 y3 y5 : Option Value}
    (xC : K.lookup C = some (excClassObj nm q C N bs bm true sn su ab col dd x0 x1 x2 x3 x5 "ValueError.__new__")) (xE : K.lookup CE = some (excClassObj nm2 q2 CE N2 bs2 bm2 true sn2 su2 ab2 col2 dd2 y0 y1 y2 y3 y5 "ValueError.__new__"))
    (e : bm = .ref CE :: bm2) (f : PySem.W.findIn K (.ref CE) "__init__" = some (some z)) : PySem.W.ks_superIn K C C "__init__" = some (some z) := by
  subst e
  unfold PySem.W.ks_superIn PySem.W.clsIn
  unfold PySem.W.findIn at f
  dsimp only at f
  rw [xC]
  rw [xE] at f
  simp only [excClassObj] at f ⊢
  simp
  exact f
theorem all_mk {l : PySem.W.OpenLaw} {P : Program} {w : World} {K : PySem.W.Frag} {h : Heap} {mg : Str → Option Value} {fa : Addr} (eP : l.prog = P) (X : K.In h) (G : h.Ns mainGlobals mg) (hfa : mg "law" = some (.ref fa))
    {f_is_name : Addr} {oc_is_name kV_is_name dc_is_name pm_is_name cd_is_name ct_is_name : Value} {od_is_name an_is_name : Option Addr} {sl_is_name : Array (Option Value)}
    {f_rises : Addr} {oc_rises kV_rises dc_rises pm_rises cd_rises ct_rises : Value} {od_rises an_rises : Option Addr} {sl_rises : Array (Option Value)}
    {f_check_part : Addr} {oc_check_part kV_check_part dc_check_part pm_check_part cd_check_part ct_check_part : Value} {od_check_part an_check_part : Option Addr} {sl_check_part : Array (Option Value)}
    {f_merged : Addr} {oc_merged kV_merged dc_merged pm_merged cd_merged ct_merged : Value} {od_merged an_merged : Option Addr} {sl_merged : Array (Option Value)}
    {f__law_mix : Addr} {oc__law_mix kV__law_mix dc__law_mix pm__law_mix cd__law_mix ct__law_mix : Value} {od__law_mix an__law_mix : Option Addr} {sl__law_mix : Array (Option Value)}
    {f__law_next : Addr} {oc__law_next kV__law_next dc__law_next pm__law_next cd__law_next ct__law_next : Value} {od__law_next an__law_next : Option Addr} {sl__law_next : Array (Option Value)}
    {f__law_alike : Addr} {oc__law_alike kV__law_alike dc__law_alike pm__law_alike cd__law_alike ct__law_alike : Value} {od__law_alike an__law_alike : Option Addr} {sl__law_alike : Array (Option Value)}
    {f__law_error : Addr} {oc__law_error kV__law_error dc__law_error pm__law_error cd__law_error ct__law_error : Value} {od__law_error an__law_error : Option Addr} {sl__law_error : Array (Option Value)}
    {f__law_facts : Addr} {oc__law_facts kV__law_facts dc__law_facts pm__law_facts cd__law_facts ct__law_facts : Value} {od__law_facts an__law_facts : Option Addr} {sl__law_facts : Array (Option Value)}
    {f__law_due : Addr} {oc__law_due kV__law_due dc__law_due pm__law_due cd__law_due ct__law_due : Value} {od__law_due an__law_due : Option Addr} {sl__law_due : Array (Option Value)}
    {f_law : Addr} {oc_law kV_law dc_law pm_law ct_law : Value} {od_law an_law : Option Addr} {sl_law : Array (Option Value)}
    {f_mi : Addr} {oc_mi kV_mi dc_mi pm_mi cd_mi ct_mi : Value} {od_mi an_mi : Option Addr} {sl_mi : Array (Option Value)}
    {f_mh : Addr} {oc_mh kV_mh dc_mh pm_mh cd_mh ct_mh : Value} {od_mh an_mh : Option Addr} {sl_mh : Array (Option Value)}
    {f_mf : Addr} {oc_mf kV_mf dc_mf pm_mf cd_mf ct_mf : Value} {od_mf an_mf : Option Addr} {sl_mf : Array (Option Value)}
    {f_mn : Addr} {oc_mn kV_mn dc_mn pm_mn cd_mn ct_mn : Value} {od_mn an_mn : Option Addr} {sl_mn : Array (Option Value)}
    {f_ml : Addr} {oc_ml kV_ml dc_ml pm_ml cd_ml ct_ml : Value} {od_ml an_ml : Option Addr} {sl_ml : Array (Option Value)}
    {CO : Addr}
    {pp_mh : Addr} {rs_mh : List Value}
    {pp_mf : Addr} {rs_mf : List Value}
    {pp_mn : Addr} {rs_mn : List Value}
    {cc_law : Addr} {ocl : Obj}
    {t_LETTERS : Tok}
    {t_LONGEST_NAME : Tok}
    {t_MOST_NAMES : Tok}
    {CE : Addr}
    {E0 : Addr}
    {E1 : Addr}
    {E2 : Addr}
    {E3 : Addr}
    {E4 : Addr}
    {E5 : Addr}
    {E6 : Addr}
    {E7 : Addr}
    {E8 : Addr}
    {E9 : Addr}
    {E10 : Addr}
    {E11 : Addr}
    {E12 : Addr}
    {E13 : Addr}
    {E14 : Addr}
    {E15 : Addr}
    {E16 : Addr}
    {nmE qE : Str} {NE : Addr} {bsE bmE suE : List Value} {snE : List Str} {abE : Bool} {colE : Option Bool} {ddE : Option Addr} {x0E x1E x2E x3E x5E : Option Value}
    {nmi3 qi3 : Str} {Ni3 : Addr} {bsi3 bmi3 sui3 : List Value} {sni3 : List Str} {abi3 : Bool} {coli3 : Option Bool} {ddi3 odii3 anii3 ccddi3 cddi3 : Option Addr} {x0i3 x1i3 x2i3 x3i3 x5i3 : Option Value} {fIi3 celi3 codi3 : Addr} {ocii3 kVii3 dcii3 pmii3 ctii3 clci3 ccli3 : Value} {slii3 csli3 ccsi3 : Array (Option Value)} {vsi3 : Array Value} {fili3 : Str} {tfii3 : Tok}
    (a_is_name : PySem.W.nsIn K mainGlobals "is_name" = some (some (.ref f_is_name)))
    (l_is_name : K.lookup f_is_name = some ⟨oc_is_name, od_is_name, .func (PySem.W.fnOf "is_name" "is_name" (defArgs s_is_name) (defBody s_is_name) (defScope s_is_name) .none kV_is_name dc_is_name pm_is_name an_is_name cd_is_name ct_is_name), sl_is_name⟩)
    (c_is_name : PySem.W.codeIn K cd_is_name "is_name" = true)
    (k_is_name : PySem.W.keepIn K (.ref f_is_name) = true)
    (a_rises : PySem.W.nsIn K mainGlobals "rises" = some (some (.ref f_rises)))
    (l_rises : K.lookup f_rises = some ⟨oc_rises, od_rises, .func (PySem.W.fnOf "rises" "rises" (defArgs s_rises) (defBody s_rises) (defScope s_rises) .none kV_rises dc_rises pm_rises an_rises cd_rises ct_rises), sl_rises⟩)
    (c_rises : PySem.W.codeIn K cd_rises "rises" = true)
    (k_rises : PySem.W.keepIn K (.ref f_rises) = true)
    (a_check_part : PySem.W.nsIn K mainGlobals "check_part" = some (some (.ref f_check_part)))
    (l_check_part : K.lookup f_check_part = some ⟨oc_check_part, od_check_part, .func (PySem.W.fnOf "check_part" "check_part" (defArgs s_check_part) (defBody s_check_part) (defScope s_check_part) .none kV_check_part dc_check_part pm_check_part an_check_part cd_check_part ct_check_part), sl_check_part⟩)
    (c_check_part : PySem.W.codeIn K cd_check_part "check_part" = true)
    (k_check_part : PySem.W.keepIn K (.ref f_check_part) = true)
    (a_merged : PySem.W.nsIn K mainGlobals "merged" = some (some (.ref f_merged)))
    (l_merged : K.lookup f_merged = some ⟨oc_merged, od_merged, .func (PySem.W.fnOf "merged" "merged" (defArgs s_merged) (defBody s_merged) (defScope s_merged) .none kV_merged dc_merged pm_merged an_merged cd_merged ct_merged), sl_merged⟩)
    (c_merged : PySem.W.codeIn K cd_merged "merged" = true)
    (k_merged : PySem.W.keepIn K (.ref f_merged) = true)
    (a__law_mix : PySem.W.nsIn K mainGlobals "_law_mix" = some (some (.ref f__law_mix)))
    (l__law_mix : K.lookup f__law_mix = some ⟨oc__law_mix, od__law_mix, .func (PySem.W.fnOf "_law_mix" "_law_mix" (defArgs s__law_mix) (defBody s__law_mix) (defScope s__law_mix) .none kV__law_mix dc__law_mix pm__law_mix an__law_mix cd__law_mix ct__law_mix), sl__law_mix⟩)
    (c__law_mix : PySem.W.codeIn K cd__law_mix "_law_mix" = true)
    (k__law_mix : PySem.W.keepIn K (.ref f__law_mix) = true)
    (a__law_next : PySem.W.nsIn K mainGlobals "_law_next" = some (some (.ref f__law_next)))
    (l__law_next : K.lookup f__law_next = some ⟨oc__law_next, od__law_next, .func (PySem.W.fnOf "_law_next" "_law_next" (defArgs s__law_next) (defBody s__law_next) (defScope s__law_next) .none kV__law_next dc__law_next pm__law_next an__law_next cd__law_next ct__law_next), sl__law_next⟩)
    (c__law_next : PySem.W.codeIn K cd__law_next "_law_next" = true)
    (k__law_next : PySem.W.keepIn K (.ref f__law_next) = true)
    (a__law_alike : PySem.W.nsIn K mainGlobals "_law_alike" = some (some (.ref f__law_alike)))
    (l__law_alike : K.lookup f__law_alike = some ⟨oc__law_alike, od__law_alike, .func (PySem.W.fnOf "_law_alike" "_law_alike" (defArgs s__law_alike) (defBody s__law_alike) (defScope s__law_alike) .none kV__law_alike dc__law_alike pm__law_alike an__law_alike cd__law_alike ct__law_alike), sl__law_alike⟩)
    (c__law_alike : PySem.W.codeIn K cd__law_alike "_law_alike" = true)
    (k__law_alike : PySem.W.keepIn K (.ref f__law_alike) = true)
    (a__law_error : PySem.W.nsIn K mainGlobals "_law_error" = some (some (.ref f__law_error)))
    (l__law_error : K.lookup f__law_error = some ⟨oc__law_error, od__law_error, .func (PySem.W.fnOf "_law_error" "_law_error" (defArgs s__law_error) (defBody s__law_error) (defScope s__law_error) .none kV__law_error dc__law_error pm__law_error an__law_error cd__law_error ct__law_error), sl__law_error⟩)
    (c__law_error : PySem.W.codeIn K cd__law_error "_law_error" = true)
    (k__law_error : PySem.W.keepIn K (.ref f__law_error) = true)
    (a__law_facts : PySem.W.nsIn K mainGlobals "_law_facts" = some (some (.ref f__law_facts)))
    (l__law_facts : K.lookup f__law_facts = some ⟨oc__law_facts, od__law_facts, .func (PySem.W.fnOf "_law_facts" "_law_facts" (defArgs s__law_facts) (defBody s__law_facts) (defScope s__law_facts) .none kV__law_facts dc__law_facts pm__law_facts an__law_facts cd__law_facts ct__law_facts), sl__law_facts⟩)
    (c__law_facts : PySem.W.codeIn K cd__law_facts "_law_facts" = true)
    (k__law_facts : PySem.W.keepIn K (.ref f__law_facts) = true)
    (a__law_due : PySem.W.nsIn K mainGlobals "_law_due" = some (some (.ref f__law_due)))
    (l__law_due : K.lookup f__law_due = some ⟨oc__law_due, od__law_due, .func (PySem.W.fnOf "_law_due" "_law_due" (defArgs s__law_due) (defBody s__law_due) (defScope s__law_due) .none kV__law_due dc__law_due pm__law_due an__law_due cd__law_due ct__law_due), sl__law_due⟩)
    (c__law_due : PySem.W.codeIn K cd__law_due "_law_due" = true)
    (k__law_due : PySem.W.keepIn K (.ref f__law_due) = true)
    (a_law : PySem.W.nsIn K mainGlobals "law" = some (some (.ref f_law)))
    (l_law : K.lookup f_law = some ⟨oc_law, od_law, .func (PySem.W.fnOf "law" "law" (defArgs s_law) (defBody s_law) (defScope s_law) .none kV_law dc_law pm_law an_law (.ref cc_law) ct_law), sl_law⟩)
    (c_law : PySem.W.codeIn K (.ref cc_law) "law" = true)
    (k_law : PySem.W.keepIn K (.ref f_law) = true)
    (co : PySem.W.nsIn K mainGlobals "Condition" = some (some (.ref CO)))
    (co_mk : PySem.W.makesIn K CO = true)
    (co_in : PySem.W.findIn K (.ref CO) "__init__" = some (some (.ref f_mi)))
    (co_fn : PySem.W.isFn K (.ref f_mi) = true)
    (co_kp : PySem.W.keepIn K (.ref CO) = true)
    (co_pg : PySem.W.plainGet K CO Str.empty = true)
    (co_hd : PySem.W.hasDictIn K CO = true)
    (co_po : PySem.W.plainOver K CO = true)
    (co_sa : PySem.W.findIn K (.ref CO) "__setattr__" = some (some (.builtin "object.__setattr__")))
    (co_n1 : PySem.W.findIn K (.ref CO) "_holding" = some none)
    (co_n2 : PySem.W.findIn K (.ref CO) "_failing" = some none)
    (co_n3 : PySem.W.findIn K (.ref CO) "_names" = some none)
    (pa_mh : PySem.W.findIn K (.ref CO) "holding" = some (some (.ref pp_mh)))
    (pg_mh : PySem.W.specialIn K (.ref pp_mh) "__get__" = some (some (.builtin "property.__get__")))
    (pt_mh : PySem.W.takesIn K (.ref pp_mh) = some true)
    (pr_mh : PySem.W.recIn K pp_mh "property" = some (.ref f_mh :: rs_mh))
    (pa_mf : PySem.W.findIn K (.ref CO) "failing" = some (some (.ref pp_mf)))
    (pg_mf : PySem.W.specialIn K (.ref pp_mf) "__get__" = some (some (.builtin "property.__get__")))
    (pt_mf : PySem.W.takesIn K (.ref pp_mf) = some true)
    (pr_mf : PySem.W.recIn K pp_mf "property" = some (.ref f_mf :: rs_mf))
    (pa_mn : PySem.W.findIn K (.ref CO) "names" = some (some (.ref pp_mn)))
    (pg_mn : PySem.W.specialIn K (.ref pp_mn) "__get__" = some (some (.builtin "property.__get__")))
    (pt_mn : PySem.W.takesIn K (.ref pp_mn) = some true)
    (pr_mn : PySem.W.recIn K pp_mn "property" = some (.ref f_mn :: rs_mn))
    (ln_a : PySem.W.findIn K (.ref CO) "__len__" = some (some (.ref f_ml)))
    (ln_t : PySem.W.typeIn K (.ref f_ml) = some (.type "function"))
    (l_mi : K.lookup f_mi = some ⟨oc_mi, od_mi, .func (PySem.W.fnOf "__init__" "Condition.__init__" (defArgs s_Condition___init__) (defBody s_Condition___init__) (defScope s_Condition___init__) .none kV_mi dc_mi pm_mi an_mi cd_mi ct_mi), sl_mi⟩)
    (c_mi : PySem.W.codeIn K cd_mi "Condition.__init__" = true)
    (k_mi : PySem.W.keepIn K (.ref f_mi) = true)
    (l_mh : K.lookup f_mh = some ⟨oc_mh, od_mh, .func (PySem.W.fnOf "holding" "Condition.holding" (defArgs s_Condition_holding) (defBody s_Condition_holding) (defScope s_Condition_holding) .none kV_mh dc_mh pm_mh an_mh cd_mh ct_mh), sl_mh⟩)
    (c_mh : PySem.W.codeIn K cd_mh "Condition.holding" = true)
    (k_mh : PySem.W.keepIn K (.ref f_mh) = true)
    (l_mf : K.lookup f_mf = some ⟨oc_mf, od_mf, .func (PySem.W.fnOf "failing" "Condition.failing" (defArgs s_Condition_failing) (defBody s_Condition_failing) (defScope s_Condition_failing) .none kV_mf dc_mf pm_mf an_mf cd_mf ct_mf), sl_mf⟩)
    (c_mf : PySem.W.codeIn K cd_mf "Condition.failing" = true)
    (k_mf : PySem.W.keepIn K (.ref f_mf) = true)
    (l_mn : K.lookup f_mn = some ⟨oc_mn, od_mn, .func (PySem.W.fnOf "names" "Condition.names" (defArgs s_Condition_names) (defBody s_Condition_names) (defScope s_Condition_names) .none kV_mn dc_mn pm_mn an_mn cd_mn ct_mn), sl_mn⟩)
    (c_mn : PySem.W.codeIn K cd_mn "Condition.names" = true)
    (k_mn : PySem.W.keepIn K (.ref f_mn) = true)
    (l_ml : K.lookup f_ml = some ⟨oc_ml, od_ml, .func (PySem.W.fnOf "__len__" "Condition.__len__" (defArgs s_Condition___len__) (defBody s_Condition___len__) (defScope s_Condition___len__) .none kV_ml dc_ml pm_ml an_ml cd_ml ct_ml), sl_ml⟩)
    (c_ml : PySem.W.codeIn K cd_ml "Condition.__len__" = true)
    (k_ml : PySem.W.keepIn K (.ref f_ml) = true)
    (b_isinstance : PySem.W.nsIn K mainGlobals "isinstance" = some none)
    (b_len : PySem.W.nsIn K mainGlobals "len" = some none)
    (b_all : PySem.W.nsIn K mainGlobals "all" = some none)
    (b_any : PySem.W.nsIn K mainGlobals "any" = some none)
    (b_sum : PySem.W.nsIn K mainGlobals "sum" = some none)
    (b_max : PySem.W.nsIn K mainGlobals "max" = some none)
    (b_min : PySem.W.nsIn K mainGlobals "min" = some none)
    (b_int : PySem.W.nsIn K mainGlobals "int" = some none)
    (b_str : PySem.W.nsIn K mainGlobals "str" = some none)
    (b_bool : PySem.W.nsIn K mainGlobals "bool" = some none)
    (b_list : PySem.W.nsIn K mainGlobals "list" = some none)
    (b_tuple : PySem.W.nsIn K mainGlobals "tuple" = some none)
    (b_dict : PySem.W.nsIn K mainGlobals "dict" = some none)
    (b_range : PySem.W.nsIn K mainGlobals "range" = some none)
    (b_enumerate : PySem.W.nsIn K mainGlobals "enumerate" = some none)
    (b_sorted : PySem.W.nsIn K mainGlobals "sorted" = some none)
    (b_reversed : PySem.W.nsIn K mainGlobals "reversed" = some none)
    (b_zip : PySem.W.nsIn K mainGlobals "zip" = some none)
    (b_set : PySem.W.nsIn K mainGlobals "set" = some none)
    (b_ValueError : PySem.W.nsIn K mainGlobals "ValueError" = some none)
    (m_LETTERS : PySem.W.nsIn K mainGlobals "LETTERS" = some (some (.str letters t_LETTERS)))
    (m_LONGEST_NAME : PySem.W.nsIn K mainGlobals "LONGEST_NAME" = some (some (.int 8 t_LONGEST_NAME)))
    (m_MOST_NAMES : PySem.W.nsIn K mainGlobals "MOST_NAMES" = some (some (.int 8 t_MOST_NAMES)))
    (m_CourtError : PySem.W.nsIn K mainGlobals "CourtError" = some (some (.ref CE)))
    (m_InvalidFacts : PySem.W.nsIn K mainGlobals "InvalidFacts" = some (some (.ref E0)))
    (m_InvalidCase : PySem.W.nsIn K mainGlobals "InvalidCase" = some (some (.ref E1)))
    (m_InvalidNumber : PySem.W.nsIn K mainGlobals "InvalidNumber" = some (some (.ref E2)))
    (m_InvalidCondition : PySem.W.nsIn K mainGlobals "InvalidCondition" = some (some (.ref E3)))
    (m_NeverMet : PySem.W.nsIn K mainGlobals "NeverMet" = some (some (.ref E4)))
    (m_InvalidRule : PySem.W.nsIn K mainGlobals "InvalidRule" = some (some (.ref E5)))
    (m_InvalidBook : PySem.W.nsIn K mainGlobals "InvalidBook" = some (some (.ref E6)))
    (m_UnknownRule : PySem.W.nsIn K mainGlobals "UnknownRule" = some (some (.ref E7)))
    (m_InvalidRuling : PySem.W.nsIn K mainGlobals "InvalidRuling" = some (some (.ref E8)))
    (m_UnknownFact : PySem.W.nsIn K mainGlobals "UnknownFact" = some (some (.ref E9)))
    (m_NoReason : PySem.W.nsIn K mainGlobals "NoReason" = some (some (.ref E10)))
    (m_TooMany : PySem.W.nsIn K mainGlobals "TooMany" = some (some (.ref E11)))
    (m_InvalidChance : PySem.W.nsIn K mainGlobals "InvalidChance" = some (some (.ref E12)))
    (m_OtherFacts : PySem.W.nsIn K mainGlobals "OtherFacts" = some (some (.ref E13)))
    (m_NoNeighbor : PySem.W.nsIn K mainGlobals "NoNeighbor" = some (some (.ref E14)))
    (m_NoFacts : PySem.W.nsIn K mainGlobals "NoFacts" = some (some (.ref E15)))
    (m_AlreadyKnown : PySem.W.nsIn K mainGlobals "AlreadyKnown" = some (some (.ref E16)))
    (CEbe : PySem.W.subIn K (.ref CE) (.type "BaseException") = some true)
    (CEcl : PySem.W.isClsIn K CE = true)
    (CEty : PySem.W.typeIn K (.ref CE) = some (.type "type"))
    (u_0 : PySem.W.isClsIn K E0 = true)
    (v_0 : PySem.W.typeIn K (.ref E0) = some (.type "type"))
    (u_1 : PySem.W.isClsIn K E1 = true)
    (v_1 : PySem.W.typeIn K (.ref E1) = some (.type "type"))
    (u_2 : PySem.W.isClsIn K E2 = true)
    (v_2 : PySem.W.typeIn K (.ref E2) = some (.type "type"))
    (u_3 : PySem.W.isClsIn K E3 = true)
    (v_3 : PySem.W.typeIn K (.ref E3) = some (.type "type"))
    (u_4 : PySem.W.isClsIn K E4 = true)
    (v_4 : PySem.W.typeIn K (.ref E4) = some (.type "type"))
    (u_5 : PySem.W.isClsIn K E5 = true)
    (v_5 : PySem.W.typeIn K (.ref E5) = some (.type "type"))
    (u_6 : PySem.W.isClsIn K E6 = true)
    (v_6 : PySem.W.typeIn K (.ref E6) = some (.type "type"))
    (u_7 : PySem.W.isClsIn K E7 = true)
    (v_7 : PySem.W.typeIn K (.ref E7) = some (.type "type"))
    (u_8 : PySem.W.isClsIn K E8 = true)
    (v_8 : PySem.W.typeIn K (.ref E8) = some (.type "type"))
    (u_9 : PySem.W.isClsIn K E9 = true)
    (v_9 : PySem.W.typeIn K (.ref E9) = some (.type "type"))
    (u_10 : PySem.W.isClsIn K E10 = true)
    (v_10 : PySem.W.typeIn K (.ref E10) = some (.type "type"))
    (u_11 : PySem.W.isClsIn K E11 = true)
    (v_11 : PySem.W.typeIn K (.ref E11) = some (.type "type"))
    (u_12 : PySem.W.isClsIn K E12 = true)
    (v_12 : PySem.W.typeIn K (.ref E12) = some (.type "type"))
    (u_13 : PySem.W.isClsIn K E13 = true)
    (v_13 : PySem.W.typeIn K (.ref E13) = some (.type "type"))
    (u_14 : PySem.W.isClsIn K E14 = true)
    (v_14 : PySem.W.typeIn K (.ref E14) = some (.type "type"))
    (u_15 : PySem.W.isClsIn K E15 = true)
    (v_15 : PySem.W.typeIn K (.ref E15) = some (.type "type"))
    (u_16 : PySem.W.isClsIn K E16 = true)
    (v_16 : PySem.W.typeIn K (.ref E16) = some (.type "type"))
    (r3_cl : PySem.W.isClsIn K E3 = true)
    (r3_ga : PySem.W.findIn K (.ref E3) "__getattribute__" = some (some (.builtin "BaseException.__getattribute__")))
    (r3_gt : PySem.W.findIn K (.ref E3) "__getattr__" = some none)
    (r3_be : PySem.W.subIn K (.ref E3) (.type "BaseException") = some true)
    (r3_kc : PySem.W.findIn K (.ref E3) "__class__" = some (some (.builtin "object.__class__")))
    (r3_ob : PySem.W.mroIn K E3 (.type "object") = some true)
    (r3_hd : PySem.W.hasDictIn K E3 = true)
    (r3_sC : PySem.W.subIn K (.ref E3) (.ref CE) = some true)
    (r3_ve : PySem.W.subIn K (.ref E3) (.type "ValueError") = some true)
    (r3_k0 : PySem.W.subIn K (.ref E3) (.ref E0) = some false)
    (r3_k1 : PySem.W.subIn K (.ref E3) (.ref E1) = some false)
    (r3_k2 : PySem.W.subIn K (.ref E3) (.ref E2) = some false)
    (r3_k3 : PySem.W.subIn K (.ref E3) (.ref E3) = some true)
    (r3_k4 : PySem.W.subIn K (.ref E3) (.ref E4) = some false)
    (r3_k5 : PySem.W.subIn K (.ref E3) (.ref E5) = some false)
    (r3_k6 : PySem.W.subIn K (.ref E3) (.ref E6) = some false)
    (r3_k7 : PySem.W.subIn K (.ref E3) (.ref E7) = some false)
    (r3_k8 : PySem.W.subIn K (.ref E3) (.ref E8) = some false)
    (r3_k9 : PySem.W.subIn K (.ref E3) (.ref E9) = some false)
    (r3_k10 : PySem.W.subIn K (.ref E3) (.ref E10) = some false)
    (r3_k11 : PySem.W.subIn K (.ref E3) (.ref E11) = some false)
    (r3_k12 : PySem.W.subIn K (.ref E3) (.ref E12) = some false)
    (r3_k13 : PySem.W.subIn K (.ref E3) (.ref E13) = some false)
    (r3_k14 : PySem.W.subIn K (.ref E3) (.ref E14) = some false)
    (r3_k15 : PySem.W.subIn K (.ref E3) (.ref E15) = some false)
    (r3_k16 : PySem.W.subIn K (.ref E3) (.ref E16) = some false)
    (r3_n_index : PySem.W.findIn K (.ref E3) "index" = some none)
    (r3_n_part : PySem.W.findIn K (.ref E3) "part" = some none)
    (r3_n_word : PySem.W.findIn K (.ref E3) "word" = some none)
    (r3_n_fact : PySem.W.findIn K (.ref E3) "fact" = some none)
    (sg : PySem.W.specialIn K (.builtin "object.__class__") "__get__" = some (some (.builtin "getset_descriptor.__get__")))
    (tk : PySem.W.takesIn K (.builtin "object.__class__") = some true)
    (x_E : K.lookup CE = some (excClassObj nmE qE CE NE bsE bmE true snE suE abE colE ddE x0E x1E x2E x3E x5E "ValueError.__new__"))
    (f_E : PySem.W.findIn K (.ref CE) "__init__" = some (some (.builtin "ValueError.__init__")))
    (noS : PySem.W.nsIn K mainGlobals "super" = some none)
    (opq : PySem.W.nsIn K cStatics "thirdparty.any" = some none)
    (i3_x : K.lookup E3 = some (excClassObj nmi3 qi3 E3 Ni3 bsi3 bmi3 true sni3 sui3 abi3 coli3 ddi3 x0i3 x1i3 x2i3 x3i3 x5i3 "ValueError.__new__"))
    (i3_rv : HandSPX.refsVE bmi3 = true)
    (i3_sa : PySem.W.findIn K (.ref E3) "__setattr__" = some (some (.builtin "object.__setattr__")))
    (i3_ty : PySem.W.typeIn K (.ref E3) = some (.type "type"))
    (i3_kC : PySem.W.keepIn K (.ref E3) = true)
    (i3_in : PySem.W.findIn K (.ref E3) "__init__" = some (some (.ref fIi3)))
    (i3_tI : PySem.W.typeIn K (.ref fIi3) = some (.type "function"))
    (i3_lI : K.lookup fIi3 = some ⟨ocii3, odii3, .func (supFd (nf_InvalidCondition celi3 codi3) kVii3 dcii3 pmii3 anii3 ctii3), slii3⟩)
    (i3_cI : PySem.W.codeIn K (.ref codi3) "InvalidCondition.__init__" = true)
    (i3_ce : K.lookup celi3 = some ⟨clci3, ccddi3, .cell (some (.ref E3)), csli3⟩)
    (i3_co : K.lookup codi3 = some ⟨ccli3, cddi3, .fields vsi3, ccsi3⟩)
    (i3_fi : vsi3[2]? = some (.str fili3 tfii3))
    (i3_fe : ((P.main.file : Str) == fili3) = true)
    (i3_sb : PySem.W.mroIn K E3 (.ref E3) = some true)
    (i3_bm : bmi3 = .ref CE :: bmE)
    (i3_vB : PySem.W.subIn K (.ref E3) (.type "ValueError") = some true)
    (i3_bE : PySem.W.subIn K (.ref E3) (.type "BaseException") = some true)
    (i3_f_part : PySem.W.findIn K (.ref E3) "part" = some none)
    (i3_f_index : PySem.W.findIn K (.ref E3) "index" = some none)
    (tbl : K.lookup cc_law = some ocl)
    (tb0 : PySem.W.codeHdIn [(cc_law, ocl)] cc_law 432 = true)
    (tb1 : h.get? 432 = some ⟨.none, none, .fields #[], #[]⟩)
    (tb2 : K.lookup 432 = none)
    (top0 : (P.main.scope.names.lookup ("super" : Str)).isSome = false) : LamX.LawAtS l w K CX0 8 63 "_law_script" mg fa h := by
  have e := hfa.symm.trans (PySem.W.mg_of X G a_law)
  cases e
  subst eP
  have B : Blt mg := ⟨PySem.W.mg_none_of X G b_isinstance, PySem.W.mg_none_of X G b_len, PySem.W.mg_none_of X G b_all, PySem.W.mg_none_of X G b_any, PySem.W.mg_none_of X G b_sum, PySem.W.mg_none_of X G b_max, PySem.W.mg_none_of X G b_min, PySem.W.mg_none_of X G b_int, PySem.W.mg_none_of X G b_str, PySem.W.mg_none_of X G b_bool, PySem.W.mg_none_of X G b_list, PySem.W.mg_none_of X G b_tuple, PySem.W.mg_none_of X G b_dict, PySem.W.mg_none_of X G b_range, PySem.W.mg_none_of X G b_enumerate, PySem.W.mg_none_of X G b_sorted, PySem.W.mg_none_of X G b_reversed, PySem.W.mg_none_of X G b_zip, PySem.W.mg_none_of X G b_set, PySem.W.mg_none_of X G b_ValueError⟩
  have GE : GErr mg (fun i => [E0, E1, E2, E3, E4, E5, E6, E7, E8, E9, E10, E11, E12, E13, E14, E15, E16].getD i E0) CE := ⟨PySem.W.mg_of X G m_CourtError, PySem.W.mg_of X G m_InvalidFacts, PySem.W.mg_of X G m_InvalidCase, PySem.W.mg_of X G m_InvalidNumber, PySem.W.mg_of X G m_InvalidCondition, PySem.W.mg_of X G m_NeverMet, PySem.W.mg_of X G m_InvalidRule, PySem.W.mg_of X G m_InvalidBook, PySem.W.mg_of X G m_UnknownRule, PySem.W.mg_of X G m_InvalidRuling, PySem.W.mg_of X G m_UnknownFact, PySem.W.mg_of X G m_NoReason, PySem.W.mg_of X G m_TooMany, PySem.W.mg_of X G m_InvalidChance, PySem.W.mg_of X G m_OtherFacts, PySem.W.mg_of X G m_NoNeighbor, PySem.W.mg_of X G m_NoFacts, PySem.W.mg_of X G m_AlreadyKnown⟩
  have F_is_name := fun_mk (st := s_is_name) l_is_name c_is_name k_is_name
  have b_is_name := F_is_name.binds (ps := ["value"]) fun _ _ _ _ _ _ us hl => match us, hl with | [_], _ => rfl
  have F_rises := fun_mk (st := s_rises) l_rises c_rises k_rises
  have b_rises := F_rises.binds (ps := ["names", "index"]) fun _ _ _ _ _ _ us hl => match us, hl with | [_, _], _ => rfl
  have F_check_part := fun_mk (st := s_check_part) l_check_part c_check_part k_check_part
  have b_check_part := F_check_part.binds (ps := ["part", "names", "before"]) fun _ _ _ _ _ _ us hl => match us, hl with | [_, _, _], _ => rfl
  have F_merged := fun_mk (st := s_merged) l_merged c_merged k_merged
  have b_merged := F_merged.binds (ps := ["names", "others"]) fun _ _ _ _ _ _ us hl => match us, hl with | [_, _], _ => rfl
  have F__law_mix := fun_mk (st := s__law_mix) l__law_mix c__law_mix k__law_mix
  have b__law_mix := F__law_mix.binds (ps := ["_law_script", "_law_seed"]) fun _ _ _ _ _ _ us hl => match us, hl with | [_, _], _ => rfl
  have F__law_next := fun_mk (st := s__law_next) l__law_next c__law_next k__law_next
  have b__law_next := F__law_next.binds (ps := ["_law_h", "_law_limit"]) fun _ _ _ _ _ _ us hl => match us, hl with | [_, _], _ => rfl
  have F__law_alike := fun_mk (st := s__law_alike) l__law_alike c__law_alike k__law_alike
  have b__law_alike := F__law_alike.binds (ps := ["_law_found", "_law_due_here"]) fun _ _ _ _ _ _ us hl => match us, hl with | [_, _], _ => rfl
  have F__law_error := fun_mk (st := s__law_error) l__law_error c__law_error k__law_error
  have b__law_error := F__law_error.binds (ps := ["_law_call"]) fun _ _ _ _ _ _ us hl => match us, hl with | [_], _ => rfl
  have F__law_facts := fun_mk (st := s__law_facts) l__law_facts c__law_facts k__law_facts
  have b__law_facts := F__law_facts.binds (ps := ["_law_h", "_law_count"]) fun _ _ _ _ _ _ us hl => match us, hl with | [_, _], _ => rfl
  have F__law_due := fun_mk (st := s__law_due) l__law_due c__law_due k__law_due
  have b__law_due := F__law_due.binds (ps := ["_law_parts"]) fun _ _ _ _ _ _ us hl => match us, hl with | [_], _ => rfl
  have ec_InvalidCondition : ErrC K E3 := ⟨r3_cl, r3_ga, r3_gt, r3_be, r3_kc, sg, tk, r3_ob, r3_hd⟩
  have er_InvalidCondition : ErrRow K (fun i => [E0, E1, E2, E3, E4, E5, E6, E7, E8, E9, E10, E11, E12, E13, E14, E15, E16].getD i E0) CE E3 3 := ⟨by decide, ec_InvalidCondition, exm_by CEbe CEcl CEty r3_sC, fun i hi => match i, hi with | 0, _ => kit_by r3_k3 u_0 v_0 r3_k0 | 1, _ => kit_by r3_k3 u_1 v_1 r3_k1 | 2, _ => kit_by r3_k3 u_2 v_2 r3_k2 | 3, _ => kit_by r3_k3 u_3 v_3 r3_k3 | 4, _ => kit_by r3_k3 u_4 v_4 r3_k4 | 5, _ => kit_by r3_k3 u_5 v_5 r3_k5 | 6, _ => kit_by r3_k3 u_6 v_6 r3_k6 | 7, _ => kit_by r3_k3 u_7 v_7 r3_k7 | 8, _ => kit_by r3_k3 u_8 v_8 r3_k8 | 9, _ => kit_by r3_k3 u_9 v_9 r3_k9 | 10, _ => kit_by r3_k3 u_10 v_10 r3_k10 | 11, _ => kit_by r3_k3 u_11 v_11 r3_k11 | 12, _ => kit_by r3_k3 u_12 v_12 r3_k12 | 13, _ => kit_by r3_k3 u_13 v_13 r3_k13 | 14, _ => kit_by r3_k3 u_14 v_14 r3_k14 | 15, _ => kit_by r3_k3 u_15 v_15 r3_k15 | 16, _ => kit_by r3_k3 u_16 v_16 r3_k16 | x + 17, h => absurd h (by omega), kit_ve r3_ve, four r3_n_index r3_n_part r3_n_word r3_n_fact⟩
  have ox_InvalidCondition : OexC K E3 := ⟨⟨_, _, _, _, _, _, _, _, _, _, _, _, _, _, _, i3_x, i3_rv⟩, i3_sa, i3_bE, i3_ty, i3_kC⟩
  have sp_InvalidCondition : SupC l.prog K mg E3 celi3 codi3 := ⟨⟨_, _, _, i3_ce⟩, ⟨_, _, _, _, _, _, i3_co, i3_fi, i3_fe⟩, i3_sb, PySem.W.mg_none_of X G noS, opq, sup_by i3_x x_E i3_bm f_E, i3_vB, top0⟩
  have F_mi := fun_mk (st := s_Condition___init__) l_mi c_mi k_mi
  have b_mi := F_mi.binds (ps := ["self", "holding", "failing"]) fun _ _ _ _ _ _ us hl => match us, hl with | [_, _, _], _ => rfl
  have F_mh := fun_mk (st := s_Condition_holding) l_mh c_mh k_mh
  have b_mh := F_mh.binds (ps := ["self"]) fun _ _ _ _ _ _ us hl => match us, hl with | [_], _ => rfl
  have F_mf := fun_mk (st := s_Condition_failing) l_mf c_mf k_mf
  have b_mf := F_mf.binds (ps := ["self"]) fun _ _ _ _ _ _ us hl => match us, hl with | [_], _ => rfl
  have F_mn := fun_mk (st := s_Condition_names) l_mn c_mn k_mn
  have b_mn := F_mn.binds (ps := ["self"]) fun _ _ _ _ _ _ us hl => match us, hl with | [_], _ => rfl
  have F_ml := fun_mk (st := s_Condition___len__) l_ml c_ml k_ml
  have b_ml := F_ml.binds (ps := ["self"]) fun _ _ _ _ _ _ us hl => match us, hl with | [_], _ => rfl
  have GN : GNames mg := ⟨⟨_, PySem.W.mg_of X G m_LETTERS⟩, ⟨_, PySem.W.mg_of X G m_LONGEST_NAME⟩⟩
  have CL : Cls K CO := ⟨co_pg, co_hd, co_po, co_sa⟩
  refine ⟨PySem.W.fnOf "law" "law" (defArgs s_law) (defBody s_law) (defScope s_law) .none kV_law dc_law pm_law an_law (.ref cc_law) ct_law, [(cc_law, 432)], sp_law K 432, fun p hp => by rw [List.mem_singleton.mp hp]; exact tb1, fun p hp => by rw [List.mem_singleton.mp hp]; exact tb2, fun p hp => by rw [List.mem_singleton.mp hp]; exact PySem.W.codeHd_of_K X (codeHd_by tbl tb0), ?_, ?_, ?_⟩
  · exact fun s u => .of_eq rfl
  · exact fun H a ns hl hb ht hS => ⟨a, ns, rfl, hS, hl, hb, ht _ (List.mem_singleton.mpr rfl), fun _ => rfl⟩
  · intro base KB NB TBs
    have e_InvalidCondition : ErrMk l.prog w K mg base "InvalidCondition" E3 ["self", "part", "index"] (sp_init2 E3 "part" "index") := ⟨_, _, ox_InvalidCondition, i3_in, i3_tI, ok_init_InvalidCondition i3_lI i3_cI ox_InvalidCondition sp_InvalidCondition i3_f_part i3_f_index, fun s us _ hl => match us, hl with | [_, _, _], _ => .of_eq rfl, PySem.W.mg_of X G m_InvalidCondition⟩
    have c_is_name : Cal l.prog w K mg base CX0 1 "is_name" ["value"] (sp_is_name) := ⟨_, _, (ok_is_name F_is_name B GN), PySem.W.mg_of X G a_is_name, k_is_name, b_is_name⟩
    have c_rises : Cal l.prog w K mg base CX0 1 "rises" ["names", "index"] (sp_rises K) := ⟨_, _, (ok_rises F_rises ), PySem.W.mg_of X G a_rises, k_rises, b_rises⟩
    have c_check_part : Cal l.prog w K mg base (L2.CX l.prog w) 3 "check_part" ["part", "names", "before"] (sp_check_part K E3) := ⟨_, _, (ok_check_part F_check_part B ⟨_, PySem.W.mg_of X G m_MOST_NAMES⟩ e_InvalidCondition c_is_name c_rises), PySem.W.mg_of X G a_check_part, k_check_part, b_check_part⟩
    have c_merged : Cal l.prog w K mg base CX0 1 "merged" ["names", "others"] (sp_merged K) := ⟨_, _, (ok_merged F_merged B), PySem.W.mg_of X G a_merged, k_merged, b_merged⟩
    have c__law_mix : Cal l.prog w K mg base CX0 1 "_law_mix" ["_law_script", "_law_seed"] (sp_mix K) := ⟨_, _, (ok_mix F__law_mix B), PySem.W.mg_of X G a__law_mix, k__law_mix, b__law_mix⟩
    have c__law_next : Cal l.prog w K mg base CX0 1 "_law_next" ["_law_h", "_law_limit"] (sp_next) := ⟨_, _, (ok_next F__law_next B), PySem.W.mg_of X G a__law_next, k__law_next, b__law_next⟩
    have c__law_facts : Cal l.prog w K mg base CX0 2 "_law_facts" ["_law_h", "_law_count"] (sp_facts) := ⟨_, _, (ok_facts F__law_facts B c__law_next), PySem.W.mg_of X G a__law_facts, k__law_facts, b__law_facts⟩
    have c__law_due : Cal l.prog w K mg base CX0 1 "_law_due" ["_law_parts"] (sp_due K) := ⟨_, _, (ok_due F__law_due B), PySem.W.mg_of X G a__law_due, k__law_due, b__law_due⟩
    have c0 : Cal l.prog w K mg base CX0 1 "_law_alike" ["_law_found", "_law_due_here"] (sp_alike 0) := ⟨_, _, (ok_alike0 F__law_alike B), PySem.W.mg_of X G a__law_alike, k__law_alike, b__law_alike⟩
    have c1 : Cal l.prog w K mg base CX0 2 "_law_alike" ["_law_found", "_law_due_here"] (sp_alike 1) := ⟨_, _, (ok_alike F__law_alike B c0), PySem.W.mg_of X G a__law_alike, k__law_alike, b__law_alike⟩
    have c2 : Cal l.prog w K mg base CX0 3 "_law_alike" ["_law_found", "_law_due_here"] (sp_alike 2) := ⟨_, _, (ok_alike F__law_alike B c1), PySem.W.mg_of X G a__law_alike, k__law_alike, b__law_alike⟩
    have kM : Mkr l.prog w K mg base 4 "Condition" CO ["self", "holding", "failing"] (sp_cond_init K CO E3) := ⟨_, _, ⟨co_mk, co_in, co_fn, co_kp⟩, ok_cond_init F_mi B CL co_n1 co_n2 co_n3 c_check_part c_merged, PySem.W.mg_of X G co, b_mi⟩
    have kC : CondC l.prog w K mg base CO pp_mh f_mh pp_mf f_mf pp_mn f_mn f_ml _ _ _ _ := ⟨CL, ⟨⟨pa_mh, pg_mh, pt_mh, ⟨_, pr_mh⟩⟩, ok_holding F_mh CL co_n1, b_mh⟩, ⟨⟨pa_mf, pg_mf, pt_mf, ⟨_, pr_mf⟩⟩, ok_failing F_mf CL co_n2, b_mf⟩, ⟨⟨pa_mn, pg_mn, pt_mn, ⟨_, pr_mn⟩⟩, ok_cnames F_mn CL co_n3, b_mn⟩, ln_a, ln_t, ok_clen F_ml B CL co_n3, b_ml⟩
    exact ok_law ⟨⟨_, _, _, _, _, _, _, _, rfl, l_law, c_law⟩, k_law⟩ B GE F__law_error (PySem.W.mg_of X G a__law_error) b__law_error (TBs _ (List.mem_singleton.mpr rfl)) er_InvalidCondition c__law_mix c__law_next c__law_facts c__law_due c2 kM kC
end Sc
open PySem PySem.W PyProof.Rows
set_option maxRecDepth 100000 in
set_option maxHeartbeats 0 in
theorem PySem.Challenge.cw_smallcourt_k02_conditions_validated_holds : PySem.Challenge.rw_smallcourt_k02_conditions_validated.Holds := by
  w_on; o_law; k_head; (case hw => w_witness2)
  k_fill
  refine LamX.walk_ofTs (l := PySem.Challenge.rw_smallcourt_k02_conditions_validated) (n := 63) (k := 8) (CX := fun _ => L2.CX0) (x := "_law_script") rfl (by decide) rfl ⟨rfl, by decide, by decide⟩ (fun w h Y => Y.1) ?F (fun _ _ _ _ _ z => z)
  case F =>
    intro w mg fa h Y KX G hmg
    refine' Sc.all_mk rfl KX G hmg ?a_is_name ?l_is_name ?c_is_name ?k_is_name ?a_rises ?l_rises ?c_rises ?k_rises ?a_check_part ?l_check_part ?c_check_part ?k_check_part ?a_merged ?l_merged ?c_merged ?k_merged ?a__law_mix ?l__law_mix ?c__law_mix ?k__law_mix ?a__law_next ?l__law_next ?c__law_next ?k__law_next ?a__law_alike ?l__law_alike ?c__law_alike ?k__law_alike ?a__law_error ?l__law_error ?c__law_error ?k__law_error ?a__law_facts ?l__law_facts ?c__law_facts ?k__law_facts ?a__law_due ?l__law_due ?c__law_due ?k__law_due ?a_law ?l_law ?c_law ?k_law ?co ?co_mk ?co_in ?co_fn ?co_kp ?co_pg ?co_hd ?co_po ?co_sa ?co_n1 ?co_n2 ?co_n3 ?pa_mh ?pg_mh ?pt_mh ?pr_mh ?pa_mf ?pg_mf ?pt_mf ?pr_mf ?pa_mn ?pg_mn ?pt_mn ?pr_mn ?ln_a ?ln_t ?l_mi ?c_mi ?k_mi ?l_mh ?c_mh ?k_mh ?l_mf ?c_mf ?k_mf ?l_mn ?c_mn ?k_mn ?l_ml ?c_ml ?k_ml ?b_isinstance ?b_len ?b_all ?b_any ?b_sum ?b_max ?b_min ?b_int ?b_str ?b_bool ?b_list ?b_tuple ?b_dict ?b_range ?b_enumerate ?b_sorted ?b_reversed ?b_zip ?b_set ?b_ValueError ?m_LETTERS ?m_LONGEST_NAME ?m_MOST_NAMES ?m_CourtError ?m_InvalidFacts ?m_InvalidCase ?m_InvalidNumber ?m_InvalidCondition ?m_NeverMet ?m_InvalidRule ?m_InvalidBook ?m_UnknownRule ?m_InvalidRuling ?m_UnknownFact ?m_NoReason ?m_TooMany ?m_InvalidChance ?m_OtherFacts ?m_NoNeighbor ?m_NoFacts ?m_AlreadyKnown ?CEbe ?CEcl ?CEty ?u_0 ?v_0 ?u_1 ?v_1 ?u_2 ?v_2 ?u_3 ?v_3 ?u_4 ?v_4 ?u_5 ?v_5 ?u_6 ?v_6 ?u_7 ?v_7 ?u_8 ?v_8 ?u_9 ?v_9 ?u_10 ?v_10 ?u_11 ?v_11 ?u_12 ?v_12 ?u_13 ?v_13 ?u_14 ?v_14 ?u_15 ?v_15 ?u_16 ?v_16 ?r3_cl ?r3_ga ?r3_gt ?r3_be ?r3_kc ?r3_ob ?r3_hd ?r3_sC ?r3_ve ?r3_k0 ?r3_k1 ?r3_k2 ?r3_k3 ?r3_k4 ?r3_k5 ?r3_k6 ?r3_k7 ?r3_k8 ?r3_k9 ?r3_k10 ?r3_k11 ?r3_k12 ?r3_k13 ?r3_k14 ?r3_k15 ?r3_k16 ?r3_n_index ?r3_n_part ?r3_n_word ?r3_n_fact ?sg ?tk ?x_E ?f_E ?noS ?opq ?i3_x ?i3_rv ?i3_sa ?i3_ty ?i3_kC ?i3_in ?i3_tI ?i3_lI ?i3_cI ?i3_ce ?i3_co ?i3_fi ?i3_fe ?i3_sb ?i3_bm ?i3_vB ?i3_bE ?i3_f_part ?i3_f_index ?tbl ?tb0 ?tb1 ?tb2 ?top0
    (case a_is_name => k_is)
    (case l_is_name => k_is)
    (case c_is_name => k_is)
    (case k_is_name => k_is)
    (case a_rises => k_is)
    (case l_rises => k_is)
    (case c_rises => k_is)
    (case k_rises => k_is)
    (case a_check_part => k_is)
    (case l_check_part => k_is)
    (case c_check_part => k_is)
    (case k_check_part => k_is)
    (case a_merged => k_is)
    (case l_merged => k_is)
    (case c_merged => k_is)
    (case k_merged => k_is)
    (case a__law_mix => k_is)
    (case l__law_mix => k_is)
    (case c__law_mix => k_is)
    (case k__law_mix => k_is)
    (case a__law_next => k_is)
    (case l__law_next => k_is)
    (case c__law_next => k_is)
    (case k__law_next => k_is)
    (case a__law_alike => k_is)
    (case l__law_alike => k_is)
    (case c__law_alike => k_is)
    (case k__law_alike => k_is)
    (case a__law_error => k_is)
    (case l__law_error => k_is)
    (case c__law_error => k_is)
    (case k__law_error => k_is)
    (case a__law_facts => k_is)
    (case l__law_facts => k_is)
    (case c__law_facts => k_is)
    (case k__law_facts => k_is)
    (case a__law_due => k_is)
    (case l__law_due => k_is)
    (case c__law_due => k_is)
    (case k__law_due => k_is)
    (case a_law => k_is)
    (case l_law => k_is)
    (case c_law => k_is)
    (case k_law => k_is)
    (case co => k_is)
    (case co_mk => k_is)
    (case co_in => k_is)
    (case co_fn => k_is)
    (case co_kp => k_is)
    (case co_pg => k_is)
    (case co_hd => k_is)
    (case co_po => k_is)
    (case co_sa => k_is)
    (case co_n1 => k_is)
    (case co_n2 => k_is)
    (case co_n3 => k_is)
    (case pa_mh => k_is)
    (case pg_mh => k_is)
    (case pt_mh => k_is)
    (case pr_mh => k_is)
    (case pa_mf => k_is)
    (case pg_mf => k_is)
    (case pt_mf => k_is)
    (case pr_mf => k_is)
    (case pa_mn => k_is)
    (case pg_mn => k_is)
    (case pt_mn => k_is)
    (case pr_mn => k_is)
    (case ln_a => k_is)
    (case ln_t => k_is)
    (case l_mi => k_is)
    (case c_mi => k_is)
    (case k_mi => k_is)
    (case l_mh => k_is)
    (case c_mh => k_is)
    (case k_mh => k_is)
    (case l_mf => k_is)
    (case c_mf => k_is)
    (case k_mf => k_is)
    (case l_mn => k_is)
    (case c_mn => k_is)
    (case k_mn => k_is)
    (case l_ml => k_is)
    (case c_ml => k_is)
    (case k_ml => k_is)
    (case b_isinstance => k_is)
    (case b_len => k_is)
    (case b_all => k_is)
    (case b_any => k_is)
    (case b_sum => k_is)
    (case b_max => k_is)
    (case b_min => k_is)
    (case b_int => k_is)
    (case b_str => k_is)
    (case b_bool => k_is)
    (case b_list => k_is)
    (case b_tuple => k_is)
    (case b_dict => k_is)
    (case b_range => k_is)
    (case b_enumerate => k_is)
    (case b_sorted => k_is)
    (case b_reversed => k_is)
    (case b_zip => k_is)
    (case b_set => k_is)
    (case b_ValueError => k_is)
    (case m_LETTERS => k_is)
    (case m_LONGEST_NAME => k_is)
    (case m_MOST_NAMES => k_is)
    (case m_CourtError => k_is)
    (case m_InvalidFacts => k_is)
    (case m_InvalidCase => k_is)
    (case m_InvalidNumber => k_is)
    (case m_InvalidCondition => k_is)
    (case m_NeverMet => k_is)
    (case m_InvalidRule => k_is)
    (case m_InvalidBook => k_is)
    (case m_UnknownRule => k_is)
    (case m_InvalidRuling => k_is)
    (case m_UnknownFact => k_is)
    (case m_NoReason => k_is)
    (case m_TooMany => k_is)
    (case m_InvalidChance => k_is)
    (case m_OtherFacts => k_is)
    (case m_NoNeighbor => k_is)
    (case m_NoFacts => k_is)
    (case m_AlreadyKnown => k_is)
    (case CEbe => k_is)
    (case CEcl => k_is)
    (case CEty => k_is)
    (case u_0 => k_is)
    (case v_0 => k_is)
    (case u_1 => k_is)
    (case v_1 => k_is)
    (case u_2 => k_is)
    (case v_2 => k_is)
    (case u_3 => k_is)
    (case v_3 => k_is)
    (case u_4 => k_is)
    (case v_4 => k_is)
    (case u_5 => k_is)
    (case v_5 => k_is)
    (case u_6 => k_is)
    (case v_6 => k_is)
    (case u_7 => k_is)
    (case v_7 => k_is)
    (case u_8 => k_is)
    (case v_8 => k_is)
    (case u_9 => k_is)
    (case v_9 => k_is)
    (case u_10 => k_is)
    (case v_10 => k_is)
    (case u_11 => k_is)
    (case v_11 => k_is)
    (case u_12 => k_is)
    (case v_12 => k_is)
    (case u_13 => k_is)
    (case v_13 => k_is)
    (case u_14 => k_is)
    (case v_14 => k_is)
    (case u_15 => k_is)
    (case v_15 => k_is)
    (case u_16 => k_is)
    (case v_16 => k_is)
    (case r3_cl => k_is)
    (case r3_ga => k_is)
    (case r3_gt => k_is)
    (case r3_be => k_is)
    (case r3_kc => k_is)
    (case r3_ob => k_is)
    (case r3_hd => k_is)
    (case r3_sC => k_is)
    (case r3_ve => k_is)
    (case r3_k0 => k_is)
    (case r3_k1 => k_is)
    (case r3_k2 => k_is)
    (case r3_k3 => k_is)
    (case r3_k4 => k_is)
    (case r3_k5 => k_is)
    (case r3_k6 => k_is)
    (case r3_k7 => k_is)
    (case r3_k8 => k_is)
    (case r3_k9 => k_is)
    (case r3_k10 => k_is)
    (case r3_k11 => k_is)
    (case r3_k12 => k_is)
    (case r3_k13 => k_is)
    (case r3_k14 => k_is)
    (case r3_k15 => k_is)
    (case r3_k16 => k_is)
    (case r3_n_index => k_is)
    (case r3_n_part => k_is)
    (case r3_n_word => k_is)
    (case r3_n_fact => k_is)
    (case sg => k_is)
    (case tk => k_is)
    (case x_E => k_is)
    (case f_E => k_is)
    (case noS => k_is)
    (case opq => k_is)
    (case i3_x => k_is)
    (case i3_rv => decide +kernel)
    (case i3_sa => k_is)
    (case i3_ty => k_is)
    (case i3_kC => k_is)
    (case i3_in => k_is)
    (case i3_tI => k_is)
    (case i3_lI => k_is)
    (case i3_cI => k_is)
    (case i3_ce => k_is)
    (case i3_co => k_is)
    (case i3_fi => exact rfl)
    (case i3_fe => decide +kernel)
    (case i3_sb => k_is)
    (case i3_bm => exact rfl)
    (case i3_vB => k_is)
    (case i3_bE => k_is)
    (case i3_f_part => k_is)
    (case i3_f_index => k_is)
    (case tbl => k_is)
    (case tb0 => decide +kernel)
    (case tb1 => exact Y.2 _ (List.mem_singleton.mpr rfl))
    (case tb2 => exact Sc.lookup_no (by kernel_rfl))
    (case top0 => decide +kernel)
