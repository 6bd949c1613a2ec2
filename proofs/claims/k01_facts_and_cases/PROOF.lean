import PyProof.Rows.All
import Wide.All
import OpenK.AllK
import Wide.FinOn
import KE.KExcSuper
import HandS.Nested
import HandS.ExcInit
import HandS.FStr
import KE.GoesMore
import HandS.Iter
import HandS.ForMost
import HandS.ForExc
import HandS.EndTab
import HandS.IsInst
import HandS.SetFor
import HandS.ExcIs
import HandS.ExcField
import HandS.TupAny
import HandS.Wide
import HandS.WideBits
import HandS.Walk
import HandS.Deep
import KE.KExcIs
import PySem.Challenge.RW_smallcourt_k01_facts_and_cases
import HandS.Style
set_option Elab.async false
set_option linter.all false
set_option maxRecDepth 100000
set_option maxHeartbeats 4000000
namespace Sc
open PySem PySem.Spec PySem.Calls PyProof.Rows L2 NdefX
/-! ### super().__init__(..) in an own error's __init__ -/
/-- what the written part tells for super() in the __init__ of the class at C: cc its cell, cda the code object of __init__ -/
structure SupC (prog : Program) (K : PySem.W.Frag) (mg : Str → Option Value) (C cc cda : Addr) : Prop where
  cell : ∃ cl cld csl, K.lookup cc = some ⟨cl, cld, .cell (some (.ref C)), csl⟩
  code : ∃ ccl cdd vs ccs file tf, K.lookup cda = some ⟨ccl, cdd, .fields vs, ccs⟩ ∧ vs[2]? = some (.str file tf) ∧ ((prog.main.file : Str) == file) = true
  sub : PySem.W.mroIn K C (.ref C) = some true
  noS : mg "super" = none
  opq : PySem.W.nsIn K cStatics "thirdparty.any" = some none
  up : PySem.W.ks_superIn K C C "__init__" = some (some (.builtin "ValueError.__init__"))
  isB : PySem.W.subIn K (.ref C) (.type "ValueError") = some true
  top : (prog.main.scope.names.lookup ("super" : Str)).isSome = false
section
variable {X : Cx} {pins : List (Addr × Obj)} {σ : L2.St} {H : Hp} {s : Shared} {a C cc cda f : Addr}
theorem sup_bound {u : Addr} {us : List Value} {A : Around} {E : Value → Shared → Prop} {Q : Value → Shared → Prop} (T : OexC X.K C) (I : Inv X pins σ H s) (e : H a = some (exo a C none)) (hu : s.heap.get? u = some (PySem.W.kxs_mw "ValueError.__init__" a)) (hl : us.length ≤ sizeLine)
    (h : ∀ s', Inv X pins σ H s' → Q .none s') : wpAny (model X.prog X.w) A (call (.ref u) us) Q E s := by
  obtain ⟨nm, q, N, bs, bm, sn, sub, ab, col, dd, k0, k1, k2, k3, k5, hC, hbm⟩ := T.cls
  obtain ⟨t1, ho⟩ := exo_at I.hok e
  have hC' := I.kIn _ _ hC
  obtain ⟨hp, g, d, tk, os⟩ := s
  refine wpAny_call (codeAny_of_tree ?_)
  show wpAny _ A.in1 (callAny (.ref u) ⟨us, []⟩) _ _ _
  simp only [callAny]
  refine wpAny_bind (wpAny_load hu ?_)
  have b1 : (Value.type "method-wrapper" == Value.type "method" || Value.type "method-wrapper" == Value.type "builtin_function_or_method" || Value.type "method-wrapper" == Value.type "method-wrapper") = true := by decide
  simp only [PySem.W.kxs_mw, b1, if_true]
  refine PySem.W.KFB.if_so (by decide) (wpAny_bind (PySem.W.check_bound_init PySem.F.excBase_ValueError.toExcCallFacts hC' ho rfl (wpAny_bind (wpAny_pure (wpAny_pure ?_)))))
  refine ⟨plainId_quiet PySem.F.excBase_ValueError.init.plain _, codeAny_builtin PySem.F.excBase_ValueError.initEntry ?_⟩
  refine PySem.W.exc_init_tree (cls := .ref C) (t0 := t1) (dv := none) (c2 := .none) (c3 := .none) (b4 := .bool false) ho hl fun h' k hx _ => ?_
  have J := I.write (t' := tk) (x := a) (e := a) (o := exo a C none) (by rw [e]; exact True.intro) (.inl rfl) k ⟨_, hx⟩ (exo_ok hx)
  have eu : upd H a (exo a C none) = H := funext fun b => by
    by_cases hb : b = a
    · rw [hb, upd_same, e]
    · rw [upd_ne hb]
  rw [eu] at J
  exact h _ J
theorem at_super {pl : Sem Bool} {body : List Stmt} {e : Expr} {es : List Expr} {ta : TA} {D : Ends} {p0 p1 p2 p3 p4 : Pos} {fd : FuncData} {ar : Arg} {oc : Value} {od : Option Addr} {osl : Array (Option Value)}
    (T : OexC X.K C) (S : SupC X.prog X.K X.mg C cc cda) (hks : X.env.kindOf "super" = some .globalImplicit) (hkc : X.env.kindOf "__class__" = some .free) (hcl : X.env.cells.lookup ("__class__" : Str) = some cc)
    (hfu : X.env.func = some f) (hco : X.env.code = .ref cda) (lk : X.K.lookup f = some ⟨oc, od, .func fd, osl⟩) (hp : (fd.params.posonlyargs ++ fd.params.args).head? = some ar) (hN0 : X.N[0]? = some ar.arg) (hka : X.env.kindOf ar.arg = some .local)
    (hA : PA X (e :: es) ta) (I : Inv X pins σ H s) (hσ : σ[0]? = some (some (.ref a))) (ha : H a = some (exo a C none)) (q : ta σ H fun vs H1 => vs.length ≤ 1000 ∧ H1 a = some (exo a C none) ∧ D.nx σ H1)
    (he : starEach (e :: es) X.env = (false, eval e X.env) :: starEach es X.env := by rfl) (hpl : (backTo p3 (starEach es X.env)).any (·.1) = false := by rfl) (hi : interactive X.env = false := by rfl)
    (hev : eval (.Call (.Attribute (.Call (.Name "super" p0) [] [] p1) "__init__" p2) (e :: es) [] p3) X.env = (do
      let ov ← attributeBase (.Call (.Name "super" p0) [] [] p1) "__init__" X.env (eval (.Call (.Name "super" p0) [] [] p1) X.env)
      standAt p2.atName
      let (g, first) ← holding [ov] (getMethod ov "__init__" pl)
      callWith p3 g first (backTo p3 (starEach (e :: es) X.env)) []) := by rfl) (hsw : swapsWith (.Call (.Attribute (.Call (.Name "super" p0) [] [] p1) "__init__" p2) (e :: es) [] p3) none p4.line X.env = pure false := by rfl) :
    PySem.wpAt (model X.prog X.w) X.A (.func body X.env) (exec (.Expr (.Call (.Attribute (.Call (.Name "super" p0) [] [] p1) "__init__" p2) (e :: es) [] p3) p4) X.env) (SP X pins D) X.xe s := by
  obtain ⟨cl, cld, csl, hcell⟩ := S.cell
  obtain ⟨ccl, cdd, vs, ccs, file, tf, hcode, hvs, hfile⟩ := S.code
  have KX := I.kIn
  refine ks_wpAt_Expr_any (ks_wpAt_MethodCall (pl := pl) ?_ hev) hi hsw
  refine ks_wpAt_super_base hks hkc (by decide) hfu (KX _ _ lk) rfl hp hco (KX _ _ hcode) rfl hvs hfile S.top ?_
  obtain ⟨mb, b1, b2⟩ := I.mod.blt
  refine PySem.W.ks_loadName_global I.ok.kind hks (Calls.loadGlobal_builtin (v := .type "super") (by rw [I.ok.glob]; exact I.mod.glob.keeps I.bk) S.noS (by rw [I.ok.blt]; exact b1.keeps I.bk) ((b2 _ (by decide +kernel)).trans (by decide +kernel)) ⟨rfl, ?_⟩)
  refine wpAny_loadName_free I.ok.kind hkc hcl ⟨_, KX _ _ hcell, rfl⟩ ?_
  obtain ⟨m, hn, hloc⟩ := I.loc
  obtain ⟨u, ru, hlook⟩ := hloc 0 ar.arg (.ref a) hN0 hσ (.inl hka)
  obtain rfl : u = Value.ref a := ru
  have hm : m ar.arg = some (.ref a) := by
    rcases hlook with ⟨_, z⟩ | ⟨z, _⟩
    · exact z
    · rcases z with z | z <;> rw [show X.env.kindOf ar.arg = _ from hka] at z <;> cases z
  refine wpAny_loadName_local I.ok.kind hka hn hm ?_
  obtain ⟨nm, qn, N, bs, bm, sn, sub, ab, col, dd, k0, k1, k2, k3, k5, hC, hbm⟩ := T.cls
  have hcls : PySem.W.clsIn X.K C = some { name := nm, bases := bs, mro := .ref C :: bm, ns := N, qualname := qn, hasDict := true, slotNames := sn, subclasses := sub, abstract := ab, collection := col, hasDel := false } := by unfold PySem.W.clsIn; rw [hC] <;> rfl
  obtain ⟨t1, ho⟩ := exo_at I.hok ha
  have hC' := KX _ _ hC
  have ex := S.up
  unfold PySem.W.ks_superIn at ex
  rw [hcls] at ex
  obtain ⟨hp', g, d, tk, os⟩ := s
  refine ks_wpAny_isType_cls hC' rfl ⟨rfl, ?_⟩
  refine ks_wpAny_call_super hC' rfl ho rfl (fun c z => nomatch z) (PySem.W.looks_mroIn KX S.sub) (fun h' e1 k => ?_)
  have I1 : Inv X pins σ H ⟨h', g, d, tk, os⟩ := I.kept (t' := tk) k
  have IA : PySem.W.InstAt h' a { cls := .ref C, dict := none, data := .fields #[.ref t1, .none, .none, .none, .bool false, .none] } C none := ⟨k _ _ ho, rfl, rfl, trivial⟩
  have hIs : PySem.W.Looks (model X.prog X.w) h' (isInstance (.ref a) (.type "ValueError")) true := IA.type.andThen (PySem.W.looks_subIn I1.kIn S.isB)
  refine PySem.W.kxs_getMethod PySem.W.kxs_ValueError e1 (PySem.W.looks_opaque I1.kIn S.opq) (l₀ := .ref C :: bm) (fun A Q E s k q => wpAny_bind ((PySem.W.looks_clsIn I1.kIn hcls) A _ E s k (wpAny_pure q))) rfl I1.kIn ex hIs (PySem.W.ks_ne I1.kIn IA hcls) (by decide) ?_
  have I2 : Inv X pins σ H ⟨h'.push (PySem.W.kxs_mw "ValueError.__init__" a), g, d, tk + 1, os⟩ := I1.kept (t' := tk + 1) fun b o z => Heap.get?_push_of_some _ z
  have hu : (h'.push (PySem.W.kxs_mw "ValueError.__init__" a)).get? h'.objs.size = some (PySem.W.kxs_mw "ValueError.__init__" a) := Heap.get?_push_at rfl rfl
  have hun : H h'.objs.size = none := I1.hok.fresh (Nat.le_refl _)
  have hunf : h'.objs.size ∉ X.fs ∧ h'.objs.size ≠ X.env.locals := ⟨I1.nofs (Nat.le_refl _), fun z => Nat.lt_irrefl _ (by have := I1.lt; rw [← z] at this; exact this)⟩
  have I3 : Inv X ((h'.objs.size, PySem.W.kxs_mw "ValueError.__init__" a) :: pins) σ H ⟨h'.push (PySem.W.kxs_mw "ValueError.__init__" a), g, d, tk + 1, os⟩ := I2.pins_of fun p hp => by
    rcases List.mem_cons.mp hp with rfl | hp
    · exact ⟨hu, hun, hunf.2, hunf.1, fun v z => nomatch z⟩
    · exact I2.pin p (List.mem_append_right _ hp)
  rw [he]
  refine PySem.W.kxs_callWith (i := "ValueError.__init__") (x := a) (first := []) (by show (false || (backTo p3 (starEach es X.env)).any (·.1)) = false; rw [hpl]; rfl) (evalArgs_plain ?_)
  show wpAny _ _ (spliced (backTo p3 ((false, eval e X.env) :: starEach es X.env))) _ _ _
  rw [← he]
  refine thn (hA.run p3 _ _ σ H _ I3 q) fun us s1 ⟨vs, H1, I4, r1, hl, e4, q4⟩ => ?_
  have I5 : Inv X pins σ H1 s1 := I4.pins_of fun p hp => I4.pin p (List.mem_append_right _ (.tail _ hp))
  have hu4 := (I4.pin _ (List.mem_append_right _ List.mem_cons_self)).1
  refine ⟨hu4, ?_⟩
  refine sup_bound T I5 e4 hu4 (by show us.length ≤ sizeLine; rw [← Paired.length r1, sizeLine_eq]; omega) fun s' J => ?_
  exact ⟨σ, H1, J, q4⟩
end
/-! ### the __init__ as a def -/
/-- the reading of a body that begins with super().__init__(e ..) -/
def tInit (C : Addr) (ta : TA) (tr : TS) : TS := fun D σ H => ∃ a : Addr, σ[0]? = some (some (.ref a)) ∧ H a = some (exo a C none) ∧ ta σ H fun vs H1 => vs.length ≤ 1000 ∧ H1 a = some (exo a C none) ∧ tr D σ H1
section
variable {P : Program} {w : World} {K : PySem.W.Frag} {mg : Str → Option Value} {base : Heap} {N ps : List Str} {F : NF} {f C cc : Addr} {k : Nat} {sp : Sp} {kV doc pm ct oc : Value} {an od : Option Addr} {osl : Array (Option Value)}
/-- the def's data as it stands -/
abbrev supFd (F : NF) (kV doc pm : Value) (an : Option Addr) (ct : Value) : FuncData := PySem.W.fnX F.name F.qual F.params F.body F.scope F.cl .none kV doc pm an (.ref F.c) ct
theorem fn_sup {e : Expr} {es : List Expr} {rest : List Stmt} {ar : Arg} {p0 p1 p2 p3 p4 : Pos} (lk : K.lookup f = some ⟨oc, od, .func (supFd F kV doc pm an ct), osl⟩) (hcd : PySem.W.codeIn K (.ref F.c) F.qual = true) (hcl : F.cl = [(("__class__" : Str), cc)])
    (SC : NScope N ps ["__class__"] F.scope) (T : OexC K C) (S : SupC P K mg C cc F.c) (len : ∀ vs H Q E, sp vs H Q E → vs.length = ps.length)
    (hbd : F.body = .Expr (.Call (.Attribute (.Call (.Name "super" p0) [] [] p1) "__init__" p2) (e :: es) [] p3) p4 :: rest)
    (hp : (F.params.posonlyargs ++ F.params.args).head? = some ar) (hN0 : N[0]? = some ar.arg) (hka : F.scope.names.lookup ar.arg = some .local) (hks : F.scope.names.lookup ("super" : Str) = some .globalImplicit)
    (hbody : ∀ (A : Around) (outer : List Env) (s : Shared) (H : Hp) (vs : List V) (Q : VK) (E : XK), Room k (A.deeper (envF F f s.heap.objs.size)) → sp vs H Q E →
      ∃ ta tr, PA (ncx CX0 P w K mg base N F f A outer s H E) (e :: es) ta ∧ PSs (ncx CX0 P w K mg base N F f A outer s H E) rest tr ∧ tInit C ta tr { nx := fun _ H' => Q .non H', rt := Q } (startF N vs [none]) H)
    (hev : ∀ L, ∃ pl, eval (.Call (.Attribute (.Call (.Name "super" p0) [] [] p1) "__init__" p2) (e :: es) [] p3) (envF F f L) = (do
      let ov ← attributeBase (.Call (.Name "super" p0) [] [] p1) "__init__" (envF F f L) (eval (.Call (.Name "super" p0) [] [] p1) (envF F f L))
      standAt p2.atName
      let (g, first) ← holding [ov] (getMethod ov "__init__" pl)
      callWith p3 g first (backTo p3 (starEach (e :: es) (envF F f L))) []))
    (hsw : ∀ L, swapsWith (.Call (.Attribute (.Call (.Name "super" p0) [] [] p1) "__init__" p2) (e :: es) [] p3) none p4.line (envF F f L) = pure false) (he : ∀ L, starEach (e :: es) (envF F f L) = (false, eval e (envF F f L)) :: starEach es (envF F f L))
    (hpl : ∀ L, (backTo p3 (starEach es (envF F f L))).any (·.1) = false) (hi : ∀ L, interactive (envF F f L) = false) :
    FnOk P w K mg base CX0 (k + 1) f (supFd F kV doc pm an ct) ps sp := by
  refine ⟨len, fun A outer s H args us vs Q E hr e0 hb r hsp => ?_⟩
  have hl := len _ _ _ _ hsp
  have KX : K.In s.heap := e0.mod.kin.keeps fun b o e => (e0.bs b o e).1
  have lim : s.heap.NoLimit := e0.mod.nolimit.keeps fun b o e => (e0.bs b o e).1
  obtain ⟨cl, cld, csl, hcell⟩ := S.cell
  have hcH : H cc = none := by
    have z := e0.mod.kin _ _ hcell
    exact (e0.bs _ _ z).2
  have CA : CellsAt F.cl ["__class__"] [none] s.heap H := by
    rw [hcl]
    refine ⟨rfl, fun y c h => ?_, fun x y c h1 h2 => ?_, fun i y h => ?_⟩
    · have q : y = ("__class__" : Str) ∧ c = cc := by
        simp only [List.lookup] at h
        split at h
        · rename_i z; exact ⟨by simpa using z, (Option.some.inj h).symm⟩
        · cases h
      rw [q.2]
      exact ⟨hcH, some (.ref C), ⟨_, KX _ _ hcell, rfl⟩⟩
    · have q : ∀ z, List.lookup z [(("__class__" : Str), cc)] = some c → z = ("__class__" : Str) := fun z h => by
        simp only [List.lookup] at h
        split at h
        · rename_i z; simpa using z
        · cases h
      rw [q x h1, q y h2]
    · cases i with
      | zero =>
        have q : y = ("__class__" : Str) := (Option.some.inj h).symm
        subst q
        exact ⟨cc, by simp [List.lookup], fun v z => by cases z⟩
      | succ i => simp at h
  refine ks_codeAny_call_defAt (fd := supFd F kV doc pm an ct) (body := F.body) (binds := ps.zip us) hr.depth (KX _ _ lk) rfl lim (PySem.W.codeRec_of KX hcd) rfl hb SC.nocell (fun ⟨n, _⟩ hy => SC.par n (List.of_mem_zip hy).1) (fun h₁ hns kp => ?_) SC.co SC.gen SC.kind
  obtain ⟨ta, tr, hta, htr, a, hσ, ha, q⟩ := hbody A outer s H vs Q E (hr.deeper _) hsp
  have I : Inv (ncx CX0 P w K mg base N F f A outer s H E) [] (startF N vs [none]) H { s with heap := h₁, toks := s.toks + (ps.zip us).length } := inv_startN SC hr.hd e0 hl r CA hns kp
  obtain ⟨pl, hev⟩ := hev s.heap.objs.size
  have fin : ∀ {s' : Shared} {σ' : L2.St} {H' : Hp} {v : V} {u : Value}, Inv (ncx CX0 P w K mg base N F f A outer s H E) [] σ' H' s' → L2.RelV v u → Q v H' → CE outer P w H s Q u s' :=
    fun {s' σ' H' v u} J rv q => ⟨v, H', J.os, J.bare, J.base, J.hok, rv, q⟩
  rw [hbd]
  refine ks_wpAt_execs_cons (ks_wpAt_mono (at_super (X := ncx CX0 P w K mg base N F f A outer s H E) (D := { nx := fun σ' H' => tr { nx := fun _ H' => Q .non H', rt := Q } σ' H', rt := fun _ _ => False }) (pl := pl) (f := f) (ar := ar) (fd := supFd F kV doc pm an ct) T S hks (SC.frk _ List.mem_cons_self) (by show F.cl.lookup _ = _; rw [hcl]; simp [List.lookup]) rfl rfl lk hp hN0 hka hta I hσ ha q (he _) (hpl _) (hi _) hev (hsw _)) (fun fl s' hs => ?_) fun _ _ z => z)
  cases fl with
  | ret u =>
    obtain ⟨_, _, _, _, _, z⟩ := hs
    exact z.elim
  | brk =>
    obtain ⟨_, _, _, z⟩ := hs
    exact z.elim
  | cont =>
    obtain ⟨_, _, _, z⟩ := hs
    exact z.elim
  | next =>
    obtain ⟨σ', H', J, z⟩ := hs
    refine PySem.wpAt_of_wpAny (wpAny_mono (htr.run [] s' σ' H' _ J z) (fun fl2 s2 h2 => ?_) fun _ _ y => y)
    cases fl2 with
    | ret u =>
      obtain ⟨v, σ2, H2, J2, rv, q2⟩ := h2
      exact fin J2 rv q2
    | next =>
      obtain ⟨σ2, H2, J2, q2⟩ := h2
      exact fin (v := V.non) (u := Value.none) J2 rfl q2
    | brk =>
      obtain ⟨_, _, _, q2⟩ := h2
      exact q2.elim
    | cont =>
      obtain ⟨_, _, _, q2⟩ := h2
      exact q2.elim
end
end Sc
namespace Sc
open PySem PySem.Spec PySem.Calls PyProof.Rows L2
/-! ### enumerate(tuple) -/
theorem enumT_new (l : Addr) (items : Array Value) (n : Nat) (dct : Option Addr) (sl : Array (Option Value)) :
    Meets (Builtin.«enumerate.__new__» ⟨[.type "enumerate", .ref l], []⟩) (fun _ R s =>
      s.heap.get? l = some { cls := .type "tuple", dict := dct, data := .seq items n, slots := sl } ∧
      R (.ok (.ret (.ref (s.heap.objs.size + 1)))) { s with heap := (s.heap.push { cls := .type "tuple_iterator", data := .fields #[.ref l, .int 0 0] }).push { cls := .type "enumerate", data := .fields #[.none, .bool false, .ref s.heap.objs.size, rawInt 0, .none, .none] } }) :=
  .of_wp fun prog w A R s h => by
    obtain ⟨hp, g, d, tk, os⟩ := s
    obtain ⟨hl, hR⟩ := h
    have hsub := sub_enumerate
    have hT : Heap.IsTuple hp l items := ⟨_, hl, rfl, n, rfl⟩
    have hz : (hp.push { cls := .type "tuple_iterator", data := .fields #[.ref l, .int 0 0] }).objs.size = hp.objs.size + 1 := Heap.size_push ..
    rw [← hz] at hR
    have it1 : ∀ {A' : Around} {E : Value → Shared → Prop} {Q : Value → Shared → Prop}, Q (.ref hp.objs.size) ⟨hp.push { cls := .type "tuple_iterator", data := .fields #[.ref l, .int 0 0] }, g, d, tk, os⟩ →
        wpAny (model prog w) A' (pyIter (.ref l)) Q E ⟨hp, g, d, tk, os⟩ := fun q => wpAny_pyIter_tuple (s := ⟨hp, g, d, tk, os⟩) hT q
    wp_walk using AutoSeq1.wpAny_loadPart' hl, it1
    refine wpAny_stack_any fun st => wpAny_pure ?_
    split
    · rename_i c _ _ _ _ _
      cases (c == Value.type "enumerate") <;>
      · wp_walk using AutoSeq1.wpAny_loadPart' hl, it1
        exact ⟨_, rfl, hR⟩
    · wp_walk using AutoSeq1.wpAny_loadPart' hl, it1
      exact ⟨_, rfl, hR⟩
section
variable {prog : Program} {w : World} {A : Around} {E : Value → Shared → Prop} {s : Shared}
theorem enumT_call {l : Addr} {items : Array Value} {Q : Value → Shared → Prop} (hL : s.heap.IsTuple l items)
    (h : ∀ h', IsEnum h' (s.heap.objs.size + 1) s.heap.objs.size 0 .none → h'.IsTupleIter s.heap.objs.size l 0 → (∀ b o, s.heap.get? b = some o → h'.get? b = some o) →
      Q (.ref (s.heap.objs.size + 1)) { s with heap := h' }) : wpAny (model prog w) A (call (.type "enumerate") [.ref l]) Q E s := by
  obtain ⟨⟨c, dct, dt, sl⟩, hl, hc, n, hd⟩ := hL
  dsimp only at hc hd
  subst hc hd
  refine callType_new F.called_enumerate (by decide) (F.typeCall_enumerate_1 _) (F.newCall_enumerate_1 _) (fun obj => F.args_object_init_2 obj _) F.entry_enumerate_new (enumT_new l items n dct sl) ⟨hl, ?_⟩
  have hz : (s.heap.push { cls := .type "tuple_iterator", data := .fields #[.ref l, .int 0 0] }).objs.size = s.heap.objs.size + 1 := Heap.size_push ..
  have he := Heap.get?_push_size (s.heap.push { cls := .type "tuple_iterator", data := .fields #[.ref l, .int 0 0] })
    (o := { cls := .type "enumerate", data := .fields #[.none, .bool false, .ref s.heap.objs.size, rawInt 0, .none, .none] }) rfl
  rw [hz] at he
  exact ⟨⟨_, he, rfl⟩, h _ he ⟨_, Heap.get?_push_of_some _ (Heap.get?_push_size _ rfl), rfl, rfl⟩ fun b o x => Heap.get?_push_of_some _ (Heap.get?_push_of_some _ x)⟩
end
/-- the tuple at a, each item in a new pair -/
def IteT (K : PySem.W.Frag) (a : Addr) : It where
  go := fun i H => ∃ (xs : List V) (x : V), SqT K H a xs ∧ xs[i]? = some x
  yld := fun i H v H' => ∃ T x, v = .ref T ∧ H T = none ∧ H' = upd H T (.tup [.int (i : Nat), x]) ∧ ∀ xs, SqT K H a xs → xs[i]? = some x
  stop := fun i H => ∃ xs : List V, SqT K H a xs ∧ xs.length ≤ i
theorem enumT_turn {P : Program} {w : World} {K : PySem.W.Frag} {elts : List Expr} {kk : Nat} {tpos : Pos} (a e it : Addr) :
    Turn P w K (.Tuple elts kk tpos) (IteT K a) [e, it] e (fun i h => (∃ old, IsEnum h e it ((i : Nat) : Int) old) ∧ h.IsTupleIter it a i ∧ e ≠ it) where
  mem := List.mem_cons_self
  obj := fun i h st b hb => by
    obtain ⟨⟨old, he⟩, ⟨o, ho, hc, hd⟩, _⟩ := st
    rcases List.mem_cons.mp hb with rfl | hb
    · exact ⟨_, he, fun v q => nomatch q⟩
    · rcases List.mem_cons.mp hb with rfl | hb
      · exact ⟨o, ho, fun v q => by rw [hd] at q; cases q⟩
      · cases hb
  keep := fun i h h' st k => by
    obtain ⟨⟨old, he⟩, hi, hne⟩ := st
    exact ⟨⟨old, k e (by simp) _ he⟩, hi.at fun o q => k it (by simp) o q, hne⟩
  item := by
    intro X hP hw hK hc i pins s σ H E I hf st hg
    subst hP hw hK
    obtain ⟨⟨old, he⟩, hit, hne⟩ := st
    obtain ⟨xs, x, hq, hx⟩ := hg
    obtain ⟨its, rv, p, hz⟩ := I.tuple hq
    obtain ⟨u, hu, ru⟩ := rv.get hx
    have hel : e < s.heap.objs.size := Heap.lt_size he
    have hil : it < s.heap.objs.size := by obtain ⟨_, q, _⟩ := hit; exact Heap.lt_size q
    have p' : s.heap.IsTuple a its.toArray := p
    have hae : a ≠ e := fun z => by
      obtain ⟨o, ho, hcl, n, hd⟩ := p'
      rw [z, he] at ho
      cases ho
      cases hd
    have hai : a ≠ it := fun z => by
      obtain ⟨o, ho, hcl, n, hd⟩ := p'
      obtain ⟨o2, ho2, hcl2, hd2⟩ := hit
      rw [z, ho2] at ho
      cases ho
      rw [hd2] at hd
      cases hd
    have hlt : i < its.toArray.size := by
      rw [List.size_toArray]
      exact (List.getElem?_eq_some_iff.mp hu).1
    refine wpAny_pyNext_enum_itemD (Draws.tuple (A := X.A.in1) (I.ok.hd hc) it a hai its.toArray) he ⟨hit, p'⟩ hlt hne (by simp [hne, hae.symm]) fun y h' tk hy ho st' hT hsz hk => ?_
    obtain ⟨hit', hp'⟩ := st'
    have ey : y = u := by
      have z : its.toArray[i]? = some u := by simpa using hu
      rw [hy] at z
      exact Option.some.inj z
    subst ey
    refine ⟨_, rfl, wpAny_letOwnedTupleGo_enum (s := { s with heap := h', toks := tk + 1 }) ho fun h'' he' sb => ?_⟩
    have hT2 : h''.get? s.heap.objs.size = some { cls := .type "tuple", data := .seq #[.int i tk, y] } := (sb.2 _ (Nat.ne_of_gt hel)).trans hT
    have new : ObjOk X.prog X.w (upd H s.heap.objs.size (.tup [.int (i : Nat), x])) h'' s.heap.objs.size (.tup [.int (i : Nat), x]) :=
      ⟨by show 2 ≤ sizeLine; decide, [.int i tk, y], .cons ⟨_, rfl⟩ (.cons ru .nil), ⟨_, hT2, rfl, _, rfl⟩⟩
    have I1 : Inv X pins σ (upd H s.heap.objs.size (.tup [.int (i : Nat), x])) { s with heap := h'', toks := tk + 1 } :=
      I.turnedNew (ch := [e, it]) (fun b ob hb q => (sb.2 b (fun z => hb (by simp [z]))).trans (hk b ob (fun z => hb (by simp [z])) (fun z => hb (by simp [z])) q)) hf (Nat.le_refl _) new
    refine ⟨.ref s.heap.objs.size, _, I1, rfl, ⟨_, x, rfl, I.hok.fresh (Nat.le_refl _), rfl, fun ys hy => by rw [I.tuple_inj hy hq]; exact hx⟩, ⟨⟨y, ?_⟩, hit'.at fun o q => (sb.2 it (Ne.symm hne)).trans q, hne⟩, fun b hb => ?_⟩
    · have e1 : ((i + 1 : Nat) : Int) = (i : Int) + 1 := by omega
      rw [e1]
      exact he'
    · have hb' : b < s.heap.objs.size := by
        rcases List.mem_cons.mp hb with rfl | hb
        · exact hel
        · rcases List.mem_cons.mp hb with rfl | hb
          · exact hil
          · cases hb
      rw [upd_ne (Nat.ne_of_lt hb')]
      exact (hf b hb).1
  done := by
    intro X hP hw hK hc i pins s σ H E I hf st hg
    subst hP hw hK
    obtain ⟨⟨old, he⟩, hit, hne⟩ := st
    obtain ⟨xs, hq, hx⟩ := hg
    obtain ⟨its, rv, p, hz⟩ := I.tuple hq
    obtain ⟨f0, f1, f2, f3, f4, f5⟩ := hf it (by simp)
    have hl := rv.length
    have p' : s.heap.IsTuple a its.toArray := p
    have hai : a ≠ it := fun z => by
      obtain ⟨o, ho, hcl, n, hd⟩ := p'
      obtain ⟨o2, ho2, hcl2, hd2⟩ := hit
      rw [z, ho2] at ho
      cases ho
      rw [hd2] at hd
      cases hd
    have D : Draws X.prog X.w X.A.in1 it [it, a] i (fun _ _ => True) (fun j h => h.IsTupleIter it a j ∧ h.IsTuple a its.toArray ∧ j = i) :=
      { live := fun _ _ st => let ⟨o, ho, _⟩ := st.1; ⟨o, ho⟩
        frame := fun _ _ _ st hk => ⟨st.1.at fun o e => hk it (by simp) o e, st.2.1.at fun o e => hk a (by simp) o e, st.2.2⟩
        item := fun j s Q E hj stj hQ => absurd hj (by rw [stj.2.2]; exact Nat.lt_irrefl i)
        done := fun s Q E stj hE => wpAny_nextOf_tuple_end (I.ok.hd hc) stj.1 stj.2.1 (by simp; omega) hE }
    exact wpAny_pyNext_enum_endD D he ⟨hit, p', rfl⟩ fun h' eb => ⟨rfl, I.turned (t' := s.toks) (fun b o hb q => eb b o hb q) f0 f1 f3 f4 f5⟩
  self := fun A i s Q E st h => by
    obtain ⟨⟨_, he⟩, _⟩ := st
    exact wpAny_pyIter_enum he h
def iEnumT (K : PySem.W.Frag) (ta : TA) : TI := fun σ H R => ta σ H fun vs H1 => ∃ a xs, vs = [.ref a] ∧ SqT K H1 a xs ∧ R (IteT K a) H1
theorem pi_enumT {X : Cx} {e : Expr} {ta : TA} {p pos tpos : Pos} {elts : List Expr} {kk : Nat} (hg : Gl X "enumerate") (hm : X.mg "enumerate" = none) (ha : PA X [e] ta) (hs : starEach [e] X.env = [(false, eval e X.env)] := by rfl) :
    PI X (.Tuple elts kk tpos) (.Call (.Name "enumerate" p) [e] [] pos) (iEnumT X.K ta) := by
  refine ⟨fun pins s σ H R I h => ?_⟩
  refine Call_ (ld_blt I hg hm boot_enumerate (PyProof.Rows.callWith_type1 (thn (ha.run pos pins s σ H _ I h) fun us s1 ⟨vs, H1, I1, r1, a, xs, ex, hq, q⟩ => ?_) hs rfl))
  subst ex
  cases r1 with
  | cons r rr =>
    cases rr
    cases r
    obtain ⟨its, rv, p', hz⟩ := I1.tuple hq
    refine enumT_call (show s1.heap.IsTuple a its.toArray from p') fun h' he hit hk => wpAny_pyIter_enum he ?_
    have I2 : Inv X pins σ H1 { s1 with heap := h' } := I1.kept (t' := s1.toks) hk
    refine ⟨s1.heap.objs.size + 1, [s1.heap.objs.size + 1, s1.heap.objs.size], _, _, H1, rfl, I2, enumT_turn a (s1.heap.objs.size + 1) s1.heap.objs.size, ⟨⟨.none, he⟩, hit, Nat.succ_ne_self _⟩, fun b hb => ?_, q⟩
    have hle : s1.heap.objs.size ≤ b := by
      rcases List.mem_cons.mp hb with rfl | hb
      · exact Nat.le_succ _
      · rcases List.mem_cons.mp hb with rfl | hb
        · exact Nat.le_refl _
        · cases hb
    exact I1.fpOk hle (I1.hok.fresh hle)
end Sc
namespace Sc
open PySem PySem.Spec PyProof.Rows L2
/-- the built-ins are not hidden -/
structure Blt (mg : Str → Option Value) : Prop where
  b_isinstance : mg "isinstance" = none
  b_len : mg "len" = none
  b_all : mg "all" = none
  b_any : mg "any" = none
  b_sum : mg "sum" = none
  b_max : mg "max" = none
  b_min : mg "min" = none
  b_int : mg "int" = none
  b_str : mg "str" = none
  b_bool : mg "bool" = none
  b_list : mg "list" = none
  b_tuple : mg "tuple" = none
  b_dict : mg "dict" = none
  b_range : mg "range" = none
  b_enumerate : mg "enumerate" = none
  b_sorted : mg "sorted" = none
  b_reversed : mg "reversed" = none
  b_zip : mg "zip" = none
  b_set : mg "set" = none
  b_ValueError : mg "ValueError" = none
/-- a def as its callers see it -/
structure Cal (P : Program) (w : World) (K : PySem.W.Frag) (mg : Str → Option Value) (base : Heap) (CX : CXT) (k : Nat) (x : Str) (ps : List Str) (sp : Sp) : Prop where
  ex : ∃ (f : Addr) (fd : FuncData), FnOk P w K mg base CX k f fd ps sp ∧ mg x = some (.ref f) ∧ PySem.W.keepIn K (.ref f) = true ∧ Binds K fd ps []
section
variable {X : Cx} {k : Nat} {x : Str} {ps : List Str} {sp : Sp} {e : Expr} {es : List Expr} {t : TA} {p pos : Pos}
theorem pe_cal (C : Cal X.prog X.w X.K X.mg X.base CX0 k x ps sp) (hr : Room k X.A) (ha : PA X (e :: es) t) (hg : Gl X x := by rfl) (hdb : (x == ("__debug__" : Str)) = false := by decide)
    (he : starEach (e :: es) X.env = (false, eval e X.env) :: starEach es X.env := by rfl) (hpl : (backTo pos (starEach es X.env)).any (·.1) = false := by rfl) : PE X (.Call (.Name x p) (e :: es) [] pos) (tCall sp [] E0 t) := by
  obtain ⟨f, fd, F, hm, hk, hb⟩ := C.ex
  exact pe_call F hr hg hm hk hb .nil pass0 ha hdb he hpl
/-- a def that may raise, where it does not -/
theorem pe_calN (C : Cal X.prog X.w X.K X.mg X.base (L2.CX X.prog X.w) k x ps sp) (hr : Room k X.A) (ha : PA X (e :: es) t) (hg : Gl X x := by rfl) (hdb : (x == ("__debug__" : Str)) = false := by decide)
    (he : starEach (e :: es) X.env = (false, eval e X.env) :: starEach es X.env := by rfl) (hpl : (backTo pos (starEach es X.env)).any (·.1) = false := by rfl) : PE X (.Call (.Name x p) (e :: es) [] pos) (tCall sp [] E0 t) := by
  obtain ⟨f, fd, F, hm, hk, hb⟩ := C.ex
  exact pe_call F hr hg hm hk hb .nil passL ha hdb he hpl
/-- a def that may raise -/
theorem pe_calX {W : WX} (C : Cal X.prog X.w X.K X.mg X.base (L2.CX X.prog X.w) k x ps sp) (hr : Room k X.A) (tk : Takes X W) (ha : PA X (e :: es) t) (hg : Gl X x := by rfl) (hdb : (x == ("__debug__" : Str)) = false := by decide)
    (he : starEach (e :: es) X.env = (false, eval e X.env) :: starEach es X.env := by rfl) (hpl : (backTo pos (starEach es X.env)).any (·.1) = false := by rfl) : PE X (.Call (.Name x p) (e :: es) [] pos) (tCallS sp (WE W) t) := by
  obtain ⟨f, fd, F, hm, hk, hb⟩ := C.ex
  exact pe_callS F hr hg hm hk hb (fun σ => passAt tk σ) ha hdb he hpl
end
/-! ### a reading that does not lean on the state within which it is asked -/
theorem pe_.re {X : Cx} {e : Expr} {t t' : TE} (h : PE X e t) (q : t = t') : PE X e t' := q ▸ h
theorem pts_.re {X : Cx} {es : List Expr} {t t' : TT} (h : PTs X es t) (q : t = t') : PTs X es t' := q ▸ h
theorem pss_.re {X : Cx} {sts : List Stmt} {t t' : TS} (h : PSs X sts t) (q : t = t') : PSs X sts t' := q ▸ h
/-- a value's truth -/
def tTru (K : PySem.W.Frag) (ta : TE) : TT := fun σ H Q => ta σ H fun x H' => ∃ k, TruV K x H' k ∧ Q k H'
theorem pt_tru {X : Cx} {a : Expr} {ta : TE} (ha : PE X a ta) (he : ∀ whole, isTrue a X.env whole = (do let v ← whole; standAt a.pos; holding [v] (truthy v))) : PT X a (tTru X.K ta) := pt_truth ha he
/-! ### lists -/
theorem take_more {α : Type} {l : List α} {i : Nat} {x : α} (h : l[i]? = some x) : l.take (i + 1) = l.take i ++ [x] := by
  rw [List.take_add_one, h]
  rfl
/-! ### heaps -/
theorem _root_.L2.Same.put {H H' : Hp} {p : Addr} {o : HO} (s : Same H H') (n : H p = none) : Same H (upd H' p o) := fun b x e => by
  rw [upd_ne (ne_of_none e n)]
  exact s b x e
theorem _root_.L2.Same.put' {H H' : Hp} {p : Addr} {o : HO} (s : Same H H') (n : H' p = none) : Same H (upd H' p o) := s.put (s.free n)
theorem _root_.L2.Same.tup {K : PySem.W.Frag} {H H' : Hp} {a : Addr} {xs : List V} (e : Same H H') (h : SqT K H a xs) : SqT K H' a xs := by
  rcases h with (h | ⟨o, h⟩) | h
  · exact .inl (.inl (e _ _ h))
  · exact .inl (.inr ⟨o, e _ _ h⟩)
  · exact .inr h
theorem sqT_new {K : PySem.W.Frag} {H : Hp} {p : Addr} {xs : List V} : SqT K (upd H p (.tup xs)) p xs := .inl (.inl upd_same)
theorem sqL_new {K : PySem.W.Frag} {H : Hp} {p : Addr} {xs : List V} : SqL K (upd H p (.lst xs)) p xs := .inl (.inl upd_same)
theorem sqT_of {K : PySem.W.Frag} {H : Hp} {p : Addr} {xs : List V} (h : H p = some (.tup xs)) : SqT K H p xs := .inl (.inl h)
theorem sqL_of {K : PySem.W.Frag} {H : Hp} {p : Addr} {xs : List V} (h : H p = some (.lst xs)) : SqL K H p xs := .inl (.inl h)
/-- a comprehension's list grows -/
theorem grow {H1 H4 : Hp} {D : Addr} {acc : Nat → List V} {i : Nat} {y : V} (nD : H1 D = none) (s : Same H1 H4) (e : H4 D = some (.lst (acc i))) (l : (acc i).length < sizeLine) (n : acc (i + 1) = acc i ++ [y]) :
    ∃ a, H4 D = some (.lst a) ∧ a.length < sizeLine ∧ (Same H1 (upd H4 D (.lst (a ++ [y]))) ∧ (upd H4 D (.lst (a ++ [y]))) D = some (.lst (acc (i + 1)))) :=
  ⟨acc i, e, l, s.put nD, by rw [upd_same, n]⟩
theorem bcase {b : Bool} {A B : Prop} (h1 : b = true → A) (h2 : b = false → B) : if b = true then A else B := by
  cases b with
  | true => exact iteT (h1 rfl)
  | false => exact iteF (h2 rfl)
/-- isinstance(x, T), T a built-in class -/
def rIsT (K : PySem.W.Frag) (T : String) : List V → Hp → VK → Prop := fun xs H Q => ∃ (x : V) (t : String) (b : Bool), xs = [x, .ty T] ∧ TyOf K H x (.type t) ∧ kitB t T = some b ∧ Q (.bl b) H
theorem call_isT {X : Cx} (T : String) : CallR X (.builtin "isinstance") (rIsT X.K T) := by
  intro pins s σ H xs us Q I r h
  obtain ⟨x, t, b, ex, ht, hb, q⟩ := h
  exact call_isi pins s σ H xs us Q I r ⟨_, _, _, _, _, ex, .ty _, .base ht, kit_ty hb, q⟩
/-- a comprehension without a test -/
theorem yes_ {σ : L2.St} {H : Hp} {A : Hp → Prop} {B : Hp → Prop} (h : A H) : tYes σ H fun b H3 => if b = true then A H3 else B H3 := by
  show (if true = true then A H else B H)
  rw [if_pos rfl]
  exact h
/-- as many slots as names -/
theorem takes_len {X : Cx} {W : WX} (tk : Takes X W) : Takes X (fun cls d σ H => σ.length = X.N.length → W cls d σ H) := fun u s' ⟨a, B, sI, pins, σ, H, cls, d, e, I, nb, up, sky, na, os, ag, w⟩ =>
  tk u s' ⟨a, B, sI, pins, σ, H, cls, d, e, I, nb, up, sky, na, os, ag, w I.len⟩
/-! ### walks -/
theorem walk_enumT {K : PySem.W.Frag} {a : Addr} {xs : List V} : Walk (IteT K a) xs.length (fun H => SqT K H a xs) (YPair (fun i => some (.int (i : Nat))) (fun i => xs[i]?)) := by
  refine ⟨fun i _ hi q => ⟨xs, xs[i], q, by simp [hi]⟩, fun _ q => ⟨xs, q, Nat.le_refl _⟩, fun i H v H' _ q y => ?_⟩
  obtain ⟨T, x, h1, h2, h3, h4⟩ := y
  exact ⟨T, .int (i : Nat), x, h1, h2, h3, rfl, h4 xs q⟩
/-! ### list.count of truth values -/
section
variable {X : Cx}
theorem countP_eqU {x : V} : ∀ {xs : List V} {us : List Value}, Vals xs us → xs.all flatV = true → us.countP (eqU x) = xs.countP fun y => eqV y x
  | _, _, .nil, _ => rfl
  | y :: xs, u :: us, .cons r t, f => by
    rw [List.all_cons, Bool.and_eq_true] at f
    rw [List.countP_cons, List.countP_cons, eqU_of r f.1, countP_eqU t f.2]
def rCount (K : PySem.W.Frag) : V → List V → Hp → VK → Prop := fun x xs H Q => ∃ (p : Addr) (ys : List V) (y : V), x = .ref p ∧ xs = [y] ∧ SqL K H p ys ∧ flatV y = true ∧ ys.all flatV = true ∧ Q (.int (ys.countP (fun z => eqV z y) : Nat)) H
theorem mt_lcountB : MtR X "list.count" (rCount X.K) := by
  intro pins s σ H x xs v us Q I rx rxs h
  obtain ⟨p, ys, y, rfl, rfl, hs, fy, fys, q⟩ := h
  cases rx
  cases rxs with
  | cons ry rt =>
    rename_i uy ut
    cases rt
    obtain ⟨its, rv, ⟨⟨cls, dd, data, sl⟩, n, ho, hc, hdn, hd⟩, hlen⟩ := I.list hs
    simp only at hc hd
    subst hc hd
    refine call_meets PySem.F.slot_list_count ⟨_, ho, rfl⟩ PySem.F.entry_list_count (PySem.F.args_list_count_2 _ _)
      (SeqAt.list_countAt p its.toArray n dd sl uy (eqU y)) ⟨ho, fun u' hu' => mem_eqAt ry fy rv fys u' (by simpa using hu'), ?_⟩
    have ec : its.toArray.toList.countP (eqU y) = ys.countP fun z => eqV z y := countP_eqU rv fys
    refine ⟨.int (ys.countP (fun z => eqV z y) : Nat), H, I.tok _, ⟨s.toks, ?_⟩, q⟩
    show Value.int ((its.toArray.toList.countP (eqU y) : Nat) : Int) s.toks = Value.int ((ys.countP (fun z => eqV z y) : Nat) : Int) s.toks
    rw [ec]
end
/-! ### the caught error, whatever it bears -/
/-- an own class of errors, as isinstance and the reading of a field ask for it -/
structure ErrC (K : PySem.W.Frag) (D : Addr) : Prop where
  cl : (PySem.W.clsIn K D).isSome = true
  ga : PySem.W.findIn K (.ref D) "__getattribute__" = some (some (.builtin "BaseException.__getattribute__"))
  gt : PySem.W.findIn K (.ref D) "__getattr__" = some none
  be : PySem.W.subIn K (.ref D) (.type "BaseException") = some true
  kc : PySem.W.findIn K (.ref D) "__class__" = some (some (.builtin "object.__class__"))
  sg : PySem.W.specialIn K (.builtin "object.__class__") "__get__" = some (some (.builtin "getset_descriptor.__get__"))
  tk : PySem.W.takesIn K (.builtin "object.__class__") = some true
  ob : PySem.W.mroIn K D (.type "object") = some true
  hd : PySem.W.hasDictIn K D = true
def errB (K : PySem.W.Frag) (D : Addr) : Bool :=
  (PySem.W.clsIn K D).isSome && (decide (PySem.W.findIn K (.ref D) "__getattribute__" = some (some (.builtin "BaseException.__getattribute__"))) && (decide (PySem.W.findIn K (.ref D) "__getattr__" = some none) &&
  (decide (PySem.W.subIn K (.ref D) (.type "BaseException") = some true) && (decide (PySem.W.findIn K (.ref D) "__class__" = some (some (.builtin "object.__class__"))) &&
  (decide (PySem.W.specialIn K (.builtin "object.__class__") "__get__" = some (some (.builtin "getset_descriptor.__get__"))) && (decide (PySem.W.takesIn K (.builtin "object.__class__") = some true) &&
  (decide (PySem.W.mroIn K D (.type "object") = some true) && PySem.W.hasDictIn K D)))))))
theorem errC_of {K : PySem.W.Frag} {D : Addr} (h : errB K D = true) : ErrC K D := by
  unfold errB at h
  simp only [Bool.and_eq_true, decide_eq_true_eq] at h
  obtain ⟨h1, h2, h3, h4, h5, h6, h7, h8, h9⟩ := h
  exact ⟨h1, h2, h3, h4, h5, h6, h7, h8, h9⟩
section
variable {X : Cx} {a : Addr} {cls : Value} {oe : Obj} {pn : List (Addr × Obj)} {d : Option Addr}
theorem err_inst {D : Addr} {h : Heap} (hz : Zc (.ref D) d oe) (hf : ∃ vs, oe.data = .fields vs) (hget : h.get? a = some oe) (hd : ∀ dd, d = some dd → ∃ od, h.get? dd = some od) : ∃ od, PySem.W.InstAt h a oe D od := by
  obtain ⟨oc, odd, oda, osl⟩ := oe
  obtain ⟨h1, h2⟩ := hz
  obtain ⟨vs, hv⟩ := hf
  dsimp only at h1 h2 hv
  subst h1 h2 hv
  cases odd with
  | none => exact ⟨none, hget, rfl, rfl, trivial⟩
  | some dd =>
    obtain ⟨od, ho⟩ := hd dd rfl
    exact ⟨some od, hget, rfl, rfl, ho⟩
/-- its dict stands, where it has one -/
def XdOk (d : Option Addr) (H : Hp) : Prop := ∀ dd, d = some dd → ∃ fs, H dd = some (.xd fs)
def rIsG (K : PySem.W.Frag) (a : Addr) (cls : Value) (d : Option Addr) : List V → Hp → VK → Prop := fun xs H Q =>
  ∃ (D : Addr) (c : V) (cv : Value) (b : Bool), cls = .ref D ∧ ErrC K D ∧ XdOk d H ∧ xs = [.ref a, c] ∧ (∀ u, RelV c u → u = cv) ∧ PySem.W.kitOne K (.ref D) cv = some b ∧ Q (.bl b) H
theorem call_isG (hz : Zc cls d oe) (hf : ∃ vs, oe.data = .fields vs) : CallR (X.suite a ((a, oe) :: pn)) (.builtin "isinstance") (rIsG X.K a cls d) := by
  intro pins s σ H xs us Q I r h
  obtain ⟨D, c, cv, b, ec, C, hx, rfl, hcv, e, q⟩ := h
  subst ec
  obtain ⟨u1, u2, rfl, r1, r2⟩ := vals2 r
  obtain rfl : u1 = Value.ref a := r1
  have e2 := hcv _ r2
  subst e2
  obtain ⟨hget, _⟩ := I.pin (a, oe) (List.mem_append_left _ List.mem_cons_self)
  obtain ⟨od, J⟩ := err_inst (h := s.heap) hz hf hget fun dd ed => by
    obtain ⟨fs, e⟩ := hx dd ed
    obtain ⟨mA, ⟨o, _, _, ho, _⟩, _⟩ := (show ObjOk X.prog X.w H s.heap dd (.xd fs) from I.hok dd _ e)
    exact ⟨o, ho⟩
  exact PySem.W.kia_one (PySem.W.kitx_exc C.cl C.ga C.gt C.be C.kc C.sg C.tk C.ob) I.kIn J e (fun z => nomatch z) fun tk => ⟨.bl b, H, I.kept (t' := tk) fun _ _ z => z, rfl, q⟩
/-- e.n, e the error that the suite holds -/
def tXg (K : PySem.W.Frag) (a : Addr) (cls : Value) (d : Option Addr) (n : Str) (te : TE) : TE := fun σ H Q => te σ H fun x H1 => x = .ref a ∧ ∃ (D dd : Addr) (fs : List (Str × V)) (v : V), cls = .ref D ∧ ErrC K D ∧ PySem.W.findIn K (.ref D) n = some none ∧ d = some dd ∧ H1 dd = some (.xd fs) ∧ fs.lookup n = some v ∧ Q v H1
theorem pe_xg {e : Expr} {te : TE} {pos : Pos} {n : Str} (hz : Zc cls d oe) (hf : ∃ vs, oe.data = .fields vs) (he : PE (X.suite a ((a, oe) :: pn)) e te) (hb : attributeBase e n X.env (eval e X.env) = eval e X.env := by rfl) :
    PE (X.suite a ((a, oe) :: pn)) (.Attribute e n pos) (tXg X.K a cls d n te) := by
  refine ⟨fun pins s σ H Q I h => attr_of hb (thn (he.run pins s σ H _ I h) fun u s1 hh => ?_)⟩
  obtain ⟨x, H1, I1, rx, ex, D, dd, fs, v, ec, C, hno, ed, ea, l, q⟩ := hh
  subst ex ec ed
  obtain rfl : u = Value.ref a := rx
  obtain ⟨ha, _⟩ := I1.pin (a, oe) (List.mem_append_left _ List.mem_cons_self)
  obtain ⟨vs, hd⟩ := hf
  obtain ⟨mA, hns, hr⟩ := (show ObjOk X.prog X.w H1 s1.heap dd (.xd fs) from I1.hok dd _ ea)
  obtain ⟨od, ho, hl⟩ := lookIn_ns hns
  obtain ⟨u, hu, ru⟩ := RelO.some_of (v := v) (o := mA n) (by rw [← l]; exact hr n)
  have J : PySem.W.InstAt s1.heap a oe D (some od) := ⟨ha, hz.1, by unfold PySem.W.notCls; rw [hd] <;> rfl, by rw [hz.2]; exact ho⟩
  exact HandSPX.exc_get I1.kIn J C.ga C.gt C.be (PySem.W.findObj_own C.hd hno rfl (by rw [hl, hu])) (handed_of ru) ⟨v, H1, I1.tok _, ru, q⟩
end
end Sc
namespace Sc
open PySem PySem.Spec PyProof.Rows L2 NdefX
/-! ### own errors with fields, made and raised -/
/-- what an f-string takes -/
def FOk : V → Prop
  | .int i => i.natAbs.log2 < 1920
  | .str z => z.length ≤ 1000000
  | _ => False
theorem fmt_at {y : V} {R : Str → Prop} (ok : FOk y) (q : ∀ z : Str, z.length ≤ 1000000 → R z) : (∃ z : Str, y = .str z ∧ z.length ≤ sizeLine ∧ R z) ∨ ∃ i : Int, y = .int i ∧ i.natAbs.log2 < 1920 ∧ R (toString i) := by
  cases y with
  | str z => exact .inl ⟨z, rfl, Nat.le_trans ok (by rw [sizeLine_eq]; decide), q z ok⟩
  | int i =>
    refine .inr ⟨i, rfl, ok, q _ ?_⟩
    have e : (PySem.Str.ofString (toString i)).length ≤ 1921 := int_text_len_1921 ok
    exact Nat.le_trans e (by decide)
  | _ => exact ok.elim
theorem fok_nat {i : Nat} (hi : i ≤ 1000) : FOk (.int (i : Nat)) := by
  show (i : Int).natAbs.log2 < 1920
  have e1 : (i : Int).natAbs = i := rfl
  rw [e1]
  by_cases h0 : i = 0
  · subst h0
    decide
  · have := (Nat.log2_lt h0 (k := 10)).mpr (Nat.lt_of_le_of_lt hi (by decide))
    omega
theorem app_len {a b : Str} : (a ++ b).length = a.length + b.length := by
  show (a.cps ++ b.cps).size = a.cps.size + b.cps.size
  exact Array.size_append
/-- a rule of arguments, its reading made monotone -/
theorem pa_mono {X : Cx} {es : List Expr} {ta : TA} (h : PA X es ta) : PA X es (fun σ H Q => ∃ R, ta σ H R ∧ ∀ vs H1, R vs H1 → Q vs H1) := by
  refine ⟨fun pos pins s σ H Q I ⟨R, q, k⟩ => wpAny_mono (h.run pos pins s σ H R I q) (fun us s1 ⟨vs, H1, J, r, z⟩ => ⟨vs, H1, J, r, k vs H1 z⟩) fun _ _ z => z⟩
/-- the promise of an __init__ that keeps its fields fs, in their order -/
def sp_init1 (C : Addr) (f : Str) : Sp := fun vs H Q _ => ∃ (a : Addr) (y : V), vs = [.ref a, y] ∧ H a = some (exo a C none) ∧ FOk y ∧ ∀ dx, H dx = none → dx ≠ a → Q .non (upd (upd H dx (exd dx [(f, y)])) a (exo a C (some dx)))
def sp_init2 (C : Addr) (f g : Str) : Sp := fun vs H Q _ => ∃ (a : Addr) (y z : V), vs = [.ref a, y, z] ∧ H a = some (exo a C none) ∧ FOk y ∧ FOk z ∧
  ∀ dx, H dx = none → dx ≠ a → Q .non (upd (upd (upd H dx (exd dx [(f, y)])) a (exo a C (some dx))) dx (exd dx [(g, z), (f, y)]))
/-- the class x at C, its __init__ keeping sp -/
structure ErrMk (P : Program) (w : World) (K : PySem.W.Frag) (mg : Str → Option Value) (base : Heap) (x : Str) (C : Addr) (ps : List Str) (sp : Sp) : Prop where
  ex : ∃ (fI : Addr) (fd : FuncData), OexC K C ∧ PySem.W.findIn K (.ref C) "__init__" = some (some (.ref fI)) ∧ PySem.W.typeIn K (.ref fI) = some (.type "function") ∧ FnOk P w K mg base CX0 1 fI fd ps sp ∧ Binds K fd ps [] ∧ mg x = some (.ref C)
theorem let_go {H : Hp} {a d : Addr} {o o' u : HO} (n : H a = none) (ne : d ≠ a) : upd (del (upd (upd H d u) a o) a) d o' = upd H d o' := by
  funext b
  by_cases hd : b = d
  · rw [hd, upd_same, upd_same]
  · rw [upd_ne hd, upd_ne hd]
    by_cases ha : b = a
    · rw [ha, del_same, n]
    · rw [del_ne ha, upd_ne ha, upd_ne hd]
section
variable {X : Cx} {x f g : Str} {C : Addr} {ps : List Str} {e e2 : Expr} {te te2 : TE} {p pos : Pos}
/-- x(e): an error whose own dict, new, holds the field -/
def tErr1 (C : Addr) (f : Str) (te : TE) : L2.St → Hp → XK → Prop := fun σ H Q => te σ H fun y H1 => FOk y ∧ ∀ d, H1 d = none → Q (.ref C) (some d) (upd H1 d (.xd [(f, y)]))
theorem pmk_err1 (M : ErrMk X.prog X.w X.K X.mg X.base x C ps (sp_init1 C f)) (hr : Room 2 X.A) (he : PE X e te) (hg : Gl X x := by rfl) (hdb : (x == ("__debug__" : Str)) = false := by decide)
    (hs : starEach [e] X.env = (false, eval e X.env) :: starEach [] X.env := by rfl) : PMk X (.Call (.Name x p) [e] [] pos) (tErr1 C f te) := by
  obtain ⟨fI, fd, T, iC, tI, F, hb, hm⟩ := M.ex
  intro pins s σ H Q I h
  refine pmk_oex (CX := CX0) T iC tI F hr hb .nil (fun _ _ _ _ _ _ _ z => z.elim) hg hm (pa_mono (pa_cons he pa_nil hs)) hdb hs rfl pins s σ H Q I ?_
  refine ⟨fun vs H1 => match vs with
    | [y] => FOk y ∧ ∀ d, H1 d = none → Q (.ref C) (some d) (upd H1 d (.xd [(f, y)]))
    | _ => False, h, fun vs H1 r => ?_⟩
  match vs, r with
  | [y], ⟨ok, q⟩ =>
    refine ⟨by simp, fun a na => ⟨a, y, rfl, upd_same, ok, fun dx nd ne => ⟨rfl, dx, _, upd_same, by rw [upd_ne ne, upd_same], ?_, ?_⟩⟩⟩
    · rw [upd_ne ne] at nd
      exact nd
    · rw [upd_ne ne] at nd
      have e1 : upd (upd (upd H1 a (exo a C none)) dx (exd dx [(f, y)])) a (exo a C (some dx)) = upd (upd H1 dx (exd dx [(f, y)])) a (exo a C (some dx)) := by
        funext b
        by_cases ha : b = a
        · rw [ha, upd_same, upd_same]
        · rw [upd_ne ha, upd_ne ha]
          by_cases hb : b = dx
          · rw [hb, upd_same, upd_same]
          · rw [upd_ne hb, upd_ne hb, upd_ne ha]
      rw [e1, let_go na ne]
      exact q dx nd
/-- x(e, e2): two fields -/
def tErr2 (C : Addr) (f g : Str) (te te2 : TE) : L2.St → Hp → XK → Prop := fun σ H Q => te σ H fun y H0 => te2 σ H0 fun z H1 => (FOk y ∧ FOk z) ∧ ∀ d, H1 d = none → Q (.ref C) (some d) (upd H1 d (.xd [(g, z), (f, y)]))
theorem pmk_err2 (M : ErrMk X.prog X.w X.K X.mg X.base x C ps (sp_init2 C f g)) (hr : Room 2 X.A) (he : PE X e te) (he2 : PE X e2 te2) (hg : Gl X x := by rfl) (hdb : (x == ("__debug__" : Str)) = false := by decide)
    (hs : starEach [e, e2] X.env = (false, eval e X.env) :: starEach [e2] X.env := by rfl) (hs2 : starEach [e2] X.env = (false, eval e2 X.env) :: starEach [] X.env := by rfl) (hpl : (backTo pos (starEach [e2] X.env)).any (·.1) = false := by rfl) :
    PMk X (.Call (.Name x p) [e, e2] [] pos) (tErr2 C f g te te2) := by
  obtain ⟨fI, fd, T, iC, tI, F, hb, hm⟩ := M.ex
  intro pins s σ H Q I h
  refine pmk_oex (CX := CX0) T iC tI F hr hb .nil (fun _ _ _ _ _ _ _ z => z.elim) hg hm (pa_mono (pa_cons he (pa_cons he2 pa_nil hs2) hs)) hdb hs hpl pins s σ H Q I ?_
  refine ⟨fun vs H1 => match vs with
    | [y, z] => (FOk y ∧ FOk z) ∧ ∀ d, H1 d = none → Q (.ref C) (some d) (upd H1 d (.xd [(g, z), (f, y)]))
    | _ => False, h, fun vs H1 r => ?_⟩
  match vs, r with
  | [y, z], ⟨⟨ok, ok2⟩, q⟩ =>
    refine ⟨by simp, fun a na => ⟨a, y, z, rfl, upd_same, ok, ok2, fun dx nd ne => ⟨rfl, dx, _, by rw [upd_ne ne.symm, upd_same], upd_same, ?_, ?_⟩⟩⟩
    · rw [upd_ne ne] at nd
      exact nd
    · rw [upd_ne ne] at nd
      have e1 : upd (del (upd (upd (upd (upd H1 a (exo a C none)) dx (exd dx [(f, y)])) a (exo a C (some dx))) dx (exd dx [(g, z), (f, y)])) a) dx (.xd [(g, z), (f, y)]) = upd H1 dx (.xd [(g, z), (f, y)]) := by
        funext b
        by_cases hb : b = dx
        · rw [hb, upd_same, upd_same]
        · rw [upd_ne hb, upd_ne hb]
          by_cases ha : b = a
          · rw [ha, del_same, na]
          · rw [del_ne ha, upd_ne hb, upd_ne ha, upd_ne hb, upd_ne ha]
      rw [e1]
      exact q dx nd
/-- the class x at C, without an __init__ of its own -/
structure ErrMk0 (K : PySem.W.Frag) (mg : Str → Option Value) (x : Str) (C : Addr) : Prop where
  q : PySem.W.excIn K C [.type "ValueError", .type "Exception", .type "BaseException", .type "object"] "ValueError.__new__" = true
  g : mg x = some (.ref C)
  k : PySem.W.keepIn K (.ref C) = true
  b : PySem.W.subIn K (.ref C) (.type "BaseException") = some true
  t : PySem.W.typeIn K (.ref C) = some (.type "type")
theorem pmk_err0 {m : Str} {j : Nat} {p2 : Pos} (M : ErrMk0 X.K X.mg x C) (hg : Gl X x := by rfl) (hdb : (x == ("__debug__" : Str)) = false := by decide) :
    PMk X (.Call (.Name x p) [.Constant (.str m) j p2] [] pos) (fun _ H Q => Q (.ref C) none H) := pmk_own PySem.F.excBase_ValueError M.q M.g M.k (raises_own M.b M.t) hg hdb
end
end Sc
namespace Sc
open PySem PySem.Spec PyProof.Rows L2 NdefX
def topS (i : Nat) : Stmt := PySem.Challenge.pw_smallcourt_k01_facts_and_cases.main.body.getD i (.Pass ⟨0, 0, 0, 0⟩)
section
variable {P : Program} {w : World} {K : PySem.W.Frag} {mg : Str → Option Value} {base : Heap}
theorem sc_init_InvalidFacts : NScope ["self", "index", "__class__"] ["self", "index"] ["__class__"] (defScope (inClass (topS 2) 0)) := nscope_by (by decide +kernel)
abbrev nf_InvalidFacts (cc c : Addr) : NF := ⟨"__init__", "InvalidFacts.__init__", defArgs (inClass (topS 2) 0), defBody (inClass (topS 2) 0), defScope (inClass (topS 2) 0), [(("__class__" : Str), cc)], c⟩
theorem ok_init_InvalidFacts {fI C cc c : Addr} {oc kV doc pm ct : Value} {od an : Option Addr} {osl : Array (Option Value)} (lk : K.lookup fI = some ⟨oc, od, .func (supFd (nf_InvalidFacts cc c) kV doc pm an ct), osl⟩)
    (hcd : PySem.W.codeIn K (.ref c) "InvalidFacts.__init__" = true) (T : OexC K C) (S : SupC P K mg C cc c) (n0 : PySem.W.findIn K (.ref C) "index" = some none) : FnOk P w K mg base CX0 1 fI (supFd (nf_InvalidFacts cc c) kV doc pm an ct) ["self", "index"] (sp_init1 C "index") := by
  refine fn_sup (N := ["self", "index", "__class__"]) (ps := ["self", "index"]) lk hcd rfl sc_init_InvalidFacts T S (fun vs H Q E h => ?_) rfl rfl rfl rfl rfl (fun A outer s H vs Q E hr h => ?_) (fun L => ⟨_, rfl⟩) (fun L => rfl) (fun L => rfl) (fun L => rfl) (fun L => rfl)
  · obtain ⟨a, y0, rfl, ha, ok0, q⟩ := h
    rfl
  · obtain ⟨a, y0, rfl, ha, ok0, q⟩ := h
    refine ⟨_, _, pa_cons (pe_joined (PJ.cons pe_str (PJ.cons (pe_fmt (pv 1)) PJ.nil))) pa_nil, pss_one (ps_ost (pv 0) (pv 1)), a, rfl, ha, ?_⟩
    refine ⟨_, rfl, (by rw [sizeLine_eq]; simp only [app_len]; have e0 : Str.empty.length = 0 := rfl; have e1 : (("wrong fact at index " : Str)).length = 20 := (by decide +kernel); omega), ⟨y0, rfl, fmt_at ok0 fun z0 hz0 => ⟨_, rfl, (by rw [sizeLine_eq]; simp only [app_len]; have e0 : Str.empty.length = 0 := rfl; have e1 : (("wrong fact at index " : Str)).length = 20 := (by decide +kernel); omega), ⟨by simp, ha, y0, rfl, .ref a, rfl, a, C, rfl, T, n0, .inl ⟨ha, fun dx nd ne => q dx nd ne⟩⟩⟩⟩⟩

theorem sc_init_InvalidCase : NScope ["self", "index", "__class__"] ["self", "index"] ["__class__"] (defScope (inClass (topS 3) 0)) := nscope_by (by decide +kernel)
abbrev nf_InvalidCase (cc c : Addr) : NF := ⟨"__init__", "InvalidCase.__init__", defArgs (inClass (topS 3) 0), defBody (inClass (topS 3) 0), defScope (inClass (topS 3) 0), [(("__class__" : Str), cc)], c⟩
theorem ok_init_InvalidCase {fI C cc c : Addr} {oc kV doc pm ct : Value} {od an : Option Addr} {osl : Array (Option Value)} (lk : K.lookup fI = some ⟨oc, od, .func (supFd (nf_InvalidCase cc c) kV doc pm an ct), osl⟩)
    (hcd : PySem.W.codeIn K (.ref c) "InvalidCase.__init__" = true) (T : OexC K C) (S : SupC P K mg C cc c) (n0 : PySem.W.findIn K (.ref C) "index" = some none) : FnOk P w K mg base CX0 1 fI (supFd (nf_InvalidCase cc c) kV doc pm an ct) ["self", "index"] (sp_init1 C "index") := by
  refine fn_sup (N := ["self", "index", "__class__"]) (ps := ["self", "index"]) lk hcd rfl sc_init_InvalidCase T S (fun vs H Q E h => ?_) rfl rfl rfl rfl rfl (fun A outer s H vs Q E hr h => ?_) (fun L => ⟨_, rfl⟩) (fun L => rfl) (fun L => rfl) (fun L => rfl) (fun L => rfl)
  · obtain ⟨a, y0, rfl, ha, ok0, q⟩ := h
    rfl
  · obtain ⟨a, y0, rfl, ha, ok0, q⟩ := h
    refine ⟨_, _, pa_cons (pe_joined (PJ.cons pe_str (PJ.cons (pe_fmt (pv 1)) PJ.nil))) pa_nil, pss_one (ps_ost (pv 0) (pv 1)), a, rfl, ha, ?_⟩
    refine ⟨_, rfl, (by rw [sizeLine_eq]; simp only [app_len]; have e0 : Str.empty.length = 0 := rfl; have e1 : (("wrong name in the case at index " : Str)).length = 32 := (by decide +kernel); omega), ⟨y0, rfl, fmt_at ok0 fun z0 hz0 => ⟨_, rfl, (by rw [sizeLine_eq]; simp only [app_len]; have e0 : Str.empty.length = 0 := rfl; have e1 : (("wrong name in the case at index " : Str)).length = 32 := (by decide +kernel); omega), ⟨by simp, ha, y0, rfl, .ref a, rfl, a, C, rfl, T, n0, .inl ⟨ha, fun dx nd ne => q dx nd ne⟩⟩⟩⟩⟩

theorem sc_init_InvalidCondition : NScope ["self", "part", "index", "__class__"] ["self", "part", "index"] ["__class__"] (defScope (inClass (topS 5) 0)) := nscope_by (by decide +kernel)
abbrev nf_InvalidCondition (cc c : Addr) : NF := ⟨"__init__", "InvalidCondition.__init__", defArgs (inClass (topS 5) 0), defBody (inClass (topS 5) 0), defScope (inClass (topS 5) 0), [(("__class__" : Str), cc)], c⟩
theorem ok_init_InvalidCondition {fI C cc c : Addr} {oc kV doc pm ct : Value} {od an : Option Addr} {osl : Array (Option Value)} (lk : K.lookup fI = some ⟨oc, od, .func (supFd (nf_InvalidCondition cc c) kV doc pm an ct), osl⟩)
    (hcd : PySem.W.codeIn K (.ref c) "InvalidCondition.__init__" = true) (T : OexC K C) (S : SupC P K mg C cc c) (n0 : PySem.W.findIn K (.ref C) "part" = some none) (n1 : PySem.W.findIn K (.ref C) "index" = some none) : FnOk P w K mg base CX0 1 fI (supFd (nf_InvalidCondition cc c) kV doc pm an ct) ["self", "part", "index"] (sp_init2 C "part" "index") := by
  refine fn_sup (N := ["self", "part", "index", "__class__"]) (ps := ["self", "part", "index"]) lk hcd rfl sc_init_InvalidCondition T S (fun vs H Q E h => ?_) rfl rfl rfl rfl rfl (fun A outer s H vs Q E hr h => ?_) (fun L => ⟨_, rfl⟩) (fun L => rfl) (fun L => rfl) (fun L => rfl) (fun L => rfl)
  · obtain ⟨a, y0, y1, rfl, ha, ok0, ok1, q⟩ := h
    rfl
  · obtain ⟨a, y0, y1, rfl, ha, ok0, ok1, q⟩ := h
    refine ⟨_, _, pa_cons (pe_joined (PJ.cons pe_str (PJ.cons (pe_fmt (pv 1)) (PJ.cons pe_str (PJ.cons (pe_fmt (pv 2)) PJ.nil))))) pa_nil, pss_cons (ps_ost (pv 0) (pv 1)) (pss_one (ps_ost (pv 0) (pv 2))), a, rfl, ha, ?_⟩
    refine ⟨_, rfl, (by rw [sizeLine_eq]; simp only [app_len]; have e0 : Str.empty.length = 0 := rfl; have e1 : (("wrong name in part " : Str)).length = 19 := (by decide +kernel); have e2 : ((" of the condition at index " : Str)).length = 27 := (by decide +kernel); omega), ⟨y0, rfl, fmt_at ok0 fun z0 hz0 => ⟨_, rfl, (by rw [sizeLine_eq]; simp only [app_len]; have e0 : Str.empty.length = 0 := rfl; have e1 : (("wrong name in part " : Str)).length = 19 := (by decide +kernel); have e2 : ((" of the condition at index " : Str)).length = 27 := (by decide +kernel); omega), ⟨_, rfl, (by rw [sizeLine_eq]; simp only [app_len]; have e0 : Str.empty.length = 0 := rfl; have e1 : (("wrong name in part " : Str)).length = 19 := (by decide +kernel); have e2 : ((" of the condition at index " : Str)).length = 27 := (by decide +kernel); omega), ⟨y1, rfl, fmt_at ok1 fun z1 hz1 => ⟨_, rfl, (by rw [sizeLine_eq]; simp only [app_len]; have e0 : Str.empty.length = 0 := rfl; have e1 : (("wrong name in part " : Str)).length = 19 := (by decide +kernel); have e2 : ((" of the condition at index " : Str)).length = 27 := (by decide +kernel); omega), ⟨by simp, ha, y0, rfl, .ref a, rfl, a, C, rfl, T, n0, .inl ⟨ha, fun dx nd ne => ⟨y1, rfl, .ref a, rfl, a, C, rfl, T, n1, .inr ⟨dx, _, upd_same, by rw [upd_ne ne, upd_same], by simp, q dx nd ne⟩⟩⟩⟩⟩⟩⟩⟩⟩⟩

theorem sc_init_InvalidRule : NScope ["self", "part", "__class__"] ["self", "part"] ["__class__"] (defScope (inClass (topS 7) 0)) := nscope_by (by decide +kernel)
abbrev nf_InvalidRule (cc c : Addr) : NF := ⟨"__init__", "InvalidRule.__init__", defArgs (inClass (topS 7) 0), defBody (inClass (topS 7) 0), defScope (inClass (topS 7) 0), [(("__class__" : Str), cc)], c⟩
theorem ok_init_InvalidRule {fI C cc c : Addr} {oc kV doc pm ct : Value} {od an : Option Addr} {osl : Array (Option Value)} (lk : K.lookup fI = some ⟨oc, od, .func (supFd (nf_InvalidRule cc c) kV doc pm an ct), osl⟩)
    (hcd : PySem.W.codeIn K (.ref c) "InvalidRule.__init__" = true) (T : OexC K C) (S : SupC P K mg C cc c) (n0 : PySem.W.findIn K (.ref C) "part" = some none) : FnOk P w K mg base CX0 1 fI (supFd (nf_InvalidRule cc c) kV doc pm an ct) ["self", "part"] (sp_init1 C "part") := by
  refine fn_sup (N := ["self", "part", "__class__"]) (ps := ["self", "part"]) lk hcd rfl sc_init_InvalidRule T S (fun vs H Q E h => ?_) rfl rfl rfl rfl rfl (fun A outer s H vs Q E hr h => ?_) (fun L => ⟨_, rfl⟩) (fun L => rfl) (fun L => rfl) (fun L => rfl) (fun L => rfl)
  · obtain ⟨a, y0, rfl, ha, ok0, q⟩ := h
    rfl
  · obtain ⟨a, y0, rfl, ha, ok0, q⟩ := h
    refine ⟨_, _, pa_cons (pe_joined (PJ.cons pe_str (PJ.cons (pe_fmt (pv 1)) (PJ.cons pe_str PJ.nil)))) pa_nil, pss_one (ps_ost (pv 0) (pv 1)), a, rfl, ha, ?_⟩
    refine ⟨_, rfl, (by rw [sizeLine_eq]; simp only [app_len]; have e0 : Str.empty.length = 0 := rfl; have e1 : (("wrong " : Str)).length = 6 := (by decide +kernel); have e2 : ((" of a rule" : Str)).length = 10 := (by decide +kernel); omega), ⟨y0, rfl, fmt_at ok0 fun z0 hz0 => ⟨_, rfl, (by rw [sizeLine_eq]; simp only [app_len]; have e0 : Str.empty.length = 0 := rfl; have e1 : (("wrong " : Str)).length = 6 := (by decide +kernel); have e2 : ((" of a rule" : Str)).length = 10 := (by decide +kernel); omega), ⟨_, rfl, (by rw [sizeLine_eq]; simp only [app_len]; have e0 : Str.empty.length = 0 := rfl; have e1 : (("wrong " : Str)).length = 6 := (by decide +kernel); have e2 : ((" of a rule" : Str)).length = 10 := (by decide +kernel); omega), ⟨by simp, ha, y0, rfl, .ref a, rfl, a, C, rfl, T, n0, .inl ⟨ha, fun dx nd ne => q dx nd ne⟩⟩⟩⟩⟩⟩

theorem sc_init_InvalidBook : NScope ["self", "word", "index", "__class__"] ["self", "word", "index"] ["__class__"] (defScope (inClass (topS 8) 0)) := nscope_by (by decide +kernel)
abbrev nf_InvalidBook (cc c : Addr) : NF := ⟨"__init__", "InvalidBook.__init__", defArgs (inClass (topS 8) 0), defBody (inClass (topS 8) 0), defScope (inClass (topS 8) 0), [(("__class__" : Str), cc)], c⟩
theorem ok_init_InvalidBook {fI C cc c : Addr} {oc kV doc pm ct : Value} {od an : Option Addr} {osl : Array (Option Value)} (lk : K.lookup fI = some ⟨oc, od, .func (supFd (nf_InvalidBook cc c) kV doc pm an ct), osl⟩)
    (hcd : PySem.W.codeIn K (.ref c) "InvalidBook.__init__" = true) (T : OexC K C) (S : SupC P K mg C cc c) (n0 : PySem.W.findIn K (.ref C) "word" = some none) (n1 : PySem.W.findIn K (.ref C) "index" = some none) : FnOk P w K mg base CX0 1 fI (supFd (nf_InvalidBook cc c) kV doc pm an ct) ["self", "word", "index"] (sp_init2 C "word" "index") := by
  refine fn_sup (N := ["self", "word", "index", "__class__"]) (ps := ["self", "word", "index"]) lk hcd rfl sc_init_InvalidBook T S (fun vs H Q E h => ?_) rfl rfl rfl rfl rfl (fun A outer s H vs Q E hr h => ?_) (fun L => ⟨_, rfl⟩) (fun L => rfl) (fun L => rfl) (fun L => rfl) (fun L => rfl)
  · obtain ⟨a, y0, y1, rfl, ha, ok0, ok1, q⟩ := h
    rfl
  · obtain ⟨a, y0, y1, rfl, ha, ok0, ok1, q⟩ := h
    refine ⟨_, _, pa_cons (pe_joined (PJ.cons pe_str (PJ.cons (pe_fmt (pv 1)) (PJ.cons pe_str (PJ.cons (pe_fmt (pv 2)) PJ.nil))))) pa_nil, pss_cons (ps_ost (pv 0) (pv 1)) (pss_one (ps_ost (pv 0) (pv 2))), a, rfl, ha, ?_⟩
    refine ⟨_, rfl, (by rw [sizeLine_eq]; simp only [app_len]; have e0 : Str.empty.length = 0 := rfl; have e1 : (("wrong book by " : Str)).length = 14 := (by decide +kernel); have e2 : ((" at index " : Str)).length = 10 := (by decide +kernel); omega), ⟨y0, rfl, fmt_at ok0 fun z0 hz0 => ⟨_, rfl, (by rw [sizeLine_eq]; simp only [app_len]; have e0 : Str.empty.length = 0 := rfl; have e1 : (("wrong book by " : Str)).length = 14 := (by decide +kernel); have e2 : ((" at index " : Str)).length = 10 := (by decide +kernel); omega), ⟨_, rfl, (by rw [sizeLine_eq]; simp only [app_len]; have e0 : Str.empty.length = 0 := rfl; have e1 : (("wrong book by " : Str)).length = 14 := (by decide +kernel); have e2 : ((" at index " : Str)).length = 10 := (by decide +kernel); omega), ⟨y1, rfl, fmt_at ok1 fun z1 hz1 => ⟨_, rfl, (by rw [sizeLine_eq]; simp only [app_len]; have e0 : Str.empty.length = 0 := rfl; have e1 : (("wrong book by " : Str)).length = 14 := (by decide +kernel); have e2 : ((" at index " : Str)).length = 10 := (by decide +kernel); omega), ⟨by simp, ha, y0, rfl, .ref a, rfl, a, C, rfl, T, n0, .inl ⟨ha, fun dx nd ne => ⟨y1, rfl, .ref a, rfl, a, C, rfl, T, n1, .inr ⟨dx, _, upd_same, by rw [upd_ne ne, upd_same], by simp, q dx nd ne⟩⟩⟩⟩⟩⟩⟩⟩⟩⟩

theorem sc_init_InvalidChance : NScope ["self", "fact", "__class__"] ["self", "fact"] ["__class__"] (defScope (inClass (topS 14) 0)) := nscope_by (by decide +kernel)
abbrev nf_InvalidChance (cc c : Addr) : NF := ⟨"__init__", "InvalidChance.__init__", defArgs (inClass (topS 14) 0), defBody (inClass (topS 14) 0), defScope (inClass (topS 14) 0), [(("__class__" : Str), cc)], c⟩
theorem ok_init_InvalidChance {fI C cc c : Addr} {oc kV doc pm ct : Value} {od an : Option Addr} {osl : Array (Option Value)} (lk : K.lookup fI = some ⟨oc, od, .func (supFd (nf_InvalidChance cc c) kV doc pm an ct), osl⟩)
    (hcd : PySem.W.codeIn K (.ref c) "InvalidChance.__init__" = true) (T : OexC K C) (S : SupC P K mg C cc c) (n0 : PySem.W.findIn K (.ref C) "fact" = some none) : FnOk P w K mg base CX0 1 fI (supFd (nf_InvalidChance cc c) kV doc pm an ct) ["self", "fact"] (sp_init1 C "fact") := by
  refine fn_sup (N := ["self", "fact", "__class__"]) (ps := ["self", "fact"]) lk hcd rfl sc_init_InvalidChance T S (fun vs H Q E h => ?_) rfl rfl rfl rfl rfl (fun A outer s H vs Q E hr h => ?_) (fun L => ⟨_, rfl⟩) (fun L => rfl) (fun L => rfl) (fun L => rfl) (fun L => rfl)
  · obtain ⟨a, y0, rfl, ha, ok0, q⟩ := h
    rfl
  · obtain ⟨a, y0, rfl, ha, ok0, q⟩ := h
    refine ⟨_, _, pa_cons (pe_joined (PJ.cons pe_str (PJ.cons (pe_fmt (pv 1)) PJ.nil))) pa_nil, pss_one (ps_ost (pv 0) (pv 1)), a, rfl, ha, ?_⟩
    refine ⟨_, rfl, (by rw [sizeLine_eq]; simp only [app_len]; have e0 : Str.empty.length = 0 := rfl; have e1 : (("wrong chance of " : Str)).length = 16 := (by decide +kernel); omega), ⟨y0, rfl, fmt_at ok0 fun z0 hz0 => ⟨_, rfl, (by rw [sizeLine_eq]; simp only [app_len]; have e0 : Str.empty.length = 0 := rfl; have e1 : (("wrong chance of " : Str)).length = 16 := (by decide +kernel); omega), ⟨by simp, ha, y0, rfl, .ref a, rfl, a, C, rfl, T, n0, .inl ⟨ha, fun dx nd ne => q dx nd ne⟩⟩⟩⟩⟩

end
end Sc
namespace Sc
open PySem PySem.Spec PyProof.Rows L2
/-! ### names -/
abbrev s_is_name : Stmt := topS 22
theorem sc_is_name : FnScope ["value", "letter"] ["value"] (defScope s_is_name) := ⟨rfl, rfl, rfl, by decide +kernel, rfl, by decide +kernel, by decide +kernel⟩
abbrev s_is_integer : Stmt := topS 23
theorem sc_is_integer : FnScope ["value"] ["value"] (defScope s_is_integer) := ⟨rfl, rfl, rfl, by decide +kernel, rfl, by decide +kernel, by decide +kernel⟩
abbrev s_rises : Stmt := topS 24
theorem sc_rises : FnScope ["names", "index"] ["names", "index"] (defScope s_rises) := ⟨rfl, rfl, rfl, by decide +kernel, rfl, by decide +kernel, by decide +kernel⟩
def letters : Str := "abcdefghijklmnopqrstuvwxyz"
def isLetters (x : Str) : Bool := x.cps.toList.all fun c => decide (c ∈ letters.cps.toList)
def isName (x : Str) : Bool := decide (1 ≤ x.length) && (decide (x.length ≤ 8) && isLetters x)
def isLetterV (c : Nat) : V := .bl (decide (c ∈ letters.cps.toList))
structure GNames (mg : Str → Option Value) : Prop where
  m_LETTERS : ∃ t, mg "LETTERS" = some (.str letters t)
  m_LONGEST : ∃ t, mg "LONGEST_NAME" = some (.int 8 t)
section
variable {P : Program} {w : World} {K : PySem.W.Frag} {mg : Str → Option Value} {base : Heap}
def sp_is_name : Sp := fun vs H Q _ => ∃ x : Str, vs = [.str x] ∧ x.length ≤ sizeLine ∧ ∀ H', Same H H' → Q (.bl (isName x)) H'
theorem ok_is_name {f : Addr} {fd : FuncData} (F : Fun K "is_name" "is_name" s_is_name f fd) (B : Blt mg) (G : GNames mg) : FnOk P w K mg base CX0 1 f fd ["value"] sp_is_name := by
  obtain ⟨⟨t1, mL⟩, ⟨t2, mN⟩⟩ := G
  refine F.ok sc_is_name (fun vs H Q E h => by obtain ⟨x, rfl, _⟩ := h; rfl) (fun cdv A outer s H vs Q E hr h => ?_)
  obtain ⟨x, rfl, hx, q⟩ := h
  refine ⟨_, (pss_cons (ps_if (PW.pt (pw_or (pt_not (pt_val (pe_callB (call_isT "str") (by rfl) B.b_isinstance PyProof.Rows.boot_isinstance (pa_cons (pv 0) (pa_cons (pe_bltn (v := .ty "str") (by rfl) B.b_str PyProof.Rows.boot_str rfl) pa_nil))))) (pw_or1 (pt_not (pt_chain op_le op_le pe_int (pe_callB call_len_str (by rfl) B.b_len PySem.boot_len (pa_cons (pv 0) pa_nil)) (pe_glob (v := .int 8) rfl mN ⟨_, rfl⟩)))))) (pss_one (ps_ret pe_bl)) pss_nil)
      (pss_one (ps_ret (pe_callB (cr_all rfl) (by rfl) B.b_all PyProof.Rows.boot_all (pa_cons (pe_lc (own := [("letter", 1)]) (g := gName 1) (tt := tYes) rfl sc_is_name.nd (pi_str (pv 0)) (blkOk_by (own := [("letter", 1)]) (N := ["value", "letter"]) (sc := defScope s_is_name) (by decide +kernel)) (fun _ _ _ _ _ => (pg_name (i := 1) sc_is_name.nd rfl (Or.inl rfl))) (fun _ _ _ _ _ => pts_nil) (fun _ _ _ _ _ => (pe_.re (pe_cmpR op_in_sign (pv 1) (pe_glob (v := .str "abcdefghijklmnopqrstuvwxyz") rfl mL ⟨_, rfl⟩) rfl) (by first | (dsimp only [Cx.blk]; done) | exact rfl)))) pa_nil))))), ?_⟩
  refine ⟨.str x, rfl, _, "str", true, rfl, .str _, by decide +kernel, _, rfl, iteF ?_⟩
  refine ⟨.str x, rfl, x, rfl, hx, 1, x.length, rfl, rfl, _, rfl, bcase (fun h1 => ?_) (fun h1 => ?_)⟩
  · refine ⟨_, _, rfl, rfl, _, rfl, ?_⟩
    have h1 : 1 ≤ x.length := by have := of_decide_eq_true h1; omega
    by_cases h2 : x.length ≤ 8
    · have e2 : decide ((x.length : Int) ≤ 8) = true := decide_eq_true (by omega)
      rw [e2]
      refine iteF ?_
      refine ⟨.str x, rfl, x, rfl, fun D nD => lc_it walk_str (fun i H' => Same H H' ∧ H' D = some (.lst ((x.cps.toList.take i).map isLetterV))) ⟨(Same.refl H).put nD, upd_same⟩ (fun _ _ _ _ => trivial) ?_ ?_⟩
      · rintro i y H2 H3 hi ⟨s, e⟩ ⟨rfl, c, hc, rfl⟩
        refine ⟨rfl, yes_ ⟨_, rfl, c, letters, rfl, rfl, grow (acc := fun i => .map isLetterV (x.cps.toList.take i)) nD s e ?_ ?_⟩⟩
        · rw [List.length_map, List.length_take]
          exact small1000 (by have : x.cps.toList.length = x.length := rfl; omega)
        · show List.map _ _ = _
          rw [take_more (x := c) (by rw [Array.getElem?_toList]; exact hc), List.map_append]
          rfl
      · rintro H2 ⟨s, e⟩
        have el : x.cps.toList.take x.cps.size = x.cps.toList := List.take_of_length_le (by rw [Array.length_toList]; exact Nat.le_refl _)
        rw [el] at e
        refine ⟨D, x.cps.toList.map fun c => decide (c ∈ letters.cps.toList), rfl, sqL_of (by rw [e, List.map_map]; rfl), ?_⟩
        have ea : isName x = (x.cps.toList.map fun c => decide (c ∈ letters.cps.toList)).all id := by
          unfold isName isLetters
          rw [decide_eq_true h1, decide_eq_true h2, Bool.true_and, Bool.true_and, List.all_map]
          rfl
        rw [← ea]
        exact q H2 s
    · have e2 : decide ((x.length : Int) ≤ 8) = false := decide_eq_false (by omega)
      rw [e2]
      refine iteT ?_
      have e : isName x = false := by unfold isName; rw [decide_eq_false h2, Bool.false_and, Bool.and_false]
      rw [← e]
      exact q H (Same.refl H)
  · have h1 : ¬ 1 ≤ x.length := by have := of_decide_eq_false h1; omega
    refine ⟨_, rfl, iteT ?_⟩
    have e : isName x = false := by unfold isName; rw [decide_eq_false h1, Bool.false_and]
    rw [← e]
    exact q H (Same.refl H)
/-- any value of a built-in kind -/
def sp_is_integer (K : PySem.W.Frag) : Sp := fun vs H Q _ => ∃ (x : V) (t : String) (b c : Bool), vs = [x] ∧ TyOf K H x (.type t) ∧ kitB t "int" = some b ∧ kitB t "bool" = some c ∧ Q (.bl (b && !c)) H
theorem ok_is_integer {f : Addr} {fd : FuncData} (F : Fun K "is_integer" "is_integer" s_is_integer f fd) (B : Blt mg) : FnOk P w K mg base CX0 1 f fd ["value"] (sp_is_integer K) := by
  refine F.ok sc_is_integer (fun vs H Q E h => by obtain ⟨x, _, _, _, rfl, _⟩ := h; rfl) (fun cdv A outer s H vs Q E hr h => ?_)
  obtain ⟨x, t, b, c, rfl, ht, hb, hc, q⟩ := h
  refine ⟨_, (pss_one (ps_ret (pe_and (pe_callB (call_isT "int") (by rfl) B.b_isinstance PyProof.Rows.boot_isinstance (pa_cons (pv 0) (pa_cons (pe_bltn (v := .ty "int") (by rfl) B.b_int PyProof.Rows.boot_int rfl) pa_nil))) (pe_one (pe_not (pe_callB (call_isT "bool") (by rfl) B.b_isinstance PyProof.Rows.boot_isinstance (pa_cons (pv 0) (pa_cons (pe_bltn (v := .ty "bool") (by rfl) B.b_bool PyProof.Rows.boot_bool rfl) pa_nil)))))))), ?_⟩
  refine ⟨x, rfl, x, t, b, rfl, ht, hb, b, rfl, bcase (fun e => ?_) (fun e => ?_)⟩
  · subst e
    exact ⟨x, rfl, x, t, c, rfl, ht, hc, c, rfl, q⟩
  · subst e
    exact q
/-- does the i-th name come behind the one before it -/
def risesAt (xs : List Str) (i : Nat) : Bool := decide (i = 0) || match xs[i - 1]?, xs[i]? with
  | some a, some b => decide (a.cps.toList < b.cps.toList)
  | _, _ => false
def sp_rises (K : PySem.W.Frag) : Sp := fun vs H Q _ => ∃ (a : Addr) (xs : List Str) (i : Nat), vs = [.ref a, .int i] ∧ SqT K H a (xs.map V.str) ∧ i < xs.length ∧ Q (.bl (risesAt xs i)) H
theorem ok_rises {f : Addr} {fd : FuncData} (F : Fun K "rises" "rises" s_rises f fd) : FnOk P w K mg base CX0 1 f fd ["names", "index"] (sp_rises K) := by
  refine F.ok sc_rises (fun vs H Q E h => by obtain ⟨a, xs, i, rfl, _⟩ := h; rfl) (fun cdv A outer s H vs Q E hr h => ?_)
  obtain ⟨a, xs, i, rfl, hS, hi, q⟩ := h
  refine ⟨_, (pss_one (ps_ret (pe_or (pe_cmpR op_eq (pv 1) pe_int (nomark _)) (pe_one (pe_cmpR op_lt_str (pe_ix ix_tup (pv 0) (pe_op op_sub (pv 1) pe_int) (fun _ _ => rfl)) (pe_ix ix_tup (pv 0) (pv 1) (fun _ _ => rfl)) (nomark _)))))), ?_⟩
  refine ⟨_, rfl, rfl, _, rfl, bcase (fun e => ?_) (fun e => ?_)⟩
  · have e0 : i = 0 := by have := V.int.inj (of_decide_eq_true e); omega
    have er : risesAt xs i = true := by unfold risesAt; rw [decide_eq_true e0, Bool.true_or]
    rw [er] at q
    exact q
  · have e0 : i ≠ 0 := fun z => by subst z; exact Bool.noConfusion (e.symm.trans (decide_eq_true rfl))
    have h1 : i - 1 < xs.length := by omega
    have g1 : (xs.map V.str)[i - 1]? = some (.str xs[i - 1]) := by rw [List.getElem?_map, List.getElem?_eq_getElem h1]; rfl
    have g2 : (xs.map V.str)[i]? = some (.str xs[i]) := by rw [List.getElem?_map, List.getElem?_eq_getElem hi]; rfl
    refine ⟨.ref a, rfl, .int i, rfl, i, 1, rfl, rfl, a, _, _, _, rfl, rfl, hS, at_of (j := i - 1) (by omega) g1, .ref a, rfl, .int i, rfl, a, _, _, _, rfl, rfl, hS, at_of rfl g2, xs[i - 1], xs[i], rfl, rfl, ?_⟩
    have er : risesAt xs i = decide (xs[i - 1].cps.toList < xs[i].cps.toList) := by
      unfold risesAt
      rw [decide_eq_false e0, Bool.false_or, List.getElem?_eq_getElem h1, List.getElem?_eq_getElem hi]
    rw [← er]
    exact q
end
end Sc
namespace Sc
open PySem PySem.Spec PyProof.Rows L2
/-! ### facts -/
abbrev s_check_facts : Stmt := topS 29
theorem sc_check_facts : FnScope ["facts", "index", "name"] ["facts"] (defScope s_check_facts) := ⟨rfl, rfl, rfl, by decide +kernel, rfl, by decide +kernel, by decide +kernel⟩
abbrev s_check_case : Stmt := topS 30
theorem sc_check_case : FnScope ["facts", "case", "index", "name"] ["facts", "case"] (defScope s_check_case) := ⟨rfl, rfl, rfl, by decide +kernel, rfl, by decide +kernel, by decide +kernel⟩
abbrev s_bits_of : Stmt := topS 31
theorem sc_bits_of : FnScope ["facts", "names", "place", "name"] ["facts", "names"] (defScope s_bits_of) := ⟨rfl, rfl, rfl, by decide +kernel, rfl, by decide +kernel, by decide +kernel⟩
abbrev s_names_of : Stmt := topS 32
theorem sc_names_of : FnScope ["facts", "bits", "place", "name"] ["facts", "bits"] (defScope s_names_of) := ⟨rfl, rfl, rfl, by decide +kernel, rfl, by decide +kernel, by decide +kernel⟩
abbrev s_case_number : Stmt := topS 27
theorem sc_case_number : FnScope ["facts", "case"] ["facts", "case"] (defScope s_case_number) := ⟨rfl, rfl, rfl, by decide +kernel, rfl, by decide +kernel, by decide +kernel⟩
abbrev s_case_of : Stmt := topS 28
theorem sc_case_of : FnScope ["facts", "number"] ["facts", "number"] (defScope s_case_of) := ⟨rfl, rfl, rfl, by decide +kernel, rfl, by decide +kernel, by decide +kernel⟩
theorem strAt_inj {xs : List Str} {i : Nat} {x : Str} {v : V} (hx : xs[i]? = some x) (h : (xs.map V.str)[i]? = some v) : V.str x = v := by
  rw [List.getElem?_map, hx] at h
  exact Option.some.inj h
/-- the i-th fact is wrong -/
def badAt (xs : List Str) (i : Nat) : Bool := decide (i = 60) || ((match xs[i]? with | some x => !isName x | none => false) || !risesAt xs i)
def firstBad (xs : List Str) : Option Nat := if xs = [] then some 0 else (List.range xs.length).find? (badAt xs)
theorem find_none {n : Nat} {p : Nat → Bool} (h : ∀ j, j < n → p j = false) : (List.range n).find? p = none := by
  rw [List.find?_eq_none]
  intro j hj
  rw [h j (List.mem_range.mp hj)]
  exact Bool.false_ne_true
theorem find_at {n i : Nat} {p : Nat → Bool} (hi : i < n) (hp : p i = true) (h : ∀ j, j < i → p j = false) : (List.range n).find? p = some i := by
  rw [List.find?_range_eq_some]
  exact ⟨hp, List.mem_range.mpr hi, fun j hj => by rw [h j hj]; rfl⟩
section
variable {P : Program} {w : World} {K : PySem.W.Frag} {mg : Str → Option Value} {base : Heap} {CF CC CN : Addr}
/-- names that texts of a program may have -/
def Txts (xs : List Str) : Prop := ∀ x ∈ xs, x.length ≤ 1000
def errIx (C : Addr) (i : Nat) (H : Hp) (E : XK) : Prop := ∀ H' d, Same H H' → H' d = none → E (.ref C) (some d) (upd H' d (.xd [(("index" : Str), .int i)]))
def sp_check_facts (K : PySem.W.Frag) (C : Addr) : Sp := fun vs H Q E => ∃ (a : Addr) (xs : List Str), vs = [.ref a] ∧ SqT K H a (xs.map V.str) ∧ Txts xs ∧ xs.length ≤ 1000 ∧
  (firstBad xs = none → ∀ H', Same H H' → Q .non H') ∧ (∀ i, firstBad xs = some i → errIx C i H E)
theorem ok_check_facts {f : Addr} {fd : FuncData} (F : Fun K "check_facts" "check_facts" s_check_facts f fd) (B : Blt mg) (mM : ∃ t, mg "MOST_FACTS" = some (.int 60 t))
    (e_InvalidFacts : ErrMk P w K mg base "InvalidFacts" CF ["self", "index"] (sp_init1 CF "index")) (c_is_name : Cal P w K mg base CX0 1 "is_name" ["value"] sp_is_name) (c_rises : Cal P w K mg base CX0 1 "rises" ["names", "index"] (sp_rises K)) :
    FnOk P w K mg base (L2.CX P w) 3 f fd ["facts"] (sp_check_facts K CF) := by
  obtain ⟨t1, mM⟩ := mM
  refine F.okX sc_check_facts (fun vs H Q E h => by obtain ⟨a, xs, rfl, _⟩ := h; rfl) (fun cdv A outer s H vs Q E hr h => ?_)
  obtain ⟨a, xs, rfl, hS, hT, hl, q, e⟩ := h
  refine ⟨_, (pss_cons (ps_if (pt_not (pt_tru (pv 0) (by intro _; rfl))) (pss_one (ps_raise rfl (takes_of rfl rfl rfl rfl) (pmk_err1 e_InvalidFacts (hr.mono (by decide)) pe_int))) pss_nil)
      (pss_one (ps_for (passes_of rfl) rfl (pi_enumT (by rfl) B.b_enumerate (pa_cons (pv 0) pa_nil)) (pg_tup (by rfl) (pgs_cons (pg_name (i := 1) sc_check_facts.nd rfl (Or.inl rfl)) (pgs_cons (pg_name (i := 2) sc_check_facts.nd rfl (Or.inl rfl)) pgs_nil))) (pss_one (ps_if (PW.pt (pw_or (pt_cmpR op_eq (pv 1) (pe_glob (v := .int 60) rfl mM ⟨_, rfl⟩) (nomark _)) (pw_or (pt_not (pt_val (pe_cal c_is_name (hr.mono (by decide)) (pa_cons (pv 2) pa_nil)))) (pw_or1 (pt_not (pt_val (pe_cal c_rises (hr.mono (by decide)) (pa_cons (pv 0) (pa_cons (pv 1) pa_nil))))))))) (pss_one (ps_raise rfl (takes_of rfl rfl rfl rfl) (pmk_err1 e_InvalidFacts (hr.mono (by decide)) (pv 1)))) pss_nil))))), ?_⟩
  refine ⟨.ref a, rfl, _, .inr (.inl ⟨_, hS, rfl⟩), bcase (fun e0 => ?_) (fun e0 => ?_)⟩
  · have ex : xs = [] := by
      cases xs with
      | nil => rfl
      | cons x r => exact Bool.noConfusion (show false = true from e0)
    exact ⟨fok_nat (i := 0) (by decide), fun d nd => e 0 (by unfold firstBad; rw [if_pos ex]) H d (Same.refl H) nd⟩
  · have ex : xs ≠ [] := fun z => by
      subst z
      exact Bool.noConfusion (show true = false from e0)
    have rz : ∀ {i : Nat} {H' : Hp}, i < xs.length → (∀ j, j < i → badAt xs j = false) → badAt xs i = true → Same H H' → ∀ d, H' d = none → E (.ref CF) (some d) (upd H' d (.xd [(("index" : Str), .int (i : Nat))])) :=
      fun {i H'} hi hb hp s d nd => e i (by unfold firstBad; rw [if_neg ex]; exact find_at hi hp hb) H' d s nd
    refine ⟨.ref a, rfl, a, _, rfl, hS, for_it walk_enumT (fun i σ H' => ∃ y1 y2, σ = [some (.ref a), y1, y2] ∧ Same H H' ∧ ∀ j, j < i → badAt xs j = false)
      ⟨none, none, rfl, Same.refl H, fun j hj => absurd hj (Nat.not_lt_zero j)⟩ (fun i σ H' _ ⟨_, _, _, s, _⟩ => s.tup hS) ?_ ?_⟩
    · rintro i x σ H2 H3 hi ⟨y1, y2, rfl, s, hb⟩ ⟨T, v1, v2, rfl, nT, rfl, h1, h2⟩
      obtain rfl : V.int (i : Nat) = v1 := Option.some.inj h1
      rw [List.length_map] at hi
      have hx : xs[i]? = some xs[i] := List.getElem?_eq_getElem hi
      obtain rfl : V.str xs[i] = v2 := strAt_inj hx h2
      have s3 : Same H (upd H2 T (.tup [.int (i : Nat), .str xs[i]])) := s.put' nT
      have rz := fun {H' : Hp} (hp : badAt xs i = true) (sH : Same H H') => rz hi hb hp sH
      refine ⟨T, [.int (i : Nat), .str xs[i]], rfl, sqT_new, rfl, _, _, rfl, _, _, rfl, rfl, ?_⟩
      refine ⟨_, rfl, rfl, _, rfl, bcase (fun c1 => ?_) (fun c1 => ?_)⟩
      · have e60 : i = 60 := by have := V.int.inj (of_decide_eq_true c1); omega
        refine iteT ⟨_, rfl, fok_nat (by omega), rz (by unfold badAt; rw [decide_eq_true e60, Bool.true_or]) s3⟩
      · have n60 : i ≠ 60 := fun z => by subst z; exact Bool.noConfusion (c1.symm.trans (decide_eq_true rfl))
        refine ⟨_, rfl, xs[i], rfl, Nat.le_trans (hT _ (List.getElem_mem hi)) (by rw [sizeLine_eq]; decide), fun H4 s4 => ⟨_, rfl, bcase (fun c2 => ?_) (fun c2 => ?_)⟩⟩
        · refine iteT ⟨_, rfl, fok_nat (by omega), rz (by unfold badAt; rw [hx, decide_eq_false n60, Bool.false_or]; show (!isName xs[i] || _) = true; rw [c2, Bool.true_or]) (s3.trans s4)⟩
        · refine ⟨.ref a, rfl, _, rfl, a, xs, i, rfl, (s3.trans s4).tup hS, hi, _, rfl, bcase (fun c3 => ?_) (fun c3 => ?_)⟩
          · exact ⟨_, rfl, fok_nat (by omega), rz (by unfold badAt; rw [hx, c3, Bool.or_true, Bool.or_true]) (s3.trans s4)⟩
          · refine ⟨_, _, rfl, s3.trans s4, fun j hj => ?_⟩
            by_cases hj2 : j < i
            · exact hb j hj2
            · have ej : j = i := by omega
              subst ej
              unfold badAt
              rw [hx, decide_eq_false n60, c3, Bool.or_false, Bool.false_or]
              exact c2
    · rintro σ H2 ⟨y1, y2, rfl, s, hb⟩
      rw [List.length_map] at hb
      exact q (by unfold firstBad; rw [if_neg ex]; exact find_none hb) H2 s
theorem flat_strs : ∀ xs : List Str, (xs.map V.str).all flatV = true
  | [] => rfl
  | _ :: r => flat_strs r
theorem inV_str {x : Str} : ∀ xs : List Str, inV (.str x) (xs.map V.str) = decide (x ∈ xs)
  | [] => rfl
  | y :: r => by
    show (eqV (.str y) (.str x) || inV (.str x) (r.map V.str)) = _
    rw [inV_str r]
    show ((y == x) || _) = _
    by_cases h : y = x
    · subst h
      simp
    · have e : (y == x) = false := by simpa using h
      rw [e, Bool.false_or]
      simp [List.mem_cons, show ¬ x = y from fun z => h z.symm]
/-- the i-th name of a case is wrong -/
def outAt (facts cs : List Str) (i : Nat) : Bool := (match cs[i]? with | some x => !decide (x ∈ facts) | none => false) || !risesAt cs i
def firstOut (facts cs : List Str) : Option Nat := (List.range cs.length).find? (outAt facts cs)
def sp_check_case (K : PySem.W.Frag) (C : Addr) : Sp := fun vs H Q E => ∃ (a b : Addr) (xs cs : List Str), vs = [.ref a, .ref b] ∧ SqT K H a (xs.map V.str) ∧ SqT K H b (cs.map V.str) ∧ cs.length ≤ 1000 ∧
  (firstOut xs cs = none → ∀ H', Same H H' → Q .non H') ∧ (∀ i, firstOut xs cs = some i → errIx C i H E)
theorem ok_check_case {f : Addr} {fd : FuncData} (F : Fun K "check_case" "check_case" s_check_case f fd) (B : Blt mg)
    (e_InvalidCase : ErrMk P w K mg base "InvalidCase" CC ["self", "index"] (sp_init1 CC "index")) (c_rises : Cal P w K mg base CX0 1 "rises" ["names", "index"] (sp_rises K)) :
    FnOk P w K mg base (L2.CX P w) 3 f fd ["facts", "case"] (sp_check_case K CC) := by
  refine F.okX sc_check_case (fun vs H Q E h => by obtain ⟨a, b, xs, cs, rfl, _⟩ := h; rfl) (fun cdv A outer s H vs Q E hr h => ?_)
  obtain ⟨a, b, xs, cs, rfl, hS, hC, hl, q, e⟩ := h
  refine ⟨_, (pss_one (ps_for (passes_of rfl) rfl (pi_enumT (by rfl) B.b_enumerate (pa_cons (pv 1) pa_nil)) (pg_tup (by rfl) (pgs_cons (pg_name (i := 2) sc_check_case.nd rfl (Or.inl rfl)) (pgs_cons (pg_name (i := 3) sc_check_case.nd rfl (Or.inl rfl)) pgs_nil))) (pss_one (ps_if (PW.pt (pw_or (pt_cmpR op_notIn_seq (pv 3) (pv 0) rfl) (pw_or1 (pt_not (pt_val (pe_cal c_rises (hr.mono (by decide)) (pa_cons (pv 1) (pa_cons (pv 2) pa_nil)))))))) (pss_one (ps_raise rfl (takes_of rfl rfl rfl rfl) (pmk_err1 e_InvalidCase (hr.mono (by decide)) (pv 2)))) pss_nil)))), ?_⟩
  refine ⟨.ref b, rfl, b, _, rfl, hC, for_it walk_enumT (fun i σ H' => ∃ y1 y2, σ = [some (.ref a), some (.ref b), y1, y2] ∧ Same H H' ∧ ∀ j, j < i → outAt xs cs j = false)
    ⟨none, none, rfl, Same.refl H, fun j hj => absurd hj (Nat.not_lt_zero j)⟩ (fun i σ H' _ ⟨_, _, _, s, _⟩ => s.tup hC) ?_ ?_⟩
  · rintro i x σ H2 H3 hi ⟨y1, y2, rfl, s, hb⟩ ⟨T, v1, v2, rfl, nT, rfl, h1, h2⟩
    obtain rfl : V.int (i : Nat) = v1 := Option.some.inj h1
    rw [List.length_map] at hi
    have hx : cs[i]? = some cs[i] := List.getElem?_eq_getElem hi
    obtain rfl : V.str cs[i] = v2 := strAt_inj hx h2
    have s3 : Same H (upd H2 T (.tup [.int (i : Nat), .str cs[i]])) := s.put' nT
    have rz : ∀ {H' : Hp}, outAt xs cs i = true → Same H H' → ∀ d, H' d = none → E (.ref CC) (some d) (upd H' d (.xd [(("index" : Str), .int (i : Nat))])) := fun {H'} hp sH d nd => e i (find_at hi hp hb) H' d sH nd
    refine ⟨T, [.int (i : Nat), .str cs[i]], rfl, sqT_new, rfl, _, _, rfl, _, _, rfl, rfl, ?_⟩
    refine ⟨.str cs[i], rfl, .ref a, rfl, a, _, rfl, .inr (s3.tup hS), rfl, flat_strs xs, _, rfl, bcase (fun c1 => ?_) (fun c1 => ?_)⟩
    · have c1 : (!decide (cs[i] ∈ xs)) = true := by rw [← inV_str]; exact c1
      exact iteT ⟨_, rfl, fok_nat (by omega), rz (by unfold outAt; rw [hx]; show (!decide (cs[i] ∈ xs) || _) = true; rw [c1, Bool.true_or]) s3⟩
    · have c1 : (!decide (cs[i] ∈ xs)) = false := by rw [← inV_str]; exact c1
      refine ⟨.ref b, rfl, _, rfl, b, cs, i, rfl, s3.tup hC, hi, _, rfl, bcase (fun c3 => ?_) (fun c3 => ?_)⟩
      · exact ⟨_, rfl, fok_nat (by omega), rz (by unfold outAt; rw [hx, c3, Bool.or_true]) s3⟩
      · refine ⟨_, _, rfl, s3, fun j hj => ?_⟩
        by_cases hj2 : j < i
        · exact hb j hj2
        · have ej : j = i := by omega
          subst ej
          unfold outAt
          rw [hx, c3, Bool.or_false]
          exact c1
  · rintro σ H2 ⟨y1, y2, rfl, s, hb⟩
    rw [List.length_map] at hb
    exact q (find_none hb) H2 s
/-- the j-th fact is among the names -/
def heldAt (facts names : List Str) (j : Nat) : Bool := match facts[j]? with | some x => decide (x ∈ names) | none => false
def bitsL (facts names : List Str) (i : Nat) : List Int := ((List.range i).filter (heldAt facts names)).map fun j => 2 ^ j
def bitsOf (facts names : List Str) : Int := (bitsL facts names facts.length).sum
theorem bitsL_more {facts names : List Str} {i : Nat} (h : heldAt facts names i = true) : bitsL facts names (i + 1) = bitsL facts names i ++ [2 ^ i] := by
  unfold bitsL
  rw [List.range_succ, List.filter_append, List.map_append]
  simp [h]
theorem bitsL_same {facts names : List Str} {i : Nat} (h : heldAt facts names i = false) : bitsL facts names (i + 1) = bitsL facts names i := by
  unfold bitsL
  rw [List.range_succ, List.filter_append, List.map_append]
  simp [h]
theorem bitsL_len {facts names : List Str} {i : Nat} : (bitsL facts names i).length ≤ i := by
  unfold bitsL
  rw [List.length_map]
  exact Nat.le_trans (List.length_filter_le _ _) (by rw [List.length_range]; exact Nat.le_refl i)
def sp_bits_of (K : PySem.W.Frag) : Sp := fun vs H Q _ => ∃ (a b : Addr) (xs cs : List Str), vs = [.ref a, .ref b] ∧ SqT K H a (xs.map V.str) ∧ SqT K H b (cs.map V.str) ∧ xs.length ≤ 1000 ∧ ∀ H', Same H H' → Q (.int (bitsOf xs cs)) H'
theorem ok_bits_of {f : Addr} {fd : FuncData} (F : Fun K "bits_of" "bits_of" s_bits_of f fd) (B : Blt mg) : FnOk P w K mg base CX0 1 f fd ["facts", "names"] (sp_bits_of K) := by
  refine F.ok sc_bits_of (fun vs H Q E h => by obtain ⟨a, b, xs, cs, rfl, _⟩ := h; rfl) (fun cdv A outer s H vs Q E hr h => ?_)
  obtain ⟨a, b, xs, cs, rfl, hS, hC, hl, q⟩ := h
  refine ⟨_, (pss_one (ps_ret (pe_callB (cr_sum rfl) (by rfl) B.b_sum PyProof.Rows.boot_sum (pa_cons (pe_lc (own := [("place", 2), ("name", 3)]) (g := gTup K 2 (gCons (gName 2) (gCons (gName 3) gNil))) rfl sc_bits_of.nd (pi_enumT (by rfl) B.b_enumerate (pa_cons (pv 0) pa_nil)) (blkOk_by (own := [("place", 2), ("name", 3)]) (N := ["facts", "names", "place", "name"]) (sc := defScope s_bits_of) (by decide +kernel)) (fun _ _ _ _ _ => (pg_tup (by rfl) (pgs_cons (pg_name (i := 2) sc_bits_of.nd rfl (Or.inl rfl)) (pgs_cons (pg_name (i := 3) sc_bits_of.nd rfl (Or.inl rfl)) pgs_nil)))) (fun _ _ _ _ _ => (pts_.re (pts_one (pt_cmpR op_in_seq (pv 3) (pv 1) rfl)) (by first | (dsimp only [Cx.blk]; done) | exact rfl))) (fun _ _ _ _ _ => (pe_.re (pe_op op_shl pe_int (pv 2)) (by first | (dsimp only [Cx.blk]; done) | exact rfl)))) pa_nil)))), ?_⟩
  refine ⟨.ref a, rfl, a, _, rfl, hS, fun D nD => lc_it walk_enumT (fun i H' => Same H H' ∧ H' D = some (.lst ((bitsL xs cs i).map V.int))) ⟨(Same.refl H).put nD, upd_same⟩ (fun _ _ _ h => h.1.tup hS) ?_ ?_⟩
  · rintro i y H2 H3 hi ⟨s, e⟩ ⟨T, v1, v2, rfl, nT, rfl, h1, h2⟩
    obtain rfl : V.int (i : Nat) = v1 := Option.some.inj h1
    rw [List.length_map] at hi
    have hx : xs[i]? = some xs[i] := List.getElem?_eq_getElem hi
    obtain rfl : V.str xs[i] = v2 := strAt_inj hx h2
    have s3 : Same H (upd H2 T (.tup [.int (i : Nat), .str xs[i]])) := s.put' nT
    have e3 : (upd H2 T (.tup [.int (i : Nat), .str xs[i]])) D = some (.lst ((bitsL xs cs i).map V.int)) := by rw [upd_ne (ne_of_none e nT)]; exact e
    have eh : heldAt xs cs i = decide (xs[i] ∈ cs) := by unfold heldAt; rw [hx]
    refine ⟨T, [.int (i : Nat), .str xs[i]], rfl, sqT_new, rfl, _, _, rfl, _, _, rfl, rfl, rfl, ?_⟩
    refine ⟨.str xs[i], rfl, .ref b, rfl, b, _, rfl, .inr (s3.tup hC), rfl, flat_strs cs, _, rfl, bcase (fun c1 => ?_) (fun c1 => ?_)⟩
    · have c1 : heldAt xs cs i = true := by rw [eh, ← inV_str]; exact c1
      refine ⟨.int (i : Nat), rfl, 1, i, rfl, rfl, ⟨by omega, by omega, by decide⟩, grow (acc := fun i => (bitsL xs cs i).map V.int) nD s3 e3 ?_ ?_⟩
      · rw [List.length_map]
        exact small1000 (Nat.le_trans bitsL_len (by omega))
      · show List.map V.int _ = _
        rw [bitsL_more c1, List.map_append]
        show _ ++ [V.int (2 ^ i)] = _ ++ [V.int (1 * 2 ^ i)]
        rw [Int.one_mul]
    · have c1 : heldAt xs cs i = false := by rw [eh, ← inV_str]; exact c1
      refine ⟨s3, ?_⟩
      rw [bitsL_same c1]
      exact e3
  · rintro H2 ⟨s, e⟩
    rw [List.length_map] at e
    exact ⟨D, bitsL xs cs xs.length, rfl, sqL_of e, q H2 s⟩
def bitAt (n : Int) (j : Nat) : Bool := Builtin.bitAnd (n / 2 ^ j) 1 != 0
def namesL (facts : List Str) (n : Int) (i : Nat) : List Str := (List.range i).filterMap fun j => if bitAt n j = true then facts[j]? else none
def namesOf (facts : List Str) (n : Int) : List Str := namesL facts n facts.length
theorem namesL_more {facts : List Str} {n : Int} {i : Nat} {x : Str} (h : bitAt n i = true) (hx : facts[i]? = some x) : namesL facts n (i + 1) = namesL facts n i ++ [x] := by
  unfold namesL
  rw [List.range_succ, List.filterMap_append]
  simp [h, hx]
theorem namesL_same {facts : List Str} {n : Int} {i : Nat} (h : bitAt n i = false) : namesL facts n (i + 1) = namesL facts n i := by
  unfold namesL
  rw [List.range_succ, List.filterMap_append]
  simp [h]
theorem namesL_len {facts : List Str} {n : Int} {i : Nat} : (namesL facts n i).length ≤ i := by
  unfold namesL
  exact Nat.le_trans (List.length_filterMap_le _ _) (by rw [List.length_range]; exact Nat.le_refl i)
def sp_names_of (K : PySem.W.Frag) : Sp := fun vs H Q _ => ∃ (a : Addr) (xs : List Str) (n : Int), vs = [.ref a, .int n] ∧ SqT K H a (xs.map V.str) ∧ xs.length ≤ 1000 ∧
  ∀ H' p, Same H H' → H' p = some (.tup ((namesOf xs n).map V.str)) → Q (.ref p) H'
theorem ok_names_of {f : Addr} {fd : FuncData} (F : Fun K "names_of" "names_of" s_names_of f fd) (B : Blt mg) : FnOk P w K mg base CX0 1 f fd ["facts", "bits"] (sp_names_of K) := by
  refine F.ok sc_names_of (fun vs H Q E h => by obtain ⟨a, xs, n, rfl, _⟩ := h; rfl) (fun cdv A outer s H vs Q E hr h => ?_)
  obtain ⟨a, xs, n, rfl, hS, hl, q⟩ := h
  refine ⟨_, (pss_one (ps_ret (pe_callTy call_tuple_of (by rfl) B.b_tuple PyProof.Rows.boot_tuple (pa_cons (pe_lc (own := [("place", 2), ("name", 3)]) (g := gTup K 2 (gCons (gName 2) (gCons (gName 3) gNil))) rfl sc_names_of.nd (pi_enumT (by rfl) B.b_enumerate (pa_cons (pv 0) pa_nil)) (blkOk_by (own := [("place", 2), ("name", 3)]) (N := ["facts", "bits", "place", "name"]) (sc := defScope s_names_of) (by decide +kernel)) (fun _ _ _ _ _ => (pg_tup (by rfl) (pgs_cons (pg_name (i := 2) sc_names_of.nd rfl (Or.inl rfl)) (pgs_cons (pg_name (i := 3) sc_names_of.nd rfl (Or.inl rfl)) pgs_nil)))) (fun _ _ _ _ _ => (pts_.re (pts_one (pt_tru (pe_op op_and (pe_op op_shr (pv 1) (pv 2)) pe_int) (by intro _; rfl))) (by first | (dsimp only [Cx.blk]; done) | exact rfl))) (fun _ _ _ _ _ => (pe_.re (pv 3) (by first | (dsimp only [Cx.blk]; done) | exact rfl)))) pa_nil)))), ?_⟩
  refine ⟨.ref a, rfl, a, _, rfl, hS, fun D nD => lc_it walk_enumT (fun i H' => Same H H' ∧ H' D = some (.lst ((namesL xs n i).map V.str))) ⟨(Same.refl H).put nD, upd_same⟩ (fun _ _ _ h => h.1.tup hS) ?_ ?_⟩
  · rintro i y H2 H3 hi ⟨s, e⟩ ⟨T, v1, v2, rfl, nT, rfl, h1, h2⟩
    obtain rfl : V.int (i : Nat) = v1 := Option.some.inj h1
    rw [List.length_map] at hi
    have hx : xs[i]? = some xs[i] := List.getElem?_eq_getElem hi
    obtain rfl : V.str xs[i] = v2 := strAt_inj hx h2
    have s3 : Same H (upd H2 T (.tup [.int (i : Nat), .str xs[i]])) := s.put' nT
    have e3 : (upd H2 T (.tup [.int (i : Nat), .str xs[i]])) D = some (.lst ((namesL xs n i).map V.str)) := by rw [upd_ne (ne_of_none e nT)]; exact e
    refine ⟨T, [.int (i : Nat), .str xs[i]], rfl, sqT_new, rfl, _, _, rfl, _, _, rfl, rfl, rfl, ?_⟩
    refine ⟨.int n, rfl, .int (i : Nat), rfl, n, i, rfl, rfl, by omega, _, 1, rfl, rfl, bitAt n i, rfl, bcase (fun c1 => ?_) (fun c1 => ?_)⟩
    · refine ⟨.str xs[i], rfl, grow (acc := fun i => (namesL xs n i).map V.str) nD s3 e3 ?_ ?_⟩
      · rw [List.length_map]
        exact small1000 (Nat.le_trans namesL_len (by omega))
      · show List.map V.str _ = _
        rw [namesL_more c1 hx, List.map_append]
        rfl
    · refine ⟨s3, ?_⟩
      rw [namesL_same c1]
      exact e3
  · rintro H2 ⟨s, e⟩
    rw [List.length_map] at e
    refine ⟨D, _, rfl, .inl ⟨sqL_of e, fun p np => q _ p (s.put' np) upd_same⟩⟩
def sp_case_number (K : PySem.W.Frag) (CF CC : Addr) : Sp := fun vs H Q E => ∃ (a b : Addr) (xs cs : List Str), vs = [.ref a, .ref b] ∧ SqT K H a (xs.map V.str) ∧ SqT K H b (cs.map V.str) ∧ Txts xs ∧ xs.length ≤ 1000 ∧ cs.length ≤ 1000 ∧
  (∀ i, firstBad xs = some i → errIx CF i H E) ∧ (firstBad xs = none → (∀ i, firstOut xs cs = some i → errIx CC i H E) ∧ (firstOut xs cs = none → ∀ H', Same H H' → Q (.int (bitsOf xs cs)) H'))
theorem ok_case_number {f : Addr} {fd : FuncData} (F : Fun K "case_number" "case_number" s_case_number f fd)
    (c_check_facts : Cal P w K mg base (L2.CX P w) 3 "check_facts" ["facts"] (sp_check_facts K CF)) (c_check_case : Cal P w K mg base (L2.CX P w) 3 "check_case" ["facts", "case"] (sp_check_case K CC)) (c_bits_of : Cal P w K mg base CX0 1 "bits_of" ["facts", "names"] (sp_bits_of K)) :
    FnOk P w K mg base (L2.CX P w) 4 f fd ["facts", "case"] (sp_case_number K CF CC) := by
  refine F.okX sc_case_number (fun vs H Q E h => by obtain ⟨a, b, xs, cs, rfl, _⟩ := h; rfl) (fun cdv A outer s H vs Q E hr h => ?_)
  obtain ⟨a, b, xs, cs, rfl, hS, hC, hT, hl, hl2, e, q⟩ := h
  refine ⟨_, (pss_cons (ps_expr (pe_calX c_check_facts (hr.mono (by decide)) (takes_of rfl rfl rfl rfl) (pa_cons (pv 0) pa_nil)))
      (pss_cons (ps_expr (pe_calX c_check_case (hr.mono (by decide)) (takes_of rfl rfl rfl rfl) (pa_cons (pv 0) (pa_cons (pv 1) pa_nil))))
      (pss_one (ps_ret (pe_cal c_bits_of (hr.mono (by decide)) (pa_cons (pv 0) (pa_cons (pv 1) pa_nil))))))), ?_⟩
  refine ⟨.ref a, rfl, a, xs, rfl, hS, hT, hl, fun e1 H1 s1 => ?_, e⟩
  obtain ⟨e2, q⟩ := q e1
  refine ⟨.ref a, rfl, .ref b, rfl, a, b, xs, cs, rfl, s1.tup hS, s1.tup hC, hl2, fun e3 H2 s2 => ?_, fun i hi H' d sH nd => e2 i hi H' d (s1.trans sH) nd⟩
  exact ⟨.ref a, rfl, .ref b, rfl, a, b, xs, cs, rfl, (s1.trans s2).tup hS, (s1.trans s2).tup hC, hl, fun H3 s3 => q e3 H3 ((s1.trans s2).trans s3)⟩
def sp_case_of (K : PySem.W.Frag) (CF CN : Addr) : Sp := fun vs H Q E => ∃ (a : Addr) (xs : List Str) (n : Int), vs = [.ref a, .int n] ∧ SqT K H a (xs.map V.str) ∧ Txts xs ∧ xs.length ≤ 1000 ∧
  (∀ i, firstBad xs = some i → errIx CF i H E) ∧ (firstBad xs = none → (¬ (0 ≤ n ∧ n < 2 ^ xs.length) → ∀ H', Same H H' → E (.ref CN) none H') ∧ (0 ≤ n ∧ n < 2 ^ xs.length → ∀ H' p, Same H H' → H' p = some (.tup ((namesOf xs n).map V.str)) → Q (.ref p) H'))
theorem ok_case_of {f : Addr} {fd : FuncData} (F : Fun K "case_of" "case_of" s_case_of f fd) (B : Blt mg) (e_InvalidNumber : ErrMk0 K mg "InvalidNumber" CN)
    (c_check_facts : Cal P w K mg base (L2.CX P w) 3 "check_facts" ["facts"] (sp_check_facts K CF)) (c_is_integer : Cal P w K mg base CX0 1 "is_integer" ["value"] (sp_is_integer K)) (c_names_of : Cal P w K mg base CX0 1 "names_of" ["facts", "bits"] (sp_names_of K)) :
    FnOk P w K mg base (L2.CX P w) 4 f fd ["facts", "number"] (sp_case_of K CF CN) := by
  refine F.okX sc_case_of (fun vs H Q E h => by obtain ⟨a, xs, n, rfl, _⟩ := h; rfl) (fun cdv A outer s H vs Q E hr h => ?_)
  obtain ⟨a, xs, n, rfl, hS, hT, hl, e, q⟩ := h
  refine ⟨_, (pss_cons (ps_expr (pe_calX c_check_facts (hr.mono (by decide)) (takes_of rfl rfl rfl rfl) (pa_cons (pv 0) pa_nil)))
      (pss_cons (ps_if (PW.pt (pw_or (pt_not (pt_val (pe_cal c_is_integer (hr.mono (by decide)) (pa_cons (pv 1) pa_nil)))) (pw_or1 (pt_not (pt_chain op_le op_lt pe_int (pv 1) (pe_op op_shl pe_int (pe_callB call_len_seq (by rfl) B.b_len PySem.boot_len (pa_cons (pv 0) pa_nil)))))))) (pss_one (ps_raise rfl (takes_of rfl rfl rfl rfl) (pmk_err0 e_InvalidNumber))) pss_nil)
      (pss_one (ps_ret (pe_cal c_names_of (hr.mono (by decide)) (pa_cons (pv 0) (pa_cons (pv 1) pa_nil))))))), ?_⟩
  refine ⟨.ref a, rfl, a, xs, rfl, hS, hT, hl, fun e1 H1 s1 => ?_, e⟩
  obtain ⟨e2, q⟩ := q e1
  refine ⟨.int n, rfl, .int n, "int", true, false, rfl, .int n, by decide +kernel, by decide +kernel, _, rfl, iteF ?_⟩
  have fin : decide (n < 1 * 2 ^ (xs.length : Int).toNat) = decide (n < 2 ^ xs.length) := by rw [Int.one_mul]; rfl
  refine ⟨.int n, rfl, _, n, rfl, rfl, _, rfl, bcase (fun c1 => ?_) (fun c1 => ?_)⟩
  · have c1 : 0 ≤ n := of_decide_eq_true c1
    refine ⟨.ref a, rfl, a, _, rfl, .inr (s1.tup hS), 1, _, rfl, rfl, ⟨by omega, by rw [List.length_map]; omega, by decide⟩, n, _, rfl, rfl, _, rfl, ?_⟩
    rw [List.length_map, fin]
    by_cases c2 : n < 2 ^ xs.length
    · rw [decide_eq_true c2]
      exact iteF ⟨.ref a, rfl, .int n, rfl, a, xs, n, rfl, s1.tup hS, hl, fun H' p sH ep => q ⟨c1, c2⟩ H' p (s1.trans sH) ep⟩
    · rw [decide_eq_false c2]
      exact iteT (e2 (fun z => c2 z.2) H1 s1)
  · have c1 : ¬ 0 ≤ n := of_decide_eq_false c1
    exact ⟨_, rfl, iteT (e2 (fun z => c1 z.1) H1 s1)⟩
end
end Sc
namespace Sc
open PySem PySem.Spec PyProof.Rows L2
/-! ### the law's draws -/
abbrev s__law_mix : Stmt := topS 34
theorem sc__law_mix : FnScope ["_law_script", "_law_seed", "_law_state", "_law_cell"] ["_law_script", "_law_seed"] (defScope s__law_mix) := ⟨rfl, rfl, rfl, by decide +kernel, rfl, by decide +kernel, by decide +kernel⟩
abbrev s__law_next : Stmt := topS 35
theorem sc__law_next : FnScope ["_law_h", "_law_limit", "_law_cell"] ["_law_h", "_law_limit"] (defScope s__law_next) := ⟨rfl, rfl, rfl, by decide +kernel, rfl, by decide +kernel, by decide +kernel⟩
abbrev s__law_facts : Stmt := topS 38
theorem sc__law_facts : FnScope ["_law_h", "_law_count", "_law_some"] ["_law_h", "_law_count"] (defScope s__law_facts) := ⟨rfl, rfl, rfl, by decide +kernel, rfl, by decide +kernel, by decide +kernel⟩
abbrev s__law_alike : Stmt := topS 36
theorem sc__law_alike : FnScope ["_law_found", "_law_due", "_law_k"] ["_law_found", "_law_due"] (defScope s__law_alike) := ⟨rfl, rfl, rfl, by decide +kernel, rfl, by decide +kernel, by decide +kernel⟩
def twelve : List Str := ["age", "bad", "cold", "dear", "early", "first", "good", "hot", "idle", "just", "keen", "late"]
/-- the state of the draws: a list at a, its cells at l -/
def RS (H : Hp) (a l : Addr) : Prop := ∃ (st k : Int) (ns : List Int), H a = some (.lst [.int st, .ref l, .int k]) ∧ H l = some (.lst (ns.map V.int)) ∧ 0 ≤ st ∧ st < 2147483647 ∧ ns.length ≤ 63 ∧ ∀ z ∈ ns, Builtin.Int.intBits z ≤ 1048576
/-- all but the draws' state stands -/
structure Kp (a l : Addr) (H H' : Hp) : Prop where
  old : RS H a l
  new : RS H' a l
  keep : ∀ b o, b ≠ a → b ≠ l → H b = some o → H' b = some o
section
variable {P : Program} {w : World} {K : PySem.W.Frag} {mg : Str → Option Value} {base : Heap} {a l : Addr} {H H' H'' : Hp}
theorem RS.ne (r : RS H a l) : a ≠ l := fun z => by
  obtain ⟨st, k, ns, h1, h2, _⟩ := r
  subst z
  rw [h1] at h2
  have e := HO.lst.inj (Option.some.inj h2)
  match ns, e with
  | [x, y, z], e => cases (List.cons.inj (List.cons.inj e).2).1
theorem RS.same (r : RS H a l) (s : Same H H') : RS H' a l := by
  obtain ⟨st, k, ns, h1, h2, q⟩ := r
  exact ⟨st, k, ns, s _ _ h1, s _ _ h2, q⟩
theorem Kp.refl (r : RS H a l) : Kp a l H H := ⟨r, r, fun _ _ _ _ e => e⟩
theorem Kp.trans (k : Kp a l H H') (k' : Kp a l H' H'') : Kp a l H H'' := ⟨k.old, k'.new, fun b o n1 n2 e => k'.keep b o n1 n2 (k.keep b o n1 n2 e)⟩
theorem Kp.of (r : RS H a l) (s : Same H H') : Kp a l H H' := ⟨r, r.same s, fun b o _ _ e => s b o e⟩
theorem Kp.same (k : Kp a l H H') (s : Same H' H'') : Kp a l H H'' := k.trans (.of k.new s)
theorem RS.no {b : Addr} (r : RS H a l) (e : H b = none) : b ≠ a ∧ b ≠ l := by
  obtain ⟨st, k, ns, h1, h2, _⟩ := r
  exact ⟨fun z => (by rw [z, h1] at e; cases e), fun z => (by rw [z, h2] at e; cases e)⟩
theorem RS.not {b : Addr} {o : HO} (r : RS H a l) (e : H b = some o) (n : ∀ xs, o ≠ .lst xs) : b ≠ a ∧ b ≠ l := by
  obtain ⟨st, k, ns, h1, h2, _⟩ := r
  exact ⟨fun z => (by rw [z, h1] at e; exact n _ (Option.some.inj e).symm), fun z => (by rw [z, h2] at e; exact n _ (Option.some.inj e).symm)⟩
theorem Kp.free {b : Addr} (k : Kp a l H H') (e : H' b = none) : H b = none := by
  cases q : H b with
  | none => rfl
  | some o =>
    obtain ⟨n1, n2⟩ := k.new.no e
    rw [k.keep b o n1 n2 q] at e
    cases e
theorem Kp.put {p : Addr} {o : HO} (k : Kp a l H H') (n : H' p = none) : Kp a l H (upd H' p o) := k.same ((Same.refl H').put n)
theorem Kp.put0 {p : Addr} {o : HO} (k : Kp a l H H') (n : H p = none) : Kp a l H (upd H' p o) := by
  obtain ⟨n1, n2⟩ := k.old.no n
  obtain ⟨st, x, ns, h1, h2, q⟩ := k.new
  exact ⟨k.old, ⟨st, x, ns, by rw [upd_ne n1.symm]; exact h1, by rw [upd_ne n2.symm]; exact h2, q⟩, fun b o m1 m2 e => by rw [upd_ne (ne_of_none e n)]; exact k.keep b o m1 m2 e⟩
theorem ixN_of {n j : Nat} (hj : j < n) : ixN n (j : Int) = some j := by
  unfold ixN
  rw [if_pos (by omega), if_pos (by omega)]
  rfl
theorem Kp.obj {b : Addr} {o : HO} (k : Kp a l H H') (e : H b = some o) (n : ∀ xs, o ≠ .lst xs) : H' b = some o := by
  obtain ⟨n1, n2⟩ := k.old.not e n
  exact k.keep b o n1 n2 e
theorem Kp.tup {b : Addr} {xs : List V} (k : Kp a l H H') (h : SqT K H b xs) : SqT K H' b xs := by
  rcases h with (h | ⟨o, h⟩) | h
  · exact .inl (.inl (k.obj h fun _ z => nomatch z))
  · exact .inl (.inr ⟨o, k.obj h fun _ z => nomatch z⟩)
  · exact .inr h
theorem bits_div {x n : Int} (h0 : 0 ≤ x) (hn : 0 < n) : Builtin.Int.intBits (x / n) ≤ Builtin.Int.intBits x := by
  have h1 : 0 ≤ x / n := Int.ediv_nonneg h0 (Int.le_of_lt hn)
  have h2 : x / n ≤ x := Int.ediv_le_self n h0
  unfold Builtin.Int.intBits
  by_cases e : x / n = 0
  · rw [e]
    exact Nat.zero_le _
  · have e2 : x ≠ 0 := fun z => by rw [z, Int.zero_ediv] at e; exact e rfl
    rw [if_neg (by simpa using e), if_neg (by simpa using e2)]
    have e3 : (x / n).natAbs.log2 ≤ x.natAbs.log2 := (Nat.le_log2 (by omega)).mpr (Nat.le_trans (Nat.log2_self_le (by omega)) (by omega))
    omega
theorem small_bits {x : Int} {k : Nat} (h : x.natAbs < 2 ^ k) : Builtin.Int.intBits x ≤ k := by
  unfold Builtin.Int.intBits
  split
  · exact Nat.zero_le k
  · rename_i e
    have e : x ≠ 0 := by simpa using e
    have := (Nat.log2_lt (n := x.natAbs) (by omega)).mpr h
    omega
def sp_mix (K : PySem.W.Frag) : Sp := fun vs H Q _ => ∃ (s : Addr) (ns : List Int) (z : Int), vs = [.ref s, .int z] ∧ SqL K H s (ns.map V.int) ∧ ns.length ≤ 63 ∧ (∀ z ∈ ns, Builtin.Int.intBits z ≤ 1048576) ∧ 0 ≤ z ∧ z < 2147483647 ∧
  ∀ H' a l, Same H H' → RS H' a l → Q (.ref a) H'
theorem ok_mix {f : Addr} {fd : FuncData} (F : Fun K "_law_mix" "_law_mix" s__law_mix f fd) (B : Blt mg) : FnOk P w K mg base CX0 1 f fd ["_law_script", "_law_seed"] (sp_mix K) := by
  refine F.ok sc__law_mix (fun vs H Q E h => by obtain ⟨s, ns, z, rfl, _⟩ := h; rfl) (fun cdv A outer s H vs Q E hr h => ?_)
  obtain ⟨s, ns, z, rfl, hS, hl, hb, z0, z1, q⟩ := h
  refine ⟨_, (pss_cons (ps_set (i := 2) sc__law_mix.nd rfl (Or.inl rfl) (pv 1))
      (pss_cons (ps_for PassesOwn.never rfl (pi_list (pv 0)) (pg_name (i := 3) sc__law_mix.nd rfl (Or.inl rfl)) (pss_one (ps_set (i := 2) sc__law_mix.nd rfl (Or.inl rfl) (pe_op op_mod (pe_callTy call_int1 (by rfl) B.b_int PyProof.Rows.boot_int (pa_cons (pe_op op_add (pe_op op_add (pe_op op_mul (pv 2) pe_int) (pe_op op_mod (pe_callTy call_int1 (by rfl) B.b_int PyProof.Rows.boot_int (pa_cons (pv 3) pa_nil)) pe_int)) pe_int) pa_nil)) pe_int))))
      (pss_one (ps_ret (pe_lst (pa_cons (pv 2) (pa_cons (pe_callTy call_list_of (by rfl) B.b_list PyProof.Rows.boot_list (pa_cons (pv 0) pa_nil)) (pa_cons pe_int pa_nil)))))))), ?_⟩
  refine ⟨_, rfl, .ref s, rfl, s, rfl, ⟨_, hS⟩, for_it walk_list (fun i σ H' => ∃ (st : Int) (y : Option V), σ = [some (.ref s), some (.int z), some (.int st), y] ∧ H' = H ∧ 0 ≤ st ∧ st < 2147483647)
    ⟨z, none, rfl, rfl, z0, z1⟩ (fun i σ H' _ ⟨_, _, _, e, _⟩ => by rw [e]; exact hS) ?_ ?_⟩
  · rintro i x σ H2 H3 hi ⟨st, y, rfl, rfl, h0, h1⟩ ⟨rfl, hx⟩
    obtain ⟨c, hc, rfl⟩ : ∃ c, ns[i]? = some c ∧ x = V.int c := by
      rw [List.getElem?_map] at hx
      cases e : ns[i]? with
      | none => rw [e] at hx; cases hx
      | some c => rw [e] at hx; exact ⟨c, rfl, (Option.some.inj hx).symm⟩
    refine ⟨_, rfl, st, 48271, rfl, rfl, .inl ⟨by omega, by omega⟩, _, rfl, .inl ⟨c, rfl, c, 2147483629, rfl, rfl, (show (0 : Int) < 2147483629 by decide), _, _, rfl, rfl, _, _, rfl, rfl, .inl ⟨_, rfl, _, 2147483647, rfl, rfl, (show (0 : Int) < 2147483647 by decide), ?_⟩⟩⟩
    exact ⟨_, _, rfl, rfl, Int.emod_nonneg _ (by decide), Int.emod_lt_of_pos _ (by decide)⟩
  · rintro σ H2 ⟨st, y, rfl, rfl, h0, h1⟩
    refine ⟨_, rfl, .ref s, rfl, s, _, rfl, .inl hS, fun l nl => ⟨(by show 3 ≤ sizeLine; decide), fun a na => q _ a l ?_ ⟨st, 0, ns, upd_same, ?_, h0, h1, hl, hb⟩⟩⟩
    · exact ((Same.refl _).put nl).put' na
    · rw [upd_ne (ne_of_none upd_same na), upd_same]
def sp_next : Sp := fun vs H Q _ => ∃ (a l : Addr) (n : Int), vs = [.ref a, .int n] ∧ RS H a l ∧ 0 < n ∧ n.natAbs.log2 < 9000 ∧ ∀ H' r, Kp a l H H' → 0 ≤ r → r < n → Q (.int r) H'
theorem ok_next {f : Addr} {fd : FuncData} (F : Fun K "_law_next" "_law_next" s__law_next f fd) (B : Blt mg) : FnOk P w K mg base CX0 1 f fd ["_law_h", "_law_limit"] sp_next := by
  refine F.ok sc__law_next (fun vs H Q E h => by obtain ⟨a, l, n, rfl, _⟩ := h; rfl) (fun cdv A outer s H vs Q E hr h => ?_)
  obtain ⟨a, l, n, rfl, hR, n0, n9, q⟩ := h
  refine ⟨_, (pss_cons (ps_set (i := 2) sc__law_next.nd rfl (Or.inl rfl) (pe_ix ix_list (pe_op op_cat (pe_ix ix_list (pv 0) pe_int (fun _ _ => rfl)) (pe_lst (pa_cons pe_int pa_nil))) (pe_op op_mod (pe_callTy call_int1 (by rfl) B.b_int PyProof.Rows.boot_int (pa_cons (pe_ix ix_list (pv 0) pe_int (fun _ _ => rfl)) pa_nil)) (pe_callB (call_max2 rfl) (by rfl) B.b_max PyProof.Rows.boot_max (pa_cons pe_int (pa_cons (pe_callB call_len_seq (by rfl) B.b_len PySem.boot_len (pa_cons (pe_ix ix_list (pv 0) pe_int (fun _ _ => rfl)) pa_nil)) pa_nil)))) (fun _ _ => rfl)))
      (pss_cons (ps_if (pt_cmpR op_ge (pv 2) (pe_op op_pow pe_int pe_int) (nomark _)) (pss_cons (ps_asg (pe_op op_fdivW (pv 2) (pv 1)) (pg_sub (pe_ix ix_list (pv 0) pe_int (fun _ _ => rfl)) (pe_op op_mod (pe_callTy call_int1 (by rfl) B.b_int PyProof.Rows.boot_int (pa_cons (pe_ix ix_list (pv 0) pe_int (fun _ _ => rfl)) pa_nil)) (pe_callB call_len_seq (by rfl) B.b_len PySem.boot_len (pa_cons (pe_ix ix_list (pv 0) pe_int (fun _ _ => rfl)) pa_nil))) set_list))
      (pss_one (ps_ret (pe_op op_mod (pe_callTy call_int1 (by rfl) B.b_int PyProof.Rows.boot_int (pa_cons (pv 2) pa_nil)) (pv 1))))) pss_nil)
      (pss_cons (ps_asg (pe_op op_mod (pe_callTy call_int1 (by rfl) B.b_int PyProof.Rows.boot_int (pa_cons (pe_op op_add (pe_op op_add (pe_op op_mul (pe_ix ix_list (pv 0) pe_int (fun _ _ => rfl)) pe_int) (pe_op op_mulX (pv 2) pe_int)) pe_int) pa_nil)) pe_int) (pg_sub (pv 0) pe_int set_list))
      (pss_cons (ps_asg (pe_op op_add (pe_ix ix_list (pv 0) pe_int (fun _ _ => rfl)) pe_int) (pg_sub (pv 0) pe_int set_list))
      (pss_one (ps_ret (pe_op op_mod (pe_callTy call_int1 (by rfl) B.b_int PyProof.Rows.boot_int (pa_cons (pe_op op_fdiv (pe_ix ix_list (pv 0) pe_int (fun _ _ => rfl)) pe_int) pa_nil)) (pv 1)))))))), ?_⟩
  obtain ⟨st, k, ns, ha, hl, s0, s1, hlen, hb⟩ := id hR
  have nal := hR.ne
  have hm0 : 0 < (if ((ns.map V.int).length : Int) > 1 then ((ns.map V.int).length : Int) else 1) := by
    split <;> omega
  have hmx : (if ((ns.map V.int).length : Int) > 1 then ((ns.map V.int).length : Int) else 1) ≤ ns.length + 1 := by
    rw [List.length_map]
    split <;> omega
  have hcell : ∃ (j : Nat) (c : Int), k % (if ((ns.map V.int).length : Int) > 1 then ((ns.map V.int).length : Int) else 1) = j ∧ (ns.map V.int ++ [V.int 0])[j]? = some (.int c) ∧ (10 ^ 18 ≤ c → j < ns.length ∧ ns[j]? = some c ∧ k % (ns.length : Int) = j) ∧ Builtin.Int.intBits c ≤ 1048576 := by
    have r0 := Int.emod_nonneg k (Int.ne_of_gt hm0)
    have r1 := Int.emod_lt_of_pos k hm0
    obtain ⟨j, ej⟩ := Int.eq_ofNat_of_zero_le r0
    have ej : k % (if ((ns.map V.int).length : Int) > 1 then ((ns.map V.int).length : Int) else 1) = (j : Int) := ej
    by_cases hj : j < ns.length
    · refine ⟨j, ns[j], ej, ?_, fun _ => ⟨hj, List.getElem?_eq_getElem hj, ?_⟩, hb _ (List.getElem_mem hj)⟩
      · rw [List.getElem?_append_left (by rw [List.length_map]; exact hj), List.getElem?_map, List.getElem?_eq_getElem hj]
        rfl
      · rw [← ej, List.length_map]
        by_cases h1 : (ns.length : Int) > 1
        · rw [if_pos h1]
        · rw [if_neg h1]
          have e1 : (ns.length : Int) = 1 := by omega
          rw [e1]
    · have ejn : j = ns.length := by omega
      refine ⟨j, 0, ej, ?_, fun z => absurd z (by decide), by decide⟩
      rw [List.getElem?_append_right (by rw [List.length_map]; omega), List.length_map, ejn, Nat.sub_self]
      rfl
  obtain ⟨j, c, ej, gc, big, hc⟩ := hcell
  refine ⟨.ref a, rfl, a, _, 1, .ref l, rfl, rfl, sqL_of ha, atI_nat (j := 1) rfl, (by show 1 ≤ sizeLine; decide), fun p np => ?_⟩
  have npa := ne_of_none ha np
  have npl := ne_of_none hl np
  refine ⟨l, p, ns.map V.int, [.int 0], rfl, rfl, by rw [upd_ne npl]; exact hl, upd_same, by rw [List.length_map, sizeLine_eq]; show ns.length + 1 ≤ _; omega, fun p2 np2 => ?_⟩
  have np2' : H p2 = none := by
    cases e : H p2 with
    | none => rfl
    | some o => rw [upd_ne (ne_of_none e np)] at np2; rw [e] at np2; cases np2
  have s2 : Same H (upd (upd H p (.lst [.int 0])) p2 (.lst (ns.map V.int ++ [.int 0]))) := ((Same.refl H).put np).put np2'
  generalize hH2 : upd (upd H p (.lst [.int 0])) p2 (.lst (ns.map V.int ++ [.int 0])) = H2 at s2
  have hp2 : H2 p2 = some (.lst (ns.map V.int ++ [.int 0])) := by rw [← hH2, upd_same]
  have ha2 := s2 _ _ ha
  have hl2 := s2 _ _ hl
  refine ⟨.ref a, rfl, a, _, 2, .int k, rfl, rfl, sqL_of ha2, atI_nat (j := 2) rfl, .inl ⟨k, rfl, ?_⟩⟩
  refine ⟨.ref a, rfl, a, _, 1, .ref l, rfl, rfl, sqL_of ha2, atI_nat (j := 1) rfl, l, _, rfl, .inl (sqL_of hl2), 1, _, rfl, ?_⟩
  refine ⟨k, _, rfl, rfl, hm0, p2, _, _, .int c, rfl, rfl, sqL_of hp2, at_of ej gc, ?_⟩
  refine ⟨.int c, rfl, 10, 18, rfl, rfl, ⟨by decide, by decide, by decide⟩, c, 10 ^ 18, rfl, rfl, _, rfl, bcase (fun c1 => ?_) (fun c1 => ?_)⟩
  · have c1 : (10 : Int) ^ 18 ≤ c := of_decide_eq_true c1
    obtain ⟨hj, gj, ej2⟩ := big c1
    have hlp : 0 < (ns.length : Int) := by omega
    refine ⟨_, rfl, .int n, rfl, c, n, rfl, rfl, ⟨n0, n9⟩, .ref a, rfl, a, _, 1, .ref l, rfl, rfl, sqL_of ha2, atI_nat (j := 1) rfl, .ref a, rfl, a, _, 2, .int k, rfl, rfl, sqL_of ha2, atI_nat (j := 2) rfl, .inl ⟨k, rfl, ?_⟩⟩
    refine ⟨.ref a, rfl, a, _, 1, .ref l, rfl, rfl, sqL_of ha2, atI_nat (j := 1) rfl, l, _, rfl, .inl (sqL_of hl2), k, _, rfl, rfl, by rw [List.length_map]; exact hlp, l, _, _, j, rfl, rfl, hl2, ?_, ?_⟩
    · rw [List.length_map, ej2]
      unfold ixN
      rw [if_pos (by omega), if_pos (by omega)]
      rfl
    · refine ⟨.int c, rfl, .inl ⟨c, rfl, .int n, rfl, c, n, rfl, rfl, n0, q _ _ ⟨hR, ?_, fun b o n1 n2 e => ?_⟩ (Int.emod_nonneg _ (Int.ne_of_gt n0)) (Int.emod_lt_of_pos _ n0)⟩⟩
      · refine ⟨st, k, ns.set j (c / n), by rw [upd_ne nal]; exact ha2, by rw [upd_same, List.map_set], s0, s1, by rw [List.length_set]; exact hlen, fun z hz => ?_⟩
        rcases List.mem_or_eq_of_mem_set hz with h | h
        · exact hb z h
        · rw [h]
          exact Nat.le_trans (bits_div (by omega) n0) hc
      · rw [upd_ne n2]
        exact s2 b o e
  · refine ⟨.ref a, rfl, a, _, 0, .int st, rfl, rfl, sqL_of ha2, atI_nat (j := 0) rfl, st, 48271, rfl, rfl, .inl ⟨by omega, by omega⟩, .int c, rfl, c, 69621, rfl, rfl, ?_, _, _, rfl, rfl, _, 11, rfl, rfl, .inl ⟨_, rfl, _, 2147483647, rfl, rfl, (show (0 : Int) < 2147483647 by decide), .ref a, rfl, ?_⟩⟩
    · show (Builtin.Int.intBits c : Int) + (Builtin.Int.intBits 69621 : Int) ≤ 134217728
      have e1 : Builtin.Int.intBits 69621 ≤ 20 := small_bits (by decide)
      omega
    have z0 : 0 ≤ (st * 48271 + c * 69621 + 11) % 2147483647 := Int.emod_nonneg _ (by decide)
    have z1 : (st * 48271 + c * 69621 + 11) % 2147483647 < 2147483647 := Int.emod_lt_of_pos _ (by decide)
    refine ⟨a, _, 0, 0, rfl, rfl, ha2, rfl, ?_⟩
    refine ⟨.ref a, rfl, a, _, 2, .int k, rfl, rfl, sqL_of upd_same, atI_nat (j := 2) rfl, k, 1, rfl, rfl, .ref a, rfl, a, _, 2, 2, rfl, rfl, upd_same, rfl, ?_⟩
    refine ⟨.ref a, rfl, a, _, 0, .int ((st * 48271 + c * 69621 + 11) % 2147483647), rfl, rfl, sqL_of upd_same, atI_nat (j := 0) rfl, _, 7, rfl, rfl, ⟨by decide, by decide⟩, .inl ⟨_, rfl, .int n, rfl, _, n, rfl, rfl, n0, q _ _ ⟨hR, ?_, fun b o n1 n2 e => ?_⟩ (Int.emod_nonneg _ (Int.ne_of_gt n0)) (Int.emod_lt_of_pos _ n0)⟩⟩
    · exact ⟨_, k + 1, ns, upd_same, by rw [upd_ne nal.symm, upd_ne nal.symm]; exact hl2, z0, z1, hlen, hb⟩
    · rw [upd_ne n1, upd_ne n1]
      exact s2 b o e
theorem map_eraseIdx {α β : Type} {f : α → β} : ∀ (xs : List α) (j : Nat), (xs.map f).eraseIdx j = (xs.eraseIdx j).map f
  | [], _ => rfl
  | _ :: _, 0 => rfl
  | x :: r, j + 1 => by
    show f x :: (r.map f).eraseIdx j = f x :: (r.eraseIdx j).map f
    rw [map_eraseIdx r j]
/-- some of the twelve facts, in their order -/
def sp_facts : Sp := fun vs H Q _ => ∃ (a l : Addr) (c : Int), vs = [.ref a, .int c] ∧ RS H a l ∧ 0 ≤ c ∧ ∀ H' p fs, Kp a l H H' → H' p = some (.tup (fs.map V.str)) → H p = none → List.Sublist fs twelve → (fs.length : Int) ≤ c → (c ≤ 12 → (fs.length : Int) = c) → Q (.ref p) H'
theorem ok_facts {f : Addr} {fd : FuncData} (F : Fun K "_law_facts" "_law_facts" s__law_facts f fd) (B : Blt mg) (c__law_next : Cal P w K mg base CX0 1 "_law_next" ["_law_h", "_law_limit"] sp_next) : FnOk P w K mg base CX0 2 f fd ["_law_h", "_law_count"] sp_facts := by
  refine F.ok sc__law_facts (fun vs H Q E h => by obtain ⟨a, l, c, rfl, _⟩ := h; rfl) (fun cdv A outer s H vs Q E hr h => ?_)
  obtain ⟨a, l, c, rfl, hR, c0, q⟩ := h
  refine ⟨_, (pss_cons (ps_set (i := 2) sc__law_facts.nd rfl (Or.inl rfl) (pe_lst (pa_cons pe_str (pa_cons pe_str (pa_cons pe_str (pa_cons pe_str (pa_cons pe_str (pa_cons pe_str (pa_cons pe_str (pa_cons pe_str (pa_cons pe_str (pa_cons pe_str (pa_cons pe_str (pa_cons pe_str pa_nil))))))))))))))
      (pss_cons (ps_while PassesOwn.never (pt_cmpR op_gt (pe_callB call_len_seq (by rfl) B.b_len PySem.boot_len (pa_cons (pv 2) pa_nil)) (pv 1) (nomark _)) (pss_one (ps_expr (pe_bm PySem.F.plainAttrs_list PySem.F.slot_list_pop PySem.F.type_list_pop mt_popAt (pv 2) (pa_cons (pe_cal c__law_next (hr.mono (by decide)) (pa_cons (pv 0) (pa_cons (pe_callB call_len_seq (by rfl) B.b_len PySem.boot_len (pa_cons (pv 2) pa_nil)) pa_nil))) pa_nil)))))
      (pss_one (ps_ret (pe_callTy call_tuple_of (by rfl) B.b_tuple PyProof.Rows.boot_tuple (pa_cons (pv 2) pa_nil)))))), ?_⟩
  refine ⟨(by show 12 ≤ sizeLine; decide), fun p np => ?_⟩
  obtain ⟨npa, npl⟩ := hR.no np
  refine ⟨fun m σ H' => ∃ zs : List Str, m = zs.length ∧ σ = [some (.ref a), some (.int c), some (.ref p)] ∧ Kp a l H H' ∧ H' p = some (.lst (zs.map V.str)) ∧ List.Sublist zs twelve ∧ (c ≤ zs.length ∨ zs = twelve),
    ⟨_, twelve, rfl, rfl, (Kp.refl hR).put np, upd_same, List.Sublist.refl _, .inr rfl⟩, ?_⟩
  rintro m σ H1 ⟨zs, rfl, rfl, k1, e1, sb, hc⟩
  have hz : zs.length ≤ 12 := sb.length_le
  refine ⟨.ref p, rfl, p, _, rfl, .inl (sqL_of e1), .int c, rfl, _, c, rfl, rfl, _, rfl, bcase (fun t1 => ?_) (fun t1 => ?_)⟩
  · have t1 : c < ((zs.map V.str).length : Int) := of_decide_eq_true t1
    rw [List.length_map] at t1
    refine ⟨fun σ' H' => ∃ zs' : List Str, zs'.length < zs.length ∧ (σ' = [some (.ref a), some (.int c), some (.ref p)] ∧ Kp a l H H' ∧ H' p = some (.lst (zs'.map V.str)) ∧ List.Sublist zs' twelve ∧ (c ≤ zs'.length ∨ zs' = twelve)),
      fun σ' H' ⟨zs', lt, x⟩ => ⟨_, lt, zs', rfl, x⟩, ?_⟩
    refine ⟨.ref p, rfl, .inl ⟨rfl, _, sqL_of e1⟩, .ref a, rfl, .ref p, rfl, p, _, rfl, .inl (sqL_of e1), a, l, _, rfl, k1.new, by rw [List.length_map]; omega, ?_, fun H2 r k2 r0 r1 => ?_⟩
    · rw [List.length_map]
      exact Nat.lt_of_le_of_lt (Nat.log2_le_self _) (by show zs.length < 9000; omega)
    · have e2 : H2 p = some (.lst (zs.map V.str)) := k2.keep p _ npa npl e1
      rw [List.length_map] at r1
      obtain ⟨j, rfl⟩ := Int.eq_ofNat_of_zero_le r0
      have hj : j < zs.length := by omega
      have hj' : j < (zs.map V.str).length := by rw [List.length_map]; exact hj
      refine ⟨p, _, _, j, _, rfl, rfl, e2, by omega, by omega, (ixN_seq (ixN_of hj')).1, List.getElem?_eq_getElem hj', zs.eraseIdx j, ?_, rfl, (k1.trans k2).put0 np, ?_, (List.eraseIdx_sublist zs j).trans sb, ?_⟩
      · rw [List.length_eraseIdx_of_lt hj]
        omega
      · rw [upd_same, map_eraseIdx]
      · rw [List.length_eraseIdx_of_lt hj]
        exact .inl (by omega)
  · have t1 : ¬ c < ((zs.map V.str).length : Int) := of_decide_eq_false t1
    rw [List.length_map] at t1
    refine ⟨.ref p, rfl, p, _, rfl, .inl ⟨sqL_of e1, fun t nt => q _ t zs (k1.put nt) upd_same (k1.free nt) sb (by omega) (fun h => ?_)⟩⟩
    rcases hc with h2 | h2
    · omega
    · rw [h2] at t1 ⊢
      have : twelve.length = 12 := rfl
      omega
/-- what stands at a value, read as data, at most n lists or tuples deep -/
inductive AD (H : Hp) : Nat → V → PyData → Prop where
  | non (n : Nat) : AD H n .non .none
  | bl (n : Nat) (b : Bool) : AD H n (.bl b) (.bool b)
  | int (n : Nat) (i : Int) : AD H n (.int i) (.int i)
  | str (n : Nat) (x : Str) : AD H n (.str x) (.str x)
  | lst {n : Nat} {a : Addr} {xs : List V} {ds : List PyData} (e : H a = some (.lst xs)) (l : xs.length = ds.length) (z : xs.length ≤ 1000000) (all : ∀ (i : Nat) (x : V) (d : PyData), xs[i]? = some x → ds[i]? = some d → AD H n x d) : AD H (n + 1) (.ref a) (.list ds)
  | tup {n : Nat} {a : Addr} {xs : List V} {ds : List PyData} (e : H a = some (.tup xs)) (l : xs.length = ds.length) (z : xs.length ≤ 1000000) (all : ∀ (i : Nat) (x : V) (d : PyData), xs[i]? = some x → ds[i]? = some d → AD H n x d) : AD H (n + 1) (.ref a) (.tuple ds)
theorem AD.same {n : Nat} {x : V} {d : PyData} (s : Same H H') (h : AD H n x d) : AD H' n x d := by
  induction h with
  | non n => exact .non n
  | bl n b => exact .bl n b
  | int n i => exact .int n i
  | str n x => exact .str n x
  | lst e l z all ih => exact .lst (s _ _ e) l z ih
  | tup e l z all ih => exact .tup (s _ _ e) l z ih
def sp_alike (n : Nat) : Sp := fun vs H Q _ => ∃ (x y : V) (d : PyData), vs = [x, y] ∧ AD H n x d ∧ AD H n y d ∧ ∀ H', Same H H' → Q (.bl true) H'
/-- the answer where no list or tuple stands -/
theorem ok_alike0 {f : Addr} {fd : FuncData} (F : Fun K "_law_alike" "_law_alike" s__law_alike f fd) (B : Blt mg) : FnOk P w K mg base CX0 1 f fd ["_law_found", "_law_due"] (sp_alike 0) := by
  refine F.ok sc__law_alike (fun vs H Q E h => by obtain ⟨x, y, d, rfl, _⟩ := h; rfl) (fun cdv A outer s H vs Q E hr h => ?_)
  obtain ⟨x, y, d, rfl, hx, hy, q⟩ := h
  refine ⟨_, (pss_cons (ps_if (pt_val (pe_callB (call_isT "dict") (by rfl) B.b_isinstance PyProof.Rows.boot_isinstance (pa_cons (pv 1) (pa_cons (pe_bltn (v := .ty "dict") (by rfl) B.b_dict (by decide +kernel) rfl) pa_nil)))) pss_never pss_nil)
      (pss_cons (ps_if (pt_val (pe_callB call_isiT (by rfl) B.b_isinstance PyProof.Rows.boot_isinstance (pa_cons (pv 1) (pa_cons (pe_tup (pa_cons (pe_bltn (v := .ty "tuple") (by rfl) B.b_tuple PyProof.Rows.boot_tuple rfl) (pa_cons (pe_bltn (v := .ty "list") (by rfl) B.b_list PyProof.Rows.boot_list rfl) pa_nil))) pa_nil)))) pss_never pss_nil)
      (pss_cons (ps_if (PW.pt (pw_or (pt_cmpR op_isN (pv 1) pe_non (nomark _)) (pw_or1 (pt_val (pe_callB (call_isT "str") (by rfl) B.b_isinstance PyProof.Rows.boot_isinstance (pa_cons (pv 1) (pa_cons (pe_bltn (v := .ty "str") (by rfl) B.b_str PyProof.Rows.boot_str rfl) pa_nil))))))) (pss_one (ps_ret (pe_and (pe_cmpR op_eq (pv 0) (pv 1) (nomark _)) (pe_one (pe_cmpR op_eq (pe_callB (call_isT "str") (by rfl) B.b_isinstance PyProof.Rows.boot_isinstance (pa_cons (pv 0) (pa_cons (pe_bltn (v := .ty "str") (by rfl) B.b_str PyProof.Rows.boot_str rfl) pa_nil))) (pe_callB (call_isT "str") (by rfl) B.b_isinstance PyProof.Rows.boot_isinstance (pa_cons (pv 1) (pa_cons (pe_bltn (v := .ty "str") (by rfl) B.b_str PyProof.Rows.boot_str rfl) pa_nil))) (nomark _)))))) pss_nil)
      (pss_one (ps_ret (pe_and (pe_callB (call_isT "int") (by rfl) B.b_isinstance PyProof.Rows.boot_isinstance (pa_cons (pv 0) (pa_cons (pe_bltn (v := .ty "int") (by rfl) B.b_int PyProof.Rows.boot_int rfl) pa_nil))) (pe_and (pe_cmpR op_eq (pe_callB (call_isT "bool") (by rfl) B.b_isinstance PyProof.Rows.boot_isinstance (pa_cons (pv 0) (pa_cons (pe_bltn (v := .ty "bool") (by rfl) B.b_bool PyProof.Rows.boot_bool rfl) pa_nil))) (pe_callB (call_isT "bool") (by rfl) B.b_isinstance PyProof.Rows.boot_isinstance (pa_cons (pv 1) (pa_cons (pe_bltn (v := .ty "bool") (by rfl) B.b_bool PyProof.Rows.boot_bool rfl) pa_nil))) (nomark _)) (pe_one (pe_cmpR op_eq (pv 0) (pv 1) (nomark _)))))))))), ?_⟩
  cases hx with
  | non _ =>
    cases hy
    refine ⟨_, rfl, _, "NoneType", false, rfl, .non, by decide +kernel, false, rfl, iteF ?_⟩
    refine ⟨_, rfl, (by show 2 ≤ sizeLine; decide), fun tp ntp => ⟨_, tp, _, .type "NoneType", [.type "tuple", .type "list"], false, rfl, upd_same, .cons (.ty _) (.cons (.ty _) .nil), .base (.non), kitAny_cons (b := false) (kit_ty (by decide +kernel)) (fun _ => kitAny_cons (b := false) (kit_ty (by decide +kernel)) (fun _ => kitAny_nil) (fun z => nomatch z)) (fun z => nomatch z), false, rfl, iteF ?_⟩⟩
    have s1 : Same H (upd H tp (.tup [.ty "tuple", .ty "list"])) := (Same.refl H).put ntp
    refine ⟨_, rfl, rfl, true, rfl, iteT (iteT ?_)⟩
    refine ⟨_, rfl, _, rfl, rfl, decide (V.non = V.non), rfl, ?_⟩
    rw [decide_eq_true rfl]
    refine iteT ?_
    refine ⟨_, rfl, _, "NoneType", false, rfl, .non, by decide +kernel, _, rfl, _, "NoneType", false, rfl, .non, by decide +kernel, rfl, ?_⟩
    exact q _ s1
  | bl _ b =>
    cases hy
    refine ⟨_, rfl, _, "bool", false, rfl, .bl b, by decide +kernel, false, rfl, iteF ?_⟩
    refine ⟨_, rfl, (by show 2 ≤ sizeLine; decide), fun tp ntp => ⟨_, tp, _, .type "bool", [.type "tuple", .type "list"], false, rfl, upd_same, .cons (.ty _) (.cons (.ty _) .nil), .base (.bl b), kitAny_cons (b := false) (kit_ty (by decide +kernel)) (fun _ => kitAny_cons (b := false) (kit_ty (by decide +kernel)) (fun _ => kitAny_nil) (fun z => nomatch z)) (fun z => nomatch z), false, rfl, iteF ?_⟩⟩
    have s1 : Same H (upd H tp (.tup [.ty "tuple", .ty "list"])) := (Same.refl H).put ntp
    refine ⟨_, rfl, rfl, false, rfl, iteF ⟨_, rfl, _, "bool", false, rfl, .bl b, by decide +kernel, false, rfl, iteF ?_⟩⟩
    refine ⟨_, rfl, _, "bool", true, rfl, .bl b, by decide +kernel, true, rfl, iteT ?_⟩
    refine ⟨_, rfl, _, "bool", true, rfl, .bl b, by decide +kernel, _, rfl, _, "bool", true, rfl, .bl b, by decide +kernel, rfl, true, rfl, iteT ?_⟩
    refine ⟨_, rfl, _, rfl, rfl, ?_⟩
    rw [decide_eq_true rfl]
    exact q _ s1
  | int _ i =>
    cases hy
    refine ⟨_, rfl, _, "int", false, rfl, .int i, by decide +kernel, false, rfl, iteF ?_⟩
    refine ⟨_, rfl, (by show 2 ≤ sizeLine; decide), fun tp ntp => ⟨_, tp, _, .type "int", [.type "tuple", .type "list"], false, rfl, upd_same, .cons (.ty _) (.cons (.ty _) .nil), .base (.int i), kitAny_cons (b := false) (kit_ty (by decide +kernel)) (fun _ => kitAny_cons (b := false) (kit_ty (by decide +kernel)) (fun _ => kitAny_nil) (fun z => nomatch z)) (fun z => nomatch z), false, rfl, iteF ?_⟩⟩
    have s1 : Same H (upd H tp (.tup [.ty "tuple", .ty "list"])) := (Same.refl H).put ntp
    refine ⟨_, rfl, rfl, false, rfl, iteF ⟨_, rfl, _, "int", false, rfl, .int i, by decide +kernel, false, rfl, iteF ?_⟩⟩
    refine ⟨_, rfl, _, "int", true, rfl, .int i, by decide +kernel, true, rfl, iteT ?_⟩
    refine ⟨_, rfl, _, "int", false, rfl, .int i, by decide +kernel, _, rfl, _, "int", false, rfl, .int i, by decide +kernel, rfl, true, rfl, iteT ?_⟩
    refine ⟨_, rfl, _, rfl, rfl, ?_⟩
    rw [decide_eq_true rfl]
    exact q _ s1
  | str _ x =>
    cases hy
    refine ⟨_, rfl, _, "str", false, rfl, .str x, by decide +kernel, false, rfl, iteF ?_⟩
    refine ⟨_, rfl, (by show 2 ≤ sizeLine; decide), fun tp ntp => ⟨_, tp, _, .type "str", [.type "tuple", .type "list"], false, rfl, upd_same, .cons (.ty _) (.cons (.ty _) .nil), .base (.str x), kitAny_cons (b := false) (kit_ty (by decide +kernel)) (fun _ => kitAny_cons (b := false) (kit_ty (by decide +kernel)) (fun _ => kitAny_nil) (fun z => nomatch z)) (fun z => nomatch z), false, rfl, iteF ?_⟩⟩
    have s1 : Same H (upd H tp (.tup [.ty "tuple", .ty "list"])) := (Same.refl H).put ntp
    refine ⟨_, rfl, rfl, false, rfl, iteF ⟨_, rfl, _, "str", true, rfl, .str x, by decide +kernel, true, rfl, iteT ?_⟩⟩
    refine ⟨_, rfl, _, rfl, rfl, decide (V.str x = V.str x), rfl, ?_⟩
    rw [decide_eq_true rfl]
    refine iteT ?_
    refine ⟨_, rfl, _, "str", true, rfl, .str x, by decide +kernel, _, rfl, _, "str", true, rfl, .str x, by decide +kernel, rfl, ?_⟩
    exact q _ s1
theorem ok_alike {n : Nat} {f : Addr} {fd : FuncData} (F : Fun K "_law_alike" "_law_alike" s__law_alike f fd) (B : Blt mg) (c__law_alike : Cal P w K mg base CX0 (n + 1) "_law_alike" ["_law_found", "_law_due"] (sp_alike n)) : FnOk P w K mg base CX0 (n + 2) f fd ["_law_found", "_law_due"] (sp_alike (n + 1)) := by
  refine F.ok sc__law_alike (fun vs H Q E h => by obtain ⟨x, y, d, rfl, _⟩ := h; rfl) (fun cdv A outer s H vs Q E hr h => ?_)
  obtain ⟨x, y, d, rfl, hx, hy, q⟩ := h
  refine ⟨_, (pss_cons (ps_if (pt_val (pe_callB (call_isT "dict") (by rfl) B.b_isinstance PyProof.Rows.boot_isinstance (pa_cons (pv 1) (pa_cons (pe_bltn (v := .ty "dict") (by rfl) B.b_dict (by decide +kernel) rfl) pa_nil)))) pss_never pss_nil)
      (pss_cons (ps_if (pt_val (pe_callB call_isiT (by rfl) B.b_isinstance PyProof.Rows.boot_isinstance (pa_cons (pv 1) (pa_cons (pe_tup (pa_cons (pe_bltn (v := .ty "tuple") (by rfl) B.b_tuple PyProof.Rows.boot_tuple rfl) (pa_cons (pe_bltn (v := .ty "list") (by rfl) B.b_list PyProof.Rows.boot_list rfl) pa_nil))) pa_nil)))) (pss_cons (ps_if (PW.pt (pw_or (pt_not (pt_val (pe_callB call_isiT (by rfl) B.b_isinstance PyProof.Rows.boot_isinstance (pa_cons (pv 0) (pa_cons (pe_tup (pa_cons (pe_bltn (v := .ty "tuple") (by rfl) B.b_tuple PyProof.Rows.boot_tuple rfl) (pa_cons (pe_bltn (v := .ty "list") (by rfl) B.b_list PyProof.Rows.boot_list rfl) pa_nil))) pa_nil))))) (pw_or1 (pt_cmpR op_ne (pe_callB (call_isT "list") (by rfl) B.b_isinstance PyProof.Rows.boot_isinstance (pa_cons (pv 0) (pa_cons (pe_bltn (v := .ty "list") (by rfl) B.b_list PyProof.Rows.boot_list rfl) pa_nil))) (pe_callB (call_isT "list") (by rfl) B.b_isinstance PyProof.Rows.boot_isinstance (pa_cons (pv 1) (pa_cons (pe_bltn (v := .ty "list") (by rfl) B.b_list PyProof.Rows.boot_list rfl) pa_nil))) (nomark _))))) (pss_one (ps_ret pe_bl)) pss_nil)
      (pss_cons (ps_if (pt_cmpR op_ne (pe_callB call_len_seq (by rfl) B.b_len PySem.boot_len (pa_cons (pv 0) pa_nil)) (pe_callB call_len_seq (by rfl) B.b_len PySem.boot_len (pa_cons (pv 1) pa_nil)) (nomark _)) (pss_one (ps_ret pe_bl)) pss_nil)
      (pss_one (ps_ret (pe_cmpR (op_eqD hr.units) (pe_lc (own := [("_law_k", 2)]) (g := gName 2) rfl sc__law_alike.nd (pi_range1 (by rfl) B.b_range (pa_cons (pe_callB call_len_seq (by rfl) B.b_len PySem.boot_len (pa_cons (pv 1) pa_nil)) pa_nil)) (blkOk_by (own := [("_law_k", 2)]) (N := ["_law_found", "_law_due", "_law_k"]) (sc := defScope s__law_alike) (by decide +kernel)) (fun _ _ _ _ _ => (pg_name (i := 2) sc__law_alike.nd rfl (Or.inl rfl))) (fun _ _ _ _ _ => (pts_.re (pts_one (pt_not (pt_val (pe_cal c__law_alike hr (pa_cons (pe_ix ix_seq (pv 0) (pv 2) (fun _ _ => rfl)) (pa_cons (pe_ix ix_seq (pv 1) (pv 2) (fun _ _ => rfl)) pa_nil)))))) (by first | (dsimp only [Cx.blk]; done) | exact rfl))) (fun _ _ _ _ _ => (pe_.re (pv 2) (by first | (dsimp only [Cx.blk]; done) | exact rfl)))) (pe_lst pa_nil) (nomark _)))))) pss_nil)
      (pss_cons (ps_if (PW.pt (pw_or (pt_cmpR op_isN (pv 1) pe_non (nomark _)) (pw_or1 (pt_val (pe_callB (call_isT "str") (by rfl) B.b_isinstance PyProof.Rows.boot_isinstance (pa_cons (pv 1) (pa_cons (pe_bltn (v := .ty "str") (by rfl) B.b_str PyProof.Rows.boot_str rfl) pa_nil))))))) (pss_one (ps_ret (pe_and (pe_cmpR op_eq (pv 0) (pv 1) (nomark _)) (pe_one (pe_cmpR op_eq (pe_callB (call_isT "str") (by rfl) B.b_isinstance PyProof.Rows.boot_isinstance (pa_cons (pv 0) (pa_cons (pe_bltn (v := .ty "str") (by rfl) B.b_str PyProof.Rows.boot_str rfl) pa_nil))) (pe_callB (call_isT "str") (by rfl) B.b_isinstance PyProof.Rows.boot_isinstance (pa_cons (pv 1) (pa_cons (pe_bltn (v := .ty "str") (by rfl) B.b_str PyProof.Rows.boot_str rfl) pa_nil))) (nomark _)))))) pss_nil)
      (pss_one (ps_ret (pe_and (pe_callB (call_isT "int") (by rfl) B.b_isinstance PyProof.Rows.boot_isinstance (pa_cons (pv 0) (pa_cons (pe_bltn (v := .ty "int") (by rfl) B.b_int PyProof.Rows.boot_int rfl) pa_nil))) (pe_and (pe_cmpR op_eq (pe_callB (call_isT "bool") (by rfl) B.b_isinstance PyProof.Rows.boot_isinstance (pa_cons (pv 0) (pa_cons (pe_bltn (v := .ty "bool") (by rfl) B.b_bool PyProof.Rows.boot_bool rfl) pa_nil))) (pe_callB (call_isT "bool") (by rfl) B.b_isinstance PyProof.Rows.boot_isinstance (pa_cons (pv 1) (pa_cons (pe_bltn (v := .ty "bool") (by rfl) B.b_bool PyProof.Rows.boot_bool rfl) pa_nil))) (nomark _)) (pe_one (pe_cmpR op_eq (pv 0) (pv 1) (nomark _)))))))))), ?_⟩
  cases hx with
  | non _ =>
    cases hy
    refine ⟨_, rfl, _, "NoneType", false, rfl, .non, by decide +kernel, false, rfl, iteF ?_⟩
    refine ⟨_, rfl, (by show 2 ≤ sizeLine; decide), fun tp ntp => ⟨_, tp, _, .type "NoneType", [.type "tuple", .type "list"], false, rfl, upd_same, .cons (.ty _) (.cons (.ty _) .nil), .base (.non), kitAny_cons (b := false) (kit_ty (by decide +kernel)) (fun _ => kitAny_cons (b := false) (kit_ty (by decide +kernel)) (fun _ => kitAny_nil) (fun z => nomatch z)) (fun z => nomatch z), false, rfl, iteF ?_⟩⟩
    have s1 : Same H (upd H tp (.tup [.ty "tuple", .ty "list"])) := (Same.refl H).put ntp
    refine ⟨_, rfl, rfl, true, rfl, iteT (iteT ?_)⟩
    refine ⟨_, rfl, _, rfl, rfl, decide (V.non = V.non), rfl, ?_⟩
    rw [decide_eq_true rfl]
    refine iteT ?_
    refine ⟨_, rfl, _, "NoneType", false, rfl, .non, by decide +kernel, _, rfl, _, "NoneType", false, rfl, .non, by decide +kernel, rfl, ?_⟩
    exact q _ s1
  | bl _ b =>
    cases hy
    refine ⟨_, rfl, _, "bool", false, rfl, .bl b, by decide +kernel, false, rfl, iteF ?_⟩
    refine ⟨_, rfl, (by show 2 ≤ sizeLine; decide), fun tp ntp => ⟨_, tp, _, .type "bool", [.type "tuple", .type "list"], false, rfl, upd_same, .cons (.ty _) (.cons (.ty _) .nil), .base (.bl b), kitAny_cons (b := false) (kit_ty (by decide +kernel)) (fun _ => kitAny_cons (b := false) (kit_ty (by decide +kernel)) (fun _ => kitAny_nil) (fun z => nomatch z)) (fun z => nomatch z), false, rfl, iteF ?_⟩⟩
    have s1 : Same H (upd H tp (.tup [.ty "tuple", .ty "list"])) := (Same.refl H).put ntp
    refine ⟨_, rfl, rfl, false, rfl, iteF ⟨_, rfl, _, "bool", false, rfl, .bl b, by decide +kernel, false, rfl, iteF ?_⟩⟩
    refine ⟨_, rfl, _, "bool", true, rfl, .bl b, by decide +kernel, true, rfl, iteT ?_⟩
    refine ⟨_, rfl, _, "bool", true, rfl, .bl b, by decide +kernel, _, rfl, _, "bool", true, rfl, .bl b, by decide +kernel, rfl, true, rfl, iteT ?_⟩
    refine ⟨_, rfl, _, rfl, rfl, ?_⟩
    rw [decide_eq_true rfl]
    exact q _ s1
  | int _ i =>
    cases hy
    refine ⟨_, rfl, _, "int", false, rfl, .int i, by decide +kernel, false, rfl, iteF ?_⟩
    refine ⟨_, rfl, (by show 2 ≤ sizeLine; decide), fun tp ntp => ⟨_, tp, _, .type "int", [.type "tuple", .type "list"], false, rfl, upd_same, .cons (.ty _) (.cons (.ty _) .nil), .base (.int i), kitAny_cons (b := false) (kit_ty (by decide +kernel)) (fun _ => kitAny_cons (b := false) (kit_ty (by decide +kernel)) (fun _ => kitAny_nil) (fun z => nomatch z)) (fun z => nomatch z), false, rfl, iteF ?_⟩⟩
    have s1 : Same H (upd H tp (.tup [.ty "tuple", .ty "list"])) := (Same.refl H).put ntp
    refine ⟨_, rfl, rfl, false, rfl, iteF ⟨_, rfl, _, "int", false, rfl, .int i, by decide +kernel, false, rfl, iteF ?_⟩⟩
    refine ⟨_, rfl, _, "int", true, rfl, .int i, by decide +kernel, true, rfl, iteT ?_⟩
    refine ⟨_, rfl, _, "int", false, rfl, .int i, by decide +kernel, _, rfl, _, "int", false, rfl, .int i, by decide +kernel, rfl, true, rfl, iteT ?_⟩
    refine ⟨_, rfl, _, rfl, rfl, ?_⟩
    rw [decide_eq_true rfl]
    exact q _ s1
  | str _ x =>
    cases hy
    refine ⟨_, rfl, _, "str", false, rfl, .str x, by decide +kernel, false, rfl, iteF ?_⟩
    refine ⟨_, rfl, (by show 2 ≤ sizeLine; decide), fun tp ntp => ⟨_, tp, _, .type "str", [.type "tuple", .type "list"], false, rfl, upd_same, .cons (.ty _) (.cons (.ty _) .nil), .base (.str x), kitAny_cons (b := false) (kit_ty (by decide +kernel)) (fun _ => kitAny_cons (b := false) (kit_ty (by decide +kernel)) (fun _ => kitAny_nil) (fun z => nomatch z)) (fun z => nomatch z), false, rfl, iteF ?_⟩⟩
    have s1 : Same H (upd H tp (.tup [.ty "tuple", .ty "list"])) := (Same.refl H).put ntp
    refine ⟨_, rfl, rfl, false, rfl, iteF ⟨_, rfl, _, "str", true, rfl, .str x, by decide +kernel, true, rfl, iteT ?_⟩⟩
    refine ⟨_, rfl, _, rfl, rfl, decide (V.str x = V.str x), rfl, ?_⟩
    rw [decide_eq_true rfl]
    refine iteT ?_
    refine ⟨_, rfl, _, "str", true, rfl, .str x, by decide +kernel, _, rfl, _, "str", true, rfl, .str x, by decide +kernel, rfl, ?_⟩
    exact q _ s1
  | lst e l z all =>
    rename_i p xs ds
    cases hy with
    | lst e2 l2 z2 all2 =>
      rename_i q0 ys
      refine ⟨_, rfl, _, "list", false, rfl, .lst e2, by decide +kernel, false, rfl, iteF ?_⟩
      refine ⟨_, rfl, (by show 2 ≤ sizeLine; decide), fun tp ntp => ?_⟩
      have s1 : Same H (upd H tp (.tup [.ty "tuple", .ty "list"])) := (Same.refl H).put ntp
      refine ⟨_, tp, _, .type "list", [.type "tuple", .type "list"], true, rfl, upd_same, .cons (.ty _) (.cons (.ty _) .nil), .base (.lst (s1 _ _ e2)), kitAny_cons (b := false) (kit_ty (by decide +kernel)) (fun _ => kitAny_cons (b := true) (kit_ty (by decide +kernel)) (fun z => nomatch z) (fun _ => rfl)) (fun z => nomatch z), true, rfl, iteT ?_⟩
      refine ⟨_, rfl, (by show 2 ≤ sizeLine; decide), fun tp2 ntp2 => ?_⟩
      have s2 := s1.put' (o := .tup [.ty "tuple", .ty "list"]) ntp2
      refine ⟨_, tp2, _, .type "list", [.type "tuple", .type "list"], true, rfl, upd_same, .cons (.ty _) (.cons (.ty _) .nil), .base (.lst (s2 _ _ e)), kitAny_cons (b := false) (kit_ty (by decide +kernel)) (fun _ => kitAny_cons (b := true) (kit_ty (by decide +kernel)) (fun z => nomatch z) (fun _ => rfl)) (fun z => nomatch z), true, rfl, iteF ?_⟩
      refine ⟨_, rfl, _, "list", true, rfl, .lst (s2 _ _ e), by decide +kernel, _, rfl, _, "list", true, rfl, .lst (s2 _ _ e2), by decide +kernel, rfl, _, rfl, iteF ?_⟩
      refine ⟨_, rfl, p, _, rfl, .inl (sqL_of (s2 _ _ e)), _, rfl, q0, _, rfl, .inl (sqL_of (s2 _ _ e2)), rfl, _, rfl, ?_⟩
      have el : ((xs.length : Nat) : Int) = (ys.length : Nat) := by rw [l, l2]
      rw [el, decide_eq_true rfl]
      refine iteF ?_
      refine ⟨_, rfl, q0, _, rfl, .inl (sqL_of (s2 _ _ e2)), _, rfl, by omega, by omega, fun D nD => lc_it walk_range (fun i H' => Same H H' ∧ H' D = some (.lst [])) ⟨s2.put' nD, upd_same⟩ (fun _ _ _ _ => trivial) ?_ ?_⟩
      · rintro i y H2 H3 hi ⟨s3, e3⟩ ⟨rfl, hy⟩
        have hy : y = V.int (i : Nat) := by
          rw [hy]
          show V.int (0 + (i : Nat)) = _
          rw [Int.zero_add]
        subst hy
        have hi : i < ys.length := by simpa using hi
        have hix : i < xs.length := by omega
        have hid : i < ds.length := by omega
        refine ⟨rfl, _, rfl, _, rfl, .inl ⟨_, _, (i : Nat), _, rfl, rfl, sqL_of (s3 _ _ e), atI_nat (List.getElem?_eq_getElem hix), ?_⟩⟩
        refine ⟨_, rfl, _, rfl, .inl ⟨_, _, (i : Nat), _, rfl, rfl, sqL_of (s3 _ _ e2), atI_nat (List.getElem?_eq_getElem hi), ?_⟩⟩
        refine ⟨_, _, ds[i], rfl, (all i _ _ (List.getElem?_eq_getElem hix) (List.getElem?_eq_getElem hid)).same s3, (all2 i _ _ (List.getElem?_eq_getElem hi) (List.getElem?_eq_getElem hid)).same s3, fun H4 s4 => ⟨true, rfl, iteF ⟨s3.trans s4, s4 _ _ e3⟩⟩⟩
      · rintro H2 ⟨s3, e3⟩
        refine ⟨Nat.zero_le _, fun p2 np2 => ⟨.list [], .list [], .lst (sqL_of (by rw [upd_ne (ne_of_none e3 np2)]; exact e3)) .nil, .lst sqL_new .nil, rfl, rfl, q _ (s3.put' np2)⟩⟩
  | tup e l z all =>
    rename_i p xs ds
    cases hy with
    | tup e2 l2 z2 all2 =>
      rename_i q0 ys
      refine ⟨_, rfl, _, "tuple", false, rfl, .tup e2, by decide +kernel, false, rfl, iteF ?_⟩
      refine ⟨_, rfl, (by show 2 ≤ sizeLine; decide), fun tp ntp => ?_⟩
      have s1 : Same H (upd H tp (.tup [.ty "tuple", .ty "list"])) := (Same.refl H).put ntp
      refine ⟨_, tp, _, .type "tuple", [.type "tuple", .type "list"], true, rfl, upd_same, .cons (.ty _) (.cons (.ty _) .nil), .base (.tup (s1 _ _ e2)), kitAny_cons (b := true) (kit_ty (by decide +kernel)) (fun z => nomatch z) (fun _ => rfl), true, rfl, iteT ?_⟩
      refine ⟨_, rfl, (by show 2 ≤ sizeLine; decide), fun tp2 ntp2 => ?_⟩
      have s2 := s1.put' (o := .tup [.ty "tuple", .ty "list"]) ntp2
      refine ⟨_, tp2, _, .type "tuple", [.type "tuple", .type "list"], true, rfl, upd_same, .cons (.ty _) (.cons (.ty _) .nil), .base (.tup (s2 _ _ e)), kitAny_cons (b := true) (kit_ty (by decide +kernel)) (fun z => nomatch z) (fun _ => rfl), true, rfl, iteF ?_⟩
      refine ⟨_, rfl, _, "tuple", false, rfl, .tup (s2 _ _ e), by decide +kernel, _, rfl, _, "tuple", false, rfl, .tup (s2 _ _ e2), by decide +kernel, rfl, _, rfl, iteF ?_⟩
      refine ⟨_, rfl, p, _, rfl, .inr (sqT_of (s2 _ _ e)), _, rfl, q0, _, rfl, .inr (sqT_of (s2 _ _ e2)), rfl, _, rfl, ?_⟩
      have el : ((xs.length : Nat) : Int) = (ys.length : Nat) := by rw [l, l2]
      rw [el, decide_eq_true rfl]
      refine iteF ?_
      refine ⟨_, rfl, q0, _, rfl, .inr (sqT_of (s2 _ _ e2)), _, rfl, by omega, by omega, fun D nD => lc_it walk_range (fun i H' => Same H H' ∧ H' D = some (.lst [])) ⟨s2.put' nD, upd_same⟩ (fun _ _ _ _ => trivial) ?_ ?_⟩
      · rintro i y H2 H3 hi ⟨s3, e3⟩ ⟨rfl, hy⟩
        have hy : y = V.int (i : Nat) := by
          rw [hy]
          show V.int (0 + (i : Nat)) = _
          rw [Int.zero_add]
        subst hy
        have hi : i < ys.length := by simpa using hi
        have hix : i < xs.length := by omega
        have hid : i < ds.length := by omega
        refine ⟨rfl, _, rfl, _, rfl, .inr (.inl ⟨_, _, (i : Nat), _, rfl, rfl, sqT_of (s3 _ _ e), atI_nat (List.getElem?_eq_getElem hix), ?_⟩)⟩
        refine ⟨_, rfl, _, rfl, .inr (.inl ⟨_, _, (i : Nat), _, rfl, rfl, sqT_of (s3 _ _ e2), atI_nat (List.getElem?_eq_getElem hi), ?_⟩)⟩
        refine ⟨_, _, ds[i], rfl, (all i _ _ (List.getElem?_eq_getElem hix) (List.getElem?_eq_getElem hid)).same s3, (all2 i _ _ (List.getElem?_eq_getElem hi) (List.getElem?_eq_getElem hid)).same s3, fun H4 s4 => ⟨true, rfl, iteF ⟨s3.trans s4, s4 _ _ e3⟩⟩⟩
      · rintro H2 ⟨s3, e3⟩
        refine ⟨Nat.zero_le _, fun p2 np2 => ⟨.list [], .list [], .lst (sqL_of (by rw [upd_ne (ne_of_none e3 np2)]; exact e3)) .nil, .lst sqL_new .nil, rfl, rfl, q _ (s3.put' np2)⟩⟩
end
end Sc
namespace Sc
open PySem PySem.Spec PyProof.Rows L2
theorem adjust_rev (n : Nat) : Builtin.Slice.sliceAdjust none none (-1) (n : Int) = ((n : Int) - 1, -1) := by
  unfold Builtin.Slice.sliceAdjust
  simp
theorem places_rev (n : Nat) : Builtin.Slice.slicePlaces ((n : Int) - 1) (-1) (-1) = n := by
  unfold Builtin.Slice.slicePlaces
  simp
  omega
section
variable {prog : Program} {w : World} {A : Around} {E : Value → Shared → Prop} {s : Shared}
theorem slApplied_rev {sl : Addr} {vl vu vs : Value} {n : Nat} {Q : Int × Int × Nat → Shared → Prop} (hs : s.heap.IsSliceOf sl vl vu vs) (pl : IsPart vl none) (pu : IsPart vu none) (ps : IsPart vs (some (-1)))
    (h : Q ((n : Int) - 1, -1, n) s) : wpAny (model prog w) A (Builtin.Slice.sliceApplied (.ref sl) (pure (n : Int))) Q E s := by
  obtain ⟨os, hos, hcs, hds⟩ := id hs
  unfold Builtin.Slice.sliceApplied
  refine wpAny_bind (wpAny_bind (wpAny_field hos hds rfl (wpAny_bind (wpAny_field hos hds rfl (wpAny_bind (wpAny_field hos hds rfl (wpAny_pure (wpAny_bind (HT.slicePart_ ps ?_)))))))))
  dsimp only [Option.getD]
  rw [if_neg (by decide)]
  refine wpAny_bind (HT.slicePart_ pl (wpAny_bind (HT.slicePart_ pu (wpAny_bind (wpAny_pure ?_)))))
  rw [adjust_rev]
  dsimp only
  rw [places_rev]
  exact wpAny_pure h
theorem fm_congr {α β : Type} {f g : α → Option β} : ∀ {l : List α}, (∀ x ∈ l, f x = g x) → l.filterMap f = l.filterMap g
  | [], _ => rfl
  | x :: r, h => by
    rw [List.filterMap_cons, List.filterMap_cons, h x List.mem_cons_self, fm_congr (l := r) fun y hy => h y (List.mem_cons_of_mem x hy)]
theorem pick_rev (xs : Array Value) : List.filterMap (fun (k : Nat) => xs[((xs.size : Int) - 1 + (k : Int) * -1).toNat]?) (List.range xs.size) = xs.toList.reverse := by
  have h : ∀ k ∈ List.range xs.size, xs[((xs.size : Int) - 1 + (k : Int) * -1).toNat]? = xs.toList.reverse[k]? := fun k hk => by
    have hk := List.mem_range.mp hk
    have e : ((xs.size : Int) - 1 + (k : Int) * -1).toNat = xs.size - 1 - k := by omega
    rw [e, List.getElem?_reverse (by rw [Array.length_toList]; exact hk), Array.length_toList, Array.getElem?_toList]
  rw [fm_congr h]
  have e : ∀ l : List Value, List.filterMap (fun k => l[k]?) (List.range l.length) = l := fun l => by
    apply List.ext_getElem?
    intro i
    have g : List.filterMap (fun k => l[k]?) (List.range l.length) = (List.range l.length).map (fun k => l[k]?.getD .none) := by
      rw [← List.filterMap_eq_map]
      apply fm_congr
      intro k hk
      have hk := List.mem_range.mp hk
      show l[k]? = some (l[k]?.getD .none)
      rw [List.getElem?_eq_getElem hk]
      rfl
    rw [g, List.getElem?_map]
    by_cases hi : i < l.length
    · rw [List.getElem?_range hi, List.getElem?_eq_getElem hi]
      show some (l[i]?.getD .none) = _
      rw [List.getElem?_eq_getElem hi]
      rfl
    · rw [List.getElem?_eq_none (by rw [List.length_range]; omega), List.getElem?_eq_none (by omega)]
      rfl
  have e2 := e xs.toList.reverse
  rw [List.length_reverse, Array.length_toList] at e2
  exact e2
theorem getItem_tuple_rev {t sl : Addr} {items : Array Value} {vl vu vs : Value} {Q : Value → Shared → Prop} (ht : IsTup s.heap t items) (hs : s.heap.IsSliceOf sl vl vu vs) (pl : IsPart vl none) (pu : IsPart vu none) (ps : IsPart vs (some (-1)))
    (h : Q (.ref s.heap.objs.size) { heap := s.heap.push { cls := .type "tuple", data := .seq items.toList.reverse.toArray }, gens := s.gens, drawn := s.drawn, toks := s.toks, os := s.os }) (hsz : items.size ≤ sizeLine) :
    wpAny (model prog w) A (getItem (.ref t) (.ref sl)) Q E s := by
  obtain ⟨os, hos, hcs, hds⟩ := id hs
  refine wpAny_holding (wpAny_bind (wpAny_sequenceKey ht.typeIs (by decide) (wpAny_bind (wpAny_callSpecial?_slot ht.typeIs slot_tuple_getitem (wpAny_call_entry slot_tuple_getitem ht.typeIs entry_tuple_getitem ?_)))))
  have hTs : s.TypeIs (.ref sl) "slice" := ⟨os, hos, hcs⟩
  unfold Builtin.«tuple.__getitem__»
  rw [show slotArgs "__getitem__" 1 { pos := [Value.ref t, Value.ref sl] } = pure (.ref t, [.ref sl]) from rfl, pure_bind]
  dsimp only
  refine wpAny_bind (tupleItemsOf_ ht (wpAny_bind (wpAny_typeOf hTs ?_)))
  rw [if_pos (by decide)]
  refine wpAny_bind (slApplied_rev hs pl pu ps ?_)
  dsimp only
  rw [if_neg (by simp)]
  rw [pick_rev]
  exact wpAny_bind (wpAny_newObj_type (wpAny_pure ⟨_, rfl, wpAny_pure h⟩) (by show _ ≤ sizeLine; rw [List.size_toArray, List.length_reverse, Array.length_toList]; exact hsz))
end
/-- t[::-1], t a tuple: a new tuple -/
def tRevT (K : PySem.W.Frag) (te : TE) : TE := fun σ H Q => te σ H fun x H1 => ∃ a xs, x = .ref a ∧ SqT K H1 a xs ∧ ∀ p, H1 p = none → Q (.ref p) (upd H1 p (.tup xs.reverse))
theorem pe_revT {X : Cx} {e : Expr} {te : TE} {k : Nat} {p1 p2 p3 pos : Pos} (he : PE X e te) :
    PE X (.Subscript e (.Slice none none (some (.UnaryOp .USub (.Constant (.int 1) k p1) p2)) p3) pos) (tRevT X.K te) := by
  refine ⟨fun pins s σ H Q I h => Subscript_ (thn (he.run pins s σ H _ I h) fun v s1 hh => ?_)⟩
  obtain ⟨x, H1, I1, r1, a, xs, rfl, hx, q⟩ := hh
  cases r1
  have hst : PO X (some (.UnaryOp .USub (.Constant (.int 1) k p1) p2)) _ := po_some (pe_un un_neg pe_int)
  refine wpAny_Slice (thn (po_none.run pins s1 σ H1 (fun o H2 => o = none ∧ H2 = H1) I1 ⟨rfl, rfl⟩) fun vl s2 h2 => ?_)
  obtain ⟨l, H2, I2, pl, rfl, rfl⟩ := h2
  refine thn (po_none.run pins s2 σ H2 (fun o H3 => o = none ∧ H3 = H2) I2 ⟨rfl, rfl⟩) fun vu s3 h3 => ?_
  obtain ⟨u, H3, I3, pu, rfl, rfl⟩ := h3
  refine thn (hst.run pins s3 σ H3 (fun o H4 => o = some (-1) ∧ H4 = H3) I3 ⟨1, rfl, -1, rfl, rfl, rfl⟩) fun vs s4 h4 => ?_
  obtain ⟨st, H4, I4, ps, rfl, rfl⟩ := h4
  have I5 := Inv.kept (t' := s4.toks) I4 fun b ob q => Heap.get?_push_of_some { cls := Value.type "slice", data := Data.fields #[vl, vu, vs] } q
  obtain ⟨its, r, ht, hz⟩ := Inv.tuple I5 hx
  have hl := Vals.length r
  refine tail_any (ops := [.ref a, .ref s4.heap.objs.size]) ht.typeIs slot_tuple_getitem.lookup (getItem_tuple_rev ht (Heap.IsSliceOf.new s4.heap vl vu vs) pl pu ps ?_ (by rw [List.size_toArray, ← hl]; exact hz)) rfl
  have hp : ∀ b u, (s4.heap.push { cls := Value.type "slice", data := Data.fields #[vl, vu, vs] }).get? b = some u → ((s4.heap.push { cls := Value.type "slice", data := Data.fields #[vl, vu, vs] }).push { cls := .type "tuple", data := .seq its.reverse.toArray }).get? b = some u := fun b ob q => Heap.get?_push_of_some _ q
  refine ⟨.ref _, _, Inv.laid I5 hp (Nat.le_refl _) ?_, rfl, q _ (I5.hok.fresh (Nat.le_refl _))⟩
  dsimp only [ObjOk]
  exact ⟨by rw [List.length_reverse]; exact hz, its.reverse, r.reverse, _, Heap.get?_push_size _ (ho := rfl), rfl, _, rfl⟩
end Sc
namespace Sc
open PySem PySem.Spec PyProof.Rows L2
/-! ### the law's own reading of facts, and its changes of them -/
abbrev s__law_bad : Stmt := topS 39
theorem sc__law_bad : FnScope ["_law_facts_here", "_law_k", "_law_name", "_law_odd", "_law_sign"] ["_law_facts_here"] (defScope s__law_bad) := ⟨rfl, rfl, rfl, by decide +kernel, rfl, by decide +kernel, by decide +kernel⟩
abbrev s__law_bent : Stmt := topS 40
theorem sc__law_bent : FnScope ["_law_h", "_law_some", "_law_k", "_law_odd", "_law_ways"] ["_law_h", "_law_some"] (defScope s__law_bent) := ⟨rfl, rfl, rfl, by decide +kernel, rfl, by decide +kernel, by decide +kernel⟩
/-- texts that can be compared and are not long -/
def Fine (x : Str) : Prop := x.length ≤ 1000 ∧ (PyData.str x).canLay0 = true
def Fines (xs : List Str) : Prop := ∀ x ∈ xs, Fine x
section
variable {P : Program} {w : World} {K : PySem.W.Frag} {mg : Str → Option Value} {base : Heap} {a l : Addr} {H H' H'' : Hp}
theorem Fines.txts {xs : List Str} (h : Fines xs) : Txts xs := fun x hx => (h x hx).1
theorem dps (K : PySem.W.Frag) (H : Hp) : ∀ xs : List Str, DpAll K H (xs.map V.str) (xs.map PyData.str)
  | [] => .nil
  | x :: r => .cons (.str x) (dps K H r)
theorem strs_lay : ∀ {xs : List Str}, Fines xs → PyData.canLayAll0 (xs.map PyData.str) = true
  | [], _ => rfl
  | x :: r, h => by
    show ((PyData.str x).canLay0 && PyData.canLayAll0 (r.map PyData.str)) = true
    rw [(h x List.mem_cons_self).2, strs_lay fun y hy => h y (List.mem_cons_of_mem x hy)]
    rfl
theorem strs_depth : ∀ xs : List Str, PyData.depthAll (xs.map PyData.str) = 0
  | [] => rfl
  | x :: r => by
    show max (PyData.str x).depth (PyData.depthAll (r.map PyData.str)) = 0
    rw [strs_depth r]
    rfl
theorem shT {xs : List Str} (h : Fines xs) : SeqAt.shaped (.tuple (xs.map PyData.str)) = true := by
  unfold SeqAt.shaped
  have e1 : (PyData.tuple (xs.map PyData.str)).canLay0 = true := strs_lay h
  have e2 : (PyData.tuple (xs.map PyData.str)).depth = 1 := by show PyData.depthAll (xs.map PyData.str) + 1 = 1; rw [strs_depth]
  rw [e1, e2]
  rfl
theorem shL {xs : List Str} (h : Fines xs) : SeqAt.shaped (.list (xs.map PyData.str)) = true := by
  unfold SeqAt.shaped
  have e1 : (PyData.list (xs.map PyData.str)).canLay0 = true := strs_lay h
  have e2 : (PyData.list (xs.map PyData.str)).depth = 1 := by show PyData.depthAll (xs.map PyData.str) + 1 = 1; rw [strs_depth]
  rw [e1, e2]
  rfl
theorem eqvA_nil : ∀ xs : List Str, PyData.eqvAll (xs.map PyData.str) [] = decide (xs = [])
  | [] => rfl
  | _ :: _ => rfl
theorem eqvA : ∀ xs ys : List Str, PyData.eqvAll (xs.map PyData.str) (ys.map PyData.str) = decide (xs = ys)
  | [], [] => rfl
  | [], _ :: _ => rfl
  | _ :: _, [] => rfl
  | x :: r, y :: t => by
    show ((x == y) && PyData.eqvAll (r.map PyData.str) (t.map PyData.str)) = _
    rw [eqvA r t]
    by_cases h : x = y
    · subst h
      simp
    · have e : (x == y) = false := by simpa using h
      rw [e, Bool.false_and, decide_eq_false fun z => h (List.cons.inj z).1]
def chr1 (c : Nat) : Str := ⟨#[c]⟩
def oddL (x : Str) (i : Nat) : List Str := ((x.cps.toList.take i).filter fun c => !decide (c ∈ letters.cps.toList)).map chr1
def sp_bad (K : PySem.W.Frag) : Sp := fun vs H Q _ => ∃ (a : Addr) (xs : List Str), vs = [.ref a] ∧ SqT K H a (xs.map V.str) ∧ Fines xs ∧ xs.length ≤ 1000 ∧
  (firstBad xs = none → ∀ H', Same H H' → Q .non H') ∧ (∀ i : Nat, firstBad xs = some i → ∀ H', Same H H' → Q (.int i) H')
theorem oddL_len {x : Str} {i : Nat} : (oddL x i).length ≤ x.length := by
  unfold oddL
  rw [List.length_map]
  exact Nat.le_trans (List.length_filter_le _ _) (by rw [List.length_take]; exact Nat.min_le_right _ _)
theorem oddL_fine {x : Str} {i : Nat} (h : Fine x) : Fines (oddL x i) := by
  intro y hy
  unfold oddL at hy
  obtain ⟨c, hc, rfl⟩ := List.mem_map.mp hy
  have hc := List.mem_of_mem_take (List.mem_filter.mp hc).1
  refine ⟨(show 1 ≤ 1000 by decide), ?_⟩
  have h2 : PyData.strOk x = true := h.2
  show PyData.strOk (chr1 c) = true
  unfold PyData.strOk at h2 ⊢
  rw [Array.all_eq_true'] at h2
  have h3 := h2 c (by rw [← Array.mem_toList_iff]; exact hc)
  rw [Array.all_eq_true']
  intro y hy
  have ey : y = c := by
    have hy : y ∈ (#[c] : Array Nat) := hy
    simpa using hy
  subst ey
  exact h3
theorem oddL_nil {x : Str} : decide (oddL x x.length = []) = isLetters x := by
  have el : x.cps.toList.take x.length = x.cps.toList := List.take_of_length_le (by rw [Array.length_toList]; exact Nat.le_refl _)
  unfold oddL isLetters
  rw [el]
  cases h : x.cps.toList.all fun c => decide (c ∈ letters.cps.toList) with
  | true =>
    rw [List.all_eq_true] at h
    have e : (x.cps.toList.filter fun c => !decide (c ∈ letters.cps.toList)) = [] := by
      rw [List.filter_eq_nil_iff]
      intro c hc z
      rw [h c hc] at z
      cases z
    rw [e]
    rfl
  | false =>
    rw [decide_eq_false]
    intro z
    have z := List.map_eq_nil_iff.mp z
    rw [List.filter_eq_nil_iff] at z
    rw [List.all_eq_false] at h
    obtain ⟨c, hc, hn⟩ := h
    exact z c hc (by cases e : decide (c ∈ letters.cps.toList) with | true => exact absurd e hn | false => rfl)
theorem risesAt_eq {xs : List Str} {i : Nat} (hi : i < xs.length) (h0 : i ≠ 0) (h1 : i - 1 < xs.length) : risesAt xs i = decide (xs[i - 1].cps.toList < xs[i].cps.toList) := by
  unfold risesAt
  rw [decide_eq_false h0, Bool.false_or, List.getElem?_eq_getElem h1, List.getElem?_eq_getElem hi]
theorem risesAt_0 {xs : List Str} : risesAt xs 0 = true := rfl
theorem strG {xs : List Str} {i : Nat} (hi : i < xs.length) : (xs.map V.str)[i]? = some (.str xs[i]) := by rw [List.getElem?_map, List.getElem?_eq_getElem hi]; rfl
theorem ok_bad {f : Addr} {fd : FuncData} (F : Fun K "_law_bad" "_law_bad" s__law_bad f fd) (B : Blt mg) : FnOk P w K mg base CX0 1 f fd ["_law_facts_here"] (sp_bad K) := by
  refine F.ok sc__law_bad (fun vs H Q E h => by obtain ⟨a, xs, rfl, _⟩ := h; rfl) (fun cdv A outer s H vs Q E hr h => ?_)
  obtain ⟨a, xs, rfl, hS, hF, hl, q, e⟩ := h
  refine ⟨_, (pss_cons (ps_if (pt_cmpR (op_eqD hr.units) (pv 0) (pe_tup pa_nil) (nomark _)) (pss_one (ps_ret pe_int)) pss_nil)
      (pss_cons (ps_for PassesOwn.never rfl (pi_range1 (by rfl) B.b_range (pa_cons (pe_callB call_len_seq (by rfl) B.b_len PySem.boot_len (pa_cons (pv 0) pa_nil)) pa_nil)) (pg_name (i := 1) sc__law_bad.nd rfl (Or.inl rfl)) (pss_cons (ps_set (i := 2) sc__law_bad.nd rfl (Or.inl rfl) (pe_ix ix_tup (pv 0) (pv 1) (fun _ _ => rfl)))
      (pss_cons (ps_setLc (i := 3) (own := [("_law_sign", 4)]) (g := gName 4) rfl sc__law_bad.nd rfl rfl (sw_true rfl rfl rfl (by decide +kernel)) (pi_str (pv 2)) (blkOk_by (own := [("_law_sign", 4)]) (N := ["_law_facts_here", "_law_k", "_law_name", "_law_odd", "_law_sign"]) (sc := defScope s__law_bad) (by decide +kernel)) (fun _ _ _ _ _ => (pg_name (i := 4) sc__law_bad.nd rfl (Or.inl rfl))) (fun _ _ _ _ _ => (pts_.re (pts_one (pt_cmpR op_notIn_sign (pv 4) pe_str rfl)) (by first | (dsimp only [Cx.blk]; done) | exact rfl))) (fun _ _ _ _ _ => (pe_.re (pv 4) (by first | (dsimp only [Cx.blk]; done) | exact rfl))))
      (pss_one (ps_if (PW.pt (pw_or (pt_cmpR op_eq (pv 1) pe_int (nomark _)) (pw_or (pt_cmpR (op_neD hr.units) (pv 3) (pe_lst pa_nil) (nomark _)) (pw_or (pt_not (pt_chain op_le op_le pe_int (pe_callB call_len_str (by rfl) B.b_len PySem.boot_len (pa_cons (pv 2) pa_nil)) pe_int)) (pw_or1 (PW.pt (pw_and (pt_cmpR op_gt (pv 1) pe_int (nomark _)) (pw_and1 (pt_cmpR op_le_str (pv 2) (pe_ix ix_tup (pv 0) (pe_op op_sub (pv 1) pe_int) (fun _ _ => rfl)) (nomark _)))))))))) (pss_one (ps_ret (pv 1))) pss_nil)))))
      (pss_one (ps_ret pe_non)))), ?_⟩
  refine ⟨.ref a, rfl, Nat.zero_le _, fun t0 nt0 => ⟨_, _, .tup ((Same.refl H |>.put nt0).tup hS) (dps K _ xs), .tup sqT_new .nil, shT hF, rfl, _, rfl, bcase (fun c0 => ?_) (fun c0 => ?_)⟩⟩
  · have ex : xs = [] := of_decide_eq_true ((eqvA_nil xs).symm.trans c0)
    exact e 0 (by unfold firstBad; rw [if_pos ex]) _ ((Same.refl H).put nt0)
  · have ex : xs ≠ [] := of_decide_eq_false ((eqvA_nil xs).symm.trans c0)
    have s0 := (Same.refl H).put (o := .tup []) nt0
    generalize upd H t0 (.tup []) = H1 at s0 ⊢
    refine ⟨.ref a, rfl, a, _, rfl, .inr (s0.tup hS), _, rfl, by omega, by rw [List.length_map]; omega, for_it walk_range (fun i σ H' => ∃ y1 y2 y3 y4, σ = [some (.ref a), y1, y2, y3, y4] ∧ Same H H' ∧ ∀ j, j < i → badAt xs j = false)
      ⟨none, none, none, none, rfl, s0, fun j hj => absurd hj (Nat.not_lt_zero j)⟩ (fun _ _ _ _ _ => trivial) ?_ ?_⟩
    · rintro i x σ H2 H3 hi ⟨y1, y2, y3, y4, rfl, s, hb⟩ ⟨rfl, hy⟩
      have hy : x = V.int (i : Nat) := by
        rw [hy]
        show V.int (0 + (i : Nat)) = _
        rw [Int.zero_add]
      subst hy
      have hi : i < xs.length := by simpa using hi
      have hg := strG hi
      have hx := hF _ (List.getElem_mem hi)
      have rz : ∀ {H' : Hp}, badAt xs i = true → Same H H' → Q (.int (i : Nat)) H' := fun hp sH => e i (by unfold firstBad; rw [if_neg ex]; exact find_at hi hp hb) _ sH
      have nz : badAt xs i = (decide (i = 60) || (!isName xs[i] || !risesAt xs i)) := by
        unfold badAt
        rw [List.getElem?_eq_getElem hi]
      refine ⟨.ref a, rfl, _, rfl, a, _, _, _, rfl, rfl, s.tup hS, at_of rfl hg, ?_⟩
      refine ⟨_, rfl, _, rfl, fun D nD => lc_it walk_str (fun j H' => Same H3 H' ∧ H' D = some (.lst ((oddL xs[i] j).map V.str))) ⟨(Same.refl H3).put nD, upd_same⟩ (fun _ _ _ _ => trivial) ?_ ?_⟩
      · rintro j y H4 H5 hj ⟨s4, e4⟩ ⟨rfl, c, hc, rfl⟩
        have hm : oddL xs[i] (j + 1) = if (!decide (c ∈ letters.cps.toList)) = true then oddL xs[i] j ++ [chr1 c] else oddL xs[i] j := by
          unfold oddL
          rw [take_more (x := c) (by rw [Array.getElem?_toList]; exact hc), List.filter_append, List.map_append]
          have fc : ∀ p : Nat → Bool, List.filter p [c] = if p c = true then [c] else [] := fun p => by cases h : p c <;> simp [List.filter, h]
          rw [fc]
          split
          · rfl
          · exact List.append_nil _
        refine ⟨rfl, _, rfl, c, letters, rfl, rfl, _, rfl, bcase (fun c1 => ?_) (fun c1 => ?_)⟩
        · refine ⟨_, rfl, grow (acc := fun j => (oddL xs[i] j).map V.str) nD s4 e4 ?_ ?_⟩
          · rw [List.length_map]
            exact small1000 (Nat.le_trans oddL_len hx.1)
          · show List.map _ _ = _
            rw [hm, if_pos c1, List.map_append]
            rfl
        · refine ⟨s4, ?_⟩
          rw [hm, if_neg (by rw [c1]; exact Bool.false_ne_true)]
          exact e4
      · rintro H4 ⟨s4, e4⟩
        have s5 := s.trans s4
        refine ⟨_, rfl, rfl, _, rfl, bcase (fun c1 => ?_) (fun c1 => ?_)⟩
        · have e60 : i = 60 := by have := V.int.inj (of_decide_eq_true c1); omega
          exact iteT ⟨_, rfl, rz (by rw [nz, decide_eq_true e60, Bool.true_or]) s5⟩
        have n60 : i ≠ 60 := fun z => by subst z; exact Bool.noConfusion (c1.symm.trans (decide_eq_true rfl))
        rw [decide_eq_false n60, Bool.false_or] at nz
        refine ⟨_, rfl, Nat.zero_le _, fun t nt => ⟨_, _, .lst (sqL_of (by rw [upd_ne (ne_of_none e4 nt)]; exact e4)) (dps K _ _), .lst sqL_new .nil, shL (oddL_fine hx), rfl, _, rfl, ?_⟩⟩
        have s6 := s5.put' (o := .lst []) nt
        generalize upd H4 t (.lst []) = H6 at s6 ⊢
        have nm : isName xs[i] = (decide (1 ≤ xs[i].length) && (decide (xs[i].length ≤ 8) && isLetters xs[i])) := rfl
        refine bcase (fun c2 => ?_) (fun c2 => ?_)
        · have c2 : isLetters xs[i] = false := by
            rw [← oddL_nil, ← eqvA_nil]
            exact (Bool.not_eq_true' _).mp c2
          exact iteT ⟨_, rfl, rz (by rw [nz, nm, c2, Bool.and_false, Bool.and_false]; rfl) s6⟩
        have c2 : isLetters xs[i] = true := by
          rw [← oddL_nil, ← eqvA_nil]
          exact (Bool.not_eq_false' _).mp c2
        rw [c2, Bool.and_true] at nm
        have fin : ∀ {H7 : Hp} {y1 y2 y3 y4 : Option V}, Same H H7 → badAt xs i = false → (∃ z1 z2 z3 z4, ([some (.ref a), y1, y2, y3, y4] : L2.St) = [some (.ref a), z1, z2, z3, z4] ∧ Same H H7 ∧ ∀ j, j < i + 1 → badAt xs j = false) := fun s7 hp => ⟨_, _, _, _, rfl, s7, fun j hj => by
          by_cases hj2 : j < i
          · exact hb j hj2
          · have ej : j = i := by omega
            subst ej
            exact hp⟩
        refine ⟨_, rfl, xs[i], rfl, Nat.le_trans hx.1 (by rw [sizeLine_eq]; decide), 1, xs[i].length, rfl, rfl, _, rfl, bcase (fun h1 => ?_) (fun h1 => ?_)⟩
        · have h1 : 1 ≤ xs[i].length := by have := of_decide_eq_true h1; omega
          rw [decide_eq_true h1, Bool.true_and] at nm
          refine ⟨_, _, rfl, rfl, _, rfl, ?_⟩
          by_cases h2 : xs[i].length ≤ 8
          · have e2 : decide ((xs[i].length : Int) ≤ 8) = true := decide_eq_true (by omega)
            rw [e2]
            rw [decide_eq_true h2] at nm
            rw [nm] at nz
            refine iteF ⟨_, rfl, i, 0, rfl, rfl, _, rfl, bcase (fun c3 => ?_) (fun c3 => ?_)⟩
            · have c3 : i ≠ 0 := by have := of_decide_eq_true c3; omega
              have h1 : i - 1 < xs.length := by omega
              refine ⟨_, rfl, _, rfl, _, rfl, i, 1, rfl, rfl, a, _, _, _, rfl, rfl, s6.tup hS, at_of (j := i - 1) (by omega) (strG h1), xs[i], xs[i - 1], rfl, rfl, _, rfl, ?_⟩
              rw [← risesAt_eq hi c3 h1]
              refine bcase (fun c4 => ?_) (fun c4 => ?_)
              · exact ⟨_, rfl, rz (by rw [nz, c4]; rfl) s6⟩
              · exact fin s6 (by rw [nz, c4]; rfl)
            · have c3 : i = 0 := by have := of_decide_eq_false c3; omega
              have c4 : risesAt xs i = true := by rw [c3]; rfl
              exact iteF (fin s6 (by rw [nz, c4]; rfl))
          · have e2 : decide ((xs[i].length : Int) ≤ 8) = false := decide_eq_false (by omega)
            rw [e2]
            rw [decide_eq_false h2] at nm
            rw [nm] at nz
            exact iteT (iteT ⟨_, rfl, rz (by rw [nz]; rfl) s6⟩)
        · have h1 : ¬ 1 ≤ xs[i].length := by have := of_decide_eq_false h1; omega
          rw [decide_eq_false h1] at nm
          rw [nm] at nz
          exact ⟨_, rfl, iteT (iteT ⟨_, rfl, rz (by rw [nz]; rfl) s6⟩)⟩
    · rintro σ H2 ⟨y1, y2, y3, y4, rfl, s, hb⟩
      have hb : ∀ j, j < xs.length → badAt xs j = false := fun j hj => hb j (by simpa using hj)
      exact q (by unfold firstBad; rw [if_neg ex]; exact find_none hb) H2 s
theorem sl_any {b : Addr} {vs : List V} {lo hi : Option Int} {Q : VK} (hS : SqT K H b vs) (q : ∀ p H', Same H H' → SqT K H' p (cutV vs lo hi) → Q (.ref p) H') : rSlA K (.ref b) lo hi H Q :=
  ⟨b, vs, rfl, hS, fun c => q b H (Same.refl H) (by
    have e : cutV vs lo hi = vs := by
      unfold cutV
      rw [c.1, c.2, List.drop_zero, Nat.sub_zero, List.take_length]
    rw [e]
    exact hS), fun _ p np => q p _ ((Same.refl H).put np) sqT_new⟩
theorem cat_any {b c : Addr} {xs ys : List V} {Q : VK} (hA : SqT K H b xs) (hB : SqT K H c ys) (hl : xs.length + ys.length ≤ sizeLine) (q : ∀ p H', Same H H' → SqT K H' p (xs ++ ys) → Q (.ref p) H') : rCatA K (.ref b) (.ref c) H Q :=
  ⟨b, c, xs, ys, rfl, rfl, hA, hB, hl, fun e => q c H (Same.refl H) (by rw [e]; exact hB), fun _ e => q b H (Same.refl H) (by rw [e, List.append_nil]; exact hA), fun _ _ p np => q p _ ((Same.refl H).put np) sqT_new⟩
/-- so many fine texts -/
def Strs (n : Nat) (vs : List V) : Prop := ∃ ys : List Str, vs = ys.map V.str ∧ Fines ys ∧ ys.length ≤ n
theorem Strs.cut {n : Nat} {vs : List V} {lo hi : Option Int} (h : Strs n vs) : Strs n (cutV vs lo hi) := by
  obtain ⟨ys, rfl, hf, hl⟩ := h
  unfold cutV
  rw [← List.map_drop, ← List.map_take]
  refine ⟨_, rfl, fun x hx => hf x (List.mem_of_mem_drop (List.mem_of_mem_take hx)), ?_⟩
  rw [List.length_take, List.length_drop]
  omega
theorem Strs.app {n m : Nat} {vs us : List V} (h : Strs n vs) (h' : Strs m us) : Strs (n + m) (vs ++ us) := by
  obtain ⟨ys, rfl, hf, hl⟩ := h
  obtain ⟨zs, rfl, hg, hm⟩ := h'
  refine ⟨ys ++ zs, by rw [List.map_append], fun x hx => (List.mem_append.mp hx).elim (hf x) (hg x), ?_⟩
  rw [List.length_append]
  omega
theorem Strs.rev {n : Nat} {vs : List V} (h : Strs n vs) : Strs n vs.reverse := by
  obtain ⟨ys, rfl, hf, hl⟩ := h
  exact ⟨ys.reverse, by rw [List.map_reverse], fun x hx => hf x (List.mem_reverse.mp hx), by rw [List.length_reverse]; exact hl⟩
theorem Strs.le {n m : Nat} {vs : List V} (h : Strs n vs) (l : n ≤ m) : Strs m vs := by
  obtain ⟨ys, e, hf, hl⟩ := h
  exact ⟨ys, e, hf, Nat.le_trans hl l⟩
theorem Strs.len {n : Nat} {vs : List V} (h : Strs n vs) : vs.length ≤ n := by
  obtain ⟨ys, rfl, hf, hl⟩ := h
  rw [List.length_map]
  exact hl
theorem Kp.lst {b : Addr} {xs : List V} (k : Kp a l H H') (h : H b = some (.lst xs)) (n1 : b ≠ a) (n2 : b ≠ l) : H' b = some (.lst xs) := k.keep b _ n1 n2 h
def oddNs : List Str := ["", "Abc", "abcdefghi", "a1", "-a", "zz", "aa", "a b"]
theorem odd_at : ∀ j, j < 8 → ∃ x, oddNs[j]? = some x ∧ x ∈ oddNs := fun j hj => ⟨oddNs[j], List.getElem?_eq_getElem hj, List.getElem_mem hj⟩
theorem odd_fine : Fines oddNs := by
  unfold Fines Fine
  decide +kernel
theorem small_lim {z : Int} (h0 : 0 ≤ z) (h1 : z ≤ 1000) : z.natAbs.log2 < 9000 := by
  by_cases e : z.natAbs = 0
  · rw [e]; decide
  · exact (Nat.log2_lt e).mpr (Nat.lt_of_le_of_lt (show z.natAbs ≤ 2 ^ 10 by omega) (Nat.pow_lt_pow_right (by decide) (by decide)))
def sp_bent (K : PySem.W.Frag) : Sp := fun vs H Q _ => ∃ (a l b : Addr) (ws : List V) (n : Nat), vs = [.ref a, .ref b] ∧ RS H a l ∧ SqT K H b ws ∧ Strs n ws ∧ n ≤ 100 ∧
  ∀ H' p us, Kp a l H H' → SqT K H' p us → Strs (2 * n + 1) us → Q (.ref p) H'
theorem ok_bent {f : Addr} {fd : FuncData} (F : Fun K "_law_bent" "_law_bent" s__law_bent f fd) (B : Blt mg) (c__law_next : Cal P w K mg base CX0 1 "_law_next" ["_law_h", "_law_limit"] sp_next) : FnOk P w K mg base CX0 2 f fd ["_law_h", "_law_some"] (sp_bent K) := by
  refine F.ok sc__law_bent (fun vs H Q E h => by obtain ⟨a, l, b, ws, n, rfl, _⟩ := h; rfl) (fun cdv A outer s H vs Q E hr h => ?_)
  obtain ⟨a, l, b, ws, n, rfl, hR, hS, hW, hn, q⟩ := h
  refine ⟨_, (pss_cons (ps_set (i := 2) sc__law_bent.nd rfl (Or.inl rfl) (pe_cal c__law_next (hr.mono (by decide)) (pa_cons (pv 0) (pa_cons (pe_op op_add (pe_callB call_len_seq (by rfl) B.b_len PySem.boot_len (pa_cons (pv 1) pa_nil)) pe_int) pa_nil))))
      (pss_cons (ps_set (i := 3) sc__law_bent.nd rfl (Or.inl rfl) (pe_ix ix_list (pe_lst (pa_cons pe_str (pa_cons pe_str (pa_cons pe_str (pa_cons pe_str (pa_cons pe_str (pa_cons pe_str (pa_cons pe_str (pa_cons pe_str pa_nil))))))))) (pe_cal c__law_next (hr.mono (by decide)) (pa_cons (pv 0) (pa_cons pe_int pa_nil))) (fun _ _ => rfl)))
      (pss_cons (ps_set (i := 4) sc__law_bent.nd rfl (Or.inl rfl) (pe_lst (pa_cons (pe_op op_catA (pe_op op_catA (pe_slice sl_tupA (pv 1) po_none (po_some (pv 2))) (pe_tup (pa_cons (pv 3) pa_nil))) (pe_slice sl_tupA (pv 1) (po_some (pv 2)) po_none)) (pa_cons (pe_op op_catA (pe_slice sl_tupA (pv 1) po_none (po_some (pv 2))) (pe_slice sl_tupA (pv 1) (po_some (pe_op op_add (pv 2) pe_int)) po_none)) (pa_cons (pe_revT (pv 1)) (pa_cons (pe_op op_catA (pe_slice sl_tupA (pv 1) po_none (po_some (pv 2))) (pe_slice sl_tupA (pv 1) (po_some (pe_callB (call_max2 rfl) (by rfl) B.b_max PyProof.Rows.boot_max (pa_cons pe_int (pa_cons (pe_op op_sub (pv 2) pe_int) pa_nil)))) po_none)) pa_nil))))))
      (pss_one (ps_ret (pe_ix ix_list (pv 4) (pe_cal c__law_next (hr.mono (by decide)) (pa_cons (pv 0) (pa_cons pe_int pa_nil))) (fun _ _ => rfl))))))), ?_⟩
  have hwl := hW.len
  refine ⟨.ref a, rfl, .ref b, rfl, b, _, rfl, .inr hS, _, 1, rfl, rfl, a, l, _, rfl, hR, by omega, small_lim (by omega) (by omega), fun H1 r k1 r0 r1 => ?_⟩
  refine ⟨(by show 8 ≤ sizeLine; decide), fun p np => ?_⟩
  have k2 := k1.put (o := .lst (oddNs.map V.str)) np
  obtain ⟨n1, n2⟩ := k1.new.no np
  refine ⟨.ref a, rfl, a, l, 8, rfl, k2.new, by decide, by decide, fun H2 j k3 j0 j1 => ?_⟩
  obtain ⟨m, rfl⟩ := Int.eq_ofNat_of_zero_le j0
  obtain ⟨od, eod, hod⟩ := odd_at m (by omega)
  have ep := k3.lst upd_same n1 n2
  have k4 := k2.trans k3
  refine ⟨p, _, (m : Int), .str od, rfl, rfl, sqL_of ep, atI_nat (show (oddNs.map V.str)[m]? = some (.str od) by rw [List.getElem?_map, eod]; rfl), ?_⟩
  have hO : Strs 1 [.str od] := ⟨[od], rfl, fun x hx => by rw [List.mem_singleton.mp hx]; exact odd_fine od hod, Nat.le_refl _⟩
  have hS2 := k4.tup hS
  have big : ∀ {m : Nat}, m ≤ 1000 → m ≤ sizeLine := fun {m} h => by rw [sizeLine_eq]; omega
  have hC : ∀ {lo hi : Option Int}, (cutV ws lo hi).length ≤ n := fun {lo hi} => hW.cut.len
  refine ⟨.ref b, rfl, .int r, rfl, r, rfl, sl_any hS2 fun p1 H3 s3 g1 => ?_⟩
  refine ⟨_, rfl, (by show 1 ≤ sizeLine; decide), fun t1 nt1 => cat_any (((Same.refl H3).put nt1).tup g1) sqT_new (big (by have h1 := hC (lo := none) (hi := some r); show _ + 1 ≤ _; omega)) fun p2 H4 s4 g2 => ?_⟩
  have s4 := (s3.put' nt1).trans s4
  refine ⟨.ref b, rfl, .int r, rfl, r, rfl, ?_⟩
  dsimp only [tNoPart]
  refine sl_any (s4.tup hS2) fun p3 H5 s5 g3 => cat_any (s5.tup g2) g3 (big (by have h1 := hC (lo := none) (hi := some r); have h2 := hC (lo := some r) (hi := none); rw [List.length_append]; show _ + 1 + _ ≤ _; omega)) fun p4 H6 s6 g4 => ?_
  have s6 := (s4.trans s5).trans s6
  refine ⟨.ref b, rfl, .int r, rfl, r, rfl, sl_any (s6.tup hS2) fun p5 H7 s7 g5 => ?_⟩
  have s7' := s6.trans s7
  refine ⟨.ref b, rfl, .int r, rfl, r, 1, rfl, rfl, _, rfl, ?_⟩
  dsimp only [tNoPart]
  refine sl_any (s7'.tup hS2) fun p6 H8 s8 g6 => cat_any (s8.tup g5) g6 (big (by have h1 := hC (lo := none) (hi := some r); have h2 := hC (lo := some (r + 1)) (hi := none); omega)) fun p7 H9 s9 g7 => ?_
  have s9 := (s7'.trans s8).trans s9
  refine ⟨.ref b, rfl, b, ws, rfl, s9.tup hS2, fun p8 np8 => ?_⟩
  have s10 := s9.put' (o := .tup ws.reverse) np8
  have g8 : SqT K (upd H9 p8 (.tup ws.reverse)) p8 ws.reverse := sqT_new
  have g7 := (Same.refl H9).put (o := .tup ws.reverse) np8 |>.tup g7
  have e9 : Same H6 (upd H9 p8 (.tup ws.reverse)) := ((s7.trans s8).trans (by assumption)).put' np8
  generalize upd H9 p8 (.tup ws.reverse) = H10 at s10 g8 g7 e9 ⊢
  refine ⟨.ref b, rfl, .int r, rfl, r, rfl, sl_any (s10.tup hS2) fun p9 H11 s11 g9 => ?_⟩
  refine ⟨.ref b, rfl, .int r, rfl, r, 1, rfl, rfl, _, _, rfl, _, rfl, ?_⟩
  dsimp only [tNoPart]
  refine sl_any ((s10.trans s11).tup hS2) fun p10 H12 s12 g10 => cat_any (s12.tup g9) g10 (big (by have h1 := hC (lo := none) (hi := some r); have h2 := hC (lo := some (if r - 1 > 0 then r - 1 else 0)) (hi := none); omega)) fun p11 H13 s13 g11 => ?_
  have f13 := (s11.trans s12).trans s13
  have s14 := s10.trans f13
  refine ⟨(by show 4 ≤ sizeLine; decide), fun q9 nq9 => ?_⟩
  have k14 := (k4.same s14).put (o := .lst [.ref p4, .ref p7, .ref p8, .ref p11]) nq9
  obtain ⟨m1, m2⟩ := (k4.same s14).new.no nq9
  refine ⟨.ref q9, rfl, .ref a, rfl, a, l, 4, rfl, k14.new, by decide, by decide, fun H15 j2 k15 v0 v1 => ?_⟩
  have eq9 := k15.lst upd_same m1 m2
  have k16 := k14.trans k15
  have kk := (Kp.of (k4.same s14).new (Same.refl H13)).put (o := .lst [.ref p4, .ref p7, .ref p8, .ref p11]) nq9 |>.trans k15
  have y1 := kk.tup ((e9.trans f13).tup g4)
  have y2 := kk.tup (f13.tup g7)
  have y3 := kk.tup (f13.tup g8)
  have y4 := kk.tup g11
  obtain ⟨mm, rfl⟩ := Int.eq_ofNat_of_zero_le v0
  have w1 : Strs (2 * n + 1) (cutV ws none (some r) ++ [V.str od] ++ cutV ws (some r) none) := ((hW.cut.app hO).app hW.cut).le (by omega)
  have w2 : Strs (2 * n + 1) (cutV ws none (some r) ++ cutV ws (some (r + 1)) none) := (hW.cut.app hW.cut).le (by omega)
  have w3 : Strs (2 * n + 1) ws.reverse := hW.rev.le (by omega)
  have w4 : Strs (2 * n + 1) (cutV ws none (some r) ++ cutV ws (some (if r - 1 > 0 then r - 1 else 0)) none) := (hW.cut.app hW.cut).le (by omega)
  have done : ∃ pp us, [V.ref p4, .ref p7, .ref p8, .ref p11][mm]? = some (.ref pp) ∧ SqT K H15 pp us ∧ Strs (2 * n + 1) us := by
    match mm, v1 with
    | 0, _ => exact ⟨p4, _, rfl, y1, w1⟩
    | 1, _ => exact ⟨p7, _, rfl, y2, w2⟩
    | 2, _ => exact ⟨p8, _, rfl, y3, w3⟩
    | 3, _ => exact ⟨p11, _, rfl, y4, w4⟩
    | x + 4, h => exact absurd h (by omega)
  obtain ⟨pp, us, e1, e2, e3⟩ := done
  exact ⟨q9, _, (mm : Int), .ref pp, rfl, rfl, sqL_of eq9, atI_nat e1, q _ _ _ k16 e2 e3⟩
end
end Sc
namespace Sc
open PySem PySem.Spec PyProof.Rows L2 LamX
/-! ### _law_error -/
abbrev s__law_error : Stmt := topS 37
theorem sc__law_error : FnScope ["_law_call", "e", "_law_kinds", "_law_names", "_law_name"] ["_law_call"] (defScope s__law_error) := ⟨rfl, rfl, rfl, by decide +kernel, rfl, by decide +kernel, by decide +kernel⟩
/-- the classes of errors that the law tells apart, by their places -/
structure GErr (mg : Str → Option Value) (cl : Nat → Addr) (CE : Addr) : Prop where
  m_CourtError : mg "CourtError" = some (.ref CE)
  m_InvalidFacts : mg "InvalidFacts" = some (.ref (cl 0))
  m_InvalidCase : mg "InvalidCase" = some (.ref (cl 1))
  m_InvalidNumber : mg "InvalidNumber" = some (.ref (cl 2))
  m_InvalidCondition : mg "InvalidCondition" = some (.ref (cl 3))
  m_NeverMet : mg "NeverMet" = some (.ref (cl 4))
  m_InvalidRule : mg "InvalidRule" = some (.ref (cl 5))
  m_InvalidBook : mg "InvalidBook" = some (.ref (cl 6))
  m_UnknownRule : mg "UnknownRule" = some (.ref (cl 7))
  m_InvalidRuling : mg "InvalidRuling" = some (.ref (cl 8))
  m_UnknownFact : mg "UnknownFact" = some (.ref (cl 9))
  m_NoReason : mg "NoReason" = some (.ref (cl 10))
  m_TooMany : mg "TooMany" = some (.ref (cl 11))
  m_InvalidChance : mg "InvalidChance" = some (.ref (cl 12))
  m_OtherFacts : mg "OtherFacts" = some (.ref (cl 13))
  m_NoNeighbor : mg "NoNeighbor" = some (.ref (cl 14))
  m_NoFacts : mg "NoFacts" = some (.ref (cl 15))
  m_AlreadyKnown : mg "AlreadyKnown" = some (.ref (cl 16))
def kindNames : List Str := ["facts", "case", "number", "condition", "never", "rule", "book", "norule", "ruling", "fact", "reason", "many", "chance", "other", "neighbor", "nofacts", "known"]
/-- the class at D is the k-th -/
structure ErrRow (K : PySem.W.Frag) (cl : Nat → Addr) (CE D : Addr) (k : Nat) : Prop where
  lt : k < 17
  err : ErrC K D
  ex : PySem.W.exmOne K (.ref D) (.ref CE) = some true
  kit : ∀ i, i < 17 → PySem.W.kitOne K (.ref D) (.ref (cl i)) = some (decide (i = k))
  ve : PySem.W.kitOne K (.ref D) (.type "ValueError") = some true
  noF : ∀ n ∈ (["index", "part", "word", "fact"] : List Str), PySem.W.findIn K (.ref D) n = some none
abbrev kb (k i : Nat) : V := .bl (decide (i = k))

def kname (k : Nat) : Str := kindNames.getD k "other"
/-- what the law tells of an error: its kind, and what it bears -/
inductive Pay (H : Hp) (d : Option Addr) : Nat → List V → Prop where
  | ix {k : Nat} {dd : Addr} {fs : List (Str × V)} {v : V} (hk : k < 2) (ed : d = some dd) (ea : H dd = some (.xd fs)) (l : fs.lookup ("index" : Str) = some v) : Pay H d k [.str (kname k), v]
  | cond {dd : Addr} {fs : List (Str × V)} {v u : V} (ed : d = some dd) (ea : H dd = some (.xd fs)) (l : fs.lookup ("part" : Str) = some v) (l2 : fs.lookup ("index" : Str) = some u) : Pay H d 3 [.str "condition", v, u]
  | book {dd : Addr} {fs : List (Str × V)} {v u : V} (ed : d = some dd) (ea : H dd = some (.xd fs)) (l : fs.lookup ("word" : Str) = some v) (l2 : fs.lookup ("index" : Str) = some u) : Pay H d 6 [.str "book", v, u]
  | rule {dd : Addr} {fs : List (Str × V)} {v : V} (ed : d = some dd) (ea : H dd = some (.xd fs)) (l : fs.lookup ("part" : Str) = some v) : Pay H d 5 [.str "rule", v]
  | chance {dd : Addr} {fs : List (Str × V)} {v : V} (ed : d = some dd) (ea : H dd = some (.xd fs)) (l : fs.lookup ("fact" : Str) = some v) : Pay H d 12 [.str "chance", v]
  | plain {k : Nat} (hx : XdOk d H) (hk : ¬ k < 2) (h3 : k ≠ 3) (h5 : k ≠ 5) (h6 : k ≠ 6) (h12 : k ≠ 12) : Pay H d k [.str (kname k)]
theorem Pay.xd {H : Hp} {d : Option Addr} {k : Nat} {vs : List V} (p : Pay H d k vs) : XdOk d H := by
  cases p with
  | ix hk ed ea l => intro dd e; rw [ed] at e; cases e; exact ⟨_, ea⟩
  | cond ed ea l l2 => intro dd e; rw [ed] at e; cases e; exact ⟨_, ea⟩
  | book ed ea l l2 => intro dd e; rw [ed] at e; cases e; exact ⟨_, ea⟩
  | rule ed ea l => intro dd e; rw [ed] at e; cases e; exact ⟨_, ea⟩
  | chance ed ea l => intro dd e; rw [ed] at e; cases e; exact ⟨_, ea⟩
  | plain hx => exact hx
/-- _law_error: the lambda is called; the answer is a new tuple -/
def TErr (K : PySem.W.Frag) (cl : Nat → Addr) (CE : Addr) : (XK → Hp → VK → Prop) → Hp → VK → Prop := fun tl H Q =>
  tl (fun cls d H1 => ∃ (D : Addr) (k : Nat) (vs : List V), cls = .ref D ∧ ErrRow K cl CE D k ∧ Pay H1 d k vs ∧ ∀ H2 p, Same H1 H2 → H2 p = some (.tup vs) → H1 p = none → Q (.ref p) H2)
    H fun _ H1 => ([V.str "none"].length ≤ sizeLine ∧ ∀ p, H1 p = none → Q (.ref p) (upd H1 p (.tup [.str "none"])))
def kinds (k : Nat) : List V := [kb k 0, kb k 1, kb k 2, kb k 3, kb k 4, kb k 5, kb k 6, kb k 7, kb k 8, kb k 9, kb k 10, kb k 11, kb k 12, kb k 13, kb k 14, kb k 15, kb k 16]
theorem kinds_count : ∀ k, k < 17 → (kinds k).countP (fun z => eqV z (.bl true)) = 1 := by decide +kernel
theorem kinds_at : ∀ k, k < 17 → (kinds k)[k]? = some (.bl true) := by decide +kernel
theorem kinds_off : ∀ k, k < 17 → ∀ m, m < k → (kinds k)[m]? = some (.bl false) := by decide +kernel
theorem names_at : ∀ k, k < 17 → (kindNames.map V.str)[k]? = some (.str (kname k)) := by decide +kernel
theorem in_two : ∀ k, k < 17 → inV (.str (kname k)) [.str "facts", .str "case"] = decide (k < 2) := by decide +kernel
theorem in_rule : ∀ k, k < 17 → inV (.str (kname k)) [.str "rule", .str "chance"] = (decide (k = 5) || decide (k = 12)) := by decide +kernel
theorem is_cond : ∀ k, k < 17 → decide (V.str (kname k) = V.str "condition") = decide (k = 3) := by decide +kernel
theorem is_book : ∀ k, k < 17 → decide (V.str (kname k) = V.str "book") = decide (k = 6) := by decide +kernel
theorem XdOk.same {H H' : Hp} {d : Option Addr} (x : XdOk d H) (s : Same H H') : XdOk d H' := fun dd e => by
  obtain ⟨fs, h⟩ := x dd e
  exact ⟨fs, s _ _ h⟩
theorem five {σ : L2.St} (h : σ.length = 5) : ∃ x0 x1 x2 x3 x4, σ = [x0, x1, x2, x3, x4] := by
  match σ, h with
  | [a, b, c, d, e], _ => exact ⟨a, b, c, d, e, rfl⟩
theorem err_gives {X : Cx} {g : Addr} {cdg : Value} {q : Str} {cl : Nat → Addr} {CE : Addr} (B : Blt X.mg) (G : GErr X.mg cl CE) : GivesTo X ["_law_call", "e", "_law_kinds", "_law_names", "_law_name"] "_law_error" (defScope s__law_error) g cdg (defBody s__law_error) "_law_call" q (TErr X.K cl CE) := by
  intro f c' s H Q tl act hc h
  refine ⟨_, pss_cons (ps_try_as (X := (cxOf C8.CX0 X.prog X.w X.K X.mg X.base ["_law_call", "e", "_law_kinds", "_law_names", "_law_name"] "_law_error" (defScope s__law_error) g cdg X.A X.stack s H C8.E0).nox) (i := 1) (c := .ref CE)
      (tb := fun W D σ H => ∃ Ech : XK, (∀ cls d σ' H', Ech cls d H' → σ'.length = 5 → W cls d σ' H') ∧ σ[0]? = some (some (.ref f)) ∧ H c' = some (CodeO c' q) ∧ tl Ech H fun _ H1 => D.nx σ H1)
      (Wout := fun _ _ _ _ => False) rfl rfl sc__law_error.nd rfl rfl ⟨rfl, by decide, .inl G.m_CourtError⟩ L2.takes0 (fun W pn xe tk _ => ?_)
      (fun a oe cls d pn hz hf => pss_.re (pss_cons (ps_set (i := 2) sc__law_error.nd rfl (Or.inl rfl) (pe_lst (pa_cons (pe_callB (call_isG hz hf) (by rfl) B.b_isinstance PyProof.Rows.boot_isinstance (pa_cons (pv 1) (pa_cons (pe_glob (v := .ref (cl 0)) rfl G.m_InvalidFacts rfl) pa_nil))) (pa_cons (pe_callB (call_isG hz hf) (by rfl) B.b_isinstance PyProof.Rows.boot_isinstance (pa_cons (pv 1) (pa_cons (pe_glob (v := .ref (cl 1)) rfl G.m_InvalidCase rfl) pa_nil))) (pa_cons (pe_callB (call_isG hz hf) (by rfl) B.b_isinstance PyProof.Rows.boot_isinstance (pa_cons (pv 1) (pa_cons (pe_glob (v := .ref (cl 2)) rfl G.m_InvalidNumber rfl) pa_nil))) pa_nil)))))
      (pss_cons (ps_expr (pe_bm PySem.F.plainAttrs_list PySem.F.slot_list_extend PySem.F.type_list_extend mt_extend (pv 2) (pa_cons (pe_lst (pa_cons (pe_callB (call_isG hz hf) (by rfl) B.b_isinstance PyProof.Rows.boot_isinstance (pa_cons (pv 1) (pa_cons (pe_glob (v := .ref (cl 3)) rfl G.m_InvalidCondition rfl) pa_nil))) (pa_cons (pe_callB (call_isG hz hf) (by rfl) B.b_isinstance PyProof.Rows.boot_isinstance (pa_cons (pv 1) (pa_cons (pe_glob (v := .ref (cl 4)) rfl G.m_NeverMet rfl) pa_nil))) (pa_cons (pe_callB (call_isG hz hf) (by rfl) B.b_isinstance PyProof.Rows.boot_isinstance (pa_cons (pv 1) (pa_cons (pe_glob (v := .ref (cl 5)) rfl G.m_InvalidRule rfl) pa_nil))) pa_nil)))) pa_nil)))
      (pss_cons (ps_expr (pe_bm PySem.F.plainAttrs_list PySem.F.slot_list_extend PySem.F.type_list_extend mt_extend (pv 2) (pa_cons (pe_lst (pa_cons (pe_callB (call_isG hz hf) (by rfl) B.b_isinstance PyProof.Rows.boot_isinstance (pa_cons (pv 1) (pa_cons (pe_glob (v := .ref (cl 6)) rfl G.m_InvalidBook rfl) pa_nil))) (pa_cons (pe_callB (call_isG hz hf) (by rfl) B.b_isinstance PyProof.Rows.boot_isinstance (pa_cons (pv 1) (pa_cons (pe_glob (v := .ref (cl 7)) rfl G.m_UnknownRule rfl) pa_nil))) (pa_cons (pe_callB (call_isG hz hf) (by rfl) B.b_isinstance PyProof.Rows.boot_isinstance (pa_cons (pv 1) (pa_cons (pe_glob (v := .ref (cl 8)) rfl G.m_InvalidRuling rfl) pa_nil))) pa_nil)))) pa_nil)))
      (pss_cons (ps_expr (pe_bm PySem.F.plainAttrs_list PySem.F.slot_list_extend PySem.F.type_list_extend mt_extend (pv 2) (pa_cons (pe_lst (pa_cons (pe_callB (call_isG hz hf) (by rfl) B.b_isinstance PyProof.Rows.boot_isinstance (pa_cons (pv 1) (pa_cons (pe_glob (v := .ref (cl 9)) rfl G.m_UnknownFact rfl) pa_nil))) (pa_cons (pe_callB (call_isG hz hf) (by rfl) B.b_isinstance PyProof.Rows.boot_isinstance (pa_cons (pv 1) (pa_cons (pe_glob (v := .ref (cl 10)) rfl G.m_NoReason rfl) pa_nil))) (pa_cons (pe_callB (call_isG hz hf) (by rfl) B.b_isinstance PyProof.Rows.boot_isinstance (pa_cons (pv 1) (pa_cons (pe_glob (v := .ref (cl 11)) rfl G.m_TooMany rfl) pa_nil))) pa_nil)))) pa_nil)))
      (pss_cons (ps_expr (pe_bm PySem.F.plainAttrs_list PySem.F.slot_list_extend PySem.F.type_list_extend mt_extend (pv 2) (pa_cons (pe_lst (pa_cons (pe_callB (call_isG hz hf) (by rfl) B.b_isinstance PyProof.Rows.boot_isinstance (pa_cons (pv 1) (pa_cons (pe_glob (v := .ref (cl 12)) rfl G.m_InvalidChance rfl) pa_nil))) (pa_cons (pe_callB (call_isG hz hf) (by rfl) B.b_isinstance PyProof.Rows.boot_isinstance (pa_cons (pv 1) (pa_cons (pe_glob (v := .ref (cl 13)) rfl G.m_OtherFacts rfl) pa_nil))) (pa_cons (pe_callB (call_isG hz hf) (by rfl) B.b_isinstance PyProof.Rows.boot_isinstance (pa_cons (pv 1) (pa_cons (pe_glob (v := .ref (cl 14)) rfl G.m_NoNeighbor rfl) pa_nil))) pa_nil)))) pa_nil)))
      (pss_cons (ps_expr (pe_bm PySem.F.plainAttrs_list PySem.F.slot_list_extend PySem.F.type_list_extend mt_extend (pv 2) (pa_cons (pe_lst (pa_cons (pe_callB (call_isG hz hf) (by rfl) B.b_isinstance PyProof.Rows.boot_isinstance (pa_cons (pv 1) (pa_cons (pe_glob (v := .ref (cl 15)) rfl G.m_NoFacts rfl) pa_nil))) (pa_cons (pe_callB (call_isG hz hf) (by rfl) B.b_isinstance PyProof.Rows.boot_isinstance (pa_cons (pv 1) (pa_cons (pe_glob (v := .ref (cl 16)) rfl G.m_AlreadyKnown rfl) pa_nil))) pa_nil))) pa_nil)))
      (pss_cons (ps_if (PW.pt (pw_or (pt_cmpR op_ne (pe_bm PySem.F.plainAttrs_list PySem.F.slot_list_count PySem.F.type_list_count mt_lcountB (pv 2) (pa_cons pe_bl pa_nil)) pe_int (nomark _)) (pw_or1 (pt_not (pt_val (pe_callB (call_isG hz hf) (by rfl) B.b_isinstance PyProof.Rows.boot_isinstance (pa_cons (pv 1) (pa_cons (pe_bltn (v := .ty "ValueError") (by rfl) B.b_ValueError (by decide +kernel) rfl) pa_nil)))))))) (pss_one (ps_ret (pe_tup (pa_cons pe_str pa_nil)))) pss_nil)
      (pss_cons (ps_set (i := 3) sc__law_error.nd rfl (Or.inl rfl) (pe_lst (pa_cons pe_str (pa_cons pe_str (pa_cons pe_str (pa_cons pe_str (pa_cons pe_str (pa_cons pe_str (pa_cons pe_str (pa_cons pe_str (pa_cons pe_str (pa_cons pe_str (pa_cons pe_str pa_nil)))))))))))))
      (pss_cons (ps_set (i := 4) sc__law_error.nd rfl (Or.inl rfl) (pe_ix ix_list (pe_op op_cat (pv 3) (pe_lst (pa_cons pe_str (pa_cons pe_str (pa_cons pe_str (pa_cons pe_str (pa_cons pe_str (pa_cons pe_str pa_nil)))))))) (pe_bm PySem.F.plainAttrs_list PySem.F.slot_list_index PySem.F.type_list_index mt_index (pv 2) (pa_cons pe_bl pa_nil)) (fun _ _ => rfl)))
      (pss_cons (ps_if (pt_cmpR op_in_seq (pv 4) (pe_tup (pa_cons pe_str (pa_cons pe_str pa_nil))) rfl) (pss_one (ps_ret (pe_tup (pa_cons (pv 4) (pa_cons (pe_xg hz hf (pv 1)) pa_nil))))) pss_nil)
      (pss_cons (ps_if (pt_cmpR op_eq (pv 4) pe_str (nomark _)) (pss_one (ps_ret (pe_tup (pa_cons (pv 4) (pa_cons (pe_xg hz hf (pv 1)) (pa_cons (pe_xg hz hf (pv 1)) pa_nil)))))) pss_nil)
      (pss_cons (ps_if (pt_cmpR op_eq (pv 4) pe_str (nomark _)) (pss_one (ps_ret (pe_tup (pa_cons (pv 4) (pa_cons (pe_xg hz hf (pv 1)) (pa_cons (pe_xg hz hf (pv 1)) pa_nil)))))) pss_nil)
      (pss_cons (ps_if (pt_cmpR op_in_seq (pv 4) (pe_tup (pa_cons pe_str (pa_cons pe_str pa_nil))) rfl) (pss_one (ps_ret (pe_tup (pa_cons (pv 4) (pa_cons (pe_ifExp (pt_cmpR op_eq (pv 4) pe_str (nomark _)) (pe_xg hz hf (pv 1)) (pe_xg hz hf (pv 1))) pa_nil))))) pss_nil)
      (pss_one (ps_ret (pe_tup (pa_cons (pv 4) pa_nil))))))))))))))))) (by first | (dsimp only [Cx.suite]; done) | exact rfl)))
      (pss_one (ps_ret (pe_tup (pa_cons pe_str pa_nil)))), ?_⟩
  · refine ⟨fun pins s' σ H' D I h' => ?_⟩
    obtain ⟨Ech, hW, h1, h2, h3⟩ := h'
    exact (pss_one (ps_expr (act _ pn xe Ech _ _ (takes_len tk) fun cls d σ' H'' z e => hW cls d σ' H'' z e))).run pins s' σ H' D I ⟨h1, h2, h3⟩
  · refine ⟨_, fun cls d σ' H1 z hl => ?_, rfl, hc, h⟩
    obtain ⟨D, k, vs, rfl, R, P, qq⟩ := z
    obtain ⟨x0, x1, x2, x3, x4, rfl⟩ := five hl
    have xd := P.xd
    refine ⟨true, R.ex, fun _ ea _ => ?_, fun z => nomatch z⟩
    refine ⟨_, rfl, D, _, _, _, rfl, R.err, xd, rfl, (fun u r => r), R.kit 0 (by decide), _, rfl, D, _, _, _, rfl, R.err, xd, rfl, (fun u r => r), R.kit 1 (by decide), _, rfl, D, _, _, _, rfl, R.err, xd, rfl, (fun u r => r), R.kit 2 (by decide), (by show 3 ≤ sizeLine; decide), fun p np => ?_⟩
    have s1 : Same H1 (upd H1 p (.lst [kb k 0, kb k 1, kb k 2])) := (Same.refl H1).put np
    have e1 : (upd H1 p (.lst [kb k 0, kb k 1, kb k 2])) p = some (.lst [kb k 0, kb k 1, kb k 2]) := upd_same
    generalize upd H1 p (.lst [kb k 0, kb k 1, kb k 2]) = G1 at s1 e1 ⊢
    refine ⟨.ref p, rfl, .inl ⟨rfl, _, sqL_of e1⟩, _, rfl, D, _, _, _, rfl, R.err, (xd.same s1), rfl, (fun u r => r), R.kit 3 (by decide), _, rfl, D, _, _, _, rfl, R.err, (xd.same s1), rfl, (fun u r => r), R.kit 4 (by decide), _, rfl, D, _, _, _, rfl, R.err, (xd.same s1), rfl, (fun u r => r), R.kit 5 (by decide), (by show 3 ≤ sizeLine; decide), fun q1 nq1 => ⟨p, q1, _, _, rfl, rfl, by rw [upd_ne (ne_of_none e1 nq1)]; exact e1, upd_same, (by show 6 ≤ sizeLine; decide), ?_⟩⟩
    have s2 : Same H1 (upd (upd G1 q1 (.lst [kb k 3, kb k 4, kb k 5])) p (.lst ([kb k 0, kb k 1, kb k 2] ++ [kb k 3, kb k 4, kb k 5]))) := (s1.put' nq1).put np
    have e2 : (upd (upd G1 q1 (.lst [kb k 3, kb k 4, kb k 5])) p (.lst ([kb k 0, kb k 1, kb k 2] ++ [kb k 3, kb k 4, kb k 5]))) p = some (.lst [kb k 0, kb k 1, kb k 2, kb k 3, kb k 4, kb k 5]) := upd_same
    generalize upd (upd G1 q1 (.lst [kb k 3, kb k 4, kb k 5])) p (.lst ([kb k 0, kb k 1, kb k 2] ++ [kb k 3, kb k 4, kb k 5])) = G2 at s2 e2 ⊢
    refine ⟨.ref p, rfl, .inl ⟨rfl, _, sqL_of e2⟩, _, rfl, D, _, _, _, rfl, R.err, (xd.same s2), rfl, (fun u r => r), R.kit 6 (by decide), _, rfl, D, _, _, _, rfl, R.err, (xd.same s2), rfl, (fun u r => r), R.kit 7 (by decide), _, rfl, D, _, _, _, rfl, R.err, (xd.same s2), rfl, (fun u r => r), R.kit 8 (by decide), (by show 3 ≤ sizeLine; decide), fun q2 nq2 => ⟨p, q2, _, _, rfl, rfl, by rw [upd_ne (ne_of_none e2 nq2)]; exact e2, upd_same, (by show 9 ≤ sizeLine; decide), ?_⟩⟩
    have s3 : Same H1 (upd (upd G2 q2 (.lst [kb k 6, kb k 7, kb k 8])) p (.lst ([kb k 0, kb k 1, kb k 2, kb k 3, kb k 4, kb k 5] ++ [kb k 6, kb k 7, kb k 8]))) := (s2.put' nq2).put np
    have e3 : (upd (upd G2 q2 (.lst [kb k 6, kb k 7, kb k 8])) p (.lst ([kb k 0, kb k 1, kb k 2, kb k 3, kb k 4, kb k 5] ++ [kb k 6, kb k 7, kb k 8]))) p = some (.lst [kb k 0, kb k 1, kb k 2, kb k 3, kb k 4, kb k 5, kb k 6, kb k 7, kb k 8]) := upd_same
    generalize upd (upd G2 q2 (.lst [kb k 6, kb k 7, kb k 8])) p (.lst ([kb k 0, kb k 1, kb k 2, kb k 3, kb k 4, kb k 5] ++ [kb k 6, kb k 7, kb k 8])) = G3 at s3 e3 ⊢
    refine ⟨.ref p, rfl, .inl ⟨rfl, _, sqL_of e3⟩, _, rfl, D, _, _, _, rfl, R.err, (xd.same s3), rfl, (fun u r => r), R.kit 9 (by decide), _, rfl, D, _, _, _, rfl, R.err, (xd.same s3), rfl, (fun u r => r), R.kit 10 (by decide), _, rfl, D, _, _, _, rfl, R.err, (xd.same s3), rfl, (fun u r => r), R.kit 11 (by decide), (by show 3 ≤ sizeLine; decide), fun q3 nq3 => ⟨p, q3, _, _, rfl, rfl, by rw [upd_ne (ne_of_none e3 nq3)]; exact e3, upd_same, (by show 12 ≤ sizeLine; decide), ?_⟩⟩
    have s4 : Same H1 (upd (upd G3 q3 (.lst [kb k 9, kb k 10, kb k 11])) p (.lst ([kb k 0, kb k 1, kb k 2, kb k 3, kb k 4, kb k 5, kb k 6, kb k 7, kb k 8] ++ [kb k 9, kb k 10, kb k 11]))) := (s3.put' nq3).put np
    have e4 : (upd (upd G3 q3 (.lst [kb k 9, kb k 10, kb k 11])) p (.lst ([kb k 0, kb k 1, kb k 2, kb k 3, kb k 4, kb k 5, kb k 6, kb k 7, kb k 8] ++ [kb k 9, kb k 10, kb k 11]))) p = some (.lst [kb k 0, kb k 1, kb k 2, kb k 3, kb k 4, kb k 5, kb k 6, kb k 7, kb k 8, kb k 9, kb k 10, kb k 11]) := upd_same
    generalize upd (upd G3 q3 (.lst [kb k 9, kb k 10, kb k 11])) p (.lst ([kb k 0, kb k 1, kb k 2, kb k 3, kb k 4, kb k 5, kb k 6, kb k 7, kb k 8] ++ [kb k 9, kb k 10, kb k 11])) = G4 at s4 e4 ⊢
    refine ⟨.ref p, rfl, .inl ⟨rfl, _, sqL_of e4⟩, _, rfl, D, _, _, _, rfl, R.err, (xd.same s4), rfl, (fun u r => r), R.kit 12 (by decide), _, rfl, D, _, _, _, rfl, R.err, (xd.same s4), rfl, (fun u r => r), R.kit 13 (by decide), _, rfl, D, _, _, _, rfl, R.err, (xd.same s4), rfl, (fun u r => r), R.kit 14 (by decide), (by show 3 ≤ sizeLine; decide), fun q4 nq4 => ⟨p, q4, _, _, rfl, rfl, by rw [upd_ne (ne_of_none e4 nq4)]; exact e4, upd_same, (by show 15 ≤ sizeLine; decide), ?_⟩⟩
    have s5 : Same H1 (upd (upd G4 q4 (.lst [kb k 12, kb k 13, kb k 14])) p (.lst ([kb k 0, kb k 1, kb k 2, kb k 3, kb k 4, kb k 5, kb k 6, kb k 7, kb k 8, kb k 9, kb k 10, kb k 11] ++ [kb k 12, kb k 13, kb k 14]))) := (s4.put' nq4).put np
    have e5 : (upd (upd G4 q4 (.lst [kb k 12, kb k 13, kb k 14])) p (.lst ([kb k 0, kb k 1, kb k 2, kb k 3, kb k 4, kb k 5, kb k 6, kb k 7, kb k 8, kb k 9, kb k 10, kb k 11] ++ [kb k 12, kb k 13, kb k 14]))) p = some (.lst [kb k 0, kb k 1, kb k 2, kb k 3, kb k 4, kb k 5, kb k 6, kb k 7, kb k 8, kb k 9, kb k 10, kb k 11, kb k 12, kb k 13, kb k 14]) := upd_same
    generalize upd (upd G4 q4 (.lst [kb k 12, kb k 13, kb k 14])) p (.lst ([kb k 0, kb k 1, kb k 2, kb k 3, kb k 4, kb k 5, kb k 6, kb k 7, kb k 8, kb k 9, kb k 10, kb k 11] ++ [kb k 12, kb k 13, kb k 14])) = G5 at s5 e5 ⊢
    refine ⟨.ref p, rfl, .inl ⟨rfl, _, sqL_of e5⟩, _, rfl, D, _, _, _, rfl, R.err, (xd.same s5), rfl, (fun u r => r), R.kit 15 (by decide), _, rfl, D, _, _, _, rfl, R.err, (xd.same s5), rfl, (fun u r => r), R.kit 16 (by decide), (by show 2 ≤ sizeLine; decide), fun q5 nq5 => ⟨p, q5, _, _, rfl, rfl, by rw [upd_ne (ne_of_none e5 nq5)]; exact e5, upd_same, (by show 17 ≤ sizeLine; decide), ?_⟩⟩
    have s6 : Same H1 (upd (upd G5 q5 (.lst [kb k 15, kb k 16])) p (.lst ([kb k 0, kb k 1, kb k 2, kb k 3, kb k 4, kb k 5, kb k 6, kb k 7, kb k 8, kb k 9, kb k 10, kb k 11, kb k 12, kb k 13, kb k 14] ++ [kb k 15, kb k 16]))) := (s5.put' nq5).put np
    have e6 : (upd (upd G5 q5 (.lst [kb k 15, kb k 16])) p (.lst ([kb k 0, kb k 1, kb k 2, kb k 3, kb k 4, kb k 5, kb k 6, kb k 7, kb k 8, kb k 9, kb k 10, kb k 11, kb k 12, kb k 13, kb k 14] ++ [kb k 15, kb k 16]))) p = some (.lst [kb k 0, kb k 1, kb k 2, kb k 3, kb k 4, kb k 5, kb k 6, kb k 7, kb k 8, kb k 9, kb k 10, kb k 11, kb k 12, kb k 13, kb k 14, kb k 15, kb k 16]) := upd_same
    generalize upd (upd G5 q5 (.lst [kb k 15, kb k 16])) p (.lst ([kb k 0, kb k 1, kb k 2, kb k 3, kb k 4, kb k 5, kb k 6, kb k 7, kb k 8, kb k 9, kb k 10, kb k 11, kb k 12, kb k 13, kb k 14] ++ [kb k 15, kb k 16])) = G6 at s6 e6 ⊢
    refine ⟨.ref p, rfl, .inl ⟨rfl, _, sqL_of e6⟩, p, _, .bl true, rfl, rfl, sqL_of e6, rfl, rfl, rfl, _, rfl, ?_⟩
    have kc : ([kb k 0, kb k 1, kb k 2, kb k 3, kb k 4, kb k 5, kb k 6, kb k 7, kb k 8, kb k 9, kb k 10, kb k 11, kb k 12, kb k 13, kb k 14, kb k 15, kb k 16]).countP (fun z => eqV z (.bl true)) = 1 := kinds_count k R.lt
    rw [kc]
    refine iteF ⟨_, rfl, D, .ty "ValueError", _, true, rfl, R.err, xd.same s6, rfl, (fun u r => r), R.ve, true, rfl, iteF ?_⟩
    refine ⟨(by show 11 ≤ sizeLine; decide), fun p2 np2 => ?_⟩
    have s7 : Same H1 (upd G6 p2 (.lst [.str "facts", .str "case", .str "number", .str "condition", .str "never", .str "rule", .str "book", .str "norule", .str "ruling", .str "fact", .str "reason"])) := s6.put' np2
    have e7 : (upd G6 p2 (.lst [.str "facts", .str "case", .str "number", .str "condition", .str "never", .str "rule", .str "book", .str "norule", .str "ruling", .str "fact", .str "reason"])) p = some (.lst [kb k 0, kb k 1, kb k 2, kb k 3, kb k 4, kb k 5, kb k 6, kb k 7, kb k 8, kb k 9, kb k 10, kb k 11, kb k 12, kb k 13, kb k 14, kb k 15, kb k 16]) := (upd_ne (ne_of_none e6 np2)).trans e6
    have f7 : (upd G6 p2 (.lst [.str "facts", .str "case", .str "number", .str "condition", .str "never", .str "rule", .str "book", .str "norule", .str "ruling", .str "fact", .str "reason"])) p2 = some (.lst [.str "facts", .str "case", .str "number", .str "condition", .str "never", .str "rule", .str "book", .str "norule", .str "ruling", .str "fact", .str "reason"]) := upd_same
    generalize upd G6 p2 (.lst [.str "facts", .str "case", .str "number", .str "condition", .str "never", .str "rule", .str "book", .str "norule", .str "ruling", .str "fact", .str "reason"]) = H7 at s7 e7 f7 ⊢
    refine ⟨.ref p2, rfl, (by show 6 ≤ sizeLine; decide), fun q8 nq8 => ?_⟩
    refine ⟨p2, q8, _, _, rfl, rfl, (upd_ne (ne_of_none f7 nq8)).trans f7, upd_same, (by show 17 ≤ sizeLine; decide), fun r nr => ?_⟩
    have s8 := s7.put' (o := .lst [.str "many", .str "chance", .str "other", .str "neighbor", .str "nofacts", .str "known"]) nq8
    have e8 := (upd_ne (o := .lst [.str "many", .str "chance", .str "other", .str "neighbor", .str "nofacts", .str "known"]) (ne_of_none e7 nq8)).trans e7
    have s9 : Same H1 (upd (upd H7 q8 (.lst [.str "many", .str "chance", .str "other", .str "neighbor", .str "nofacts", .str "known"])) r (.lst ([.str "facts", .str "case", .str "number", .str "condition", .str "never", .str "rule", .str "book", .str "norule", .str "ruling", .str "fact", .str "reason"] ++ [.str "many", .str "chance", .str "other", .str "neighbor", .str "nofacts", .str "known"]))) := s8.put' nr
    have e9 : (upd (upd H7 q8 (.lst [.str "many", .str "chance", .str "other", .str "neighbor", .str "nofacts", .str "known"])) r (.lst ([.str "facts", .str "case", .str "number", .str "condition", .str "never", .str "rule", .str "book", .str "norule", .str "ruling", .str "fact", .str "reason"] ++ [.str "many", .str "chance", .str "other", .str "neighbor", .str "nofacts", .str "known"]))) p = some (.lst [kb k 0, kb k 1, kb k 2, kb k 3, kb k 4, kb k 5, kb k 6, kb k 7, kb k 8, kb k 9, kb k 10, kb k 11, kb k 12, kb k 13, kb k 14, kb k 15, kb k 16]) := (upd_ne (ne_of_none e8 nr)).trans e8
    have f9 : (upd (upd H7 q8 (.lst [.str "many", .str "chance", .str "other", .str "neighbor", .str "nofacts", .str "known"])) r (.lst ([.str "facts", .str "case", .str "number", .str "condition", .str "never", .str "rule", .str "book", .str "norule", .str "ruling", .str "fact", .str "reason"] ++ [.str "many", .str "chance", .str "other", .str "neighbor", .str "nofacts", .str "known"]))) r = some (.lst (kindNames.map V.str)) := upd_same
    generalize upd (upd H7 q8 (.lst [.str "many", .str "chance", .str "other", .str "neighbor", .str "nofacts", .str "known"])) r (.lst ([.str "facts", .str "case", .str "number", .str "condition", .str "never", .str "rule", .str "book", .str "norule", .str "ruling", .str "fact", .str "reason"] ++ [.str "many", .str "chance", .str "other", .str "neighbor", .str "nofacts", .str "known"])) = H9 at s9 e9 f9 ⊢
    refine ⟨.ref p, rfl, .inl ⟨rfl, _, sqL_of e9⟩, p, _, .bl true, k, .bl true, rfl, rfl, sqL_of e9, rfl, rfl, kinds_at k R.lt, rfl, fun m z' hm hz => ?_, r, _, _, _, rfl, rfl, sqL_of f9, atI_nat (names_at k R.lt), ?_⟩
    · have := (kinds_off k R.lt m hm).symm.trans hz
      cases this
      rfl
    refine ⟨_, rfl, (by show 2 ≤ sizeLine; decide), fun t1 nt1 => ⟨t1, _, rfl, .inr sqT_new, rfl, rfl, _, rfl, ?_⟩⟩
    have s10 := s9.put' (o := .tup [.str "facts", .str "case"]) nt1
    rw [in_two k R.lt]
    cases P with
    | ix hk ed ea l =>
      rw [decide_eq_true hk]
      exact iteT ⟨_, rfl, _, rfl, rfl, D, _, _, _, rfl, R.err, R.noF "index" (by decide), ed, s10 _ _ ea, l, (by show 2 ≤ sizeLine; decide), fun t nt => qq _ t (s10.put' nt) upd_same (s10.free nt)⟩
    | cond ed ea l l2 =>
      exact iteF ⟨_, rfl, rfl, _, rfl, iteT ⟨_, rfl, _, rfl, rfl, D, _, _, _, rfl, R.err, R.noF "part" (by decide), ed, s10 _ _ ea, l, _, rfl, rfl, D, _, _, _, rfl, R.err, R.noF "index" (by decide), ed, s10 _ _ ea, l2, (by show 3 ≤ sizeLine; decide), fun t nt => qq _ t (s10.put' nt) upd_same (s10.free nt)⟩⟩
    | book ed ea l l2 =>
      exact iteF ⟨_, rfl, rfl, _, rfl, iteF ⟨_, rfl, rfl, _, rfl, iteT ⟨_, rfl, _, rfl, rfl, D, _, _, _, rfl, R.err, R.noF "word" (by decide), ed, s10 _ _ ea, l, _, rfl, rfl, D, _, _, _, rfl, R.err, R.noF "index" (by decide), ed, s10 _ _ ea, l2, (by show 3 ≤ sizeLine; decide), fun t nt => qq _ t (s10.put' nt) upd_same (s10.free nt)⟩⟩⟩
    | rule ed ea l =>
      exact iteF ⟨_, rfl, rfl, _, rfl, iteF ⟨_, rfl, rfl, _, rfl, iteF ⟨_, rfl, (by show 2 ≤ sizeLine; decide), fun t2 nt2 => ⟨t2, _, rfl, .inr sqT_new, rfl, rfl, _, rfl, iteT ⟨_, rfl, _, rfl, rfl, _, rfl, iteT ⟨_, rfl, rfl, D, _, _, _, rfl, R.err, R.noF "part" (by decide), ed, s10.put' nt2 _ _ ea, l, (by show 2 ≤ sizeLine; decide), fun t nt => qq _ t ((s10.put' nt2).put' nt) upd_same ((s10.put' nt2).free nt)⟩⟩⟩⟩⟩⟩
    | chance ed ea l =>
      exact iteF ⟨_, rfl, rfl, _, rfl, iteF ⟨_, rfl, rfl, _, rfl, iteF ⟨_, rfl, (by show 2 ≤ sizeLine; decide), fun t2 nt2 => ⟨t2, _, rfl, .inr sqT_new, rfl, rfl, _, rfl, iteT ⟨_, rfl, _, rfl, rfl, _, rfl, iteF ⟨_, rfl, rfl, D, _, _, _, rfl, R.err, R.noF "fact" (by decide), ed, s10.put' nt2 _ _ ea, l, (by show 2 ≤ sizeLine; decide), fun t nt => qq _ t ((s10.put' nt2).put' nt) upd_same ((s10.put' nt2).free nt)⟩⟩⟩⟩⟩⟩
    | plain hx hk h3 h5 h6 h12 =>
      rw [decide_eq_false hk]
      refine iteF ⟨_, rfl, rfl, _, rfl, ?_⟩
      rw [is_cond k R.lt, decide_eq_false h3]
      refine iteF ⟨_, rfl, rfl, _, rfl, ?_⟩
      rw [is_book k R.lt, decide_eq_false h6]
      refine iteF ⟨_, rfl, (by show 2 ≤ sizeLine; decide), fun t2 nt2 => ⟨t2, _, rfl, .inr sqT_new, rfl, rfl, _, rfl, ?_⟩⟩
      rw [in_rule k R.lt, decide_eq_false h5, decide_eq_false h12]
      exact iteF ⟨_, rfl, (by show 1 ≤ sizeLine; decide), fun t nt => qq _ t ((s10.put' nt2).put' nt) upd_same ((s10.put' nt2).free nt)⟩
end Sc
namespace Sc
open PySem PySem.Spec PyProof.Rows L2
theorem badAt_none {xs : List Str} (h : firstBad xs = none) : xs ≠ [] ∧ ∀ i, i < xs.length → badAt xs i = false := by
  unfold firstBad at h
  split at h
  · cases h
  · rename_i e
    refine ⟨e, fun i hi => ?_⟩
    rw [List.find?_eq_none] at h
    have := h i (List.mem_range.mpr hi)
    exact (Bool.not_eq_true _).mp this
theorem right_len {xs : List Str} (h : firstBad xs = none) : xs.length ≤ 60 := by
  obtain ⟨_, h2⟩ := badAt_none h
  by_cases e : xs.length ≤ 60
  · exact e
  · have := h2 60 (by omega)
    unfold badAt at this
    rw [decide_eq_true rfl, Bool.true_or] at this
    cases this
theorem right_rises {xs : List Str} (h : firstBad xs = none) (i : Nat) (hi : i < xs.length) : risesAt xs i = true := by
  obtain ⟨_, h2⟩ := badAt_none h
  have := h2 i hi
  unfold badAt at this
  rw [Bool.or_eq_false_iff, Bool.or_eq_false_iff] at this
  have := this.2.2
  cases e : risesAt xs i with
  | true => rfl
  | false => rw [e] at this; cases this
def SLt (a b : Str) : Prop := a.cps.toList < b.cps.toList
theorem SLt.trans {a b c : Str} (h : SLt a b) (h' : SLt b c) : SLt a c := List.lt_trans h h'
theorem SLt.irrefl {a : Str} (h : SLt a a) : False := List.lt_irrefl _ h
theorem sorted_of : ∀ {xs : List Str}, (∀ i, i < xs.length → risesAt xs i = true) → xs.Pairwise SLt := by
  intro xs h
  have step : ∀ i (h1 : i + 1 < xs.length), SLt (xs[i]'(by omega)) xs[i + 1] := fun i h1 => by
    have := h (i + 1) h1
    rw [risesAt_eq h1 (by omega) (by omega)] at this
    unfold SLt
    exact of_decide_eq_true this
  have far : ∀ d i (h1 : i + d + 1 < xs.length), SLt (xs[i]'(by omega)) xs[i + d + 1] := by
    intro d
    induction d with
    | zero => exact fun i h1 => step i h1
    | succ d ih => exact fun i h1 => (ih i (by omega)).trans (step (i + d + 1) (by omega))
  rw [List.pairwise_iff_getElem]
  intro i j hi hj hij
  have e : j = i + (j - i - 1) + 1 := by omega
  have := far (j - i - 1) i (by omega)
  simpa [← e] using this
theorem rises_of {cs : List Str} (h : cs.Pairwise SLt) (i : Nat) (hi : i < cs.length) : risesAt cs i = true := by
  by_cases e : i = 0
  · subst e; rfl
  · rw [risesAt_eq hi e (by omega)]
    rw [List.pairwise_iff_getElem] at h
    exact decide_eq_true (h (i - 1) i (by omega) hi (by omega))
theorem nodup_of {cs : List Str} (h : cs.Pairwise SLt) : cs.Nodup := h.imp fun h e => by subst e; exact h.irrefl
theorem sub_out {xs cs : List Str} (h : firstBad xs = none) (s : cs.Sublist xs) : firstOut xs cs = none := by
  have hs := (sorted_of (right_rises h)).sublist s
  unfold firstOut
  apply find_none
  intro j hj
  unfold outAt
  rw [List.getElem?_eq_getElem hj, rises_of hs j hj]
  have : cs[j] ∈ xs := s.subset (List.getElem_mem hj)
  simp [this]
theorem bit_mod (n : Int) (j : Nat) : bitAt n j = decide (n / 2 ^ j % 2 = 1) := by
  unfold bitAt
  have e : Builtin.bitAnd (n / 2 ^ j) 1 = n / 2 ^ j % 2 := bitAnd_m1 (n / 2 ^ j)
  rw [e]
  rcases Int.emod_two_eq (n / 2 ^ j) with h | h <;> rw [h] <;> rfl
def bsum (xs cs : List Str) (i : Nat) : Int := (bitsL xs cs i).sum
theorem bsum_succ {xs cs : List Str} {i : Nat} : bsum xs cs (i + 1) = bsum xs cs i + (if heldAt xs cs i = true then 2 ^ i else 0) := by
  unfold bsum
  split
  · rename_i h
    rw [bitsL_more h, List.sum_append]
    simp
  · rename_i h
    rw [bitsL_same (by simpa using h)]
    simp
theorem bsum_lt {xs cs : List Str} : ∀ i, 0 ≤ bsum xs cs i ∧ bsum xs cs i < 2 ^ i
  | 0 => by unfold bsum bitsL; simp
  | i + 1 => by
    obtain ⟨h0, h1⟩ := bsum_lt (xs := xs) (cs := cs) i
    rw [bsum_succ, Int.pow_succ]
    split <;> omega
theorem bsum_bit {xs cs : List Str} : ∀ i j, j < i → bitAt (bsum xs cs i) j = heldAt xs cs j
  | 0, j, h => absurd h (Nat.not_lt_zero j)
  | i + 1, j, h => by
    obtain ⟨h0, h1⟩ := bsum_lt (xs := xs) (cs := cs) i
    rw [bsum_succ, bit_mod]
    by_cases e : j = i
    · subst e
      have p : (0 : Int) < 2 ^ j := Int.pow_pos (by decide)
      split
      · rename_i hh
        have e1 : (bsum xs cs j + 2 ^ j) / 2 ^ j = 1 := by
          rw [Int.add_ediv_of_dvd_right (Int.dvd_refl _), Int.ediv_self (by omega), Int.ediv_eq_zero_of_lt h0 h1]
          rfl
        rw [e1, hh]
        rfl
      · rename_i hh
        rw [Int.add_zero, Int.ediv_eq_zero_of_lt h0 h1]
        have hh : heldAt xs cs j = false := by simpa using hh
        rw [hh]
        rfl
    · have hj : j < i := by omega
      rw [← bsum_bit i j hj, bit_mod]
      split
      · have p : (0 : Int) < 2 ^ j := Int.pow_pos (by decide)
        have e2 : (2 : Int) ^ i = 2 ^ j * (2 * 2 ^ (i - j - 1)) := by
          rw [← Int.pow_succ', ← Int.pow_add]
          congr 1
          omega
        rw [e2, Int.add_mul_ediv_left _ _ (by omega), Int.add_mul_emod_self_left]
      · rw [Int.add_zero]
theorem filter1 {α : Type} (p : α → Bool) (y : α) : List.filter p [y] = if p y = true then [y] else [] := by cases h : p y <;> simp [List.filter, h]
theorem fm_range : ∀ (xs cs : List Str), (List.range xs.length).filterMap (fun j => if heldAt xs cs j = true then xs[j]? else none) = xs.filter fun x => decide (x ∈ cs) := by
  intro xs cs
  have key : ∀ n, n ≤ xs.length → (List.range n).filterMap (fun j => if heldAt xs cs j = true then xs[j]? else none) = (xs.take n).filter fun x => decide (x ∈ cs) := by
    intro n
    induction n with
    | zero => intro _; rfl
    | succ n ih =>
      intro hn
      have hx : xs[n]? = some xs[n] := List.getElem?_eq_getElem hn
      rw [List.range_succ, List.filterMap_append, ih (by omega), take_more hx, List.filter_append]
      congr 1
      have eh : heldAt xs cs n = decide (xs[n] ∈ cs) := by unfold heldAt; rw [hx]
      by_cases m : xs[n] ∈ cs
      · have e1 : (if heldAt xs cs n = true then xs[n]? else none) = some xs[n] := by rw [eh, hx, decide_eq_true m]; rfl
        rw [List.filterMap_cons, e1, filter1, if_pos (decide_eq_true m)]
        rfl
      · have e1 : (if heldAt xs cs n = true then xs[n]? else none) = none := by rw [eh, decide_eq_false m]; rfl
        rw [List.filterMap_cons, e1, filter1, if_neg (by simpa using m)]
        rfl
  have := key xs.length (Nat.le_refl _)
  rw [List.take_length] at this
  exact this
theorem filter_sub : ∀ {xs cs : List Str}, cs.Sublist xs → xs.Nodup → xs.filter (fun x => decide (x ∈ cs)) = cs := by
  intro xs cs s
  induction s with
  | slnil => intro _; rfl
  | @cons cs xs x s ih =>
    intro nd
    obtain ⟨n1, n2⟩ := List.nodup_cons.mp nd
    rw [List.filter_cons_of_neg (by simpa using fun h => n1 (s.subset h))]
    exact ih n2
  | @cons_cons cs xs x s ih =>
    intro nd
    obtain ⟨n1, n2⟩ := List.nodup_cons.mp nd
    rw [List.filter_cons_of_pos (by simp)]
    congr 1
    rw [← ih n2]
    apply List.filter_congr
    intro y hy
    have hne : y ≠ x := fun e => n1 (e ▸ hy)
    rw [ih n2]
    simp [hne]
theorem names_bits {xs cs : List Str} (h : firstBad xs = none) (s : cs.Sublist xs) : namesOf xs (bitsOf xs cs) = cs := by
  have nd := nodup_of (sorted_of (right_rises h))
  unfold namesOf namesL
  rw [← filter_sub s nd, ← fm_range]
  apply fm_congr
  intro j hj
  have hj := List.mem_range.mp hj
  have e : bitAt (bitsOf xs cs) j = heldAt xs cs j := bsum_bit (xs := xs) (cs := cs) xs.length j hj
  have ef : xs.filter (fun x => decide (x ∈ cs)) = cs := filter_sub s nd
  rw [fm_range, ef, e]
theorem bits_lt {xs cs : List Str} : 0 ≤ bitsOf xs cs ∧ bitsOf xs cs < 2 ^ xs.length := bsum_lt (xs := xs) (cs := cs) xs.length
theorem bits_all {xs : List Str} : bitsOf xs xs = 2 ^ xs.length - 1 := by
  have key : ∀ n, n ≤ xs.length → bsum xs xs n = 2 ^ n - 1 := by
    intro n
    induction n with
    | zero => intro _; unfold bsum bitsL; simp
    | succ n ih =>
      intro hn
      have eh : heldAt xs xs n = true := by
        unfold heldAt
        rw [List.getElem?_eq_getElem hn]
        exact decide_eq_true (List.getElem_mem hn)
      rw [bsum_succ, if_pos eh, ih (by omega), Int.pow_succ]
      omega
  exact key xs.length (Nat.le_refl _)
theorem names_all {xs : List Str} (h : firstBad xs = none) : namesOf xs (2 ^ xs.length - 1) = xs := by
  rw [← bits_all]
  exact names_bits h (List.Sublist.refl xs)
theorem bits_nil {xs : List Str} : bitsOf xs [] = 0 := by
  have key : ∀ n, bsum xs [] n = 0 := by
    intro n
    induction n with
    | zero => unfold bsum bitsL; simp
    | succ n ih =>
      have eh : ¬ heldAt xs [] n = true := by
        unfold heldAt
        cases xs[n]? with
        | none => simp
        | some x => simp
      rw [bsum_succ, if_neg eh, ih]
      rfl
  exact key xs.length
theorem names_nil {xs : List Str} (h : firstBad xs = none) : namesOf xs 0 = [] := by
  rw [← bits_nil (xs := xs)]
  exact names_bits h (List.nil_sublist xs)
end Sc
namespace Sc
open PySem PySem.Spec PyProof.Rows L2
abbrev s_law : Stmt := topS 41
theorem sc_law : FnScope ["_law_script", "_law_h", "_law_letters", "_law_time", "_law_many", "_law_bad_here", "_law_case", "_law_number", "_law_wrong", "_law_due", "_law_facts_here", "_law_odd", "_law_other", "_law_k", "_law_name"] ["_law_script"] (defScope s_law) := ⟨rfl, rfl, rfl, by decide +kernel, rfl, by decide +kernel, by decide +kernel⟩
section
variable {P : Program} {w : World} {K : PySem.W.Frag} {mg : Str → Option Value} {base : Heap} {a l : Addr} {H H' H'' : Hp}
/-- a def whose code is known -/
structure FunC (K : PySem.W.Frag) (x qual : Str) (st : Stmt) (f : Addr) (fd : FuncData) (c : Addr) : Prop where
  ex : ∃ (oc : Value) (od : Option Addr) (kV doc pm : Value) (an : Option Addr) (ct : Value) (osl : Array (Option Value)), fd = PySem.W.fnOf x qual (defArgs st) (defBody st) (defScope st) .none kV doc pm an (.ref c) ct ∧ K.lookup f = some ⟨oc, od, .func fd, osl⟩ ∧ PySem.W.codeIn K (.ref c) qual = true
  kp : PySem.W.keepIn K (.ref f) = true
theorem FunC.ok {x qual : Str} {st : Stmt} {f : Addr} {fd : FuncData} {c : Addr} {N ps : List Str} {k : Nat} {sp : Sp} (F : FunC K x qual st f fd c) (S : FnScope N ps (defScope st))
    (len : ∀ (vs : List V) (H : Hp) (Q : VK) (E : XK), sp vs H Q E → vs.length = ps.length)
    (hb : ∀ (A : Around) (outer : List Env) (s : Shared) (H : Hp) (vs : List V) (Q : VK) (E : XK), Room k (A.deeper (envOfC qual (defScope st) s.heap.objs.size f (.ref c))) → sp vs H Q E →
      ∃ t, PSs (cxOf CX0 P w K mg base N qual (defScope st) f (.ref c) A outer s H E).nox (defBody st) t ∧ t { nx := fun x H' => Q .non H', rt := Q } (L2.start N vs) H) : FnOk P w K mg base CX0 (k + 1) f fd ps sp := by
  obtain ⟨oc, od, kV, doc, pm, an, ct, osl, rfl, lk, hcd⟩ := F.ex
  exact fn_of lk hcd S len fun A outer s H vs Q E hr h => by
    obtain ⟨t, h1, h2⟩ := hb A outer s H vs Q E hr h
    exact ⟨t, PSs.nox h1, h2⟩
/-- _law_error(lambda: ..) -/
theorem pe_errlam {X : Cx} {c PT : Addr} {k : Nat} {g : Addr} {fd : FuncData} {cl : Nat → Addr} {CE : Addr} {params : Arguments} {body : Expr} {scope : Scope} {t : XK → TE} {p lpos pos : Pos}
    (F : Fun X.K "_law_error" "_law_error" s__law_error g fd) (hm : X.mg "_law_error" = some (.ref g)) (hb : Binds X.K fd ["_law_call"] []) (B : Blt X.mg) (G : GErr X.mg cl CE) (TB : LamX.TabB X.base X.mg c PT) (hcode : X.env.code = .ref c)
    (hr : Room (k + 2) X.A) (L : LamX.LamS X.env.scope scope) (hdef : defaultsOf params X.env = ([], []))
    (hbind : ∀ (q : Str) (cl : List (Str × Addr)) (pm cv ctv : Value), bindArgs (PySem.W.kla_fn "<lambda>" q params body scope cl pm cv ctv) {} = pure [])
    (hbody : ∀ (A : Around) (outer : List Env) (s : Shared) (H : Hp) (E : XK) (f c' : Addr), Room k (A.deeper (LamX.lamEnv X scope s.heap.objs.size f c')) → PE (LamX.lamCx X A outer s H E scope f c') body (t E)) (hg : Gl X "_law_error" := by rfl) :
    PE X (.Call (.Name "_law_error" p) [.Lambda params body scope lpos] [] pos) (LamX.tLam [(PT, X.env.qual ++ "<lambda>")] (TErr X.K cl CE) t) := by
  obtain ⟨oc, od, kV, doc, pm, an, cdv, ct, osl, rfl, lk, hcd⟩ := F.ex
  exact LamX.pe_lamcall hg hm F.kp lk hcd hb sc__law_error rfl (Or.inl rfl) (err_gives B G) TB hcode (List.mem_singleton.mpr rfl) (fun p hp _ => by rw [List.mem_singleton.mp hp]) hr L hdef hbind hbody
theorem wk_ps {X : Cx} {st : Stmt} {t : TS} (t' : TS) (h : PS X st t) (w : ∀ D σ H, t' D σ H → t D σ H) : PS X st t' := ⟨fun pins s σ H D I x => h.run pins s σ H D I (w D σ H x)⟩
/-- the names that are drawn -/
def tDraw (K : PySem.W.Frag) (n m : Nat) : TS := fun D σ H => ∃ (a l fp : Addr) (vs : List V) (y0 y3 y4 y5 y6 y7 y8 y9 y11 y12 y13 y14 : Option V), σ = [y0, some (.ref a), some (.str letters), y3, y4, y5, y6, y7, y8, y9, some (.ref fp), y11, y12, y13, y14] ∧ RS H a l ∧ SqT K H fp vs ∧ Strs n vs ∧
  ∀ H' fp' vs' z4 z13, Kp a l H H' → SqT K H' fp' vs' → Strs m vs' → D.nx [y0, some (.ref a), some (.str letters), y3, z4, y5, y6, y7, y8, y9, some (.ref fp'), y11, y12, z13, y14] H'
def sign (k : Nat) : Str := ⟨#[97 + k]⟩
def xn (k : Nat) : Str := (Str.ofString "x" ++ sign (k / 26)) ++ sign (k - k / 26 * 26)
def xns (i : Nat) : List Str := (List.range i).map xn
theorem sign_at : ∀ k, k < 26 → letters.cps[k]? = some (97 + k) := by decide +kernel
theorem xn_fine : ∀ k, k < 62 → Fine (xn k) := by
  unfold Fine
  decide +kernel
theorem twelve_fine : Fines twelve := by
  unfold Fines Fine
  decide +kernel
theorem tabs_kp {T : List (Addr × Str)} (k : Kp a l H H') (t : LamX.Tabs T H) : LamX.Tabs T H' := fun p hp => by
  obtain ⟨ps, h1, h2, h3⟩ := t p hp
  refine ⟨ps, k.obj h1 (fun _ z => nomatch z), h2, fun pos cv e => ?_⟩
  obtain ⟨c, e1, e2⟩ := h3 pos cv e
  exact ⟨c, e1, k.obj e2 (fun _ z => by unfold LamX.CodeO at z; cases z)⟩
theorem RS.ext (r : RS H a l) (e : LamX.ExtN H H') : RS H' a l := by
  obtain ⟨st, k, ns, h1, h2, q⟩ := r
  exact ⟨st, k, ns, e _ _ h1 (fun _ z => nomatch z), e _ _ h2 (fun _ z => nomatch z), q⟩
theorem sqT_ext {b : Addr} {xs : List V} (e : LamX.ExtN H H') (h : SqT K H b xs) : SqT K H' b xs := by
  rcases h with (h | ⟨o, h⟩) | h
  · exact .inl (.inl (e _ _ h fun _ z => nomatch z))
  · exact .inl (.inr ⟨o, e _ _ h fun _ z => nomatch z⟩)
  · exact .inr h
abbrev dPair (x : Str) (i : Int) : PyData := .tuple [.str x, .int i]
theorem dp_pair {b : Addr} {x : Str} {i : Int} (h : SqT K H b [.str x, .int i]) : Dp K H (.ref b) (dPair x i) := .tup h (.cons (.str _) (.cons (.int _) .nil))
theorem sh_pair {x : Str} {i : Int} (h : (PyData.str x).canLay0 = true) : SeqAt.shaped (dPair x i) = true := by
  unfold SeqAt.shaped
  have e1 : (dPair x i).canLay0 = true := by show ((PyData.str x).canLay0 && ((PyData.int i).canLay0 && true)) = true; rw [h]; rfl
  rw [e1]
  rfl
theorem eq_pair {x : Str} {i : Int} (h : (PyData.str x).canLay0 = true) : (dPair x i).eqv (dPair x i) = true := SeqAt.eqv_refl _ (by show ((PyData.str x).canLay0 && ((PyData.int i).canLay0 && true)) = true; rw [h]; rfl)
theorem ad_strs {p : Addr} {cs : List Str} (e : H p = some (.tup (cs.map V.str))) (hl : cs.length ≤ 1000) : AD H 1 (.ref p) (.tuple (cs.map PyData.str)) := by
  refine .tup e (by rw [List.length_map, List.length_map]) (by rw [List.length_map]; omega) fun i x d hx hd => ?_
  rw [List.getElem?_map] at hx hd
  cases h : cs[i]? with
  | none => rw [h] at hx; cases hx
  | some z =>
    rw [h] at hx hd
    cases hx
    cases hd
    exact .str 0 z
theorem ad_two {q : Addr} {n : Int} {v : V} {d : PyData} (e : H q = some (.lst [.int n, v])) (h : AD H 1 v d) : AD H 2 (.ref q) (.list [.int n, d]) := by
  refine .lst e rfl (by show 2 ≤ _; decide) fun i x d hx hd => ?_
  match i, hx, hd with
  | 0, hx, hd => cases hx; cases hd; exact .int 1 n
  | 1, hx, hd => cases hx; cases hd; exact h
theorem ok_w1 : (PyData.str (Str.ofString "facts")).canLay0 = true := by decide +kernel
abbrev dOne (x : Str) : PyData := .tuple [.str x]
theorem dp_one {b : Addr} {x : Str} (h : SqT K H b [.str x]) : Dp K H (.ref b) (dOne x) := .tup h (.cons (.str _) .nil)
theorem lay_one {x : Str} (h : (PyData.str x).canLay0 = true) : (dOne x).canLay0 = true := by show ((PyData.str x).canLay0 && true) = true; rw [h]; rfl
theorem sh_one {x : Str} (h : (PyData.str x).canLay0 = true) : SeqAt.shaped (dOne x) = true := by
  unfold SeqAt.shaped
  rw [lay_one h]
  rfl
theorem eq_one {x : Str} (h : (PyData.str x).canLay0 = true) : (dOne x).eqv (dOne x) = true := SeqAt.eqv_refl _ (lay_one h)
theorem dpi (K : PySem.W.Frag) (H : Hp) : ∀ xs : List Int, DpAll K H (xs.map V.int) (xs.map PyData.int)
  | [] => .nil
  | x :: r => .cons (.int x) (dpi K H r)
theorem ints_lay : ∀ xs : List Int, PyData.canLayAll0 (xs.map PyData.int) = true
  | [] => rfl
  | x :: r => by
    show ((PyData.int x).canLay0 && PyData.canLayAll0 (r.map PyData.int)) = true
    rw [ints_lay r]
    rfl
theorem ints_depth : ∀ xs : List Int, PyData.depthAll (xs.map PyData.int) = 0
  | [] => rfl
  | x :: r => by
    show max (PyData.int x).depth (PyData.depthAll (r.map PyData.int)) = 0
    rw [ints_depth r]
    rfl
theorem shI (xs : List Int) : SeqAt.shaped (.list (xs.map PyData.int)) = true := by
  unfold SeqAt.shaped
  have e1 : (PyData.list (xs.map PyData.int)).canLay0 = true := ints_lay xs
  have e2 : (PyData.list (xs.map PyData.int)).depth = 1 := by show PyData.depthAll (xs.map PyData.int) + 1 = 1; rw [ints_depth]
  rw [e1, e2]
  rfl
theorem ok_w3 : (PyData.str (Str.ofString "none")).canLay0 = true := by decide +kernel
theorem ok_w4 : (PyData.str (Str.ofString "number")).canLay0 = true := by decide +kernel
theorem ok_w2 : (PyData.str (Str.ofString "case")).canLay0 = true := by decide +kernel
abbrev qLam : Str := (Str.ofString "law" ++ Str.ofString ".<locals>.") ++ Str.ofString "<lambda>"
def dueV : List Int → List V
  | [] => [.str "none"]
  | i :: _ => [.str "case", .int i]
/-- what the law expects of a changed case -/
def tDue : TS := fun D σ H => ∃ (q : Addr) (is : List Int), σ[8]? = some (some (.ref q)) ∧ H q = some (.lst (is.map V.int)) ∧ ∀ H' dp, Same H H' → H' dp = some (.tup (dueV is)) → D.nx (σ.set 9 (some (.ref dp))) H'
def wrongL (xs os : List Str) (i : Nat) : List Int := ((List.range i).filter (outAt xs os)).map fun (j : Nat) => (j : Int)
theorem wrong_none {xs os : List Str} (h : firstOut xs os = none) : wrongL xs os os.length = [] := by
  unfold firstOut at h
  rw [List.find?_eq_none] at h
  unfold wrongL
  rw [List.filter_eq_nil_iff.mpr h]
  rfl
theorem wrong_some {xs os : List Str} {i : Nat} (h : firstOut xs os = some i) : ∃ r, wrongL xs os os.length = (i : Int) :: r := by
  unfold firstOut at h
  rw [← List.head?_filter] at h
  unfold wrongL
  cases e : (List.range os.length).filter (outAt xs os) with
  | nil => rw [e] at h; cases h
  | cons j r =>
    rw [e] at h
    obtain rfl : j = i := Option.some.inj h
    exact ⟨_, rfl⟩
theorem wrongL_more {xs os : List Str} {i : Nat} (h : outAt xs os i = true) : wrongL xs os (i + 1) = wrongL xs os i ++ [(i : Int)] := by
  unfold wrongL
  rw [List.range_succ, List.filter_append, List.map_append, filter1, if_pos h]
  rfl
theorem wrongL_same {xs os : List Str} {i : Nat} (h : outAt xs os i = false) : wrongL xs os (i + 1) = wrongL xs os i := by
  unfold wrongL
  rw [List.range_succ, List.filter_append, List.map_append, filter1, if_neg (by rw [h]; exact Bool.false_ne_true)]
  exact List.append_nil _
theorem wrongL_len {xs os : List Str} {i : Nat} : (wrongL xs os i).length ≤ i := by
  unfold wrongL
  rw [List.length_map]
  exact Nat.le_trans (List.length_filter_le _ _) (by rw [List.length_range]; exact Nat.le_refl i)
/-- the changed case is asked for its number -/
def tChk (K : PySem.W.Frag) (PT : Addr) : TS := fun D σ H => ∃ (fp op dp : Addr) (xs os : List Str), σ[9]? = some (some (.ref dp)) ∧ σ[10]? = some (some (.ref fp)) ∧ σ[12]? = some (some (.ref op)) ∧ LamX.Tabs [(PT, qLam)] H ∧
  SqT K H fp (xs.map V.str) ∧ SqT K H op (os.map V.str) ∧ H dp = some (.tup (dueV (wrongL xs os os.length))) ∧ Fines xs ∧ firstBad xs = none ∧ os.length ≤ 200 ∧ ∀ H', LamX.ExtN H H' → LamX.Tabs [(PT, qLam)] H' → D.nx σ H'
def sp_law (K : PySem.W.Frag) (PT : Addr) : Sp := fun vs H Q _ => ∃ (s : Addr) (ns : List Int), vs = [.ref s] ∧ SqL K H s (ns.map V.int) ∧ ns.length ≤ 63 ∧ (∀ z ∈ ns, Builtin.Int.intBits z ≤ 1048576) ∧ H PT = some (.tbl #[]) ∧ ∀ H', Q (.bl true) H'
theorem ok_law {f : Addr} {fd : FuncData} {c PT : Addr} {g : Addr} {fdE : FuncData} {cl : Nat → Addr} {CE CF CC CN : Addr} (F : FunC K "law" "law" s_law f fd c) (B : Blt mg) (G : GErr mg cl CE)
    (FE : Fun K "_law_error" "_law_error" s__law_error g fdE) (mE : mg "_law_error" = some (.ref g)) (bE : Binds K fdE ["_law_call"] []) (TB : LamX.TabB base mg c PT)
    (eF : ErrRow K cl CE CF 0) (eC : ErrRow K cl CE CC 1) (eN : ErrRow K cl CE CN 2)
    (c__law_mix : Cal P w K mg base CX0 1 "_law_mix" ["_law_script", "_law_seed"] (sp_mix K)) (c__law_next : Cal P w K mg base CX0 1 "_law_next" ["_law_h", "_law_limit"] sp_next)
    (c__law_facts : Cal P w K mg base CX0 2 "_law_facts" ["_law_h", "_law_count"] sp_facts) (c__law_bent : Cal P w K mg base CX0 2 "_law_bent" ["_law_h", "_law_some"] (sp_bent K)) (c__law_bad : Cal P w K mg base CX0 1 "_law_bad" ["_law_facts_here"] (sp_bad K))
    (c__law_alike : Cal P w K mg base CX0 3 "_law_alike" ["_law_found", "_law_due"] (sp_alike 2))
    (c_case_number : Cal P w K mg base (L2.CX P w) 4 "case_number" ["facts", "case"] (sp_case_number K CF CC)) (c_case_of : Cal P w K mg base (L2.CX P w) 4 "case_of" ["facts", "number"] (sp_case_of K CF CN)) :
    FnOk P w K mg base CX0 7 f fd ["_law_script"] (sp_law K PT) := by
  refine F.ok sc_law (fun vs H Q E h => by obtain ⟨s, ns, rfl, _⟩ := h; rfl) (fun A outer s H vs Q E hr h => ?_)
  obtain ⟨s, ns, rfl, hS, hl, hb, hT, q⟩ := h
  refine ⟨_, (pss_cons (ps_set (i := 1) sc_law.nd rfl (Or.inr rfl) (pe_cal c__law_mix (hr.mono (by decide)) (pa_cons (pv 0) (pa_cons pe_int pa_nil))))
      (pss_cons (ps_set (i := 2) sc_law.nd rfl (Or.inr rfl) pe_str)
      (pss_cons (ps_for PassesOwn.never rfl (pi_range1 (by rfl) B.b_range (pa_cons pe_int pa_nil)) (pg_name (i := 3) sc_law.nd rfl (Or.inl rfl)) (pss_cons (ps_set (i := 10) sc_law.nd rfl (Or.inr rfl) (pe_cal c__law_facts (hr.mono (by decide)) (pa_cons (pv 1) (pa_cons (pe_op op_add pe_int (pe_cal c__law_next (hr.mono (by decide)) (pa_cons (pv 1) (pa_cons pe_int pa_nil)))) pa_nil))))
      (pss_cons (wk_ps (tDraw K 12 61) (ps_if (pt_cmpR op_eq (pe_cal c__law_next (hr.mono (by decide)) (pa_cons (pv 1) (pa_cons pe_int pa_nil))) pe_int (nomark _)) (pss_cons (ps_set (i := 4) sc_law.nd rfl (Or.inl rfl) (pe_ix ix_list (pe_lst (pa_cons pe_int (pa_cons pe_int (pa_cons pe_int pa_nil)))) (pe_cal c__law_next (hr.mono (by decide)) (pa_cons (pv 1) (pa_cons pe_int pa_nil))) (fun _ _ => rfl)))
      (pss_one (ps_set (i := 10) sc_law.nd rfl (Or.inr rfl) (pe_callTy call_tuple_of (by rfl) B.b_tuple PyProof.Rows.boot_tuple (pa_cons (pe_lc (own := [("_law_k", 13)]) (g := gName 13) (tt := tYes) rfl sc_law.nd (pi_range1 (by rfl) B.b_range (pa_cons (pv 4) pa_nil)) (blkOk_by (own := [("_law_k", 13)]) (N := ["_law_script", "_law_h", "_law_letters", "_law_time", "_law_many", "_law_bad_here", "_law_case", "_law_number", "_law_wrong", "_law_due", "_law_facts_here", "_law_odd", "_law_other", "_law_k", "_law_name"]) (sc := defScope s_law) (by decide +kernel)) (fun _ _ _ _ _ => (pg_name (i := 13) sc_law.nd rfl (Or.inl rfl))) (fun _ _ _ _ _ => pts_nil) (fun _ _ _ _ _ => (pe_.re (pe_op op_add_str (pe_op op_add_str pe_str (pe_ix ix_str (pv 2) (pe_op op_fdiv (pv 13) pe_int) (fun _ _ => rfl))) (pe_ix ix_str (pv 2) (pe_op op_sub (pv 13) (pe_op op_mul (pe_op op_fdiv (pv 13) pe_int) pe_int)) (fun _ _ => rfl))) (by first | (dsimp only [Cx.blk]; done) | exact rfl)))) pa_nil))))) pss_nil) ?w0)
      (pss_cons (wk_ps (tDraw K 61 123) (ps_if (pt_cmpR op_eq (pe_cal c__law_next (hr.mono (by decide)) (pa_cons (pv 1) (pa_cons pe_int pa_nil))) pe_int (nomark _)) (pss_one (ps_set (i := 10) sc_law.nd rfl (Or.inr rfl) (pe_cal c__law_bent (hr.mono (by decide)) (pa_cons (pv 1) (pa_cons (pv 10) pa_nil))))) pss_nil) ?w1)
      (pss_cons (ps_set (i := 5) sc_law.nd rfl (Or.inl rfl) (pe_cal c__law_bad (hr.mono (by decide)) (pa_cons (pv 10) pa_nil)))
      (pss_one (ps_if (pt_cmpR op_notN (pv 5) pe_non (nomark _)) (pss_cons (ps_if (pt_cmpR (op_neD hr.units) (pe_errlam FE mE bE B G TB rfl (hr.mono (by decide)) (LamX.lamS_by (show LamX.lamSB (defScope s_law) _ = true by decide +kernel)) rfl (fun _ _ _ _ _ => rfl) (fun A' outer' s' H' E' f' c' hr' => (pe_calX c_case_number hr' (takes_of rfl rfl rfl rfl) (pa_cons (pv 10) (pa_cons (pe_tup (pa_cons pe_str pa_nil)) pa_nil))))) (pe_tup (pa_cons pe_str (pa_cons (pv 5) pa_nil))) (nomark _)) (pss_one (ps_ret pe_bl)) pss_nil)
      (pss_one (ps_if (pt_cmpR (op_neD hr.units) (pe_errlam FE mE bE B G TB rfl (hr.mono (by decide)) (LamX.lamS_by (show LamX.lamSB (defScope s_law) _ = true by decide +kernel)) rfl (fun _ _ _ _ _ => rfl) (fun A' outer' s' H' E' f' c' hr' => (pe_calX c_case_of hr' (takes_of rfl rfl rfl rfl) (pa_cons (pv 10) (pa_cons (pe_un un_neg pe_int) pa_nil))))) (pe_tup (pa_cons pe_str (pa_cons (pv 5) pa_nil))) (nomark _)) (pss_one (ps_ret pe_bl)) pss_nil))) (pss_cons (ps_set (i := 6) sc_law.nd rfl (Or.inr rfl) (pe_callTy call_tuple_of (by rfl) B.b_tuple PyProof.Rows.boot_tuple (pa_cons (pe_lc (own := [("_law_name", 14)]) (g := gName 14) rfl sc_law.nd (pi_tup (pv 10)) (blkOk_by (own := [("_law_name", 14)]) (N := ["_law_script", "_law_h", "_law_letters", "_law_time", "_law_many", "_law_bad_here", "_law_case", "_law_number", "_law_wrong", "_law_due", "_law_facts_here", "_law_odd", "_law_other", "_law_k", "_law_name"]) (sc := defScope s_law) (by decide +kernel)) (fun _ _ _ _ _ => (pg_name (i := 14) sc_law.nd rfl (Or.inl rfl))) (fun _ _ _ _ _ => (pts_.re (pts_one (pt_cmpR op_eq (pe_cal c__law_next (hr.mono (by decide)) (pa_cons (pv 1) (pa_cons pe_int pa_nil))) pe_int (nomark _))) (by first | (dsimp only [Cx.blk]; done) | exact rfl))) (fun _ _ _ _ _ => (pe_.re (pv 14) (by first | (dsimp only [Cx.blk]; done) | exact rfl)))) pa_nil)))
      (pss_cons (ps_set (i := 7) sc_law.nd rfl (Or.inl rfl) (pe_callB (cr_sum rfl) (by rfl) B.b_sum PyProof.Rows.boot_sum (pa_cons (pe_lc (own := [("_law_k", 13)]) (g := gName 13) rfl sc_law.nd (pi_range1 (by rfl) B.b_range (pa_cons (pe_callB call_len_seq (by rfl) B.b_len PySem.boot_len (pa_cons (pv 10) pa_nil)) pa_nil)) (blkOk_by (own := [("_law_k", 13)]) (N := ["_law_script", "_law_h", "_law_letters", "_law_time", "_law_many", "_law_bad_here", "_law_case", "_law_number", "_law_wrong", "_law_due", "_law_facts_here", "_law_odd", "_law_other", "_law_k", "_law_name"]) (sc := defScope s_law) (by decide +kernel)) (fun _ _ _ _ _ => (pg_name (i := 13) sc_law.nd rfl (Or.inl rfl))) (fun _ _ _ _ _ => (pts_.re (pts_one (pt_cmpR op_in_seq (pe_ix ix_tup (pv 10) (pv 13) (fun _ _ => rfl)) (pv 6) rfl)) (by first | (dsimp only [Cx.blk]; done) | exact rfl))) (fun _ _ _ _ _ => (pe_.re (pe_op op_shl pe_int (pv 13)) (by first | (dsimp only [Cx.blk]; done) | exact rfl)))) pa_nil)))
      (pss_cons (ps_if (pt_not (pt_val (pe_cal c__law_alike (hr.mono (by decide)) (pa_cons (pe_lst (pa_cons (pe_calN c_case_number (hr.mono (by decide)) (pa_cons (pv 10) (pa_cons (pv 6) pa_nil))) (pa_cons (pe_calN c_case_of (hr.mono (by decide)) (pa_cons (pv 10) (pa_cons (pv 7) pa_nil))) pa_nil))) (pa_cons (pe_lst (pa_cons (pv 7) (pa_cons (pv 6) pa_nil))) pa_nil))))) (pss_one (ps_ret pe_bl)) pss_nil)
      (pss_cons (ps_set (i := 12) sc_law.nd rfl (Or.inr rfl) (pe_cal c__law_bent (hr.mono (by decide)) (pa_cons (pv 1) (pa_cons (pv 6) pa_nil))))
      (pss_cons (ps_setLc (i := 8) (own := [("_law_k", 13)]) (g := gName 13) rfl sc_law.nd rfl rfl (sw_true rfl rfl rfl (by decide +kernel)) (pi_range1 (by rfl) B.b_range (pa_cons (pe_callB call_len_seq (by rfl) B.b_len PySem.boot_len (pa_cons (pv 12) pa_nil)) pa_nil)) (blkOk_by (own := [("_law_k", 13)]) (N := ["_law_script", "_law_h", "_law_letters", "_law_time", "_law_many", "_law_bad_here", "_law_case", "_law_number", "_law_wrong", "_law_due", "_law_facts_here", "_law_odd", "_law_other", "_law_k", "_law_name"]) (sc := defScope s_law) (by decide +kernel)) (fun _ _ _ _ _ => (pg_name (i := 13) sc_law.nd rfl (Or.inl rfl))) (fun _ _ _ _ _ => (pts_.re (pts_one (PW.pt (pw_or (pt_cmpR op_notIn_seq (pe_ix ix_tup (pv 12) (pv 13) (fun _ _ => rfl)) (pv 10) rfl) (pw_or1 (PW.pt (pw_and (pt_cmpR op_gt (pv 13) pe_int (nomark _)) (pw_and1 (pt_cmpR op_le_str (pe_ix ix_tup (pv 12) (pv 13) (fun _ _ => rfl)) (pe_ix ix_tup (pv 12) (pe_op op_sub (pv 13) pe_int) (fun _ _ => rfl)) (nomark _))))))))) (by first | (dsimp only [Cx.blk]; done) | exact rfl))) (fun _ _ _ _ _ => (pe_.re (pv 13) (by first | (dsimp only [Cx.blk]; done) | exact rfl))))
      (pss_cons (wk_ps (tDue) (ps_set (i := 9) sc_law.nd rfl (Or.inl rfl) (pe_ifExp (pt_cmpR (op_neD hr.units) (pv 8) (pe_lst pa_nil) (nomark _)) (pe_tup (pa_cons pe_str (pa_cons (pe_ix ix_list (pv 8) pe_int (fun _ _ => rfl)) pa_nil))) (pe_tup (pa_cons pe_str pa_nil)))) ?w2)
      (pss_cons (wk_ps (tChk K PT) (ps_if (pt_cmpR (op_neD hr.units) (pe_errlam FE mE bE B G TB rfl (hr.mono (by decide)) (LamX.lamS_by (show LamX.lamSB (defScope s_law) _ = true by decide +kernel)) rfl (fun _ _ _ _ _ => rfl) (fun A' outer' s' H' E' f' c' hr' => (pe_calX c_case_number hr' (takes_of rfl rfl rfl rfl) (pa_cons (pv 10) (pa_cons (pv 12) pa_nil))))) (pv 9) (nomark _)) (pss_one (ps_ret pe_bl)) pss_nil) ?w3)
      (pss_cons (ps_set (i := 11) sc_law.nd rfl (Or.inr rfl) (pe_ix ix_list (pe_lst (pa_cons (pe_un un_neg pe_int) (pa_cons (pe_op op_shl pe_int (pe_callB call_len_seq (by rfl) B.b_len PySem.boot_len (pa_cons (pv 10) pa_nil))) (pa_cons (pe_op op_pow pe_int pe_int) pa_nil)))) (pe_cal c__law_next (hr.mono (by decide)) (pa_cons (pv 1) (pa_cons pe_int pa_nil))) (fun _ _ => rfl)))
      (pss_cons (ps_if (pt_cmpR (op_neD hr.units) (pe_errlam FE mE bE B G TB rfl (hr.mono (by decide)) (LamX.lamS_by (show LamX.lamSB (defScope s_law) _ = true by decide +kernel)) rfl (fun _ _ _ _ _ => rfl) (fun A' outer' s' H' E' f' c' hr' => (pe_calX c_case_of hr' (takes_of rfl rfl rfl rfl) (pa_cons (pv 10) (pa_cons (pv 11) pa_nil))))) (pe_tup (pa_cons pe_str pa_nil)) (nomark _)) (pss_one (ps_ret pe_bl)) pss_nil)
      (pss_one (ps_if (PW.pt (pw_or (pt_cmpR (op_neD hr.units) (pe_calN c_case_of (hr.mono (by decide)) (pa_cons (pv 10) (pa_cons (pe_op op_sub (pe_op op_shl pe_int (pe_callB call_len_seq (by rfl) B.b_len PySem.boot_len (pa_cons (pv 10) pa_nil))) pe_int) pa_nil))) (pv 10) (nomark _)) (pw_or1 (pt_cmpR (op_neD hr.units) (pe_calN c_case_of (hr.mono (by decide)) (pa_cons (pv 10) (pa_cons pe_int pa_nil))) (pe_tup pa_nil) (nomark _))))) (pss_one (ps_ret pe_bl)) pss_nil))))))))))))))))))
      (pss_one (ps_ret pe_bl))))), ?_⟩
  case w0 =>
    clear FE mE bE TB eF eC eN hS hl hb hT q
    rintro D σ H1 ⟨a, l, fp, vs, y0, y3, y4, y5, y6, y7, y8, y9, y11, y12, y13, y14, rfl, R, hF, hV, q⟩
    refine ⟨.ref a, rfl, a, l, 3, rfl, R, by decide, by decide, fun H2 r k2 r0 r1 => ⟨rfl, _, rfl, bcase (fun c => ?_) (fun c => ?_)⟩⟩
    · refine ⟨(by show 3 ≤ sizeLine; decide), fun p np => ?_⟩
      have k3 := k2.put (o := .lst [.int 59, .int 60, .int 61]) np
      obtain ⟨n1, n2⟩ := k2.new.no np
      refine ⟨.ref a, rfl, a, l, 3, rfl, k3.new, by decide, by decide, fun H4 j k4 j0 j1 => ?_⟩
      obtain ⟨j, rfl⟩ := Int.eq_ofNat_of_zero_le j0
      have ep := k4.lst upd_same n1 n2
      have hm : ∃ m : Nat, [V.int 59, .int 60, .int 61][j]? = some (.int m) ∧ m ≤ 61 := by
        match j, j1 with
        | 0, _ => exact ⟨59, rfl, by omega⟩
        | 1, _ => exact ⟨60, rfl, by omega⟩
        | 2, _ => exact ⟨61, rfl, by omega⟩
        | x + 3, h => exact absurd h (by omega)
      obtain ⟨m, em, hm⟩ := hm
      refine ⟨p, _, (j : Int), .int m, rfl, rfl, sqL_of ep, atI_nat em, ?_⟩
      have k5 := k3.trans k4
      refine ⟨_, rfl, m, rfl, by omega, by omega, fun D nD => lc_it walk_range (fun i H' => Same H4 H' ∧ H' D = some (.lst ((xns i).map V.str))) ⟨(Same.refl H4).put nD, upd_same⟩ (fun _ _ _ _ => trivial) ?_ ?_⟩
      · rintro i y H5 H6 hi ⟨s6, e6⟩ ⟨rfl, hy⟩
        have hy : y = V.int (i : Nat) := by
          rw [hy]
          show V.int (0 + (i : Nat)) = _
          rw [Int.zero_add]
        subst hy
        have hi : i < m := by simpa using hi
        refine ⟨rfl, yes_ ?_⟩
        refine ⟨.str letters, rfl, .int i, rfl, i, 26, rfl, rfl, ⟨by decide, by decide⟩, ?_⟩
        have h26 : ((i : Int) / 26) = ((i / 26 : Nat) : Int) := rfl
        have g1 : letters.cps.toList[i / 26]? = some (97 + i / 26) := by rw [Array.getElem?_toList]; exact sign_at _ (by omega)
        have g2 : letters.cps.toList[i - i / 26 * 26]? = some (97 + (i - i / 26 * 26)) := by rw [Array.getElem?_toList]; exact sign_at _ (by omega)
        have el : letters.length ≤ sizeLine := by rw [sizeLine_eq]; decide
        have ei : (i : Int) - (i : Int) / 26 * 26 = ((i - i / 26 * 26 : Nat) : Int) := by omega
        refine ⟨letters, ((i / 26 : Nat) : Int), 97 + i / 26, rfl, rfl, el, atI_nat g1, Str.ofString "x", sign (i / 26), rfl, rfl, (by rw [sizeLine_eq]; show 1 + 1 ≤ _; decide), ?_⟩
        refine ⟨.str letters, rfl, .int i, rfl, .int i, rfl, i, 26, rfl, rfl, ⟨by decide, by decide⟩, _, 26, rfl, rfl, .inr ⟨by decide, by decide⟩, i, _, rfl, rfl, letters, _, 97 + (i - i / 26 * 26), rfl, rfl, el, (by rw [ei]; exact atI_nat g2), _, sign (i - i / 26 * 26), rfl, rfl, (by rw [sizeLine_eq]; show 2 + 1 ≤ _; decide), grow (acc := fun i => (xns i).map V.str) nD s6 e6 ?_ ?_⟩
        · rw [List.length_map]
          unfold xns
          rw [List.length_map, List.length_range]
          exact small1000 (by omega)
        · show List.map _ _ = _
          unfold xns
          rw [List.range_succ, List.map_append, List.map_append]
          rfl
      · rintro H5 ⟨s5, e5⟩
        refine ⟨D, _, rfl, .inl ⟨sqL_of e5, fun p5 np5 => q _ p5 _ _ _ ((k5.same s5).put np5) sqT_new ⟨xns m, rfl, ?_, ?_⟩⟩⟩
        · intro x hx
          obtain ⟨k, hk, rfl⟩ := List.mem_map.mp hx
          exact xn_fine k (by have := List.mem_range.mp hk; omega)
        · unfold xns
          rw [List.length_map, List.length_range]
          omega
    · exact q H2 fp vs y4 y13 k2 (k2.tup hF) (hV.le (by decide))
  case w2 =>
    clear FE mE bE TB eF eC eN hS hl hb hT q
    rintro D σ H1 ⟨q8, is, e8, hq, q⟩
    refine ⟨.ref q8, e8, Nat.zero_le _, fun t nt => ⟨.list (is.map PyData.int), .list [], .lst (sqL_of (by rw [upd_ne (ne_of_none hq nt)]; exact hq)) (dpi K _ is), .lst sqL_new .nil, shI is, rfl, _, rfl, ?_⟩⟩
    cases is with
    | nil => exact iteF ⟨(by show 1 ≤ sizeLine; decide), fun p np => q _ p (((Same.refl H1).put nt).put' np) upd_same⟩
    | cons i r => exact iteT ⟨.ref q8, e8, q8, _, 0, .int i, rfl, rfl, sqL_of (by rw [upd_ne (ne_of_none hq nt)]; exact hq), atI_nat (j := 0) rfl, (by show 2 ≤ sizeLine; decide), fun p np => q _ p (((Same.refl H1).put nt).put' np) upd_same⟩
  case w3 =>
    clear FE mE bE TB hS hl hb hT q
    rintro D σ H1 ⟨fp, op, dp, xs, os, e9, e10, e12, Tb, hF, hO, hD, hfx, hgood, hlo, q⟩
    have hx60 := right_len hgood
    refine ⟨Tb, fun H2 x2 Tb2 => ?_⟩
    have hD2 : H2 dp = some (.tup (dueV (wrongL xs os os.length))) := x2 _ _ hD (fun _ z => nomatch z)
    refine ⟨.ref fp, e10, .ref op, e12, fp, op, xs, os, rfl, sqT_ext x2 hF, sqT_ext x2 hO, hfx.txts, by omega, by omega, fun i ei => absurd (hgood.symm.trans ei) (fun z => nomatch z), fun _ => ⟨fun i ei HA d sA nd => ?_, fun en HA sA => ?_⟩⟩
    · obtain ⟨r, er⟩ := wrong_some ei
      rw [er] at hD2
      refine ⟨CC, 1, _, rfl, eC, .ix (by decide) rfl upd_same rfl, fun HB p sB epB _ => ?_⟩
      have sC : Same H2 HB := (sA.put' nd).trans sB
      refine ⟨_, e9, _, _, dp_pair (x := "case") (i := i) (sqT_of epB), dp_pair (x := "case") (i := i) (sqT_of (sC _ _ hD2)), sh_pair ok_w2, sh_pair ok_w2, _, rfl, ?_⟩
      rw [eq_pair ok_w2]
      exact iteF (q _ (x2.trans (LamX.ExtN.of sC)) (Tb2.ext sC))
    · have er := wrong_none en
      rw [er] at hD2
      refine ⟨(by show 1 ≤ sizeLine; decide), fun p np => ?_⟩
      have sC := sA.put' (o := .tup [.str "none"]) np
      refine ⟨_, e9, _, _, dp_one (x := "none") sqT_new, dp_one (x := "none") (sqT_of (sC _ _ hD2)), sh_one ok_w3, sh_one ok_w3, _, rfl, ?_⟩
      rw [eq_one ok_w3]
      exact iteF (q _ (x2.trans (LamX.ExtN.of sC)) (Tb2.ext sC))
  case w1 =>
    rintro D σ H1 ⟨a, l, fp, vs, y0, y3, y4, y5, y6, y7, y8, y9, y11, y12, y13, y14, rfl, R, hF, hV, q⟩
    refine ⟨.ref a, rfl, a, l, 2, rfl, R, by decide, by decide, fun H2 r k2 r0 r1 => ⟨rfl, _, rfl, bcase (fun c => ?_) (fun c => ?_)⟩⟩
    · exact ⟨.ref a, rfl, .ref fp, rfl, a, l, fp, vs, 61, rfl, k2.new, k2.tup hF, hV, by decide, fun H3 p us k3 hp hu => q H3 p us _ _ (k2.trans k3) hp hu⟩
    · exact q H2 fp vs y4 y13 k2 (k2.tup hF) (hV.le (by decide))
  refine ⟨.ref s, rfl, s, ns, 1, rfl, hS, hl, hb, by decide, by decide, fun H1 a l s1 R1 => ?_⟩
  refine ⟨6, rfl, by decide, by decide, for_it walk_range (fun i σ H' => ∃ (y0 y3 y4 y5 y6 y7 y8 y9 y10 y11 y12 y13 y14 : Option V), σ = [y0, some (.ref a), some (.str letters), y3, y4, y5, y6, y7, y8, y9, y10, y11, y12, y13, y14] ∧ RS H' a l ∧ LamX.Tabs [(PT, qLam)] H')
      ⟨_, _, _, _, _, _, _, _, _, _, _, _, _, rfl, R1, ?_⟩ (fun _ _ _ _ _ => trivial) ?_ ?_⟩
  · intro p hp
    rw [List.mem_singleton.mp hp]
    exact LamX.TabS.nil (s1 _ _ hT)
  · rintro i x σ H2 H3 hi ⟨y0, y3, y4, y5, y6, y7, y8, y9, y10, y11, y12, y13, y14, rfl, R, Tb⟩ ⟨rfl, hy⟩
    refine ⟨.ref a, rfl, .ref a, rfl, a, l, 12, rfl, R, by decide, by decide, fun H4 r k4 r0 r1 => ?_⟩
    refine ⟨1, r, rfl, rfl, a, l, _, rfl, k4.new, by omega, fun H5 fp fs k5 ep _ sub hfl _ => ?_⟩
    refine ⟨a, l, fp, _, _, _, _, _, _, _, _, _, _, _, _, _, rfl, k5.new, sqT_of ep, ⟨fs, rfl, fun x hx => twelve_fine x (sub.subset hx), sub.length_le⟩, fun H6 fp2 vs2 z4 z13 k6 hF2 hV2 => ?_⟩
    refine ⟨a, l, fp2, _, _, _, _, _, _, _, _, _, _, _, _, _, rfl, k6.new, hF2, hV2, fun H7 fp3 vs3 w4 w13 k7 hF3 hV3 => ?_⟩
    have Tb := tabs_kp (((k4.trans k5).trans k6).trans k7) Tb
    have R := k7.new
    clear k4 k5 k6 k7 hF2 hV2 ep sub
    obtain ⟨xs, rfl, hfx, hlx⟩ := hV3
    refine ⟨.ref fp3, rfl, fp3, xs, rfl, hF3, hfx, by omega, fun e8 H8 s8 => ?_, fun i8 e8 H8 s8 => ?_⟩
    · have Tb := tabs_kp (Kp.of R s8) Tb
      have R := R.same s8
      have hF := s8.tup hF3
      have hx60 := right_len e8
      refine ⟨_, rfl, rfl, _, rfl, iteF ?_⟩
      refine ⟨.ref fp3, rfl, fp3, rfl, ⟨_, hF⟩, fun D nD => lc_it walk_tup (fun i H' => ∃ cs : List Str, Kp a l H8 H' ∧ H' D = some (.lst (cs.map V.str)) ∧ cs.Sublist (xs.take i)) ⟨[], (Kp.refl R).put nD, upd_same, List.nil_sublist _⟩ (fun _ _ _ h => by obtain ⟨_, h, _⟩ := h; exact h.tup hF) ?_ ?_⟩
      · rintro i y H9 H10 hi ⟨cs, k9, e9, sb⟩ ⟨rfl, hy⟩
        rw [List.length_map] at hi
        obtain rfl : V.str xs[i] = y := strAt_inj (List.getElem?_eq_getElem hi) hy
        obtain ⟨d1, d2⟩ := R.no nD
        refine ⟨rfl, .ref a, rfl, a, l, 2, rfl, k9.new, by decide, by decide, fun H11 r k11 _ _ => ⟨rfl, _, rfl, bcase (fun c => ?_) (fun c => ?_)⟩⟩
        · have e11 := k11.lst e9 d1 d2
          refine ⟨_, rfl, _, e11, ?_, cs ++ [xs[i]], (k9.trans k11).put0 nD, ?_, ?_⟩
          · have := sb.length_le
            rw [List.length_take] at this
            rw [List.length_map]
            exact small1000 (by omega)
          · rw [upd_same, List.map_append]
            rfl
          · rw [take_more (List.getElem?_eq_getElem hi)]
            exact sb.append (List.Sublist.refl _)
        · exact ⟨cs, k9.trans k11, k11.lst e9 d1 d2, sb.trans (by rw [take_more (List.getElem?_eq_getElem hi)]; exact List.sublist_append_left _ _)⟩
      · rintro H9 ⟨cs, k9, e9, sb⟩
        rw [List.length_map, List.take_length] at sb
        refine ⟨D, _, rfl, .inl ⟨sqL_of e9, fun cp ncp => ?_⟩⟩
        have k10 := k9.put (o := .tup (cs.map V.str)) ncp
        have hC : (upd H9 cp (.tup (cs.map V.str))) cp = some (.tup (cs.map V.str)) := upd_same
        have hlc := sb.length_le
        have hfc : Fines cs := fun x hx => hfx x (sb.subset hx)
        generalize upd H9 cp (.tup (cs.map V.str)) = G1 at k10 hC ⊢
        clear e9 k9 nD ncp
        have R1 := k10.new
        have hF1 := k10.tup hF
        have Tb1 := tabs_kp k10 Tb
        clear R hF Tb k10
        refine ⟨.ref fp3, rfl, fp3, _, rfl, .inr hF1, _, rfl, by omega, by rw [List.length_map]; omega, fun D1 nD1 => lc_it walk_range (fun i H' => Same G1 H' ∧ H' D1 = some (.lst ((bitsL xs cs i).map V.int))) ⟨(Same.refl G1).put nD1, upd_same⟩ (fun _ _ _ _ => trivial) ?_ ?_⟩
        · rintro i y H9 H10 hi ⟨s9, e9⟩ ⟨rfl, hy⟩
          have hy : y = V.int (i : Nat) := by
            rw [hy]
            show V.int (0 + (i : Nat)) = _
            rw [Int.zero_add]
          subst hy
          have hi : i < xs.length := by simpa using hi
          have eh : heldAt xs cs i = decide (xs[i] ∈ cs) := by unfold heldAt; rw [List.getElem?_eq_getElem hi]
          refine ⟨rfl, .ref fp3, rfl, .int i, rfl, fp3, _, _, _, rfl, rfl, s9.tup hF1, at_of rfl (strG hi), .ref cp, rfl, cp, _, rfl, .inr (s9.tup (sqT_of hC)), rfl, flat_strs cs, _, rfl, bcase (fun c1 => ?_) (fun c1 => ?_)⟩
          · have c1 : heldAt xs cs i = true := by rw [eh, ← inV_str]; exact c1
            refine ⟨.int i, rfl, 1, i, rfl, rfl, ⟨by omega, by omega, by decide⟩, grow (acc := fun i => (bitsL xs cs i).map V.int) nD1 s9 e9 ?_ ?_⟩
            · rw [List.length_map]
              exact small1000 (Nat.le_trans bitsL_len (by omega))
            · show List.map V.int _ = _
              rw [bitsL_more c1, List.map_append]
              show _ ++ [V.int (2 ^ i)] = _ ++ [V.int (1 * 2 ^ i)]
              rw [Int.one_mul]
          · have c1 : heldAt xs cs i = false := by rw [eh, ← inV_str]; exact c1
            refine ⟨s9, ?_⟩
            rw [bitsL_same c1]
            exact e9
        · rintro H9 ⟨s9, e9⟩
          rw [List.length_map] at e9
          refine ⟨D1, bitsL xs cs xs.length, rfl, sqL_of e9, ?_⟩
          have hC2 := s9 _ _ hC
          have R2 := R1.same s9
          have hF2 := s9.tup hF1
          have Tb2 := tabs_kp (Kp.of R1 s9) Tb1
          clear e9 nD1 hC hF1 Tb1 s9 R1
          have eb : (bitsL xs cs xs.length).sum = bitsOf xs cs := rfl
          rw [eb]
          refine ⟨.ref fp3, rfl, .ref cp, rfl, fp3, cp, xs, cs, rfl, hF2, sqT_of hC2, hfx.txts, by omega, by omega, fun i ei => absurd (e8.symm.trans ei) (fun z => nomatch z), fun _ => ⟨fun i ei => absurd ((sub_out e8 sb).symm.trans ei) (fun z => nomatch z), fun _ HA sA => ?_⟩⟩
          refine ⟨.ref fp3, rfl, .int (bitsOf xs cs), rfl, fp3, xs, _, rfl, sA.tup hF2, hfx.txts, by omega, fun i ei => absurd (e8.symm.trans ei) (fun z => nomatch z), fun _ => ⟨fun n => absurd bits_lt n, fun _ HB rp sB eB => ?_⟩⟩
          rw [names_bits e8 sb] at eB
          have sB := sA.trans sB
          refine ⟨(by show 2 ≤ sizeLine; decide), fun q1 nq1 => ⟨_, rfl, _, rfl, (by show 2 ≤ sizeLine; decide), fun q2 nq2 => ?_⟩⟩
          have z1 := (Same.refl HB).put (o := .lst [.int (bitsOf xs cs), .ref rp]) nq1
          have z2 := z1.put' (o := .lst [.int (bitsOf xs cs), .ref cp]) nq2
          have w1 : upd (upd HB q1 (.lst [.int (bitsOf xs cs), .ref rp])) q2 (.lst [.int (bitsOf xs cs), .ref cp]) q1 = some (.lst [.int (bitsOf xs cs), .ref rp]) := by rw [upd_ne (ne_of_none upd_same nq2)]; exact upd_same
          refine ⟨_, _, _, rfl, ad_two w1 (ad_strs (z2 _ _ eB) (by omega)), ad_two upd_same (ad_strs (z2 _ _ (sB _ _ hC2)) (by omega)), fun HC sC => ⟨true, rfl, iteF ?_⟩⟩
          have s3 := (sB.trans z2).trans sC
          have hC3 := s3 _ _ hC2
          have R3 := R2.same s3
          have hF3 := s3.tup hF2
          have Tb3 := tabs_kp (Kp.of R2 s3) Tb2
          clear w1 z1 z2 sB sA eB nq1 nq2 s3 hC2 hF2 Tb2 R2 sC
          refine ⟨.ref a, rfl, .ref cp, rfl, a, l, cp, _, 60, rfl, R3, sqT_of hC3, ⟨cs, rfl, hfc, by omega⟩, by decide, fun H4 op us k4 ho hu => ?_⟩
          obtain ⟨os, rfl, hfo, hlo⟩ := hu
          have R4 := k4.new
          have hF4 := k4.tup hF3
          have Tb4 := tabs_kp k4 Tb3
          clear hC3 hF3 Tb3 k4 R3
          refine ⟨.ref op, rfl, op, _, rfl, .inr ho, _, rfl, by omega, by rw [List.length_map]; omega, fun D3 nD3 => lc_it walk_range (fun i H' => Same H4 H' ∧ H' D3 = some (.lst ((wrongL xs os i).map V.int))) ⟨(Same.refl H4).put nD3, upd_same⟩ (fun _ _ _ _ => trivial) ?_ ?_⟩
          · rintro i y H9 H10 hi ⟨s9, e9⟩ ⟨rfl, hy⟩
            have hy : y = V.int (i : Nat) := by
              rw [hy]
              show V.int (0 + (i : Nat)) = _
              rw [Int.zero_add]
            subst hy
            have hi : i < os.length := by simpa using hi
            have eo : outAt xs os i = (!decide (os[i] ∈ xs) || !risesAt os i) := by unfold outAt; rw [List.getElem?_eq_getElem hi]
            have yes : outAt xs os i = true → ∃ acc, H10 D3 = some (.lst acc) ∧ acc.length < sizeLine ∧ (Same H4 (upd H10 D3 (.lst (acc ++ [V.int i]))) ∧ (upd H10 D3 (.lst (acc ++ [V.int i]))) D3 = some (.lst ((wrongL xs os (i + 1)).map V.int))) := fun ho => by
              refine grow (acc := fun i => (wrongL xs os i).map V.int) nD3 s9 e9 ?_ ?_
              · rw [List.length_map]
                exact small1000 (Nat.le_trans wrongL_len (by omega))
              · show List.map V.int _ = _
                rw [wrongL_more ho, List.map_append]
                rfl
            have non : outAt xs os i = false → (Same H4 H10 ∧ H10 D3 = some (.lst ((wrongL xs os (i + 1)).map V.int))) := fun ho => ⟨s9, by rw [wrongL_same ho]; exact e9⟩
            refine ⟨rfl, .ref op, rfl, .int i, rfl, op, _, _, _, rfl, rfl, s9.tup ho, at_of rfl (strG hi), .ref fp3, rfl, fp3, _, rfl, .inr (s9.tup hF4), rfl, flat_strs xs, _, rfl, bcase (fun c1 => ?_) (fun c1 => ?_)⟩
            · have c1 : (!decide (os[i] ∈ xs)) = true := by rw [← inV_str]; exact c1
              exact iteT ⟨.int i, rfl, yes (by rw [eo, c1, Bool.true_or])⟩
            · have c1 : (!decide (os[i] ∈ xs)) = false := by rw [← inV_str]; exact c1
              rw [c1, Bool.false_or] at eo
              refine ⟨.int i, rfl, i, 0, rfl, rfl, _, rfl, bcase (fun c3 => ?_) (fun c3 => ?_)⟩
              · have c3 : i ≠ 0 := by have := of_decide_eq_true c3; omega
                have h1 : i - 1 < os.length := by omega
                refine ⟨.ref op, rfl, .int i, rfl, op, _, _, _, rfl, rfl, s9.tup ho, at_of rfl (strG hi), .ref op, rfl, .int i, rfl, i, 1, rfl, rfl, op, _, _, _, rfl, rfl, s9.tup ho, at_of (j := i - 1) (by omega) (strG h1), os[i], os[i - 1], rfl, rfl, _, rfl, ?_⟩
                rw [← risesAt_eq hi c3 h1]
                refine bcase (fun c4 => ?_) (fun c4 => ?_)
                · exact ⟨.int i, rfl, yes (by rw [eo]; exact c4)⟩
                · exact non (by rw [eo]; exact c4)
              · have c3 : i = 0 := by have := of_decide_eq_false c3; omega
                exact iteF (non (by rw [eo, c3]; rfl))
          · rintro H5 ⟨s5, e5⟩
            rw [List.length_map] at e5
            refine ⟨D3, _, rfl, e5, fun H6 dp s6 ed => ?_⟩
            have s6 := s5.trans s6
            refine ⟨fp3, op, dp, xs, os, rfl, rfl, rfl, tabs_kp (Kp.of R4 s6) Tb4, s6.tup hF4, s6.tup ho, ed, hfx, e8, by omega, fun H7 x7 Tb7 => ?_⟩
            have R7 := (R4.same s6).ext x7
            have hF7 := sqT_ext x7 (s6.tup hF4)
            clear e5 s5 s6 ed hF4 Tb4 R4 x7 nD3
            refine ⟨1, rfl, .ref fp3, rfl, fp3, _, rfl, .inr hF7, 1, _, rfl, rfl, ⟨by omega, by rw [List.length_map]; omega, by decide⟩, 10, 30, rfl, rfl, ⟨by decide, by decide, by decide⟩, (by show 3 ≤ sizeLine; decide), fun p np => ?_⟩
            rw [List.length_map]
            have k8 := (Kp.refl R7).put (o := .lst [.int (-1), .int (1 * 2 ^ (xs.length : Int).toNat), .int (10 ^ 30)]) np
            obtain ⟨n1, n2⟩ := R7.no np
            refine ⟨.ref a, rfl, a, l, 3, rfl, k8.new, by decide, by decide, fun H9 j k9 j0 j1 => ?_⟩
            obtain ⟨j, rfl⟩ := Int.eq_ofNat_of_zero_le j0
            have ep := k9.lst upd_same n1 n2
            have hp60 : (2 : Int) ^ xs.length ≤ 2 ^ 60 := by
              have := Nat.pow_le_pow_right (n := 2) (by decide) hx60
              exact_mod_cast this
            have hm : ∃ o : Int, [V.int (-1), .int (1 * 2 ^ (xs.length : Int).toNat), .int (10 ^ 30)][j]? = some (.int o) ∧ ¬ (0 ≤ o ∧ o < 2 ^ xs.length) := by
              match j, j1 with
              | 0, _ => exact ⟨-1, rfl, by omega⟩
              | 1, _ => exact ⟨1 * 2 ^ xs.length, rfl, by omega⟩
              | 2, _ => exact ⟨10 ^ 30, rfl, fun z => by have := z.2; have h : (2 : Int) ^ 60 < 10 ^ 30 := (by decide); omega⟩
              | x + 3, h => exact absurd h (by omega)
            obtain ⟨o, eo, ho⟩ := hm
            have k9 := k8.trans k9
            refine ⟨p, _, (j : Int), .int o, rfl, rfl, sqL_of ep, atI_nat eo, ?_⟩
            have R9 := k9.new
            have hF9 := k9.tup hF7
            refine ⟨tabs_kp k9 Tb7, fun HA xA TbA => ?_⟩
            have RA := R9.ext xA
            have hFA := sqT_ext xA hF9
            refine ⟨.ref fp3, rfl, .int o, rfl, fp3, xs, o, rfl, hFA, hfx.txts, by omega, fun i ei => absurd (e8.symm.trans ei) (fun z => nomatch z), fun _ => ⟨fun _ HB sB => ?_, fun n => absurd n ho⟩⟩
            refine ⟨CN, 2, _, rfl, eN, .plain (fun dd e => nomatch e) (by decide) (by decide) (by decide) (by decide) (by decide), fun HC p9 sC ep9 _ => ?_⟩
            refine ⟨(by show 1 ≤ sizeLine; decide), fun t nt => ?_⟩
            have sD := (Same.refl HC).put (o := .tup [.str "number"]) nt
            refine ⟨_, _, dp_one (x := "number") (sD.tup (sqT_of ep9)), dp_one (x := "number") sqT_new, sh_one ok_w4, sh_one ok_w4, _, rfl, ?_⟩
            rw [eq_one ok_w4]
            refine iteF ?_
            have sE := (sB.trans sC).trans sD
            have RE := RA.same sE
            have hFE := sE.tup hFA
            have TbE := tabs_kp (Kp.of RA sE) TbA
            generalize upd HC t (.tup [.str "number"]) = HE at RE hFE TbE ⊢
            have eall : (1 : Int) * 2 ^ ((xs.map V.str).length : Int).toNat - 1 = 2 ^ xs.length - 1 := by rw [Int.one_mul, List.length_map]; rfl
            have p2 : (0 : Int) < 2 ^ xs.length := Int.pow_pos (by decide)
            refine ⟨.ref fp3, rfl, .ref fp3, rfl, fp3, _, rfl, .inr hFE, 1, _, rfl, rfl, ⟨by omega, by rw [List.length_map]; omega, by decide⟩, _, 1, rfl, rfl, fp3, xs, _, rfl, hFE, hfx.txts, by omega, fun i ei => absurd (e8.symm.trans ei) (fun z => nomatch z), fun _ => ⟨fun n => absurd (by rw [eall]; omega) n, fun _ HF r1 sF er1 => ?_⟩⟩
            rw [eall, names_all e8] at er1
            refine ⟨.ref fp3, rfl, _, _, .tup (sqT_of er1) (dps K _ xs), .tup (sF.tup hFE) (dps K _ xs), shT hfx, shT hfx, _, rfl, ?_⟩
            rw [show (PyData.tuple (xs.map PyData.str)).eqv (.tuple (xs.map PyData.str)) = true from SeqAt.eqv_refl _ (strs_lay hfx)]
            refine iteF ⟨.ref fp3, rfl, fp3, xs, 0, rfl, sF.tup hFE, hfx.txts, by omega, fun i ei => absurd (e8.symm.trans ei) (fun z => nomatch z), fun _ => ⟨fun n => absurd ⟨by decide, p2⟩ n, fun _ HG r2 sG er2 => ?_⟩⟩
            rw [names_nil e8] at er2
            refine ⟨Nat.zero_le _, fun t3 nt3 => ?_⟩
            have sH := sG.put' (o := .tup []) nt3
            have s99 := sF.trans sH
            exact ⟨.tuple [], .tuple [], .tup (((Same.refl HG).put nt3).tup (sqT_of er2)) .nil, .tup sqT_new .nil, rfl, rfl, _, rfl, iteF ⟨_, _, _, _, _, _, _, _, _, _, _, _, _, rfl, RE.same s99, tabs_kp (Kp.of RE s99) TbE⟩⟩
    · have Tb := tabs_kp (Kp.of R s8) Tb
      have R := R.same s8
      have hF := s8.tup hF3
      refine ⟨_, rfl, rfl, _, rfl, iteT ?_⟩
      refine ⟨Tb, fun H9 x9 Tb9 => ?_⟩
      have R9 := R.ext x9
      have hF9 := sqT_ext x9 hF
      refine ⟨.ref fp3, rfl, (by show 1 ≤ sizeLine; decide), fun t1 nt1 => ⟨fp3, t1, xs, ["q"], rfl, ((Same.refl H9).put nt1).tup hF9, sqT_new, hfx.txts, by omega, by decide, fun i ei HA d sA nd => ?_, fun en => absurd (e8.symm.trans en) (fun z => nomatch z)⟩⟩
      obtain rfl : i8 = i := Option.some.inj (e8.symm.trans ei)
      refine ⟨CF, 0, _, rfl, eF, .ix (by decide) rfl upd_same rfl, fun HB p sB epB _ => ?_⟩
      have s9 : Same H9 HB := ((((Same.refl H9).put nt1).trans sA).put' nd).trans sB
      refine ⟨_, rfl, (by show 2 ≤ sizeLine; decide), fun t2 nt2 => ?_⟩
      have sC := (Same.refl HB).put (o := .tup [.str "facts", .int i8]) nt2
      refine ⟨_, _, dp_pair (x := "facts") (i := i8) (sC.tup (sqT_of epB)), dp_pair (x := "facts") (i := i8) sqT_new, sh_pair ok_w1, sh_pair ok_w1, _, rfl, ?_⟩
      rw [eq_pair ok_w1]
      refine iteF ?_
      have s10 := s9.trans sC
      have R10 := R9.same s10
      have hF10 := s10.tup hF9
      have Tb10 := tabs_kp (Kp.of R9 s10) Tb9
      generalize upd HB t2 (.tup [.str "facts", .int i8]) = HC at R10 hF10 Tb10 ⊢
      refine ⟨Tb10, fun HD xD TbD => ?_⟩
      have RD := R10.ext xD
      have hFD := sqT_ext xD hF10
      refine ⟨.ref fp3, rfl, 1, rfl, fp3, xs, -1, rfl, hFD, hfx.txts, by omega, fun i ei HA d sA nd => ?_, fun en => absurd (e8.symm.trans en) (fun z => nomatch z)⟩
      obtain rfl : i8 = i := Option.some.inj (e8.symm.trans ei)
      refine ⟨CF, 0, _, rfl, eF, .ix (by decide) rfl upd_same rfl, fun HB p sB epB _ => ?_⟩
      have s9 : Same HD HB := (sA.put' nd).trans sB
      refine ⟨_, rfl, (by show 2 ≤ sizeLine; decide), fun t2 nt2 => ?_⟩
      have sC := (Same.refl HB).put (o := .tup [.str "facts", .int i8]) nt2
      refine ⟨_, _, dp_pair (x := "facts") (i := i8) (sC.tup (sqT_of epB)), dp_pair (x := "facts") (i := i8) sqT_new, sh_pair ok_w1, sh_pair ok_w1, _, rfl, ?_⟩
      rw [eq_pair ok_w1]
      refine iteF ?_
      have s10 := s9.trans sC
      exact ⟨_, _, _, _, _, _, _, _, _, _, _, _, _, rfl, RD.same s10, tabs_kp (Kp.of RD s10) TbD⟩
  · rintro σ H2 ⟨y0, y3, y4, y5, y6, y7, y8, y9, y10, y11, y12, y13, y14, rfl, R, Tb⟩
    exact q H2
end
end Sc
namespace Sc
open PySem PySem.Spec PyProof.Rows L2
theorem four {K : PySem.W.Frag} {D : Value} (h1 : PySem.W.findIn K D "index" = some none) (h2 : PySem.W.findIn K D "part" = some none) (h3 : PySem.W.findIn K D "word" = some none) (h4 : PySem.W.findIn K D "fact" = some none) :
    ∀ n ∈ (["index", "part", "word", "fact"] : List Str), PySem.W.findIn K D n = some none := by
  intro n hn
  simp only [List.mem_cons, List.not_mem_nil, or_false] at hn
  rcases hn with rfl | rfl | rfl | rfl
  · exact h1
  · exact h2
  · exact h3
  · exact h4
theorem exm_by {K : PySem.W.Frag} {D C : Addr} (h1 : PySem.W.subIn K (.ref C) (.type "BaseException") = some true) (h2 : PySem.W.isClsIn K C = true) (h3 : PySem.W.typeIn K (.ref C) = some (.type "type")) (h4 : PySem.W.subIn K (.ref D) (.ref C) = some true) : PySem.W.exmOne K (.ref D) (.ref C) = some true := by
  have e1 : (PySem.W.subIn K (.ref C) (.type "BaseException") == some true) = true := by rw [h1] <;> rfl
  have e2 : ((PySem.W.clsIn K C).isSome && PySem.W.typeIn K (.ref C) == some (.type "type")) = true := by
    have h2' : (PySem.W.clsIn K C).isSome = true := h2
    rw [h2', h3] <;> rfl
  unfold PySem.W.exmOne PySem.W.kitCls
  rw [if_pos e1]
  dsimp only
  rw [if_pos e2]
  exact h4
theorem kit_by {K : PySem.W.Frag} {D C : Addr} {b : Bool} (h1 : PySem.W.subIn K (.ref D) (.ref D) = some true) (h2 : PySem.W.isClsIn K C = true) (h3 : PySem.W.typeIn K (.ref C) = some (.type "type")) (h4 : PySem.W.subIn K (.ref D) (.ref C) = some b) : PySem.W.kitOne K (.ref D) (.ref C) = some b := by
  have e2 : ((PySem.W.clsIn K C).isSome && PySem.W.typeIn K (.ref C) == some (.type "type")) = true := by
    have h2' : (PySem.W.clsIn K C).isSome = true := h2
    rw [h2', h3] <;> rfl
  unfold PySem.W.kitOne
  split
  · rename_i e
    have e := eq_of_beq e
    cases e
    exact h1.symm.trans h4
  · unfold PySem.W.kitCls
    dsimp only
    rw [if_pos e2]
    exact h4
theorem kit_ve {K : PySem.W.Frag} {D : Addr} (h : PySem.W.subIn K (.ref D) (.type "ValueError") = some true) : PySem.W.kitOne K (.ref D) (.type "ValueError") = some true := by
  unfold PySem.W.kitOne PySem.W.kitCls
  rw [if_neg (by intro z; cases eq_of_beq z)]
  dsimp only
  rw [if_pos (by decide +kernel)]
  exact h
theorem codeHd_by {K : PySem.W.Frag} {c T : Addr} {o : Obj} (lk : K.lookup c = some o) (h : PySem.W.codeHdIn [(c, o)] c T = true) : PySem.W.codeHdIn K c T = true := by
  unfold PySem.W.codeHdIn at h ⊢
  rw [lk]
  have e : ([(c, o)] : PySem.W.Frag).lookup c = some o := by simp [List.lookup]
  rw [e] at h
  exact h
theorem lookup_no {K : PySem.W.Frag} {a : Addr} (h : (K.map (·.1)).contains a = false) : K.lookup a = none := by
  induction K with
  | nil => rfl
  | cons p r ih =>
    rw [List.map_cons, List.contains_cons, Bool.or_eq_false_iff] at h
    obtain ⟨x, o⟩ := p
    rw [List.lookup_cons, h.1]
    exact ih h.2
theorem sup_by {K : PySem.W.Frag} {C CE : Addr} {z : Value} {nm q nm2 q2 : Str} {N N2 : Addr} {bs bm su bs2 bm2 su2 : List Value} {sn sn2 : List Str} {ab ab2 : Bool} {col col2 : Option Bool} {dd dd2 : Option Addr} {x0 x1 x2 x3 x5 y0 y1 y2 y3 y5 : Option Value}
    (xC : K.lookup C = some (excClassObj nm q C N bs bm true sn su ab col dd x0 x1 x2 x3 x5 "ValueError.__new__")) (xE : K.lookup CE = some (excClassObj nm2 q2 CE N2 bs2 bm2 true sn2 su2 ab2 col2 dd2 y0 y1 y2 y3 y5 "ValueError.__new__"))
    (e : bm = .ref CE :: bm2) (f : PySem.W.findIn K (.ref CE) "__init__" = some (some z)) : PySem.W.ks_superIn K C C "__init__" = some (some z) := by
  subst e
  unfold PySem.W.ks_superIn PySem.W.clsIn
  unfold PySem.W.findIn at f
  dsimp only at f
  rw [xC]
  rw [xE] at f
  simp only [excClassObj] at f ⊢
  simp
  exact f
theorem all_mk {l : PySem.W.OpenLaw} {P : Program} {w : World} {K : PySem.W.Frag} {h : Heap} {mg : Str → Option Value} {fa : Addr} (eP : l.prog = P) (X : K.In h) (G : h.Ns mainGlobals mg) (hfa : mg "law" = some (.ref fa))
    {f_is_name : Addr} {oc_is_name kV_is_name dc_is_name pm_is_name cd_is_name ct_is_name : Value} {od_is_name an_is_name : Option Addr} {sl_is_name : Array (Option Value)}
    {f_is_integer : Addr} {oc_is_integer kV_is_integer dc_is_integer pm_is_integer cd_is_integer ct_is_integer : Value} {od_is_integer an_is_integer : Option Addr} {sl_is_integer : Array (Option Value)}
    {f_rises : Addr} {oc_rises kV_rises dc_rises pm_rises cd_rises ct_rises : Value} {od_rises an_rises : Option Addr} {sl_rises : Array (Option Value)}
    {f_check_facts : Addr} {oc_check_facts kV_check_facts dc_check_facts pm_check_facts cd_check_facts ct_check_facts : Value} {od_check_facts an_check_facts : Option Addr} {sl_check_facts : Array (Option Value)}
    {f_check_case : Addr} {oc_check_case kV_check_case dc_check_case pm_check_case cd_check_case ct_check_case : Value} {od_check_case an_check_case : Option Addr} {sl_check_case : Array (Option Value)}
    {f_bits_of : Addr} {oc_bits_of kV_bits_of dc_bits_of pm_bits_of cd_bits_of ct_bits_of : Value} {od_bits_of an_bits_of : Option Addr} {sl_bits_of : Array (Option Value)}
    {f_names_of : Addr} {oc_names_of kV_names_of dc_names_of pm_names_of cd_names_of ct_names_of : Value} {od_names_of an_names_of : Option Addr} {sl_names_of : Array (Option Value)}
    {f_case_number : Addr} {oc_case_number kV_case_number dc_case_number pm_case_number cd_case_number ct_case_number : Value} {od_case_number an_case_number : Option Addr} {sl_case_number : Array (Option Value)}
    {f_case_of : Addr} {oc_case_of kV_case_of dc_case_of pm_case_of cd_case_of ct_case_of : Value} {od_case_of an_case_of : Option Addr} {sl_case_of : Array (Option Value)}
    {f__law_mix : Addr} {oc__law_mix kV__law_mix dc__law_mix pm__law_mix cd__law_mix ct__law_mix : Value} {od__law_mix an__law_mix : Option Addr} {sl__law_mix : Array (Option Value)}
    {f__law_next : Addr} {oc__law_next kV__law_next dc__law_next pm__law_next cd__law_next ct__law_next : Value} {od__law_next an__law_next : Option Addr} {sl__law_next : Array (Option Value)}
    {f__law_alike : Addr} {oc__law_alike kV__law_alike dc__law_alike pm__law_alike cd__law_alike ct__law_alike : Value} {od__law_alike an__law_alike : Option Addr} {sl__law_alike : Array (Option Value)}
    {f__law_error : Addr} {oc__law_error kV__law_error dc__law_error pm__law_error cd__law_error ct__law_error : Value} {od__law_error an__law_error : Option Addr} {sl__law_error : Array (Option Value)}
    {f__law_facts : Addr} {oc__law_facts kV__law_facts dc__law_facts pm__law_facts cd__law_facts ct__law_facts : Value} {od__law_facts an__law_facts : Option Addr} {sl__law_facts : Array (Option Value)}
    {f__law_bad : Addr} {oc__law_bad kV__law_bad dc__law_bad pm__law_bad cd__law_bad ct__law_bad : Value} {od__law_bad an__law_bad : Option Addr} {sl__law_bad : Array (Option Value)}
    {f__law_bent : Addr} {oc__law_bent kV__law_bent dc__law_bent pm__law_bent cd__law_bent ct__law_bent : Value} {od__law_bent an__law_bent : Option Addr} {sl__law_bent : Array (Option Value)}
    {f_law : Addr} {oc_law kV_law dc_law pm_law ct_law : Value} {od_law an_law : Option Addr} {sl_law : Array (Option Value)}
    {cc_law : Addr} {ocl : Obj}
    {t_LETTERS : Tok}
    {t_LONGEST_NAME : Tok}
    {t_MOST_FACTS : Tok}
    {CE : Addr}
    {E0 : Addr}
    {E1 : Addr}
    {E2 : Addr}
    {E3 : Addr}
    {E4 : Addr}
    {E5 : Addr}
    {E6 : Addr}
    {E7 : Addr}
    {E8 : Addr}
    {E9 : Addr}
    {E10 : Addr}
    {E11 : Addr}
    {E12 : Addr}
    {E13 : Addr}
    {E14 : Addr}
    {E15 : Addr}
    {E16 : Addr}
    {nmE qE : Str} {NE : Addr} {bsE bmE suE : List Value} {snE : List Str} {abE : Bool} {colE : Option Bool} {ddE : Option Addr} {x0E x1E x2E x3E x5E : Option Value}
    {nmi0 qi0 : Str} {Ni0 : Addr} {bsi0 bmi0 sui0 : List Value} {sni0 : List Str} {abi0 : Bool} {coli0 : Option Bool} {ddi0 odii0 anii0 ccddi0 cddi0 : Option Addr} {x0i0 x1i0 x2i0 x3i0 x5i0 : Option Value} {fIi0 celi0 codi0 : Addr} {ocii0 kVii0 dcii0 pmii0 ctii0 clci0 ccli0 : Value} {slii0 csli0 ccsi0 : Array (Option Value)} {vsi0 : Array Value} {fili0 : Str} {tfii0 : Tok}
    {nmi1 qi1 : Str} {Ni1 : Addr} {bsi1 bmi1 sui1 : List Value} {sni1 : List Str} {abi1 : Bool} {coli1 : Option Bool} {ddi1 odii1 anii1 ccddi1 cddi1 : Option Addr} {x0i1 x1i1 x2i1 x3i1 x5i1 : Option Value} {fIi1 celi1 codi1 : Addr} {ocii1 kVii1 dcii1 pmii1 ctii1 clci1 ccli1 : Value} {slii1 csli1 ccsi1 : Array (Option Value)} {vsi1 : Array Value} {fili1 : Str} {tfii1 : Tok}
    (a_is_name : PySem.W.nsIn K mainGlobals "is_name" = some (some (.ref f_is_name)))
    (l_is_name : K.lookup f_is_name = some ⟨oc_is_name, od_is_name, .func (PySem.W.fnOf "is_name" "is_name" (defArgs s_is_name) (defBody s_is_name) (defScope s_is_name) .none kV_is_name dc_is_name pm_is_name an_is_name cd_is_name ct_is_name), sl_is_name⟩)
    (c_is_name : PySem.W.codeIn K cd_is_name "is_name" = true)
    (k_is_name : PySem.W.keepIn K (.ref f_is_name) = true)
    (a_is_integer : PySem.W.nsIn K mainGlobals "is_integer" = some (some (.ref f_is_integer)))
    (l_is_integer : K.lookup f_is_integer = some ⟨oc_is_integer, od_is_integer, .func (PySem.W.fnOf "is_integer" "is_integer" (defArgs s_is_integer) (defBody s_is_integer) (defScope s_is_integer) .none kV_is_integer dc_is_integer pm_is_integer an_is_integer cd_is_integer ct_is_integer), sl_is_integer⟩)
    (c_is_integer : PySem.W.codeIn K cd_is_integer "is_integer" = true)
    (k_is_integer : PySem.W.keepIn K (.ref f_is_integer) = true)
    (a_rises : PySem.W.nsIn K mainGlobals "rises" = some (some (.ref f_rises)))
    (l_rises : K.lookup f_rises = some ⟨oc_rises, od_rises, .func (PySem.W.fnOf "rises" "rises" (defArgs s_rises) (defBody s_rises) (defScope s_rises) .none kV_rises dc_rises pm_rises an_rises cd_rises ct_rises), sl_rises⟩)
    (c_rises : PySem.W.codeIn K cd_rises "rises" = true)
    (k_rises : PySem.W.keepIn K (.ref f_rises) = true)
    (a_check_facts : PySem.W.nsIn K mainGlobals "check_facts" = some (some (.ref f_check_facts)))
    (l_check_facts : K.lookup f_check_facts = some ⟨oc_check_facts, od_check_facts, .func (PySem.W.fnOf "check_facts" "check_facts" (defArgs s_check_facts) (defBody s_check_facts) (defScope s_check_facts) .none kV_check_facts dc_check_facts pm_check_facts an_check_facts cd_check_facts ct_check_facts), sl_check_facts⟩)
    (c_check_facts : PySem.W.codeIn K cd_check_facts "check_facts" = true)
    (k_check_facts : PySem.W.keepIn K (.ref f_check_facts) = true)
    (a_check_case : PySem.W.nsIn K mainGlobals "check_case" = some (some (.ref f_check_case)))
    (l_check_case : K.lookup f_check_case = some ⟨oc_check_case, od_check_case, .func (PySem.W.fnOf "check_case" "check_case" (defArgs s_check_case) (defBody s_check_case) (defScope s_check_case) .none kV_check_case dc_check_case pm_check_case an_check_case cd_check_case ct_check_case), sl_check_case⟩)
    (c_check_case : PySem.W.codeIn K cd_check_case "check_case" = true)
    (k_check_case : PySem.W.keepIn K (.ref f_check_case) = true)
    (a_bits_of : PySem.W.nsIn K mainGlobals "bits_of" = some (some (.ref f_bits_of)))
    (l_bits_of : K.lookup f_bits_of = some ⟨oc_bits_of, od_bits_of, .func (PySem.W.fnOf "bits_of" "bits_of" (defArgs s_bits_of) (defBody s_bits_of) (defScope s_bits_of) .none kV_bits_of dc_bits_of pm_bits_of an_bits_of cd_bits_of ct_bits_of), sl_bits_of⟩)
    (c_bits_of : PySem.W.codeIn K cd_bits_of "bits_of" = true)
    (k_bits_of : PySem.W.keepIn K (.ref f_bits_of) = true)
    (a_names_of : PySem.W.nsIn K mainGlobals "names_of" = some (some (.ref f_names_of)))
    (l_names_of : K.lookup f_names_of = some ⟨oc_names_of, od_names_of, .func (PySem.W.fnOf "names_of" "names_of" (defArgs s_names_of) (defBody s_names_of) (defScope s_names_of) .none kV_names_of dc_names_of pm_names_of an_names_of cd_names_of ct_names_of), sl_names_of⟩)
    (c_names_of : PySem.W.codeIn K cd_names_of "names_of" = true)
    (k_names_of : PySem.W.keepIn K (.ref f_names_of) = true)
    (a_case_number : PySem.W.nsIn K mainGlobals "case_number" = some (some (.ref f_case_number)))
    (l_case_number : K.lookup f_case_number = some ⟨oc_case_number, od_case_number, .func (PySem.W.fnOf "case_number" "case_number" (defArgs s_case_number) (defBody s_case_number) (defScope s_case_number) .none kV_case_number dc_case_number pm_case_number an_case_number cd_case_number ct_case_number), sl_case_number⟩)
    (c_case_number : PySem.W.codeIn K cd_case_number "case_number" = true)
    (k_case_number : PySem.W.keepIn K (.ref f_case_number) = true)
    (a_case_of : PySem.W.nsIn K mainGlobals "case_of" = some (some (.ref f_case_of)))
    (l_case_of : K.lookup f_case_of = some ⟨oc_case_of, od_case_of, .func (PySem.W.fnOf "case_of" "case_of" (defArgs s_case_of) (defBody s_case_of) (defScope s_case_of) .none kV_case_of dc_case_of pm_case_of an_case_of cd_case_of ct_case_of), sl_case_of⟩)
    (c_case_of : PySem.W.codeIn K cd_case_of "case_of" = true)
    (k_case_of : PySem.W.keepIn K (.ref f_case_of) = true)
    (a__law_mix : PySem.W.nsIn K mainGlobals "_law_mix" = some (some (.ref f__law_mix)))
    (l__law_mix : K.lookup f__law_mix = some ⟨oc__law_mix, od__law_mix, .func (PySem.W.fnOf "_law_mix" "_law_mix" (defArgs s__law_mix) (defBody s__law_mix) (defScope s__law_mix) .none kV__law_mix dc__law_mix pm__law_mix an__law_mix cd__law_mix ct__law_mix), sl__law_mix⟩)
    (c__law_mix : PySem.W.codeIn K cd__law_mix "_law_mix" = true)
    (k__law_mix : PySem.W.keepIn K (.ref f__law_mix) = true)
    (a__law_next : PySem.W.nsIn K mainGlobals "_law_next" = some (some (.ref f__law_next)))
    (l__law_next : K.lookup f__law_next = some ⟨oc__law_next, od__law_next, .func (PySem.W.fnOf "_law_next" "_law_next" (defArgs s__law_next) (defBody s__law_next) (defScope s__law_next) .none kV__law_next dc__law_next pm__law_next an__law_next cd__law_next ct__law_next), sl__law_next⟩)
    (c__law_next : PySem.W.codeIn K cd__law_next "_law_next" = true)
    (k__law_next : PySem.W.keepIn K (.ref f__law_next) = true)
    (a__law_alike : PySem.W.nsIn K mainGlobals "_law_alike" = some (some (.ref f__law_alike)))
    (l__law_alike : K.lookup f__law_alike = some ⟨oc__law_alike, od__law_alike, .func (PySem.W.fnOf "_law_alike" "_law_alike" (defArgs s__law_alike) (defBody s__law_alike) (defScope s__law_alike) .none kV__law_alike dc__law_alike pm__law_alike an__law_alike cd__law_alike ct__law_alike), sl__law_alike⟩)
    (c__law_alike : PySem.W.codeIn K cd__law_alike "_law_alike" = true)
    (k__law_alike : PySem.W.keepIn K (.ref f__law_alike) = true)
    (a__law_error : PySem.W.nsIn K mainGlobals "_law_error" = some (some (.ref f__law_error)))
    (l__law_error : K.lookup f__law_error = some ⟨oc__law_error, od__law_error, .func (PySem.W.fnOf "_law_error" "_law_error" (defArgs s__law_error) (defBody s__law_error) (defScope s__law_error) .none kV__law_error dc__law_error pm__law_error an__law_error cd__law_error ct__law_error), sl__law_error⟩)
    (c__law_error : PySem.W.codeIn K cd__law_error "_law_error" = true)
    (k__law_error : PySem.W.keepIn K (.ref f__law_error) = true)
    (a__law_facts : PySem.W.nsIn K mainGlobals "_law_facts" = some (some (.ref f__law_facts)))
    (l__law_facts : K.lookup f__law_facts = some ⟨oc__law_facts, od__law_facts, .func (PySem.W.fnOf "_law_facts" "_law_facts" (defArgs s__law_facts) (defBody s__law_facts) (defScope s__law_facts) .none kV__law_facts dc__law_facts pm__law_facts an__law_facts cd__law_facts ct__law_facts), sl__law_facts⟩)
    (c__law_facts : PySem.W.codeIn K cd__law_facts "_law_facts" = true)
    (k__law_facts : PySem.W.keepIn K (.ref f__law_facts) = true)
    (a__law_bad : PySem.W.nsIn K mainGlobals "_law_bad" = some (some (.ref f__law_bad)))
    (l__law_bad : K.lookup f__law_bad = some ⟨oc__law_bad, od__law_bad, .func (PySem.W.fnOf "_law_bad" "_law_bad" (defArgs s__law_bad) (defBody s__law_bad) (defScope s__law_bad) .none kV__law_bad dc__law_bad pm__law_bad an__law_bad cd__law_bad ct__law_bad), sl__law_bad⟩)
    (c__law_bad : PySem.W.codeIn K cd__law_bad "_law_bad" = true)
    (k__law_bad : PySem.W.keepIn K (.ref f__law_bad) = true)
    (a__law_bent : PySem.W.nsIn K mainGlobals "_law_bent" = some (some (.ref f__law_bent)))
    (l__law_bent : K.lookup f__law_bent = some ⟨oc__law_bent, od__law_bent, .func (PySem.W.fnOf "_law_bent" "_law_bent" (defArgs s__law_bent) (defBody s__law_bent) (defScope s__law_bent) .none kV__law_bent dc__law_bent pm__law_bent an__law_bent cd__law_bent ct__law_bent), sl__law_bent⟩)
    (c__law_bent : PySem.W.codeIn K cd__law_bent "_law_bent" = true)
    (k__law_bent : PySem.W.keepIn K (.ref f__law_bent) = true)
    (a_law : PySem.W.nsIn K mainGlobals "law" = some (some (.ref f_law)))
    (l_law : K.lookup f_law = some ⟨oc_law, od_law, .func (PySem.W.fnOf "law" "law" (defArgs s_law) (defBody s_law) (defScope s_law) .none kV_law dc_law pm_law an_law (.ref cc_law) ct_law), sl_law⟩)
    (c_law : PySem.W.codeIn K (.ref cc_law) "law" = true)
    (k_law : PySem.W.keepIn K (.ref f_law) = true)
    (b_isinstance : PySem.W.nsIn K mainGlobals "isinstance" = some none)
    (b_len : PySem.W.nsIn K mainGlobals "len" = some none)
    (b_all : PySem.W.nsIn K mainGlobals "all" = some none)
    (b_any : PySem.W.nsIn K mainGlobals "any" = some none)
    (b_sum : PySem.W.nsIn K mainGlobals "sum" = some none)
    (b_max : PySem.W.nsIn K mainGlobals "max" = some none)
    (b_min : PySem.W.nsIn K mainGlobals "min" = some none)
    (b_int : PySem.W.nsIn K mainGlobals "int" = some none)
    (b_str : PySem.W.nsIn K mainGlobals "str" = some none)
    (b_bool : PySem.W.nsIn K mainGlobals "bool" = some none)
    (b_list : PySem.W.nsIn K mainGlobals "list" = some none)
    (b_tuple : PySem.W.nsIn K mainGlobals "tuple" = some none)
    (b_dict : PySem.W.nsIn K mainGlobals "dict" = some none)
    (b_range : PySem.W.nsIn K mainGlobals "range" = some none)
    (b_enumerate : PySem.W.nsIn K mainGlobals "enumerate" = some none)
    (b_sorted : PySem.W.nsIn K mainGlobals "sorted" = some none)
    (b_reversed : PySem.W.nsIn K mainGlobals "reversed" = some none)
    (b_zip : PySem.W.nsIn K mainGlobals "zip" = some none)
    (b_set : PySem.W.nsIn K mainGlobals "set" = some none)
    (b_ValueError : PySem.W.nsIn K mainGlobals "ValueError" = some none)
    (m_LETTERS : PySem.W.nsIn K mainGlobals "LETTERS" = some (some (.str letters t_LETTERS)))
    (m_LONGEST_NAME : PySem.W.nsIn K mainGlobals "LONGEST_NAME" = some (some (.int 8 t_LONGEST_NAME)))
    (m_MOST_FACTS : PySem.W.nsIn K mainGlobals "MOST_FACTS" = some (some (.int 60 t_MOST_FACTS)))
    (m_CourtError : PySem.W.nsIn K mainGlobals "CourtError" = some (some (.ref CE)))
    (m_InvalidFacts : PySem.W.nsIn K mainGlobals "InvalidFacts" = some (some (.ref E0)))
    (m_InvalidCase : PySem.W.nsIn K mainGlobals "InvalidCase" = some (some (.ref E1)))
    (m_InvalidNumber : PySem.W.nsIn K mainGlobals "InvalidNumber" = some (some (.ref E2)))
    (m_InvalidCondition : PySem.W.nsIn K mainGlobals "InvalidCondition" = some (some (.ref E3)))
    (m_NeverMet : PySem.W.nsIn K mainGlobals "NeverMet" = some (some (.ref E4)))
    (m_InvalidRule : PySem.W.nsIn K mainGlobals "InvalidRule" = some (some (.ref E5)))
    (m_InvalidBook : PySem.W.nsIn K mainGlobals "InvalidBook" = some (some (.ref E6)))
    (m_UnknownRule : PySem.W.nsIn K mainGlobals "UnknownRule" = some (some (.ref E7)))
    (m_InvalidRuling : PySem.W.nsIn K mainGlobals "InvalidRuling" = some (some (.ref E8)))
    (m_UnknownFact : PySem.W.nsIn K mainGlobals "UnknownFact" = some (some (.ref E9)))
    (m_NoReason : PySem.W.nsIn K mainGlobals "NoReason" = some (some (.ref E10)))
    (m_TooMany : PySem.W.nsIn K mainGlobals "TooMany" = some (some (.ref E11)))
    (m_InvalidChance : PySem.W.nsIn K mainGlobals "InvalidChance" = some (some (.ref E12)))
    (m_OtherFacts : PySem.W.nsIn K mainGlobals "OtherFacts" = some (some (.ref E13)))
    (m_NoNeighbor : PySem.W.nsIn K mainGlobals "NoNeighbor" = some (some (.ref E14)))
    (m_NoFacts : PySem.W.nsIn K mainGlobals "NoFacts" = some (some (.ref E15)))
    (m_AlreadyKnown : PySem.W.nsIn K mainGlobals "AlreadyKnown" = some (some (.ref E16)))
    (CEbe : PySem.W.subIn K (.ref CE) (.type "BaseException") = some true)
    (CEcl : PySem.W.isClsIn K CE = true)
    (CEty : PySem.W.typeIn K (.ref CE) = some (.type "type"))
    (u_0 : PySem.W.isClsIn K E0 = true)
    (v_0 : PySem.W.typeIn K (.ref E0) = some (.type "type"))
    (u_1 : PySem.W.isClsIn K E1 = true)
    (v_1 : PySem.W.typeIn K (.ref E1) = some (.type "type"))
    (u_2 : PySem.W.isClsIn K E2 = true)
    (v_2 : PySem.W.typeIn K (.ref E2) = some (.type "type"))
    (u_3 : PySem.W.isClsIn K E3 = true)
    (v_3 : PySem.W.typeIn K (.ref E3) = some (.type "type"))
    (u_4 : PySem.W.isClsIn K E4 = true)
    (v_4 : PySem.W.typeIn K (.ref E4) = some (.type "type"))
    (u_5 : PySem.W.isClsIn K E5 = true)
    (v_5 : PySem.W.typeIn K (.ref E5) = some (.type "type"))
    (u_6 : PySem.W.isClsIn K E6 = true)
    (v_6 : PySem.W.typeIn K (.ref E6) = some (.type "type"))
    (u_7 : PySem.W.isClsIn K E7 = true)
    (v_7 : PySem.W.typeIn K (.ref E7) = some (.type "type"))
    (u_8 : PySem.W.isClsIn K E8 = true)
    (v_8 : PySem.W.typeIn K (.ref E8) = some (.type "type"))
    (u_9 : PySem.W.isClsIn K E9 = true)
    (v_9 : PySem.W.typeIn K (.ref E9) = some (.type "type"))
    (u_10 : PySem.W.isClsIn K E10 = true)
    (v_10 : PySem.W.typeIn K (.ref E10) = some (.type "type"))
    (u_11 : PySem.W.isClsIn K E11 = true)
    (v_11 : PySem.W.typeIn K (.ref E11) = some (.type "type"))
    (u_12 : PySem.W.isClsIn K E12 = true)
    (v_12 : PySem.W.typeIn K (.ref E12) = some (.type "type"))
    (u_13 : PySem.W.isClsIn K E13 = true)
    (v_13 : PySem.W.typeIn K (.ref E13) = some (.type "type"))
    (u_14 : PySem.W.isClsIn K E14 = true)
    (v_14 : PySem.W.typeIn K (.ref E14) = some (.type "type"))
    (u_15 : PySem.W.isClsIn K E15 = true)
    (v_15 : PySem.W.typeIn K (.ref E15) = some (.type "type"))
    (u_16 : PySem.W.isClsIn K E16 = true)
    (v_16 : PySem.W.typeIn K (.ref E16) = some (.type "type"))
    (r0_cl : PySem.W.isClsIn K E0 = true)
    (r0_ga : PySem.W.findIn K (.ref E0) "__getattribute__" = some (some (.builtin "BaseException.__getattribute__")))
    (r0_gt : PySem.W.findIn K (.ref E0) "__getattr__" = some none)
    (r0_be : PySem.W.subIn K (.ref E0) (.type "BaseException") = some true)
    (r0_kc : PySem.W.findIn K (.ref E0) "__class__" = some (some (.builtin "object.__class__")))
    (r0_ob : PySem.W.mroIn K E0 (.type "object") = some true)
    (r0_hd : PySem.W.hasDictIn K E0 = true)
    (r0_sC : PySem.W.subIn K (.ref E0) (.ref CE) = some true)
    (r0_ve : PySem.W.subIn K (.ref E0) (.type "ValueError") = some true)
    (r0_k0 : PySem.W.subIn K (.ref E0) (.ref E0) = some true)
    (r0_k1 : PySem.W.subIn K (.ref E0) (.ref E1) = some false)
    (r0_k2 : PySem.W.subIn K (.ref E0) (.ref E2) = some false)
    (r0_k3 : PySem.W.subIn K (.ref E0) (.ref E3) = some false)
    (r0_k4 : PySem.W.subIn K (.ref E0) (.ref E4) = some false)
    (r0_k5 : PySem.W.subIn K (.ref E0) (.ref E5) = some false)
    (r0_k6 : PySem.W.subIn K (.ref E0) (.ref E6) = some false)
    (r0_k7 : PySem.W.subIn K (.ref E0) (.ref E7) = some false)
    (r0_k8 : PySem.W.subIn K (.ref E0) (.ref E8) = some false)
    (r0_k9 : PySem.W.subIn K (.ref E0) (.ref E9) = some false)
    (r0_k10 : PySem.W.subIn K (.ref E0) (.ref E10) = some false)
    (r0_k11 : PySem.W.subIn K (.ref E0) (.ref E11) = some false)
    (r0_k12 : PySem.W.subIn K (.ref E0) (.ref E12) = some false)
    (r0_k13 : PySem.W.subIn K (.ref E0) (.ref E13) = some false)
    (r0_k14 : PySem.W.subIn K (.ref E0) (.ref E14) = some false)
    (r0_k15 : PySem.W.subIn K (.ref E0) (.ref E15) = some false)
    (r0_k16 : PySem.W.subIn K (.ref E0) (.ref E16) = some false)
    (r0_n_index : PySem.W.findIn K (.ref E0) "index" = some none)
    (r0_n_part : PySem.W.findIn K (.ref E0) "part" = some none)
    (r0_n_word : PySem.W.findIn K (.ref E0) "word" = some none)
    (r0_n_fact : PySem.W.findIn K (.ref E0) "fact" = some none)
    (r1_cl : PySem.W.isClsIn K E1 = true)
    (r1_ga : PySem.W.findIn K (.ref E1) "__getattribute__" = some (some (.builtin "BaseException.__getattribute__")))
    (r1_gt : PySem.W.findIn K (.ref E1) "__getattr__" = some none)
    (r1_be : PySem.W.subIn K (.ref E1) (.type "BaseException") = some true)
    (r1_kc : PySem.W.findIn K (.ref E1) "__class__" = some (some (.builtin "object.__class__")))
    (r1_ob : PySem.W.mroIn K E1 (.type "object") = some true)
    (r1_hd : PySem.W.hasDictIn K E1 = true)
    (r1_sC : PySem.W.subIn K (.ref E1) (.ref CE) = some true)
    (r1_ve : PySem.W.subIn K (.ref E1) (.type "ValueError") = some true)
    (r1_k0 : PySem.W.subIn K (.ref E1) (.ref E0) = some false)
    (r1_k1 : PySem.W.subIn K (.ref E1) (.ref E1) = some true)
    (r1_k2 : PySem.W.subIn K (.ref E1) (.ref E2) = some false)
    (r1_k3 : PySem.W.subIn K (.ref E1) (.ref E3) = some false)
    (r1_k4 : PySem.W.subIn K (.ref E1) (.ref E4) = some false)
    (r1_k5 : PySem.W.subIn K (.ref E1) (.ref E5) = some false)
    (r1_k6 : PySem.W.subIn K (.ref E1) (.ref E6) = some false)
    (r1_k7 : PySem.W.subIn K (.ref E1) (.ref E7) = some false)
    (r1_k8 : PySem.W.subIn K (.ref E1) (.ref E8) = some false)
    (r1_k9 : PySem.W.subIn K (.ref E1) (.ref E9) = some false)
    (r1_k10 : PySem.W.subIn K (.ref E1) (.ref E10) = some false)
    (r1_k11 : PySem.W.subIn K (.ref E1) (.ref E11) = some false)
    (r1_k12 : PySem.W.subIn K (.ref E1) (.ref E12) = some false)
    (r1_k13 : PySem.W.subIn K (.ref E1) (.ref E13) = some false)
    (r1_k14 : PySem.W.subIn K (.ref E1) (.ref E14) = some false)
    (r1_k15 : PySem.W.subIn K (.ref E1) (.ref E15) = some false)
    (r1_k16 : PySem.W.subIn K (.ref E1) (.ref E16) = some false)
    (r1_n_index : PySem.W.findIn K (.ref E1) "index" = some none)
    (r1_n_part : PySem.W.findIn K (.ref E1) "part" = some none)
    (r1_n_word : PySem.W.findIn K (.ref E1) "word" = some none)
    (r1_n_fact : PySem.W.findIn K (.ref E1) "fact" = some none)
    (r2_cl : PySem.W.isClsIn K E2 = true)
    (r2_ga : PySem.W.findIn K (.ref E2) "__getattribute__" = some (some (.builtin "BaseException.__getattribute__")))
    (r2_gt : PySem.W.findIn K (.ref E2) "__getattr__" = some none)
    (r2_be : PySem.W.subIn K (.ref E2) (.type "BaseException") = some true)
    (r2_kc : PySem.W.findIn K (.ref E2) "__class__" = some (some (.builtin "object.__class__")))
    (r2_ob : PySem.W.mroIn K E2 (.type "object") = some true)
    (r2_hd : PySem.W.hasDictIn K E2 = true)
    (r2_sC : PySem.W.subIn K (.ref E2) (.ref CE) = some true)
    (r2_ve : PySem.W.subIn K (.ref E2) (.type "ValueError") = some true)
    (r2_k0 : PySem.W.subIn K (.ref E2) (.ref E0) = some false)
    (r2_k1 : PySem.W.subIn K (.ref E2) (.ref E1) = some false)
    (r2_k2 : PySem.W.subIn K (.ref E2) (.ref E2) = some true)
    (r2_k3 : PySem.W.subIn K (.ref E2) (.ref E3) = some false)
    (r2_k4 : PySem.W.subIn K (.ref E2) (.ref E4) = some false)
    (r2_k5 : PySem.W.subIn K (.ref E2) (.ref E5) = some false)
    (r2_k6 : PySem.W.subIn K (.ref E2) (.ref E6) = some false)
    (r2_k7 : PySem.W.subIn K (.ref E2) (.ref E7) = some false)
    (r2_k8 : PySem.W.subIn K (.ref E2) (.ref E8) = some false)
    (r2_k9 : PySem.W.subIn K (.ref E2) (.ref E9) = some false)
    (r2_k10 : PySem.W.subIn K (.ref E2) (.ref E10) = some false)
    (r2_k11 : PySem.W.subIn K (.ref E2) (.ref E11) = some false)
    (r2_k12 : PySem.W.subIn K (.ref E2) (.ref E12) = some false)
    (r2_k13 : PySem.W.subIn K (.ref E2) (.ref E13) = some false)
    (r2_k14 : PySem.W.subIn K (.ref E2) (.ref E14) = some false)
    (r2_k15 : PySem.W.subIn K (.ref E2) (.ref E15) = some false)
    (r2_k16 : PySem.W.subIn K (.ref E2) (.ref E16) = some false)
    (r2_n_index : PySem.W.findIn K (.ref E2) "index" = some none)
    (r2_n_part : PySem.W.findIn K (.ref E2) "part" = some none)
    (r2_n_word : PySem.W.findIn K (.ref E2) "word" = some none)
    (r2_n_fact : PySem.W.findIn K (.ref E2) "fact" = some none)
    (sg : PySem.W.specialIn K (.builtin "object.__class__") "__get__" = some (some (.builtin "getset_descriptor.__get__")))
    (tk : PySem.W.takesIn K (.builtin "object.__class__") = some true)
    (x_E : K.lookup CE = some (excClassObj nmE qE CE NE bsE bmE true snE suE abE colE ddE x0E x1E x2E x3E x5E "ValueError.__new__"))
    (f_E : PySem.W.findIn K (.ref CE) "__init__" = some (some (.builtin "ValueError.__init__")))
    (noS : PySem.W.nsIn K mainGlobals "super" = some none)
    (opq : PySem.W.nsIn K cStatics "thirdparty.any" = some none)
    (i0_x : K.lookup E0 = some (excClassObj nmi0 qi0 E0 Ni0 bsi0 bmi0 true sni0 sui0 abi0 coli0 ddi0 x0i0 x1i0 x2i0 x3i0 x5i0 "ValueError.__new__"))
    (i0_rv : HandSPX.refsVE bmi0 = true)
    (i0_sa : PySem.W.findIn K (.ref E0) "__setattr__" = some (some (.builtin "object.__setattr__")))
    (i0_ty : PySem.W.typeIn K (.ref E0) = some (.type "type"))
    (i0_kC : PySem.W.keepIn K (.ref E0) = true)
    (i0_in : PySem.W.findIn K (.ref E0) "__init__" = some (some (.ref fIi0)))
    (i0_tI : PySem.W.typeIn K (.ref fIi0) = some (.type "function"))
    (i0_lI : K.lookup fIi0 = some ⟨ocii0, odii0, .func (supFd (nf_InvalidFacts celi0 codi0) kVii0 dcii0 pmii0 anii0 ctii0), slii0⟩)
    (i0_cI : PySem.W.codeIn K (.ref codi0) "InvalidFacts.__init__" = true)
    (i0_ce : K.lookup celi0 = some ⟨clci0, ccddi0, .cell (some (.ref E0)), csli0⟩)
    (i0_co : K.lookup codi0 = some ⟨ccli0, cddi0, .fields vsi0, ccsi0⟩)
    (i0_fi : vsi0[2]? = some (.str fili0 tfii0))
    (i0_fe : ((P.main.file : Str) == fili0) = true)
    (i0_sb : PySem.W.mroIn K E0 (.ref E0) = some true)
    (i0_bm : bmi0 = .ref CE :: bmE)
    (i0_vB : PySem.W.subIn K (.ref E0) (.type "ValueError") = some true)
    (i0_bE : PySem.W.subIn K (.ref E0) (.type "BaseException") = some true)
    (i0_f_index : PySem.W.findIn K (.ref E0) "index" = some none)
    (i1_x : K.lookup E1 = some (excClassObj nmi1 qi1 E1 Ni1 bsi1 bmi1 true sni1 sui1 abi1 coli1 ddi1 x0i1 x1i1 x2i1 x3i1 x5i1 "ValueError.__new__"))
    (i1_rv : HandSPX.refsVE bmi1 = true)
    (i1_sa : PySem.W.findIn K (.ref E1) "__setattr__" = some (some (.builtin "object.__setattr__")))
    (i1_ty : PySem.W.typeIn K (.ref E1) = some (.type "type"))
    (i1_kC : PySem.W.keepIn K (.ref E1) = true)
    (i1_in : PySem.W.findIn K (.ref E1) "__init__" = some (some (.ref fIi1)))
    (i1_tI : PySem.W.typeIn K (.ref fIi1) = some (.type "function"))
    (i1_lI : K.lookup fIi1 = some ⟨ocii1, odii1, .func (supFd (nf_InvalidCase celi1 codi1) kVii1 dcii1 pmii1 anii1 ctii1), slii1⟩)
    (i1_cI : PySem.W.codeIn K (.ref codi1) "InvalidCase.__init__" = true)
    (i1_ce : K.lookup celi1 = some ⟨clci1, ccddi1, .cell (some (.ref E1)), csli1⟩)
    (i1_co : K.lookup codi1 = some ⟨ccli1, cddi1, .fields vsi1, ccsi1⟩)
    (i1_fi : vsi1[2]? = some (.str fili1 tfii1))
    (i1_fe : ((P.main.file : Str) == fili1) = true)
    (i1_sb : PySem.W.mroIn K E1 (.ref E1) = some true)
    (i1_bm : bmi1 = .ref CE :: bmE)
    (i1_vB : PySem.W.subIn K (.ref E1) (.type "ValueError") = some true)
    (i1_bE : PySem.W.subIn K (.ref E1) (.type "BaseException") = some true)
    (i1_f_index : PySem.W.findIn K (.ref E1) "index" = some none)
    (p2_q : PySem.W.excIn K E2 [.type "ValueError", .type "Exception", .type "BaseException", .type "object"] "ValueError.__new__" = true)
    (p2_k : PySem.W.keepIn K (.ref E2) = true)
    (p2_b : PySem.W.subIn K (.ref E2) (.type "BaseException") = some true)
    (p2_t : PySem.W.typeIn K (.ref E2) = some (.type "type"))
    (tbl : K.lookup cc_law = some ocl)
    (tb0 : PySem.W.codeHdIn [(cc_law, ocl)] cc_law 389 = true)
    (tb1 : h.get? 389 = some ⟨.none, none, .fields #[], #[]⟩)
    (tb2 : K.lookup 389 = none)
    (top0 : (P.main.scope.names.lookup ("super" : Str)).isSome = false) : LamX.LawAtS l w K CX0 7 63 "_law_script" mg fa h := by
  have e := hfa.symm.trans (PySem.W.mg_of X G a_law)
  cases e
  subst eP
  have B : Blt mg := ⟨PySem.W.mg_none_of X G b_isinstance, PySem.W.mg_none_of X G b_len, PySem.W.mg_none_of X G b_all, PySem.W.mg_none_of X G b_any, PySem.W.mg_none_of X G b_sum, PySem.W.mg_none_of X G b_max, PySem.W.mg_none_of X G b_min, PySem.W.mg_none_of X G b_int, PySem.W.mg_none_of X G b_str, PySem.W.mg_none_of X G b_bool, PySem.W.mg_none_of X G b_list, PySem.W.mg_none_of X G b_tuple, PySem.W.mg_none_of X G b_dict, PySem.W.mg_none_of X G b_range, PySem.W.mg_none_of X G b_enumerate, PySem.W.mg_none_of X G b_sorted, PySem.W.mg_none_of X G b_reversed, PySem.W.mg_none_of X G b_zip, PySem.W.mg_none_of X G b_set, PySem.W.mg_none_of X G b_ValueError⟩
  have GE : GErr mg (fun i => [E0, E1, E2, E3, E4, E5, E6, E7, E8, E9, E10, E11, E12, E13, E14, E15, E16].getD i E0) CE := ⟨PySem.W.mg_of X G m_CourtError, PySem.W.mg_of X G m_InvalidFacts, PySem.W.mg_of X G m_InvalidCase, PySem.W.mg_of X G m_InvalidNumber, PySem.W.mg_of X G m_InvalidCondition, PySem.W.mg_of X G m_NeverMet, PySem.W.mg_of X G m_InvalidRule, PySem.W.mg_of X G m_InvalidBook, PySem.W.mg_of X G m_UnknownRule, PySem.W.mg_of X G m_InvalidRuling, PySem.W.mg_of X G m_UnknownFact, PySem.W.mg_of X G m_NoReason, PySem.W.mg_of X G m_TooMany, PySem.W.mg_of X G m_InvalidChance, PySem.W.mg_of X G m_OtherFacts, PySem.W.mg_of X G m_NoNeighbor, PySem.W.mg_of X G m_NoFacts, PySem.W.mg_of X G m_AlreadyKnown⟩
  have F_is_name := fun_mk (st := s_is_name) l_is_name c_is_name k_is_name
  have b_is_name := F_is_name.binds (ps := ["value"]) fun _ _ _ _ _ _ us hl => match us, hl with | [_], _ => rfl
  have F_is_integer := fun_mk (st := s_is_integer) l_is_integer c_is_integer k_is_integer
  have b_is_integer := F_is_integer.binds (ps := ["value"]) fun _ _ _ _ _ _ us hl => match us, hl with | [_], _ => rfl
  have F_rises := fun_mk (st := s_rises) l_rises c_rises k_rises
  have b_rises := F_rises.binds (ps := ["names", "index"]) fun _ _ _ _ _ _ us hl => match us, hl with | [_, _], _ => rfl
  have F_check_facts := fun_mk (st := s_check_facts) l_check_facts c_check_facts k_check_facts
  have b_check_facts := F_check_facts.binds (ps := ["facts"]) fun _ _ _ _ _ _ us hl => match us, hl with | [_], _ => rfl
  have F_check_case := fun_mk (st := s_check_case) l_check_case c_check_case k_check_case
  have b_check_case := F_check_case.binds (ps := ["facts", "case"]) fun _ _ _ _ _ _ us hl => match us, hl with | [_, _], _ => rfl
  have F_bits_of := fun_mk (st := s_bits_of) l_bits_of c_bits_of k_bits_of
  have b_bits_of := F_bits_of.binds (ps := ["facts", "names"]) fun _ _ _ _ _ _ us hl => match us, hl with | [_, _], _ => rfl
  have F_names_of := fun_mk (st := s_names_of) l_names_of c_names_of k_names_of
  have b_names_of := F_names_of.binds (ps := ["facts", "bits"]) fun _ _ _ _ _ _ us hl => match us, hl with | [_, _], _ => rfl
  have F_case_number := fun_mk (st := s_case_number) l_case_number c_case_number k_case_number
  have b_case_number := F_case_number.binds (ps := ["facts", "case"]) fun _ _ _ _ _ _ us hl => match us, hl with | [_, _], _ => rfl
  have F_case_of := fun_mk (st := s_case_of) l_case_of c_case_of k_case_of
  have b_case_of := F_case_of.binds (ps := ["facts", "number"]) fun _ _ _ _ _ _ us hl => match us, hl with | [_, _], _ => rfl
  have F__law_mix := fun_mk (st := s__law_mix) l__law_mix c__law_mix k__law_mix
  have b__law_mix := F__law_mix.binds (ps := ["_law_script", "_law_seed"]) fun _ _ _ _ _ _ us hl => match us, hl with | [_, _], _ => rfl
  have F__law_next := fun_mk (st := s__law_next) l__law_next c__law_next k__law_next
  have b__law_next := F__law_next.binds (ps := ["_law_h", "_law_limit"]) fun _ _ _ _ _ _ us hl => match us, hl with | [_, _], _ => rfl
  have F__law_alike := fun_mk (st := s__law_alike) l__law_alike c__law_alike k__law_alike
  have b__law_alike := F__law_alike.binds (ps := ["_law_found", "_law_due"]) fun _ _ _ _ _ _ us hl => match us, hl with | [_, _], _ => rfl
  have F__law_error := fun_mk (st := s__law_error) l__law_error c__law_error k__law_error
  have b__law_error := F__law_error.binds (ps := ["_law_call"]) fun _ _ _ _ _ _ us hl => match us, hl with | [_], _ => rfl
  have F__law_facts := fun_mk (st := s__law_facts) l__law_facts c__law_facts k__law_facts
  have b__law_facts := F__law_facts.binds (ps := ["_law_h", "_law_count"]) fun _ _ _ _ _ _ us hl => match us, hl with | [_, _], _ => rfl
  have F__law_bad := fun_mk (st := s__law_bad) l__law_bad c__law_bad k__law_bad
  have b__law_bad := F__law_bad.binds (ps := ["_law_facts_here"]) fun _ _ _ _ _ _ us hl => match us, hl with | [_], _ => rfl
  have F__law_bent := fun_mk (st := s__law_bent) l__law_bent c__law_bent k__law_bent
  have b__law_bent := F__law_bent.binds (ps := ["_law_h", "_law_some"]) fun _ _ _ _ _ _ us hl => match us, hl with | [_, _], _ => rfl
  have ec_InvalidFacts : ErrC K E0 := ⟨r0_cl, r0_ga, r0_gt, r0_be, r0_kc, sg, tk, r0_ob, r0_hd⟩
  have er_InvalidFacts : ErrRow K (fun i => [E0, E1, E2, E3, E4, E5, E6, E7, E8, E9, E10, E11, E12, E13, E14, E15, E16].getD i E0) CE E0 0 := ⟨by decide, ec_InvalidFacts, exm_by CEbe CEcl CEty r0_sC, fun i hi => match i, hi with | 0, _ => kit_by r0_k0 u_0 v_0 r0_k0 | 1, _ => kit_by r0_k0 u_1 v_1 r0_k1 | 2, _ => kit_by r0_k0 u_2 v_2 r0_k2 | 3, _ => kit_by r0_k0 u_3 v_3 r0_k3 | 4, _ => kit_by r0_k0 u_4 v_4 r0_k4 | 5, _ => kit_by r0_k0 u_5 v_5 r0_k5 | 6, _ => kit_by r0_k0 u_6 v_6 r0_k6 | 7, _ => kit_by r0_k0 u_7 v_7 r0_k7 | 8, _ => kit_by r0_k0 u_8 v_8 r0_k8 | 9, _ => kit_by r0_k0 u_9 v_9 r0_k9 | 10, _ => kit_by r0_k0 u_10 v_10 r0_k10 | 11, _ => kit_by r0_k0 u_11 v_11 r0_k11 | 12, _ => kit_by r0_k0 u_12 v_12 r0_k12 | 13, _ => kit_by r0_k0 u_13 v_13 r0_k13 | 14, _ => kit_by r0_k0 u_14 v_14 r0_k14 | 15, _ => kit_by r0_k0 u_15 v_15 r0_k15 | 16, _ => kit_by r0_k0 u_16 v_16 r0_k16 | x + 17, h => absurd h (by omega), kit_ve r0_ve, four r0_n_index r0_n_part r0_n_word r0_n_fact⟩
  have ec_InvalidCase : ErrC K E1 := ⟨r1_cl, r1_ga, r1_gt, r1_be, r1_kc, sg, tk, r1_ob, r1_hd⟩
  have er_InvalidCase : ErrRow K (fun i => [E0, E1, E2, E3, E4, E5, E6, E7, E8, E9, E10, E11, E12, E13, E14, E15, E16].getD i E0) CE E1 1 := ⟨by decide, ec_InvalidCase, exm_by CEbe CEcl CEty r1_sC, fun i hi => match i, hi with | 0, _ => kit_by r1_k1 u_0 v_0 r1_k0 | 1, _ => kit_by r1_k1 u_1 v_1 r1_k1 | 2, _ => kit_by r1_k1 u_2 v_2 r1_k2 | 3, _ => kit_by r1_k1 u_3 v_3 r1_k3 | 4, _ => kit_by r1_k1 u_4 v_4 r1_k4 | 5, _ => kit_by r1_k1 u_5 v_5 r1_k5 | 6, _ => kit_by r1_k1 u_6 v_6 r1_k6 | 7, _ => kit_by r1_k1 u_7 v_7 r1_k7 | 8, _ => kit_by r1_k1 u_8 v_8 r1_k8 | 9, _ => kit_by r1_k1 u_9 v_9 r1_k9 | 10, _ => kit_by r1_k1 u_10 v_10 r1_k10 | 11, _ => kit_by r1_k1 u_11 v_11 r1_k11 | 12, _ => kit_by r1_k1 u_12 v_12 r1_k12 | 13, _ => kit_by r1_k1 u_13 v_13 r1_k13 | 14, _ => kit_by r1_k1 u_14 v_14 r1_k14 | 15, _ => kit_by r1_k1 u_15 v_15 r1_k15 | 16, _ => kit_by r1_k1 u_16 v_16 r1_k16 | x + 17, h => absurd h (by omega), kit_ve r1_ve, four r1_n_index r1_n_part r1_n_word r1_n_fact⟩
  have ec_InvalidNumber : ErrC K E2 := ⟨r2_cl, r2_ga, r2_gt, r2_be, r2_kc, sg, tk, r2_ob, r2_hd⟩
  have er_InvalidNumber : ErrRow K (fun i => [E0, E1, E2, E3, E4, E5, E6, E7, E8, E9, E10, E11, E12, E13, E14, E15, E16].getD i E0) CE E2 2 := ⟨by decide, ec_InvalidNumber, exm_by CEbe CEcl CEty r2_sC, fun i hi => match i, hi with | 0, _ => kit_by r2_k2 u_0 v_0 r2_k0 | 1, _ => kit_by r2_k2 u_1 v_1 r2_k1 | 2, _ => kit_by r2_k2 u_2 v_2 r2_k2 | 3, _ => kit_by r2_k2 u_3 v_3 r2_k3 | 4, _ => kit_by r2_k2 u_4 v_4 r2_k4 | 5, _ => kit_by r2_k2 u_5 v_5 r2_k5 | 6, _ => kit_by r2_k2 u_6 v_6 r2_k6 | 7, _ => kit_by r2_k2 u_7 v_7 r2_k7 | 8, _ => kit_by r2_k2 u_8 v_8 r2_k8 | 9, _ => kit_by r2_k2 u_9 v_9 r2_k9 | 10, _ => kit_by r2_k2 u_10 v_10 r2_k10 | 11, _ => kit_by r2_k2 u_11 v_11 r2_k11 | 12, _ => kit_by r2_k2 u_12 v_12 r2_k12 | 13, _ => kit_by r2_k2 u_13 v_13 r2_k13 | 14, _ => kit_by r2_k2 u_14 v_14 r2_k14 | 15, _ => kit_by r2_k2 u_15 v_15 r2_k15 | 16, _ => kit_by r2_k2 u_16 v_16 r2_k16 | x + 17, h => absurd h (by omega), kit_ve r2_ve, four r2_n_index r2_n_part r2_n_word r2_n_fact⟩
  have ox_InvalidFacts : OexC K E0 := ⟨⟨_, _, _, _, _, _, _, _, _, _, _, _, _, _, _, i0_x, i0_rv⟩, i0_sa, i0_bE, i0_ty, i0_kC⟩
  have sp_InvalidFacts : SupC l.prog K mg E0 celi0 codi0 := ⟨⟨_, _, _, i0_ce⟩, ⟨_, _, _, _, _, _, i0_co, i0_fi, i0_fe⟩, i0_sb, PySem.W.mg_none_of X G noS, opq, sup_by i0_x x_E i0_bm f_E, i0_vB, top0⟩
  have ox_InvalidCase : OexC K E1 := ⟨⟨_, _, _, _, _, _, _, _, _, _, _, _, _, _, _, i1_x, i1_rv⟩, i1_sa, i1_bE, i1_ty, i1_kC⟩
  have sp_InvalidCase : SupC l.prog K mg E1 celi1 codi1 := ⟨⟨_, _, _, i1_ce⟩, ⟨_, _, _, _, _, _, i1_co, i1_fi, i1_fe⟩, i1_sb, PySem.W.mg_none_of X G noS, opq, sup_by i1_x x_E i1_bm f_E, i1_vB, top0⟩
  have GN : GNames mg := ⟨⟨_, PySem.W.mg_of X G m_LETTERS⟩, ⟨_, PySem.W.mg_of X G m_LONGEST_NAME⟩⟩
  refine ⟨PySem.W.fnOf "law" "law" (defArgs s_law) (defBody s_law) (defScope s_law) .none kV_law dc_law pm_law an_law (.ref cc_law) ct_law, [(cc_law, 389)], sp_law K 389, fun p hp => by rw [List.mem_singleton.mp hp]; exact tb1, fun p hp => by rw [List.mem_singleton.mp hp]; exact tb2, fun p hp => by rw [List.mem_singleton.mp hp]; exact PySem.W.codeHd_of_K X (codeHd_by tbl tb0), ?_, ?_, ?_⟩
  · exact fun s u => .of_eq rfl
  · exact fun H a ns hl hb ht hS => ⟨a, ns, rfl, hS, hl, hb, ht _ (List.mem_singleton.mpr rfl), fun _ => rfl⟩
  · intro base KB NB TBs
    have e_InvalidFacts : ErrMk l.prog w K mg base "InvalidFacts" E0 ["self", "index"] (sp_init1 E0 "index") := ⟨_, _, ox_InvalidFacts, i0_in, i0_tI, ok_init_InvalidFacts i0_lI i0_cI ox_InvalidFacts sp_InvalidFacts i0_f_index, fun s us _ hl => match us, hl with | [_, _], _ => .of_eq rfl, PySem.W.mg_of X G m_InvalidFacts⟩
    have e_InvalidCase : ErrMk l.prog w K mg base "InvalidCase" E1 ["self", "index"] (sp_init1 E1 "index") := ⟨_, _, ox_InvalidCase, i1_in, i1_tI, ok_init_InvalidCase i1_lI i1_cI ox_InvalidCase sp_InvalidCase i1_f_index, fun s us _ hl => match us, hl with | [_, _], _ => .of_eq rfl, PySem.W.mg_of X G m_InvalidCase⟩
    have e_InvalidNumber : ErrMk0 K mg "InvalidNumber" E2 := ⟨p2_q, PySem.W.mg_of X G m_InvalidNumber, p2_k, p2_b, p2_t⟩
    have c_is_name : Cal l.prog w K mg base CX0 1 "is_name" ["value"] (sp_is_name) := ⟨_, _, (ok_is_name F_is_name B GN), PySem.W.mg_of X G a_is_name, k_is_name, b_is_name⟩
    have c_is_integer : Cal l.prog w K mg base CX0 1 "is_integer" ["value"] (sp_is_integer K) := ⟨_, _, (ok_is_integer F_is_integer B), PySem.W.mg_of X G a_is_integer, k_is_integer, b_is_integer⟩
    have c_rises : Cal l.prog w K mg base CX0 1 "rises" ["names", "index"] (sp_rises K) := ⟨_, _, (ok_rises F_rises ), PySem.W.mg_of X G a_rises, k_rises, b_rises⟩
    have c_check_facts : Cal l.prog w K mg base (L2.CX l.prog w) 3 "check_facts" ["facts"] (sp_check_facts K E0) := ⟨_, _, (ok_check_facts F_check_facts B ⟨_, PySem.W.mg_of X G m_MOST_FACTS⟩ e_InvalidFacts c_is_name c_rises), PySem.W.mg_of X G a_check_facts, k_check_facts, b_check_facts⟩
    have c_check_case : Cal l.prog w K mg base (L2.CX l.prog w) 3 "check_case" ["facts", "case"] (sp_check_case K E1) := ⟨_, _, (ok_check_case F_check_case B e_InvalidCase c_rises), PySem.W.mg_of X G a_check_case, k_check_case, b_check_case⟩
    have c_bits_of : Cal l.prog w K mg base CX0 1 "bits_of" ["facts", "names"] (sp_bits_of K) := ⟨_, _, (ok_bits_of F_bits_of B), PySem.W.mg_of X G a_bits_of, k_bits_of, b_bits_of⟩
    have c_names_of : Cal l.prog w K mg base CX0 1 "names_of" ["facts", "bits"] (sp_names_of K) := ⟨_, _, (ok_names_of F_names_of B), PySem.W.mg_of X G a_names_of, k_names_of, b_names_of⟩
    have c_case_number : Cal l.prog w K mg base (L2.CX l.prog w) 4 "case_number" ["facts", "case"] (sp_case_number K E0 E1) := ⟨_, _, (ok_case_number F_case_number c_check_facts c_check_case c_bits_of), PySem.W.mg_of X G a_case_number, k_case_number, b_case_number⟩
    have c_case_of : Cal l.prog w K mg base (L2.CX l.prog w) 4 "case_of" ["facts", "number"] (sp_case_of K E0 E2) := ⟨_, _, (ok_case_of F_case_of B e_InvalidNumber c_check_facts c_is_integer c_names_of), PySem.W.mg_of X G a_case_of, k_case_of, b_case_of⟩
    have c__law_mix : Cal l.prog w K mg base CX0 1 "_law_mix" ["_law_script", "_law_seed"] (sp_mix K) := ⟨_, _, (ok_mix F__law_mix B), PySem.W.mg_of X G a__law_mix, k__law_mix, b__law_mix⟩
    have c__law_next : Cal l.prog w K mg base CX0 1 "_law_next" ["_law_h", "_law_limit"] (sp_next) := ⟨_, _, (ok_next F__law_next B), PySem.W.mg_of X G a__law_next, k__law_next, b__law_next⟩
    have c__law_facts : Cal l.prog w K mg base CX0 2 "_law_facts" ["_law_h", "_law_count"] (sp_facts) := ⟨_, _, (ok_facts F__law_facts B c__law_next), PySem.W.mg_of X G a__law_facts, k__law_facts, b__law_facts⟩
    have c__law_bad : Cal l.prog w K mg base CX0 1 "_law_bad" ["_law_facts_here"] (sp_bad K) := ⟨_, _, (ok_bad F__law_bad B), PySem.W.mg_of X G a__law_bad, k__law_bad, b__law_bad⟩
    have c__law_bent : Cal l.prog w K mg base CX0 2 "_law_bent" ["_law_h", "_law_some"] (sp_bent K) := ⟨_, _, (ok_bent F__law_bent B c__law_next), PySem.W.mg_of X G a__law_bent, k__law_bent, b__law_bent⟩
    have c0 : Cal l.prog w K mg base CX0 1 "_law_alike" ["_law_found", "_law_due"] (sp_alike 0) := ⟨_, _, (ok_alike0 F__law_alike B), PySem.W.mg_of X G a__law_alike, k__law_alike, b__law_alike⟩
    have c1 : Cal l.prog w K mg base CX0 2 "_law_alike" ["_law_found", "_law_due"] (sp_alike 1) := ⟨_, _, (ok_alike F__law_alike B c0), PySem.W.mg_of X G a__law_alike, k__law_alike, b__law_alike⟩
    have c2 : Cal l.prog w K mg base CX0 3 "_law_alike" ["_law_found", "_law_due"] (sp_alike 2) := ⟨_, _, (ok_alike F__law_alike B c1), PySem.W.mg_of X G a__law_alike, k__law_alike, b__law_alike⟩
    exact ok_law ⟨⟨_, _, _, _, _, _, _, _, rfl, l_law, c_law⟩, k_law⟩ B GE F__law_error (PySem.W.mg_of X G a__law_error) b__law_error (TBs _ (List.mem_singleton.mpr rfl)) er_InvalidFacts er_InvalidCase er_InvalidNumber c__law_mix c__law_next c__law_facts c__law_bent c__law_bad c2 c_case_number c_case_of
end Sc
open PySem PySem.W PyProof.Rows
set_option maxRecDepth 100000 in
set_option maxHeartbeats 0 in
theorem PySem.Challenge.cw_smallcourt_k01_facts_and_cases_holds : PySem.Challenge.rw_smallcourt_k01_facts_and_cases.Holds := by
  w_on; o_law; k_head; (case hw => w_witness2)
  k_fill
  refine LamX.walk_ofTs (l := PySem.Challenge.rw_smallcourt_k01_facts_and_cases) (n := 63) (k := 7) (CX := fun _ => L2.CX0) (x := "_law_script") rfl (by decide) rfl ⟨rfl, by decide, by decide⟩ (fun w h Y => Y.1) ?F (fun _ _ _ _ _ z => z)
  case F =>
    intro w mg fa h Y KX G hmg
    refine' Sc.all_mk rfl KX G hmg ?a_is_name ?l_is_name ?c_is_name ?k_is_name ?a_is_integer ?l_is_integer ?c_is_integer ?k_is_integer ?a_rises ?l_rises ?c_rises ?k_rises ?a_check_facts ?l_check_facts ?c_check_facts ?k_check_facts ?a_check_case ?l_check_case ?c_check_case ?k_check_case ?a_bits_of ?l_bits_of ?c_bits_of ?k_bits_of ?a_names_of ?l_names_of ?c_names_of ?k_names_of ?a_case_number ?l_case_number ?c_case_number ?k_case_number ?a_case_of ?l_case_of ?c_case_of ?k_case_of ?a__law_mix ?l__law_mix ?c__law_mix ?k__law_mix ?a__law_next ?l__law_next ?c__law_next ?k__law_next ?a__law_alike ?l__law_alike ?c__law_alike ?k__law_alike ?a__law_error ?l__law_error ?c__law_error ?k__law_error ?a__law_facts ?l__law_facts ?c__law_facts ?k__law_facts ?a__law_bad ?l__law_bad ?c__law_bad ?k__law_bad ?a__law_bent ?l__law_bent ?c__law_bent ?k__law_bent ?a_law ?l_law ?c_law ?k_law ?b_isinstance ?b_len ?b_all ?b_any ?b_sum ?b_max ?b_min ?b_int ?b_str ?b_bool ?b_list ?b_tuple ?b_dict ?b_range ?b_enumerate ?b_sorted ?b_reversed ?b_zip ?b_set ?b_ValueError ?m_LETTERS ?m_LONGEST_NAME ?m_MOST_FACTS ?m_CourtError ?m_InvalidFacts ?m_InvalidCase ?m_InvalidNumber ?m_InvalidCondition ?m_NeverMet ?m_InvalidRule ?m_InvalidBook ?m_UnknownRule ?m_InvalidRuling ?m_UnknownFact ?m_NoReason ?m_TooMany ?m_InvalidChance ?m_OtherFacts ?m_NoNeighbor ?m_NoFacts ?m_AlreadyKnown ?CEbe ?CEcl ?CEty ?u_0 ?v_0 ?u_1 ?v_1 ?u_2 ?v_2 ?u_3 ?v_3 ?u_4 ?v_4 ?u_5 ?v_5 ?u_6 ?v_6 ?u_7 ?v_7 ?u_8 ?v_8 ?u_9 ?v_9 ?u_10 ?v_10 ?u_11 ?v_11 ?u_12 ?v_12 ?u_13 ?v_13 ?u_14 ?v_14 ?u_15 ?v_15 ?u_16 ?v_16 ?r0_cl ?r0_ga ?r0_gt ?r0_be ?r0_kc ?r0_ob ?r0_hd ?r0_sC ?r0_ve ?r0_k0 ?r0_k1 ?r0_k2 ?r0_k3 ?r0_k4 ?r0_k5 ?r0_k6 ?r0_k7 ?r0_k8 ?r0_k9 ?r0_k10 ?r0_k11 ?r0_k12 ?r0_k13 ?r0_k14 ?r0_k15 ?r0_k16 ?r0_n_index ?r0_n_part ?r0_n_word ?r0_n_fact ?r1_cl ?r1_ga ?r1_gt ?r1_be ?r1_kc ?r1_ob ?r1_hd ?r1_sC ?r1_ve ?r1_k0 ?r1_k1 ?r1_k2 ?r1_k3 ?r1_k4 ?r1_k5 ?r1_k6 ?r1_k7 ?r1_k8 ?r1_k9 ?r1_k10 ?r1_k11 ?r1_k12 ?r1_k13 ?r1_k14 ?r1_k15 ?r1_k16 ?r1_n_index ?r1_n_part ?r1_n_word ?r1_n_fact ?r2_cl ?r2_ga ?r2_gt ?r2_be ?r2_kc ?r2_ob ?r2_hd ?r2_sC ?r2_ve ?r2_k0 ?r2_k1 ?r2_k2 ?r2_k3 ?r2_k4 ?r2_k5 ?r2_k6 ?r2_k7 ?r2_k8 ?r2_k9 ?r2_k10 ?r2_k11 ?r2_k12 ?r2_k13 ?r2_k14 ?r2_k15 ?r2_k16 ?r2_n_index ?r2_n_part ?r2_n_word ?r2_n_fact ?sg ?tk ?x_E ?f_E ?noS ?opq ?i0_x ?i0_rv ?i0_sa ?i0_ty ?i0_kC ?i0_in ?i0_tI ?i0_lI ?i0_cI ?i0_ce ?i0_co ?i0_fi ?i0_fe ?i0_sb ?i0_bm ?i0_vB ?i0_bE ?i0_f_index ?i1_x ?i1_rv ?i1_sa ?i1_ty ?i1_kC ?i1_in ?i1_tI ?i1_lI ?i1_cI ?i1_ce ?i1_co ?i1_fi ?i1_fe ?i1_sb ?i1_bm ?i1_vB ?i1_bE ?i1_f_index ?p2_q ?p2_k ?p2_b ?p2_t ?tbl ?tb0 ?tb1 ?tb2 ?top0
    (case a_is_name => k_is)
    (case l_is_name => k_is)
    (case c_is_name => k_is)
    (case k_is_name => k_is)
    (case a_is_integer => k_is)
    (case l_is_integer => k_is)
    (case c_is_integer => k_is)
    (case k_is_integer => k_is)
    (case a_rises => k_is)
    (case l_rises => k_is)
    (case c_rises => k_is)
    (case k_rises => k_is)
    (case a_check_facts => k_is)
    (case l_check_facts => k_is)
    (case c_check_facts => k_is)
    (case k_check_facts => k_is)
    (case a_check_case => k_is)
    (case l_check_case => k_is)
    (case c_check_case => k_is)
    (case k_check_case => k_is)
    (case a_bits_of => k_is)
    (case l_bits_of => k_is)
    (case c_bits_of => k_is)
    (case k_bits_of => k_is)
    (case a_names_of => k_is)
    (case l_names_of => k_is)
    (case c_names_of => k_is)
    (case k_names_of => k_is)
    (case a_case_number => k_is)
    (case l_case_number => k_is)
    (case c_case_number => k_is)
    (case k_case_number => k_is)
    (case a_case_of => k_is)
    (case l_case_of => k_is)
    (case c_case_of => k_is)
    (case k_case_of => k_is)
    (case a__law_mix => k_is)
    (case l__law_mix => k_is)
    (case c__law_mix => k_is)
    (case k__law_mix => k_is)
    (case a__law_next => k_is)
    (case l__law_next => k_is)
    (case c__law_next => k_is)
    (case k__law_next => k_is)
    (case a__law_alike => k_is)
    (case l__law_alike => k_is)
    (case c__law_alike => k_is)
    (case k__law_alike => k_is)
    (case a__law_error => k_is)
    (case l__law_error => k_is)
    (case c__law_error => k_is)
    (case k__law_error => k_is)
    (case a__law_facts => k_is)
    (case l__law_facts => k_is)
    (case c__law_facts => k_is)
    (case k__law_facts => k_is)
    (case a__law_bad => k_is)
    (case l__law_bad => k_is)
    (case c__law_bad => k_is)
    (case k__law_bad => k_is)
    (case a__law_bent => k_is)
    (case l__law_bent => k_is)
    (case c__law_bent => k_is)
    (case k__law_bent => k_is)
    (case a_law => k_is)
    (case l_law => k_is)
    (case c_law => k_is)
    (case k_law => k_is)
    (case b_isinstance => k_is)
    (case b_len => k_is)
    (case b_all => k_is)
    (case b_any => k_is)
    (case b_sum => k_is)
    (case b_max => k_is)
    (case b_min => k_is)
    (case b_int => k_is)
    (case b_str => k_is)
    (case b_bool => k_is)
    (case b_list => k_is)
    (case b_tuple => k_is)
    (case b_dict => k_is)
    (case b_range => k_is)
    (case b_enumerate => k_is)
    (case b_sorted => k_is)
    (case b_reversed => k_is)
    (case b_zip => k_is)
    (case b_set => k_is)
    (case b_ValueError => k_is)
    (case m_LETTERS => k_is)
    (case m_LONGEST_NAME => k_is)
    (case m_MOST_FACTS => k_is)
    (case m_CourtError => k_is)
    (case m_InvalidFacts => k_is)
    (case m_InvalidCase => k_is)
    (case m_InvalidNumber => k_is)
    (case m_InvalidCondition => k_is)
    (case m_NeverMet => k_is)
    (case m_InvalidRule => k_is)
    (case m_InvalidBook => k_is)
    (case m_UnknownRule => k_is)
    (case m_InvalidRuling => k_is)
    (case m_UnknownFact => k_is)
    (case m_NoReason => k_is)
    (case m_TooMany => k_is)
    (case m_InvalidChance => k_is)
    (case m_OtherFacts => k_is)
    (case m_NoNeighbor => k_is)
    (case m_NoFacts => k_is)
    (case m_AlreadyKnown => k_is)
    (case CEbe => k_is)
    (case CEcl => k_is)
    (case CEty => k_is)
    (case u_0 => k_is)
    (case v_0 => k_is)
    (case u_1 => k_is)
    (case v_1 => k_is)
    (case u_2 => k_is)
    (case v_2 => k_is)
    (case u_3 => k_is)
    (case v_3 => k_is)
    (case u_4 => k_is)
    (case v_4 => k_is)
    (case u_5 => k_is)
    (case v_5 => k_is)
    (case u_6 => k_is)
    (case v_6 => k_is)
    (case u_7 => k_is)
    (case v_7 => k_is)
    (case u_8 => k_is)
    (case v_8 => k_is)
    (case u_9 => k_is)
    (case v_9 => k_is)
    (case u_10 => k_is)
    (case v_10 => k_is)
    (case u_11 => k_is)
    (case v_11 => k_is)
    (case u_12 => k_is)
    (case v_12 => k_is)
    (case u_13 => k_is)
    (case v_13 => k_is)
    (case u_14 => k_is)
    (case v_14 => k_is)
    (case u_15 => k_is)
    (case v_15 => k_is)
    (case u_16 => k_is)
    (case v_16 => k_is)
    (case r0_cl => k_is)
    (case r0_ga => k_is)
    (case r0_gt => k_is)
    (case r0_be => k_is)
    (case r0_kc => k_is)
    (case r0_ob => k_is)
    (case r0_hd => k_is)
    (case r0_sC => k_is)
    (case r0_ve => k_is)
    (case r0_k0 => k_is)
    (case r0_k1 => k_is)
    (case r0_k2 => k_is)
    (case r0_k3 => k_is)
    (case r0_k4 => k_is)
    (case r0_k5 => k_is)
    (case r0_k6 => k_is)
    (case r0_k7 => k_is)
    (case r0_k8 => k_is)
    (case r0_k9 => k_is)
    (case r0_k10 => k_is)
    (case r0_k11 => k_is)
    (case r0_k12 => k_is)
    (case r0_k13 => k_is)
    (case r0_k14 => k_is)
    (case r0_k15 => k_is)
    (case r0_k16 => k_is)
    (case r0_n_index => k_is)
    (case r0_n_part => k_is)
    (case r0_n_word => k_is)
    (case r0_n_fact => k_is)
    (case r1_cl => k_is)
    (case r1_ga => k_is)
    (case r1_gt => k_is)
    (case r1_be => k_is)
    (case r1_kc => k_is)
    (case r1_ob => k_is)
    (case r1_hd => k_is)
    (case r1_sC => k_is)
    (case r1_ve => k_is)
    (case r1_k0 => k_is)
    (case r1_k1 => k_is)
    (case r1_k2 => k_is)
    (case r1_k3 => k_is)
    (case r1_k4 => k_is)
    (case r1_k5 => k_is)
    (case r1_k6 => k_is)
    (case r1_k7 => k_is)
    (case r1_k8 => k_is)
    (case r1_k9 => k_is)
    (case r1_k10 => k_is)
    (case r1_k11 => k_is)
    (case r1_k12 => k_is)
    (case r1_k13 => k_is)
    (case r1_k14 => k_is)
    (case r1_k15 => k_is)
    (case r1_k16 => k_is)
    (case r1_n_index => k_is)
    (case r1_n_part => k_is)
    (case r1_n_word => k_is)
    (case r1_n_fact => k_is)
    (case r2_cl => k_is)
    (case r2_ga => k_is)
    (case r2_gt => k_is)
    (case r2_be => k_is)
    (case r2_kc => k_is)
    (case r2_ob => k_is)
    (case r2_hd => k_is)
    (case r2_sC => k_is)
    (case r2_ve => k_is)
    (case r2_k0 => k_is)
    (case r2_k1 => k_is)
    (case r2_k2 => k_is)
    (case r2_k3 => k_is)
    (case r2_k4 => k_is)
    (case r2_k5 => k_is)
    (case r2_k6 => k_is)
    (case r2_k7 => k_is)
    (case r2_k8 => k_is)
    (case r2_k9 => k_is)
    (case r2_k10 => k_is)
    (case r2_k11 => k_is)
    (case r2_k12 => k_is)
    (case r2_k13 => k_is)
    (case r2_k14 => k_is)
    (case r2_k15 => k_is)
    (case r2_k16 => k_is)
    (case r2_n_index => k_is)
    (case r2_n_part => k_is)
    (case r2_n_word => k_is)
    (case r2_n_fact => k_is)
    (case sg => k_is)
    (case tk => k_is)
    (case x_E => k_is)
    (case f_E => k_is)
    (case noS => k_is)
    (case opq => k_is)
    (case i0_x => k_is)
    (case i0_rv => decide +kernel)
    (case i0_sa => k_is)
    (case i0_ty => k_is)
    (case i0_kC => k_is)
    (case i0_in => k_is)
    (case i0_tI => k_is)
    (case i0_lI => k_is)
    (case i0_cI => k_is)
    (case i0_ce => k_is)
    (case i0_co => k_is)
    (case i0_fi => exact rfl)
    (case i0_fe => decide +kernel)
    (case i0_sb => k_is)
    (case i0_bm => exact rfl)
    (case i0_vB => k_is)
    (case i0_bE => k_is)
    (case i0_f_index => k_is)
    (case i1_x => k_is)
    (case i1_rv => decide +kernel)
    (case i1_sa => k_is)
    (case i1_ty => k_is)
    (case i1_kC => k_is)
    (case i1_in => k_is)
    (case i1_tI => k_is)
    (case i1_lI => k_is)
    (case i1_cI => k_is)
    (case i1_ce => k_is)
    (case i1_co => k_is)
    (case i1_fi => exact rfl)
    (case i1_fe => decide +kernel)
    (case i1_sb => k_is)
    (case i1_bm => exact rfl)
    (case i1_vB => k_is)
    (case i1_bE => k_is)
    (case i1_f_index => k_is)
    (case p2_q => k_exc)
    (case p2_k => k_is)
    (case p2_b => k_is)
    (case p2_t => k_is)
    (case tbl => k_is)
    (case tb0 => decide +kernel)
    (case tb1 => exact Y.2 _ (List.mem_singleton.mpr rfl))
    (case tb2 => exact Sc.lookup_no (by kernel_rfl))
    (case top0 => decide +kernel)
