import PyProof.Rows.All
import Wide.All
import OpenK.AllK
import Wide.FinOn
import KE.KExcSuper
import HandS.Nested
import HandS.ExcInit
import HandS.FStr
import KE.GoesMore
import HandS.Iter
import HandS.ForMost
import HandS.ForExc
import HandS.EndTab
import HandS.IsInst
import HandS.SetFor
import HandS.ExcIs
import HandS.ExcField
import HandS.TupAny
import HandS.Wide
import HandS.WideBits
import HandS.Walk
import HandS.Deep
import KE.KExcIs
import PySem.Challenge.RW_smallcourt_k03_whole_conditions_met
import HandS.Property
import HandS.NamedTupGet
import KE.KCallOwn
import HandS.More
import HandS.SlotsOwn
import KE.KOpsOwn
import HandS.WordsExc
import HandS.Set
import HandS.TupSets
import PyProof.Rows.SortShellAny
set_option Elab.async false
set_option linter.all false
set_option maxRecDepth 100000
set_option maxHeartbeats 4000000
namespace Sc
open PySem PySem.Spec PySem.Calls PyProof.Rows L2 NdefX
/-! ### super().__init__(..) in an own error's __init__ -/
/-- what the written part tells for super() in the __init__ of the class at C: cc its cell, cda the code object of __init__ -/
structure SupC (prog : Program) (K : PySem.W.Frag) (mg : Str → Option Value) (C cc cda : Addr) : Prop where
  cell : ∃ cl cld csl, K.lookup cc = some ⟨cl, cld, .cell (some (.ref C)), csl⟩
  code : ∃ ccl cdd vs ccs file tf, K.lookup cda = some ⟨ccl, cdd, .fields vs, ccs⟩ ∧ vs[2]? = some (.str file tf) ∧ ((prog.main.file : Str) == file) = true
  sub : PySem.W.mroIn K C (.ref C) = some true
  noS : mg "super" = none
  opq : PySem.W.nsIn K cStatics "thirdparty.any" = some none
  up : PySem.W.ks_superIn K C C "__init__" = some (some (.builtin "ValueError.__init__"))
  isB : PySem.W.subIn K (.ref C) (.type "ValueError") = some true
  top : (prog.main.scope.names.lookup ("super" : Str)).isSome = false
section
variable {X : Cx} {pins : List (Addr × Obj)} {σ : L2.St} {H : Hp} {s : Shared} {a C cc cda f : Addr}
theorem sup_bound {u : Addr} {us : List Value} {A : Around} {E : Value → Shared → Prop} {Q : Value → Shared → Prop} (T : OexC X.K C) (I : Inv X pins σ H s) (e : H a = some (exo a C none)) (hu : s.heap.get? u = some (PySem.W.kxs_mw "ValueError.__init__" a)) (hl : us.length ≤ sizeLine)
    (h : ∀ s', Inv X pins σ H s' → Q .none s') : wpAny (model X.prog X.w) A (call (.ref u) us) Q E s := by
  obtain ⟨nm, q, N, bs, bm, sn, sub, ab, col, dd, k0, k1, k2, k3, k5, hC, hbm⟩ := T.cls
  obtain ⟨t1, ho⟩ := exo_at I.hok e
  have hC' := I.kIn _ _ hC
  obtain ⟨hp, g, d, tk, os⟩ := s
  refine wpAny_call (codeAny_of_tree ?_)
  show wpAny _ A.in1 (callAny (.ref u) ⟨us, []⟩) _ _ _
  simp only [callAny]
  refine wpAny_bind (wpAny_load hu ?_)
  have b1 : (Value.type "method-wrapper" == Value.type "method" || Value.type "method-wrapper" == Value.type "builtin_function_or_method" || Value.type "method-wrapper" == Value.type "method-wrapper") = true := by decide
  simp only [PySem.W.kxs_mw, b1, if_true]
  refine PySem.W.KFB.if_so (by decide) (wpAny_bind (PySem.W.check_bound_init PySem.F.excBase_ValueError.toExcCallFacts hC' ho rfl (wpAny_bind (wpAny_pure (wpAny_pure ?_)))))
  refine ⟨plainId_quiet PySem.F.excBase_ValueError.init.plain _, codeAny_builtin PySem.F.excBase_ValueError.initEntry ?_⟩
  refine PySem.W.exc_init_tree (cls := .ref C) (t0 := t1) (dv := none) (c2 := .none) (c3 := .none) (b4 := .bool false) ho hl fun h' k hx _ => ?_
  have J := I.write (t' := tk) (x := a) (e := a) (o := exo a C none) (by rw [e]; exact True.intro) (.inl rfl) k ⟨_, hx⟩ (exo_ok hx)
  have eu : upd H a (exo a C none) = H := funext fun b => by
    by_cases hb : b = a
    · rw [hb, upd_same, e]
    · rw [upd_ne hb]
  rw [eu] at J
  exact h _ J
theorem at_super {pl : Sem Bool} {body : List Stmt} {e : Expr} {es : List Expr} {ta : TA} {D : Ends} {p0 p1 p2 p3 p4 : Pos} {fd : FuncData} {ar : Arg} {oc : Value} {od : Option Addr} {osl : Array (Option Value)}
    (T : OexC X.K C) (S : SupC X.prog X.K X.mg C cc cda) (hks : X.env.kindOf "super" = some .globalImplicit) (hkc : X.env.kindOf "__class__" = some .free) (hcl : X.env.cells.lookup ("__class__" : Str) = some cc)
    (hfu : X.env.func = some f) (hco : X.env.code = .ref cda) (lk : X.K.lookup f = some ⟨oc, od, .func fd, osl⟩) (hp : (fd.params.posonlyargs ++ fd.params.args).head? = some ar) (hN0 : X.N[0]? = some ar.arg) (hka : X.env.kindOf ar.arg = some .local)
    (hA : PA X (e :: es) ta) (I : Inv X pins σ H s) (hσ : σ[0]? = some (some (.ref a))) (ha : H a = some (exo a C none)) (q : ta σ H fun vs H1 => vs.length ≤ 1000 ∧ H1 a = some (exo a C none) ∧ D.nx σ H1)
    (he : starEach (e :: es) X.env = (false, eval e X.env) :: starEach es X.env := by rfl) (hpl : (backTo p3 (starEach es X.env)).any (·.1) = false := by rfl) (hi : interactive X.env = false := by rfl)
    (hev : eval (.Call (.Attribute (.Call (.Name "super" p0) [] [] p1) "__init__" p2) (e :: es) [] p3) X.env = (do
      let ov ← attributeBase (.Call (.Name "super" p0) [] [] p1) "__init__" X.env (eval (.Call (.Name "super" p0) [] [] p1) X.env)
      standAt p2.atName
      let (g, first) ← holding [ov] (getMethod ov "__init__" pl)
      callWith p3 g first (backTo p3 (starEach (e :: es) X.env)) []) := by rfl) (hsw : swapsWith (.Call (.Attribute (.Call (.Name "super" p0) [] [] p1) "__init__" p2) (e :: es) [] p3) none p4.line X.env = pure false := by rfl) :
    PySem.wpAt (model X.prog X.w) X.A (.func body X.env) (exec (.Expr (.Call (.Attribute (.Call (.Name "super" p0) [] [] p1) "__init__" p2) (e :: es) [] p3) p4) X.env) (SP X pins D) X.xe s := by
  obtain ⟨cl, cld, csl, hcell⟩ := S.cell
  obtain ⟨ccl, cdd, vs, ccs, file, tf, hcode, hvs, hfile⟩ := S.code
  have KX := I.kIn
  refine ks_wpAt_Expr_any (ks_wpAt_MethodCall (pl := pl) ?_ hev) hi hsw
  refine ks_wpAt_super_base hks hkc (by decide) hfu (KX _ _ lk) rfl hp hco (KX _ _ hcode) rfl hvs hfile S.top ?_
  obtain ⟨mb, b1, b2⟩ := I.mod.blt
  refine PySem.W.ks_loadName_global I.ok.kind hks (Calls.loadGlobal_builtin (v := .type "super") (by rw [I.ok.glob]; exact I.mod.glob.keeps I.bk) S.noS (by rw [I.ok.blt]; exact b1.keeps I.bk) ((b2 _ (by decide +kernel)).trans (by decide +kernel)) ⟨rfl, ?_⟩)
  refine wpAny_loadName_free I.ok.kind hkc hcl ⟨_, KX _ _ hcell, rfl⟩ ?_
  obtain ⟨m, hn, hloc⟩ := I.loc
  obtain ⟨u, ru, hlook⟩ := hloc 0 ar.arg (.ref a) hN0 hσ (.inl hka)
  obtain rfl : u = Value.ref a := ru
  have hm : m ar.arg = some (.ref a) := by
    rcases hlook with ⟨_, z⟩ | ⟨z, _⟩
    · exact z
    · rcases z with z | z <;> rw [show X.env.kindOf ar.arg = _ from hka] at z <;> cases z
  refine wpAny_loadName_local I.ok.kind hka hn hm ?_
  obtain ⟨nm, qn, N, bs, bm, sn, sub, ab, col, dd, k0, k1, k2, k3, k5, hC, hbm⟩ := T.cls
  have hcls : PySem.W.clsIn X.K C = some { name := nm, bases := bs, mro := .ref C :: bm, ns := N, qualname := qn, hasDict := true, slotNames := sn, subclasses := sub, abstract := ab, collection := col, hasDel := false } := by unfold PySem.W.clsIn; rw [hC] <;> rfl
  obtain ⟨t1, ho⟩ := exo_at I.hok ha
  have hC' := KX _ _ hC
  have ex := S.up
  unfold PySem.W.ks_superIn at ex
  rw [hcls] at ex
  obtain ⟨hp', g, d, tk, os⟩ := s
  refine ks_wpAny_isType_cls hC' rfl ⟨rfl, ?_⟩
  refine ks_wpAny_call_super hC' rfl ho rfl (fun c z => nomatch z) (PySem.W.looks_mroIn KX S.sub) (fun h' e1 k => ?_)
  have I1 : Inv X pins σ H ⟨h', g, d, tk, os⟩ := I.kept (t' := tk) k
  have IA : PySem.W.InstAt h' a { cls := .ref C, dict := none, data := .fields #[.ref t1, .none, .none, .none, .bool false, .none] } C none := ⟨k _ _ ho, rfl, rfl, trivial⟩
  have hIs : PySem.W.Looks (model X.prog X.w) h' (isInstance (.ref a) (.type "ValueError")) true := IA.type.andThen (PySem.W.looks_subIn I1.kIn S.isB)
  refine PySem.W.kxs_getMethod PySem.W.kxs_ValueError e1 (PySem.W.looks_opaque I1.kIn S.opq) (l₀ := .ref C :: bm) (fun A Q E s k q => wpAny_bind ((PySem.W.looks_clsIn I1.kIn hcls) A _ E s k (wpAny_pure q))) rfl I1.kIn ex hIs (PySem.W.ks_ne I1.kIn IA hcls) (by decide) ?_
  have I2 : Inv X pins σ H ⟨h'.push (PySem.W.kxs_mw "ValueError.__init__" a), g, d, tk + 1, os⟩ := I1.kept (t' := tk + 1) fun b o z => Heap.get?_push_of_some _ z
  have hu : (h'.push (PySem.W.kxs_mw "ValueError.__init__" a)).get? h'.objs.size = some (PySem.W.kxs_mw "ValueError.__init__" a) := Heap.get?_push_at rfl rfl
  have hun : H h'.objs.size = none := I1.hok.fresh (Nat.le_refl _)
  have hunf : h'.objs.size ∉ X.fs ∧ h'.objs.size ≠ X.env.locals := ⟨I1.nofs (Nat.le_refl _), fun z => Nat.lt_irrefl _ (by have := I1.lt; rw [← z] at this; exact this)⟩
  have I3 : Inv X ((h'.objs.size, PySem.W.kxs_mw "ValueError.__init__" a) :: pins) σ H ⟨h'.push (PySem.W.kxs_mw "ValueError.__init__" a), g, d, tk + 1, os⟩ := I2.pins_of fun p hp => by
    rcases List.mem_cons.mp hp with rfl | hp
    · exact ⟨hu, hun, hunf.2, hunf.1, fun v z => nomatch z⟩
    · exact I2.pin p (List.mem_append_right _ hp)
  rw [he]
  refine PySem.W.kxs_callWith (i := "ValueError.__init__") (x := a) (first := []) (by show (false || (backTo p3 (starEach es X.env)).any (·.1)) = false; rw [hpl]; rfl) (evalArgs_plain ?_)
  show wpAny _ _ (spliced (backTo p3 ((false, eval e X.env) :: starEach es X.env))) _ _ _
  rw [← he]
  refine thn (hA.run p3 _ _ σ H _ I3 q) fun us s1 ⟨vs, H1, I4, r1, hl, e4, q4⟩ => ?_
  have I5 : Inv X pins σ H1 s1 := I4.pins_of fun p hp => I4.pin p (List.mem_append_right _ (.tail _ hp))
  have hu4 := (I4.pin _ (List.mem_append_right _ List.mem_cons_self)).1
  refine ⟨hu4, ?_⟩
  refine sup_bound T I5 e4 hu4 (by show us.length ≤ sizeLine; rw [← Paired.length r1, sizeLine_eq]; omega) fun s' J => ?_
  exact ⟨σ, H1, J, q4⟩
end
/-! ### the __init__ as a def -/
/-- the reading of a body that begins with super().__init__(e ..) -/
def tInit (C : Addr) (ta : TA) (tr : TS) : TS := fun D σ H => ∃ a : Addr, σ[0]? = some (some (.ref a)) ∧ H a = some (exo a C none) ∧ ta σ H fun vs H1 => vs.length ≤ 1000 ∧ H1 a = some (exo a C none) ∧ tr D σ H1
section
variable {P : Program} {w : World} {K : PySem.W.Frag} {mg : Str → Option Value} {base : Heap} {N ps : List Str} {F : NF} {f C cc : Addr} {k : Nat} {sp : Sp} {kV doc pm ct oc : Value} {an od : Option Addr} {osl : Array (Option Value)}
/-- the def's data as it stands -/
abbrev supFd (F : NF) (kV doc pm : Value) (an : Option Addr) (ct : Value) : FuncData := PySem.W.fnX F.name F.qual F.params F.body F.scope F.cl .none kV doc pm an (.ref F.c) ct
theorem fn_sup {e : Expr} {es : List Expr} {rest : List Stmt} {ar : Arg} {p0 p1 p2 p3 p4 : Pos} (lk : K.lookup f = some ⟨oc, od, .func (supFd F kV doc pm an ct), osl⟩) (hcd : PySem.W.codeIn K (.ref F.c) F.qual = true) (hcl : F.cl = [(("__class__" : Str), cc)])
    (SC : NScope N ps ["__class__"] F.scope) (T : OexC K C) (S : SupC P K mg C cc F.c) (len : ∀ vs H Q E, sp vs H Q E → vs.length = ps.length)
    (hbd : F.body = .Expr (.Call (.Attribute (.Call (.Name "super" p0) [] [] p1) "__init__" p2) (e :: es) [] p3) p4 :: rest)
    (hp : (F.params.posonlyargs ++ F.params.args).head? = some ar) (hN0 : N[0]? = some ar.arg) (hka : F.scope.names.lookup ar.arg = some .local) (hks : F.scope.names.lookup ("super" : Str) = some .globalImplicit)
    (hbody : ∀ (A : Around) (outer : List Env) (s : Shared) (H : Hp) (vs : List V) (Q : VK) (E : XK), Room k (A.deeper (envF F f s.heap.objs.size)) → sp vs H Q E →
      ∃ ta tr, PA (ncx CX0 P w K mg base N F f A outer s H E) (e :: es) ta ∧ PSs (ncx CX0 P w K mg base N F f A outer s H E) rest tr ∧ tInit C ta tr { nx := fun _ H' => Q .non H', rt := Q } (startF N vs [none]) H)
    (hev : ∀ L, ∃ pl, eval (.Call (.Attribute (.Call (.Name "super" p0) [] [] p1) "__init__" p2) (e :: es) [] p3) (envF F f L) = (do
      let ov ← attributeBase (.Call (.Name "super" p0) [] [] p1) "__init__" (envF F f L) (eval (.Call (.Name "super" p0) [] [] p1) (envF F f L))
      standAt p2.atName
      let (g, first) ← holding [ov] (getMethod ov "__init__" pl)
      callWith p3 g first (backTo p3 (starEach (e :: es) (envF F f L))) []))
    (hsw : ∀ L, swapsWith (.Call (.Attribute (.Call (.Name "super" p0) [] [] p1) "__init__" p2) (e :: es) [] p3) none p4.line (envF F f L) = pure false) (he : ∀ L, starEach (e :: es) (envF F f L) = (false, eval e (envF F f L)) :: starEach es (envF F f L))
    (hpl : ∀ L, (backTo p3 (starEach es (envF F f L))).any (·.1) = false) (hi : ∀ L, interactive (envF F f L) = false) :
    FnOk P w K mg base CX0 (k + 1) f (supFd F kV doc pm an ct) ps sp := by
  refine ⟨len, fun A outer s H args us vs Q E hr e0 hb r hsp => ?_⟩
  have hl := len _ _ _ _ hsp
  have KX : K.In s.heap := e0.mod.kin.keeps fun b o e => (e0.bs b o e).1
  have lim : s.heap.NoLimit := e0.mod.nolimit.keeps fun b o e => (e0.bs b o e).1
  obtain ⟨cl, cld, csl, hcell⟩ := S.cell
  have hcH : H cc = none := by
    have z := e0.mod.kin _ _ hcell
    exact (e0.bs _ _ z).2
  have CA : CellsAt F.cl ["__class__"] [none] s.heap H := by
    rw [hcl]
    refine ⟨rfl, fun y c h => ?_, fun x y c h1 h2 => ?_, fun i y h => ?_⟩
    · have q : y = ("__class__" : Str) ∧ c = cc := by
        simp only [List.lookup] at h
        split at h
        · rename_i z; exact ⟨by simpa using z, (Option.some.inj h).symm⟩
        · cases h
      rw [q.2]
      exact ⟨hcH, some (.ref C), ⟨_, KX _ _ hcell, rfl⟩⟩
    · have q : ∀ z, List.lookup z [(("__class__" : Str), cc)] = some c → z = ("__class__" : Str) := fun z h => by
        simp only [List.lookup] at h
        split at h
        · rename_i z; simpa using z
        · cases h
      rw [q x h1, q y h2]
    · cases i with
      | zero =>
        have q : y = ("__class__" : Str) := (Option.some.inj h).symm
        subst q
        exact ⟨cc, by simp [List.lookup], fun v z => by cases z⟩
      | succ i => simp at h
  refine ks_codeAny_call_defAt (fd := supFd F kV doc pm an ct) (body := F.body) (binds := ps.zip us) hr.depth (KX _ _ lk) rfl lim (PySem.W.codeRec_of KX hcd) rfl hb SC.nocell (fun ⟨n, _⟩ hy => SC.par n (List.of_mem_zip hy).1) (fun h₁ hns kp => ?_) SC.co SC.gen SC.kind
  obtain ⟨ta, tr, hta, htr, a, hσ, ha, q⟩ := hbody A outer s H vs Q E (hr.deeper _) hsp
  have I : Inv (ncx CX0 P w K mg base N F f A outer s H E) [] (startF N vs [none]) H { s with heap := h₁, toks := s.toks + (ps.zip us).length } := inv_startN SC hr.hd e0 hl r CA hns kp
  obtain ⟨pl, hev⟩ := hev s.heap.objs.size
  have fin : ∀ {s' : Shared} {σ' : L2.St} {H' : Hp} {v : V} {u : Value}, Inv (ncx CX0 P w K mg base N F f A outer s H E) [] σ' H' s' → L2.RelV v u → Q v H' → CE outer P w H s Q u s' :=
    fun {s' σ' H' v u} J rv q => ⟨v, H', J.os, J.bare, J.base, J.hok, rv, q⟩
  rw [hbd]
  refine ks_wpAt_execs_cons (ks_wpAt_mono (at_super (X := ncx CX0 P w K mg base N F f A outer s H E) (D := { nx := fun σ' H' => tr { nx := fun _ H' => Q .non H', rt := Q } σ' H', rt := fun _ _ => False }) (pl := pl) (f := f) (ar := ar) (fd := supFd F kV doc pm an ct) T S hks (SC.frk _ List.mem_cons_self) (by show F.cl.lookup _ = _; rw [hcl]; simp [List.lookup]) rfl rfl lk hp hN0 hka hta I hσ ha q (he _) (hpl _) (hi _) hev (hsw _)) (fun fl s' hs => ?_) fun _ _ z => z)
  cases fl with
  | ret u =>
    obtain ⟨_, _, _, _, _, z⟩ := hs
    exact z.elim
  | brk =>
    obtain ⟨_, _, _, z⟩ := hs
    exact z.elim
  | cont =>
    obtain ⟨_, _, _, z⟩ := hs
    exact z.elim
  | next =>
    obtain ⟨σ', H', J, z⟩ := hs
    refine PySem.wpAt_of_wpAny (wpAny_mono (htr.run [] s' σ' H' _ J z) (fun fl2 s2 h2 => ?_) fun _ _ y => y)
    cases fl2 with
    | ret u =>
      obtain ⟨v, σ2, H2, J2, rv, q2⟩ := h2
      exact fin J2 rv q2
    | next =>
      obtain ⟨σ2, H2, J2, q2⟩ := h2
      exact fin (v := V.non) (u := Value.none) J2 rfl q2
    | brk =>
      obtain ⟨_, _, _, q2⟩ := h2
      exact q2.elim
    | cont =>
      obtain ⟨_, _, _, q2⟩ := h2
      exact q2.elim
end
end Sc
namespace Sc
open PySem PySem.Spec PySem.Calls PyProof.Rows L2
/-! ### enumerate(tuple) -/
theorem enumT_new (l : Addr) (items : Array Value) (n : Nat) (dct : Option Addr) (sl : Array (Option Value)) :
    Meets (Builtin.«enumerate.__new__» ⟨[.type "enumerate", .ref l], []⟩) (fun _ R s =>
      s.heap.get? l = some { cls := .type "tuple", dict := dct, data := .seq items n, slots := sl } ∧
      R (.ok (.ret (.ref (s.heap.objs.size + 1)))) { s with heap := (s.heap.push { cls := .type "tuple_iterator", data := .fields #[.ref l, .int 0 0] }).push { cls := .type "enumerate", data := .fields #[.none, .bool false, .ref s.heap.objs.size, rawInt 0, .none, .none] } }) :=
  .of_wp fun prog w A R s h => by
    obtain ⟨hp, g, d, tk, os⟩ := s
    obtain ⟨hl, hR⟩ := h
    have hsub := sub_enumerate
    have hT : Heap.IsTuple hp l items := ⟨_, hl, rfl, n, rfl⟩
    have hz : (hp.push { cls := .type "tuple_iterator", data := .fields #[.ref l, .int 0 0] }).objs.size = hp.objs.size + 1 := Heap.size_push ..
    rw [← hz] at hR
    have it1 : ∀ {A' : Around} {E : Value → Shared → Prop} {Q : Value → Shared → Prop}, Q (.ref hp.objs.size) ⟨hp.push { cls := .type "tuple_iterator", data := .fields #[.ref l, .int 0 0] }, g, d, tk, os⟩ →
        wpAny (model prog w) A' (pyIter (.ref l)) Q E ⟨hp, g, d, tk, os⟩ := fun q => wpAny_pyIter_tuple (s := ⟨hp, g, d, tk, os⟩) hT q
    wp_walk using AutoSeq1.wpAny_loadPart' hl, it1
    refine wpAny_stack_any fun st => wpAny_pure ?_
    split
    · rename_i c _ _ _ _ _
      cases (c == Value.type "enumerate") <;>
      · wp_walk using AutoSeq1.wpAny_loadPart' hl, it1
        exact ⟨_, rfl, hR⟩
    · wp_walk using AutoSeq1.wpAny_loadPart' hl, it1
      exact ⟨_, rfl, hR⟩
section
variable {prog : Program} {w : World} {A : Around} {E : Value → Shared → Prop} {s : Shared}
theorem enumT_call {l : Addr} {items : Array Value} {Q : Value → Shared → Prop} (hL : s.heap.IsTuple l items)
    (h : ∀ h', IsEnum h' (s.heap.objs.size + 1) s.heap.objs.size 0 .none → h'.IsTupleIter s.heap.objs.size l 0 → (∀ b o, s.heap.get? b = some o → h'.get? b = some o) →
      Q (.ref (s.heap.objs.size + 1)) { s with heap := h' }) : wpAny (model prog w) A (call (.type "enumerate") [.ref l]) Q E s := by
  obtain ⟨⟨c, dct, dt, sl⟩, hl, hc, n, hd⟩ := hL
  dsimp only at hc hd
  subst hc hd
  refine callType_new F.called_enumerate (by decide) (F.typeCall_enumerate_1 _) (F.newCall_enumerate_1 _) (fun obj => F.args_object_init_2 obj _) F.entry_enumerate_new (enumT_new l items n dct sl) ⟨hl, ?_⟩
  have hz : (s.heap.push { cls := .type "tuple_iterator", data := .fields #[.ref l, .int 0 0] }).objs.size = s.heap.objs.size + 1 := Heap.size_push ..
  have he := Heap.get?_push_size (s.heap.push { cls := .type "tuple_iterator", data := .fields #[.ref l, .int 0 0] })
    (o := { cls := .type "enumerate", data := .fields #[.none, .bool false, .ref s.heap.objs.size, rawInt 0, .none, .none] }) rfl
  rw [hz] at he
  exact ⟨⟨_, he, rfl⟩, h _ he ⟨_, Heap.get?_push_of_some _ (Heap.get?_push_size _ rfl), rfl, rfl⟩ fun b o x => Heap.get?_push_of_some _ (Heap.get?_push_of_some _ x)⟩
end
/-- the tuple at a, each item in a new pair -/
def IteT (K : PySem.W.Frag) (a : Addr) : It where
  go := fun i H => ∃ (xs : List V) (x : V), SqT K H a xs ∧ xs[i]? = some x
  yld := fun i H v H' => ∃ T x, v = .ref T ∧ H T = none ∧ H' = upd H T (.tup [.int (i : Nat), x]) ∧ ∀ xs, SqT K H a xs → xs[i]? = some x
  stop := fun i H => ∃ xs : List V, SqT K H a xs ∧ xs.length ≤ i
theorem enumT_turn {P : Program} {w : World} {K : PySem.W.Frag} {elts : List Expr} {kk : Nat} {tpos : Pos} (a e it : Addr) :
    Turn P w K (.Tuple elts kk tpos) (IteT K a) [e, it] e (fun i h => (∃ old, IsEnum h e it ((i : Nat) : Int) old) ∧ h.IsTupleIter it a i ∧ e ≠ it) where
  mem := List.mem_cons_self
  obj := fun i h st b hb => by
    obtain ⟨⟨old, he⟩, ⟨o, ho, hc, hd⟩, _⟩ := st
    rcases List.mem_cons.mp hb with rfl | hb
    · exact ⟨_, he, fun v q => nomatch q⟩
    · rcases List.mem_cons.mp hb with rfl | hb
      · exact ⟨o, ho, fun v q => by rw [hd] at q; cases q⟩
      · cases hb
  keep := fun i h h' st k => by
    obtain ⟨⟨old, he⟩, hi, hne⟩ := st
    exact ⟨⟨old, k e (by simp) _ he⟩, hi.at fun o q => k it (by simp) o q, hne⟩
  item := by
    intro X hP hw hK hc i pins s σ H E I hf st hg
    subst hP hw hK
    obtain ⟨⟨old, he⟩, hit, hne⟩ := st
    obtain ⟨xs, x, hq, hx⟩ := hg
    obtain ⟨its, rv, p, hz⟩ := I.tuple hq
    obtain ⟨u, hu, ru⟩ := rv.get hx
    have hel : e < s.heap.objs.size := Heap.lt_size he
    have hil : it < s.heap.objs.size := by obtain ⟨_, q, _⟩ := hit; exact Heap.lt_size q
    have p' : s.heap.IsTuple a its.toArray := p
    have hae : a ≠ e := fun z => by
      obtain ⟨o, ho, hcl, n, hd⟩ := p'
      rw [z, he] at ho
      cases ho
      cases hd
    have hai : a ≠ it := fun z => by
      obtain ⟨o, ho, hcl, n, hd⟩ := p'
      obtain ⟨o2, ho2, hcl2, hd2⟩ := hit
      rw [z, ho2] at ho
      cases ho
      rw [hd2] at hd
      cases hd
    have hlt : i < its.toArray.size := by
      rw [List.size_toArray]
      exact (List.getElem?_eq_some_iff.mp hu).1
    refine wpAny_pyNext_enum_itemD (Draws.tuple (A := X.A.in1) (I.ok.hd hc) it a hai its.toArray) he ⟨hit, p'⟩ hlt hne (by simp [hne, hae.symm]) fun y h' tk hy ho st' hT hsz hk => ?_
    obtain ⟨hit', hp'⟩ := st'
    have ey : y = u := by
      have z : its.toArray[i]? = some u := by simpa using hu
      rw [hy] at z
      exact Option.some.inj z
    subst ey
    refine ⟨_, rfl, wpAny_letOwnedTupleGo_enum (s := { s with heap := h', toks := tk + 1 }) ho fun h'' he' sb => ?_⟩
    have hT2 : h''.get? s.heap.objs.size = some { cls := .type "tuple", data := .seq #[.int i tk, y] } := (sb.2 _ (Nat.ne_of_gt hel)).trans hT
    have new : ObjOk X.prog X.w (upd H s.heap.objs.size (.tup [.int (i : Nat), x])) h'' s.heap.objs.size (.tup [.int (i : Nat), x]) :=
      ⟨by show 2 ≤ sizeLine; decide, [.int i tk, y], .cons ⟨_, rfl⟩ (.cons ru .nil), ⟨_, hT2, rfl, _, rfl⟩⟩
    have I1 : Inv X pins σ (upd H s.heap.objs.size (.tup [.int (i : Nat), x])) { s with heap := h'', toks := tk + 1 } :=
      I.turnedNew (ch := [e, it]) (fun b ob hb q => (sb.2 b (fun z => hb (by simp [z]))).trans (hk b ob (fun z => hb (by simp [z])) (fun z => hb (by simp [z])) q)) hf (Nat.le_refl _) new
    refine ⟨.ref s.heap.objs.size, _, I1, rfl, ⟨_, x, rfl, I.hok.fresh (Nat.le_refl _), rfl, fun ys hy => by rw [I.tuple_inj hy hq]; exact hx⟩, ⟨⟨y, ?_⟩, hit'.at fun o q => (sb.2 it (Ne.symm hne)).trans q, hne⟩, fun b hb => ?_⟩
    · have e1 : ((i + 1 : Nat) : Int) = (i : Int) + 1 := by omega
      rw [e1]
      exact he'
    · have hb' : b < s.heap.objs.size := by
        rcases List.mem_cons.mp hb with rfl | hb
        · exact hel
        · rcases List.mem_cons.mp hb with rfl | hb
          · exact hil
          · cases hb
      rw [upd_ne (Nat.ne_of_lt hb')]
      exact (hf b hb).1
  done := by
    intro X hP hw hK hc i pins s σ H E I hf st hg
    subst hP hw hK
    obtain ⟨⟨old, he⟩, hit, hne⟩ := st
    obtain ⟨xs, hq, hx⟩ := hg
    obtain ⟨its, rv, p, hz⟩ := I.tuple hq
    obtain ⟨f0, f1, f2, f3, f4, f5⟩ := hf it (by simp)
    have hl := rv.length
    have p' : s.heap.IsTuple a its.toArray := p
    have hai : a ≠ it := fun z => by
      obtain ⟨o, ho, hcl, n, hd⟩ := p'
      obtain ⟨o2, ho2, hcl2, hd2⟩ := hit
      rw [z, ho2] at ho
      cases ho
      rw [hd2] at hd
      cases hd
    have D : Draws X.prog X.w X.A.in1 it [it, a] i (fun _ _ => True) (fun j h => h.IsTupleIter it a j ∧ h.IsTuple a its.toArray ∧ j = i) :=
      { live := fun _ _ st => let ⟨o, ho, _⟩ := st.1; ⟨o, ho⟩
        frame := fun _ _ _ st hk => ⟨st.1.at fun o e => hk it (by simp) o e, st.2.1.at fun o e => hk a (by simp) o e, st.2.2⟩
        item := fun j s Q E hj stj hQ => absurd hj (by rw [stj.2.2]; exact Nat.lt_irrefl i)
        done := fun s Q E stj hE => wpAny_nextOf_tuple_end (I.ok.hd hc) stj.1 stj.2.1 (by simp; omega) hE }
    exact wpAny_pyNext_enum_endD D he ⟨hit, p', rfl⟩ fun h' eb => ⟨rfl, I.turned (t' := s.toks) (fun b o hb q => eb b o hb q) f0 f1 f3 f4 f5⟩
  self := fun A i s Q E st h => by
    obtain ⟨⟨_, he⟩, _⟩ := st
    exact wpAny_pyIter_enum he h
def iEnumT (K : PySem.W.Frag) (ta : TA) : TI := fun σ H R => ta σ H fun vs H1 => ∃ a xs, vs = [.ref a] ∧ SqT K H1 a xs ∧ R (IteT K a) H1
theorem pi_enumT {X : Cx} {e : Expr} {ta : TA} {p pos tpos : Pos} {elts : List Expr} {kk : Nat} (hg : Gl X "enumerate") (hm : X.mg "enumerate" = none) (ha : PA X [e] ta) (hs : starEach [e] X.env = [(false, eval e X.env)] := by rfl) :
    PI X (.Tuple elts kk tpos) (.Call (.Name "enumerate" p) [e] [] pos) (iEnumT X.K ta) := by
  refine ⟨fun pins s σ H R I h => ?_⟩
  refine Call_ (ld_blt I hg hm boot_enumerate (PyProof.Rows.callWith_type1 (thn (ha.run pos pins s σ H _ I h) fun us s1 ⟨vs, H1, I1, r1, a, xs, ex, hq, q⟩ => ?_) hs rfl))
  subst ex
  cases r1 with
  | cons r rr =>
    cases rr
    cases r
    obtain ⟨its, rv, p', hz⟩ := I1.tuple hq
    refine enumT_call (show s1.heap.IsTuple a its.toArray from p') fun h' he hit hk => wpAny_pyIter_enum he ?_
    have I2 : Inv X pins σ H1 { s1 with heap := h' } := I1.kept (t' := s1.toks) hk
    refine ⟨s1.heap.objs.size + 1, [s1.heap.objs.size + 1, s1.heap.objs.size], _, _, H1, rfl, I2, enumT_turn a (s1.heap.objs.size + 1) s1.heap.objs.size, ⟨⟨.none, he⟩, hit, Nat.succ_ne_self _⟩, fun b hb => ?_, q⟩
    have hle : s1.heap.objs.size ≤ b := by
      rcases List.mem_cons.mp hb with rfl | hb
      · exact Nat.le_succ _
      · rcases List.mem_cons.mp hb with rfl | hb
        · exact Nat.le_refl _
        · cases hb
    exact I1.fpOk hle (I1.hok.fresh hle)
end Sc
namespace Sc
open PySem PySem.Spec PyProof.Rows L2
/-- the built-ins are not hidden -/
structure Blt (mg : Str → Option Value) : Prop where
  b_isinstance : mg "isinstance" = none
  b_len : mg "len" = none
  b_all : mg "all" = none
  b_any : mg "any" = none
  b_sum : mg "sum" = none
  b_max : mg "max" = none
  b_min : mg "min" = none
  b_int : mg "int" = none
  b_str : mg "str" = none
  b_bool : mg "bool" = none
  b_list : mg "list" = none
  b_tuple : mg "tuple" = none
  b_dict : mg "dict" = none
  b_range : mg "range" = none
  b_enumerate : mg "enumerate" = none
  b_sorted : mg "sorted" = none
  b_reversed : mg "reversed" = none
  b_zip : mg "zip" = none
  b_set : mg "set" = none
  b_ValueError : mg "ValueError" = none
/-- a def as its callers see it -/
structure Cal (P : Program) (w : World) (K : PySem.W.Frag) (mg : Str → Option Value) (base : Heap) (CX : CXT) (k : Nat) (x : Str) (ps : List Str) (sp : Sp) : Prop where
  ex : ∃ (f : Addr) (fd : FuncData), FnOk P w K mg base CX k f fd ps sp ∧ mg x = some (.ref f) ∧ PySem.W.keepIn K (.ref f) = true ∧ Binds K fd ps []
section
variable {X : Cx} {k : Nat} {x : Str} {ps : List Str} {sp : Sp} {e : Expr} {es : List Expr} {t : TA} {p pos : Pos}
theorem pe_cal (C : Cal X.prog X.w X.K X.mg X.base CX0 k x ps sp) (hr : Room k X.A) (ha : PA X (e :: es) t) (hg : Gl X x := by rfl) (hdb : (x == ("__debug__" : Str)) = false := by decide)
    (he : starEach (e :: es) X.env = (false, eval e X.env) :: starEach es X.env := by rfl) (hpl : (backTo pos (starEach es X.env)).any (·.1) = false := by rfl) : PE X (.Call (.Name x p) (e :: es) [] pos) (tCall sp [] E0 t) := by
  obtain ⟨f, fd, F, hm, hk, hb⟩ := C.ex
  exact pe_call F hr hg hm hk hb .nil pass0 ha hdb he hpl
/-- a def that may raise, where it does not -/
theorem pe_calN (C : Cal X.prog X.w X.K X.mg X.base (L2.CX X.prog X.w) k x ps sp) (hr : Room k X.A) (ha : PA X (e :: es) t) (hg : Gl X x := by rfl) (hdb : (x == ("__debug__" : Str)) = false := by decide)
    (he : starEach (e :: es) X.env = (false, eval e X.env) :: starEach es X.env := by rfl) (hpl : (backTo pos (starEach es X.env)).any (·.1) = false := by rfl) : PE X (.Call (.Name x p) (e :: es) [] pos) (tCall sp [] E0 t) := by
  obtain ⟨f, fd, F, hm, hk, hb⟩ := C.ex
  exact pe_call F hr hg hm hk hb .nil passL ha hdb he hpl
/-- a def that may raise -/
theorem pe_calX {W : WX} (C : Cal X.prog X.w X.K X.mg X.base (L2.CX X.prog X.w) k x ps sp) (hr : Room k X.A) (tk : Takes X W) (ha : PA X (e :: es) t) (hg : Gl X x := by rfl) (hdb : (x == ("__debug__" : Str)) = false := by decide)
    (he : starEach (e :: es) X.env = (false, eval e X.env) :: starEach es X.env := by rfl) (hpl : (backTo pos (starEach es X.env)).any (·.1) = false := by rfl) : PE X (.Call (.Name x p) (e :: es) [] pos) (tCallS sp (WE W) t) := by
  obtain ⟨f, fd, F, hm, hk, hb⟩ := C.ex
  exact pe_callS F hr hg hm hk hb (fun σ => passAt tk σ) ha hdb he hpl
end
/-! ### a reading that does not lean on the state within which it is asked -/
theorem pe_.re {X : Cx} {e : Expr} {t t' : TE} (h : PE X e t) (q : t = t') : PE X e t' := q ▸ h
theorem pts_.re {X : Cx} {es : List Expr} {t t' : TT} (h : PTs X es t) (q : t = t') : PTs X es t' := q ▸ h
theorem pss_.re {X : Cx} {sts : List Stmt} {t t' : TS} (h : PSs X sts t) (q : t = t') : PSs X sts t' := q ▸ h
/-- a value's truth -/
def tTru (K : PySem.W.Frag) (ta : TE) : TT := fun σ H Q => ta σ H fun x H' => ∃ k, TruV K x H' k ∧ Q k H'
theorem pt_tru {X : Cx} {a : Expr} {ta : TE} (ha : PE X a ta) (he : ∀ whole, isTrue a X.env whole = (do let v ← whole; standAt a.pos; holding [v] (truthy v))) : PT X a (tTru X.K ta) := pt_truth ha he
/-! ### lists -/
theorem take_more {α : Type} {l : List α} {i : Nat} {x : α} (h : l[i]? = some x) : l.take (i + 1) = l.take i ++ [x] := by
  rw [List.take_add_one, h]
  rfl
/-! ### heaps -/
theorem _root_.L2.Same.put {H H' : Hp} {p : Addr} {o : HO} (s : Same H H') (n : H p = none) : Same H (upd H' p o) := fun b x e => by
  rw [upd_ne (ne_of_none e n)]
  exact s b x e
theorem _root_.L2.Same.put' {H H' : Hp} {p : Addr} {o : HO} (s : Same H H') (n : H' p = none) : Same H (upd H' p o) := s.put (s.free n)
theorem _root_.L2.Same.tup {K : PySem.W.Frag} {H H' : Hp} {a : Addr} {xs : List V} (e : Same H H') (h : SqT K H a xs) : SqT K H' a xs := by
  rcases h with (h | ⟨o, h⟩) | h
  · exact .inl (.inl (e _ _ h))
  · exact .inl (.inr ⟨o, e _ _ h⟩)
  · exact .inr h
theorem sqT_new {K : PySem.W.Frag} {H : Hp} {p : Addr} {xs : List V} : SqT K (upd H p (.tup xs)) p xs := .inl (.inl upd_same)
theorem sqL_new {K : PySem.W.Frag} {H : Hp} {p : Addr} {xs : List V} : SqL K (upd H p (.lst xs)) p xs := .inl (.inl upd_same)
theorem sqT_of {K : PySem.W.Frag} {H : Hp} {p : Addr} {xs : List V} (h : H p = some (.tup xs)) : SqT K H p xs := .inl (.inl h)
theorem sqL_of {K : PySem.W.Frag} {H : Hp} {p : Addr} {xs : List V} (h : H p = some (.lst xs)) : SqL K H p xs := .inl (.inl h)
/-- a comprehension's list grows -/
theorem grow {H1 H4 : Hp} {D : Addr} {acc : Nat → List V} {i : Nat} {y : V} (nD : H1 D = none) (s : Same H1 H4) (e : H4 D = some (.lst (acc i))) (l : (acc i).length < sizeLine) (n : acc (i + 1) = acc i ++ [y]) :
    ∃ a, H4 D = some (.lst a) ∧ a.length < sizeLine ∧ (Same H1 (upd H4 D (.lst (a ++ [y]))) ∧ (upd H4 D (.lst (a ++ [y]))) D = some (.lst (acc (i + 1)))) :=
  ⟨acc i, e, l, s.put nD, by rw [upd_same, n]⟩
theorem bcase {b : Bool} {A B : Prop} (h1 : b = true → A) (h2 : b = false → B) : if b = true then A else B := by
  cases b with
  | true => exact iteT (h1 rfl)
  | false => exact iteF (h2 rfl)
/-- isinstance(x, T), T a built-in class -/
def rIsT (K : PySem.W.Frag) (T : String) : List V → Hp → VK → Prop := fun xs H Q => ∃ (x : V) (t : String) (b : Bool), xs = [x, .ty T] ∧ TyOf K H x (.type t) ∧ kitB t T = some b ∧ Q (.bl b) H
theorem call_isT {X : Cx} (T : String) : CallR X (.builtin "isinstance") (rIsT X.K T) := by
  intro pins s σ H xs us Q I r h
  obtain ⟨x, t, b, ex, ht, hb, q⟩ := h
  exact call_isi pins s σ H xs us Q I r ⟨_, _, _, _, _, ex, .ty _, .base ht, kit_ty hb, q⟩
/-- a comprehension without a test -/
theorem yes_ {σ : L2.St} {H : Hp} {A : Hp → Prop} {B : Hp → Prop} (h : A H) : tYes σ H fun b H3 => if b = true then A H3 else B H3 := by
  show (if true = true then A H else B H)
  rw [if_pos rfl]
  exact h
/-- as many slots as names -/
theorem takes_len {X : Cx} {W : WX} (tk : Takes X W) : Takes X (fun cls d σ H => σ.length = X.N.length → W cls d σ H) := fun u s' ⟨a, B, sI, pins, σ, H, cls, d, e, I, nb, up, sky, na, os, ag, w⟩ =>
  tk u s' ⟨a, B, sI, pins, σ, H, cls, d, e, I, nb, up, sky, na, os, ag, w I.len⟩
/-! ### walks -/
theorem walk_enumT {K : PySem.W.Frag} {a : Addr} {xs : List V} : Walk (IteT K a) xs.length (fun H => SqT K H a xs) (YPair (fun i => some (.int (i : Nat))) (fun i => xs[i]?)) := by
  refine ⟨fun i _ hi q => ⟨xs, xs[i], q, by simp [hi]⟩, fun _ q => ⟨xs, q, Nat.le_refl _⟩, fun i H v H' _ q y => ?_⟩
  obtain ⟨T, x, h1, h2, h3, h4⟩ := y
  exact ⟨T, .int (i : Nat), x, h1, h2, h3, rfl, h4 xs q⟩
/-! ### list.count of truth values -/
section
variable {X : Cx}
theorem countP_eqU {x : V} : ∀ {xs : List V} {us : List Value}, Vals xs us → xs.all flatV = true → us.countP (eqU x) = xs.countP fun y => eqV y x
  | _, _, .nil, _ => rfl
  | y :: xs, u :: us, .cons r t, f => by
    rw [List.all_cons, Bool.and_eq_true] at f
    rw [List.countP_cons, List.countP_cons, eqU_of r f.1, countP_eqU t f.2]
def rCount (K : PySem.W.Frag) : V → List V → Hp → VK → Prop := fun x xs H Q => ∃ (p : Addr) (ys : List V) (y : V), x = .ref p ∧ xs = [y] ∧ SqL K H p ys ∧ flatV y = true ∧ ys.all flatV = true ∧ Q (.int (ys.countP (fun z => eqV z y) : Nat)) H
theorem mt_lcountB : MtR X "list.count" (rCount X.K) := by
  intro pins s σ H x xs v us Q I rx rxs h
  obtain ⟨p, ys, y, rfl, rfl, hs, fy, fys, q⟩ := h
  cases rx
  cases rxs with
  | cons ry rt =>
    rename_i uy ut
    cases rt
    obtain ⟨its, rv, ⟨⟨cls, dd, data, sl⟩, n, ho, hc, hdn, hd⟩, hlen⟩ := I.list hs
    simp only at hc hd
    subst hc hd
    refine call_meets PySem.F.slot_list_count ⟨_, ho, rfl⟩ PySem.F.entry_list_count (PySem.F.args_list_count_2 _ _)
      (SeqAt.list_countAt p its.toArray n dd sl uy (eqU y)) ⟨ho, fun u' hu' => mem_eqAt ry fy rv fys u' (by simpa using hu'), ?_⟩
    have ec : its.toArray.toList.countP (eqU y) = ys.countP fun z => eqV z y := countP_eqU rv fys
    refine ⟨.int (ys.countP (fun z => eqV z y) : Nat), H, I.tok _, ⟨s.toks, ?_⟩, q⟩
    show Value.int ((its.toArray.toList.countP (eqU y) : Nat) : Int) s.toks = Value.int ((ys.countP (fun z => eqV z y) : Nat) : Int) s.toks
    rw [ec]
end
/-! ### the caught error, whatever it bears -/
/-- an own class of errors, as isinstance and the reading of a field ask for it -/
structure ErrC (K : PySem.W.Frag) (D : Addr) : Prop where
  cl : (PySem.W.clsIn K D).isSome = true
  ga : PySem.W.findIn K (.ref D) "__getattribute__" = some (some (.builtin "BaseException.__getattribute__"))
  gt : PySem.W.findIn K (.ref D) "__getattr__" = some none
  be : PySem.W.subIn K (.ref D) (.type "BaseException") = some true
  kc : PySem.W.findIn K (.ref D) "__class__" = some (some (.builtin "object.__class__"))
  sg : PySem.W.specialIn K (.builtin "object.__class__") "__get__" = some (some (.builtin "getset_descriptor.__get__"))
  tk : PySem.W.takesIn K (.builtin "object.__class__") = some true
  ob : PySem.W.mroIn K D (.type "object") = some true
  hd : PySem.W.hasDictIn K D = true
def errB (K : PySem.W.Frag) (D : Addr) : Bool :=
  (PySem.W.clsIn K D).isSome && (decide (PySem.W.findIn K (.ref D) "__getattribute__" = some (some (.builtin "BaseException.__getattribute__"))) && (decide (PySem.W.findIn K (.ref D) "__getattr__" = some none) &&
  (decide (PySem.W.subIn K (.ref D) (.type "BaseException") = some true) && (decide (PySem.W.findIn K (.ref D) "__class__" = some (some (.builtin "object.__class__"))) &&
  (decide (PySem.W.specialIn K (.builtin "object.__class__") "__get__" = some (some (.builtin "getset_descriptor.__get__"))) && (decide (PySem.W.takesIn K (.builtin "object.__class__") = some true) &&
  (decide (PySem.W.mroIn K D (.type "object") = some true) && PySem.W.hasDictIn K D)))))))
theorem errC_of {K : PySem.W.Frag} {D : Addr} (h : errB K D = true) : ErrC K D := by
  unfold errB at h
  simp only [Bool.and_eq_true, decide_eq_true_eq] at h
  obtain ⟨h1, h2, h3, h4, h5, h6, h7, h8, h9⟩ := h
  exact ⟨h1, h2, h3, h4, h5, h6, h7, h8, h9⟩
section
variable {X : Cx} {a : Addr} {cls : Value} {oe : Obj} {pn : List (Addr × Obj)} {d : Option Addr}
theorem err_inst {D : Addr} {h : Heap} (hz : Zc (.ref D) d oe) (hf : ∃ vs, oe.data = .fields vs) (hget : h.get? a = some oe) (hd : ∀ dd, d = some dd → ∃ od, h.get? dd = some od) : ∃ od, PySem.W.InstAt h a oe D od := by
  obtain ⟨oc, odd, oda, osl⟩ := oe
  obtain ⟨h1, h2⟩ := hz
  obtain ⟨vs, hv⟩ := hf
  dsimp only at h1 h2 hv
  subst h1 h2 hv
  cases odd with
  | none => exact ⟨none, hget, rfl, rfl, trivial⟩
  | some dd =>
    obtain ⟨od, ho⟩ := hd dd rfl
    exact ⟨some od, hget, rfl, rfl, ho⟩
/-- its dict stands, where it has one -/
def XdOk (d : Option Addr) (H : Hp) : Prop := ∀ dd, d = some dd → ∃ fs, H dd = some (.xd fs)
def rIsG (K : PySem.W.Frag) (a : Addr) (cls : Value) (d : Option Addr) : List V → Hp → VK → Prop := fun xs H Q =>
  ∃ (D : Addr) (c : V) (cv : Value) (b : Bool), cls = .ref D ∧ ErrC K D ∧ XdOk d H ∧ xs = [.ref a, c] ∧ (∀ u, RelV c u → u = cv) ∧ PySem.W.kitOne K (.ref D) cv = some b ∧ Q (.bl b) H
theorem call_isG (hz : Zc cls d oe) (hf : ∃ vs, oe.data = .fields vs) : CallR (X.suite a ((a, oe) :: pn)) (.builtin "isinstance") (rIsG X.K a cls d) := by
  intro pins s σ H xs us Q I r h
  obtain ⟨D, c, cv, b, ec, C, hx, rfl, hcv, e, q⟩ := h
  subst ec
  obtain ⟨u1, u2, rfl, r1, r2⟩ := vals2 r
  obtain rfl : u1 = Value.ref a := r1
  have e2 := hcv _ r2
  subst e2
  obtain ⟨hget, _⟩ := I.pin (a, oe) (List.mem_append_left _ List.mem_cons_self)
  obtain ⟨od, J⟩ := err_inst (h := s.heap) hz hf hget fun dd ed => by
    obtain ⟨fs, e⟩ := hx dd ed
    obtain ⟨mA, ⟨o, _, _, ho, _⟩, _⟩ := (show ObjOk X.prog X.w H s.heap dd (.xd fs) from I.hok dd _ e)
    exact ⟨o, ho⟩
  exact PySem.W.kia_one (PySem.W.kitx_exc C.cl C.ga C.gt C.be C.kc C.sg C.tk C.ob) I.kIn J e (fun z => nomatch z) fun tk => ⟨.bl b, H, I.kept (t' := tk) fun _ _ z => z, rfl, q⟩
/-- e.n, e the error that the suite holds -/
def tXg (K : PySem.W.Frag) (a : Addr) (cls : Value) (d : Option Addr) (n : Str) (te : TE) : TE := fun σ H Q => te σ H fun x H1 => x = .ref a ∧ ∃ (D dd : Addr) (fs : List (Str × V)) (v : V), cls = .ref D ∧ ErrC K D ∧ PySem.W.findIn K (.ref D) n = some none ∧ d = some dd ∧ H1 dd = some (.xd fs) ∧ fs.lookup n = some v ∧ Q v H1
theorem pe_xg {e : Expr} {te : TE} {pos : Pos} {n : Str} (hz : Zc cls d oe) (hf : ∃ vs, oe.data = .fields vs) (he : PE (X.suite a ((a, oe) :: pn)) e te) (hb : attributeBase e n X.env (eval e X.env) = eval e X.env := by rfl) :
    PE (X.suite a ((a, oe) :: pn)) (.Attribute e n pos) (tXg X.K a cls d n te) := by
  refine ⟨fun pins s σ H Q I h => attr_of hb (thn (he.run pins s σ H _ I h) fun u s1 hh => ?_)⟩
  obtain ⟨x, H1, I1, rx, ex, D, dd, fs, v, ec, C, hno, ed, ea, l, q⟩ := hh
  subst ex ec ed
  obtain rfl : u = Value.ref a := rx
  obtain ⟨ha, _⟩ := I1.pin (a, oe) (List.mem_append_left _ List.mem_cons_self)
  obtain ⟨vs, hd⟩ := hf
  obtain ⟨mA, hns, hr⟩ := (show ObjOk X.prog X.w H1 s1.heap dd (.xd fs) from I1.hok dd _ ea)
  obtain ⟨od, ho, hl⟩ := lookIn_ns hns
  obtain ⟨u, hu, ru⟩ := RelO.some_of (v := v) (o := mA n) (by rw [← l]; exact hr n)
  have J : PySem.W.InstAt s1.heap a oe D (some od) := ⟨ha, hz.1, by unfold PySem.W.notCls; rw [hd] <;> rfl, by rw [hz.2]; exact ho⟩
  exact HandSPX.exc_get I1.kIn J C.ga C.gt C.be (PySem.W.findObj_own C.hd hno rfl (by rw [hl, hu])) (handed_of ru) ⟨v, H1, I1.tok _, ru, q⟩
end
end Sc
namespace Sc
open PySem PySem.Spec PyProof.Rows L2 NdefX
/-! ### own errors with fields, made and raised -/
/-- what an f-string takes -/
def FOk : V → Prop
  | .int i => i.natAbs.log2 < 1920
  | .str z => z.length ≤ 1000000
  | _ => False
theorem fmt_at {y : V} {R : Str → Prop} (ok : FOk y) (q : ∀ z : Str, z.length ≤ 1000000 → R z) : (∃ z : Str, y = .str z ∧ z.length ≤ sizeLine ∧ R z) ∨ ∃ i : Int, y = .int i ∧ i.natAbs.log2 < 1920 ∧ R (toString i) := by
  cases y with
  | str z => exact .inl ⟨z, rfl, Nat.le_trans ok (by rw [sizeLine_eq]; decide), q z ok⟩
  | int i =>
    refine .inr ⟨i, rfl, ok, q _ ?_⟩
    have e : (PySem.Str.ofString (toString i)).length ≤ 1921 := int_text_len_1921 ok
    exact Nat.le_trans e (by decide)
  | _ => exact ok.elim
theorem fok_nat {i : Nat} (hi : i ≤ 1000) : FOk (.int (i : Nat)) := by
  show (i : Int).natAbs.log2 < 1920
  have e1 : (i : Int).natAbs = i := rfl
  rw [e1]
  by_cases h0 : i = 0
  · subst h0
    decide
  · have := (Nat.log2_lt h0 (k := 10)).mpr (Nat.lt_of_le_of_lt hi (by decide))
    omega
theorem app_len {a b : Str} : (a ++ b).length = a.length + b.length := by
  show (a.cps ++ b.cps).size = a.cps.size + b.cps.size
  exact Array.size_append
/-- a rule of arguments, its reading made monotone -/
theorem pa_mono {X : Cx} {es : List Expr} {ta : TA} (h : PA X es ta) : PA X es (fun σ H Q => ∃ R, ta σ H R ∧ ∀ vs H1, R vs H1 → Q vs H1) := by
  refine ⟨fun pos pins s σ H Q I ⟨R, q, k⟩ => wpAny_mono (h.run pos pins s σ H R I q) (fun us s1 ⟨vs, H1, J, r, z⟩ => ⟨vs, H1, J, r, k vs H1 z⟩) fun _ _ z => z⟩
/-- the promise of an __init__ that keeps its fields fs, in their order -/
def sp_init1 (C : Addr) (f : Str) : Sp := fun vs H Q _ => ∃ (a : Addr) (y : V), vs = [.ref a, y] ∧ H a = some (exo a C none) ∧ FOk y ∧ ∀ dx, H dx = none → dx ≠ a → Q .non (upd (upd H dx (exd dx [(f, y)])) a (exo a C (some dx)))
def sp_init2 (C : Addr) (f g : Str) : Sp := fun vs H Q _ => ∃ (a : Addr) (y z : V), vs = [.ref a, y, z] ∧ H a = some (exo a C none) ∧ FOk y ∧ FOk z ∧
  ∀ dx, H dx = none → dx ≠ a → Q .non (upd (upd (upd H dx (exd dx [(f, y)])) a (exo a C (some dx))) dx (exd dx [(g, z), (f, y)]))
/-- the class x at C, its __init__ keeping sp -/
structure ErrMk (P : Program) (w : World) (K : PySem.W.Frag) (mg : Str → Option Value) (base : Heap) (x : Str) (C : Addr) (ps : List Str) (sp : Sp) : Prop where
  ex : ∃ (fI : Addr) (fd : FuncData), OexC K C ∧ PySem.W.findIn K (.ref C) "__init__" = some (some (.ref fI)) ∧ PySem.W.typeIn K (.ref fI) = some (.type "function") ∧ FnOk P w K mg base CX0 1 fI fd ps sp ∧ Binds K fd ps [] ∧ mg x = some (.ref C)
theorem let_go {H : Hp} {a d : Addr} {o o' u : HO} (n : H a = none) (ne : d ≠ a) : upd (del (upd (upd H d u) a o) a) d o' = upd H d o' := by
  funext b
  by_cases hd : b = d
  · rw [hd, upd_same, upd_same]
  · rw [upd_ne hd, upd_ne hd]
    by_cases ha : b = a
    · rw [ha, del_same, n]
    · rw [del_ne ha, upd_ne ha, upd_ne hd]
section
variable {X : Cx} {x f g : Str} {C : Addr} {ps : List Str} {e e2 : Expr} {te te2 : TE} {p pos : Pos}
/-- x(e): an error whose own dict, new, holds the field -/
def tErr1 (C : Addr) (f : Str) (te : TE) : L2.St → Hp → XK → Prop := fun σ H Q => te σ H fun y H1 => FOk y ∧ ∀ d, H1 d = none → Q (.ref C) (some d) (upd H1 d (.xd [(f, y)]))
theorem pmk_err1 (M : ErrMk X.prog X.w X.K X.mg X.base x C ps (sp_init1 C f)) (hr : Room 2 X.A) (he : PE X e te) (hg : Gl X x := by rfl) (hdb : (x == ("__debug__" : Str)) = false := by decide)
    (hs : starEach [e] X.env = (false, eval e X.env) :: starEach [] X.env := by rfl) : PMk X (.Call (.Name x p) [e] [] pos) (tErr1 C f te) := by
  obtain ⟨fI, fd, T, iC, tI, F, hb, hm⟩ := M.ex
  intro pins s σ H Q I h
  refine pmk_oex (CX := CX0) T iC tI F hr hb .nil (fun _ _ _ _ _ _ _ z => z.elim) hg hm (pa_mono (pa_cons he pa_nil hs)) hdb hs rfl pins s σ H Q I ?_
  refine ⟨fun vs H1 => match vs with
    | [y] => FOk y ∧ ∀ d, H1 d = none → Q (.ref C) (some d) (upd H1 d (.xd [(f, y)]))
    | _ => False, h, fun vs H1 r => ?_⟩
  match vs, r with
  | [y], ⟨ok, q⟩ =>
    refine ⟨by simp, fun a na => ⟨a, y, rfl, upd_same, ok, fun dx nd ne => ⟨rfl, dx, _, upd_same, by rw [upd_ne ne, upd_same], ?_, ?_⟩⟩⟩
    · rw [upd_ne ne] at nd
      exact nd
    · rw [upd_ne ne] at nd
      have e1 : upd (upd (upd H1 a (exo a C none)) dx (exd dx [(f, y)])) a (exo a C (some dx)) = upd (upd H1 dx (exd dx [(f, y)])) a (exo a C (some dx)) := by
        funext b
        by_cases ha : b = a
        · rw [ha, upd_same, upd_same]
        · rw [upd_ne ha, upd_ne ha]
          by_cases hb : b = dx
          · rw [hb, upd_same, upd_same]
          · rw [upd_ne hb, upd_ne hb, upd_ne ha]
      rw [e1, let_go na ne]
      exact q dx nd
/-- x(e, e2): two fields -/
def tErr2 (C : Addr) (f g : Str) (te te2 : TE) : L2.St → Hp → XK → Prop := fun σ H Q => te σ H fun y H0 => te2 σ H0 fun z H1 => (FOk y ∧ FOk z) ∧ ∀ d, H1 d = none → Q (.ref C) (some d) (upd H1 d (.xd [(g, z), (f, y)]))
theorem pmk_err2 (M : ErrMk X.prog X.w X.K X.mg X.base x C ps (sp_init2 C f g)) (hr : Room 2 X.A) (he : PE X e te) (he2 : PE X e2 te2) (hg : Gl X x := by rfl) (hdb : (x == ("__debug__" : Str)) = false := by decide)
    (hs : starEach [e, e2] X.env = (false, eval e X.env) :: starEach [e2] X.env := by rfl) (hs2 : starEach [e2] X.env = (false, eval e2 X.env) :: starEach [] X.env := by rfl) (hpl : (backTo pos (starEach [e2] X.env)).any (·.1) = false := by rfl) :
    PMk X (.Call (.Name x p) [e, e2] [] pos) (tErr2 C f g te te2) := by
  obtain ⟨fI, fd, T, iC, tI, F, hb, hm⟩ := M.ex
  intro pins s σ H Q I h
  refine pmk_oex (CX := CX0) T iC tI F hr hb .nil (fun _ _ _ _ _ _ _ z => z.elim) hg hm (pa_mono (pa_cons he (pa_cons he2 pa_nil hs2) hs)) hdb hs hpl pins s σ H Q I ?_
  refine ⟨fun vs H1 => match vs with
    | [y, z] => (FOk y ∧ FOk z) ∧ ∀ d, H1 d = none → Q (.ref C) (some d) (upd H1 d (.xd [(g, z), (f, y)]))
    | _ => False, h, fun vs H1 r => ?_⟩
  match vs, r with
  | [y, z], ⟨⟨ok, ok2⟩, q⟩ =>
    refine ⟨by simp, fun a na => ⟨a, y, z, rfl, upd_same, ok, ok2, fun dx nd ne => ⟨rfl, dx, _, by rw [upd_ne ne.symm, upd_same], upd_same, ?_, ?_⟩⟩⟩
    · rw [upd_ne ne] at nd
      exact nd
    · rw [upd_ne ne] at nd
      have e1 : upd (del (upd (upd (upd (upd H1 a (exo a C none)) dx (exd dx [(f, y)])) a (exo a C (some dx))) dx (exd dx [(g, z), (f, y)])) a) dx (.xd [(g, z), (f, y)]) = upd H1 dx (.xd [(g, z), (f, y)]) := by
        funext b
        by_cases hb : b = dx
        · rw [hb, upd_same, upd_same]
        · rw [upd_ne hb, upd_ne hb]
          by_cases ha : b = a
          · rw [ha, del_same, na]
          · rw [del_ne ha, upd_ne hb, upd_ne ha, upd_ne hb, upd_ne ha]
      rw [e1]
      exact q dx nd
/-- the class x at C, without an __init__ of its own -/
structure ErrMk0 (K : PySem.W.Frag) (mg : Str → Option Value) (x : Str) (C : Addr) : Prop where
  q : PySem.W.excIn K C [.type "ValueError", .type "Exception", .type "BaseException", .type "object"] "ValueError.__new__" = true
  g : mg x = some (.ref C)
  k : PySem.W.keepIn K (.ref C) = true
  b : PySem.W.subIn K (.ref C) (.type "BaseException") = some true
  t : PySem.W.typeIn K (.ref C) = some (.type "type")
theorem pmk_err0 {m : Str} {j : Nat} {p2 : Pos} (M : ErrMk0 X.K X.mg x C) (hg : Gl X x := by rfl) (hdb : (x == ("__debug__" : Str)) = false := by decide) :
    PMk X (.Call (.Name x p) [.Constant (.str m) j p2] [] pos) (fun _ H Q => Q (.ref C) none H) := pmk_own PySem.F.excBase_ValueError M.q M.g M.k (raises_own M.b M.t) hg hdb
end
end Sc
namespace Sc
open PySem PySem.Spec PyProof.Rows L2 NdefX
def topS (i : Nat) : Stmt := PySem.Challenge.pw_smallcourt_k03_whole_conditions_met.main.body.getD i (.Pass ⟨0, 0, 0, 0⟩)
section
variable {P : Program} {w : World} {K : PySem.W.Frag} {mg : Str → Option Value} {base : Heap}
theorem sc_init_InvalidFacts : NScope ["self", "index", "__class__"] ["self", "index"] ["__class__"] (defScope (inClass (topS 2) 0)) := nscope_by (by decide +kernel)
abbrev nf_InvalidFacts (cc c : Addr) : NF := ⟨"__init__", "InvalidFacts.__init__", defArgs (inClass (topS 2) 0), defBody (inClass (topS 2) 0), defScope (inClass (topS 2) 0), [(("__class__" : Str), cc)], c⟩
theorem ok_init_InvalidFacts {fI C cc c : Addr} {oc kV doc pm ct : Value} {od an : Option Addr} {osl : Array (Option Value)} (lk : K.lookup fI = some ⟨oc, od, .func (supFd (nf_InvalidFacts cc c) kV doc pm an ct), osl⟩)
    (hcd : PySem.W.codeIn K (.ref c) "InvalidFacts.__init__" = true) (T : OexC K C) (S : SupC P K mg C cc c) (n0 : PySem.W.findIn K (.ref C) "index" = some none) : FnOk P w K mg base CX0 1 fI (supFd (nf_InvalidFacts cc c) kV doc pm an ct) ["self", "index"] (sp_init1 C "index") := by
  refine fn_sup (N := ["self", "index", "__class__"]) (ps := ["self", "index"]) lk hcd rfl sc_init_InvalidFacts T S (fun vs H Q E h => ?_) rfl rfl rfl rfl rfl (fun A outer s H vs Q E hr h => ?_) (fun L => ⟨_, rfl⟩) (fun L => rfl) (fun L => rfl) (fun L => rfl) (fun L => rfl)
  · obtain ⟨a, y0, rfl, ha, ok0, q⟩ := h
    rfl
  · obtain ⟨a, y0, rfl, ha, ok0, q⟩ := h
    refine ⟨_, _, pa_cons (pe_joined (PJ.cons pe_str (PJ.cons (pe_fmt (pv 1)) PJ.nil))) pa_nil, pss_one (ps_ost (pv 0) (pv 1)), a, rfl, ha, ?_⟩
    refine ⟨_, rfl, (by rw [sizeLine_eq]; simp only [app_len]; have e0 : Str.empty.length = 0 := rfl; have e1 : (("wrong fact at index " : Str)).length = 20 := (by decide +kernel); omega), ⟨y0, rfl, fmt_at ok0 fun z0 hz0 => ⟨_, rfl, (by rw [sizeLine_eq]; simp only [app_len]; have e0 : Str.empty.length = 0 := rfl; have e1 : (("wrong fact at index " : Str)).length = 20 := (by decide +kernel); omega), ⟨by simp, ha, y0, rfl, .ref a, rfl, a, C, rfl, T, n0, .inl ⟨ha, fun dx nd ne => q dx nd ne⟩⟩⟩⟩⟩

theorem sc_init_InvalidCase : NScope ["self", "index", "__class__"] ["self", "index"] ["__class__"] (defScope (inClass (topS 3) 0)) := nscope_by (by decide +kernel)
abbrev nf_InvalidCase (cc c : Addr) : NF := ⟨"__init__", "InvalidCase.__init__", defArgs (inClass (topS 3) 0), defBody (inClass (topS 3) 0), defScope (inClass (topS 3) 0), [(("__class__" : Str), cc)], c⟩
theorem ok_init_InvalidCase {fI C cc c : Addr} {oc kV doc pm ct : Value} {od an : Option Addr} {osl : Array (Option Value)} (lk : K.lookup fI = some ⟨oc, od, .func (supFd (nf_InvalidCase cc c) kV doc pm an ct), osl⟩)
    (hcd : PySem.W.codeIn K (.ref c) "InvalidCase.__init__" = true) (T : OexC K C) (S : SupC P K mg C cc c) (n0 : PySem.W.findIn K (.ref C) "index" = some none) : FnOk P w K mg base CX0 1 fI (supFd (nf_InvalidCase cc c) kV doc pm an ct) ["self", "index"] (sp_init1 C "index") := by
  refine fn_sup (N := ["self", "index", "__class__"]) (ps := ["self", "index"]) lk hcd rfl sc_init_InvalidCase T S (fun vs H Q E h => ?_) rfl rfl rfl rfl rfl (fun A outer s H vs Q E hr h => ?_) (fun L => ⟨_, rfl⟩) (fun L => rfl) (fun L => rfl) (fun L => rfl) (fun L => rfl)
  · obtain ⟨a, y0, rfl, ha, ok0, q⟩ := h
    rfl
  · obtain ⟨a, y0, rfl, ha, ok0, q⟩ := h
    refine ⟨_, _, pa_cons (pe_joined (PJ.cons pe_str (PJ.cons (pe_fmt (pv 1)) PJ.nil))) pa_nil, pss_one (ps_ost (pv 0) (pv 1)), a, rfl, ha, ?_⟩
    refine ⟨_, rfl, (by rw [sizeLine_eq]; simp only [app_len]; have e0 : Str.empty.length = 0 := rfl; have e1 : (("wrong name in the case at index " : Str)).length = 32 := (by decide +kernel); omega), ⟨y0, rfl, fmt_at ok0 fun z0 hz0 => ⟨_, rfl, (by rw [sizeLine_eq]; simp only [app_len]; have e0 : Str.empty.length = 0 := rfl; have e1 : (("wrong name in the case at index " : Str)).length = 32 := (by decide +kernel); omega), ⟨by simp, ha, y0, rfl, .ref a, rfl, a, C, rfl, T, n0, .inl ⟨ha, fun dx nd ne => q dx nd ne⟩⟩⟩⟩⟩

theorem sc_init_InvalidCondition : NScope ["self", "part", "index", "__class__"] ["self", "part", "index"] ["__class__"] (defScope (inClass (topS 5) 0)) := nscope_by (by decide +kernel)
abbrev nf_InvalidCondition (cc c : Addr) : NF := ⟨"__init__", "InvalidCondition.__init__", defArgs (inClass (topS 5) 0), defBody (inClass (topS 5) 0), defScope (inClass (topS 5) 0), [(("__class__" : Str), cc)], c⟩
theorem ok_init_InvalidCondition {fI C cc c : Addr} {oc kV doc pm ct : Value} {od an : Option Addr} {osl : Array (Option Value)} (lk : K.lookup fI = some ⟨oc, od, .func (supFd (nf_InvalidCondition cc c) kV doc pm an ct), osl⟩)
    (hcd : PySem.W.codeIn K (.ref c) "InvalidCondition.__init__" = true) (T : OexC K C) (S : SupC P K mg C cc c) (n0 : PySem.W.findIn K (.ref C) "part" = some none) (n1 : PySem.W.findIn K (.ref C) "index" = some none) : FnOk P w K mg base CX0 1 fI (supFd (nf_InvalidCondition cc c) kV doc pm an ct) ["self", "part", "index"] (sp_init2 C "part" "index") := by
  refine fn_sup (N := ["self", "part", "index", "__class__"]) (ps := ["self", "part", "index"]) lk hcd rfl sc_init_InvalidCondition T S (fun vs H Q E h => ?_) rfl rfl rfl rfl rfl (fun A outer s H vs Q E hr h => ?_) (fun L => ⟨_, rfl⟩) (fun L => rfl) (fun L => rfl) (fun L => rfl) (fun L => rfl)
  · obtain ⟨a, y0, y1, rfl, ha, ok0, ok1, q⟩ := h
    rfl
  · obtain ⟨a, y0, y1, rfl, ha, ok0, ok1, q⟩ := h
    refine ⟨_, _, pa_cons (pe_joined (PJ.cons pe_str (PJ.cons (pe_fmt (pv 1)) (PJ.cons pe_str (PJ.cons (pe_fmt (pv 2)) PJ.nil))))) pa_nil, pss_cons (ps_ost (pv 0) (pv 1)) (pss_one (ps_ost (pv 0) (pv 2))), a, rfl, ha, ?_⟩
    refine ⟨_, rfl, (by rw [sizeLine_eq]; simp only [app_len]; have e0 : Str.empty.length = 0 := rfl; have e1 : (("wrong name in part " : Str)).length = 19 := (by decide +kernel); have e2 : ((" of the condition at index " : Str)).length = 27 := (by decide +kernel); omega), ⟨y0, rfl, fmt_at ok0 fun z0 hz0 => ⟨_, rfl, (by rw [sizeLine_eq]; simp only [app_len]; have e0 : Str.empty.length = 0 := rfl; have e1 : (("wrong name in part " : Str)).length = 19 := (by decide +kernel); have e2 : ((" of the condition at index " : Str)).length = 27 := (by decide +kernel); omega), ⟨_, rfl, (by rw [sizeLine_eq]; simp only [app_len]; have e0 : Str.empty.length = 0 := rfl; have e1 : (("wrong name in part " : Str)).length = 19 := (by decide +kernel); have e2 : ((" of the condition at index " : Str)).length = 27 := (by decide +kernel); omega), ⟨y1, rfl, fmt_at ok1 fun z1 hz1 => ⟨_, rfl, (by rw [sizeLine_eq]; simp only [app_len]; have e0 : Str.empty.length = 0 := rfl; have e1 : (("wrong name in part " : Str)).length = 19 := (by decide +kernel); have e2 : ((" of the condition at index " : Str)).length = 27 := (by decide +kernel); omega), ⟨by simp, ha, y0, rfl, .ref a, rfl, a, C, rfl, T, n0, .inl ⟨ha, fun dx nd ne => ⟨y1, rfl, .ref a, rfl, a, C, rfl, T, n1, .inr ⟨dx, _, upd_same, by rw [upd_ne ne, upd_same], by simp, q dx nd ne⟩⟩⟩⟩⟩⟩⟩⟩⟩⟩

theorem sc_init_InvalidRule : NScope ["self", "part", "__class__"] ["self", "part"] ["__class__"] (defScope (inClass (topS 7) 0)) := nscope_by (by decide +kernel)
abbrev nf_InvalidRule (cc c : Addr) : NF := ⟨"__init__", "InvalidRule.__init__", defArgs (inClass (topS 7) 0), defBody (inClass (topS 7) 0), defScope (inClass (topS 7) 0), [(("__class__" : Str), cc)], c⟩
theorem ok_init_InvalidRule {fI C cc c : Addr} {oc kV doc pm ct : Value} {od an : Option Addr} {osl : Array (Option Value)} (lk : K.lookup fI = some ⟨oc, od, .func (supFd (nf_InvalidRule cc c) kV doc pm an ct), osl⟩)
    (hcd : PySem.W.codeIn K (.ref c) "InvalidRule.__init__" = true) (T : OexC K C) (S : SupC P K mg C cc c) (n0 : PySem.W.findIn K (.ref C) "part" = some none) : FnOk P w K mg base CX0 1 fI (supFd (nf_InvalidRule cc c) kV doc pm an ct) ["self", "part"] (sp_init1 C "part") := by
  refine fn_sup (N := ["self", "part", "__class__"]) (ps := ["self", "part"]) lk hcd rfl sc_init_InvalidRule T S (fun vs H Q E h => ?_) rfl rfl rfl rfl rfl (fun A outer s H vs Q E hr h => ?_) (fun L => ⟨_, rfl⟩) (fun L => rfl) (fun L => rfl) (fun L => rfl) (fun L => rfl)
  · obtain ⟨a, y0, rfl, ha, ok0, q⟩ := h
    rfl
  · obtain ⟨a, y0, rfl, ha, ok0, q⟩ := h
    refine ⟨_, _, pa_cons (pe_joined (PJ.cons pe_str (PJ.cons (pe_fmt (pv 1)) (PJ.cons pe_str PJ.nil)))) pa_nil, pss_one (ps_ost (pv 0) (pv 1)), a, rfl, ha, ?_⟩
    refine ⟨_, rfl, (by rw [sizeLine_eq]; simp only [app_len]; have e0 : Str.empty.length = 0 := rfl; have e1 : (("wrong " : Str)).length = 6 := (by decide +kernel); have e2 : ((" of a rule" : Str)).length = 10 := (by decide +kernel); omega), ⟨y0, rfl, fmt_at ok0 fun z0 hz0 => ⟨_, rfl, (by rw [sizeLine_eq]; simp only [app_len]; have e0 : Str.empty.length = 0 := rfl; have e1 : (("wrong " : Str)).length = 6 := (by decide +kernel); have e2 : ((" of a rule" : Str)).length = 10 := (by decide +kernel); omega), ⟨_, rfl, (by rw [sizeLine_eq]; simp only [app_len]; have e0 : Str.empty.length = 0 := rfl; have e1 : (("wrong " : Str)).length = 6 := (by decide +kernel); have e2 : ((" of a rule" : Str)).length = 10 := (by decide +kernel); omega), ⟨by simp, ha, y0, rfl, .ref a, rfl, a, C, rfl, T, n0, .inl ⟨ha, fun dx nd ne => q dx nd ne⟩⟩⟩⟩⟩⟩

theorem sc_init_InvalidBook : NScope ["self", "word", "index", "__class__"] ["self", "word", "index"] ["__class__"] (defScope (inClass (topS 8) 0)) := nscope_by (by decide +kernel)
abbrev nf_InvalidBook (cc c : Addr) : NF := ⟨"__init__", "InvalidBook.__init__", defArgs (inClass (topS 8) 0), defBody (inClass (topS 8) 0), defScope (inClass (topS 8) 0), [(("__class__" : Str), cc)], c⟩
theorem ok_init_InvalidBook {fI C cc c : Addr} {oc kV doc pm ct : Value} {od an : Option Addr} {osl : Array (Option Value)} (lk : K.lookup fI = some ⟨oc, od, .func (supFd (nf_InvalidBook cc c) kV doc pm an ct), osl⟩)
    (hcd : PySem.W.codeIn K (.ref c) "InvalidBook.__init__" = true) (T : OexC K C) (S : SupC P K mg C cc c) (n0 : PySem.W.findIn K (.ref C) "word" = some none) (n1 : PySem.W.findIn K (.ref C) "index" = some none) : FnOk P w K mg base CX0 1 fI (supFd (nf_InvalidBook cc c) kV doc pm an ct) ["self", "word", "index"] (sp_init2 C "word" "index") := by
  refine fn_sup (N := ["self", "word", "index", "__class__"]) (ps := ["self", "word", "index"]) lk hcd rfl sc_init_InvalidBook T S (fun vs H Q E h => ?_) rfl rfl rfl rfl rfl (fun A outer s H vs Q E hr h => ?_) (fun L => ⟨_, rfl⟩) (fun L => rfl) (fun L => rfl) (fun L => rfl) (fun L => rfl)
  · obtain ⟨a, y0, y1, rfl, ha, ok0, ok1, q⟩ := h
    rfl
  · obtain ⟨a, y0, y1, rfl, ha, ok0, ok1, q⟩ := h
    refine ⟨_, _, pa_cons (pe_joined (PJ.cons pe_str (PJ.cons (pe_fmt (pv 1)) (PJ.cons pe_str (PJ.cons (pe_fmt (pv 2)) PJ.nil))))) pa_nil, pss_cons (ps_ost (pv 0) (pv 1)) (pss_one (ps_ost (pv 0) (pv 2))), a, rfl, ha, ?_⟩
    refine ⟨_, rfl, (by rw [sizeLine_eq]; simp only [app_len]; have e0 : Str.empty.length = 0 := rfl; have e1 : (("wrong book by " : Str)).length = 14 := (by decide +kernel); have e2 : ((" at index " : Str)).length = 10 := (by decide +kernel); omega), ⟨y0, rfl, fmt_at ok0 fun z0 hz0 => ⟨_, rfl, (by rw [sizeLine_eq]; simp only [app_len]; have e0 : Str.empty.length = 0 := rfl; have e1 : (("wrong book by " : Str)).length = 14 := (by decide +kernel); have e2 : ((" at index " : Str)).length = 10 := (by decide +kernel); omega), ⟨_, rfl, (by rw [sizeLine_eq]; simp only [app_len]; have e0 : Str.empty.length = 0 := rfl; have e1 : (("wrong book by " : Str)).length = 14 := (by decide +kernel); have e2 : ((" at index " : Str)).length = 10 := (by decide +kernel); omega), ⟨y1, rfl, fmt_at ok1 fun z1 hz1 => ⟨_, rfl, (by rw [sizeLine_eq]; simp only [app_len]; have e0 : Str.empty.length = 0 := rfl; have e1 : (("wrong book by " : Str)).length = 14 := (by decide +kernel); have e2 : ((" at index " : Str)).length = 10 := (by decide +kernel); omega), ⟨by simp, ha, y0, rfl, .ref a, rfl, a, C, rfl, T, n0, .inl ⟨ha, fun dx nd ne => ⟨y1, rfl, .ref a, rfl, a, C, rfl, T, n1, .inr ⟨dx, _, upd_same, by rw [upd_ne ne, upd_same], by simp, q dx nd ne⟩⟩⟩⟩⟩⟩⟩⟩⟩⟩

theorem sc_init_InvalidChance : NScope ["self", "fact", "__class__"] ["self", "fact"] ["__class__"] (defScope (inClass (topS 14) 0)) := nscope_by (by decide +kernel)
abbrev nf_InvalidChance (cc c : Addr) : NF := ⟨"__init__", "InvalidChance.__init__", defArgs (inClass (topS 14) 0), defBody (inClass (topS 14) 0), defScope (inClass (topS 14) 0), [(("__class__" : Str), cc)], c⟩
theorem ok_init_InvalidChance {fI C cc c : Addr} {oc kV doc pm ct : Value} {od an : Option Addr} {osl : Array (Option Value)} (lk : K.lookup fI = some ⟨oc, od, .func (supFd (nf_InvalidChance cc c) kV doc pm an ct), osl⟩)
    (hcd : PySem.W.codeIn K (.ref c) "InvalidChance.__init__" = true) (T : OexC K C) (S : SupC P K mg C cc c) (n0 : PySem.W.findIn K (.ref C) "fact" = some none) : FnOk P w K mg base CX0 1 fI (supFd (nf_InvalidChance cc c) kV doc pm an ct) ["self", "fact"] (sp_init1 C "fact") := by
  refine fn_sup (N := ["self", "fact", "__class__"]) (ps := ["self", "fact"]) lk hcd rfl sc_init_InvalidChance T S (fun vs H Q E h => ?_) rfl rfl rfl rfl rfl (fun A outer s H vs Q E hr h => ?_) (fun L => ⟨_, rfl⟩) (fun L => rfl) (fun L => rfl) (fun L => rfl) (fun L => rfl)
  · obtain ⟨a, y0, rfl, ha, ok0, q⟩ := h
    rfl
  · obtain ⟨a, y0, rfl, ha, ok0, q⟩ := h
    refine ⟨_, _, pa_cons (pe_joined (PJ.cons pe_str (PJ.cons (pe_fmt (pv 1)) PJ.nil))) pa_nil, pss_one (ps_ost (pv 0) (pv 1)), a, rfl, ha, ?_⟩
    refine ⟨_, rfl, (by rw [sizeLine_eq]; simp only [app_len]; have e0 : Str.empty.length = 0 := rfl; have e1 : (("wrong chance of " : Str)).length = 16 := (by decide +kernel); omega), ⟨y0, rfl, fmt_at ok0 fun z0 hz0 => ⟨_, rfl, (by rw [sizeLine_eq]; simp only [app_len]; have e0 : Str.empty.length = 0 := rfl; have e1 : (("wrong chance of " : Str)).length = 16 := (by decide +kernel); omega), ⟨by simp, ha, y0, rfl, .ref a, rfl, a, C, rfl, T, n0, .inl ⟨ha, fun dx nd ne => q dx nd ne⟩⟩⟩⟩⟩

end
end Sc
namespace Sc
open PySem PySem.Spec PyProof.Rows L2
/-! ### names -/
abbrev s_is_name : Stmt := topS 22
theorem sc_is_name : FnScope ["value", "letter"] ["value"] (defScope s_is_name) := ⟨rfl, rfl, rfl, by decide +kernel, rfl, by decide +kernel, by decide +kernel⟩
abbrev s_rises : Stmt := topS 23
theorem sc_rises : FnScope ["names", "index"] ["names", "index"] (defScope s_rises) := ⟨rfl, rfl, rfl, by decide +kernel, rfl, by decide +kernel, by decide +kernel⟩
def letters : Str := "abcdefghijklmnopqrstuvwxyz"
def isLetters (x : Str) : Bool := x.cps.toList.all fun c => decide (c ∈ letters.cps.toList)
def isName (x : Str) : Bool := decide (1 ≤ x.length) && (decide (x.length ≤ 8) && isLetters x)
def isLetterV (c : Nat) : V := .bl (decide (c ∈ letters.cps.toList))
structure GNames (mg : Str → Option Value) : Prop where
  m_LETTERS : ∃ t, mg "LETTERS" = some (.str letters t)
  m_LONGEST : ∃ t, mg "LONGEST_NAME" = some (.int 8 t)
section
variable {P : Program} {w : World} {K : PySem.W.Frag} {mg : Str → Option Value} {base : Heap}
def sp_is_name : Sp := fun vs H Q _ => ∃ x : Str, vs = [.str x] ∧ x.length ≤ sizeLine ∧ ∀ H', Same H H' → Q (.bl (isName x)) H'
theorem ok_is_name {f : Addr} {fd : FuncData} (F : Fun K "is_name" "is_name" s_is_name f fd) (B : Blt mg) (G : GNames mg) : FnOk P w K mg base CX0 1 f fd ["value"] sp_is_name := by
  obtain ⟨⟨t1, mL⟩, ⟨t2, mN⟩⟩ := G
  refine F.ok sc_is_name (fun vs H Q E h => by obtain ⟨x, rfl, _⟩ := h; rfl) (fun cdv A outer s H vs Q E hr h => ?_)
  obtain ⟨x, rfl, hx, q⟩ := h
  refine ⟨_, (pss_cons (ps_if (PW.pt (pw_or (pt_not (pt_val (pe_callB (call_isT "str") (by rfl) B.b_isinstance PyProof.Rows.boot_isinstance (pa_cons (pv 0) (pa_cons (pe_bltn (v := .ty "str") (by rfl) B.b_str PyProof.Rows.boot_str rfl) pa_nil))))) (pw_or1 (pt_not (pt_chain op_le op_le pe_int (pe_callB call_len_str (by rfl) B.b_len PySem.boot_len (pa_cons (pv 0) pa_nil)) (pe_glob (v := .int 8) rfl mN ⟨_, rfl⟩)))))) (pss_one (ps_ret pe_bl)) pss_nil)
      (pss_one (ps_ret (pe_callB (cr_all rfl) (by rfl) B.b_all PyProof.Rows.boot_all (pa_cons (pe_lc (own := [("letter", 1)]) (g := gName 1) (tt := tYes) rfl sc_is_name.nd (pi_str (pv 0)) (blkOk_by (own := [("letter", 1)]) (N := ["value", "letter"]) (sc := defScope s_is_name) (by decide +kernel)) (fun _ _ _ _ _ => (pg_name (i := 1) sc_is_name.nd rfl (Or.inl rfl))) (fun _ _ _ _ _ => pts_nil) (fun _ _ _ _ _ => (pe_.re (pe_cmpR op_in_sign (pv 1) (pe_glob (v := .str "abcdefghijklmnopqrstuvwxyz") rfl mL ⟨_, rfl⟩) rfl) (by first | (dsimp only [Cx.blk]; done) | exact rfl)))) pa_nil))))), ?_⟩
  refine ⟨.str x, rfl, _, "str", true, rfl, .str _, by decide +kernel, _, rfl, iteF ?_⟩
  refine ⟨.str x, rfl, x, rfl, hx, 1, x.length, rfl, rfl, _, rfl, bcase (fun h1 => ?_) (fun h1 => ?_)⟩
  · refine ⟨_, _, rfl, rfl, _, rfl, ?_⟩
    have h1 : 1 ≤ x.length := by have := of_decide_eq_true h1; omega
    by_cases h2 : x.length ≤ 8
    · have e2 : decide ((x.length : Int) ≤ 8) = true := decide_eq_true (by omega)
      rw [e2]
      refine iteF ?_
      refine ⟨.str x, rfl, x, rfl, fun D nD => lc_it walk_str (fun i H' => Same H H' ∧ H' D = some (.lst ((x.cps.toList.take i).map isLetterV))) ⟨(Same.refl H).put nD, upd_same⟩ (fun _ _ _ _ => trivial) ?_ ?_⟩
      · rintro i y H2 H3 hi ⟨s, e⟩ ⟨rfl, c, hc, rfl⟩
        refine ⟨rfl, yes_ ⟨_, rfl, c, letters, rfl, rfl, grow (acc := fun i => .map isLetterV (x.cps.toList.take i)) nD s e ?_ ?_⟩⟩
        · rw [List.length_map, List.length_take]
          exact small1000 (by have : x.cps.toList.length = x.length := rfl; omega)
        · show List.map _ _ = _
          rw [take_more (x := c) (by rw [Array.getElem?_toList]; exact hc), List.map_append]
          rfl
      · rintro H2 ⟨s, e⟩
        have el : x.cps.toList.take x.cps.size = x.cps.toList := List.take_of_length_le (by rw [Array.length_toList]; exact Nat.le_refl _)
        rw [el] at e
        refine ⟨D, x.cps.toList.map fun c => decide (c ∈ letters.cps.toList), rfl, sqL_of (by rw [e, List.map_map]; rfl), ?_⟩
        have ea : isName x = (x.cps.toList.map fun c => decide (c ∈ letters.cps.toList)).all id := by
          unfold isName isLetters
          rw [decide_eq_true h1, decide_eq_true h2, Bool.true_and, Bool.true_and, List.all_map]
          rfl
        rw [← ea]
        exact q H2 s
    · have e2 : decide ((x.length : Int) ≤ 8) = false := decide_eq_false (by omega)
      rw [e2]
      refine iteT ?_
      have e : isName x = false := by unfold isName; rw [decide_eq_false h2, Bool.false_and, Bool.and_false]
      rw [← e]
      exact q H (Same.refl H)
  · have h1 : ¬ 1 ≤ x.length := by have := of_decide_eq_false h1; omega
    refine ⟨_, rfl, iteT ?_⟩
    have e : isName x = false := by unfold isName; rw [decide_eq_false h1, Bool.false_and]
    rw [← e]
    exact q H (Same.refl H)
/-- does the i-th name come behind the one before it -/
def risesAt (xs : List Str) (i : Nat) : Bool := decide (i = 0) || match xs[i - 1]?, xs[i]? with
  | some a, some b => decide (a.cps.toList < b.cps.toList)
  | _, _ => false
def sp_rises (K : PySem.W.Frag) : Sp := fun vs H Q _ => ∃ (a : Addr) (xs : List Str) (i : Nat), vs = [.ref a, .int i] ∧ SqT K H a (xs.map V.str) ∧ i < xs.length ∧ Q (.bl (risesAt xs i)) H
theorem ok_rises {f : Addr} {fd : FuncData} (F : Fun K "rises" "rises" s_rises f fd) : FnOk P w K mg base CX0 1 f fd ["names", "index"] (sp_rises K) := by
  refine F.ok sc_rises (fun vs H Q E h => by obtain ⟨a, xs, i, rfl, _⟩ := h; rfl) (fun cdv A outer s H vs Q E hr h => ?_)
  obtain ⟨a, xs, i, rfl, hS, hi, q⟩ := h
  refine ⟨_, (pss_one (ps_ret (pe_or (pe_cmpR op_eq (pv 1) pe_int (nomark _)) (pe_one (pe_cmpR op_lt_str (pe_ix ix_tup (pv 0) (pe_op op_sub (pv 1) pe_int) (fun _ _ => rfl)) (pe_ix ix_tup (pv 0) (pv 1) (fun _ _ => rfl)) (nomark _)))))), ?_⟩
  refine ⟨_, rfl, rfl, _, rfl, bcase (fun e => ?_) (fun e => ?_)⟩
  · have e0 : i = 0 := by have := V.int.inj (of_decide_eq_true e); omega
    have er : risesAt xs i = true := by unfold risesAt; rw [decide_eq_true e0, Bool.true_or]
    rw [er] at q
    exact q
  · have e0 : i ≠ 0 := fun z => by subst z; exact Bool.noConfusion (e.symm.trans (decide_eq_true rfl))
    have h1 : i - 1 < xs.length := by omega
    have g1 : (xs.map V.str)[i - 1]? = some (.str xs[i - 1]) := by rw [List.getElem?_map, List.getElem?_eq_getElem h1]; rfl
    have g2 : (xs.map V.str)[i]? = some (.str xs[i]) := by rw [List.getElem?_map, List.getElem?_eq_getElem hi]; rfl
    refine ⟨.ref a, rfl, .int i, rfl, i, 1, rfl, rfl, a, _, _, _, rfl, rfl, hS, at_of (j := i - 1) (by omega) g1, .ref a, rfl, .int i, rfl, a, _, _, _, rfl, rfl, hS, at_of rfl g2, xs[i - 1], xs[i], rfl, rfl, ?_⟩
    have er : risesAt xs i = decide (xs[i - 1].cps.toList < xs[i].cps.toList) := by
      unfold risesAt
      rw [decide_eq_false e0, Bool.false_or, List.getElem?_eq_getElem h1, List.getElem?_eq_getElem hi]
    rw [← er]
    exact q
end
end Sc
namespace Sc
open PySem PySem.Spec PyProof.Rows L2
/-! ### the law's draws -/
abbrev s__law_mix : Stmt := topS 30
theorem sc__law_mix : FnScope ["_law_script", "_law_seed", "_law_state", "_law_cell"] ["_law_script", "_law_seed"] (defScope s__law_mix) := ⟨rfl, rfl, rfl, by decide +kernel, rfl, by decide +kernel, by decide +kernel⟩
abbrev s__law_next : Stmt := topS 31
theorem sc__law_next : FnScope ["_law_h", "_law_limit", "_law_cell"] ["_law_h", "_law_limit"] (defScope s__law_next) := ⟨rfl, rfl, rfl, by decide +kernel, rfl, by decide +kernel, by decide +kernel⟩
abbrev s__law_facts : Stmt := topS 34
theorem sc__law_facts : FnScope ["_law_h", "_law_count", "_law_some"] ["_law_h", "_law_count"] (defScope s__law_facts) := ⟨rfl, rfl, rfl, by decide +kernel, rfl, by decide +kernel, by decide +kernel⟩
abbrev s__law_alike : Stmt := topS 32
theorem sc__law_alike : FnScope ["_law_found", "_law_due", "_law_k"] ["_law_found", "_law_due"] (defScope s__law_alike) := ⟨rfl, rfl, rfl, by decide +kernel, rfl, by decide +kernel, by decide +kernel⟩
def twelve : List Str := ["age", "bad", "cold", "dear", "early", "first", "good", "hot", "idle", "just", "keen", "late"]
/-- the state of the draws: a list at a, its cells at l -/
def RS (H : Hp) (a l : Addr) : Prop := ∃ (st k : Int) (ns : List Int), H a = some (.lst [.int st, .ref l, .int k]) ∧ H l = some (.lst (ns.map V.int)) ∧ 0 ≤ st ∧ st < 2147483647 ∧ ns.length ≤ 63 ∧ ∀ z ∈ ns, Builtin.Int.intBits z ≤ 1048576
/-- all but the draws' state stands -/
structure Kp (a l : Addr) (H H' : Hp) : Prop where
  old : RS H a l
  new : RS H' a l
  keep : ∀ b o, b ≠ a → b ≠ l → H b = some o → H' b = some o
section
variable {P : Program} {w : World} {K : PySem.W.Frag} {mg : Str → Option Value} {base : Heap} {a l : Addr} {H H' H'' : Hp}
theorem RS.ne (r : RS H a l) : a ≠ l := fun z => by
  obtain ⟨st, k, ns, h1, h2, _⟩ := r
  subst z
  rw [h1] at h2
  have e := HO.lst.inj (Option.some.inj h2)
  match ns, e with
  | [x, y, z], e => cases (List.cons.inj (List.cons.inj e).2).1
theorem RS.same (r : RS H a l) (s : Same H H') : RS H' a l := by
  obtain ⟨st, k, ns, h1, h2, q⟩ := r
  exact ⟨st, k, ns, s _ _ h1, s _ _ h2, q⟩
theorem Kp.refl (r : RS H a l) : Kp a l H H := ⟨r, r, fun _ _ _ _ e => e⟩
theorem Kp.trans (k : Kp a l H H') (k' : Kp a l H' H'') : Kp a l H H'' := ⟨k.old, k'.new, fun b o n1 n2 e => k'.keep b o n1 n2 (k.keep b o n1 n2 e)⟩
theorem Kp.of (r : RS H a l) (s : Same H H') : Kp a l H H' := ⟨r, r.same s, fun b o _ _ e => s b o e⟩
theorem Kp.same (k : Kp a l H H') (s : Same H' H'') : Kp a l H H'' := k.trans (.of k.new s)
theorem RS.no {b : Addr} (r : RS H a l) (e : H b = none) : b ≠ a ∧ b ≠ l := by
  obtain ⟨st, k, ns, h1, h2, _⟩ := r
  exact ⟨fun z => (by rw [z, h1] at e; cases e), fun z => (by rw [z, h2] at e; cases e)⟩
theorem RS.not {b : Addr} {o : HO} (r : RS H a l) (e : H b = some o) (n : ∀ xs, o ≠ .lst xs) : b ≠ a ∧ b ≠ l := by
  obtain ⟨st, k, ns, h1, h2, _⟩ := r
  exact ⟨fun z => (by rw [z, h1] at e; exact n _ (Option.some.inj e).symm), fun z => (by rw [z, h2] at e; exact n _ (Option.some.inj e).symm)⟩
theorem Kp.free {b : Addr} (k : Kp a l H H') (e : H' b = none) : H b = none := by
  cases q : H b with
  | none => rfl
  | some o =>
    obtain ⟨n1, n2⟩ := k.new.no e
    rw [k.keep b o n1 n2 q] at e
    cases e
theorem Kp.put {p : Addr} {o : HO} (k : Kp a l H H') (n : H' p = none) : Kp a l H (upd H' p o) := k.same ((Same.refl H').put n)
theorem Kp.put0 {p : Addr} {o : HO} (k : Kp a l H H') (n : H p = none) : Kp a l H (upd H' p o) := by
  obtain ⟨n1, n2⟩ := k.old.no n
  obtain ⟨st, x, ns, h1, h2, q⟩ := k.new
  exact ⟨k.old, ⟨st, x, ns, by rw [upd_ne n1.symm]; exact h1, by rw [upd_ne n2.symm]; exact h2, q⟩, fun b o m1 m2 e => by rw [upd_ne (ne_of_none e n)]; exact k.keep b o m1 m2 e⟩
theorem ixN_of {n j : Nat} (hj : j < n) : ixN n (j : Int) = some j := by
  unfold ixN
  rw [if_pos (by omega), if_pos (by omega)]
  rfl
theorem Kp.obj {b : Addr} {o : HO} (k : Kp a l H H') (e : H b = some o) (n : ∀ xs, o ≠ .lst xs) : H' b = some o := by
  obtain ⟨n1, n2⟩ := k.old.not e n
  exact k.keep b o n1 n2 e
theorem Kp.tup {b : Addr} {xs : List V} (k : Kp a l H H') (h : SqT K H b xs) : SqT K H' b xs := by
  rcases h with (h | ⟨o, h⟩) | h
  · exact .inl (.inl (k.obj h fun _ z => nomatch z))
  · exact .inl (.inr ⟨o, k.obj h fun _ z => nomatch z⟩)
  · exact .inr h
theorem bits_div {x n : Int} (h0 : 0 ≤ x) (hn : 0 < n) : Builtin.Int.intBits (x / n) ≤ Builtin.Int.intBits x := by
  have h1 : 0 ≤ x / n := Int.ediv_nonneg h0 (Int.le_of_lt hn)
  have h2 : x / n ≤ x := Int.ediv_le_self n h0
  unfold Builtin.Int.intBits
  by_cases e : x / n = 0
  · rw [e]
    exact Nat.zero_le _
  · have e2 : x ≠ 0 := fun z => by rw [z, Int.zero_ediv] at e; exact e rfl
    rw [if_neg (by simpa using e), if_neg (by simpa using e2)]
    have e3 : (x / n).natAbs.log2 ≤ x.natAbs.log2 := (Nat.le_log2 (by omega)).mpr (Nat.le_trans (Nat.log2_self_le (by omega)) (by omega))
    omega
theorem small_bits {x : Int} {k : Nat} (h : x.natAbs < 2 ^ k) : Builtin.Int.intBits x ≤ k := by
  unfold Builtin.Int.intBits
  split
  · exact Nat.zero_le k
  · rename_i e
    have e : x ≠ 0 := by simpa using e
    have := (Nat.log2_lt (n := x.natAbs) (by omega)).mpr h
    omega
def sp_mix (K : PySem.W.Frag) : Sp := fun vs H Q _ => ∃ (s : Addr) (ns : List Int) (z : Int), vs = [.ref s, .int z] ∧ SqL K H s (ns.map V.int) ∧ ns.length ≤ 63 ∧ (∀ z ∈ ns, Builtin.Int.intBits z ≤ 1048576) ∧ 0 ≤ z ∧ z < 2147483647 ∧
  ∀ H' a l, Same H H' → RS H' a l → Q (.ref a) H'
theorem ok_mix {f : Addr} {fd : FuncData} (F : Fun K "_law_mix" "_law_mix" s__law_mix f fd) (B : Blt mg) : FnOk P w K mg base CX0 1 f fd ["_law_script", "_law_seed"] (sp_mix K) := by
  refine F.ok sc__law_mix (fun vs H Q E h => by obtain ⟨s, ns, z, rfl, _⟩ := h; rfl) (fun cdv A outer s H vs Q E hr h => ?_)
  obtain ⟨s, ns, z, rfl, hS, hl, hb, z0, z1, q⟩ := h
  refine ⟨_, (pss_cons (ps_set (i := 2) sc__law_mix.nd rfl (Or.inl rfl) (pv 1))
      (pss_cons (ps_for PassesOwn.never rfl (pi_list (pv 0)) (pg_name (i := 3) sc__law_mix.nd rfl (Or.inl rfl)) (pss_one (ps_set (i := 2) sc__law_mix.nd rfl (Or.inl rfl) (pe_op op_mod (pe_callTy call_int1 (by rfl) B.b_int PyProof.Rows.boot_int (pa_cons (pe_op op_add (pe_op op_add (pe_op op_mul (pv 2) pe_int) (pe_op op_mod (pe_callTy call_int1 (by rfl) B.b_int PyProof.Rows.boot_int (pa_cons (pv 3) pa_nil)) pe_int)) pe_int) pa_nil)) pe_int))))
      (pss_one (ps_ret (pe_lst (pa_cons (pv 2) (pa_cons (pe_callTy call_list_of (by rfl) B.b_list PyProof.Rows.boot_list (pa_cons (pv 0) pa_nil)) (pa_cons pe_int pa_nil)))))))), ?_⟩
  refine ⟨_, rfl, .ref s, rfl, s, rfl, ⟨_, hS⟩, for_it walk_list (fun i σ H' => ∃ (st : Int) (y : Option V), σ = [some (.ref s), some (.int z), some (.int st), y] ∧ H' = H ∧ 0 ≤ st ∧ st < 2147483647)
    ⟨z, none, rfl, rfl, z0, z1⟩ (fun i σ H' _ ⟨_, _, _, e, _⟩ => by rw [e]; exact hS) ?_ ?_⟩
  · rintro i x σ H2 H3 hi ⟨st, y, rfl, rfl, h0, h1⟩ ⟨rfl, hx⟩
    obtain ⟨c, hc, rfl⟩ : ∃ c, ns[i]? = some c ∧ x = V.int c := by
      rw [List.getElem?_map] at hx
      cases e : ns[i]? with
      | none => rw [e] at hx; cases hx
      | some c => rw [e] at hx; exact ⟨c, rfl, (Option.some.inj hx).symm⟩
    refine ⟨_, rfl, st, 48271, rfl, rfl, .inl ⟨by omega, by omega⟩, _, rfl, .inl ⟨c, rfl, c, 2147483629, rfl, rfl, (show (0 : Int) < 2147483629 by decide), _, _, rfl, rfl, _, _, rfl, rfl, .inl ⟨_, rfl, _, 2147483647, rfl, rfl, (show (0 : Int) < 2147483647 by decide), ?_⟩⟩⟩
    exact ⟨_, _, rfl, rfl, Int.emod_nonneg _ (by decide), Int.emod_lt_of_pos _ (by decide)⟩
  · rintro σ H2 ⟨st, y, rfl, rfl, h0, h1⟩
    refine ⟨_, rfl, .ref s, rfl, s, _, rfl, .inl hS, fun l nl => ⟨(by show 3 ≤ sizeLine; decide), fun a na => q _ a l ?_ ⟨st, 0, ns, upd_same, ?_, h0, h1, hl, hb⟩⟩⟩
    · exact ((Same.refl _).put nl).put' na
    · rw [upd_ne (ne_of_none upd_same na), upd_same]
def sp_next : Sp := fun vs H Q _ => ∃ (a l : Addr) (n : Int), vs = [.ref a, .int n] ∧ RS H a l ∧ 0 < n ∧ n.natAbs.log2 < 9000 ∧ ∀ H' r, Kp a l H H' → 0 ≤ r → r < n → Q (.int r) H'
theorem ok_next {f : Addr} {fd : FuncData} (F : Fun K "_law_next" "_law_next" s__law_next f fd) (B : Blt mg) : FnOk P w K mg base CX0 1 f fd ["_law_h", "_law_limit"] sp_next := by
  refine F.ok sc__law_next (fun vs H Q E h => by obtain ⟨a, l, n, rfl, _⟩ := h; rfl) (fun cdv A outer s H vs Q E hr h => ?_)
  obtain ⟨a, l, n, rfl, hR, n0, n9, q⟩ := h
  refine ⟨_, (pss_cons (ps_set (i := 2) sc__law_next.nd rfl (Or.inl rfl) (pe_ix ix_list (pe_op op_cat (pe_ix ix_list (pv 0) pe_int (fun _ _ => rfl)) (pe_lst (pa_cons pe_int pa_nil))) (pe_op op_mod (pe_callTy call_int1 (by rfl) B.b_int PyProof.Rows.boot_int (pa_cons (pe_ix ix_list (pv 0) pe_int (fun _ _ => rfl)) pa_nil)) (pe_callB (call_max2 rfl) (by rfl) B.b_max PyProof.Rows.boot_max (pa_cons pe_int (pa_cons (pe_callB call_len_seq (by rfl) B.b_len PySem.boot_len (pa_cons (pe_ix ix_list (pv 0) pe_int (fun _ _ => rfl)) pa_nil)) pa_nil)))) (fun _ _ => rfl)))
      (pss_cons (ps_if (pt_cmpR op_ge (pv 2) (pe_op op_pow pe_int pe_int) (nomark _)) (pss_cons (ps_asg (pe_op op_fdivW (pv 2) (pv 1)) (pg_sub (pe_ix ix_list (pv 0) pe_int (fun _ _ => rfl)) (pe_op op_mod (pe_callTy call_int1 (by rfl) B.b_int PyProof.Rows.boot_int (pa_cons (pe_ix ix_list (pv 0) pe_int (fun _ _ => rfl)) pa_nil)) (pe_callB call_len_seq (by rfl) B.b_len PySem.boot_len (pa_cons (pe_ix ix_list (pv 0) pe_int (fun _ _ => rfl)) pa_nil))) set_list))
      (pss_one (ps_ret (pe_op op_mod (pe_callTy call_int1 (by rfl) B.b_int PyProof.Rows.boot_int (pa_cons (pv 2) pa_nil)) (pv 1))))) pss_nil)
      (pss_cons (ps_asg (pe_op op_mod (pe_callTy call_int1 (by rfl) B.b_int PyProof.Rows.boot_int (pa_cons (pe_op op_add (pe_op op_add (pe_op op_mul (pe_ix ix_list (pv 0) pe_int (fun _ _ => rfl)) pe_int) (pe_op op_mulX (pv 2) pe_int)) pe_int) pa_nil)) pe_int) (pg_sub (pv 0) pe_int set_list))
      (pss_cons (ps_asg (pe_op op_add (pe_ix ix_list (pv 0) pe_int (fun _ _ => rfl)) pe_int) (pg_sub (pv 0) pe_int set_list))
      (pss_one (ps_ret (pe_op op_mod (pe_callTy call_int1 (by rfl) B.b_int PyProof.Rows.boot_int (pa_cons (pe_op op_fdiv (pe_ix ix_list (pv 0) pe_int (fun _ _ => rfl)) pe_int) pa_nil)) (pv 1)))))))), ?_⟩
  obtain ⟨st, k, ns, ha, hl, s0, s1, hlen, hb⟩ := id hR
  have nal := hR.ne
  have hm0 : 0 < (if ((ns.map V.int).length : Int) > 1 then ((ns.map V.int).length : Int) else 1) := by
    split <;> omega
  have hmx : (if ((ns.map V.int).length : Int) > 1 then ((ns.map V.int).length : Int) else 1) ≤ ns.length + 1 := by
    rw [List.length_map]
    split <;> omega
  have hcell : ∃ (j : Nat) (c : Int), k % (if ((ns.map V.int).length : Int) > 1 then ((ns.map V.int).length : Int) else 1) = j ∧ (ns.map V.int ++ [V.int 0])[j]? = some (.int c) ∧ (10 ^ 18 ≤ c → j < ns.length ∧ ns[j]? = some c ∧ k % (ns.length : Int) = j) ∧ Builtin.Int.intBits c ≤ 1048576 := by
    have r0 := Int.emod_nonneg k (Int.ne_of_gt hm0)
    have r1 := Int.emod_lt_of_pos k hm0
    obtain ⟨j, ej⟩ := Int.eq_ofNat_of_zero_le r0
    have ej : k % (if ((ns.map V.int).length : Int) > 1 then ((ns.map V.int).length : Int) else 1) = (j : Int) := ej
    by_cases hj : j < ns.length
    · refine ⟨j, ns[j], ej, ?_, fun _ => ⟨hj, List.getElem?_eq_getElem hj, ?_⟩, hb _ (List.getElem_mem hj)⟩
      · rw [List.getElem?_append_left (by rw [List.length_map]; exact hj), List.getElem?_map, List.getElem?_eq_getElem hj]
        rfl
      · rw [← ej, List.length_map]
        by_cases h1 : (ns.length : Int) > 1
        · rw [if_pos h1]
        · rw [if_neg h1]
          have e1 : (ns.length : Int) = 1 := by omega
          rw [e1]
    · have ejn : j = ns.length := by omega
      refine ⟨j, 0, ej, ?_, fun z => absurd z (by decide), by decide⟩
      rw [List.getElem?_append_right (by rw [List.length_map]; omega), List.length_map, ejn, Nat.sub_self]
      rfl
  obtain ⟨j, c, ej, gc, big, hc⟩ := hcell
  refine ⟨.ref a, rfl, a, _, 1, .ref l, rfl, rfl, sqL_of ha, atI_nat (j := 1) rfl, (by show 1 ≤ sizeLine; decide), fun p np => ?_⟩
  have npa := ne_of_none ha np
  have npl := ne_of_none hl np
  refine ⟨l, p, ns.map V.int, [.int 0], rfl, rfl, by rw [upd_ne npl]; exact hl, upd_same, by rw [List.length_map, sizeLine_eq]; show ns.length + 1 ≤ _; omega, fun p2 np2 => ?_⟩
  have np2' : H p2 = none := by
    cases e : H p2 with
    | none => rfl
    | some o => rw [upd_ne (ne_of_none e np)] at np2; rw [e] at np2; cases np2
  have s2 : Same H (upd (upd H p (.lst [.int 0])) p2 (.lst (ns.map V.int ++ [.int 0]))) := ((Same.refl H).put np).put np2'
  generalize hH2 : upd (upd H p (.lst [.int 0])) p2 (.lst (ns.map V.int ++ [.int 0])) = H2 at s2
  have hp2 : H2 p2 = some (.lst (ns.map V.int ++ [.int 0])) := by rw [← hH2, upd_same]
  have ha2 := s2 _ _ ha
  have hl2 := s2 _ _ hl
  refine ⟨.ref a, rfl, a, _, 2, .int k, rfl, rfl, sqL_of ha2, atI_nat (j := 2) rfl, .inl ⟨k, rfl, ?_⟩⟩
  refine ⟨.ref a, rfl, a, _, 1, .ref l, rfl, rfl, sqL_of ha2, atI_nat (j := 1) rfl, l, _, rfl, .inl (sqL_of hl2), 1, _, rfl, ?_⟩
  refine ⟨k, _, rfl, rfl, hm0, p2, _, _, .int c, rfl, rfl, sqL_of hp2, at_of ej gc, ?_⟩
  refine ⟨.int c, rfl, 10, 18, rfl, rfl, ⟨by decide, by decide, by decide⟩, c, 10 ^ 18, rfl, rfl, _, rfl, bcase (fun c1 => ?_) (fun c1 => ?_)⟩
  · have c1 : (10 : Int) ^ 18 ≤ c := of_decide_eq_true c1
    obtain ⟨hj, gj, ej2⟩ := big c1
    have hlp : 0 < (ns.length : Int) := by omega
    refine ⟨_, rfl, .int n, rfl, c, n, rfl, rfl, ⟨n0, n9⟩, .ref a, rfl, a, _, 1, .ref l, rfl, rfl, sqL_of ha2, atI_nat (j := 1) rfl, .ref a, rfl, a, _, 2, .int k, rfl, rfl, sqL_of ha2, atI_nat (j := 2) rfl, .inl ⟨k, rfl, ?_⟩⟩
    refine ⟨.ref a, rfl, a, _, 1, .ref l, rfl, rfl, sqL_of ha2, atI_nat (j := 1) rfl, l, _, rfl, .inl (sqL_of hl2), k, _, rfl, rfl, by rw [List.length_map]; exact hlp, l, _, _, j, rfl, rfl, hl2, ?_, ?_⟩
    · rw [List.length_map, ej2]
      unfold ixN
      rw [if_pos (by omega), if_pos (by omega)]
      rfl
    · refine ⟨.int c, rfl, .inl ⟨c, rfl, .int n, rfl, c, n, rfl, rfl, n0, q _ _ ⟨hR, ?_, fun b o n1 n2 e => ?_⟩ (Int.emod_nonneg _ (Int.ne_of_gt n0)) (Int.emod_lt_of_pos _ n0)⟩⟩
      · refine ⟨st, k, ns.set j (c / n), by rw [upd_ne nal]; exact ha2, by rw [upd_same, List.map_set], s0, s1, by rw [List.length_set]; exact hlen, fun z hz => ?_⟩
        rcases List.mem_or_eq_of_mem_set hz with h | h
        · exact hb z h
        · rw [h]
          exact Nat.le_trans (bits_div (by omega) n0) hc
      · rw [upd_ne n2]
        exact s2 b o e
  · refine ⟨.ref a, rfl, a, _, 0, .int st, rfl, rfl, sqL_of ha2, atI_nat (j := 0) rfl, st, 48271, rfl, rfl, .inl ⟨by omega, by omega⟩, .int c, rfl, c, 69621, rfl, rfl, ?_, _, _, rfl, rfl, _, 11, rfl, rfl, .inl ⟨_, rfl, _, 2147483647, rfl, rfl, (show (0 : Int) < 2147483647 by decide), .ref a, rfl, ?_⟩⟩
    · show (Builtin.Int.intBits c : Int) + (Builtin.Int.intBits 69621 : Int) ≤ 134217728
      have e1 : Builtin.Int.intBits 69621 ≤ 20 := small_bits (by decide)
      omega
    have z0 : 0 ≤ (st * 48271 + c * 69621 + 11) % 2147483647 := Int.emod_nonneg _ (by decide)
    have z1 : (st * 48271 + c * 69621 + 11) % 2147483647 < 2147483647 := Int.emod_lt_of_pos _ (by decide)
    refine ⟨a, _, 0, 0, rfl, rfl, ha2, rfl, ?_⟩
    refine ⟨.ref a, rfl, a, _, 2, .int k, rfl, rfl, sqL_of upd_same, atI_nat (j := 2) rfl, k, 1, rfl, rfl, .ref a, rfl, a, _, 2, 2, rfl, rfl, upd_same, rfl, ?_⟩
    refine ⟨.ref a, rfl, a, _, 0, .int ((st * 48271 + c * 69621 + 11) % 2147483647), rfl, rfl, sqL_of upd_same, atI_nat (j := 0) rfl, _, 7, rfl, rfl, ⟨by decide, by decide⟩, .inl ⟨_, rfl, .int n, rfl, _, n, rfl, rfl, n0, q _ _ ⟨hR, ?_, fun b o n1 n2 e => ?_⟩ (Int.emod_nonneg _ (Int.ne_of_gt n0)) (Int.emod_lt_of_pos _ n0)⟩⟩
    · exact ⟨_, k + 1, ns, upd_same, by rw [upd_ne nal.symm, upd_ne nal.symm]; exact hl2, z0, z1, hlen, hb⟩
    · rw [upd_ne n1, upd_ne n1]
      exact s2 b o e
theorem map_eraseIdx {α β : Type} {f : α → β} : ∀ (xs : List α) (j : Nat), (xs.map f).eraseIdx j = (xs.eraseIdx j).map f
  | [], _ => rfl
  | _ :: _, 0 => rfl
  | x :: r, j + 1 => by
    show f x :: (r.map f).eraseIdx j = f x :: (r.eraseIdx j).map f
    rw [map_eraseIdx r j]
/-- some of the twelve facts, in their order -/
def sp_facts : Sp := fun vs H Q _ => ∃ (a l : Addr) (c : Int), vs = [.ref a, .int c] ∧ RS H a l ∧ 0 ≤ c ∧ ∀ H' p fs, Kp a l H H' → H' p = some (.tup (fs.map V.str)) → H p = none → List.Sublist fs twelve → (fs.length : Int) ≤ c → (c ≤ 12 → (fs.length : Int) = c) → Q (.ref p) H'
theorem ok_facts {f : Addr} {fd : FuncData} (F : Fun K "_law_facts" "_law_facts" s__law_facts f fd) (B : Blt mg) (c__law_next : Cal P w K mg base CX0 1 "_law_next" ["_law_h", "_law_limit"] sp_next) : FnOk P w K mg base CX0 2 f fd ["_law_h", "_law_count"] sp_facts := by
  refine F.ok sc__law_facts (fun vs H Q E h => by obtain ⟨a, l, c, rfl, _⟩ := h; rfl) (fun cdv A outer s H vs Q E hr h => ?_)
  obtain ⟨a, l, c, rfl, hR, c0, q⟩ := h
  refine ⟨_, (pss_cons (ps_set (i := 2) sc__law_facts.nd rfl (Or.inl rfl) (pe_lst (pa_cons pe_str (pa_cons pe_str (pa_cons pe_str (pa_cons pe_str (pa_cons pe_str (pa_cons pe_str (pa_cons pe_str (pa_cons pe_str (pa_cons pe_str (pa_cons pe_str (pa_cons pe_str (pa_cons pe_str pa_nil))))))))))))))
      (pss_cons (ps_while PassesOwn.never (pt_cmpR op_gt (pe_callB call_len_seq (by rfl) B.b_len PySem.boot_len (pa_cons (pv 2) pa_nil)) (pv 1) (nomark _)) (pss_one (ps_expr (pe_bm PySem.F.plainAttrs_list PySem.F.slot_list_pop PySem.F.type_list_pop mt_popAt (pv 2) (pa_cons (pe_cal c__law_next (hr.mono (by decide)) (pa_cons (pv 0) (pa_cons (pe_callB call_len_seq (by rfl) B.b_len PySem.boot_len (pa_cons (pv 2) pa_nil)) pa_nil))) pa_nil)))))
      (pss_one (ps_ret (pe_callTy call_tuple_of (by rfl) B.b_tuple PyProof.Rows.boot_tuple (pa_cons (pv 2) pa_nil)))))), ?_⟩
  refine ⟨(by show 12 ≤ sizeLine; decide), fun p np => ?_⟩
  obtain ⟨npa, npl⟩ := hR.no np
  refine ⟨fun m σ H' => ∃ zs : List Str, m = zs.length ∧ σ = [some (.ref a), some (.int c), some (.ref p)] ∧ Kp a l H H' ∧ H' p = some (.lst (zs.map V.str)) ∧ List.Sublist zs twelve ∧ (c ≤ zs.length ∨ zs = twelve),
    ⟨_, twelve, rfl, rfl, (Kp.refl hR).put np, upd_same, List.Sublist.refl _, .inr rfl⟩, ?_⟩
  rintro m σ H1 ⟨zs, rfl, rfl, k1, e1, sb, hc⟩
  have hz : zs.length ≤ 12 := sb.length_le
  refine ⟨.ref p, rfl, p, _, rfl, .inl (sqL_of e1), .int c, rfl, _, c, rfl, rfl, _, rfl, bcase (fun t1 => ?_) (fun t1 => ?_)⟩
  · have t1 : c < ((zs.map V.str).length : Int) := of_decide_eq_true t1
    rw [List.length_map] at t1
    refine ⟨fun σ' H' => ∃ zs' : List Str, zs'.length < zs.length ∧ (σ' = [some (.ref a), some (.int c), some (.ref p)] ∧ Kp a l H H' ∧ H' p = some (.lst (zs'.map V.str)) ∧ List.Sublist zs' twelve ∧ (c ≤ zs'.length ∨ zs' = twelve)),
      fun σ' H' ⟨zs', lt, x⟩ => ⟨_, lt, zs', rfl, x⟩, ?_⟩
    refine ⟨.ref p, rfl, .inl ⟨rfl, _, sqL_of e1⟩, .ref a, rfl, .ref p, rfl, p, _, rfl, .inl (sqL_of e1), a, l, _, rfl, k1.new, by rw [List.length_map]; omega, ?_, fun H2 r k2 r0 r1 => ?_⟩
    · rw [List.length_map]
      exact Nat.lt_of_le_of_lt (Nat.log2_le_self _) (by show zs.length < 9000; omega)
    · have e2 : H2 p = some (.lst (zs.map V.str)) := k2.keep p _ npa npl e1
      rw [List.length_map] at r1
      obtain ⟨j, rfl⟩ := Int.eq_ofNat_of_zero_le r0
      have hj : j < zs.length := by omega
      have hj' : j < (zs.map V.str).length := by rw [List.length_map]; exact hj
      refine ⟨p, _, _, j, _, rfl, rfl, e2, by omega, by omega, (ixN_seq (ixN_of hj')).1, List.getElem?_eq_getElem hj', zs.eraseIdx j, ?_, rfl, (k1.trans k2).put0 np, ?_, (List.eraseIdx_sublist zs j).trans sb, ?_⟩
      · rw [List.length_eraseIdx_of_lt hj]
        omega
      · rw [upd_same, map_eraseIdx]
      · rw [List.length_eraseIdx_of_lt hj]
        exact .inl (by omega)
  · have t1 : ¬ c < ((zs.map V.str).length : Int) := of_decide_eq_false t1
    rw [List.length_map] at t1
    refine ⟨.ref p, rfl, p, _, rfl, .inl ⟨sqL_of e1, fun t nt => q _ t zs (k1.put nt) upd_same (k1.free nt) sb (by omega) (fun h => ?_)⟩⟩
    rcases hc with h2 | h2
    · omega
    · rw [h2] at t1 ⊢
      have : twelve.length = 12 := rfl
      omega
/-- what stands at a value, read as data, at most n lists or tuples deep -/
inductive AD (H : Hp) : Nat → V → PyData → Prop where
  | non (n : Nat) : AD H n .non .none
  | bl (n : Nat) (b : Bool) : AD H n (.bl b) (.bool b)
  | int (n : Nat) (i : Int) : AD H n (.int i) (.int i)
  | str (n : Nat) (x : Str) : AD H n (.str x) (.str x)
  | lst {n : Nat} {a : Addr} {xs : List V} {ds : List PyData} (e : H a = some (.lst xs)) (l : xs.length = ds.length) (z : xs.length ≤ 1000000) (all : ∀ (i : Nat) (x : V) (d : PyData), xs[i]? = some x → ds[i]? = some d → AD H n x d) : AD H (n + 1) (.ref a) (.list ds)
  | tup {n : Nat} {a : Addr} {xs : List V} {ds : List PyData} (e : H a = some (.tup xs)) (l : xs.length = ds.length) (z : xs.length ≤ 1000000) (all : ∀ (i : Nat) (x : V) (d : PyData), xs[i]? = some x → ds[i]? = some d → AD H n x d) : AD H (n + 1) (.ref a) (.tuple ds)
theorem AD.same {n : Nat} {x : V} {d : PyData} (s : Same H H') (h : AD H n x d) : AD H' n x d := by
  induction h with
  | non n => exact .non n
  | bl n b => exact .bl n b
  | int n i => exact .int n i
  | str n x => exact .str n x
  | lst e l z all ih => exact .lst (s _ _ e) l z ih
  | tup e l z all ih => exact .tup (s _ _ e) l z ih
def sp_alike (n : Nat) : Sp := fun vs H Q _ => ∃ (x y : V) (d : PyData), vs = [x, y] ∧ AD H n x d ∧ AD H n y d ∧ ∀ H', Same H H' → Q (.bl true) H'
/-- the answer where no list or tuple stands -/
theorem ok_alike0 {f : Addr} {fd : FuncData} (F : Fun K "_law_alike" "_law_alike" s__law_alike f fd) (B : Blt mg) : FnOk P w K mg base CX0 1 f fd ["_law_found", "_law_due"] (sp_alike 0) := by
  refine F.ok sc__law_alike (fun vs H Q E h => by obtain ⟨x, y, d, rfl, _⟩ := h; rfl) (fun cdv A outer s H vs Q E hr h => ?_)
  obtain ⟨x, y, d, rfl, hx, hy, q⟩ := h
  refine ⟨_, (pss_cons (ps_if (pt_val (pe_callB (call_isT "dict") (by rfl) B.b_isinstance PyProof.Rows.boot_isinstance (pa_cons (pv 1) (pa_cons (pe_bltn (v := .ty "dict") (by rfl) B.b_dict (by decide +kernel) rfl) pa_nil)))) pss_never pss_nil)
      (pss_cons (ps_if (pt_val (pe_callB call_isiT (by rfl) B.b_isinstance PyProof.Rows.boot_isinstance (pa_cons (pv 1) (pa_cons (pe_tup (pa_cons (pe_bltn (v := .ty "tuple") (by rfl) B.b_tuple PyProof.Rows.boot_tuple rfl) (pa_cons (pe_bltn (v := .ty "list") (by rfl) B.b_list PyProof.Rows.boot_list rfl) pa_nil))) pa_nil)))) pss_never pss_nil)
      (pss_cons (ps_if (PW.pt (pw_or (pt_cmpR op_isN (pv 1) pe_non (nomark _)) (pw_or1 (pt_val (pe_callB (call_isT "str") (by rfl) B.b_isinstance PyProof.Rows.boot_isinstance (pa_cons (pv 1) (pa_cons (pe_bltn (v := .ty "str") (by rfl) B.b_str PyProof.Rows.boot_str rfl) pa_nil))))))) (pss_one (ps_ret (pe_and (pe_cmpR op_eq (pv 0) (pv 1) (nomark _)) (pe_one (pe_cmpR op_eq (pe_callB (call_isT "str") (by rfl) B.b_isinstance PyProof.Rows.boot_isinstance (pa_cons (pv 0) (pa_cons (pe_bltn (v := .ty "str") (by rfl) B.b_str PyProof.Rows.boot_str rfl) pa_nil))) (pe_callB (call_isT "str") (by rfl) B.b_isinstance PyProof.Rows.boot_isinstance (pa_cons (pv 1) (pa_cons (pe_bltn (v := .ty "str") (by rfl) B.b_str PyProof.Rows.boot_str rfl) pa_nil))) (nomark _)))))) pss_nil)
      (pss_one (ps_ret (pe_and (pe_callB (call_isT "int") (by rfl) B.b_isinstance PyProof.Rows.boot_isinstance (pa_cons (pv 0) (pa_cons (pe_bltn (v := .ty "int") (by rfl) B.b_int PyProof.Rows.boot_int rfl) pa_nil))) (pe_and (pe_cmpR op_eq (pe_callB (call_isT "bool") (by rfl) B.b_isinstance PyProof.Rows.boot_isinstance (pa_cons (pv 0) (pa_cons (pe_bltn (v := .ty "bool") (by rfl) B.b_bool PyProof.Rows.boot_bool rfl) pa_nil))) (pe_callB (call_isT "bool") (by rfl) B.b_isinstance PyProof.Rows.boot_isinstance (pa_cons (pv 1) (pa_cons (pe_bltn (v := .ty "bool") (by rfl) B.b_bool PyProof.Rows.boot_bool rfl) pa_nil))) (nomark _)) (pe_one (pe_cmpR op_eq (pv 0) (pv 1) (nomark _)))))))))), ?_⟩
  cases hx with
  | non _ =>
    cases hy
    refine ⟨_, rfl, _, "NoneType", false, rfl, .non, by decide +kernel, false, rfl, iteF ?_⟩
    refine ⟨_, rfl, (by show 2 ≤ sizeLine; decide), fun tp ntp => ⟨_, tp, _, .type "NoneType", [.type "tuple", .type "list"], false, rfl, upd_same, .cons (.ty _) (.cons (.ty _) .nil), .base (.non), kitAny_cons (b := false) (kit_ty (by decide +kernel)) (fun _ => kitAny_cons (b := false) (kit_ty (by decide +kernel)) (fun _ => kitAny_nil) (fun z => nomatch z)) (fun z => nomatch z), false, rfl, iteF ?_⟩⟩
    have s1 : Same H (upd H tp (.tup [.ty "tuple", .ty "list"])) := (Same.refl H).put ntp
    refine ⟨_, rfl, rfl, true, rfl, iteT (iteT ?_)⟩
    refine ⟨_, rfl, _, rfl, rfl, decide (V.non = V.non), rfl, ?_⟩
    rw [decide_eq_true rfl]
    refine iteT ?_
    refine ⟨_, rfl, _, "NoneType", false, rfl, .non, by decide +kernel, _, rfl, _, "NoneType", false, rfl, .non, by decide +kernel, rfl, ?_⟩
    exact q _ s1
  | bl _ b =>
    cases hy
    refine ⟨_, rfl, _, "bool", false, rfl, .bl b, by decide +kernel, false, rfl, iteF ?_⟩
    refine ⟨_, rfl, (by show 2 ≤ sizeLine; decide), fun tp ntp => ⟨_, tp, _, .type "bool", [.type "tuple", .type "list"], false, rfl, upd_same, .cons (.ty _) (.cons (.ty _) .nil), .base (.bl b), kitAny_cons (b := false) (kit_ty (by decide +kernel)) (fun _ => kitAny_cons (b := false) (kit_ty (by decide +kernel)) (fun _ => kitAny_nil) (fun z => nomatch z)) (fun z => nomatch z), false, rfl, iteF ?_⟩⟩
    have s1 : Same H (upd H tp (.tup [.ty "tuple", .ty "list"])) := (Same.refl H).put ntp
    refine ⟨_, rfl, rfl, false, rfl, iteF ⟨_, rfl, _, "bool", false, rfl, .bl b, by decide +kernel, false, rfl, iteF ?_⟩⟩
    refine ⟨_, rfl, _, "bool", true, rfl, .bl b, by decide +kernel, true, rfl, iteT ?_⟩
    refine ⟨_, rfl, _, "bool", true, rfl, .bl b, by decide +kernel, _, rfl, _, "bool", true, rfl, .bl b, by decide +kernel, rfl, true, rfl, iteT ?_⟩
    refine ⟨_, rfl, _, rfl, rfl, ?_⟩
    rw [decide_eq_true rfl]
    exact q _ s1
  | int _ i =>
    cases hy
    refine ⟨_, rfl, _, "int", false, rfl, .int i, by decide +kernel, false, rfl, iteF ?_⟩
    refine ⟨_, rfl, (by show 2 ≤ sizeLine; decide), fun tp ntp => ⟨_, tp, _, .type "int", [.type "tuple", .type "list"], false, rfl, upd_same, .cons (.ty _) (.cons (.ty _) .nil), .base (.int i), kitAny_cons (b := false) (kit_ty (by decide +kernel)) (fun _ => kitAny_cons (b := false) (kit_ty (by decide +kernel)) (fun _ => kitAny_nil) (fun z => nomatch z)) (fun z => nomatch z), false, rfl, iteF ?_⟩⟩
    have s1 : Same H (upd H tp (.tup [.ty "tuple", .ty "list"])) := (Same.refl H).put ntp
    refine ⟨_, rfl, rfl, false, rfl, iteF ⟨_, rfl, _, "int", false, rfl, .int i, by decide +kernel, false, rfl, iteF ?_⟩⟩
    refine ⟨_, rfl, _, "int", true, rfl, .int i, by decide +kernel, true, rfl, iteT ?_⟩
    refine ⟨_, rfl, _, "int", false, rfl, .int i, by decide +kernel, _, rfl, _, "int", false, rfl, .int i, by decide +kernel, rfl, true, rfl, iteT ?_⟩
    refine ⟨_, rfl, _, rfl, rfl, ?_⟩
    rw [decide_eq_true rfl]
    exact q _ s1
  | str _ x =>
    cases hy
    refine ⟨_, rfl, _, "str", false, rfl, .str x, by decide +kernel, false, rfl, iteF ?_⟩
    refine ⟨_, rfl, (by show 2 ≤ sizeLine; decide), fun tp ntp => ⟨_, tp, _, .type "str", [.type "tuple", .type "list"], false, rfl, upd_same, .cons (.ty _) (.cons (.ty _) .nil), .base (.str x), kitAny_cons (b := false) (kit_ty (by decide +kernel)) (fun _ => kitAny_cons (b := false) (kit_ty (by decide +kernel)) (fun _ => kitAny_nil) (fun z => nomatch z)) (fun z => nomatch z), false, rfl, iteF ?_⟩⟩
    have s1 : Same H (upd H tp (.tup [.ty "tuple", .ty "list"])) := (Same.refl H).put ntp
    refine ⟨_, rfl, rfl, false, rfl, iteF ⟨_, rfl, _, "str", true, rfl, .str x, by decide +kernel, true, rfl, iteT ?_⟩⟩
    refine ⟨_, rfl, _, rfl, rfl, decide (V.str x = V.str x), rfl, ?_⟩
    rw [decide_eq_true rfl]
    refine iteT ?_
    refine ⟨_, rfl, _, "str", true, rfl, .str x, by decide +kernel, _, rfl, _, "str", true, rfl, .str x, by decide +kernel, rfl, ?_⟩
    exact q _ s1
theorem ok_alike {n : Nat} {f : Addr} {fd : FuncData} (F : Fun K "_law_alike" "_law_alike" s__law_alike f fd) (B : Blt mg) (c__law_alike : Cal P w K mg base CX0 (n + 1) "_law_alike" ["_law_found", "_law_due"] (sp_alike n)) : FnOk P w K mg base CX0 (n + 2) f fd ["_law_found", "_law_due"] (sp_alike (n + 1)) := by
  refine F.ok sc__law_alike (fun vs H Q E h => by obtain ⟨x, y, d, rfl, _⟩ := h; rfl) (fun cdv A outer s H vs Q E hr h => ?_)
  obtain ⟨x, y, d, rfl, hx, hy, q⟩ := h
  refine ⟨_, (pss_cons (ps_if (pt_val (pe_callB (call_isT "dict") (by rfl) B.b_isinstance PyProof.Rows.boot_isinstance (pa_cons (pv 1) (pa_cons (pe_bltn (v := .ty "dict") (by rfl) B.b_dict (by decide +kernel) rfl) pa_nil)))) pss_never pss_nil)
      (pss_cons (ps_if (pt_val (pe_callB call_isiT (by rfl) B.b_isinstance PyProof.Rows.boot_isinstance (pa_cons (pv 1) (pa_cons (pe_tup (pa_cons (pe_bltn (v := .ty "tuple") (by rfl) B.b_tuple PyProof.Rows.boot_tuple rfl) (pa_cons (pe_bltn (v := .ty "list") (by rfl) B.b_list PyProof.Rows.boot_list rfl) pa_nil))) pa_nil)))) (pss_cons (ps_if (PW.pt (pw_or (pt_not (pt_val (pe_callB call_isiT (by rfl) B.b_isinstance PyProof.Rows.boot_isinstance (pa_cons (pv 0) (pa_cons (pe_tup (pa_cons (pe_bltn (v := .ty "tuple") (by rfl) B.b_tuple PyProof.Rows.boot_tuple rfl) (pa_cons (pe_bltn (v := .ty "list") (by rfl) B.b_list PyProof.Rows.boot_list rfl) pa_nil))) pa_nil))))) (pw_or1 (pt_cmpR op_ne (pe_callB (call_isT "list") (by rfl) B.b_isinstance PyProof.Rows.boot_isinstance (pa_cons (pv 0) (pa_cons (pe_bltn (v := .ty "list") (by rfl) B.b_list PyProof.Rows.boot_list rfl) pa_nil))) (pe_callB (call_isT "list") (by rfl) B.b_isinstance PyProof.Rows.boot_isinstance (pa_cons (pv 1) (pa_cons (pe_bltn (v := .ty "list") (by rfl) B.b_list PyProof.Rows.boot_list rfl) pa_nil))) (nomark _))))) (pss_one (ps_ret pe_bl)) pss_nil)
      (pss_cons (ps_if (pt_cmpR op_ne (pe_callB call_len_seq (by rfl) B.b_len PySem.boot_len (pa_cons (pv 0) pa_nil)) (pe_callB call_len_seq (by rfl) B.b_len PySem.boot_len (pa_cons (pv 1) pa_nil)) (nomark _)) (pss_one (ps_ret pe_bl)) pss_nil)
      (pss_one (ps_ret (pe_cmpR (op_eqD hr.units) (pe_lc (own := [("_law_k", 2)]) (g := gName 2) rfl sc__law_alike.nd (pi_range1 (by rfl) B.b_range (pa_cons (pe_callB call_len_seq (by rfl) B.b_len PySem.boot_len (pa_cons (pv 1) pa_nil)) pa_nil)) (blkOk_by (own := [("_law_k", 2)]) (N := ["_law_found", "_law_due", "_law_k"]) (sc := defScope s__law_alike) (by decide +kernel)) (fun _ _ _ _ _ => (pg_name (i := 2) sc__law_alike.nd rfl (Or.inl rfl))) (fun _ _ _ _ _ => (pts_.re (pts_one (pt_not (pt_val (pe_cal c__law_alike hr (pa_cons (pe_ix ix_seq (pv 0) (pv 2) (fun _ _ => rfl)) (pa_cons (pe_ix ix_seq (pv 1) (pv 2) (fun _ _ => rfl)) pa_nil)))))) (by first | (dsimp only [Cx.blk]; done) | exact rfl))) (fun _ _ _ _ _ => (pe_.re (pv 2) (by first | (dsimp only [Cx.blk]; done) | exact rfl)))) (pe_lst pa_nil) (nomark _)))))) pss_nil)
      (pss_cons (ps_if (PW.pt (pw_or (pt_cmpR op_isN (pv 1) pe_non (nomark _)) (pw_or1 (pt_val (pe_callB (call_isT "str") (by rfl) B.b_isinstance PyProof.Rows.boot_isinstance (pa_cons (pv 1) (pa_cons (pe_bltn (v := .ty "str") (by rfl) B.b_str PyProof.Rows.boot_str rfl) pa_nil))))))) (pss_one (ps_ret (pe_and (pe_cmpR op_eq (pv 0) (pv 1) (nomark _)) (pe_one (pe_cmpR op_eq (pe_callB (call_isT "str") (by rfl) B.b_isinstance PyProof.Rows.boot_isinstance (pa_cons (pv 0) (pa_cons (pe_bltn (v := .ty "str") (by rfl) B.b_str PyProof.Rows.boot_str rfl) pa_nil))) (pe_callB (call_isT "str") (by rfl) B.b_isinstance PyProof.Rows.boot_isinstance (pa_cons (pv 1) (pa_cons (pe_bltn (v := .ty "str") (by rfl) B.b_str PyProof.Rows.boot_str rfl) pa_nil))) (nomark _)))))) pss_nil)
      (pss_one (ps_ret (pe_and (pe_callB (call_isT "int") (by rfl) B.b_isinstance PyProof.Rows.boot_isinstance (pa_cons (pv 0) (pa_cons (pe_bltn (v := .ty "int") (by rfl) B.b_int PyProof.Rows.boot_int rfl) pa_nil))) (pe_and (pe_cmpR op_eq (pe_callB (call_isT "bool") (by rfl) B.b_isinstance PyProof.Rows.boot_isinstance (pa_cons (pv 0) (pa_cons (pe_bltn (v := .ty "bool") (by rfl) B.b_bool PyProof.Rows.boot_bool rfl) pa_nil))) (pe_callB (call_isT "bool") (by rfl) B.b_isinstance PyProof.Rows.boot_isinstance (pa_cons (pv 1) (pa_cons (pe_bltn (v := .ty "bool") (by rfl) B.b_bool PyProof.Rows.boot_bool rfl) pa_nil))) (nomark _)) (pe_one (pe_cmpR op_eq (pv 0) (pv 1) (nomark _)))))))))), ?_⟩
  cases hx with
  | non _ =>
    cases hy
    refine ⟨_, rfl, _, "NoneType", false, rfl, .non, by decide +kernel, false, rfl, iteF ?_⟩
    refine ⟨_, rfl, (by show 2 ≤ sizeLine; decide), fun tp ntp => ⟨_, tp, _, .type "NoneType", [.type "tuple", .type "list"], false, rfl, upd_same, .cons (.ty _) (.cons (.ty _) .nil), .base (.non), kitAny_cons (b := false) (kit_ty (by decide +kernel)) (fun _ => kitAny_cons (b := false) (kit_ty (by decide +kernel)) (fun _ => kitAny_nil) (fun z => nomatch z)) (fun z => nomatch z), false, rfl, iteF ?_⟩⟩
    have s1 : Same H (upd H tp (.tup [.ty "tuple", .ty "list"])) := (Same.refl H).put ntp
    refine ⟨_, rfl, rfl, true, rfl, iteT (iteT ?_)⟩
    refine ⟨_, rfl, _, rfl, rfl, decide (V.non = V.non), rfl, ?_⟩
    rw [decide_eq_true rfl]
    refine iteT ?_
    refine ⟨_, rfl, _, "NoneType", false, rfl, .non, by decide +kernel, _, rfl, _, "NoneType", false, rfl, .non, by decide +kernel, rfl, ?_⟩
    exact q _ s1
  | bl _ b =>
    cases hy
    refine ⟨_, rfl, _, "bool", false, rfl, .bl b, by decide +kernel, false, rfl, iteF ?_⟩
    refine ⟨_, rfl, (by show 2 ≤ sizeLine; decide), fun tp ntp => ⟨_, tp, _, .type "bool", [.type "tuple", .type "list"], false, rfl, upd_same, .cons (.ty _) (.cons (.ty _) .nil), .base (.bl b), kitAny_cons (b := false) (kit_ty (by decide +kernel)) (fun _ => kitAny_cons (b := false) (kit_ty (by decide +kernel)) (fun _ => kitAny_nil) (fun z => nomatch z)) (fun z => nomatch z), false, rfl, iteF ?_⟩⟩
    have s1 : Same H (upd H tp (.tup [.ty "tuple", .ty "list"])) := (Same.refl H).put ntp
    refine ⟨_, rfl, rfl, false, rfl, iteF ⟨_, rfl, _, "bool", false, rfl, .bl b, by decide +kernel, false, rfl, iteF ?_⟩⟩
    refine ⟨_, rfl, _, "bool", true, rfl, .bl b, by decide +kernel, true, rfl, iteT ?_⟩
    refine ⟨_, rfl, _, "bool", true, rfl, .bl b, by decide +kernel, _, rfl, _, "bool", true, rfl, .bl b, by decide +kernel, rfl, true, rfl, iteT ?_⟩
    refine ⟨_, rfl, _, rfl, rfl, ?_⟩
    rw [decide_eq_true rfl]
    exact q _ s1
  | int _ i =>
    cases hy
    refine ⟨_, rfl, _, "int", false, rfl, .int i, by decide +kernel, false, rfl, iteF ?_⟩
    refine ⟨_, rfl, (by show 2 ≤ sizeLine; decide), fun tp ntp => ⟨_, tp, _, .type "int", [.type "tuple", .type "list"], false, rfl, upd_same, .cons (.ty _) (.cons (.ty _) .nil), .base (.int i), kitAny_cons (b := false) (kit_ty (by decide +kernel)) (fun _ => kitAny_cons (b := false) (kit_ty (by decide +kernel)) (fun _ => kitAny_nil) (fun z => nomatch z)) (fun z => nomatch z), false, rfl, iteF ?_⟩⟩
    have s1 : Same H (upd H tp (.tup [.ty "tuple", .ty "list"])) := (Same.refl H).put ntp
    refine ⟨_, rfl, rfl, false, rfl, iteF ⟨_, rfl, _, "int", false, rfl, .int i, by decide +kernel, false, rfl, iteF ?_⟩⟩
    refine ⟨_, rfl, _, "int", true, rfl, .int i, by decide +kernel, true, rfl, iteT ?_⟩
    refine ⟨_, rfl, _, "int", false, rfl, .int i, by decide +kernel, _, rfl, _, "int", false, rfl, .int i, by decide +kernel, rfl, true, rfl, iteT ?_⟩
    refine ⟨_, rfl, _, rfl, rfl, ?_⟩
    rw [decide_eq_true rfl]
    exact q _ s1
  | str _ x =>
    cases hy
    refine ⟨_, rfl, _, "str", false, rfl, .str x, by decide +kernel, false, rfl, iteF ?_⟩
    refine ⟨_, rfl, (by show 2 ≤ sizeLine; decide), fun tp ntp => ⟨_, tp, _, .type "str", [.type "tuple", .type "list"], false, rfl, upd_same, .cons (.ty _) (.cons (.ty _) .nil), .base (.str x), kitAny_cons (b := false) (kit_ty (by decide +kernel)) (fun _ => kitAny_cons (b := false) (kit_ty (by decide +kernel)) (fun _ => kitAny_nil) (fun z => nomatch z)) (fun z => nomatch z), false, rfl, iteF ?_⟩⟩
    have s1 : Same H (upd H tp (.tup [.ty "tuple", .ty "list"])) := (Same.refl H).put ntp
    refine ⟨_, rfl, rfl, false, rfl, iteF ⟨_, rfl, _, "str", true, rfl, .str x, by decide +kernel, true, rfl, iteT ?_⟩⟩
    refine ⟨_, rfl, _, rfl, rfl, decide (V.str x = V.str x), rfl, ?_⟩
    rw [decide_eq_true rfl]
    refine iteT ?_
    refine ⟨_, rfl, _, "str", true, rfl, .str x, by decide +kernel, _, rfl, _, "str", true, rfl, .str x, by decide +kernel, rfl, ?_⟩
    exact q _ s1
  | lst e l z all =>
    rename_i p xs ds
    cases hy with
    | lst e2 l2 z2 all2 =>
      rename_i q0 ys
      refine ⟨_, rfl, _, "list", false, rfl, .lst e2, by decide +kernel, false, rfl, iteF ?_⟩
      refine ⟨_, rfl, (by show 2 ≤ sizeLine; decide), fun tp ntp => ?_⟩
      have s1 : Same H (upd H tp (.tup [.ty "tuple", .ty "list"])) := (Same.refl H).put ntp
      refine ⟨_, tp, _, .type "list", [.type "tuple", .type "list"], true, rfl, upd_same, .cons (.ty _) (.cons (.ty _) .nil), .base (.lst (s1 _ _ e2)), kitAny_cons (b := false) (kit_ty (by decide +kernel)) (fun _ => kitAny_cons (b := true) (kit_ty (by decide +kernel)) (fun z => nomatch z) (fun _ => rfl)) (fun z => nomatch z), true, rfl, iteT ?_⟩
      refine ⟨_, rfl, (by show 2 ≤ sizeLine; decide), fun tp2 ntp2 => ?_⟩
      have s2 := s1.put' (o := .tup [.ty "tuple", .ty "list"]) ntp2
      refine ⟨_, tp2, _, .type "list", [.type "tuple", .type "list"], true, rfl, upd_same, .cons (.ty _) (.cons (.ty _) .nil), .base (.lst (s2 _ _ e)), kitAny_cons (b := false) (kit_ty (by decide +kernel)) (fun _ => kitAny_cons (b := true) (kit_ty (by decide +kernel)) (fun z => nomatch z) (fun _ => rfl)) (fun z => nomatch z), true, rfl, iteF ?_⟩
      refine ⟨_, rfl, _, "list", true, rfl, .lst (s2 _ _ e), by decide +kernel, _, rfl, _, "list", true, rfl, .lst (s2 _ _ e2), by decide +kernel, rfl, _, rfl, iteF ?_⟩
      refine ⟨_, rfl, p, _, rfl, .inl (sqL_of (s2 _ _ e)), _, rfl, q0, _, rfl, .inl (sqL_of (s2 _ _ e2)), rfl, _, rfl, ?_⟩
      have el : ((xs.length : Nat) : Int) = (ys.length : Nat) := by rw [l, l2]
      rw [el, decide_eq_true rfl]
      refine iteF ?_
      refine ⟨_, rfl, q0, _, rfl, .inl (sqL_of (s2 _ _ e2)), _, rfl, by omega, by omega, fun D nD => lc_it walk_range (fun i H' => Same H H' ∧ H' D = some (.lst [])) ⟨s2.put' nD, upd_same⟩ (fun _ _ _ _ => trivial) ?_ ?_⟩
      · rintro i y H2 H3 hi ⟨s3, e3⟩ ⟨rfl, hy⟩
        have hy : y = V.int (i : Nat) := by
          rw [hy]
          show V.int (0 + (i : Nat)) = _
          rw [Int.zero_add]
        subst hy
        have hi : i < ys.length := by simpa using hi
        have hix : i < xs.length := by omega
        have hid : i < ds.length := by omega
        refine ⟨rfl, _, rfl, _, rfl, .inl ⟨_, _, (i : Nat), _, rfl, rfl, sqL_of (s3 _ _ e), atI_nat (List.getElem?_eq_getElem hix), ?_⟩⟩
        refine ⟨_, rfl, _, rfl, .inl ⟨_, _, (i : Nat), _, rfl, rfl, sqL_of (s3 _ _ e2), atI_nat (List.getElem?_eq_getElem hi), ?_⟩⟩
        refine ⟨_, _, ds[i], rfl, (all i _ _ (List.getElem?_eq_getElem hix) (List.getElem?_eq_getElem hid)).same s3, (all2 i _ _ (List.getElem?_eq_getElem hi) (List.getElem?_eq_getElem hid)).same s3, fun H4 s4 => ⟨true, rfl, iteF ⟨s3.trans s4, s4 _ _ e3⟩⟩⟩
      · rintro H2 ⟨s3, e3⟩
        refine ⟨Nat.zero_le _, fun p2 np2 => ⟨.list [], .list [], .lst (sqL_of (by rw [upd_ne (ne_of_none e3 np2)]; exact e3)) .nil, .lst sqL_new .nil, rfl, rfl, q _ (s3.put' np2)⟩⟩
  | tup e l z all =>
    rename_i p xs ds
    cases hy with
    | tup e2 l2 z2 all2 =>
      rename_i q0 ys
      refine ⟨_, rfl, _, "tuple", false, rfl, .tup e2, by decide +kernel, false, rfl, iteF ?_⟩
      refine ⟨_, rfl, (by show 2 ≤ sizeLine; decide), fun tp ntp => ?_⟩
      have s1 : Same H (upd H tp (.tup [.ty "tuple", .ty "list"])) := (Same.refl H).put ntp
      refine ⟨_, tp, _, .type "tuple", [.type "tuple", .type "list"], true, rfl, upd_same, .cons (.ty _) (.cons (.ty _) .nil), .base (.tup (s1 _ _ e2)), kitAny_cons (b := true) (kit_ty (by decide +kernel)) (fun z => nomatch z) (fun _ => rfl), true, rfl, iteT ?_⟩
      refine ⟨_, rfl, (by show 2 ≤ sizeLine; decide), fun tp2 ntp2 => ?_⟩
      have s2 := s1.put' (o := .tup [.ty "tuple", .ty "list"]) ntp2
      refine ⟨_, tp2, _, .type "tuple", [.type "tuple", .type "list"], true, rfl, upd_same, .cons (.ty _) (.cons (.ty _) .nil), .base (.tup (s2 _ _ e)), kitAny_cons (b := true) (kit_ty (by decide +kernel)) (fun z => nomatch z) (fun _ => rfl), true, rfl, iteF ?_⟩
      refine ⟨_, rfl, _, "tuple", false, rfl, .tup (s2 _ _ e), by decide +kernel, _, rfl, _, "tuple", false, rfl, .tup (s2 _ _ e2), by decide +kernel, rfl, _, rfl, iteF ?_⟩
      refine ⟨_, rfl, p, _, rfl, .inr (sqT_of (s2 _ _ e)), _, rfl, q0, _, rfl, .inr (sqT_of (s2 _ _ e2)), rfl, _, rfl, ?_⟩
      have el : ((xs.length : Nat) : Int) = (ys.length : Nat) := by rw [l, l2]
      rw [el, decide_eq_true rfl]
      refine iteF ?_
      refine ⟨_, rfl, q0, _, rfl, .inr (sqT_of (s2 _ _ e2)), _, rfl, by omega, by omega, fun D nD => lc_it walk_range (fun i H' => Same H H' ∧ H' D = some (.lst [])) ⟨s2.put' nD, upd_same⟩ (fun _ _ _ _ => trivial) ?_ ?_⟩
      · rintro i y H2 H3 hi ⟨s3, e3⟩ ⟨rfl, hy⟩
        have hy : y = V.int (i : Nat) := by
          rw [hy]
          show V.int (0 + (i : Nat)) = _
          rw [Int.zero_add]
        subst hy
        have hi : i < ys.length := by simpa using hi
        have hix : i < xs.length := by omega
        have hid : i < ds.length := by omega
        refine ⟨rfl, _, rfl, _, rfl, .inr (.inl ⟨_, _, (i : Nat), _, rfl, rfl, sqT_of (s3 _ _ e), atI_nat (List.getElem?_eq_getElem hix), ?_⟩)⟩
        refine ⟨_, rfl, _, rfl, .inr (.inl ⟨_, _, (i : Nat), _, rfl, rfl, sqT_of (s3 _ _ e2), atI_nat (List.getElem?_eq_getElem hi), ?_⟩)⟩
        refine ⟨_, _, ds[i], rfl, (all i _ _ (List.getElem?_eq_getElem hix) (List.getElem?_eq_getElem hid)).same s3, (all2 i _ _ (List.getElem?_eq_getElem hi) (List.getElem?_eq_getElem hid)).same s3, fun H4 s4 => ⟨true, rfl, iteF ⟨s3.trans s4, s4 _ _ e3⟩⟩⟩
      · rintro H2 ⟨s3, e3⟩
        refine ⟨Nat.zero_le _, fun p2 np2 => ⟨.list [], .list [], .lst (sqL_of (by rw [upd_ne (ne_of_none e3 np2)]; exact e3)) .nil, .lst sqL_new .nil, rfl, rfl, q _ (s3.put' np2)⟩⟩
end
end Sc
namespace Sc
open PySem PySem.Spec PyProof.Rows L2
theorem strAt_inj {xs : List Str} {i : Nat} {x : Str} {v : V} (hx : xs[i]? = some x) (h : (xs.map V.str)[i]? = some v) : V.str x = v := by
  rw [List.getElem?_map, hx] at h
  exact Option.some.inj h
theorem find_none {n : Nat} {p : Nat → Bool} (h : ∀ j, j < n → p j = false) : (List.range n).find? p = none := by
  rw [List.find?_eq_none]
  intro j hj
  rw [h j (List.mem_range.mp hj)]
  exact Bool.false_ne_true
theorem find_at {n i : Nat} {p : Nat → Bool} (hi : i < n) (hp : p i = true) (h : ∀ j, j < i → p j = false) : (List.range n).find? p = some i := by
  rw [List.find?_range_eq_some]
  exact ⟨hp, List.mem_range.mpr hi, fun j hj => by rw [h j hj]; rfl⟩
/-- names that texts of a program may have -/
def Txts (xs : List Str) : Prop := ∀ x ∈ xs, x.length ≤ 1000
def errIx (C : Addr) (i : Nat) (H : Hp) (E : XK) : Prop := ∀ H' d, Same H H' → H' d = none → E (.ref C) (some d) (upd H' d (.xd [(("index" : Str), .int i)]))
theorem flat_strs : ∀ xs : List Str, (xs.map V.str).all flatV = true
  | [] => rfl
  | _ :: r => flat_strs r
theorem inV_str {x : Str} : ∀ xs : List Str, inV (.str x) (xs.map V.str) = decide (x ∈ xs)
  | [] => rfl
  | y :: r => by
    show (eqV (.str y) (.str x) || inV (.str x) (r.map V.str)) = _
    rw [inV_str r]
    show ((y == x) || _) = _
    by_cases h : y = x
    · subst h
      simp
    · have e : (y == x) = false := by simpa using h
      rw [e, Bool.false_or]
      simp [List.mem_cons, show ¬ x = y from fun z => h z.symm]
end Sc
namespace Sc
open PySem PySem.Spec PyProof.Rows L2
/-! ### conditions -/
abbrev s_check_part : Stmt := topS 27
theorem sc_check_part : FnScope ["part", "names", "before", "index", "name", "wrong"] ["part", "names", "before"] (defScope s_check_part) := ⟨rfl, rfl, rfl, by decide +kernel, rfl, by decide +kernel, by decide +kernel⟩
abbrev s_merged : Stmt := topS 28
theorem sc_merged : FnScope ["names", "others", "name"] ["names", "others"] (defScope s_merged) := ⟨rfl, rfl, rfl, by decide +kernel, rfl, by decide +kernel, by decide +kernel⟩
theorem filter1 {α : Type} (p : α → Bool) (y : α) : List.filter p [y] = if p y = true then [y] else [] := by cases h : p y <;> simp [List.filter, h]
section
variable {P : Program} {w : World} {K : PySem.W.Frag} {mg : Str → Option Value} {base : Heap} {CC : Addr}
/-- the i-th name of a part is wrong; ys the part ahead of it -/
def wrongAt (xs ys : List Str) (i : Nat) : Bool := match xs[i]? with
  | some x => (!isName x || !risesAt xs i) || (decide (8 ≤ ys.length + i) || decide (x ∈ ys))
  | none => false
def firstWrong (xs ys : List Str) : Option Nat := (List.range xs.length).find? (wrongAt xs ys)
def errPI (C : Addr) (part : Int) (i : Nat) (H : Hp) (E : XK) : Prop := ∀ H' d, Same H H' → H' d = none → E (.ref C) (some d) (upd H' d (.xd [(("index" : Str), .int i), (("part" : Str), .int part)]))
def sp_check_part (K : PySem.W.Frag) (C : Addr) : Sp := fun vs H Q E => ∃ (part : Nat) (a b : Addr) (xs ys : List Str), vs = [.int part, .ref a, .ref b] ∧ part ≤ 1 ∧ SqT K H a (xs.map V.str) ∧ SqT K H b (ys.map V.str) ∧ Txts xs ∧ xs.length ≤ 1000 ∧ ys.length ≤ 1000 ∧
  (firstWrong xs ys = none → ∀ H', Same H H' → Q .non H') ∧ (∀ i, firstWrong xs ys = some i → errPI C part i H E)
theorem ok_check_part {f : Addr} {fd : FuncData} (F : Fun K "check_part" "check_part" s_check_part f fd) (B : Blt mg) (mM : ∃ t, mg "MOST_NAMES" = some (.int 8 t))
    (e_InvalidCondition : ErrMk P w K mg base "InvalidCondition" CC ["self", "part", "index"] (sp_init2 CC "part" "index")) (c_is_name : Cal P w K mg base CX0 1 "is_name" ["value"] sp_is_name) (c_rises : Cal P w K mg base CX0 1 "rises" ["names", "index"] (sp_rises K)) :
    FnOk P w K mg base (L2.CX P w) 3 f fd ["part", "names", "before"] (sp_check_part K CC) := by
  obtain ⟨t1, mM⟩ := mM
  refine F.okX sc_check_part (fun vs H Q E h => by obtain ⟨part, a, b, xs, ys, rfl, _⟩ := h; rfl) (fun cdv A outer s H vs Q E hr h => ?_)
  obtain ⟨part, a, b, xs, ys, rfl, hp, hS, hY, hT, hl, hly, q, e⟩ := h
  refine ⟨_, (pss_one (ps_for (passes_of rfl) rfl (pi_enumT (by rfl) B.b_enumerate (pa_cons (pv 1) pa_nil)) (pg_tup (by rfl) (pgs_cons (pg_name (i := 3) sc_check_part.nd rfl (Or.inl rfl)) (pgs_cons (pg_name (i := 4) sc_check_part.nd rfl (Or.inl rfl)) pgs_nil))) (pss_cons (ps_set (i := 5) sc_check_part.nd rfl (Or.inl rfl) (pe_or (pe_not (pe_cal c_is_name (hr.mono (by decide)) (pa_cons (pv 4) pa_nil))) (pe_one (pe_not (pe_cal c_rises (hr.mono (by decide)) (pa_cons (pv 1) (pa_cons (pv 3) pa_nil)))))))
      (pss_one (ps_if (PW.pt (pw_or (pt_val (pv 5)) (pw_or (pt_cmpR op_ge (pe_op op_add (pe_callB call_len_seq (by rfl) B.b_len PySem.boot_len (pa_cons (pv 2) pa_nil)) (pv 3)) (pe_glob (v := .int 8) rfl mM ⟨_, rfl⟩) (nomark _)) (pw_or1 (pt_cmpR op_in_seq (pv 4) (pv 2) rfl))))) (pss_one (ps_raise rfl (takes_of rfl rfl rfl rfl) (pmk_err2 e_InvalidCondition (hr.mono (by decide)) (pv 0) (pv 3)))) pss_nil))))), ?_⟩
  refine ⟨.ref a, rfl, a, _, rfl, hS, for_it walk_enumT (fun i σ H' => ∃ y1 y2 y3, σ = [some (.int part), some (.ref a), some (.ref b), y1, y2, y3] ∧ Same H H' ∧ ∀ j, j < i → wrongAt xs ys j = false)
    ⟨none, none, none, rfl, Same.refl H, fun j hj => absurd hj (Nat.not_lt_zero j)⟩ (fun i σ H' _ ⟨_, _, _, _, s, _⟩ => s.tup hS) ?_ ?_⟩
  · rintro i x σ H2 H3 hi ⟨y1, y2, y3, rfl, s, hb⟩ ⟨T, v1, v2, rfl, nT, rfl, h1, h2⟩
    obtain rfl : V.int (i : Nat) = v1 := Option.some.inj h1
    rw [List.length_map] at hi
    have hx : xs[i]? = some xs[i] := List.getElem?_eq_getElem hi
    obtain rfl : V.str xs[i] = v2 := strAt_inj hx h2
    have s3 : Same H (upd H2 T (.tup [.int (i : Nat), .str xs[i]])) := s.put' nT
    have rz : ∀ {H' : Hp}, wrongAt xs ys i = true → Same H H' → ∀ d, H' d = none → E (.ref CC) (some d) (upd H' d (.xd [(("index" : Str), .int (i : Nat)), (("part" : Str), .int part)])) := fun {H'} hp sH d nd => e i (find_at hi hp hb) H' d sH nd
    refine ⟨T, [.int (i : Nat), .str xs[i]], rfl, sqT_new, rfl, _, _, rfl, _, _, rfl, rfl, ?_⟩
    have ew : wrongAt xs ys i = ((!isName xs[i] || !risesAt xs i) || (decide (8 ≤ ys.length + i) || decide (xs[i] ∈ ys))) := by unfold wrongAt; rw [hx]
    have fk : FOk (.int part) ∧ FOk (.int (i : Nat)) := ⟨fok_nat (by omega), fok_nat (by omega)⟩
    refine ⟨_, rfl, xs[i], rfl, Nat.le_trans (hT _ (List.getElem_mem hi)) (by rw [sizeLine_eq]; decide), fun H4 s4 => ⟨_, rfl, _, rfl, bcase (fun c1 => ?_) (fun c1 => ?_)⟩⟩
    · exact ⟨_, rfl, _, rfl, iteT (iteT ⟨_, rfl, _, rfl, fk, rz (by rw [ew, c1, Bool.true_or, Bool.true_or]) (s3.trans s4)⟩)⟩
    · have s5 := s3.trans s4
      rw [c1, Bool.false_or] at ew
      refine ⟨.ref a, rfl, .int i, rfl, a, xs, i, rfl, s5.tup hS, hi, _, rfl, ?_⟩
      refine ⟨_, rfl, _, rfl, bcase (fun c2 => ?_) (fun c2 => ?_)⟩
      · exact iteT ⟨_, rfl, _, rfl, fk, rz (by rw [ew, c2, Bool.true_or]) s5⟩
      · rw [c2, Bool.false_or] at ew
        refine ⟨.ref b, rfl, b, _, rfl, .inr (s5.tup hY), .int i, rfl, _, i, rfl, rfl, _, 8, rfl, rfl, _, rfl, ?_⟩
        rw [List.length_map]
        by_cases h8 : 8 ≤ ys.length + i
        · rw [decide_eq_true (show (8 : Int) ≤ (ys.length : Int) + (i : Int) by omega)]
          exact iteT (iteT ⟨_, rfl, _, rfl, fk, rz (by rw [ew, decide_eq_true h8, Bool.true_or]) s5⟩)
        · rw [decide_eq_false (show ¬ (8 : Int) ≤ (ys.length : Int) + (i : Int) by omega)]
          rw [decide_eq_false h8, Bool.false_or] at ew
          refine iteF ⟨.str xs[i], rfl, .ref b, rfl, b, _, rfl, .inr (s5.tup hY), rfl, flat_strs ys, _, rfl, bcase (fun c3 => ?_) (fun c3 => ?_)⟩
          · have c3 : decide (xs[i] ∈ ys) = true := by rw [← inV_str]; exact c3
            exact ⟨_, rfl, _, rfl, fk, rz (by rw [ew, c3]) s5⟩
          · have c3 : decide (xs[i] ∈ ys) = false := by rw [← inV_str]; exact c3
            refine ⟨_, _, _, rfl, s5, fun j hj => ?_⟩
            by_cases hj2 : j < i
            · exact hb j hj2
            · have ej : j = i := by omega
              subst ej
              rw [ew, c3]
  · rintro σ H2 ⟨y1, y2, y3, rfl, s, hb⟩
    rw [List.length_map] at hb
    exact q (find_none hb) H2 s
def sp_merged (K : PySem.W.Frag) : Sp := fun vs H Q _ => ∃ (a b : Addr) (xs ys : List Str), vs = [.ref a, .ref b] ∧ SqT K H a (xs.map V.str) ∧ SqT K H b (ys.map V.str) ∧ xs.length + ys.length < 64 ∧
  ∀ H' p (zs : List Str), Same H H' → H' p = some (.tup (zs.map V.str)) → zs.Perm (xs ++ ys.filter fun y => !decide (y ∈ xs)) → sortedS zs = true → Q (.ref p) H'
theorem ok_merged {f : Addr} {fd : FuncData} (F : Fun K "merged" "merged" s_merged f fd) (B : Blt mg) : FnOk P w K mg base CX0 1 f fd ["names", "others"] (sp_merged K) := by
  refine F.ok sc_merged (fun vs H Q E h => by obtain ⟨a, b, xs, ys, rfl, _⟩ := h; rfl) (fun cdv A outer s H vs Q E hr h => ?_)
  obtain ⟨a, b, xs, ys, rfl, hS, hY, hl, q⟩ := h
  refine ⟨_, (pss_one (ps_ret (pe_callTy call_tuple_of (by rfl) B.b_tuple PyProof.Rows.boot_tuple (pa_cons (pe_callB cr_sortedS (by rfl) B.b_sorted (by decide +kernel) (pa_cons (pe_op op_cat (pe_callTy call_list_of (by rfl) B.b_list PyProof.Rows.boot_list (pa_cons (pv 0) pa_nil)) (pe_lc (own := [("name", 2)]) (g := gName 2) rfl sc_merged.nd (pi_tup (pv 1)) (blkOk_by (own := [("name", 2)]) (N := ["names", "others", "name"]) (sc := defScope s_merged) (by decide +kernel)) (fun _ _ _ _ _ => (pg_name (i := 2) sc_merged.nd rfl (Or.inl rfl))) (fun _ _ _ _ _ => (pts_.re (pts_one (pt_cmpR op_notIn_seq (pv 2) (pv 0) rfl)) (by first | (dsimp only [Cx.blk]; done) | exact rfl))) (fun _ _ _ _ _ => (pe_.re (pv 2) (by first | (dsimp only [Cx.blk]; done) | exact rfl))))) pa_nil)) pa_nil)))), ?_⟩
  have big : ∀ {m : Nat}, m ≤ 1000 → m ≤ sizeLine := fun {m} h => by rw [sizeLine_eq]; omega
  refine ⟨.ref a, rfl, a, _, rfl, .inr hS, fun l nl => ?_⟩
  have s1 := (Same.refl H).put (o := .lst (xs.map V.str)) nl
  have e1 : (upd H l (.lst (xs.map V.str))) l = some (.lst (xs.map V.str)) := upd_same
  generalize upd H l (.lst (xs.map V.str)) = H1 at s1 e1 ⊢
  refine ⟨.ref b, rfl, b, rfl, ⟨_, s1.tup hY⟩, fun D nD => lc_it walk_tup (fun i H' => Same H1 H' ∧ H' D = some (.lst (((ys.take i).filter fun y => !decide (y ∈ xs)).map V.str))) ⟨(Same.refl H1).put nD, upd_same⟩ (fun _ _ _ h => (s1.trans h.1).tup hY) ?_ ?_⟩
  · rintro i y H2 H3 hi ⟨s, e⟩ ⟨rfl, hy⟩
    rw [List.length_map] at hi
    have hx : ys[i]? = some ys[i] := List.getElem?_eq_getElem hi
    obtain rfl : V.str ys[i] = y := strAt_inj hx hy
    refine ⟨rfl, .str ys[i], rfl, .ref a, rfl, a, _, rfl, .inr ((s1.trans s).tup hS), rfl, flat_strs xs, _, rfl, bcase (fun c1 => ?_) (fun c1 => ?_)⟩
    · have c1 : (!decide (ys[i] ∈ xs)) = true := by rw [← inV_str]; exact c1
      refine ⟨_, rfl, grow (acc := fun i => ((ys.take i).filter fun y => !decide (y ∈ xs)).map V.str) nD s e ?_ ?_⟩
      · rw [List.length_map]
        refine small1000 (Nat.le_trans (List.length_filter_le _ _) ?_)
        rw [List.length_take]
        omega
      · show List.map V.str _ = _
        rw [take_more hx, List.filter_append, List.map_append, filter1, if_pos c1]
        rfl
    · have c1 : (!decide (ys[i] ∈ xs)) = false := by rw [← inV_str]; exact c1
      refine ⟨s, ?_⟩
      rw [take_more hx, List.filter_append, filter1, if_neg (by rw [c1]; exact Bool.false_ne_true), List.append_nil]
      exact e
  · rintro H2 ⟨s, e⟩
    rw [List.length_map, List.take_length] at e
    have hfl := List.length_filter_le (fun y => !decide (y ∈ xs)) ys
    refine ⟨l, D, _, _, rfl, rfl, s _ _ e1, e, big (by rw [List.length_map, List.length_map]; omega), fun p np => ?_⟩
    have s2 := (s1.trans s).put' (o := .lst (xs.map V.str ++ (ys.filter fun y => !decide (y ∈ xs)).map V.str)) np
    refine ⟨p, xs ++ ys.filter fun y => !decide (y ∈ xs), rfl, ?_, ?_, fun zs p2 hp hs np2 => ?_⟩
    · rw [List.map_append]
      exact sqL_new
    · rw [List.length_append]
      omega
    · refine ⟨p2, _, rfl, .inl ⟨sqL_new, fun p3 np3 => q _ p3 zs ((s2.put' np2).put' np3) upd_same hp hs⟩⟩
end
end Sc
namespace Sc
open PySem PySem.Spec PyProof.Rows L2
/-! ### an object Condition -/
abbrev s_Condition___init__ : Stmt := (inClass (topS 26) 0)
theorem sc_Condition___init__ : FnScope ["self", "holding", "failing"] ["self", "holding", "failing"] (defScope s_Condition___init__) := ⟨rfl, rfl, rfl, by decide +kernel, rfl, by decide +kernel, by decide +kernel⟩
section
variable {P : Program} {w : World} {K : PySem.W.Frag} {mg : Str → Option Value} {base : Heap} {CC C : Addr}
theorem wrongs_none {xs ys : List Str} (h : firstWrong xs ys = none) (i : Nat) (hi : i < xs.length) : ((!isName xs[i] || !risesAt xs i) = false ∧ ¬ 8 ≤ ys.length + i) ∧ ¬ xs[i] ∈ ys := by
  unfold firstWrong at h
  rw [List.find?_eq_none] at h
  have h := (Bool.not_eq_true _).mp (h i (List.mem_range.mpr hi))
  unfold wrongAt at h
  rw [List.getElem?_eq_getElem hi] at h
  dsimp only at h
  rw [Bool.or_eq_false_iff, Bool.or_eq_false_iff (x := decide _)] at h
  exact ⟨⟨h.1, of_decide_eq_false h.2.1⟩, of_decide_eq_false h.2.2⟩
theorem fw_len {xs ys : List Str} (h : firstWrong xs ys = none) : xs.length = 0 ∨ ys.length + xs.length ≤ 8 := by
  by_cases e : xs.length = 0
  · exact .inl e
  · have := (wrongs_none h (xs.length - 1) (by omega)).1.2
    exact .inr (by omega)
theorem fw_out {xs ys : List Str} (h : firstWrong xs ys = none) : ∀ x ∈ xs, ¬ x ∈ ys := by
  intro x hx
  obtain ⟨i, hi, rfl⟩ := List.getElem_of_mem hx
  exact (wrongs_none h i hi).2
theorem filter_out {xs ys : List Str} (h : ∀ x ∈ xs, ¬ x ∈ ys) : xs.filter (fun x => !decide (x ∈ ys)) = xs := by
  rw [List.filter_eq_self]
  intro x hx
  rw [decide_eq_false (h x hx)]
  rfl
/-- all but the object at x stands -/
def SameX (x : Addr) (H H' : Hp) : Prop := ∀ b o, b ≠ x → H b = some o → H' b = some o
/-- the fields of a condition -/
def condF (a b n : Addr) : List (Str × V) := putF "_names" (.ref n) (putF "_failing" (.ref b) (putF "_holding" (.ref a) []))
def sp_cond_init (K : PySem.W.Frag) (C CC : Addr) : Sp := fun vs H Q E => ∃ (x dx a b : Addr) (xs ys : List Str), vs = [.ref x, .ref a, .ref b] ∧ H x = some (.ins C dx []) ∧ SqT K H a (xs.map V.str) ∧ SqT K H b (ys.map V.str) ∧ Txts xs ∧ Txts ys ∧ xs.length ≤ 1000 ∧ ys.length ≤ 1000 ∧
  (∀ i, firstWrong xs [] = some i → errPI CC ((0 : Nat) : Int) i H E) ∧ (firstWrong xs [] = none → (∀ i, firstWrong ys xs = some i → errPI CC ((1 : Nat) : Int) i H E) ∧
  (firstWrong ys xs = none → ∀ H' n zs, SameX x H H' → H' x = some (.ins C dx (condF a b n)) → H' n = some (.tup (zs.map V.str)) → zs.Perm (xs ++ ys) → sortedS zs = true → Q .non H'))
theorem sqT_upd {H : Hp} {x dx a' : Addr} {fs : List (Str × V)} {o : HO} {vs : List V} (hx : H x = some (.ins C dx fs)) (h : SqT K H a' vs) : SqT K (upd H x o) a' vs := by
  rcases h with (h | ⟨ob, h⟩) | h
  · have ne : a' ≠ x := fun e => by rw [e, hx] at h; cases h
    exact .inl (.inl (by rw [upd_ne ne]; exact h))
  · have ne : a' ≠ x := fun e => by rw [e, hx] at h; cases h
    exact .inl (.inr ⟨ob, by rw [upd_ne ne]; exact h⟩)
  · exact .inr h
theorem putF_len (f : Str) (v : V) : ∀ fs : List (Str × V), (putF f v fs).length ≤ fs.length + 1
  | [] => Nat.le_refl 1
  | (g, x) :: r => by
    unfold putF
    split
    · exact Nat.le_succ _
    · show (putF f v r).length + 1 ≤ r.length + 1 + 1
      exact Nat.succ_le_succ (putF_len f v r)
theorem ok_cond_init {f : Addr} {fd : FuncData} (F : Fun K "__init__" "Condition.__init__" s_Condition___init__ f fd) (B : Blt mg) (T : Cls K C) (n1 : NoAttr K C "_holding") (n2 : NoAttr K C "_failing") (n3 : NoAttr K C "_names")
    (c_check_part : Cal P w K mg base (L2.CX P w) 3 "check_part" ["part", "names", "before"] (sp_check_part K CC)) (c_merged : Cal P w K mg base CX0 1 "merged" ["names", "others"] (sp_merged K)) :
    FnOk P w K mg base (L2.CX P w) 4 f fd ["self", "holding", "failing"] (sp_cond_init K C CC) := by
  refine F.okX sc_Condition___init__ (fun vs H Q E h => by obtain ⟨x, dx, a, b, xs, ys, rfl, _⟩ := h; rfl) (fun cdv A outer s H vs Q E hr h => ?_)
  obtain ⟨x, dx, a, b, xs, ys, rfl, hx, hA, hB, tA, tB, lA, lB, e0, q⟩ := h
  refine ⟨_, (pss_cons (ps_expr (pe_calX c_check_part (hr.mono (by decide)) (takes_of rfl rfl rfl rfl) (pa_cons pe_int (pa_cons (pv 1) (pa_cons (pe_tup pa_nil) pa_nil)))))
      (pss_cons (ps_expr (pe_calX c_check_part (hr.mono (by decide)) (takes_of rfl rfl rfl rfl) (pa_cons pe_int (pa_cons (pv 2) (pa_cons (pv 1) pa_nil)))))
      (pss_cons (ps_fld (pv 0) (pv 1) rfl)
      (pss_cons (ps_fld (pv 0) (pv 2) rfl)
      (pss_one (ps_fld (pv 0) (pe_cal c_merged (hr.mono (by decide)) (pa_cons (pv 1) (pa_cons (pv 2) pa_nil))) rfl)))))), ?_⟩
  refine ⟨.ref a, rfl, Nat.zero_le _, fun t nt => ⟨0, a, t, xs, [], rfl, by decide, ((Same.refl H).put nt).tup hA, sqT_new, tA, lA, by decide, fun e1 H1 s1 => ?_, fun i ei H' d sH nd => e0 i ei H' d (((Same.refl H).put nt).trans sH) nd⟩⟩
  obtain ⟨e1', q⟩ := q e1
  have s1 := ((Same.refl H).put nt).trans s1
  refine ⟨.ref b, rfl, .ref a, rfl, 1, b, a, ys, xs, rfl, by decide, s1.tup hB, s1.tup hA, tB, lB, lA, fun e2 H2 s2 => ?_, fun i ei H' d sH nd => e1' i ei H' d (s1.trans sH) nd⟩
  have s2 := s1.trans s2
  have q := q e2
  have hlen : xs.length + ys.length < 64 := by
    have h1 := fw_len e1
    have h2 := fw_len e2
    simp only [List.length_nil] at h1
    omega
  have hx2 := s2 _ _ hx
  refine ⟨.ref a, rfl, .ref x, rfl, x, C, dx, [], rfl, hx2, T, n1, by decide, ?_⟩
  refine ⟨.ref b, rfl, .ref x, rfl, x, C, dx, _, rfl, upd_same, T, n2, Nat.lt_of_le_of_lt (putF_len _ _ _) (by decide), ?_⟩
  refine ⟨.ref a, rfl, .ref b, rfl, a, b, xs, ys, rfl, ?_, ?_, hlen, fun H' p zs sH ep hperm hsort => ?_⟩
  · exact sqT_upd upd_same (sqT_upd hx2 (s2.tup hA))
  · exact sqT_upd upd_same (sqT_upd hx2 (s2.tup hB))
  · rw [filter_out (fw_out e2)] at hperm
    refine ⟨.ref x, rfl, x, C, dx, _, rfl, sH _ _ upd_same, T, n3, Nat.lt_of_le_of_lt (putF_len _ _ _) (Nat.lt_of_le_of_lt (Nat.succ_le_succ (putF_len _ _ _)) (by decide)), q _ p zs (fun b' o ne hb => ?_) upd_same ?_ hperm hsort⟩
    · rw [upd_ne ne]
      refine sH _ _ ?_
      rw [upd_ne ne, upd_ne ne]
      exact s2 _ _ hb
    · have ne : p ≠ x := fun e => by
        have h2 := sH _ _ (upd_same (H := upd H2 x (.ins C dx (putF "_holding" (.ref a) []))) (a := x) (o := .ins C dx (putF "_failing" (.ref b) (putF "_holding" (.ref a) []))))
        rw [e, h2] at ep
        cases ep
      rw [upd_ne ne]
      exact ep
end
end Sc
namespace Sc
open PySem PySem.Spec PyProof.Rows L2
/-- texts that can be compared and are not long -/
def Fine (x : Str) : Prop := x.length ≤ 1000 ∧ (PyData.str x).canLay0 = true
def Fines (xs : List Str) : Prop := ∀ x ∈ xs, Fine x
section
variable {P : Program} {w : World} {K : PySem.W.Frag} {mg : Str → Option Value} {base : Heap} {a l : Addr} {H H' H'' : Hp}
theorem Fines.txts {xs : List Str} (h : Fines xs) : Txts xs := fun x hx => (h x hx).1
theorem dps (K : PySem.W.Frag) (H : Hp) : ∀ xs : List Str, DpAll K H (xs.map V.str) (xs.map PyData.str)
  | [] => .nil
  | x :: r => .cons (.str x) (dps K H r)
theorem strs_lay : ∀ {xs : List Str}, Fines xs → PyData.canLayAll0 (xs.map PyData.str) = true
  | [], _ => rfl
  | x :: r, h => by
    show ((PyData.str x).canLay0 && PyData.canLayAll0 (r.map PyData.str)) = true
    rw [(h x List.mem_cons_self).2, strs_lay fun y hy => h y (List.mem_cons_of_mem x hy)]
    rfl
theorem strs_depth : ∀ xs : List Str, PyData.depthAll (xs.map PyData.str) = 0
  | [] => rfl
  | x :: r => by
    show max (PyData.str x).depth (PyData.depthAll (r.map PyData.str)) = 0
    rw [strs_depth r]
    rfl
theorem shT {xs : List Str} (h : Fines xs) : SeqAt.shaped (.tuple (xs.map PyData.str)) = true := by
  unfold SeqAt.shaped
  have e1 : (PyData.tuple (xs.map PyData.str)).canLay0 = true := strs_lay h
  have e2 : (PyData.tuple (xs.map PyData.str)).depth = 1 := by show PyData.depthAll (xs.map PyData.str) + 1 = 1; rw [strs_depth]
  rw [e1, e2]
  rfl
theorem shL {xs : List Str} (h : Fines xs) : SeqAt.shaped (.list (xs.map PyData.str)) = true := by
  unfold SeqAt.shaped
  have e1 : (PyData.list (xs.map PyData.str)).canLay0 = true := strs_lay h
  have e2 : (PyData.list (xs.map PyData.str)).depth = 1 := by show PyData.depthAll (xs.map PyData.str) + 1 = 1; rw [strs_depth]
  rw [e1, e2]
  rfl
theorem eqvA_nil : ∀ xs : List Str, PyData.eqvAll (xs.map PyData.str) [] = decide (xs = [])
  | [] => rfl
  | _ :: _ => rfl
theorem eqvA : ∀ xs ys : List Str, PyData.eqvAll (xs.map PyData.str) (ys.map PyData.str) = decide (xs = ys)
  | [], [] => rfl
  | [], _ :: _ => rfl
  | _ :: _, [] => rfl
  | x :: r, y :: t => by
    show ((x == y) && PyData.eqvAll (r.map PyData.str) (t.map PyData.str)) = _
    rw [eqvA r t]
    by_cases h : x = y
    · subst h
      simp
    · have e : (x == y) = false := by simpa using h
      rw [e, Bool.false_and, decide_eq_false fun z => h (List.cons.inj z).1]
def chr1 (c : Nat) : Str := ⟨#[c]⟩
def oddL (x : Str) (i : Nat) : List Str := ((x.cps.toList.take i).filter fun c => !decide (c ∈ letters.cps.toList)).map chr1
theorem oddL_len {x : Str} {i : Nat} : (oddL x i).length ≤ x.length := by
  unfold oddL
  rw [List.length_map]
  exact Nat.le_trans (List.length_filter_le _ _) (by rw [List.length_take]; exact Nat.min_le_right _ _)
theorem oddL_fine {x : Str} {i : Nat} (h : Fine x) : Fines (oddL x i) := by
  intro y hy
  unfold oddL at hy
  obtain ⟨c, hc, rfl⟩ := List.mem_map.mp hy
  have hc := List.mem_of_mem_take (List.mem_filter.mp hc).1
  refine ⟨(show 1 ≤ 1000 by decide), ?_⟩
  have h2 : PyData.strOk x = true := h.2
  show PyData.strOk (chr1 c) = true
  unfold PyData.strOk at h2 ⊢
  rw [Array.all_eq_true'] at h2
  have h3 := h2 c (by rw [← Array.mem_toList_iff]; exact hc)
  rw [Array.all_eq_true']
  intro y hy
  have ey : y = c := by
    have hy : y ∈ (#[c] : Array Nat) := hy
    simpa using hy
  subst ey
  exact h3
theorem oddL_nil {x : Str} : decide (oddL x x.length = []) = isLetters x := by
  have el : x.cps.toList.take x.length = x.cps.toList := List.take_of_length_le (by rw [Array.length_toList]; exact Nat.le_refl _)
  unfold oddL isLetters
  rw [el]
  cases h : x.cps.toList.all fun c => decide (c ∈ letters.cps.toList) with
  | true =>
    rw [List.all_eq_true] at h
    have e : (x.cps.toList.filter fun c => !decide (c ∈ letters.cps.toList)) = [] := by
      rw [List.filter_eq_nil_iff]
      intro c hc z
      rw [h c hc] at z
      cases z
    rw [e]
    rfl
  | false =>
    rw [decide_eq_false]
    intro z
    have z := List.map_eq_nil_iff.mp z
    rw [List.filter_eq_nil_iff] at z
    rw [List.all_eq_false] at h
    obtain ⟨c, hc, hn⟩ := h
    exact z c hc (by cases e : decide (c ∈ letters.cps.toList) with | true => exact absurd e hn | false => rfl)
theorem risesAt_eq {xs : List Str} {i : Nat} (hi : i < xs.length) (h0 : i ≠ 0) (h1 : i - 1 < xs.length) : risesAt xs i = decide (xs[i - 1].cps.toList < xs[i].cps.toList) := by
  unfold risesAt
  rw [decide_eq_false h0, Bool.false_or, List.getElem?_eq_getElem h1, List.getElem?_eq_getElem hi]
theorem risesAt_0 {xs : List Str} : risesAt xs 0 = true := rfl
theorem strG {xs : List Str} {i : Nat} (hi : i < xs.length) : (xs.map V.str)[i]? = some (.str xs[i]) := by rw [List.getElem?_map, List.getElem?_eq_getElem hi]; rfl
theorem small_lim {z : Int} (h0 : 0 ≤ z) (h1 : z ≤ 1000) : z.natAbs.log2 < 9000 := by
  by_cases e : z.natAbs = 0
  · rw [e]; decide
  · exact (Nat.log2_lt e).mpr (Nat.lt_of_le_of_lt (show z.natAbs ≤ 2 ^ 10 by omega) (Nat.pow_lt_pow_right (by decide) (by decide)))
end
end Sc
namespace Sc
open PySem PySem.Spec PyProof.Rows L2 LamX
/-! ### _law_error -/
abbrev s__law_error : Stmt := topS 33
theorem sc__law_error : FnScope ["_law_call", "e", "_law_kinds", "_law_names", "_law_name"] ["_law_call"] (defScope s__law_error) := ⟨rfl, rfl, rfl, by decide +kernel, rfl, by decide +kernel, by decide +kernel⟩
/-- the classes of errors that the law tells apart, by their places -/
structure GErr (mg : Str → Option Value) (cl : Nat → Addr) (CE : Addr) : Prop where
  m_CourtError : mg "CourtError" = some (.ref CE)
  m_InvalidFacts : mg "InvalidFacts" = some (.ref (cl 0))
  m_InvalidCase : mg "InvalidCase" = some (.ref (cl 1))
  m_InvalidNumber : mg "InvalidNumber" = some (.ref (cl 2))
  m_InvalidCondition : mg "InvalidCondition" = some (.ref (cl 3))
  m_NeverMet : mg "NeverMet" = some (.ref (cl 4))
  m_InvalidRule : mg "InvalidRule" = some (.ref (cl 5))
  m_InvalidBook : mg "InvalidBook" = some (.ref (cl 6))
  m_UnknownRule : mg "UnknownRule" = some (.ref (cl 7))
  m_InvalidRuling : mg "InvalidRuling" = some (.ref (cl 8))
  m_UnknownFact : mg "UnknownFact" = some (.ref (cl 9))
  m_NoReason : mg "NoReason" = some (.ref (cl 10))
  m_TooMany : mg "TooMany" = some (.ref (cl 11))
  m_InvalidChance : mg "InvalidChance" = some (.ref (cl 12))
  m_OtherFacts : mg "OtherFacts" = some (.ref (cl 13))
  m_NoNeighbor : mg "NoNeighbor" = some (.ref (cl 14))
  m_NoFacts : mg "NoFacts" = some (.ref (cl 15))
  m_AlreadyKnown : mg "AlreadyKnown" = some (.ref (cl 16))
def kindNames : List Str := ["facts", "case", "number", "condition", "never", "rule", "book", "norule", "ruling", "fact", "reason", "many", "chance", "other", "neighbor", "nofacts", "known"]
/-- the class at D is the k-th -/
structure ErrRow (K : PySem.W.Frag) (cl : Nat → Addr) (CE D : Addr) (k : Nat) : Prop where
  lt : k < 17
  err : ErrC K D
  ex : PySem.W.exmOne K (.ref D) (.ref CE) = some true
  kit : ∀ i, i < 17 → PySem.W.kitOne K (.ref D) (.ref (cl i)) = some (decide (i = k))
  ve : PySem.W.kitOne K (.ref D) (.type "ValueError") = some true
  noF : ∀ n ∈ (["index", "part", "word", "fact"] : List Str), PySem.W.findIn K (.ref D) n = some none
abbrev kb (k i : Nat) : V := .bl (decide (i = k))

def kname (k : Nat) : Str := kindNames.getD k "other"
/-- what the law tells of an error: its kind, and what it bears -/
inductive Pay (H : Hp) (d : Option Addr) : Nat → List V → Prop where
  | ix {k : Nat} {dd : Addr} {fs : List (Str × V)} {v : V} (hk : k < 2) (ed : d = some dd) (ea : H dd = some (.xd fs)) (l : fs.lookup ("index" : Str) = some v) : Pay H d k [.str (kname k), v]
  | cond {dd : Addr} {fs : List (Str × V)} {v u : V} (ed : d = some dd) (ea : H dd = some (.xd fs)) (l : fs.lookup ("part" : Str) = some v) (l2 : fs.lookup ("index" : Str) = some u) : Pay H d 3 [.str "condition", v, u]
  | book {dd : Addr} {fs : List (Str × V)} {v u : V} (ed : d = some dd) (ea : H dd = some (.xd fs)) (l : fs.lookup ("word" : Str) = some v) (l2 : fs.lookup ("index" : Str) = some u) : Pay H d 6 [.str "book", v, u]
  | rule {dd : Addr} {fs : List (Str × V)} {v : V} (ed : d = some dd) (ea : H dd = some (.xd fs)) (l : fs.lookup ("part" : Str) = some v) : Pay H d 5 [.str "rule", v]
  | chance {dd : Addr} {fs : List (Str × V)} {v : V} (ed : d = some dd) (ea : H dd = some (.xd fs)) (l : fs.lookup ("fact" : Str) = some v) : Pay H d 12 [.str "chance", v]
  | plain {k : Nat} (hx : XdOk d H) (hk : ¬ k < 2) (h3 : k ≠ 3) (h5 : k ≠ 5) (h6 : k ≠ 6) (h12 : k ≠ 12) : Pay H d k [.str (kname k)]
theorem Pay.xd {H : Hp} {d : Option Addr} {k : Nat} {vs : List V} (p : Pay H d k vs) : XdOk d H := by
  cases p with
  | ix hk ed ea l => intro dd e; rw [ed] at e; cases e; exact ⟨_, ea⟩
  | cond ed ea l l2 => intro dd e; rw [ed] at e; cases e; exact ⟨_, ea⟩
  | book ed ea l l2 => intro dd e; rw [ed] at e; cases e; exact ⟨_, ea⟩
  | rule ed ea l => intro dd e; rw [ed] at e; cases e; exact ⟨_, ea⟩
  | chance ed ea l => intro dd e; rw [ed] at e; cases e; exact ⟨_, ea⟩
  | plain hx => exact hx
/-- _law_error: the lambda is called; the answer is a new tuple -/
def TErr (K : PySem.W.Frag) (cl : Nat → Addr) (CE : Addr) : (XK → Hp → VK → Prop) → Hp → VK → Prop := fun tl H Q =>
  tl (fun cls d H1 => ∃ (D : Addr) (k : Nat) (vs : List V), cls = .ref D ∧ ErrRow K cl CE D k ∧ Pay H1 d k vs ∧ ∀ H2 p, Same H1 H2 → H2 p = some (.tup vs) → H1 p = none → Q (.ref p) H2)
    H fun _ H1 => ([V.str "none"].length ≤ sizeLine ∧ ∀ p, H1 p = none → Q (.ref p) (upd H1 p (.tup [.str "none"])))
def kinds (k : Nat) : List V := [kb k 0, kb k 1, kb k 2, kb k 3, kb k 4, kb k 5, kb k 6, kb k 7, kb k 8, kb k 9, kb k 10, kb k 11, kb k 12, kb k 13, kb k 14, kb k 15, kb k 16]
theorem kinds_count : ∀ k, k < 17 → (kinds k).countP (fun z => eqV z (.bl true)) = 1 := by decide +kernel
theorem kinds_at : ∀ k, k < 17 → (kinds k)[k]? = some (.bl true) := by decide +kernel
theorem kinds_off : ∀ k, k < 17 → ∀ m, m < k → (kinds k)[m]? = some (.bl false) := by decide +kernel
theorem names_at : ∀ k, k < 17 → (kindNames.map V.str)[k]? = some (.str (kname k)) := by decide +kernel
theorem in_two : ∀ k, k < 17 → inV (.str (kname k)) [.str "facts", .str "case"] = decide (k < 2) := by decide +kernel
theorem in_rule : ∀ k, k < 17 → inV (.str (kname k)) [.str "rule", .str "chance"] = (decide (k = 5) || decide (k = 12)) := by decide +kernel
theorem is_cond : ∀ k, k < 17 → decide (V.str (kname k) = V.str "condition") = decide (k = 3) := by decide +kernel
theorem is_book : ∀ k, k < 17 → decide (V.str (kname k) = V.str "book") = decide (k = 6) := by decide +kernel
theorem XdOk.same {H H' : Hp} {d : Option Addr} (x : XdOk d H) (s : Same H H') : XdOk d H' := fun dd e => by
  obtain ⟨fs, h⟩ := x dd e
  exact ⟨fs, s _ _ h⟩
theorem five {σ : L2.St} (h : σ.length = 5) : ∃ x0 x1 x2 x3 x4, σ = [x0, x1, x2, x3, x4] := by
  match σ, h with
  | [a, b, c, d, e], _ => exact ⟨a, b, c, d, e, rfl⟩
theorem err_gives {X : Cx} {g : Addr} {cdg : Value} {q : Str} {cl : Nat → Addr} {CE : Addr} (B : Blt X.mg) (G : GErr X.mg cl CE) : GivesTo X ["_law_call", "e", "_law_kinds", "_law_names", "_law_name"] "_law_error" (defScope s__law_error) g cdg (defBody s__law_error) "_law_call" q (TErr X.K cl CE) := by
  intro f c' s H Q tl act hc h
  refine ⟨_, pss_cons (ps_try_as (X := (cxOf C8.CX0 X.prog X.w X.K X.mg X.base ["_law_call", "e", "_law_kinds", "_law_names", "_law_name"] "_law_error" (defScope s__law_error) g cdg X.A X.stack s H C8.E0).nox) (i := 1) (c := .ref CE)
      (tb := fun W D σ H => ∃ Ech : XK, (∀ cls d σ' H', Ech cls d H' → σ'.length = 5 → W cls d σ' H') ∧ σ[0]? = some (some (.ref f)) ∧ H c' = some (CodeO c' q) ∧ tl Ech H fun _ H1 => D.nx σ H1)
      (Wout := fun _ _ _ _ => False) rfl rfl sc__law_error.nd rfl rfl ⟨rfl, by decide, .inl G.m_CourtError⟩ L2.takes0 (fun W pn xe tk _ => ?_)
      (fun a oe cls d pn hz hf => pss_.re (pss_cons (ps_set (i := 2) sc__law_error.nd rfl (Or.inl rfl) (pe_lst (pa_cons (pe_callB (call_isG hz hf) (by rfl) B.b_isinstance PyProof.Rows.boot_isinstance (pa_cons (pv 1) (pa_cons (pe_glob (v := .ref (cl 0)) rfl G.m_InvalidFacts rfl) pa_nil))) (pa_cons (pe_callB (call_isG hz hf) (by rfl) B.b_isinstance PyProof.Rows.boot_isinstance (pa_cons (pv 1) (pa_cons (pe_glob (v := .ref (cl 1)) rfl G.m_InvalidCase rfl) pa_nil))) (pa_cons (pe_callB (call_isG hz hf) (by rfl) B.b_isinstance PyProof.Rows.boot_isinstance (pa_cons (pv 1) (pa_cons (pe_glob (v := .ref (cl 2)) rfl G.m_InvalidNumber rfl) pa_nil))) pa_nil)))))
      (pss_cons (ps_expr (pe_bm PySem.F.plainAttrs_list PySem.F.slot_list_extend PySem.F.type_list_extend mt_extend (pv 2) (pa_cons (pe_lst (pa_cons (pe_callB (call_isG hz hf) (by rfl) B.b_isinstance PyProof.Rows.boot_isinstance (pa_cons (pv 1) (pa_cons (pe_glob (v := .ref (cl 3)) rfl G.m_InvalidCondition rfl) pa_nil))) (pa_cons (pe_callB (call_isG hz hf) (by rfl) B.b_isinstance PyProof.Rows.boot_isinstance (pa_cons (pv 1) (pa_cons (pe_glob (v := .ref (cl 4)) rfl G.m_NeverMet rfl) pa_nil))) (pa_cons (pe_callB (call_isG hz hf) (by rfl) B.b_isinstance PyProof.Rows.boot_isinstance (pa_cons (pv 1) (pa_cons (pe_glob (v := .ref (cl 5)) rfl G.m_InvalidRule rfl) pa_nil))) pa_nil)))) pa_nil)))
      (pss_cons (ps_expr (pe_bm PySem.F.plainAttrs_list PySem.F.slot_list_extend PySem.F.type_list_extend mt_extend (pv 2) (pa_cons (pe_lst (pa_cons (pe_callB (call_isG hz hf) (by rfl) B.b_isinstance PyProof.Rows.boot_isinstance (pa_cons (pv 1) (pa_cons (pe_glob (v := .ref (cl 6)) rfl G.m_InvalidBook rfl) pa_nil))) (pa_cons (pe_callB (call_isG hz hf) (by rfl) B.b_isinstance PyProof.Rows.boot_isinstance (pa_cons (pv 1) (pa_cons (pe_glob (v := .ref (cl 7)) rfl G.m_UnknownRule rfl) pa_nil))) (pa_cons (pe_callB (call_isG hz hf) (by rfl) B.b_isinstance PyProof.Rows.boot_isinstance (pa_cons (pv 1) (pa_cons (pe_glob (v := .ref (cl 8)) rfl G.m_InvalidRuling rfl) pa_nil))) pa_nil)))) pa_nil)))
      (pss_cons (ps_expr (pe_bm PySem.F.plainAttrs_list PySem.F.slot_list_extend PySem.F.type_list_extend mt_extend (pv 2) (pa_cons (pe_lst (pa_cons (pe_callB (call_isG hz hf) (by rfl) B.b_isinstance PyProof.Rows.boot_isinstance (pa_cons (pv 1) (pa_cons (pe_glob (v := .ref (cl 9)) rfl G.m_UnknownFact rfl) pa_nil))) (pa_cons (pe_callB (call_isG hz hf) (by rfl) B.b_isinstance PyProof.Rows.boot_isinstance (pa_cons (pv 1) (pa_cons (pe_glob (v := .ref (cl 10)) rfl G.m_NoReason rfl) pa_nil))) (pa_cons (pe_callB (call_isG hz hf) (by rfl) B.b_isinstance PyProof.Rows.boot_isinstance (pa_cons (pv 1) (pa_cons (pe_glob (v := .ref (cl 11)) rfl G.m_TooMany rfl) pa_nil))) pa_nil)))) pa_nil)))
      (pss_cons (ps_expr (pe_bm PySem.F.plainAttrs_list PySem.F.slot_list_extend PySem.F.type_list_extend mt_extend (pv 2) (pa_cons (pe_lst (pa_cons (pe_callB (call_isG hz hf) (by rfl) B.b_isinstance PyProof.Rows.boot_isinstance (pa_cons (pv 1) (pa_cons (pe_glob (v := .ref (cl 12)) rfl G.m_InvalidChance rfl) pa_nil))) (pa_cons (pe_callB (call_isG hz hf) (by rfl) B.b_isinstance PyProof.Rows.boot_isinstance (pa_cons (pv 1) (pa_cons (pe_glob (v := .ref (cl 13)) rfl G.m_OtherFacts rfl) pa_nil))) (pa_cons (pe_callB (call_isG hz hf) (by rfl) B.b_isinstance PyProof.Rows.boot_isinstance (pa_cons (pv 1) (pa_cons (pe_glob (v := .ref (cl 14)) rfl G.m_NoNeighbor rfl) pa_nil))) pa_nil)))) pa_nil)))
      (pss_cons (ps_expr (pe_bm PySem.F.plainAttrs_list PySem.F.slot_list_extend PySem.F.type_list_extend mt_extend (pv 2) (pa_cons (pe_lst (pa_cons (pe_callB (call_isG hz hf) (by rfl) B.b_isinstance PyProof.Rows.boot_isinstance (pa_cons (pv 1) (pa_cons (pe_glob (v := .ref (cl 15)) rfl G.m_NoFacts rfl) pa_nil))) (pa_cons (pe_callB (call_isG hz hf) (by rfl) B.b_isinstance PyProof.Rows.boot_isinstance (pa_cons (pv 1) (pa_cons (pe_glob (v := .ref (cl 16)) rfl G.m_AlreadyKnown rfl) pa_nil))) pa_nil))) pa_nil)))
      (pss_cons (ps_if (PW.pt (pw_or (pt_cmpR op_ne (pe_bm PySem.F.plainAttrs_list PySem.F.slot_list_count PySem.F.type_list_count mt_lcountB (pv 2) (pa_cons pe_bl pa_nil)) pe_int (nomark _)) (pw_or1 (pt_not (pt_val (pe_callB (call_isG hz hf) (by rfl) B.b_isinstance PyProof.Rows.boot_isinstance (pa_cons (pv 1) (pa_cons (pe_bltn (v := .ty "ValueError") (by rfl) B.b_ValueError (by decide +kernel) rfl) pa_nil)))))))) (pss_one (ps_ret (pe_tup (pa_cons pe_str pa_nil)))) pss_nil)
      (pss_cons (ps_set (i := 3) sc__law_error.nd rfl (Or.inl rfl) (pe_lst (pa_cons pe_str (pa_cons pe_str (pa_cons pe_str (pa_cons pe_str (pa_cons pe_str (pa_cons pe_str (pa_cons pe_str (pa_cons pe_str (pa_cons pe_str (pa_cons pe_str (pa_cons pe_str pa_nil)))))))))))))
      (pss_cons (ps_set (i := 4) sc__law_error.nd rfl (Or.inl rfl) (pe_ix ix_list (pe_op op_cat (pv 3) (pe_lst (pa_cons pe_str (pa_cons pe_str (pa_cons pe_str (pa_cons pe_str (pa_cons pe_str (pa_cons pe_str pa_nil)))))))) (pe_bm PySem.F.plainAttrs_list PySem.F.slot_list_index PySem.F.type_list_index mt_index (pv 2) (pa_cons pe_bl pa_nil)) (fun _ _ => rfl)))
      (pss_cons (ps_if (pt_cmpR op_in_seq (pv 4) (pe_tup (pa_cons pe_str (pa_cons pe_str pa_nil))) rfl) (pss_one (ps_ret (pe_tup (pa_cons (pv 4) (pa_cons (pe_xg hz hf (pv 1)) pa_nil))))) pss_nil)
      (pss_cons (ps_if (pt_cmpR op_eq (pv 4) pe_str (nomark _)) (pss_one (ps_ret (pe_tup (pa_cons (pv 4) (pa_cons (pe_xg hz hf (pv 1)) (pa_cons (pe_xg hz hf (pv 1)) pa_nil)))))) pss_nil)
      (pss_cons (ps_if (pt_cmpR op_eq (pv 4) pe_str (nomark _)) (pss_one (ps_ret (pe_tup (pa_cons (pv 4) (pa_cons (pe_xg hz hf (pv 1)) (pa_cons (pe_xg hz hf (pv 1)) pa_nil)))))) pss_nil)
      (pss_cons (ps_if (pt_cmpR op_in_seq (pv 4) (pe_tup (pa_cons pe_str (pa_cons pe_str pa_nil))) rfl) (pss_one (ps_ret (pe_tup (pa_cons (pv 4) (pa_cons (pe_ifExp (pt_cmpR op_eq (pv 4) pe_str (nomark _)) (pe_xg hz hf (pv 1)) (pe_xg hz hf (pv 1))) pa_nil))))) pss_nil)
      (pss_one (ps_ret (pe_tup (pa_cons (pv 4) pa_nil))))))))))))))))) (by first | (dsimp only [Cx.suite]; done) | exact rfl)))
      (pss_one (ps_ret (pe_tup (pa_cons pe_str pa_nil)))), ?_⟩
  · refine ⟨fun pins s' σ H' D I h' => ?_⟩
    obtain ⟨Ech, hW, h1, h2, h3⟩ := h'
    exact (pss_one (ps_expr (act _ pn xe Ech _ _ (takes_len tk) fun cls d σ' H'' z e => hW cls d σ' H'' z e))).run pins s' σ H' D I ⟨h1, h2, h3⟩
  · refine ⟨_, fun cls d σ' H1 z hl => ?_, rfl, hc, h⟩
    obtain ⟨D, k, vs, rfl, R, P, qq⟩ := z
    obtain ⟨x0, x1, x2, x3, x4, rfl⟩ := five hl
    have xd := P.xd
    refine ⟨true, R.ex, fun _ ea _ => ?_, fun z => nomatch z⟩
    refine ⟨_, rfl, D, _, _, _, rfl, R.err, xd, rfl, (fun u r => r), R.kit 0 (by decide), _, rfl, D, _, _, _, rfl, R.err, xd, rfl, (fun u r => r), R.kit 1 (by decide), _, rfl, D, _, _, _, rfl, R.err, xd, rfl, (fun u r => r), R.kit 2 (by decide), (by show 3 ≤ sizeLine; decide), fun p np => ?_⟩
    have s1 : Same H1 (upd H1 p (.lst [kb k 0, kb k 1, kb k 2])) := (Same.refl H1).put np
    have e1 : (upd H1 p (.lst [kb k 0, kb k 1, kb k 2])) p = some (.lst [kb k 0, kb k 1, kb k 2]) := upd_same
    generalize upd H1 p (.lst [kb k 0, kb k 1, kb k 2]) = G1 at s1 e1 ⊢
    refine ⟨.ref p, rfl, .inl ⟨rfl, _, sqL_of e1⟩, _, rfl, D, _, _, _, rfl, R.err, (xd.same s1), rfl, (fun u r => r), R.kit 3 (by decide), _, rfl, D, _, _, _, rfl, R.err, (xd.same s1), rfl, (fun u r => r), R.kit 4 (by decide), _, rfl, D, _, _, _, rfl, R.err, (xd.same s1), rfl, (fun u r => r), R.kit 5 (by decide), (by show 3 ≤ sizeLine; decide), fun q1 nq1 => ⟨p, q1, _, _, rfl, rfl, by rw [upd_ne (ne_of_none e1 nq1)]; exact e1, upd_same, (by show 6 ≤ sizeLine; decide), ?_⟩⟩
    have s2 : Same H1 (upd (upd G1 q1 (.lst [kb k 3, kb k 4, kb k 5])) p (.lst ([kb k 0, kb k 1, kb k 2] ++ [kb k 3, kb k 4, kb k 5]))) := (s1.put' nq1).put np
    have e2 : (upd (upd G1 q1 (.lst [kb k 3, kb k 4, kb k 5])) p (.lst ([kb k 0, kb k 1, kb k 2] ++ [kb k 3, kb k 4, kb k 5]))) p = some (.lst [kb k 0, kb k 1, kb k 2, kb k 3, kb k 4, kb k 5]) := upd_same
    generalize upd (upd G1 q1 (.lst [kb k 3, kb k 4, kb k 5])) p (.lst ([kb k 0, kb k 1, kb k 2] ++ [kb k 3, kb k 4, kb k 5])) = G2 at s2 e2 ⊢
    refine ⟨.ref p, rfl, .inl ⟨rfl, _, sqL_of e2⟩, _, rfl, D, _, _, _, rfl, R.err, (xd.same s2), rfl, (fun u r => r), R.kit 6 (by decide), _, rfl, D, _, _, _, rfl, R.err, (xd.same s2), rfl, (fun u r => r), R.kit 7 (by decide), _, rfl, D, _, _, _, rfl, R.err, (xd.same s2), rfl, (fun u r => r), R.kit 8 (by decide), (by show 3 ≤ sizeLine; decide), fun q2 nq2 => ⟨p, q2, _, _, rfl, rfl, by rw [upd_ne (ne_of_none e2 nq2)]; exact e2, upd_same, (by show 9 ≤ sizeLine; decide), ?_⟩⟩
    have s3 : Same H1 (upd (upd G2 q2 (.lst [kb k 6, kb k 7, kb k 8])) p (.lst ([kb k 0, kb k 1, kb k 2, kb k 3, kb k 4, kb k 5] ++ [kb k 6, kb k 7, kb k 8]))) := (s2.put' nq2).put np
    have e3 : (upd (upd G2 q2 (.lst [kb k 6, kb k 7, kb k 8])) p (.lst ([kb k 0, kb k 1, kb k 2, kb k 3, kb k 4, kb k 5] ++ [kb k 6, kb k 7, kb k 8]))) p = some (.lst [kb k 0, kb k 1, kb k 2, kb k 3, kb k 4, kb k 5, kb k 6, kb k 7, kb k 8]) := upd_same
    generalize upd (upd G2 q2 (.lst [kb k 6, kb k 7, kb k 8])) p (.lst ([kb k 0, kb k 1, kb k 2, kb k 3, kb k 4, kb k 5] ++ [kb k 6, kb k 7, kb k 8])) = G3 at s3 e3 ⊢
    refine ⟨.ref p, rfl, .inl ⟨rfl, _, sqL_of e3⟩, _, rfl, D, _, _, _, rfl, R.err, (xd.same s3), rfl, (fun u r => r), R.kit 9 (by decide), _, rfl, D, _, _, _, rfl, R.err, (xd.same s3), rfl, (fun u r => r), R.kit 10 (by decide), _, rfl, D, _, _, _, rfl, R.err, (xd.same s3), rfl, (fun u r => r), R.kit 11 (by decide), (by show 3 ≤ sizeLine; decide), fun q3 nq3 => ⟨p, q3, _, _, rfl, rfl, by rw [upd_ne (ne_of_none e3 nq3)]; exact e3, upd_same, (by show 12 ≤ sizeLine; decide), ?_⟩⟩
    have s4 : Same H1 (upd (upd G3 q3 (.lst [kb k 9, kb k 10, kb k 11])) p (.lst ([kb k 0, kb k 1, kb k 2, kb k 3, kb k 4, kb k 5, kb k 6, kb k 7, kb k 8] ++ [kb k 9, kb k 10, kb k 11]))) := (s3.put' nq3).put np
    have e4 : (upd (upd G3 q3 (.lst [kb k 9, kb k 10, kb k 11])) p (.lst ([kb k 0, kb k 1, kb k 2, kb k 3, kb k 4, kb k 5, kb k 6, kb k 7, kb k 8] ++ [kb k 9, kb k 10, kb k 11]))) p = some (.lst [kb k 0, kb k 1, kb k 2, kb k 3, kb k 4, kb k 5, kb k 6, kb k 7, kb k 8, kb k 9, kb k 10, kb k 11]) := upd_same
    generalize upd (upd G3 q3 (.lst [kb k 9, kb k 10, kb k 11])) p (.lst ([kb k 0, kb k 1, kb k 2, kb k 3, kb k 4, kb k 5, kb k 6, kb k 7, kb k 8] ++ [kb k 9, kb k 10, kb k 11])) = G4 at s4 e4 ⊢
    refine ⟨.ref p, rfl, .inl ⟨rfl, _, sqL_of e4⟩, _, rfl, D, _, _, _, rfl, R.err, (xd.same s4), rfl, (fun u r => r), R.kit 12 (by decide), _, rfl, D, _, _, _, rfl, R.err, (xd.same s4), rfl, (fun u r => r), R.kit 13 (by decide), _, rfl, D, _, _, _, rfl, R.err, (xd.same s4), rfl, (fun u r => r), R.kit 14 (by decide), (by show 3 ≤ sizeLine; decide), fun q4 nq4 => ⟨p, q4, _, _, rfl, rfl, by rw [upd_ne (ne_of_none e4 nq4)]; exact e4, upd_same, (by show 15 ≤ sizeLine; decide), ?_⟩⟩
    have s5 : Same H1 (upd (upd G4 q4 (.lst [kb k 12, kb k 13, kb k 14])) p (.lst ([kb k 0, kb k 1, kb k 2, kb k 3, kb k 4, kb k 5, kb k 6, kb k 7, kb k 8, kb k 9, kb k 10, kb k 11] ++ [kb k 12, kb k 13, kb k 14]))) := (s4.put' nq4).put np
    have e5 : (upd (upd G4 q4 (.lst [kb k 12, kb k 13, kb k 14])) p (.lst ([kb k 0, kb k 1, kb k 2, kb k 3, kb k 4, kb k 5, kb k 6, kb k 7, kb k 8, kb k 9, kb k 10, kb k 11] ++ [kb k 12, kb k 13, kb k 14]))) p = some (.lst [kb k 0, kb k 1, kb k 2, kb k 3, kb k 4, kb k 5, kb k 6, kb k 7, kb k 8, kb k 9, kb k 10, kb k 11, kb k 12, kb k 13, kb k 14]) := upd_same
    generalize upd (upd G4 q4 (.lst [kb k 12, kb k 13, kb k 14])) p (.lst ([kb k 0, kb k 1, kb k 2, kb k 3, kb k 4, kb k 5, kb k 6, kb k 7, kb k 8, kb k 9, kb k 10, kb k 11] ++ [kb k 12, kb k 13, kb k 14])) = G5 at s5 e5 ⊢
    refine ⟨.ref p, rfl, .inl ⟨rfl, _, sqL_of e5⟩, _, rfl, D, _, _, _, rfl, R.err, (xd.same s5), rfl, (fun u r => r), R.kit 15 (by decide), _, rfl, D, _, _, _, rfl, R.err, (xd.same s5), rfl, (fun u r => r), R.kit 16 (by decide), (by show 2 ≤ sizeLine; decide), fun q5 nq5 => ⟨p, q5, _, _, rfl, rfl, by rw [upd_ne (ne_of_none e5 nq5)]; exact e5, upd_same, (by show 17 ≤ sizeLine; decide), ?_⟩⟩
    have s6 : Same H1 (upd (upd G5 q5 (.lst [kb k 15, kb k 16])) p (.lst ([kb k 0, kb k 1, kb k 2, kb k 3, kb k 4, kb k 5, kb k 6, kb k 7, kb k 8, kb k 9, kb k 10, kb k 11, kb k 12, kb k 13, kb k 14] ++ [kb k 15, kb k 16]))) := (s5.put' nq5).put np
    have e6 : (upd (upd G5 q5 (.lst [kb k 15, kb k 16])) p (.lst ([kb k 0, kb k 1, kb k 2, kb k 3, kb k 4, kb k 5, kb k 6, kb k 7, kb k 8, kb k 9, kb k 10, kb k 11, kb k 12, kb k 13, kb k 14] ++ [kb k 15, kb k 16]))) p = some (.lst [kb k 0, kb k 1, kb k 2, kb k 3, kb k 4, kb k 5, kb k 6, kb k 7, kb k 8, kb k 9, kb k 10, kb k 11, kb k 12, kb k 13, kb k 14, kb k 15, kb k 16]) := upd_same
    generalize upd (upd G5 q5 (.lst [kb k 15, kb k 16])) p (.lst ([kb k 0, kb k 1, kb k 2, kb k 3, kb k 4, kb k 5, kb k 6, kb k 7, kb k 8, kb k 9, kb k 10, kb k 11, kb k 12, kb k 13, kb k 14] ++ [kb k 15, kb k 16])) = G6 at s6 e6 ⊢
    refine ⟨.ref p, rfl, .inl ⟨rfl, _, sqL_of e6⟩, p, _, .bl true, rfl, rfl, sqL_of e6, rfl, rfl, rfl, _, rfl, ?_⟩
    have kc : ([kb k 0, kb k 1, kb k 2, kb k 3, kb k 4, kb k 5, kb k 6, kb k 7, kb k 8, kb k 9, kb k 10, kb k 11, kb k 12, kb k 13, kb k 14, kb k 15, kb k 16]).countP (fun z => eqV z (.bl true)) = 1 := kinds_count k R.lt
    rw [kc]
    refine iteF ⟨_, rfl, D, .ty "ValueError", _, true, rfl, R.err, xd.same s6, rfl, (fun u r => r), R.ve, true, rfl, iteF ?_⟩
    refine ⟨(by show 11 ≤ sizeLine; decide), fun p2 np2 => ?_⟩
    have s7 : Same H1 (upd G6 p2 (.lst [.str "facts", .str "case", .str "number", .str "condition", .str "never", .str "rule", .str "book", .str "norule", .str "ruling", .str "fact", .str "reason"])) := s6.put' np2
    have e7 : (upd G6 p2 (.lst [.str "facts", .str "case", .str "number", .str "condition", .str "never", .str "rule", .str "book", .str "norule", .str "ruling", .str "fact", .str "reason"])) p = some (.lst [kb k 0, kb k 1, kb k 2, kb k 3, kb k 4, kb k 5, kb k 6, kb k 7, kb k 8, kb k 9, kb k 10, kb k 11, kb k 12, kb k 13, kb k 14, kb k 15, kb k 16]) := (upd_ne (ne_of_none e6 np2)).trans e6
    have f7 : (upd G6 p2 (.lst [.str "facts", .str "case", .str "number", .str "condition", .str "never", .str "rule", .str "book", .str "norule", .str "ruling", .str "fact", .str "reason"])) p2 = some (.lst [.str "facts", .str "case", .str "number", .str "condition", .str "never", .str "rule", .str "book", .str "norule", .str "ruling", .str "fact", .str "reason"]) := upd_same
    generalize upd G6 p2 (.lst [.str "facts", .str "case", .str "number", .str "condition", .str "never", .str "rule", .str "book", .str "norule", .str "ruling", .str "fact", .str "reason"]) = H7 at s7 e7 f7 ⊢
    refine ⟨.ref p2, rfl, (by show 6 ≤ sizeLine; decide), fun q8 nq8 => ?_⟩
    refine ⟨p2, q8, _, _, rfl, rfl, (upd_ne (ne_of_none f7 nq8)).trans f7, upd_same, (by show 17 ≤ sizeLine; decide), fun r nr => ?_⟩
    have s8 := s7.put' (o := .lst [.str "many", .str "chance", .str "other", .str "neighbor", .str "nofacts", .str "known"]) nq8
    have e8 := (upd_ne (o := .lst [.str "many", .str "chance", .str "other", .str "neighbor", .str "nofacts", .str "known"]) (ne_of_none e7 nq8)).trans e7
    have s9 : Same H1 (upd (upd H7 q8 (.lst [.str "many", .str "chance", .str "other", .str "neighbor", .str "nofacts", .str "known"])) r (.lst ([.str "facts", .str "case", .str "number", .str "condition", .str "never", .str "rule", .str "book", .str "norule", .str "ruling", .str "fact", .str "reason"] ++ [.str "many", .str "chance", .str "other", .str "neighbor", .str "nofacts", .str "known"]))) := s8.put' nr
    have e9 : (upd (upd H7 q8 (.lst [.str "many", .str "chance", .str "other", .str "neighbor", .str "nofacts", .str "known"])) r (.lst ([.str "facts", .str "case", .str "number", .str "condition", .str "never", .str "rule", .str "book", .str "norule", .str "ruling", .str "fact", .str "reason"] ++ [.str "many", .str "chance", .str "other", .str "neighbor", .str "nofacts", .str "known"]))) p = some (.lst [kb k 0, kb k 1, kb k 2, kb k 3, kb k 4, kb k 5, kb k 6, kb k 7, kb k 8, kb k 9, kb k 10, kb k 11, kb k 12, kb k 13, kb k 14, kb k 15, kb k 16]) := (upd_ne (ne_of_none e8 nr)).trans e8
    have f9 : (upd (upd H7 q8 (.lst [.str "many", .str "chance", .str "other", .str "neighbor", .str "nofacts", .str "known"])) r (.lst ([.str "facts", .str "case", .str "number", .str "condition", .str "never", .str "rule", .str "book", .str "norule", .str "ruling", .str "fact", .str "reason"] ++ [.str "many", .str "chance", .str "other", .str "neighbor", .str "nofacts", .str "known"]))) r = some (.lst (kindNames.map V.str)) := upd_same
    generalize upd (upd H7 q8 (.lst [.str "many", .str "chance", .str "other", .str "neighbor", .str "nofacts", .str "known"])) r (.lst ([.str "facts", .str "case", .str "number", .str "condition", .str "never", .str "rule", .str "book", .str "norule", .str "ruling", .str "fact", .str "reason"] ++ [.str "many", .str "chance", .str "other", .str "neighbor", .str "nofacts", .str "known"])) = H9 at s9 e9 f9 ⊢
    refine ⟨.ref p, rfl, .inl ⟨rfl, _, sqL_of e9⟩, p, _, .bl true, k, .bl true, rfl, rfl, sqL_of e9, rfl, rfl, kinds_at k R.lt, rfl, fun m z' hm hz => ?_, r, _, _, _, rfl, rfl, sqL_of f9, atI_nat (names_at k R.lt), ?_⟩
    · have := (kinds_off k R.lt m hm).symm.trans hz
      cases this
      rfl
    refine ⟨_, rfl, (by show 2 ≤ sizeLine; decide), fun t1 nt1 => ⟨t1, _, rfl, .inr sqT_new, rfl, rfl, _, rfl, ?_⟩⟩
    have s10 := s9.put' (o := .tup [.str "facts", .str "case"]) nt1
    rw [in_two k R.lt]
    cases P with
    | ix hk ed ea l =>
      rw [decide_eq_true hk]
      exact iteT ⟨_, rfl, _, rfl, rfl, D, _, _, _, rfl, R.err, R.noF "index" (by decide), ed, s10 _ _ ea, l, (by show 2 ≤ sizeLine; decide), fun t nt => qq _ t (s10.put' nt) upd_same (s10.free nt)⟩
    | cond ed ea l l2 =>
      exact iteF ⟨_, rfl, rfl, _, rfl, iteT ⟨_, rfl, _, rfl, rfl, D, _, _, _, rfl, R.err, R.noF "part" (by decide), ed, s10 _ _ ea, l, _, rfl, rfl, D, _, _, _, rfl, R.err, R.noF "index" (by decide), ed, s10 _ _ ea, l2, (by show 3 ≤ sizeLine; decide), fun t nt => qq _ t (s10.put' nt) upd_same (s10.free nt)⟩⟩
    | book ed ea l l2 =>
      exact iteF ⟨_, rfl, rfl, _, rfl, iteF ⟨_, rfl, rfl, _, rfl, iteT ⟨_, rfl, _, rfl, rfl, D, _, _, _, rfl, R.err, R.noF "word" (by decide), ed, s10 _ _ ea, l, _, rfl, rfl, D, _, _, _, rfl, R.err, R.noF "index" (by decide), ed, s10 _ _ ea, l2, (by show 3 ≤ sizeLine; decide), fun t nt => qq _ t (s10.put' nt) upd_same (s10.free nt)⟩⟩⟩
    | rule ed ea l =>
      exact iteF ⟨_, rfl, rfl, _, rfl, iteF ⟨_, rfl, rfl, _, rfl, iteF ⟨_, rfl, (by show 2 ≤ sizeLine; decide), fun t2 nt2 => ⟨t2, _, rfl, .inr sqT_new, rfl, rfl, _, rfl, iteT ⟨_, rfl, _, rfl, rfl, _, rfl, iteT ⟨_, rfl, rfl, D, _, _, _, rfl, R.err, R.noF "part" (by decide), ed, s10.put' nt2 _ _ ea, l, (by show 2 ≤ sizeLine; decide), fun t nt => qq _ t ((s10.put' nt2).put' nt) upd_same ((s10.put' nt2).free nt)⟩⟩⟩⟩⟩⟩
    | chance ed ea l =>
      exact iteF ⟨_, rfl, rfl, _, rfl, iteF ⟨_, rfl, rfl, _, rfl, iteF ⟨_, rfl, (by show 2 ≤ sizeLine; decide), fun t2 nt2 => ⟨t2, _, rfl, .inr sqT_new, rfl, rfl, _, rfl, iteT ⟨_, rfl, _, rfl, rfl, _, rfl, iteF ⟨_, rfl, rfl, D, _, _, _, rfl, R.err, R.noF "fact" (by decide), ed, s10.put' nt2 _ _ ea, l, (by show 2 ≤ sizeLine; decide), fun t nt => qq _ t ((s10.put' nt2).put' nt) upd_same ((s10.put' nt2).free nt)⟩⟩⟩⟩⟩⟩
    | plain hx hk h3 h5 h6 h12 =>
      rw [decide_eq_false hk]
      refine iteF ⟨_, rfl, rfl, _, rfl, ?_⟩
      rw [is_cond k R.lt, decide_eq_false h3]
      refine iteF ⟨_, rfl, rfl, _, rfl, ?_⟩
      rw [is_book k R.lt, decide_eq_false h6]
      refine iteF ⟨_, rfl, (by show 2 ≤ sizeLine; decide), fun t2 nt2 => ⟨t2, _, rfl, .inr sqT_new, rfl, rfl, _, rfl, ?_⟩⟩
      rw [in_rule k R.lt, decide_eq_false h5, decide_eq_false h12]
      exact iteF ⟨_, rfl, (by show 1 ≤ sizeLine; decide), fun t nt => qq _ t ((s10.put' nt2).put' nt) upd_same ((s10.put' nt2).free nt)⟩
end Sc
namespace Sc
open PySem PySem.Spec PyProof.Rows L2
/-- len(o), o an object whose class has its own __len__ -/
def rLenO (C : Addr) (sp : Sp) : List V → Hp → VK → Prop := fun xs H Q => ∃ (a dx : Addr) (fs : List (Str × V)), xs = [.ref a] ∧ H a = some (.ins C dx fs) ∧ sp [.ref a] H (fun v H' => ∃ n : Nat, v = .int n ∧ n < 2 ^ 62 ∧ Q (.int n) H') (fun _ _ _ => False)
theorem call_lenO {X : Cx} {C g : Addr} {k : Nat} {fd : FuncData} {ps : List Str} {sp : Sp} (at_ : PySem.W.findIn X.K (.ref C) "__len__" = some (some (.ref g))) (ty : PySem.W.typeIn X.K (.ref g) = some (.type "function"))
    (F : FnOk X.prog X.w X.K X.mg X.base CX0 k g fd ps sp) (hr : Room (k + 1) X.A) (hb : Binds X.K fd ps []) : CallR X (.builtin "len") (rLenO C sp) := by
  intro pins s σ H xs us Q I r h
  obtain ⟨a, dx, fs, rfl, ea, h⟩ := h
  obtain ⟨u, rfl, ru⟩ := vals1 r
  obtain rfl : u = Value.ref a := ru
  obtain ⟨mA, O, _⟩ := ins_get I.hok ea
  obtain ⟨od, J, _⟩ := ObjM.look O
  have hl : ([Value.ref a] ++ ([] : List Value)).length = ps.length := F.len _ _ _ _ h
  refine Calls.call_function_entry kind_len plain_len entry_len (args_len1 (.ref a)) ?_
  unfold Builtin.len
  rw [show oneArg "len" { pos := [Value.ref a] } = pure (.ref a) from rfl, pure_bind]
  refine wpAny_bind (PySem.W.special_fn I.kIn J at_ ty (wpAny_call (codeAny_mono (F.run X.A.in1 X.stack s H ⟨[.ref a], []⟩ [.ref a] [.ref a] _ _ (Room.in1 hr) (Env0.in1 I.env0) (hb s [.ref a] I.kIn hl) (Paired.cons rfl .nil) h) fun res s' hq => ?_)))
  cases res with
  | error e => exact hq.elim
  | ok fl =>
    cases fl with
    | ret v =>
      obtain ⟨y, H', I', ry, n, rfl, hn, q⟩ := I.after hq
      obtain ⟨t, rfl⟩ := ry
      dsimp only
      have e62 : (2 : Nat) ^ 62 < 2 ^ 63 := by decide
      refine wpAny_bind (wpAny_holding (wpAny_pure (wpAny_bind (wpAny_letGo ?_))))
      have h1 : ¬ (n : Int) < 0 := by omega
      have h2 : ¬ (n : Int) ≥ 2 ^ 63 := by
        have : (n : Int) < 2 ^ 62 := by exact_mod_cast hn
        omega
      rw [if_neg h1, if_neg h2]
      exact wpAny_bind (wpAny_mkInt (wpAny_pure ⟨_, rfl, .int n, H', I'.tok _, ⟨_, rfl⟩, q⟩))
    | next => exact hq.elim
    | brk => exact hq.elim
    | cont => exact hq.elim
end Sc
namespace Sc
open PySem PySem.Spec PyProof.Rows L2
/-- o(e, ..), o an object whose class has its own __call__; the arguments leave it as it is -/
def tCallO (C : Addr) (sp : Sp) (E : XK) (te : TE) (t : TA) : TE := fun σ H Q => te σ H fun x H1 => ∃ (a : Addr), x = .ref a ∧
  t σ H1 fun vs H2 => (∃ (dx : Addr) (fs : List (Str × V)), H2 a = some (.ins C dx fs)) ∧ sp (.ref a :: vs) H2 Q E
theorem callWith_o {M : Model} {A : Around} {E : Value → Shared → Prop} {s : Shared} {pos : Pos} {x C : Addr} {first : List Value} {Q : Value → Shared → Prop} {args : List (Bool × Sem Value)} (hplain : args.any (·.1) = false)
    (h : wpAny M A (evalArgs (.ref x) true args []) (fun a s₁ => (∃ ox od, PySem.W.InstAt s₁.heap x ox C od ∧ ox.data = Data.plain) ∧ wpAny M A (call (.ref x) (first ++ a.pos) a.kw) Q E s₁) E s) : wpAny M A (callWith pos (.ref x) first args []) Q E s := by
  unfold callWith
  refine wpAny_bind (wpAny_holding (wpAny_mono h (fun a s₁ h₁ => wpAny_bind (wpAny_standAt ?_)) (fun _ _ z => z)))
  obtain ⟨⟨ox, od, J, hd⟩, h₂⟩ := h₁
  have L := PySem.W.kco_keeper (M := M) J hd
  simp only [hplain, List.any_nil, Bool.or_false]
  exact wpAny_bind (PySem.W.Looks.here L (wpAny_bind (wpAny_mono (wpAny_operateT h₂) (fun r s₂ hr => wpAny_bind (wpAny_holding (wpAny_point (wpAny_pure hr)))) (fun _ _ z => z))))
theorem pe_callO {X : Cx} {CX : CXT} {C g : Addr} {k : Nat} {fd : FuncData} {ps : List Str} {sp : Sp} {E : XK} {te : TE} {t : TA} {x : Str} {e : Expr} {es : List Expr} {p pos : Pos}
    (at_ : PySem.W.findIn X.K (.ref C) "__call__" = some (some (.ref g))) (fn : PySem.W.isFn X.K (.ref g) = true) (fi : PySem.W.fnIn X.K g = true)
    (F : FnOk X.prog X.w X.K X.mg X.base CX k g fd ps sp) (hr : Room k X.A) (hb : Binds X.K fd ps []) (hx : Passes CX X E) (ho : PE X (.Name x p) te) (ha : PA X (e :: es) t)
    (he : starEach (e :: es) X.env = (false, eval e X.env) :: starEach es X.env := by rfl) (hpl : (backTo pos (starEach es X.env)).any (·.1) = false := by rfl) :
    PE X (.Call (.Name x p) (e :: es) [] pos) (tCallO C sp E te t) := by
  refine ⟨fun pins s σ H Q I h => wpAny_Call_NameR (thn (ho.run pins s σ H _ I h) fun u s1 hh => ?_)⟩
  obtain ⟨y, H1, I1, ry, a, rfl, h⟩ := hh
  obtain rfl : u = Value.ref a := ry
  have hr0 := ha.run pos pins s1 σ H1 _ I1 h
  have eb : backTo pos (starEach (e :: es) X.env) = (false, eval e X.env) :: backTo pos (starEach es X.env) := by rw [he]; rfl
  rw [eb] at hr0 ⊢
  refine callWith_o (C := C) (by rw [List.any_cons, hpl]; rfl) (Calls.evalArgs_plain (thn hr0 fun us s2 hh => ?_))
  obtain ⟨vs, H2, I2, rv, ⟨dx, fs, ea⟩, hq⟩ := hh
  obtain ⟨mA, O, _⟩ := ins_get I2.hok ea
  obtain ⟨od, J, _⟩ := ObjM.look O
  have hl : (Value.ref a :: us).length = ps.length := by
    have := F.len _ _ _ _ hq
    rw [← this, List.length_cons, List.length_cons, Vals.length rv]
  refine ⟨⟨_, _, J, rfl⟩, wpAny_call (PySem.W.kco_code I2.kIn J rfl at_ fn fi (codeAny_mono (F.run X.A X.stack s2 H2 ⟨.ref a :: us, []⟩ (.ref a :: us) (.ref a :: vs) Q E hr I2.env0 ?_ (Paired.cons rfl rv) hq) fun res s' hcr => ?_))⟩
  · have := hb s2 (.ref a :: us) I2.kIn (by rw [List.append_nil]; exact hl)
    rw [List.append_nil] at this
    exact this
  · cases res with
    | error er => exact hx pins σ H2 s2 er s' I2 hcr
    | ok fl =>
      cases fl with
      | ret v => exact I2.after hcr
      | next => exact hcr.elim
      | brk => exact hcr.elim
      | cont => exact hcr.elim
end Sc
namespace Sc
open PySem PySem.Spec PyProof.Rows L2
def SLe (a b : Str) : Prop := a.cps.toList ≤ b.cps.toList
theorem rising_pw : ∀ (x : Str) (r : List Str), risingS x r = true → (∀ y ∈ r, SLe x y) ∧ r.Pairwise SLe
  | _, [], _ => ⟨(fun _ h => nomatch h), List.Pairwise.nil⟩
  | x, y :: r, h => by
    have h : (!ltCps y.cps.toList x.cps.toList && risingS y r) = true := h
    rw [Bool.and_eq_true, ltCps_eq] at h
    obtain ⟨h1, h2⟩ := h
    obtain ⟨i1, i2⟩ := rising_pw y r h2
    have hxy : SLe x y := by
      have h1 : ¬ y.cps.toList < x.cps.toList := by simpa using h1
      exact h1
    refine ⟨fun z hz => ?_, List.pairwise_cons.mpr ⟨i1, i2⟩⟩
    rcases List.mem_cons.mp hz with rfl | h
    · exact hxy
    · exact List.le_trans hxy (i1 z h)
theorem sorted_pw : ∀ {r : List Str}, sortedS r = true → r.Pairwise SLe
  | [], _ => .nil
  | x :: r, h => List.pairwise_cons.mpr (rising_pw x r h)
theorem str_ext {a b : Str} (h : a.cps.toList = b.cps.toList) : a = b := by
  obtain ⟨x⟩ := a
  obtain ⟨y⟩ := b
  congr 1
  exact Array.toList_inj.mp h
theorem sorted_uniq {a b : List Str} (p : a.Perm b) (sa : sortedS a = true) (sb : sortedS b = true) : a = b :=
  List.Perm.eq_of_pairwise (le := SLe) (fun x y _ _ h1 h2 => str_ext (List.le_antisymm h1 h2)) (sorted_pw sa) (sorted_pw sb) p
end Sc
namespace OwnX
open PySem PySem.Spec PyProof.Rows PySem.W
section
variable {prog : Program} {w : World} {M : Model} {A : Around} {E : Value → Shared → Prop} {s : Shared} {K : Frag} {x C L f : Addr} {h₀ : Heap} {m : Str → Option Value} {ox : Obj} {od : Option Obj}
/-- x op b, both of the class at C -/
theorem bin_same {op : Operator} {b : Value} {Q : Value → Shared → Prop} (X : K.In s.heap) (I : InstAt s.heap x ox C od) (hb : Looks (model prog w) s.heap (typeOf b) (.ref C)) (hc : selfFirst K C = true)
    (hs : findIn K (.ref C) (PySem.dunder op.info.2) = some (some (.ref f))) (hf : isFn K (.ref f) = true)
    (h : wpAny (model prog w) A (call (.ref f) [.ref x, b]) (PySem.W.CmpBack Q) E s) : wpAny (model prog w) A (binaryOp op (.ref x) b) Q E s := by
  obtain ⟨cd, rest, hcd, hm⟩ := ksp_first hc
  rcases hi : op.info with ⟨sym, nm'⟩
  rw [hi] at hs
  dsimp only at hs
  have one := ksp_try X I hs hf h
  obtain ⟨hh, g, d, tt, os⟩ := s
  have L1 : Looks (model prog w) hh (typeOf (.ref x)) (.ref C) := I.type
  have L3 : Looks (model prog w) hh (fillsNumberSlot (.ref C) nm') true := fills_K X hcd hm hs
  simp only [binaryOp, hi]
  refine wpAny_holding (wpAny_bind ?_)
  unfold binaryOp1
  refine wpAny_bind (L1.at (wpAny_bind (hb.at (wpAny_bind (L3.at ?_)))))
  have e : (Value.ref C == Value.ref C) = true := beq_self_eq_true _
  simp only [e, if_true]
  ksp_lk
  refine wpAny_mono one (fun r s' hr' => ?_) fun _ _ e => e
  obtain ⟨v, rfl, hq⟩ := hr'
  ksp_lk
  exact hq
theorem ifBound_ne {args : List Value} {Q : Option Value → Shared → Prop} (X : K.In s.heap) (I : InstAt s.heap x ox C od) (hs : findIn K (.ref C) "__ne__" = some (some (.builtin "object.__ne__")))
    (h : wpAny M A (call (.builtin "object.__ne__") (.ref x :: args)) (fun v => Q (some v)) E s) : wpAny M A (callSpecialIfBound? (.ref x) "__ne__" args) Q E s := by
  simp only [callSpecialIfBound?, bindSpecialIfBound?]
  refine wpAny_holding (wpAny_bind (wpAny_bind (wpAny_bind (I.type.here ((looks_findIn X hs).here ?_)))))
  refine wpAny_bind (wpAny_askSetting (wpAny_ite ?_))
  have fin : wpAny M A (call (.builtin "object.__ne__") ([.ref x] ++ args) >>= fun v => pure (some v)) Q E s := wpAny_bind (wpAny_mono h (fun v s' h' => wpAny_pure h') fun _ _ h' => h')
  split
  · exact wpAny_bind (wpAny_of_eq (F.cmp_object.ne.bind _) (wpAny_pure (by exact fin)))
  · exact wpAny_tryCatch (wpAny_bind (wpAny_of_eq (F.cmp_object.ne.bind _) (wpAny_pure (by exact fin))))
theorem entry_ne {b : Value} {Q : Fin → Shared → Prop} (X : K.In s.heap) (I : InstAt s.heap x ox C od) (hs : findIn K (.ref C) "__eq__" = some (some (.ref f))) (hf : isFn K (.ref f) = true) (hu : A.units < cLine)
    (h : wpAny (model prog w) A (call (.ref f) [.ref x, b]) (fun v s' => ∃ b, v = .bool b ∧ Q (.done (.ret (.bool (!b)))) s') E s) : wpAny (model prog w) A (Builtin.«object.__ne__» ⟨[.ref x, b], []⟩) Q E s := by
  unfold Builtin.«object.__ne__»
  repeat (first
    | with_reducible refine wpAny_cRoomFor hu ?_
    | (refine wpAny_bind (m := callSpecialIfBound? (.ref x) (Str.ofString "__eq__") [b])
        (ifBound_K X I hs hf (wpAny_mono h (fun r s' hr => by
          obtain ⟨b, rfl, hq⟩ := hr
          repeat (first | exact hq | exact wpAny_pure hq | exact wpAny_truthy_bool hq | (refine wpAny_bind (m := truthy (.bool _)) (wpAny_truthy_bool ?_)) | wp_step)) fun _ _ e => e)))
    | wp_step)
theorem try_ne {b : Value} {Q : Option Value → Shared → Prop} (X : K.In s.heap) (I : InstAt s.heap x ox C od) (hm : mroIn K C (.type "object") = some true) (hn : findIn K (.ref C) "__ne__" = some (some (.builtin "object.__ne__")))
    (hs : findIn K (.ref C) "__eq__" = some (some (.ref f))) (hf : isFn K (.ref f) = true) (hu : A.units + 1 < cLine)
    (h : wpAny (model prog w) A.in1 (call (.ref f) [.ref x, b]) (fun v s' => ∃ b, v = .bool b ∧ Q (some (.bool (!b))) s') E s) : wpAny (model prog w) A (tryCompare (.ref x) "__ne__" b) Q E s := by
  unfold tryCompare
  refine wpAny_bind (ifBound_ne X I hn (wpAny_call (codeAny_call_builtin F.cmp_object.ne.plain F.cmpEntry_ne (check_slot F.cmpKind_ne F.cmpSplit_ne (I.type.andThen (looks_mroIn X hm)) (F.cmpArgs_ne _ _)
    (entry_ne (A := A.in1) X I hs hf hu (wpAny_mono h (fun v s' hv => ?_) fun _ _ e => e))))))
  obtain ⟨b, rfl, hq⟩ := hv
  first | exact ⟨b, rfl, wpAny_pure hq⟩ | exact ⟨b, rfl, wpAny_pure (wpAny_pure hq)⟩ | exact ⟨b, rfl, hq⟩
theorem ne_K {b tb : Value} {Q : Value → Shared → Prop} (hu : A.units + 1 < cLine) (X : K.In s.heap) (I : InstAt s.heap x ox C od) (hb : Looks (model prog w) s.heap (typeOf b) tb) (hnf : notFirst K C tb = true)
    (hm : mroIn K C (.type "object") = some true) (hn : findIn K (.ref C) "__ne__" = some (some (.builtin "object.__ne__"))) (hs : findIn K (.ref C) "__eq__" = some (some (.ref f))) (hf : isFn K (.ref f) = true)
    (h : wpAny (model prog w) A.in1 (call (.ref f) [.ref x, b]) (fun v s' => ∃ b, v = .bool b ∧ Q (.bool (!b)) s') E s) : wpAny (model prog w) A (richCompare .NotEq (.ref x) b) Q E s := by
  have one : wpAny (model prog w) A (tryCompare (.ref x) "__ne__" b) (fun r s' => ∃ v, r = some v ∧ Q v s') E s := try_ne X I hm hn hs hf hu (wpAny_mono h (fun v s' ⟨b, e, q⟩ => ⟨b, e, _, rfl, q⟩) fun _ _ e => e)
  unfold richCompare
  simp only [oneThing_ref]
  refine wpAny_holding (wpAny_bind (wpAny_cRoomFor (Nat.lt_of_succ_lt hu) ?_))
  rw [cmpInfo_NotEq]
  dsimp only
  refine wpAny_bind (I.type.here (wpAny_bind (hb.here ?_)))
  split
  · rename_i q
    have e : subIn K tb (.ref C) = some false := by
      rcases Bool.or_eq_true_iff.mp hnf with e | e
      · rw [beq_iff_eq.mp e] at q; simp at q
      · exact beq_iff_eq.mp e
    refine wpAny_bind ((looks_subIn X e).here ?_)
    simp only [Bool.false_eq_true, if_false]
    refine wpAny_bind (wpAny_mono one (fun r s' z => ?_) fun _ _ e => e)
    obtain ⟨v, rfl, hq⟩ := z
    exact wpAny_pure hq
  · refine wpAny_bind (wpAny_pure ?_)
    simp only [Bool.false_eq_true, if_false]
    refine wpAny_bind (wpAny_mono one (fun r s' z => ?_) fun _ _ e => e)
    obtain ⟨v, rfl, hq⟩ := z
    exact wpAny_pure hq
end
end OwnX
namespace Sc
open PySem PySem.Spec PyProof.Rows L2
/-- a value's type, as comparisons ask for it -/
inductive TyR (K : PySem.W.Frag) (H : Hp) : V → Value → Prop where
  | non : TyR K H .non (.type "NoneType")
  | int (i : Int) : TyR K H (.int i) (.type "int")
  | str (x : Str) : TyR K H (.str x) (.type "str")
  | lst {a : Addr} {xs : List V} (e : SqL K H a xs) : TyR K H (.ref a) (.type "list")
  | tup {a : Addr} {xs : List V} (e : SqT K H a xs) : TyR K H (.ref a) (.type "tuple")
  | ins {a C dx : Addr} {fs : List (Str × V)} (e : H a = some (.ins C dx fs)) : TyR K H (.ref a) (.ref C)
section
variable {X : Cx} {CX : CXT} {C g : Addr} {k : Nat} {fd : FuncData} {ps : List Str} {sp : Sp} {E : XK}
theorem TyR.looks {pins : List (Addr × Obj)} {σ : L2.St} {H : Hp} {s : Shared} {y : V} {t u : Value} (I : Inv X pins σ H s) (h : TyR X.K H y t) (r : RelV y u) {prog : Program} {w : World} : PySem.W.Looks (model prog w) s.heap (typeOf u) t := by
  cases h with
  | non => cases r; exact PySem.W.Looks.of_pure rfl
  | int i => obtain ⟨t, rfl⟩ := r; exact PySem.W.Looks.of_pure rfl
  | str i => obtain ⟨t, rfl⟩ := r; exact PySem.W.Looks.of_pure rfl
  | lst e =>
    cases r
    obtain ⟨its, _, ⟨o, n, ho, hc, _⟩, _⟩ := I.list e
    exact fun A Q E s k q => wpAny_typeOf_ref (k _ _ ho) (by rw [hc]; exact q)
  | tup e =>
    cases r
    obtain ⟨its, _, ⟨o, ho, hc, _⟩, _⟩ := I.tuple e
    exact fun A Q E s k q => wpAny_typeOf_ref (k _ _ ho) (by rw [hc]; exact q)
  | ins e =>
    cases r
    obtain ⟨mA, O, _⟩ := ins_get I.hok e
    obtain ⟨od, J, _⟩ := O.look
    exact J.type
/-- x == y, x of the class at C with its own __eq__ at g -/
def rEqO (K : PySem.W.Frag) (C : Addr) (sp : Sp) (E : XK) : R2 := fun x y H Q => ∃ (a dx : Addr) (fs : List (Str × V)) (tb : Value), x = .ref a ∧ H a = some (.ins C dx fs) ∧ TyR K H y tb ∧ PySem.W.notFirst K C tb = true ∧ sp [x, y] H Q E
theorem op_eqO (hs : PySem.W.findIn X.K (.ref C) "__eq__" = some (some (.ref g))) (hf : PySem.W.isFn X.K (.ref g) = true) (F : FnOk X.prog X.w X.K X.mg X.base CX k g fd ps sp) (hr : Room k X.A) (hb : Binds X.K fd ps []) (hx : Passes CX X E) : OpR X (compareOp .Eq) (rEqO X.K C sp E) := by
  intro pins s σ H x y v u Q I rx ry h
  obtain ⟨a, dx, fs, tb, rfl, ha, hy, hn, q⟩ := h
  cases (show v = Value.ref a from rx)
  obtain ⟨mA, O, _⟩ := ins_get I.hok ha
  obtain ⟨od, J, _⟩ := O.look
  obtain ⟨m, hF⟩ := I.fr
  show wpAny _ _ (richCompare .Eq _ _) _ _ _
  refine PySem.W.cmp_K (op := .Eq) (tb := tb) hr.units0 hF I.ok.mod.kin J (hy.looks I ry) hn hs hf ?_
  refine wpAny_mono (run_fn (us := [.ref a, u]) (vs := [.ref a, y]) (dvs := []) F hr hb .nil hx I (.cons rfl (.cons ry .nil)) q) (fun w s' z => ?_) fun _ _ x => x
  obtain ⟨z', H', I', rz, qz⟩ := z
  exact SlX.cmpback rz ⟨z', H', I', rz, qz⟩
/-- x != y by the same -/
def rNeO (K : PySem.W.Frag) (C : Addr) (sp : Sp) (E : XK) : R2 := fun x y H Q => ∃ (a dx : Addr) (fs : List (Str × V)) (tb : Value), x = .ref a ∧ H a = some (.ins C dx fs) ∧ TyR K H y tb ∧ PySem.W.notFirst K C tb = true ∧ sp [x, y] H (fun v H' => ∃ b, v = .bl b ∧ Q (.bl (!b)) H') E
theorem op_neO (hm : PySem.W.mroIn X.K C (.type "object") = some true) (hne : PySem.W.findIn X.K (.ref C) "__ne__" = some (some (.builtin "object.__ne__"))) (hs : PySem.W.findIn X.K (.ref C) "__eq__" = some (some (.ref g))) (hf : PySem.W.isFn X.K (.ref g) = true)
    (F : FnOk X.prog X.w X.K X.mg X.base CX k g fd ps sp) (hr : Room (k + 1) X.A) (hb : Binds X.K fd ps []) (hx : Passes CX X E) : OpR X (compareOp .NotEq) (rNeO X.K C sp E) := by
  intro pins s σ H x y v u Q I rx ry h
  obtain ⟨a, dx, fs, tb, rfl, ha, hy, hn, q⟩ := h
  cases (show v = Value.ref a from rx)
  obtain ⟨mA, O, _⟩ := ins_get I.hok ha
  obtain ⟨od, J, _⟩ := O.look
  show wpAny _ _ (richCompare .NotEq _ _) _ _ _
  have hu : X.A.units + 1 < cLine := by have := hr.un; omega
  refine OwnX.ne_K hu I.kIn J (hy.looks I ry) hn hm hne hs hf ?_
  have hl : ([Value.ref a, u] ++ ([] : List Value)).length = ps.length := F.len _ _ _ _ q
  refine wpAny_call (codeAny_mono (F.run X.A.in1 X.stack s H ⟨[.ref a, u], []⟩ [.ref a, u] [.ref a, y] _ _ hr.in1 I.env0.in1 (hb s [.ref a, u] I.kIn hl) (.cons rfl (.cons ry .nil)) q) fun r s' hq => ?_)
  cases r with
  | error e => exact hx pins σ H s e s' I hq
  | ok fl =>
    cases fl with
    | ret w =>
      obtain ⟨v, H', I', rv, b, rfl, qz⟩ := I.after hq
      cases rv
      exact ⟨b, rfl, .bl (!b), H', I', rfl, qz⟩
    | next => exact hq.elim
    | brk => exact hq.elim
    | cont => exact hq.elim
/-- x op y, both of the class at C, whose own method for op is at g -/
def rBinO (C : Addr) (sp : Sp) (E : XK) : R2 := fun x y H Q => ∃ (a dx : Addr) (fs : List (Str × V)) (b dy : Addr) (gs : List (Str × V)), x = .ref a ∧ y = .ref b ∧ H a = some (.ins C dx fs) ∧ H b = some (.ins C dy gs) ∧ sp [x, y] H Q E
theorem op_binO {op : Operator} (hc : PySem.W.selfFirst X.K C = true) (hs : PySem.W.findIn X.K (.ref C) (PySem.dunder op.info.2) = some (some (.ref g))) (hf : PySem.W.isFn X.K (.ref g) = true)
    (F : FnOk X.prog X.w X.K X.mg X.base CX k g fd ps sp) (hr : Room k X.A) (hb : Binds X.K fd ps []) (hx : Passes CX X E) : OpR X (binaryOp op) (rBinO C sp E) := by
  intro pins s σ H x y v u Q I rx ry h
  obtain ⟨a, dx, fs, b, dy, gs, rfl, rfl, ha, hy, q⟩ := h
  cases (show v = Value.ref a from rx)
  cases (show u = Value.ref b from ry)
  obtain ⟨mA, O, _⟩ := ins_get I.hok ha
  obtain ⟨od, J, _⟩ := O.look
  obtain ⟨mA', O', _⟩ := ins_get I.hok hy
  obtain ⟨od', J', _⟩ := O'.look
  refine OwnX.bin_same I.kIn J J'.type hc hs hf ?_
  refine wpAny_mono (run_fn (us := [.ref a, .ref b]) (vs := [.ref a, .ref b]) (dvs := []) F hr hb .nil hx I (.cons rfl (.cons rfl .nil)) q) (fun w s' z => ?_) fun _ _ x => x
  obtain ⟨z', H', I', rz, qz⟩ := z
  exact SlX.cmpback rz ⟨z', H', I', rz, qz⟩
end
end Sc
namespace Sc
open PySem PySem.Spec PyProof.Rows L2
section
variable {P : Program} {w : World} {K : PySem.W.Frag} {mg : Str → Option Value} {base : Heap} {a l : Addr} {H H' H'' : Hp}
theorem wk_ss {X : Cx} {st : List Stmt} {t : TS} (t' : TS) (h : PSs X st t) (w : ∀ D σ H, t' D σ H → t D σ H) : PSs X st t' := ⟨fun pins s σ H D I x => h.run pins s σ H D I (w D σ H x)⟩
/-- a class whose objects a def of its own makes -/
structure Mkr (P : Program) (w : World) (K : PySem.W.Frag) (mg : Str → Option Value) (base : Heap) (k : Nat) (x : Str) (C : Addr) (ps : List Str) (sp : Sp) : Prop where
  ex : ∃ (f : Addr) (fd : FuncData), Mk K C f ∧ FnOk P w K mg base (L2.CX P w) k f fd ps sp ∧ mg x = some (.ref C) ∧ Binds K fd ps []
section
variable {X : Cx} {k : Nat} {x : Str} {C : Addr} {ps : List Str} {sp : Sp} {e : Expr} {es : List Expr} {t : TA} {p pos : Pos}
theorem pe_mkN (M : Mkr X.prog X.w X.K X.mg X.base k x C ps sp) (hr : Room (k + 1) X.A) (ha : PA X (e :: es) t) (hg : Gl X x := by rfl) (hdb : (x == ("__debug__" : Str)) = false := by decide)
    (he : starEach (e :: es) X.env = (false, eval e X.env) :: starEach es X.env := by rfl) (hpl : (backTo pos (starEach es X.env)).any (·.1) = false := by rfl) : PE X (.Call (.Name x p) (e :: es) [] pos) (tMake C sp [] E0 t) := by
  obtain ⟨f, fd, hk, F, hm, hb⟩ := M.ex
  exact pe_make hk F hr hg hm hb .nil passL ha hdb he hpl
theorem pe_mkX {E : XK} (M : Mkr X.prog X.w X.K X.mg X.base k x C ps sp) (hr : Room (k + 1) X.A) (tk : Takes X (fun cls d _ H => E cls d H)) (ha : PA X (e :: es) t) (hg : Gl X x := by rfl) (hdb : (x == ("__debug__" : Str)) = false := by decide)
    (he : starEach (e :: es) X.env = (false, eval e X.env) :: starEach es X.env := by rfl) (hpl : (backTo pos (starEach es X.env)).any (·.1) = false := by rfl) : PE X (.Call (.Name x p) (e :: es) [] pos) (tMake C sp [] E t) := by
  obtain ⟨f, fd, hk, F, hm, hb⟩ := M.ex
  exact pe_make hk F hr hg hm hb .nil (fun pins σ H s e s' I h => passAt tk σ pins H s e s' I h) ha hdb he hpl
end
def sp_prop (C : Addr) (n : Str) : Sp := fun vs H Q _ => ∃ (x dx : Addr) (fs : List (Str × V)) (v : V), vs = [.ref x] ∧ H x = some (.ins C dx fs) ∧ fs.lookup n = some v ∧ Q v H
def sp_len (K : PySem.W.Frag) (C : Addr) : Sp := fun vs H Q _ => ∃ (x dx n : Addr) (fs : List (Str × V)) (zs : List V), vs = [.ref x] ∧ H x = some (.ins C dx fs) ∧ fs.lookup ("_names" : Str) = some (.ref n) ∧ SqT K H n zs ∧ Q (.int zs.length) H
structure CondC (P : Program) (w : World) (K : PySem.W.Frag) (mg : Str → Option Value) (base : Heap) (C p1 g1 p2 g2 p3 g3 g4 : Addr) (fd1 fd2 fd3 fd4 : FuncData) : Prop where
  cls : Cls K C
  p_holding : PropOf K C "holding" p1 g1 ∧ FnOk P w K mg base CX0 1 g1 fd1 ["self"] (sp_prop C "_holding") ∧ Binds K fd1 ["self"] []
  p_failing : PropOf K C "failing" p2 g2 ∧ FnOk P w K mg base CX0 1 g2 fd2 ["self"] (sp_prop C "_failing") ∧ Binds K fd2 ["self"] []
  p_names : PropOf K C "names" p3 g3 ∧ FnOk P w K mg base CX0 1 g3 fd3 ["self"] (sp_prop C "_names") ∧ Binds K fd3 ["self"] []
  lenAt : PySem.W.findIn K (.ref C) "__len__" = some (some (.ref g4))
  lenTy : PySem.W.typeIn K (.ref g4) = some (.type "function")
  lenF : FnOk P w K mg base CX0 1 g4 fd4 ["self"] (sp_len K C)
  lenB : Binds K fd4 ["self"] []
end
end Sc
namespace Sc
open PySem PySem.Spec PyProof.Rows L2
abbrev s_Condition_holding : Stmt := (inClass (topS 26) 1)
theorem sc_Condition_holding : FnScope ["self"] ["self"] (defScope s_Condition_holding) := ⟨rfl, rfl, rfl, by decide +kernel, rfl, by decide +kernel, by decide +kernel⟩
abbrev s_Condition_failing : Stmt := (inClass (topS 26) 2)
theorem sc_Condition_failing : FnScope ["self"] ["self"] (defScope s_Condition_failing) := ⟨rfl, rfl, rfl, by decide +kernel, rfl, by decide +kernel, by decide +kernel⟩
abbrev s_Condition_names : Stmt := (inClass (topS 26) 3)
theorem sc_Condition_names : FnScope ["self"] ["self"] (defScope s_Condition_names) := ⟨rfl, rfl, rfl, by decide +kernel, rfl, by decide +kernel, by decide +kernel⟩
abbrev s_Condition___len__ : Stmt := (inClass (topS 26) 5)
theorem sc_Condition___len__ : FnScope ["self"] ["self"] (defScope s_Condition___len__) := ⟨rfl, rfl, rfl, by decide +kernel, rfl, by decide +kernel, by decide +kernel⟩
section
variable {P : Program} {w : World} {K : PySem.W.Frag} {mg : Str → Option Value} {base : Heap} {C : Addr}
theorem ok_holding {f : Addr} {fd : FuncData} (F : Fun K "holding" "Condition.holding" s_Condition_holding f fd) (T : Cls K C) (n : NoAttr K C "_holding") : FnOk P w K mg base CX0 1 f fd ["self"] (sp_prop C "_holding") := by
  refine F.ok sc_Condition_holding (fun vs H Q E h => by obtain ⟨x, dx, fs, v, rfl, _⟩ := h; rfl) (fun cdv A outer s H vs Q E hr h => ?_)
  obtain ⟨x, dx, fs, v, rfl, hx, hl, q⟩ := h
  exact ⟨_, (pss_one (ps_ret (pe_fld (pv 0) rfl))), ⟨_, rfl, x, C, dx, fs, v, rfl, hx, T, n, hl, q⟩⟩
theorem ok_failing {f : Addr} {fd : FuncData} (F : Fun K "failing" "Condition.failing" s_Condition_failing f fd) (T : Cls K C) (n : NoAttr K C "_failing") : FnOk P w K mg base CX0 1 f fd ["self"] (sp_prop C "_failing") := by
  refine F.ok sc_Condition_failing (fun vs H Q E h => by obtain ⟨x, dx, fs, v, rfl, _⟩ := h; rfl) (fun cdv A outer s H vs Q E hr h => ?_)
  obtain ⟨x, dx, fs, v, rfl, hx, hl, q⟩ := h
  exact ⟨_, (pss_one (ps_ret (pe_fld (pv 0) rfl))), ⟨_, rfl, x, C, dx, fs, v, rfl, hx, T, n, hl, q⟩⟩
theorem ok_cnames {f : Addr} {fd : FuncData} (F : Fun K "names" "Condition.names" s_Condition_names f fd) (T : Cls K C) (n : NoAttr K C "_names") : FnOk P w K mg base CX0 1 f fd ["self"] (sp_prop C "_names") := by
  refine F.ok sc_Condition_names (fun vs H Q E h => by obtain ⟨x, dx, fs, v, rfl, _⟩ := h; rfl) (fun cdv A outer s H vs Q E hr h => ?_)
  obtain ⟨x, dx, fs, v, rfl, hx, hl, q⟩ := h
  exact ⟨_, (pss_one (ps_ret (pe_fld (pv 0) rfl))), ⟨_, rfl, x, C, dx, fs, v, rfl, hx, T, n, hl, q⟩⟩
theorem ok_clen {f : Addr} {fd : FuncData} (F : Fun K "__len__" "Condition.__len__" s_Condition___len__ f fd) (B : Blt mg) (T : Cls K C) (n : NoAttr K C "_names") : FnOk P w K mg base CX0 1 f fd ["self"] (sp_len K C) := by
  refine F.ok sc_Condition___len__ (fun vs H Q E h => by obtain ⟨x, dx, m, fs, zs, rfl, _⟩ := h; rfl) (fun cdv A outer s H vs Q E hr h => ?_)
  obtain ⟨x, dx, m, fs, zs, rfl, hx, hl, hz, q⟩ := h
  exact ⟨_, (pss_one (ps_ret (pe_callB call_len_seq (by rfl) B.b_len PySem.boot_len (pa_cons (pe_fld (pv 0) rfl) pa_nil)))), ⟨_, rfl, x, C, dx, fs, _, rfl, hx, T, n, hl, m, _, rfl, .inr hz, q⟩⟩
end
end Sc
namespace Sc
open PySem PySem.Spec PyProof.Rows L2
/-! ### what a condition does -/
abbrev s_Condition___call__ : Stmt := (inClass (topS 26) 4)
theorem sc_Condition___call__ : FnScope ["self", "case", "held", "name"] ["self", "case"] (defScope s_Condition___call__) := ⟨rfl, rfl, rfl, by decide +kernel, rfl, by decide +kernel, by decide +kernel⟩
/-- the texts in their order -/
def srt (l : List Str) : List Str := l.mergeSort fun a b => decide (a.cps.toList ≤ b.cps.toList)
theorem srt_perm (l : List Str) : (srt l).Perm l := List.mergeSort_perm _ _
theorem rising_of : ∀ (x : Str) (r : List Str), (∀ y ∈ r, SLe x y) → r.Pairwise SLe → risingS x r = true
  | _, [], _, _ => rfl
  | x, y :: r, h1, h2 => by
    have h2 := List.pairwise_cons.mp h2
    show (!ltCps y.cps.toList x.cps.toList && risingS y r) = true
    rw [Bool.and_eq_true, ltCps_eq]
    refine ⟨?_, rising_of y r h2.1 h2.2⟩
    have h3 : x.cps.toList ≤ y.cps.toList := h1 y List.mem_cons_self
    rw [decide_eq_false (show ¬ y.cps.toList < x.cps.toList from fun z => List.not_lt.mpr h3 z)]
    rfl
theorem sorted_of : ∀ {r : List Str}, r.Pairwise SLe → sortedS r = true
  | [], _ => rfl
  | x :: r, h => rising_of x r (List.pairwise_cons.mp h).1 (List.pairwise_cons.mp h).2
theorem srt_sorted (l : List Str) : sortedS (srt l) = true := by
  refine sorted_of ((List.pairwise_mergeSort (le := fun a b : Str => decide (a.cps.toList ≤ b.cps.toList)) (fun a b c h1 h2 => ?_) (fun a b => ?_) l).imp fun h => of_decide_eq_true h)
  · exact decide_eq_true (List.le_trans (of_decide_eq_true h1) (of_decide_eq_true h2))
  · rw [Bool.or_eq_true]
    rcases List.le_total a.cps.toList b.cps.toList with h | h
    · exact .inl (decide_eq_true h)
    · exact .inr (decide_eq_true h)
/-- an object Condition -/
structure CondAt (K : PySem.W.Frag) (C : Addr) (H : Hp) (o : Addr) (hs fs : List Str) : Prop where
  at_ : ∃ (dx a b n : Addr) (zs : List Str), H o = some (.ins C dx (condF a b n)) ∧ SqT K H a (hs.map V.str) ∧ SqT K H b (fs.map V.str) ∧ H n = some (.tup (zs.map V.str)) ∧ zs = srt (hs ++ fs)
theorem CondAt.same {K : PySem.W.Frag} {C : Addr} {H H' : Hp} {o : Addr} {hs fs : List Str} (h : CondAt K C H o hs fs) (s : Same H H') : CondAt K C H' o hs fs := by
  obtain ⟨dx, a, b, n, zs, h1, h2, h3, h4, h5⟩ := h.at_
  exact ⟨dx, a, b, n, zs, s _ _ h1, s.tup h2, s.tup h3, s _ _ h4, h5⟩
def meets (hs fs case : List Str) : Bool := (hs.all fun x => decide (x ∈ case)) && !(fs.any fun x => decide (x ∈ case))
section
variable {P : Program} {w : World} {K : PySem.W.Frag} {mg : Str → Option Value} {base : Heap} {CC C : Addr}
/-- [name in case for name in xs]: the truths -/
theorem inAll {H1 : Hp} {D c : Addr} {xs cs : List Str} {W : Nat} {X : Cx} {σ : L2.St} : True := trivial
def sp_ccall (K : PySem.W.Frag) (C : Addr) : Sp := fun vs H Q _ => ∃ (o c : Addr) (hs fs cs : List Str), vs = [.ref o, .ref c] ∧ CondAt K C H o hs fs ∧ SqT K H c (cs.map V.str) ∧ hs.length ≤ 1000 ∧ fs.length ≤ 1000 ∧ ∀ H', Same H H' → Q (.bl (meets hs fs cs)) H'
theorem ok_ccall {f : Addr} {fd : FuncData} (F : Fun K "__call__" "Condition.__call__" s_Condition___call__ f fd) (B : Blt mg) (T : Cls K C) (n1 : NoAttr K C "_holding") (n2 : NoAttr K C "_failing") : FnOk P w K mg base CX0 1 f fd ["self", "case"] (sp_ccall K C) := by
  refine F.ok sc_Condition___call__ (fun vs H Q E h => by obtain ⟨o, c, hs, fs, cs, rfl, _⟩ := h; rfl) (fun cdv A outer s H vs Q E hr h => ?_)
  obtain ⟨o, c, hs, fs, cs, rfl, hC, hc, l1, l2, q⟩ := h
  obtain ⟨dx, a, b, n, zs, ho, ha, hb, _⟩ := hC.at_
  refine ⟨_, (pss_cons (ps_set (i := 2) sc_Condition___call__.nd rfl (Or.inl rfl) (pe_callB (cr_all rfl) (by rfl) B.b_all PyProof.Rows.boot_all (pa_cons (pe_lc (own := [("name", 3)]) (g := gName 3) (tt := tYes) rfl sc_Condition___call__.nd (pi_tup (pe_fld (pv 0) rfl)) (blkOk_by (own := [("name", 3)]) (N := ["self", "case", "held", "name"]) (sc := defScope s_Condition___call__) (by decide +kernel)) (fun _ _ _ _ _ => (pg_name (i := 3) sc_Condition___call__.nd rfl (Or.inl rfl))) (fun _ _ _ _ _ => pts_nil) (fun _ _ _ _ _ => (pe_.re (pe_cmpR op_in_seq (pv 3) (pv 1) rfl) (by first | (dsimp only [Cx.blk]; done) | exact rfl)))) pa_nil)))
      (pss_one (ps_ret (pe_and (pv 2) (pe_one (pe_not (pe_callB (cr_any rfl) (by rfl) B.b_any (by decide +kernel) (pa_cons (pe_lc (own := [("name", 3)]) (g := gName 3) (tt := tYes) rfl sc_Condition___call__.nd (pi_tup (pe_fld (pv 0) rfl)) (blkOk_by (own := [("name", 3)]) (N := ["self", "case", "held", "name"]) (sc := defScope s_Condition___call__) (by decide +kernel)) (fun _ _ _ _ _ => (pg_name (i := 3) sc_Condition___call__.nd rfl (Or.inl rfl))) (fun _ _ _ _ _ => pts_nil) (fun _ _ _ _ _ => (pe_.re (pe_cmpR op_in_seq (pv 3) (pv 1) rfl) (by first | (dsimp only [Cx.blk]; done) | exact rfl)))) pa_nil)))))))), ?_⟩
  refine ⟨_, rfl, o, C, dx, _, .ref a, rfl, ho, T, n1, rfl, a, rfl, ⟨_, ha⟩, fun D nD => lc_it walk_tup (fun i H' => Same H H' ∧ H' D = some (.lst ((hs.take i).map fun x => V.bl (decide (x ∈ cs))))) ⟨(Same.refl H).put nD, upd_same⟩ (fun _ _ _ h => h.1.tup ha) ?_ ?_⟩
  · rintro i y H2 H3 hi ⟨s, e⟩ ⟨rfl, hy⟩
    rw [List.length_map] at hi
    have hx : hs[i]? = some hs[i] := List.getElem?_eq_getElem hi
    obtain rfl : V.str hs[i] = y := strAt_inj hx hy
    refine ⟨rfl, yes_ ⟨_, rfl, _, rfl, c, _, rfl, .inr (s.tup hc), rfl, flat_strs cs, grow (acc := fun i => (hs.take i).map fun x => V.bl (decide (x ∈ cs))) nD s e ?_ ?_⟩⟩
    · rw [List.length_map, List.length_take]
      exact small1000 (by omega)
    · show List.map _ _ = _
      rw [take_more hx, List.map_append]
      simp only [List.map_cons, List.map_nil, inV_str]
      rfl
  · rintro H2 ⟨s, e⟩
    rw [List.length_map, List.take_length] at e
    refine ⟨D, hs.map fun x => decide (x ∈ cs), rfl, sqL_of (by rw [e, List.map_map]; rfl), ?_⟩
    refine ⟨_, rfl, _, rfl, bcase (fun c1 => ?_) (fun c1 => ?_)⟩
    · refine ⟨_, rfl, o, C, dx, _, .ref b, rfl, s _ _ ho, T, n2, rfl, b, rfl, ⟨_, s.tup hb⟩, fun D2 nD2 => lc_it walk_tup (fun i H' => Same H2 H' ∧ H' D2 = some (.lst ((fs.take i).map fun x => V.bl (decide (x ∈ cs))))) ⟨(Same.refl H2).put nD2, upd_same⟩ (fun _ _ _ h => (s.trans h.1).tup hb) ?_ ?_⟩
      · rintro i y H4 H3 hi ⟨s2, e2⟩ ⟨rfl, hy⟩
        rw [List.length_map] at hi
        have hx : fs[i]? = some fs[i] := List.getElem?_eq_getElem hi
        obtain rfl : V.str fs[i] = y := strAt_inj hx hy
        refine ⟨rfl, yes_ ⟨_, rfl, _, rfl, c, _, rfl, .inr ((s.trans s2).tup hc), rfl, flat_strs cs, grow (acc := fun i => (fs.take i).map fun x => V.bl (decide (x ∈ cs))) nD2 s2 e2 ?_ ?_⟩⟩
        · rw [List.length_map, List.length_take]
          exact small1000 (by omega)
        · show List.map _ _ = _
          rw [take_more hx, List.map_append]
          simp only [List.map_cons, List.map_nil, inV_str]
          rfl
      · rintro H4 ⟨s2, e2⟩
        rw [List.length_map, List.take_length] at e2
        refine ⟨D2, fs.map fun x => decide (x ∈ cs), rfl, sqL_of (by rw [e2, List.map_map]; rfl), ?_⟩
        refine ⟨_, rfl, ?_⟩
        have em : meets hs fs cs = !((fs.map fun x => decide (x ∈ cs)).any id) := by
          unfold meets
          rw [List.any_map]
          have c1 : (hs.all fun x => decide (x ∈ cs)) = true := by rw [List.all_map] at c1; exact c1
          rw [c1, Bool.true_and]
          rfl
        rw [← em]
        exact q H4 (s.trans s2)
    · have em : meets hs fs cs = false := by
        unfold meets
        have c1 : (hs.all fun x => decide (x ∈ cs)) = false := by rw [List.all_map] at c1; exact c1
        rw [c1, Bool.false_and]
      rw [← em]
      exact q H2 s
/-! ### within -/
abbrev s_Condition_within : Stmt := (inClass (topS 26) 8)
theorem sc_Condition_within : FnScope ["self", "other", "held", "name"] ["self", "other"] (defScope s_Condition_within) := ⟨rfl, rfl, rfl, by decide +kernel, rfl, by decide +kernel, by decide +kernel⟩
def withinC (hs fs gs ks : List Str) : Bool := (gs.all fun x => decide (x ∈ hs)) && (ks.all fun x => decide (x ∈ fs))
def sp_within (K : PySem.W.Frag) (C : Addr) : Sp := fun vs H Q _ => ∃ (o o2 : Addr) (hs fs gs ks : List Str), vs = [.ref o, .ref o2] ∧ CondAt K C H o hs fs ∧ CondAt K C H o2 gs ks ∧ gs.length ≤ 1000 ∧ ks.length ≤ 1000 ∧ ∀ H', Same H H' → Q (.bl (withinC hs fs gs ks)) H'
/-- the getters -/
abbrev PropC (P : Program) (w : World) (K : PySem.W.Frag) (mg : Str → Option Value) (base : Heap) (C p g : Addr) (fd : FuncData) (n f : Str) : Prop := PropOf K C n p g ∧ FnOk P w K mg base CX0 1 g fd ["self"] (sp_prop C f) ∧ Binds K fd ["self"] []
theorem ok_within {f p1' g1 p2' g2 : Addr} {fd fd1 fd2 : FuncData} (F : Fun K "within" "Condition.within" s_Condition_within f fd) (B : Blt mg) (T : Cls K C) (n1 : NoAttr K C "_holding") (n2 : NoAttr K C "_failing")
    (p1 : PropC P w K mg base C p1' g1 fd1 "holding" "_holding") (p2 : PropC P w K mg base C p2' g2 fd2 "failing" "_failing") : FnOk P w K mg base CX0 3 f fd ["self", "other"] (sp_within K C) := by
  refine F.ok sc_Condition_within (fun vs H Q E h => by obtain ⟨o, c, hs, fs, gs, ks, rfl, _⟩ := h; rfl) (fun cdv A outer s H vs Q E hr h => ?_)
  obtain ⟨o, o2, hs, fs, gs, ks, rfl, hC, hD, l1, l2, q⟩ := h
  obtain ⟨dx, a, b, n, zs, ho, ha, hb, _⟩ := hC.at_
  obtain ⟨dx2, a2, b2, n2', zs2, ho2, ha2, hb2, _⟩ := hD.at_
  have lk1 : (condF a2 b2 n2').lookup ("_holding" : Str) = some (.ref a2) := rfl
  have lk2 : (condF a2 b2 n2').lookup ("_failing" : Str) = some (.ref b2) := rfl
  refine ⟨_, (pss_cons (ps_set (i := 2) sc_Condition_within.nd rfl (Or.inl rfl) (pe_callB (cr_all rfl) (by rfl) B.b_all PyProof.Rows.boot_all (pa_cons (pe_lc (own := [("name", 3)]) (g := gName 3) (tt := tYes) rfl sc_Condition_within.nd (pi_tup (pe_prop (pv 1) T p1.1 p1.2.1 (hr.mono (by decide)) p1.2.2 .nil pass0 rfl)) (blkOk_by (own := [("name", 3)]) (N := ["self", "other", "held", "name"]) (sc := defScope s_Condition_within) (by decide +kernel)) (fun _ _ _ _ _ => (pg_name (i := 3) sc_Condition_within.nd rfl (Or.inl rfl))) (fun _ _ _ _ _ => pts_nil) (fun _ _ _ _ _ => (pe_.re (pe_cmpR op_in_seq (pv 3) (pe_fld (pv 0) rfl) rfl) (by first | (dsimp only [Cx.blk]; done) | exact rfl)))) pa_nil)))
      (pss_one (ps_ret (pe_and (pv 2) (pe_one (pe_callB (cr_all rfl) (by rfl) B.b_all PyProof.Rows.boot_all (pa_cons (pe_lc (own := [("name", 3)]) (g := gName 3) (tt := tYes) rfl sc_Condition_within.nd (pi_tup (pe_prop (pv 1) T p2.1 p2.2.1 (hr.mono (by decide)) p2.2.2 .nil pass0 rfl)) (blkOk_by (own := [("name", 3)]) (N := ["self", "other", "held", "name"]) (sc := defScope s_Condition_within) (by decide +kernel)) (fun _ _ _ _ _ => (pg_name (i := 3) sc_Condition_within.nd rfl (Or.inl rfl))) (fun _ _ _ _ _ => pts_nil) (fun _ _ _ _ _ => (pe_.re (pe_cmpR op_in_seq (pv 3) (pe_fld (pv 0) rfl) rfl) (by first | (dsimp only [Cx.blk]; done) | exact rfl)))) pa_nil))))))), ?_⟩
  refine ⟨_, rfl, o2, dx2, _, rfl, ho2, ⟨o2, dx2, _, _, rfl, ho2, lk1, ?_⟩⟩
  refine ⟨a2, rfl, ⟨_, ha2⟩, fun D nD => lc_it walk_tup (fun i H' => Same H H' ∧ H' D = some (.lst ((gs.take i).map fun x => V.bl (decide (x ∈ hs))))) ⟨(Same.refl H).put nD, upd_same⟩ (fun _ _ _ h => h.1.tup ha2) ?_ ?_⟩
  · rintro i y H2 H3 hi ⟨s, e⟩ ⟨rfl, hy⟩
    rw [List.length_map] at hi
    have hx : gs[i]? = some gs[i] := List.getElem?_eq_getElem hi
    obtain rfl : V.str gs[i] = y := strAt_inj hx hy
    refine ⟨rfl, yes_ ⟨_, rfl, _, rfl, o, C, dx, _, .ref a, rfl, s _ _ ho, T, n1, rfl, a, _, rfl, .inr (s.tup ha), rfl, flat_strs hs, grow (acc := fun i => (gs.take i).map fun x => V.bl (decide (x ∈ hs))) nD s e ?_ ?_⟩⟩
    · rw [List.length_map, List.length_take]
      exact small1000 (by omega)
    · show List.map _ _ = _
      rw [take_more hx, List.map_append]
      simp only [List.map_cons, List.map_nil, inV_str]
      rfl
  · rintro H2 ⟨s, e⟩
    rw [List.length_map, List.take_length] at e
    refine ⟨D, gs.map fun x => decide (x ∈ hs), rfl, sqL_of (by rw [e, List.map_map]; rfl), ?_⟩
    refine ⟨_, rfl, _, rfl, bcase (fun c1 => ?_) (fun c1 => ?_)⟩
    · refine ⟨_, rfl, o2, dx2, _, rfl, s _ _ ho2, ⟨o2, dx2, _, _, rfl, s _ _ ho2, lk2, ?_⟩⟩
      refine ⟨b2, rfl, ⟨_, s.tup hb2⟩, fun D2 nD2 => lc_it walk_tup (fun i H' => Same H2 H' ∧ H' D2 = some (.lst ((ks.take i).map fun x => V.bl (decide (x ∈ fs))))) ⟨(Same.refl H2).put nD2, upd_same⟩ (fun _ _ _ h => (s.trans h.1).tup hb2) ?_ ?_⟩
      · rintro i y H4 H3 hi ⟨s2, e2⟩ ⟨rfl, hy⟩
        rw [List.length_map] at hi
        have hx : ks[i]? = some ks[i] := List.getElem?_eq_getElem hi
        obtain rfl : V.str ks[i] = y := strAt_inj hx hy
        have s3 := s.trans s2
        refine ⟨rfl, yes_ ⟨_, rfl, _, rfl, o, C, dx, _, .ref b, rfl, s3 _ _ ho, T, n2, rfl, b, _, rfl, .inr (s3.tup hb), rfl, flat_strs fs, grow (acc := fun i => (ks.take i).map fun x => V.bl (decide (x ∈ fs))) nD2 s2 e2 ?_ ?_⟩⟩
        · rw [List.length_map, List.length_take]
          exact small1000 (by omega)
        · show List.map _ _ = _
          rw [take_more hx, List.map_append]
          simp only [List.map_cons, List.map_nil, inV_str]
          rfl
      · rintro H4 ⟨s2, e2⟩
        rw [List.length_map, List.take_length] at e2
        refine ⟨D2, ks.map fun x => decide (x ∈ fs), rfl, sqL_of (by rw [e2, List.map_map]; rfl), ?_⟩
        have em : withinC hs fs gs ks = (ks.map fun x => decide (x ∈ fs)).all id := by
          unfold withinC
          have c1 : (gs.all fun x => decide (x ∈ hs)) = true := by rw [List.all_map] at c1; exact c1
          rw [c1, Bool.true_and, List.all_map]
          rfl
        rw [← em]
        exact q H4 (s.trans s2)
    · have em : withinC hs fs gs ks = false := by
        unfold withinC
        have c1 : (gs.all fun x => decide (x ∈ hs)) = false := by rw [List.all_map] at c1; exact c1
        rw [c1, Bool.false_and]
      rw [← em]
      exact q H2 s
/-! ### == -/
abbrev s_Condition___eq__ : Stmt := (inClass (topS 26) 7)
theorem sc_Condition___eq__ : FnScope ["self", "other"] ["self", "other"] (defScope s_Condition___eq__) := ⟨rfl, rfl, rfl, by decide +kernel, rfl, by decide +kernel, by decide +kernel⟩
theorem dp_strs {H : Hp} {a : Addr} {xs : List Str} (h : SqT K H a (xs.map V.str)) : Dp K H (.ref a) (.tuple (xs.map PyData.str)) := .tup h (dps K H xs)
/-- what isinstance asks of the class at C -/
structure IsiC (K : PySem.W.Frag) (C : Addr) : Prop where
  ca : PySem.W.findIn K (.ref C) "__class__" = some (some (.builtin "object.__class__"))
  cn : PySem.W.specialIn K (.builtin "object.__class__") "__get__" = some (some (.builtin "getset_descriptor.__get__"))
  ct : PySem.W.takesIn K (.builtin "object.__class__") = some true
  cm : PySem.W.mroIn K C (.type "object") = some true
  me : PySem.W.kitOne K (.ref C) (.ref C) = some true
def sp_ceq (K : PySem.W.Frag) (C : Addr) : Sp := fun vs H Q _ => ∃ (o : Addr) (y : V) (hs fs : List Str), vs = [.ref o, y] ∧ CondAt K C H o hs fs ∧ Fines hs ∧ Fines fs ∧
  ((∃ (o2 : Addr) (gs ks : List Str), y = .ref o2 ∧ CondAt K C H o2 gs ks ∧ Fines gs ∧ Fines ks ∧ Q (.bl (decide (hs = gs) && decide (fs = ks))) H) ∨ (∃ t : Value, TyOf K H y t ∧ PySem.W.kitOne K t (.ref C) = some false ∧ Q (.bl false) H))
theorem ok_ceq {f : Addr} {fd : FuncData} (F : Fun K "__eq__" "Condition.__eq__" s_Condition___eq__ f fd) (B : Blt mg) (T : Cls K C) (n1 : NoAttr K C "_holding") (n2 : NoAttr K C "_failing") (mC : mg "Condition" = some (.ref C)) (I : IsiC K C) : FnOk P w K mg base CX0 1 f fd ["self", "other"] (sp_ceq K C) := by
  refine F.ok sc_Condition___eq__ (fun vs H Q E h => by obtain ⟨o, y, hs, fs, rfl, _⟩ := h; rfl) (fun cdv A outer s H vs Q E hr h => ?_)
  obtain ⟨o, y, hs, fs, rfl, hC, f1, f2, q⟩ := h
  obtain ⟨dx, a, b, n, zs, ho, ha, hb, _⟩ := hC.at_
  refine ⟨_, (pss_one (ps_ret (pe_and (pe_callB call_isi (by rfl) B.b_isinstance PyProof.Rows.boot_isinstance (pa_cons (pv 1) (pa_cons (pe_glob (v := .ref _) rfl mC rfl) pa_nil))) (pe_and (pe_cmpR (op_eqD hr.units) (pe_fld (pv 0) rfl) (pe_fld (pv 1) rfl) (nomark _)) (pe_one (pe_cmpR (op_eqD hr.units) (pe_fld (pv 0) rfl) (pe_fld (pv 1) rfl) (nomark _))))))), ?_⟩
  rcases q with ⟨o2, gs, ks, rfl, hD, f3, f4, q⟩ | ⟨t, ht, hk, q⟩
  · obtain ⟨dx2, a2, b2, n2', zs2, ho2, ha2, hb2, _⟩ := hD.at_
    refine ⟨_, rfl, _, _, _, _, _, rfl, .own _, .base (.ins ho2 T I.ca I.cn I.ct I.cm), I.me, _, rfl, iteT ?_⟩
    refine ⟨_, rfl, o, C, dx, _, .ref a, rfl, ho, T, n1, rfl, _, rfl, o2, C, dx2, _, .ref a2, rfl, ho2, T, n1, rfl, _, _, dp_strs ha, dp_strs ha2, shT f1, shT f3, _, rfl, ?_⟩
    have e1 : (PyData.tuple (hs.map PyData.str)).eqv (.tuple (gs.map PyData.str)) = decide (hs = gs) := eqvA hs gs
    rw [e1]
    by_cases c1 : hs = gs
    · rw [decide_eq_true c1]
      rw [decide_eq_true c1, Bool.true_and] at q
      refine iteT ⟨_, rfl, o, C, dx, _, .ref b, rfl, ho, T, n2, rfl, _, rfl, o2, C, dx2, _, .ref b2, rfl, ho2, T, n2, rfl, _, _, dp_strs hb, dp_strs hb2, shT f2, shT f4, ?_⟩
      have e2 : (PyData.tuple (fs.map PyData.str)).eqv (.tuple (ks.map PyData.str)) = decide (fs = ks) := eqvA fs ks
      rw [e2]
      exact q
    · rw [decide_eq_false c1]
      rw [decide_eq_false c1, Bool.false_and] at q
      exact iteF q
  · exact ⟨_, rfl, _, _, _, _, _, rfl, .own _, .base ht, hk, _, rfl, iteF q⟩
/-! ### & -/
abbrev s_Condition___and__ : Stmt := (inClass (topS 26) 6)
theorem sc_Condition___and__ : FnScope ["self", "other", "holding", "failing", "name"] ["self", "other"] (defScope s_Condition___and__) := ⟨rfl, rfl, rfl, by decide +kernel, rfl, by decide +kernel, by decide +kernel⟩
def mrg (xs ys : List Str) : List Str := srt (xs ++ ys.filter fun y => !decide (y ∈ xs))
theorem mrg_txts {xs ys : List Str} (h1 : Txts xs) (h2 : Txts ys) : Txts (mrg xs ys) := fun x hx => by
  have hx := (srt_perm _).mem_iff.mp hx
  rcases List.mem_append.mp hx with h | h
  · exact h1 x h
  · exact h2 x (List.mem_filter.mp h).1
theorem mrg_len {xs ys : List Str} : (mrg xs ys).length ≤ xs.length + ys.length := by
  unfold mrg
  rw [(srt_perm _).length_eq, List.length_append]
  have := List.length_filter_le (fun y => !decide (y ∈ xs)) ys
  omega
theorem srt_uniq {zs l : List Str} (p : zs.Perm l) (s : sortedS zs = true) : zs = srt l := sorted_uniq (p.trans (srt_perm l).symm) s (srt_sorted l)
/-- a name of the one is in the other -/
def meetN (xs ys : List Str) : Bool := xs.any fun x => decide (x ∈ ys)
def sp_cand (K : PySem.W.Frag) (C CC CN : Addr) : Sp := fun vs H Q E => ∃ (o o2 : Addr) (hs fs gs ks : List Str), vs = [.ref o, .ref o2] ∧ CondAt K C H o hs fs ∧ CondAt K C H o2 gs ks ∧ Txts hs ∧ Txts fs ∧ Txts gs ∧ Txts ks ∧ hs.length + gs.length < 64 ∧ fs.length + ks.length < 64 ∧
  (meetN (mrg hs gs) (mrg fs ks) = true → ∀ H', Same H H' → E (.ref CN) none H') ∧ (meetN (mrg hs gs) (mrg fs ks) = false →
    (∀ i, firstWrong (mrg hs gs) [] = some i → errPI CC ((0 : Nat) : Int) i H E) ∧ (firstWrong (mrg hs gs) [] = none → (∀ i, firstWrong (mrg fs ks) (mrg hs gs) = some i → errPI CC ((1 : Nat) : Int) i H E) ∧
    (firstWrong (mrg fs ks) (mrg hs gs) = none → ∀ H' o3, Same H H' → H o3 = none → CondAt K C H' o3 (mrg hs gs) (mrg fs ks) → Q (.ref o3) H')))
theorem ok_cand {f p1' g1 p2' g2 CN : Addr} {fd fd1 fd2 : FuncData} (F : Fun K "__and__" "Condition.__and__" s_Condition___and__ f fd) (B : Blt mg) (T : Cls K C) (n1 : NoAttr K C "_holding") (n2 : NoAttr K C "_failing")
    (p1 : PropC P w K mg base C p1' g1 fd1 "holding" "_holding") (p2 : PropC P w K mg base C p2' g2 fd2 "failing" "_failing") (e_NeverMet : ErrMk0 K mg "NeverMet" CN)
    (c_merged : Cal P w K mg base CX0 1 "merged" ["names", "others"] (sp_merged K)) (k_Condition : Mkr P w K mg base 4 "Condition" C ["self", "holding", "failing"] (sp_cond_init K C CC)) : FnOk P w K mg base (L2.CX P w) 6 f fd ["self", "other"] (sp_cand K C CC CN) := by
  refine F.okX sc_Condition___and__ (fun vs H Q E h => by obtain ⟨o, o2, hs, fs, gs, ks, rfl, _⟩ := h; rfl) (fun cdv A outer s H vs Q E hr h => ?_)
  obtain ⟨o, o2, hs, fs, gs, ks, rfl, hC, hD, t1, t2, t3, t4, l1, l2, qE, q⟩ := h
  obtain ⟨dx, a, b, n, zs, ho, ha, hb, _⟩ := hC.at_
  obtain ⟨dx2, a2, b2, n2', zs2, ho2, ha2, hb2, _⟩ := hD.at_
  have lk1 : (condF a2 b2 n2').lookup ("_holding" : Str) = some (.ref a2) := rfl
  have lk2 : (condF a2 b2 n2').lookup ("_failing" : Str) = some (.ref b2) := rfl
  refine ⟨_, (pss_cons (ps_set (i := 2) sc_Condition___and__.nd rfl (Or.inl rfl) (pe_cal c_merged (hr.mono (by decide)) (pa_cons (pe_fld (pv 0) rfl) (pa_cons (pe_prop (pv 1) T p1.1 p1.2.1 (hr.mono (by decide)) p1.2.2 .nil pass0 rfl) pa_nil))))
      (pss_cons (ps_set (i := 3) sc_Condition___and__.nd rfl (Or.inr rfl) (pe_cal c_merged (hr.mono (by decide)) (pa_cons (pe_fld (pv 0) rfl) (pa_cons (pe_prop (pv 1) T p2.1 p2.2.1 (hr.mono (by decide)) p2.2.2 .nil pass0 rfl) pa_nil))))
      (pss_cons (ps_if (pt_val (pe_callB (cr_any rfl) (by rfl) B.b_any (by decide +kernel) (pa_cons (pe_lc (own := [("name", 4)]) (g := gName 4) (tt := tYes) rfl sc_Condition___and__.nd (pi_tup (pv 2)) (blkOk_by (own := [("name", 4)]) (N := ["self", "other", "holding", "failing", "name"]) (sc := defScope s_Condition___and__) (by decide +kernel)) (fun _ _ _ _ _ => (pg_name (i := 4) sc_Condition___and__.nd rfl (Or.inl rfl))) (fun _ _ _ _ _ => pts_nil) (fun _ _ _ _ _ => (pe_.re (pe_cmpR op_in_seq (pv 4) (pv 3) rfl) (by first | (dsimp only [Cx.blk]; done) | exact rfl)))) pa_nil))) (pss_one (ps_raise rfl (takes_of rfl rfl rfl rfl) (pmk_err0 e_NeverMet))) pss_nil)
      (pss_one (ps_ret (pe_mkX k_Condition (hr.mono (by decide)) (takes_of rfl rfl rfl rfl) (pa_cons (pv 2) (pa_cons (pv 3) pa_nil)))))))), ?_⟩
  refine ⟨_, rfl, o, C, dx, _, .ref a, rfl, ho, T, n1, rfl, _, rfl, o2, dx2, _, rfl, ho2, ⟨o2, dx2, _, _, rfl, ho2, lk1, ?_⟩⟩
  refine ⟨a, a2, hs, gs, rfl, ha, ha2, l1, fun H1 hA za s1 eA pA sA => ?_⟩
  obtain rfl : za = mrg hs gs := srt_uniq pA sA
  refine ⟨_, rfl, o, C, dx, _, .ref b, rfl, s1 _ _ ho, T, n2, rfl, _, rfl, o2, dx2, _, rfl, s1 _ _ ho2, ⟨o2, dx2, _, _, rfl, s1 _ _ ho2, lk2, ?_⟩⟩
  refine ⟨b, b2, fs, ks, rfl, s1.tup hb, s1.tup hb2, l2, fun H2 hB zb s2 eB pB sB => ?_⟩
  obtain rfl : zb = mrg fs ks := srt_uniq pB sB
  have s12 := s1.trans s2
  have eA2 := s2 _ _ eA
  refine ⟨_, rfl, hA, rfl, ⟨_, sqT_of eA2⟩, fun D nD => lc_it walk_tup (fun i H' => Same H2 H' ∧ H' D = some (.lst (((mrg hs gs).take i).map fun x => V.bl (decide (x ∈ mrg fs ks))))) ⟨(Same.refl H2).put nD, upd_same⟩ (fun _ _ _ h => h.1.tup (sqT_of eA2)) ?_ ?_⟩
  · rintro i y H4 H3 hi ⟨s, e⟩ ⟨rfl, hy⟩
    rw [List.length_map] at hi
    have hx : (mrg hs gs)[i]? = some (mrg hs gs)[i] := List.getElem?_eq_getElem hi
    obtain rfl : V.str (mrg hs gs)[i] = y := strAt_inj hx hy
    refine ⟨rfl, yes_ ⟨_, rfl, _, rfl, hB, _, rfl, .inr (sqT_of (s _ _ eB)), rfl, flat_strs _, grow (acc := fun i => ((mrg hs gs).take i).map fun x => V.bl (decide (x ∈ mrg fs ks))) nD s e ?_ ?_⟩⟩
    · rw [List.length_map, List.length_take]
      have := mrg_len (xs := hs) (ys := gs)
      exact small1000 (by omega)
    · show List.map _ _ = _
      rw [take_more hx, List.map_append]
      simp only [List.map_cons, List.map_nil, inV_str]
      rfl
  · rintro H4 ⟨s, e⟩
    rw [List.length_map, List.take_length] at e
    refine ⟨D, (mrg hs gs).map fun x => decide (x ∈ mrg fs ks), rfl, sqL_of (by rw [e, List.map_map]; rfl), ?_⟩
    have em : ((mrg hs gs).map fun x => decide (x ∈ mrg fs ks)).any id = meetN (mrg hs gs) (mrg fs ks) := by
      rw [List.any_map]
      rfl
    rw [em]
    refine ⟨_, rfl, bcase (fun c1 => ?_) (fun c1 => ?_)⟩
    · exact qE c1 H4 (s12.trans s)
    · obtain ⟨q0, q⟩ := q c1
      have s4 := s12.trans s
      have eA4 := s _ _ eA2
      have eB4 := s _ _ eB
      refine ⟨_, rfl, _, rfl, fun o3 dx3 nx ndx nex => ?_⟩
      have s5 : Same H4 (upd (upd H4 dx3 (.own o3)) o3 (.ins C dx3 [])) := ((Same.refl H4).put ndx).put nx
      have m1 := mrg_len (xs := hs) (ys := gs)
      have m2 := mrg_len (xs := fs) (ys := ks)
      refine ⟨o3, dx3, hA, hB, _, _, rfl, upd_same, sqT_of (s5 _ _ eA4), sqT_of (s5 _ _ eB4), mrg_txts t1 t3, mrg_txts t2 t4, by omega, by omega, fun i ei H' d sH nd => q0 i ei H' d ((s4.trans s5).trans sH) nd, fun en => ?_⟩
      obtain ⟨q1, q⟩ := q en
      refine ⟨fun i ei H' d sH nd => q1 i ei H' d ((s4.trans s5).trans sH) nd, fun en2 H' n3 zs3 sX hx hn hperm hsort => ⟨rfl, ?_⟩⟩
      have sS : Same H4 H' := fun b' o' h => sX b' o' (fun e => by rw [e, nx] at h; cases h) (s5 _ _ h)
      exact q en2 H' o3 (s4.trans sS) (s4.free nx) ⟨dx3, hA, hB, n3, zs3, hx, sqT_of (sS _ _ eA4), sqT_of (sS _ _ eB4), hn, srt_uniq hperm hsort⟩
end
end Sc
namespace Sc
open PySem
/-! ### cases by their numbers -/
def caseOf : List Str → Nat → List Str
  | [], _ => []
  | x :: r, n => (if n % 2 = 1 then [x] else []) ++ caseOf r (n / 2)
def bitN (n k : Nat) : Bool := decide (n / 2 ^ k % 2 = 1)
theorem bitN_succ {n k : Nat} : bitN n (k + 1) = bitN (n / 2) k := by
  unfold bitN
  rw [Nat.pow_succ, Nat.mul_comm, ← Nat.div_div_eq_div_mul]
theorem caseOf_more : ∀ (fs : List Str) (n i : Nat) (x : Str), fs[i]? = some x → caseOf (fs.take (i + 1)) n = caseOf (fs.take i) n ++ (if bitN n i = true then [x] else [])
  | y :: r, n, 0, x, h => by
    have h : y = x := Option.some.inj h
    subst h
    show (if n % 2 = 1 then [y] else []) ++ caseOf [] (n / 2) = [] ++ _
    unfold bitN caseOf
    rw [Nat.pow_zero, Nat.div_one, List.append_nil, List.nil_append]
    by_cases c : n % 2 = 1
    · rw [if_pos c, if_pos (decide_eq_true c)]
    · rw [if_neg c, if_neg (by rw [decide_eq_false c]; exact Bool.false_ne_true)]
  | y :: r, n, i + 1, x, h => by
    have h : r[i]? = some x := h
    show (if n % 2 = 1 then [y] else []) ++ caseOf (r.take (i + 1)) (n / 2) = ((if n % 2 = 1 then [y] else []) ++ caseOf (r.take i) (n / 2)) ++ _
    rw [caseOf_more r (n / 2) i x h, List.append_assoc, bitN_succ]
theorem caseOf_sub : ∀ (fs : List Str) (n : Nat), List.Sublist (caseOf fs n) fs
  | [], _ => .slnil
  | x :: r, n => by
    unfold caseOf
    by_cases c : n % 2 = 1
    · rw [if_pos c]
      exact (caseOf_sub r _).cons₂ x
    · rw [if_neg c]
      exact (caseOf_sub r _).cons x
/-- each choice of the facts is a case -/
theorem caseOf_all (p : Str → Bool) : ∀ fs : List Str, ∃ n, n < 2 ^ fs.length ∧ caseOf fs n = fs.filter p
  | [] => ⟨0, by decide, rfl⟩
  | x :: r => by
    obtain ⟨n, h1, h2⟩ := caseOf_all p r
    cases c : p x with
    | true =>
      refine ⟨2 * n + 1, by rw [List.length_cons, Nat.pow_succ]; omega, ?_⟩
      unfold caseOf
      rw [if_pos (by omega), show (2 * n + 1) / 2 = n by omega, h2, List.filter_cons, if_pos c]
      rfl
    | false =>
      refine ⟨2 * n, by rw [List.length_cons, Nat.pow_succ]; omega, ?_⟩
      unfold caseOf
      rw [if_neg (by omega), show (2 * n) / 2 = n by omega, h2, List.filter_cons, if_neg (by rw [c]; exact Bool.false_ne_true)]
      rfl
end Sc
namespace Sc
open PySem PySem.Spec PyProof.Rows L2
abbrev s__law_parts : Stmt := topS 35
theorem sc__law_parts : FnScope ["_law_h", "_law_facts_here", "_law_most", "_law_wanted", "_law_barred", "_law_fact", "_law_kind"] ["_law_h", "_law_facts_here", "_law_most"] (defScope s__law_parts) := ⟨rfl, rfl, rfl, by decide +kernel, rfl, by decide +kernel, by decide +kernel⟩
abbrev s__law_meets : Stmt := topS 36
theorem sc__law_meets : FnScope ["_law_row", "_law_case_here", "_law_missing", "_law_name"] ["_law_row", "_law_case_here"] (defScope s__law_meets) := ⟨rfl, rfl, rfl, by decide +kernel, rfl, by decide +kernel, by decide +kernel⟩
abbrev s__law_case : Stmt := topS 39
theorem sc__law_case : FnScope ["_law_facts_here", "_law_number", "_law_k"] ["_law_facts_here", "_law_number"] (defScope s__law_case) := ⟨rfl, rfl, rfl, by decide +kernel, rfl, by decide +kernel, by decide +kernel⟩
abbrev s__law_every : Stmt := topS 40
theorem sc__law_every : FnScope ["_law_facts_here", "_law_number"] ["_law_facts_here"] (defScope s__law_every) := ⟨rfl, rfl, rfl, by decide +kernel, rfl, by decide +kernel, by decide +kernel⟩
section
variable {P : Program} {w : World} {K : PySem.W.Frag} {mg : Str → Option Value} {base : Heap} {a l : Addr} {H H' H'' : Hp}
/-- the two parts of a drawn condition -/
structure Parts (fs ws bs : List Str) (m : Int) : Prop where
  s1 : List.Sublist ws fs
  s2 : List.Sublist bs fs
  dj : ∀ x ∈ ws, ¬ x ∈ bs
  le : ((ws.length + bs.length : Nat) : Int) ≤ m
  l8 : ws.length + bs.length ≤ 8
theorem Parts.skip {fs ws bs : List Str} {m : Int} {i : Nat} (p : Parts (fs.take i) ws bs m) : Parts (fs.take (i + 1)) ws bs m :=
  have s : List.Sublist (fs.take i) (fs.take (i + 1)) := by rw [List.take_add_one]; exact List.sublist_append_left _ _
  ⟨p.s1.trans s, p.s2.trans s, p.dj, p.le, p.l8⟩
theorem nin_take {fs : List Str} {i : Nat} (hi : i < fs.length) (nd : fs.Nodup) : ¬ fs[i] ∈ fs.take i := fun h => by
  have e : fs.take (i + 1) = fs.take i ++ [fs[i]] := take_more (List.getElem?_eq_getElem hi)
  have nd2 : (fs.take (i + 1)).Nodup := (List.take_sublist _ _).nodup nd
  rw [e, List.nodup_append] at nd2
  exact nd2.2.2 _ h _ List.mem_cons_self rfl
theorem Parts.left {fs ws bs : List Str} {m : Int} {i : Nat} (p : Parts (fs.take i) ws bs m) (hi : i < fs.length) (nd : fs.Nodup) (h1 : ((ws.length + bs.length : Nat) : Int) < m) (h2 : ws.length + bs.length < 8) : Parts (fs.take (i + 1)) (ws ++ [fs[i]]) bs m := by
  have e : fs.take (i + 1) = fs.take i ++ [fs[i]] := take_more (List.getElem?_eq_getElem hi)
  refine ⟨by rw [e]; exact p.s1.append (List.Sublist.refl _), p.skip.s2, fun x hx hb => ?_, by rw [List.length_append, List.length_singleton]; omega, by rw [List.length_append, List.length_singleton]; omega⟩
  rcases List.mem_append.mp hx with h | h
  · exact p.dj x h hb
  · rw [List.mem_singleton.mp h] at hb
    exact nin_take hi nd (p.s2.subset hb)
theorem Parts.right {fs ws bs : List Str} {m : Int} {i : Nat} (p : Parts (fs.take i) ws bs m) (hi : i < fs.length) (nd : fs.Nodup) (h1 : ((ws.length + bs.length : Nat) : Int) < m) (h2 : ws.length + bs.length < 8) : Parts (fs.take (i + 1)) ws (bs ++ [fs[i]]) m := by
  have e : fs.take (i + 1) = fs.take i ++ [fs[i]] := take_more (List.getElem?_eq_getElem hi)
  refine ⟨p.skip.s1, by rw [e]; exact p.s2.append (List.Sublist.refl _), fun x hx hb => ?_, by rw [List.length_append, List.length_singleton]; omega, by rw [List.length_append, List.length_singleton]; omega⟩
  rcases List.mem_append.mp hb with h | h
  · exact p.dj x hx h
  · rw [List.mem_singleton.mp h] at hx
    exact nin_take hi nd (p.s1.subset hx)
def sp_parts (K : PySem.W.Frag) : Sp := fun vs H Q _ => ∃ (a l fp : Addr) (fs : List Str) (m : Int), vs = [.ref a, .ref fp, .int m] ∧ RS H a l ∧ SqT K H fp (fs.map V.str) ∧ fs.length ≤ 100 ∧ fs.Nodup ∧ 0 ≤ m ∧ m ≤ 1000 ∧
  ∀ H' p pw pb ws bs, Kp a l H H' → H p = none → H pw = none → H pb = none → H' p = some (.tup [.ref pw, .ref pb]) → H' pw = some (.tup (ws.map V.str)) → H' pb = some (.tup (bs.map V.str)) → Parts fs ws bs m → Q (.ref p) H'
theorem ok_parts {f : Addr} {fd : FuncData} (F : Fun K "_law_parts" "_law_parts" s__law_parts f fd) (B : Blt mg) (c__law_next : Cal P w K mg base CX0 1 "_law_next" ["_law_h", "_law_limit"] sp_next) : FnOk P w K mg base CX0 2 f fd ["_law_h", "_law_facts_here", "_law_most"] (sp_parts K) := by
  refine F.ok sc__law_parts (fun vs H Q E h => by obtain ⟨a, l, fp, fs, m, rfl, _⟩ := h; rfl) (fun cdv A outer s H vs Q E hr h => ?_)
  obtain ⟨a, l, fp, fs, m, rfl, R, hS, hl, nd, m0, m1, q⟩ := h
  refine ⟨_, (pss_cons (ps_par (i := 3) (j := 4) rfl sc__law_parts.nd rfl rfl (by decide) rfl rfl (pa_cons (pe_lst pa_nil) (pa_cons (pe_lst pa_nil) pa_nil)) rfl)
      (pss_cons (ps_for PassesOwn.never rfl (pi_tup (pv 1)) (pg_name (i := 5) sc__law_parts.nd rfl (Or.inl rfl)) (pss_cons (ps_set (i := 6) sc__law_parts.nd rfl (Or.inl rfl) (pe_cal c__law_next (hr.mono (by decide)) (pa_cons (pv 0) (pa_cons (pe_op op_add pe_int (pe_op op_fdiv (pe_op op_mul pe_int (pe_callB call_len_seq (by rfl) B.b_len PySem.boot_len (pa_cons (pv 1) pa_nil))) (pe_callB (call_max2 rfl) (by rfl) B.b_max PyProof.Rows.boot_max (pa_cons pe_int (pa_cons (pv 2) pa_nil))))) pa_nil))))
      (pss_one (ps_if (PW.pt (pw_and (pt_cmpR op_lt (pv 6) pe_int (nomark _)) (pw_and1 (pt_cmpR op_lt (pe_op op_add (pe_callB call_len_seq (by rfl) B.b_len PySem.boot_len (pa_cons (pv 3) pa_nil)) (pe_callB call_len_seq (by rfl) B.b_len PySem.boot_len (pa_cons (pv 4) pa_nil))) (pe_callB (call_min2 rfl) (by rfl) B.b_min (by decide +kernel) (pa_cons pe_int (pa_cons (pv 2) pa_nil))) (nomark _))))) (pss_one (ps_expr (pe_bm PySem.F.plainAttrs_list PySem.F.slot_list_append PySem.F.type_list_append mt_append (pe_ix ix_list (pe_lst (pa_cons (pv 3) (pa_cons (pv 4) pa_nil))) (pv 6) (fun _ _ => rfl)) (pa_cons (pv 5) pa_nil)))) pss_nil))))
      (pss_one (ps_ret (pe_tup (pa_cons (pe_callTy call_tuple_of (by rfl) B.b_tuple PyProof.Rows.boot_tuple (pa_cons (pv 3) pa_nil)) (pa_cons (pe_callTy call_tuple_of (by rfl) B.b_tuple PyProof.Rows.boot_tuple (pa_cons (pv 4) pa_nil)) pa_nil))))))), ?_⟩
  refine ⟨(by show 0 ≤ sizeLine; exact Nat.zero_le _), fun lw nw => ⟨(by show 0 ≤ sizeLine; exact Nat.zero_le _), fun lb nb => ⟨_, _, rfl, ?_⟩⟩⟩
  obtain ⟨w1, w2⟩ := R.no nw
  have nb' : H lb = none := by
    cases e : H lb with
    | none => rfl
    | some o => rw [upd_ne (ne_of_none e nw)] at nb; rw [e] at nb; cases nb
  obtain ⟨b1, b2⟩ := R.no nb'
  have wb : lw ≠ lb := fun z => by rw [← z, upd_same] at nb; cases nb
  have s0 : Same H (upd (upd H lw (.lst [])) lb (.lst [])) := ((Same.refl H).put nw).put nb'
  have ew0 : (upd (upd H lw (.lst [])) lb (.lst [])) lw = some (.lst []) := by rw [upd_ne wb, upd_same]
  have eb0 : (upd (upd H lw (.lst [])) lb (.lst [])) lb = some (.lst []) := upd_same
  generalize upd (upd H lw (.lst [])) lb (.lst []) = H0 at s0 ew0 eb0 ⊢
  refine ⟨.ref fp, rfl, fp, rfl, ⟨_, s0.tup hS⟩, for_it walk_tup (fun i σ H' => ∃ (ws bs : List Str) (y5 y6 : Option V), σ = [some (.ref a), some (.ref fp), some (.int m), some (.ref lw), some (.ref lb), y5, y6] ∧ Kp a l H H' ∧ H' lw = some (.lst (ws.map V.str)) ∧ H' lb = some (.lst (bs.map V.str)) ∧ Parts (fs.take i) ws bs m)
    ⟨[], [], _, _, rfl, Kp.of R s0, ew0, eb0, ⟨List.nil_sublist _, List.nil_sublist _, fun x hx => (nomatch hx), by simpa using m0, by decide⟩⟩ (fun i σ H' _ ⟨_, _, _, _, _, k, _⟩ => k.tup hS) ?_ ?_⟩
  · rintro i y σ H2 H3 hi ⟨ws, bs, y5, y6, rfl, k, ew, eb, pt⟩ ⟨rfl, hy⟩
    rw [List.length_map] at hi
    have hx : fs[i]? = some fs[i] := List.getElem?_eq_getElem hi
    obtain rfl : V.str fs[i] = y := strAt_inj hx hy
    have hmx : 1 ≤ (if m > 1 then m else 1) ∧ (if m > 1 then m else 1) ≤ 1000 := by split <;> omega
    refine ⟨.ref a, rfl, .ref fp, rfl, fp, _, rfl, .inr (k.tup hS), 2, _, rfl, rfl, .inl ⟨by decide, by decide⟩, .int m, rfl, 1, m, rfl, _, _, rfl, rfl, ⟨by omega, by omega⟩, _, _, rfl, rfl, ?_⟩
    have hq0 : 0 ≤ (2 * ((fs.map V.str).length : Int)) / (if m > 1 then m else 1) := Int.ediv_nonneg (by omega) (by omega)
    have hq1 : (2 * ((fs.map V.str).length : Int)) / (if m > 1 then m else 1) ≤ 200 := by
      rw [List.length_map]
      exact Int.le_trans (Int.ediv_le_self _ (by omega)) (by omega)
    refine ⟨a, l, _, rfl, k.new, by omega, small_lim (by omega) (by omega), fun H4 r k4 r0 r1 => ?_⟩
    have kk := k.trans k4
    have ew4 : H4 lw = some (.lst (ws.map V.str)) := k4.keep _ _ w1 w2 ew
    have eb4 : H4 lb = some (.lst (bs.map V.str)) := k4.keep _ _ b1 b2 eb
    refine ⟨_, rfl, r, 2, rfl, rfl, _, rfl, bcase (fun c1 => ?_) (fun c1 => ?_)⟩
    · have c1 : r < 2 := of_decide_eq_true c1
      refine ⟨.ref lw, rfl, lw, _, rfl, .inl (sqL_of ew4), .ref lb, rfl, lb, _, rfl, .inl (sqL_of eb4), _, _, rfl, rfl, .int m, rfl, 8, m, rfl, _, _, rfl, rfl, _, rfl, bcase (fun c2 => ?_) (fun c2 => ?_)⟩
      · have c2 := of_decide_eq_true c2
        rw [List.length_map, List.length_map] at c2
        have h1 : ((ws.length + bs.length : Nat) : Int) < m := by split at c2 <;> omega
        have h2 : ws.length + bs.length < 8 := by split at c2 <;> omega
        obtain ⟨j, rfl⟩ := Int.eq_ofNat_of_zero_le r0
        refine ⟨.ref lw, rfl, .ref lb, rfl, (by show 2 ≤ sizeLine; decide), fun lp nlp => ?_⟩
        have s5 := (Same.refl H4).put (o := .lst [.ref lw, .ref lb]) nlp
        have e5 : (upd H4 lp (.lst [.ref lw, .ref lb])) lp = some (.lst [.ref lw, .ref lb]) := upd_same
        generalize upd H4 lp (.lst [.ref lw, .ref lb]) = H5 at s5 e5 ⊢
        have k5 := kk.same s5
        have ew5 := s5 _ _ ew4
        have eb5 := s5 _ _ eb4
        have hj : j < 2 := by omega
        match j, hj with
        | 0, _ =>
          refine ⟨.int (0 : Nat), rfl, lp, _, _, .ref lw, rfl, rfl, sqL_of e5, atI_nat (j := 0) rfl, .inl ⟨rfl, _, sqL_of ew5⟩, _, rfl, lw, _, _, rfl, rfl, ew5, by rw [List.length_map, sizeLine_eq]; omega, ?_⟩
          exact ⟨ws ++ [fs[i]], bs, _, _, rfl, k5.put0 nw, by rw [upd_same, List.map_append]; rfl, by rw [upd_ne wb.symm]; exact eb5, pt.left hi nd h1 h2⟩
        | 1, _ =>
          refine ⟨.int (1 : Nat), rfl, lp, _, _, .ref lb, rfl, rfl, sqL_of e5, atI_nat (j := 1) rfl, .inl ⟨rfl, _, sqL_of eb5⟩, _, rfl, lb, _, _, rfl, rfl, eb5, by rw [List.length_map, sizeLine_eq]; omega, ?_⟩
          exact ⟨ws, bs ++ [fs[i]], _, _, rfl, k5.put0 nb', by rw [upd_ne wb]; exact ew5, by rw [upd_same, List.map_append]; rfl, pt.right hi nd h1 h2⟩
      · exact ⟨ws, bs, _, _, rfl, kk, ew4, eb4, pt.skip⟩
    · exact iteF ⟨ws, bs, _, _, rfl, kk, ew4, eb4, pt.skip⟩
  · rintro σ H2 ⟨ws, bs, y5, y6, rfl, k, ew, eb, pt⟩
    rw [List.length_map, List.take_length] at pt
    refine ⟨.ref lw, rfl, lw, _, rfl, .inl ⟨sqL_of ew, fun tw ntw => ?_⟩⟩
    have s3 := (Same.refl H2).put (o := .tup (ws.map V.str)) ntw
    have etw : (upd H2 tw (.tup (ws.map V.str))) tw = some (.tup (ws.map V.str)) := upd_same
    generalize upd H2 tw (.tup (ws.map V.str)) = H3 at s3 etw ⊢
    refine ⟨.ref lb, rfl, lb, _, rfl, .inl ⟨sqL_of (s3 _ _ eb), fun tb ntb => ?_⟩⟩
    have s4 := s3.put' (o := .tup (bs.map V.str)) ntb
    have etw4 := ((Same.refl H3).put (o := .tup (bs.map V.str)) ntb) _ _ etw
    have etb : (upd H3 tb (.tup (bs.map V.str))) tb = some (.tup (bs.map V.str)) := upd_same
    have ntb' := s3.free ntb
    generalize upd H3 tb (.tup (bs.map V.str)) = H4 at s4 etw4 etb ⊢
    refine ⟨(by show 2 ≤ sizeLine; decide), fun p np => ?_⟩
    have s5 := (Same.refl H4).put (o := .tup [.ref tw, .ref tb]) np
    exact q _ p tw tb ws bs (k.same (s4.trans s5)) (k.free (s4.free np)) (k.free ntw) (k.free ntb') upd_same (s5 _ _ etw4) (s5 _ _ etb) pt
/-! ### _law_meets -/
theorem allf_out {xs cs : List Str} : decide (xs.filter (fun x => !decide (x ∈ cs)) = []) = xs.all fun x => decide (x ∈ cs) := by
  cases h : xs.all fun x => decide (x ∈ cs) with
  | true =>
    refine decide_eq_true (List.filter_eq_nil_iff.mpr fun x hx z => ?_)
    rw [List.all_eq_true.mp h x hx] at z
    cases z
  | false =>
    refine decide_eq_false fun z => ?_
    obtain ⟨x, hx, hn⟩ := List.all_eq_false.mp h
    have := List.filter_eq_nil_iff.mp z x hx
    cases e : decide (x ∈ cs) with
    | true => exact hn e
    | false => rw [e] at this; exact this rfl
theorem anyf_out {xs cs : List Str} : decide (xs.filter (fun x => decide (x ∈ cs)) = []) = !xs.any fun x => decide (x ∈ cs) := by
  cases h : xs.any fun x => decide (x ∈ cs) with
  | true =>
    refine decide_eq_false fun z => ?_
    obtain ⟨x, hx, hn⟩ := List.any_eq_true.mp h
    exact List.filter_eq_nil_iff.mp z x hx hn
  | false => exact decide_eq_true (List.filter_eq_nil_iff.mpr fun x hx z => List.any_eq_false.mp h x hx z)
theorem Fines.sub {xs ys : List Str} (h : Fines ys) (s : List.Sublist xs ys) : Fines xs := fun x hx => h x (s.subset hx)
def sp_meets (K : PySem.W.Frag) : Sp := fun vs H Q _ => ∃ (r w b c : Addr) (v : V) (rest : List V) (ws bs cs : List Str), vs = [.ref r, .ref c] ∧ SqT K H r (v :: .ref w :: .ref b :: rest) ∧ SqT K H w (ws.map V.str) ∧ SqT K H b (bs.map V.str) ∧ SqT K H c (cs.map V.str) ∧ Fines ws ∧ Fines bs ∧ ws.length ≤ 1000 ∧ bs.length ≤ 1000 ∧
  ∀ H', Same H H' → Q (.bl (meets ws bs cs)) H'
theorem ok_meets {f : Addr} {fd : FuncData} (F : Fun K "_law_meets" "_law_meets" s__law_meets f fd) (B : Blt mg) : FnOk P w K mg base CX0 1 f fd ["_law_row", "_law_case_here"] (sp_meets K) := by
  refine F.ok sc__law_meets (fun vs H Q E h => by obtain ⟨r, w, b, c, v, rest, ws, bs, cs, rfl, _⟩ := h; rfl) (fun cdv A outer s H vs Q E hr h => ?_)
  obtain ⟨r, w, b, c, v, rest, ws, bs, cs, rfl, hR, hW, hB, hC, f1, f2, l1, l2, q⟩ := h
  refine ⟨_, (pss_cons (ps_setLc (i := 2) (own := [("_law_name", 3)]) (g := gName 3) rfl sc__law_meets.nd rfl rfl (sw_true rfl rfl rfl (by decide +kernel)) (pi_tup (pe_ix ix_tup (pv 0) pe_int (fun _ _ => rfl))) (blkOk_by (own := [("_law_name", 3)]) (N := ["_law_row", "_law_case_here", "_law_missing", "_law_name"]) (sc := defScope s__law_meets) (by decide +kernel)) (fun _ _ _ _ _ => (pg_name (i := 3) sc__law_meets.nd rfl (Or.inl rfl))) (fun _ _ _ _ _ => (pts_.re (pts_one (pt_cmpR op_notIn_seq (pv 3) (pv 1) rfl)) (by first | (dsimp only [Cx.blk]; done) | exact rfl))) (fun _ _ _ _ _ => (pe_.re (pv 3) (by first | (dsimp only [Cx.blk]; done) | exact rfl))))
      (pss_one (ps_ret (pe_and (pe_cmpR (op_eqD hr.units) (pv 2) (pe_lst pa_nil) (nomark _)) (pe_one (pe_cmpR (op_eqD hr.units) (pe_lc (own := [("_law_name", 3)]) (g := gName 3) rfl sc__law_meets.nd (pi_tup (pe_ix ix_tup (pv 0) pe_int (fun _ _ => rfl))) (blkOk_by (own := [("_law_name", 3)]) (N := ["_law_row", "_law_case_here", "_law_missing", "_law_name"]) (sc := defScope s__law_meets) (by decide +kernel)) (fun _ _ _ _ _ => (pg_name (i := 3) sc__law_meets.nd rfl (Or.inl rfl))) (fun _ _ _ _ _ => (pts_.re (pts_one (pt_cmpR op_in_seq (pv 3) (pv 1) rfl)) (by first | (dsimp only [Cx.blk]; done) | exact rfl))) (fun _ _ _ _ _ => (pe_.re (pv 3) (by first | (dsimp only [Cx.blk]; done) | exact rfl)))) (pe_lst pa_nil) (nomark _))))))), ?_⟩
  refine ⟨.ref r, rfl, r, _, 1, .ref w, rfl, rfl, hR, atI_nat (j := 1) rfl, w, rfl, ⟨_, hW⟩, fun D nD => lc_it walk_tup (fun i H' => Same H H' ∧ H' D = some (.lst (((ws.take i).filter fun x => !decide (x ∈ cs)).map V.str))) ⟨(Same.refl H).put nD, upd_same⟩ (fun _ _ _ h => h.1.tup hW) ?_ ?_⟩
  · rintro i y H2 H3 hi ⟨s, e⟩ ⟨rfl, hy⟩
    rw [List.length_map] at hi
    have hx : ws[i]? = some ws[i] := List.getElem?_eq_getElem hi
    obtain rfl : V.str ws[i] = y := strAt_inj hx hy
    refine ⟨rfl, .str ws[i], rfl, .ref c, rfl, c, _, rfl, .inr (s.tup hC), rfl, flat_strs cs, _, rfl, bcase (fun c1 => ?_) (fun c1 => ?_)⟩
    · have c1 : (!decide (ws[i] ∈ cs)) = true := by rw [← inV_str]; exact c1
      refine ⟨_, rfl, grow (acc := fun i => ((ws.take i).filter fun x => !decide (x ∈ cs)).map V.str) nD s e ?_ ?_⟩
      · rw [List.length_map]
        refine small1000 (Nat.le_trans (List.length_filter_le _ _) ?_)
        rw [List.length_take]
        omega
      · show List.map V.str _ = _
        rw [take_more hx, List.filter_append, List.map_append, filter1, if_pos c1]
        rfl
    · have c1 : (!decide (ws[i] ∈ cs)) = false := by rw [← inV_str]; exact c1
      refine ⟨s, ?_⟩
      rw [take_more hx, List.filter_append, filter1, if_neg (by rw [c1]; exact Bool.false_ne_true), List.append_nil]
      exact e
  · rintro H2 ⟨s, e⟩
    rw [List.length_map, List.take_length] at e
    refine ⟨_, rfl, Nat.zero_le _, fun p np => ⟨.list ((ws.filter fun x => !decide (x ∈ cs)).map PyData.str), .list [], .lst (sqL_of (by rw [upd_ne (ne_of_none e np)]; exact e)) (dps K _ _), .lst sqL_new .nil, shL (f1.sub List.filter_sublist), rfl, _, rfl, ?_⟩⟩
    have e1 : (PyData.list ((ws.filter fun x => !decide (x ∈ cs)).map PyData.str)).eqv (.list []) = ws.all fun x => decide (x ∈ cs) := (eqvA_nil _).trans allf_out
    rw [e1]
    have s1 := s.put' (o := .lst []) np
    generalize upd H2 p (.lst []) = H3 at s1 ⊢
    refine bcase (fun c1 => ?_) (fun c1 => ?_)
    · refine ⟨.ref r, rfl, r, _, 2, .ref b, rfl, rfl, s1.tup hR, atI_nat (j := 2) rfl, b, rfl, ⟨_, s1.tup hB⟩, fun D2 nD2 => lc_it walk_tup (fun i H' => Same H3 H' ∧ H' D2 = some (.lst (((bs.take i).filter fun x => decide (x ∈ cs)).map V.str))) ⟨(Same.refl H3).put nD2, upd_same⟩ (fun _ _ _ h => (s1.trans h.1).tup hB) ?_ ?_⟩
      · rintro i y H4 H5 hi ⟨s2, e2⟩ ⟨rfl, hy⟩
        rw [List.length_map] at hi
        have hx : bs[i]? = some bs[i] := List.getElem?_eq_getElem hi
        obtain rfl : V.str bs[i] = y := strAt_inj hx hy
        refine ⟨rfl, .str bs[i], rfl, .ref c, rfl, c, _, rfl, .inr ((s1.trans s2).tup hC), rfl, flat_strs cs, _, rfl, bcase (fun c1 => ?_) (fun c1 => ?_)⟩
        · have c1 : decide (bs[i] ∈ cs) = true := by rw [← inV_str]; exact c1
          refine ⟨_, rfl, grow (acc := fun i => ((bs.take i).filter fun x => decide (x ∈ cs)).map V.str) nD2 s2 e2 ?_ ?_⟩
          · rw [List.length_map]
            refine small1000 (Nat.le_trans (List.length_filter_le _ _) ?_)
            rw [List.length_take]
            omega
          · show List.map V.str _ = _
            rw [take_more hx, List.filter_append, List.map_append, filter1, if_pos c1]
            rfl
        · have c1 : decide (bs[i] ∈ cs) = false := by rw [← inV_str]; exact c1
          refine ⟨s2, ?_⟩
          rw [take_more hx, List.filter_append, filter1, if_neg (by rw [c1]; exact Bool.false_ne_true), List.append_nil]
          exact e2
      · rintro H4 ⟨s2, e2⟩
        rw [List.length_map, List.take_length] at e2
        refine ⟨Nat.zero_le _, fun p2 np2 => ⟨.list ((bs.filter fun x => decide (x ∈ cs)).map PyData.str), .list [], .lst (sqL_of (by rw [upd_ne (ne_of_none e2 np2)]; exact e2)) (dps K _ _), .lst sqL_new .nil, shL (f2.sub List.filter_sublist), rfl, ?_⟩⟩
        have e3 : (PyData.list ((bs.filter fun x => decide (x ∈ cs)).map PyData.str)).eqv (.list []) = !bs.any fun x => decide (x ∈ cs) := (eqvA_nil _).trans anyf_out
        rw [e3]
        have em : meets ws bs cs = !bs.any fun x => decide (x ∈ cs) := by
          unfold meets
          rw [c1, Bool.true_and]
        rw [← em]
        exact q _ ((s1.trans s2).put' np2)
    · have em : meets ws bs cs = false := by
        unfold meets
        rw [c1, Bool.false_and]
      rw [← em]
      exact q _ s1
/-! ### _law_case, _law_every -/
theorem bit_eq (n i : Nat) : decide (V.int ((n : Int) / 2 ^ (i : Int).toNat % 2) = V.int 1) = bitN n i := by
  unfold bitN
  have e : (n : Int) / 2 ^ (i : Int).toNat % 2 = ((n / 2 ^ i % 2 : Nat) : Int) := by
    rw [Int.toNat_natCast]
    push_cast
    rfl
  rw [e]
  by_cases c : n / 2 ^ i % 2 = 1
  · rw [decide_eq_true c, c]
    rfl
  · rw [decide_eq_false c]
    exact decide_eq_false fun z => c (by have := V.int.inj z; omega)
def sp_case (K : PySem.W.Frag) : Sp := fun vs H Q _ => ∃ (fp : Addr) (fs : List Str) (n : Nat), vs = [.ref fp, .int n] ∧ SqT K H fp (fs.map V.str) ∧ fs.length ≤ 100 ∧ ∀ H' p, Same H H' → H p = none → H' p = some (.tup ((caseOf fs n).map V.str)) → Q (.ref p) H'
theorem ok_case {f : Addr} {fd : FuncData} (F : Fun K "_law_case" "_law_case" s__law_case f fd) (B : Blt mg) : FnOk P w K mg base CX0 1 f fd ["_law_facts_here", "_law_number"] (sp_case K) := by
  refine F.ok sc__law_case (fun vs H Q E h => by obtain ⟨fp, fs, n, rfl, _⟩ := h; rfl) (fun cdv A outer s H vs Q E hr h => ?_)
  obtain ⟨fp, fs, n, rfl, hS, hl, q⟩ := h
  refine ⟨_, (pss_one (ps_ret (pe_callTy call_tuple_of (by rfl) B.b_tuple PyProof.Rows.boot_tuple (pa_cons (pe_lc (own := [("_law_k", 2)]) (g := gName 2) rfl sc__law_case.nd (pi_range1 (by rfl) B.b_range (pa_cons (pe_callB call_len_seq (by rfl) B.b_len PySem.boot_len (pa_cons (pv 0) pa_nil)) pa_nil)) (blkOk_by (own := [("_law_k", 2)]) (N := ["_law_facts_here", "_law_number", "_law_k"]) (sc := defScope s__law_case) (by decide +kernel)) (fun _ _ _ _ _ => (pg_name (i := 2) sc__law_case.nd rfl (Or.inl rfl))) (fun _ _ _ _ _ => (pts_.re (pts_one (pt_cmpR op_eq (pe_op op_mod (pe_callTy call_int1 (by rfl) B.b_int PyProof.Rows.boot_int (pa_cons (pe_op op_shr (pv 1) (pv 2)) pa_nil)) pe_int) pe_int (nomark _))) (by first | (dsimp only [Cx.blk]; done) | exact rfl))) (fun _ _ _ _ _ => (pe_.re (pe_ix ix_tup (pv 0) (pv 2) (fun _ _ => rfl)) (by first | (dsimp only [Cx.blk]; done) | exact rfl)))) pa_nil)))), ?_⟩
  refine ⟨.ref fp, rfl, fp, _, rfl, .inr hS, _, rfl, by rw [List.length_map]; omega, by rw [List.length_map]; omega, fun D nD => lc_it walk_range (fun i H' => Same H H' ∧ H' D = some (.lst ((caseOf (fs.take i) n).map V.str))) ⟨(Same.refl H).put nD, upd_same⟩ (fun _ _ _ _ => trivial) ?_ ?_⟩
  · rintro i y H2 H3 hi ⟨s, e⟩ ⟨rfl, hy⟩
    have hy : y = V.int (i : Nat) := by
      rw [hy]
      show V.int (0 + (i : Nat)) = _
      rw [Int.zero_add]
    subst hy
    have hi : i < fs.length := by simpa using hi
    have hx : fs[i]? = some fs[i] := List.getElem?_eq_getElem hi
    refine ⟨rfl, .int n, rfl, .int (i : Nat), rfl, n, i, rfl, rfl, by omega, .inl ⟨_, rfl, _, 2, rfl, rfl, (show (0 : Int) < 2 by decide), rfl, _, rfl, ?_⟩⟩
    rw [bit_eq]
    refine bcase (fun c1 => ?_) (fun c1 => ?_)
    · refine ⟨.ref fp, rfl, .int (i : Nat), rfl, fp, _, _, _, rfl, rfl, s.tup hS, atI_nat (strG hi), grow (acc := fun i => (caseOf (fs.take i) n).map V.str) nD s e ?_ ?_⟩
      · rw [List.length_map]
        refine small1000 (Nat.le_trans (caseOf_sub _ _).length_le ?_)
        rw [List.length_take]
        omega
      · show List.map V.str _ = _
        rw [caseOf_more fs n i _ hx, if_pos c1, List.map_append]
        rfl
    · refine ⟨s, ?_⟩
      rw [caseOf_more fs n i _ hx, if_neg (by rw [c1]; exact Bool.false_ne_true), List.append_nil]
      exact e
  · rintro H2 ⟨s, e⟩
    have el : ((fs.map V.str).length : Int).toNat = fs.length := by rw [List.length_map]; rfl
    first
      | rw [el, List.take_length] at e
      | (simp only [List.length_map, Int.toNat_natCast, List.take_length] at e)
    refine ⟨D, _, rfl, .inl ⟨sqL_of e, fun p np => q _ p (s.put' np) (s.free np) upd_same⟩⟩
/-- the cases with the numbers below n stand in a list -/
structure Cases (H : Hp) (p : Addr) (fs : List Str) (n : Nat) : Prop where
  at_ : ∃ ps : List Addr, ps.length = n ∧ H p = some (.lst (ps.map V.ref)) ∧ ∀ (k : Nat) (b : Addr), ps[k]? = some b → H b = some (.tup ((caseOf fs k).map V.str))
theorem Cases.same {p : Addr} {fs : List Str} {n : Nat} (c : Cases H p fs n) (s : Same H H') : Cases H' p fs n := by
  obtain ⟨ps, h1, h2, h3⟩ := c.at_
  exact ⟨ps, h1, s _ _ h2, fun k b e => s _ _ (h3 k b e)⟩
def sp_every (K : PySem.W.Frag) : Sp := fun vs H Q _ => ∃ (fp : Addr) (fs : List Str), vs = [.ref fp] ∧ SqT K H fp (fs.map V.str) ∧ fs.length ≤ 12 ∧ ∀ H' p, Same H H' → H p = none → Cases H' p fs (2 ^ fs.length) → Q (.ref p) H'
theorem ok_every {f : Addr} {fd : FuncData} (F : Fun K "_law_every" "_law_every" s__law_every f fd) (B : Blt mg) (c__law_case : Cal P w K mg base CX0 1 "_law_case" ["_law_facts_here", "_law_number"] (sp_case K)) : FnOk P w K mg base CX0 2 f fd ["_law_facts_here"] (sp_every K) := by
  refine F.ok sc__law_every (fun vs H Q E h => by obtain ⟨fp, fs, rfl, _⟩ := h; rfl) (fun cdv A outer s H vs Q E hr h => ?_)
  obtain ⟨fp, fs, rfl, hS, hl, q⟩ := h
  have hp : (1 : Int) * 2 ^ ((fs.map V.str).length : Int).toNat = ((2 ^ fs.length : Nat) : Int) := by
    rw [Int.one_mul, List.length_map, Int.toNat_natCast]
    push_cast
    rfl
  have hp2 : 2 ^ fs.length ≤ 4096 := (Nat.pow_le_pow_right (by decide) hl : 2 ^ fs.length ≤ 2 ^ 12)
  generalize 2 ^ fs.length = N at hp hp2 q
  refine ⟨_, (pss_one (ps_ret (pe_lc (own := [("_law_number", 1)]) (g := gName 1) (tt := tYes) rfl sc__law_every.nd (pi_range1 (by rfl) B.b_range (pa_cons (pe_op op_shl pe_int (pe_callB call_len_seq (by rfl) B.b_len PySem.boot_len (pa_cons (pv 0) pa_nil))) pa_nil)) (blkOk_by (own := [("_law_number", 1)]) (N := ["_law_facts_here", "_law_number"]) (sc := defScope s__law_every) (by decide +kernel)) (fun _ _ _ _ _ => (pg_name (i := 1) sc__law_every.nd rfl (Or.inl rfl))) (fun _ _ _ _ _ => pts_nil) (fun _ _ _ _ _ => (pe_.re (pe_cal c__law_case (hr.mono (by decide)) (pa_cons (pv 0) (pa_cons (pv 1) pa_nil))) (by first | (dsimp only [Cx.blk]; done) | exact rfl)))))), ?_⟩
  refine ⟨.ref fp, rfl, fp, _, rfl, .inr hS, 1, _, rfl, rfl, ⟨by omega, by rw [List.length_map]; omega, by decide⟩, _, rfl, by rw [hp]; omega, by rw [hp]; omega, ?_⟩
  rw [hp]
  refine fun D nD => lc_it walk_range (fun i H' => Same H H' ∧ Cases H' D fs i) ⟨(Same.refl H).put nD, ⟨[], rfl, upd_same, fun k b e => nomatch e⟩⟩ (fun _ _ _ _ => trivial) ?_ ?_
  · rintro i y H2 H3 hi ⟨s, c⟩ ⟨rfl, hy⟩
    have hy : y = V.int (i : Nat) := by
      rw [hy]
      show V.int (0 + (i : Nat)) = _
      rw [Int.zero_add]
    subst hy
    have hi : i < N := by simpa using hi
    refine ⟨rfl, yes_ ⟨.ref fp, rfl, .int (i : Nat), rfl, fp, fs, i, rfl, s.tup hS, by omega, fun H4 p s4 np ep => ?_⟩⟩
    have c4 := c.same s4
    obtain ⟨ps, h1, h2, h3⟩ := c4.at_
    have nDp : ∀ (b : Addr) (xs : List V), H4 b = some (.tup xs) → b ≠ D := fun b xs e z => by rw [z, h2] at e; cases e
    refine ⟨_, h2, by rw [List.length_map, sizeLine_eq]; omega, (s.trans s4).put nD, ps ++ [p], by rw [List.length_append, h1]; rfl, by rw [upd_same, List.map_append]; rfl, fun k b e => ?_⟩
    by_cases hk : k < ps.length
    · rw [List.getElem?_append_left hk] at e
      have h := h3 k b e
      rw [upd_ne (nDp _ _ h)]
      exact h
    · rw [List.getElem?_append_right (by omega)] at e
      have ek : k = i := by
        have := (List.getElem?_eq_some_iff.mp e).1
        rw [List.length_singleton] at this
        omega
      rw [ek, h1, Nat.sub_self] at e
      cases e
      rw [upd_ne (nDp _ _ ep), ek]
      exact ep
  · rintro H2 ⟨s, c⟩
    exact q H2 D s nD c
end
end Sc
namespace Sc
open PySem PySem.Spec PyProof.Rows L2
/-! ### rising rows of the twelve facts -/
def SLt (a b : Str) : Prop := a.cps.toList < b.cps.toList
instance (a b : Str) : Decidable (SLt a b) := inferInstanceAs (Decidable (a.cps.toList < b.cps.toList))
structure Good (xs : List Str) : Prop where
  up : xs.Pairwise SLt
  mem : ∀ x ∈ xs, x ∈ twelve
theorem twelve_up : twelve.Pairwise SLt := by decide +kernel
theorem twelve_name : ∀ x ∈ twelve, isName x = true := by decide +kernel
theorem twelve_good : Good twelve := ⟨twelve_up, fun _ h => h⟩
theorem Good.sub {xs ys : List Str} (h : Good ys) (s : List.Sublist xs ys) : Good xs := ⟨h.up.sublist s, fun x hx => h.mem x (s.subset hx)⟩
theorem Good.nodup {xs : List Str} (h : Good xs) : xs.Nodup := h.up.imp fun {a b} hl e => by subst e; exact List.lt_irrefl _ hl
theorem Good.fines {xs : List Str} (h : Good xs) (tf : Fines twelve) : Fines xs := fun x hx => tf x (h.mem x hx)
theorem Good.le {xs : List Str} (h : Good xs) : xs.Pairwise SLe := h.up.imp fun hl => List.le_of_lt hl
theorem good_nil : Good [] := ⟨.nil, fun _ h => nomatch h⟩
theorem Good.srt {xs : List Str} (h : Good xs) : srt xs = xs := sorted_uniq (srt_perm xs) (srt_sorted xs) (sorted_of h.le)
theorem lt_of {a b : Str} (h : SLe a b) (n : a ≠ b) : SLt a b := by
  by_cases c : a.cps.toList < b.cps.toList
  · exact c
  · exact absurd (str_ext (List.le_antisymm h (List.not_lt.mp c))) n
theorem srt_good {xs : List Str} (nd : xs.Nodup) (m : ∀ x ∈ xs, x ∈ twelve) : Good (srt xs) := by
  have nd2 : (Sc.srt xs).Nodup := (srt_perm xs).nodup_iff.mpr nd
  refine ⟨?_, fun x hx => m x ((srt_perm xs).mem_iff.mp hx)⟩
  exact ((sorted_pw (srt_sorted xs)).and nd2).imp fun h => lt_of h.1 h.2
theorem mem_mrg {xs ys : List Str} {x : Str} : x ∈ mrg xs ys ↔ x ∈ xs ∨ x ∈ ys := by
  unfold mrg
  rw [(srt_perm _).mem_iff, List.mem_append, List.mem_filter]
  constructor
  · rintro (h | h)
    · exact .inl h
    · exact .inr h.1
  · rintro (h | h)
    · exact .inl h
    · by_cases c : x ∈ xs
      · exact .inl c
      · exact .inr ⟨h, by rw [decide_eq_false c]; rfl⟩
theorem Good.mrg {xs ys : List Str} (h : Good xs) (k : Good ys) : Good (mrg xs ys) := by
  refine srt_good ?_ fun x hx => ?_
  · rw [List.nodup_append]
    refine ⟨h.nodup, (List.filter_sublist).nodup k.nodup, fun a ha b hb e => ?_⟩
    subst e
    have := (List.mem_filter.mp hb).2
    rw [decide_eq_true ha] at this
    cases this
  · rcases List.mem_append.mp hx with h1 | h1
    · exact h.mem x h1
    · exact k.mem x (List.mem_filter.mp h1).1
/-- a good row is told by its members -/
theorem Good.ext {xs ys : List Str} (h : Good xs) (k : Good ys) (e : ∀ x, x ∈ xs ↔ x ∈ ys) : xs = ys := by
  have p : xs.Perm ys := (List.perm_ext_iff_of_nodup h.nodup k.nodup).mpr e
  exact sorted_uniq p (sorted_of h.le) (sorted_of k.le)
theorem rises_pw {xs : List Str} (h : xs.Pairwise SLt) {i : Nat} (hi : i < xs.length) : risesAt xs i = true := by
  by_cases h0 : i = 0
  · subst h0
    rfl
  · rw [risesAt_eq hi h0 (by omega)]
    exact decide_eq_true (List.pairwise_iff_getElem.mp h (i - 1) i (by omega) hi (by omega))
theorem Good.none {xs ys : List Str} (h : Good xs) (l : ys.length + xs.length ≤ 8) (d : ∀ x ∈ xs, ¬ x ∈ ys) : firstWrong xs ys = none := by
  unfold firstWrong
  rw [List.find?_eq_none]
  intro i hi
  have hi := List.mem_range.mp hi
  unfold wrongAt
  rw [List.getElem?_eq_getElem hi]
  dsimp only
  rw [twelve_name _ (h.mem _ (List.getElem_mem hi)), rises_pw h.up hi, decide_eq_false (show ¬ 8 ≤ ys.length + i by omega), decide_eq_false (d _ (List.getElem_mem hi))]
  exact Bool.false_ne_true
/-! ### two conditions over the same cases -/
theorem meets_iff {hs fs cs : List Str} : meets hs fs cs = true ↔ (∀ x ∈ hs, x ∈ cs) ∧ ∀ x ∈ fs, ¬ x ∈ cs := by
  unfold meets
  rw [Bool.and_eq_true, List.all_eq_true, Bool.not_eq_true', List.any_eq_false]
  constructor
  · rintro ⟨h1, h2⟩
    exact ⟨fun x hx => of_decide_eq_true (h1 x hx), fun x hx hc => h2 x hx (decide_eq_true hc)⟩
  · rintro ⟨h1, h2⟩
    exact ⟨fun x hx => decide_eq_true (h1 x hx), fun x hx hc => h2 x hx (of_decide_eq_true hc)⟩
theorem meets_mrg {hs fs gs ks cs : List Str} : meets (mrg hs gs) (mrg fs ks) cs = (meets hs fs cs && meets gs ks cs) := by
  rw [Bool.eq_iff_iff, Bool.and_eq_true, meets_iff, meets_iff, meets_iff]
  constructor
  · rintro ⟨h1, h2⟩
    exact ⟨⟨fun x hx => h1 x (mem_mrg.mpr (.inl hx)), fun x hx => h2 x (mem_mrg.mpr (.inl hx))⟩, fun x hx => h1 x (mem_mrg.mpr (.inr hx)), fun x hx => h2 x (mem_mrg.mpr (.inr hx))⟩
  · rintro ⟨⟨h1, h2⟩, h3, h4⟩
    refine ⟨fun x hx => ?_, fun x hx => ?_⟩
    · rcases mem_mrg.mp hx with h | h
      · exact h1 x h
      · exact h3 x h
    · rcases mem_mrg.mp hx with h | h
      · exact h2 x h
      · exact h4 x h
/-- a case that meets the joined condition: what must hold, and no more -/
theorem met_case {fs ws bs : List Str} (s1 : ∀ x ∈ ws, x ∈ fs) (d : ∀ x ∈ ws, ¬ x ∈ bs) : meets ws bs (fs.filter fun x => decide (x ∈ ws)) = true := by
  rw [meets_iff]
  refine ⟨fun x hx => List.mem_filter.mpr ⟨s1 x hx, decide_eq_true hx⟩, fun x hx hc => ?_⟩
  exact d x (of_decide_eq_true (List.mem_filter.mp hc).2) hx
theorem both_iff {fs hs ks gs ls : List Str} (h1 : ∀ x ∈ hs, x ∈ fs) (h2 : ∀ x ∈ gs, x ∈ fs) :
    (∃ n, n < 2 ^ fs.length ∧ (meets hs ks (caseOf fs n) && meets gs ls (caseOf fs n)) = true) ↔ meetN (mrg hs gs) (mrg ks ls) = false := by
  constructor
  · rintro ⟨n, _, h⟩
    rw [← meets_mrg, meets_iff] at h
    unfold meetN
    rw [List.any_eq_false]
    intro x hx hc
    exact h.2 x (of_decide_eq_true hc) (h.1 x hx)
  · intro h
    obtain ⟨n, hn, e⟩ := caseOf_all (fun x => decide (x ∈ mrg hs gs)) fs
    refine ⟨n, hn, ?_⟩
    rw [← meets_mrg, e]
    refine met_case (fun x hx => ?_) (fun x hx hc => ?_)
    · rcases mem_mrg.mp hx with h' | h'
      · exact h1 x h'
      · exact h2 x h'
    · unfold meetN at h
      rw [List.any_eq_false] at h
      exact h x hx (decide_eq_true hc)
theorem within_iff {fs hs ks gs ls : List Str} (h1 : ∀ x ∈ hs, x ∈ fs) (h2 : ∀ x ∈ ls, x ∈ fs) (d : ∀ x ∈ hs, ¬ x ∈ ks) :
    withinC hs ks gs ls = true ↔ ∀ n, n < 2 ^ fs.length → (meets hs ks (caseOf fs n) && !meets gs ls (caseOf fs n)) = false := by
  unfold withinC
  rw [Bool.and_eq_true, List.all_eq_true, List.all_eq_true]
  constructor
  · rintro ⟨q1, q2⟩ n _
    cases c : meets hs ks (caseOf fs n) with
    | false => rfl
    | true =>
      have c := meets_iff.mp c
      have : meets gs ls (caseOf fs n) = true := meets_iff.mpr ⟨fun x hx => c.1 x (of_decide_eq_true (q1 x hx)), fun x hx => c.2 x (of_decide_eq_true (q2 x hx))⟩
      rw [this]
      rfl
  · intro q
    constructor
    · intro x hx
      obtain ⟨n, hn, e⟩ := caseOf_all (fun x => decide (x ∈ hs)) fs
      have h := q n hn
      rw [e, met_case h1 d, Bool.true_and] at h
      have h : meets gs ls (fs.filter fun x => decide (x ∈ hs)) = true := by
        cases c : meets gs ls (fs.filter fun x => decide (x ∈ hs)) with
        | true => rfl
        | false => rw [c] at h; cases h
      exact (List.mem_filter.mp ((meets_iff.mp h).1 x hx)).2
    · intro x hx
      obtain ⟨n, hn, e⟩ := caseOf_all (fun x => !decide (x ∈ ks)) fs
      have h := q n hn
      have m : meets hs ks (fs.filter fun x => !decide (x ∈ ks)) = true := by
        rw [meets_iff]
        refine ⟨fun y hy => List.mem_filter.mpr ⟨h1 y hy, by rw [decide_eq_false (d y hy)]; rfl⟩, fun y hy hc => ?_⟩
        have := (List.mem_filter.mp hc).2
        rw [decide_eq_true hy] at this
        cases this
      rw [e, m, Bool.true_and] at h
      have h : meets gs ls (fs.filter fun x => !decide (x ∈ ks)) = true := by
        cases c : meets gs ls (fs.filter fun x => !decide (x ∈ ks)) with
        | true => rfl
        | false => rw [c] at h; cases h
      refine decide_eq_true (Classical.byContradiction fun nk => ?_)
      exact (meets_iff.mp h).2 x hx (List.mem_filter.mpr ⟨h2 x hx, by rw [decide_eq_false nk]; rfl⟩)
end Sc
namespace Sc
open PySem PySem.Spec PyProof.Rows L2
/-! ### slices of tuples -/
section
variable {K : PySem.W.Frag} {H : Hp}
theorem sl_any {b : Addr} {vs : List V} {lo hi : Option Int} {Q : VK} (hS : SqT K H b vs) (q : ∀ p H', Same H H' → SqT K H' p (cutV vs lo hi) → Q (.ref p) H') : rSlA K (.ref b) lo hi H Q :=
  ⟨b, vs, rfl, hS, fun c => q b H (Same.refl H) (by
    have e : cutV vs lo hi = vs := by
      unfold cutV
      rw [c.1, c.2, List.drop_zero, Nat.sub_zero, List.take_length]
    rw [e]
    exact hS), fun _ p np => q p _ ((Same.refl H).put np) sqT_new⟩
theorem cat_any {b c : Addr} {xs ys : List V} {Q : VK} (hA : SqT K H b xs) (hB : SqT K H c ys) (hl : xs.length + ys.length ≤ sizeLine) (q : ∀ p H', Same H H' → SqT K H' p (xs ++ ys) → Q (.ref p) H') : rCatA K (.ref b) (.ref c) H Q :=
  ⟨b, c, xs, ys, rfl, rfl, hA, hB, hl, fun e => q c H (Same.refl H) (by rw [e]; exact hB), fun _ e => q b H (Same.refl H) (by rw [e, List.append_nil]; exact hA), fun _ _ p np => q p _ ((Same.refl H).put np) sqT_new⟩
theorem sIx_nat (n d k : Nat) : HT.sIx n d (some (k : Int)) = min k n := by
  unfold HT.sIx
  first
    | (simp; done)
    | (simp; omega)
    | (split <;> omega)
theorem cut_to (vs : List V) (m : Nat) : cutV vs none (some (m : Int)) = vs.take m := by
  unfold cutV
  rw [sIx_nat]
  show (vs.drop 0).take (min m vs.length - 0) = _
  rw [List.drop_zero, Nat.sub_zero]
  by_cases h : m ≤ vs.length
  · rw [Nat.min_eq_left h]
  · rw [Nat.min_eq_right (by omega), List.take_length, List.take_of_length_le (by omega)]
theorem cut_from (vs : List V) (k : Nat) : cutV vs (some (k : Int)) none = vs.drop k := by
  unfold cutV
  rw [sIx_nat]
  show (vs.drop (min k vs.length)).take (vs.length - min k vs.length) = _
  by_cases h : k ≤ vs.length
  · rw [Nat.min_eq_left h, List.take_of_length_le (by rw [List.length_drop]; exact Nat.le_refl _)]
  · rw [Nat.min_eq_right (by omega), List.drop_length, List.drop_of_length_le (by omega)]
    exact List.take_nil
theorem cut_part (vs : List V) (k m : Nat) : cutV vs (some (k : Int)) (some (m : Int)) = (vs.drop k).take (m - k) := by
  unfold cutV
  rw [sIx_nat, sIx_nat]
  by_cases h : k ≤ vs.length
  · rw [Nat.min_eq_left h]
    by_cases h2 : m ≤ vs.length
    · rw [Nat.min_eq_left h2]
    · rw [Nat.min_eq_right (by omega), List.take_of_length_le (by rw [List.length_drop]; exact Nat.le_refl _), List.take_of_length_le (by rw [List.length_drop]; omega)]
  · rw [Nat.min_eq_right (show vs.length ≤ k by omega), List.drop_length, List.drop_of_length_le (show vs.length ≤ k by omega), List.take_nil, List.take_nil]
end
end Sc
namespace Sc
open PySem
/-! ### parts of a text -/
def stAt (b : List Stmt) (i : Nat) : Stmt := b.getD i (.Pass ⟨0, 0, 0, 0⟩)
def forB : Stmt → List Stmt
  | .For _ _ b _ _ => b
  | _ => []
def whileB : Stmt → List Stmt
  | .While _ b _ _ => b
  | _ => []
def ifB : Stmt → List Stmt
  | .If _ b _ _ => b
  | _ => []
def ifE : Stmt → List Stmt
  | .If _ _ b _ => b
  | _ => []
end Sc
namespace Sc
open PySem PySem.Spec PyProof.Rows L2
/-- the class Condition as its users see it -/
structure CondX (P : Program) (w : World) (K : PySem.W.Frag) (mg : Str → Option Value) (base : Heap) (C CC CN : Addr) : Prop where
  cls : Cls K C
  isi : IsiC K C
  holding : ∃ p g fd, PropC P w K mg base C p g fd "holding" "_holding"
  failing : ∃ p g fd, PropC P w K mg base C p g fd "failing" "_failing"
  names : ∃ p g fd, PropC P w K mg base C p g fd "names" "_names"
  call : ∃ g fd, PySem.W.findIn K (.ref C) "__call__" = some (some (.ref g)) ∧ PySem.W.isFn K (.ref g) = true ∧ PySem.W.fnIn K g = true ∧ FnOk P w K mg base CX0 1 g fd ["self", "case"] (sp_ccall K C) ∧ Binds K fd ["self", "case"] []
  eq : ∃ g fd, PySem.W.findIn K (.ref C) "__eq__" = some (some (.ref g)) ∧ PySem.W.isFn K (.ref g) = true ∧ FnOk P w K mg base CX0 1 g fd ["self", "other"] (sp_ceq K C) ∧ Binds K fd ["self", "other"] []
  ne : PySem.W.findIn K (.ref C) "__ne__" = some (some (.builtin "object.__ne__"))
  and_ : PySem.W.selfFirst K C = true ∧ ∃ g fd, PySem.W.findIn K (.ref C) "__and__" = some (some (.ref g)) ∧ PySem.W.isFn K (.ref g) = true ∧ FnOk P w K mg base (L2.CX P w) 6 g fd ["self", "other"] (sp_cand K C CC CN) ∧ Binds K fd ["self", "other"] []
  within_ : ∃ g fd, Meth K C "within" g ∧ FnOk P w K mg base CX0 3 g fd ["self", "other"] (sp_within K C) ∧ Binds K fd ["self", "other"] []
section
variable {X : Cx} {C CC CN : Addr} {e o : Expr} {es : List Expr} {ta te : TE} {t : TA} {x : Str} {p pos apos : Pos} {E : XK}
theorem pe_cprop {f n : Str} (M : ∃ p g fd, PropC X.prog X.w X.K X.mg X.base C p g fd n f) (c : Cls X.K C) (hr : Room 2 X.A) (he : PE X e ta) (hab : attributeBase e n X.env (eval e X.env) = eval e X.env := by rfl) : PE X (.Attribute e n pos) (tProp C (sp_prop C f) [] E0 ta) := by
  obtain ⟨p, g, fd, h1, h2, h3⟩ := M
  exact pe_prop he c h1 h2 hr h3 .nil pass0 hab
theorem pe_cc (M : CondX X.prog X.w X.K X.mg X.base C CC CN) (hr : Room 1 X.A) (ho : PE X (.Name x p) te) (ha : PA X (e :: es) t)
    (he : starEach (e :: es) X.env = (false, eval e X.env) :: starEach es X.env := by rfl) (hpl : (backTo pos (starEach es X.env)).any (·.1) = false := by rfl) : PE X (.Call (.Name x p) (e :: es) [] pos) (tCallO C (sp_ccall X.K C) E0 te t) := by
  obtain ⟨g, fd, h1, h2, h3, F, hb⟩ := M.call
  exact pe_callO h1 h2 h3 F hr hb pass0 ho ha he hpl
theorem op_ceq (M : CondX X.prog X.w X.K X.mg X.base C CC CN) (hr : Room 1 X.A) : OpR X (compareOp .Eq) (rEqO X.K C (sp_ceq X.K C) E0) := by
  obtain ⟨g, fd, h1, h2, F, hb⟩ := M.eq
  exact op_eqO h1 h2 F hr hb pass0
theorem op_cne (M : CondX X.prog X.w X.K X.mg X.base C CC CN) (hr : Room 2 X.A) : OpR X (compareOp .NotEq) (rNeO X.K C (sp_ceq X.K C) E0) := by
  obtain ⟨g, fd, h1, h2, F, hb⟩ := M.eq
  exact op_neO M.isi.cm M.ne h1 h2 F hr hb pass0
theorem op_candN (M : CondX X.prog X.w X.K X.mg X.base C CC CN) (hr : Room 6 X.A) : OpR X (binaryOp .BitAnd) (rBinO C (sp_cand X.K C CC CN) E0) := by
  obtain ⟨h0, g, fd, h1, h2, F, hb⟩ := M.and_
  exact op_binO h0 h1 h2 F hr hb passL
theorem op_candX (M : CondX X.prog X.w X.K X.mg X.base C CC CN) (hr : Room 6 X.A) (tk : Takes X (fun cls d _ H => E cls d H)) : OpR X (binaryOp .BitAnd) (rBinO C (sp_cand X.K C CC CN) E) := by
  obtain ⟨h0, g, fd, h1, h2, F, hb⟩ := M.and_
  exact op_binO h0 h1 h2 F hr hb (fun pins σ H s e s' I h => passAt tk σ pins H s e s' I h)
theorem pe_cwithin {pl : Sem Bool} (M : CondX X.prog X.w X.K X.mg X.base C CC CN) (hr : Room 3 X.A) (he : PE X o ta) (ha : PA X (e :: es) t)
    (hst : starEach (e :: es) X.env = (false, eval e X.env) :: starEach es X.env := by rfl) (hpl : (backTo pos (starEach es X.env)).any (·.1) = false := by rfl)
    (ht : eval (.Call (.Attribute o "within" apos) (e :: es) [] pos) X.env = (do
      let ov ← eval o X.env
      standAt apos.atName
      let (f, first) ← holding [ov] (getMethod ov "within" pl)
      callWith pos f first (backTo pos (starEach (e :: es) X.env)) (backToKw pos (keywordEach [] X.env))) := by rfl) : PE X (.Call (.Attribute o "within" apos) (e :: es) [] pos) (tMeth C "within" (sp_within X.K C) [] E0 ta t) := by
  obtain ⟨g, fd, h1, F, hb⟩ := M.within_
  exact pe_meth he M.cls h1 F hr hb .nil pass0 ha hst hpl ht
end
end Sc
namespace Sc
open PySem PySem.Spec PyProof.Rows L2
section
variable {P : Program} {w : World} {K : PySem.W.Frag} {mg : Str → Option Value} {base : Heap} {a l : Addr} {H H' H'' : Hp}
/-- a def whose code is known -/
structure FunC (K : PySem.W.Frag) (x qual : Str) (st : Stmt) (f : Addr) (fd : FuncData) (c : Addr) : Prop where
  ex : ∃ (oc : Value) (od : Option Addr) (kV doc pm : Value) (an : Option Addr) (ct : Value) (osl : Array (Option Value)), fd = PySem.W.fnOf x qual (defArgs st) (defBody st) (defScope st) .none kV doc pm an (.ref c) ct ∧ K.lookup f = some ⟨oc, od, .func fd, osl⟩ ∧ PySem.W.codeIn K (.ref c) qual = true
  kp : PySem.W.keepIn K (.ref f) = true
theorem FunC.ok {x qual : Str} {st : Stmt} {f : Addr} {fd : FuncData} {c : Addr} {N ps : List Str} {k : Nat} {sp : Sp} (F : FunC K x qual st f fd c) (S : FnScope N ps (defScope st))
    (len : ∀ (vs : List V) (H : Hp) (Q : VK) (E : XK), sp vs H Q E → vs.length = ps.length)
    (hb : ∀ (A : Around) (outer : List Env) (s : Shared) (H : Hp) (vs : List V) (Q : VK) (E : XK), Room k (A.deeper (envOfC qual (defScope st) s.heap.objs.size f (.ref c))) → sp vs H Q E →
      ∃ t, PSs (cxOf CX0 P w K mg base N qual (defScope st) f (.ref c) A outer s H E).nox (defBody st) t ∧ t { nx := fun x H' => Q .non H', rt := Q } (L2.start N vs) H) : FnOk P w K mg base CX0 (k + 1) f fd ps sp := by
  obtain ⟨oc, od, kV, doc, pm, an, ct, osl, rfl, lk, hcd⟩ := F.ex
  exact fn_of lk hcd S len fun A outer s H vs Q E hr h => by
    obtain ⟨t, h1, h2⟩ := hb A outer s H vs Q E hr h
    exact ⟨t, PSs.nox h1, h2⟩
/-- _law_error(lambda: ..) -/
theorem pe_errlam {X : Cx} {c PT : Addr} {k : Nat} {g : Addr} {fd : FuncData} {cl : Nat → Addr} {CE : Addr} {params : Arguments} {body : Expr} {scope : Scope} {t : XK → TE} {p lpos pos : Pos}
    (F : Fun X.K "_law_error" "_law_error" s__law_error g fd) (hm : X.mg "_law_error" = some (.ref g)) (hb : Binds X.K fd ["_law_call"] []) (B : Blt X.mg) (G : GErr X.mg cl CE) (TB : LamX.TabB X.base X.mg c PT) (hcode : X.env.code = .ref c)
    (hr : Room (k + 2) X.A) (L : LamX.LamS X.env.scope scope) (hdef : defaultsOf params X.env = ([], []))
    (hbind : ∀ (q : Str) (cl : List (Str × Addr)) (pm cv ctv : Value), bindArgs (PySem.W.kla_fn "<lambda>" q params body scope cl pm cv ctv) {} = pure [])
    (hbody : ∀ (A : Around) (outer : List Env) (s : Shared) (H : Hp) (E : XK) (f c' : Addr), Room k (A.deeper (LamX.lamEnv X scope s.heap.objs.size f c')) → PE (LamX.lamCx X A outer s H E scope f c') body (t E)) (hg : Gl X "_law_error" := by rfl) :
    PE X (.Call (.Name "_law_error" p) [.Lambda params body scope lpos] [] pos) (LamX.tLam [(PT, X.env.qual ++ "<lambda>")] (TErr X.K cl CE) t) := by
  obtain ⟨oc, od, kV, doc, pm, an, cdv, ct, osl, rfl, lk, hcd⟩ := F.ex
  exact LamX.pe_lamcall hg hm F.kp lk hcd hb sc__law_error rfl (Or.inl rfl) (err_gives B G) TB hcode (List.mem_singleton.mpr rfl) (fun p hp _ => by rw [List.mem_singleton.mp hp]) hr L hdef hbind hbody
theorem twelve_fine : Fines twelve := by
  unfold Fines Fine
  decide +kernel
theorem tabs_kp {T : List (Addr × Str)} (k : Kp a l H H') (t : LamX.Tabs T H) : LamX.Tabs T H' := fun p hp => by
  obtain ⟨ps, h1, h2, h3⟩ := t p hp
  refine ⟨ps, k.obj h1 (fun _ z => nomatch z), h2, fun pos cv e => ?_⟩
  obtain ⟨c, e1, e2⟩ := h3 pos cv e
  exact ⟨c, e1, k.obj e2 (fun _ z => by unfold LamX.CodeO at z; cases z)⟩
theorem RS.ext (r : RS H a l) (e : LamX.ExtN H H') : RS H' a l := by
  obtain ⟨st, k, ns, h1, h2, q⟩ := r
  exact ⟨st, k, ns, e _ _ h1 (fun _ z => nomatch z), e _ _ h2 (fun _ z => nomatch z), q⟩
theorem sqT_ext {b : Addr} {xs : List V} (e : LamX.ExtN H H') (h : SqT K H b xs) : SqT K H' b xs := by
  rcases h with (h | ⟨o, h⟩) | h
  · exact .inl (.inl (e _ _ h fun _ z => nomatch z))
  · exact .inl (.inr ⟨o, e _ _ h fun _ z => nomatch z⟩)
  · exact .inr h
abbrev dOne (x : Str) : PyData := .tuple [.str x]
theorem dp_one {b : Addr} {x : Str} (h : SqT K H b [.str x]) : Dp K H (.ref b) (dOne x) := .tup h (.cons (.str _) .nil)
theorem lay_one {x : Str} (h : (PyData.str x).canLay0 = true) : (dOne x).canLay0 = true := by show ((PyData.str x).canLay0 && true) = true; rw [h]; rfl
theorem sh_one {x : Str} (h : (PyData.str x).canLay0 = true) : SeqAt.shaped (dOne x) = true := by
  unfold SeqAt.shaped
  rw [lay_one h]
  rfl
theorem eq_one {x : Str} (h : (PyData.str x).canLay0 = true) : (dOne x).eqv (dOne x) = true := SeqAt.eqv_refl _ (lay_one h)
theorem ad_strs {p : Addr} {cs : List Str} (e : H p = some (.tup (cs.map V.str))) (hl : cs.length ≤ 1000) : AD H 1 (.ref p) (.tuple (cs.map PyData.str)) := by
  refine .tup e (by rw [List.length_map, List.length_map]) (by rw [List.length_map]; omega) fun i x d hx hd => ?_
  rw [List.getElem?_map] at hx hd
  cases h : cs[i]? with
  | none => rw [h] at hx; cases hx
  | some z =>
    rw [h] at hx hd
    cases hx
    cases hd
    exact .str 0 z
abbrev qLam : Str := (Str.ofString "law" ++ Str.ofString ".<locals>.") ++ Str.ofString "<lambda>"
end
end Sc
namespace Sc
open PySem PySem.Spec PyProof.Rows L2
abbrev s__law_single_right : Stmt := topS 41
theorem sc__law_single_right : FnScope ["_law_h", "_law_long", "_law_k", "_law_j"] ["_law_h", "_law_long"] (defScope s__law_single_right) := ⟨rfl, rfl, rfl, by decide +kernel, rfl, by decide +kernel, by decide +kernel⟩
section
variable {P : Program} {w : World} {K : PySem.W.Frag} {mg : Str → Option Value} {base : Heap} {a l : Addr} {H H' H'' : Hp} {C CC CN : Addr}
/-- a condition of good parts is made -/
theorem mk_good {hA hB x dx : Addr} {xs ys : List Str} {R : VK} {E : XK} (sA : SqT K H hA (xs.map V.str)) (sB : SqT K H hB (ys.map V.str)) (gx : Good xs) (gy : Good ys) (l8 : xs.length + ys.length ≤ 8) (dj : ∀ x ∈ ys, ¬ x ∈ xs)
    (nx : H x = none) (ndx : H dx = none) (nex : dx ≠ x) (q : ∀ H', Same H H' → CondAt K C H' x xs ys → R .non H') :
    sp_cond_init K C CC (.ref x :: ([.ref hA, .ref hB] ++ [])) (upd (upd H dx (.own x)) x (.ins C dx [])) R E := by
  have s5 : Same H (upd (upd H dx (.own x)) x (.ins C dx [])) := ((Same.refl H).put ndx).put nx
  have n1 : firstWrong xs [] = none := gx.none (by simp; omega) (fun _ _ z => nomatch z)
  have n2 : firstWrong ys xs = none := gy.none l8 dj
  refine ⟨x, dx, hA, hB, xs, ys, rfl, upd_same, s5.tup sA, s5.tup sB, (gx.fines twelve_fine).txts, (gy.fines twelve_fine).txts, by omega, by omega, fun i ei => absurd (n1.symm.trans ei) (fun z => nomatch z), fun _ => ⟨fun i ei => absurd (n2.symm.trans ei) (fun z => nomatch z), fun _ H' n zs sX hx hn hperm hsort => ?_⟩⟩
  have sS : Same H H' := fun b o' h => sX b o' (fun e => by rw [e] at h; rw [nx] at h; cases h) (s5 _ _ h)
  exact q H' sS ⟨dx, hA, hB, n, zs, hx, sS.tup sA, sS.tup sB, hn, srt_uniq hperm hsort⟩
theorem one_part {k : Nat} (hk : k < 12) : ((twelve.map V.str).drop k).take (k + 1 - k) = [twelve.getD k ""].map V.str := by
  have h : ∀ k, k < 12 → ((twelve.map V.str).drop k).take 1 = [twelve.getD k ""].map V.str := by decide +kernel
  rw [Nat.add_sub_cancel_left]
  exact h k hk
theorem one_sub {k : Nat} (hk : k < 12) : List.Sublist [twelve.getD k ""] twelve := by
  rw [List.singleton_sublist]
  have h : ∀ k, k < 12 → twelve.getD k "" ∈ twelve := by decide +kernel
  exact h k hk
theorem one_eq {k j : Nat} (hk : k < 12) (hj : j < 12) : decide ([twelve.getD k ""] = [twelve.getD j ""]) = decide (k = j) := by
  have h : ∀ k, k < 12 → ∀ j, j < 12 → decide ([twelve.getD k ""] = [twelve.getD j ""]) = decide (k = j) := by decide +kernel
  exact h k hk j hj
def sp_single (K : PySem.W.Frag) : Sp := fun vs H Q _ => ∃ (a l fp : Addr), vs = [.ref a, .ref fp] ∧ RS H a l ∧ SqT K H fp (twelve.map V.str) ∧ ∀ H', Kp a l H H' → Q (.bl true) H'
theorem ok_single {f : Addr} {fd : FuncData} (F : Fun K "_law_single_right" "_law_single_right" s__law_single_right f fd) (B : Blt mg) (c__law_next : Cal P w K mg base CX0 1 "_law_next" ["_law_h", "_law_limit"] sp_next)
    (k_Condition : Mkr P w K mg base 4 "Condition" C ["self", "holding", "failing"] (sp_cond_init K C CC)) (kX : CondX P w K mg base C CC CN) : FnOk P w K mg base CX0 6 f fd ["_law_h", "_law_long"] (sp_single K) := by
  refine F.ok sc__law_single_right (fun vs H Q E h => by obtain ⟨a, l, fp, rfl, _⟩ := h; rfl) (fun cdv A outer s H vs Q E hr h => ?_)
  obtain ⟨a, l, fp, rfl, R, hS, q⟩ := h
  refine ⟨_, (pss_cons (ps_par (i := 2) (j := 3) rfl sc__law_single_right.nd rfl rfl (by decide) rfl rfl (pa_cons (pe_cal c__law_next (hr.mono (by decide)) (pa_cons (pv 0) (pa_cons pe_int pa_nil))) (pa_cons (pe_cal c__law_next (hr.mono (by decide)) (pa_cons (pv 0) (pa_cons pe_int pa_nil))) pa_nil)) rfl)
      (pss_one (ps_ret (pe_cmpR op_eq (pe_cmpR (op_ceq kX (hr.mono (by decide))) (pe_mkN k_Condition (hr.mono (by decide)) (pa_cons (pe_tup pa_nil) (pa_cons (pe_slice sl_tupA (pv 1) (po_some (pv 2)) (po_some (pe_op op_add (pv 2) pe_int))) pa_nil))) (pe_mkN k_Condition (hr.mono (by decide)) (pa_cons (pe_tup pa_nil) (pa_cons (pe_slice sl_tupA (pv 1) (po_some (pv 3)) (po_some (pe_op op_add (pv 3) pe_int))) pa_nil))) (nomark _)) (pe_cmpR op_eq (pv 2) (pv 3) (nomark _)) (nomark _))))), ?_⟩
  refine ⟨.ref a, rfl, a, l, 12, rfl, R, by decide, by decide, fun H1 k k1 k0 kb => ⟨.ref a, rfl, a, l, 12, rfl, k1.new, by decide, by decide, fun H2 j k2 j0 jb => ⟨_, _, rfl, ?_⟩⟩⟩
  obtain ⟨k, rfl⟩ := Int.eq_ofNat_of_zero_le k0
  obtain ⟨j, rfl⟩ := Int.eq_ofNat_of_zero_le j0
  have hk : k < 12 := by omega
  have hj : j < 12 := by omega
  have k12 := k1.trans k2
  refine ⟨Nat.zero_le _, fun t nt => ?_⟩
  have s3 := (Same.refl H2).put (o := .tup []) nt
  have e3 : (upd H2 t (.tup [])) t = some (.tup []) := upd_same
  generalize upd H2 t (.tup []) = H3 at s3 e3 ⊢
  refine ⟨.ref fp, rfl, .int (k : Nat), rfl, (k : Nat), rfl, .int (k : Nat), rfl, (k : Nat), 1, rfl, rfl, _, rfl, sl_any ((k12.same s3).tup hS) fun p4 H4 s4 e4 => ?_⟩
  have e4 : SqT K H4 p4 ([twelve.getD k ""].map V.str) := by
    have h := cut_part (twelve.map V.str) k (k + 1)
    rw [one_part hk] at h
    rw [← h]
    exact e4
  refine fun o1 dx1 nx ndx nex => mk_good (sqT_of (s4 _ _ e3) : SqT K H4 t (([] : List Str).map V.str)) e4 good_nil (twelve_good.sub (one_sub hk)) (by simp) (fun _ _ z => nomatch z) nx ndx nex (fun H5 s5 C5 => ⟨rfl, ?_⟩)
  have s35 := (s3.trans s4).trans s5
  refine ⟨Nat.zero_le _, fun t2 nt2 => ?_⟩
  have s6 := (Same.refl H5).put (o := .tup []) nt2
  have e6 : (upd H5 t2 (.tup [])) t2 = some (.tup []) := upd_same
  generalize upd H5 t2 (.tup []) = H6 at s6 e6 ⊢
  refine ⟨.ref fp, rfl, .int (j : Nat), rfl, (j : Nat), rfl, .int (j : Nat), rfl, (j : Nat), 1, rfl, rfl, _, rfl, sl_any ((k12.same (s35.trans s6)).tup hS) fun p7 H7 s7 e7 => ?_⟩
  have e7 : SqT K H7 p7 ([twelve.getD j ""].map V.str) := by
    have h := cut_part (twelve.map V.str) j (j + 1)
    rw [one_part hj] at h
    rw [← h]
    exact e7
  refine fun o2 dx2 nx2 ndx2 nex2 => mk_good (sqT_of (s7 _ _ e6) : SqT K H7 t2 (([] : List Str).map V.str)) e7 good_nil (twelve_good.sub (one_sub hj)) (by simp) (fun _ _ z => nomatch z) nx2 ndx2 nex2 (fun H8 s8 C8 => ⟨rfl, ?_⟩)
  have s68 := (s6.trans s7).trans s8
  have C5' := C5.same s68
  obtain ⟨dx5, a5, b5, n5', z5, h5, _⟩ := C5'.at_
  obtain ⟨dx8, a8, b8, n8', z8, h8, _⟩ := C8.at_
  have f1 : Fines [twelve.getD k ""] := twelve_fine.sub (one_sub hk)
  have f2 : Fines [twelve.getD j ""] := twelve_fine.sub (one_sub hj)
  refine ⟨o1, dx5, _, _, rfl, h5, .ins h8, (by simp [PySem.W.notFirst]), ⟨o1, .ref o2, [], _, rfl, C5', (fun _ z => nomatch z), f1, .inl ⟨o2, [], _, rfl, C8, (fun _ z => nomatch z), f2, ?_⟩⟩⟩
  refine ⟨_, rfl, _, rfl, rfl, ?_⟩
  rw [one_eq hk hj, decide_eq_true (rfl : ([] : List Str) = []), Bool.true_and]
  have e : decide (V.bl (decide (k = j)) = V.bl (decide (V.int (k : Nat) = V.int (j : Nat)))) = true := by
    refine decide_eq_true ?_
    congr 1
    by_cases c : k = j
    · subst c
      rw [decide_eq_true rfl, decide_eq_true rfl]
    · rw [decide_eq_false c, decide_eq_false fun z => c (by have := V.int.inj z; omega)]
  refine ⟨rfl, ?_⟩
  rw [e]
  exact q H8 ((k12.same s35).same s68)
end
end Sc
namespace SetS
open PySem PySem.Spec PyProof.Rows L2
/-! ### sets of texts -/
def txt (e : Int × Value) : Str := match e.2 with | .str x _ => x | _ => ⟨#[]⟩
/-- an entry of a set of texts -/
def Ent (P : Program) (w : World) (e : Int × Value) : Prop := ∃ x t, e.2 = Value.str x t ∧ e.1 = (strKind P w).hash x
/-- the set at a has the texts zs, in some order -/
def TxtSet (P : Program) (w : World) (h : Heap) (a : Addr) (zs : List Str) : Prop :=
  ∃ o es ep t, (h.get? a = some o ∧ o.ExactSet ∧ o.data = .set es ep t) ∧ ((∀ e ∈ es.toList, Ent P w e) ∧ es.toList.map txt = zs ∧ zs.Nodup) ∧
    (es.size < scanBound ∧ t.fits es.size = true ∧ Ris t.place.toList ∧ (w.params.followText "set-order" = true ∨ t.led = true))
section
variable {P : Program} {w : World} {A : Around} {E : Value → Shared → Prop} {s : Shared} {h h' : Heap} {a : Addr} {zs : List Str}
theorem TxtSet.kept (R : TxtSet P w h a zs) (k : ∀ o, h.get? a = some o → h'.get? a = some o) : TxtSet P w h' a zs := by
  obtain ⟨o, es, ep, t, ⟨ho, q⟩, r⟩ := R
  exact ⟨o, es, ep, t, ⟨k o ho, q⟩, r⟩
theorem ent_is {e : Int × Value} (g : Ent P w e) (x : Str) : (strKind P w).is x e.2 = true ↔ txt e = x := by
  obtain ⟨y, t, e1, _⟩ := g
  unfold txt
  rw [e1]
  constructor
  · intro q
    obtain ⟨u, q⟩ := Value.isStrOf_shape (show Value.isStrOf x (Value.str y t) = true from q)
    cases q
    rfl
  · rintro rfl
    exact strKind_is P w y t
theorem ent_elems {l : List (Int × Value)} (g : ∀ e ∈ l, Ent P w e) : ElemsOf (strKind P w) l := fun e he => by
  obtain ⟨x, t, h1, h2⟩ := g e he
  refine ⟨⟨x, ?_, h2⟩, ?_⟩
  · rw [h1]; exact strKind_is P w x t
  · rw [h1]; rfl
theorem mem_txt {l : List (Int × Value)} (g : ∀ e ∈ l, Ent P w e) (x : Str) : x ∈ l.map txt ↔ ∃ e ∈ l, (strKind P w).is x e.2 = true := by
  rw [List.mem_map]
  exact ⟨fun ⟨e, he, q⟩ => ⟨e, he, (ent_is (g e he) x).mpr q⟩, fun ⟨e, he, q⟩ => ⟨e, he, (ent_is (g e he) x).mp q⟩⟩
/-- the rows are laid, and all anew where the table is too full -/
theorem lay {gv : Bool → Sem Unit} (hg : ∀ (b : Bool) (s₁ : Shared) (Q' : Unit → Shared → Prop), Q' () s₁ → wpAny (model P w) A (gv b) Q' E s₁)
    {o : Obj} {es : Array (Int × Value)} {ep : Nat} {t : SetTable} (ho : s.heap.get? a = some o) (hex : o.ExactSet) (hd : o.data = .set es ep t)
    {es1 : Array (Int × Value)} {t2 : SetTable} (g1 : ∀ e ∈ es1.toList, Ent P w e) (nd1 : (es1.toList.map txt).Nodup) (hb1 : es1.size < scanBound) (hf2 : t2.fits es1.size = true) (hr : Ris t2.place.toList)
    (hl : w.params.followText "set-order" = true ∨ t2.led = true) {wd : Bool} {R : Option Bool → Shared → Prop}
    (hR : ∀ h' zs', Heap.SameBut a s.heap h' → TxtSet P w h' a zs' → zs'.Perm (es1.toList.map txt) → R (some true) { s with heap := h' }) :
    wpAny (model P w) A (do
        storeSet a es1 t2
        if (!wd && t2.tooFull) = true then do
            gv (relayAll t2 es1 (SetTable.grown es1.size)).2.2
            storeSet a (relayAll t2 es1 (SetTable.grown es1.size)).1 (relayAll t2 es1 (SetTable.grown es1.size)).2.1
            pure (some true)
          else pure (some true)) R E s := by
  have o1 := store_at (es' := es1) (t' := t2) ho hd
  have b1 := Heap.SameBut.update s.heap a (Obj.putSet es1 t2)
  refine wpAny_bind (wpAny_storeSet_of ho hd ?_ (fits_of_scanBound hb1))
  split
  · have p3 := relayAll_perm t2 es1 (SetTable.grown es1.size)
    have f3 := relayAll_fits t2 es1 (SetTable.grown es1.size)
    have r3 := relayAll_ris t2 es1 (SetTable.grown es1.size)
    have l3 := relayAll_led t2 es1 (SetTable.grown es1.size)
    rcases hz : relayAll t2 es1 (SetTable.grown es1.size) with ⟨es2, t3, gave⟩
    rw [hz] at p3 f3 r3 l3
    dsimp only at p3 f3 r3 l3 ⊢
    have z3 : es2.size < scanBound := by rw [← Array.length_toList, p3.length_eq, Array.length_toList]; exact hb1
    refine wpAny_bind (hg _ _ _ (wpAny_bind (wpAny_storeSet_of o1 rfl ?_ (fits_of_scanBound z3))))
    refine wpAny_pure (hR _ _ (b1.trans (Heap.SameBut.update _ a _)) ⟨_, es2, _, t3, ⟨store_at (es' := es2) (t' := t3) o1 rfl, hex, rfl⟩, ⟨fun e he => g1 e (p3.mem_iff.mp he), rfl, (p3.map txt).nodup_iff.mpr nd1⟩, z3, f3, r3, hl.imp id fun z => by rw [l3]; exact z⟩ (p3.map txt))
  · exact wpAny_pure (hR _ _ b1 ⟨_, es1, _, t2, ⟨o1, hex, rfl⟩, ⟨g1, rfl, nd1⟩, hb1, hf2, hr, hl⟩ (List.Perm.refl _))
/-- a text is put in -/
theorem add {x : Str} {tk : Tok} {Q : Bool → Shared → Prop} (R : TxtSet P w s.heap a zs) (room : zs.length + 1 < scanBound)
    (hQ : ∀ b h' zs', Heap.SameBut a s.heap h' → TxtSet P w h' a zs' → (∀ y, y ∈ zs' ↔ y ∈ zs ∨ y = x) → zs'.length ≤ zs.length + 1 → Q b { s with heap := h' }) :
    wpAny (model P w) A (setAddHashed a (.str x tk) ((strKind P w).hash x)) Q E s := by
  obtain ⟨o, es, ep, t, ⟨ho, hex, hd⟩, ⟨g, rfl, nd⟩, hb, hf, hr, hl⟩ := R
  have hk : (strKind P w).is x (.str x tk) = true := strKind_is P w x tk
  have hc : (Value.str x tk).scannable = true := rfl
  have el : ElemsOf (strKind P w) es.toList := ent_elems g
  unfold setAddHashed setAddHashedIn
  refine wpAny_holding (wpAny_bind (wpAny_setState_of ho hd hf ?_))
  dsimp only
  rw [byScan_of hc hb el]
  simp only [↓reduceIte]
  unfold setAddByScan
  refine wpAny_bind (wpAny_bind (wpAny_rule (wpAny_bind (wpAny_setScan_of hk ho hd hf el ?_))))
  cases hfi : List.findIdx? (fun e => (strKind P w).is x e.2) es.toList with
  | some j =>
    obtain ⟨hj, pj, _⟩ := List.findIdx?_eq_some_iff_getElem.mp hfi
    have hx : x ∈ es.toList.map txt := (mem_txt g x).mpr ⟨_, List.getElem_mem hj, pj⟩
    dsimp only
    exact wpAny_pure (wpAny_pure (hQ _ s.heap _ (Heap.SameBut.refl a s.heap) ⟨o, es, ep, t, ⟨ho, hex, hd⟩, ⟨g, rfl, nd⟩, hb, hf, hr, hl⟩ (fun y => ⟨.inl, fun z => z.elim id fun e => e ▸ hx⟩) (Nat.le_succ _)))
  | none =>
    have nx : x ∉ es.toList.map txt := fun z => by
      obtain ⟨e, he, q⟩ := (mem_txt g x).mp z
      have c := List.findIdx?_eq_none_iff.mp hfi e he
      rw [q] at c
      cases c
    have gw : ∀ (b : Bool) {s₁ : Shared} {Q' : Unit → Shared → Prop}, Q' () s₁ → wpAny (model P w) A (match b with | true => rule "set.scan.the-table-gave-way" | false => pure ()) Q' E s₁ := by
      intro b s₁ Q' q
      cases b
      · exact wpAny_pure q
      · exact wpAny_rule q
    have p1 := layNew_perm t es ((strKind P w).hash x) (.str x tk)
    have f1 := layNew_fits t es ((strKind P w).hash x) (.str x tk)
    have r1 := layNew_ris t es ((strKind P w).hash x) (.str x tk) hr
    have l1 := layNew_led t es ((strKind P w).hash x) (.str x tk)
    dsimp only
    rcases hz : layNew t es ((strKind P w).hash x) (.str x tk) with ⟨es1, t1, wd, gave⟩
    rw [hz] at p1 f1 r1 l1
    dsimp only at p1 f1 r1 l1 ⊢
    rw [Array.toList_push] at p1
    have p2 : es1.toList.Perm (((strKind P w).hash x, Value.str x tk) :: es.toList) := p1.trans (List.perm_append_singleton _ _)
    have p3 : (es1.toList.map txt).Perm (x :: es.toList.map txt) := p2.map txt
    have g1 : ∀ e ∈ es1.toList, Ent P w e := fun e he => by
      rcases List.mem_cons.mp (p2.mem_iff.mp he) with z | z
      · rw [z]; exact ⟨x, tk, rfl, rfl⟩
      · exact g e z
    have nd1 : (es1.toList.map txt).Nodup := p3.nodup_iff.mpr (List.nodup_cons.mpr ⟨nx, nd⟩)
    have hb1 : es1.size < scanBound := by
      have e1 := p2.length_eq
      rw [Array.length_toList, List.length_cons] at e1
      rw [List.length_map] at room
      omega
    have hl1 : w.params.followText "set-order" = true ∨ t1.led = true := hl.imp id fun z => by rw [l1]; exact z
    have fin : ∀ b h' zs', Heap.SameBut a s.heap h' → TxtSet P w h' a zs' → zs'.Perm (es1.toList.map txt) → Q b { s with heap := h' } := fun b h' zs' sb r p => by
      have p := p.trans p3
      refine hQ b h' zs' sb r (fun y => ?_) (Nat.le_of_eq p.length_eq)
      rw [p.mem_iff, List.mem_cons]
      exact Or.comm
    refine wpAny_bind (gw _ ?_)
    split
    · refine wpAny_bind ?_
      rw [hashByValue_scannable 8 hc]
      refine wpAny_pure (lay ?_ ho hex hd g1 nd1 hb1 ?_ ?_ ?_ ?_)
      · intro b s₁ Q' q
        cases b
        · exact wpAny_pure q
        · exact wpAny_rule q
      · first | (split <;> first | exact f1 | exact SetTable.fits_plain_off f1) | exact f1
      · first | (split <;> exact r1) | exact r1
      · first | (split <;> exact hl1) | exact hl1
      · exact fun h' zs' sb r p => wpAny_pure (fin _ h' zs' sb r p)
    · refine wpAny_bind (wpAny_pure ?_)
      simp only [↓reduceIte]
      refine lay ?_ ho hex hd g1 nd1 hb1 f1 r1 hl1 ?_
      · intro b s₁ Q' q
        cases b
        · exact wpAny_pure q
        · exact wpAny_rule q
      · exact fun h' zs' sb r p => wpAny_pure (fin _ h' zs' sb r p)

theorem fresh {h : Heap} (ho : h.get? a = some { cls := .type "set", dict := none, data := .set #[] 0 (.fresh 0 0 (!w.params.followText "set-order")) }) : TxtSet P w h a [] := by
  refine ⟨_, #[], 0, _, ⟨ho, ⟨rfl, rfl, rfl⟩, rfl⟩, ⟨(fun e he => by simp at he), rfl, List.nodup_nil⟩, by decide, rfl, List.Pairwise.nil, ?_⟩
  show _ ∨ (!w.params.followText "set-order") = true
  cases w.params.followText "set-order"
  · exact .inr rfl
  · exact .inl rfl
/-- what has been met of the texts is in the set -/
def Met (ss : List Str) (i : Nat) (zs : List Str) : Prop := (∀ y, y ∈ zs ↔ y ∈ ss.take i) ∧ zs.length ≤ i
theorem update {I : Addr} {fp wr : List Addr} {G : Array GenState → Array GenState → Prop} {n : Nat} {Pv : Nat → Value → Prop} {St : Nat → Shared → Prop} {R : Result → Shared → Prop}
    (W : WalksS P w A.in1 I fp wr G n Pv St) (S : Addr) (hS : S ∉ fp) (ss : List Str) (hn : n = ss.length) (hb : ss.length + 1 < scanBound) (hv : ∀ i v, Pv i v → ∃ x t, ss[i]? = some x ∧ v = .str x t)
    (fin : ∀ (s0 s' : Shared) zs, Moved (S :: wr) G s0 s' → TxtSet P w s'.heap S zs → Met ss n zs → s0 = s → R (.ok (.ret .none)) s') :
    ∀ (k i : Nat) (s1 : Shared), n - i = k → i ≤ n → St i s1 → (∃ zs, TxtSet P w s1.heap S zs ∧ Met ss i zs) → (∀ s', Moved (S :: wr) G s1 s' → Moved (S :: wr) G s s') →
      codeAny (model P w) A (.builtin "set.update.loop" ⟨[.ref S, .ref I], []⟩) R s1 := by
  have out : S ∉ wr := fun z => hS (W.sub _ z)
  have more : ∀ b ∈ wr, b ∈ S :: wr := fun b z => List.mem_cons_of_mem _ z
  intro k
  induction k with
  | zero =>
    intro i s1 hk hi hst ⟨zs, hz, m⟩ gone
    obtain rfl : i = n := by omega
    refine codeAny_builtin F.entry_set_update_loop ?_
    rw [Around.under_plainId F.plain_set_update_loop _]
    show wpAny _ A.in1 (pyNext (.ref I) >>= _) _ _ s1
    refine wpAny_bind (W.done s1 _ _ hst fun s2 mv => ?_)
    show wpAny _ A.in1 (ret Value.none) _ _ s2
    exact wpAny_pure (fin s s2 zs (gone s2 (mv.mono more)) (hz.kept fun o e => mv.heap S o out e) m rfl)
  | succ k ih =>
    intro i s1 hk hi hst ⟨zs, hz, m⟩ gone
    have lt : i < n := by omega
    refine codeAny_builtin F.entry_set_update_loop ?_
    rw [Around.under_plainId F.plain_set_update_loop _]
    show wpAny _ A.in1 (pyNext (.ref I) >>= _) _ _ s1
    refine wpAny_bind (W.item i s1 _ _ lt hst fun v s2 hp hst2 mv => ?_)
    obtain ⟨x, t, hx, rfl⟩ := hv i v hp
    have hz2 := hz.kept (h' := s2.heap) fun o e => mv.heap S o out e
    show wpAny _ A.in1 (holding [Value.str x t] (setAdd S (.str x t)) >>= _) _ _ s2
    refine wpAny_bind (wpAny_holding ?_)
    unfold setAdd
    refine wpAny_holding (wpAny_bind ((strKind P w).pyHash (k := x) (strKind_is P w x t) ?_))
    have ml := m.2
    refine add (s := { s2 with toks := s2.toks + 1 }) hz2 (by omega) fun b h3 zs3 sb hz3 mem len => ?_
    have m3 : Met ss (i + 1) zs3 := by
      refine ⟨fun y => ?_, by omega⟩
      rw [mem, m.1, List.take_add_one, hx, List.mem_append]
      simp
    have mv3 : Moved (S :: wr) G s1 { s2 with heap := h3, toks := s2.toks + 1 } := (mv.mono more).then_heap (Nat.le_succ _) fun b o hb e => by
      rw [sb.2 b fun z => hb (by rw [z]; exact List.mem_cons_self)]
      exact e
    refine wpAny_pure ⟨plainId_quiet F.plain_set_update_loop _, ih (i + 1) _ (by omega) lt (W.frame _ s2 _ _ hst2 (Nat.le_succ _) fun b hb o e => ?_) ⟨zs3, hz3, m3⟩ fun s' h => gone s' (Moved.trans W.gtrans mv3 h)⟩
    rw [sb.2 b fun z => hS (by rw [← z]; exact hb)]
    exact e

/-- an empty set's object -/
abbrev emp (w : World) : Obj := { cls := .type "set", dict := none, data := .set #[] 0 (.fresh 0 0 (!w.params.followText "set-order")) }
set_option maxRecDepth 100000 in
set_option maxHeartbeats 3200000 in
/-- set(x): the set is made, and filled by its __init__ -/
theorem made {x : Value} {Z : Shared → Prop} {Q : Value → Shared → Prop}
    (hi : wpAny (model P w) A.in1.in1 (Builtin.«set.__init__» ⟨[.ref s.heap.objs.size, x], []⟩)
      (fun fin s' => match fin with | .done f => wants (fun r s₂ => r = .none ∧ Z s₂) E (.ok f) s' | .again c' => c'.quiet = true ∧ codeAny (model P w) A.in1 c' (wants (fun r s₂ => r = .none ∧ Z s₂) E) s')
      (fun e s' => wants (fun r s₂ => r = .none ∧ Z s₂) E (.error e) s') { s with heap := s.heap.push (emp w) })
    (hq : ∀ s₂, Z s₂ → Q (.ref s.heap.objs.size) s₂) : wpAny (model P w) A (call (.type "set") [x]) Q E s := by
  have cf := F.called_set
  obtain ⟨c, tl, mro⟩ := cf.mro
  have q1 := cf.made
  have q2 := cf.sub
  have q3 := cf.notType
  have q4 := cf.canCreate
  have q5 := F.typeCall_set_1 x
  have q6 := cf.init.lookup
  have q7 := cf.init.bind (.ref s.heap.objs.size)
  refine wpAny_call (codeAny_of_tree ?_)
  show wpAny _ _ (callAny (.type "set") _) _ _ _
  refine wpAny_pure ⟨Code.quiet_builtin _ (by decide +kernel), codeAny_builtin F.entry_type_call ?_⟩
  rw [Around.under_plain (weight_type_call_type "set" [x] []) rfl]
  repeat (any_goals (first | assumption | wp_step))
  have new := code_set_led1 (P := P) (w := w) (A := A.in1) (s := s) (E := E) x (Q₁ := fun obj s₁ => obj = .ref s.heap.objs.size ∧ s₁ = { s with heap := s.heap.push (emp w) }) ⟨rfl, rfl⟩
  refine codeAny_mono new fun r s₁ hr => ?_
  rcases r with e | fl
  · exact hr
  rcases fl with _ | obj | _ | _
  all_goals first | exact hr.elim | skip
  obtain ⟨rfl, rfl⟩ := hr
  have isS : Shared.TypeIs { s with heap := s.heap.push (emp w) } (.ref s.heap.objs.size) "set" := ⟨_, Heap.get?_push_size _ rfl, rfl⟩
  repeat (any_goals (first | assumption | wp_step))
  refine codeAny_mono (codeAny_call_builtin (R := wants (fun r s₂ => r = .none ∧ Z s₂) E) cf.init.plain F.entry_set_init (check_set_init_1 isS hi)) fun r₂ s₂ hr₂ => ?_
  rcases r₂ with e | fl₂
  · exact hr₂
  rcases fl₂ with _ | r | _ | _
  all_goals first | exact hr₂.elim | skip
  obtain ⟨rfl, z⟩ := hr₂
  repeat (any_goals (first | assumption | wp_step))
  exact hq _ z

theorem strs_at : ∀ {vs : List Value} {ss : List Str}, StrsAre vs ss → ∀ (i : Nat) (v : Value), vs[i]? = some v → ∃ x t, ss[i]? = some x ∧ v = .str x t
  | _, _, .cons y t r, 0, v, e => ⟨y, t, rfl, (Option.some.inj e).symm⟩
  | _, _, .cons y t r, i + 1, v, e => strs_at r i v e

set_option maxRecDepth 100000 in
set_option maxHeartbeats 3200000 in
/-- set(xs), xs a tuple of texts -/
theorem of_tuple {l : Addr} {items : Array Value} {ss : List Str} {Q : Value → Shared → Prop} (hh : A.handled = none) (hl : s.heap.IsTuple l items) (hit : StrsAre items.toList ss) (hb : ss.length + 1 < scanBound)
    (hq : ∀ (h' : Heap) (tk : Nat) zs, TxtSet P w h' s.heap.objs.size zs → Met ss ss.length zs → (∀ b o, s.heap.get? b = some o → h'.get? b = some o) → Q (.ref s.heap.objs.size) { s with heap := h', toks := tk }) :
    wpAny (model P w) A (call (.type "set") [.ref l]) Q E s := by
  have hn : items.size = ss.length := by
    have q := StrsAre.length hit
    rw [Array.length_toList] at q
    exact q
  refine made (Z := fun s₂ => ∃ h' tk zs, s₂ = { s with heap := h', toks := tk } ∧ TxtSet P w h' s.heap.objs.size zs ∧ Met ss ss.length zs ∧ ∀ b o, s.heap.get? b = some o → h'.get? b = some o) ?_ fun s₂ hz => ?_
  · obtain ⟨ol, hol, hc, nl, hd⟩ := hl
    obtain ⟨ocl, odi, oda, osl⟩ := ol
    simp only at hc hd
    subst hc
    subst hd
    have S0 : (s.heap.push (emp w)).get? s.heap.objs.size = some (emp w) := Heap.get?_push_size _ rfl
    have isS : Shared.TypeIs { s with heap := s.heap.push (emp w) } (.ref s.heap.objs.size) "set" := ⟨_, S0, rfl⟩
    have hol' : (s.heap.push (emp w)).get? l = some { cls := .type "tuple", dict := odi, data := .seq items nl, slots := osl } := Heap.get?_push_of_some _ hol
    have n1 := F.sub_tuple_set
    have n2 := F.sub_tuple_frozenset
    have n3 : (Value.type "tuple" == Value.type "dict") = false := by decide
    have hl1 : (s.heap.push (emp w)).IsTuple l items := ⟨_, hol', rfl, nl, rfl⟩
    unfold Builtin.«set.__init__» noKeywords Builtin.Frozenset.updateFrom
    generalize hPI : pyIter = PI
    wp_walk
    subst hPI
    refine wpAny_pyIter_tuple hl1 (wpAny_bind (wpAny_runValue ?_))
    have lt0 : l < s.heap.objs.size := Heap.lt_size hol
    have hh3 : A.in1.in1.in1.handled = none := by simp [hh]
    have nI : l ≠ (s.heap.push (emp w)).objs.size := by
      rw [Heap.size_push]
      exact Nat.ne_of_lt (Nat.lt_succ_of_lt lt0)
    have nS : s.heap.objs.size ∉ [(s.heap.push (emp w)).objs.size, l] := by
      rw [Heap.size_push]
      simp only [List.mem_cons, List.not_mem_nil, or_false, not_or]
      exact ⟨Nat.ne_of_lt (Nat.lt_succ_self _), Nat.ne_of_gt lt0⟩
    have hv : ∀ (i : Nat) (v : Value), items[i]? = some v → ∃ x t, ss[i]? = some x ∧ v = .str x t := fun i v e => by
      rw [← Array.getElem?_toList] at e
      exact strs_at hit i v e
    refine update (s := { s with heap := (s.heap.push (emp w)).push { cls := .type "tuple_iterator", data := .fields #[.ref l, .int 0 0] } }) ((Walks.tuple hh3 _ l nI items).toS) s.heap.objs.size nS ss hn hb hv
      (fun s0 s' zs mv hz m e0 => ?_) (items.size - 0) 0 _ (by omega) (Nat.zero_le _) ⟨⟨_, Heap.get?_push_size _ rfl, rfl, rfl⟩, hl1.push _⟩ ⟨[], fresh (Heap.get?_push_of_some _ S0), fun y => (by simp), Nat.le_refl 0⟩ (fun _ z => z)
    subst e0
    obtain ⟨h', g2, d', tk', os'⟩ := s'
    obtain rfl : g2 = s.gens := mv.gens
    obtain rfl : d' = s.drawn := mv.drawn
    obtain rfl : os' = s.os := mv.os
    show wpAny _ _ _ _ _ _
    refine wpAny_pure ?_
    show wpAny _ _ (ret Value.none) _ _ _
    rw [hn] at m
    refine wpAny_pure ⟨rfl, h', tk', zs, rfl, hz, m, fun b o e => ?_⟩
    have lb : b < s.heap.objs.size := Heap.lt_size e
    refine mv.heap b o ?_ (Heap.get?_push_of_some _ (Heap.get?_push_of_some _ e))
    simp only [List.mem_cons, List.not_mem_nil, or_false, not_or]
    refine ⟨Nat.ne_of_lt lb, ?_⟩
    rw [Heap.size_push]
    exact Nat.ne_of_lt (Nat.lt_succ_of_lt lb)
  · obtain ⟨h', tk, zs, rfl, hz, m, k⟩ := hz
    exact hq h' tk zs hz m k

set_option maxRecDepth 100000 in
set_option maxHeartbeats 3200000 in
/-- set(xs), xs a list of texts -/
theorem of_list {l : Addr} {items : Array Value} {ss : List Str} {Q : Value → Shared → Prop} (hh : A.handled = none) (hl : s.heap.IsList l items) (hit : StrsAre items.toList ss) (hb : ss.length + 1 < scanBound)
    (hq : ∀ (h' : Heap) (tk : Nat) zs, TxtSet P w h' s.heap.objs.size zs → Met ss ss.length zs → (∀ b o, s.heap.get? b = some o → h'.get? b = some o) → Q (.ref s.heap.objs.size) { s with heap := h', toks := tk }) :
    wpAny (model P w) A (call (.type "set") [.ref l]) Q E s := by
  have hn : items.size = ss.length := by
    have q := StrsAre.length hit
    rw [Array.length_toList] at q
    exact q
  refine made (Z := fun s₂ => ∃ h' tk zs, s₂ = { s with heap := h', toks := tk } ∧ TxtSet P w h' s.heap.objs.size zs ∧ Met ss ss.length zs ∧ ∀ b o, s.heap.get? b = some o → h'.get? b = some o) ?_ fun s₂ hz => ?_
  · obtain ⟨ol, hol, hc, nl, hd⟩ := hl
    obtain ⟨ocl, odi, oda, osl⟩ := ol
    simp only at hc hd
    subst hc
    subst hd
    have S0 : (s.heap.push (emp w)).get? s.heap.objs.size = some (emp w) := Heap.get?_push_size _ rfl
    have isS : Shared.TypeIs { s with heap := s.heap.push (emp w) } (.ref s.heap.objs.size) "set" := ⟨_, S0, rfl⟩
    have hol' : (s.heap.push (emp w)).get? l = some { cls := .type "list", dict := odi, data := .seq items nl, slots := osl } := Heap.get?_push_of_some _ hol
    have n1 := F.sub_list_set
    have n2 := F.sub_list_frozenset
    have n3 : (Value.type "list" == Value.type "dict") = false := by decide
    have hl1 : (s.heap.push (emp w)).IsList l items := ⟨_, hol', rfl, nl, rfl⟩
    unfold Builtin.«set.__init__» noKeywords Builtin.Frozenset.updateFrom
    generalize hPI : pyIter = PI
    wp_walk
    subst hPI
    refine wpAny_pyIter_list hl1 (wpAny_bind (wpAny_runValue ?_))
    have lt0 : l < s.heap.objs.size := Heap.lt_size hol
    have hh3 : A.in1.in1.in1.handled = none := by simp [hh]
    have nI : l ≠ (s.heap.push (emp w)).objs.size := by
      rw [Heap.size_push]
      exact Nat.ne_of_lt (Nat.lt_succ_of_lt lt0)
    have nS : s.heap.objs.size ∉ [(s.heap.push (emp w)).objs.size, l] := by
      rw [Heap.size_push]
      simp only [List.mem_cons, List.not_mem_nil, or_false, not_or]
      exact ⟨Nat.ne_of_lt (Nat.lt_succ_self _), Nat.ne_of_gt lt0⟩
    have hv : ∀ (i : Nat) (v : Value), items[i]? = some v → ∃ x t, ss[i]? = some x ∧ v = .str x t := fun i v e => by
      rw [← Array.getElem?_toList] at e
      exact strs_at hit i v e
    refine update (s := { s with heap := (s.heap.push (emp w)).push { cls := .type "list_iterator", data := .fields #[.ref l, .int 0 0] } }) ((Walks.list hh3 _ l nI items).toS) s.heap.objs.size nS ss hn hb hv
      (fun s0 s' zs mv hz m e0 => ?_) (items.size - 0) 0 _ (by omega) (Nat.zero_le _) ⟨⟨_, Heap.get?_push_size _ rfl, rfl, rfl⟩, hl1.push _⟩ ⟨[], fresh (Heap.get?_push_of_some _ S0), fun y => (by simp), Nat.le_refl 0⟩ (fun _ z => z)
    subst e0
    obtain ⟨h', g2, d', tk', os'⟩ := s'
    obtain rfl : g2 = s.gens := mv.gens
    obtain rfl : d' = s.drawn := mv.drawn
    obtain rfl : os' = s.os := mv.os
    show wpAny _ _ _ _ _ _
    refine wpAny_pure ?_
    show wpAny _ _ (ret Value.none) _ _ _
    rw [hn] at m
    refine wpAny_pure ⟨rfl, h', tk', zs, rfl, hz, m, fun b o e => ?_⟩
    have lb : b < s.heap.objs.size := Heap.lt_size e
    refine mv.heap b o ?_ (Heap.get?_push_of_some _ (Heap.get?_push_of_some _ e))
    simp only [List.mem_cons, List.not_mem_nil, or_false, not_or]
    refine ⟨Nat.ne_of_lt lb, ?_⟩
    rw [Heap.size_push]
    exact Nat.ne_of_lt (Nat.lt_succ_of_lt lb)
  · obtain ⟨h', tk, zs, rfl, hz, m, k⟩ := hz
    exact hq h' tk zs hz m k
end
end SetS
namespace SetS
open PySem PySem.Spec PyProof.Rows L2
section
variable {P : Program} {w : World} {A : Around} {E : Value → Shared → Prop} {s : Shared} {a : Addr} {zs : List Str}
/-- sorted(set) -/
theorem sorted_ {Q : Value → Shared → Prop} (R : TxtSet P w s.heap a zs) (hh : A.handled = none)
    (hq : ∀ s' p (out : Array Value) (c : Nat) ys, (∀ b o, s.heap.get? b = some o → s'.heap.get? b = some o) → s'.gens = s.gens → s'.os = s.os → s.heap.objs.size ≤ p → s'.heap.get? p = some (seqObj "list" out c) →
      StrsAre out.toList ys → ys.Perm zs → sortedS ys = true → Q (.ref p) s') : wpAny (model P w) A (call (.builtin "sorted") [.ref a]) Q E s := by
  obtain ⟨o, es, ep, t, ⟨ho, hex, hd⟩, ⟨g, rfl, nd⟩, hb, hf, hr, hl⟩ := R
  refine Calls.call_function_entry kind_sorted plain_sorted entry_sorted (args_sorted1 _) ?_
  unfold Builtin.«sorted»
  refine wpAny_bind (m := checkCount "sorted" 1 1 _) (wpAny_pure ?_)
  refine wpAny_bind (collect_set (A := A.in1) hh ⟨o, ho, hex.1, hd⟩ hf hb hr hl fun s1 vs k1 z1 g1 o1 pm => ?_)
  have all : ∀ v, v ∈ vs → ∃ x t, v = Value.str x t := fun v hv => by
    obtain ⟨e, he, q⟩ := List.mem_map.mp (pm.mem_iff.mp hv)
    obtain ⟨x, t, h1, _⟩ := g e he
    exact ⟨x, t, by rw [← q]; exact h1⟩
  have sv := strsAre_map vs all
  have pz : (vs.map strOf).Perm (es.toList.map txt) := by
    have q := pm.map strOf
    rw [List.map_map] at q
    refine q.trans (List.Perm.of_eq (List.map_congr_left fun e he => ?_))
    obtain ⟨x, t, h1, _⟩ := g e he
    show strOf e.2 = txt e
    unfold txt
    rw [h1]
    rfl
  have vl : vs.length ≤ sizeLine := by
    rw [pm.length_eq, List.length_map, Array.length_toList]
    exact fits_of_scanBound hb
  refine wpAny_bind (wpAny_newList ?_ vl)
  have oL : (s1.heap.push (seqObj "list" vs.toArray 0)).get? s1.heap.objs.size = some (seqObj "list" vs.toArray 0) := Heap.get?_push_size _ rfl
  refine wpAny_bind (wpAny_holding (wpAny_call_entry slot_list_sort ⟨_, oL, rfl⟩ entry_list_sort
    (list_sort_treeKAny strKind_oneLt oL sv.keysOf (fun v₁ v₂ rest e => keyKind_strs (by rw [← e]; exact sv)) vl fun st hp hs => ⟨_, rfl, ?_⟩) (args_list_sort _)))
  obtain ⟨ys, y1, y2, y3⟩ := sorted_out_str sv hp hs
  obtain ⟨c, hc⟩ := sortedHeap_at (vs := vs) (out := (arrOf st).map (·.2)) oL
  refine wpAny_pure ⟨_, rfl, hq _ s1.heap.objs.size _ c ys (fun b u e => ?_) g1 o1 z1 hc y1 (y2.trans pz) y3⟩
  have q := k1 b u e
  have lt := Heap.lt_size q
  show (sortedHeap (s1.heap.push (seqObj "list" vs.toArray 0)) s1.heap.objs.size vs _).get? b = some u
  rw [sortedHeap_old (Nat.ne_of_lt lt) (by rw [size_push']; exact Nat.lt_succ_of_lt lt)]
  exact Heap.get?_push_of_some _ q
end
/-! ### over the layer -/
def TxtO (P : Program) (w : World) (a : Addr) (zs : List Str) : HO := .ext fun h => TxtSet P w h a zs
theorem txtO_new {P : Program} {w : World} {H : Hp} {h : Heap} {a : Addr} {zs : List Str} (R : TxtSet P w h a zs) : ObjOk P w H h a (TxtO P w a zs) := by
  have ⟨o, es, ep, t, ⟨ho, q⟩, r⟩ := R
  refine ⟨R, ⟨o, ho⟩, fun h1 h2 p k => ?_⟩
  exact TxtSet.kept (show TxtSet P w h1 a zs from p) k
section
variable {X : Cx}
theorem strsAre_vals : ∀ {ss : List Str} {us : List Value}, Vals (ss.map V.str) us → StrsAre us ss
  | [], _, .nil => .nil
  | x :: ss, _, .cons r t => by
    obtain ⟨tk, rfl⟩ := r
    exact .cons x tk (strsAre_vals t)
/-- set(xs), xs texts -/
def rSetS (K : PySem.W.Frag) (P : Program) (w : World) : List V → Hp → VK → Prop := fun xs H Q => ∃ (l : Addr) (ss : List Str), xs = [V.ref l] ∧ (SqL K H l (ss.map V.str) ∨ SqT K H l (ss.map V.str)) ∧ ss.length ≤ 1000 ∧
  ∀ a zs, H a = none → zs.Nodup → (∀ y, y ∈ zs ↔ y ∈ ss) → zs.length ≤ ss.length → Q (.ref a) (upd H a (TxtO P w a zs))
theorem nd_of {P : Program} {w : World} {h : Heap} {a : Addr} {zs : List Str} (R : TxtSet P w h a zs) : zs.Nodup := by
  obtain ⟨_, _, _, _, _, ⟨_, _, nd⟩, _⟩ := R
  exact nd
theorem cr_setS (hc : X.calm = true) : CallR X (.type "set") (rSetS X.K X.prog X.w) := by
  intro pins s σ H xs us Q I r h
  obtain ⟨l, ss, rfl, hl, hf, q⟩ := h
  rw [Vals.ref1 r]
  have hb : ss.length + 1 < scanBound := by unfold scanBound; omega
  have hn : H s.heap.objs.size = none := I.hok.fresh (Nat.le_refl _)
  have go : ∀ (h' : Heap) (tk : Nat) zs, TxtSet X.prog X.w h' s.heap.objs.size zs → Met ss ss.length zs → (∀ b o, s.heap.get? b = some o → h'.get? b = some o) →
      EP X pins σ Q (.ref s.heap.objs.size) { s with heap := h', toks := tk } := fun h' tk zs R m k => by
    refine ⟨.ref s.heap.objs.size, upd H s.heap.objs.size (TxtO X.prog X.w s.heap.objs.size zs), I.laid (t' := tk) k (Nat.le_refl _) (txtO_new R), rfl, q _ zs hn (nd_of R) (fun y => ?_) m.2⟩
    rw [m.1 y, List.take_length]
  rcases hl with hl | hl
  · obtain ⟨its, rv, pl, hz⟩ := I.list hl
    exact of_list (P := X.prog) (w := X.w) (I.ok.hd hc) pl.isList (by simpa using strsAre_vals rv) hb go
  · obtain ⟨its, rv, pl, hz⟩ := I.tuple hl
    exact of_tuple (P := X.prog) (w := X.w) (I.ok.hd hc) pl (by simpa using strsAre_vals rv) hb go
/-- sorted(set of texts) -/
def rSortedSS (P : Program) (w : World) : List V → Hp → VK → Prop := fun vs H Q => ∃ (a : Addr) (zs : List Str), vs = [V.ref a] ∧ H a = some (TxtO P w a zs) ∧ zs.length ≤ 1000 ∧
  ∀ ys p, ys.Perm zs → sortedS ys = true → H p = none → Q (.ref p) (upd H p (.lst (ys.map V.str)))
theorem cr_sortedSS (hc : X.calm = true) : CallR X (.builtin "sorted") (rSortedSS X.prog X.w) := by
  intro pins s σ H vs us Q I r h
  obtain ⟨a, zs, rfl, ha, hz, q⟩ := h
  have R : TxtSet X.prog X.w s.heap a zs := (I.hok a _ ha).1
  rw [Vals.ref1 r]
  refine sorted_ R (I.ok.hd hc) fun s' p out c ys k g o hp hg hy pm so => ?_
  have hlen : (ys.map V.str).length ≤ sizeLine := by rw [List.length_map, pm.length_eq, sizeLine_eq]; omega
  have hn : H p = none := I.hok.fresh hp
  have J : Inv X pins σ (upd H p (.lst (ys.map V.str))) { s with heap := s'.heap, gens := s'.gens, drawn := s'.drawn, toks := s'.toks } :=
    I.call (ch := []) (Un.laid k hp hn) (I.hok.laid k hp ⟨hlen, out.toList, c, vals_of_strs hy, hg⟩) (by rw [g]; exact I.bare) (fun _ z => nomatch z)
  have e : s' = { s with heap := s'.heap, gens := s'.gens, drawn := s'.drawn, toks := s'.toks } := by
    cases s'
    cases s
    cases o
    rfl
  rw [e]
  exact ⟨.ref p, _, J, rfl, q ys p pm so hn⟩
end
end SetS
namespace Sc
open PySem PySem.Spec PyProof.Rows L2
/-! ### lists of truths, of ints, as data -/
section
variable {K : PySem.W.Frag} {H : Hp}
theorem ad_bools {p : Addr} {bs : List Bool} (e : H p = some (.lst (bs.map V.bl))) (hl : bs.length ≤ 100000) : AD H 1 (.ref p) (.list (bs.map PyData.bool)) := by
  refine .lst e (by rw [List.length_map, List.length_map]) (by rw [List.length_map]; omega) fun i x d hx hd => ?_
  rw [List.getElem?_map] at hx hd
  cases h : bs[i]? with
  | none => rw [h] at hx; cases hx
  | some z =>
    rw [h] at hx hd
    cases hx
    cases hd
    exact .bl 0 z
theorem dp_bools (K : PySem.W.Frag) (H : Hp) : ∀ bs : List Bool, DpAll K H (bs.map V.bl) (bs.map PyData.bool)
  | [] => .nil
  | b :: r => .cons (.bl b) (dp_bools K H r)
theorem dp_ints (K : PySem.W.Frag) (H : Hp) : ∀ ns : List Int, DpAll K H (ns.map V.int) (ns.map PyData.int)
  | [] => .nil
  | b :: r => .cons (.int b) (dp_ints K H r)
theorem bools_lay : ∀ bs : List Bool, PyData.canLayAll0 (bs.map PyData.bool) = true
  | [] => rfl
  | b :: r => by
    show ((PyData.bool b).canLay0 && PyData.canLayAll0 (r.map PyData.bool)) = true
    rw [bools_lay r]
    rfl
theorem bools_depth : ∀ bs : List Bool, PyData.depthAll (bs.map PyData.bool) = 0
  | [] => rfl
  | b :: r => by
    show max (PyData.bool b).depth (PyData.depthAll (r.map PyData.bool)) = 0
    rw [bools_depth r]
    rfl
theorem ints_lay : ∀ bs : List Int, PyData.canLayAll0 (bs.map PyData.int) = true
  | [] => rfl
  | b :: r => by
    show ((PyData.int b).canLay0 && PyData.canLayAll0 (r.map PyData.int)) = true
    rw [ints_lay r]
    rfl
theorem ints_depth : ∀ bs : List Int, PyData.depthAll (bs.map PyData.int) = 0
  | [] => rfl
  | b :: r => by
    show max (PyData.int b).depth (PyData.depthAll (r.map PyData.int)) = 0
    rw [ints_depth r]
    rfl
theorem shB {bs : List Bool} : SeqAt.shaped (.list (bs.map PyData.bool)) = true := by
  unfold SeqAt.shaped
  have e1 : (PyData.list (bs.map PyData.bool)).canLay0 = true := bools_lay bs
  have e2 : (PyData.list (bs.map PyData.bool)).depth = 1 := by show PyData.depthAll (bs.map PyData.bool) + 1 = 1; rw [bools_depth]
  rw [e1, e2]
  rfl
theorem shI {bs : List Int} : SeqAt.shaped (.list (bs.map PyData.int)) = true := by
  unfold SeqAt.shaped
  have e1 : (PyData.list (bs.map PyData.int)).canLay0 = true := ints_lay bs
  have e2 : (PyData.list (bs.map PyData.int)).depth = 1 := by show PyData.depthAll (bs.map PyData.int) + 1 = 1; rw [ints_depth]
  rw [e1, e2]
  rfl
theorem eqvI_nil : ∀ xs : List Int, (PyData.list (xs.map PyData.int)).eqv (.list []) = decide (xs = [])
  | [] => rfl
  | _ :: _ => rfl
theorem eqvB_self (bs : List Bool) : (PyData.list (bs.map PyData.bool)).eqv (.list (bs.map PyData.bool)) = true := SeqAt.eqv_refl _ (bools_lay bs)
theorem flat_bools : ∀ bs : List Bool, (bs.map V.bl).all flatV = true
  | [] => rfl
  | b :: r => by
    show (flatV (V.bl b) && (r.map V.bl).all flatV) = true
    rw [flat_bools r]
    rfl
theorem inV_true : ∀ bs : List Bool, inV (.bl true) (bs.map V.bl) = bs.any id
  | [] => rfl
  | b :: r => by
    rw [List.any_cons, ← inV_true r]
    cases b <;> rfl
end
/-! ### the truths of a condition over all cases -/
def metB (hs ks fs : List Str) (n : Nat) : List Bool := (List.range n).map fun k => meets hs ks (caseOf fs k)
theorem metB_len {hs ks fs : List Str} {n : Nat} : (metB hs ks fs n).length = n := by unfold metB; rw [List.length_map, List.length_range]
theorem metB_more {hs ks fs : List Str} {n : Nat} : metB hs ks fs (n + 1) = metB hs ks fs n ++ [meets hs ks (caseOf fs n)] := by
  unfold metB
  rw [List.range_succ, List.map_append]
  rfl
theorem metB_at {hs ks fs : List Str} {n i : Nat} (h : i < n) : (metB hs ks fs n)[i]? = some (meets hs ks (caseOf fs i)) := by
  unfold metB
  rw [List.getElem?_map, List.getElem?_range h]
  rfl
def bothB (hs ks gs ls fs : List Str) (n : Nat) : List Bool := (List.range n).map fun k => meets hs ks (caseOf fs k) && meets gs ls (caseOf fs k)
theorem bothB_len {hs ks gs ls fs : List Str} {n : Nat} : (bothB hs ks gs ls fs n).length = n := by unfold bothB; rw [List.length_map, List.length_range]
theorem bothB_more {hs ks gs ls fs : List Str} {n : Nat} : bothB hs ks gs ls fs (n + 1) = bothB hs ks gs ls fs n ++ [meets hs ks (caseOf fs n) && meets gs ls (caseOf fs n)] := by
  unfold bothB
  rw [List.range_succ, List.map_append]
  rfl
theorem bothB_joined {hs ks gs ls fs : List Str} {n : Nat} : metB (mrg hs gs) (mrg ks ls) fs n = bothB hs ks gs ls fs n := by
  unfold metB bothB
  exact List.map_congr_left fun k _ => meets_mrg
theorem bothB_any {hs ks gs ls fs : List Str} (h1 : ∀ x ∈ hs, x ∈ fs) (h2 : ∀ x ∈ gs, x ∈ fs) : (bothB hs ks gs ls fs (2 ^ fs.length)).any id = !meetN (mrg hs gs) (mrg ks ls) := by
  have e := both_iff (ks := ks) (ls := ls) h1 h2
  cases c : meetN (mrg hs gs) (mrg ks ls) with
  | false =>
    obtain ⟨n, hn, q⟩ := e.mpr c
    refine List.any_eq_true.mpr ⟨true, ?_, rfl⟩
    unfold bothB
    exact List.mem_map.mpr ⟨n, List.mem_range.mpr hn, q⟩
  | true =>
    refine List.any_eq_false.mpr fun b hb z => ?_
    unfold bothB at hb
    obtain ⟨n, hn, q⟩ := List.mem_map.mp hb
    have z : b = true := z
    have := e.mp ⟨n, List.mem_range.mp hn, q.trans z⟩
    rw [c] at this
    cases this
/-- the cases that meet the one and not the other -/
def outL (hs ks gs ls fs : List Str) (n : Nat) : List Int := ((List.range n).filter fun k => meets hs ks (caseOf fs k) && !meets gs ls (caseOf fs k)).map fun (k : Nat) => (k : Int)
theorem outL_len {hs ks gs ls fs : List Str} {n : Nat} : (outL hs ks gs ls fs n).length ≤ n := by
  unfold outL
  rw [List.length_map]
  exact Nat.le_trans (List.length_filter_le _ _) (Nat.le_of_eq List.length_range)
theorem outL_more {hs ks gs ls fs : List Str} {n : Nat} : outL hs ks gs ls fs (n + 1) = outL hs ks gs ls fs n ++ if (meets hs ks (caseOf fs n) && !meets gs ls (caseOf fs n)) = true then [(n : Int)] else [] := by
  unfold outL
  rw [List.range_succ, List.filter_append, List.map_append, filter1]
  split <;> rfl
theorem outL_nil {hs ks gs ls fs : List Str} (h1 : ∀ x ∈ hs, x ∈ fs) (h2 : ∀ x ∈ ls, x ∈ fs) (d : ∀ x ∈ hs, ¬ x ∈ ks) : decide (outL hs ks gs ls fs (2 ^ fs.length) = []) = withinC hs ks gs ls := by
  have e := within_iff (gs := gs) h1 h2 d
  have f : outL hs ks gs ls fs (2 ^ fs.length) = [] ↔ withinC hs ks gs ls = true := by
    rw [e]
    unfold outL
    rw [List.map_eq_nil_iff, List.filter_eq_nil_iff]
    constructor
    · intro q n hn
      have := q n (List.mem_range.mpr hn)
      cases c : (meets hs ks (caseOf fs n) && !meets gs ls (caseOf fs n)) with
      | false => rfl
      | true => exact absurd c this
    · intro q n hn z
      rw [q n (List.mem_range.mp hn)] at z
      cases z
  cases c : withinC hs ks gs ls with
  | true => exact decide_eq_true (f.mpr c)
  | false => exact decide_eq_false fun z => by rw [f.mp z] at c; cases c
/-- sorted rows of the same names, none twice -/
theorem names_eq {ys zs ws bs ws2 bs2 : List Str} (g1 : Good ws) (g2 : Good bs) (g3 : Good ws2) (g4 : Good bs2) (hm : meetN (mrg ws ws2) (mrg bs bs2) = false)
    (nd : zs.Nodup) (mem : ∀ y, y ∈ zs ↔ y ∈ srt (ws ++ bs) ++ srt (ws2 ++ bs2)) (p : ys.Perm zs) (so : sortedS ys = true) : ys = srt (mrg ws ws2 ++ mrg bs bs2) := by
  have nd2 : (mrg ws ws2 ++ mrg bs bs2).Nodup := by
    rw [List.nodup_append]
    refine ⟨(g1.mrg g3).nodup, (g2.mrg g4).nodup, fun a ha b hb e => ?_⟩
    subst e
    unfold meetN at hm
    exact List.any_eq_false.mp hm a ha (decide_eq_true hb)
  refine srt_uniq (p.trans ((List.perm_ext_iff_of_nodup nd nd2).mpr fun y => ?_)) so
  rw [mem, List.mem_append, List.mem_append, (srt_perm _).mem_iff, (srt_perm _).mem_iff, List.mem_append, List.mem_append, mem_mrg, mem_mrg]
  constructor
  · rintro ((h | h) | (h | h))
    · exact .inl (.inl h)
    · exact .inr (.inl h)
    · exact .inl (.inr h)
    · exact .inr (.inr h)
  · rintro ((h | h) | (h | h))
    · exact .inl (.inl h)
    · exact .inr (.inl h)
    · exact .inl (.inr h)
    · exact .inr (.inr h)
end Sc
namespace Sc
open PySem PySem.Spec PyProof.Rows L2
abbrev s_law : Stmt := topS 42
theorem sc_law : FnScope ["_law_script", "_law_h", "_law_time", "_law_facts_here", "_law_every_here", "_law_mine", "_law_yours", "_law_within", "_law_both", "_law_due", "_law_joined", "_law_names", "_law_more", "_law_cut", "_law_first", "_law_long", "_law_one", "_law_second", "_law_two", "_law_case_here", "_law_k"] ["_law_script"] (defScope s_law) := ⟨rfl, rfl, rfl, by decide +kernel, rfl, by decide +kernel, by decide +kernel⟩
theorem wk_ps {X : Cx} {st : Stmt} {t : TS} (t' : TS) (h : PS X st t) (w : ∀ D σ H, t' D σ H → t D σ H) : PS X st t' := ⟨fun pins s σ H D I x => h.run pins s σ H D I (w D σ H x)⟩
/-- where the law's body stands -/
abbrev lawX (P : Program) (w : World) (K : PySem.W.Frag) (mg : Str → Option Value) (base : Heap) (f c : Addr) (A : Around) (outer : List Env) (s : Shared) (H : Hp) (E : XK) : Cx :=
  (cxOf CX0 P w K mg base ["_law_script", "_law_h", "_law_time", "_law_facts_here", "_law_every_here", "_law_mine", "_law_yours", "_law_within", "_law_both", "_law_due", "_law_joined", "_law_names", "_law_more", "_law_cut", "_law_first", "_law_long", "_law_one", "_law_second", "_law_two", "_law_case_here", "_law_k"] "law" (defScope s_law) f (.ref c) A outer s H E).nox
section
variable {P : Program} {w : World} {K : PySem.W.Frag} {mg : Str → Option Value} {base : Heap} {a l : Addr} {H H' H'' : Hp} {C CC CN : Addr}
/-- a pair of parts -/
structure PairAt (K : PySem.W.Frag) (H : Hp) (p : Addr) (ws bs : List Str) : Prop where
  at_ : ∃ pw pb, H p = some (.tup [.ref pw, .ref pb]) ∧ SqT K H pw (ws.map V.str) ∧ SqT K H pb (bs.map V.str)
theorem PairAt.kp {p : Addr} {ws bs : List Str} (h : PairAt K H p ws bs) (k : Kp a l H H') : PairAt K H' p ws bs := by
  obtain ⟨pw, pb, h1, h2, h3⟩ := h.at_
  exact ⟨pw, pb, k.obj h1 (fun _ z => nomatch z), k.tup h2, k.tup h3⟩
theorem PairAt.same {p : Addr} {ws bs : List Str} (h : PairAt K H p ws bs) (k : Same H H') : PairAt K H' p ws bs := by
  obtain ⟨pw, pb, h1, h2, h3⟩ := h.at_
  exact ⟨pw, pb, k _ _ h1, k.tup h2, k.tup h3⟩
theorem PairAt.ext {p : Addr} {ws bs : List Str} (h : PairAt K H p ws bs) (k : LamX.ExtN H H') : PairAt K H' p ws bs := by
  obtain ⟨pw, pb, h1, h2, h3⟩ := h.at_
  exact ⟨pw, pb, k _ _ h1 (fun _ z => nomatch z), sqT_ext k h2, sqT_ext k h3⟩
theorem CondAt.ext {o : Addr} {hs fs : List Str} (h : CondAt K C H o hs fs) (k : LamX.ExtN H H') : CondAt K C H' o hs fs := by
  obtain ⟨dx, a, b, n, zs, h1, h2, h3, h4, h5⟩ := h.at_
  exact ⟨dx, a, b, n, zs, k _ _ h1 (fun _ z => nomatch z), sqT_ext k h2, sqT_ext k h3, k _ _ h4 (fun _ z => nomatch z), h5⟩
theorem Cases.ext {p : Addr} {fs : List Str} {n : Nat} (c : Cases H p fs n) (k : LamX.ExtN H H') : Cases H' p fs n := by
  obtain ⟨ps, h1, h2, h3⟩ := c.at_
  exact ⟨ps, h1, k _ _ h2 (fun _ z => nomatch z), fun i b e => k _ _ (h3 i b e) (fun _ z => nomatch z)⟩
abbrev dPair (ws bs : List Str) : PyData := .tuple [.tuple (ws.map PyData.str), .tuple (bs.map PyData.str)]
theorem PairAt.dp {p : Addr} {ws bs : List Str} (h : PairAt K H p ws bs) : Dp K H (.ref p) (dPair ws bs) := by
  obtain ⟨pw, pb, h1, h2, h3⟩ := h.at_
  exact .tup (sqT_of h1) (.cons (dp_strs h2) (.cons (dp_strs h3) .nil))
theorem sh_pair {ws bs : List Str} (h1 : Fines ws) (h2 : Fines bs) : SeqAt.shaped (dPair ws bs) = true := by
  unfold SeqAt.shaped
  have e1 : (dPair ws bs).canLay0 = true := by
    show ((PyData.tuple (ws.map PyData.str)).canLay0 && ((PyData.tuple (bs.map PyData.str)).canLay0 && true)) = true
    rw [show (PyData.tuple (ws.map PyData.str)).canLay0 = true from strs_lay h1, show (PyData.tuple (bs.map PyData.str)).canLay0 = true from strs_lay h2]
    rfl
  have e2 : (dPair ws bs).depth = 2 := by
    show max (PyData.depthAll (ws.map PyData.str) + 1) (max (PyData.depthAll (bs.map PyData.str) + 1) 0) + 1 = 2
    rw [strs_depth, strs_depth]
    rfl
  rw [e1, e2]
  rfl
theorem eqv_pair {ws bs ws2 bs2 : List Str} : (dPair ws bs).eqv (dPair ws2 bs2) = (decide (ws = ws2) && decide (bs = bs2)) := by
  show (PyData.eqvAll (ws.map PyData.str) (ws2.map PyData.str) && (PyData.eqvAll (bs.map PyData.str) (bs2.map PyData.str) && true)) = _
  rw [eqvA, eqvA, Bool.and_true]
theorem ok_none : (PyData.str (Str.ofString "none")).canLay0 = true := by decide +kernel
theorem ok_never : (PyData.str (Str.ofString "never")).canLay0 = true := by decide +kernel
theorem nn_eq : (dOne "never").eqv (dOne "none") = false := by decide +kernel
/-- the loop's state between two rounds -/
def LoopI (PT a l : Addr) (σ : L2.St) (H : Hp) : Prop := ∃ (y0 y2 y3 y4 y5 y6 y7 y8 y9 y10 y11 y12 y13 y14 y15 y16 y17 y18 y19 y20 : Option V), σ = [y0, some (.ref a), y2, y3, y4, y5, y6, y7, y8, y9, y10, y11, y12, y13, y14, y15, y16, y17, y18, y19, y20] ∧ RS H a l ∧ LamX.Tabs [(PT, qLam)] H
def tDue (K : PySem.W.Frag) : TS := fun D σ H => ∃ (lb : Addr) (bs : List Bool), σ[8]? = some (some (.ref lb)) ∧ SqL K H lb (bs.map V.bl) ∧ ∀ H' p, Same H H' → H' p = some (.tup [.str (if bs.any id = true then "none" else "never")]) → D.nx (σ.set 9 (some (.ref p))) H'
/-- the two conditions are compared and joined -/
def tT1 (K : PySem.W.Frag) (C PT : Addr) : TS := fun D σ H => ∃ (a l fp pe D1 D2 p1 p3 o1 o2 : Addr) (fs ws bs ws3 bs3 : List Str) (y0 y2 y7 y8 y9 y10 y11 y12 y13 y15 y19 y20 : Option V),
  σ = [y0, some (.ref a), y2, some (.ref fp), some (.ref pe), some (.ref D1), some (.ref D2), y7, y8, y9, y10, y11, y12, y13, some (.ref o1), y15, some (.ref p1), some (.ref o2), some (.ref p3), y19, y20] ∧
  (RS H a l ∧ LamX.Tabs [(PT, qLam)] H) ∧ (Good fs ∧ fs.length ≤ 6 ∧ Parts fs ws bs 4 ∧ Parts fs ws3 bs3 4) ∧ (CondAt K C H o1 ws bs ∧ CondAt K C H o2 ws3 bs3 ∧ PairAt K H p1 ws bs ∧ PairAt K H p3 ws3 bs3) ∧
  (Cases H pe fs (2 ^ fs.length) ∧ H D1 = some (.lst ((metB ws bs fs (2 ^ fs.length)).map V.bl)) ∧ H D2 = some (.lst ((metB ws3 bs3 fs (2 ^ fs.length)).map V.bl))) ∧ ∀ σ' H', LoopI PT a l σ' H' → D.nx σ' H'
theorem ok_t1 {f c PT : Addr} {g : Addr} {fdE : FuncData} {cl : Nat → Addr} {CE : Addr} (B : Blt mg) (G : GErr mg cl CE)
    (FE : Fun K "_law_error" "_law_error" s__law_error g fdE) (mE : mg "_law_error" = some (.ref g)) (bE : Binds K fdE ["_law_call"] []) (TB : LamX.TabB base mg c PT)
    (eC : ErrRow K cl CE CC 3) (eN : ErrRow K cl CE CN 4) (nKC : PySem.W.kitOne K (.type "tuple") (.ref C) = some false) (nfT : PySem.W.notFirst K C (.type "tuple") = true) (kX : CondX P w K mg base C CC CN)
    {A : Around} {outer : List Env} {s : Shared} {H0 : Hp} {E : XK} (hr : Room 8 (A.deeper (envOfC "law" (defScope s_law) s.heap.objs.size f (.ref c)))) :
    PSs (lawX P w K mg base f c A outer s H0 E) ((forB (stAt (defBody s_law) 1)).drop 10) (tT1 K C PT) := by
  refine wk_ss _ (pss_cons (ps_if (PW.pt (pw_or (pt_cmpR op_ne (pe_cmpR (op_ceq kX (hr.mono (by decide))) (pv 14) (pv 17) (nomark _)) (pe_cmpR (op_eqD hr.units) (pv 16) (pv 18) (nomark _)) (nomark _)) (pw_or (pt_cmpR op_ne (pe_cmpR (op_cne kX (hr.mono (by decide))) (pv 14) (pv 17) (nomark _)) (pe_cmpR (op_neD hr.units) (pv 16) (pv 18) (nomark _)) (nomark _)) (pw_or1 (pt_cmpR (op_ceq kX (hr.mono (by decide))) (pv 14) (pv 16) (nomark _)))))) (pss_one (ps_ret pe_bl)) pss_nil)
      (pss_cons (ps_setLc (i := 8) (own := [("_law_k", 20)]) (g := gName 20) (tt := tYes) rfl sc_law.nd rfl rfl (sw_true rfl rfl rfl (by decide +kernel)) (pi_range1 (by rfl) B.b_range (pa_cons (pe_callB call_len_seq (by rfl) B.b_len PySem.boot_len (pa_cons (pv 4) pa_nil)) pa_nil)) (blkOk_by (own := [("_law_k", 20)]) (N := ["_law_script", "_law_h", "_law_time", "_law_facts_here", "_law_every_here", "_law_mine", "_law_yours", "_law_within", "_law_both", "_law_due", "_law_joined", "_law_names", "_law_more", "_law_cut", "_law_first", "_law_long", "_law_one", "_law_second", "_law_two", "_law_case_here", "_law_k"]) (sc := defScope s_law) (by decide +kernel)) (fun _ _ _ _ _ => (pg_name (i := 20) sc_law.nd rfl (Or.inl rfl))) (fun _ _ _ _ _ => pts_nil) (fun _ _ _ _ _ => (pe_.re (pe_and (pe_ix ix_list (pv 5) (pv 20) (fun _ _ => rfl)) (pe_one (pe_ix ix_list (pv 6) (pv 20) (fun _ _ => rfl)))) (by first | (dsimp only [Cx.blk]; done) | exact rfl))))
      (pss_cons (wk_ps (tDue K) (ps_set (i := 9) sc_law.nd rfl (Or.inl rfl) (pe_ifExp (pt_cmpR op_in_seq pe_bl (pv 8) rfl) (pe_tup (pa_cons pe_str pa_nil)) (pe_tup (pa_cons pe_str pa_nil)))) ?wd)
      (pss_cons (ps_if (pt_cmpR (op_neD hr.units) (pe_errlam FE mE bE B G TB rfl (hr.mono (by decide)) (LamX.lamS_by (show LamX.lamSB (defScope s_law) _ = true by decide +kernel)) rfl (fun _ _ _ _ _ => rfl) (fun A' outer' s' H' E' f' c' hr' => (pe_.re (pe_op (op_candX kX hr' (takes_of rfl rfl rfl rfl)) (pv 14) (pv 17)) (by first | (dsimp only [LamX.lamCx]; done) | exact rfl)))) (pv 9) (nomark _)) (pss_one (ps_ret pe_bl)) pss_nil)
      (pss_one (ps_if (pt_cmpR (op_eqD hr.units) (pv 9) (pe_tup (pa_cons pe_str pa_nil)) (nomark _)) (pss_cons (ps_set (i := 10) sc_law.nd rfl (Or.inr rfl) (pe_op (op_candN kX (hr.mono (by decide))) (pv 14) (pv 17)))
      (pss_cons (ps_set (i := 11) sc_law.nd rfl (Or.inl rfl) (pe_callTy call_tuple_of (by rfl) B.b_tuple PyProof.Rows.boot_tuple (pa_cons (pe_callB (SetS.cr_sortedSS rfl) (by rfl) B.b_sorted (by decide +kernel) (pa_cons (pe_callTy (SetS.cr_setS rfl) (by rfl) B.b_set (by decide +kernel) (pa_cons (pe_op op_catA (pe_cprop kX.names kX.cls (hr.mono (by decide)) (pv 14)) (pe_cprop kX.names kX.cls (hr.mono (by decide)) (pv 17))) pa_nil)) pa_nil)) pa_nil)))
      (pss_one (ps_if (PW.pt (pw_or (pt_cmpR (op_neD hr.units) (pe_lc (own := [("_law_case_here", 19)]) (g := gName 19) (tt := tYes) rfl sc_law.nd (pi_list (pv 4)) (blkOk_by (own := [("_law_case_here", 19)]) (N := ["_law_script", "_law_h", "_law_time", "_law_facts_here", "_law_every_here", "_law_mine", "_law_yours", "_law_within", "_law_both", "_law_due", "_law_joined", "_law_names", "_law_more", "_law_cut", "_law_first", "_law_long", "_law_one", "_law_second", "_law_two", "_law_case_here", "_law_k"]) (sc := defScope s_law) (by decide +kernel)) (fun _ _ _ _ _ => (pg_name (i := 19) sc_law.nd rfl (Or.inl rfl))) (fun _ _ _ _ _ => pts_nil) (fun _ _ _ _ _ => (pe_.re (pe_cc kX (hr.mono (by decide)) (pv 10) (pa_cons (pv 19) pa_nil)) (by first | (dsimp only [Cx.blk]; done) | exact rfl)))) (pv 8) (nomark _)) (pw_or1 (pt_cmpR (op_neD hr.units) (pe_cprop kX.names kX.cls (hr.mono (by decide)) (pv 10)) (pv 11) (nomark _))))) (pss_one (ps_ret pe_bl)) pss_nil)))) pss_nil)))))) ?_
  case wd =>
    rintro D σ H ⟨lb, bs, e8, hb, q⟩
    have one : ([V.str "none"] : List V).length ≤ sizeLine := by show 1 ≤ sizeLine; decide
    refine ⟨.ref lb, e8, lb, _, rfl, .inl hb, rfl, flat_bools bs, _, rfl, bcase (fun c1 => ?_) (fun c1 => ?_)⟩
    · have c1 : bs.any id = true := by rw [← inV_true]; exact c1
      refine ⟨(by show 1 ≤ sizeLine; decide), fun p np => q _ p ((Same.refl H).put np) ?_⟩
      rw [upd_same, if_pos c1]
    · have c1 : bs.any id = false := by rw [← inV_true]; exact c1
      refine ⟨(by show 1 ≤ sizeLine; decide), fun p np => q _ p ((Same.refl H).put np) ?_⟩
      rw [upd_same, if_neg (by rw [c1]; exact Bool.false_ne_true)]
  rintro D σ H ⟨a, l, fp, pe, D1, D2, p1, p3, o1, o2, fs, ws, bs, ws3, bs3, y0, y2, y7, y8, y9, y10, y11, y12, y13, y15, y19, y20, rfl, ⟨R, Tb⟩, ⟨gfs, lfs, P1, P3⟩, ⟨c1, c2, pr1, pr3⟩, ⟨Ce, e14, e15⟩, q⟩
  have g1 : Good ws := gfs.sub P1.s1
  have g2 : Good bs := gfs.sub P1.s2
  have g3 : Good ws3 := gfs.sub P3.s1
  have g4 : Good bs3 := gfs.sub P3.s2
  have tf := twelve_fine
  have fw : Fines ws := g1.fines tf
  have fb : Fines bs := g2.fines tf
  have fw3 : Fines ws3 := g3.fines tf
  have fb3 : Fines bs3 := g4.fines tf
  have shp := sh_pair fw fb
  have shp3 := sh_pair fw3 fb3
  have nfS : PySem.W.notFirst K C (.ref C) = true := by simp [PySem.W.notFirst]
  obtain ⟨dx1, ca1, cb1, cn1, cz1, ho1, _⟩ := id c1.at_
  obtain ⟨dx2, ca2, cb2, cn2, cz2, ho2, _⟩ := id c2.at_
  refine ⟨.ref o1, rfl, .ref o2, rfl, o1, dx1, _, _, rfl, ho1, .ins ho2, nfS, ⟨o1, .ref o2, ws, bs, rfl, c1, fw, fb, .inl ⟨o2, ws3, bs3, rfl, c2, fw3, fb3, .ref p1, rfl, .ref p3, rfl, dPair ws bs, dPair ws3 bs3, pr1.dp, pr3.dp, shp, shp3, ?_⟩⟩⟩
  rw [eqv_pair]
  refine ⟨rfl, _, rfl, ?_⟩
  rw [decide_eq_true rfl]
  refine iteF ?_
  refine ⟨.ref o1, rfl, .ref o2, rfl, o1, dx1, _, _, rfl, ho1, .ins ho2, nfS, ⟨o1, .ref o2, ws, bs, rfl, c1, fw, fb, .inl ⟨o2, ws3, bs3, rfl, c2, fw3, fb3, ?_⟩⟩⟩
  refine ⟨_, rfl, .ref p1, rfl, .ref p3, rfl, dPair ws bs, dPair ws3 bs3, pr1.dp, pr3.dp, shp, shp3, ?_⟩
  rw [eqv_pair]
  refine ⟨rfl, _, rfl, ?_⟩
  rw [decide_eq_true rfl]
  refine iteF ?_
  obtain ⟨pw, pb, ep1, _, _⟩ := id pr1.at_
  refine ⟨.ref o1, rfl, .ref p1, rfl, o1, dx1, _, _, rfl, ho1, .tup (sqT_of ep1), nfT, ⟨o1, .ref p1, ws, bs, rfl, c1, fw, fb, .inr ⟨.type "tuple", .tup ep1, nKC, _, rfl, iteF ?_⟩⟩⟩
  have sbw := bothB_any (ks := bs) (ls := bs3) (fun x hx => P1.s1.subset hx) (fun x hx => P3.s1.subset hx)
  have two : 2 ^ fs.length ≤ 64 := (Nat.pow_le_pow_right (by decide) lfs : 2 ^ fs.length ≤ 2 ^ 6)
  obtain ⟨ps, hps, ePs, hcs⟩ := id Ce.at_
  generalize 2 ^ fs.length = N at sbw two Ce hps e14 e15
  refine ⟨.ref pe, rfl, pe, _, rfl, .inl (sqL_of ePs), _, rfl, by rw [List.length_map, hps]; omega, by rw [List.length_map, hps]; omega, ?_⟩
  rw [List.length_map, hps]
  refine fun D4 nD4 => lc_it walk_range (fun i H' => Same H H' ∧ H' D4 = some (.lst ((bothB ws bs ws3 bs3 fs i).map V.bl))) ⟨(Same.refl H).put nD4, upd_same⟩ (fun _ _ _ _ => trivial) ?_ ?_
  · rintro i y Ha Hb hi ⟨sa, ea⟩ ⟨rfl, hy⟩
    replace hy : y = V.int (i : Nat) := by
      rw [hy]
      show V.int (0 + (i : Nat)) = _
      rw [Int.zero_add]
    subst hy
    have hi : i < N := by simpa using hi
    have atB : ∀ (a b : List Str), ((metB a b fs N).map V.bl)[i]? = some (.bl (meets a b (caseOf fs i))) := fun a b => by rw [List.getElem?_map, metB_at hi]; rfl
    have lb : ((bothB ws bs ws3 bs3 fs i).map V.bl).length < sizeLine := by
      rw [List.length_map, bothB_len, sizeLine_eq]
      omega
    refine ⟨rfl, yes_ ⟨.ref D1, rfl, .int (i : Nat), rfl, D1, _, _, _, rfl, rfl, sqL_of (sa _ _ e14), atI_nat (atB ws bs), _, rfl, bcase (fun m1 => ?_) (fun m1 => ?_)⟩⟩
    · refine ⟨.ref D2, rfl, .int (i : Nat), rfl, D2, _, _, _, rfl, rfl, sqL_of (sa _ _ e15), atI_nat (atB ws3 bs3), grow (acc := fun i => (bothB ws bs ws3 bs3 fs i).map V.bl) nD4 sa ea lb ?_⟩
      show List.map V.bl _ = _
      rw [bothB_more, List.map_append, m1, Bool.true_and]
      rfl
    · refine grow (acc := fun i => (bothB ws bs ws3 bs3 fs i).map V.bl) nD4 sa ea lb ?_
      show List.map V.bl _ = _
      rw [bothB_more, List.map_append, m1, Bool.false_and]
      rfl
  rintro H1 ⟨s1, e1⟩
  replace e1 : H1 D4 = some (.lst ((bothB ws bs ws3 bs3 fs N).map V.bl)) := e1
  refine ⟨D4, _, rfl, sqL_of e1, fun H2 dp s2 edp => ?_⟩
  rw [sbw] at edp
  have s12 := s1.trans s2
  replace c1 := c1.same s12
  replace c2 := c2.same s12
  have R2 := R.same s12
  have Tb2 := tabs_kp (Kp.of R s12) Tb
  replace Ce := Ce.same s12
  have e2 := s2 _ _ e1
  have l8 := P1.l8
  have l83 := P3.l8
  have m1 := mrg_len (xs := ws) (ys := ws3)
  have m2 := mrg_len (xs := bs) (ys := bs3)
  have le1 := P1.le
  have le3 := P3.le
  have n0 : firstWrong (mrg ws ws3) [] = none := (g1.mrg g3).none (by simp; omega) (fun _ _ z => nomatch z)
  have n1 : meetN (mrg ws ws3) (mrg bs bs3) = false → firstWrong (mrg bs bs3) (mrg ws ws3) = none := fun hm => (g2.mrg g4).none (by omega) fun x hx hw => by
    unfold meetN at hm
    exact List.any_eq_false.mp hm x hw (decide_eq_true hx)
  refine ⟨Tb2, fun H3 x3 Tb3 => ?_⟩
  have R3 := R2.ext x3
  replace c1 := c1.ext x3
  replace c2 := c2.ext x3
  replace Ce := Ce.ext x3
  replace edp := x3 _ _ edp (fun _ z => nomatch z)
  replace e2 := x3 _ _ e2 (fun _ z => nomatch z)
  obtain ⟨dx1, ca1, cb1, cn1, cz1, ho1, _⟩ := id c1.at_
  obtain ⟨dx2, ca2, cb2, cn2, cz2, ho2, _⟩ := id c2.at_
  refine ⟨.ref o1, rfl, .ref o2, rfl, o1, dx1, _, o2, dx2, _, rfl, rfl, ho1, ho2, o1, o2, ws, bs, ws3, bs3, rfl, c1, c2, fw.txts, fb.txts, fw3.txts, fb3.txts, by omega, by omega, fun hm H4 s4 => ?_, fun hm => ⟨fun i ei => absurd (n0.symm.trans ei) (fun z => nomatch z), fun _ => ⟨fun i ei => absurd ((n1 hm).symm.trans ei) (fun z => nomatch z), fun _ H4 o4 s4 _ C4 => ?_⟩⟩⟩
  · refine ⟨CN, 4, _, rfl, eN, .plain (fun _ e => nomatch e) (by decide) (by decide) (by decide) (by decide) (by decide), fun H5 p s5 e5 _ => ?_⟩
    rw [hm] at edp
    have s35 := s4.trans s5
    have ed5 : H5 dp = some (.tup [.str "never"]) := s35 _ _ edp
    refine ⟨.ref dp, rfl, _, _, dp_one (x := "never") (sqT_of e5), dp_one (x := "never") (sqT_of ed5), sh_one ok_never, sh_one ok_never, _, rfl, ?_⟩
    rw [eq_one ok_never]
    refine iteF ⟨.ref dp, rfl, (by show 1 ≤ sizeLine; decide), fun t nt => ?_⟩
    have s6 := (Same.refl H5).put (o := .tup [.str "none"]) nt
    refine ⟨_, _, dp_one (x := "never") (sqT_of (s6 _ _ ed5)), dp_one (x := "none") sqT_new, sh_one ok_never, sh_one ok_none, _, rfl, ?_⟩
    rw [nn_eq]
    have sF := s35.trans s6
    exact iteF (q _ _ ⟨_, _, _, _, _, _, _, _, _, _, _, _, _, _, _, _, _, _, _, _, rfl, R3.same sF, tabs_kp (Kp.of R3 sF) Tb3⟩)
  · refine ⟨(by show 1 ≤ sizeLine; decide), fun p np => ?_⟩
    rw [hm] at edp
    have s5 := (Same.refl H4).put (o := .tup [.str "none"]) np
    have e5 : (upd H4 p (.tup [.str "none"])) p = some (.tup [.str "none"]) := upd_same
    generalize upd H4 p (.tup [.str "none"]) = H5 at s5 e5 ⊢
    have s35 := s4.trans s5
    have ed5 : H5 dp = some (.tup [.str "none"]) := s35 _ _ edp
    refine ⟨.ref dp, rfl, _, _, dp_one (x := "none") (sqT_of e5), dp_one (x := "none") (sqT_of ed5), sh_one ok_none, sh_one ok_none, _, rfl, ?_⟩
    rw [eq_one ok_none]
    refine iteF ⟨.ref dp, rfl, (by show 1 ≤ sizeLine; decide), fun t nt => ?_⟩
    have s6 := (Same.refl H5).put (o := .tup [.str "none"]) nt
    refine ⟨_, _, dp_one (x := "none") (sqT_of (s6 _ _ ed5)), dp_one (x := "none") sqT_new, sh_one ok_none, sh_one ok_none, _, rfl, ?_⟩
    rw [eq_one ok_none]
    have s36 := s35.trans s6
    generalize upd H5 t (.tup [.str "none"]) = H6 at s36 ⊢
    replace c1 := c1.same s36
    replace c2 := c2.same s36
    replace Ce := Ce.same s36
    replace e2 := s36 _ _ e2
    have R6 := R3.same s36
    have Tb6 := tabs_kp (Kp.of R3 s36) Tb3
    replace ho1 := s36 _ _ ho1
    replace ho2 := s36 _ _ ho2
    refine iteT ?_
    refine ⟨.ref o1, rfl, .ref o2, rfl, o1, dx1, _, o2, dx2, _, rfl, rfl, ho1, ho2, o1, o2, ws, bs, ws3, bs3, rfl, c1, c2, fw.txts, fb.txts, fw3.txts, fb3.txts, by omega, by omega, fun hm2 => (by rw [hm] at hm2; cases hm2), fun _ => ⟨fun i ei => absurd (n0.symm.trans ei) (fun z => nomatch z), fun _ => ⟨fun i ei => absurd ((n1 hm).symm.trans ei) (fun z => nomatch z), fun _ H7 o7 s7 _ C7 => ?_⟩⟩⟩
    replace c1 := c1.same s7
    replace c2 := c2.same s7
    replace Ce := Ce.same s7
    replace e2 := s7 _ _ e2
    have R7 := R6.same s7
    have Tb7 := tabs_kp (Kp.of R6 s7) Tb6
    clear ho1 ho2
    obtain ⟨dx1, ca1, cb1, cn1, cz1, ho1, _, _, hn1, rfl⟩ := id c1.at_
    obtain ⟨dx2, ca2, cb2, cn2, cz2, ho2, _, _, hn2, rfl⟩ := id c2.at_
    obtain ⟨dx7, ca7, cb7, cn7, cz7, ho7, _, _, hn7, rfl⟩ := id C7.at_
    have lk1 : (condF ca1 cb1 cn1).lookup ("_names" : Str) = some (.ref cn1) := rfl
    have lk2 : (condF ca2 cb2 cn2).lookup ("_names" : Str) = some (.ref cn2) := rfl
    have lk7 : (condF ca7 cb7 cn7).lookup ("_names" : Str) = some (.ref cn7) := rfl
    refine ⟨.ref o1, rfl, o1, dx1, _, rfl, ho1, ⟨o1, dx1, _, _, rfl, ho1, lk1, ?_⟩⟩
    refine ⟨.ref o2, rfl, o2, dx2, _, rfl, ho2, ⟨o2, dx2, _, _, rfl, ho2, lk2, ?_⟩⟩
    have lz1 : (srt (ws ++ bs)).length ≤ 8 := by rw [(srt_perm _).length_eq, List.length_append]; omega
    have lz2 : (srt (ws3 ++ bs3)).length ≤ 8 := by rw [(srt_perm _).length_eq, List.length_append]; omega
    refine cat_any (sqT_of hn1) (sqT_of hn2) (by rw [List.length_map, List.length_map, sizeLine_eq]; omega) fun p8 H8 s8 e8 => ?_
    rw [← List.map_append] at e8
    refine ⟨p8, _, rfl, .inr e8, by rw [List.length_append]; omega, fun pS zs nS nd mem lz => ⟨pS, zs, rfl, upd_same, by rw [List.length_append] at lz; omega, fun ys pL perm so nL => ⟨pL, _, rfl, .inl ⟨sqL_of upd_same, fun pT nT => ?_⟩⟩⟩⟩
    obtain rfl : ys = srt (mrg ws ws3 ++ mrg bs bs3) := names_eq g1 g2 g3 g4 hm nd mem perm so
    have s9 := ((s8.put' nS).put' nL).put' (o := .tup ((srt (mrg ws ws3 ++ mrg bs bs3)).map V.str)) nT
    have e9 : (upd (upd (upd H8 pS (SetS.TxtO (lawX P w K mg base f c A outer s H0 E).prog (lawX P w K mg base f c A outer s H0 E).w pS zs)) pL (.lst ((srt (mrg ws ws3 ++ mrg bs bs3)).map V.str))) pT (.tup ((srt (mrg ws ws3 ++ mrg bs bs3)).map V.str))) pT = some (.tup ((srt (mrg ws ws3 ++ mrg bs bs3)).map V.str)) := upd_same
    replace s9 : Same H7 (upd (upd (upd H8 pS (SetS.TxtO (lawX P w K mg base f c A outer s H0 E).prog (lawX P w K mg base f c A outer s H0 E).w pS zs)) pL (.lst ((srt (mrg ws ws3 ++ mrg bs bs3)).map V.str))) pT (.tup ((srt (mrg ws ws3 ++ mrg bs bs3)).map V.str))) := s9
    generalize upd (upd (upd H8 pS (SetS.TxtO (lawX P w K mg base f c A outer s H0 E).prog (lawX P w K mg base f c A outer s H0 E).w pS zs)) pL (.lst ((srt (mrg ws ws3 ++ mrg bs bs3)).map V.str))) pT (.tup ((srt (mrg ws ws3 ++ mrg bs bs3)).map V.str)) = H9 at s9 e9 ⊢
    replace C7 := C7.same s9
    replace Ce := Ce.same s9
    replace e2 := s9 _ _ e2
    have R9 := R7.same s9
    have Tb9 := tabs_kp (Kp.of R7 s9) Tb7
    replace ho7 := s9 _ _ ho7
    replace hn7 := s9 _ _ hn7
    obtain ⟨qs, hqs, eQs, hcq⟩ := id Ce.at_
    have gz : ∀ x, x ∈ srt (mrg ws ws3 ++ mrg bs bs3) → x ∈ twelve := fun x hx => by
      rw [(srt_perm _).mem_iff, List.mem_append] at hx
      rcases hx with h | h
      · exact (g1.mrg g3).mem x h
      · exact (g2.mrg g4).mem x h
    have fz : Fines (srt (mrg ws ws3 ++ mrg bs bs3)) := fun x hx => tf x (gz x hx)
    refine ⟨.ref pe, rfl, pe, rfl, ⟨_, sqL_of eQs⟩, fun D5 nD5 => lc_it walk_list (fun i H' => Same H9 H' ∧ H' D5 = some (.lst ((metB (mrg ws ws3) (mrg bs bs3) fs i).map V.bl))) ⟨(Same.refl H9).put nD5, upd_same⟩ (fun _ _ _ h => sqL_of (h.1 _ _ eQs)) ?_ ?_⟩
    · rintro i y Ha Hb hi ⟨sa, ea⟩ ⟨rfl, hy⟩
      rw [List.length_map, hqs] at hi
      have hpi : qs[i]? = some qs[i] := List.getElem?_eq_getElem (by omega)
      rw [List.getElem?_map, hpi] at hy
      obtain rfl : V.ref qs[i] = y := Option.some.inj hy
      have hci := hcq i _ hpi
      refine ⟨rfl, yes_ ⟨.ref o7, rfl, o7, rfl, .ref qs[i], rfl, ⟨dx7, _, sa _ _ ho7⟩, o7, qs[i], mrg ws ws3, mrg bs bs3, caseOf fs i, rfl, C7.same sa, sqT_of (sa _ _ hci), by omega, by omega, fun Hd sd => ?_⟩⟩
      refine grow (acc := fun i => (metB (mrg ws ws3) (mrg bs bs3) fs i).map V.bl) nD5 (sa.trans sd) (sd _ _ ea) ?_ ?_
      · rw [List.length_map, metB_len, sizeLine_eq]
        omega
      · show List.map V.bl _ = _
        rw [metB_more, List.map_append]
        rfl
    rintro HA ⟨sA, eA⟩
    rw [List.length_map, hqs, bothB_joined] at eA
    have lA : (bothB ws bs ws3 bs3 fs N).length ≤ 64 := by rw [bothB_len]; omega
    refine ⟨.ref D4, rfl, .list ((bothB ws bs ws3 bs3 fs N).map PyData.bool), .list ((bothB ws bs ws3 bs3 fs N).map PyData.bool), .lst (sqL_of eA) (dp_bools K _ _), .lst (sqL_of (sA _ _ e2)) (dp_bools K _ _), shB, shB, _, rfl, ?_⟩
    rw [eqvB_self]
    refine iteF ⟨.ref o7, rfl, o7, dx7, _, rfl, sA _ _ ho7, ⟨o7, dx7, _, _, rfl, sA _ _ ho7, lk7, ?_⟩⟩
    refine ⟨.ref pT, rfl, _, _, dp_strs (sqT_of (sA _ _ hn7)), dp_strs (sqT_of (sA _ _ e9)), shT fz, shT fz, _, rfl, ?_⟩
    have eE : (PyData.tuple ((srt (mrg ws ws3 ++ mrg bs bs3)).map PyData.str)).eqv (.tuple ((srt (mrg ws ws3 ++ mrg bs bs3)).map PyData.str)) = true := (eqvA _ _).trans (decide_eq_true rfl)
    rw [eE]
    exact iteF (q _ _ ⟨_, _, _, _, _, _, _, _, _, _, _, _, _, _, _, _, _, _, _, _, rfl, R9.same sA, tabs_kp (Kp.of R9 sA) Tb9⟩)
end
end Sc
namespace Sc
open PySem PySem.Spec PyProof.Rows L2
section
variable {P : Program} {w : World} {K : PySem.W.Frag} {mg : Str → Option Value} {base : Heap} {a l : Addr} {H H' H'' : Hp} {C CC CN : Addr}
def due2 (cut more : Nat) : List V := if cut + more > 8 then [.str "condition", .int 1, .int (8 - (cut : Int))] else [.str "none"]
def tDue2 (K : PySem.W.Frag) : TS := fun D σ H => ∃ (cut more : Nat), σ[13]? = some (some (.int cut)) ∧ σ[12]? = some (some (.int more)) ∧ ∀ H' p, Same H H' → H' p = some (.tup (due2 cut more)) → D.nx (σ.set 9 (some (.ref p))) H'
abbrev dTrip (p i : Int) : PyData := .tuple [.str "condition", .int p, .int i]
theorem ok_cond : (PyData.str (Str.ofString "condition")).canLay0 = true := by decide +kernel
theorem dp_trip {b : Addr} {p i : Int} (h : SqT K H b [.str "condition", .int p, .int i]) : Dp K H (.ref b) (dTrip p i) := .tup h (.cons (.str _) (.cons (.int _) (.cons (.int _) .nil)))
theorem lay_trip {p i : Int} : (dTrip p i).canLay0 = true := by show ((PyData.str _).canLay0 && ((PyData.int p).canLay0 && ((PyData.int i).canLay0 && true))) = true; rw [ok_cond]; rfl
theorem sh_trip {p i : Int} : SeqAt.shaped (dTrip p i) = true := by
  unfold SeqAt.shaped
  rw [lay_trip]
  rfl
theorem eq_trip {p i : Int} : (dTrip p i).eqv (dTrip p i) = true := SeqAt.eqv_refl _ lay_trip
theorem mrg_nil {xs : List Str} (h : Good xs) : mrg xs [] = xs := (h.mrg good_nil).ext h fun x => by rw [mem_mrg]; simp
theorem nil_mrg {xs : List Str} (h : Good xs) : mrg [] xs = xs := (good_nil.mrg h).ext h fun x => by rw [mem_mrg]; simp
theorem cut_meet {c m : Nat} (hc : c < 9) (hm : m < 5) : meetN (twelve.take c) ((twelve.drop c).take m) = false := by
  have h : ∀ c, c < 9 → ∀ m, m < 5 → meetN (twelve.take c) ((twelve.drop c).take m) = false := by decide +kernel
  exact h c hc m hm
theorem cut_first {c m : Nat} (hc : c < 9) (hm : m < 5) (h4 : 4 ≤ c) : firstWrong ((twelve.drop c).take m) (twelve.take c) = if c + m > 8 then some (8 - c) else none := by
  have h : ∀ c, c < 9 → ∀ m, m < 5 → 4 ≤ c → firstWrong ((twelve.drop c).take m) (twelve.take c) = if c + m > 8 then some (8 - c) else none := by decide +kernel
  exact h c hc m hm h4
theorem last_meet {c : Nat} (hc : c < 9) (h4 : 4 ≤ c) : meetN (twelve.take c) [twelve.getD (c - 1) ""] = true := by
  have h : ∀ c, c < 9 → 4 ≤ c → meetN (twelve.take c) [twelve.getD (c - 1) ""] = true := by decide +kernel
  exact h c hc h4
/-- two conditions are joined, perhaps of too many names -/
def tChk2 (K : PySem.W.Frag) (C PT : Addr) : TS := fun D σ H => ∃ (o1 o2 dp : Addr) (cut more : Nat), (σ[16]? = some (some (.ref o1)) ∧ σ[18]? = some (some (.ref o2)) ∧ σ[9]? = some (some (.ref dp))) ∧ LamX.Tabs [(PT, qLam)] H ∧
  CondAt K C H o1 (twelve.take cut) [] ∧ CondAt K C H o2 [] ((twelve.drop cut).take more) ∧ H dp = some (.tup (due2 cut more)) ∧ (4 ≤ cut ∧ cut < 9 ∧ more < 5) ∧ ∀ H', LamX.ExtN H H' → LamX.Tabs [(PT, qLam)] H' → D.nx σ H'
/-- behind the loop -/
def tT2 (PT : Addr) : TS := fun D σ H => ∃ (a l : Addr), LoopI PT a l σ H ∧ ∀ H', D.rt (.bl true) H'
theorem ok_t2 {f c PT : Addr} {g : Addr} {fdE : FuncData} {cl : Nat → Addr} {CE : Addr} (B : Blt mg) (G : GErr mg cl CE)
    (FE : Fun K "_law_error" "_law_error" s__law_error g fdE) (mE : mg "_law_error" = some (.ref g)) (bE : Binds K fdE ["_law_call"] []) (TB : LamX.TabB base mg c PT)
    (eC : ErrRow K cl CE CC 3) (eN : ErrRow K cl CE CN 4)
    (c__law_next : Cal P w K mg base CX0 1 "_law_next" ["_law_h", "_law_limit"] sp_next) (c__law_facts : Cal P w K mg base CX0 2 "_law_facts" ["_law_h", "_law_count"] sp_facts)
    (c__law_single_right : Cal P w K mg base CX0 6 "_law_single_right" ["_law_h", "_law_long"] (sp_single K))
    (k_Condition : Mkr P w K mg base 4 "Condition" C ["self", "holding", "failing"] (sp_cond_init K C CC)) (kX : CondX P w K mg base C CC CN)
    {A : Around} {outer : List Env} {s : Shared} {H0 : Hp} {E : XK} (hr : Room 8 (A.deeper (envOfC "law" (defScope s_law) s.heap.objs.size f (.ref c)))) :
    PSs (lawX P w K mg base f c A outer s H0 E) ((defBody s_law).drop 2) (tT2 PT) := by
  refine wk_ss _ (pss_cons (ps_set (i := 15) sc_law.nd rfl (Or.inr rfl) (pe_cal c__law_facts (hr.mono (by decide)) (pa_cons (pv 1) (pa_cons pe_int pa_nil))))
      (pss_cons (ps_if (pt_not (pt_val (pe_cal c__law_single_right (hr.mono (by decide)) (pa_cons (pv 1) (pa_cons (pv 15) pa_nil))))) (pss_one (ps_ret pe_bl)) pss_nil)
      (pss_cons (ps_asg (pe_tup (pa_cons (pe_op op_add pe_int (pe_cal c__law_next (hr.mono (by decide)) (pa_cons (pv 1) (pa_cons pe_int pa_nil)))) (pa_cons (pe_op op_add pe_int (pe_cal c__law_next (hr.mono (by decide)) (pa_cons (pv 1) (pa_cons pe_int pa_nil)))) pa_nil))) (pg_tup (by rfl) (pgs_cons (pg_name (i := 13) sc_law.nd rfl (Or.inr rfl)) (pgs_cons (pg_name (i := 12) sc_law.nd rfl (Or.inl rfl)) pgs_nil))))
      (pss_cons (ps_asg (pe_tup (pa_cons (pe_mkN k_Condition (hr.mono (by decide)) (pa_cons (pe_slice sl_tupA (pv 15) po_none (po_some (pv 13))) (pa_cons (pe_tup pa_nil) pa_nil))) (pa_cons (pe_mkN k_Condition (hr.mono (by decide)) (pa_cons (pe_tup pa_nil) (pa_cons (pe_slice sl_tupA (pv 15) (po_some (pv 13)) (po_some (pe_op op_add (pv 13) (pv 12)))) pa_nil))) pa_nil))) (pg_tup (by rfl) (pgs_cons (pg_name (i := 16) sc_law.nd rfl (Or.inr rfl)) (pgs_cons (pg_name (i := 18) sc_law.nd rfl (Or.inr rfl)) pgs_nil))))
      (pss_cons (wk_ps (tDue2 K) (ps_set (i := 9) sc_law.nd rfl (Or.inl rfl) (pe_ifExp (pt_cmpR op_gt (pe_op op_add (pv 13) (pv 12)) pe_int (nomark _)) (pe_tup (pa_cons pe_str (pa_cons pe_int (pa_cons (pe_op op_sub pe_int (pv 13)) pa_nil)))) (pe_tup (pa_cons pe_str pa_nil)))) ?we)
      (pss_cons (wk_ps (tChk2 K C PT) (ps_if (pt_cmpR (op_neD hr.units) (pe_errlam FE mE bE B G TB rfl (hr.mono (by decide)) (LamX.lamS_by (show LamX.lamSB (defScope s_law) _ = true by decide +kernel)) rfl (fun _ _ _ _ _ => rfl) (fun A' outer' s' H' E' f' c' hr' => (pe_.re (pe_op (op_candX kX hr' (takes_of rfl rfl rfl rfl)) (pv 16) (pv 18)) (by first | (dsimp only [LamX.lamCx]; done) | exact rfl)))) (pv 9) (nomark _)) (pss_one (ps_ret pe_bl)) pss_nil) ?wf)
      (pss_one (ps_ret (pe_cmpR (op_eqD hr.units) (pe_errlam FE mE bE B G TB rfl (hr.mono (by decide)) (LamX.lamS_by (show LamX.lamSB (defScope s_law) _ = true by decide +kernel)) rfl (fun _ _ _ _ _ => rfl) (fun A' outer' s' H' E' f' c' hr' => (pe_.re (pe_op (op_candX kX hr' (takes_of rfl rfl rfl rfl)) (pv 16) (pe_mkX k_Condition (hr'.mono (by decide)) (takes_of rfl rfl rfl rfl) (pa_cons (pe_tup pa_nil) (pa_cons (pe_slice sl_tupA (pv 15) (po_some (pe_op op_sub (pv 13) pe_int)) (po_some (pv 13))) pa_nil)))) (by first | (dsimp only [LamX.lamCx]; done) | exact rfl)))) (pe_tup (pa_cons pe_str pa_nil)) (nomark _)))))))))) ?_
  case we =>
    rintro D σ H ⟨cut, more, e13, e12, q⟩
    refine ⟨_, e13, _, e12, _, _, rfl, rfl, _, 8, rfl, rfl, _, rfl, bcase (fun c1 => ?_) (fun c1 => ?_)⟩
    · have c1 := of_decide_eq_true c1
      refine ⟨_, e13, 8, _, rfl, rfl, (by show 3 ≤ sizeLine; decide), fun p np => q _ p ((Same.refl H).put np) ?_⟩
      rw [upd_same]
      unfold due2
      rw [if_pos (by omega)]
    · have c1 := of_decide_eq_false c1
      refine ⟨(by show 1 ≤ sizeLine; decide), fun p np => q _ p ((Same.refl H).put np) ?_⟩
      rw [upd_same]
      unfold due2
      rw [if_neg (by omega)]
  case wf =>
    rintro D σ H ⟨o1, o2, dp, cut, more, ⟨e16, e18, e9⟩, Tb, c1, c2, ed, ⟨b1, b2, b3⟩, q⟩
    have gA : Good (twelve.take cut) := twelve_good.sub (List.take_sublist _ _)
    have gB : Good ((twelve.drop cut).take more) := twelve_good.sub ((List.take_sublist _ _).trans (List.drop_sublist _ _))
    have lA : (twelve.take cut).length ≤ 8 := by rw [List.length_take]; omega
    have lB : ((twelve.drop cut).take more).length ≤ 8 := by rw [List.length_take]; omega
    have m1 := mrg_nil gA
    have m2 := nil_mrg gB
    have hm := cut_meet b2 b3
    have n0 : firstWrong (twelve.take cut) [] = none := gA.none (by simp; omega) (fun _ _ z => nomatch z)
    have n1 := cut_first b2 b3 b1
    refine ⟨Tb, fun H1 x1 Tb1 => ?_⟩
    replace c1 := c1.ext x1
    replace c2 := c2.ext x1
    replace ed := x1 _ _ ed (fun _ z => nomatch z)
    obtain ⟨dx1, _, _, _, _, ho1, _⟩ := id c1.at_
    obtain ⟨dx2, _, _, _, _, ho2, _⟩ := id c2.at_
    have q1 : ∀ H', Same H1 H' → D.nx σ H' := fun H' s => q H' (x1.trans (LamX.ExtN.of s)) (Tb1.ext s)
    refine ⟨.ref o1, e16, .ref o2, e18, o1, dx1, _, o2, dx2, _, rfl, rfl, ho1, ho2, o1, o2, _, _, _, _, rfl, c1, c2, (gA.fines twelve_fine).txts, (fun _ z => nomatch z), (fun _ z => nomatch z), (gB.fines twelve_fine).txts, by simp; omega, by simp; omega, fun hm2 => ?_, fun _ => ⟨fun i ei => ?_, fun _ => ⟨fun i ei H2 d s2 nd => ?_, fun en H2 o4 s2 _ C4 => ?_⟩⟩⟩
    · rw [m1, m2, hm] at hm2
      cases hm2
    · rw [m1, n0] at ei
      cases ei
    · rw [m1, m2, n1] at ei
      refine ⟨CC, 3, _, rfl, eC, .cond rfl upd_same rfl rfl, fun H3 p s3 e3 _ => ?_⟩
      have sS := (s2.put' (o := .xd [(("index" : Str), .int (i : Nat)), (("part" : Str), .int (1 : Nat))]) nd).trans s3
      have h8 : cut + more > 8 := by
        by_cases h : cut + more > 8
        · exact h
        · rw [if_neg h] at ei
          cases ei
      rw [if_pos h8] at ei
      have ei : i = 8 - cut := (Option.some.inj ei).symm
      have ed3 := sS _ _ ed
      unfold due2 at ed3
      rw [if_pos h8, show (8 : Int) - (cut : Int) = ((8 - cut : Nat) : Int) by omega, ← ei] at ed3
      refine ⟨_, e9, _, _, dp_trip (sqT_of e3), dp_trip (sqT_of ed3), sh_trip, sh_trip, _, rfl, ?_⟩
      have et : (dTrip ((1 : Nat) : Int) (i : Nat)).eqv (dTrip 1 (i : Nat)) = true := eq_trip
      rw [et]
      exact iteF (q1 _ sS)
    · rw [m1, m2, n1] at en
      refine ⟨(by show 1 ≤ sizeLine; decide), fun p np => ?_⟩
      have sS := s2.put' (o := .tup [.str "none"]) np
      have h8 : ¬ cut + more > 8 := fun h => by rw [if_pos h] at en; cases en
      have ed3 := sS _ _ ed
      unfold due2 at ed3
      rw [if_neg h8] at ed3
      refine ⟨_, e9, _, _, dp_one (x := "none") sqT_new, dp_one (x := "none") (sqT_of ed3), sh_one ok_none, sh_one ok_none, _, rfl, ?_⟩
      rw [eq_one ok_none]
      exact iteF (q1 _ sS)
  rintro D σ H ⟨a, l, ⟨y0, y2, y3, y4, y5, y6, y7, y8, y9, y10, y11, y12, y13, y14, y15, y16, y17, y18, y19, y20, rfl, R, Tb⟩, q⟩
  refine ⟨.ref a, rfl, a, l, 12, rfl, R, by decide, fun H1 fp fs k1 ep _ sub hfl hfe => ?_⟩
  have hfe := hfe (by decide)
  obtain rfl : fs = twelve := sub.eq_of_length (by have : twelve.length = 12 := rfl; omega)
  refine ⟨.ref a, rfl, .ref fp, rfl, a, l, fp, rfl, k1.new, sqT_of ep, fun H2 k2 => ⟨true, rfl, iteF ?_⟩⟩
  refine ⟨.ref a, rfl, a, l, 5, rfl, k2.new, by decide, by decide, fun H3 r1 k3 r10 r11 => ⟨4, r1, rfl, rfl, .ref a, rfl, a, l, 4, rfl, k3.new, by decide, by decide, fun H4 r2 k4 r20 r21 => ⟨1, r2, rfl, rfl, (by show 2 ≤ sizeLine; decide), fun t nt => ⟨t, _, rfl, sqT_new, rfl, _, _, rfl, _, _, rfl, rfl, ?_⟩⟩⟩⟩
  obtain ⟨cut, ec⟩ : ∃ n : Nat, (4 : Int) + r1 = n := ⟨(4 + r1).toNat, by omega⟩
  obtain ⟨more, em⟩ : ∃ n : Nat, (1 : Int) + r2 = n := ⟨(1 + r2).toNat, by omega⟩
  simp only [ec, em]
  have b1 : 4 ≤ cut := by omega
  have b2 : cut < 9 := by omega
  have b3 : more < 5 := by omega
  have s5 := (Same.refl H4).put (o := .tup [.int (4 + r1), .int (1 + r2)]) nt
  have kk := ((k2.trans k3).trans k4).same s5
  have fp5 := kk.tup (sqT_of (K := K) ep)
  have R5 := kk.new
  have Tb5 := tabs_kp (k1.trans kk) Tb
  rw [ec, em] at kk fp5 R5 Tb5
  generalize upd H4 t (.tup [.int (cut : Nat), .int (more : Nat)]) = H5 at kk fp5 R5 Tb5 ⊢
  have gA : Good (twelve.take cut) := twelve_good.sub (List.take_sublist _ _)
  have gB : Good ((twelve.drop cut).take more) := twelve_good.sub ((List.take_sublist _ _).trans (List.drop_sublist _ _))
  have lA : (twelve.take cut).length ≤ 8 := by rw [List.length_take]; omega
  have lB : ((twelve.drop cut).take more).length ≤ 8 := by rw [List.length_take]; omega
  refine ⟨.ref fp, rfl, .int (cut : Nat), rfl, (cut : Nat), rfl, sl_any fp5 fun p6 H6 s6 e6 => ?_⟩
  rw [cut_to, ← List.map_take] at e6
  refine ⟨Nat.zero_le _, fun t7 n7 => ?_⟩
  have s7 := (Same.refl H6).put (o := .tup []) n7
  refine fun o1 dx1 nx1 ndx1 nex1 => mk_good (s7.tup e6) (show SqT K (upd H6 t7 (.tup [])) t7 (([] : List Str).map V.str) from sqT_new) gA good_nil (by simp; omega) (fun _ z => nomatch z) nx1 ndx1 nex1 (fun H8 s8 C8 => ⟨rfl, ?_⟩)
  have s58 := (s6.trans s7).trans s8
  refine ⟨Nat.zero_le _, fun t9 n9 => ?_⟩
  have s9 := (Same.refl H8).put (o := .tup []) n9
  have e9 : (upd H8 t9 (.tup [])) t9 = some (.tup []) := upd_same
  generalize upd H8 t9 (.tup []) = H9 at s9 e9 ⊢
  have s59 := s58.trans s9
  refine ⟨.ref fp, rfl, .int (cut : Nat), rfl, (cut : Nat), rfl, .int (cut : Nat), rfl, .int (more : Nat), rfl, (cut : Nat), (more : Nat), rfl, rfl, _, rfl, sl_any (s59.tup fp5) fun pA HA sA eA => ?_⟩
  have eA : SqT K HA pA (((twelve.drop cut).take more).map V.str) := by
    have h := cut_part (twelve.map V.str) cut (cut + more)
    rw [Nat.add_sub_cancel_left, ← List.map_drop, ← List.map_take] at h
    rw [← h]
    exact eA
  refine fun o2 dx2 nx2 ndx2 nex2 => mk_good (sqT_of (sA _ _ e9) : SqT K HA t9 (([] : List Str).map V.str)) eA good_nil gB (by simp; omega) (fun _ _ z => nomatch z) nx2 ndx2 nex2 (fun HB sB CB => ⟨rfl, ?_⟩)
  refine ⟨(by show 2 ≤ sizeLine; decide), fun tC nC => ⟨tC, _, rfl, sqT_new, rfl, _, _, rfl, _, _, rfl, rfl, ?_⟩⟩
  have sC := (Same.refl HB).put (o := .tup [.ref o1, .ref o2]) nC
  have C8' := ((C8.same s9).same (sA.trans sB)).same sC
  have CB' := CB.same sC
  have s5C := ((s59.trans sA).trans sB).trans sC
  have RC := R5.same s5C
  have TbC := tabs_kp (Kp.of R5 s5C) Tb5
  have fpC := s5C.tup fp5
  generalize upd HB tC (.tup [.ref o1, .ref o2]) = HC at C8' CB' RC TbC fpC ⊢
  refine ⟨cut, more, rfl, rfl, fun HD dp sD eD => ?_⟩
  refine ⟨o1, o2, dp, cut, more, ⟨rfl, rfl, rfl⟩, tabs_kp (Kp.of RC sD) TbC, C8'.same sD, CB'.same sD, eD, ⟨b1, b2, b3⟩, fun HE xE TbE => ?_⟩
  have cE := (C8'.same sD).ext xE
  have fpE := sqT_ext xE (sD.tup fpC)
  clear eD TbC sD CB' C8' fpC RC
  refine ⟨TbE, fun HF xF TbF => ?_⟩
  replace cE := cE.ext xF
  replace fpE := sqT_ext xF fpE
  obtain ⟨dx1', _, _, _, _, ho1, _⟩ := id cE.at_
  refine ⟨.ref o1, rfl, Nat.zero_le _, fun tG nG => ?_⟩
  have sG := (Same.refl HF).put (o := .tup []) nG
  have eG : (upd HF tG (.tup [])) tG = some (.tup []) := upd_same
  generalize upd HF tG (.tup []) = HG at sG eG ⊢
  have ex : (cut : Int) - 1 = ((cut - 1 : Nat) : Int) := by omega
  have gX : Good [twelve.getD (cut - 1) ""] := twelve_good.sub (one_sub (by omega))
  refine ⟨.ref fp, rfl, .int (cut : Nat), rfl, (cut : Nat), 1, rfl, rfl, _, rfl, .int (cut : Nat), rfl, _, rfl, sl_any (sG.tup fpE) fun pI HI sI eI => ?_⟩
  replace eI : SqT K HI pI ([twelve.getD (cut - 1) ""].map V.str) := by
    have h := cut_part (twelve.map V.str) (cut - 1) cut
    rw [show cut - (cut - 1) = cut - 1 + 1 - (cut - 1) by omega, one_part (by omega)] at h
    rw [← h, ← ex]
    exact eI
  refine fun o3 dx3 nx3 ndx3 nex3 => mk_good (sqT_of (sI _ _ eG) : SqT K HI tG (([] : List Str).map V.str)) eI good_nil gX (by simp) (fun _ _ z => nomatch z) nx3 ndx3 nex3 (fun HJ sJ CJ => ⟨rfl, ?_⟩)
  have sFJ := (sG.trans sI).trans sJ
  have c1 := cE.same sFJ
  obtain ⟨dx1', _, _, _, _, ho1, _⟩ := id c1.at_
  obtain ⟨dx3', _, _, _, _, ho3, _⟩ := id CJ.at_
  have hm : meetN (mrg (twelve.take cut) []) (mrg [] [twelve.getD (cut - 1) ""]) = true := by
    rw [mrg_nil gA, nil_mrg gX]
    exact last_meet b2 b1
  refine ⟨o1, dx1', _, o3, dx3', _, rfl, rfl, ho1, ho3, o1, o3, _, _, _, _, rfl, c1, CJ, (gA.fines twelve_fine).txts, (fun _ z => nomatch z), (fun _ z => nomatch z), (gX.fines twelve_fine).txts, by simp; omega, by simp, fun _ HK sK => ?_, fun hn => (by rw [hm] at hn; cases hn)⟩
  refine ⟨CN, 4, _, rfl, eN, .plain (fun _ e => nomatch e) (by decide) (by decide) (by decide) (by decide) (by decide), fun HL p sL eL _ => ?_⟩
  refine ⟨(by show 1 ≤ sizeLine; decide), fun tM nM => ?_⟩
  have sM := (Same.refl HL).put (o := .tup [.str "never"]) nM
  refine ⟨_, _, dp_one (x := "never") (sqT_of (sM _ _ eL)), dp_one (x := "never") sqT_new, sh_one ok_never, sh_one ok_never, ?_⟩
  rw [eq_one ok_never]
  exact q _
end
end Sc
namespace Sc
open PySem PySem.Spec PyProof.Rows L2
section
variable {P : Program} {w : World} {K : PySem.W.Frag} {mg : Str → Option Value} {base : Heap} {a l : Addr} {H H' H'' : Hp} {C CC CN : Addr}
def sp_law (K : PySem.W.Frag) (PT : Addr) : Sp := fun vs H Q _ => ∃ (s : Addr) (ns : List Int), vs = [.ref s] ∧ SqL K H s (ns.map V.int) ∧ ns.length ≤ 63 ∧ (∀ z ∈ ns, Builtin.Int.intBits z ≤ 1048576) ∧ H PT = some (.tbl #[]) ∧ ∀ H', Q (.bl true) H'
theorem Parts.cut {fs ws bs : List Str} {m : Int} (p : Parts fs ws bs m) (i j : Nat) : Parts fs (ws.take i) (bs.take j) m := by
  have l1 : (ws.take i).length ≤ ws.length := by rw [List.length_take]; exact Nat.min_le_right _ _
  have l2 : (bs.take j).length ≤ bs.length := by rw [List.length_take]; exact Nat.min_le_right _ _
  have le := p.le
  have l8 := p.l8
  exact ⟨(List.take_sublist _ _).trans p.s1, (List.take_sublist _ _).trans p.s2, fun x hx hb => p.dj x (List.mem_of_mem_take hx) (List.mem_of_mem_take hb), by omega, by omega⟩
/-- perhaps the second pair is a beginning of the first -/
def tTwo (K : PySem.W.Frag) : TS := fun D σ H => ∃ (a l p p2 : Addr) (fs ws bs ws2 bs2 : List Str), σ[1]? = some (some (.ref a)) ∧ σ[16]? = some (some (.ref p)) ∧ σ[18]? = some (some (.ref p2)) ∧ RS H a l ∧ PairAt K H p ws bs ∧ PairAt K H p2 ws2 bs2 ∧
  Parts fs ws bs 4 ∧ Parts fs ws2 bs2 4 ∧ ∀ H' p3 ws3 bs3, Kp a l H H' → PairAt K H' p3 ws3 bs3 → Parts fs ws3 bs3 4 → D.nx (σ.set 18 (some (.ref p3))) H'
theorem ok_law {f : Addr} {fd : FuncData} {c PT : Addr} {g : Addr} {fdE : FuncData} {cl : Nat → Addr} {CE : Addr} (F : FunC K "law" "law" s_law f fd c) (B : Blt mg) (G : GErr mg cl CE)
    (FE : Fun K "_law_error" "_law_error" s__law_error g fdE) (mE : mg "_law_error" = some (.ref g)) (bE : Binds K fdE ["_law_call"] []) (TB : LamX.TabB base mg c PT)
    (eC : ErrRow K cl CE CC 3) (eN : ErrRow K cl CE CN 4) (nKC : PySem.W.kitOne K (.type "tuple") (.ref C) = some false) (nfT : PySem.W.notFirst K C (.type "tuple") = true)
    (c__law_mix : Cal P w K mg base CX0 1 "_law_mix" ["_law_script", "_law_seed"] (sp_mix K)) (c__law_next : Cal P w K mg base CX0 1 "_law_next" ["_law_h", "_law_limit"] sp_next)
    (c__law_facts : Cal P w K mg base CX0 2 "_law_facts" ["_law_h", "_law_count"] sp_facts) (c__law_parts : Cal P w K mg base CX0 2 "_law_parts" ["_law_h", "_law_facts_here", "_law_most"] (sp_parts K))
    (c__law_meets : Cal P w K mg base CX0 1 "_law_meets" ["_law_row", "_law_case_here"] (sp_meets K)) (c__law_every : Cal P w K mg base CX0 2 "_law_every" ["_law_facts_here"] (sp_every K))
    (c__law_single_right : Cal P w K mg base CX0 6 "_law_single_right" ["_law_h", "_law_long"] (sp_single K))
    (c__law_alike : Cal P w K mg base CX0 2 "_law_alike" ["_law_found", "_law_due"] (sp_alike 1))
    (k_Condition : Mkr P w K mg base 4 "Condition" C ["self", "holding", "failing"] (sp_cond_init K C CC)) (kX : CondX P w K mg base C CC CN) :
    FnOk P w K mg base CX0 9 f fd ["_law_script"] (sp_law K PT) := by
  refine F.ok sc_law (fun vs H Q E h => by obtain ⟨s, ns, rfl, _⟩ := h; rfl) (fun A outer s H vs Q E hr h => ?_)
  obtain ⟨s, ns, rfl, hS, hl, hb, hT, q⟩ := h
  refine ⟨_, (pss_cons (ps_set (i := 1) sc_law.nd rfl (Or.inl rfl) (pe_cal c__law_mix (hr.mono (by decide)) (pa_cons (pv 0) (pa_cons pe_int pa_nil))))
      (pss_cons (ps_for PassesOwn.never rfl (pi_range1 (by rfl) B.b_range (pa_cons pe_int pa_nil)) (pg_name (i := 2) sc_law.nd rfl (Or.inl rfl)) (pss_cons (ps_set (i := 3) sc_law.nd rfl (Or.inl rfl) (pe_cal c__law_facts (hr.mono (by decide)) (pa_cons (pv 1) (pa_cons (pe_op op_add pe_int (pe_cal c__law_next (hr.mono (by decide)) (pa_cons (pv 1) (pa_cons pe_int pa_nil)))) pa_nil))))
      (pss_cons (ps_asg (pe_tup (pa_cons (pe_cal c__law_parts (hr.mono (by decide)) (pa_cons (pv 1) (pa_cons (pv 3) (pa_cons pe_int pa_nil)))) (pa_cons (pe_cal c__law_parts (hr.mono (by decide)) (pa_cons (pv 1) (pa_cons (pv 3) (pa_cons pe_int pa_nil)))) pa_nil))) (pg_tup (by rfl) (pgs_cons (pg_name (i := 16) sc_law.nd rfl (Or.inr rfl)) (pgs_cons (pg_name (i := 18) sc_law.nd rfl (Or.inr rfl)) pgs_nil))))
      (pss_cons (wk_ps (tTwo K) (ps_if (pt_cmpR op_eq (pe_cal c__law_next (hr.mono (by decide)) (pa_cons (pv 1) (pa_cons pe_int pa_nil))) pe_int (nomark _)) (pss_one (ps_set (i := 18) sc_law.nd rfl (Or.inr rfl) (pe_tup (pa_cons (pe_slice sl_tupA (pe_ix ix_tup (pv 16) pe_int (fun _ _ => rfl)) po_none (po_some (pe_cal c__law_next (hr.mono (by decide)) (pa_cons (pv 1) (pa_cons pe_int pa_nil))))) (pa_cons (pe_slice sl_tupA (pe_ix ix_tup (pv 16) pe_int (fun _ _ => rfl)) po_none (po_some (pe_cal c__law_next (hr.mono (by decide)) (pa_cons (pv 1) (pa_cons pe_int pa_nil))))) pa_nil))))) pss_nil) ?wt)
      (pss_cons (ps_asg (pe_tup (pa_cons (pe_mkN k_Condition (hr.mono (by decide)) (pa_cons (pe_ix ix_tup (pv 16) pe_int (fun _ _ => rfl)) (pa_cons (pe_ix ix_tup (pv 16) pe_int (fun _ _ => rfl)) pa_nil))) (pa_cons (pe_mkN k_Condition (hr.mono (by decide)) (pa_cons (pe_ix ix_tup (pv 18) pe_int (fun _ _ => rfl)) (pa_cons (pe_ix ix_tup (pv 18) pe_int (fun _ _ => rfl)) pa_nil))) pa_nil))) (pg_tup (by rfl) (pgs_cons (pg_name (i := 14) sc_law.nd rfl (Or.inr rfl)) (pgs_cons (pg_name (i := 17) sc_law.nd rfl (Or.inr rfl)) pgs_nil))))
      (pss_cons (ps_set (i := 4) sc_law.nd rfl (Or.inl rfl) (pe_cal c__law_every (hr.mono (by decide)) (pa_cons (pv 3) pa_nil)))
      (pss_cons (ps_set (i := 5) sc_law.nd rfl (Or.inr rfl) (pe_lc (own := [("_law_case_here", 19)]) (g := gName 19) (tt := tYes) rfl sc_law.nd (pi_list (pv 4)) (blkOk_by (own := [("_law_case_here", 19)]) (N := ["_law_script", "_law_h", "_law_time", "_law_facts_here", "_law_every_here", "_law_mine", "_law_yours", "_law_within", "_law_both", "_law_due", "_law_joined", "_law_names", "_law_more", "_law_cut", "_law_first", "_law_long", "_law_one", "_law_second", "_law_two", "_law_case_here", "_law_k"]) (sc := defScope s_law) (by decide +kernel)) (fun _ _ _ _ _ => (pg_name (i := 19) sc_law.nd rfl (Or.inl rfl))) (fun _ _ _ _ _ => pts_nil) (fun _ _ _ _ _ => (pe_.re (pe_cal c__law_meets (hr.mono (by decide)) (pa_cons (pe_op op_catA (pe_tup (pa_cons pe_int pa_nil)) (pv 16)) (pa_cons (pv 19) pa_nil))) (by first | (dsimp only [Cx.blk]; done) | exact rfl)))))
      (pss_cons (ps_set (i := 6) sc_law.nd rfl (Or.inr rfl) (pe_lc (own := [("_law_case_here", 19)]) (g := gName 19) (tt := tYes) rfl sc_law.nd (pi_list (pv 4)) (blkOk_by (own := [("_law_case_here", 19)]) (N := ["_law_script", "_law_h", "_law_time", "_law_facts_here", "_law_every_here", "_law_mine", "_law_yours", "_law_within", "_law_both", "_law_due", "_law_joined", "_law_names", "_law_more", "_law_cut", "_law_first", "_law_long", "_law_one", "_law_second", "_law_two", "_law_case_here", "_law_k"]) (sc := defScope s_law) (by decide +kernel)) (fun _ _ _ _ _ => (pg_name (i := 19) sc_law.nd rfl (Or.inl rfl))) (fun _ _ _ _ _ => pts_nil) (fun _ _ _ _ _ => (pe_.re (pe_cal c__law_meets (hr.mono (by decide)) (pa_cons (pe_op op_catA (pe_tup (pa_cons pe_int pa_nil)) (pv 18)) (pa_cons (pv 19) pa_nil))) (by first | (dsimp only [Cx.blk]; done) | exact rfl)))))
      (pss_cons (ps_if (pt_not (pt_val (pe_cal c__law_alike (hr.mono (by decide)) (pa_cons (pe_lc (own := [("_law_case_here", 19)]) (g := gName 19) (tt := tYes) rfl sc_law.nd (pi_list (pv 4)) (blkOk_by (own := [("_law_case_here", 19)]) (N := ["_law_script", "_law_h", "_law_time", "_law_facts_here", "_law_every_here", "_law_mine", "_law_yours", "_law_within", "_law_both", "_law_due", "_law_joined", "_law_names", "_law_more", "_law_cut", "_law_first", "_law_long", "_law_one", "_law_second", "_law_two", "_law_case_here", "_law_k"]) (sc := defScope s_law) (by decide +kernel)) (fun _ _ _ _ _ => (pg_name (i := 19) sc_law.nd rfl (Or.inl rfl))) (fun _ _ _ _ _ => pts_nil) (fun _ _ _ _ _ => (pe_.re (pe_cc kX (hr.mono (by decide)) (pv 14) (pa_cons (pv 19) pa_nil)) (by first | (dsimp only [Cx.blk]; done) | exact rfl)))) (pa_cons (pv 5) pa_nil))))) (pss_one (ps_ret pe_bl)) pss_nil)
      (pss_cons (ps_set (i := 7) sc_law.nd rfl (Or.inl rfl) (pe_cmpR (op_eqD hr.units) (pe_lc (own := [("_law_k", 20)]) (g := gName 20) rfl sc_law.nd (pi_range1 (by rfl) B.b_range (pa_cons (pe_callB call_len_seq (by rfl) B.b_len PySem.boot_len (pa_cons (pv 4) pa_nil)) pa_nil)) (blkOk_by (own := [("_law_k", 20)]) (N := ["_law_script", "_law_h", "_law_time", "_law_facts_here", "_law_every_here", "_law_mine", "_law_yours", "_law_within", "_law_both", "_law_due", "_law_joined", "_law_names", "_law_more", "_law_cut", "_law_first", "_law_long", "_law_one", "_law_second", "_law_two", "_law_case_here", "_law_k"]) (sc := defScope s_law) (by decide +kernel)) (fun _ _ _ _ _ => (pg_name (i := 20) sc_law.nd rfl (Or.inl rfl))) (fun _ _ _ _ _ => (pts_.re (pts_one (PW.pt (pw_and (pt_val (pe_ix ix_list (pv 5) (pv 20) (fun _ _ => rfl))) (pw_and1 (pt_not (pt_val (pe_ix ix_list (pv 6) (pv 20) (fun _ _ => rfl)))))))) (by first | (dsimp only [Cx.blk]; done) | exact rfl))) (fun _ _ _ _ _ => (pe_.re (pv 20) (by first | (dsimp only [Cx.blk]; done) | exact rfl)))) (pe_lst pa_nil) (nomark _)))
      (pss_cons (ps_if (pt_not (pt_val (pe_cal c__law_alike (hr.mono (by decide)) (pa_cons (pe_cwithin kX (hr.mono (by decide)) (pv 14) (pa_cons (pv 17) pa_nil)) (pa_cons (pv 7) pa_nil))))) (pss_one (ps_ret pe_bl)) pss_nil)
      (ok_t1 B G FE mE bE TB eC eN nKC nfT kX hr))))))))))))
      (ok_t2 B G FE mE bE TB eC eN c__law_next c__law_facts c__law_single_right k_Condition kX hr))), ?_⟩
  case wt =>
    rintro D σ H1 ⟨a, l, p, p2, fs, ws, bs, ws2, bs2, e1, e16, e18, R, pr, pr2, P1, P2, q⟩
    have stay : ∀ H', Kp a l H1 H' → D.nx σ H' := fun H' k => by
      have h := q H' p2 ws2 bs2 k (pr2.kp k) P2
      have e : σ.set 18 (some (.ref p2)) = σ := by
        refine List.ext_getElem? fun i => ?_
        by_cases hi : i = 18
        · subst hi
          rw [List.getElem?_set_self (List.getElem?_eq_some_iff.mp e18).1, e18]
        · rw [List.getElem?_set_ne (Ne.symm hi)]
      rw [e] at h
      exact h
    refine ⟨.ref a, e1, a, l, 4, rfl, R, by decide, by decide, fun H2 r k2 r0 r1 => ⟨rfl, _, rfl, bcase (fun _ => ?_) (fun _ => stay H2 k2)⟩⟩
    obtain ⟨pw, pb, x1, x2, x3⟩ := (pr.kp k2).at_
    refine ⟨.ref p, e16, p, _, 0, .ref pw, rfl, rfl, sqT_of x1, atI_nat (j := 0) rfl, .ref a, e1, a, l, 3, rfl, k2.new, by decide, by decide, fun H3 i k3 i0 i1 => ⟨i, rfl, sl_any (k3.tup x2) fun p4 H4 s4 e4 => ?_⟩⟩
    obtain ⟨i, rfl⟩ := Int.eq_ofNat_of_zero_le i0
    rw [cut_to, ← List.map_take] at e4
    have k4 := k3.same s4
    refine ⟨.ref p, e16, p, _, 1, .ref pb, rfl, rfl, k4.tup (sqT_of x1), atI_nat (j := 1) rfl, .ref a, e1, a, l, 3, rfl, k4.new, by decide, by decide, fun H5 j k5 j0 j1 => ⟨j, rfl, sl_any ((k4.trans k5).tup x3) fun p6 H6 s6 e6 => ?_⟩⟩
    obtain ⟨j, rfl⟩ := Int.eq_ofNat_of_zero_le j0
    rw [cut_to, ← List.map_take] at e6
    refine ⟨(by show 2 ≤ sizeLine; decide), fun p7 n7 => ?_⟩
    have s7 := (Same.refl H6).put (o := .tup [.ref p4, .ref p6]) n7
    exact q _ p7 (ws.take i) (bs.take j) (((k2.trans k4).trans k5).same (s6.trans s7)) ⟨p4, p6, upd_same, s7.tup (s6.tup (k5.tup e4)), s7.tup e6⟩ (P1.cut i j)
  refine ⟨.ref s, rfl, s, ns, 3, rfl, hS, hl, hb, by decide, by decide, fun H1 a l s1 R1 => ?_⟩
  refine ⟨4, rfl, by decide, by decide, for_it walk_range (fun i σ H' => LoopI PT a l σ H')
      ⟨_, _, _, _, _, _, _, _, _, _, _, _, _, _, _, _, _, _, _, _, rfl, R1, ?_⟩ (fun _ _ _ _ _ => trivial) ?_ ?_⟩
  · intro p hp
    rw [List.mem_singleton.mp hp]
    exact LamX.TabS.nil (s1 _ _ hT)
  · rintro i x σ H2 H3 hi ⟨y0, y2, y3, y4, y5, y6, y7, y8, y9, y10, y11, y12, y13, y14, y15, y16, y17, y18, y19, y20, rfl, R, Tb⟩ ⟨rfl, hy⟩
    refine ⟨.ref a, rfl, .ref a, rfl, a, l, 6, rfl, R, by decide, by decide, fun H4 r k4 r0 r1 => ⟨1, r, rfl, rfl, a, l, _, rfl, k4.new, by omega, fun H5 fp fs k5 ep _ sub hfl hfe => ?_⟩⟩
    have lfs : fs.length ≤ 6 := by omega
    have gfs : Good fs := twelve_good.sub sub
    have k45 := k4.trans k5
    have Tb5 := tabs_kp k45 Tb
    refine ⟨.ref a, rfl, .ref fp, rfl, a, l, fp, fs, 4, rfl, k5.new, sqT_of ep, by omega, gfs.nodup, by decide, by decide, fun H6 p1 pw1 pb1 ws bs k6 _ _ _ e1 ew1 eb1 P1 => ?_⟩
    have pr1 : PairAt K H6 p1 ws bs := ⟨pw1, pb1, e1, sqT_of ew1, sqT_of eb1⟩
    refine ⟨.ref a, rfl, .ref fp, rfl, a, l, fp, fs, 4, rfl, k6.new, k6.tup (sqT_of ep), by omega, gfs.nodup, by decide, by decide, fun H7 p2 pw2 pb2 ws2 bs2 k7 _ _ _ e2 ew2 eb2 P2 => ?_⟩
    have pr2 : PairAt K H7 p2 ws2 bs2 := ⟨pw2, pb2, e2, sqT_of ew2, sqT_of eb2⟩
    refine ⟨(by show 2 ≤ sizeLine; decide), fun t8 n8 => ⟨t8, _, rfl, sqT_new, rfl, _, _, rfl, _, _, rfl, rfl, ?_⟩⟩
    have s8 := (Same.refl H7).put (o := .tup [.ref p1, .ref p2]) n8
    have k8 : Kp a l H5 (upd H7 t8 (.tup [.ref p1, .ref p2])) := (k6.trans k7).same s8
    replace pr1 := pr1.kp (k7.same s8)
    replace pr2 := pr2.same s8
    have fp8 := k8.tup (sqT_of (K := K) ep)
    have Tb8 := tabs_kp k8 Tb5
    have R8 := k8.new
    generalize upd H7 t8 (.tup [.ref p1, .ref p2]) = H8 at R8 pr1 pr2 fp8 Tb8 ⊢
    try clear k8 s8 e2 ew2 eb2 e1 ew1 eb1 ep k7 k6 k5 k45 k4 n8 Tb5 Tb
    refine ⟨a, l, p1, p2, fs, ws, bs, ws2, bs2, rfl, rfl, rfl, R8, pr1, pr2, P1, P2, fun H9 p3 ws3 bs3 k9 pr3 P3 => ?_⟩
    replace pr1 := pr1.kp k9
    have fp9 := k9.tup fp8
    have Tb9 := tabs_kp k9 Tb8
    have R9 := k9.new
    try clear pr2 P2 k9 fp8 Tb8 R8 H8
    have g1 : Good ws := gfs.sub P1.s1
    have g2 : Good bs := gfs.sub P1.s2
    have g3 : Good ws3 := gfs.sub P3.s1
    have g4 : Good bs3 := gfs.sub P3.s2
    obtain ⟨pw, pb, x1, x2, x3⟩ := pr1.at_
    obtain ⟨pw', pb', y1, y2, y3⟩ := pr3.at_
    refine ⟨.ref p1, rfl, p1, _, 0, .ref pw, rfl, rfl, sqT_of x1, atI_nat (j := 0) rfl, .ref p1, rfl, p1, _, 1, .ref pb, rfl, rfl, sqT_of x1, atI_nat (j := 1) rfl, fun o1 dx1 nx1 ndx1 nex1 =>
      mk_good x2 x3 g1 g2 P1.l8 (fun x hx hw => P1.dj x hw hx) nx1 ndx1 nex1 (fun H10 s10 C10 => ⟨rfl, ?_⟩)⟩
    refine ⟨.ref p3, rfl, p3, _, 0, .ref pw', rfl, rfl, s10.tup (sqT_of y1), atI_nat (j := 0) rfl, .ref p3, rfl, p3, _, 1, .ref pb', rfl, rfl, s10.tup (sqT_of y1), atI_nat (j := 1) rfl, fun o2 dx2 nx2 ndx2 nex2 =>
      mk_good (s10.tup y2) (s10.tup y3) g3 g4 P3.l8 (fun x hx hw => P3.dj x hw hx) nx2 ndx2 nex2 (fun H11 s11 C11 => ⟨rfl, ?_⟩)⟩
    have C10' := C10.same s11
    refine ⟨(by show 2 ≤ sizeLine; decide), fun t12 n12 => ⟨t12, _, rfl, sqT_new, rfl, _, _, rfl, _, _, rfl, rfl, ?_⟩⟩
    have s12 := (Same.refl H11).put (o := .tup [.ref o1, .ref o2]) n12
    have s9 := (s10.trans s11).trans s12
    have c1 := C10'.same s12
    have c2 := C11.same s12
    replace pr1 := pr1.same s9
    replace pr3 := pr3.same s9
    have fp12 := s9.tup fp9
    have R12 := R9.same s9
    have Tb12 := tabs_kp (Kp.of R9 s9) Tb9
    generalize upd H11 t12 (.tup [.ref o1, .ref o2]) = H12 at c1 c2 pr1 pr3 fp12 R12 Tb12 ⊢
    try clear s12 s9 s11 s10 C10 C10' C11 x1 x2 x3 y1 y2 y3 R9 Tb9 fp9 n12
    refine ⟨.ref fp, rfl, fp, fs, rfl, fp12, by omega, fun H13 pe s13 n13 Ce => ?_⟩
    obtain ⟨ps, hps, ePs0, hcs0⟩ := Ce.at_
    have two : 2 ^ fs.length ≤ 64 := (Nat.pow_le_pow_right (by decide) lfs : 2 ^ fs.length ≤ 2 ^ 6)
    replace c1 := c1.same s13
    replace c2 := c2.same s13
    replace pr1 := pr1.same s13
    replace pr3 := pr3.same s13
    have R13 := R12.same s13
    have Tb13 := tabs_kp (Kp.of R12 s13) Tb12
    try clear Ce fp12 R12 Tb12
    generalize hN : 2 ^ fs.length = N at hps two
    have ePs1 := ePs0
    have hcs1 := hcs0
    refine ⟨.ref pe, rfl, pe, rfl, ⟨_, sqL_of ePs1⟩, fun D1 nD1 => lc_it walk_list (fun i H' => Same H13 H' ∧ H' D1 = some (.lst ((metB ws bs fs i).map V.bl))) ⟨(Same.refl H13).put nD1, upd_same⟩ (fun _ _ _ h => sqL_of (h.1 _ _ ePs1)) ?_ ?_⟩
    · rintro i y Ha Hb hi ⟨sa, ea⟩ ⟨rfl, hy⟩
      rw [List.length_map, hps] at hi
      have hpi : ps[i]? = some ps[i] := List.getElem?_eq_getElem (by omega)
      rw [List.getElem?_map, hpi] at hy
      obtain rfl : V.ref ps[i] = y := Option.some.inj hy
      have hci := hcs1 i _ hpi
      refine ⟨rfl, yes_ ⟨(by show 1 ≤ sizeLine; decide), fun t nt => ?_⟩⟩
      have st := (Same.refl Hb).put (o := .tup [.int 0]) nt
      have sat := sa.trans st
      obtain ⟨pwx, pbx, x1, x2, x3⟩ := (pr1.same sat).at_
      refine ⟨_, rfl, cat_any sqT_new (sqT_of x1) (by show 3 ≤ sizeLine; decide) fun pc Hc sc ec => ?_⟩
      have sac := sat.trans sc
      refine ⟨.ref ps[i], rfl, pc, pwx, pbx, ps[i], .int 0, [], ws, bs, caseOf fs i, rfl, ec, sc.tup x2, sc.tup x3, sqT_of (sac _ _ hci), twelve_fine.sub (P1.s1.trans sub), twelve_fine.sub (P1.s2.trans sub), by have := P1.l8; omega, by have := P1.l8; omega, fun Hd sd => ?_⟩
      refine grow (acc := fun i => (metB ws bs fs i).map V.bl) nD1 (sac.trans sd) ((st.trans (sc.trans sd)) _ _ ea) ?_ ?_
      · rw [List.length_map, metB_len, sizeLine_eq]
        omega
      · show List.map V.bl _ = _
        rw [metB_more, List.map_append]
        rfl
    
    rintro H14 ⟨s14, e14⟩
    rw [List.length_map, hps] at e14
    have ePs2 := s14 _ _ ePs1
    have hcs2 : ∀ (k : Nat) (b : Addr), ps[k]? = some b → H14 b = some (.tup ((caseOf fs k).map V.str)) := fun k b e => s14 _ _ (hcs1 k b e)
    have pr3b := pr3.same s14
    refine ⟨.ref pe, rfl, pe, rfl, ⟨_, sqL_of ePs2⟩, fun D2 nD2 => lc_it walk_list (fun i H' => Same H14 H' ∧ H' D2 = some (.lst ((metB ws3 bs3 fs i).map V.bl))) ⟨(Same.refl H14).put nD2, upd_same⟩ (fun _ _ _ h => sqL_of (h.1 _ _ ePs2)) ?_ ?_⟩
    · rintro i y Ha Hb hi ⟨sa, ea⟩ ⟨rfl, hy⟩
      rw [List.length_map, hps] at hi
      have hpi : ps[i]? = some ps[i] := List.getElem?_eq_getElem (by omega)
      rw [List.getElem?_map, hpi] at hy
      obtain rfl : V.ref ps[i] = y := Option.some.inj hy
      have hci := hcs2 i _ hpi
      refine ⟨rfl, yes_ ⟨(by show 1 ≤ sizeLine; decide), fun t nt => ?_⟩⟩
      have st := (Same.refl Hb).put (o := .tup [.int 0]) nt
      have sat := sa.trans st
      obtain ⟨pwx, pbx, x1, x2, x3⟩ := (pr3b.same sat).at_
      refine ⟨_, rfl, cat_any sqT_new (sqT_of x1) (by show 3 ≤ sizeLine; decide) fun pc Hc sc ec => ?_⟩
      have sac := sat.trans sc
      refine ⟨.ref ps[i], rfl, pc, pwx, pbx, ps[i], .int 0, [], ws3, bs3, caseOf fs i, rfl, ec, sc.tup x2, sc.tup x3, sqT_of (sac _ _ hci), twelve_fine.sub (P3.s1.trans sub), twelve_fine.sub (P3.s2.trans sub), by have := P3.l8; omega, by have := P3.l8; omega, fun Hd sd => ?_⟩
      refine grow (acc := fun i => (metB ws3 bs3 fs i).map V.bl) nD2 (sac.trans sd) ((st.trans (sc.trans sd)) _ _ ea) ?_ ?_
      · rw [List.length_map, metB_len, sizeLine_eq]
        omega
      · show List.map V.bl _ = _
        rw [metB_more, List.map_append]
        rfl
    
    rintro H15 ⟨s15, e15⟩
    rw [List.length_map, hps] at e15
    replace e14 := s15 _ _ e14
    have ePs3 := s15 _ _ ePs2
    have hcs3 : ∀ (k : Nat) (b : Addr), ps[k]? = some b → H15 b = some (.tup ((caseOf fs k).map V.str)) := fun k b e => s15 _ _ (hcs2 k b e)
    have sA := s14.trans s15
    replace c1 := c1.same sA
    replace c2 := c2.same sA
    replace pr1 := pr1.same sA
    have pr3 := pr3b.same s15
    have R15 := R13.same sA
    have Tb15 := tabs_kp (Kp.of R13 sA) Tb13
    try clear sA pr3b hcs2 hcs1 hcs0 ePs2 ePs1 ePs0 s14 s15 R13 Tb13
    have tf := twelve_fine
    have fw : Fines ws := g1.fines tf
    have fb : Fines bs := g2.fines tf
    have fw3 : Fines ws3 := g3.fines tf
    have fb3 : Fines bs3 := g4.fines tf
    have lw8 : ws.length ≤ 1000 ∧ bs.length ≤ 1000 := by have := P1.l8; omega
    have lw38 : ws3.length ≤ 1000 ∧ bs3.length ≤ 1000 := by have := P3.l8; omega
    obtain ⟨dx1, ca1, cb1, cn1, cz1, ho1, _⟩ := id c1.at_
    obtain ⟨dx2, ca2, cb2, cn2, cz2, ho2, _⟩ := id c2.at_
    refine ⟨.ref pe, rfl, pe, rfl, ⟨_, sqL_of ePs3⟩, fun D3 nD3 => lc_it walk_list (fun i H' => Same H15 H' ∧ H' D3 = some (.lst ((metB ws bs fs i).map V.bl))) ⟨(Same.refl H15).put nD3, upd_same⟩ (fun _ _ _ h => sqL_of (h.1 _ _ ePs3)) ?_ ?_⟩
    · rintro i y Ha Hb hi ⟨sa, ea⟩ ⟨rfl, hy⟩
      rw [List.length_map, hps] at hi
      have hpi : ps[i]? = some ps[i] := List.getElem?_eq_getElem (by omega)
      rw [List.getElem?_map, hpi] at hy
      obtain rfl : V.ref ps[i] = y := Option.some.inj hy
      have hci := hcs3 i _ hpi
      refine ⟨rfl, yes_ ⟨.ref o1, rfl, o1, rfl, .ref ps[i], rfl, ⟨dx1, _, sa _ _ ho1⟩, o1, ps[i], ws, bs, caseOf fs i, rfl, c1.same sa, sqT_of (sa _ _ hci), lw8.1, lw8.2, fun Hd sd => ?_⟩⟩
      refine grow (acc := fun i => (metB ws bs fs i).map V.bl) nD3 (sa.trans sd) (sd _ _ ea) ?_ ?_
      · rw [List.length_map, metB_len, sizeLine_eq]
        omega
      · show List.map V.bl _ = _
        rw [metB_more, List.map_append]
        rfl
    rintro H16 ⟨s16, e16⟩
    rw [List.length_map, hps] at e16
    have lmB : ∀ (a b : List Str), (metB a b fs N).length ≤ 100000 := fun a b => by rw [metB_len]; omega
    refine ⟨.ref D1, rfl, .ref D3, .ref D1, _, rfl, ad_bools e16 (lmB _ _), ad_bools (s16 _ _ e14) (lmB _ _), fun H17 s17 => ⟨true, rfl, iteF ?_⟩⟩
    have s15a := s16.trans s17
    refine ⟨.ref pe, rfl, pe, _, rfl, .inl (sqL_of (s15a _ _ ePs3)), _, rfl, by rw [List.length_map, hps]; omega, by rw [List.length_map, hps]; omega, ?_⟩
    rw [List.length_map, hps]
    refine fun D4 nD4 => lc_it walk_range (fun i H' => Same H17 H' ∧ H' D4 = some (.lst ((outL ws bs ws3 bs3 fs i).map V.int))) ⟨(Same.refl H17).put nD4, upd_same⟩ (fun _ _ _ _ => trivial) ?_ ?_
    · rintro i y Ha Hb hi ⟨sa, ea⟩ ⟨rfl, hy⟩
      replace hy : y = V.int (i : Nat) := by
        rw [hy]
        show V.int (0 + (i : Nat)) = _
        rw [Int.zero_add]
      subst hy
      have hi : i < N := by simpa using hi
      have sb := s15a.trans sa
      have more := outL_more (hs := ws) (ks := bs) (gs := ws3) (ls := bs3) (fs := fs) (n := i)
      have atB : ∀ (a b : List Str), ((metB a b fs N).map V.bl)[i]? = some (.bl (meets a b (caseOf fs i))) := fun a b => by rw [List.getElem?_map, metB_at hi]; rfl
      refine ⟨rfl, .ref D1, rfl, .int (i : Nat), rfl, D1, _, _, _, rfl, rfl, sqL_of (sb _ _ e14), atI_nat (atB ws bs), _, rfl, bcase (fun m1 => ?_) (fun m1 => ?_)⟩
      · refine ⟨.ref D2, rfl, .int (i : Nat), rfl, D2, _, _, _, rfl, rfl, sqL_of (sb _ _ e15), atI_nat (atB ws3 bs3), _, rfl, bcase (fun m2 => ?_) (fun m2 => ?_)⟩
        · refine ⟨_, rfl, grow (acc := fun i => (outL ws bs ws3 bs3 fs i).map V.int) nD4 sa ea ?_ ?_⟩
          · rw [List.length_map, sizeLine_eq]
            have := outL_len (hs := ws) (ks := bs) (gs := ws3) (ls := bs3) (fs := fs) (n := i)
            omega
          · show List.map V.int _ = _
            rw [more, m1, m2, List.map_append]
            rfl
        · refine ⟨sa, ?_⟩
          rw [more, m1, m2]
          simpa using ea
      · refine iteF ⟨sa, ?_⟩
        rw [more, m1]
        simpa using ea
    rintro H18 ⟨s18, e18⟩
    replace e18 : H18 D4 = some (.lst ((outL ws bs ws3 bs3 fs N).map V.int)) := e18
    refine ⟨Nat.zero_le _, fun p19 n19 => ⟨.list ((outL ws bs ws3 bs3 fs N).map PyData.int), .list [], .lst (sqL_of (by rw [upd_ne (ne_of_none e18 n19)]; exact e18)) (dp_ints K _ _), .lst sqL_new .nil, shI, rfl, ?_⟩⟩
    have ew : (PyData.list ((outL ws bs ws3 bs3 fs N).map PyData.int)).eqv (.list []) = withinC ws bs ws3 bs3 := by
      rw [eqvI_nil, ← hN]
      exact outL_nil (fun x hx => P1.s1.subset hx) (fun x hx => P3.s2.subset hx) P1.dj
    rw [ew]
    have s19 := (s15a.trans s18).put' (o := .lst []) n19
    generalize upd H18 p19 (.lst []) = H19 at s19 ⊢
    refine ⟨.ref o1, rfl, o1, dx1, _, rfl, s19 _ _ ho1, rfl, .ref o2, rfl, o1, o2, ws, bs, ws3, bs3, rfl, c1.same s19, c2.same s19, lw38.1, lw38.2, fun H20 s20 => ⟨_, rfl, .bl _, .bl _, _, rfl, .bl 1 _, .bl 1 _, fun H21 s21 => ⟨true, rfl, iteF ?_⟩⟩⟩
    have sB := (s19.trans s20).trans s21
    replace c1 := c1.same sB
    replace c2 := c2.same sB
    replace pr1 := pr1.same sB
    replace pr3 := pr3.same sB
    have R21 := R15.same sB
    have Tb21 := tabs_kp (Kp.of R15 sB) Tb15
    replace e14 := sB _ _ e14
    replace e15 := sB _ _ e15
    replace ePs3 := sB _ _ ePs3
    replace ho1 := sB _ _ ho1
    replace ho2 := sB _ _ ho2
    refine ⟨a, l, fp, pe, D1, D2, p1, p3, o1, o2, fs, ws, bs, ws3, bs3, _, _, _, _, _, _, _, _, _, _, _, _, rfl, ⟨R21, Tb21⟩, ⟨gfs, lfs, P1, P3⟩, ⟨c1, c2, pr1, pr3⟩, ⟨?_, ?_, ?_⟩, fun σ' H' h => h⟩
    · rw [hN]
      exact ⟨ps, hps, ePs3, fun k b e => sB _ _ (hcs3 k b e)⟩
    · rw [hN]
      exact e14
    · rw [hN]
      exact e15
  · rintro σ H2 h
    exact ⟨a, l, h, q⟩
end
end Sc
namespace Sc
open PySem PySem.Spec PyProof.Rows L2
theorem four {K : PySem.W.Frag} {D : Value} (h1 : PySem.W.findIn K D "index" = some none) (h2 : PySem.W.findIn K D "part" = some none) (h3 : PySem.W.findIn K D "word" = some none) (h4 : PySem.W.findIn K D "fact" = some none) :
    ∀ n ∈ (["index", "part", "word", "fact"] : List Str), PySem.W.findIn K D n = some none := by
  intro n hn
  simp only [List.mem_cons, List.not_mem_nil, or_false] at hn
  rcases hn with rfl | rfl | rfl | rfl
  · exact h1
  · exact h2
  · exact h3
  · exact h4
theorem exm_by {K : PySem.W.Frag} {D C : Addr} (h1 : PySem.W.subIn K (.ref C) (.type "BaseException") = some true) (h2 : PySem.W.isClsIn K C = true) (h3 : PySem.W.typeIn K (.ref C) = some (.type "type")) (h4 : PySem.W.subIn K (.ref D) (.ref C) = some true) : PySem.W.exmOne K (.ref D) (.ref C) = some true := by
  have e1 : (PySem.W.subIn K (.ref C) (.type "BaseException") == some true) = true := by rw [h1] <;> rfl
  have e2 : ((PySem.W.clsIn K C).isSome && PySem.W.typeIn K (.ref C) == some (.type "type")) = true := by
    have h2' : (PySem.W.clsIn K C).isSome = true := h2
    rw [h2', h3] <;> rfl
  unfold PySem.W.exmOne PySem.W.kitCls
  rw [if_pos e1]
  dsimp only
  rw [if_pos e2]
  exact h4
theorem kit_by {K : PySem.W.Frag} {D C : Addr} {b : Bool} (h1 : PySem.W.subIn K (.ref D) (.ref D) = some true) (h2 : PySem.W.isClsIn K C = true) (h3 : PySem.W.typeIn K (.ref C) = some (.type "type")) (h4 : PySem.W.subIn K (.ref D) (.ref C) = some b) : PySem.W.kitOne K (.ref D) (.ref C) = some b := by
  have e2 : ((PySem.W.clsIn K C).isSome && PySem.W.typeIn K (.ref C) == some (.type "type")) = true := by
    have h2' : (PySem.W.clsIn K C).isSome = true := h2
    rw [h2', h3] <;> rfl
  unfold PySem.W.kitOne
  split
  · rename_i e
    have e := eq_of_beq e
    cases e
    exact h1.symm.trans h4
  · unfold PySem.W.kitCls
    dsimp only
    rw [if_pos e2]
    exact h4
theorem kit_ve {K : PySem.W.Frag} {D : Addr} (h : PySem.W.subIn K (.ref D) (.type "ValueError") = some true) : PySem.W.kitOne K (.ref D) (.type "ValueError") = some true := by
  unfold PySem.W.kitOne PySem.W.kitCls
  rw [if_neg (by intro z; cases eq_of_beq z)]
  dsimp only
  rw [if_pos (by decide +kernel)]
  exact h
theorem codeHd_by {K : PySem.W.Frag} {c T : Addr} {o : Obj} (lk : K.lookup c = some o) (h : PySem.W.codeHdIn [(c, o)] c T = true) : PySem.W.codeHdIn K c T = true := by
  unfold PySem.W.codeHdIn at h ⊢
  rw [lk]
  have e : ([(c, o)] : PySem.W.Frag).lookup c = some o := by simp [List.lookup]
  rw [e] at h
  exact h
theorem lookup_no {K : PySem.W.Frag} {a : Addr} (h : (K.map (·.1)).contains a = false) : K.lookup a = none := by
  induction K with
  | nil => rfl
  | cons p r ih =>
    rw [List.map_cons, List.contains_cons, Bool.or_eq_false_iff] at h
    obtain ⟨x, o⟩ := p
    rw [List.lookup_cons, h.1]
    exact ih h.2
theorem sup_by {K : PySem.W.Frag} {C CE : Addr} {z : Value} {nm q nm2 q2 : Str} {N N2 : Addr} {bs bm su bs2 bm2 su2 : List Value} {sn sn2 : List Str} {ab ab2 : Bool} {col col2 : Option Bool} {dd dd2 : Option Addr} {x0 x1 x2 x3 x5 y0 y1 y2 y3 y5 : Option Value}
    (xC : K.lookup C = some (excClassObj nm q C N bs bm true sn su ab col dd x0 x1 x2 x3 x5 "ValueError.__new__")) (xE : K.lookup CE = some (excClassObj nm2 q2 CE N2 bs2 bm2 true sn2 su2 ab2 col2 dd2 y0 y1 y2 y3 y5 "ValueError.__new__"))
    (e : bm = .ref CE :: bm2) (f : PySem.W.findIn K (.ref CE) "__init__" = some (some z)) : PySem.W.ks_superIn K C C "__init__" = some (some z) := by
  subst e
  unfold PySem.W.ks_superIn PySem.W.clsIn
  unfold PySem.W.findIn at f
  dsimp only at f
  rw [xC]
  rw [xE] at f
  simp only [excClassObj] at f ⊢
  simp
  exact f
theorem kit_ty_by {K : PySem.W.Frag} {T : String} {C : Addr} {b : Bool} (h2 : PySem.W.isClsIn K C = true) (h3 : PySem.W.typeIn K (.ref C) = some (.type "type")) (h4 : PySem.W.subIn K (.type T) (.ref C) = some b) : PySem.W.kitOne K (.type T) (.ref C) = some b := by
  have h2' : (PySem.W.clsIn K C).isSome = true := h2
  have e2 : ((PySem.W.clsIn K C).isSome && PySem.W.typeIn K (.ref C) == some (.type "type")) = true := by
    rw [h2', h3]
    decide +kernel
  unfold PySem.W.kitOne PySem.W.kitCls
  rw [if_neg (by intro z; cases eq_of_beq z)]
  dsimp only
  rw [if_pos e2]
  exact h4
theorem all_mk {l : PySem.W.OpenLaw} {P : Program} {w : World} {K : PySem.W.Frag} {h : Heap} {mg : Str → Option Value} {fa : Addr} (eP : l.prog = P) (X : K.In h) (G : h.Ns mainGlobals mg) (hfa : mg "law" = some (.ref fa))
    {f_is_name : Addr} {oc_is_name kV_is_name dc_is_name pm_is_name cd_is_name ct_is_name : Value} {od_is_name an_is_name : Option Addr} {sl_is_name : Array (Option Value)}
    {f_rises : Addr} {oc_rises kV_rises dc_rises pm_rises cd_rises ct_rises : Value} {od_rises an_rises : Option Addr} {sl_rises : Array (Option Value)}
    {f_check_part : Addr} {oc_check_part kV_check_part dc_check_part pm_check_part cd_check_part ct_check_part : Value} {od_check_part an_check_part : Option Addr} {sl_check_part : Array (Option Value)}
    {f_merged : Addr} {oc_merged kV_merged dc_merged pm_merged cd_merged ct_merged : Value} {od_merged an_merged : Option Addr} {sl_merged : Array (Option Value)}
    {f__law_mix : Addr} {oc__law_mix kV__law_mix dc__law_mix pm__law_mix cd__law_mix ct__law_mix : Value} {od__law_mix an__law_mix : Option Addr} {sl__law_mix : Array (Option Value)}
    {f__law_next : Addr} {oc__law_next kV__law_next dc__law_next pm__law_next cd__law_next ct__law_next : Value} {od__law_next an__law_next : Option Addr} {sl__law_next : Array (Option Value)}
    {f__law_alike : Addr} {oc__law_alike kV__law_alike dc__law_alike pm__law_alike cd__law_alike ct__law_alike : Value} {od__law_alike an__law_alike : Option Addr} {sl__law_alike : Array (Option Value)}
    {f__law_error : Addr} {oc__law_error kV__law_error dc__law_error pm__law_error cd__law_error ct__law_error : Value} {od__law_error an__law_error : Option Addr} {sl__law_error : Array (Option Value)}
    {f__law_facts : Addr} {oc__law_facts kV__law_facts dc__law_facts pm__law_facts cd__law_facts ct__law_facts : Value} {od__law_facts an__law_facts : Option Addr} {sl__law_facts : Array (Option Value)}
    {f__law_parts : Addr} {oc__law_parts kV__law_parts dc__law_parts pm__law_parts cd__law_parts ct__law_parts : Value} {od__law_parts an__law_parts : Option Addr} {sl__law_parts : Array (Option Value)}
    {f__law_meets : Addr} {oc__law_meets kV__law_meets dc__law_meets pm__law_meets cd__law_meets ct__law_meets : Value} {od__law_meets an__law_meets : Option Addr} {sl__law_meets : Array (Option Value)}
    {f__law_case : Addr} {oc__law_case kV__law_case dc__law_case pm__law_case cd__law_case ct__law_case : Value} {od__law_case an__law_case : Option Addr} {sl__law_case : Array (Option Value)}
    {f__law_every : Addr} {oc__law_every kV__law_every dc__law_every pm__law_every cd__law_every ct__law_every : Value} {od__law_every an__law_every : Option Addr} {sl__law_every : Array (Option Value)}
    {f__law_single_right : Addr} {oc__law_single_right kV__law_single_right dc__law_single_right pm__law_single_right cd__law_single_right ct__law_single_right : Value} {od__law_single_right an__law_single_right : Option Addr} {sl__law_single_right : Array (Option Value)}
    {f_law : Addr} {oc_law kV_law dc_law pm_law ct_law : Value} {od_law an_law : Option Addr} {sl_law : Array (Option Value)}
    {f_mi : Addr} {oc_mi kV_mi dc_mi pm_mi cd_mi ct_mi : Value} {od_mi an_mi : Option Addr} {sl_mi : Array (Option Value)}
    {f_mh : Addr} {oc_mh kV_mh dc_mh pm_mh cd_mh ct_mh : Value} {od_mh an_mh : Option Addr} {sl_mh : Array (Option Value)}
    {f_mf : Addr} {oc_mf kV_mf dc_mf pm_mf cd_mf ct_mf : Value} {od_mf an_mf : Option Addr} {sl_mf : Array (Option Value)}
    {f_mn : Addr} {oc_mn kV_mn dc_mn pm_mn cd_mn ct_mn : Value} {od_mn an_mn : Option Addr} {sl_mn : Array (Option Value)}
    {f_mc : Addr} {oc_mc kV_mc dc_mc pm_mc cd_mc ct_mc : Value} {od_mc an_mc : Option Addr} {sl_mc : Array (Option Value)}
    {f_ma : Addr} {oc_ma kV_ma dc_ma pm_ma cd_ma ct_ma : Value} {od_ma an_ma : Option Addr} {sl_ma : Array (Option Value)}
    {f_me : Addr} {oc_me kV_me dc_me pm_me cd_me ct_me : Value} {od_me an_me : Option Addr} {sl_me : Array (Option Value)}
    {f_mw : Addr} {oc_mw kV_mw dc_mw pm_mw cd_mw ct_mw : Value} {od_mw an_mw : Option Addr} {sl_mw : Array (Option Value)}
    {CO : Addr}
    {pp_mh : Addr} {rs_mh : List Value}
    {pp_mf : Addr} {rs_mf : List Value}
    {pp_mn : Addr} {rs_mn : List Value}
    {cc_law : Addr} {ocl : Obj}
    {t_LETTERS : Tok}
    {t_LONGEST_NAME : Tok}
    {t_MOST_NAMES : Tok}
    {CE : Addr}
    {E0 : Addr}
    {E1 : Addr}
    {E2 : Addr}
    {E3 : Addr}
    {E4 : Addr}
    {E5 : Addr}
    {E6 : Addr}
    {E7 : Addr}
    {E8 : Addr}
    {E9 : Addr}
    {E10 : Addr}
    {E11 : Addr}
    {E12 : Addr}
    {E13 : Addr}
    {E14 : Addr}
    {E15 : Addr}
    {E16 : Addr}
    {nmE qE : Str} {NE : Addr} {bsE bmE suE : List Value} {snE : List Str} {abE : Bool} {colE : Option Bool} {ddE : Option Addr} {x0E x1E x2E x3E x5E : Option Value}
    {nmi3 qi3 : Str} {Ni3 : Addr} {bsi3 bmi3 sui3 : List Value} {sni3 : List Str} {abi3 : Bool} {coli3 : Option Bool} {ddi3 odii3 anii3 ccddi3 cddi3 : Option Addr} {x0i3 x1i3 x2i3 x3i3 x5i3 : Option Value} {fIi3 celi3 codi3 : Addr} {ocii3 kVii3 dcii3 pmii3 ctii3 clci3 ccli3 : Value} {slii3 csli3 ccsi3 : Array (Option Value)} {vsi3 : Array Value} {fili3 : Str} {tfii3 : Tok}
    (a_is_name : PySem.W.nsIn K mainGlobals "is_name" = some (some (.ref f_is_name)))
    (l_is_name : K.lookup f_is_name = some ⟨oc_is_name, od_is_name, .func (PySem.W.fnOf "is_name" "is_name" (defArgs s_is_name) (defBody s_is_name) (defScope s_is_name) .none kV_is_name dc_is_name pm_is_name an_is_name cd_is_name ct_is_name), sl_is_name⟩)
    (c_is_name : PySem.W.codeIn K cd_is_name "is_name" = true)
    (k_is_name : PySem.W.keepIn K (.ref f_is_name) = true)
    (a_rises : PySem.W.nsIn K mainGlobals "rises" = some (some (.ref f_rises)))
    (l_rises : K.lookup f_rises = some ⟨oc_rises, od_rises, .func (PySem.W.fnOf "rises" "rises" (defArgs s_rises) (defBody s_rises) (defScope s_rises) .none kV_rises dc_rises pm_rises an_rises cd_rises ct_rises), sl_rises⟩)
    (c_rises : PySem.W.codeIn K cd_rises "rises" = true)
    (k_rises : PySem.W.keepIn K (.ref f_rises) = true)
    (a_check_part : PySem.W.nsIn K mainGlobals "check_part" = some (some (.ref f_check_part)))
    (l_check_part : K.lookup f_check_part = some ⟨oc_check_part, od_check_part, .func (PySem.W.fnOf "check_part" "check_part" (defArgs s_check_part) (defBody s_check_part) (defScope s_check_part) .none kV_check_part dc_check_part pm_check_part an_check_part cd_check_part ct_check_part), sl_check_part⟩)
    (c_check_part : PySem.W.codeIn K cd_check_part "check_part" = true)
    (k_check_part : PySem.W.keepIn K (.ref f_check_part) = true)
    (a_merged : PySem.W.nsIn K mainGlobals "merged" = some (some (.ref f_merged)))
    (l_merged : K.lookup f_merged = some ⟨oc_merged, od_merged, .func (PySem.W.fnOf "merged" "merged" (defArgs s_merged) (defBody s_merged) (defScope s_merged) .none kV_merged dc_merged pm_merged an_merged cd_merged ct_merged), sl_merged⟩)
    (c_merged : PySem.W.codeIn K cd_merged "merged" = true)
    (k_merged : PySem.W.keepIn K (.ref f_merged) = true)
    (a__law_mix : PySem.W.nsIn K mainGlobals "_law_mix" = some (some (.ref f__law_mix)))
    (l__law_mix : K.lookup f__law_mix = some ⟨oc__law_mix, od__law_mix, .func (PySem.W.fnOf "_law_mix" "_law_mix" (defArgs s__law_mix) (defBody s__law_mix) (defScope s__law_mix) .none kV__law_mix dc__law_mix pm__law_mix an__law_mix cd__law_mix ct__law_mix), sl__law_mix⟩)
    (c__law_mix : PySem.W.codeIn K cd__law_mix "_law_mix" = true)
    (k__law_mix : PySem.W.keepIn K (.ref f__law_mix) = true)
    (a__law_next : PySem.W.nsIn K mainGlobals "_law_next" = some (some (.ref f__law_next)))
    (l__law_next : K.lookup f__law_next = some ⟨oc__law_next, od__law_next, .func (PySem.W.fnOf "_law_next" "_law_next" (defArgs s__law_next) (defBody s__law_next) (defScope s__law_next) .none kV__law_next dc__law_next pm__law_next an__law_next cd__law_next ct__law_next), sl__law_next⟩)
    (c__law_next : PySem.W.codeIn K cd__law_next "_law_next" = true)
    (k__law_next : PySem.W.keepIn K (.ref f__law_next) = true)
    (a__law_alike : PySem.W.nsIn K mainGlobals "_law_alike" = some (some (.ref f__law_alike)))
    (l__law_alike : K.lookup f__law_alike = some ⟨oc__law_alike, od__law_alike, .func (PySem.W.fnOf "_law_alike" "_law_alike" (defArgs s__law_alike) (defBody s__law_alike) (defScope s__law_alike) .none kV__law_alike dc__law_alike pm__law_alike an__law_alike cd__law_alike ct__law_alike), sl__law_alike⟩)
    (c__law_alike : PySem.W.codeIn K cd__law_alike "_law_alike" = true)
    (k__law_alike : PySem.W.keepIn K (.ref f__law_alike) = true)
    (a__law_error : PySem.W.nsIn K mainGlobals "_law_error" = some (some (.ref f__law_error)))
    (l__law_error : K.lookup f__law_error = some ⟨oc__law_error, od__law_error, .func (PySem.W.fnOf "_law_error" "_law_error" (defArgs s__law_error) (defBody s__law_error) (defScope s__law_error) .none kV__law_error dc__law_error pm__law_error an__law_error cd__law_error ct__law_error), sl__law_error⟩)
    (c__law_error : PySem.W.codeIn K cd__law_error "_law_error" = true)
    (k__law_error : PySem.W.keepIn K (.ref f__law_error) = true)
    (a__law_facts : PySem.W.nsIn K mainGlobals "_law_facts" = some (some (.ref f__law_facts)))
    (l__law_facts : K.lookup f__law_facts = some ⟨oc__law_facts, od__law_facts, .func (PySem.W.fnOf "_law_facts" "_law_facts" (defArgs s__law_facts) (defBody s__law_facts) (defScope s__law_facts) .none kV__law_facts dc__law_facts pm__law_facts an__law_facts cd__law_facts ct__law_facts), sl__law_facts⟩)
    (c__law_facts : PySem.W.codeIn K cd__law_facts "_law_facts" = true)
    (k__law_facts : PySem.W.keepIn K (.ref f__law_facts) = true)
    (a__law_parts : PySem.W.nsIn K mainGlobals "_law_parts" = some (some (.ref f__law_parts)))
    (l__law_parts : K.lookup f__law_parts = some ⟨oc__law_parts, od__law_parts, .func (PySem.W.fnOf "_law_parts" "_law_parts" (defArgs s__law_parts) (defBody s__law_parts) (defScope s__law_parts) .none kV__law_parts dc__law_parts pm__law_parts an__law_parts cd__law_parts ct__law_parts), sl__law_parts⟩)
    (c__law_parts : PySem.W.codeIn K cd__law_parts "_law_parts" = true)
    (k__law_parts : PySem.W.keepIn K (.ref f__law_parts) = true)
    (a__law_meets : PySem.W.nsIn K mainGlobals "_law_meets" = some (some (.ref f__law_meets)))
    (l__law_meets : K.lookup f__law_meets = some ⟨oc__law_meets, od__law_meets, .func (PySem.W.fnOf "_law_meets" "_law_meets" (defArgs s__law_meets) (defBody s__law_meets) (defScope s__law_meets) .none kV__law_meets dc__law_meets pm__law_meets an__law_meets cd__law_meets ct__law_meets), sl__law_meets⟩)
    (c__law_meets : PySem.W.codeIn K cd__law_meets "_law_meets" = true)
    (k__law_meets : PySem.W.keepIn K (.ref f__law_meets) = true)
    (a__law_case : PySem.W.nsIn K mainGlobals "_law_case" = some (some (.ref f__law_case)))
    (l__law_case : K.lookup f__law_case = some ⟨oc__law_case, od__law_case, .func (PySem.W.fnOf "_law_case" "_law_case" (defArgs s__law_case) (defBody s__law_case) (defScope s__law_case) .none kV__law_case dc__law_case pm__law_case an__law_case cd__law_case ct__law_case), sl__law_case⟩)
    (c__law_case : PySem.W.codeIn K cd__law_case "_law_case" = true)
    (k__law_case : PySem.W.keepIn K (.ref f__law_case) = true)
    (a__law_every : PySem.W.nsIn K mainGlobals "_law_every" = some (some (.ref f__law_every)))
    (l__law_every : K.lookup f__law_every = some ⟨oc__law_every, od__law_every, .func (PySem.W.fnOf "_law_every" "_law_every" (defArgs s__law_every) (defBody s__law_every) (defScope s__law_every) .none kV__law_every dc__law_every pm__law_every an__law_every cd__law_every ct__law_every), sl__law_every⟩)
    (c__law_every : PySem.W.codeIn K cd__law_every "_law_every" = true)
    (k__law_every : PySem.W.keepIn K (.ref f__law_every) = true)
    (a__law_single_right : PySem.W.nsIn K mainGlobals "_law_single_right" = some (some (.ref f__law_single_right)))
    (l__law_single_right : K.lookup f__law_single_right = some ⟨oc__law_single_right, od__law_single_right, .func (PySem.W.fnOf "_law_single_right" "_law_single_right" (defArgs s__law_single_right) (defBody s__law_single_right) (defScope s__law_single_right) .none kV__law_single_right dc__law_single_right pm__law_single_right an__law_single_right cd__law_single_right ct__law_single_right), sl__law_single_right⟩)
    (c__law_single_right : PySem.W.codeIn K cd__law_single_right "_law_single_right" = true)
    (k__law_single_right : PySem.W.keepIn K (.ref f__law_single_right) = true)
    (a_law : PySem.W.nsIn K mainGlobals "law" = some (some (.ref f_law)))
    (l_law : K.lookup f_law = some ⟨oc_law, od_law, .func (PySem.W.fnOf "law" "law" (defArgs s_law) (defBody s_law) (defScope s_law) .none kV_law dc_law pm_law an_law (.ref cc_law) ct_law), sl_law⟩)
    (c_law : PySem.W.codeIn K (.ref cc_law) "law" = true)
    (k_law : PySem.W.keepIn K (.ref f_law) = true)
    (co : PySem.W.nsIn K mainGlobals "Condition" = some (some (.ref CO)))
    (co_mk : PySem.W.makesIn K CO = true)
    (co_in : PySem.W.findIn K (.ref CO) "__init__" = some (some (.ref f_mi)))
    (co_fn : PySem.W.isFn K (.ref f_mi) = true)
    (co_kp : PySem.W.keepIn K (.ref CO) = true)
    (co_pg : PySem.W.plainGet K CO Str.empty = true)
    (co_hd : PySem.W.hasDictIn K CO = true)
    (co_po : PySem.W.plainOver K CO = true)
    (co_sa : PySem.W.findIn K (.ref CO) "__setattr__" = some (some (.builtin "object.__setattr__")))
    (co_n1 : PySem.W.findIn K (.ref CO) "_holding" = some none)
    (co_n2 : PySem.W.findIn K (.ref CO) "_failing" = some none)
    (co_n3 : PySem.W.findIn K (.ref CO) "_names" = some none)
    (pa_mh : PySem.W.findIn K (.ref CO) "holding" = some (some (.ref pp_mh)))
    (pg_mh : PySem.W.specialIn K (.ref pp_mh) "__get__" = some (some (.builtin "property.__get__")))
    (pt_mh : PySem.W.takesIn K (.ref pp_mh) = some true)
    (pr_mh : PySem.W.recIn K pp_mh "property" = some (.ref f_mh :: rs_mh))
    (pa_mf : PySem.W.findIn K (.ref CO) "failing" = some (some (.ref pp_mf)))
    (pg_mf : PySem.W.specialIn K (.ref pp_mf) "__get__" = some (some (.builtin "property.__get__")))
    (pt_mf : PySem.W.takesIn K (.ref pp_mf) = some true)
    (pr_mf : PySem.W.recIn K pp_mf "property" = some (.ref f_mf :: rs_mf))
    (pa_mn : PySem.W.findIn K (.ref CO) "names" = some (some (.ref pp_mn)))
    (pg_mn : PySem.W.specialIn K (.ref pp_mn) "__get__" = some (some (.builtin "property.__get__")))
    (pt_mn : PySem.W.takesIn K (.ref pp_mn) = some true)
    (pr_mn : PySem.W.recIn K pp_mn "property" = some (.ref f_mn :: rs_mn))
    (at_mc : PySem.W.findIn K (.ref CO) "__call__" = some (some (.ref f_mc)))
    (fn_mc : PySem.W.isFn K (.ref f_mc) = true)
    (at_ma : PySem.W.findIn K (.ref CO) "__and__" = some (some (.ref f_ma)))
    (fn_ma : PySem.W.isFn K (.ref f_ma) = true)
    (at_me : PySem.W.findIn K (.ref CO) "__eq__" = some (some (.ref f_me)))
    (fn_me : PySem.W.isFn K (.ref f_me) = true)
    (at_mw : PySem.W.findIn K (.ref CO) "within" = some (some (.ref f_mw)))
    (fn_mw : PySem.W.isFn K (.ref f_mw) = true)
    (fi_mc : PySem.W.fnIn K f_mc = true)
    (co_sf : PySem.W.selfFirst K CO = true)
    (co_ne : PySem.W.findIn K (.ref CO) "__ne__" = some (some (.builtin "object.__ne__")))
    (co_ca : PySem.W.findIn K (.ref CO) "__class__" = some (some (.builtin "object.__class__")))
    (co_ob : PySem.W.mroIn K CO (.type "object") = some true)
    (co_ss : PySem.W.subIn K (.ref CO) (.ref CO) = some true)
    (co_cl : PySem.W.isClsIn K CO = true)
    (co_ty : PySem.W.typeIn K (.ref CO) = some (.type "type"))
    (co_tu : PySem.W.subIn K (.type "tuple") (.ref CO) = some false)
    (l_mi : K.lookup f_mi = some ⟨oc_mi, od_mi, .func (PySem.W.fnOf "__init__" "Condition.__init__" (defArgs s_Condition___init__) (defBody s_Condition___init__) (defScope s_Condition___init__) .none kV_mi dc_mi pm_mi an_mi cd_mi ct_mi), sl_mi⟩)
    (c_mi : PySem.W.codeIn K cd_mi "Condition.__init__" = true)
    (k_mi : PySem.W.keepIn K (.ref f_mi) = true)
    (l_mh : K.lookup f_mh = some ⟨oc_mh, od_mh, .func (PySem.W.fnOf "holding" "Condition.holding" (defArgs s_Condition_holding) (defBody s_Condition_holding) (defScope s_Condition_holding) .none kV_mh dc_mh pm_mh an_mh cd_mh ct_mh), sl_mh⟩)
    (c_mh : PySem.W.codeIn K cd_mh "Condition.holding" = true)
    (k_mh : PySem.W.keepIn K (.ref f_mh) = true)
    (l_mf : K.lookup f_mf = some ⟨oc_mf, od_mf, .func (PySem.W.fnOf "failing" "Condition.failing" (defArgs s_Condition_failing) (defBody s_Condition_failing) (defScope s_Condition_failing) .none kV_mf dc_mf pm_mf an_mf cd_mf ct_mf), sl_mf⟩)
    (c_mf : PySem.W.codeIn K cd_mf "Condition.failing" = true)
    (k_mf : PySem.W.keepIn K (.ref f_mf) = true)
    (l_mn : K.lookup f_mn = some ⟨oc_mn, od_mn, .func (PySem.W.fnOf "names" "Condition.names" (defArgs s_Condition_names) (defBody s_Condition_names) (defScope s_Condition_names) .none kV_mn dc_mn pm_mn an_mn cd_mn ct_mn), sl_mn⟩)
    (c_mn : PySem.W.codeIn K cd_mn "Condition.names" = true)
    (k_mn : PySem.W.keepIn K (.ref f_mn) = true)
    (l_mc : K.lookup f_mc = some ⟨oc_mc, od_mc, .func (PySem.W.fnOf "__call__" "Condition.__call__" (defArgs s_Condition___call__) (defBody s_Condition___call__) (defScope s_Condition___call__) .none kV_mc dc_mc pm_mc an_mc cd_mc ct_mc), sl_mc⟩)
    (c_mc : PySem.W.codeIn K cd_mc "Condition.__call__" = true)
    (k_mc : PySem.W.keepIn K (.ref f_mc) = true)
    (l_ma : K.lookup f_ma = some ⟨oc_ma, od_ma, .func (PySem.W.fnOf "__and__" "Condition.__and__" (defArgs s_Condition___and__) (defBody s_Condition___and__) (defScope s_Condition___and__) .none kV_ma dc_ma pm_ma an_ma cd_ma ct_ma), sl_ma⟩)
    (c_ma : PySem.W.codeIn K cd_ma "Condition.__and__" = true)
    (k_ma : PySem.W.keepIn K (.ref f_ma) = true)
    (l_me : K.lookup f_me = some ⟨oc_me, od_me, .func (PySem.W.fnOf "__eq__" "Condition.__eq__" (defArgs s_Condition___eq__) (defBody s_Condition___eq__) (defScope s_Condition___eq__) .none kV_me dc_me pm_me an_me cd_me ct_me), sl_me⟩)
    (c_me : PySem.W.codeIn K cd_me "Condition.__eq__" = true)
    (k_me : PySem.W.keepIn K (.ref f_me) = true)
    (l_mw : K.lookup f_mw = some ⟨oc_mw, od_mw, .func (PySem.W.fnOf "within" "Condition.within" (defArgs s_Condition_within) (defBody s_Condition_within) (defScope s_Condition_within) .none kV_mw dc_mw pm_mw an_mw cd_mw ct_mw), sl_mw⟩)
    (c_mw : PySem.W.codeIn K cd_mw "Condition.within" = true)
    (k_mw : PySem.W.keepIn K (.ref f_mw) = true)
    (b_isinstance : PySem.W.nsIn K mainGlobals "isinstance" = some none)
    (b_len : PySem.W.nsIn K mainGlobals "len" = some none)
    (b_all : PySem.W.nsIn K mainGlobals "all" = some none)
    (b_any : PySem.W.nsIn K mainGlobals "any" = some none)
    (b_sum : PySem.W.nsIn K mainGlobals "sum" = some none)
    (b_max : PySem.W.nsIn K mainGlobals "max" = some none)
    (b_min : PySem.W.nsIn K mainGlobals "min" = some none)
    (b_int : PySem.W.nsIn K mainGlobals "int" = some none)
    (b_str : PySem.W.nsIn K mainGlobals "str" = some none)
    (b_bool : PySem.W.nsIn K mainGlobals "bool" = some none)
    (b_list : PySem.W.nsIn K mainGlobals "list" = some none)
    (b_tuple : PySem.W.nsIn K mainGlobals "tuple" = some none)
    (b_dict : PySem.W.nsIn K mainGlobals "dict" = some none)
    (b_range : PySem.W.nsIn K mainGlobals "range" = some none)
    (b_enumerate : PySem.W.nsIn K mainGlobals "enumerate" = some none)
    (b_sorted : PySem.W.nsIn K mainGlobals "sorted" = some none)
    (b_reversed : PySem.W.nsIn K mainGlobals "reversed" = some none)
    (b_zip : PySem.W.nsIn K mainGlobals "zip" = some none)
    (b_set : PySem.W.nsIn K mainGlobals "set" = some none)
    (b_ValueError : PySem.W.nsIn K mainGlobals "ValueError" = some none)
    (m_LETTERS : PySem.W.nsIn K mainGlobals "LETTERS" = some (some (.str letters t_LETTERS)))
    (m_LONGEST_NAME : PySem.W.nsIn K mainGlobals "LONGEST_NAME" = some (some (.int 8 t_LONGEST_NAME)))
    (m_MOST_NAMES : PySem.W.nsIn K mainGlobals "MOST_NAMES" = some (some (.int 8 t_MOST_NAMES)))
    (m_CourtError : PySem.W.nsIn K mainGlobals "CourtError" = some (some (.ref CE)))
    (m_InvalidFacts : PySem.W.nsIn K mainGlobals "InvalidFacts" = some (some (.ref E0)))
    (m_InvalidCase : PySem.W.nsIn K mainGlobals "InvalidCase" = some (some (.ref E1)))
    (m_InvalidNumber : PySem.W.nsIn K mainGlobals "InvalidNumber" = some (some (.ref E2)))
    (m_InvalidCondition : PySem.W.nsIn K mainGlobals "InvalidCondition" = some (some (.ref E3)))
    (m_NeverMet : PySem.W.nsIn K mainGlobals "NeverMet" = some (some (.ref E4)))
    (m_InvalidRule : PySem.W.nsIn K mainGlobals "InvalidRule" = some (some (.ref E5)))
    (m_InvalidBook : PySem.W.nsIn K mainGlobals "InvalidBook" = some (some (.ref E6)))
    (m_UnknownRule : PySem.W.nsIn K mainGlobals "UnknownRule" = some (some (.ref E7)))
    (m_InvalidRuling : PySem.W.nsIn K mainGlobals "InvalidRuling" = some (some (.ref E8)))
    (m_UnknownFact : PySem.W.nsIn K mainGlobals "UnknownFact" = some (some (.ref E9)))
    (m_NoReason : PySem.W.nsIn K mainGlobals "NoReason" = some (some (.ref E10)))
    (m_TooMany : PySem.W.nsIn K mainGlobals "TooMany" = some (some (.ref E11)))
    (m_InvalidChance : PySem.W.nsIn K mainGlobals "InvalidChance" = some (some (.ref E12)))
    (m_OtherFacts : PySem.W.nsIn K mainGlobals "OtherFacts" = some (some (.ref E13)))
    (m_NoNeighbor : PySem.W.nsIn K mainGlobals "NoNeighbor" = some (some (.ref E14)))
    (m_NoFacts : PySem.W.nsIn K mainGlobals "NoFacts" = some (some (.ref E15)))
    (m_AlreadyKnown : PySem.W.nsIn K mainGlobals "AlreadyKnown" = some (some (.ref E16)))
    (CEbe : PySem.W.subIn K (.ref CE) (.type "BaseException") = some true)
    (CEcl : PySem.W.isClsIn K CE = true)
    (CEty : PySem.W.typeIn K (.ref CE) = some (.type "type"))
    (u_0 : PySem.W.isClsIn K E0 = true)
    (v_0 : PySem.W.typeIn K (.ref E0) = some (.type "type"))
    (u_1 : PySem.W.isClsIn K E1 = true)
    (v_1 : PySem.W.typeIn K (.ref E1) = some (.type "type"))
    (u_2 : PySem.W.isClsIn K E2 = true)
    (v_2 : PySem.W.typeIn K (.ref E2) = some (.type "type"))
    (u_3 : PySem.W.isClsIn K E3 = true)
    (v_3 : PySem.W.typeIn K (.ref E3) = some (.type "type"))
    (u_4 : PySem.W.isClsIn K E4 = true)
    (v_4 : PySem.W.typeIn K (.ref E4) = some (.type "type"))
    (u_5 : PySem.W.isClsIn K E5 = true)
    (v_5 : PySem.W.typeIn K (.ref E5) = some (.type "type"))
    (u_6 : PySem.W.isClsIn K E6 = true)
    (v_6 : PySem.W.typeIn K (.ref E6) = some (.type "type"))
    (u_7 : PySem.W.isClsIn K E7 = true)
    (v_7 : PySem.W.typeIn K (.ref E7) = some (.type "type"))
    (u_8 : PySem.W.isClsIn K E8 = true)
    (v_8 : PySem.W.typeIn K (.ref E8) = some (.type "type"))
    (u_9 : PySem.W.isClsIn K E9 = true)
    (v_9 : PySem.W.typeIn K (.ref E9) = some (.type "type"))
    (u_10 : PySem.W.isClsIn K E10 = true)
    (v_10 : PySem.W.typeIn K (.ref E10) = some (.type "type"))
    (u_11 : PySem.W.isClsIn K E11 = true)
    (v_11 : PySem.W.typeIn K (.ref E11) = some (.type "type"))
    (u_12 : PySem.W.isClsIn K E12 = true)
    (v_12 : PySem.W.typeIn K (.ref E12) = some (.type "type"))
    (u_13 : PySem.W.isClsIn K E13 = true)
    (v_13 : PySem.W.typeIn K (.ref E13) = some (.type "type"))
    (u_14 : PySem.W.isClsIn K E14 = true)
    (v_14 : PySem.W.typeIn K (.ref E14) = some (.type "type"))
    (u_15 : PySem.W.isClsIn K E15 = true)
    (v_15 : PySem.W.typeIn K (.ref E15) = some (.type "type"))
    (u_16 : PySem.W.isClsIn K E16 = true)
    (v_16 : PySem.W.typeIn K (.ref E16) = some (.type "type"))
    (r3_cl : PySem.W.isClsIn K E3 = true)
    (r3_ga : PySem.W.findIn K (.ref E3) "__getattribute__" = some (some (.builtin "BaseException.__getattribute__")))
    (r3_gt : PySem.W.findIn K (.ref E3) "__getattr__" = some none)
    (r3_be : PySem.W.subIn K (.ref E3) (.type "BaseException") = some true)
    (r3_kc : PySem.W.findIn K (.ref E3) "__class__" = some (some (.builtin "object.__class__")))
    (r3_ob : PySem.W.mroIn K E3 (.type "object") = some true)
    (r3_hd : PySem.W.hasDictIn K E3 = true)
    (r3_sC : PySem.W.subIn K (.ref E3) (.ref CE) = some true)
    (r3_ve : PySem.W.subIn K (.ref E3) (.type "ValueError") = some true)
    (r3_k0 : PySem.W.subIn K (.ref E3) (.ref E0) = some false)
    (r3_k1 : PySem.W.subIn K (.ref E3) (.ref E1) = some false)
    (r3_k2 : PySem.W.subIn K (.ref E3) (.ref E2) = some false)
    (r3_k3 : PySem.W.subIn K (.ref E3) (.ref E3) = some true)
    (r3_k4 : PySem.W.subIn K (.ref E3) (.ref E4) = some false)
    (r3_k5 : PySem.W.subIn K (.ref E3) (.ref E5) = some false)
    (r3_k6 : PySem.W.subIn K (.ref E3) (.ref E6) = some false)
    (r3_k7 : PySem.W.subIn K (.ref E3) (.ref E7) = some false)
    (r3_k8 : PySem.W.subIn K (.ref E3) (.ref E8) = some false)
    (r3_k9 : PySem.W.subIn K (.ref E3) (.ref E9) = some false)
    (r3_k10 : PySem.W.subIn K (.ref E3) (.ref E10) = some false)
    (r3_k11 : PySem.W.subIn K (.ref E3) (.ref E11) = some false)
    (r3_k12 : PySem.W.subIn K (.ref E3) (.ref E12) = some false)
    (r3_k13 : PySem.W.subIn K (.ref E3) (.ref E13) = some false)
    (r3_k14 : PySem.W.subIn K (.ref E3) (.ref E14) = some false)
    (r3_k15 : PySem.W.subIn K (.ref E3) (.ref E15) = some false)
    (r3_k16 : PySem.W.subIn K (.ref E3) (.ref E16) = some false)
    (r3_n_index : PySem.W.findIn K (.ref E3) "index" = some none)
    (r3_n_part : PySem.W.findIn K (.ref E3) "part" = some none)
    (r3_n_word : PySem.W.findIn K (.ref E3) "word" = some none)
    (r3_n_fact : PySem.W.findIn K (.ref E3) "fact" = some none)
    (r4_cl : PySem.W.isClsIn K E4 = true)
    (r4_ga : PySem.W.findIn K (.ref E4) "__getattribute__" = some (some (.builtin "BaseException.__getattribute__")))
    (r4_gt : PySem.W.findIn K (.ref E4) "__getattr__" = some none)
    (r4_be : PySem.W.subIn K (.ref E4) (.type "BaseException") = some true)
    (r4_kc : PySem.W.findIn K (.ref E4) "__class__" = some (some (.builtin "object.__class__")))
    (r4_ob : PySem.W.mroIn K E4 (.type "object") = some true)
    (r4_hd : PySem.W.hasDictIn K E4 = true)
    (r4_sC : PySem.W.subIn K (.ref E4) (.ref CE) = some true)
    (r4_ve : PySem.W.subIn K (.ref E4) (.type "ValueError") = some true)
    (r4_k0 : PySem.W.subIn K (.ref E4) (.ref E0) = some false)
    (r4_k1 : PySem.W.subIn K (.ref E4) (.ref E1) = some false)
    (r4_k2 : PySem.W.subIn K (.ref E4) (.ref E2) = some false)
    (r4_k3 : PySem.W.subIn K (.ref E4) (.ref E3) = some false)
    (r4_k4 : PySem.W.subIn K (.ref E4) (.ref E4) = some true)
    (r4_k5 : PySem.W.subIn K (.ref E4) (.ref E5) = some false)
    (r4_k6 : PySem.W.subIn K (.ref E4) (.ref E6) = some false)
    (r4_k7 : PySem.W.subIn K (.ref E4) (.ref E7) = some false)
    (r4_k8 : PySem.W.subIn K (.ref E4) (.ref E8) = some false)
    (r4_k9 : PySem.W.subIn K (.ref E4) (.ref E9) = some false)
    (r4_k10 : PySem.W.subIn K (.ref E4) (.ref E10) = some false)
    (r4_k11 : PySem.W.subIn K (.ref E4) (.ref E11) = some false)
    (r4_k12 : PySem.W.subIn K (.ref E4) (.ref E12) = some false)
    (r4_k13 : PySem.W.subIn K (.ref E4) (.ref E13) = some false)
    (r4_k14 : PySem.W.subIn K (.ref E4) (.ref E14) = some false)
    (r4_k15 : PySem.W.subIn K (.ref E4) (.ref E15) = some false)
    (r4_k16 : PySem.W.subIn K (.ref E4) (.ref E16) = some false)
    (r4_n_index : PySem.W.findIn K (.ref E4) "index" = some none)
    (r4_n_part : PySem.W.findIn K (.ref E4) "part" = some none)
    (r4_n_word : PySem.W.findIn K (.ref E4) "word" = some none)
    (r4_n_fact : PySem.W.findIn K (.ref E4) "fact" = some none)
    (sg : PySem.W.specialIn K (.builtin "object.__class__") "__get__" = some (some (.builtin "getset_descriptor.__get__")))
    (tk : PySem.W.takesIn K (.builtin "object.__class__") = some true)
    (x_E : K.lookup CE = some (excClassObj nmE qE CE NE bsE bmE true snE suE abE colE ddE x0E x1E x2E x3E x5E "ValueError.__new__"))
    (f_E : PySem.W.findIn K (.ref CE) "__init__" = some (some (.builtin "ValueError.__init__")))
    (noS : PySem.W.nsIn K mainGlobals "super" = some none)
    (opq : PySem.W.nsIn K cStatics "thirdparty.any" = some none)
    (i3_x : K.lookup E3 = some (excClassObj nmi3 qi3 E3 Ni3 bsi3 bmi3 true sni3 sui3 abi3 coli3 ddi3 x0i3 x1i3 x2i3 x3i3 x5i3 "ValueError.__new__"))
    (i3_rv : HandSPX.refsVE bmi3 = true)
    (i3_sa : PySem.W.findIn K (.ref E3) "__setattr__" = some (some (.builtin "object.__setattr__")))
    (i3_ty : PySem.W.typeIn K (.ref E3) = some (.type "type"))
    (i3_kC : PySem.W.keepIn K (.ref E3) = true)
    (i3_in : PySem.W.findIn K (.ref E3) "__init__" = some (some (.ref fIi3)))
    (i3_tI : PySem.W.typeIn K (.ref fIi3) = some (.type "function"))
    (i3_lI : K.lookup fIi3 = some ⟨ocii3, odii3, .func (supFd (nf_InvalidCondition celi3 codi3) kVii3 dcii3 pmii3 anii3 ctii3), slii3⟩)
    (i3_cI : PySem.W.codeIn K (.ref codi3) "InvalidCondition.__init__" = true)
    (i3_ce : K.lookup celi3 = some ⟨clci3, ccddi3, .cell (some (.ref E3)), csli3⟩)
    (i3_co : K.lookup codi3 = some ⟨ccli3, cddi3, .fields vsi3, ccsi3⟩)
    (i3_fi : vsi3[2]? = some (.str fili3 tfii3))
    (i3_fe : ((P.main.file : Str) == fili3) = true)
    (i3_sb : PySem.W.mroIn K E3 (.ref E3) = some true)
    (i3_bm : bmi3 = .ref CE :: bmE)
    (i3_vB : PySem.W.subIn K (.ref E3) (.type "ValueError") = some true)
    (i3_bE : PySem.W.subIn K (.ref E3) (.type "BaseException") = some true)
    (i3_f_part : PySem.W.findIn K (.ref E3) "part" = some none)
    (i3_f_index : PySem.W.findIn K (.ref E3) "index" = some none)
    (p4_q : PySem.W.excIn K E4 [.type "ValueError", .type "Exception", .type "BaseException", .type "object"] "ValueError.__new__" = true)
    (p4_k : PySem.W.keepIn K (.ref E4) = true)
    (p4_b : PySem.W.subIn K (.ref E4) (.type "BaseException") = some true)
    (p4_t : PySem.W.typeIn K (.ref E4) = some (.type "type"))
    (tbl : K.lookup cc_law = some ocl)
    (tb0 : PySem.W.codeHdIn [(cc_law, ocl)] cc_law 461 = true)
    (tb1 : h.get? 461 = some ⟨.none, none, .fields #[], #[]⟩)
    (tb2 : K.lookup 461 = none)
    (top0 : (P.main.scope.names.lookup ("super" : Str)).isSome = false) : LamX.LawAtS l w K CX0 9 63 "_law_script" mg fa h := by
  have e := hfa.symm.trans (PySem.W.mg_of X G a_law)
  cases e
  subst eP
  have B : Blt mg := ⟨PySem.W.mg_none_of X G b_isinstance, PySem.W.mg_none_of X G b_len, PySem.W.mg_none_of X G b_all, PySem.W.mg_none_of X G b_any, PySem.W.mg_none_of X G b_sum, PySem.W.mg_none_of X G b_max, PySem.W.mg_none_of X G b_min, PySem.W.mg_none_of X G b_int, PySem.W.mg_none_of X G b_str, PySem.W.mg_none_of X G b_bool, PySem.W.mg_none_of X G b_list, PySem.W.mg_none_of X G b_tuple, PySem.W.mg_none_of X G b_dict, PySem.W.mg_none_of X G b_range, PySem.W.mg_none_of X G b_enumerate, PySem.W.mg_none_of X G b_sorted, PySem.W.mg_none_of X G b_reversed, PySem.W.mg_none_of X G b_zip, PySem.W.mg_none_of X G b_set, PySem.W.mg_none_of X G b_ValueError⟩
  have GE : GErr mg (fun i => [E0, E1, E2, E3, E4, E5, E6, E7, E8, E9, E10, E11, E12, E13, E14, E15, E16].getD i E0) CE := ⟨PySem.W.mg_of X G m_CourtError, PySem.W.mg_of X G m_InvalidFacts, PySem.W.mg_of X G m_InvalidCase, PySem.W.mg_of X G m_InvalidNumber, PySem.W.mg_of X G m_InvalidCondition, PySem.W.mg_of X G m_NeverMet, PySem.W.mg_of X G m_InvalidRule, PySem.W.mg_of X G m_InvalidBook, PySem.W.mg_of X G m_UnknownRule, PySem.W.mg_of X G m_InvalidRuling, PySem.W.mg_of X G m_UnknownFact, PySem.W.mg_of X G m_NoReason, PySem.W.mg_of X G m_TooMany, PySem.W.mg_of X G m_InvalidChance, PySem.W.mg_of X G m_OtherFacts, PySem.W.mg_of X G m_NoNeighbor, PySem.W.mg_of X G m_NoFacts, PySem.W.mg_of X G m_AlreadyKnown⟩
  have F_is_name := fun_mk (st := s_is_name) l_is_name c_is_name k_is_name
  have b_is_name := F_is_name.binds (ps := ["value"]) fun _ _ _ _ _ _ us hl => match us, hl with | [_], _ => rfl
  have F_rises := fun_mk (st := s_rises) l_rises c_rises k_rises
  have b_rises := F_rises.binds (ps := ["names", "index"]) fun _ _ _ _ _ _ us hl => match us, hl with | [_, _], _ => rfl
  have F_check_part := fun_mk (st := s_check_part) l_check_part c_check_part k_check_part
  have b_check_part := F_check_part.binds (ps := ["part", "names", "before"]) fun _ _ _ _ _ _ us hl => match us, hl with | [_, _, _], _ => rfl
  have F_merged := fun_mk (st := s_merged) l_merged c_merged k_merged
  have b_merged := F_merged.binds (ps := ["names", "others"]) fun _ _ _ _ _ _ us hl => match us, hl with | [_, _], _ => rfl
  have F__law_mix := fun_mk (st := s__law_mix) l__law_mix c__law_mix k__law_mix
  have b__law_mix := F__law_mix.binds (ps := ["_law_script", "_law_seed"]) fun _ _ _ _ _ _ us hl => match us, hl with | [_, _], _ => rfl
  have F__law_next := fun_mk (st := s__law_next) l__law_next c__law_next k__law_next
  have b__law_next := F__law_next.binds (ps := ["_law_h", "_law_limit"]) fun _ _ _ _ _ _ us hl => match us, hl with | [_, _], _ => rfl
  have F__law_alike := fun_mk (st := s__law_alike) l__law_alike c__law_alike k__law_alike
  have b__law_alike := F__law_alike.binds (ps := ["_law_found", "_law_due"]) fun _ _ _ _ _ _ us hl => match us, hl with | [_, _], _ => rfl
  have F__law_error := fun_mk (st := s__law_error) l__law_error c__law_error k__law_error
  have b__law_error := F__law_error.binds (ps := ["_law_call"]) fun _ _ _ _ _ _ us hl => match us, hl with | [_], _ => rfl
  have F__law_facts := fun_mk (st := s__law_facts) l__law_facts c__law_facts k__law_facts
  have b__law_facts := F__law_facts.binds (ps := ["_law_h", "_law_count"]) fun _ _ _ _ _ _ us hl => match us, hl with | [_, _], _ => rfl
  have F__law_parts := fun_mk (st := s__law_parts) l__law_parts c__law_parts k__law_parts
  have b__law_parts := F__law_parts.binds (ps := ["_law_h", "_law_facts_here", "_law_most"]) fun _ _ _ _ _ _ us hl => match us, hl with | [_, _, _], _ => rfl
  have F__law_meets := fun_mk (st := s__law_meets) l__law_meets c__law_meets k__law_meets
  have b__law_meets := F__law_meets.binds (ps := ["_law_row", "_law_case_here"]) fun _ _ _ _ _ _ us hl => match us, hl with | [_, _], _ => rfl
  have F__law_case := fun_mk (st := s__law_case) l__law_case c__law_case k__law_case
  have b__law_case := F__law_case.binds (ps := ["_law_facts_here", "_law_number"]) fun _ _ _ _ _ _ us hl => match us, hl with | [_, _], _ => rfl
  have F__law_every := fun_mk (st := s__law_every) l__law_every c__law_every k__law_every
  have b__law_every := F__law_every.binds (ps := ["_law_facts_here"]) fun _ _ _ _ _ _ us hl => match us, hl with | [_], _ => rfl
  have F__law_single_right := fun_mk (st := s__law_single_right) l__law_single_right c__law_single_right k__law_single_right
  have b__law_single_right := F__law_single_right.binds (ps := ["_law_h", "_law_long"]) fun _ _ _ _ _ _ us hl => match us, hl with | [_, _], _ => rfl
  have ec_InvalidCondition : ErrC K E3 := ⟨r3_cl, r3_ga, r3_gt, r3_be, r3_kc, sg, tk, r3_ob, r3_hd⟩
  have er_InvalidCondition : ErrRow K (fun i => [E0, E1, E2, E3, E4, E5, E6, E7, E8, E9, E10, E11, E12, E13, E14, E15, E16].getD i E0) CE E3 3 := ⟨by decide, ec_InvalidCondition, exm_by CEbe CEcl CEty r3_sC, fun i hi => match i, hi with | 0, _ => kit_by r3_k3 u_0 v_0 r3_k0 | 1, _ => kit_by r3_k3 u_1 v_1 r3_k1 | 2, _ => kit_by r3_k3 u_2 v_2 r3_k2 | 3, _ => kit_by r3_k3 u_3 v_3 r3_k3 | 4, _ => kit_by r3_k3 u_4 v_4 r3_k4 | 5, _ => kit_by r3_k3 u_5 v_5 r3_k5 | 6, _ => kit_by r3_k3 u_6 v_6 r3_k6 | 7, _ => kit_by r3_k3 u_7 v_7 r3_k7 | 8, _ => kit_by r3_k3 u_8 v_8 r3_k8 | 9, _ => kit_by r3_k3 u_9 v_9 r3_k9 | 10, _ => kit_by r3_k3 u_10 v_10 r3_k10 | 11, _ => kit_by r3_k3 u_11 v_11 r3_k11 | 12, _ => kit_by r3_k3 u_12 v_12 r3_k12 | 13, _ => kit_by r3_k3 u_13 v_13 r3_k13 | 14, _ => kit_by r3_k3 u_14 v_14 r3_k14 | 15, _ => kit_by r3_k3 u_15 v_15 r3_k15 | 16, _ => kit_by r3_k3 u_16 v_16 r3_k16 | x + 17, h => absurd h (by omega), kit_ve r3_ve, four r3_n_index r3_n_part r3_n_word r3_n_fact⟩
  have ec_NeverMet : ErrC K E4 := ⟨r4_cl, r4_ga, r4_gt, r4_be, r4_kc, sg, tk, r4_ob, r4_hd⟩
  have er_NeverMet : ErrRow K (fun i => [E0, E1, E2, E3, E4, E5, E6, E7, E8, E9, E10, E11, E12, E13, E14, E15, E16].getD i E0) CE E4 4 := ⟨by decide, ec_NeverMet, exm_by CEbe CEcl CEty r4_sC, fun i hi => match i, hi with | 0, _ => kit_by r4_k4 u_0 v_0 r4_k0 | 1, _ => kit_by r4_k4 u_1 v_1 r4_k1 | 2, _ => kit_by r4_k4 u_2 v_2 r4_k2 | 3, _ => kit_by r4_k4 u_3 v_3 r4_k3 | 4, _ => kit_by r4_k4 u_4 v_4 r4_k4 | 5, _ => kit_by r4_k4 u_5 v_5 r4_k5 | 6, _ => kit_by r4_k4 u_6 v_6 r4_k6 | 7, _ => kit_by r4_k4 u_7 v_7 r4_k7 | 8, _ => kit_by r4_k4 u_8 v_8 r4_k8 | 9, _ => kit_by r4_k4 u_9 v_9 r4_k9 | 10, _ => kit_by r4_k4 u_10 v_10 r4_k10 | 11, _ => kit_by r4_k4 u_11 v_11 r4_k11 | 12, _ => kit_by r4_k4 u_12 v_12 r4_k12 | 13, _ => kit_by r4_k4 u_13 v_13 r4_k13 | 14, _ => kit_by r4_k4 u_14 v_14 r4_k14 | 15, _ => kit_by r4_k4 u_15 v_15 r4_k15 | 16, _ => kit_by r4_k4 u_16 v_16 r4_k16 | x + 17, h => absurd h (by omega), kit_ve r4_ve, four r4_n_index r4_n_part r4_n_word r4_n_fact⟩
  have ox_InvalidCondition : OexC K E3 := ⟨⟨_, _, _, _, _, _, _, _, _, _, _, _, _, _, _, i3_x, i3_rv⟩, i3_sa, i3_bE, i3_ty, i3_kC⟩
  have sp_InvalidCondition : SupC l.prog K mg E3 celi3 codi3 := ⟨⟨_, _, _, i3_ce⟩, ⟨_, _, _, _, _, _, i3_co, i3_fi, i3_fe⟩, i3_sb, PySem.W.mg_none_of X G noS, opq, sup_by i3_x x_E i3_bm f_E, i3_vB, top0⟩
  have F_mi := fun_mk (st := s_Condition___init__) l_mi c_mi k_mi
  have b_mi := F_mi.binds (ps := ["self", "holding", "failing"]) fun _ _ _ _ _ _ us hl => match us, hl with | [_, _, _], _ => rfl
  have F_mh := fun_mk (st := s_Condition_holding) l_mh c_mh k_mh
  have b_mh := F_mh.binds (ps := ["self"]) fun _ _ _ _ _ _ us hl => match us, hl with | [_], _ => rfl
  have F_mf := fun_mk (st := s_Condition_failing) l_mf c_mf k_mf
  have b_mf := F_mf.binds (ps := ["self"]) fun _ _ _ _ _ _ us hl => match us, hl with | [_], _ => rfl
  have F_mn := fun_mk (st := s_Condition_names) l_mn c_mn k_mn
  have b_mn := F_mn.binds (ps := ["self"]) fun _ _ _ _ _ _ us hl => match us, hl with | [_], _ => rfl
  have F_mc := fun_mk (st := s_Condition___call__) l_mc c_mc k_mc
  have b_mc := F_mc.binds (ps := ["self", "case"]) fun _ _ _ _ _ _ us hl => match us, hl with | [_, _], _ => rfl
  have F_ma := fun_mk (st := s_Condition___and__) l_ma c_ma k_ma
  have b_ma := F_ma.binds (ps := ["self", "other"]) fun _ _ _ _ _ _ us hl => match us, hl with | [_, _], _ => rfl
  have F_me := fun_mk (st := s_Condition___eq__) l_me c_me k_me
  have b_me := F_me.binds (ps := ["self", "other"]) fun _ _ _ _ _ _ us hl => match us, hl with | [_, _], _ => rfl
  have F_mw := fun_mk (st := s_Condition_within) l_mw c_mw k_mw
  have b_mw := F_mw.binds (ps := ["self", "other"]) fun _ _ _ _ _ _ us hl => match us, hl with | [_, _], _ => rfl
  have GN : GNames mg := ⟨⟨_, PySem.W.mg_of X G m_LETTERS⟩, ⟨_, PySem.W.mg_of X G m_LONGEST_NAME⟩⟩
  have CL : Cls K CO := ⟨co_pg, co_hd, co_po, co_sa⟩
  have IC : IsiC K CO := ⟨co_ca, sg, tk, co_ob, kit_by co_ss co_cl co_ty co_ss⟩
  have nKC := kit_ty_by (T := "tuple") co_cl co_ty co_tu
  have nfT : PySem.W.notFirst K CO (.type "tuple") = true := by unfold PySem.W.notFirst; rw [co_tu]; rfl
  refine ⟨PySem.W.fnOf "law" "law" (defArgs s_law) (defBody s_law) (defScope s_law) .none kV_law dc_law pm_law an_law (.ref cc_law) ct_law, [(cc_law, 461)], sp_law K 461, fun p hp => by rw [List.mem_singleton.mp hp]; exact tb1, fun p hp => by rw [List.mem_singleton.mp hp]; exact tb2, fun p hp => by rw [List.mem_singleton.mp hp]; exact PySem.W.codeHd_of_K X (codeHd_by tbl tb0), ?_, ?_, ?_⟩
  · exact fun s u => .of_eq rfl
  · exact fun H a ns hl hb ht hS => ⟨a, ns, rfl, hS, hl, hb, ht _ (List.mem_singleton.mpr rfl), fun _ => rfl⟩
  · intro base KB NB TBs
    have e_InvalidCondition : ErrMk l.prog w K mg base "InvalidCondition" E3 ["self", "part", "index"] (sp_init2 E3 "part" "index") := ⟨_, _, ox_InvalidCondition, i3_in, i3_tI, ok_init_InvalidCondition i3_lI i3_cI ox_InvalidCondition sp_InvalidCondition i3_f_part i3_f_index, fun s us _ hl => match us, hl with | [_, _, _], _ => .of_eq rfl, PySem.W.mg_of X G m_InvalidCondition⟩
    have e_NeverMet : ErrMk0 K mg "NeverMet" E4 := ⟨p4_q, PySem.W.mg_of X G m_NeverMet, p4_k, p4_b, p4_t⟩
    have c_is_name : Cal l.prog w K mg base CX0 1 "is_name" ["value"] (sp_is_name) := ⟨_, _, (ok_is_name F_is_name B GN), PySem.W.mg_of X G a_is_name, k_is_name, b_is_name⟩
    have c_rises : Cal l.prog w K mg base CX0 1 "rises" ["names", "index"] (sp_rises K) := ⟨_, _, (ok_rises F_rises ), PySem.W.mg_of X G a_rises, k_rises, b_rises⟩
    have c_check_part : Cal l.prog w K mg base (L2.CX l.prog w) 3 "check_part" ["part", "names", "before"] (sp_check_part K E3) := ⟨_, _, (ok_check_part F_check_part B ⟨_, PySem.W.mg_of X G m_MOST_NAMES⟩ e_InvalidCondition c_is_name c_rises), PySem.W.mg_of X G a_check_part, k_check_part, b_check_part⟩
    have c_merged : Cal l.prog w K mg base CX0 1 "merged" ["names", "others"] (sp_merged K) := ⟨_, _, (ok_merged F_merged B), PySem.W.mg_of X G a_merged, k_merged, b_merged⟩
    have c__law_mix : Cal l.prog w K mg base CX0 1 "_law_mix" ["_law_script", "_law_seed"] (sp_mix K) := ⟨_, _, (ok_mix F__law_mix B), PySem.W.mg_of X G a__law_mix, k__law_mix, b__law_mix⟩
    have c__law_next : Cal l.prog w K mg base CX0 1 "_law_next" ["_law_h", "_law_limit"] (sp_next) := ⟨_, _, (ok_next F__law_next B), PySem.W.mg_of X G a__law_next, k__law_next, b__law_next⟩
    have c__law_facts : Cal l.prog w K mg base CX0 2 "_law_facts" ["_law_h", "_law_count"] (sp_facts) := ⟨_, _, (ok_facts F__law_facts B c__law_next), PySem.W.mg_of X G a__law_facts, k__law_facts, b__law_facts⟩
    have c__law_parts : Cal l.prog w K mg base CX0 2 "_law_parts" ["_law_h", "_law_facts_here", "_law_most"] (sp_parts K) := ⟨_, _, (ok_parts F__law_parts B c__law_next), PySem.W.mg_of X G a__law_parts, k__law_parts, b__law_parts⟩
    have c__law_meets : Cal l.prog w K mg base CX0 1 "_law_meets" ["_law_row", "_law_case_here"] (sp_meets K) := ⟨_, _, (ok_meets F__law_meets B), PySem.W.mg_of X G a__law_meets, k__law_meets, b__law_meets⟩
    have c__law_case : Cal l.prog w K mg base CX0 1 "_law_case" ["_law_facts_here", "_law_number"] (sp_case K) := ⟨_, _, (ok_case F__law_case B), PySem.W.mg_of X G a__law_case, k__law_case, b__law_case⟩
    have c__law_every : Cal l.prog w K mg base CX0 2 "_law_every" ["_law_facts_here"] (sp_every K) := ⟨_, _, (ok_every F__law_every B c__law_case), PySem.W.mg_of X G a__law_every, k__law_every, b__law_every⟩
    have c0 : Cal l.prog w K mg base CX0 1 "_law_alike" ["_law_found", "_law_due"] (sp_alike 0) := ⟨_, _, (ok_alike0 F__law_alike B), PySem.W.mg_of X G a__law_alike, k__law_alike, b__law_alike⟩
    have c1 : Cal l.prog w K mg base CX0 2 "_law_alike" ["_law_found", "_law_due"] (sp_alike 1) := ⟨_, _, (ok_alike F__law_alike B c0), PySem.W.mg_of X G a__law_alike, k__law_alike, b__law_alike⟩
    have kM : Mkr l.prog w K mg base 4 "Condition" CO ["self", "holding", "failing"] (sp_cond_init K CO E3) := ⟨_, _, ⟨co_mk, co_in, co_fn, co_kp⟩, ok_cond_init F_mi B CL co_n1 co_n2 co_n3 c_check_part c_merged, PySem.W.mg_of X G co, b_mi⟩
    have pc_mh : PropC l.prog w K mg base CO pp_mh f_mh _ "holding" "_holding" := ⟨⟨pa_mh, pg_mh, pt_mh, ⟨_, pr_mh⟩⟩, ok_holding F_mh CL co_n1, b_mh⟩
    have pc_mf : PropC l.prog w K mg base CO pp_mf f_mf _ "failing" "_failing" := ⟨⟨pa_mf, pg_mf, pt_mf, ⟨_, pr_mf⟩⟩, ok_failing F_mf CL co_n2, b_mf⟩
    have pc_mn : PropC l.prog w K mg base CO pp_mn f_mn _ "names" "_names" := ⟨⟨pa_mn, pg_mn, pt_mn, ⟨_, pr_mn⟩⟩, ok_cnames F_mn CL co_n3, b_mn⟩
    have kX : CondX l.prog w K mg base CO E3 E4 := ⟨CL, IC, ⟨_, _, _, pc_mh⟩, ⟨_, _, _, pc_mf⟩, ⟨_, _, _, pc_mn⟩, ⟨_, _, at_mc, fn_mc, fi_mc, ok_ccall F_mc B CL co_n1 co_n2, b_mc⟩, ⟨_, _, at_me, fn_me, ok_ceq F_me B CL co_n1 co_n2 (PySem.W.mg_of X G co) IC, b_me⟩, co_ne,
      ⟨co_sf, _, _, at_ma, fn_ma, ok_cand F_ma B CL co_n1 co_n2 pc_mh pc_mf e_NeverMet c_merged kM, b_ma⟩, ⟨_, _, ⟨at_mw, fn_mw, k_mw⟩, ok_within F_mw B CL co_n1 co_n2 pc_mh pc_mf, b_mw⟩⟩
    have c__law_single_right : Cal l.prog w K mg base CX0 6 "_law_single_right" ["_law_h", "_law_long"] (sp_single K) := ⟨_, _, (ok_single F__law_single_right B c__law_next kM kX), PySem.W.mg_of X G a__law_single_right, k__law_single_right, b__law_single_right⟩
    exact ok_law ⟨⟨_, _, _, _, _, _, _, _, rfl, l_law, c_law⟩, k_law⟩ B GE F__law_error (PySem.W.mg_of X G a__law_error) b__law_error (TBs _ (List.mem_singleton.mpr rfl)) er_InvalidCondition er_NeverMet nKC nfT c__law_mix c__law_next c__law_facts c__law_parts c__law_meets c__law_every c__law_single_right c1 kM kX
end Sc
open PySem PySem.W PyProof.Rows
set_option maxRecDepth 100000 in
set_option maxHeartbeats 0 in
theorem PySem.Challenge.cw_smallcourt_k03_whole_conditions_met_holds : PySem.Challenge.rw_smallcourt_k03_whole_conditions_met.Holds := by
  w_on; o_law; k_head; (case hw => w_witness2)
  k_fill
  refine LamX.walk_ofTs (l := PySem.Challenge.rw_smallcourt_k03_whole_conditions_met) (n := 63) (k := 9) (CX := fun _ => L2.CX0) (x := "_law_script") rfl (by decide) rfl ⟨rfl, by decide, by decide⟩ (fun w h Y => Y.1) ?F (fun _ _ _ _ _ z => z)
  case F =>
    intro w mg fa h Y KX G hmg
    refine' Sc.all_mk rfl KX G hmg ?a_is_name ?l_is_name ?c_is_name ?k_is_name ?a_rises ?l_rises ?c_rises ?k_rises ?a_check_part ?l_check_part ?c_check_part ?k_check_part ?a_merged ?l_merged ?c_merged ?k_merged ?a__law_mix ?l__law_mix ?c__law_mix ?k__law_mix ?a__law_next ?l__law_next ?c__law_next ?k__law_next ?a__law_alike ?l__law_alike ?c__law_alike ?k__law_alike ?a__law_error ?l__law_error ?c__law_error ?k__law_error ?a__law_facts ?l__law_facts ?c__law_facts ?k__law_facts ?a__law_parts ?l__law_parts ?c__law_parts ?k__law_parts ?a__law_meets ?l__law_meets ?c__law_meets ?k__law_meets ?a__law_case ?l__law_case ?c__law_case ?k__law_case ?a__law_every ?l__law_every ?c__law_every ?k__law_every ?a__law_single_right ?l__law_single_right ?c__law_single_right ?k__law_single_right ?a_law ?l_law ?c_law ?k_law ?co ?co_mk ?co_in ?co_fn ?co_kp ?co_pg ?co_hd ?co_po ?co_sa ?co_n1 ?co_n2 ?co_n3 ?pa_mh ?pg_mh ?pt_mh ?pr_mh ?pa_mf ?pg_mf ?pt_mf ?pr_mf ?pa_mn ?pg_mn ?pt_mn ?pr_mn ?at_mc ?fn_mc ?at_ma ?fn_ma ?at_me ?fn_me ?at_mw ?fn_mw ?fi_mc ?co_sf ?co_ne ?co_ca ?co_ob ?co_ss ?co_cl ?co_ty ?co_tu ?l_mi ?c_mi ?k_mi ?l_mh ?c_mh ?k_mh ?l_mf ?c_mf ?k_mf ?l_mn ?c_mn ?k_mn ?l_mc ?c_mc ?k_mc ?l_ma ?c_ma ?k_ma ?l_me ?c_me ?k_me ?l_mw ?c_mw ?k_mw ?b_isinstance ?b_len ?b_all ?b_any ?b_sum ?b_max ?b_min ?b_int ?b_str ?b_bool ?b_list ?b_tuple ?b_dict ?b_range ?b_enumerate ?b_sorted ?b_reversed ?b_zip ?b_set ?b_ValueError ?m_LETTERS ?m_LONGEST_NAME ?m_MOST_NAMES ?m_CourtError ?m_InvalidFacts ?m_InvalidCase ?m_InvalidNumber ?m_InvalidCondition ?m_NeverMet ?m_InvalidRule ?m_InvalidBook ?m_UnknownRule ?m_InvalidRuling ?m_UnknownFact ?m_NoReason ?m_TooMany ?m_InvalidChance ?m_OtherFacts ?m_NoNeighbor ?m_NoFacts ?m_AlreadyKnown ?CEbe ?CEcl ?CEty ?u_0 ?v_0 ?u_1 ?v_1 ?u_2 ?v_2 ?u_3 ?v_3 ?u_4 ?v_4 ?u_5 ?v_5 ?u_6 ?v_6 ?u_7 ?v_7 ?u_8 ?v_8 ?u_9 ?v_9 ?u_10 ?v_10 ?u_11 ?v_11 ?u_12 ?v_12 ?u_13 ?v_13 ?u_14 ?v_14 ?u_15 ?v_15 ?u_16 ?v_16 ?r3_cl ?r3_ga ?r3_gt ?r3_be ?r3_kc ?r3_ob ?r3_hd ?r3_sC ?r3_ve ?r3_k0 ?r3_k1 ?r3_k2 ?r3_k3 ?r3_k4 ?r3_k5 ?r3_k6 ?r3_k7 ?r3_k8 ?r3_k9 ?r3_k10 ?r3_k11 ?r3_k12 ?r3_k13 ?r3_k14 ?r3_k15 ?r3_k16 ?r3_n_index ?r3_n_part ?r3_n_word ?r3_n_fact ?r4_cl ?r4_ga ?r4_gt ?r4_be ?r4_kc ?r4_ob ?r4_hd ?r4_sC ?r4_ve ?r4_k0 ?r4_k1 ?r4_k2 ?r4_k3 ?r4_k4 ?r4_k5 ?r4_k6 ?r4_k7 ?r4_k8 ?r4_k9 ?r4_k10 ?r4_k11 ?r4_k12 ?r4_k13 ?r4_k14 ?r4_k15 ?r4_k16 ?r4_n_index ?r4_n_part ?r4_n_word ?r4_n_fact ?sg ?tk ?x_E ?f_E ?noS ?opq ?i3_x ?i3_rv ?i3_sa ?i3_ty ?i3_kC ?i3_in ?i3_tI ?i3_lI ?i3_cI ?i3_ce ?i3_co ?i3_fi ?i3_fe ?i3_sb ?i3_bm ?i3_vB ?i3_bE ?i3_f_part ?i3_f_index ?p4_q ?p4_k ?p4_b ?p4_t ?tbl ?tb0 ?tb1 ?tb2 ?top0
    (case a_is_name => k_is)
    (case l_is_name => k_is)
    (case c_is_name => k_is)
    (case k_is_name => k_is)
    (case a_rises => k_is)
    (case l_rises => k_is)
    (case c_rises => k_is)
    (case k_rises => k_is)
    (case a_check_part => k_is)
    (case l_check_part => k_is)
    (case c_check_part => k_is)
    (case k_check_part => k_is)
    (case a_merged => k_is)
    (case l_merged => k_is)
    (case c_merged => k_is)
    (case k_merged => k_is)
    (case a__law_mix => k_is)
    (case l__law_mix => k_is)
    (case c__law_mix => k_is)
    (case k__law_mix => k_is)
    (case a__law_next => k_is)
    (case l__law_next => k_is)
    (case c__law_next => k_is)
    (case k__law_next => k_is)
    (case a__law_alike => k_is)
    (case l__law_alike => k_is)
    (case c__law_alike => k_is)
    (case k__law_alike => k_is)
    (case a__law_error => k_is)
    (case l__law_error => k_is)
    (case c__law_error => k_is)
    (case k__law_error => k_is)
    (case a__law_facts => k_is)
    (case l__law_facts => k_is)
    (case c__law_facts => k_is)
    (case k__law_facts => k_is)
    (case a__law_parts => k_is)
    (case l__law_parts => k_is)
    (case c__law_parts => k_is)
    (case k__law_parts => k_is)
    (case a__law_meets => k_is)
    (case l__law_meets => k_is)
    (case c__law_meets => k_is)
    (case k__law_meets => k_is)
    (case a__law_case => k_is)
    (case l__law_case => k_is)
    (case c__law_case => k_is)
    (case k__law_case => k_is)
    (case a__law_every => k_is)
    (case l__law_every => k_is)
    (case c__law_every => k_is)
    (case k__law_every => k_is)
    (case a__law_single_right => k_is)
    (case l__law_single_right => k_is)
    (case c__law_single_right => k_is)
    (case k__law_single_right => k_is)
    (case a_law => k_is)
    (case l_law => k_is)
    (case c_law => k_is)
    (case k_law => k_is)
    (case co => k_is)
    (case co_mk => k_is)
    (case co_in => k_is)
    (case co_fn => k_is)
    (case co_kp => k_is)
    (case co_pg => k_is)
    (case co_hd => k_is)
    (case co_po => k_is)
    (case co_sa => k_is)
    (case co_n1 => k_is)
    (case co_n2 => k_is)
    (case co_n3 => k_is)
    (case pa_mh => k_is)
    (case pg_mh => k_is)
    (case pt_mh => k_is)
    (case pr_mh => k_is)
    (case pa_mf => k_is)
    (case pg_mf => k_is)
    (case pt_mf => k_is)
    (case pr_mf => k_is)
    (case pa_mn => k_is)
    (case pg_mn => k_is)
    (case pt_mn => k_is)
    (case pr_mn => k_is)
    (case at_mc => k_is)
    (case fn_mc => k_is)
    (case at_ma => k_is)
    (case fn_ma => k_is)
    (case at_me => k_is)
    (case fn_me => k_is)
    (case at_mw => k_is)
    (case fn_mw => k_is)
    (case fi_mc => k_is)
    (case co_sf => k_is)
    (case co_ne => k_is)
    (case co_ca => k_is)
    (case co_ob => k_is)
    (case co_ss => k_is)
    (case co_cl => k_is)
    (case co_ty => k_is)
    (case co_tu => k_is)
    (case l_mi => k_is)
    (case c_mi => k_is)
    (case k_mi => k_is)
    (case l_mh => k_is)
    (case c_mh => k_is)
    (case k_mh => k_is)
    (case l_mf => k_is)
    (case c_mf => k_is)
    (case k_mf => k_is)
    (case l_mn => k_is)
    (case c_mn => k_is)
    (case k_mn => k_is)
    (case l_mc => k_is)
    (case c_mc => k_is)
    (case k_mc => k_is)
    (case l_ma => k_is)
    (case c_ma => k_is)
    (case k_ma => k_is)
    (case l_me => k_is)
    (case c_me => k_is)
    (case k_me => k_is)
    (case l_mw => k_is)
    (case c_mw => k_is)
    (case k_mw => k_is)
    (case b_isinstance => k_is)
    (case b_len => k_is)
    (case b_all => k_is)
    (case b_any => k_is)
    (case b_sum => k_is)
    (case b_max => k_is)
    (case b_min => k_is)
    (case b_int => k_is)
    (case b_str => k_is)
    (case b_bool => k_is)
    (case b_list => k_is)
    (case b_tuple => k_is)
    (case b_dict => k_is)
    (case b_range => k_is)
    (case b_enumerate => k_is)
    (case b_sorted => k_is)
    (case b_reversed => k_is)
    (case b_zip => k_is)
    (case b_set => k_is)
    (case b_ValueError => k_is)
    (case m_LETTERS => k_is)
    (case m_LONGEST_NAME => k_is)
    (case m_MOST_NAMES => k_is)
    (case m_CourtError => k_is)
    (case m_InvalidFacts => k_is)
    (case m_InvalidCase => k_is)
    (case m_InvalidNumber => k_is)
    (case m_InvalidCondition => k_is)
    (case m_NeverMet => k_is)
    (case m_InvalidRule => k_is)
    (case m_InvalidBook => k_is)
    (case m_UnknownRule => k_is)
    (case m_InvalidRuling => k_is)
    (case m_UnknownFact => k_is)
    (case m_NoReason => k_is)
    (case m_TooMany => k_is)
    (case m_InvalidChance => k_is)
    (case m_OtherFacts => k_is)
    (case m_NoNeighbor => k_is)
    (case m_NoFacts => k_is)
    (case m_AlreadyKnown => k_is)
    (case CEbe => k_is)
    (case CEcl => k_is)
    (case CEty => k_is)
    (case u_0 => k_is)
    (case v_0 => k_is)
    (case u_1 => k_is)
    (case v_1 => k_is)
    (case u_2 => k_is)
    (case v_2 => k_is)
    (case u_3 => k_is)
    (case v_3 => k_is)
    (case u_4 => k_is)
    (case v_4 => k_is)
    (case u_5 => k_is)
    (case v_5 => k_is)
    (case u_6 => k_is)
    (case v_6 => k_is)
    (case u_7 => k_is)
    (case v_7 => k_is)
    (case u_8 => k_is)
    (case v_8 => k_is)
    (case u_9 => k_is)
    (case v_9 => k_is)
    (case u_10 => k_is)
    (case v_10 => k_is)
    (case u_11 => k_is)
    (case v_11 => k_is)
    (case u_12 => k_is)
    (case v_12 => k_is)
    (case u_13 => k_is)
    (case v_13 => k_is)
    (case u_14 => k_is)
    (case v_14 => k_is)
    (case u_15 => k_is)
    (case v_15 => k_is)
    (case u_16 => k_is)
    (case v_16 => k_is)
    (case r3_cl => k_is)
    (case r3_ga => k_is)
    (case r3_gt => k_is)
    (case r3_be => k_is)
    (case r3_kc => k_is)
    (case r3_ob => k_is)
    (case r3_hd => k_is)
    (case r3_sC => k_is)
    (case r3_ve => k_is)
    (case r3_k0 => k_is)
    (case r3_k1 => k_is)
    (case r3_k2 => k_is)
    (case r3_k3 => k_is)
    (case r3_k4 => k_is)
    (case r3_k5 => k_is)
    (case r3_k6 => k_is)
    (case r3_k7 => k_is)
    (case r3_k8 => k_is)
    (case r3_k9 => k_is)
    (case r3_k10 => k_is)
    (case r3_k11 => k_is)
    (case r3_k12 => k_is)
    (case r3_k13 => k_is)
    (case r3_k14 => k_is)
    (case r3_k15 => k_is)
    (case r3_k16 => k_is)
    (case r3_n_index => k_is)
    (case r3_n_part => k_is)
    (case r3_n_word => k_is)
    (case r3_n_fact => k_is)
    (case r4_cl => k_is)
    (case r4_ga => k_is)
    (case r4_gt => k_is)
    (case r4_be => k_is)
    (case r4_kc => k_is)
    (case r4_ob => k_is)
    (case r4_hd => k_is)
    (case r4_sC => k_is)
    (case r4_ve => k_is)
    (case r4_k0 => k_is)
    (case r4_k1 => k_is)
    (case r4_k2 => k_is)
    (case r4_k3 => k_is)
    (case r4_k4 => k_is)
    (case r4_k5 => k_is)
    (case r4_k6 => k_is)
    (case r4_k7 => k_is)
    (case r4_k8 => k_is)
    (case r4_k9 => k_is)
    (case r4_k10 => k_is)
    (case r4_k11 => k_is)
    (case r4_k12 => k_is)
    (case r4_k13 => k_is)
    (case r4_k14 => k_is)
    (case r4_k15 => k_is)
    (case r4_k16 => k_is)
    (case r4_n_index => k_is)
    (case r4_n_part => k_is)
    (case r4_n_word => k_is)
    (case r4_n_fact => k_is)
    (case sg => k_is)
    (case tk => k_is)
    (case x_E => k_is)
    (case f_E => k_is)
    (case noS => k_is)
    (case opq => k_is)
    (case i3_x => k_is)
    (case i3_rv => decide +kernel)
    (case i3_sa => k_is)
    (case i3_ty => k_is)
    (case i3_kC => k_is)
    (case i3_in => k_is)
    (case i3_tI => k_is)
    (case i3_lI => k_is)
    (case i3_cI => k_is)
    (case i3_ce => k_is)
    (case i3_co => k_is)
    (case i3_fi => exact rfl)
    (case i3_fe => decide +kernel)
    (case i3_sb => k_is)
    (case i3_bm => exact rfl)
    (case i3_vB => k_is)
    (case i3_bE => k_is)
    (case i3_f_part => k_is)
    (case i3_f_index => k_is)
    (case p4_q => k_exc)
    (case p4_k => k_is)
    (case p4_b => k_is)
    (case p4_t => k_is)
    (case tbl => k_is)
    (case tb0 => decide +kernel)
    (case tb1 => exact Y.2 _ (List.mem_singleton.mpr rfl))
    (case tb2 => exact Sc.lookup_no (by kernel_rfl))
    (case top0 => decide +kernel)
