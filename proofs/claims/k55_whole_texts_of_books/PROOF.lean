import PyProof.Rows.All
import Wide.All
import OpenK.AllK
import Wide.FinOn
import KE.GoesMore
import HandS.Iter
import KE.KExcSuper
import HandS.Nested
import HandS.ExcInit
import HandS.FStr
import HandS.ForMost
import HandS.ForExc
import HandS.EndTab
import HandS.IsInst
import HandS.SetFor
import HandS.ExcIs
import HandS.ExcField
import HandS.TupAny
import HandS.Wide
import HandS.WideBits
import HandS.Walk
import HandS.Deep
import KE.KExcIs
import PySem.Challenge.RW_smallcourt_k55_whole_texts_of_books
import HandS.Property
import HandS.NamedTupGet
import HandS.More
import HandS.SlotsOwn
import KE.KOpsOwn
import KE.KCallOwn
import HandS.WordsExc
import HandS.Set
import HandS.TupSets
import PyProof.Rows.SortShellAny
import HandS.Text
import HandS.StrSplit
import HandS.Style
import PyProof.EqKinds
import PyProof.NeKinds
import HandS.Head2
import HandS.HeadHook4
import HandS.HeadWalk
set_option Elab.async false
set_option linter.all false
set_option maxRecDepth 100000
set_option maxHeartbeats 4000000
namespace Sc
open PySem PySem.Spec PySem.Calls PyProof.Rows L2
/-! ### enumerate(tuple) -/
theorem enumT_new (l : Addr) (items : Array Value) (n : Nat) (dct : Option Addr) (sl : Array (Option Value)) :
    Meets (Builtin.«enumerate.__new__» ⟨[.type "enumerate", .ref l], []⟩) (fun _ R s =>
      s.heap.get? l = some { cls := .type "tuple", dict := dct, data := .seq items n, slots := sl } ∧
      R (.ok (.ret (.ref (s.heap.objs.size + 1)))) { s with heap := (s.heap.push { cls := .type "tuple_iterator", data := .fields #[.ref l, .int 0 0] }).push { cls := .type "enumerate", data := .fields #[.none, .bool false, .ref s.heap.objs.size, rawInt 0, .none, .none] } }) :=
  .of_wp fun prog w A R s h => by
    obtain ⟨hp, g, d, tk, os⟩ := s
    obtain ⟨hl, hR⟩ := h
    have hsub := sub_enumerate
    have hT : Heap.IsTuple hp l items := ⟨_, hl, rfl, n, rfl⟩
    have hz : (hp.push { cls := .type "tuple_iterator", data := .fields #[.ref l, .int 0 0] }).objs.size = hp.objs.size + 1 := Heap.size_push ..
    rw [← hz] at hR
    have it1 : ∀ {A' : Around} {E : Value → Shared → Prop} {Q : Value → Shared → Prop}, Q (.ref hp.objs.size) ⟨hp.push { cls := .type "tuple_iterator", data := .fields #[.ref l, .int 0 0] }, g, d, tk, os⟩ →
        wpAny (model prog w) A' (pyIter (.ref l)) Q E ⟨hp, g, d, tk, os⟩ := fun q => wpAny_pyIter_tuple (s := ⟨hp, g, d, tk, os⟩) hT q
    wp_walk using AutoSeq1.wpAny_loadPart' hl, it1
    refine wpAny_stack_any fun st => wpAny_pure ?_
    split
    · rename_i c _ _ _ _ _
      cases (c == Value.type "enumerate") <;>
      · wp_walk using AutoSeq1.wpAny_loadPart' hl, it1
        exact ⟨_, rfl, hR⟩
    · wp_walk using AutoSeq1.wpAny_loadPart' hl, it1
      exact ⟨_, rfl, hR⟩
section
variable {prog : Program} {w : World} {A : Around} {E : Value → Shared → Prop} {s : Shared}
theorem enumT_call {l : Addr} {items : Array Value} {Q : Value → Shared → Prop} (hL : s.heap.IsTuple l items)
    (h : ∀ h', IsEnum h' (s.heap.objs.size + 1) s.heap.objs.size 0 .none → h'.IsTupleIter s.heap.objs.size l 0 → (∀ b o, s.heap.get? b = some o → h'.get? b = some o) →
      Q (.ref (s.heap.objs.size + 1)) { s with heap := h' }) : wpAny (model prog w) A (call (.type "enumerate") [.ref l]) Q E s := by
  obtain ⟨⟨c, dct, dt, sl⟩, hl, hc, n, hd⟩ := hL
  dsimp only at hc hd
  subst hc hd
  refine callType_new F.called_enumerate (by decide) (F.typeCall_enumerate_1 _) (F.newCall_enumerate_1 _) (fun obj => F.args_object_init_2 obj _) F.entry_enumerate_new (enumT_new l items n dct sl) ⟨hl, ?_⟩
  have hz : (s.heap.push { cls := .type "tuple_iterator", data := .fields #[.ref l, .int 0 0] }).objs.size = s.heap.objs.size + 1 := Heap.size_push ..
  have he := Heap.get?_push_size (s.heap.push { cls := .type "tuple_iterator", data := .fields #[.ref l, .int 0 0] })
    (o := { cls := .type "enumerate", data := .fields #[.none, .bool false, .ref s.heap.objs.size, rawInt 0, .none, .none] }) rfl
  rw [hz] at he
  exact ⟨⟨_, he, rfl⟩, h _ he ⟨_, Heap.get?_push_of_some _ (Heap.get?_push_size _ rfl), rfl, rfl⟩ fun b o x => Heap.get?_push_of_some _ (Heap.get?_push_of_some _ x)⟩
end
/-- the tuple at a, each item in a new pair -/
def IteT (K : PySem.W.Frag) (a : Addr) : It where
  go := fun i H => ∃ (xs : List V) (x : V), SqT K H a xs ∧ xs[i]? = some x
  yld := fun i H v H' => ∃ T x, v = .ref T ∧ H T = none ∧ H' = upd H T (.tup [.int (i : Nat), x]) ∧ ∀ xs, SqT K H a xs → xs[i]? = some x
  stop := fun i H => ∃ xs : List V, SqT K H a xs ∧ xs.length ≤ i
theorem enumT_turn {P : Program} {w : World} {K : PySem.W.Frag} {elts : List Expr} {kk : Nat} {tpos : Pos} (a e it : Addr) :
    Turn P w K (.Tuple elts kk tpos) (IteT K a) [e, it] e (fun i h => (∃ old, IsEnum h e it ((i : Nat) : Int) old) ∧ h.IsTupleIter it a i ∧ e ≠ it) where
  mem := List.mem_cons_self
  obj := fun i h st b hb => by
    obtain ⟨⟨old, he⟩, ⟨o, ho, hc, hd⟩, _⟩ := st
    rcases List.mem_cons.mp hb with rfl | hb
    · exact ⟨_, he, fun v q => nomatch q⟩
    · rcases List.mem_cons.mp hb with rfl | hb
      · exact ⟨o, ho, fun v q => by rw [hd] at q; cases q⟩
      · cases hb
  keep := fun i h h' st k => by
    obtain ⟨⟨old, he⟩, hi, hne⟩ := st
    exact ⟨⟨old, k e (by simp) _ he⟩, hi.at fun o q => k it (by simp) o q, hne⟩
  item := by
    intro X hP hw hK hc i pins s σ H E I hf st hg
    subst hP hw hK
    obtain ⟨⟨old, he⟩, hit, hne⟩ := st
    obtain ⟨xs, x, hq, hx⟩ := hg
    obtain ⟨its, rv, p, hz⟩ := I.tuple hq
    obtain ⟨u, hu, ru⟩ := rv.get hx
    have hel : e < s.heap.objs.size := Heap.lt_size he
    have hil : it < s.heap.objs.size := by obtain ⟨_, q, _⟩ := hit; exact Heap.lt_size q
    have p' : s.heap.IsTuple a its.toArray := p
    have hae : a ≠ e := fun z => by
      obtain ⟨o, ho, hcl, n, hd⟩ := p'
      rw [z, he] at ho
      cases ho
      cases hd
    have hai : a ≠ it := fun z => by
      obtain ⟨o, ho, hcl, n, hd⟩ := p'
      obtain ⟨o2, ho2, hcl2, hd2⟩ := hit
      rw [z, ho2] at ho
      cases ho
      rw [hd2] at hd
      cases hd
    have hlt : i < its.toArray.size := by
      rw [List.size_toArray]
      exact (List.getElem?_eq_some_iff.mp hu).1
    refine wpAny_pyNext_enum_itemD (Draws.tuple (A := X.A.in1) (I.ok.hd hc) it a hai its.toArray) he ⟨hit, p'⟩ hlt hne (by simp [hne, hae.symm]) fun y h' tk hy ho st' hT hsz hk => ?_
    obtain ⟨hit', hp'⟩ := st'
    have ey : y = u := by
      have z : its.toArray[i]? = some u := by simpa using hu
      rw [hy] at z
      exact Option.some.inj z
    subst ey
    refine ⟨_, rfl, wpAny_letOwnedTupleGo_enum (s := { s with heap := h', toks := tk + 1 }) ho fun h'' he' sb => ?_⟩
    have hT2 : h''.get? s.heap.objs.size = some { cls := .type "tuple", data := .seq #[.int i tk, y] } := (sb.2 _ (Nat.ne_of_gt hel)).trans hT
    have new : ObjOk X.prog X.w (upd H s.heap.objs.size (.tup [.int (i : Nat), x])) h'' s.heap.objs.size (.tup [.int (i : Nat), x]) :=
      ⟨by show 2 ≤ sizeLine; decide, [.int i tk, y], .cons ⟨_, rfl⟩ (.cons ru .nil), ⟨_, hT2, rfl, _, rfl⟩⟩
    have I1 : Inv X pins σ (upd H s.heap.objs.size (.tup [.int (i : Nat), x])) { s with heap := h'', toks := tk + 1 } :=
      I.turnedNew (ch := [e, it]) (fun b ob hb q => (sb.2 b (fun z => hb (by simp [z]))).trans (hk b ob (fun z => hb (by simp [z])) (fun z => hb (by simp [z])) q)) hf (Nat.le_refl _) new
    refine ⟨.ref s.heap.objs.size, _, I1, rfl, ⟨_, x, rfl, I.hok.fresh (Nat.le_refl _), rfl, fun ys hy => by rw [I.tuple_inj hy hq]; exact hx⟩, ⟨⟨y, ?_⟩, hit'.at fun o q => (sb.2 it (Ne.symm hne)).trans q, hne⟩, fun b hb => ?_⟩
    · have e1 : ((i + 1 : Nat) : Int) = (i : Int) + 1 := by omega
      rw [e1]
      exact he'
    · have hb' : b < s.heap.objs.size := by
        rcases List.mem_cons.mp hb with rfl | hb
        · exact hel
        · rcases List.mem_cons.mp hb with rfl | hb
          · exact hil
          · cases hb
      rw [upd_ne (Nat.ne_of_lt hb')]
      exact (hf b hb).1
  done := by
    intro X hP hw hK hc i pins s σ H E I hf st hg
    subst hP hw hK
    obtain ⟨⟨old, he⟩, hit, hne⟩ := st
    obtain ⟨xs, hq, hx⟩ := hg
    obtain ⟨its, rv, p, hz⟩ := I.tuple hq
    obtain ⟨f0, f1, f2, f3, f4, f5⟩ := hf it (by simp)
    have hl := rv.length
    have p' : s.heap.IsTuple a its.toArray := p
    have hai : a ≠ it := fun z => by
      obtain ⟨o, ho, hcl, n, hd⟩ := p'
      obtain ⟨o2, ho2, hcl2, hd2⟩ := hit
      rw [z, ho2] at ho
      cases ho
      rw [hd2] at hd
      cases hd
    have D : Draws X.prog X.w X.A.in1 it [it, a] i (fun _ _ => True) (fun j h => h.IsTupleIter it a j ∧ h.IsTuple a its.toArray ∧ j = i) :=
      { live := fun _ _ st => let ⟨o, ho, _⟩ := st.1; ⟨o, ho⟩
        frame := fun _ _ _ st hk => ⟨st.1.at fun o e => hk it (by simp) o e, st.2.1.at fun o e => hk a (by simp) o e, st.2.2⟩
        item := fun j s Q E hj stj hQ => absurd hj (by rw [stj.2.2]; exact Nat.lt_irrefl i)
        done := fun s Q E stj hE => wpAny_nextOf_tuple_end (I.ok.hd hc) stj.1 stj.2.1 (by simp; omega) hE }
    exact wpAny_pyNext_enum_endD D he ⟨hit, p', rfl⟩ fun h' eb => ⟨rfl, I.turned (t' := s.toks) (fun b o hb q => eb b o hb q) f0 f1 f3 f4 f5⟩
  self := fun A i s Q E st h => by
    obtain ⟨⟨_, he⟩, _⟩ := st
    exact wpAny_pyIter_enum he h
def iEnumT (K : PySem.W.Frag) (ta : TA) : TI := fun σ H R => ta σ H fun vs H1 => ∃ a xs, vs = [.ref a] ∧ SqT K H1 a xs ∧ R (IteT K a) H1
theorem pi_enumT {X : Cx} {e : Expr} {ta : TA} {p pos tpos : Pos} {elts : List Expr} {kk : Nat} (hg : Gl X "enumerate") (hm : X.mg "enumerate" = none) (ha : PA X [e] ta) (hs : starEach [e] X.env = [(false, eval e X.env)] := by rfl) :
    PI X (.Tuple elts kk tpos) (.Call (.Name "enumerate" p) [e] [] pos) (iEnumT X.K ta) := by
  refine ⟨fun pins s σ H R I h => ?_⟩
  refine Call_ (ld_blt I hg hm boot_enumerate (PyProof.Rows.callWith_type1 (thn (ha.run pos pins s σ H _ I h) fun us s1 ⟨vs, H1, I1, r1, a, xs, ex, hq, q⟩ => ?_) hs rfl))
  subst ex
  cases r1 with
  | cons r rr =>
    cases rr
    cases r
    obtain ⟨its, rv, p', hz⟩ := I1.tuple hq
    refine enumT_call (show s1.heap.IsTuple a its.toArray from p') fun h' he hit hk => wpAny_pyIter_enum he ?_
    have I2 : Inv X pins σ H1 { s1 with heap := h' } := I1.kept (t' := s1.toks) hk
    refine ⟨s1.heap.objs.size + 1, [s1.heap.objs.size + 1, s1.heap.objs.size], _, _, H1, rfl, I2, enumT_turn a (s1.heap.objs.size + 1) s1.heap.objs.size, ⟨⟨.none, he⟩, hit, Nat.succ_ne_self _⟩, fun b hb => ?_, q⟩
    have hle : s1.heap.objs.size ≤ b := by
      rcases List.mem_cons.mp hb with rfl | hb
      · exact Nat.le_succ _
      · rcases List.mem_cons.mp hb with rfl | hb
        · exact Nat.le_refl _
        · cases hb
    exact I1.fpOk hle (I1.hok.fresh hle)
end Sc
namespace Sc
open PySem PySem.Spec PySem.Calls PyProof.Rows L2 NdefX
/-! ### super().__init__(..) in an own error's __init__ -/
/-- what the written part tells for super() in the __init__ of the class at C: cc its cell, cda the code object of __init__ -/
structure SupC (prog : Program) (K : PySem.W.Frag) (mg : Str → Option Value) (C cc cda : Addr) : Prop where
  cell : ∃ cl cld csl, K.lookup cc = some ⟨cl, cld, .cell (some (.ref C)), csl⟩
  code : ∃ ccl cdd vs ccs file tf, K.lookup cda = some ⟨ccl, cdd, .fields vs, ccs⟩ ∧ vs[2]? = some (.str file tf) ∧ ((prog.main.file : Str) == file) = true
  sub : PySem.W.mroIn K C (.ref C) = some true
  noS : mg "super" = none
  opq : PySem.W.nsIn K cStatics "thirdparty.any" = some none
  up : PySem.W.ks_superIn K C C "__init__" = some (some (.builtin "ValueError.__init__"))
  isB : PySem.W.subIn K (.ref C) (.type "ValueError") = some true
  top : (prog.main.scope.names.lookup ("super" : Str)).isSome = false
section
variable {X : Cx} {pins : List (Addr × Obj)} {σ : L2.St} {H : Hp} {s : Shared} {a C cc cda f : Addr}
theorem sup_bound {u : Addr} {us : List Value} {A : Around} {E : Value → Shared → Prop} {Q : Value → Shared → Prop} (T : OexC X.K C) (I : Inv X pins σ H s) (e : H a = some (exo a C none)) (hu : s.heap.get? u = some (PySem.W.kxs_mw "ValueError.__init__" a)) (hl : us.length ≤ sizeLine)
    (h : ∀ s', Inv X pins σ H s' → Q .none s') : wpAny (model X.prog X.w) A (call (.ref u) us) Q E s := by
  obtain ⟨nm, q, N, bs, bm, sn, sub, ab, col, dd, k0, k1, k2, k3, k5, hC, hbm⟩ := T.cls
  obtain ⟨t1, ho⟩ := exo_at I.hok e
  have hC' := I.kIn _ _ hC
  obtain ⟨hp, g, d, tk, os⟩ := s
  refine wpAny_call (codeAny_of_tree ?_)
  show wpAny _ A.in1 (callAny (.ref u) ⟨us, []⟩) _ _ _
  simp only [callAny]
  refine wpAny_bind (wpAny_load hu ?_)
  have b1 : (Value.type "method-wrapper" == Value.type "method" || Value.type "method-wrapper" == Value.type "builtin_function_or_method" || Value.type "method-wrapper" == Value.type "method-wrapper") = true := by decide
  simp only [PySem.W.kxs_mw, b1, if_true]
  refine PySem.W.KFB.if_so (by decide) (wpAny_bind (PySem.W.check_bound_init PySem.F.excBase_ValueError.toExcCallFacts hC' ho rfl (wpAny_bind (wpAny_pure (wpAny_pure ?_)))))
  refine ⟨plainId_quiet PySem.F.excBase_ValueError.init.plain _, codeAny_builtin PySem.F.excBase_ValueError.initEntry ?_⟩
  refine PySem.W.exc_init_tree (cls := .ref C) (t0 := t1) (dv := none) (c2 := .none) (c3 := .none) (b4 := .bool false) ho hl fun h' k hx _ => ?_
  have J := I.write (t' := tk) (x := a) (e := a) (o := exo a C none) (by rw [e]; exact True.intro) (.inl rfl) k ⟨_, hx⟩ (exo_ok hx)
  have eu : upd H a (exo a C none) = H := funext fun b => by
    by_cases hb : b = a
    · rw [hb, upd_same, e]
    · rw [upd_ne hb]
  rw [eu] at J
  exact h _ J
theorem at_super {pl : Sem Bool} {body : List Stmt} {e : Expr} {es : List Expr} {ta : TA} {D : Ends} {p0 p1 p2 p3 p4 : Pos} {fd : FuncData} {ar : Arg} {oc : Value} {od : Option Addr} {osl : Array (Option Value)}
    (T : OexC X.K C) (S : SupC X.prog X.K X.mg C cc cda) (hks : X.env.kindOf "super" = some .globalImplicit) (hkc : X.env.kindOf "__class__" = some .free) (hcl : X.env.cells.lookup ("__class__" : Str) = some cc)
    (hfu : X.env.func = some f) (hco : X.env.code = .ref cda) (lk : X.K.lookup f = some ⟨oc, od, .func fd, osl⟩) (hp : (fd.params.posonlyargs ++ fd.params.args).head? = some ar) (hN0 : X.N[0]? = some ar.arg) (hka : X.env.kindOf ar.arg = some .local)
    (hA : PA X (e :: es) ta) (I : Inv X pins σ H s) (hσ : σ[0]? = some (some (.ref a))) (ha : H a = some (exo a C none)) (q : ta σ H fun vs H1 => vs.length ≤ 1000 ∧ H1 a = some (exo a C none) ∧ D.nx σ H1)
    (he : starEach (e :: es) X.env = (false, eval e X.env) :: starEach es X.env := by rfl) (hpl : (backTo p3 (starEach es X.env)).any (·.1) = false := by rfl) (hi : interactive X.env = false := by rfl)
    (hev : eval (.Call (.Attribute (.Call (.Name "super" p0) [] [] p1) "__init__" p2) (e :: es) [] p3) X.env = (do
      let ov ← attributeBase (.Call (.Name "super" p0) [] [] p1) "__init__" X.env (eval (.Call (.Name "super" p0) [] [] p1) X.env)
      standAt p2.atName
      let (g, first) ← holding [ov] (getMethod ov "__init__" pl)
      callWith p3 g first (backTo p3 (starEach (e :: es) X.env)) []) := by rfl) (hsw : swapsWith (.Call (.Attribute (.Call (.Name "super" p0) [] [] p1) "__init__" p2) (e :: es) [] p3) none p4.line X.env = pure false := by rfl) :
    PySem.wpAt (model X.prog X.w) X.A (.func body X.env) (exec (.Expr (.Call (.Attribute (.Call (.Name "super" p0) [] [] p1) "__init__" p2) (e :: es) [] p3) p4) X.env) (SP X pins D) X.xe s := by
  obtain ⟨cl, cld, csl, hcell⟩ := S.cell
  obtain ⟨ccl, cdd, vs, ccs, file, tf, hcode, hvs, hfile⟩ := S.code
  have KX := I.kIn
  refine ks_wpAt_Expr_any (ks_wpAt_MethodCall (pl := pl) ?_ hev) hi hsw
  refine ks_wpAt_super_base hks hkc (by decide) hfu (KX _ _ lk) rfl hp hco (KX _ _ hcode) rfl hvs hfile S.top ?_
  obtain ⟨mb, b1, b2⟩ := I.mod.blt
  refine PySem.W.ks_loadName_global I.ok.kind hks (Calls.loadGlobal_builtin (v := .type "super") (by rw [I.ok.glob]; exact I.mod.glob.keeps I.bk) S.noS (by rw [I.ok.blt]; exact b1.keeps I.bk) ((b2 _ (by decide +kernel)).trans (by decide +kernel)) ⟨rfl, ?_⟩)
  refine wpAny_loadName_free I.ok.kind hkc hcl ⟨_, KX _ _ hcell, rfl⟩ ?_
  obtain ⟨m, hn, hloc⟩ := I.loc
  obtain ⟨u, ru, hlook⟩ := hloc 0 ar.arg (.ref a) hN0 hσ (.inl hka)
  obtain rfl : u = Value.ref a := ru
  have hm : m ar.arg = some (.ref a) := by
    rcases hlook with ⟨_, z⟩ | ⟨z, _⟩
    · exact z
    · rcases z with z | z <;> rw [show X.env.kindOf ar.arg = _ from hka] at z <;> cases z
  refine wpAny_loadName_local I.ok.kind hka hn hm ?_
  obtain ⟨nm, qn, N, bs, bm, sn, sub, ab, col, dd, k0, k1, k2, k3, k5, hC, hbm⟩ := T.cls
  have hcls : PySem.W.clsIn X.K C = some { name := nm, bases := bs, mro := .ref C :: bm, ns := N, qualname := qn, hasDict := true, slotNames := sn, subclasses := sub, abstract := ab, collection := col, hasDel := false } := by unfold PySem.W.clsIn; rw [hC] <;> rfl
  obtain ⟨t1, ho⟩ := exo_at I.hok ha
  have hC' := KX _ _ hC
  have ex := S.up
  unfold PySem.W.ks_superIn at ex
  rw [hcls] at ex
  obtain ⟨hp', g, d, tk, os⟩ := s
  refine ks_wpAny_isType_cls hC' rfl ⟨rfl, ?_⟩
  refine ks_wpAny_call_super hC' rfl ho rfl (fun c z => nomatch z) (PySem.W.looks_mroIn KX S.sub) (fun h' e1 k => ?_)
  have I1 : Inv X pins σ H ⟨h', g, d, tk, os⟩ := I.kept (t' := tk) k
  have IA : PySem.W.InstAt h' a { cls := .ref C, dict := none, data := .fields #[.ref t1, .none, .none, .none, .bool false, .none] } C none := ⟨k _ _ ho, rfl, rfl, trivial⟩
  have hIs : PySem.W.Looks (model X.prog X.w) h' (isInstance (.ref a) (.type "ValueError")) true := IA.type.andThen (PySem.W.looks_subIn I1.kIn S.isB)
  refine PySem.W.kxs_getMethod PySem.W.kxs_ValueError e1 (PySem.W.looks_opaque I1.kIn S.opq) (l₀ := .ref C :: bm) (fun A Q E s k q => wpAny_bind ((PySem.W.looks_clsIn I1.kIn hcls) A _ E s k (wpAny_pure q))) rfl I1.kIn ex hIs (PySem.W.ks_ne I1.kIn IA hcls) (by decide) ?_
  have I2 : Inv X pins σ H ⟨h'.push (PySem.W.kxs_mw "ValueError.__init__" a), g, d, tk + 1, os⟩ := I1.kept (t' := tk + 1) fun b o z => Heap.get?_push_of_some _ z
  have hu : (h'.push (PySem.W.kxs_mw "ValueError.__init__" a)).get? h'.objs.size = some (PySem.W.kxs_mw "ValueError.__init__" a) := Heap.get?_push_at rfl rfl
  have hun : H h'.objs.size = none := I1.hok.fresh (Nat.le_refl _)
  have hunf : h'.objs.size ∉ X.fs ∧ h'.objs.size ≠ X.env.locals := ⟨I1.nofs (Nat.le_refl _), fun z => Nat.lt_irrefl _ (by have := I1.lt; rw [← z] at this; exact this)⟩
  have I3 : Inv X ((h'.objs.size, PySem.W.kxs_mw "ValueError.__init__" a) :: pins) σ H ⟨h'.push (PySem.W.kxs_mw "ValueError.__init__" a), g, d, tk + 1, os⟩ := I2.pins_of fun p hp => by
    rcases List.mem_cons.mp hp with rfl | hp
    · exact ⟨hu, hun, hunf.2, hunf.1, fun v z => nomatch z⟩
    · exact I2.pin p (List.mem_append_right _ hp)
  rw [he]
  refine PySem.W.kxs_callWith (i := "ValueError.__init__") (x := a) (first := []) (by show (false || (backTo p3 (starEach es X.env)).any (·.1)) = false; rw [hpl]; rfl) (evalArgs_plain ?_)
  show wpAny _ _ (spliced (backTo p3 ((false, eval e X.env) :: starEach es X.env))) _ _ _
  rw [← he]
  refine thn (hA.run p3 _ _ σ H _ I3 q) fun us s1 ⟨vs, H1, I4, r1, hl, e4, q4⟩ => ?_
  have I5 : Inv X pins σ H1 s1 := I4.pins_of fun p hp => I4.pin p (List.mem_append_right _ (.tail _ hp))
  have hu4 := (I4.pin _ (List.mem_append_right _ List.mem_cons_self)).1
  refine ⟨hu4, ?_⟩
  refine sup_bound T I5 e4 hu4 (by show us.length ≤ sizeLine; rw [← Paired.length r1, sizeLine_eq]; omega) fun s' J => ?_
  exact ⟨σ, H1, J, q4⟩
end
/-! ### the __init__ as a def -/
/-- the reading of a body that begins with super().__init__(e ..) -/
def tInit (C : Addr) (ta : TA) (tr : TS) : TS := fun D σ H => ∃ a : Addr, σ[0]? = some (some (.ref a)) ∧ H a = some (exo a C none) ∧ ta σ H fun vs H1 => vs.length ≤ 1000 ∧ H1 a = some (exo a C none) ∧ tr D σ H1
section
variable {P : Program} {w : World} {K : PySem.W.Frag} {mg : Str → Option Value} {base : Heap} {N ps : List Str} {F : NF} {f C cc : Addr} {k : Nat} {sp : Sp} {kV doc pm ct oc : Value} {an od : Option Addr} {osl : Array (Option Value)}
/-- the def's data as it stands -/
abbrev supFd (F : NF) (kV doc pm : Value) (an : Option Addr) (ct : Value) : FuncData := PySem.W.fnX F.name F.qual F.params F.body F.scope F.cl .none kV doc pm an (.ref F.c) ct
theorem fn_sup {e : Expr} {es : List Expr} {rest : List Stmt} {ar : Arg} {p0 p1 p2 p3 p4 : Pos} (lk : K.lookup f = some ⟨oc, od, .func (supFd F kV doc pm an ct), osl⟩) (hcd : PySem.W.codeIn K (.ref F.c) F.qual = true) (hcl : F.cl = [(("__class__" : Str), cc)])
    (SC : NScope N ps ["__class__"] F.scope) (T : OexC K C) (S : SupC P K mg C cc F.c) (len : ∀ vs H Q E, sp vs H Q E → vs.length = ps.length)
    (hbd : F.body = .Expr (.Call (.Attribute (.Call (.Name "super" p0) [] [] p1) "__init__" p2) (e :: es) [] p3) p4 :: rest)
    (hp : (F.params.posonlyargs ++ F.params.args).head? = some ar) (hN0 : N[0]? = some ar.arg) (hka : F.scope.names.lookup ar.arg = some .local) (hks : F.scope.names.lookup ("super" : Str) = some .globalImplicit)
    (hbody : ∀ (A : Around) (outer : List Env) (s : Shared) (H : Hp) (vs : List V) (Q : VK) (E : XK), Room k (A.deeper (envF F f s.heap.objs.size)) → sp vs H Q E →
      ∃ ta tr, PA (ncx CX0 P w K mg base N F f A outer s H E) (e :: es) ta ∧ PSs (ncx CX0 P w K mg base N F f A outer s H E) rest tr ∧ tInit C ta tr { nx := fun _ H' => Q .non H', rt := Q } (startF N vs [none]) H)
    (hev : ∀ L, ∃ pl, eval (.Call (.Attribute (.Call (.Name "super" p0) [] [] p1) "__init__" p2) (e :: es) [] p3) (envF F f L) = (do
      let ov ← attributeBase (.Call (.Name "super" p0) [] [] p1) "__init__" (envF F f L) (eval (.Call (.Name "super" p0) [] [] p1) (envF F f L))
      standAt p2.atName
      let (g, first) ← holding [ov] (getMethod ov "__init__" pl)
      callWith p3 g first (backTo p3 (starEach (e :: es) (envF F f L))) []))
    (hsw : ∀ L, swapsWith (.Call (.Attribute (.Call (.Name "super" p0) [] [] p1) "__init__" p2) (e :: es) [] p3) none p4.line (envF F f L) = pure false) (he : ∀ L, starEach (e :: es) (envF F f L) = (false, eval e (envF F f L)) :: starEach es (envF F f L))
    (hpl : ∀ L, (backTo p3 (starEach es (envF F f L))).any (·.1) = false) (hi : ∀ L, interactive (envF F f L) = false) :
    FnOk P w K mg base CX0 (k + 1) f (supFd F kV doc pm an ct) ps sp := by
  refine ⟨len, fun A outer s H args us vs Q E hr e0 hb r hsp => ?_⟩
  have hl := len _ _ _ _ hsp
  have KX : K.In s.heap := e0.mod.kin.keeps fun b o e => (e0.bs b o e).1
  have lim : s.heap.NoLimit := e0.mod.nolimit.keeps fun b o e => (e0.bs b o e).1
  obtain ⟨cl, cld, csl, hcell⟩ := S.cell
  have hcH : H cc = none := by
    have z := e0.mod.kin _ _ hcell
    exact (e0.bs _ _ z).2
  have CA : CellsAt F.cl ["__class__"] [none] s.heap H := by
    rw [hcl]
    refine ⟨rfl, fun y c h => ?_, fun x y c h1 h2 => ?_, fun i y h => ?_⟩
    · have q : y = ("__class__" : Str) ∧ c = cc := by
        simp only [List.lookup] at h
        split at h
        · rename_i z; exact ⟨by simpa using z, (Option.some.inj h).symm⟩
        · cases h
      rw [q.2]
      exact ⟨hcH, some (.ref C), ⟨_, KX _ _ hcell, rfl⟩⟩
    · have q : ∀ z, List.lookup z [(("__class__" : Str), cc)] = some c → z = ("__class__" : Str) := fun z h => by
        simp only [List.lookup] at h
        split at h
        · rename_i z; simpa using z
        · cases h
      rw [q x h1, q y h2]
    · cases i with
      | zero =>
        have q : y = ("__class__" : Str) := (Option.some.inj h).symm
        subst q
        exact ⟨cc, by simp [List.lookup], fun v z => by cases z⟩
      | succ i => simp at h
  refine ks_codeAny_call_defAt (fd := supFd F kV doc pm an ct) (body := F.body) (binds := ps.zip us) hr.depth (KX _ _ lk) rfl lim (PySem.W.codeRec_of KX hcd) rfl hb SC.nocell (fun ⟨n, _⟩ hy => SC.par n (List.of_mem_zip hy).1) (fun h₁ hns kp => ?_) SC.co SC.gen SC.kind
  obtain ⟨ta, tr, hta, htr, a, hσ, ha, q⟩ := hbody A outer s H vs Q E (hr.deeper _) hsp
  have I : Inv (ncx CX0 P w K mg base N F f A outer s H E) [] (startF N vs [none]) H { s with heap := h₁, toks := s.toks + (ps.zip us).length } := inv_startN SC hr.hd e0 hl r CA hns kp
  obtain ⟨pl, hev⟩ := hev s.heap.objs.size
  have fin : ∀ {s' : Shared} {σ' : L2.St} {H' : Hp} {v : V} {u : Value}, Inv (ncx CX0 P w K mg base N F f A outer s H E) [] σ' H' s' → L2.RelV v u → Q v H' → CE outer P w H s Q u s' :=
    fun {s' σ' H' v u} J rv q => ⟨v, H', J.os, J.bare, J.base, J.hok, rv, q⟩
  rw [hbd]
  refine ks_wpAt_execs_cons (ks_wpAt_mono (at_super (X := ncx CX0 P w K mg base N F f A outer s H E) (D := { nx := fun σ' H' => tr { nx := fun _ H' => Q .non H', rt := Q } σ' H', rt := fun _ _ => False }) (pl := pl) (f := f) (ar := ar) (fd := supFd F kV doc pm an ct) T S hks (SC.frk _ List.mem_cons_self) (by show F.cl.lookup _ = _; rw [hcl]; simp [List.lookup]) rfl rfl lk hp hN0 hka hta I hσ ha q (he _) (hpl _) (hi _) hev (hsw _)) (fun fl s' hs => ?_) fun _ _ z => z)
  cases fl with
  | ret u =>
    obtain ⟨_, _, _, _, _, z⟩ := hs
    exact z.elim
  | brk =>
    obtain ⟨_, _, _, z⟩ := hs
    exact z.elim
  | cont =>
    obtain ⟨_, _, _, z⟩ := hs
    exact z.elim
  | next =>
    obtain ⟨σ', H', J, z⟩ := hs
    refine PySem.wpAt_of_wpAny (wpAny_mono (htr.run [] s' σ' H' _ J z) (fun fl2 s2 h2 => ?_) fun _ _ y => y)
    cases fl2 with
    | ret u =>
      obtain ⟨v, σ2, H2, J2, rv, q2⟩ := h2
      exact fin J2 rv q2
    | next =>
      obtain ⟨σ2, H2, J2, q2⟩ := h2
      exact fin (v := V.non) (u := Value.none) J2 rfl q2
    | brk =>
      obtain ⟨_, _, _, q2⟩ := h2
      exact q2.elim
    | cont =>
      obtain ⟨_, _, _, q2⟩ := h2
      exact q2.elim
end
end Sc
namespace Sc
open PySem PySem.Spec PyProof.Rows L2
/-- the built-ins are not hidden -/
structure Blt (mg : Str → Option Value) : Prop where
  b_isinstance : mg "isinstance" = none
  b_len : mg "len" = none
  b_all : mg "all" = none
  b_any : mg "any" = none
  b_sum : mg "sum" = none
  b_max : mg "max" = none
  b_min : mg "min" = none
  b_int : mg "int" = none
  b_str : mg "str" = none
  b_bool : mg "bool" = none
  b_list : mg "list" = none
  b_tuple : mg "tuple" = none
  b_dict : mg "dict" = none
  b_range : mg "range" = none
  b_enumerate : mg "enumerate" = none
  b_sorted : mg "sorted" = none
  b_reversed : mg "reversed" = none
  b_zip : mg "zip" = none
  b_set : mg "set" = none
  b_ValueError : mg "ValueError" = none
/-- a def as its callers see it -/
structure Cal (P : Program) (w : World) (K : PySem.W.Frag) (mg : Str → Option Value) (base : Heap) (CX : CXT) (k : Nat) (x : Str) (ps : List Str) (sp : Sp) : Prop where
  ex : ∃ (f : Addr) (fd : FuncData), FnOk P w K mg base CX k f fd ps sp ∧ mg x = some (.ref f) ∧ PySem.W.keepIn K (.ref f) = true ∧ Binds K fd ps []
section
variable {X : Cx} {k : Nat} {x : Str} {ps : List Str} {sp : Sp} {e : Expr} {es : List Expr} {t : TA} {p pos : Pos}
theorem pe_cal (C : Cal X.prog X.w X.K X.mg X.base CX0 k x ps sp) (hr : Room k X.A) (ha : PA X (e :: es) t) (hg : Gl X x := by rfl) (hdb : (x == ("__debug__" : Str)) = false := by decide)
    (he : starEach (e :: es) X.env = (false, eval e X.env) :: starEach es X.env := by rfl) (hpl : (backTo pos (starEach es X.env)).any (·.1) = false := by rfl) : PE X (.Call (.Name x p) (e :: es) [] pos) (tCall sp [] E0 t) := by
  obtain ⟨f, fd, F, hm, hk, hb⟩ := C.ex
  exact pe_call F hr hg hm hk hb .nil pass0 ha hdb he hpl
/-- a def that may raise, where it does not -/
theorem pe_calN (C : Cal X.prog X.w X.K X.mg X.base (L2.CX X.prog X.w) k x ps sp) (hr : Room k X.A) (ha : PA X (e :: es) t) (hg : Gl X x := by rfl) (hdb : (x == ("__debug__" : Str)) = false := by decide)
    (he : starEach (e :: es) X.env = (false, eval e X.env) :: starEach es X.env := by rfl) (hpl : (backTo pos (starEach es X.env)).any (·.1) = false := by rfl) : PE X (.Call (.Name x p) (e :: es) [] pos) (tCall sp [] E0 t) := by
  obtain ⟨f, fd, F, hm, hk, hb⟩ := C.ex
  exact pe_call F hr hg hm hk hb .nil passL ha hdb he hpl
/-- a def that may raise -/
theorem pe_calX {W : WX} (C : Cal X.prog X.w X.K X.mg X.base (L2.CX X.prog X.w) k x ps sp) (hr : Room k X.A) (tk : Takes X W) (ha : PA X (e :: es) t) (hg : Gl X x := by rfl) (hdb : (x == ("__debug__" : Str)) = false := by decide)
    (he : starEach (e :: es) X.env = (false, eval e X.env) :: starEach es X.env := by rfl) (hpl : (backTo pos (starEach es X.env)).any (·.1) = false := by rfl) : PE X (.Call (.Name x p) (e :: es) [] pos) (tCallS sp (WE W) t) := by
  obtain ⟨f, fd, F, hm, hk, hb⟩ := C.ex
  exact pe_callS F hr hg hm hk hb (fun σ => passAt tk σ) ha hdb he hpl
end
/-! ### a reading that does not lean on the state within which it is asked -/
theorem pe_.re {X : Cx} {e : Expr} {t t' : TE} (h : PE X e t) (q : t = t') : PE X e t' := q ▸ h
theorem pts_.re {X : Cx} {es : List Expr} {t t' : TT} (h : PTs X es t) (q : t = t') : PTs X es t' := q ▸ h
theorem pss_.re {X : Cx} {sts : List Stmt} {t t' : TS} (h : PSs X sts t) (q : t = t') : PSs X sts t' := q ▸ h
/-- a value's truth -/
def tTru (K : PySem.W.Frag) (ta : TE) : TT := fun σ H Q => ta σ H fun x H' => ∃ k, TruV K x H' k ∧ Q k H'
theorem pt_tru {X : Cx} {a : Expr} {ta : TE} (ha : PE X a ta) (he : ∀ whole, isTrue a X.env whole = (do let v ← whole; standAt a.pos; holding [v] (truthy v))) : PT X a (tTru X.K ta) := pt_truth ha he
/-! ### lists -/
theorem take_more {α : Type} {l : List α} {i : Nat} {x : α} (h : l[i]? = some x) : l.take (i + 1) = l.take i ++ [x] := by
  rw [List.take_add_one, h]
  rfl
/-! ### heaps -/
theorem _root_.L2.Same.put {H H' : Hp} {p : Addr} {o : HO} (s : Same H H') (n : H p = none) : Same H (upd H' p o) := fun b x e => by
  rw [upd_ne (ne_of_none e n)]
  exact s b x e
theorem _root_.L2.Same.put' {H H' : Hp} {p : Addr} {o : HO} (s : Same H H') (n : H' p = none) : Same H (upd H' p o) := s.put (s.free n)
theorem _root_.L2.Same.tup {K : PySem.W.Frag} {H H' : Hp} {a : Addr} {xs : List V} (e : Same H H') (h : SqT K H a xs) : SqT K H' a xs := by
  rcases h with (h | ⟨o, h⟩) | h
  · exact .inl (.inl (e _ _ h))
  · exact .inl (.inr ⟨o, e _ _ h⟩)
  · exact .inr h
theorem sqT_new {K : PySem.W.Frag} {H : Hp} {p : Addr} {xs : List V} : SqT K (upd H p (.tup xs)) p xs := .inl (.inl upd_same)
theorem sqL_new {K : PySem.W.Frag} {H : Hp} {p : Addr} {xs : List V} : SqL K (upd H p (.lst xs)) p xs := .inl (.inl upd_same)
theorem sqT_of {K : PySem.W.Frag} {H : Hp} {p : Addr} {xs : List V} (h : H p = some (.tup xs)) : SqT K H p xs := .inl (.inl h)
theorem sqL_of {K : PySem.W.Frag} {H : Hp} {p : Addr} {xs : List V} (h : H p = some (.lst xs)) : SqL K H p xs := .inl (.inl h)
/-- a comprehension's list grows -/
theorem grow {H1 H4 : Hp} {D : Addr} {acc : Nat → List V} {i : Nat} {y : V} (nD : H1 D = none) (s : Same H1 H4) (e : H4 D = some (.lst (acc i))) (l : (acc i).length < sizeLine) (n : acc (i + 1) = acc i ++ [y]) :
    ∃ a, H4 D = some (.lst a) ∧ a.length < sizeLine ∧ (Same H1 (upd H4 D (.lst (a ++ [y]))) ∧ (upd H4 D (.lst (a ++ [y]))) D = some (.lst (acc (i + 1)))) :=
  ⟨acc i, e, l, s.put nD, by rw [upd_same, n]⟩
theorem bcase {b : Bool} {A B : Prop} (h1 : b = true → A) (h2 : b = false → B) : if b = true then A else B := by
  cases b with
  | true => exact iteT (h1 rfl)
  | false => exact iteF (h2 rfl)
/-- isinstance(x, T), T a built-in class -/
def rIsT (K : PySem.W.Frag) (T : String) : List V → Hp → VK → Prop := fun xs H Q => ∃ (x : V) (t : String) (b : Bool), xs = [x, .ty T] ∧ TyOf K H x (.type t) ∧ kitB t T = some b ∧ Q (.bl b) H
theorem call_isT {X : Cx} (T : String) : CallR X (.builtin "isinstance") (rIsT X.K T) := by
  intro pins s σ H xs us Q I r h
  obtain ⟨x, t, b, ex, ht, hb, q⟩ := h
  exact call_isi pins s σ H xs us Q I r ⟨_, _, _, _, _, ex, .ty _, .base ht, kit_ty hb, q⟩
/-- a comprehension without a test -/
theorem yes_ {σ : L2.St} {H : Hp} {A : Hp → Prop} {B : Hp → Prop} (h : A H) : tYes σ H fun b H3 => if b = true then A H3 else B H3 := by
  show (if true = true then A H else B H)
  rw [if_pos rfl]
  exact h
/-- as many slots as names -/
theorem takes_len {X : Cx} {W : WX} (tk : Takes X W) : Takes X (fun cls d σ H => σ.length = X.N.length → W cls d σ H) := fun u s' ⟨a, B, sI, pins, σ, H, cls, d, e, I, nb, up, sky, na, os, ag, w⟩ =>
  tk u s' ⟨a, B, sI, pins, σ, H, cls, d, e, I, nb, up, sky, na, os, ag, w I.len⟩
/-! ### walks -/
theorem walk_enumT {K : PySem.W.Frag} {a : Addr} {xs : List V} : Walk (IteT K a) xs.length (fun H => SqT K H a xs) (YPair (fun i => some (.int (i : Nat))) (fun i => xs[i]?)) := by
  refine ⟨fun i _ hi q => ⟨xs, xs[i], q, by simp [hi]⟩, fun _ q => ⟨xs, q, Nat.le_refl _⟩, fun i H v H' _ q y => ?_⟩
  obtain ⟨T, x, h1, h2, h3, h4⟩ := y
  exact ⟨T, .int (i : Nat), x, h1, h2, h3, rfl, h4 xs q⟩
/-! ### list.count of truth values -/
section
variable {X : Cx}
theorem countP_eqU {x : V} : ∀ {xs : List V} {us : List Value}, Vals xs us → xs.all flatV = true → us.countP (eqU x) = xs.countP fun y => eqV y x
  | _, _, .nil, _ => rfl
  | y :: xs, u :: us, .cons r t, f => by
    rw [List.all_cons, Bool.and_eq_true] at f
    rw [List.countP_cons, List.countP_cons, eqU_of r f.1, countP_eqU t f.2]
def rCount (K : PySem.W.Frag) : V → List V → Hp → VK → Prop := fun x xs H Q => ∃ (p : Addr) (ys : List V) (y : V), x = .ref p ∧ xs = [y] ∧ SqL K H p ys ∧ flatV y = true ∧ ys.all flatV = true ∧ Q (.int (ys.countP (fun z => eqV z y) : Nat)) H
theorem mt_lcountB : MtR X "list.count" (rCount X.K) := by
  intro pins s σ H x xs v us Q I rx rxs h
  obtain ⟨p, ys, y, rfl, rfl, hs, fy, fys, q⟩ := h
  cases rx
  cases rxs with
  | cons ry rt =>
    rename_i uy ut
    cases rt
    obtain ⟨its, rv, ⟨⟨cls, dd, data, sl⟩, n, ho, hc, hdn, hd⟩, hlen⟩ := I.list hs
    simp only at hc hd
    subst hc hd
    refine call_meets PySem.F.slot_list_count ⟨_, ho, rfl⟩ PySem.F.entry_list_count (PySem.F.args_list_count_2 _ _)
      (SeqAt.list_countAt p its.toArray n dd sl uy (eqU y)) ⟨ho, fun u' hu' => mem_eqAt ry fy rv fys u' (by simpa using hu'), ?_⟩
    have ec : its.toArray.toList.countP (eqU y) = ys.countP fun z => eqV z y := countP_eqU rv fys
    refine ⟨.int (ys.countP (fun z => eqV z y) : Nat), H, I.tok _, ⟨s.toks, ?_⟩, q⟩
    show Value.int ((its.toArray.toList.countP (eqU y) : Nat) : Int) s.toks = Value.int ((ys.countP (fun z => eqV z y) : Nat) : Int) s.toks
    rw [ec]
end
/-! ### the caught error, whatever it bears -/
/-- an own class of errors, as isinstance and the reading of a field ask for it -/
structure ErrC (K : PySem.W.Frag) (D : Addr) : Prop where
  cl : (PySem.W.clsIn K D).isSome = true
  ga : PySem.W.findIn K (.ref D) "__getattribute__" = some (some (.builtin "BaseException.__getattribute__"))
  gt : PySem.W.findIn K (.ref D) "__getattr__" = some none
  be : PySem.W.subIn K (.ref D) (.type "BaseException") = some true
  kc : PySem.W.findIn K (.ref D) "__class__" = some (some (.builtin "object.__class__"))
  sg : PySem.W.specialIn K (.builtin "object.__class__") "__get__" = some (some (.builtin "getset_descriptor.__get__"))
  tk : PySem.W.takesIn K (.builtin "object.__class__") = some true
  ob : PySem.W.mroIn K D (.type "object") = some true
  hd : PySem.W.hasDictIn K D = true
def errB (K : PySem.W.Frag) (D : Addr) : Bool :=
  (PySem.W.clsIn K D).isSome && (decide (PySem.W.findIn K (.ref D) "__getattribute__" = some (some (.builtin "BaseException.__getattribute__"))) && (decide (PySem.W.findIn K (.ref D) "__getattr__" = some none) &&
  (decide (PySem.W.subIn K (.ref D) (.type "BaseException") = some true) && (decide (PySem.W.findIn K (.ref D) "__class__" = some (some (.builtin "object.__class__"))) &&
  (decide (PySem.W.specialIn K (.builtin "object.__class__") "__get__" = some (some (.builtin "getset_descriptor.__get__"))) && (decide (PySem.W.takesIn K (.builtin "object.__class__") = some true) &&
  (decide (PySem.W.mroIn K D (.type "object") = some true) && PySem.W.hasDictIn K D)))))))
theorem errC_of {K : PySem.W.Frag} {D : Addr} (h : errB K D = true) : ErrC K D := by
  unfold errB at h
  simp only [Bool.and_eq_true, decide_eq_true_eq] at h
  obtain ⟨h1, h2, h3, h4, h5, h6, h7, h8, h9⟩ := h
  exact ⟨h1, h2, h3, h4, h5, h6, h7, h8, h9⟩
section
variable {X : Cx} {a : Addr} {cls : Value} {oe : Obj} {pn : List (Addr × Obj)} {d : Option Addr}
theorem err_inst {D : Addr} {h : Heap} (hz : Zc (.ref D) d oe) (hf : ∃ vs, oe.data = .fields vs) (hget : h.get? a = some oe) (hd : ∀ dd, d = some dd → ∃ od, h.get? dd = some od) : ∃ od, PySem.W.InstAt h a oe D od := by
  obtain ⟨oc, odd, oda, osl⟩ := oe
  obtain ⟨h1, h2⟩ := hz
  obtain ⟨vs, hv⟩ := hf
  dsimp only at h1 h2 hv
  subst h1 h2 hv
  cases odd with
  | none => exact ⟨none, hget, rfl, rfl, trivial⟩
  | some dd =>
    obtain ⟨od, ho⟩ := hd dd rfl
    exact ⟨some od, hget, rfl, rfl, ho⟩
/-- its dict stands, where it has one -/
def XdOk (d : Option Addr) (H : Hp) : Prop := ∀ dd, d = some dd → ∃ fs, H dd = some (.xd fs)
def rIsG (K : PySem.W.Frag) (a : Addr) (cls : Value) (d : Option Addr) : List V → Hp → VK → Prop := fun xs H Q =>
  ∃ (D : Addr) (c : V) (cv : Value) (b : Bool), cls = .ref D ∧ ErrC K D ∧ XdOk d H ∧ xs = [.ref a, c] ∧ (∀ u, RelV c u → u = cv) ∧ PySem.W.kitOne K (.ref D) cv = some b ∧ Q (.bl b) H
theorem call_isG (hz : Zc cls d oe) (hf : ∃ vs, oe.data = .fields vs) : CallR (X.suite a ((a, oe) :: pn)) (.builtin "isinstance") (rIsG X.K a cls d) := by
  intro pins s σ H xs us Q I r h
  obtain ⟨D, c, cv, b, ec, C, hx, rfl, hcv, e, q⟩ := h
  subst ec
  obtain ⟨u1, u2, rfl, r1, r2⟩ := vals2 r
  obtain rfl : u1 = Value.ref a := r1
  have e2 := hcv _ r2
  subst e2
  obtain ⟨hget, _⟩ := I.pin (a, oe) (List.mem_append_left _ List.mem_cons_self)
  obtain ⟨od, J⟩ := err_inst (h := s.heap) hz hf hget fun dd ed => by
    obtain ⟨fs, e⟩ := hx dd ed
    obtain ⟨mA, ⟨o, _, _, ho, _⟩, _⟩ := (show ObjOk X.prog X.w H s.heap dd (.xd fs) from I.hok dd _ e)
    exact ⟨o, ho⟩
  exact PySem.W.kia_one (PySem.W.kitx_exc C.cl C.ga C.gt C.be C.kc C.sg C.tk C.ob) I.kIn J e (fun z => nomatch z) fun tk => ⟨.bl b, H, I.kept (t' := tk) fun _ _ z => z, rfl, q⟩
/-- e.n, e the error that the suite holds -/
def tXg (K : PySem.W.Frag) (a : Addr) (cls : Value) (d : Option Addr) (n : Str) (te : TE) : TE := fun σ H Q => te σ H fun x H1 => x = .ref a ∧ ∃ (D dd : Addr) (fs : List (Str × V)) (v : V), cls = .ref D ∧ ErrC K D ∧ PySem.W.findIn K (.ref D) n = some none ∧ d = some dd ∧ H1 dd = some (.xd fs) ∧ fs.lookup n = some v ∧ Q v H1
theorem pe_xg {e : Expr} {te : TE} {pos : Pos} {n : Str} (hz : Zc cls d oe) (hf : ∃ vs, oe.data = .fields vs) (he : PE (X.suite a ((a, oe) :: pn)) e te) (hb : attributeBase e n X.env (eval e X.env) = eval e X.env := by rfl) :
    PE (X.suite a ((a, oe) :: pn)) (.Attribute e n pos) (tXg X.K a cls d n te) := by
  refine ⟨fun pins s σ H Q I h => attr_of hb (thn (he.run pins s σ H _ I h) fun u s1 hh => ?_)⟩
  obtain ⟨x, H1, I1, rx, ex, D, dd, fs, v, ec, C, hno, ed, ea, l, q⟩ := hh
  subst ex ec ed
  obtain rfl : u = Value.ref a := rx
  obtain ⟨ha, _⟩ := I1.pin (a, oe) (List.mem_append_left _ List.mem_cons_self)
  obtain ⟨vs, hd⟩ := hf
  obtain ⟨mA, hns, hr⟩ := (show ObjOk X.prog X.w H1 s1.heap dd (.xd fs) from I1.hok dd _ ea)
  obtain ⟨od, ho, hl⟩ := lookIn_ns hns
  obtain ⟨u, hu, ru⟩ := RelO.some_of (v := v) (o := mA n) (by rw [← l]; exact hr n)
  have J : PySem.W.InstAt s1.heap a oe D (some od) := ⟨ha, hz.1, by unfold PySem.W.notCls; rw [hd] <;> rfl, by rw [hz.2]; exact ho⟩
  exact HandSPX.exc_get I1.kIn J C.ga C.gt C.be (PySem.W.findObj_own C.hd hno rfl (by rw [hl, hu])) (handed_of ru) ⟨v, H1, I1.tok _, ru, q⟩
end
end Sc
namespace Sc
open PySem PySem.Spec PyProof.Rows L2 NdefX
/-! ### own errors with fields, made and raised -/
/-- what an f-string takes -/
def FOk : V → Prop
  | .int i => i.natAbs.log2 < 1920
  | .str z => z.length ≤ 1000000
  | _ => False
theorem fmt_at {y : V} {R : Str → Prop} (ok : FOk y) (q : ∀ z : Str, z.length ≤ 1000000 → R z) : (∃ z : Str, y = .str z ∧ z.length ≤ sizeLine ∧ R z) ∨ ∃ i : Int, y = .int i ∧ i.natAbs.log2 < 1920 ∧ R (toString i) := by
  cases y with
  | str z => exact .inl ⟨z, rfl, Nat.le_trans ok (by rw [sizeLine_eq]; decide), q z ok⟩
  | int i =>
    refine .inr ⟨i, rfl, ok, q _ ?_⟩
    have e : (PySem.Str.ofString (toString i)).length ≤ 1921 := int_text_len_1921 ok
    exact Nat.le_trans e (by decide)
  | _ => exact ok.elim
theorem fok_nat {i : Nat} (hi : i ≤ 1000) : FOk (.int (i : Nat)) := by
  show (i : Int).natAbs.log2 < 1920
  have e1 : (i : Int).natAbs = i := rfl
  rw [e1]
  by_cases h0 : i = 0
  · subst h0
    decide
  · have := (Nat.log2_lt h0 (k := 10)).mpr (Nat.lt_of_le_of_lt hi (by decide))
    omega
theorem app_len {a b : Str} : (a ++ b).length = a.length + b.length := by
  show (a.cps ++ b.cps).size = a.cps.size + b.cps.size
  exact Array.size_append
/-- a rule of arguments, its reading made monotone -/
theorem pa_mono {X : Cx} {es : List Expr} {ta : TA} (h : PA X es ta) : PA X es (fun σ H Q => ∃ R, ta σ H R ∧ ∀ vs H1, R vs H1 → Q vs H1) := by
  refine ⟨fun pos pins s σ H Q I ⟨R, q, k⟩ => wpAny_mono (h.run pos pins s σ H R I q) (fun us s1 ⟨vs, H1, J, r, z⟩ => ⟨vs, H1, J, r, k vs H1 z⟩) fun _ _ z => z⟩
/-- the promise of an __init__ that keeps its fields fs, in their order -/
def sp_init1 (C : Addr) (f : Str) : Sp := fun vs H Q _ => ∃ (a : Addr) (y : V), vs = [.ref a, y] ∧ H a = some (exo a C none) ∧ FOk y ∧ ∀ dx, H dx = none → dx ≠ a → Q .non (upd (upd H dx (exd dx [(f, y)])) a (exo a C (some dx)))
def sp_init2 (C : Addr) (f g : Str) : Sp := fun vs H Q _ => ∃ (a : Addr) (y z : V), vs = [.ref a, y, z] ∧ H a = some (exo a C none) ∧ FOk y ∧ FOk z ∧
  ∀ dx, H dx = none → dx ≠ a → Q .non (upd (upd (upd H dx (exd dx [(f, y)])) a (exo a C (some dx))) dx (exd dx [(g, z), (f, y)]))
/-- the class x at C, its __init__ keeping sp -/
structure ErrMk (P : Program) (w : World) (K : PySem.W.Frag) (mg : Str → Option Value) (base : Heap) (x : Str) (C : Addr) (ps : List Str) (sp : Sp) : Prop where
  ex : ∃ (fI : Addr) (fd : FuncData), OexC K C ∧ PySem.W.findIn K (.ref C) "__init__" = some (some (.ref fI)) ∧ PySem.W.typeIn K (.ref fI) = some (.type "function") ∧ FnOk P w K mg base CX0 1 fI fd ps sp ∧ Binds K fd ps [] ∧ mg x = some (.ref C)
theorem let_go {H : Hp} {a d : Addr} {o o' u : HO} (n : H a = none) (ne : d ≠ a) : upd (del (upd (upd H d u) a o) a) d o' = upd H d o' := by
  funext b
  by_cases hd : b = d
  · rw [hd, upd_same, upd_same]
  · rw [upd_ne hd, upd_ne hd]
    by_cases ha : b = a
    · rw [ha, del_same, n]
    · rw [del_ne ha, upd_ne ha, upd_ne hd]
section
variable {X : Cx} {x f g : Str} {C : Addr} {ps : List Str} {e e2 : Expr} {te te2 : TE} {p pos : Pos}
/-- x(e): an error whose own dict, new, holds the field -/
def tErr1 (C : Addr) (f : Str) (te : TE) : L2.St → Hp → XK → Prop := fun σ H Q => te σ H fun y H1 => FOk y ∧ ∀ d, H1 d = none → Q (.ref C) (some d) (upd H1 d (.xd [(f, y)]))
theorem pmk_err1 (M : ErrMk X.prog X.w X.K X.mg X.base x C ps (sp_init1 C f)) (hr : Room 2 X.A) (he : PE X e te) (hg : Gl X x := by rfl) (hdb : (x == ("__debug__" : Str)) = false := by decide)
    (hs : starEach [e] X.env = (false, eval e X.env) :: starEach [] X.env := by rfl) : PMk X (.Call (.Name x p) [e] [] pos) (tErr1 C f te) := by
  obtain ⟨fI, fd, T, iC, tI, F, hb, hm⟩ := M.ex
  intro pins s σ H Q I h
  refine pmk_oex (CX := CX0) T iC tI F hr hb .nil (fun _ _ _ _ _ _ _ z => z.elim) hg hm (pa_mono (pa_cons he pa_nil hs)) hdb hs rfl pins s σ H Q I ?_
  refine ⟨fun vs H1 => match vs with
    | [y] => FOk y ∧ ∀ d, H1 d = none → Q (.ref C) (some d) (upd H1 d (.xd [(f, y)]))
    | _ => False, h, fun vs H1 r => ?_⟩
  match vs, r with
  | [y], ⟨ok, q⟩ =>
    refine ⟨by simp, fun a na => ⟨a, y, rfl, upd_same, ok, fun dx nd ne => ⟨rfl, dx, _, upd_same, by rw [upd_ne ne, upd_same], ?_, ?_⟩⟩⟩
    · rw [upd_ne ne] at nd
      exact nd
    · rw [upd_ne ne] at nd
      have e1 : upd (upd (upd H1 a (exo a C none)) dx (exd dx [(f, y)])) a (exo a C (some dx)) = upd (upd H1 dx (exd dx [(f, y)])) a (exo a C (some dx)) := by
        funext b
        by_cases ha : b = a
        · rw [ha, upd_same, upd_same]
        · rw [upd_ne ha, upd_ne ha]
          by_cases hb : b = dx
          · rw [hb, upd_same, upd_same]
          · rw [upd_ne hb, upd_ne hb, upd_ne ha]
      rw [e1, let_go na ne]
      exact q dx nd
/-- x(e, e2): two fields -/
def tErr2 (C : Addr) (f g : Str) (te te2 : TE) : L2.St → Hp → XK → Prop := fun σ H Q => te σ H fun y H0 => te2 σ H0 fun z H1 => (FOk y ∧ FOk z) ∧ ∀ d, H1 d = none → Q (.ref C) (some d) (upd H1 d (.xd [(g, z), (f, y)]))
theorem pmk_err2 (M : ErrMk X.prog X.w X.K X.mg X.base x C ps (sp_init2 C f g)) (hr : Room 2 X.A) (he : PE X e te) (he2 : PE X e2 te2) (hg : Gl X x := by rfl) (hdb : (x == ("__debug__" : Str)) = false := by decide)
    (hs : starEach [e, e2] X.env = (false, eval e X.env) :: starEach [e2] X.env := by rfl) (hs2 : starEach [e2] X.env = (false, eval e2 X.env) :: starEach [] X.env := by rfl) (hpl : (backTo pos (starEach [e2] X.env)).any (·.1) = false := by rfl) :
    PMk X (.Call (.Name x p) [e, e2] [] pos) (tErr2 C f g te te2) := by
  obtain ⟨fI, fd, T, iC, tI, F, hb, hm⟩ := M.ex
  intro pins s σ H Q I h
  refine pmk_oex (CX := CX0) T iC tI F hr hb .nil (fun _ _ _ _ _ _ _ z => z.elim) hg hm (pa_mono (pa_cons he (pa_cons he2 pa_nil hs2) hs)) hdb hs hpl pins s σ H Q I ?_
  refine ⟨fun vs H1 => match vs with
    | [y, z] => (FOk y ∧ FOk z) ∧ ∀ d, H1 d = none → Q (.ref C) (some d) (upd H1 d (.xd [(g, z), (f, y)]))
    | _ => False, h, fun vs H1 r => ?_⟩
  match vs, r with
  | [y, z], ⟨⟨ok, ok2⟩, q⟩ =>
    refine ⟨by simp, fun a na => ⟨a, y, z, rfl, upd_same, ok, ok2, fun dx nd ne => ⟨rfl, dx, _, by rw [upd_ne ne.symm, upd_same], upd_same, ?_, ?_⟩⟩⟩
    · rw [upd_ne ne] at nd
      exact nd
    · rw [upd_ne ne] at nd
      have e1 : upd (del (upd (upd (upd (upd H1 a (exo a C none)) dx (exd dx [(f, y)])) a (exo a C (some dx))) dx (exd dx [(g, z), (f, y)])) a) dx (.xd [(g, z), (f, y)]) = upd H1 dx (.xd [(g, z), (f, y)]) := by
        funext b
        by_cases hb : b = dx
        · rw [hb, upd_same, upd_same]
        · rw [upd_ne hb, upd_ne hb]
          by_cases ha : b = a
          · rw [ha, del_same, na]
          · rw [del_ne ha, upd_ne hb, upd_ne ha, upd_ne hb, upd_ne ha]
      rw [e1]
      exact q dx nd
/-- the class x at C, without an __init__ of its own -/
structure ErrMk0 (K : PySem.W.Frag) (mg : Str → Option Value) (x : Str) (C : Addr) : Prop where
  q : PySem.W.excIn K C [.type "ValueError", .type "Exception", .type "BaseException", .type "object"] "ValueError.__new__" = true
  g : mg x = some (.ref C)
  k : PySem.W.keepIn K (.ref C) = true
  b : PySem.W.subIn K (.ref C) (.type "BaseException") = some true
  t : PySem.W.typeIn K (.ref C) = some (.type "type")
theorem pmk_err0 {m : Str} {j : Nat} {p2 : Pos} (M : ErrMk0 X.K X.mg x C) (hg : Gl X x := by rfl) (hdb : (x == ("__debug__" : Str)) = false := by decide) :
    PMk X (.Call (.Name x p) [.Constant (.str m) j p2] [] pos) (fun _ H Q => Q (.ref C) none H) := pmk_own PySem.F.excBase_ValueError M.q M.g M.k (raises_own M.b M.t) hg hdb
end
end Sc
namespace Sc
open PySem PySem.Spec PyProof.Rows L2 NdefX
def topS (i : Nat) : Stmt := PySem.Challenge.pw_smallcourt_k55_whole_texts_of_books.main.body.getD i (.Pass ⟨0, 0, 0, 0⟩)
section
variable {P : Program} {w : World} {K : PySem.W.Frag} {mg : Str → Option Value} {base : Heap}
theorem sc_init_InvalidFacts : NScope ["self", "index", "__class__"] ["self", "index"] ["__class__"] (defScope (inClass (topS 3) 0)) := nscope_by (by decide +kernel)
abbrev nf_InvalidFacts (cc c : Addr) : NF := ⟨"__init__", "InvalidFacts.__init__", defArgs (inClass (topS 3) 0), defBody (inClass (topS 3) 0), defScope (inClass (topS 3) 0), [(("__class__" : Str), cc)], c⟩
theorem ok_init_InvalidFacts {fI C cc c : Addr} {oc kV doc pm ct : Value} {od an : Option Addr} {osl : Array (Option Value)} (lk : K.lookup fI = some ⟨oc, od, .func (supFd (nf_InvalidFacts cc c) kV doc pm an ct), osl⟩)
    (hcd : PySem.W.codeIn K (.ref c) "InvalidFacts.__init__" = true) (T : OexC K C) (S : SupC P K mg C cc c) (n0 : PySem.W.findIn K (.ref C) "index" = some none) : FnOk P w K mg base CX0 1 fI (supFd (nf_InvalidFacts cc c) kV doc pm an ct) ["self", "index"] (sp_init1 C "index") := by
  refine fn_sup (N := ["self", "index", "__class__"]) (ps := ["self", "index"]) lk hcd rfl sc_init_InvalidFacts T S (fun vs H Q E h => ?_) rfl rfl rfl rfl rfl (fun A outer s H vs Q E hr h => ?_) (fun L => ⟨_, rfl⟩) (fun L => rfl) (fun L => rfl) (fun L => rfl) (fun L => rfl)
  · obtain ⟨a, y0, rfl, ha, ok0, q⟩ := h
    rfl
  · obtain ⟨a, y0, rfl, ha, ok0, q⟩ := h
    refine ⟨_, _, pa_cons (pe_joined (PJ.cons pe_str (PJ.cons (pe_fmt (pv 1)) PJ.nil))) pa_nil, pss_one (ps_ost (pv 0) (pv 1)), a, rfl, ha, ?_⟩
    refine ⟨_, rfl, (by rw [sizeLine_eq]; simp only [app_len]; have e0 : Str.empty.length = 0 := rfl; have e1 : (("wrong fact at index " : Str)).length = 20 := (by decide +kernel); omega), ⟨y0, rfl, fmt_at ok0 fun z0 hz0 => ⟨_, rfl, (by rw [sizeLine_eq]; simp only [app_len]; have e0 : Str.empty.length = 0 := rfl; have e1 : (("wrong fact at index " : Str)).length = 20 := (by decide +kernel); omega), ⟨by simp, ha, y0, rfl, .ref a, rfl, a, C, rfl, T, n0, .inl ⟨ha, fun dx nd ne => q dx nd ne⟩⟩⟩⟩⟩

theorem sc_init_InvalidCase : NScope ["self", "index", "__class__"] ["self", "index"] ["__class__"] (defScope (inClass (topS 4) 0)) := nscope_by (by decide +kernel)
abbrev nf_InvalidCase (cc c : Addr) : NF := ⟨"__init__", "InvalidCase.__init__", defArgs (inClass (topS 4) 0), defBody (inClass (topS 4) 0), defScope (inClass (topS 4) 0), [(("__class__" : Str), cc)], c⟩
theorem ok_init_InvalidCase {fI C cc c : Addr} {oc kV doc pm ct : Value} {od an : Option Addr} {osl : Array (Option Value)} (lk : K.lookup fI = some ⟨oc, od, .func (supFd (nf_InvalidCase cc c) kV doc pm an ct), osl⟩)
    (hcd : PySem.W.codeIn K (.ref c) "InvalidCase.__init__" = true) (T : OexC K C) (S : SupC P K mg C cc c) (n0 : PySem.W.findIn K (.ref C) "index" = some none) : FnOk P w K mg base CX0 1 fI (supFd (nf_InvalidCase cc c) kV doc pm an ct) ["self", "index"] (sp_init1 C "index") := by
  refine fn_sup (N := ["self", "index", "__class__"]) (ps := ["self", "index"]) lk hcd rfl sc_init_InvalidCase T S (fun vs H Q E h => ?_) rfl rfl rfl rfl rfl (fun A outer s H vs Q E hr h => ?_) (fun L => ⟨_, rfl⟩) (fun L => rfl) (fun L => rfl) (fun L => rfl) (fun L => rfl)
  · obtain ⟨a, y0, rfl, ha, ok0, q⟩ := h
    rfl
  · obtain ⟨a, y0, rfl, ha, ok0, q⟩ := h
    refine ⟨_, _, pa_cons (pe_joined (PJ.cons pe_str (PJ.cons (pe_fmt (pv 1)) PJ.nil))) pa_nil, pss_one (ps_ost (pv 0) (pv 1)), a, rfl, ha, ?_⟩
    refine ⟨_, rfl, (by rw [sizeLine_eq]; simp only [app_len]; have e0 : Str.empty.length = 0 := rfl; have e1 : (("wrong name in the case at index " : Str)).length = 32 := (by decide +kernel); omega), ⟨y0, rfl, fmt_at ok0 fun z0 hz0 => ⟨_, rfl, (by rw [sizeLine_eq]; simp only [app_len]; have e0 : Str.empty.length = 0 := rfl; have e1 : (("wrong name in the case at index " : Str)).length = 32 := (by decide +kernel); omega), ⟨by simp, ha, y0, rfl, .ref a, rfl, a, C, rfl, T, n0, .inl ⟨ha, fun dx nd ne => q dx nd ne⟩⟩⟩⟩⟩

theorem sc_init_InvalidCondition : NScope ["self", "part", "index", "__class__"] ["self", "part", "index"] ["__class__"] (defScope (inClass (topS 5) 0)) := nscope_by (by decide +kernel)
abbrev nf_InvalidCondition (cc c : Addr) : NF := ⟨"__init__", "InvalidCondition.__init__", defArgs (inClass (topS 5) 0), defBody (inClass (topS 5) 0), defScope (inClass (topS 5) 0), [(("__class__" : Str), cc)], c⟩
theorem ok_init_InvalidCondition {fI C cc c : Addr} {oc kV doc pm ct : Value} {od an : Option Addr} {osl : Array (Option Value)} (lk : K.lookup fI = some ⟨oc, od, .func (supFd (nf_InvalidCondition cc c) kV doc pm an ct), osl⟩)
    (hcd : PySem.W.codeIn K (.ref c) "InvalidCondition.__init__" = true) (T : OexC K C) (S : SupC P K mg C cc c) (n0 : PySem.W.findIn K (.ref C) "part" = some none) (n1 : PySem.W.findIn K (.ref C) "index" = some none) : FnOk P w K mg base CX0 1 fI (supFd (nf_InvalidCondition cc c) kV doc pm an ct) ["self", "part", "index"] (sp_init2 C "part" "index") := by
  refine fn_sup (N := ["self", "part", "index", "__class__"]) (ps := ["self", "part", "index"]) lk hcd rfl sc_init_InvalidCondition T S (fun vs H Q E h => ?_) rfl rfl rfl rfl rfl (fun A outer s H vs Q E hr h => ?_) (fun L => ⟨_, rfl⟩) (fun L => rfl) (fun L => rfl) (fun L => rfl) (fun L => rfl)
  · obtain ⟨a, y0, y1, rfl, ha, ok0, ok1, q⟩ := h
    rfl
  · obtain ⟨a, y0, y1, rfl, ha, ok0, ok1, q⟩ := h
    refine ⟨_, _, pa_cons (pe_joined (PJ.cons pe_str (PJ.cons (pe_fmt (pv 1)) (PJ.cons pe_str (PJ.cons (pe_fmt (pv 2)) PJ.nil))))) pa_nil, pss_cons (ps_ost (pv 0) (pv 1)) (pss_one (ps_ost (pv 0) (pv 2))), a, rfl, ha, ?_⟩
    refine ⟨_, rfl, (by rw [sizeLine_eq]; simp only [app_len]; have e0 : Str.empty.length = 0 := rfl; have e1 : (("wrong name in part " : Str)).length = 19 := (by decide +kernel); have e2 : ((" of the condition at index " : Str)).length = 27 := (by decide +kernel); omega), ⟨y0, rfl, fmt_at ok0 fun z0 hz0 => ⟨_, rfl, (by rw [sizeLine_eq]; simp only [app_len]; have e0 : Str.empty.length = 0 := rfl; have e1 : (("wrong name in part " : Str)).length = 19 := (by decide +kernel); have e2 : ((" of the condition at index " : Str)).length = 27 := (by decide +kernel); omega), ⟨_, rfl, (by rw [sizeLine_eq]; simp only [app_len]; have e0 : Str.empty.length = 0 := rfl; have e1 : (("wrong name in part " : Str)).length = 19 := (by decide +kernel); have e2 : ((" of the condition at index " : Str)).length = 27 := (by decide +kernel); omega), ⟨y1, rfl, fmt_at ok1 fun z1 hz1 => ⟨_, rfl, (by rw [sizeLine_eq]; simp only [app_len]; have e0 : Str.empty.length = 0 := rfl; have e1 : (("wrong name in part " : Str)).length = 19 := (by decide +kernel); have e2 : ((" of the condition at index " : Str)).length = 27 := (by decide +kernel); omega), ⟨by simp, ha, y0, rfl, .ref a, rfl, a, C, rfl, T, n0, .inl ⟨ha, fun dx nd ne => ⟨y1, rfl, .ref a, rfl, a, C, rfl, T, n1, .inr ⟨dx, _, upd_same, by rw [upd_ne ne, upd_same], by simp, q dx nd ne⟩⟩⟩⟩⟩⟩⟩⟩⟩⟩

theorem sc_init_InvalidRule : NScope ["self", "part", "__class__"] ["self", "part"] ["__class__"] (defScope (inClass (topS 7) 0)) := nscope_by (by decide +kernel)
abbrev nf_InvalidRule (cc c : Addr) : NF := ⟨"__init__", "InvalidRule.__init__", defArgs (inClass (topS 7) 0), defBody (inClass (topS 7) 0), defScope (inClass (topS 7) 0), [(("__class__" : Str), cc)], c⟩
theorem ok_init_InvalidRule {fI C cc c : Addr} {oc kV doc pm ct : Value} {od an : Option Addr} {osl : Array (Option Value)} (lk : K.lookup fI = some ⟨oc, od, .func (supFd (nf_InvalidRule cc c) kV doc pm an ct), osl⟩)
    (hcd : PySem.W.codeIn K (.ref c) "InvalidRule.__init__" = true) (T : OexC K C) (S : SupC P K mg C cc c) (n0 : PySem.W.findIn K (.ref C) "part" = some none) : FnOk P w K mg base CX0 1 fI (supFd (nf_InvalidRule cc c) kV doc pm an ct) ["self", "part"] (sp_init1 C "part") := by
  refine fn_sup (N := ["self", "part", "__class__"]) (ps := ["self", "part"]) lk hcd rfl sc_init_InvalidRule T S (fun vs H Q E h => ?_) rfl rfl rfl rfl rfl (fun A outer s H vs Q E hr h => ?_) (fun L => ⟨_, rfl⟩) (fun L => rfl) (fun L => rfl) (fun L => rfl) (fun L => rfl)
  · obtain ⟨a, y0, rfl, ha, ok0, q⟩ := h
    rfl
  · obtain ⟨a, y0, rfl, ha, ok0, q⟩ := h
    refine ⟨_, _, pa_cons (pe_joined (PJ.cons pe_str (PJ.cons (pe_fmt (pv 1)) (PJ.cons pe_str PJ.nil)))) pa_nil, pss_one (ps_ost (pv 0) (pv 1)), a, rfl, ha, ?_⟩
    refine ⟨_, rfl, (by rw [sizeLine_eq]; simp only [app_len]; have e0 : Str.empty.length = 0 := rfl; have e1 : (("wrong " : Str)).length = 6 := (by decide +kernel); have e2 : ((" of a rule" : Str)).length = 10 := (by decide +kernel); omega), ⟨y0, rfl, fmt_at ok0 fun z0 hz0 => ⟨_, rfl, (by rw [sizeLine_eq]; simp only [app_len]; have e0 : Str.empty.length = 0 := rfl; have e1 : (("wrong " : Str)).length = 6 := (by decide +kernel); have e2 : ((" of a rule" : Str)).length = 10 := (by decide +kernel); omega), ⟨_, rfl, (by rw [sizeLine_eq]; simp only [app_len]; have e0 : Str.empty.length = 0 := rfl; have e1 : (("wrong " : Str)).length = 6 := (by decide +kernel); have e2 : ((" of a rule" : Str)).length = 10 := (by decide +kernel); omega), ⟨by simp, ha, y0, rfl, .ref a, rfl, a, C, rfl, T, n0, .inl ⟨ha, fun dx nd ne => q dx nd ne⟩⟩⟩⟩⟩⟩

theorem sc_init_InvalidBook : NScope ["self", "word", "index", "__class__"] ["self", "word", "index"] ["__class__"] (defScope (inClass (topS 8) 0)) := nscope_by (by decide +kernel)
abbrev nf_InvalidBook (cc c : Addr) : NF := ⟨"__init__", "InvalidBook.__init__", defArgs (inClass (topS 8) 0), defBody (inClass (topS 8) 0), defScope (inClass (topS 8) 0), [(("__class__" : Str), cc)], c⟩
theorem ok_init_InvalidBook {fI C cc c : Addr} {oc kV doc pm ct : Value} {od an : Option Addr} {osl : Array (Option Value)} (lk : K.lookup fI = some ⟨oc, od, .func (supFd (nf_InvalidBook cc c) kV doc pm an ct), osl⟩)
    (hcd : PySem.W.codeIn K (.ref c) "InvalidBook.__init__" = true) (T : OexC K C) (S : SupC P K mg C cc c) (n0 : PySem.W.findIn K (.ref C) "word" = some none) (n1 : PySem.W.findIn K (.ref C) "index" = some none) : FnOk P w K mg base CX0 1 fI (supFd (nf_InvalidBook cc c) kV doc pm an ct) ["self", "word", "index"] (sp_init2 C "word" "index") := by
  refine fn_sup (N := ["self", "word", "index", "__class__"]) (ps := ["self", "word", "index"]) lk hcd rfl sc_init_InvalidBook T S (fun vs H Q E h => ?_) rfl rfl rfl rfl rfl (fun A outer s H vs Q E hr h => ?_) (fun L => ⟨_, rfl⟩) (fun L => rfl) (fun L => rfl) (fun L => rfl) (fun L => rfl)
  · obtain ⟨a, y0, y1, rfl, ha, ok0, ok1, q⟩ := h
    rfl
  · obtain ⟨a, y0, y1, rfl, ha, ok0, ok1, q⟩ := h
    refine ⟨_, _, pa_cons (pe_joined (PJ.cons pe_str (PJ.cons (pe_fmt (pv 1)) (PJ.cons pe_str (PJ.cons (pe_fmt (pv 2)) PJ.nil))))) pa_nil, pss_cons (ps_ost (pv 0) (pv 1)) (pss_one (ps_ost (pv 0) (pv 2))), a, rfl, ha, ?_⟩
    refine ⟨_, rfl, (by rw [sizeLine_eq]; simp only [app_len]; have e0 : Str.empty.length = 0 := rfl; have e1 : (("wrong book by " : Str)).length = 14 := (by decide +kernel); have e2 : ((" at index " : Str)).length = 10 := (by decide +kernel); omega), ⟨y0, rfl, fmt_at ok0 fun z0 hz0 => ⟨_, rfl, (by rw [sizeLine_eq]; simp only [app_len]; have e0 : Str.empty.length = 0 := rfl; have e1 : (("wrong book by " : Str)).length = 14 := (by decide +kernel); have e2 : ((" at index " : Str)).length = 10 := (by decide +kernel); omega), ⟨_, rfl, (by rw [sizeLine_eq]; simp only [app_len]; have e0 : Str.empty.length = 0 := rfl; have e1 : (("wrong book by " : Str)).length = 14 := (by decide +kernel); have e2 : ((" at index " : Str)).length = 10 := (by decide +kernel); omega), ⟨y1, rfl, fmt_at ok1 fun z1 hz1 => ⟨_, rfl, (by rw [sizeLine_eq]; simp only [app_len]; have e0 : Str.empty.length = 0 := rfl; have e1 : (("wrong book by " : Str)).length = 14 := (by decide +kernel); have e2 : ((" at index " : Str)).length = 10 := (by decide +kernel); omega), ⟨by simp, ha, y0, rfl, .ref a, rfl, a, C, rfl, T, n0, .inl ⟨ha, fun dx nd ne => ⟨y1, rfl, .ref a, rfl, a, C, rfl, T, n1, .inr ⟨dx, _, upd_same, by rw [upd_ne ne, upd_same], by simp, q dx nd ne⟩⟩⟩⟩⟩⟩⟩⟩⟩⟩

theorem sc_init_NotWritable : NScope ["self", "index", "__class__"] ["self", "index"] ["__class__"] (defScope (inClass (topS 10) 0)) := nscope_by (by decide +kernel)
abbrev nf_NotWritable (cc c : Addr) : NF := ⟨"__init__", "NotWritable.__init__", defArgs (inClass (topS 10) 0), defBody (inClass (topS 10) 0), defScope (inClass (topS 10) 0), [(("__class__" : Str), cc)], c⟩
theorem ok_init_NotWritable {fI C cc c : Addr} {oc kV doc pm ct : Value} {od an : Option Addr} {osl : Array (Option Value)} (lk : K.lookup fI = some ⟨oc, od, .func (supFd (nf_NotWritable cc c) kV doc pm an ct), osl⟩)
    (hcd : PySem.W.codeIn K (.ref c) "NotWritable.__init__" = true) (T : OexC K C) (S : SupC P K mg C cc c) (n0 : PySem.W.findIn K (.ref C) "index" = some none) : FnOk P w K mg base CX0 1 fI (supFd (nf_NotWritable cc c) kV doc pm an ct) ["self", "index"] (sp_init1 C "index") := by
  refine fn_sup (N := ["self", "index", "__class__"]) (ps := ["self", "index"]) lk hcd rfl sc_init_NotWritable T S (fun vs H Q E h => ?_) rfl rfl rfl rfl rfl (fun A outer s H vs Q E hr h => ?_) (fun L => ⟨_, rfl⟩) (fun L => rfl) (fun L => rfl) (fun L => rfl) (fun L => rfl)
  · obtain ⟨a, y0, rfl, ha, ok0, q⟩ := h
    rfl
  · obtain ⟨a, y0, rfl, ha, ok0, q⟩ := h
    refine ⟨_, _, pa_cons (pe_joined (PJ.cons pe_str (PJ.cons (pe_fmt (pv 1)) PJ.nil))) pa_nil, pss_one (ps_ost (pv 0) (pv 1)), a, rfl, ha, ?_⟩
    refine ⟨_, rfl, (by rw [sizeLine_eq]; simp only [app_len]; have e0 : Str.empty.length = 0 := rfl; have e1 : (("a reserved word stands at index " : Str)).length = 32 := (by decide +kernel); omega), ⟨y0, rfl, fmt_at ok0 fun z0 hz0 => ⟨_, rfl, (by rw [sizeLine_eq]; simp only [app_len]; have e0 : Str.empty.length = 0 := rfl; have e1 : (("a reserved word stands at index " : Str)).length = 32 := (by decide +kernel); omega), ⟨by simp, ha, y0, rfl, .ref a, rfl, a, C, rfl, T, n0, .inl ⟨ha, fun dx nd ne => q dx nd ne⟩⟩⟩⟩⟩

theorem sc_init_InvalidText : NScope ["self", "row", "word", "__class__"] ["self", "row", "word"] ["__class__"] (defScope (inClass (topS 11) 0)) := nscope_by (by decide +kernel)
abbrev nf_InvalidText (cc c : Addr) : NF := ⟨"__init__", "InvalidText.__init__", defArgs (inClass (topS 11) 0), defBody (inClass (topS 11) 0), defScope (inClass (topS 11) 0), [(("__class__" : Str), cc)], c⟩
theorem ok_init_InvalidText {fI C cc c : Addr} {oc kV doc pm ct : Value} {od an : Option Addr} {osl : Array (Option Value)} (lk : K.lookup fI = some ⟨oc, od, .func (supFd (nf_InvalidText cc c) kV doc pm an ct), osl⟩)
    (hcd : PySem.W.codeIn K (.ref c) "InvalidText.__init__" = true) (T : OexC K C) (S : SupC P K mg C cc c) (n0 : PySem.W.findIn K (.ref C) "row" = some none) (n1 : PySem.W.findIn K (.ref C) "word" = some none) : FnOk P w K mg base CX0 1 fI (supFd (nf_InvalidText cc c) kV doc pm an ct) ["self", "row", "word"] (sp_init2 C "row" "word") := by
  refine fn_sup (N := ["self", "row", "word", "__class__"]) (ps := ["self", "row", "word"]) lk hcd rfl sc_init_InvalidText T S (fun vs H Q E h => ?_) rfl rfl rfl rfl rfl (fun A outer s H vs Q E hr h => ?_) (fun L => ⟨_, rfl⟩) (fun L => rfl) (fun L => rfl) (fun L => rfl) (fun L => rfl)
  · obtain ⟨a, y0, y1, rfl, ha, ok0, ok1, q⟩ := h
    rfl
  · obtain ⟨a, y0, y1, rfl, ha, ok0, ok1, q⟩ := h
    refine ⟨_, _, pa_cons (pe_joined (PJ.cons pe_str (PJ.cons (pe_fmt (pv 2)) (PJ.cons pe_str (PJ.cons (pe_fmt (pv 1)) PJ.nil))))) pa_nil, pss_cons (ps_ost (pv 0) (pv 1)) (pss_one (ps_ost (pv 0) (pv 2))), a, rfl, ha, ?_⟩
    refine ⟨_, rfl, (by rw [sizeLine_eq]; simp only [app_len]; have e0 : Str.empty.length = 0 := rfl; have e1 : (("wrong word " : Str)).length = 11 := (by decide +kernel); have e2 : ((" of row " : Str)).length = 8 := (by decide +kernel); omega), ⟨y1, rfl, fmt_at ok1 fun z0 hz0 => ⟨_, rfl, (by rw [sizeLine_eq]; simp only [app_len]; have e0 : Str.empty.length = 0 := rfl; have e1 : (("wrong word " : Str)).length = 11 := (by decide +kernel); have e2 : ((" of row " : Str)).length = 8 := (by decide +kernel); omega), ⟨_, rfl, (by rw [sizeLine_eq]; simp only [app_len]; have e0 : Str.empty.length = 0 := rfl; have e1 : (("wrong word " : Str)).length = 11 := (by decide +kernel); have e2 : ((" of row " : Str)).length = 8 := (by decide +kernel); omega), ⟨y0, rfl, fmt_at ok0 fun z1 hz1 => ⟨_, rfl, (by rw [sizeLine_eq]; simp only [app_len]; have e0 : Str.empty.length = 0 := rfl; have e1 : (("wrong word " : Str)).length = 11 := (by decide +kernel); have e2 : ((" of row " : Str)).length = 8 := (by decide +kernel); omega), ⟨by simp, ha, y0, rfl, .ref a, rfl, a, C, rfl, T, n0, .inl ⟨ha, fun dx nd ne => ⟨y1, rfl, .ref a, rfl, a, C, rfl, T, n1, .inr ⟨dx, _, upd_same, by rw [upd_ne ne, upd_same], by simp, q dx nd ne⟩⟩⟩⟩⟩⟩⟩⟩⟩⟩

end
end Sc
namespace Sc
open PySem PySem.Spec PyProof.Rows L2
/-! ### names -/
abbrev s_is_name : Stmt := topS 15
theorem sc_is_name : FnScope ["value", "letter"] ["value"] (defScope s_is_name) := ⟨rfl, rfl, rfl, by decide +kernel, rfl, by decide +kernel, by decide +kernel⟩
abbrev s_rises : Stmt := topS 16
theorem sc_rises : FnScope ["names", "index"] ["names", "index"] (defScope s_rises) := ⟨rfl, rfl, rfl, by decide +kernel, rfl, by decide +kernel, by decide +kernel⟩
def letters : Str := "abcdefghijklmnopqrstuvwxyz"
def isLetters (x : Str) : Bool := x.cps.toList.all fun c => decide (c ∈ letters.cps.toList)
def isName (x : Str) : Bool := decide (1 ≤ x.length) && (decide (x.length ≤ 8) && isLetters x)
def isLetterV (c : Nat) : V := .bl (decide (c ∈ letters.cps.toList))
structure GNames (mg : Str → Option Value) : Prop where
  m_LETTERS : ∃ t, mg "LETTERS" = some (.str letters t)
  m_LONGEST : ∃ t, mg "LONGEST_NAME" = some (.int 8 t)
section
variable {P : Program} {w : World} {K : PySem.W.Frag} {mg : Str → Option Value} {base : Heap}
def sp_is_name : Sp := fun vs H Q _ => ∃ x : Str, vs = [.str x] ∧ x.length ≤ sizeLine ∧ ∀ H', Same H H' → Q (.bl (isName x)) H'
theorem ok_is_name {f : Addr} {fd : FuncData} (F : Fun K "is_name" "is_name" s_is_name f fd) (B : Blt mg) (G : GNames mg) : FnOk P w K mg base CX0 1 f fd ["value"] sp_is_name := by
  obtain ⟨⟨t1, mL⟩, ⟨t2, mN⟩⟩ := G
  refine F.ok sc_is_name (fun vs H Q E h => by obtain ⟨x, rfl, _⟩ := h; rfl) (fun cdv A outer s H vs Q E hr h => ?_)
  obtain ⟨x, rfl, hx, q⟩ := h
  refine ⟨_, (pss_cons (ps_if (PW.pt (pw_or (pt_not (pt_val (pe_callB (call_isT "str") (by rfl) B.b_isinstance PyProof.Rows.boot_isinstance (pa_cons (pv 0) (pa_cons (pe_bltn (v := .ty "str") (by rfl) B.b_str PyProof.Rows.boot_str rfl) pa_nil))))) (pw_or1 (pt_not (pt_chain op_le op_le pe_int (pe_callB call_len_str (by rfl) B.b_len PySem.boot_len (pa_cons (pv 0) pa_nil)) (pe_glob (v := .int 8) rfl mN ⟨_, rfl⟩)))))) (pss_one (ps_ret pe_bl)) pss_nil)
      (pss_one (ps_ret (pe_callB (cr_all rfl) (by rfl) B.b_all PyProof.Rows.boot_all (pa_cons (pe_lc (own := [("letter", 1)]) (g := gName 1) (tt := tYes) rfl sc_is_name.nd (pi_str (pv 0)) (blkOk_by (own := [("letter", 1)]) (N := ["value", "letter"]) (sc := defScope s_is_name) (by decide +kernel)) (fun _ _ _ _ _ => (pg_name (i := 1) sc_is_name.nd rfl (Or.inl rfl))) (fun _ _ _ _ _ => pts_nil) (fun _ _ _ _ _ => (pe_.re (pe_cmpR op_in_sign (pv 1) (pe_glob (v := .str "abcdefghijklmnopqrstuvwxyz") rfl mL ⟨_, rfl⟩) rfl) (by first | (dsimp only [Cx.blk]; done) | exact rfl)))) pa_nil))))), ?_⟩
  refine ⟨.str x, rfl, _, "str", true, rfl, .str _, by decide +kernel, _, rfl, iteF ?_⟩
  refine ⟨.str x, rfl, x, rfl, hx, 1, x.length, rfl, rfl, _, rfl, bcase (fun h1 => ?_) (fun h1 => ?_)⟩
  · refine ⟨_, _, rfl, rfl, _, rfl, ?_⟩
    have h1 : 1 ≤ x.length := by have := of_decide_eq_true h1; omega
    by_cases h2 : x.length ≤ 8
    · have e2 : decide ((x.length : Int) ≤ 8) = true := decide_eq_true (by omega)
      rw [e2]
      refine iteF ?_
      refine ⟨.str x, rfl, x, rfl, fun D nD => lc_it walk_str (fun i H' => Same H H' ∧ H' D = some (.lst ((x.cps.toList.take i).map isLetterV))) ⟨(Same.refl H).put nD, upd_same⟩ (fun _ _ _ _ => trivial) ?_ ?_⟩
      · rintro i y H2 H3 hi ⟨s, e⟩ ⟨rfl, c, hc, rfl⟩
        refine ⟨rfl, yes_ ⟨_, rfl, c, letters, rfl, rfl, grow (acc := fun i => .map isLetterV (x.cps.toList.take i)) nD s e ?_ ?_⟩⟩
        · rw [List.length_map, List.length_take]
          exact small1000 (by have : x.cps.toList.length = x.length := rfl; omega)
        · show List.map _ _ = _
          rw [take_more (x := c) (by rw [Array.getElem?_toList]; exact hc), List.map_append]
          rfl
      · rintro H2 ⟨s, e⟩
        have el : x.cps.toList.take x.cps.size = x.cps.toList := List.take_of_length_le (by rw [Array.length_toList]; exact Nat.le_refl _)
        rw [el] at e
        refine ⟨D, x.cps.toList.map fun c => decide (c ∈ letters.cps.toList), rfl, sqL_of (by rw [e, List.map_map]; rfl), ?_⟩
        have ea : isName x = (x.cps.toList.map fun c => decide (c ∈ letters.cps.toList)).all id := by
          unfold isName isLetters
          rw [decide_eq_true h1, decide_eq_true h2, Bool.true_and, Bool.true_and, List.all_map]
          rfl
        rw [← ea]
        exact q H2 s
    · have e2 : decide ((x.length : Int) ≤ 8) = false := decide_eq_false (by omega)
      rw [e2]
      refine iteT ?_
      have e : isName x = false := by unfold isName; rw [decide_eq_false h2, Bool.false_and, Bool.and_false]
      rw [← e]
      exact q H (Same.refl H)
  · have h1 : ¬ 1 ≤ x.length := by have := of_decide_eq_false h1; omega
    refine ⟨_, rfl, iteT ?_⟩
    have e : isName x = false := by unfold isName; rw [decide_eq_false h1, Bool.false_and]
    rw [← e]
    exact q H (Same.refl H)
/-- does the i-th name come behind the one before it -/
def risesAt (xs : List Str) (i : Nat) : Bool := decide (i = 0) || match xs[i - 1]?, xs[i]? with
  | some a, some b => decide (a.cps.toList < b.cps.toList)
  | _, _ => false
def sp_rises (K : PySem.W.Frag) : Sp := fun vs H Q _ => ∃ (a : Addr) (xs : List Str) (i : Nat), vs = [.ref a, .int i] ∧ SqT K H a (xs.map V.str) ∧ i < xs.length ∧ Q (.bl (risesAt xs i)) H
theorem ok_rises {f : Addr} {fd : FuncData} (F : Fun K "rises" "rises" s_rises f fd) : FnOk P w K mg base CX0 1 f fd ["names", "index"] (sp_rises K) := by
  refine F.ok sc_rises (fun vs H Q E h => by obtain ⟨a, xs, i, rfl, _⟩ := h; rfl) (fun cdv A outer s H vs Q E hr h => ?_)
  obtain ⟨a, xs, i, rfl, hS, hi, q⟩ := h
  refine ⟨_, (pss_one (ps_ret (pe_or (pe_cmpR op_eq (pv 1) pe_int (nomark _)) (pe_one (pe_cmpR op_lt_str (pe_ix ix_tup (pv 0) (pe_op op_sub (pv 1) pe_int) (fun _ _ => rfl)) (pe_ix ix_tup (pv 0) (pv 1) (fun _ _ => rfl)) (nomark _)))))), ?_⟩
  refine ⟨_, rfl, rfl, _, rfl, bcase (fun e => ?_) (fun e => ?_)⟩
  · have e0 : i = 0 := by have := V.int.inj (of_decide_eq_true e); omega
    have er : risesAt xs i = true := by unfold risesAt; rw [decide_eq_true e0, Bool.true_or]
    rw [er] at q
    exact q
  · have e0 : i ≠ 0 := fun z => by subst z; exact Bool.noConfusion (e.symm.trans (decide_eq_true rfl))
    have h1 : i - 1 < xs.length := by omega
    have g1 : (xs.map V.str)[i - 1]? = some (.str xs[i - 1]) := by rw [List.getElem?_map, List.getElem?_eq_getElem h1]; rfl
    have g2 : (xs.map V.str)[i]? = some (.str xs[i]) := by rw [List.getElem?_map, List.getElem?_eq_getElem hi]; rfl
    refine ⟨.ref a, rfl, .int i, rfl, i, 1, rfl, rfl, a, _, _, _, rfl, rfl, hS, at_of (j := i - 1) (by omega) g1, .ref a, rfl, .int i, rfl, a, _, _, _, rfl, rfl, hS, at_of rfl g2, xs[i - 1], xs[i], rfl, rfl, ?_⟩
    have er : risesAt xs i = decide (xs[i - 1].cps.toList < xs[i].cps.toList) := by
      unfold risesAt
      rw [decide_eq_false e0, Bool.false_or, List.getElem?_eq_getElem h1, List.getElem?_eq_getElem hi]
    rw [← er]
    exact q
end
end Sc
namespace Sc
open PySem PySem.Spec PyProof.Rows L2
/-! ### the law's draws -/
abbrev s__law_mix : Stmt := topS 58
theorem sc__law_mix : FnScope ["_law_script", "_law_seed", "_law_state", "_law_cell"] ["_law_script", "_law_seed"] (defScope s__law_mix) := ⟨rfl, rfl, rfl, by decide +kernel, rfl, by decide +kernel, by decide +kernel⟩
abbrev s__law_next : Stmt := topS 59
theorem sc__law_next : FnScope ["_law_h", "_law_limit", "_law_cell"] ["_law_h", "_law_limit"] (defScope s__law_next) := ⟨rfl, rfl, rfl, by decide +kernel, rfl, by decide +kernel, by decide +kernel⟩
abbrev s__law_facts : Stmt := topS 61
theorem sc__law_facts : FnScope ["_law_h", "_law_most", "_law_some", "_law_many"] ["_law_h", "_law_most"] (defScope s__law_facts) := ⟨rfl, rfl, rfl, by decide +kernel, rfl, by decide +kernel, by decide +kernel⟩
abbrev s__law_alike : Stmt := topS 60
theorem sc__law_alike : FnScope ["_law_found", "_law_due", "_law_k"] ["_law_found", "_law_due"] (defScope s__law_alike) := ⟨rfl, rfl, rfl, by decide +kernel, rfl, by decide +kernel, by decide +kernel⟩
def twelve : List Str := ["age", "bad", "cold", "dear", "early", "first", "good", "hot", "idle", "just", "keen", "late"]
/-- the state of the draws: a list at a, its cells at l -/
def RS (H : Hp) (a l : Addr) : Prop := ∃ (st k : Int) (ns : List Int), H a = some (.lst [.int st, .ref l, .int k]) ∧ H l = some (.lst (ns.map V.int)) ∧ 0 ≤ st ∧ st < 2147483647 ∧ ns.length ≤ 63 ∧ ∀ z ∈ ns, Builtin.Int.intBits z ≤ 1048576
/-- all but the draws' state stands -/
structure Kp (a l : Addr) (H H' : Hp) : Prop where
  old : RS H a l
  new : RS H' a l
  keep : ∀ b o, b ≠ a → b ≠ l → H b = some o → H' b = some o
section
variable {P : Program} {w : World} {K : PySem.W.Frag} {mg : Str → Option Value} {base : Heap} {a l : Addr} {H H' H'' : Hp}
theorem RS.ne (r : RS H a l) : a ≠ l := fun z => by
  obtain ⟨st, k, ns, h1, h2, _⟩ := r
  subst z
  rw [h1] at h2
  have e := HO.lst.inj (Option.some.inj h2)
  match ns, e with
  | [x, y, z], e => cases (List.cons.inj (List.cons.inj e).2).1
theorem RS.same (r : RS H a l) (s : Same H H') : RS H' a l := by
  obtain ⟨st, k, ns, h1, h2, q⟩ := r
  exact ⟨st, k, ns, s _ _ h1, s _ _ h2, q⟩
theorem Kp.refl (r : RS H a l) : Kp a l H H := ⟨r, r, fun _ _ _ _ e => e⟩
theorem Kp.trans (k : Kp a l H H') (k' : Kp a l H' H'') : Kp a l H H'' := ⟨k.old, k'.new, fun b o n1 n2 e => k'.keep b o n1 n2 (k.keep b o n1 n2 e)⟩
theorem Kp.of (r : RS H a l) (s : Same H H') : Kp a l H H' := ⟨r, r.same s, fun b o _ _ e => s b o e⟩
theorem Kp.same (k : Kp a l H H') (s : Same H' H'') : Kp a l H H'' := k.trans (.of k.new s)
theorem RS.no {b : Addr} (r : RS H a l) (e : H b = none) : b ≠ a ∧ b ≠ l := by
  obtain ⟨st, k, ns, h1, h2, _⟩ := r
  exact ⟨fun z => (by rw [z, h1] at e; cases e), fun z => (by rw [z, h2] at e; cases e)⟩
theorem RS.not {b : Addr} {o : HO} (r : RS H a l) (e : H b = some o) (n : ∀ xs, o ≠ .lst xs) : b ≠ a ∧ b ≠ l := by
  obtain ⟨st, k, ns, h1, h2, _⟩ := r
  exact ⟨fun z => (by rw [z, h1] at e; exact n _ (Option.some.inj e).symm), fun z => (by rw [z, h2] at e; exact n _ (Option.some.inj e).symm)⟩
theorem Kp.free {b : Addr} (k : Kp a l H H') (e : H' b = none) : H b = none := by
  cases q : H b with
  | none => rfl
  | some o =>
    obtain ⟨n1, n2⟩ := k.new.no e
    rw [k.keep b o n1 n2 q] at e
    cases e
theorem Kp.put {p : Addr} {o : HO} (k : Kp a l H H') (n : H' p = none) : Kp a l H (upd H' p o) := k.same ((Same.refl H').put n)
theorem Kp.put0 {p : Addr} {o : HO} (k : Kp a l H H') (n : H p = none) : Kp a l H (upd H' p o) := by
  obtain ⟨n1, n2⟩ := k.old.no n
  obtain ⟨st, x, ns, h1, h2, q⟩ := k.new
  exact ⟨k.old, ⟨st, x, ns, by rw [upd_ne n1.symm]; exact h1, by rw [upd_ne n2.symm]; exact h2, q⟩, fun b o m1 m2 e => by rw [upd_ne (ne_of_none e n)]; exact k.keep b o m1 m2 e⟩
theorem ixN_of {n j : Nat} (hj : j < n) : ixN n (j : Int) = some j := by
  unfold ixN
  rw [if_pos (by omega), if_pos (by omega)]
  rfl
theorem Kp.obj {b : Addr} {o : HO} (k : Kp a l H H') (e : H b = some o) (n : ∀ xs, o ≠ .lst xs) : H' b = some o := by
  obtain ⟨n1, n2⟩ := k.old.not e n
  exact k.keep b o n1 n2 e
theorem Kp.tup {b : Addr} {xs : List V} (k : Kp a l H H') (h : SqT K H b xs) : SqT K H' b xs := by
  rcases h with (h | ⟨o, h⟩) | h
  · exact .inl (.inl (k.obj h fun _ z => nomatch z))
  · exact .inl (.inr ⟨o, k.obj h fun _ z => nomatch z⟩)
  · exact .inr h
theorem bits_div {x n : Int} (h0 : 0 ≤ x) (hn : 0 < n) : Builtin.Int.intBits (x / n) ≤ Builtin.Int.intBits x := by
  have h1 : 0 ≤ x / n := Int.ediv_nonneg h0 (Int.le_of_lt hn)
  have h2 : x / n ≤ x := Int.ediv_le_self n h0
  unfold Builtin.Int.intBits
  by_cases e : x / n = 0
  · rw [e]
    exact Nat.zero_le _
  · have e2 : x ≠ 0 := fun z => by rw [z, Int.zero_ediv] at e; exact e rfl
    rw [if_neg (by simpa using e), if_neg (by simpa using e2)]
    have e3 : (x / n).natAbs.log2 ≤ x.natAbs.log2 := (Nat.le_log2 (by omega)).mpr (Nat.le_trans (Nat.log2_self_le (by omega)) (by omega))
    omega
theorem small_bits {x : Int} {k : Nat} (h : x.natAbs < 2 ^ k) : Builtin.Int.intBits x ≤ k := by
  unfold Builtin.Int.intBits
  split
  · exact Nat.zero_le k
  · rename_i e
    have e : x ≠ 0 := by simpa using e
    have := (Nat.log2_lt (n := x.natAbs) (by omega)).mpr h
    omega
def sp_mix (K : PySem.W.Frag) : Sp := fun vs H Q _ => ∃ (s : Addr) (ns : List Int) (z : Int), vs = [.ref s, .int z] ∧ SqL K H s (ns.map V.int) ∧ ns.length ≤ 63 ∧ (∀ z ∈ ns, Builtin.Int.intBits z ≤ 1048576) ∧ 0 ≤ z ∧ z < 2147483647 ∧
  ∀ H' a l, Same H H' → RS H' a l → Q (.ref a) H'
theorem ok_mix {f : Addr} {fd : FuncData} (F : Fun K "_law_mix" "_law_mix" s__law_mix f fd) (B : Blt mg) : FnOk P w K mg base CX0 1 f fd ["_law_script", "_law_seed"] (sp_mix K) := by
  refine F.ok sc__law_mix (fun vs H Q E h => by obtain ⟨s, ns, z, rfl, _⟩ := h; rfl) (fun cdv A outer s H vs Q E hr h => ?_)
  obtain ⟨s, ns, z, rfl, hS, hl, hb, z0, z1, q⟩ := h
  refine ⟨_, (pss_cons (ps_set (i := 2) sc__law_mix.nd rfl (Or.inl rfl) (pv 1))
      (pss_cons (ps_for PassesOwn.never rfl (pi_list (pv 0)) (pg_name (i := 3) sc__law_mix.nd rfl (Or.inl rfl)) (pss_one (ps_set (i := 2) sc__law_mix.nd rfl (Or.inl rfl) (pe_op op_mod (pe_callTy call_int1 (by rfl) B.b_int PyProof.Rows.boot_int (pa_cons (pe_op op_add (pe_op op_add (pe_op op_mul (pv 2) pe_int) (pe_op op_mod (pe_callTy call_int1 (by rfl) B.b_int PyProof.Rows.boot_int (pa_cons (pv 3) pa_nil)) pe_int)) pe_int) pa_nil)) pe_int))))
      (pss_one (ps_ret (pe_lst (pa_cons (pv 2) (pa_cons (pe_callTy call_list_of (by rfl) B.b_list PyProof.Rows.boot_list (pa_cons (pv 0) pa_nil)) (pa_cons pe_int pa_nil)))))))), ?_⟩
  refine ⟨_, rfl, .ref s, rfl, s, rfl, ⟨_, hS⟩, for_it walk_list (fun i σ H' => ∃ (st : Int) (y : Option V), σ = [some (.ref s), some (.int z), some (.int st), y] ∧ H' = H ∧ 0 ≤ st ∧ st < 2147483647)
    ⟨z, none, rfl, rfl, z0, z1⟩ (fun i σ H' _ ⟨_, _, _, e, _⟩ => by rw [e]; exact hS) ?_ ?_⟩
  · rintro i x σ H2 H3 hi ⟨st, y, rfl, rfl, h0, h1⟩ ⟨rfl, hx⟩
    obtain ⟨c, hc, rfl⟩ : ∃ c, ns[i]? = some c ∧ x = V.int c := by
      rw [List.getElem?_map] at hx
      cases e : ns[i]? with
      | none => rw [e] at hx; cases hx
      | some c => rw [e] at hx; exact ⟨c, rfl, (Option.some.inj hx).symm⟩
    refine ⟨_, rfl, st, 48271, rfl, rfl, .inl ⟨by omega, by omega⟩, _, rfl, .inl ⟨c, rfl, c, 2147483629, rfl, rfl, (show (0 : Int) < 2147483629 by decide), _, _, rfl, rfl, _, _, rfl, rfl, .inl ⟨_, rfl, _, 2147483647, rfl, rfl, (show (0 : Int) < 2147483647 by decide), ?_⟩⟩⟩
    exact ⟨_, _, rfl, rfl, Int.emod_nonneg _ (by decide), Int.emod_lt_of_pos _ (by decide)⟩
  · rintro σ H2 ⟨st, y, rfl, rfl, h0, h1⟩
    refine ⟨_, rfl, .ref s, rfl, s, _, rfl, .inl hS, fun l nl => ⟨(by show 3 ≤ sizeLine; decide), fun a na => q _ a l ?_ ⟨st, 0, ns, upd_same, ?_, h0, h1, hl, hb⟩⟩⟩
    · exact ((Same.refl _).put nl).put' na
    · rw [upd_ne (ne_of_none upd_same na), upd_same]
def sp_next : Sp := fun vs H Q _ => ∃ (a l : Addr) (n : Int), vs = [.ref a, .int n] ∧ RS H a l ∧ 0 < n ∧ n.natAbs.log2 < 9000 ∧ ∀ H' r, Kp a l H H' → 0 ≤ r → r < n → Q (.int r) H'
theorem ok_next {f : Addr} {fd : FuncData} (F : Fun K "_law_next" "_law_next" s__law_next f fd) (B : Blt mg) : FnOk P w K mg base CX0 1 f fd ["_law_h", "_law_limit"] sp_next := by
  refine F.ok sc__law_next (fun vs H Q E h => by obtain ⟨a, l, n, rfl, _⟩ := h; rfl) (fun cdv A outer s H vs Q E hr h => ?_)
  obtain ⟨a, l, n, rfl, hR, n0, n9, q⟩ := h
  refine ⟨_, (pss_cons (ps_set (i := 2) sc__law_next.nd rfl (Or.inl rfl) (pe_ix ix_list (pe_op op_cat (pe_ix ix_list (pv 0) pe_int (fun _ _ => rfl)) (pe_lst (pa_cons pe_int pa_nil))) (pe_op op_mod (pe_callTy call_int1 (by rfl) B.b_int PyProof.Rows.boot_int (pa_cons (pe_ix ix_list (pv 0) pe_int (fun _ _ => rfl)) pa_nil)) (pe_callB (call_max2 rfl) (by rfl) B.b_max PyProof.Rows.boot_max (pa_cons pe_int (pa_cons (pe_callB call_len_seq (by rfl) B.b_len PySem.boot_len (pa_cons (pe_ix ix_list (pv 0) pe_int (fun _ _ => rfl)) pa_nil)) pa_nil)))) (fun _ _ => rfl)))
      (pss_cons (ps_if (pt_cmpR op_ge (pv 2) (pe_op op_pow pe_int pe_int) (nomark _)) (pss_cons (ps_asg (pe_op op_fdivW (pv 2) (pv 1)) (pg_sub (pe_ix ix_list (pv 0) pe_int (fun _ _ => rfl)) (pe_op op_mod (pe_callTy call_int1 (by rfl) B.b_int PyProof.Rows.boot_int (pa_cons (pe_ix ix_list (pv 0) pe_int (fun _ _ => rfl)) pa_nil)) (pe_callB call_len_seq (by rfl) B.b_len PySem.boot_len (pa_cons (pe_ix ix_list (pv 0) pe_int (fun _ _ => rfl)) pa_nil))) set_list))
      (pss_one (ps_ret (pe_op op_mod (pe_callTy call_int1 (by rfl) B.b_int PyProof.Rows.boot_int (pa_cons (pv 2) pa_nil)) (pv 1))))) pss_nil)
      (pss_cons (ps_asg (pe_op op_mod (pe_callTy call_int1 (by rfl) B.b_int PyProof.Rows.boot_int (pa_cons (pe_op op_add (pe_op op_add (pe_op op_mul (pe_ix ix_list (pv 0) pe_int (fun _ _ => rfl)) pe_int) (pe_op op_mulX (pv 2) pe_int)) pe_int) pa_nil)) pe_int) (pg_sub (pv 0) pe_int set_list))
      (pss_cons (ps_asg (pe_op op_add (pe_ix ix_list (pv 0) pe_int (fun _ _ => rfl)) pe_int) (pg_sub (pv 0) pe_int set_list))
      (pss_one (ps_ret (pe_op op_mod (pe_callTy call_int1 (by rfl) B.b_int PyProof.Rows.boot_int (pa_cons (pe_op op_fdiv (pe_ix ix_list (pv 0) pe_int (fun _ _ => rfl)) pe_int) pa_nil)) (pv 1)))))))), ?_⟩
  obtain ⟨st, k, ns, ha, hl, s0, s1, hlen, hb⟩ := id hR
  have nal := hR.ne
  have hm0 : 0 < (if ((ns.map V.int).length : Int) > 1 then ((ns.map V.int).length : Int) else 1) := by
    split <;> omega
  have hmx : (if ((ns.map V.int).length : Int) > 1 then ((ns.map V.int).length : Int) else 1) ≤ ns.length + 1 := by
    rw [List.length_map]
    split <;> omega
  have hcell : ∃ (j : Nat) (c : Int), k % (if ((ns.map V.int).length : Int) > 1 then ((ns.map V.int).length : Int) else 1) = j ∧ (ns.map V.int ++ [V.int 0])[j]? = some (.int c) ∧ (10 ^ 18 ≤ c → j < ns.length ∧ ns[j]? = some c ∧ k % (ns.length : Int) = j) ∧ Builtin.Int.intBits c ≤ 1048576 := by
    have r0 := Int.emod_nonneg k (Int.ne_of_gt hm0)
    have r1 := Int.emod_lt_of_pos k hm0
    obtain ⟨j, ej⟩ := Int.eq_ofNat_of_zero_le r0
    have ej : k % (if ((ns.map V.int).length : Int) > 1 then ((ns.map V.int).length : Int) else 1) = (j : Int) := ej
    by_cases hj : j < ns.length
    · refine ⟨j, ns[j], ej, ?_, fun _ => ⟨hj, List.getElem?_eq_getElem hj, ?_⟩, hb _ (List.getElem_mem hj)⟩
      · rw [List.getElem?_append_left (by rw [List.length_map]; exact hj), List.getElem?_map, List.getElem?_eq_getElem hj]
        rfl
      · rw [← ej, List.length_map]
        by_cases h1 : (ns.length : Int) > 1
        · rw [if_pos h1]
        · rw [if_neg h1]
          have e1 : (ns.length : Int) = 1 := by omega
          rw [e1]
    · have ejn : j = ns.length := by omega
      refine ⟨j, 0, ej, ?_, fun z => absurd z (by decide), by decide⟩
      rw [List.getElem?_append_right (by rw [List.length_map]; omega), List.length_map, ejn, Nat.sub_self]
      rfl
  obtain ⟨j, c, ej, gc, big, hc⟩ := hcell
  refine ⟨.ref a, rfl, a, _, 1, .ref l, rfl, rfl, sqL_of ha, atI_nat (j := 1) rfl, (by show 1 ≤ sizeLine; decide), fun p np => ?_⟩
  have npa := ne_of_none ha np
  have npl := ne_of_none hl np
  refine ⟨l, p, ns.map V.int, [.int 0], rfl, rfl, by rw [upd_ne npl]; exact hl, upd_same, by rw [List.length_map, sizeLine_eq]; show ns.length + 1 ≤ _; omega, fun p2 np2 => ?_⟩
  have np2' : H p2 = none := by
    cases e : H p2 with
    | none => rfl
    | some o => rw [upd_ne (ne_of_none e np)] at np2; rw [e] at np2; cases np2
  have s2 : Same H (upd (upd H p (.lst [.int 0])) p2 (.lst (ns.map V.int ++ [.int 0]))) := ((Same.refl H).put np).put np2'
  generalize hH2 : upd (upd H p (.lst [.int 0])) p2 (.lst (ns.map V.int ++ [.int 0])) = H2 at s2
  have hp2 : H2 p2 = some (.lst (ns.map V.int ++ [.int 0])) := by rw [← hH2, upd_same]
  have ha2 := s2 _ _ ha
  have hl2 := s2 _ _ hl
  refine ⟨.ref a, rfl, a, _, 2, .int k, rfl, rfl, sqL_of ha2, atI_nat (j := 2) rfl, .inl ⟨k, rfl, ?_⟩⟩
  refine ⟨.ref a, rfl, a, _, 1, .ref l, rfl, rfl, sqL_of ha2, atI_nat (j := 1) rfl, l, _, rfl, .inl (sqL_of hl2), 1, _, rfl, ?_⟩
  refine ⟨k, _, rfl, rfl, hm0, p2, _, _, .int c, rfl, rfl, sqL_of hp2, at_of ej gc, ?_⟩
  refine ⟨.int c, rfl, 10, 18, rfl, rfl, ⟨by decide, by decide, by decide⟩, c, 10 ^ 18, rfl, rfl, _, rfl, bcase (fun c1 => ?_) (fun c1 => ?_)⟩
  · have c1 : (10 : Int) ^ 18 ≤ c := of_decide_eq_true c1
    obtain ⟨hj, gj, ej2⟩ := big c1
    have hlp : 0 < (ns.length : Int) := by omega
    refine ⟨_, rfl, .int n, rfl, c, n, rfl, rfl, ⟨n0, n9⟩, .ref a, rfl, a, _, 1, .ref l, rfl, rfl, sqL_of ha2, atI_nat (j := 1) rfl, .ref a, rfl, a, _, 2, .int k, rfl, rfl, sqL_of ha2, atI_nat (j := 2) rfl, .inl ⟨k, rfl, ?_⟩⟩
    refine ⟨.ref a, rfl, a, _, 1, .ref l, rfl, rfl, sqL_of ha2, atI_nat (j := 1) rfl, l, _, rfl, .inl (sqL_of hl2), k, _, rfl, rfl, by rw [List.length_map]; exact hlp, l, _, _, j, rfl, rfl, hl2, ?_, ?_⟩
    · rw [List.length_map, ej2]
      unfold ixN
      rw [if_pos (by omega), if_pos (by omega)]
      rfl
    · refine ⟨.int c, rfl, .inl ⟨c, rfl, .int n, rfl, c, n, rfl, rfl, n0, q _ _ ⟨hR, ?_, fun b o n1 n2 e => ?_⟩ (Int.emod_nonneg _ (Int.ne_of_gt n0)) (Int.emod_lt_of_pos _ n0)⟩⟩
      · refine ⟨st, k, ns.set j (c / n), by rw [upd_ne nal]; exact ha2, by rw [upd_same, List.map_set], s0, s1, by rw [List.length_set]; exact hlen, fun z hz => ?_⟩
        rcases List.mem_or_eq_of_mem_set hz with h | h
        · exact hb z h
        · rw [h]
          exact Nat.le_trans (bits_div (by omega) n0) hc
      · rw [upd_ne n2]
        exact s2 b o e
  · refine ⟨.ref a, rfl, a, _, 0, .int st, rfl, rfl, sqL_of ha2, atI_nat (j := 0) rfl, st, 48271, rfl, rfl, .inl ⟨by omega, by omega⟩, .int c, rfl, c, 69621, rfl, rfl, ?_, _, _, rfl, rfl, _, 11, rfl, rfl, .inl ⟨_, rfl, _, 2147483647, rfl, rfl, (show (0 : Int) < 2147483647 by decide), .ref a, rfl, ?_⟩⟩
    · show (Builtin.Int.intBits c : Int) + (Builtin.Int.intBits 69621 : Int) ≤ 134217728
      have e1 : Builtin.Int.intBits 69621 ≤ 20 := small_bits (by decide)
      omega
    have z0 : 0 ≤ (st * 48271 + c * 69621 + 11) % 2147483647 := Int.emod_nonneg _ (by decide)
    have z1 : (st * 48271 + c * 69621 + 11) % 2147483647 < 2147483647 := Int.emod_lt_of_pos _ (by decide)
    refine ⟨a, _, 0, 0, rfl, rfl, ha2, rfl, ?_⟩
    refine ⟨.ref a, rfl, a, _, 2, .int k, rfl, rfl, sqL_of upd_same, atI_nat (j := 2) rfl, k, 1, rfl, rfl, .ref a, rfl, a, _, 2, 2, rfl, rfl, upd_same, rfl, ?_⟩
    refine ⟨.ref a, rfl, a, _, 0, .int ((st * 48271 + c * 69621 + 11) % 2147483647), rfl, rfl, sqL_of upd_same, atI_nat (j := 0) rfl, _, 7, rfl, rfl, ⟨by decide, by decide⟩, .inl ⟨_, rfl, .int n, rfl, _, n, rfl, rfl, n0, q _ _ ⟨hR, ?_, fun b o n1 n2 e => ?_⟩ (Int.emod_nonneg _ (Int.ne_of_gt n0)) (Int.emod_lt_of_pos _ n0)⟩⟩
    · exact ⟨_, k + 1, ns, upd_same, by rw [upd_ne nal.symm, upd_ne nal.symm]; exact hl2, z0, z1, hlen, hb⟩
    · rw [upd_ne n1, upd_ne n1]
      exact s2 b o e
theorem map_eraseIdx {α β : Type} {f : α → β} : ∀ (xs : List α) (j : Nat), (xs.map f).eraseIdx j = (xs.eraseIdx j).map f
  | [], _ => rfl
  | _ :: _, 0 => rfl
  | x :: r, j + 1 => by
    show f x :: (r.map f).eraseIdx j = f x :: (r.eraseIdx j).map f
    rw [map_eraseIdx r j]
/-- what stands at a value, read as data, at most n lists or tuples deep -/
inductive AD (H : Hp) : Nat → V → PyData → Prop where
  | non (n : Nat) : AD H n .non .none
  | bl (n : Nat) (b : Bool) : AD H n (.bl b) (.bool b)
  | int (n : Nat) (i : Int) : AD H n (.int i) (.int i)
  | str (n : Nat) (x : Str) : AD H n (.str x) (.str x)
  | lst {n : Nat} {a : Addr} {xs : List V} {ds : List PyData} (e : H a = some (.lst xs)) (l : xs.length = ds.length) (z : xs.length ≤ 1000000) (all : ∀ (i : Nat) (x : V) (d : PyData), xs[i]? = some x → ds[i]? = some d → AD H n x d) : AD H (n + 1) (.ref a) (.list ds)
  | tup {n : Nat} {a : Addr} {xs : List V} {ds : List PyData} (e : H a = some (.tup xs)) (l : xs.length = ds.length) (z : xs.length ≤ 1000000) (all : ∀ (i : Nat) (x : V) (d : PyData), xs[i]? = some x → ds[i]? = some d → AD H n x d) : AD H (n + 1) (.ref a) (.tuple ds)
theorem AD.same {n : Nat} {x : V} {d : PyData} (s : Same H H') (h : AD H n x d) : AD H' n x d := by
  induction h with
  | non n => exact .non n
  | bl n b => exact .bl n b
  | int n i => exact .int n i
  | str n x => exact .str n x
  | lst e l z all ih => exact .lst (s _ _ e) l z ih
  | tup e l z all ih => exact .tup (s _ _ e) l z ih
def sp_alike (n : Nat) : Sp := fun vs H Q _ => ∃ (x y : V) (d : PyData), vs = [x, y] ∧ AD H n x d ∧ AD H n y d ∧ ∀ H', Same H H' → Q (.bl true) H'
/-- the answer where no list or tuple stands -/
theorem ok_alike0 {f : Addr} {fd : FuncData} (F : Fun K "_law_alike" "_law_alike" s__law_alike f fd) (B : Blt mg) : FnOk P w K mg base CX0 1 f fd ["_law_found", "_law_due"] (sp_alike 0) := by
  refine F.ok sc__law_alike (fun vs H Q E h => by obtain ⟨x, y, d, rfl, _⟩ := h; rfl) (fun cdv A outer s H vs Q E hr h => ?_)
  obtain ⟨x, y, d, rfl, hx, hy, q⟩ := h
  refine ⟨_, (pss_cons (ps_if (pt_val (pe_callB (call_isT "dict") (by rfl) B.b_isinstance PyProof.Rows.boot_isinstance (pa_cons (pv 1) (pa_cons (pe_bltn (v := .ty "dict") (by rfl) B.b_dict (by decide +kernel) rfl) pa_nil)))) pss_never pss_nil)
      (pss_cons (ps_if (pt_val (pe_callB call_isiT (by rfl) B.b_isinstance PyProof.Rows.boot_isinstance (pa_cons (pv 1) (pa_cons (pe_tup (pa_cons (pe_bltn (v := .ty "tuple") (by rfl) B.b_tuple PyProof.Rows.boot_tuple rfl) (pa_cons (pe_bltn (v := .ty "list") (by rfl) B.b_list PyProof.Rows.boot_list rfl) pa_nil))) pa_nil)))) pss_never pss_nil)
      (pss_cons (ps_if (PW.pt (pw_or (pt_cmpR op_isN (pv 1) pe_non (nomark _)) (pw_or1 (pt_val (pe_callB (call_isT "str") (by rfl) B.b_isinstance PyProof.Rows.boot_isinstance (pa_cons (pv 1) (pa_cons (pe_bltn (v := .ty "str") (by rfl) B.b_str PyProof.Rows.boot_str rfl) pa_nil))))))) (pss_one (ps_ret (pe_and (pe_cmpR op_eq (pv 0) (pv 1) (nomark _)) (pe_one (pe_cmpR op_eq (pe_callB (call_isT "str") (by rfl) B.b_isinstance PyProof.Rows.boot_isinstance (pa_cons (pv 0) (pa_cons (pe_bltn (v := .ty "str") (by rfl) B.b_str PyProof.Rows.boot_str rfl) pa_nil))) (pe_callB (call_isT "str") (by rfl) B.b_isinstance PyProof.Rows.boot_isinstance (pa_cons (pv 1) (pa_cons (pe_bltn (v := .ty "str") (by rfl) B.b_str PyProof.Rows.boot_str rfl) pa_nil))) (nomark _)))))) pss_nil)
      (pss_one (ps_ret (pe_and (pe_callB (call_isT "int") (by rfl) B.b_isinstance PyProof.Rows.boot_isinstance (pa_cons (pv 0) (pa_cons (pe_bltn (v := .ty "int") (by rfl) B.b_int PyProof.Rows.boot_int rfl) pa_nil))) (pe_and (pe_cmpR op_eq (pe_callB (call_isT "bool") (by rfl) B.b_isinstance PyProof.Rows.boot_isinstance (pa_cons (pv 0) (pa_cons (pe_bltn (v := .ty "bool") (by rfl) B.b_bool PyProof.Rows.boot_bool rfl) pa_nil))) (pe_callB (call_isT "bool") (by rfl) B.b_isinstance PyProof.Rows.boot_isinstance (pa_cons (pv 1) (pa_cons (pe_bltn (v := .ty "bool") (by rfl) B.b_bool PyProof.Rows.boot_bool rfl) pa_nil))) (nomark _)) (pe_one (pe_cmpR op_eq (pv 0) (pv 1) (nomark _)))))))))), ?_⟩
  cases hx with
  | non _ =>
    cases hy
    refine ⟨_, rfl, _, "NoneType", false, rfl, .non, by decide +kernel, false, rfl, iteF ?_⟩
    refine ⟨_, rfl, (by show 2 ≤ sizeLine; decide), fun tp ntp => ⟨_, tp, _, .type "NoneType", [.type "tuple", .type "list"], false, rfl, upd_same, .cons (.ty _) (.cons (.ty _) .nil), .base (.non), kitAny_cons (b := false) (kit_ty (by decide +kernel)) (fun _ => kitAny_cons (b := false) (kit_ty (by decide +kernel)) (fun _ => kitAny_nil) (fun z => nomatch z)) (fun z => nomatch z), false, rfl, iteF ?_⟩⟩
    have s1 : Same H (upd H tp (.tup [.ty "tuple", .ty "list"])) := (Same.refl H).put ntp
    refine ⟨_, rfl, rfl, true, rfl, iteT (iteT ?_)⟩
    refine ⟨_, rfl, _, rfl, rfl, decide (V.non = V.non), rfl, ?_⟩
    rw [decide_eq_true rfl]
    refine iteT ?_
    refine ⟨_, rfl, _, "NoneType", false, rfl, .non, by decide +kernel, _, rfl, _, "NoneType", false, rfl, .non, by decide +kernel, rfl, ?_⟩
    exact q _ s1
  | bl _ b =>
    cases hy
    refine ⟨_, rfl, _, "bool", false, rfl, .bl b, by decide +kernel, false, rfl, iteF ?_⟩
    refine ⟨_, rfl, (by show 2 ≤ sizeLine; decide), fun tp ntp => ⟨_, tp, _, .type "bool", [.type "tuple", .type "list"], false, rfl, upd_same, .cons (.ty _) (.cons (.ty _) .nil), .base (.bl b), kitAny_cons (b := false) (kit_ty (by decide +kernel)) (fun _ => kitAny_cons (b := false) (kit_ty (by decide +kernel)) (fun _ => kitAny_nil) (fun z => nomatch z)) (fun z => nomatch z), false, rfl, iteF ?_⟩⟩
    have s1 : Same H (upd H tp (.tup [.ty "tuple", .ty "list"])) := (Same.refl H).put ntp
    refine ⟨_, rfl, rfl, false, rfl, iteF ⟨_, rfl, _, "bool", false, rfl, .bl b, by decide +kernel, false, rfl, iteF ?_⟩⟩
    refine ⟨_, rfl, _, "bool", true, rfl, .bl b, by decide +kernel, true, rfl, iteT ?_⟩
    refine ⟨_, rfl, _, "bool", true, rfl, .bl b, by decide +kernel, _, rfl, _, "bool", true, rfl, .bl b, by decide +kernel, rfl, true, rfl, iteT ?_⟩
    refine ⟨_, rfl, _, rfl, rfl, ?_⟩
    rw [decide_eq_true rfl]
    exact q _ s1
  | int _ i =>
    cases hy
    refine ⟨_, rfl, _, "int", false, rfl, .int i, by decide +kernel, false, rfl, iteF ?_⟩
    refine ⟨_, rfl, (by show 2 ≤ sizeLine; decide), fun tp ntp => ⟨_, tp, _, .type "int", [.type "tuple", .type "list"], false, rfl, upd_same, .cons (.ty _) (.cons (.ty _) .nil), .base (.int i), kitAny_cons (b := false) (kit_ty (by decide +kernel)) (fun _ => kitAny_cons (b := false) (kit_ty (by decide +kernel)) (fun _ => kitAny_nil) (fun z => nomatch z)) (fun z => nomatch z), false, rfl, iteF ?_⟩⟩
    have s1 : Same H (upd H tp (.tup [.ty "tuple", .ty "list"])) := (Same.refl H).put ntp
    refine ⟨_, rfl, rfl, false, rfl, iteF ⟨_, rfl, _, "int", false, rfl, .int i, by decide +kernel, false, rfl, iteF ?_⟩⟩
    refine ⟨_, rfl, _, "int", true, rfl, .int i, by decide +kernel, true, rfl, iteT ?_⟩
    refine ⟨_, rfl, _, "int", false, rfl, .int i, by decide +kernel, _, rfl, _, "int", false, rfl, .int i, by decide +kernel, rfl, true, rfl, iteT ?_⟩
    refine ⟨_, rfl, _, rfl, rfl, ?_⟩
    rw [decide_eq_true rfl]
    exact q _ s1
  | str _ x =>
    cases hy
    refine ⟨_, rfl, _, "str", false, rfl, .str x, by decide +kernel, false, rfl, iteF ?_⟩
    refine ⟨_, rfl, (by show 2 ≤ sizeLine; decide), fun tp ntp => ⟨_, tp, _, .type "str", [.type "tuple", .type "list"], false, rfl, upd_same, .cons (.ty _) (.cons (.ty _) .nil), .base (.str x), kitAny_cons (b := false) (kit_ty (by decide +kernel)) (fun _ => kitAny_cons (b := false) (kit_ty (by decide +kernel)) (fun _ => kitAny_nil) (fun z => nomatch z)) (fun z => nomatch z), false, rfl, iteF ?_⟩⟩
    have s1 : Same H (upd H tp (.tup [.ty "tuple", .ty "list"])) := (Same.refl H).put ntp
    refine ⟨_, rfl, rfl, false, rfl, iteF ⟨_, rfl, _, "str", true, rfl, .str x, by decide +kernel, true, rfl, iteT ?_⟩⟩
    refine ⟨_, rfl, _, rfl, rfl, decide (V.str x = V.str x), rfl, ?_⟩
    rw [decide_eq_true rfl]
    refine iteT ?_
    refine ⟨_, rfl, _, "str", true, rfl, .str x, by decide +kernel, _, rfl, _, "str", true, rfl, .str x, by decide +kernel, rfl, ?_⟩
    exact q _ s1
theorem ok_alike {n : Nat} {f : Addr} {fd : FuncData} (F : Fun K "_law_alike" "_law_alike" s__law_alike f fd) (B : Blt mg) (c__law_alike : Cal P w K mg base CX0 (n + 1) "_law_alike" ["_law_found", "_law_due"] (sp_alike n)) : FnOk P w K mg base CX0 (n + 2) f fd ["_law_found", "_law_due"] (sp_alike (n + 1)) := by
  refine F.ok sc__law_alike (fun vs H Q E h => by obtain ⟨x, y, d, rfl, _⟩ := h; rfl) (fun cdv A outer s H vs Q E hr h => ?_)
  obtain ⟨x, y, d, rfl, hx, hy, q⟩ := h
  refine ⟨_, (pss_cons (ps_if (pt_val (pe_callB (call_isT "dict") (by rfl) B.b_isinstance PyProof.Rows.boot_isinstance (pa_cons (pv 1) (pa_cons (pe_bltn (v := .ty "dict") (by rfl) B.b_dict (by decide +kernel) rfl) pa_nil)))) pss_never pss_nil)
      (pss_cons (ps_if (pt_val (pe_callB call_isiT (by rfl) B.b_isinstance PyProof.Rows.boot_isinstance (pa_cons (pv 1) (pa_cons (pe_tup (pa_cons (pe_bltn (v := .ty "tuple") (by rfl) B.b_tuple PyProof.Rows.boot_tuple rfl) (pa_cons (pe_bltn (v := .ty "list") (by rfl) B.b_list PyProof.Rows.boot_list rfl) pa_nil))) pa_nil)))) (pss_cons (ps_if (PW.pt (pw_or (pt_not (pt_val (pe_callB call_isiT (by rfl) B.b_isinstance PyProof.Rows.boot_isinstance (pa_cons (pv 0) (pa_cons (pe_tup (pa_cons (pe_bltn (v := .ty "tuple") (by rfl) B.b_tuple PyProof.Rows.boot_tuple rfl) (pa_cons (pe_bltn (v := .ty "list") (by rfl) B.b_list PyProof.Rows.boot_list rfl) pa_nil))) pa_nil))))) (pw_or1 (pt_cmpR op_ne (pe_callB (call_isT "list") (by rfl) B.b_isinstance PyProof.Rows.boot_isinstance (pa_cons (pv 0) (pa_cons (pe_bltn (v := .ty "list") (by rfl) B.b_list PyProof.Rows.boot_list rfl) pa_nil))) (pe_callB (call_isT "list") (by rfl) B.b_isinstance PyProof.Rows.boot_isinstance (pa_cons (pv 1) (pa_cons (pe_bltn (v := .ty "list") (by rfl) B.b_list PyProof.Rows.boot_list rfl) pa_nil))) (nomark _))))) (pss_one (ps_ret pe_bl)) pss_nil)
      (pss_cons (ps_if (pt_cmpR op_ne (pe_callB call_len_seq (by rfl) B.b_len PySem.boot_len (pa_cons (pv 0) pa_nil)) (pe_callB call_len_seq (by rfl) B.b_len PySem.boot_len (pa_cons (pv 1) pa_nil)) (nomark _)) (pss_one (ps_ret pe_bl)) pss_nil)
      (pss_one (ps_ret (pe_cmpR (op_eqD hr.units) (pe_lc (own := [("_law_k", 2)]) (g := gName 2) rfl sc__law_alike.nd (pi_range1 (by rfl) B.b_range (pa_cons (pe_callB call_len_seq (by rfl) B.b_len PySem.boot_len (pa_cons (pv 1) pa_nil)) pa_nil)) (blkOk_by (own := [("_law_k", 2)]) (N := ["_law_found", "_law_due", "_law_k"]) (sc := defScope s__law_alike) (by decide +kernel)) (fun _ _ _ _ _ => (pg_name (i := 2) sc__law_alike.nd rfl (Or.inl rfl))) (fun _ _ _ _ _ => (pts_.re (pts_one (pt_not (pt_val (pe_cal c__law_alike hr (pa_cons (pe_ix ix_seq (pv 0) (pv 2) (fun _ _ => rfl)) (pa_cons (pe_ix ix_seq (pv 1) (pv 2) (fun _ _ => rfl)) pa_nil)))))) (by first | (dsimp only [Cx.blk]; done) | exact rfl))) (fun _ _ _ _ _ => (pe_.re (pv 2) (by first | (dsimp only [Cx.blk]; done) | exact rfl)))) (pe_lst pa_nil) (nomark _)))))) pss_nil)
      (pss_cons (ps_if (PW.pt (pw_or (pt_cmpR op_isN (pv 1) pe_non (nomark _)) (pw_or1 (pt_val (pe_callB (call_isT "str") (by rfl) B.b_isinstance PyProof.Rows.boot_isinstance (pa_cons (pv 1) (pa_cons (pe_bltn (v := .ty "str") (by rfl) B.b_str PyProof.Rows.boot_str rfl) pa_nil))))))) (pss_one (ps_ret (pe_and (pe_cmpR op_eq (pv 0) (pv 1) (nomark _)) (pe_one (pe_cmpR op_eq (pe_callB (call_isT "str") (by rfl) B.b_isinstance PyProof.Rows.boot_isinstance (pa_cons (pv 0) (pa_cons (pe_bltn (v := .ty "str") (by rfl) B.b_str PyProof.Rows.boot_str rfl) pa_nil))) (pe_callB (call_isT "str") (by rfl) B.b_isinstance PyProof.Rows.boot_isinstance (pa_cons (pv 1) (pa_cons (pe_bltn (v := .ty "str") (by rfl) B.b_str PyProof.Rows.boot_str rfl) pa_nil))) (nomark _)))))) pss_nil)
      (pss_one (ps_ret (pe_and (pe_callB (call_isT "int") (by rfl) B.b_isinstance PyProof.Rows.boot_isinstance (pa_cons (pv 0) (pa_cons (pe_bltn (v := .ty "int") (by rfl) B.b_int PyProof.Rows.boot_int rfl) pa_nil))) (pe_and (pe_cmpR op_eq (pe_callB (call_isT "bool") (by rfl) B.b_isinstance PyProof.Rows.boot_isinstance (pa_cons (pv 0) (pa_cons (pe_bltn (v := .ty "bool") (by rfl) B.b_bool PyProof.Rows.boot_bool rfl) pa_nil))) (pe_callB (call_isT "bool") (by rfl) B.b_isinstance PyProof.Rows.boot_isinstance (pa_cons (pv 1) (pa_cons (pe_bltn (v := .ty "bool") (by rfl) B.b_bool PyProof.Rows.boot_bool rfl) pa_nil))) (nomark _)) (pe_one (pe_cmpR op_eq (pv 0) (pv 1) (nomark _)))))))))), ?_⟩
  cases hx with
  | non _ =>
    cases hy
    refine ⟨_, rfl, _, "NoneType", false, rfl, .non, by decide +kernel, false, rfl, iteF ?_⟩
    refine ⟨_, rfl, (by show 2 ≤ sizeLine; decide), fun tp ntp => ⟨_, tp, _, .type "NoneType", [.type "tuple", .type "list"], false, rfl, upd_same, .cons (.ty _) (.cons (.ty _) .nil), .base (.non), kitAny_cons (b := false) (kit_ty (by decide +kernel)) (fun _ => kitAny_cons (b := false) (kit_ty (by decide +kernel)) (fun _ => kitAny_nil) (fun z => nomatch z)) (fun z => nomatch z), false, rfl, iteF ?_⟩⟩
    have s1 : Same H (upd H tp (.tup [.ty "tuple", .ty "list"])) := (Same.refl H).put ntp
    refine ⟨_, rfl, rfl, true, rfl, iteT (iteT ?_)⟩
    refine ⟨_, rfl, _, rfl, rfl, decide (V.non = V.non), rfl, ?_⟩
    rw [decide_eq_true rfl]
    refine iteT ?_
    refine ⟨_, rfl, _, "NoneType", false, rfl, .non, by decide +kernel, _, rfl, _, "NoneType", false, rfl, .non, by decide +kernel, rfl, ?_⟩
    exact q _ s1
  | bl _ b =>
    cases hy
    refine ⟨_, rfl, _, "bool", false, rfl, .bl b, by decide +kernel, false, rfl, iteF ?_⟩
    refine ⟨_, rfl, (by show 2 ≤ sizeLine; decide), fun tp ntp => ⟨_, tp, _, .type "bool", [.type "tuple", .type "list"], false, rfl, upd_same, .cons (.ty _) (.cons (.ty _) .nil), .base (.bl b), kitAny_cons (b := false) (kit_ty (by decide +kernel)) (fun _ => kitAny_cons (b := false) (kit_ty (by decide +kernel)) (fun _ => kitAny_nil) (fun z => nomatch z)) (fun z => nomatch z), false, rfl, iteF ?_⟩⟩
    have s1 : Same H (upd H tp (.tup [.ty "tuple", .ty "list"])) := (Same.refl H).put ntp
    refine ⟨_, rfl, rfl, false, rfl, iteF ⟨_, rfl, _, "bool", false, rfl, .bl b, by decide +kernel, false, rfl, iteF ?_⟩⟩
    refine ⟨_, rfl, _, "bool", true, rfl, .bl b, by decide +kernel, true, rfl, iteT ?_⟩
    refine ⟨_, rfl, _, "bool", true, rfl, .bl b, by decide +kernel, _, rfl, _, "bool", true, rfl, .bl b, by decide +kernel, rfl, true, rfl, iteT ?_⟩
    refine ⟨_, rfl, _, rfl, rfl, ?_⟩
    rw [decide_eq_true rfl]
    exact q _ s1
  | int _ i =>
    cases hy
    refine ⟨_, rfl, _, "int", false, rfl, .int i, by decide +kernel, false, rfl, iteF ?_⟩
    refine ⟨_, rfl, (by show 2 ≤ sizeLine; decide), fun tp ntp => ⟨_, tp, _, .type "int", [.type "tuple", .type "list"], false, rfl, upd_same, .cons (.ty _) (.cons (.ty _) .nil), .base (.int i), kitAny_cons (b := false) (kit_ty (by decide +kernel)) (fun _ => kitAny_cons (b := false) (kit_ty (by decide +kernel)) (fun _ => kitAny_nil) (fun z => nomatch z)) (fun z => nomatch z), false, rfl, iteF ?_⟩⟩
    have s1 : Same H (upd H tp (.tup [.ty "tuple", .ty "list"])) := (Same.refl H).put ntp
    refine ⟨_, rfl, rfl, false, rfl, iteF ⟨_, rfl, _, "int", false, rfl, .int i, by decide +kernel, false, rfl, iteF ?_⟩⟩
    refine ⟨_, rfl, _, "int", true, rfl, .int i, by decide +kernel, true, rfl, iteT ?_⟩
    refine ⟨_, rfl, _, "int", false, rfl, .int i, by decide +kernel, _, rfl, _, "int", false, rfl, .int i, by decide +kernel, rfl, true, rfl, iteT ?_⟩
    refine ⟨_, rfl, _, rfl, rfl, ?_⟩
    rw [decide_eq_true rfl]
    exact q _ s1
  | str _ x =>
    cases hy
    refine ⟨_, rfl, _, "str", false, rfl, .str x, by decide +kernel, false, rfl, iteF ?_⟩
    refine ⟨_, rfl, (by show 2 ≤ sizeLine; decide), fun tp ntp => ⟨_, tp, _, .type "str", [.type "tuple", .type "list"], false, rfl, upd_same, .cons (.ty _) (.cons (.ty _) .nil), .base (.str x), kitAny_cons (b := false) (kit_ty (by decide +kernel)) (fun _ => kitAny_cons (b := false) (kit_ty (by decide +kernel)) (fun _ => kitAny_nil) (fun z => nomatch z)) (fun z => nomatch z), false, rfl, iteF ?_⟩⟩
    have s1 : Same H (upd H tp (.tup [.ty "tuple", .ty "list"])) := (Same.refl H).put ntp
    refine ⟨_, rfl, rfl, false, rfl, iteF ⟨_, rfl, _, "str", true, rfl, .str x, by decide +kernel, true, rfl, iteT ?_⟩⟩
    refine ⟨_, rfl, _, rfl, rfl, decide (V.str x = V.str x), rfl, ?_⟩
    rw [decide_eq_true rfl]
    refine iteT ?_
    refine ⟨_, rfl, _, "str", true, rfl, .str x, by decide +kernel, _, rfl, _, "str", true, rfl, .str x, by decide +kernel, rfl, ?_⟩
    exact q _ s1
  | lst e l z all =>
    rename_i p xs ds
    cases hy with
    | lst e2 l2 z2 all2 =>
      rename_i q0 ys
      refine ⟨_, rfl, _, "list", false, rfl, .lst e2, by decide +kernel, false, rfl, iteF ?_⟩
      refine ⟨_, rfl, (by show 2 ≤ sizeLine; decide), fun tp ntp => ?_⟩
      have s1 : Same H (upd H tp (.tup [.ty "tuple", .ty "list"])) := (Same.refl H).put ntp
      refine ⟨_, tp, _, .type "list", [.type "tuple", .type "list"], true, rfl, upd_same, .cons (.ty _) (.cons (.ty _) .nil), .base (.lst (s1 _ _ e2)), kitAny_cons (b := false) (kit_ty (by decide +kernel)) (fun _ => kitAny_cons (b := true) (kit_ty (by decide +kernel)) (fun z => nomatch z) (fun _ => rfl)) (fun z => nomatch z), true, rfl, iteT ?_⟩
      refine ⟨_, rfl, (by show 2 ≤ sizeLine; decide), fun tp2 ntp2 => ?_⟩
      have s2 := s1.put' (o := .tup [.ty "tuple", .ty "list"]) ntp2
      refine ⟨_, tp2, _, .type "list", [.type "tuple", .type "list"], true, rfl, upd_same, .cons (.ty _) (.cons (.ty _) .nil), .base (.lst (s2 _ _ e)), kitAny_cons (b := false) (kit_ty (by decide +kernel)) (fun _ => kitAny_cons (b := true) (kit_ty (by decide +kernel)) (fun z => nomatch z) (fun _ => rfl)) (fun z => nomatch z), true, rfl, iteF ?_⟩
      refine ⟨_, rfl, _, "list", true, rfl, .lst (s2 _ _ e), by decide +kernel, _, rfl, _, "list", true, rfl, .lst (s2 _ _ e2), by decide +kernel, rfl, _, rfl, iteF ?_⟩
      refine ⟨_, rfl, p, _, rfl, .inl (sqL_of (s2 _ _ e)), _, rfl, q0, _, rfl, .inl (sqL_of (s2 _ _ e2)), rfl, _, rfl, ?_⟩
      have el : ((xs.length : Nat) : Int) = (ys.length : Nat) := by rw [l, l2]
      rw [el, decide_eq_true rfl]
      refine iteF ?_
      refine ⟨_, rfl, q0, _, rfl, .inl (sqL_of (s2 _ _ e2)), _, rfl, by omega, by omega, fun D nD => lc_it walk_range (fun i H' => Same H H' ∧ H' D = some (.lst [])) ⟨s2.put' nD, upd_same⟩ (fun _ _ _ _ => trivial) ?_ ?_⟩
      · rintro i y H2 H3 hi ⟨s3, e3⟩ ⟨rfl, hy⟩
        have hy : y = V.int (i : Nat) := by
          rw [hy]
          show V.int (0 + (i : Nat)) = _
          rw [Int.zero_add]
        subst hy
        have hi : i < ys.length := by simpa using hi
        have hix : i < xs.length := by omega
        have hid : i < ds.length := by omega
        refine ⟨rfl, _, rfl, _, rfl, .inl ⟨_, _, (i : Nat), _, rfl, rfl, sqL_of (s3 _ _ e), atI_nat (List.getElem?_eq_getElem hix), ?_⟩⟩
        refine ⟨_, rfl, _, rfl, .inl ⟨_, _, (i : Nat), _, rfl, rfl, sqL_of (s3 _ _ e2), atI_nat (List.getElem?_eq_getElem hi), ?_⟩⟩
        refine ⟨_, _, ds[i], rfl, (all i _ _ (List.getElem?_eq_getElem hix) (List.getElem?_eq_getElem hid)).same s3, (all2 i _ _ (List.getElem?_eq_getElem hi) (List.getElem?_eq_getElem hid)).same s3, fun H4 s4 => ⟨true, rfl, iteF ⟨s3.trans s4, s4 _ _ e3⟩⟩⟩
      · rintro H2 ⟨s3, e3⟩
        refine ⟨Nat.zero_le _, fun p2 np2 => ⟨.list [], .list [], .lst (sqL_of (by rw [upd_ne (ne_of_none e3 np2)]; exact e3)) .nil, .lst sqL_new .nil, rfl, rfl, q _ (s3.put' np2)⟩⟩
  | tup e l z all =>
    rename_i p xs ds
    cases hy with
    | tup e2 l2 z2 all2 =>
      rename_i q0 ys
      refine ⟨_, rfl, _, "tuple", false, rfl, .tup e2, by decide +kernel, false, rfl, iteF ?_⟩
      refine ⟨_, rfl, (by show 2 ≤ sizeLine; decide), fun tp ntp => ?_⟩
      have s1 : Same H (upd H tp (.tup [.ty "tuple", .ty "list"])) := (Same.refl H).put ntp
      refine ⟨_, tp, _, .type "tuple", [.type "tuple", .type "list"], true, rfl, upd_same, .cons (.ty _) (.cons (.ty _) .nil), .base (.tup (s1 _ _ e2)), kitAny_cons (b := true) (kit_ty (by decide +kernel)) (fun z => nomatch z) (fun _ => rfl), true, rfl, iteT ?_⟩
      refine ⟨_, rfl, (by show 2 ≤ sizeLine; decide), fun tp2 ntp2 => ?_⟩
      have s2 := s1.put' (o := .tup [.ty "tuple", .ty "list"]) ntp2
      refine ⟨_, tp2, _, .type "tuple", [.type "tuple", .type "list"], true, rfl, upd_same, .cons (.ty _) (.cons (.ty _) .nil), .base (.tup (s2 _ _ e)), kitAny_cons (b := true) (kit_ty (by decide +kernel)) (fun z => nomatch z) (fun _ => rfl), true, rfl, iteF ?_⟩
      refine ⟨_, rfl, _, "tuple", false, rfl, .tup (s2 _ _ e), by decide +kernel, _, rfl, _, "tuple", false, rfl, .tup (s2 _ _ e2), by decide +kernel, rfl, _, rfl, iteF ?_⟩
      refine ⟨_, rfl, p, _, rfl, .inr (sqT_of (s2 _ _ e)), _, rfl, q0, _, rfl, .inr (sqT_of (s2 _ _ e2)), rfl, _, rfl, ?_⟩
      have el : ((xs.length : Nat) : Int) = (ys.length : Nat) := by rw [l, l2]
      rw [el, decide_eq_true rfl]
      refine iteF ?_
      refine ⟨_, rfl, q0, _, rfl, .inr (sqT_of (s2 _ _ e2)), _, rfl, by omega, by omega, fun D nD => lc_it walk_range (fun i H' => Same H H' ∧ H' D = some (.lst [])) ⟨s2.put' nD, upd_same⟩ (fun _ _ _ _ => trivial) ?_ ?_⟩
      · rintro i y H2 H3 hi ⟨s3, e3⟩ ⟨rfl, hy⟩
        have hy : y = V.int (i : Nat) := by
          rw [hy]
          show V.int (0 + (i : Nat)) = _
          rw [Int.zero_add]
        subst hy
        have hi : i < ys.length := by simpa using hi
        have hix : i < xs.length := by omega
        have hid : i < ds.length := by omega
        refine ⟨rfl, _, rfl, _, rfl, .inr (.inl ⟨_, _, (i : Nat), _, rfl, rfl, sqT_of (s3 _ _ e), atI_nat (List.getElem?_eq_getElem hix), ?_⟩)⟩
        refine ⟨_, rfl, _, rfl, .inr (.inl ⟨_, _, (i : Nat), _, rfl, rfl, sqT_of (s3 _ _ e2), atI_nat (List.getElem?_eq_getElem hi), ?_⟩)⟩
        refine ⟨_, _, ds[i], rfl, (all i _ _ (List.getElem?_eq_getElem hix) (List.getElem?_eq_getElem hid)).same s3, (all2 i _ _ (List.getElem?_eq_getElem hi) (List.getElem?_eq_getElem hid)).same s3, fun H4 s4 => ⟨true, rfl, iteF ⟨s3.trans s4, s4 _ _ e3⟩⟩⟩
      · rintro H2 ⟨s3, e3⟩
        refine ⟨Nat.zero_le _, fun p2 np2 => ⟨.list [], .list [], .lst (sqL_of (by rw [upd_ne (ne_of_none e3 np2)]; exact e3)) .nil, .lst sqL_new .nil, rfl, rfl, q _ (s3.put' np2)⟩⟩
end
end Sc
namespace Sc
open PySem PySem.Spec PyProof.Rows L2
theorem strAt_inj {xs : List Str} {i : Nat} {x : Str} {v : V} (hx : xs[i]? = some x) (h : (xs.map V.str)[i]? = some v) : V.str x = v := by
  rw [List.getElem?_map, hx] at h
  exact Option.some.inj h
theorem find_none {n : Nat} {p : Nat → Bool} (h : ∀ j, j < n → p j = false) : (List.range n).find? p = none := by
  rw [List.find?_eq_none]
  intro j hj
  rw [h j (List.mem_range.mp hj)]
  exact Bool.false_ne_true
theorem find_at {n i : Nat} {p : Nat → Bool} (hi : i < n) (hp : p i = true) (h : ∀ j, j < i → p j = false) : (List.range n).find? p = some i := by
  rw [List.find?_range_eq_some]
  exact ⟨hp, List.mem_range.mpr hi, fun j hj => by rw [h j hj]; rfl⟩
/-- names that texts of a program may have -/
def Txts (xs : List Str) : Prop := ∀ x ∈ xs, x.length ≤ 1000
def errIx (C : Addr) (i : Nat) (H : Hp) (E : XK) : Prop := ∀ H' d, Same H H' → H' d = none → E (.ref C) (some d) (upd H' d (.xd [(("index" : Str), .int i)]))
theorem flat_strs : ∀ xs : List Str, (xs.map V.str).all flatV = true
  | [] => rfl
  | _ :: r => flat_strs r
theorem inV_str {x : Str} : ∀ xs : List Str, inV (.str x) (xs.map V.str) = decide (x ∈ xs)
  | [] => rfl
  | y :: r => by
    show (eqV (.str y) (.str x) || inV (.str x) (r.map V.str)) = _
    rw [inV_str r]
    show ((y == x) || _) = _
    by_cases h : y = x
    · subst h
      simp
    · have e : (y == x) = false := by simpa using h
      rw [e, Bool.false_or]
      simp [List.mem_cons, show ¬ x = y from fun z => h z.symm]
end Sc
namespace Sc
open PySem PySem.Spec PyProof.Rows L2
/-! ### conditions -/
abbrev s_check_part : Stmt := topS 37
theorem sc_check_part : FnScope ["part", "names", "before", "index", "name", "wrong"] ["part", "names", "before"] (defScope s_check_part) := ⟨rfl, rfl, rfl, by decide +kernel, rfl, by decide +kernel, by decide +kernel⟩
abbrev s_merged : Stmt := topS 38
theorem sc_merged : FnScope ["names", "others", "name"] ["names", "others"] (defScope s_merged) := ⟨rfl, rfl, rfl, by decide +kernel, rfl, by decide +kernel, by decide +kernel⟩
theorem filter1 {α : Type} (p : α → Bool) (y : α) : List.filter p [y] = if p y = true then [y] else [] := by cases h : p y <;> simp [List.filter, h]
section
variable {P : Program} {w : World} {K : PySem.W.Frag} {mg : Str → Option Value} {base : Heap} {CC : Addr}
/-- the i-th name of a part is wrong; ys the part ahead of it -/
def wrongAt (xs ys : List Str) (i : Nat) : Bool := match xs[i]? with
  | some x => (!isName x || !risesAt xs i) || (decide (8 ≤ ys.length + i) || decide (x ∈ ys))
  | none => false
def firstWrong (xs ys : List Str) : Option Nat := (List.range xs.length).find? (wrongAt xs ys)
def errPI (C : Addr) (part : Int) (i : Nat) (H : Hp) (E : XK) : Prop := ∀ H' d, Same H H' → H' d = none → E (.ref C) (some d) (upd H' d (.xd [(("index" : Str), .int i), (("part" : Str), .int part)]))
def sp_check_part (K : PySem.W.Frag) (C : Addr) : Sp := fun vs H Q E => ∃ (part : Nat) (a b : Addr) (xs ys : List Str), vs = [.int part, .ref a, .ref b] ∧ part ≤ 1 ∧ SqT K H a (xs.map V.str) ∧ SqT K H b (ys.map V.str) ∧ Txts xs ∧ xs.length ≤ 1000 ∧ ys.length ≤ 1000 ∧
  (firstWrong xs ys = none → ∀ H', Same H H' → Q .non H') ∧ (∀ i, firstWrong xs ys = some i → errPI C part i H E)
theorem ok_check_part {f : Addr} {fd : FuncData} (F : Fun K "check_part" "check_part" s_check_part f fd) (B : Blt mg) (mM : ∃ t, mg "MOST_NAMES" = some (.int 8 t))
    (e_InvalidCondition : ErrMk P w K mg base "InvalidCondition" CC ["self", "part", "index"] (sp_init2 CC "part" "index")) (c_is_name : Cal P w K mg base CX0 1 "is_name" ["value"] sp_is_name) (c_rises : Cal P w K mg base CX0 1 "rises" ["names", "index"] (sp_rises K)) :
    FnOk P w K mg base (L2.CX P w) 3 f fd ["part", "names", "before"] (sp_check_part K CC) := by
  obtain ⟨t1, mM⟩ := mM
  refine F.okX sc_check_part (fun vs H Q E h => by obtain ⟨part, a, b, xs, ys, rfl, _⟩ := h; rfl) (fun cdv A outer s H vs Q E hr h => ?_)
  obtain ⟨part, a, b, xs, ys, rfl, hp, hS, hY, hT, hl, hly, q, e⟩ := h
  refine ⟨_, (pss_one (ps_for (passes_of rfl) rfl (pi_enumT (by rfl) B.b_enumerate (pa_cons (pv 1) pa_nil)) (pg_tup (by rfl) (pgs_cons (pg_name (i := 3) sc_check_part.nd rfl (Or.inl rfl)) (pgs_cons (pg_name (i := 4) sc_check_part.nd rfl (Or.inl rfl)) pgs_nil))) (pss_cons (ps_set (i := 5) sc_check_part.nd rfl (Or.inl rfl) (pe_or (pe_not (pe_cal c_is_name (hr.mono (by decide)) (pa_cons (pv 4) pa_nil))) (pe_one (pe_not (pe_cal c_rises (hr.mono (by decide)) (pa_cons (pv 1) (pa_cons (pv 3) pa_nil)))))))
      (pss_one (ps_if (PW.pt (pw_or (pt_val (pv 5)) (pw_or (pt_cmpR op_ge (pe_op op_add (pe_callB call_len_seq (by rfl) B.b_len PySem.boot_len (pa_cons (pv 2) pa_nil)) (pv 3)) (pe_glob (v := .int 8) rfl mM ⟨_, rfl⟩) (nomark _)) (pw_or1 (pt_cmpR op_in_seq (pv 4) (pv 2) rfl))))) (pss_one (ps_raise rfl (takes_of rfl rfl rfl rfl) (pmk_err2 e_InvalidCondition (hr.mono (by decide)) (pv 0) (pv 3)))) pss_nil))))), ?_⟩
  refine ⟨.ref a, rfl, a, _, rfl, hS, for_it walk_enumT (fun i σ H' => ∃ y1 y2 y3, σ = [some (.int part), some (.ref a), some (.ref b), y1, y2, y3] ∧ Same H H' ∧ ∀ j, j < i → wrongAt xs ys j = false)
    ⟨none, none, none, rfl, Same.refl H, fun j hj => absurd hj (Nat.not_lt_zero j)⟩ (fun i σ H' _ ⟨_, _, _, _, s, _⟩ => s.tup hS) ?_ ?_⟩
  · rintro i x σ H2 H3 hi ⟨y1, y2, y3, rfl, s, hb⟩ ⟨T, v1, v2, rfl, nT, rfl, h1, h2⟩
    obtain rfl : V.int (i : Nat) = v1 := Option.some.inj h1
    rw [List.length_map] at hi
    have hx : xs[i]? = some xs[i] := List.getElem?_eq_getElem hi
    obtain rfl : V.str xs[i] = v2 := strAt_inj hx h2
    have s3 : Same H (upd H2 T (.tup [.int (i : Nat), .str xs[i]])) := s.put' nT
    have rz : ∀ {H' : Hp}, wrongAt xs ys i = true → Same H H' → ∀ d, H' d = none → E (.ref CC) (some d) (upd H' d (.xd [(("index" : Str), .int (i : Nat)), (("part" : Str), .int part)])) := fun {H'} hp sH d nd => e i (find_at hi hp hb) H' d sH nd
    refine ⟨T, [.int (i : Nat), .str xs[i]], rfl, sqT_new, rfl, _, _, rfl, _, _, rfl, rfl, ?_⟩
    have ew : wrongAt xs ys i = ((!isName xs[i] || !risesAt xs i) || (decide (8 ≤ ys.length + i) || decide (xs[i] ∈ ys))) := by unfold wrongAt; rw [hx]
    have fk : FOk (.int part) ∧ FOk (.int (i : Nat)) := ⟨fok_nat (by omega), fok_nat (by omega)⟩
    refine ⟨_, rfl, xs[i], rfl, Nat.le_trans (hT _ (List.getElem_mem hi)) (by rw [sizeLine_eq]; decide), fun H4 s4 => ⟨_, rfl, _, rfl, bcase (fun c1 => ?_) (fun c1 => ?_)⟩⟩
    · exact ⟨_, rfl, _, rfl, iteT (iteT ⟨_, rfl, _, rfl, fk, rz (by rw [ew, c1, Bool.true_or, Bool.true_or]) (s3.trans s4)⟩)⟩
    · have s5 := s3.trans s4
      rw [c1, Bool.false_or] at ew
      refine ⟨.ref a, rfl, .int i, rfl, a, xs, i, rfl, s5.tup hS, hi, _, rfl, ?_⟩
      refine ⟨_, rfl, _, rfl, bcase (fun c2 => ?_) (fun c2 => ?_)⟩
      · exact iteT ⟨_, rfl, _, rfl, fk, rz (by rw [ew, c2, Bool.true_or]) s5⟩
      · rw [c2, Bool.false_or] at ew
        refine ⟨.ref b, rfl, b, _, rfl, .inr (s5.tup hY), .int i, rfl, _, i, rfl, rfl, _, 8, rfl, rfl, _, rfl, ?_⟩
        rw [List.length_map]
        by_cases h8 : 8 ≤ ys.length + i
        · rw [decide_eq_true (show (8 : Int) ≤ (ys.length : Int) + (i : Int) by omega)]
          exact iteT (iteT ⟨_, rfl, _, rfl, fk, rz (by rw [ew, decide_eq_true h8, Bool.true_or]) s5⟩)
        · rw [decide_eq_false (show ¬ (8 : Int) ≤ (ys.length : Int) + (i : Int) by omega)]
          rw [decide_eq_false h8, Bool.false_or] at ew
          refine iteF ⟨.str xs[i], rfl, .ref b, rfl, b, _, rfl, .inr (s5.tup hY), rfl, flat_strs ys, _, rfl, bcase (fun c3 => ?_) (fun c3 => ?_)⟩
          · have c3 : decide (xs[i] ∈ ys) = true := by rw [← inV_str]; exact c3
            exact ⟨_, rfl, _, rfl, fk, rz (by rw [ew, c3]) s5⟩
          · have c3 : decide (xs[i] ∈ ys) = false := by rw [← inV_str]; exact c3
            refine ⟨_, _, _, rfl, s5, fun j hj => ?_⟩
            by_cases hj2 : j < i
            · exact hb j hj2
            · have ej : j = i := by omega
              subst ej
              rw [ew, c3]
  · rintro σ H2 ⟨y1, y2, y3, rfl, s, hb⟩
    rw [List.length_map] at hb
    exact q (find_none hb) H2 s
def sp_merged (K : PySem.W.Frag) : Sp := fun vs H Q _ => ∃ (a b : Addr) (xs ys : List Str), vs = [.ref a, .ref b] ∧ SqT K H a (xs.map V.str) ∧ SqT K H b (ys.map V.str) ∧ xs.length + ys.length < 64 ∧
  ∀ H' p (zs : List Str), Same H H' → H' p = some (.tup (zs.map V.str)) → zs.Perm (xs ++ ys.filter fun y => !decide (y ∈ xs)) → sortedS zs = true → Q (.ref p) H'
theorem ok_merged {f : Addr} {fd : FuncData} (F : Fun K "merged" "merged" s_merged f fd) (B : Blt mg) : FnOk P w K mg base CX0 1 f fd ["names", "others"] (sp_merged K) := by
  refine F.ok sc_merged (fun vs H Q E h => by obtain ⟨a, b, xs, ys, rfl, _⟩ := h; rfl) (fun cdv A outer s H vs Q E hr h => ?_)
  obtain ⟨a, b, xs, ys, rfl, hS, hY, hl, q⟩ := h
  refine ⟨_, (pss_one (ps_ret (pe_callTy call_tuple_of (by rfl) B.b_tuple PyProof.Rows.boot_tuple (pa_cons (pe_callB cr_sortedS (by rfl) B.b_sorted (by decide +kernel) (pa_cons (pe_op op_cat (pe_callTy call_list_of (by rfl) B.b_list PyProof.Rows.boot_list (pa_cons (pv 0) pa_nil)) (pe_lc (own := [("name", 2)]) (g := gName 2) rfl sc_merged.nd (pi_tup (pv 1)) (blkOk_by (own := [("name", 2)]) (N := ["names", "others", "name"]) (sc := defScope s_merged) (by decide +kernel)) (fun _ _ _ _ _ => (pg_name (i := 2) sc_merged.nd rfl (Or.inl rfl))) (fun _ _ _ _ _ => (pts_.re (pts_one (pt_cmpR op_notIn_seq (pv 2) (pv 0) rfl)) (by first | (dsimp only [Cx.blk]; done) | exact rfl))) (fun _ _ _ _ _ => (pe_.re (pv 2) (by first | (dsimp only [Cx.blk]; done) | exact rfl))))) pa_nil)) pa_nil)))), ?_⟩
  have big : ∀ {m : Nat}, m ≤ 1000 → m ≤ sizeLine := fun {m} h => by rw [sizeLine_eq]; omega
  refine ⟨.ref a, rfl, a, _, rfl, .inr hS, fun l nl => ?_⟩
  have s1 := (Same.refl H).put (o := .lst (xs.map V.str)) nl
  have e1 : (upd H l (.lst (xs.map V.str))) l = some (.lst (xs.map V.str)) := upd_same
  generalize upd H l (.lst (xs.map V.str)) = H1 at s1 e1 ⊢
  refine ⟨.ref b, rfl, b, rfl, ⟨_, s1.tup hY⟩, fun D nD => lc_it walk_tup (fun i H' => Same H1 H' ∧ H' D = some (.lst (((ys.take i).filter fun y => !decide (y ∈ xs)).map V.str))) ⟨(Same.refl H1).put nD, upd_same⟩ (fun _ _ _ h => (s1.trans h.1).tup hY) ?_ ?_⟩
  · rintro i y H2 H3 hi ⟨s, e⟩ ⟨rfl, hy⟩
    rw [List.length_map] at hi
    have hx : ys[i]? = some ys[i] := List.getElem?_eq_getElem hi
    obtain rfl : V.str ys[i] = y := strAt_inj hx hy
    refine ⟨rfl, .str ys[i], rfl, .ref a, rfl, a, _, rfl, .inr ((s1.trans s).tup hS), rfl, flat_strs xs, _, rfl, bcase (fun c1 => ?_) (fun c1 => ?_)⟩
    · have c1 : (!decide (ys[i] ∈ xs)) = true := by rw [← inV_str]; exact c1
      refine ⟨_, rfl, grow (acc := fun i => ((ys.take i).filter fun y => !decide (y ∈ xs)).map V.str) nD s e ?_ ?_⟩
      · rw [List.length_map]
        refine small1000 (Nat.le_trans (List.length_filter_le _ _) ?_)
        rw [List.length_take]
        omega
      · show List.map V.str _ = _
        rw [take_more hx, List.filter_append, List.map_append, filter1, if_pos c1]
        rfl
    · have c1 : (!decide (ys[i] ∈ xs)) = false := by rw [← inV_str]; exact c1
      refine ⟨s, ?_⟩
      rw [take_more hx, List.filter_append, filter1, if_neg (by rw [c1]; exact Bool.false_ne_true), List.append_nil]
      exact e
  · rintro H2 ⟨s, e⟩
    rw [List.length_map, List.take_length] at e
    have hfl := List.length_filter_le (fun y => !decide (y ∈ xs)) ys
    refine ⟨l, D, _, _, rfl, rfl, s _ _ e1, e, big (by rw [List.length_map, List.length_map]; omega), fun p np => ?_⟩
    have s2 := (s1.trans s).put' (o := .lst (xs.map V.str ++ (ys.filter fun y => !decide (y ∈ xs)).map V.str)) np
    refine ⟨p, xs ++ ys.filter fun y => !decide (y ∈ xs), rfl, ?_, ?_, fun zs p2 hp hs np2 => ?_⟩
    · rw [List.map_append]
      exact sqL_new
    · rw [List.length_append]
      omega
    · refine ⟨p2, _, rfl, .inl ⟨sqL_new, fun p3 np3 => q _ p3 zs ((s2.put' np2).put' np3) upd_same hp hs⟩⟩
end
end Sc
namespace Sc
open PySem PySem.Spec PyProof.Rows L2
/-! ### an object Condition -/
abbrev s_Condition___init__ : Stmt := (inClass (topS 36) 0)
theorem sc_Condition___init__ : FnScope ["self", "holding", "failing"] ["self", "holding", "failing"] (defScope s_Condition___init__) := ⟨rfl, rfl, rfl, by decide +kernel, rfl, by decide +kernel, by decide +kernel⟩
section
variable {P : Program} {w : World} {K : PySem.W.Frag} {mg : Str → Option Value} {base : Heap} {CC C : Addr}
theorem wrongs_none {xs ys : List Str} (h : firstWrong xs ys = none) (i : Nat) (hi : i < xs.length) : ((!isName xs[i] || !risesAt xs i) = false ∧ ¬ 8 ≤ ys.length + i) ∧ ¬ xs[i] ∈ ys := by
  unfold firstWrong at h
  rw [List.find?_eq_none] at h
  have h := (Bool.not_eq_true _).mp (h i (List.mem_range.mpr hi))
  unfold wrongAt at h
  rw [List.getElem?_eq_getElem hi] at h
  dsimp only at h
  rw [Bool.or_eq_false_iff, Bool.or_eq_false_iff (x := decide _)] at h
  exact ⟨⟨h.1, of_decide_eq_false h.2.1⟩, of_decide_eq_false h.2.2⟩
theorem fw_len {xs ys : List Str} (h : firstWrong xs ys = none) : xs.length = 0 ∨ ys.length + xs.length ≤ 8 := by
  by_cases e : xs.length = 0
  · exact .inl e
  · have := (wrongs_none h (xs.length - 1) (by omega)).1.2
    exact .inr (by omega)
theorem fw_out {xs ys : List Str} (h : firstWrong xs ys = none) : ∀ x ∈ xs, ¬ x ∈ ys := by
  intro x hx
  obtain ⟨i, hi, rfl⟩ := List.getElem_of_mem hx
  exact (wrongs_none h i hi).2
theorem filter_out {xs ys : List Str} (h : ∀ x ∈ xs, ¬ x ∈ ys) : xs.filter (fun x => !decide (x ∈ ys)) = xs := by
  rw [List.filter_eq_self]
  intro x hx
  rw [decide_eq_false (h x hx)]
  rfl
/-- all but the object at x stands -/
def SameX (x : Addr) (H H' : Hp) : Prop := ∀ b o, b ≠ x → H b = some o → H' b = some o
/-- the fields of a condition -/
def condF (a b n : Addr) : List (Str × V) := putF "_names" (.ref n) (putF "_failing" (.ref b) (putF "_holding" (.ref a) []))
def sp_cond_init (K : PySem.W.Frag) (C CC : Addr) : Sp := fun vs H Q E => ∃ (x dx a b : Addr) (xs ys : List Str), vs = [.ref x, .ref a, .ref b] ∧ H x = some (.ins C dx []) ∧ SqT K H a (xs.map V.str) ∧ SqT K H b (ys.map V.str) ∧ Txts xs ∧ Txts ys ∧ xs.length ≤ 1000 ∧ ys.length ≤ 1000 ∧
  (∀ i, firstWrong xs [] = some i → errPI CC ((0 : Nat) : Int) i H E) ∧ (firstWrong xs [] = none → (∀ i, firstWrong ys xs = some i → errPI CC ((1 : Nat) : Int) i H E) ∧
  (firstWrong ys xs = none → ∀ H' n zs, SameX x H H' → H' x = some (.ins C dx (condF a b n)) → H' n = some (.tup (zs.map V.str)) → zs.Perm (xs ++ ys) → sortedS zs = true → Q .non H'))
theorem sqT_upd {H : Hp} {x dx a' : Addr} {fs : List (Str × V)} {o : HO} {vs : List V} (hx : H x = some (.ins C dx fs)) (h : SqT K H a' vs) : SqT K (upd H x o) a' vs := by
  rcases h with (h | ⟨ob, h⟩) | h
  · have ne : a' ≠ x := fun e => by rw [e, hx] at h; cases h
    exact .inl (.inl (by rw [upd_ne ne]; exact h))
  · have ne : a' ≠ x := fun e => by rw [e, hx] at h; cases h
    exact .inl (.inr ⟨ob, by rw [upd_ne ne]; exact h⟩)
  · exact .inr h
theorem putF_len (f : Str) (v : V) : ∀ fs : List (Str × V), (putF f v fs).length ≤ fs.length + 1
  | [] => Nat.le_refl 1
  | (g, x) :: r => by
    unfold putF
    split
    · exact Nat.le_succ _
    · show (putF f v r).length + 1 ≤ r.length + 1 + 1
      exact Nat.succ_le_succ (putF_len f v r)
theorem ok_cond_init {f : Addr} {fd : FuncData} (F : Fun K "__init__" "Condition.__init__" s_Condition___init__ f fd) (B : Blt mg) (T : Cls K C) (n1 : NoAttr K C "_holding") (n2 : NoAttr K C "_failing") (n3 : NoAttr K C "_names")
    (c_check_part : Cal P w K mg base (L2.CX P w) 3 "check_part" ["part", "names", "before"] (sp_check_part K CC)) (c_merged : Cal P w K mg base CX0 1 "merged" ["names", "others"] (sp_merged K)) :
    FnOk P w K mg base (L2.CX P w) 4 f fd ["self", "holding", "failing"] (sp_cond_init K C CC) := by
  refine F.okX sc_Condition___init__ (fun vs H Q E h => by obtain ⟨x, dx, a, b, xs, ys, rfl, _⟩ := h; rfl) (fun cdv A outer s H vs Q E hr h => ?_)
  obtain ⟨x, dx, a, b, xs, ys, rfl, hx, hA, hB, tA, tB, lA, lB, e0, q⟩ := h
  refine ⟨_, (pss_cons (ps_expr (pe_calX c_check_part (hr.mono (by decide)) (takes_of rfl rfl rfl rfl) (pa_cons pe_int (pa_cons (pv 1) (pa_cons (pe_tup pa_nil) pa_nil)))))
      (pss_cons (ps_expr (pe_calX c_check_part (hr.mono (by decide)) (takes_of rfl rfl rfl rfl) (pa_cons pe_int (pa_cons (pv 2) (pa_cons (pv 1) pa_nil)))))
      (pss_cons (ps_fld (pv 0) (pv 1) rfl)
      (pss_cons (ps_fld (pv 0) (pv 2) rfl)
      (pss_one (ps_fld (pv 0) (pe_cal c_merged (hr.mono (by decide)) (pa_cons (pv 1) (pa_cons (pv 2) pa_nil))) rfl)))))), ?_⟩
  refine ⟨.ref a, rfl, Nat.zero_le _, fun t nt => ⟨0, a, t, xs, [], rfl, by decide, ((Same.refl H).put nt).tup hA, sqT_new, tA, lA, by decide, fun e1 H1 s1 => ?_, fun i ei H' d sH nd => e0 i ei H' d (((Same.refl H).put nt).trans sH) nd⟩⟩
  obtain ⟨e1', q⟩ := q e1
  have s1 := ((Same.refl H).put nt).trans s1
  refine ⟨.ref b, rfl, .ref a, rfl, 1, b, a, ys, xs, rfl, by decide, s1.tup hB, s1.tup hA, tB, lB, lA, fun e2 H2 s2 => ?_, fun i ei H' d sH nd => e1' i ei H' d (s1.trans sH) nd⟩
  have s2 := s1.trans s2
  have q := q e2
  have hlen : xs.length + ys.length < 64 := by
    have h1 := fw_len e1
    have h2 := fw_len e2
    simp only [List.length_nil] at h1
    omega
  have hx2 := s2 _ _ hx
  refine ⟨.ref a, rfl, .ref x, rfl, x, C, dx, [], rfl, hx2, T, n1, by decide, ?_⟩
  refine ⟨.ref b, rfl, .ref x, rfl, x, C, dx, _, rfl, upd_same, T, n2, Nat.lt_of_le_of_lt (putF_len _ _ _) (by decide), ?_⟩
  refine ⟨.ref a, rfl, .ref b, rfl, a, b, xs, ys, rfl, ?_, ?_, hlen, fun H' p zs sH ep hperm hsort => ?_⟩
  · exact sqT_upd upd_same (sqT_upd hx2 (s2.tup hA))
  · exact sqT_upd upd_same (sqT_upd hx2 (s2.tup hB))
  · rw [filter_out (fw_out e2)] at hperm
    refine ⟨.ref x, rfl, x, C, dx, _, rfl, sH _ _ upd_same, T, n3, Nat.lt_of_le_of_lt (putF_len _ _ _) (Nat.lt_of_le_of_lt (Nat.succ_le_succ (putF_len _ _ _)) (by decide)), q _ p zs (fun b' o ne hb => ?_) upd_same ?_ hperm hsort⟩
    · rw [upd_ne ne]
      refine sH _ _ ?_
      rw [upd_ne ne, upd_ne ne]
      exact s2 _ _ hb
    · have ne : p ≠ x := fun e => by
        have h2 := sH _ _ (upd_same (H := upd H2 x (.ins C dx (putF "_holding" (.ref a) []))) (a := x) (o := .ins C dx (putF "_failing" (.ref b) (putF "_holding" (.ref a) []))))
        rw [e, h2] at ep
        cases ep
      rw [upd_ne ne]
      exact ep
end
end Sc
namespace Sc
open PySem PySem.Spec PyProof.Rows L2
/-- len(o), o an object whose class has its own __len__ -/
def rLenO (C : Addr) (sp : Sp) : List V → Hp → VK → Prop := fun xs H Q => ∃ (a dx : Addr) (fs : List (Str × V)), xs = [.ref a] ∧ H a = some (.ins C dx fs) ∧ sp [.ref a] H (fun v H' => ∃ n : Nat, v = .int n ∧ n < 2 ^ 62 ∧ Q (.int n) H') (fun _ _ _ => False)
theorem call_lenO {X : Cx} {C g : Addr} {k : Nat} {fd : FuncData} {ps : List Str} {sp : Sp} (at_ : PySem.W.findIn X.K (.ref C) "__len__" = some (some (.ref g))) (ty : PySem.W.typeIn X.K (.ref g) = some (.type "function"))
    (F : FnOk X.prog X.w X.K X.mg X.base CX0 k g fd ps sp) (hr : Room (k + 1) X.A) (hb : Binds X.K fd ps []) : CallR X (.builtin "len") (rLenO C sp) := by
  intro pins s σ H xs us Q I r h
  obtain ⟨a, dx, fs, rfl, ea, h⟩ := h
  obtain ⟨u, rfl, ru⟩ := vals1 r
  obtain rfl : u = Value.ref a := ru
  obtain ⟨mA, O, _⟩ := ins_get I.hok ea
  obtain ⟨od, J, _⟩ := ObjM.look O
  have hl : ([Value.ref a] ++ ([] : List Value)).length = ps.length := F.len _ _ _ _ h
  refine Calls.call_function_entry kind_len plain_len entry_len (args_len1 (.ref a)) ?_
  unfold Builtin.len
  rw [show oneArg "len" { pos := [Value.ref a] } = pure (.ref a) from rfl, pure_bind]
  refine wpAny_bind (PySem.W.special_fn I.kIn J at_ ty (wpAny_call (codeAny_mono (F.run X.A.in1 X.stack s H ⟨[.ref a], []⟩ [.ref a] [.ref a] _ _ (Room.in1 hr) (Env0.in1 I.env0) (hb s [.ref a] I.kIn hl) (Paired.cons rfl .nil) h) fun res s' hq => ?_)))
  cases res with
  | error e => exact hq.elim
  | ok fl =>
    cases fl with
    | ret v =>
      obtain ⟨y, H', I', ry, n, rfl, hn, q⟩ := I.after hq
      obtain ⟨t, rfl⟩ := ry
      dsimp only
      have e62 : (2 : Nat) ^ 62 < 2 ^ 63 := by decide
      refine wpAny_bind (wpAny_holding (wpAny_pure (wpAny_bind (wpAny_letGo ?_))))
      have h1 : ¬ (n : Int) < 0 := by omega
      have h2 : ¬ (n : Int) ≥ 2 ^ 63 := by
        have : (n : Int) < 2 ^ 62 := by exact_mod_cast hn
        omega
      rw [if_neg h1, if_neg h2]
      exact wpAny_bind (wpAny_mkInt (wpAny_pure ⟨_, rfl, .int n, H', I'.tok _, ⟨_, rfl⟩, q⟩))
    | next => exact hq.elim
    | brk => exact hq.elim
    | cont => exact hq.elim
end Sc
namespace Sc
open PySem PySem.Spec PyProof.Rows L2
section
variable {P : Program} {w : World} {K : PySem.W.Frag} {mg : Str → Option Value} {base : Heap} {a l : Addr} {H H' H'' : Hp}
theorem wk_ss {X : Cx} {st : List Stmt} {t : TS} (t' : TS) (h : PSs X st t) (w : ∀ D σ H, t' D σ H → t D σ H) : PSs X st t' := ⟨fun pins s σ H D I x => h.run pins s σ H D I (w D σ H x)⟩
/-- a class whose objects a def of its own makes -/
structure Mkr (P : Program) (w : World) (K : PySem.W.Frag) (mg : Str → Option Value) (base : Heap) (k : Nat) (x : Str) (C : Addr) (ps : List Str) (sp : Sp) : Prop where
  ex : ∃ (f : Addr) (fd : FuncData), Mk K C f ∧ FnOk P w K mg base (L2.CX P w) k f fd ps sp ∧ mg x = some (.ref C) ∧ Binds K fd ps []
section
variable {X : Cx} {k : Nat} {x : Str} {C : Addr} {ps : List Str} {sp : Sp} {e : Expr} {es : List Expr} {t : TA} {p pos : Pos}
theorem pe_mkN (M : Mkr X.prog X.w X.K X.mg X.base k x C ps sp) (hr : Room (k + 1) X.A) (ha : PA X (e :: es) t) (hg : Gl X x := by rfl) (hdb : (x == ("__debug__" : Str)) = false := by decide)
    (he : starEach (e :: es) X.env = (false, eval e X.env) :: starEach es X.env := by rfl) (hpl : (backTo pos (starEach es X.env)).any (·.1) = false := by rfl) : PE X (.Call (.Name x p) (e :: es) [] pos) (tMake C sp [] E0 t) := by
  obtain ⟨f, fd, hk, F, hm, hb⟩ := M.ex
  exact pe_make hk F hr hg hm hb .nil passL ha hdb he hpl
theorem pe_mkX {E : XK} (M : Mkr X.prog X.w X.K X.mg X.base k x C ps sp) (hr : Room (k + 1) X.A) (tk : Takes X (fun cls d _ H => E cls d H)) (ha : PA X (e :: es) t) (hg : Gl X x := by rfl) (hdb : (x == ("__debug__" : Str)) = false := by decide)
    (he : starEach (e :: es) X.env = (false, eval e X.env) :: starEach es X.env := by rfl) (hpl : (backTo pos (starEach es X.env)).any (·.1) = false := by rfl) : PE X (.Call (.Name x p) (e :: es) [] pos) (tMake C sp [] E t) := by
  obtain ⟨f, fd, hk, F, hm, hb⟩ := M.ex
  exact pe_make hk F hr hg hm hb .nil (fun pins σ H s e s' I h => passAt tk σ pins H s e s' I h) ha hdb he hpl
end
def sp_prop (C : Addr) (n : Str) : Sp := fun vs H Q _ => ∃ (x dx : Addr) (fs : List (Str × V)) (v : V), vs = [.ref x] ∧ H x = some (.ins C dx fs) ∧ fs.lookup n = some v ∧ Q v H
def sp_len (K : PySem.W.Frag) (C : Addr) : Sp := fun vs H Q _ => ∃ (x dx n : Addr) (fs : List (Str × V)) (zs : List V), vs = [.ref x] ∧ H x = some (.ins C dx fs) ∧ fs.lookup ("_names" : Str) = some (.ref n) ∧ SqT K H n zs ∧ Q (.int zs.length) H
structure CondC (P : Program) (w : World) (K : PySem.W.Frag) (mg : Str → Option Value) (base : Heap) (C p1 g1 p2 g2 p3 g3 g4 : Addr) (fd1 fd2 fd3 fd4 : FuncData) : Prop where
  cls : Cls K C
  p_holding : PropOf K C "holding" p1 g1 ∧ FnOk P w K mg base CX0 1 g1 fd1 ["self"] (sp_prop C "_holding") ∧ Binds K fd1 ["self"] []
  p_failing : PropOf K C "failing" p2 g2 ∧ FnOk P w K mg base CX0 1 g2 fd2 ["self"] (sp_prop C "_failing") ∧ Binds K fd2 ["self"] []
  p_names : PropOf K C "names" p3 g3 ∧ FnOk P w K mg base CX0 1 g3 fd3 ["self"] (sp_prop C "_names") ∧ Binds K fd3 ["self"] []
  lenAt : PySem.W.findIn K (.ref C) "__len__" = some (some (.ref g4))
  lenTy : PySem.W.typeIn K (.ref g4) = some (.type "function")
  lenF : FnOk P w K mg base CX0 1 g4 fd4 ["self"] (sp_len K C)
  lenB : Binds K fd4 ["self"] []
end
end Sc
namespace Sc
open PySem PySem.Spec PyProof.Rows L2
abbrev s_Condition_holding : Stmt := (inClass (topS 36) 1)
theorem sc_Condition_holding : FnScope ["self"] ["self"] (defScope s_Condition_holding) := ⟨rfl, rfl, rfl, by decide +kernel, rfl, by decide +kernel, by decide +kernel⟩
abbrev s_Condition_failing : Stmt := (inClass (topS 36) 2)
theorem sc_Condition_failing : FnScope ["self"] ["self"] (defScope s_Condition_failing) := ⟨rfl, rfl, rfl, by decide +kernel, rfl, by decide +kernel, by decide +kernel⟩
abbrev s_Condition_names : Stmt := (inClass (topS 36) 3)
theorem sc_Condition_names : FnScope ["self"] ["self"] (defScope s_Condition_names) := ⟨rfl, rfl, rfl, by decide +kernel, rfl, by decide +kernel, by decide +kernel⟩
abbrev s_Condition___len__ : Stmt := (inClass (topS 36) 5)
theorem sc_Condition___len__ : FnScope ["self"] ["self"] (defScope s_Condition___len__) := ⟨rfl, rfl, rfl, by decide +kernel, rfl, by decide +kernel, by decide +kernel⟩
section
variable {P : Program} {w : World} {K : PySem.W.Frag} {mg : Str → Option Value} {base : Heap} {C : Addr}
theorem ok_holding {f : Addr} {fd : FuncData} (F : Fun K "holding" "Condition.holding" s_Condition_holding f fd) (T : Cls K C) (n : NoAttr K C "_holding") : FnOk P w K mg base CX0 1 f fd ["self"] (sp_prop C "_holding") := by
  refine F.ok sc_Condition_holding (fun vs H Q E h => by obtain ⟨x, dx, fs, v, rfl, _⟩ := h; rfl) (fun cdv A outer s H vs Q E hr h => ?_)
  obtain ⟨x, dx, fs, v, rfl, hx, hl, q⟩ := h
  exact ⟨_, (pss_one (ps_ret (pe_fld (pv 0) rfl))), ⟨_, rfl, x, C, dx, fs, v, rfl, hx, T, n, hl, q⟩⟩
theorem ok_failing {f : Addr} {fd : FuncData} (F : Fun K "failing" "Condition.failing" s_Condition_failing f fd) (T : Cls K C) (n : NoAttr K C "_failing") : FnOk P w K mg base CX0 1 f fd ["self"] (sp_prop C "_failing") := by
  refine F.ok sc_Condition_failing (fun vs H Q E h => by obtain ⟨x, dx, fs, v, rfl, _⟩ := h; rfl) (fun cdv A outer s H vs Q E hr h => ?_)
  obtain ⟨x, dx, fs, v, rfl, hx, hl, q⟩ := h
  exact ⟨_, (pss_one (ps_ret (pe_fld (pv 0) rfl))), ⟨_, rfl, x, C, dx, fs, v, rfl, hx, T, n, hl, q⟩⟩
theorem ok_cnames {f : Addr} {fd : FuncData} (F : Fun K "names" "Condition.names" s_Condition_names f fd) (T : Cls K C) (n : NoAttr K C "_names") : FnOk P w K mg base CX0 1 f fd ["self"] (sp_prop C "_names") := by
  refine F.ok sc_Condition_names (fun vs H Q E h => by obtain ⟨x, dx, fs, v, rfl, _⟩ := h; rfl) (fun cdv A outer s H vs Q E hr h => ?_)
  obtain ⟨x, dx, fs, v, rfl, hx, hl, q⟩ := h
  exact ⟨_, (pss_one (ps_ret (pe_fld (pv 0) rfl))), ⟨_, rfl, x, C, dx, fs, v, rfl, hx, T, n, hl, q⟩⟩
theorem ok_clen {f : Addr} {fd : FuncData} (F : Fun K "__len__" "Condition.__len__" s_Condition___len__ f fd) (B : Blt mg) (T : Cls K C) (n : NoAttr K C "_names") : FnOk P w K mg base CX0 1 f fd ["self"] (sp_len K C) := by
  refine F.ok sc_Condition___len__ (fun vs H Q E h => by obtain ⟨x, dx, m, fs, zs, rfl, _⟩ := h; rfl) (fun cdv A outer s H vs Q E hr h => ?_)
  obtain ⟨x, dx, m, fs, zs, rfl, hx, hl, hz, q⟩ := h
  exact ⟨_, (pss_one (ps_ret (pe_callB call_len_seq (by rfl) B.b_len PySem.boot_len (pa_cons (pe_fld (pv 0) rfl) pa_nil)))), ⟨_, rfl, x, C, dx, fs, _, rfl, hx, T, n, hl, m, _, rfl, .inr hz, q⟩⟩
end
end Sc
namespace Sc
open PySem PySem.Spec PyProof.Rows L2
def SLe (a b : Str) : Prop := a.cps.toList ≤ b.cps.toList
theorem rising_pw : ∀ (x : Str) (r : List Str), risingS x r = true → (∀ y ∈ r, SLe x y) ∧ r.Pairwise SLe
  | _, [], _ => ⟨(fun _ h => nomatch h), List.Pairwise.nil⟩
  | x, y :: r, h => by
    have h : (!ltCps y.cps.toList x.cps.toList && risingS y r) = true := h
    rw [Bool.and_eq_true, ltCps_eq] at h
    obtain ⟨h1, h2⟩ := h
    obtain ⟨i1, i2⟩ := rising_pw y r h2
    have hxy : SLe x y := by
      have h1 : ¬ y.cps.toList < x.cps.toList := by simpa using h1
      exact h1
    refine ⟨fun z hz => ?_, List.pairwise_cons.mpr ⟨i1, i2⟩⟩
    rcases List.mem_cons.mp hz with rfl | h
    · exact hxy
    · exact List.le_trans hxy (i1 z h)
theorem sorted_pw : ∀ {r : List Str}, sortedS r = true → r.Pairwise SLe
  | [], _ => .nil
  | x :: r, h => List.pairwise_cons.mpr (rising_pw x r h)
theorem str_ext {a b : Str} (h : a.cps.toList = b.cps.toList) : a = b := by
  obtain ⟨x⟩ := a
  obtain ⟨y⟩ := b
  congr 1
  exact Array.toList_inj.mp h
theorem sorted_uniq {a b : List Str} (p : a.Perm b) (sa : sortedS a = true) (sb : sortedS b = true) : a = b :=
  List.Perm.eq_of_pairwise (le := SLe) (fun x y _ _ h1 h2 => str_ext (List.le_antisymm h1 h2)) (sorted_pw sa) (sorted_pw sb) p
end Sc
namespace OwnX
open PySem PySem.Spec PyProof.Rows PySem.W
section
variable {prog : Program} {w : World} {M : Model} {A : Around} {E : Value → Shared → Prop} {s : Shared} {K : Frag} {x C L f : Addr} {h₀ : Heap} {m : Str → Option Value} {ox : Obj} {od : Option Obj}
/-- x op b, both of the class at C -/
theorem bin_same {op : Operator} {b : Value} {Q : Value → Shared → Prop} (X : K.In s.heap) (I : InstAt s.heap x ox C od) (hb : Looks (model prog w) s.heap (typeOf b) (.ref C)) (hc : selfFirst K C = true)
    (hs : findIn K (.ref C) (PySem.dunder op.info.2) = some (some (.ref f))) (hf : isFn K (.ref f) = true)
    (h : wpAny (model prog w) A (call (.ref f) [.ref x, b]) (PySem.W.CmpBack Q) E s) : wpAny (model prog w) A (binaryOp op (.ref x) b) Q E s := by
  obtain ⟨cd, rest, hcd, hm⟩ := ksp_first hc
  rcases hi : op.info with ⟨sym, nm'⟩
  rw [hi] at hs
  dsimp only at hs
  have one := ksp_try X I hs hf h
  obtain ⟨hh, g, d, tt, os⟩ := s
  have L1 : Looks (model prog w) hh (typeOf (.ref x)) (.ref C) := I.type
  have L3 : Looks (model prog w) hh (fillsNumberSlot (.ref C) nm') true := fills_K X hcd hm hs
  simp only [binaryOp, hi]
  refine wpAny_holding (wpAny_bind ?_)
  unfold binaryOp1
  refine wpAny_bind (L1.at (wpAny_bind (hb.at (wpAny_bind (L3.at ?_)))))
  have e : (Value.ref C == Value.ref C) = true := beq_self_eq_true _
  simp only [e, if_true]
  ksp_lk
  refine wpAny_mono one (fun r s' hr' => ?_) fun _ _ e => e
  obtain ⟨v, rfl, hq⟩ := hr'
  ksp_lk
  exact hq
theorem ifBound_ne {args : List Value} {Q : Option Value → Shared → Prop} (X : K.In s.heap) (I : InstAt s.heap x ox C od) (hs : findIn K (.ref C) "__ne__" = some (some (.builtin "object.__ne__")))
    (h : wpAny M A (call (.builtin "object.__ne__") (.ref x :: args)) (fun v => Q (some v)) E s) : wpAny M A (callSpecialIfBound? (.ref x) "__ne__" args) Q E s := by
  simp only [callSpecialIfBound?, bindSpecialIfBound?]
  refine wpAny_holding (wpAny_bind (wpAny_bind (wpAny_bind (I.type.here ((looks_findIn X hs).here ?_)))))
  refine wpAny_bind (wpAny_askSetting (wpAny_ite ?_))
  have fin : wpAny M A (call (.builtin "object.__ne__") ([.ref x] ++ args) >>= fun v => pure (some v)) Q E s := wpAny_bind (wpAny_mono h (fun v s' h' => wpAny_pure h') fun _ _ h' => h')
  split
  · exact wpAny_bind (wpAny_of_eq (F.cmp_object.ne.bind _) (wpAny_pure (by exact fin)))
  · exact wpAny_tryCatch (wpAny_bind (wpAny_of_eq (F.cmp_object.ne.bind _) (wpAny_pure (by exact fin))))
theorem entry_ne {b : Value} {Q : Fin → Shared → Prop} (X : K.In s.heap) (I : InstAt s.heap x ox C od) (hs : findIn K (.ref C) "__eq__" = some (some (.ref f))) (hf : isFn K (.ref f) = true) (hu : A.units < cLine)
    (h : wpAny (model prog w) A (call (.ref f) [.ref x, b]) (fun v s' => ∃ b, v = .bool b ∧ Q (.done (.ret (.bool (!b)))) s') E s) : wpAny (model prog w) A (Builtin.«object.__ne__» ⟨[.ref x, b], []⟩) Q E s := by
  unfold Builtin.«object.__ne__»
  repeat (first
    | with_reducible refine wpAny_cRoomFor hu ?_
    | (refine wpAny_bind (m := callSpecialIfBound? (.ref x) (Str.ofString "__eq__") [b])
        (ifBound_K X I hs hf (wpAny_mono h (fun r s' hr => by
          obtain ⟨b, rfl, hq⟩ := hr
          repeat (first | exact hq | exact wpAny_pure hq | exact wpAny_truthy_bool hq | (refine wpAny_bind (m := truthy (.bool _)) (wpAny_truthy_bool ?_)) | wp_step)) fun _ _ e => e)))
    | wp_step)
theorem try_ne {b : Value} {Q : Option Value → Shared → Prop} (X : K.In s.heap) (I : InstAt s.heap x ox C od) (hm : mroIn K C (.type "object") = some true) (hn : findIn K (.ref C) "__ne__" = some (some (.builtin "object.__ne__")))
    (hs : findIn K (.ref C) "__eq__" = some (some (.ref f))) (hf : isFn K (.ref f) = true) (hu : A.units + 1 < cLine)
    (h : wpAny (model prog w) A.in1 (call (.ref f) [.ref x, b]) (fun v s' => ∃ b, v = .bool b ∧ Q (some (.bool (!b))) s') E s) : wpAny (model prog w) A (tryCompare (.ref x) "__ne__" b) Q E s := by
  unfold tryCompare
  refine wpAny_bind (ifBound_ne X I hn (wpAny_call (codeAny_call_builtin F.cmp_object.ne.plain F.cmpEntry_ne (check_slot F.cmpKind_ne F.cmpSplit_ne (I.type.andThen (looks_mroIn X hm)) (F.cmpArgs_ne _ _)
    (entry_ne (A := A.in1) X I hs hf hu (wpAny_mono h (fun v s' hv => ?_) fun _ _ e => e))))))
  obtain ⟨b, rfl, hq⟩ := hv
  first | exact ⟨b, rfl, wpAny_pure hq⟩ | exact ⟨b, rfl, wpAny_pure (wpAny_pure hq)⟩ | exact ⟨b, rfl, hq⟩
theorem ne_K {b tb : Value} {Q : Value → Shared → Prop} (hu : A.units + 1 < cLine) (X : K.In s.heap) (I : InstAt s.heap x ox C od) (hb : Looks (model prog w) s.heap (typeOf b) tb) (hnf : notFirst K C tb = true)
    (hm : mroIn K C (.type "object") = some true) (hn : findIn K (.ref C) "__ne__" = some (some (.builtin "object.__ne__"))) (hs : findIn K (.ref C) "__eq__" = some (some (.ref f))) (hf : isFn K (.ref f) = true)
    (h : wpAny (model prog w) A.in1 (call (.ref f) [.ref x, b]) (fun v s' => ∃ b, v = .bool b ∧ Q (.bool (!b)) s') E s) : wpAny (model prog w) A (richCompare .NotEq (.ref x) b) Q E s := by
  have one : wpAny (model prog w) A (tryCompare (.ref x) "__ne__" b) (fun r s' => ∃ v, r = some v ∧ Q v s') E s := try_ne X I hm hn hs hf hu (wpAny_mono h (fun v s' ⟨b, e, q⟩ => ⟨b, e, _, rfl, q⟩) fun _ _ e => e)
  unfold richCompare
  simp only [oneThing_ref]
  refine wpAny_holding (wpAny_bind (wpAny_cRoomFor (Nat.lt_of_succ_lt hu) ?_))
  rw [cmpInfo_NotEq]
  dsimp only
  refine wpAny_bind (I.type.here (wpAny_bind (hb.here ?_)))
  split
  · rename_i q
    have e : subIn K tb (.ref C) = some false := by
      rcases Bool.or_eq_true_iff.mp hnf with e | e
      · rw [beq_iff_eq.mp e] at q; simp at q
      · exact beq_iff_eq.mp e
    refine wpAny_bind ((looks_subIn X e).here ?_)
    simp only [Bool.false_eq_true, if_false]
    refine wpAny_bind (wpAny_mono one (fun r s' z => ?_) fun _ _ e => e)
    obtain ⟨v, rfl, hq⟩ := z
    exact wpAny_pure hq
  · refine wpAny_bind (wpAny_pure ?_)
    simp only [Bool.false_eq_true, if_false]
    refine wpAny_bind (wpAny_mono one (fun r s' z => ?_) fun _ _ e => e)
    obtain ⟨v, rfl, hq⟩ := z
    exact wpAny_pure hq
end
end OwnX
namespace Sc
open PySem PySem.Spec PyProof.Rows L2
/-- a value's type, as comparisons ask for it -/
inductive TyR (K : PySem.W.Frag) (H : Hp) : V → Value → Prop where
  | non : TyR K H .non (.type "NoneType")
  | int (i : Int) : TyR K H (.int i) (.type "int")
  | str (x : Str) : TyR K H (.str x) (.type "str")
  | lst {a : Addr} {xs : List V} (e : SqL K H a xs) : TyR K H (.ref a) (.type "list")
  | tup {a : Addr} {xs : List V} (e : SqT K H a xs) : TyR K H (.ref a) (.type "tuple")
  | ins {a C dx : Addr} {fs : List (Str × V)} (e : H a = some (.ins C dx fs)) : TyR K H (.ref a) (.ref C)
section
variable {X : Cx} {CX : CXT} {C g : Addr} {k : Nat} {fd : FuncData} {ps : List Str} {sp : Sp} {E : XK}
theorem TyR.looks {pins : List (Addr × Obj)} {σ : L2.St} {H : Hp} {s : Shared} {y : V} {t u : Value} (I : Inv X pins σ H s) (h : TyR X.K H y t) (r : RelV y u) {prog : Program} {w : World} : PySem.W.Looks (model prog w) s.heap (typeOf u) t := by
  cases h with
  | non => cases r; exact PySem.W.Looks.of_pure rfl
  | int i => obtain ⟨t, rfl⟩ := r; exact PySem.W.Looks.of_pure rfl
  | str i => obtain ⟨t, rfl⟩ := r; exact PySem.W.Looks.of_pure rfl
  | lst e =>
    cases r
    obtain ⟨its, _, ⟨o, n, ho, hc, _⟩, _⟩ := I.list e
    exact fun A Q E s k q => wpAny_typeOf_ref (k _ _ ho) (by rw [hc]; exact q)
  | tup e =>
    cases r
    obtain ⟨its, _, ⟨o, ho, hc, _⟩, _⟩ := I.tuple e
    exact fun A Q E s k q => wpAny_typeOf_ref (k _ _ ho) (by rw [hc]; exact q)
  | ins e =>
    cases r
    obtain ⟨mA, O, _⟩ := ins_get I.hok e
    obtain ⟨od, J, _⟩ := O.look
    exact J.type
/-- x == y, x of the class at C with its own __eq__ at g -/
def rEqO (K : PySem.W.Frag) (C : Addr) (sp : Sp) (E : XK) : R2 := fun x y H Q => ∃ (a dx : Addr) (fs : List (Str × V)) (tb : Value), x = .ref a ∧ H a = some (.ins C dx fs) ∧ TyR K H y tb ∧ PySem.W.notFirst K C tb = true ∧ sp [x, y] H Q E
theorem op_eqO (hs : PySem.W.findIn X.K (.ref C) "__eq__" = some (some (.ref g))) (hf : PySem.W.isFn X.K (.ref g) = true) (F : FnOk X.prog X.w X.K X.mg X.base CX k g fd ps sp) (hr : Room k X.A) (hb : Binds X.K fd ps []) (hx : Passes CX X E) : OpR X (compareOp .Eq) (rEqO X.K C sp E) := by
  intro pins s σ H x y v u Q I rx ry h
  obtain ⟨a, dx, fs, tb, rfl, ha, hy, hn, q⟩ := h
  cases (show v = Value.ref a from rx)
  obtain ⟨mA, O, _⟩ := ins_get I.hok ha
  obtain ⟨od, J, _⟩ := O.look
  obtain ⟨m, hF⟩ := I.fr
  show wpAny _ _ (richCompare .Eq _ _) _ _ _
  refine PySem.W.cmp_K (op := .Eq) (tb := tb) hr.units0 hF I.ok.mod.kin J (hy.looks I ry) hn hs hf ?_
  refine wpAny_mono (run_fn (us := [.ref a, u]) (vs := [.ref a, y]) (dvs := []) F hr hb .nil hx I (.cons rfl (.cons ry .nil)) q) (fun w s' z => ?_) fun _ _ x => x
  obtain ⟨z', H', I', rz, qz⟩ := z
  exact SlX.cmpback rz ⟨z', H', I', rz, qz⟩
/-- x != y by the same -/
def rNeO (K : PySem.W.Frag) (C : Addr) (sp : Sp) (E : XK) : R2 := fun x y H Q => ∃ (a dx : Addr) (fs : List (Str × V)) (tb : Value), x = .ref a ∧ H a = some (.ins C dx fs) ∧ TyR K H y tb ∧ PySem.W.notFirst K C tb = true ∧ sp [x, y] H (fun v H' => ∃ b, v = .bl b ∧ Q (.bl (!b)) H') E
theorem op_neO (hm : PySem.W.mroIn X.K C (.type "object") = some true) (hne : PySem.W.findIn X.K (.ref C) "__ne__" = some (some (.builtin "object.__ne__"))) (hs : PySem.W.findIn X.K (.ref C) "__eq__" = some (some (.ref g))) (hf : PySem.W.isFn X.K (.ref g) = true)
    (F : FnOk X.prog X.w X.K X.mg X.base CX k g fd ps sp) (hr : Room (k + 1) X.A) (hb : Binds X.K fd ps []) (hx : Passes CX X E) : OpR X (compareOp .NotEq) (rNeO X.K C sp E) := by
  intro pins s σ H x y v u Q I rx ry h
  obtain ⟨a, dx, fs, tb, rfl, ha, hy, hn, q⟩ := h
  cases (show v = Value.ref a from rx)
  obtain ⟨mA, O, _⟩ := ins_get I.hok ha
  obtain ⟨od, J, _⟩ := O.look
  show wpAny _ _ (richCompare .NotEq _ _) _ _ _
  have hu : X.A.units + 1 < cLine := by have := hr.un; omega
  refine OwnX.ne_K hu I.kIn J (hy.looks I ry) hn hm hne hs hf ?_
  have hl : ([Value.ref a, u] ++ ([] : List Value)).length = ps.length := F.len _ _ _ _ q
  refine wpAny_call (codeAny_mono (F.run X.A.in1 X.stack s H ⟨[.ref a, u], []⟩ [.ref a, u] [.ref a, y] _ _ hr.in1 I.env0.in1 (hb s [.ref a, u] I.kIn hl) (.cons rfl (.cons ry .nil)) q) fun r s' hq => ?_)
  cases r with
  | error e => exact hx pins σ H s e s' I hq
  | ok fl =>
    cases fl with
    | ret w =>
      obtain ⟨v, H', I', rv, b, rfl, qz⟩ := I.after hq
      cases rv
      exact ⟨b, rfl, .bl (!b), H', I', rfl, qz⟩
    | next => exact hq.elim
    | brk => exact hq.elim
    | cont => exact hq.elim
/-- x op y, both of the class at C, whose own method for op is at g -/
def rBinO (C : Addr) (sp : Sp) (E : XK) : R2 := fun x y H Q => ∃ (a dx : Addr) (fs : List (Str × V)) (b dy : Addr) (gs : List (Str × V)), x = .ref a ∧ y = .ref b ∧ H a = some (.ins C dx fs) ∧ H b = some (.ins C dy gs) ∧ sp [x, y] H Q E
theorem op_binO {op : Operator} (hc : PySem.W.selfFirst X.K C = true) (hs : PySem.W.findIn X.K (.ref C) (PySem.dunder op.info.2) = some (some (.ref g))) (hf : PySem.W.isFn X.K (.ref g) = true)
    (F : FnOk X.prog X.w X.K X.mg X.base CX k g fd ps sp) (hr : Room k X.A) (hb : Binds X.K fd ps []) (hx : Passes CX X E) : OpR X (binaryOp op) (rBinO C sp E) := by
  intro pins s σ H x y v u Q I rx ry h
  obtain ⟨a, dx, fs, b, dy, gs, rfl, rfl, ha, hy, q⟩ := h
  cases (show v = Value.ref a from rx)
  cases (show u = Value.ref b from ry)
  obtain ⟨mA, O, _⟩ := ins_get I.hok ha
  obtain ⟨od, J, _⟩ := O.look
  obtain ⟨mA', O', _⟩ := ins_get I.hok hy
  obtain ⟨od', J', _⟩ := O'.look
  refine OwnX.bin_same I.kIn J J'.type hc hs hf ?_
  refine wpAny_mono (run_fn (us := [.ref a, .ref b]) (vs := [.ref a, .ref b]) (dvs := []) F hr hb .nil hx I (.cons rfl (.cons rfl .nil)) q) (fun w s' z => ?_) fun _ _ x => x
  obtain ⟨z', H', I', rz, qz⟩ := z
  exact SlX.cmpback rz ⟨z', H', I', rz, qz⟩
end
end Sc
namespace Sc
open PySem PySem.Spec PyProof.Rows L2
/-- texts that can be compared and are not long -/
def Fine (x : Str) : Prop := x.length ≤ 1000 ∧ (PyData.str x).canLay0 = true
def Fines (xs : List Str) : Prop := ∀ x ∈ xs, Fine x
section
variable {P : Program} {w : World} {K : PySem.W.Frag} {mg : Str → Option Value} {base : Heap} {a l : Addr} {H H' H'' : Hp}
theorem Fines.txts {xs : List Str} (h : Fines xs) : Txts xs := fun x hx => (h x hx).1
theorem dps (K : PySem.W.Frag) (H : Hp) : ∀ xs : List Str, DpAll K H (xs.map V.str) (xs.map PyData.str)
  | [] => .nil
  | x :: r => .cons (.str x) (dps K H r)
theorem strs_lay : ∀ {xs : List Str}, Fines xs → PyData.canLayAll0 (xs.map PyData.str) = true
  | [], _ => rfl
  | x :: r, h => by
    show ((PyData.str x).canLay0 && PyData.canLayAll0 (r.map PyData.str)) = true
    rw [(h x List.mem_cons_self).2, strs_lay fun y hy => h y (List.mem_cons_of_mem x hy)]
    rfl
theorem strs_depth : ∀ xs : List Str, PyData.depthAll (xs.map PyData.str) = 0
  | [] => rfl
  | x :: r => by
    show max (PyData.str x).depth (PyData.depthAll (r.map PyData.str)) = 0
    rw [strs_depth r]
    rfl
theorem shT {xs : List Str} (h : Fines xs) : SeqAt.shaped (.tuple (xs.map PyData.str)) = true := by
  unfold SeqAt.shaped
  have e1 : (PyData.tuple (xs.map PyData.str)).canLay0 = true := strs_lay h
  have e2 : (PyData.tuple (xs.map PyData.str)).depth = 1 := by show PyData.depthAll (xs.map PyData.str) + 1 = 1; rw [strs_depth]
  rw [e1, e2]
  rfl
theorem shL {xs : List Str} (h : Fines xs) : SeqAt.shaped (.list (xs.map PyData.str)) = true := by
  unfold SeqAt.shaped
  have e1 : (PyData.list (xs.map PyData.str)).canLay0 = true := strs_lay h
  have e2 : (PyData.list (xs.map PyData.str)).depth = 1 := by show PyData.depthAll (xs.map PyData.str) + 1 = 1; rw [strs_depth]
  rw [e1, e2]
  rfl
theorem eqvA_nil : ∀ xs : List Str, PyData.eqvAll (xs.map PyData.str) [] = decide (xs = [])
  | [] => rfl
  | _ :: _ => rfl
theorem eqvA : ∀ xs ys : List Str, PyData.eqvAll (xs.map PyData.str) (ys.map PyData.str) = decide (xs = ys)
  | [], [] => rfl
  | [], _ :: _ => rfl
  | _ :: _, [] => rfl
  | x :: r, y :: t => by
    show ((x == y) && PyData.eqvAll (r.map PyData.str) (t.map PyData.str)) = _
    rw [eqvA r t]
    by_cases h : x = y
    · subst h
      simp
    · have e : (x == y) = false := by simpa using h
      rw [e, Bool.false_and, decide_eq_false fun z => h (List.cons.inj z).1]
def chr1 (c : Nat) : Str := ⟨#[c]⟩
def oddL (x : Str) (i : Nat) : List Str := ((x.cps.toList.take i).filter fun c => !decide (c ∈ letters.cps.toList)).map chr1
theorem oddL_len {x : Str} {i : Nat} : (oddL x i).length ≤ x.length := by
  unfold oddL
  rw [List.length_map]
  exact Nat.le_trans (List.length_filter_le _ _) (by rw [List.length_take]; exact Nat.min_le_right _ _)
theorem oddL_fine {x : Str} {i : Nat} (h : Fine x) : Fines (oddL x i) := by
  intro y hy
  unfold oddL at hy
  obtain ⟨c, hc, rfl⟩ := List.mem_map.mp hy
  have hc := List.mem_of_mem_take (List.mem_filter.mp hc).1
  refine ⟨(show 1 ≤ 1000 by decide), ?_⟩
  have h2 : PyData.strOk x = true := h.2
  show PyData.strOk (chr1 c) = true
  unfold PyData.strOk at h2 ⊢
  rw [Array.all_eq_true'] at h2
  have h3 := h2 c (by rw [← Array.mem_toList_iff]; exact hc)
  rw [Array.all_eq_true']
  intro y hy
  have ey : y = c := by
    have hy : y ∈ (#[c] : Array Nat) := hy
    simpa using hy
  subst ey
  exact h3
theorem oddL_nil {x : Str} : decide (oddL x x.length = []) = isLetters x := by
  have el : x.cps.toList.take x.length = x.cps.toList := List.take_of_length_le (by rw [Array.length_toList]; exact Nat.le_refl _)
  unfold oddL isLetters
  rw [el]
  cases h : x.cps.toList.all fun c => decide (c ∈ letters.cps.toList) with
  | true =>
    rw [List.all_eq_true] at h
    have e : (x.cps.toList.filter fun c => !decide (c ∈ letters.cps.toList)) = [] := by
      rw [List.filter_eq_nil_iff]
      intro c hc z
      rw [h c hc] at z
      cases z
    rw [e]
    rfl
  | false =>
    rw [decide_eq_false]
    intro z
    have z := List.map_eq_nil_iff.mp z
    rw [List.filter_eq_nil_iff] at z
    rw [List.all_eq_false] at h
    obtain ⟨c, hc, hn⟩ := h
    exact z c hc (by cases e : decide (c ∈ letters.cps.toList) with | true => exact absurd e hn | false => rfl)
theorem risesAt_eq {xs : List Str} {i : Nat} (hi : i < xs.length) (h0 : i ≠ 0) (h1 : i - 1 < xs.length) : risesAt xs i = decide (xs[i - 1].cps.toList < xs[i].cps.toList) := by
  unfold risesAt
  rw [decide_eq_false h0, Bool.false_or, List.getElem?_eq_getElem h1, List.getElem?_eq_getElem hi]
theorem risesAt_0 {xs : List Str} : risesAt xs 0 = true := rfl
theorem strG {xs : List Str} {i : Nat} (hi : i < xs.length) : (xs.map V.str)[i]? = some (.str xs[i]) := by rw [List.getElem?_map, List.getElem?_eq_getElem hi]; rfl
theorem small_lim {z : Int} (h0 : 0 ≤ z) (h1 : z ≤ 1000) : z.natAbs.log2 < 9000 := by
  by_cases e : z.natAbs = 0
  · rw [e]; decide
  · exact (Nat.log2_lt e).mpr (Nat.lt_of_le_of_lt (show z.natAbs ≤ 2 ^ 10 by omega) (Nat.pow_lt_pow_right (by decide) (by decide)))
end
end Sc
namespace Sc
open PySem PySem.Spec PyProof.Rows L2
/-! ### what a condition does -/
abbrev s_Condition___call__ : Stmt := (inClass (topS 36) 4)
theorem sc_Condition___call__ : FnScope ["self", "case", "held", "name"] ["self", "case"] (defScope s_Condition___call__) := ⟨rfl, rfl, rfl, by decide +kernel, rfl, by decide +kernel, by decide +kernel⟩
/-- the texts in their order -/
def srt (l : List Str) : List Str := l.mergeSort fun a b => decide (a.cps.toList ≤ b.cps.toList)
theorem srt_perm (l : List Str) : (srt l).Perm l := List.mergeSort_perm _ _
theorem rising_of : ∀ (x : Str) (r : List Str), (∀ y ∈ r, SLe x y) → r.Pairwise SLe → risingS x r = true
  | _, [], _, _ => rfl
  | x, y :: r, h1, h2 => by
    have h2 := List.pairwise_cons.mp h2
    show (!ltCps y.cps.toList x.cps.toList && risingS y r) = true
    rw [Bool.and_eq_true, ltCps_eq]
    refine ⟨?_, rising_of y r h2.1 h2.2⟩
    have h3 : x.cps.toList ≤ y.cps.toList := h1 y List.mem_cons_self
    rw [decide_eq_false (show ¬ y.cps.toList < x.cps.toList from fun z => List.not_lt.mpr h3 z)]
    rfl
theorem sorted_of : ∀ {r : List Str}, r.Pairwise SLe → sortedS r = true
  | [], _ => rfl
  | x :: r, h => rising_of x r (List.pairwise_cons.mp h).1 (List.pairwise_cons.mp h).2
theorem srt_sorted (l : List Str) : sortedS (srt l) = true := by
  refine sorted_of ((List.pairwise_mergeSort (le := fun a b : Str => decide (a.cps.toList ≤ b.cps.toList)) (fun a b c h1 h2 => ?_) (fun a b => ?_) l).imp fun h => of_decide_eq_true h)
  · exact decide_eq_true (List.le_trans (of_decide_eq_true h1) (of_decide_eq_true h2))
  · rw [Bool.or_eq_true]
    rcases List.le_total a.cps.toList b.cps.toList with h | h
    · exact .inl (decide_eq_true h)
    · exact .inr (decide_eq_true h)
/-- an object Condition -/
structure CondAt (K : PySem.W.Frag) (C : Addr) (H : Hp) (o : Addr) (hs fs : List Str) : Prop where
  at_ : ∃ (dx a b n : Addr) (zs : List Str), H o = some (.ins C dx (condF a b n)) ∧ SqT K H a (hs.map V.str) ∧ SqT K H b (fs.map V.str) ∧ H n = some (.tup (zs.map V.str)) ∧ zs = srt (hs ++ fs)
theorem CondAt.same {K : PySem.W.Frag} {C : Addr} {H H' : Hp} {o : Addr} {hs fs : List Str} (h : CondAt K C H o hs fs) (s : Same H H') : CondAt K C H' o hs fs := by
  obtain ⟨dx, a, b, n, zs, h1, h2, h3, h4, h5⟩ := h.at_
  exact ⟨dx, a, b, n, zs, s _ _ h1, s.tup h2, s.tup h3, s _ _ h4, h5⟩
def meets (hs fs case : List Str) : Bool := (hs.all fun x => decide (x ∈ case)) && !(fs.any fun x => decide (x ∈ case))
section
variable {P : Program} {w : World} {K : PySem.W.Frag} {mg : Str → Option Value} {base : Heap} {CC C : Addr}
/-- [name in case for name in xs]: the truths -/
theorem inAll {H1 : Hp} {D c : Addr} {xs cs : List Str} {W : Nat} {X : Cx} {σ : L2.St} : True := trivial
def sp_ccall (K : PySem.W.Frag) (C : Addr) : Sp := fun vs H Q _ => ∃ (o c : Addr) (hs fs cs : List Str), vs = [.ref o, .ref c] ∧ CondAt K C H o hs fs ∧ SqT K H c (cs.map V.str) ∧ hs.length ≤ 1000 ∧ fs.length ≤ 1000 ∧ ∀ H', Same H H' → Q (.bl (meets hs fs cs)) H'
theorem ok_ccall {f : Addr} {fd : FuncData} (F : Fun K "__call__" "Condition.__call__" s_Condition___call__ f fd) (B : Blt mg) (T : Cls K C) (n1 : NoAttr K C "_holding") (n2 : NoAttr K C "_failing") : FnOk P w K mg base CX0 1 f fd ["self", "case"] (sp_ccall K C) := by
  refine F.ok sc_Condition___call__ (fun vs H Q E h => by obtain ⟨o, c, hs, fs, cs, rfl, _⟩ := h; rfl) (fun cdv A outer s H vs Q E hr h => ?_)
  obtain ⟨o, c, hs, fs, cs, rfl, hC, hc, l1, l2, q⟩ := h
  obtain ⟨dx, a, b, n, zs, ho, ha, hb, _⟩ := hC.at_
  refine ⟨_, (pss_cons (ps_set (i := 2) sc_Condition___call__.nd rfl (Or.inl rfl) (pe_callB (cr_all rfl) (by rfl) B.b_all PyProof.Rows.boot_all (pa_cons (pe_lc (own := [("name", 3)]) (g := gName 3) (tt := tYes) rfl sc_Condition___call__.nd (pi_tup (pe_fld (pv 0) rfl)) (blkOk_by (own := [("name", 3)]) (N := ["self", "case", "held", "name"]) (sc := defScope s_Condition___call__) (by decide +kernel)) (fun _ _ _ _ _ => (pg_name (i := 3) sc_Condition___call__.nd rfl (Or.inl rfl))) (fun _ _ _ _ _ => pts_nil) (fun _ _ _ _ _ => (pe_.re (pe_cmpR op_in_seq (pv 3) (pv 1) rfl) (by first | (dsimp only [Cx.blk]; done) | exact rfl)))) pa_nil)))
      (pss_one (ps_ret (pe_and (pv 2) (pe_one (pe_not (pe_callB (cr_any rfl) (by rfl) B.b_any (by decide +kernel) (pa_cons (pe_lc (own := [("name", 3)]) (g := gName 3) (tt := tYes) rfl sc_Condition___call__.nd (pi_tup (pe_fld (pv 0) rfl)) (blkOk_by (own := [("name", 3)]) (N := ["self", "case", "held", "name"]) (sc := defScope s_Condition___call__) (by decide +kernel)) (fun _ _ _ _ _ => (pg_name (i := 3) sc_Condition___call__.nd rfl (Or.inl rfl))) (fun _ _ _ _ _ => pts_nil) (fun _ _ _ _ _ => (pe_.re (pe_cmpR op_in_seq (pv 3) (pv 1) rfl) (by first | (dsimp only [Cx.blk]; done) | exact rfl)))) pa_nil)))))))), ?_⟩
  refine ⟨_, rfl, o, C, dx, _, .ref a, rfl, ho, T, n1, rfl, a, rfl, ⟨_, ha⟩, fun D nD => lc_it walk_tup (fun i H' => Same H H' ∧ H' D = some (.lst ((hs.take i).map fun x => V.bl (decide (x ∈ cs))))) ⟨(Same.refl H).put nD, upd_same⟩ (fun _ _ _ h => h.1.tup ha) ?_ ?_⟩
  · rintro i y H2 H3 hi ⟨s, e⟩ ⟨rfl, hy⟩
    rw [List.length_map] at hi
    have hx : hs[i]? = some hs[i] := List.getElem?_eq_getElem hi
    obtain rfl : V.str hs[i] = y := strAt_inj hx hy
    refine ⟨rfl, yes_ ⟨_, rfl, _, rfl, c, _, rfl, .inr (s.tup hc), rfl, flat_strs cs, grow (acc := fun i => (hs.take i).map fun x => V.bl (decide (x ∈ cs))) nD s e ?_ ?_⟩⟩
    · rw [List.length_map, List.length_take]
      exact small1000 (by omega)
    · show List.map _ _ = _
      rw [take_more hx, List.map_append]
      simp only [List.map_cons, List.map_nil, inV_str]
      rfl
  · rintro H2 ⟨s, e⟩
    rw [List.length_map, List.take_length] at e
    refine ⟨D, hs.map fun x => decide (x ∈ cs), rfl, sqL_of (by rw [e, List.map_map]; rfl), ?_⟩
    refine ⟨_, rfl, _, rfl, bcase (fun c1 => ?_) (fun c1 => ?_)⟩
    · refine ⟨_, rfl, o, C, dx, _, .ref b, rfl, s _ _ ho, T, n2, rfl, b, rfl, ⟨_, s.tup hb⟩, fun D2 nD2 => lc_it walk_tup (fun i H' => Same H2 H' ∧ H' D2 = some (.lst ((fs.take i).map fun x => V.bl (decide (x ∈ cs))))) ⟨(Same.refl H2).put nD2, upd_same⟩ (fun _ _ _ h => (s.trans h.1).tup hb) ?_ ?_⟩
      · rintro i y H4 H3 hi ⟨s2, e2⟩ ⟨rfl, hy⟩
        rw [List.length_map] at hi
        have hx : fs[i]? = some fs[i] := List.getElem?_eq_getElem hi
        obtain rfl : V.str fs[i] = y := strAt_inj hx hy
        refine ⟨rfl, yes_ ⟨_, rfl, _, rfl, c, _, rfl, .inr ((s.trans s2).tup hc), rfl, flat_strs cs, grow (acc := fun i => (fs.take i).map fun x => V.bl (decide (x ∈ cs))) nD2 s2 e2 ?_ ?_⟩⟩
        · rw [List.length_map, List.length_take]
          exact small1000 (by omega)
        · show List.map _ _ = _
          rw [take_more hx, List.map_append]
          simp only [List.map_cons, List.map_nil, inV_str]
          rfl
      · rintro H4 ⟨s2, e2⟩
        rw [List.length_map, List.take_length] at e2
        refine ⟨D2, fs.map fun x => decide (x ∈ cs), rfl, sqL_of (by rw [e2, List.map_map]; rfl), ?_⟩
        refine ⟨_, rfl, ?_⟩
        have em : meets hs fs cs = !((fs.map fun x => decide (x ∈ cs)).any id) := by
          unfold meets
          rw [List.any_map]
          have c1 : (hs.all fun x => decide (x ∈ cs)) = true := by rw [List.all_map] at c1; exact c1
          rw [c1, Bool.true_and]
          rfl
        rw [← em]
        exact q H4 (s.trans s2)
    · have em : meets hs fs cs = false := by
        unfold meets
        have c1 : (hs.all fun x => decide (x ∈ cs)) = false := by rw [List.all_map] at c1; exact c1
        rw [c1, Bool.false_and]
      rw [← em]
      exact q H2 s
/-! ### within -/
abbrev s_Condition_within : Stmt := (inClass (topS 36) 8)
theorem sc_Condition_within : FnScope ["self", "other", "held", "name"] ["self", "other"] (defScope s_Condition_within) := ⟨rfl, rfl, rfl, by decide +kernel, rfl, by decide +kernel, by decide +kernel⟩
def withinC (hs fs gs ks : List Str) : Bool := (gs.all fun x => decide (x ∈ hs)) && (ks.all fun x => decide (x ∈ fs))
def sp_within (K : PySem.W.Frag) (C : Addr) : Sp := fun vs H Q _ => ∃ (o o2 : Addr) (hs fs gs ks : List Str), vs = [.ref o, .ref o2] ∧ CondAt K C H o hs fs ∧ CondAt K C H o2 gs ks ∧ gs.length ≤ 1000 ∧ ks.length ≤ 1000 ∧ ∀ H', Same H H' → Q (.bl (withinC hs fs gs ks)) H'
/-- the getters -/
abbrev PropC (P : Program) (w : World) (K : PySem.W.Frag) (mg : Str → Option Value) (base : Heap) (C p g : Addr) (fd : FuncData) (n f : Str) : Prop := PropOf K C n p g ∧ FnOk P w K mg base CX0 1 g fd ["self"] (sp_prop C f) ∧ Binds K fd ["self"] []
theorem ok_within {f p1' g1 p2' g2 : Addr} {fd fd1 fd2 : FuncData} (F : Fun K "within" "Condition.within" s_Condition_within f fd) (B : Blt mg) (T : Cls K C) (n1 : NoAttr K C "_holding") (n2 : NoAttr K C "_failing")
    (p1 : PropC P w K mg base C p1' g1 fd1 "holding" "_holding") (p2 : PropC P w K mg base C p2' g2 fd2 "failing" "_failing") : FnOk P w K mg base CX0 3 f fd ["self", "other"] (sp_within K C) := by
  refine F.ok sc_Condition_within (fun vs H Q E h => by obtain ⟨o, c, hs, fs, gs, ks, rfl, _⟩ := h; rfl) (fun cdv A outer s H vs Q E hr h => ?_)
  obtain ⟨o, o2, hs, fs, gs, ks, rfl, hC, hD, l1, l2, q⟩ := h
  obtain ⟨dx, a, b, n, zs, ho, ha, hb, _⟩ := hC.at_
  obtain ⟨dx2, a2, b2, n2', zs2, ho2, ha2, hb2, _⟩ := hD.at_
  have lk1 : (condF a2 b2 n2').lookup ("_holding" : Str) = some (.ref a2) := rfl
  have lk2 : (condF a2 b2 n2').lookup ("_failing" : Str) = some (.ref b2) := rfl
  refine ⟨_, (pss_cons (ps_set (i := 2) sc_Condition_within.nd rfl (Or.inl rfl) (pe_callB (cr_all rfl) (by rfl) B.b_all PyProof.Rows.boot_all (pa_cons (pe_lc (own := [("name", 3)]) (g := gName 3) (tt := tYes) rfl sc_Condition_within.nd (pi_tup (pe_prop (pv 1) T p1.1 p1.2.1 (hr.mono (by decide)) p1.2.2 .nil pass0 rfl)) (blkOk_by (own := [("name", 3)]) (N := ["self", "other", "held", "name"]) (sc := defScope s_Condition_within) (by decide +kernel)) (fun _ _ _ _ _ => (pg_name (i := 3) sc_Condition_within.nd rfl (Or.inl rfl))) (fun _ _ _ _ _ => pts_nil) (fun _ _ _ _ _ => (pe_.re (pe_cmpR op_in_seq (pv 3) (pe_fld (pv 0) rfl) rfl) (by first | (dsimp only [Cx.blk]; done) | exact rfl)))) pa_nil)))
      (pss_one (ps_ret (pe_and (pv 2) (pe_one (pe_callB (cr_all rfl) (by rfl) B.b_all PyProof.Rows.boot_all (pa_cons (pe_lc (own := [("name", 3)]) (g := gName 3) (tt := tYes) rfl sc_Condition_within.nd (pi_tup (pe_prop (pv 1) T p2.1 p2.2.1 (hr.mono (by decide)) p2.2.2 .nil pass0 rfl)) (blkOk_by (own := [("name", 3)]) (N := ["self", "other", "held", "name"]) (sc := defScope s_Condition_within) (by decide +kernel)) (fun _ _ _ _ _ => (pg_name (i := 3) sc_Condition_within.nd rfl (Or.inl rfl))) (fun _ _ _ _ _ => pts_nil) (fun _ _ _ _ _ => (pe_.re (pe_cmpR op_in_seq (pv 3) (pe_fld (pv 0) rfl) rfl) (by first | (dsimp only [Cx.blk]; done) | exact rfl)))) pa_nil))))))), ?_⟩
  refine ⟨_, rfl, o2, dx2, _, rfl, ho2, ⟨o2, dx2, _, _, rfl, ho2, lk1, ?_⟩⟩
  refine ⟨a2, rfl, ⟨_, ha2⟩, fun D nD => lc_it walk_tup (fun i H' => Same H H' ∧ H' D = some (.lst ((gs.take i).map fun x => V.bl (decide (x ∈ hs))))) ⟨(Same.refl H).put nD, upd_same⟩ (fun _ _ _ h => h.1.tup ha2) ?_ ?_⟩
  · rintro i y H2 H3 hi ⟨s, e⟩ ⟨rfl, hy⟩
    rw [List.length_map] at hi
    have hx : gs[i]? = some gs[i] := List.getElem?_eq_getElem hi
    obtain rfl : V.str gs[i] = y := strAt_inj hx hy
    refine ⟨rfl, yes_ ⟨_, rfl, _, rfl, o, C, dx, _, .ref a, rfl, s _ _ ho, T, n1, rfl, a, _, rfl, .inr (s.tup ha), rfl, flat_strs hs, grow (acc := fun i => (gs.take i).map fun x => V.bl (decide (x ∈ hs))) nD s e ?_ ?_⟩⟩
    · rw [List.length_map, List.length_take]
      exact small1000 (by omega)
    · show List.map _ _ = _
      rw [take_more hx, List.map_append]
      simp only [List.map_cons, List.map_nil, inV_str]
      rfl
  · rintro H2 ⟨s, e⟩
    rw [List.length_map, List.take_length] at e
    refine ⟨D, gs.map fun x => decide (x ∈ hs), rfl, sqL_of (by rw [e, List.map_map]; rfl), ?_⟩
    refine ⟨_, rfl, _, rfl, bcase (fun c1 => ?_) (fun c1 => ?_)⟩
    · refine ⟨_, rfl, o2, dx2, _, rfl, s _ _ ho2, ⟨o2, dx2, _, _, rfl, s _ _ ho2, lk2, ?_⟩⟩
      refine ⟨b2, rfl, ⟨_, s.tup hb2⟩, fun D2 nD2 => lc_it walk_tup (fun i H' => Same H2 H' ∧ H' D2 = some (.lst ((ks.take i).map fun x => V.bl (decide (x ∈ fs))))) ⟨(Same.refl H2).put nD2, upd_same⟩ (fun _ _ _ h => (s.trans h.1).tup hb2) ?_ ?_⟩
      · rintro i y H4 H3 hi ⟨s2, e2⟩ ⟨rfl, hy⟩
        rw [List.length_map] at hi
        have hx : ks[i]? = some ks[i] := List.getElem?_eq_getElem hi
        obtain rfl : V.str ks[i] = y := strAt_inj hx hy
        have s3 := s.trans s2
        refine ⟨rfl, yes_ ⟨_, rfl, _, rfl, o, C, dx, _, .ref b, rfl, s3 _ _ ho, T, n2, rfl, b, _, rfl, .inr (s3.tup hb), rfl, flat_strs fs, grow (acc := fun i => (ks.take i).map fun x => V.bl (decide (x ∈ fs))) nD2 s2 e2 ?_ ?_⟩⟩
        · rw [List.length_map, List.length_take]
          exact small1000 (by omega)
        · show List.map _ _ = _
          rw [take_more hx, List.map_append]
          simp only [List.map_cons, List.map_nil, inV_str]
          rfl
      · rintro H4 ⟨s2, e2⟩
        rw [List.length_map, List.take_length] at e2
        refine ⟨D2, ks.map fun x => decide (x ∈ fs), rfl, sqL_of (by rw [e2, List.map_map]; rfl), ?_⟩
        have em : withinC hs fs gs ks = (ks.map fun x => decide (x ∈ fs)).all id := by
          unfold withinC
          have c1 : (gs.all fun x => decide (x ∈ hs)) = true := by rw [List.all_map] at c1; exact c1
          rw [c1, Bool.true_and, List.all_map]
          rfl
        rw [← em]
        exact q H4 (s.trans s2)
    · have em : withinC hs fs gs ks = false := by
        unfold withinC
        have c1 : (gs.all fun x => decide (x ∈ hs)) = false := by rw [List.all_map] at c1; exact c1
        rw [c1, Bool.false_and]
      rw [← em]
      exact q H2 s
/-! ### == -/
abbrev s_Condition___eq__ : Stmt := (inClass (topS 36) 7)
theorem sc_Condition___eq__ : FnScope ["self", "other"] ["self", "other"] (defScope s_Condition___eq__) := ⟨rfl, rfl, rfl, by decide +kernel, rfl, by decide +kernel, by decide +kernel⟩
theorem dp_strs {H : Hp} {a : Addr} {xs : List Str} (h : SqT K H a (xs.map V.str)) : Dp K H (.ref a) (.tuple (xs.map PyData.str)) := .tup h (dps K H xs)
/-- what isinstance asks of the class at C -/
structure IsiC (K : PySem.W.Frag) (C : Addr) : Prop where
  ca : PySem.W.findIn K (.ref C) "__class__" = some (some (.builtin "object.__class__"))
  cn : PySem.W.specialIn K (.builtin "object.__class__") "__get__" = some (some (.builtin "getset_descriptor.__get__"))
  ct : PySem.W.takesIn K (.builtin "object.__class__") = some true
  cm : PySem.W.mroIn K C (.type "object") = some true
  me : PySem.W.kitOne K (.ref C) (.ref C) = some true
def sp_ceq (K : PySem.W.Frag) (C : Addr) : Sp := fun vs H Q _ => ∃ (o : Addr) (y : V) (hs fs : List Str), vs = [.ref o, y] ∧ CondAt K C H o hs fs ∧ Fines hs ∧ Fines fs ∧
  ((∃ (o2 : Addr) (gs ks : List Str), y = .ref o2 ∧ CondAt K C H o2 gs ks ∧ Fines gs ∧ Fines ks ∧ Q (.bl (decide (hs = gs) && decide (fs = ks))) H) ∨ (∃ t : Value, TyOf K H y t ∧ PySem.W.kitOne K t (.ref C) = some false ∧ Q (.bl false) H))
theorem ok_ceq {f : Addr} {fd : FuncData} (F : Fun K "__eq__" "Condition.__eq__" s_Condition___eq__ f fd) (B : Blt mg) (T : Cls K C) (n1 : NoAttr K C "_holding") (n2 : NoAttr K C "_failing") (mC : mg "Condition" = some (.ref C)) (I : IsiC K C) : FnOk P w K mg base CX0 1 f fd ["self", "other"] (sp_ceq K C) := by
  refine F.ok sc_Condition___eq__ (fun vs H Q E h => by obtain ⟨o, y, hs, fs, rfl, _⟩ := h; rfl) (fun cdv A outer s H vs Q E hr h => ?_)
  obtain ⟨o, y, hs, fs, rfl, hC, f1, f2, q⟩ := h
  obtain ⟨dx, a, b, n, zs, ho, ha, hb, _⟩ := hC.at_
  refine ⟨_, (pss_one (ps_ret (pe_and (pe_callB call_isi (by rfl) B.b_isinstance PyProof.Rows.boot_isinstance (pa_cons (pv 1) (pa_cons (pe_glob (v := .ref _) rfl mC rfl) pa_nil))) (pe_and (pe_cmpR (op_eqD hr.units) (pe_fld (pv 0) rfl) (pe_fld (pv 1) rfl) (nomark _)) (pe_one (pe_cmpR (op_eqD hr.units) (pe_fld (pv 0) rfl) (pe_fld (pv 1) rfl) (nomark _))))))), ?_⟩
  rcases q with ⟨o2, gs, ks, rfl, hD, f3, f4, q⟩ | ⟨t, ht, hk, q⟩
  · obtain ⟨dx2, a2, b2, n2', zs2, ho2, ha2, hb2, _⟩ := hD.at_
    refine ⟨_, rfl, _, _, _, _, _, rfl, .own _, .base (.ins ho2 T I.ca I.cn I.ct I.cm), I.me, _, rfl, iteT ?_⟩
    refine ⟨_, rfl, o, C, dx, _, .ref a, rfl, ho, T, n1, rfl, _, rfl, o2, C, dx2, _, .ref a2, rfl, ho2, T, n1, rfl, _, _, dp_strs ha, dp_strs ha2, shT f1, shT f3, _, rfl, ?_⟩
    have e1 : (PyData.tuple (hs.map PyData.str)).eqv (.tuple (gs.map PyData.str)) = decide (hs = gs) := eqvA hs gs
    rw [e1]
    by_cases c1 : hs = gs
    · rw [decide_eq_true c1]
      rw [decide_eq_true c1, Bool.true_and] at q
      refine iteT ⟨_, rfl, o, C, dx, _, .ref b, rfl, ho, T, n2, rfl, _, rfl, o2, C, dx2, _, .ref b2, rfl, ho2, T, n2, rfl, _, _, dp_strs hb, dp_strs hb2, shT f2, shT f4, ?_⟩
      have e2 : (PyData.tuple (fs.map PyData.str)).eqv (.tuple (ks.map PyData.str)) = decide (fs = ks) := eqvA fs ks
      rw [e2]
      exact q
    · rw [decide_eq_false c1]
      rw [decide_eq_false c1, Bool.false_and] at q
      exact iteF q
  · exact ⟨_, rfl, _, _, _, _, _, rfl, .own _, .base ht, hk, _, rfl, iteF q⟩
/-! ### & -/
abbrev s_Condition___and__ : Stmt := (inClass (topS 36) 6)
theorem sc_Condition___and__ : FnScope ["self", "other", "holding", "failing", "name"] ["self", "other"] (defScope s_Condition___and__) := ⟨rfl, rfl, rfl, by decide +kernel, rfl, by decide +kernel, by decide +kernel⟩
def mrg (xs ys : List Str) : List Str := srt (xs ++ ys.filter fun y => !decide (y ∈ xs))
theorem mrg_txts {xs ys : List Str} (h1 : Txts xs) (h2 : Txts ys) : Txts (mrg xs ys) := fun x hx => by
  have hx := (srt_perm _).mem_iff.mp hx
  rcases List.mem_append.mp hx with h | h
  · exact h1 x h
  · exact h2 x (List.mem_filter.mp h).1
theorem mrg_len {xs ys : List Str} : (mrg xs ys).length ≤ xs.length + ys.length := by
  unfold mrg
  rw [(srt_perm _).length_eq, List.length_append]
  have := List.length_filter_le (fun y => !decide (y ∈ xs)) ys
  omega
theorem srt_uniq {zs l : List Str} (p : zs.Perm l) (s : sortedS zs = true) : zs = srt l := sorted_uniq (p.trans (srt_perm l).symm) s (srt_sorted l)
/-- a name of the one is in the other -/
def meetN (xs ys : List Str) : Bool := xs.any fun x => decide (x ∈ ys)
def sp_cand (K : PySem.W.Frag) (C CC CN : Addr) : Sp := fun vs H Q E => ∃ (o o2 : Addr) (hs fs gs ks : List Str), vs = [.ref o, .ref o2] ∧ CondAt K C H o hs fs ∧ CondAt K C H o2 gs ks ∧ Txts hs ∧ Txts fs ∧ Txts gs ∧ Txts ks ∧ hs.length + gs.length < 64 ∧ fs.length + ks.length < 64 ∧
  (meetN (mrg hs gs) (mrg fs ks) = true → ∀ H', Same H H' → E (.ref CN) none H') ∧ (meetN (mrg hs gs) (mrg fs ks) = false →
    (∀ i, firstWrong (mrg hs gs) [] = some i → errPI CC ((0 : Nat) : Int) i H E) ∧ (firstWrong (mrg hs gs) [] = none → (∀ i, firstWrong (mrg fs ks) (mrg hs gs) = some i → errPI CC ((1 : Nat) : Int) i H E) ∧
    (firstWrong (mrg fs ks) (mrg hs gs) = none → ∀ H' o3, Same H H' → H o3 = none → CondAt K C H' o3 (mrg hs gs) (mrg fs ks) → Q (.ref o3) H')))
theorem ok_cand {f p1' g1 p2' g2 CN : Addr} {fd fd1 fd2 : FuncData} (F : Fun K "__and__" "Condition.__and__" s_Condition___and__ f fd) (B : Blt mg) (T : Cls K C) (n1 : NoAttr K C "_holding") (n2 : NoAttr K C "_failing")
    (p1 : PropC P w K mg base C p1' g1 fd1 "holding" "_holding") (p2 : PropC P w K mg base C p2' g2 fd2 "failing" "_failing") (e_NeverMet : ErrMk0 K mg "NeverMet" CN)
    (c_merged : Cal P w K mg base CX0 1 "merged" ["names", "others"] (sp_merged K)) (k_Condition : Mkr P w K mg base 4 "Condition" C ["self", "holding", "failing"] (sp_cond_init K C CC)) : FnOk P w K mg base (L2.CX P w) 6 f fd ["self", "other"] (sp_cand K C CC CN) := by
  refine F.okX sc_Condition___and__ (fun vs H Q E h => by obtain ⟨o, o2, hs, fs, gs, ks, rfl, _⟩ := h; rfl) (fun cdv A outer s H vs Q E hr h => ?_)
  obtain ⟨o, o2, hs, fs, gs, ks, rfl, hC, hD, t1, t2, t3, t4, l1, l2, qE, q⟩ := h
  obtain ⟨dx, a, b, n, zs, ho, ha, hb, _⟩ := hC.at_
  obtain ⟨dx2, a2, b2, n2', zs2, ho2, ha2, hb2, _⟩ := hD.at_
  have lk1 : (condF a2 b2 n2').lookup ("_holding" : Str) = some (.ref a2) := rfl
  have lk2 : (condF a2 b2 n2').lookup ("_failing" : Str) = some (.ref b2) := rfl
  refine ⟨_, (pss_cons (ps_set (i := 2) sc_Condition___and__.nd rfl (Or.inl rfl) (pe_cal c_merged (hr.mono (by decide)) (pa_cons (pe_fld (pv 0) rfl) (pa_cons (pe_prop (pv 1) T p1.1 p1.2.1 (hr.mono (by decide)) p1.2.2 .nil pass0 rfl) pa_nil))))
      (pss_cons (ps_set (i := 3) sc_Condition___and__.nd rfl (Or.inr rfl) (pe_cal c_merged (hr.mono (by decide)) (pa_cons (pe_fld (pv 0) rfl) (pa_cons (pe_prop (pv 1) T p2.1 p2.2.1 (hr.mono (by decide)) p2.2.2 .nil pass0 rfl) pa_nil))))
      (pss_cons (ps_if (pt_val (pe_callB (cr_any rfl) (by rfl) B.b_any (by decide +kernel) (pa_cons (pe_lc (own := [("name", 4)]) (g := gName 4) (tt := tYes) rfl sc_Condition___and__.nd (pi_tup (pv 2)) (blkOk_by (own := [("name", 4)]) (N := ["self", "other", "holding", "failing", "name"]) (sc := defScope s_Condition___and__) (by decide +kernel)) (fun _ _ _ _ _ => (pg_name (i := 4) sc_Condition___and__.nd rfl (Or.inl rfl))) (fun _ _ _ _ _ => pts_nil) (fun _ _ _ _ _ => (pe_.re (pe_cmpR op_in_seq (pv 4) (pv 3) rfl) (by first | (dsimp only [Cx.blk]; done) | exact rfl)))) pa_nil))) (pss_one (ps_raise rfl (takes_of rfl rfl rfl rfl) (pmk_err0 e_NeverMet))) pss_nil)
      (pss_one (ps_ret (pe_mkX k_Condition (hr.mono (by decide)) (takes_of rfl rfl rfl rfl) (pa_cons (pv 2) (pa_cons (pv 3) pa_nil)))))))), ?_⟩
  refine ⟨_, rfl, o, C, dx, _, .ref a, rfl, ho, T, n1, rfl, _, rfl, o2, dx2, _, rfl, ho2, ⟨o2, dx2, _, _, rfl, ho2, lk1, ?_⟩⟩
  refine ⟨a, a2, hs, gs, rfl, ha, ha2, l1, fun H1 hA za s1 eA pA sA => ?_⟩
  obtain rfl : za = mrg hs gs := srt_uniq pA sA
  refine ⟨_, rfl, o, C, dx, _, .ref b, rfl, s1 _ _ ho, T, n2, rfl, _, rfl, o2, dx2, _, rfl, s1 _ _ ho2, ⟨o2, dx2, _, _, rfl, s1 _ _ ho2, lk2, ?_⟩⟩
  refine ⟨b, b2, fs, ks, rfl, s1.tup hb, s1.tup hb2, l2, fun H2 hB zb s2 eB pB sB => ?_⟩
  obtain rfl : zb = mrg fs ks := srt_uniq pB sB
  have s12 := s1.trans s2
  have eA2 := s2 _ _ eA
  refine ⟨_, rfl, hA, rfl, ⟨_, sqT_of eA2⟩, fun D nD => lc_it walk_tup (fun i H' => Same H2 H' ∧ H' D = some (.lst (((mrg hs gs).take i).map fun x => V.bl (decide (x ∈ mrg fs ks))))) ⟨(Same.refl H2).put nD, upd_same⟩ (fun _ _ _ h => h.1.tup (sqT_of eA2)) ?_ ?_⟩
  · rintro i y H4 H3 hi ⟨s, e⟩ ⟨rfl, hy⟩
    rw [List.length_map] at hi
    have hx : (mrg hs gs)[i]? = some (mrg hs gs)[i] := List.getElem?_eq_getElem hi
    obtain rfl : V.str (mrg hs gs)[i] = y := strAt_inj hx hy
    refine ⟨rfl, yes_ ⟨_, rfl, _, rfl, hB, _, rfl, .inr (sqT_of (s _ _ eB)), rfl, flat_strs _, grow (acc := fun i => ((mrg hs gs).take i).map fun x => V.bl (decide (x ∈ mrg fs ks))) nD s e ?_ ?_⟩⟩
    · rw [List.length_map, List.length_take]
      have := mrg_len (xs := hs) (ys := gs)
      exact small1000 (by omega)
    · show List.map _ _ = _
      rw [take_more hx, List.map_append]
      simp only [List.map_cons, List.map_nil, inV_str]
      rfl
  · rintro H4 ⟨s, e⟩
    rw [List.length_map, List.take_length] at e
    refine ⟨D, (mrg hs gs).map fun x => decide (x ∈ mrg fs ks), rfl, sqL_of (by rw [e, List.map_map]; rfl), ?_⟩
    have em : ((mrg hs gs).map fun x => decide (x ∈ mrg fs ks)).any id = meetN (mrg hs gs) (mrg fs ks) := by
      rw [List.any_map]
      rfl
    rw [em]
    refine ⟨_, rfl, bcase (fun c1 => ?_) (fun c1 => ?_)⟩
    · exact qE c1 H4 (s12.trans s)
    · obtain ⟨q0, q⟩ := q c1
      have s4 := s12.trans s
      have eA4 := s _ _ eA2
      have eB4 := s _ _ eB
      refine ⟨_, rfl, _, rfl, fun o3 dx3 nx ndx nex => ?_⟩
      have s5 : Same H4 (upd (upd H4 dx3 (.own o3)) o3 (.ins C dx3 [])) := ((Same.refl H4).put ndx).put nx
      have m1 := mrg_len (xs := hs) (ys := gs)
      have m2 := mrg_len (xs := fs) (ys := ks)
      refine ⟨o3, dx3, hA, hB, _, _, rfl, upd_same, sqT_of (s5 _ _ eA4), sqT_of (s5 _ _ eB4), mrg_txts t1 t3, mrg_txts t2 t4, by omega, by omega, fun i ei H' d sH nd => q0 i ei H' d ((s4.trans s5).trans sH) nd, fun en => ?_⟩
      obtain ⟨q1, q⟩ := q en
      refine ⟨fun i ei H' d sH nd => q1 i ei H' d ((s4.trans s5).trans sH) nd, fun en2 H' n3 zs3 sX hx hn hperm hsort => ⟨rfl, ?_⟩⟩
      have sS : Same H4 H' := fun b' o' h => sX b' o' (fun e => by rw [e, nx] at h; cases h) (s5 _ _ h)
      exact q en2 H' o3 (s4.trans sS) (s4.free nx) ⟨dx3, hA, hB, n3, zs3, hx, sqT_of (sS _ _ eA4), sqT_of (sS _ _ eB4), hn, srt_uniq hperm hsort⟩
end
end Sc
namespace Sc
open PySem PySem.Spec PyProof.Rows L2
/-- o(e, ..), o an object whose class has its own __call__; the arguments leave it as it is -/
def tCallO (C : Addr) (sp : Sp) (E : XK) (te : TE) (t : TA) : TE := fun σ H Q => te σ H fun x H1 => ∃ (a : Addr), x = .ref a ∧
  t σ H1 fun vs H2 => (∃ (dx : Addr) (fs : List (Str × V)), H2 a = some (.ins C dx fs)) ∧ sp (.ref a :: vs) H2 Q E
theorem callWith_o {M : Model} {A : Around} {E : Value → Shared → Prop} {s : Shared} {pos : Pos} {x C : Addr} {first : List Value} {Q : Value → Shared → Prop} {args : List (Bool × Sem Value)} (hplain : args.any (·.1) = false)
    (h : wpAny M A (evalArgs (.ref x) true args []) (fun a s₁ => (∃ ox od, PySem.W.InstAt s₁.heap x ox C od ∧ ox.data = Data.plain) ∧ wpAny M A (call (.ref x) (first ++ a.pos) a.kw) Q E s₁) E s) : wpAny M A (callWith pos (.ref x) first args []) Q E s := by
  unfold callWith
  refine wpAny_bind (wpAny_holding (wpAny_mono h (fun a s₁ h₁ => wpAny_bind (wpAny_standAt ?_)) (fun _ _ z => z)))
  obtain ⟨⟨ox, od, J, hd⟩, h₂⟩ := h₁
  have L := PySem.W.kco_keeper (M := M) J hd
  simp only [hplain, List.any_nil, Bool.or_false]
  exact wpAny_bind (PySem.W.Looks.here L (wpAny_bind (wpAny_mono (wpAny_operateT h₂) (fun r s₂ hr => wpAny_bind (wpAny_holding (wpAny_point (wpAny_pure hr)))) (fun _ _ z => z))))
theorem pe_callO {X : Cx} {CX : CXT} {C g : Addr} {k : Nat} {fd : FuncData} {ps : List Str} {sp : Sp} {E : XK} {te : TE} {t : TA} {x : Str} {e : Expr} {es : List Expr} {p pos : Pos}
    (at_ : PySem.W.findIn X.K (.ref C) "__call__" = some (some (.ref g))) (fn : PySem.W.isFn X.K (.ref g) = true) (fi : PySem.W.fnIn X.K g = true)
    (F : FnOk X.prog X.w X.K X.mg X.base CX k g fd ps sp) (hr : Room k X.A) (hb : Binds X.K fd ps []) (hx : Passes CX X E) (ho : PE X (.Name x p) te) (ha : PA X (e :: es) t)
    (he : starEach (e :: es) X.env = (false, eval e X.env) :: starEach es X.env := by rfl) (hpl : (backTo pos (starEach es X.env)).any (·.1) = false := by rfl) :
    PE X (.Call (.Name x p) (e :: es) [] pos) (tCallO C sp E te t) := by
  refine ⟨fun pins s σ H Q I h => wpAny_Call_NameR (thn (ho.run pins s σ H _ I h) fun u s1 hh => ?_)⟩
  obtain ⟨y, H1, I1, ry, a, rfl, h⟩ := hh
  obtain rfl : u = Value.ref a := ry
  have hr0 := ha.run pos pins s1 σ H1 _ I1 h
  have eb : backTo pos (starEach (e :: es) X.env) = (false, eval e X.env) :: backTo pos (starEach es X.env) := by rw [he]; rfl
  rw [eb] at hr0 ⊢
  refine callWith_o (C := C) (by rw [List.any_cons, hpl]; rfl) (Calls.evalArgs_plain (thn hr0 fun us s2 hh => ?_))
  obtain ⟨vs, H2, I2, rv, ⟨dx, fs, ea⟩, hq⟩ := hh
  obtain ⟨mA, O, _⟩ := ins_get I2.hok ea
  obtain ⟨od, J, _⟩ := ObjM.look O
  have hl : (Value.ref a :: us).length = ps.length := by
    have := F.len _ _ _ _ hq
    rw [← this, List.length_cons, List.length_cons, Vals.length rv]
  refine ⟨⟨_, _, J, rfl⟩, wpAny_call (PySem.W.kco_code I2.kIn J rfl at_ fn fi (codeAny_mono (F.run X.A X.stack s2 H2 ⟨.ref a :: us, []⟩ (.ref a :: us) (.ref a :: vs) Q E hr I2.env0 ?_ (Paired.cons rfl rv) hq) fun res s' hcr => ?_))⟩
  · have := hb s2 (.ref a :: us) I2.kIn (by rw [List.append_nil]; exact hl)
    rw [List.append_nil] at this
    exact this
  · cases res with
    | error er => exact hx pins σ H2 s2 er s' I2 hcr
    | ok fl =>
      cases fl with
      | ret v => exact I2.after hcr
      | next => exact hcr.elim
      | brk => exact hcr.elim
      | cont => exact hcr.elim
end Sc
namespace Sc
open PySem PySem.Spec PyProof.Rows L2
/-- the class Condition as its users see it -/
structure CondX (P : Program) (w : World) (K : PySem.W.Frag) (mg : Str → Option Value) (base : Heap) (C CC CN : Addr) : Prop where
  cls : Cls K C
  isi : IsiC K C
  holding : ∃ p g fd, PropC P w K mg base C p g fd "holding" "_holding"
  failing : ∃ p g fd, PropC P w K mg base C p g fd "failing" "_failing"
  names : ∃ p g fd, PropC P w K mg base C p g fd "names" "_names"
  call : ∃ g fd, PySem.W.findIn K (.ref C) "__call__" = some (some (.ref g)) ∧ PySem.W.isFn K (.ref g) = true ∧ PySem.W.fnIn K g = true ∧ FnOk P w K mg base CX0 1 g fd ["self", "case"] (sp_ccall K C) ∧ Binds K fd ["self", "case"] []
  eq : ∃ g fd, PySem.W.findIn K (.ref C) "__eq__" = some (some (.ref g)) ∧ PySem.W.isFn K (.ref g) = true ∧ FnOk P w K mg base CX0 1 g fd ["self", "other"] (sp_ceq K C) ∧ Binds K fd ["self", "other"] []
  ne : PySem.W.findIn K (.ref C) "__ne__" = some (some (.builtin "object.__ne__"))
  and_ : PySem.W.selfFirst K C = true ∧ ∃ g fd, PySem.W.findIn K (.ref C) "__and__" = some (some (.ref g)) ∧ PySem.W.isFn K (.ref g) = true ∧ FnOk P w K mg base (L2.CX P w) 6 g fd ["self", "other"] (sp_cand K C CC CN) ∧ Binds K fd ["self", "other"] []
  within_ : ∃ g fd, Meth K C "within" g ∧ FnOk P w K mg base CX0 3 g fd ["self", "other"] (sp_within K C) ∧ Binds K fd ["self", "other"] []
section
variable {X : Cx} {C CC CN : Addr} {e o : Expr} {es : List Expr} {ta te : TE} {t : TA} {x : Str} {p pos apos : Pos} {E : XK}
theorem pe_cprop {f n : Str} (M : ∃ p g fd, PropC X.prog X.w X.K X.mg X.base C p g fd n f) (c : Cls X.K C) (hr : Room 2 X.A) (he : PE X e ta) (hab : attributeBase e n X.env (eval e X.env) = eval e X.env := by rfl) : PE X (.Attribute e n pos) (tProp C (sp_prop C f) [] E0 ta) := by
  obtain ⟨p, g, fd, h1, h2, h3⟩ := M
  exact pe_prop he c h1 h2 hr h3 .nil pass0 hab
theorem pe_cc (M : CondX X.prog X.w X.K X.mg X.base C CC CN) (hr : Room 1 X.A) (ho : PE X (.Name x p) te) (ha : PA X (e :: es) t)
    (he : starEach (e :: es) X.env = (false, eval e X.env) :: starEach es X.env := by rfl) (hpl : (backTo pos (starEach es X.env)).any (·.1) = false := by rfl) : PE X (.Call (.Name x p) (e :: es) [] pos) (tCallO C (sp_ccall X.K C) E0 te t) := by
  obtain ⟨g, fd, h1, h2, h3, F, hb⟩ := M.call
  exact pe_callO h1 h2 h3 F hr hb pass0 ho ha he hpl
theorem op_ceq (M : CondX X.prog X.w X.K X.mg X.base C CC CN) (hr : Room 1 X.A) : OpR X (compareOp .Eq) (rEqO X.K C (sp_ceq X.K C) E0) := by
  obtain ⟨g, fd, h1, h2, F, hb⟩ := M.eq
  exact op_eqO h1 h2 F hr hb pass0
theorem op_cne (M : CondX X.prog X.w X.K X.mg X.base C CC CN) (hr : Room 2 X.A) : OpR X (compareOp .NotEq) (rNeO X.K C (sp_ceq X.K C) E0) := by
  obtain ⟨g, fd, h1, h2, F, hb⟩ := M.eq
  exact op_neO M.isi.cm M.ne h1 h2 F hr hb pass0
theorem op_candN (M : CondX X.prog X.w X.K X.mg X.base C CC CN) (hr : Room 6 X.A) : OpR X (binaryOp .BitAnd) (rBinO C (sp_cand X.K C CC CN) E0) := by
  obtain ⟨h0, g, fd, h1, h2, F, hb⟩ := M.and_
  exact op_binO h0 h1 h2 F hr hb passL
theorem op_candX (M : CondX X.prog X.w X.K X.mg X.base C CC CN) (hr : Room 6 X.A) (tk : Takes X (fun cls d _ H => E cls d H)) : OpR X (binaryOp .BitAnd) (rBinO C (sp_cand X.K C CC CN) E) := by
  obtain ⟨h0, g, fd, h1, h2, F, hb⟩ := M.and_
  exact op_binO h0 h1 h2 F hr hb (fun pins σ H s e s' I h => passAt tk σ pins H s e s' I h)
theorem pe_cwithin {pl : Sem Bool} (M : CondX X.prog X.w X.K X.mg X.base C CC CN) (hr : Room 3 X.A) (he : PE X o ta) (ha : PA X (e :: es) t)
    (hst : starEach (e :: es) X.env = (false, eval e X.env) :: starEach es X.env := by rfl) (hpl : (backTo pos (starEach es X.env)).any (·.1) = false := by rfl)
    (ht : eval (.Call (.Attribute o "within" apos) (e :: es) [] pos) X.env = (do
      let ov ← eval o X.env
      standAt apos.atName
      let (f, first) ← holding [ov] (getMethod ov "within" pl)
      callWith pos f first (backTo pos (starEach (e :: es) X.env)) (backToKw pos (keywordEach [] X.env))) := by rfl) : PE X (.Call (.Attribute o "within" apos) (e :: es) [] pos) (tMeth C "within" (sp_within X.K C) [] E0 ta t) := by
  obtain ⟨g, fd, h1, F, hb⟩ := M.within_
  exact pe_meth he M.cls h1 F hr hb .nil pass0 ha hst hpl ht
end
end Sc
namespace Sc
open PySem PySem.Spec PyProof.Rows L2
theorem wk_ps {X : Cx} {st : Stmt} {t : TS} (t' : TS) (h : PS X st t) (w : ∀ D σ H, t' D σ H → t D σ H) : PS X st t' := ⟨fun pins s σ H D I x => h.run pins s σ H D I (w D σ H x)⟩
/-! ### rules as data -/
inductive All2 {α β : Type} (R : α → β → Prop) : List α → List β → Prop where
  | nil : All2 R [] []
  | cons {a : α} {b : β} {as : List α} {bs : List β} (h : R a b) (t : All2 R as bs) : All2 R (a :: as) (b :: bs)
namespace All2
variable {α β : Type} {R S : α → β → Prop} {as as' : List α} {bs bs' : List β}
theorem len (h : All2 R as bs) : as.length = bs.length := by
  induction h with
  | nil => rfl
  | cons _ _ ih => rw [List.length_cons, List.length_cons, ih]
theorem mono (h : All2 R as bs) (f : ∀ a b, R a b → S a b) : All2 S as bs := by
  induction h with
  | nil => exact .nil
  | cons h _ ih => exact .cons (f _ _ h) ih
theorem monoM (h : All2 R as bs) (f : ∀ a b, b ∈ bs → R a b → S a b) : All2 S as bs := by
  induction h with
  | nil => exact .nil
  | cons h _ ih => exact .cons (f _ _ List.mem_cons_self h) (ih fun a b m => f a b (List.mem_cons_of_mem _ m))
theorem app (h : All2 R as bs) (k : All2 R as' bs') : All2 R (as ++ as') (bs ++ bs') := by
  induction h with
  | nil => exact k
  | cons h _ ih => exact .cons h ih
theorem one {a : α} {b : β} (h : R a b) : All2 R [a] [b] := .cons h .nil
theorem snoc {a : α} {b : β} (h : All2 R as bs) (r : R a b) : All2 R (as ++ [a]) (bs ++ [b]) := h.app (one r)
theorem get (h : All2 R as bs) : ∀ {i : Nat} {a : α}, as[i]? = some a → ∃ b, bs[i]? = some b ∧ R a b := by
  induction h with
  | nil => intro i a e; cases i <;> cases e
  | cons h _ ih =>
    intro i a e
    cases i with
    | zero => cases e; exact ⟨_, rfl, h⟩
    | succ i => exact ih e
theorem get' (h : All2 R as bs) : ∀ {i : Nat} {b : β}, bs[i]? = some b → ∃ a, as[i]? = some a ∧ R a b := by
  induction h with
  | nil => intro i a e; cases i <;> cases e
  | cons h _ ih =>
    intro i a e
    cases i with
    | zero => cases e; exact ⟨_, rfl, h⟩
    | succ i => exact ih e
theorem at' (h : All2 R as bs) {i : Nat} (hi : i < bs.length) : ∃ a, as[i]? = some a ∧ R a bs[i] := h.get' (List.getElem?_eq_getElem hi)
end All2
/-- a row of rules, each with its exceptions -/
inductive RF where
  | nil : RF
  | cons (nm : Str) (hs fs : List Str) (rl : Str) (exc rest : RF) : RF
structure Nd where
  nm : Str
  hs : List Str
  fs : List Str
  rl : Str
  exc : RF
namespace RF
def nodes : RF → List Nd
  | .nil => []
  | .cons nm hs fs rl exc rest => ⟨nm, hs, fs, rl, exc⟩ :: rest.nodes
def dep : RF → Nat
  | .nil => 0
  | .cons _ _ _ _ exc rest => max (exc.dep + 1) rest.dep
def size : RF → Nat
  | .nil => 0
  | .cons _ _ _ _ exc rest => exc.size + 1 + rest.size
/-- all rules by their numbers, and within how many they stand -/
def pre : RF → Nat → List (Nd × Nat)
  | .nil, _ => []
  | .cons nm hs fs rl exc rest, k => (⟨nm, hs, fs, rl, exc⟩, k) :: (exc.pre (k + 1) ++ rest.pre k)
def ofNodes : List Nd → RF
  | [] => .nil
  | n :: r => .cons n.nm n.hs n.fs n.rl n.exc (ofNodes r)
theorem nodes_of : ∀ ns : List Nd, (ofNodes ns).nodes = ns
  | [] => rfl
  | n :: r => by show n :: (ofNodes r).nodes = n :: r; rw [nodes_of r]
theorem of_nodes : ∀ f : RF, ofNodes f.nodes = f
  | .nil => rfl
  | .cons nm hs fs rl exc rest => by show RF.cons nm hs fs rl exc (ofNodes rest.nodes) = _; rw [of_nodes rest]
theorem pre_nodes : ∀ (f : RF) (k : Nat), f.pre k = f.nodes.flatMap fun n => (n, k) :: n.exc.pre (k + 1)
  | .nil, _ => rfl
  | .cons nm hs fs rl exc rest, k => by
    show (_, k) :: (exc.pre (k + 1) ++ rest.pre k) = _
    rw [pre_nodes rest k]
    rfl
theorem pre_len : ∀ (f : RF) (k : Nat), (f.pre k).length = f.size
  | .nil, _ => rfl
  | .cons nm hs fs rl exc rest, k => by
    show ((_, k) :: (exc.pre (k + 1) ++ rest.pre k)).length = exc.size + 1 + rest.size
    rw [List.length_cons, List.length_append, pre_len exc, pre_len rest]
    omega
theorem dep_nil : ∀ f : RF, f.dep = 0 → f = .nil
  | .nil, _ => rfl
  | .cons _ _ _ _ exc rest, h => by
    have h : max (exc.dep + 1) rest.dep = 0 := h
    omega
theorem dep_mem : ∀ (f : RF) (n : Nd), n ∈ f.nodes → n.exc.dep + 1 ≤ f.dep
  | .nil, n, h => nomatch h
  | .cons nm hs fs rl exc rest, n, h => by
    show _ ≤ max (exc.dep + 1) rest.dep
    rcases List.mem_cons.mp h with rfl | h
    · exact Nat.le_max_left _ _
    · exact Nat.le_trans (dep_mem rest n h) (Nat.le_max_right _ _)
theorem dep_le : ∀ (f : RF) (d : Nat), (∀ n ∈ f.nodes, n.exc.dep + 1 ≤ d) → f.dep ≤ d
  | .nil, d, _ => Nat.zero_le d
  | .cons nm hs fs rl exc rest, d, h => by
    show max (exc.dep + 1) rest.dep ≤ d
    exact Nat.max_le.mpr ⟨h _ List.mem_cons_self, dep_le rest d fun n m => h n (List.mem_cons_of_mem _ m)⟩
theorem size_mem : ∀ (f : RF) (n : Nd), n ∈ f.nodes → n.exc.size + 1 ≤ f.size
  | .nil, n, h => nomatch h
  | .cons nm hs fs rl exc rest, n, h => by
    show _ ≤ exc.size + 1 + rest.size
    rcases List.mem_cons.mp h with rfl | h
    · show exc.size + 1 ≤ _
      omega
    · have := size_mem rest n h
      omega
theorem nodes_le : ∀ f : RF, f.nodes.length ≤ f.size
  | .nil => Nat.le_refl 0
  | .cons nm hs fs rl exc rest => by
    show rest.nodes.length + 1 ≤ exc.size + 1 + rest.size
    have := nodes_le rest
    omega
/-- the names of all rules, by their numbers -/
def names (f : RF) : List Str := (f.pre 0).map fun p => p.1.nm
theorem pre_names : ∀ (f : RF) (k : Nat), (f.pre k).map (fun p => p.1.nm) = f.names
  | .nil, _ => rfl
  | .cons nm hs fs rl exc rest, k => by
    unfold names
    show nm :: ((exc.pre (k + 1) ++ rest.pre k).map fun p => p.1.nm) = nm :: ((exc.pre (0 + 1) ++ rest.pre 0).map fun p => p.1.nm)
    rw [List.map_append, List.map_append, pre_names exc, pre_names exc, pre_names rest, pre_names rest]
/-- the first rules of a row, with their exceptions, by their numbers -/
def preL (ns : List Nd) (k : Nat) : List (Nd × Nat) := ns.flatMap fun n => (n, k) :: n.exc.pre (k + 1)
theorem preL_more {f : RF} {i k : Nat} {n : Nd} (h : f.nodes[i]? = some n) : preL (f.nodes.take (i + 1)) k = preL (f.nodes.take i) k ++ ((n, k) :: n.exc.pre (k + 1)) := by
  unfold preL
  rw [take_more h, List.flatMap_append]
  simp
theorem preL_all {f : RF} {k : Nat} : preL (f.nodes.take f.nodes.length) k = f.pre k := by
  rw [List.take_length, pre_nodes]
  rfl
theorem preL_len {f : RF} {i k : Nat} : (preL (f.nodes.take i) k).length ≤ f.size := by
  have e : preL f.nodes k = preL (f.nodes.take i) k ++ preL (f.nodes.drop i) k := by
    unfold preL
    rw [← List.flatMap_append, List.take_append_drop]
  have e2 : (preL f.nodes k).length = f.size := by
    rw [← pre_len f k, pre_nodes]
    rfl
  rw [← e2, e, List.length_append]
  exact Nat.le_add_right _ _
end RF
/-! ### where they stand -/
/-- an object that is made, to its last field -/
def DoneF (fs : List (Str × V)) : Bool := (fs.lookup ("_inside" : Str)).isSome || ((fs.lookup ("_names" : Str)).isSome || (fs.lookup ("_numbered" : Str)).isSome)
/-- what steps that change only lists of the law's own, or an object that is being made, leave as it is -/
def Stays (N : Addr → Prop) (b : Addr) (o : HO) : Prop := (∀ xs, o = .lst xs → N b) ∧ (∀ C dx fs, o = .ins C dx fs → DoneF fs = true) ∧ ∀ ps, o ≠ .tbl ps
def Keeps (N : Addr → Prop) (H H' : Hp) : Prop := ∀ b o, Stays N b o → H b = some o → H' b = some o
section
variable {K : PySem.W.Frag} {C R : Addr} {N : Addr → Prop} {H H' H'' : Hp}
theorem _root_.L2.Same.keeps (s : Same H H') : Keeps N H H' := fun b o _ e => s b o e
theorem Keeps.trans (h : Keeps N H H') (k : Keeps N H' H'') : Keeps N H H'' := fun b o st e => k b o st (h b o st e)
theorem Kp.keeps {a l : Addr} (k : Kp a l H H') (na : ¬ N a) (nl : ¬ N l) : Keeps N H H' := fun b o st e => by
  by_cases z : ∃ xs, o = .lst xs
  · obtain ⟨xs, rfl⟩ := z
    have := st.1 xs rfl
    exact k.keep b _ (fun z => na (z ▸ this)) (fun z => nl (z ▸ this)) e
  · exact k.obj e fun xs z2 => z ⟨xs, z2⟩
theorem SameX.keeps {x dx : Addr} {fs : List (Str × V)} (s : SameX x H H') (e : H x = some (.ins R dx fs)) (n : DoneF fs = false := by rfl) : Keeps N H H' := fun b o st h => s b o (fun z => by rw [z, e] at h; exact Bool.noConfusion (n.symm.trans (st.2.1 R dx fs (Option.some.inj h).symm))) h
/-- an object that is being made changes -/
theorem keeps_make {x dx : Addr} {fs : List (Str × V)} {o : HO} (e : H x = some (.ins R dx fs)) (n : DoneF fs = false := by rfl) : Keeps N H (upd H x o) := SameX.keeps (fun b o' ne h => by rw [upd_ne ne]; exact h) e n
theorem stays_tup {b : Addr} {xs : List V} : Stays N b (.tup xs) := ⟨(fun _ z => nomatch z), (fun _ _ _ z => nomatch z), (fun _ z => nomatch z)⟩
theorem stays_ins {b C dx : Addr} {fs : List (Str × V)} (h : DoneF fs = true := by rfl) : Stays N b (.ins C dx fs) := ⟨(fun _ z => nomatch z), (fun _ _ _ z => by cases z; exact h), (fun _ z => nomatch z)⟩
theorem stays_lst {b : Addr} {xs : List V} (h : N b) : Stays N b (.lst xs) := ⟨(fun _ _ => h), (fun _ _ _ z => nomatch z), (fun _ z => nomatch z)⟩
theorem Keeps.tup {b : Addr} {xs : List V} (k : Keeps N H H') (h : SqT K H b xs) : SqT K H' b xs := by
  rcases h with (h | ⟨o, h⟩) | h
  · exact .inl (.inl (k _ _ stays_tup h))
  · exact .inl (.inr ⟨o, k _ _ ⟨(fun _ z => nomatch z), (fun _ _ _ z => nomatch z), (fun _ z => nomatch z)⟩ h⟩)
  · exact .inr h
theorem CondAt.keeps {o : Addr} {hs fs : List Str} (h : CondAt K C H o hs fs) (k : Keeps N H H') : CondAt K C H' o hs fs := by
  obtain ⟨dx, a, b, n, zs, h1, h2, h3, h4, h5⟩ := h.at_
  exact ⟨dx, a, b, n, zs, k _ _ stays_ins h1, k.tup h2, k.tup h3, k _ _ stays_tup h4, h5⟩
/-- the fields of a rule -/
def ruleF (nm : Str) (c : Addr) (rl : Str) (p : Addr) (d : Int) (l : Addr) : List (Str × V) :=
  putF "_inside" (.ref l) (putF "_depth" (.int d) (putF "_exceptions" (.ref p) (putF "_ruling" (.str rl) (putF "_condition" (.ref c) (putF "_name" (.str nm) [])))))
def ForAt (K : PySem.W.Frag) (C R : Addr) (N : Addr → Prop) (H : Hp) : RF → List V → Prop
  | .nil, vs => vs = []
  | .cons nm hs fs rl exc rest, vs => ∃ (o dx c p l : Addr) (ws vs' : List V), vs = .ref o :: vs' ∧ H o = some (.ins R dx (ruleF nm c rl p ((exc.dep + 1 : Nat) : Int) l)) ∧ CondAt K C H c hs fs ∧ SqT K H p ws ∧ (N l ∧ H l = some (.lst ((nm :: exc.names).map V.str))) ∧
      ForAt K C R N H exc ws ∧ ForAt K C R N H rest vs'
def NdAt (K : PySem.W.Frag) (C R : Addr) (N : Addr → Prop) (H : Hp) (o : Addr) (n : Nd) : Prop := ∃ (dx c p l : Addr) (ws : List V), H o = some (.ins R dx (ruleF n.nm c n.rl p ((n.exc.dep + 1 : Nat) : Int) l)) ∧ CondAt K C H c n.hs n.fs ∧ SqT K H p ws ∧ (N l ∧ H l = some (.lst ((n.nm :: n.exc.names).map V.str))) ∧ ForAt K C R N H n.exc ws
def RefAt (K : PySem.W.Frag) (C R : Addr) (N : Addr → Prop) (H : Hp) (v : V) (n : Nd) : Prop := ∃ o, v = .ref o ∧ NdAt K C R N H o n
theorem stays_rule {b : Addr} {dx c p l : Addr} {nm rl : Str} {d : Int} : Stays N b (.ins R dx (ruleF nm c rl p d l)) := stays_ins
theorem ForAt.keeps (k : Keeps N H H') : ∀ {f : RF} {vs : List V}, ForAt K C R N H f vs → ForAt K C R N H' f vs
  | .nil, _, h => h
  | .cons nm hs fs rl exc rest, vs, h => by
    obtain ⟨o, dx, c, p, l, ws, vs', e, h1, h2, h3, ⟨h4, h5⟩, h6, h7⟩ := h
    exact ⟨o, dx, c, p, l, ws, vs', e, k _ _ stays_rule h1, h2.keeps k, k.tup h3, ⟨h4, k _ _ (stays_lst h4) h5⟩, ForAt.keeps k h6, ForAt.keeps k h7⟩
theorem NdAt.keeps {o : Addr} {n : Nd} (h : NdAt K C R N H o n) (k : Keeps N H H') : NdAt K C R N H' o n := by
  obtain ⟨dx, c, p, l, ws, h1, h2, h3, ⟨h4, h5⟩, h6⟩ := h
  exact ⟨dx, c, p, l, ws, k _ _ stays_rule h1, h2.keeps k, k.tup h3, ⟨h4, k _ _ (stays_lst h4) h5⟩, h6.keeps k⟩
theorem RefAt.keeps {v : V} {n : Nd} (h : RefAt K C R N H v n) (k : Keeps N H H') : RefAt K C R N H' v n := by
  obtain ⟨o, e, h⟩ := h
  exact ⟨o, e, h.keeps k⟩
theorem ForAt.all : ∀ {f : RF} {vs : List V}, ForAt K C R N H f vs → All2 (RefAt K C R N H) vs f.nodes
  | .nil, _, h => by
    obtain rfl : _ = [] := h
    exact .nil
  | .cons nm hs fs rl exc rest, vs, h => by
    obtain ⟨o, dx, c, p, l, ws, vs', rfl, h1, h2, h3, h4, h6, h7⟩ := h
    exact .cons ⟨o, rfl, dx, c, p, l, ws, h1, h2, h3, h4, h6⟩ h7.all
theorem ForAt.of : ∀ {f : RF} {vs : List V}, All2 (RefAt K C R N H) vs f.nodes → ForAt K C R N H f vs
  | .nil, _, h => by
    cases h
    rfl
  | .cons nm hs fs rl exc rest, vs, h => by
    cases h with
    | cons h t =>
      obtain ⟨o, rfl, dx, c, p, l, ws, h1, h2, h3, h4, h6⟩ := h
      exact ⟨o, dx, c, p, l, ws, _, rfl, h1, h2, h3, h4, h6, ForAt.of t⟩
theorem ForAt.len {f : RF} {vs : List V} (h : ForAt K C R N H f vs) : vs.length = f.nodes.length := h.all.len
theorem ForAt.re {M : Addr → Prop} (g : ∀ b xs, N b → H b = some (.lst xs) → M b) : ∀ {f : RF} {vs : List V}, ForAt K C R N H f vs → ForAt K C R M H f vs
  | .nil, _, h => h
  | .cons nm hs fs rl exc rest, vs, h => by
    obtain ⟨o, dx, c, p, l, ws, vs', e, h1, h2, h3, ⟨h4, h5⟩, h6, h7⟩ := h
    exact ⟨o, dx, c, p, l, ws, vs', e, h1, h2, h3, ⟨g _ _ h4 h5, h5⟩, ForAt.re g h6, ForAt.re g h7⟩
theorem NdAt.re {M : Addr → Prop} (g : ∀ b xs, N b → H b = some (.lst xs) → M b) {o : Addr} {n : Nd} (h : NdAt K C R N H o n) : NdAt K C R M H o n := by
  obtain ⟨dx, c, p, l, ws, h1, h2, h3, ⟨h4, h5⟩, h6⟩ := h
  exact ⟨dx, c, p, l, ws, h1, h2, h3, ⟨g _ _ h4 h5, h5⟩, h6.re g⟩
/-- the addresses of N that are in use -/
def Used (N : Addr → Prop) (H : Hp) (b : Addr) : Prop := N b ∧ H b ≠ none
theorem ForAt.used {f : RF} {vs : List V} (h : ForAt K C R N H f vs) : ForAt K C R (Used N H) H f vs := h.re fun b xs n e => ⟨n, by rw [e]; exact fun z => nomatch z⟩
theorem used_not {D : Addr} (n : H D = none) : ¬ Used N H D := fun h => h.2 n
theorem SameX.keeps' {D : Addr} (s : SameX D H H') (n : ¬ N D) (z : ∀ o, H D = some o → ∃ xs, o = .lst xs) : Keeps N H H' := fun b o st h => s b o (fun e => by
  subst e
  obtain ⟨xs, rfl⟩ := z o h
  exact n (st.1 xs rfl)) h
/-- a list of one's own changes -/
theorem keeps_own {D : Addr} {xs : List V} {o : HO} (e : H D = some (.lst xs)) (n : ¬ N D) : Keeps N H (upd H D o) := SameX.keeps' (fun b o' ne h => by rw [upd_ne ne]; exact h) n fun o' h => by rw [e] at h; exact ⟨xs, (Option.some.inj h).symm⟩
/-- a list of tuples (rule, number of rules around) -/
def PairAt (K : PySem.W.Frag) (C R : Addr) (N : Addr → Prop) (H : Hp) (v : V) (n : Nd × Nat) : Prop := ∃ (t o : Addr), v = .ref t ∧ H t = some (.tup [.ref o, .int (n.2 : Nat)]) ∧ NdAt K C R N H o n.1
theorem PairAt.keeps {v : V} {n : Nd × Nat} (h : PairAt K C R N H v n) (k : Keeps N H H') : PairAt K C R N H' v n := by
  obtain ⟨t, o, e, h1, h2⟩ := h
  exact ⟨t, o, e, k _ _ stays_tup h1, h2.keeps k⟩
theorem PairAt.re {M : Addr → Prop} (g : ∀ b xs, N b → H b = some (.lst xs) → M b) {v : V} {n : Nd × Nat} (h : PairAt K C R N H v n) : PairAt K C R M H v n := by
  obtain ⟨t, o, e, h1, h2⟩ := h
  exact ⟨t, o, e, h1, h2.re g⟩
abbrev PreAt (K : PySem.W.Frag) (C R : Addr) (N : Addr → Prop) (H : Hp) (us : List V) (ps : List (Nd × Nat)) : Prop := All2 (PairAt K C R N H) us ps
theorem PreAt.keeps {us : List V} {ps : List (Nd × Nat)} (h : PreAt K C R N H us ps) (k : Keeps N H H') : PreAt K C R N H' us ps := h.mono fun _ _ x => x.keeps k
/-! ### the law's rows: tuples -/
def RowsAt (K : PySem.W.Frag) (H : Hp) : RF → List V → Prop
  | .nil, vs => vs = []
  | .cons nm hs fs rl exc rest, vs => ∃ (o w b p : Addr) (ws vs' : List V), vs = .ref o :: vs' ∧ SqT K H o [.str nm, .ref w, .ref b, .str rl, .ref p] ∧ SqT K H w (hs.map V.str) ∧ SqT K H b (fs.map V.str) ∧ SqT K H p ws ∧ RowsAt K H exc ws ∧ RowsAt K H rest vs'
def RowAt (K : PySem.W.Frag) (H : Hp) (v : V) (n : Nd) : Prop := ∃ (o w b p : Addr) (ws : List V), v = .ref o ∧ SqT K H o [.str n.nm, .ref w, .ref b, .str n.rl, .ref p] ∧ SqT K H w (n.hs.map V.str) ∧ SqT K H b (n.fs.map V.str) ∧ SqT K H p ws ∧ RowsAt K H n.exc ws
theorem RowsAt.keeps (k : Keeps N H H') : ∀ {f : RF} {vs : List V}, RowsAt K H f vs → RowsAt K H' f vs
  | .nil, _, h => h
  | .cons nm hs fs rl exc rest, vs, h => by
    obtain ⟨o, w, b, p, ws, vs', e, h1, h2, h3, h4, h6, h7⟩ := h
    exact ⟨o, w, b, p, ws, vs', e, k.tup h1, k.tup h2, k.tup h3, k.tup h4, RowsAt.keeps k h6, RowsAt.keeps k h7⟩
theorem RowAt.keeps {v : V} {n : Nd} (h : RowAt K H v n) (k : Keeps N H H') : RowAt K H' v n := by
  obtain ⟨o, w, b, p, ws, e, h1, h2, h3, h4, h6⟩ := h
  exact ⟨o, w, b, p, ws, e, k.tup h1, k.tup h2, k.tup h3, k.tup h4, h6.keeps k⟩
theorem RowsAt.all : ∀ {f : RF} {vs : List V}, RowsAt K H f vs → All2 (RowAt K H) vs f.nodes
  | .nil, _, h => by
    obtain rfl : _ = [] := h
    exact .nil
  | .cons nm hs fs rl exc rest, vs, h => by
    obtain ⟨o, w, b, p, ws, vs', rfl, h1, h2, h3, h4, h6, h7⟩ := h
    exact .cons ⟨o, w, b, p, ws, rfl, h1, h2, h3, h4, h6⟩ h7.all
theorem RowsAt.of : ∀ {f : RF} {vs : List V}, All2 (RowAt K H) vs f.nodes → RowsAt K H f vs
  | .nil, _, h => by
    cases h
    rfl
  | .cons nm hs fs rl exc rest, vs, h => by
    cases h with
    | cons h t =>
      obtain ⟨o, w, b, p, ws, rfl, h1, h2, h3, h4, h6⟩ := h
      exact ⟨o, w, b, p, ws, _, rfl, h1, h2, h3, h4, h6, RowsAt.of t⟩
theorem RowsAt.len {f : RF} {vs : List V} (h : RowsAt K H f vs) : vs.length = f.nodes.length := h.all.len
end
end Sc
namespace Sc
open PySem PySem.Spec PyProof.Rows L2
/-! ### rules -/
/-- a getter as its users see it -/
abbrev PropX (P : Program) (w : World) (K : PySem.W.Frag) (mg : Str → Option Value) (base : Heap) (C : Addr) (n f : Str) : Prop := ∃ p g fd, PropC P w K mg base C p g fd n f
/-- the class Rule as its users see it -/
structure RuleX (P : Program) (w : World) (K : PySem.W.Frag) (mg : Str → Option Value) (base : Heap) (R : Addr) : Prop where
  cls : Cls K R
  name : PropX P w K mg base R "name" "_name"
  condition : PropX P w K mg base R "condition" "_condition"
  ruling : PropX P w K mg base R "ruling" "_ruling"
  exceptions : PropX P w K mg base R "exceptions" "_exceptions"
  depth : PropX P w K mg base R "depth" "_depth"
/-- the getters of a condition -/
structure CondG (P : Program) (w : World) (K : PySem.W.Frag) (mg : Str → Option Value) (base : Heap) (C : Addr) : Prop where
  cls : Cls K C
  holding : PropX P w K mg base C "holding" "_holding"
  failing : PropX P w K mg base C "failing" "_failing"
  names : PropX P w K mg base C "names" "_names"
def Below (S : Nat → Sp) : Nat → Sp
  | 0 => fun _ _ _ _ => False
  | d + 1 => S d
abbrev s_nested : Stmt := topS 31
theorem sc_nested : FnScope ["rules", "around", "found", "rule"] ["rules", "around"] (defScope s_nested) := ⟨rfl, rfl, rfl, by decide +kernel, rfl, by decide +kernel, by decide +kernel⟩
section
variable {P : Program} {w : World} {K : PySem.W.Frag} {mg : Str → Option Value} {base : Heap} {C R : Addr}
theorem FnOk.never {CX : CXT} {k : Nat} {f : Addr} {fd : FuncData} {ps : List Str} : FnOk P w K mg base CX k f fd ps (fun _ _ _ _ => False) := ⟨fun _ _ _ _ h => h.elim, fun _ _ _ _ _ _ _ _ _ _ _ _ _ h => h.elim⟩
def sp_nested (K : PySem.W.Frag) (C R : Addr) (d : Nat) : Sp := fun vs H Q _ => ∃ (N : Addr → Prop) (p : Addr) (k : Nat) (ws : List V) (f : RF), vs = [.ref p, .int (k : Nat)] ∧ SqT K H p ws ∧ ForAt K C R N H f ws ∧ f.dep ≤ d ∧ f.size ≤ 900 ∧
  ∀ H' D us, Same H H' → H D = none → H' D = some (.lst us) → PreAt K C R N H' us (f.pre k) → Q (.ref D) H'
theorem ok_nested {d : Nat} {f : Addr} {fd : FuncData} (F : Fun K "nested" "nested" s_nested f fd) (kR : RuleX P w K mg base R) (c_nested : Cal P w K mg base CX0 (d + 2) "nested" ["rules", "around"] (Below (sp_nested K C R) d)) :
    FnOk P w K mg base CX0 (d + 3) f fd ["rules", "around"] (sp_nested K C R d) := by
  refine F.ok sc_nested (fun vs H Q E h => by obtain ⟨N, p, k, ws, f, rfl, _⟩ := h; rfl) (fun cdv A outer s H vs Q E hr h => ?_)
  obtain ⟨N, p, k, ws, f, rfl, hP, hF, hd, hz, q⟩ := h
  have hA := hF.used.all
  have hln := hA.len
  have hlz := RF.nodes_le f
  refine ⟨_, (pss_cons (ps_set (i := 2) sc_nested.nd rfl (Or.inl rfl) (pe_lst pa_nil))
      (pss_cons (ps_for PassesOwn.never rfl (pi_tup (pv 0)) (pg_name (i := 3) sc_nested.nd rfl (Or.inl rfl)) (pss_cons (ps_expr (pe_bm PySem.F.plainAttrs_list PySem.F.slot_list_append PySem.F.type_list_append mt_append (pv 2) (pa_cons (pe_tup (pa_cons (pv 3) (pa_cons (pv 1) pa_nil))) pa_nil)))
      (pss_one (ps_expr (pe_bm PySem.F.plainAttrs_list PySem.F.slot_list_extend PySem.F.type_list_extend mt_extend (pv 2) (pa_cons (pe_cal c_nested hr (pa_cons (pe_cprop kR.exceptions kR.cls (hr.mono (by omega)) (pv 3)) (pa_cons (pe_op op_add (pv 1) pe_int) pa_nil))) pa_nil))))))
      (pss_one (ps_ret (pv 2))))), ?_⟩
  refine ⟨Nat.zero_le _, fun D nD => ⟨_, rfl, p, rfl, ⟨_, ((Same.refl H).put nD).tup hP⟩, for_it walk_tup (fun i σ H' => ∃ us y, σ = [some (.ref p), some (.int (k : Nat)), some (.ref D), y] ∧ Same H H' ∧ H' D = some (.lst us) ∧ PreAt K C R (Used N H) H' us (RF.preL (f.nodes.take i) k))
    ⟨[], none, rfl, (Same.refl H).put nD, upd_same, .nil⟩ (fun _ _ _ _ ⟨_, _, _, s, _⟩ => s.tup hP) ?_ ?_⟩⟩
  · rintro i y σ H3 H2 hi ⟨us, y', rfl, s, e, hu⟩ ⟨rfl, hy⟩
    have nU := used_not (N := N) nD
    obtain ⟨n, hn, o, rfl, hN⟩ := hA.get hy
    have hmem : n ∈ f.nodes := List.mem_of_getElem? hn
    have hdm := RF.dep_mem f n hmem
    have hsm := RF.size_mem f n hmem
    obtain ⟨d, rfl⟩ : ∃ d', d = d' + 1 := ⟨d - 1, by omega⟩
    have hul := hu.len
    have hpl := RF.preL_len (f := f) (i := i) (k := k)
    have hpl2 := RF.preL_len (f := f) (i := i + 1) (k := k)
    rw [RF.preL_more hn, List.length_append, List.length_cons, RF.pre_len] at hpl2
    refine ⟨_, rfl, .inl ⟨rfl, _, sqL_of e⟩, _, rfl, _, rfl, (by show 2 ≤ sizeLine; decide), fun t nt => ?_⟩
    have s3 := s.put' (o := .tup [.ref o, .int (k : Nat)]) nt
    have e3 : (upd H2 t (.tup [.ref o, .int (k : Nat)])) D = some (.lst us) := by rw [upd_ne (ne_of_none e nt)]; exact e
    have t3 : (upd H2 t (.tup [.ref o, .int (k : Nat)])) t = some (.tup [.ref o, .int (k : Nat)]) := upd_same
    have s23 : Same H2 (upd H2 t (.tup [.ref o, .int (k : Nat)])) := (Same.refl H2).put nt
    have hu3 := hu.keeps s23.keeps
    clear s23
    generalize upd H2 t (.tup [.ref o, .int (k : Nat)]) = H3 at s3 e3 t3 hu3 ⊢
    refine ⟨D, _, _, rfl, rfl, e3, small1000 (by omega), ?_⟩
    have s4 : Same H (upd H3 D (.lst (us ++ [.ref t]))) := s3.put nD
    have e4 : (upd H3 D (.lst (us ++ [.ref t]))) D = some (.lst (us ++ [.ref t])) := upd_same
    have tD : t ≠ D := fun z => by rw [z, e3] at t3; cases t3
    have hu4 : PreAt K C R (Used N H) (upd H3 D (.lst (us ++ [.ref t]))) (us ++ [.ref t]) (RF.preL (f.nodes.take i) k ++ [(n, k)]) :=
      (hu3.keeps (keeps_own e3 nU)).snoc ⟨t, o, rfl, by rw [upd_ne tD]; exact t3, hN.keeps s4.keeps⟩
    generalize upd H3 D (.lst (us ++ [.ref t])) = H4 at s4 e4 hu4 ⊢
    obtain ⟨dx, c, pe, l, ws', ho, hc, hpe, hl, hfe⟩ := hN
    refine ⟨_, rfl, .inl ⟨rfl, _, sqL_of e4⟩, _, rfl, o, dx, _, rfl, s4 _ _ ho, ⟨o, dx, _, _, rfl, s4 _ _ ho, rfl, ?_⟩⟩
    refine ⟨_, rfl, k, 1, rfl, rfl, ?_⟩
    refine ⟨_, pe, k + 1, ws', n.exc, rfl, s4.tup hpe, hfe.keeps s4.keeps, by omega, by omega, fun H5 D5 us5 s5 n5 e5 hu5 => ?_⟩
    have s45 := s4.trans s5
    have e45 := s5 _ _ e4
    refine ⟨D, D5, _, _, rfl, rfl, e45, e5, ?_, ?_⟩
    · have := hu5.len
      rw [RF.pre_len] at this
      have h4 := hu4.len
      rw [List.length_append (bs := [(n, k)]), List.length_singleton] at h4
      exact Nat.le_of_lt (small1000 (by omega))
    refine ⟨_, _, rfl, s45.put nD, upd_same, ?_⟩
    rw [RF.preL_more hn]
    have h1 := (hu4.keeps s5.keeps).app hu5
    have h2 := PreAt.keeps h1 (keeps_own (o := .lst (us ++ [.ref t] ++ us5)) e45 nU)
    rw [show RF.preL (f.nodes.take i) k ++ [(n, k)] ++ n.exc.pre (k + 1) = RF.preL (f.nodes.take i) k ++ ((n, k) :: n.exc.pre (k + 1)) by simp] at h2
    exact h2
  · rintro σ H2 ⟨us, y, rfl, s, e, hu⟩
    rw [hln, RF.preL_all] at hu
    exact ⟨_, rfl, q H2 D us s nD e (hu.mono fun _ _ x => x.re fun b xs h _ => h.1)⟩
end
end Sc
namespace Sc
open PySem PySem.Spec PyProof.Rows L2
/-! ### an object Rule -/
abbrev s_Rule___init__ : Stmt := (inClass (topS 29) 0)
theorem sc_Rule___init__ : FnScope ["self", "name", "condition", "ruling", "exceptions", "rule", "_"] ["self", "name", "condition", "ruling", "exceptions"] (defScope s_Rule___init__) := ⟨rfl, rfl, rfl, by decide +kernel, rfl, by decide +kernel, by decide +kernel⟩
abbrev s_Rule_name : Stmt := (inClass (topS 29) 1)
theorem sc_Rule_name : FnScope ["self"] ["self"] (defScope s_Rule_name) := ⟨rfl, rfl, rfl, by decide +kernel, rfl, by decide +kernel, by decide +kernel⟩
abbrev s_Rule_condition : Stmt := (inClass (topS 29) 2)
theorem sc_Rule_condition : FnScope ["self"] ["self"] (defScope s_Rule_condition) := ⟨rfl, rfl, rfl, by decide +kernel, rfl, by decide +kernel, by decide +kernel⟩
abbrev s_Rule_ruling : Stmt := (inClass (topS 29) 3)
theorem sc_Rule_ruling : FnScope ["self"] ["self"] (defScope s_Rule_ruling) := ⟨rfl, rfl, rfl, by decide +kernel, rfl, by decide +kernel, by decide +kernel⟩
abbrev s_Rule_exceptions : Stmt := (inClass (topS 29) 4)
theorem sc_Rule_exceptions : FnScope ["self"] ["self"] (defScope s_Rule_exceptions) := ⟨rfl, rfl, rfl, by decide +kernel, rfl, by decide +kernel, by decide +kernel⟩
abbrev s_Rule_depth : Stmt := (inClass (topS 29) 5)
theorem sc_Rule_depth : FnScope ["self"] ["self"] (defScope s_Rule_depth) := ⟨rfl, rfl, rfl, by decide +kernel, rfl, by decide +kernel, by decide +kernel⟩
section
variable {P : Program} {w : World} {K : PySem.W.Frag} {mg : Str → Option Value} {base : Heap} {C R CR : Addr}
theorem ok_Rule_name {f : Addr} {fd : FuncData} (F : Fun K "name" "Rule.name" s_Rule_name f fd) (T : Cls K R) (n : NoAttr K R "_name") : FnOk P w K mg base CX0 1 f fd ["self"] (sp_prop R "_name") := by
  refine F.ok sc_Rule_name (fun vs H Q E h => by obtain ⟨x, dx, fs, v, rfl, _⟩ := h; rfl) (fun cdv A outer s H vs Q E hr h => ?_)
  obtain ⟨x, dx, fs, v, rfl, hx, hl, q⟩ := h
  exact ⟨_, (pss_one (ps_ret (pe_fld (pv 0) rfl))), ⟨_, rfl, x, R, dx, fs, v, rfl, hx, T, n, hl, q⟩⟩
theorem ok_Rule_condition {f : Addr} {fd : FuncData} (F : Fun K "condition" "Rule.condition" s_Rule_condition f fd) (T : Cls K R) (n : NoAttr K R "_condition") : FnOk P w K mg base CX0 1 f fd ["self"] (sp_prop R "_condition") := by
  refine F.ok sc_Rule_condition (fun vs H Q E h => by obtain ⟨x, dx, fs, v, rfl, _⟩ := h; rfl) (fun cdv A outer s H vs Q E hr h => ?_)
  obtain ⟨x, dx, fs, v, rfl, hx, hl, q⟩ := h
  exact ⟨_, (pss_one (ps_ret (pe_fld (pv 0) rfl))), ⟨_, rfl, x, R, dx, fs, v, rfl, hx, T, n, hl, q⟩⟩
theorem ok_Rule_ruling {f : Addr} {fd : FuncData} (F : Fun K "ruling" "Rule.ruling" s_Rule_ruling f fd) (T : Cls K R) (n : NoAttr K R "_ruling") : FnOk P w K mg base CX0 1 f fd ["self"] (sp_prop R "_ruling") := by
  refine F.ok sc_Rule_ruling (fun vs H Q E h => by obtain ⟨x, dx, fs, v, rfl, _⟩ := h; rfl) (fun cdv A outer s H vs Q E hr h => ?_)
  obtain ⟨x, dx, fs, v, rfl, hx, hl, q⟩ := h
  exact ⟨_, (pss_one (ps_ret (pe_fld (pv 0) rfl))), ⟨_, rfl, x, R, dx, fs, v, rfl, hx, T, n, hl, q⟩⟩
theorem ok_Rule_exceptions {f : Addr} {fd : FuncData} (F : Fun K "exceptions" "Rule.exceptions" s_Rule_exceptions f fd) (T : Cls K R) (n : NoAttr K R "_exceptions") : FnOk P w K mg base CX0 1 f fd ["self"] (sp_prop R "_exceptions") := by
  refine F.ok sc_Rule_exceptions (fun vs H Q E h => by obtain ⟨x, dx, fs, v, rfl, _⟩ := h; rfl) (fun cdv A outer s H vs Q E hr h => ?_)
  obtain ⟨x, dx, fs, v, rfl, hx, hl, q⟩ := h
  exact ⟨_, (pss_one (ps_ret (pe_fld (pv 0) rfl))), ⟨_, rfl, x, R, dx, fs, v, rfl, hx, T, n, hl, q⟩⟩
theorem ok_Rule_depth {f : Addr} {fd : FuncData} (F : Fun K "depth" "Rule.depth" s_Rule_depth f fd) (T : Cls K R) (n : NoAttr K R "_depth") : FnOk P w K mg base CX0 1 f fd ["self"] (sp_prop R "_depth") := by
  refine F.ok sc_Rule_depth (fun vs H Q E h => by obtain ⟨x, dx, fs, v, rfl, _⟩ := h; rfl) (fun cdv A outer s H vs Q E hr h => ?_)
  obtain ⟨x, dx, fs, v, rfl, hx, hl, q⟩ := h
  exact ⟨_, (pss_one (ps_ret (pe_fld (pv 0) rfl))), ⟨_, rfl, x, R, dx, fs, v, rfl, hx, T, n, hl, q⟩⟩
theorem putF_le {f : Str} {v : V} {fs : List (Str × V)} {n : Nat} (h : fs.length ≤ n) : (putF f v fs).length ≤ n + 1 := Nat.le_trans (putF_len f v fs) (Nat.succ_le_succ h)
theorem SameX.refl {x : Addr} {H : Hp} : SameX x H H := fun _ _ _ e => e
theorem SameX.put {x : Addr} {H H' : Hp} {o : HO} (s : SameX x H H') : SameX x H (upd H' x o) := fun b o' ne e => by rw [upd_ne ne]; exact s b o' ne e
theorem SameX.same {x : Addr} {H H' H'' : Hp} (s : SameX x H H') (k : Same H' H'') : SameX x H H'' := fun b o ne e => k _ _ (s b o ne e)
theorem SameX.of {x : Addr} {H H' : Hp} (k : Same H H') : SameX x H H' := fun b o _ e => k _ _ e
theorem SameX.free {x l : Addr} {H H' : Hp} (s : SameX x H H') (ne : l ≠ x) (n : H' l = none) : H l = none := by
  cases e : H l with
  | none => rfl
  | some o => rw [s l o ne e] at n; cases n
theorem dep_is {f : RF} {m : Int} (hm : m ∈ (0 : Int) :: f.nodes.map fun n => ((n.exc.dep + 1 : Nat) : Int)) (hle : ∀ y, y ∈ ((0 : Int) :: f.nodes.map fun n => ((n.exc.dep + 1 : Nat) : Int)) → y ≤ m) : m = (f.dep : Nat) := by
  have h0 := hle 0 List.mem_cons_self
  obtain ⟨k, rfl⟩ := Int.eq_ofNat_of_zero_le h0
  have h1 : f.dep ≤ k := RF.dep_le f k fun n hn => by
    have := hle _ (List.mem_cons_of_mem _ (List.mem_map.mpr ⟨n, hn, rfl⟩))
    omega
  have h2 : k ≤ f.dep := by
    rcases List.mem_cons.mp hm with h | h
    · omega
    · obtain ⟨n, hn, e⟩ := List.mem_map.mp h
      have := RF.dep_mem f n hn
      omega
  omega
def errPt (C : Addr) (w : Str) (H : Hp) (E : XK) : Prop := ∀ H' d, Same H H' → H' d = none → E (.ref C) (some d) (upd H' d (.xd [(("part" : Str), .str w)]))
def sp_rule_init (K : PySem.W.Frag) (C R CR : Addr) : Sp := fun vs H Q E => ∃ (N : Addr → Prop) (x dx c p : Addr) (nm rl : Str) (ws : List V) (exc : RF), vs = [.ref x, .str nm, .ref c, .str rl, .ref p] ∧ H x = some (.ins R dx []) ∧ SqT K H p ws ∧ ForAt K C R N H exc ws ∧ nm.length ≤ 1000 ∧ rl.length ≤ 1000 ∧ exc.dep ≤ 12 ∧ exc.size ≤ 900 ∧
  (isName nm = false → errPt CR "name" H E) ∧ (isName nm = true → (isName rl = false → errPt CR "ruling" H E) ∧ (isName rl = true →
    ∀ H' l, SameX x H H' → H' x = some (.ins R dx (ruleF nm c rl p ((exc.dep + 1 : Nat) : Int) l)) → l ≠ x → H l = none → H' l = some (.lst ((nm :: exc.names).map V.str)) → Q .non H'))
theorem ok_rule_init {f : Addr} {fd : FuncData} (F : Fun K "__init__" "Rule.__init__" s_Rule___init__ f fd) (B : Blt mg) (T : Cls K R) (n1 : NoAttr K R "_name") (n2 : NoAttr K R "_condition") (n3 : NoAttr K R "_ruling") (n4 : NoAttr K R "_exceptions") (n5 : NoAttr K R "_depth") (n6 : NoAttr K R "_inside")
    (kR : RuleX P w K mg base R) (e_InvalidRule : ErrMk P w K mg base "InvalidRule" CR ["self", "part"] (sp_init1 CR "part")) (c_is_name : Cal P w K mg base CX0 1 "is_name" ["value"] sp_is_name) (c_nested : Cal P w K mg base CX0 15 "nested" ["rules", "around"] (sp_nested K C R 12)) :
    FnOk P w K mg base (L2.CX P w) 16 f fd ["self", "name", "condition", "ruling", "exceptions"] (sp_rule_init K C R CR) := by
  refine F.okX sc_Rule___init__ (fun vs H Q E h => by obtain ⟨N, x, dx, c, p, nm, rl, ws, exc, rfl, _⟩ := h; rfl) (fun cdv A outer s H vs Q E hr h => ?_)
  obtain ⟨N, x, dx, c, p, nm, rl, ws, exc, rfl, hx, hP, hF, ln, lr, hd, hz, e1, q⟩ := h
  refine ⟨_, (pss_cons (ps_if (pt_not (pt_val (pe_cal c_is_name (hr.mono (by decide)) (pa_cons (pv 1) pa_nil)))) (pss_one (ps_raise rfl (takes_of rfl rfl rfl rfl) (pmk_err1 e_InvalidRule (hr.mono (by decide)) pe_str))) pss_nil)
      (pss_cons (ps_if (pt_not (pt_val (pe_cal c_is_name (hr.mono (by decide)) (pa_cons (pv 3) pa_nil)))) (pss_one (ps_raise rfl (takes_of rfl rfl rfl rfl) (pmk_err1 e_InvalidRule (hr.mono (by decide)) pe_str))) pss_nil)
      (pss_cons (ps_fld (pv 0) (pv 1) rfl)
      (pss_cons (ps_fld (pv 0) (pv 2) rfl)
      (pss_cons (ps_fld (pv 0) (pv 3) rfl)
      (pss_cons (ps_fld (pv 0) (pv 4) rfl)
      (pss_cons (ps_fld (pv 0) (pe_op op_add pe_int (pe_callB (cr_max rfl) (by rfl) B.b_max PyProof.Rows.boot_max (pa_cons (pe_op op_cat (pe_lst (pa_cons pe_int pa_nil)) (pe_lc (own := [("rule", 5)]) (g := gName 5) (tt := tYes) rfl sc_Rule___init__.nd (pi_tup (pv 4)) (blkOk_by (own := [("rule", 5)]) (N := ["self", "name", "condition", "ruling", "exceptions", "rule", "_"]) (sc := defScope s_Rule___init__) (by decide +kernel)) (fun _ _ _ _ _ => (pg_name (i := 5) sc_Rule___init__.nd rfl (Or.inl rfl))) (fun _ _ _ _ _ => pts_nil) (fun _ _ _ _ _ => (pe_.re (pe_cprop kR.depth kR.cls (hr.mono (by decide)) (pv 5)) (by first | (dsimp only [Cx.blk]; done) | exact rfl))))) pa_nil))) rfl)
      (pss_one (ps_fld (pv 0) (pe_op op_cat (pe_lst (pa_cons (pv 1) pa_nil)) (pe_lc (own := [("rule", 5), ("_", 6)]) (g := gTup K 2 (gCons (gName 5) (gCons (gName 6) gNil))) (tt := tYes) rfl sc_Rule___init__.nd (pi_list (pe_cal c_nested (hr.mono (by decide)) (pa_cons (pv 4) (pa_cons pe_int pa_nil)))) (blkOk_by (own := [("rule", 5), ("_", 6)]) (N := ["self", "name", "condition", "ruling", "exceptions", "rule", "_"]) (sc := defScope s_Rule___init__) (by decide +kernel)) (fun _ _ _ _ _ => (pg_tup (by rfl) (pgs_cons (pg_name (i := 5) sc_Rule___init__.nd rfl (Or.inl rfl)) (pgs_cons (pg_name (i := 6) sc_Rule___init__.nd rfl (Or.inl rfl)) pgs_nil)))) (fun _ _ _ _ _ => pts_nil) (fun _ _ _ _ _ => (pe_.re (pe_cprop kR.name kR.cls (hr.mono (by decide)) (pv 5)) (by first | (dsimp only [Cx.blk]; done) | exact rfl))))) rfl))))))))), ?_⟩
  have big : ∀ {m : Nat}, m ≤ 1000 → m ≤ sizeLine := fun {m} h => by rw [sizeLine_eq]; omega
  have fkp : ∀ wd : Str, wd.length ≤ 1000 → FOk (.str wd) := fun wd h => Nat.le_trans h (by decide)
  refine ⟨_, rfl, nm, rfl, big ln, fun H1 s1 => ⟨_, rfl, bcase (fun c1 => ?_) (fun c1 => ?_)⟩⟩
  · exact ⟨fkp "name" (by decide), fun d nd => e1 ((Bool.not_eq_true' _).mp c1) H1 d s1 nd⟩
  obtain ⟨e2, q⟩ := q ((Bool.not_eq_false' _).mp c1)
  refine ⟨_, rfl, rl, rfl, big lr, fun H2 s2 => ⟨_, rfl, bcase (fun c2 => ?_) (fun c2 => ?_)⟩⟩
  · exact ⟨fkp "ruling" (by decide), fun d nd => e2 ((Bool.not_eq_true' _).mp c2) H2 d (s1.trans s2) nd⟩
  have q := q ((Bool.not_eq_false' _).mp c2)
  have s12 := s1.trans s2
  have hx2 := s12 _ _ hx
  refine ⟨_, rfl, _, rfl, x, R, dx, _, rfl, hx2, T, n1, by decide, ?_⟩
  refine ⟨_, rfl, _, rfl, x, R, dx, _, rfl, upd_same, T, n2, Nat.lt_of_le_of_lt (putF_le (Nat.zero_le 0)) (by decide), ?_⟩
  refine ⟨_, rfl, _, rfl, x, R, dx, _, rfl, upd_same, T, n3, Nat.lt_of_le_of_lt (putF_le (putF_le (Nat.zero_le 0))) (by decide), ?_⟩
  refine ⟨_, rfl, _, rfl, x, R, dx, _, rfl, upd_same, T, n4, Nat.lt_of_le_of_lt (putF_le (putF_le (putF_le (Nat.zero_le 0)))) (by decide), ?_⟩
  have sx : SameX x H (upd (upd (upd (upd H2 x (.ins R dx (putF "_name" (.str nm) []))) x (.ins R dx (putF "_condition" (.ref c) (putF "_name" (.str nm) [])))) x (.ins R dx (putF "_ruling" (.str rl) (putF "_condition" (.ref c) (putF "_name" (.str nm) []))))) x (.ins R dx (putF "_exceptions" (.ref p) (putF "_ruling" (.str rl) (putF "_condition" (.ref c) (putF "_name" (.str nm) [])))))) := ((((SameX.of s12).put).put).put).put
  have hx6 : (upd (upd (upd (upd H2 x (.ins R dx (putF "_name" (.str nm) []))) x (.ins R dx (putF "_condition" (.ref c) (putF "_name" (.str nm) [])))) x (.ins R dx (putF "_ruling" (.str rl) (putF "_condition" (.ref c) (putF "_name" (.str nm) []))))) x (.ins R dx (putF "_exceptions" (.ref p) (putF "_ruling" (.str rl) (putF "_condition" (.ref c) (putF "_name" (.str nm) [])))))) x = some (.ins R dx (putF "_exceptions" (.ref p) (putF "_ruling" (.str rl) (putF "_condition" (.ref c) (putF "_name" (.str nm) []))))) := upd_same
  generalize upd (upd (upd (upd H2 x (.ins R dx (putF "_name" (.str nm) []))) x (.ins R dx (putF "_condition" (.ref c) (putF "_name" (.str nm) [])))) x (.ins R dx (putF "_ruling" (.str rl) (putF "_condition" (.ref c) (putF "_name" (.str nm) []))))) x (.ins R dx (putF "_exceptions" (.ref p) (putF "_ruling" (.str rl) (putF "_condition" (.ref c) (putF "_name" (.str nm) []))))) = H6 at sx hx6 ⊢
  have k6 : Keeps N H H6 := sx.keeps hx
  have hP6 := k6.tup hP
  have hF6 := hF.keeps k6
  have hA6 := hF6.all
  have hln := hA6.len
  have hlz := RF.nodes_le exc
  refine ⟨(by show 1 ≤ sizeLine; decide), fun l0 nl0 => ?_⟩
  have s0 : Same H6 (upd H6 l0 (.lst [.int 0])) := (Same.refl H6).put nl0
  have el0 : (upd H6 l0 (.lst [.int 0])) l0 = some (.lst [.int 0]) := upd_same
  generalize upd H6 l0 (.lst [.int 0]) = H7 at s0 el0 ⊢
  refine ⟨_, rfl, p, rfl, ⟨_, s0.tup hP6⟩, fun D nD => lc_it walk_tup (fun i H' => Same H7 H' ∧ H' D = some (.lst ((exc.nodes.take i).map fun n => V.int ((n.exc.dep + 1 : Nat) : Int)))) ⟨(Same.refl H7).put nD, upd_same⟩ (fun _ _ _ h => (s0.trans h.1).tup hP6) ?_ ?_⟩
  · rintro i y H8 H9 hi ⟨s, e⟩ ⟨rfl, hy⟩
    obtain ⟨n, hn, o, rfl, hN⟩ := hA6.get hy
    obtain ⟨dx', c', p', l', ws', ho, _⟩ := hN
    have ho := s _ _ (s0 _ _ ho)
    refine ⟨rfl, yes_ ⟨_, rfl, o, dx', _, rfl, ho, o, dx', _, _, rfl, ho, rfl, grow (acc := fun i => (exc.nodes.take i).map fun n => V.int ((n.exc.dep + 1 : Nat) : Int)) nD s e ?_ ?_⟩⟩
    · rw [List.length_map, List.length_take]
      exact small1000 (by omega)
    · show List.map _ _ = _
      rw [take_more hn, List.map_append]
      rfl
  rintro H8 ⟨s8, e8⟩
  rw [hln, List.take_length] at e8
  have el8 := s8 _ _ el0
  refine ⟨l0, D, _, _, rfl, rfl, el8, e8, ?_, fun l2 nl2 => ?_⟩
  · rw [List.length_map]
    exact big (by show 1 + _ ≤ _; omega)
  have s9 : Same H8 (upd H8 l2 (.lst ([V.int 0] ++ exc.nodes.map fun n => V.int ((n.exc.dep + 1 : Nat) : Int)))) := (Same.refl H8).put nl2
  have e9 : (upd H8 l2 (.lst ([V.int 0] ++ exc.nodes.map fun n => V.int ((n.exc.dep + 1 : Nat) : Int)))) l2 = some (.lst ([V.int 0] ++ exc.nodes.map fun n => V.int ((n.exc.dep + 1 : Nat) : Int))) := upd_same
  generalize upd H8 l2 (.lst ([V.int 0] ++ exc.nodes.map fun n => V.int ((n.exc.dep + 1 : Nat) : Int))) = H9 at s9 e9 ⊢
  refine ⟨l2, (0 : Int) :: exc.nodes.map (fun n => ((n.exc.dep + 1 : Nat) : Int)), rfl, sqL_of (by rw [e9, List.map_cons, List.map_map]; rfl), Nat.succ_pos _, fun m hm hle => ?_⟩
  obtain rfl := dep_is hm hle
  have s69 := (s0.trans s8).trans s9
  have hx9 := s69 _ _ hx6
  refine ⟨1, _, rfl, rfl, _, rfl, x, R, dx, _, rfl, hx9, T, n5, Nat.lt_of_le_of_lt (putF_le (putF_le (putF_le (putF_le (Nat.zero_le 0))))) (by decide), ?_⟩
  have sx10 : SameX x H (upd H9 x (.ins R dx (putF "_depth" (.int (1 + (exc.dep : Int))) (putF "_exceptions" (.ref p) (putF "_ruling" (.str rl) (putF "_condition" (.ref c) (putF "_name" (.str nm) []))))))) := (sx.same s69).put
  have hx10 : (upd H9 x (.ins R dx (putF "_depth" (.int (1 + (exc.dep : Int))) (putF "_exceptions" (.ref p) (putF "_ruling" (.str rl) (putF "_condition" (.ref c) (putF "_name" (.str nm) []))))))) x = some (.ins R dx (putF "_depth" (.int (1 + (exc.dep : Int))) (putF "_exceptions" (.ref p) (putF "_ruling" (.str rl) (putF "_condition" (.ref c) (putF "_name" (.str nm) [])))))) := upd_same
  generalize upd H9 x (.ins R dx (putF "_depth" (.int (1 + (exc.dep : Int))) (putF "_exceptions" (.ref p) (putF "_ruling" (.str rl) (putF "_condition" (.ref c) (putF "_name" (.str nm) [])))))) = H10 at sx10 hx10 ⊢
  rw [show 1 + (exc.dep : Int) = ((exc.dep + 1 : Nat) : Int) by omega] at hx10
  have k10 : Keeps N H H10 := sx10.keeps hx
  refine ⟨_, rfl, (by show 1 ≤ sizeLine; decide), fun l1 nl1 => ?_⟩
  have s11 : Same H10 (upd H10 l1 (.lst [.str nm])) := (Same.refl H10).put nl1
  have e11 : (upd H10 l1 (.lst [.str nm])) l1 = some (.lst [.str nm]) := upd_same
  generalize upd H10 l1 (.lst [.str nm]) = H11 at s11 e11 ⊢
  refine ⟨_, rfl, N, p, 1, ws, exc, rfl, s11.tup (k10.tup hP), (hF.keeps k10).keeps s11.keeps, hd, hz, fun H12 D3 us s12' nD3 eD3 hu => ?_⟩
  have hul := hu.len
  rw [RF.pre_len] at hul
  refine ⟨D3, rfl, ⟨_, sqL_of eD3⟩, fun D4 nD4 => lc_it walk_list (fun i H' => Same H12 H' ∧ H' D4 = some (.lst (((exc.pre 1).take i).map fun q => V.str q.1.nm))) ⟨(Same.refl H12).put nD4, upd_same⟩ (fun _ _ _ h => sqL_of (h.1 _ _ eD3)) ?_ ?_⟩
  · rintro i y H13 H14 hi ⟨s, e⟩ ⟨rfl, hy⟩
    obtain ⟨⟨n, k⟩, hq, t, o, rfl, ht, hN⟩ := hu.get hy
    obtain ⟨dx', c', p', l', ws', ho, _⟩ := hN
    have ho := s _ _ ho
    have ht := s _ _ ht
    refine ⟨t, [.ref o, .int (k : Nat)], rfl, sqT_of ht, rfl, _, _, rfl, _, _, rfl, rfl, rfl, yes_ ⟨_, rfl, o, dx', _, rfl, ho, o, dx', _, _, rfl, ho, rfl, grow (acc := fun i => ((exc.pre 1).take i).map fun q => V.str q.1.nm) nD4 s e ?_ ?_⟩⟩
    · rw [List.length_map, List.length_take, RF.pre_len]
      exact small1000 (by omega)
    · show List.map _ _ = _
      rw [take_more hq, List.map_append]
      rfl
  rintro H13 ⟨s13, e13⟩
  rw [hu.len, List.take_length] at e13
  have e13 : H13 D4 = some (.lst (exc.names.map V.str)) := by rw [e13, ← RF.pre_names exc 1, List.map_map]; rfl
  have s1013 := (s11.trans s12').trans s13
  refine ⟨l1, D4, _, _, rfl, rfl, s13 _ _ (s12' _ _ e11), e13, ?_, fun l2' nl2' => ?_⟩
  · rw [List.length_map, ← RF.pre_names exc 1, List.length_map, RF.pre_len]
    exact big (by show 1 + _ ≤ _; omega)
  have s14 : Same H13 (upd H13 l2' (.lst ([V.str nm] ++ exc.names.map V.str))) := (Same.refl H13).put nl2'
  have e14 : (upd H13 l2' (.lst ([V.str nm] ++ exc.names.map V.str))) l2' = some (.lst ((nm :: exc.names).map V.str)) := upd_same
  generalize upd H13 l2' (.lst ([V.str nm] ++ exc.names.map V.str)) = H14 at s14 e14 ⊢
  have s1014 := s1013.trans s14
  have hx14 := s1014 _ _ hx10
  have ne : l2' ≠ x := fun z => by rw [z, hx14] at e14; cases e14
  refine ⟨_, rfl, x, R, dx, _, rfl, hx14, T, n6, Nat.lt_of_le_of_lt (putF_le (putF_le (putF_le (putF_le (putF_le (Nat.zero_le 0)))))) (by decide), ?_⟩
  exact q _ l2' (sx10.same s1014).put upd_same ne (sx10.free ne (s1013.free nl2')) (by rw [upd_ne ne]; exact e14)
end
end Sc
namespace Sc
open PySem PySem.Spec PyProof.Rows L2
abbrev s_check_rules : Stmt := topS 32
theorem sc_check_rules : FnScope ["facts", "rules", "names", "outermost", "index", "rule", "around", "name"] ["facts", "rules"] (defScope s_check_rules) := ⟨rfl, rfl, rfl, by decide +kernel, rfl, by decide +kernel, by decide +kernel⟩
/-- the word for a rule of a book that is wrong: met the names ahead of it, out how many are outermost -/
def faultAt (facts met : List Str) (out i : Nat) (n : Nd) (k : Nat) : Option Str :=
  if n.nm ∈ met then some "name" else if ((srt (n.hs ++ n.fs)).any fun x => !decide (x ∈ facts)) = true then some "condition" else if 5 < k then some "depth" else if i = 60 ∨ 40 < out then some "many" else none
def outNext (out k : Nat) : Nat := if k = 0 then out + 1 else out
def firstFault (facts : List Str) : List (Nd × Nat) → List Str → Nat → Nat → Option (Str × Nat)
  | [], _, _, _ => none
  | (n, k) :: r, met, out, i => match faultAt facts met (outNext out k) i n k with
    | some w => some (w, i)
    | none => firstFault facts r (met ++ [n.nm]) (outNext out k) (i + 1)
/-- the error that tells a word and an index -/
def errWI (C : Addr) (w : Str) (i : Int) (H : Hp) (E : XK) : Prop := ∀ H' d, Same H H' → H' d = none → E (.ref C) (some d) (upd H' d (.xd [(("index" : Str), .int i), (("word" : Str), .str w)]))
/-- parts that are no longer than those of a condition -/
def RF.Fit (f : RF) : Prop := ∀ q ∈ f.pre 0, q.1.hs.length + q.1.fs.length ≤ 100
section
variable {P : Program} {w : World} {K : PySem.W.Frag} {mg : Str → Option Value} {base : Heap} {C R CB : Addr}
theorem set_same' {σ : L2.St} {i : Nat} {v : Option V} (h : σ[i]? = some v) : σ.set i v = σ := by
  apply List.ext_getElem?
  intro j
  rw [List.getElem?_set]
  split
  · rename_i e
    subst e
    split
    · exact h.symm
    · rename_i c
      rw [List.getElem?_eq_none (by omega)] at h
      cases h
  · rfl
/-- if around == 0: outermost = outermost + 1 -/
def tOut (i j : Nat) : TS := fun D σ H => ∃ (out k : Nat), σ[i]? = some (some (.int (out : Nat))) ∧ σ[j]? = some (some (.int (k : Nat))) ∧ D.nx (σ.set i (some (.int (outNext out k : Nat)))) H
def sp_check_rules (K : PySem.W.Frag) (C R CB : Addr) : Sp := fun vs H Q E => ∃ (N : Addr → Prop) (a p : Addr) (xs : List Str) (ws : List V) (f : RF), vs = [.ref a, .ref p] ∧ SqT K H a (xs.map V.str) ∧ SqT K H p ws ∧ ForAt K C R N H f ws ∧ f.dep ≤ 12 ∧ f.size ≤ 900 ∧ f.Fit ∧
  (firstFault xs (f.pre 0) [] 0 0 = none → ∀ H', Same H H' → Q .non H') ∧ (∀ wd i, firstFault xs (f.pre 0) [] 0 0 = some (wd, i) → wd.length ≤ 1000 → errWI CB wd i H E)
theorem drop_at {α : Type} {l : List α} {i : Nat} {x : α} (h : l[i]? = some x) : l.drop i = x :: l.drop (i + 1) := by
  have hi : i < l.length := by
    by_cases c : i < l.length
    · exact c
    · rw [List.getElem?_eq_none (by omega)] at h; cases h
  rw [List.drop_eq_getElem_cons hi]
  rw [List.getElem?_eq_getElem hi] at h
  rw [Option.some.inj h]
theorem ok_check_rules {f : Addr} {fd : FuncData} {t1 t2 t3 : Tok} (F : Fun K "check_rules" "check_rules" s_check_rules f fd) (B : Blt mg) (kR : RuleX P w K mg base R) (kK : CondG P w K mg base C) (m_MOST_AROUND : mg "MOST_AROUND" = some (.int 5 t1)) (m_MOST_RULES : mg "MOST_RULES" = some (.int 60 t2)) (m_MOST_OUTERMOST : mg "MOST_OUTERMOST" = some (.int 40 t3))
    (e_InvalidBook : ErrMk P w K mg base "InvalidBook" CB ["self", "word", "index"] (sp_init2 CB "word" "index")) (c_nested : Cal P w K mg base CX0 15 "nested" ["rules", "around"] (sp_nested K C R 12)) :
    FnOk P w K mg base (L2.CX P w) 16 f fd ["facts", "rules"] (sp_check_rules K C R CB) := by
  refine F.okX sc_check_rules (fun vs H Q E h => by obtain ⟨N, a, p, xs, ws, f, rfl, _⟩ := h; rfl) (fun cdv A outer s H vs Q E hr h => ?_)
  obtain ⟨N, a, p, xs, ws, f, rfl, hA, hP, hF, hd, hz, hfit, q, er⟩ := h
  refine ⟨_, (pss_cons (ps_set (i := 2) sc_check_rules.nd rfl (Or.inl rfl) (pe_lst pa_nil))
      (pss_cons (ps_set (i := 3) sc_check_rules.nd rfl (Or.inl rfl) pe_int)
      (pss_one (ps_for (passes_of rfl) rfl (pi_enum (by rfl) B.b_enumerate (pa_cons (pe_cal c_nested (hr.mono (by decide)) (pa_cons (pv 1) (pa_cons pe_int pa_nil))) pa_nil)) (pg_tup (by rfl) (pgs_cons (pg_name (i := 4) sc_check_rules.nd rfl (Or.inl rfl)) (pgs_cons (pg_tup (by rfl) (pgs_cons (pg_name (i := 5) sc_check_rules.nd rfl (Or.inl rfl)) (pgs_cons (pg_name (i := 6) sc_check_rules.nd rfl (Or.inl rfl)) pgs_nil))) pgs_nil))) (pss_cons (wk_ps (tOut 3 6) (ps_if (pt_cmpR op_eq (pv 6) pe_int (nomark _)) (pss_one (ps_set (i := 3) sc_check_rules.nd rfl (Or.inl rfl) (pe_op op_add (pv 3) pe_int))) pss_nil) ?wo)
      (pss_cons (ps_if (pt_cmpR op_in_seq (pe_cprop kR.name kR.cls (hr.mono (by decide)) (pv 5)) (pv 2) rfl) (pss_one (ps_raise rfl (takes_of rfl rfl rfl rfl) (pmk_err2 e_InvalidBook (hr.mono (by decide)) pe_str (pv 4)))) pss_nil)
      (pss_cons (ps_if (pt_val (pe_callB (cr_any rfl) (by rfl) B.b_any (by decide +kernel) (pa_cons (pe_lc (own := [("name", 7)]) (g := gName 7) (tt := tYes) rfl sc_check_rules.nd (pi_tup (pe_cprop kK.names kK.cls (hr.mono (by decide)) (pe_cprop kR.condition kR.cls (hr.mono (by decide)) (pv 5)))) (blkOk_by (own := [("name", 7)]) (N := ["facts", "rules", "names", "outermost", "index", "rule", "around", "name"]) (sc := defScope s_check_rules) (by decide +kernel)) (fun _ _ _ _ _ => (pg_name (i := 7) sc_check_rules.nd rfl (Or.inl rfl))) (fun _ _ _ _ _ => pts_nil) (fun _ _ _ _ _ => (pe_.re (pe_cmpR op_notIn_seq (pv 7) (pv 0) rfl) (by first | (dsimp only [Cx.blk]; done) | exact rfl)))) pa_nil))) (pss_one (ps_raise rfl (takes_of rfl rfl rfl rfl) (pmk_err2 e_InvalidBook (hr.mono (by decide)) pe_str (pv 4)))) pss_nil)
      (pss_cons (ps_if (pt_cmpR op_gt (pv 6) (pe_glob (v := .int 5) rfl m_MOST_AROUND ⟨_, rfl⟩) (nomark _)) (pss_one (ps_raise rfl (takes_of rfl rfl rfl rfl) (pmk_err2 e_InvalidBook (hr.mono (by decide)) pe_str (pv 4)))) pss_nil)
      (pss_cons (ps_if (PW.pt (pw_or (pt_cmpR op_eq (pv 4) (pe_glob (v := .int 60) rfl m_MOST_RULES ⟨_, rfl⟩) (nomark _)) (pw_or1 (pt_cmpR op_gt (pv 3) (pe_glob (v := .int 40) rfl m_MOST_OUTERMOST ⟨_, rfl⟩) (nomark _))))) (pss_one (ps_raise rfl (takes_of rfl rfl rfl rfl) (pmk_err2 e_InvalidBook (hr.mono (by decide)) pe_str (pv 4)))) pss_nil)
      (pss_one (ps_expr (pe_bm PySem.F.plainAttrs_list PySem.F.slot_list_append PySem.F.type_list_append mt_append (pv 2) (pa_cons (pe_cprop kR.name kR.cls (hr.mono (by decide)) (pv 5)) pa_nil))))))))))))), ?_⟩
  case wo =>
    rintro D σ H1 ⟨out, k, h3, h6, q⟩
    refine ⟨_, h6, rfl, _, rfl, bcase (fun c => ?_) (fun c => ?_)⟩
    · have c : k = 0 := by have := V.int.inj (of_decide_eq_true c); omega
      subst c
      exact ⟨_, h3, out, 1, rfl, rfl, q⟩
    · have c : k ≠ 0 := fun z => by subst z; exact Bool.noConfusion (c.symm.trans (decide_eq_true rfl))
      unfold outNext at q
      rw [if_neg c, set_same' h3] at q
      exact q
  refine ⟨Nat.zero_le _, fun NL nNL => ?_⟩
  have s0 : Same H (upd H NL (.lst [])) := (Same.refl H).put nNL
  have e0 : (upd H NL (.lst [])) NL = some (.lst ([].map V.str)) := upd_same
  generalize upd H NL (.lst []) = H0 at s0 e0 ⊢
  refine ⟨_, rfl, Used N H, p, 0, ws, f, rfl, s0.tup hP, hF.used.keeps s0.keeps, hd, hz, fun H1 D us s1 nD e1 hu1 => ?_⟩
  have hul := hu1.len
  rw [RF.pre_len] at hul
  refine ⟨D, _, rfl, sqL_of e1, for_it walk_enum (fun i σ H' => ∃ (met : List Str) (out : Nat) (y4 y5 y6 y7 : Option V), σ = [some (.ref a), some (.ref p), some (.ref NL), some (.int (out : Nat)), y4, y5, y6, y7] ∧ Same H H' ∧ H' D = some (.lst us) ∧ PreAt K C R (Used N H) H' us (f.pre 0) ∧ H' NL = some (.lst (met.map V.str)) ∧ met.length = i ∧
      firstFault xs (f.pre 0) [] 0 0 = firstFault xs ((f.pre 0).drop i) met out i)
    ⟨[], 0, none, none, none, none, rfl, s0.trans s1, e1, hu1, s1 _ _ e0, rfl, rfl⟩ (fun _ _ _ _ ⟨_, _, _, _, _, _, _, _, e, _⟩ => sqL_of e) ?_ ?_⟩
  · rintro i x σ H2 H3 hi ⟨met, out, y4, y5, y6, y7, rfl, s, eD, hu, eN, hm, hff⟩ ⟨T, v1, v2, rfl, nT, rfl, h1, h2⟩
    obtain rfl : V.int (i : Nat) = v1 := Option.some.inj h1
    obtain ⟨⟨n, k⟩, hq, t, o, rfl, ht, hN⟩ := hu.get h2
    have hfitq := hfit _ (List.mem_of_getElem? hq)
    rw [drop_at hq] at hff
    dsimp only at ht hN hfitq
    have s23 : Same H2 (upd H2 T (.tup [.int (i : Nat), .ref t])) := (Same.refl H2).put nT
    have s3 := s.trans s23
    have eD3 := s23 _ _ eD
    have eN3 := s23 _ _ eN
    have ht3 := s23 _ _ ht
    have hN3 := hN.keeps s23.keeps
    have hu3 := hu.keeps s23.keeps
    have eT3 : (upd H2 T (.tup [.int (i : Nat), .ref t])) T = some (.tup [.int (i : Nat), .ref t]) := upd_same
    clear s23
    generalize upd H2 T (.tup [.int (i : Nat), .ref t]) = H3 at s3 eD3 eN3 ht3 hN3 hu3 eT3 ⊢
    refine ⟨T, [.int (i : Nat), .ref t], rfl, sqT_of eT3, rfl, _, _, rfl, _, _, rfl, t, [.ref o, .int (k : Nat)], rfl, sqT_of ht3, rfl, _, _, rfl, _, _, rfl, rfl, rfl, ?_⟩
    refine ⟨out, k, rfl, rfl, ?_⟩
    obtain ⟨dx, c, pe, l, ws', ho, hc, hpe, hl, hfe⟩ := hN3
    have hi9 : i ≤ 1000 := by omega
    have fkw : ∀ wd : Str, wd.length ≤ 1000 → FOk (.str wd) ∧ FOk (.int (i : Nat)) := fun wd h => ⟨Nat.le_trans h (by decide), fok_nat hi9⟩
    have rz : ∀ {wd : Str} {H' : Hp}, faultAt xs met (outNext out k) i n k = some wd → wd.length ≤ 1000 → Same H H' → ∀ d, H' d = none → E (.ref CB) (some d) (upd H' d (.xd [(("index" : Str), .int (i : Nat)), (("word" : Str), .str wd)])) := fun {wd H'} hf hw sH d nd => er wd i (by rw [hff]; unfold firstFault; rw [hf]) hw H' d sH nd
    refine ⟨_, rfl, o, dx, _, rfl, ho, o, dx, _, _, rfl, ho, rfl, _, rfl, NL, _, rfl, .inl (sqL_of eN3), rfl, flat_strs met, _, rfl, bcase (fun c1 => ?_) (fun c1 => ?_)⟩
    · have c1 : decide (n.nm ∈ met) = true := by rw [← inV_str]; exact c1
      exact ⟨_, rfl, fkw "name" (by decide), rz (by unfold faultAt; rw [if_pos (of_decide_eq_true c1)]) (by decide) s3⟩
    have c1 : decide (n.nm ∈ met) = false := by rw [← inV_str]; exact c1
    have f1 : faultAt xs met (outNext out k) i n k = if ((srt (n.hs ++ n.fs)).any fun x => !decide (x ∈ xs)) = true then some (Str.ofString "condition") else if 5 < k then some (Str.ofString "depth") else if i = 60 ∨ 40 < outNext out k then some (Str.ofString "many") else none := by
      unfold faultAt
      rw [if_neg (of_decide_eq_false c1)]
    obtain ⟨dxc, ca, cb, cn, zs, hco, hca, hcb, hcn, hzs⟩ := hc.at_
    have hzl : zs.length ≤ 100 := by
      rw [hzs, (srt_perm _).length_eq, List.length_append]
      exact hfitq
    refine ⟨_, rfl, o, dx, _, rfl, ho, o, dx, _, _, rfl, ho, rfl, c, dxc, _, rfl, hco, c, dxc, _, _, rfl, hco, rfl, cn, rfl, ⟨_, sqT_of hcn⟩, fun D2 nD2 => lc_it walk_tup (fun j H' => Same H3 H' ∧ H' D2 = some (.lst ((zs.take j).map fun x => V.bl (!decide (x ∈ xs))))) ⟨(Same.refl H3).put nD2, upd_same⟩ (fun _ _ _ h => h.1.tup (sqT_of hcn)) ?_ ?_⟩
    · rintro j y H4 H5 hj ⟨s4, e4⟩ ⟨rfl, hy⟩
      rw [List.length_map] at hj
      have hx : zs[j]? = some zs[j] := List.getElem?_eq_getElem hj
      obtain rfl : V.str zs[j] = y := strAt_inj hx hy
      refine ⟨rfl, yes_ ⟨_, rfl, _, rfl, a, _, rfl, .inr ((s3.trans s4).tup hA), rfl, flat_strs _, grow (acc := fun j => (zs.take j).map fun x => V.bl (!decide (x ∈ xs))) nD2 s4 e4 ?_ ?_⟩⟩
      · rw [List.length_map, List.length_take]
        exact small1000 (by omega)
      · show List.map _ _ = _
        rw [take_more hx, List.map_append]
        simp only [List.map_cons, List.map_nil, inV_str]
        rfl
    rintro H4 ⟨s4, e4⟩
    rw [List.length_map, List.take_length] at e4
    refine ⟨D2, zs.map fun x => !decide (x ∈ xs), rfl, sqL_of (by rw [e4, List.map_map]; rfl), ?_⟩
    have em : (zs.map fun x => !decide (x ∈ xs)).any id = (srt (n.hs ++ n.fs)).any fun x => !decide (x ∈ xs) := by
      rw [List.any_map, hzs]
      rfl
    rw [em]
    have s5 := s3.trans s4
    refine ⟨_, rfl, bcase (fun c2 => ?_) (fun c2 => ?_)⟩
    · exact ⟨_, rfl, fkw "condition" (by decide), rz (by rw [f1, if_pos c2]) (by decide) s5⟩
    have f2 : faultAt xs met (outNext out k) i n k = if 5 < k then some (Str.ofString "depth") else if i = 60 ∨ 40 < outNext out k then some (Str.ofString "many") else none := by
      rw [f1, if_neg (by rw [c2]; exact Bool.false_ne_true)]
    refine ⟨_, rfl, k, 5, rfl, rfl, _, rfl, bcase (fun c3 => ?_) (fun c3 => ?_)⟩
    · have c3 : 5 < k := by have := of_decide_eq_true c3; omega
      exact ⟨_, rfl, fkw "depth" (by decide), rz (by rw [f2, if_pos c3]) (by decide) s5⟩
    have c3 : ¬ 5 < k := by have := of_decide_eq_false c3; omega
    rw [if_neg c3] at f2
    refine ⟨_, rfl, rfl, _, rfl, bcase (fun c4 => ?_) (fun c4 => ?_)⟩
    · have e60 : i = 60 := by have := V.int.inj (of_decide_eq_true c4); omega
      exact iteT ⟨_, rfl, fkw "many" (by decide), rz (by rw [f2, if_pos (.inl e60)]) (by decide) s5⟩
    have n60 : i ≠ 60 := fun z => by subst z; exact Bool.noConfusion (c4.symm.trans (decide_eq_true rfl))
    refine ⟨_, rfl, outNext out k, 40, rfl, rfl, _, rfl, bcase (fun c5 => ?_) (fun c5 => ?_)⟩
    · have c5 : 40 < outNext out k := by have := of_decide_eq_true c5; omega
      exact ⟨_, rfl, fkw "many" (by decide), rz (by rw [f2, if_pos (.inr c5)]) (by decide) s5⟩
    have c5 : ¬ 40 < outNext out k := by have := of_decide_eq_false c5; omega
    rw [if_neg (fun z => z.elim n60 c5)] at f2
    have eN5 := s4 _ _ eN3
    have ho5 := s4 _ _ ho
    refine ⟨_, rfl, .inl ⟨rfl, _, sqL_of eN5⟩, _, rfl, o, dx, _, rfl, ho5, o, dx, _, _, rfl, ho5, rfl, NL, _, _, rfl, rfl, eN5, ?_, ?_⟩
    · rw [List.length_map]
      exact small1000 (by omega)
    have nDL : D ≠ NL := fun z => by rw [z, e0] at nD; cases nD
    refine ⟨met ++ [n.nm], outNext out k, _, _, _, _, rfl, s5.put nNL, by rw [upd_ne nDL]; exact s4 _ _ eD3, (hu3.keeps s4.keeps).keeps (keeps_own eN5 (used_not nNL)), by rw [upd_same, List.map_append]; rfl, by rw [List.length_append, List.length_singleton, hm], ?_⟩
    rw [hff]
    show (match faultAt xs met (outNext out k) i n k with | some w => some (w, i) | none => _) = _
    rw [f2]
  · rintro σ H2 ⟨met, out, y4, y5, y6, y7, rfl, s, eD, hu, eN, hm, hff⟩
    have hl : us.length = (f.pre 0).length := hu1.len
    rw [hl, List.drop_length] at hff
    exact q hff H2 s
end
end Sc
namespace Sc
open PySem PySem.Spec PyProof.Rows L2
/-! ### facts -/
abbrev s_check_facts : Stmt := topS 19
theorem sc_check_facts : FnScope ["facts", "index", "name"] ["facts"] (defScope s_check_facts) := ⟨rfl, rfl, rfl, by decide +kernel, rfl, by decide +kernel, by decide +kernel⟩
abbrev s_check_case : Stmt := topS 20
theorem sc_check_case : FnScope ["facts", "case", "index", "name"] ["facts", "case"] (defScope s_check_case) := ⟨rfl, rfl, rfl, by decide +kernel, rfl, by decide +kernel, by decide +kernel⟩
/-- the i-th fact is wrong -/
def badAt (xs : List Str) (i : Nat) : Bool := decide (i = 60) || ((match xs[i]? with | some x => !isName x | none => false) || !risesAt xs i)
def firstBad (xs : List Str) : Option Nat := if xs = [] then some 0 else (List.range xs.length).find? (badAt xs)
section
variable {P : Program} {w : World} {K : PySem.W.Frag} {mg : Str → Option Value} {base : Heap} {CF CC CN : Addr}
def sp_check_facts (K : PySem.W.Frag) (C : Addr) : Sp := fun vs H Q E => ∃ (a : Addr) (xs : List Str), vs = [.ref a] ∧ SqT K H a (xs.map V.str) ∧ Txts xs ∧ xs.length ≤ 1000 ∧
  (firstBad xs = none → ∀ H', Same H H' → Q .non H') ∧ (∀ i, firstBad xs = some i → errIx C i H E)
theorem ok_check_facts {f : Addr} {fd : FuncData} (F : Fun K "check_facts" "check_facts" s_check_facts f fd) (B : Blt mg) (mM : ∃ t, mg "MOST_FACTS" = some (.int 60 t))
    (e_InvalidFacts : ErrMk P w K mg base "InvalidFacts" CF ["self", "index"] (sp_init1 CF "index")) (c_is_name : Cal P w K mg base CX0 1 "is_name" ["value"] sp_is_name) (c_rises : Cal P w K mg base CX0 1 "rises" ["names", "index"] (sp_rises K)) :
    FnOk P w K mg base (L2.CX P w) 3 f fd ["facts"] (sp_check_facts K CF) := by
  obtain ⟨t1, mM⟩ := mM
  refine F.okX sc_check_facts (fun vs H Q E h => by obtain ⟨a, xs, rfl, _⟩ := h; rfl) (fun cdv A outer s H vs Q E hr h => ?_)
  obtain ⟨a, xs, rfl, hS, hT, hl, q, e⟩ := h
  refine ⟨_, (pss_cons (ps_if (pt_not (pt_tru (pv 0) (by intro _; rfl))) (pss_one (ps_raise rfl (takes_of rfl rfl rfl rfl) (pmk_err1 e_InvalidFacts (hr.mono (by decide)) pe_int))) pss_nil)
      (pss_one (ps_for (passes_of rfl) rfl (pi_enumT (by rfl) B.b_enumerate (pa_cons (pv 0) pa_nil)) (pg_tup (by rfl) (pgs_cons (pg_name (i := 1) sc_check_facts.nd rfl (Or.inl rfl)) (pgs_cons (pg_name (i := 2) sc_check_facts.nd rfl (Or.inl rfl)) pgs_nil))) (pss_one (ps_if (PW.pt (pw_or (pt_cmpR op_eq (pv 1) (pe_glob (v := .int 60) rfl mM ⟨_, rfl⟩) (nomark _)) (pw_or (pt_not (pt_val (pe_cal c_is_name (hr.mono (by decide)) (pa_cons (pv 2) pa_nil)))) (pw_or1 (pt_not (pt_val (pe_cal c_rises (hr.mono (by decide)) (pa_cons (pv 0) (pa_cons (pv 1) pa_nil))))))))) (pss_one (ps_raise rfl (takes_of rfl rfl rfl rfl) (pmk_err1 e_InvalidFacts (hr.mono (by decide)) (pv 1)))) pss_nil))))), ?_⟩
  refine ⟨.ref a, rfl, _, .inr (.inl ⟨_, hS, rfl⟩), bcase (fun e0 => ?_) (fun e0 => ?_)⟩
  · have ex : xs = [] := by
      cases xs with
      | nil => rfl
      | cons x r => exact Bool.noConfusion (show false = true from e0)
    exact ⟨fok_nat (i := 0) (by decide), fun d nd => e 0 (by unfold firstBad; rw [if_pos ex]) H d (Same.refl H) nd⟩
  · have ex : xs ≠ [] := fun z => by
      subst z
      exact Bool.noConfusion (show true = false from e0)
    have rz : ∀ {i : Nat} {H' : Hp}, i < xs.length → (∀ j, j < i → badAt xs j = false) → badAt xs i = true → Same H H' → ∀ d, H' d = none → E (.ref CF) (some d) (upd H' d (.xd [(("index" : Str), .int (i : Nat))])) :=
      fun {i H'} hi hb hp s d nd => e i (by unfold firstBad; rw [if_neg ex]; exact find_at hi hp hb) H' d s nd
    refine ⟨.ref a, rfl, a, _, rfl, hS, for_it walk_enumT (fun i σ H' => ∃ y1 y2, σ = [some (.ref a), y1, y2] ∧ Same H H' ∧ ∀ j, j < i → badAt xs j = false)
      ⟨none, none, rfl, Same.refl H, fun j hj => absurd hj (Nat.not_lt_zero j)⟩ (fun i σ H' _ ⟨_, _, _, s, _⟩ => s.tup hS) ?_ ?_⟩
    · rintro i x σ H2 H3 hi ⟨y1, y2, rfl, s, hb⟩ ⟨T, v1, v2, rfl, nT, rfl, h1, h2⟩
      obtain rfl : V.int (i : Nat) = v1 := Option.some.inj h1
      rw [List.length_map] at hi
      have hx : xs[i]? = some xs[i] := List.getElem?_eq_getElem hi
      obtain rfl : V.str xs[i] = v2 := strAt_inj hx h2
      have s3 : Same H (upd H2 T (.tup [.int (i : Nat), .str xs[i]])) := s.put' nT
      have rz := fun {H' : Hp} (hp : badAt xs i = true) (sH : Same H H') => rz hi hb hp sH
      refine ⟨T, [.int (i : Nat), .str xs[i]], rfl, sqT_new, rfl, _, _, rfl, _, _, rfl, rfl, ?_⟩
      refine ⟨_, rfl, rfl, _, rfl, bcase (fun c1 => ?_) (fun c1 => ?_)⟩
      · have e60 : i = 60 := by have := V.int.inj (of_decide_eq_true c1); omega
        refine iteT ⟨_, rfl, fok_nat (by omega), rz (by unfold badAt; rw [decide_eq_true e60, Bool.true_or]) s3⟩
      · have n60 : i ≠ 60 := fun z => by subst z; exact Bool.noConfusion (c1.symm.trans (decide_eq_true rfl))
        refine ⟨_, rfl, xs[i], rfl, Nat.le_trans (hT _ (List.getElem_mem hi)) (by rw [sizeLine_eq]; decide), fun H4 s4 => ⟨_, rfl, bcase (fun c2 => ?_) (fun c2 => ?_)⟩⟩
        · refine iteT ⟨_, rfl, fok_nat (by omega), rz (by unfold badAt; rw [hx, decide_eq_false n60, Bool.false_or]; show (!isName xs[i] || _) = true; rw [c2, Bool.true_or]) (s3.trans s4)⟩
        · refine ⟨.ref a, rfl, _, rfl, a, xs, i, rfl, (s3.trans s4).tup hS, hi, _, rfl, bcase (fun c3 => ?_) (fun c3 => ?_)⟩
          · exact ⟨_, rfl, fok_nat (by omega), rz (by unfold badAt; rw [hx, c3, Bool.or_true, Bool.or_true]) (s3.trans s4)⟩
          · refine ⟨_, _, rfl, s3.trans s4, fun j hj => ?_⟩
            by_cases hj2 : j < i
            · exact hb j hj2
            · have ej : j = i := by omega
              subst ej
              unfold badAt
              rw [hx, decide_eq_false n60, c3, Bool.or_false, Bool.false_or]
              exact c2
    · rintro σ H2 ⟨y1, y2, rfl, s, hb⟩
      rw [List.length_map] at hb
      exact q (by unfold firstBad; rw [if_neg ex]; exact find_none hb) H2 s
/-- the i-th name of a case is wrong -/
def outAt (facts cs : List Str) (i : Nat) : Bool := (match cs[i]? with | some x => !decide (x ∈ facts) | none => false) || !risesAt cs i
def firstOut (facts cs : List Str) : Option Nat := (List.range cs.length).find? (outAt facts cs)
def sp_check_case (K : PySem.W.Frag) (C : Addr) : Sp := fun vs H Q E => ∃ (a b : Addr) (xs cs : List Str), vs = [.ref a, .ref b] ∧ SqT K H a (xs.map V.str) ∧ SqT K H b (cs.map V.str) ∧ cs.length ≤ 1000 ∧
  (firstOut xs cs = none → ∀ H', Same H H' → Q .non H') ∧ (∀ i, firstOut xs cs = some i → errIx C i H E)
theorem ok_check_case {f : Addr} {fd : FuncData} (F : Fun K "check_case" "check_case" s_check_case f fd) (B : Blt mg)
    (e_InvalidCase : ErrMk P w K mg base "InvalidCase" CC ["self", "index"] (sp_init1 CC "index")) (c_rises : Cal P w K mg base CX0 1 "rises" ["names", "index"] (sp_rises K)) :
    FnOk P w K mg base (L2.CX P w) 3 f fd ["facts", "case"] (sp_check_case K CC) := by
  refine F.okX sc_check_case (fun vs H Q E h => by obtain ⟨a, b, xs, cs, rfl, _⟩ := h; rfl) (fun cdv A outer s H vs Q E hr h => ?_)
  obtain ⟨a, b, xs, cs, rfl, hS, hC, hl, q, e⟩ := h
  refine ⟨_, (pss_one (ps_for (passes_of rfl) rfl (pi_enumT (by rfl) B.b_enumerate (pa_cons (pv 1) pa_nil)) (pg_tup (by rfl) (pgs_cons (pg_name (i := 2) sc_check_case.nd rfl (Or.inl rfl)) (pgs_cons (pg_name (i := 3) sc_check_case.nd rfl (Or.inl rfl)) pgs_nil))) (pss_one (ps_if (PW.pt (pw_or (pt_cmpR op_notIn_seq (pv 3) (pv 0) rfl) (pw_or1 (pt_not (pt_val (pe_cal c_rises (hr.mono (by decide)) (pa_cons (pv 1) (pa_cons (pv 2) pa_nil)))))))) (pss_one (ps_raise rfl (takes_of rfl rfl rfl rfl) (pmk_err1 e_InvalidCase (hr.mono (by decide)) (pv 2)))) pss_nil)))), ?_⟩
  refine ⟨.ref b, rfl, b, _, rfl, hC, for_it walk_enumT (fun i σ H' => ∃ y1 y2, σ = [some (.ref a), some (.ref b), y1, y2] ∧ Same H H' ∧ ∀ j, j < i → outAt xs cs j = false)
    ⟨none, none, rfl, Same.refl H, fun j hj => absurd hj (Nat.not_lt_zero j)⟩ (fun i σ H' _ ⟨_, _, _, s, _⟩ => s.tup hC) ?_ ?_⟩
  · rintro i x σ H2 H3 hi ⟨y1, y2, rfl, s, hb⟩ ⟨T, v1, v2, rfl, nT, rfl, h1, h2⟩
    obtain rfl : V.int (i : Nat) = v1 := Option.some.inj h1
    rw [List.length_map] at hi
    have hx : cs[i]? = some cs[i] := List.getElem?_eq_getElem hi
    obtain rfl : V.str cs[i] = v2 := strAt_inj hx h2
    have s3 : Same H (upd H2 T (.tup [.int (i : Nat), .str cs[i]])) := s.put' nT
    have rz : ∀ {H' : Hp}, outAt xs cs i = true → Same H H' → ∀ d, H' d = none → E (.ref CC) (some d) (upd H' d (.xd [(("index" : Str), .int (i : Nat))])) := fun {H'} hp sH d nd => e i (find_at hi hp hb) H' d sH nd
    refine ⟨T, [.int (i : Nat), .str cs[i]], rfl, sqT_new, rfl, _, _, rfl, _, _, rfl, rfl, ?_⟩
    refine ⟨.str cs[i], rfl, .ref a, rfl, a, _, rfl, .inr (s3.tup hS), rfl, flat_strs xs, _, rfl, bcase (fun c1 => ?_) (fun c1 => ?_)⟩
    · have c1 : (!decide (cs[i] ∈ xs)) = true := by rw [← inV_str]; exact c1
      exact iteT ⟨_, rfl, fok_nat (by omega), rz (by unfold outAt; rw [hx]; show (!decide (cs[i] ∈ xs) || _) = true; rw [c1, Bool.true_or]) s3⟩
    · have c1 : (!decide (cs[i] ∈ xs)) = false := by rw [← inV_str]; exact c1
      refine ⟨.ref b, rfl, _, rfl, b, cs, i, rfl, s3.tup hC, hi, _, rfl, bcase (fun c3 => ?_) (fun c3 => ?_)⟩
      · exact ⟨_, rfl, fok_nat (by omega), rz (by unfold outAt; rw [hx, c3, Bool.or_true]) s3⟩
      · refine ⟨_, _, rfl, s3, fun j hj => ?_⟩
        by_cases hj2 : j < i
        · exact hb j hj2
        · have ej : j = i := by omega
          subst ej
          unfold outAt
          rw [hx, c3, Bool.or_false]
          exact c1
  · rintro σ H2 ⟨y1, y2, rfl, s, hb⟩
    rw [List.length_map] at hb
    exact q (find_none hb) H2 s
end
end Sc
namespace Sc
open PySem PySem.Spec PyProof.Rows L2
/-! ### an object Book -/
abbrev s_Book___init__ : Stmt := (inClass (topS 30) 0)
theorem sc_Book___init__ : FnScope ["self", "facts", "rules", "ruling", "rule", "_"] ["self", "facts", "rules", "ruling"] (defScope s_Book___init__) := ⟨rfl, rfl, rfl, by decide +kernel, rfl, by decide +kernel, by decide +kernel⟩
abbrev s_Book_facts : Stmt := (inClass (topS 30) 1)
theorem sc_Book_facts : FnScope ["self"] ["self"] (defScope s_Book_facts) := ⟨rfl, rfl, rfl, by decide +kernel, rfl, by decide +kernel, by decide +kernel⟩
abbrev s_Book_rules : Stmt := (inClass (topS 30) 2)
theorem sc_Book_rules : FnScope ["self"] ["self"] (defScope s_Book_rules) := ⟨rfl, rfl, rfl, by decide +kernel, rfl, by decide +kernel, by decide +kernel⟩
abbrev s_Book_ruling : Stmt := (inClass (topS 30) 3)
theorem sc_Book_ruling : FnScope ["self"] ["self"] (defScope s_Book_ruling) := ⟨rfl, rfl, rfl, by decide +kernel, rfl, by decide +kernel, by decide +kernel⟩
section
variable {P : Program} {w : World} {K : PySem.W.Frag} {mg : Str → Option Value} {base : Heap} {C R B CF CB : Addr}
theorem ok_Book_facts {f : Addr} {fd : FuncData} (F : Fun K "facts" "Book.facts" s_Book_facts f fd) (T : Cls K B) (n : NoAttr K B "_facts") : FnOk P w K mg base CX0 1 f fd ["self"] (sp_prop B "_facts") := by
  refine F.ok sc_Book_facts (fun vs H Q E h => by obtain ⟨x, dx, fs, v, rfl, _⟩ := h; rfl) (fun cdv A outer s H vs Q E hr h => ?_)
  obtain ⟨x, dx, fs, v, rfl, hx, hl, q⟩ := h
  exact ⟨_, (pss_one (ps_ret (pe_fld (pv 0) rfl))), ⟨_, rfl, x, B, dx, fs, v, rfl, hx, T, n, hl, q⟩⟩
theorem ok_Book_rules {f : Addr} {fd : FuncData} (F : Fun K "rules" "Book.rules" s_Book_rules f fd) (T : Cls K B) (n : NoAttr K B "_rules") : FnOk P w K mg base CX0 1 f fd ["self"] (sp_prop B "_rules") := by
  refine F.ok sc_Book_rules (fun vs H Q E h => by obtain ⟨x, dx, fs, v, rfl, _⟩ := h; rfl) (fun cdv A outer s H vs Q E hr h => ?_)
  obtain ⟨x, dx, fs, v, rfl, hx, hl, q⟩ := h
  exact ⟨_, (pss_one (ps_ret (pe_fld (pv 0) rfl))), ⟨_, rfl, x, B, dx, fs, v, rfl, hx, T, n, hl, q⟩⟩
theorem ok_Book_ruling {f : Addr} {fd : FuncData} (F : Fun K "ruling" "Book.ruling" s_Book_ruling f fd) (T : Cls K B) (n : NoAttr K B "_ruling") : FnOk P w K mg base CX0 1 f fd ["self"] (sp_prop B "_ruling") := by
  refine F.ok sc_Book_ruling (fun vs H Q E h => by obtain ⟨x, dx, fs, v, rfl, _⟩ := h; rfl) (fun cdv A outer s H vs Q E hr h => ?_)
  obtain ⟨x, dx, fs, v, rfl, hx, hl, q⟩ := h
  exact ⟨_, (pss_one (ps_ret (pe_fld (pv 0) rfl))), ⟨_, rfl, x, B, dx, fs, v, rfl, hx, T, n, hl, q⟩⟩
/-- the fields of a book -/
def bookF (a p : Addr) (rl : Str) (l : Addr) : List (Str × V) := putF "_numbered" (.ref l) (putF "_ruling" (.str rl) (putF "_rules" (.ref p) (putF "_facts" (.ref a) [])))
def BookAt (K : PySem.W.Frag) (C R B : Addr) (N : Addr → Prop) (H : Hp) (o : Addr) (xs : List Str) (f : RF) (rl : Str) : Prop := ∃ (dx a p l : Addr) (ws us : List V), H o = some (.ins B dx (bookF a p rl l)) ∧ SqT K H a (xs.map V.str) ∧ SqT K H p ws ∧ ForAt K C R N H f ws ∧ (N l ∧ H l = some (.lst us)) ∧ All2 (RefAt K C R N H) us ((f.pre 0).map fun q => q.1)
theorem BookAt.keeps {N : Addr → Prop} {H H' : Hp} {o : Addr} {xs : List Str} {f : RF} {rl : Str} (h : BookAt K C R B N H o xs f rl) (k : Keeps N H H') : BookAt K C R B N H' o xs f rl := by
  obtain ⟨dx, a, p, l, ws, us, h1, h2, h3, h4, ⟨h5, h6⟩, h7⟩ := h
  exact ⟨dx, a, p, l, ws, us, k _ _ stays_ins h1, k.tup h2, k.tup h3, h4.keeps k, ⟨h5, k _ _ (stays_lst h5) h6⟩, h7.mono fun _ _ x => x.keeps k⟩
def sp_book_init (K : PySem.W.Frag) (C R B CF CB : Addr) : Sp := fun vs H Q E => ∃ (N : Addr → Prop) (x dx a p : Addr) (xs : List Str) (rl : Str) (ws : List V) (f : RF), vs = [.ref x, .ref a, .ref p, .str rl] ∧ H x = some (.ins B dx []) ∧ SqT K H a (xs.map V.str) ∧ Txts xs ∧ xs.length ≤ 1000 ∧ SqT K H p ws ∧ ForAt K C R N H f ws ∧ f.dep ≤ 12 ∧ f.size ≤ 900 ∧ f.Fit ∧ rl.length ≤ 1000 ∧
  (∀ i, firstBad xs = some i → errIx CF i H E) ∧ (firstBad xs = none → (∀ wd i, firstFault xs (f.pre 0) [] 0 0 = some (wd, i) → wd.length ≤ 1000 → errWI CB wd (i : Nat) H E) ∧ (firstFault xs (f.pre 0) [] 0 0 = none →
    (isName rl = false → errWI CB "ruling" (-1) H E) ∧ (isName rl = true → ∀ H' l us, SameX x H H' → H' x = some (.ins B dx (bookF a p rl l)) → l ≠ x → H l = none → H' l = some (.lst us) → All2 (RefAt K C R N H') us ((f.pre 0).map fun q => q.1) → Q .non H')))
theorem ok_book_init {f : Addr} {fd : FuncData} (F : Fun K "__init__" "Book.__init__" s_Book___init__ f fd) (Bl : Blt mg) (T : Cls K B) (n1 : NoAttr K B "_facts") (n2 : NoAttr K B "_rules") (n3 : NoAttr K B "_ruling") (n4 : NoAttr K B "_numbered")
    (e_InvalidBook : ErrMk P w K mg base "InvalidBook" CB ["self", "word", "index"] (sp_init2 CB "word" "index")) (c_is_name : Cal P w K mg base CX0 1 "is_name" ["value"] sp_is_name) (c_nested : Cal P w K mg base CX0 15 "nested" ["rules", "around"] (sp_nested K C R 12))
    (c_check_facts : Cal P w K mg base (L2.CX P w) 3 "check_facts" ["facts"] (sp_check_facts K CF)) (c_check_rules : Cal P w K mg base (L2.CX P w) 16 "check_rules" ["facts", "rules"] (sp_check_rules K C R CB)) :
    FnOk P w K mg base (L2.CX P w) 17 f fd ["self", "facts", "rules", "ruling"] (sp_book_init K C R B CF CB) := by
  refine F.okX sc_Book___init__ (fun vs H Q E h => by obtain ⟨N, x, dx, a, p, xs, rl, ws, f, rfl, _⟩ := h; rfl) (fun cdv A outer s H vs Q E hr h => ?_)
  obtain ⟨N, x, dx, a, p, xs, rl, ws, f, rfl, hx, hA, tA, lA, hP, hF, hd, hz, hfit, lr, e1, q⟩ := h
  refine ⟨_, (pss_cons (ps_expr (pe_calX c_check_facts (hr.mono (by decide)) (takes_of rfl rfl rfl rfl) (pa_cons (pv 1) pa_nil)))
      (pss_cons (ps_expr (pe_calX c_check_rules (hr.mono (by decide)) (takes_of rfl rfl rfl rfl) (pa_cons (pv 1) (pa_cons (pv 2) pa_nil))))
      (pss_cons (ps_if (pt_not (pt_val (pe_cal c_is_name (hr.mono (by decide)) (pa_cons (pv 3) pa_nil)))) (pss_one (ps_raise rfl (takes_of rfl rfl rfl rfl) (pmk_err2 e_InvalidBook (hr.mono (by decide)) pe_str (pe_un un_neg pe_int)))) pss_nil)
      (pss_cons (ps_fld (pv 0) (pv 1) rfl)
      (pss_cons (ps_fld (pv 0) (pv 2) rfl)
      (pss_cons (ps_fld (pv 0) (pv 3) rfl)
      (pss_one (ps_fld (pv 0) (pe_lc (own := [("rule", 4), ("_", 5)]) (g := gTup K 2 (gCons (gName 4) (gCons (gName 5) gNil))) (tt := tYes) rfl sc_Book___init__.nd (pi_list (pe_cal c_nested (hr.mono (by decide)) (pa_cons (pv 2) (pa_cons pe_int pa_nil)))) (blkOk_by (own := [("rule", 4), ("_", 5)]) (N := ["self", "facts", "rules", "ruling", "rule", "_"]) (sc := defScope s_Book___init__) (by decide +kernel)) (fun _ _ _ _ _ => (pg_tup (by rfl) (pgs_cons (pg_name (i := 4) sc_Book___init__.nd rfl (Or.inl rfl)) (pgs_cons (pg_name (i := 5) sc_Book___init__.nd rfl (Or.inl rfl)) pgs_nil)))) (fun _ _ _ _ _ => pts_nil) (fun _ _ _ _ _ => (pe_.re (pv 4) (by first | (dsimp only [Cx.blk]; done) | exact rfl)))) rfl)))))))), ?_⟩
  have big : ∀ {m : Nat}, m ≤ 1000 → m ≤ sizeLine := fun {m} h => by rw [sizeLine_eq]; omega
  refine ⟨_, rfl, a, xs, rfl, hA, tA, lA, fun z1 H1 s1 => ?_, e1⟩
  obtain ⟨e2, q⟩ := q z1
  refine ⟨_, rfl, _, rfl, N, a, p, xs, ws, f, rfl, s1.tup hA, s1.tup hP, hF.keeps s1.keeps, hd, hz, hfit, fun z2 H2 s2 => ?_, fun wd i ei hw H' d sH nd => e2 wd i ei hw H' d (s1.trans sH) nd⟩
  obtain ⟨e3, q⟩ := q z2
  have s12 := s1.trans s2
  refine ⟨_, rfl, rl, rfl, big lr, fun H3 s3 => ⟨_, rfl, bcase (fun c1 => ?_) (fun c1 => ?_)⟩⟩
  · exact ⟨1, rfl, ⟨Nat.le_trans (show (Str.ofString "ruling").length ≤ 1000 by decide) (by decide), (show (-1 : Int).natAbs.log2 < 1920 by decide)⟩, fun d nd => e3 ((Bool.not_eq_true' _).mp c1) H3 d (s12.trans s3) nd⟩
  have q := q ((Bool.not_eq_false' _).mp c1)
  have s13 := s12.trans s3
  have hx3 := s13 _ _ hx
  refine ⟨_, rfl, _, rfl, x, B, dx, _, rfl, hx3, T, n1, by decide, ?_⟩
  refine ⟨_, rfl, _, rfl, x, B, dx, _, rfl, upd_same, T, n2, Nat.lt_of_le_of_lt (putF_le (Nat.zero_le 0)) (by decide), ?_⟩
  refine ⟨_, rfl, _, rfl, x, B, dx, _, rfl, upd_same, T, n3, Nat.lt_of_le_of_lt (putF_le (putF_le (Nat.zero_le 0))) (by decide), ?_⟩
  have sx : SameX x H (upd (upd (upd H3 x (.ins B dx (putF "_facts" (.ref a) []))) x (.ins B dx (putF "_rules" (.ref p) (putF "_facts" (.ref a) [])))) x (.ins B dx (putF "_ruling" (.str rl) (putF "_rules" (.ref p) (putF "_facts" (.ref a) []))))) := (((SameX.of s13).put).put).put
  have hx6 : (upd (upd (upd H3 x (.ins B dx (putF "_facts" (.ref a) []))) x (.ins B dx (putF "_rules" (.ref p) (putF "_facts" (.ref a) [])))) x (.ins B dx (putF "_ruling" (.str rl) (putF "_rules" (.ref p) (putF "_facts" (.ref a) []))))) x = some (.ins B dx (putF "_ruling" (.str rl) (putF "_rules" (.ref p) (putF "_facts" (.ref a) [])))) := upd_same
  generalize upd (upd (upd H3 x (.ins B dx (putF "_facts" (.ref a) []))) x (.ins B dx (putF "_rules" (.ref p) (putF "_facts" (.ref a) [])))) x (.ins B dx (putF "_ruling" (.str rl) (putF "_rules" (.ref p) (putF "_facts" (.ref a) [])))) = H6 at sx hx6 ⊢
  have k6 : Keeps N H H6 := sx.keeps hx
  refine ⟨_, rfl, N, p, 0, ws, f, rfl, k6.tup hP, hF.keeps k6, hd, hz, fun H7 D us s7 nD eD hu => ?_⟩
  have hul := hu.len
  rw [RF.pre_len] at hul
  refine ⟨D, rfl, ⟨_, sqL_of eD⟩, fun D2 nD2 => lc_it walk_list (fun i H' => Same H7 H' ∧ ∃ rs, H' D2 = some (.lst rs) ∧ All2 (RefAt K C R N H7) rs (((f.pre 0).take i).map fun q => q.1)) ⟨(Same.refl H7).put nD2, [], upd_same, .nil⟩ (fun _ _ _ h => sqL_of (h.1 _ _ eD)) ?_ ?_⟩
  · rintro i y H8 H9 hi ⟨s, rs, e, hr2⟩ ⟨rfl, hy⟩
    obtain ⟨⟨n, k⟩, hq, t, o, rfl, ht, hN⟩ := hu.get hy
    have ht := s _ _ ht
    have hrl := hr2.len
    rw [List.length_map, List.length_take, RF.pre_len] at hrl
    refine ⟨t, [.ref o, .int (k : Nat)], rfl, sqT_of ht, rfl, _, _, rfl, _, _, rfl, rfl, rfl, yes_ ⟨_, rfl, rs, e, small1000 (by omega), s.put nD2, _, upd_same, ?_⟩⟩
    rw [take_more hq, List.map_append]
    exact hr2.snoc ⟨o, rfl, hN⟩
  rintro H8 ⟨s8, rs, e8, hr2⟩
  rw [hu.len, List.take_length] at hr2
  have s68 := s7.trans s8
  have hx8 := s68 _ _ hx6
  have ne : D2 ≠ x := fun z => by rw [z, hx8] at e8; cases e8
  refine ⟨_, rfl, x, B, dx, _, rfl, hx8, T, n4, Nat.lt_of_le_of_lt (putF_le (putF_le (putF_le (Nat.zero_le 0)))) (by decide), ?_⟩
  have kk : Keeps N H7 (upd H8 x (.ins B dx (putF "_numbered" (.ref D2) (putF "_ruling" (.str rl) (putF "_rules" (.ref p) (putF "_facts" (.ref a) [])))))) := Keeps.trans s8.keeps (keeps_make hx8)
  exact q _ D2 rs (sx.same s68).put upd_same ne (sx.free ne (s7.free nD2)) (by rw [upd_ne ne]; exact e8) (hr2.mono fun _ _ x => x.keeps kk)
end
end Sc
namespace Sc
open PySem PySem.Spec PyProof.Rows L2
/-! ### xs[i] += e -/
def rGetL (K : PySem.W.Frag) : V → V → Hp → VK → Prop := fun x y H Q => ∃ (p : Addr) (xs : List V) (i : Nat) (v : V), x = .ref p ∧ y = .int i ∧ SqL K H p xs ∧ xs[i]? = some v ∧ Q v H
theorem get_list {X : Cx} : PGet X (rGetL X.K) := by
  intro pins s σ H x y v u Q I rx ry h
  obtain ⟨p, xs, i, z, rfl, rfl, hq, he, q⟩ := h
  cases rx
  obtain ⟨t, rfl⟩ := ry
  obtain ⟨its, r, pl, hz⟩ := I.list hq
  obtain ⟨w, ew, rw'⟩ := r.get he
  have hl := r.length
  have hn := line63
  have hi : i < its.length := by
    by_cases c : i < its.length
    · exact c
    · rw [List.getElem?_eq_none (by omega)] at ew; cases ew
  exact wpAny_getItem_list pl.isList (by omega) (by omega) (by simpa using ew) ⟨z, H, I, rw', q⟩
/-! ### rows of rules, longer and shorter -/
namespace RF
/-- something of all rules -/
def every (p : Nd → Prop) : RF → Prop
  | .nil => True
  | .cons nm hs fs rl exc rest => p ⟨nm, hs, fs, rl, exc⟩ ∧ exc.every p ∧ rest.every p
theorem every_nodes {p : Nd → Prop} : ∀ {f : RF}, f.every p ↔ ∀ n ∈ f.nodes, p n ∧ n.exc.every p
  | .nil => ⟨(fun _ _ h => nomatch h), fun _ => trivial⟩
  | .cons nm hs fs rl exc rest => by
    constructor
    · rintro ⟨h1, h2, h3⟩ n hn
      rcases List.mem_cons.mp hn with rfl | hn
      · exact ⟨h1, h2⟩
      · exact every_nodes.mp h3 n hn
    · intro h
      exact ⟨(h _ List.mem_cons_self).1, (h _ List.mem_cons_self).2, every_nodes.mpr fun n hn => h n (List.mem_cons_of_mem _ hn)⟩
theorem every_pre {p : Nd → Prop} : ∀ {f : RF} {k : Nat}, f.every p → ∀ q ∈ f.pre k, p q.1
  | .nil, k, _, q, h => nomatch h
  | .cons nm hs fs rl exc rest, k, h, q, hq => by
    rcases List.mem_cons.mp hq with rfl | hq
    · exact h.1
    rcases List.mem_append.mp hq with hq | hq
    · exact every_pre h.2.1 q hq
    · exact every_pre h.2.2 q hq
theorem every_mono {p r : Nd → Prop} (g : ∀ n, p n → r n) : ∀ {f : RF}, f.every p → f.every r
  | .nil, _ => trivial
  | .cons nm hs fs rl exc rest, h => ⟨g _ h.1, every_mono g h.2.1, every_mono g h.2.2⟩
def snoc : RF → Nd → RF
  | .nil, n => .cons n.nm n.hs n.fs n.rl n.exc .nil
  | .cons nm hs fs rl exc rest, n => .cons nm hs fs rl exc (rest.snoc n)
theorem snoc_nodes : ∀ (f : RF) (n : Nd), (f.snoc n).nodes = f.nodes ++ [n]
  | .nil, n => rfl
  | .cons nm hs fs rl exc rest, n => by show _ :: (rest.snoc n).nodes = _; rw [snoc_nodes rest n]; rfl
theorem snoc_size : ∀ (f : RF) (n : Nd), (f.snoc n).size = f.size + (n.exc.size + 1)
  | .nil, n => by show n.exc.size + 1 + 0 = 0 + _; omega
  | .cons nm hs fs rl exc rest, n => by show exc.size + 1 + (rest.snoc n).size = exc.size + 1 + rest.size + _; rw [snoc_size rest n]; omega
theorem snoc_dep : ∀ (f : RF) (n : Nd), (f.snoc n).dep = max f.dep (n.exc.dep + 1)
  | .nil, n => by show max (n.exc.dep + 1) 0 = max 0 _; omega
  | .cons nm hs fs rl exc rest, n => by show max (exc.dep + 1) (rest.snoc n).dep = max (max (exc.dep + 1) rest.dep) _; rw [snoc_dep rest n]; omega
theorem snoc_pre : ∀ (f : RF) (n : Nd) (k : Nat), (f.snoc n).pre k = f.pre k ++ ((n, k) :: n.exc.pre (k + 1))
  | .nil, n, k => by show (_, k) :: (n.exc.pre (k + 1) ++ []) = [] ++ _; rw [List.append_nil]; rfl
  | .cons nm hs fs rl exc rest, n, k => by show (_, k) :: (exc.pre (k + 1) ++ (rest.snoc n).pre k) = (_, k) :: (exc.pre (k + 1) ++ rest.pre k) ++ _; rw [snoc_pre rest n k]; simp
theorem snoc_names (f : RF) (n : Nd) : (f.snoc n).names = f.names ++ n.nm :: n.exc.names := by
  rw [← pre_names (f.snoc n) 0, snoc_pre, List.map_append, pre_names, List.map_cons, pre_names]
theorem snoc_every {p : Nd → Prop} {f : RF} {n : Nd} (h : f.every p) (h1 : p n) (h2 : n.exc.every p) : (f.snoc n).every p := every_nodes.mpr fun m hm => by
  rw [snoc_nodes] at hm
  rcases List.mem_append.mp hm with hm | hm
  · exact every_nodes.mp h m hm
  · rw [List.mem_singleton.mp hm]
    exact ⟨h1, h2⟩
end RF
theorem rows_snoc {K : PySem.W.Frag} {H : Hp} {f : RF} {vs : List V} {v : V} {n : Nd} (h : RowsAt K H f vs) (r : RowAt K H v n) : RowsAt K H (f.snoc n) (vs ++ [v]) := RowsAt.of (by rw [RF.snoc_nodes]; exact h.all.snoc r)
/-! ### all but the draws' state and a counter stands -/
structure Kc (a l c : Addr) (H H' : Hp) : Prop where
  old : RS H a l
  new : RS H' a l
  keep : ∀ b o, b ≠ a → b ≠ l → b ≠ c → H b = some o → H' b = some o
abbrev NoL : Addr → Prop := fun _ => False
section
variable {K : PySem.W.Frag} {a l c : Addr} {H H' H'' : Hp}
theorem Kp.kc (k : Kp a l H H') : Kc a l c H H' := ⟨k.old, k.new, fun b o n1 n2 _ e => k.keep b o n1 n2 e⟩
theorem Kc.trans (k : Kc a l c H H') (k' : Kc a l c H' H'') : Kc a l c H H'' := ⟨k.old, k'.new, fun b o n1 n2 n3 e => k'.keep b o n1 n2 n3 (k.keep b o n1 n2 n3 e)⟩
theorem Kc.of (r : RS H a l) (s : Same H H') : Kc a l c H H' := ⟨r, r.same s, fun b o _ _ _ e => s b o e⟩
theorem Kc.same (k : Kc a l c H H') (s : Same H' H'') : Kc a l c H H'' := k.trans (.of k.new s)
theorem Kc.put0 {p : Addr} {o : HO} (k : Kc a l c H H') (n : H p = none) : Kc a l c H (upd H' p o) := by
  obtain ⟨n1, n2⟩ := k.old.no n
  obtain ⟨st, x, ns, h1, h2, q⟩ := k.new
  exact ⟨k.old, ⟨st, x, ns, by rw [upd_ne n1.symm]; exact h1, by rw [upd_ne n2.symm]; exact h2, q⟩, fun b o m1 m2 m3 e => by rw [upd_ne (ne_of_none e n)]; exact k.keep b o m1 m2 m3 e⟩
/-- the counter changes -/
theorem Kc.count {o : HO} (k : Kc a l c H H') (n1 : c ≠ a) (n2 : c ≠ l) : Kc a l c H (upd H' c o) := by
  obtain ⟨st, x, ns, h1, h2, q⟩ := k.new
  exact ⟨k.old, ⟨st, x, ns, by rw [upd_ne n1.symm]; exact h1, by rw [upd_ne n2.symm]; exact h2, q⟩, fun b o m1 m2 m3 e => by rw [upd_ne m3]; exact k.keep b o m1 m2 m3 e⟩
theorem Kc.keeps {xs : List V} (k : Kc a l c H H') (e : H c = some (.lst xs)) : Keeps NoL H H' := fun b o st h => by
  obtain ⟨sd, x, ns, h1, h2, q⟩ := k.old
  have nl : ∀ zs, o ≠ .lst zs := fun zs z => st.1 zs z
  exact k.keep b o (fun z => by rw [z, h1] at h; exact nl _ (Option.some.inj h).symm) (fun z => by rw [z, h2] at h; exact nl _ (Option.some.inj h).symm) (fun z => by rw [z, e] at h; exact nl _ (Option.some.inj h).symm) h
theorem Kp.keepsN (k : Kp a l H H') : Keeps NoL H H' := k.keeps id id
theorem Kc.free {b : Addr} {xs : List V} (k : Kc a l c H H') (ec : H' c = some (.lst xs)) (e : H' b = none) : H b = none := by
  cases q : H b with
  | none => rfl
  | some o =>
    obtain ⟨n1, n2⟩ := k.new.no e
    rw [k.keep b o n1 n2 (fun z => by rw [z, ec] at e; cases e) q] at e
    cases e
end
/-! ### drawn rules -/
def fourR : List Str := ["pay", "warn", "free", "none"]
/-- the name of the i-th drawn rule -/
def rn (i : Nat) : Str := Str.ofString "r" ++ (⟨#[letters.cps.toList.getD i 0]⟩ : Str)
def rnames (c n : Nat) : List Str := (List.range' c n).map rn
theorem rnames_app {c n m : Nat} : rnames c n ++ rnames (c + n) m = rnames c (n + m) := by
  unfold rnames
  rw [← List.map_append, List.range'_append_1]
theorem rnames_one {c m : Nat} : rn c :: rnames (c + 1) m = rnames c (m + 1) := rfl
theorem rn_name : ∀ i, i < 24 → isName (rn i) = true := by decide +kernel
theorem four_name : ∀ x ∈ fourR, isName x = true := by decide +kernel
end Sc
namespace Sc
open PySem PySem.Spec PyProof.Rows L2
/-! ### slices of tuples -/
section
variable {K : PySem.W.Frag} {H : Hp}
theorem sl_any {b : Addr} {vs : List V} {lo hi : Option Int} {Q : VK} (hS : SqT K H b vs) (q : ∀ p H', Same H H' → SqT K H' p (cutV vs lo hi) → Q (.ref p) H') : rSlA K (.ref b) lo hi H Q :=
  ⟨b, vs, rfl, hS, fun c => q b H (Same.refl H) (by
    have e : cutV vs lo hi = vs := by
      unfold cutV
      rw [c.1, c.2, List.drop_zero, Nat.sub_zero, List.take_length]
    rw [e]
    exact hS), fun _ p np => q p _ ((Same.refl H).put np) sqT_new⟩
theorem cat_any {b c : Addr} {xs ys : List V} {Q : VK} (hA : SqT K H b xs) (hB : SqT K H c ys) (hl : xs.length + ys.length ≤ sizeLine) (q : ∀ p H', Same H H' → SqT K H' p (xs ++ ys) → Q (.ref p) H') : rCatA K (.ref b) (.ref c) H Q :=
  ⟨b, c, xs, ys, rfl, rfl, hA, hB, hl, fun e => q c H (Same.refl H) (by rw [e]; exact hB), fun _ e => q b H (Same.refl H) (by rw [e, List.append_nil]; exact hA), fun _ _ p np => q p _ ((Same.refl H).put np) sqT_new⟩
theorem sIx_nat (n d k : Nat) : HT.sIx n d (some (k : Int)) = min k n := by
  unfold HT.sIx
  first
    | (simp; done)
    | (simp; omega)
    | (split <;> omega)
theorem cut_to (vs : List V) (m : Nat) : cutV vs none (some (m : Int)) = vs.take m := by
  unfold cutV
  rw [sIx_nat]
  show (vs.drop 0).take (min m vs.length - 0) = _
  rw [List.drop_zero, Nat.sub_zero]
  by_cases h : m ≤ vs.length
  · rw [Nat.min_eq_left h]
  · rw [Nat.min_eq_right (by omega), List.take_length, List.take_of_length_le (by omega)]
theorem cut_from (vs : List V) (k : Nat) : cutV vs (some (k : Int)) none = vs.drop k := by
  unfold cutV
  rw [sIx_nat]
  show (vs.drop (min k vs.length)).take (vs.length - min k vs.length) = _
  by_cases h : k ≤ vs.length
  · rw [Nat.min_eq_left h, List.take_of_length_le (by rw [List.length_drop]; exact Nat.le_refl _)]
  · rw [Nat.min_eq_right (by omega), List.drop_length, List.drop_of_length_le (by omega)]
    exact List.take_nil
theorem cut_part (vs : List V) (k m : Nat) : cutV vs (some (k : Int)) (some (m : Int)) = (vs.drop k).take (m - k) := by
  unfold cutV
  rw [sIx_nat, sIx_nat]
  by_cases h : k ≤ vs.length
  · rw [Nat.min_eq_left h]
    by_cases h2 : m ≤ vs.length
    · rw [Nat.min_eq_left h2]
    · rw [Nat.min_eq_right (by omega), List.take_of_length_le (by rw [List.length_drop]; exact Nat.le_refl _), List.take_of_length_le (by rw [List.length_drop]; omega)]
  · rw [Nat.min_eq_right (show vs.length ≤ k by omega), List.drop_length, List.drop_of_length_le (show vs.length ≤ k by omega), List.take_nil, List.take_nil]
end
end Sc
namespace Sc
open PySem
/-! ### parts of a text -/
def stAt (b : List Stmt) (i : Nat) : Stmt := b.getD i (.Pass ⟨0, 0, 0, 0⟩)
def forB : Stmt → List Stmt
  | .For _ _ b _ _ => b
  | _ => []
def whileB : Stmt → List Stmt
  | .While _ b _ _ => b
  | _ => []
def ifB : Stmt → List Stmt
  | .If _ b _ _ => b
  | _ => []
def ifE : Stmt → List Stmt
  | .If _ _ b _ => b
  | _ => []
end Sc
namespace Sc
open PySem PySem.Spec PyProof.Rows L2
namespace RF
def app (f g : RF) : RF := ofNodes (f.nodes ++ g.nodes)
theorem app_nodes (f g : RF) : (f.app g).nodes = f.nodes ++ g.nodes := nodes_of _
theorem of_size : ∀ ns ms : List Nd, (ofNodes (ns ++ ms)).size = (ofNodes ns).size + (ofNodes ms).size
  | [], ms => by show (ofNodes ms).size = 0 + _; omega
  | n :: r, ms => by
    show n.exc.size + 1 + (ofNodes (r ++ ms)).size = n.exc.size + 1 + (ofNodes r).size + _
    rw [of_size r ms]
    omega
theorem app_size (f g : RF) : (f.app g).size = f.size + g.size := by
  unfold app
  rw [of_size, of_nodes, of_nodes]
theorem app_dep {f g : RF} {d : Nat} (h : f.dep ≤ d) (k : g.dep ≤ d) : (f.app g).dep ≤ d := dep_le _ d fun n hn => by
  rw [app_nodes] at hn
  rcases List.mem_append.mp hn with hn | hn
  · exact Nat.le_trans (dep_mem f n hn) h
  · exact Nat.le_trans (dep_mem g n hn) k
theorem app_every {p : Nd → Prop} {f g : RF} (h : f.every p) (k : g.every p) : (f.app g).every p := every_nodes.mpr fun n hn => by
  rw [app_nodes] at hn
  rcases List.mem_append.mp hn with hn | hn
  · exact every_nodes.mp h n hn
  · exact every_nodes.mp k n hn
/-- the first rules, the others -/
def head (f : RF) (i : Nat) : RF := ofNodes (f.nodes.take i)
def rest (f : RF) (i : Nat) : RF := ofNodes (f.nodes.drop i)
theorem head_nodes (f : RF) (i : Nat) : (f.head i).nodes = f.nodes.take i := nodes_of _
theorem rest_nodes (f : RF) (i : Nat) : (f.rest i).nodes = f.nodes.drop i := nodes_of _
theorem head_rest (f : RF) (i : Nat) : (f.head i).app (f.rest i) = f := by
  unfold app
  rw [head_nodes, rest_nodes, List.take_append_drop, of_nodes]
theorem cut_size (f : RF) (i : Nat) : (f.head i).size + (f.rest i).size = f.size := by rw [← app_size, head_rest]
theorem head_dep (f : RF) (i : Nat) : (f.head i).dep ≤ f.dep := dep_le _ _ fun n hn => dep_mem f n (List.mem_of_mem_take (by rw [head_nodes] at hn; exact hn))
theorem rest_dep (f : RF) (i : Nat) : (f.rest i).dep ≤ f.dep := dep_le _ _ fun n hn => dep_mem f n (List.mem_of_mem_drop (by rw [rest_nodes] at hn; exact hn))
theorem head_every {p : Nd → Prop} {f : RF} (h : f.every p) (i : Nat) : (f.head i).every p := every_nodes.mpr fun n hn => every_nodes.mp h n (List.mem_of_mem_take (by rw [head_nodes] at hn; exact hn))
theorem rest_every {p : Nd → Prop} {f : RF} (h : f.every p) (i : Nat) : (f.rest i).every p := every_nodes.mpr fun n hn => every_nodes.mp h n (List.mem_of_mem_drop (by rw [rest_nodes] at hn; exact hn))
/-- a row of one rule -/
def only (n : Nd) : RF := .cons n.nm n.hs n.fs n.rl n.exc .nil
theorem only_size (n : Nd) : (only n).size = n.exc.size + 1 := rfl
theorem only_dep (n : Nd) : (only n).dep = n.exc.dep + 1 := Nat.max_zero _
theorem only_every {p : Nd → Prop} {n : Nd} (h : p n) (k : n.exc.every p) : (only n).every p := ⟨h, k, trivial⟩
end RF
namespace All2
variable {α β : Type} {R : α → β → Prop}
theorem take {as : List α} {bs : List β} (h : All2 R as bs) : ∀ i, All2 R (as.take i) (bs.take i) := by
  induction h with
  | nil => intro i; rw [List.take_nil, List.take_nil]; exact .nil
  | cons h _ ih =>
    intro i
    cases i with
    | zero => exact .nil
    | succ i => exact .cons h (ih i)
theorem drop {as : List α} {bs : List β} (h : All2 R as bs) : ∀ i, All2 R (as.drop i) (bs.drop i) := by
  induction h with
  | nil => intro i; rw [List.drop_nil, List.drop_nil]; exact .nil
  | cons h t ih =>
    intro i
    cases i with
    | zero => exact .cons h t
    | succ i => exact ih i
end All2
section
variable {K : PySem.W.Frag} {H : Hp} {f g : RF} {vs us : List V} {v : V} {n : Nd}
theorem rows_app (h : RowsAt K H f vs) (k : RowsAt K H g us) : RowsAt K H (f.app g) (vs ++ us) := RowsAt.of (by rw [RF.app_nodes]; exact h.all.app k.all)
theorem rows_head (h : RowsAt K H f vs) (i : Nat) : RowsAt K H (f.head i) (vs.take i) := RowsAt.of (by rw [RF.head_nodes]; exact h.all.take i)
theorem rows_rest (h : RowsAt K H f vs) (i : Nat) : RowsAt K H (f.rest i) (vs.drop i) := RowsAt.of (by rw [RF.rest_nodes]; exact h.all.drop i)
theorem rows_only (h : RowAt K H v n) : RowsAt K H (.only n) [v] := RowsAt.of (.one h)
theorem cut_last (vs : List V) : cutV vs (some (-1)) none = vs.drop (vs.length - 1) := by
  unfold cutV
  have e1 : HT.sIx vs.length 0 (some (-1)) = vs.length - 1 := by
    unfold HT.sIx
    dsimp only
    rw [if_pos (by decide)]
    omega
  have e2 : HT.sIx vs.length vs.length none = vs.length := rfl
  rw [e1, e2, List.take_of_length_le]
  rw [List.length_drop]
  exact Nat.le_refl _
end
end Sc
namespace Sc
open PySem
/-! ### cases by their numbers -/
def caseOf : List Str → Nat → List Str
  | [], _ => []
  | x :: r, n => (if n % 2 = 1 then [x] else []) ++ caseOf r (n / 2)
def bitN (n k : Nat) : Bool := decide (n / 2 ^ k % 2 = 1)
theorem bitN_succ {n k : Nat} : bitN n (k + 1) = bitN (n / 2) k := by
  unfold bitN
  rw [Nat.pow_succ, Nat.mul_comm, ← Nat.div_div_eq_div_mul]
theorem caseOf_more : ∀ (fs : List Str) (n i : Nat) (x : Str), fs[i]? = some x → caseOf (fs.take (i + 1)) n = caseOf (fs.take i) n ++ (if bitN n i = true then [x] else [])
  | y :: r, n, 0, x, h => by
    have h : y = x := Option.some.inj h
    subst h
    show (if n % 2 = 1 then [y] else []) ++ caseOf [] (n / 2) = [] ++ _
    unfold bitN caseOf
    rw [Nat.pow_zero, Nat.div_one, List.append_nil, List.nil_append]
    by_cases c : n % 2 = 1
    · rw [if_pos c, if_pos (decide_eq_true c)]
    · rw [if_neg c, if_neg (by rw [decide_eq_false c]; exact Bool.false_ne_true)]
  | y :: r, n, i + 1, x, h => by
    have h : r[i]? = some x := h
    show (if n % 2 = 1 then [y] else []) ++ caseOf (r.take (i + 1)) (n / 2) = ((if n % 2 = 1 then [y] else []) ++ caseOf (r.take i) (n / 2)) ++ _
    rw [caseOf_more r (n / 2) i x h, List.append_assoc, bitN_succ]
theorem caseOf_sub : ∀ (fs : List Str) (n : Nat), List.Sublist (caseOf fs n) fs
  | [], _ => .slnil
  | x :: r, n => by
    unfold caseOf
    by_cases c : n % 2 = 1
    · rw [if_pos c]
      exact (caseOf_sub r _).cons₂ x
    · rw [if_neg c]
      exact (caseOf_sub r _).cons x
/-- each choice of the facts is a case -/
theorem caseOf_all (p : Str → Bool) : ∀ fs : List Str, ∃ n, n < 2 ^ fs.length ∧ caseOf fs n = fs.filter p
  | [] => ⟨0, by decide, rfl⟩
  | x :: r => by
    obtain ⟨n, h1, h2⟩ := caseOf_all p r
    cases c : p x with
    | true =>
      refine ⟨2 * n + 1, by rw [List.length_cons, Nat.pow_succ]; omega, ?_⟩
      unfold caseOf
      rw [if_pos (by omega), show (2 * n + 1) / 2 = n by omega, h2, List.filter_cons, if_pos c]
      rfl
    | false =>
      refine ⟨2 * n, by rw [List.length_cons, Nat.pow_succ]; omega, ?_⟩
      unfold caseOf
      rw [if_neg (by omega), show (2 * n) / 2 = n by omega, h2, List.filter_cons, if_neg (by rw [c]; exact Bool.false_ne_true)]
      rfl
end Sc
namespace Sc
open PySem PySem.Spec PyProof.Rows L2
/-! ### rising rows of the twelve facts -/
def SLt (a b : Str) : Prop := a.cps.toList < b.cps.toList
instance (a b : Str) : Decidable (SLt a b) := inferInstanceAs (Decidable (a.cps.toList < b.cps.toList))
structure Good (xs : List Str) : Prop where
  up : xs.Pairwise SLt
  mem : ∀ x ∈ xs, x ∈ twelve
theorem twelve_up : twelve.Pairwise SLt := by decide +kernel
theorem twelve_name : ∀ x ∈ twelve, isName x = true := by decide +kernel
theorem twelve_good : Good twelve := ⟨twelve_up, fun _ h => h⟩
theorem Good.sub {xs ys : List Str} (h : Good ys) (s : List.Sublist xs ys) : Good xs := ⟨h.up.sublist s, fun x hx => h.mem x (s.subset hx)⟩
theorem Good.nodup {xs : List Str} (h : Good xs) : xs.Nodup := h.up.imp fun {a b} hl e => by subst e; exact List.lt_irrefl _ hl
theorem Good.fines {xs : List Str} (h : Good xs) (tf : Fines twelve) : Fines xs := fun x hx => tf x (h.mem x hx)
theorem Good.le {xs : List Str} (h : Good xs) : xs.Pairwise SLe := h.up.imp fun hl => List.le_of_lt hl
theorem good_nil : Good [] := ⟨.nil, fun _ h => nomatch h⟩
theorem Good.srt {xs : List Str} (h : Good xs) : srt xs = xs := sorted_uniq (srt_perm xs) (srt_sorted xs) (sorted_of h.le)
theorem lt_of {a b : Str} (h : SLe a b) (n : a ≠ b) : SLt a b := by
  by_cases c : a.cps.toList < b.cps.toList
  · exact c
  · exact absurd (str_ext (List.le_antisymm h (List.not_lt.mp c))) n
theorem srt_good {xs : List Str} (nd : xs.Nodup) (m : ∀ x ∈ xs, x ∈ twelve) : Good (srt xs) := by
  have nd2 : (Sc.srt xs).Nodup := (srt_perm xs).nodup_iff.mpr nd
  refine ⟨?_, fun x hx => m x ((srt_perm xs).mem_iff.mp hx)⟩
  exact ((sorted_pw (srt_sorted xs)).and nd2).imp fun h => lt_of h.1 h.2
theorem mem_mrg {xs ys : List Str} {x : Str} : x ∈ mrg xs ys ↔ x ∈ xs ∨ x ∈ ys := by
  unfold mrg
  rw [(srt_perm _).mem_iff, List.mem_append, List.mem_filter]
  constructor
  · rintro (h | h)
    · exact .inl h
    · exact .inr h.1
  · rintro (h | h)
    · exact .inl h
    · by_cases c : x ∈ xs
      · exact .inl c
      · exact .inr ⟨h, by rw [decide_eq_false c]; rfl⟩
theorem Good.mrg {xs ys : List Str} (h : Good xs) (k : Good ys) : Good (mrg xs ys) := by
  refine srt_good ?_ fun x hx => ?_
  · rw [List.nodup_append]
    refine ⟨h.nodup, (List.filter_sublist).nodup k.nodup, fun a ha b hb e => ?_⟩
    subst e
    have := (List.mem_filter.mp hb).2
    rw [decide_eq_true ha] at this
    cases this
  · rcases List.mem_append.mp hx with h1 | h1
    · exact h.mem x h1
    · exact k.mem x (List.mem_filter.mp h1).1
/-- a good row is told by its members -/
theorem Good.ext {xs ys : List Str} (h : Good xs) (k : Good ys) (e : ∀ x, x ∈ xs ↔ x ∈ ys) : xs = ys := by
  have p : xs.Perm ys := (List.perm_ext_iff_of_nodup h.nodup k.nodup).mpr e
  exact sorted_uniq p (sorted_of h.le) (sorted_of k.le)
theorem rises_pw {xs : List Str} (h : xs.Pairwise SLt) {i : Nat} (hi : i < xs.length) : risesAt xs i = true := by
  by_cases h0 : i = 0
  · subst h0
    rfl
  · rw [risesAt_eq hi h0 (by omega)]
    exact decide_eq_true (List.pairwise_iff_getElem.mp h (i - 1) i (by omega) hi (by omega))
theorem Good.none {xs ys : List Str} (h : Good xs) (l : ys.length + xs.length ≤ 8) (d : ∀ x ∈ xs, ¬ x ∈ ys) : firstWrong xs ys = none := by
  unfold firstWrong
  rw [List.find?_eq_none]
  intro i hi
  have hi := List.mem_range.mp hi
  unfold wrongAt
  rw [List.getElem?_eq_getElem hi]
  dsimp only
  rw [twelve_name _ (h.mem _ (List.getElem_mem hi)), rises_pw h.up hi, decide_eq_false (show ¬ 8 ≤ ys.length + i by omega), decide_eq_false (d _ (List.getElem_mem hi))]
  exact Bool.false_ne_true
/-! ### two conditions over the same cases -/
theorem meets_iff {hs fs cs : List Str} : meets hs fs cs = true ↔ (∀ x ∈ hs, x ∈ cs) ∧ ∀ x ∈ fs, ¬ x ∈ cs := by
  unfold meets
  rw [Bool.and_eq_true, List.all_eq_true, Bool.not_eq_true', List.any_eq_false]
  constructor
  · rintro ⟨h1, h2⟩
    exact ⟨fun x hx => of_decide_eq_true (h1 x hx), fun x hx hc => h2 x hx (decide_eq_true hc)⟩
  · rintro ⟨h1, h2⟩
    exact ⟨fun x hx => decide_eq_true (h1 x hx), fun x hx hc => h2 x hx (of_decide_eq_true hc)⟩
theorem meets_mrg {hs fs gs ks cs : List Str} : meets (mrg hs gs) (mrg fs ks) cs = (meets hs fs cs && meets gs ks cs) := by
  rw [Bool.eq_iff_iff, Bool.and_eq_true, meets_iff, meets_iff, meets_iff]
  constructor
  · rintro ⟨h1, h2⟩
    exact ⟨⟨fun x hx => h1 x (mem_mrg.mpr (.inl hx)), fun x hx => h2 x (mem_mrg.mpr (.inl hx))⟩, fun x hx => h1 x (mem_mrg.mpr (.inr hx)), fun x hx => h2 x (mem_mrg.mpr (.inr hx))⟩
  · rintro ⟨⟨h1, h2⟩, h3, h4⟩
    refine ⟨fun x hx => ?_, fun x hx => ?_⟩
    · rcases mem_mrg.mp hx with h | h
      · exact h1 x h
      · exact h3 x h
    · rcases mem_mrg.mp hx with h | h
      · exact h2 x h
      · exact h4 x h
/-- a case that meets the joined condition: what must hold, and no more -/
theorem met_case {fs ws bs : List Str} (s1 : ∀ x ∈ ws, x ∈ fs) (d : ∀ x ∈ ws, ¬ x ∈ bs) : meets ws bs (fs.filter fun x => decide (x ∈ ws)) = true := by
  rw [meets_iff]
  refine ⟨fun x hx => List.mem_filter.mpr ⟨s1 x hx, decide_eq_true hx⟩, fun x hx hc => ?_⟩
  exact d x (of_decide_eq_true (List.mem_filter.mp hc).2) hx
theorem both_iff {fs hs ks gs ls : List Str} (h1 : ∀ x ∈ hs, x ∈ fs) (h2 : ∀ x ∈ gs, x ∈ fs) :
    (∃ n, n < 2 ^ fs.length ∧ (meets hs ks (caseOf fs n) && meets gs ls (caseOf fs n)) = true) ↔ meetN (mrg hs gs) (mrg ks ls) = false := by
  constructor
  · rintro ⟨n, _, h⟩
    rw [← meets_mrg, meets_iff] at h
    unfold meetN
    rw [List.any_eq_false]
    intro x hx hc
    exact h.2 x (of_decide_eq_true hc) (h.1 x hx)
  · intro h
    obtain ⟨n, hn, e⟩ := caseOf_all (fun x => decide (x ∈ mrg hs gs)) fs
    refine ⟨n, hn, ?_⟩
    rw [← meets_mrg, e]
    refine met_case (fun x hx => ?_) (fun x hx hc => ?_)
    · rcases mem_mrg.mp hx with h' | h'
      · exact h1 x h'
      · exact h2 x h'
    · unfold meetN at h
      rw [List.any_eq_false] at h
      exact h x hx (decide_eq_true hc)
theorem within_iff {fs hs ks gs ls : List Str} (h1 : ∀ x ∈ hs, x ∈ fs) (h2 : ∀ x ∈ ls, x ∈ fs) (d : ∀ x ∈ hs, ¬ x ∈ ks) :
    withinC hs ks gs ls = true ↔ ∀ n, n < 2 ^ fs.length → (meets hs ks (caseOf fs n) && !meets gs ls (caseOf fs n)) = false := by
  unfold withinC
  rw [Bool.and_eq_true, List.all_eq_true, List.all_eq_true]
  constructor
  · rintro ⟨q1, q2⟩ n _
    cases c : meets hs ks (caseOf fs n) with
    | false => rfl
    | true =>
      have c := meets_iff.mp c
      have : meets gs ls (caseOf fs n) = true := meets_iff.mpr ⟨fun x hx => c.1 x (of_decide_eq_true (q1 x hx)), fun x hx => c.2 x (of_decide_eq_true (q2 x hx))⟩
      rw [this]
      rfl
  · intro q
    constructor
    · intro x hx
      obtain ⟨n, hn, e⟩ := caseOf_all (fun x => decide (x ∈ hs)) fs
      have h := q n hn
      rw [e, met_case h1 d, Bool.true_and] at h
      have h : meets gs ls (fs.filter fun x => decide (x ∈ hs)) = true := by
        cases c : meets gs ls (fs.filter fun x => decide (x ∈ hs)) with
        | true => rfl
        | false => rw [c] at h; cases h
      exact (List.mem_filter.mp ((meets_iff.mp h).1 x hx)).2
    · intro x hx
      obtain ⟨n, hn, e⟩ := caseOf_all (fun x => !decide (x ∈ ks)) fs
      have h := q n hn
      have m : meets hs ks (fs.filter fun x => !decide (x ∈ ks)) = true := by
        rw [meets_iff]
        refine ⟨fun y hy => List.mem_filter.mpr ⟨h1 y hy, by rw [decide_eq_false (d y hy)]; rfl⟩, fun y hy hc => ?_⟩
        have := (List.mem_filter.mp hc).2
        rw [decide_eq_true hy] at this
        cases this
      rw [e, m, Bool.true_and] at h
      have h : meets gs ls (fs.filter fun x => !decide (x ∈ ks)) = true := by
        cases c : meets gs ls (fs.filter fun x => !decide (x ∈ ks)) with
        | true => rfl
        | false => rw [c] at h; cases h
      refine decide_eq_true (Classical.byContradiction fun nk => ?_)
      exact (meets_iff.mp h).2 x hx (List.mem_filter.mpr ⟨h2 x hx, by rw [decide_eq_false nk]; rfl⟩)
end Sc
namespace Sc
open PySem PySem.Spec PyProof.Rows L2
/-! ### rules of right parts -/
structure NdOk (n : Nd) : Prop where
  nm : isName n.nm = true
  rl : isName n.rl = true
  c1 : firstWrong n.hs [] = none
  c2 : firstWrong n.fs n.hs = none
theorem name_len {x : Str} (h : isName x = true) : x.length ≤ 8 := by
  unfold isName at h
  rw [Bool.and_eq_true, Bool.and_eq_true] at h
  exact of_decide_eq_true h.2.1
theorem fw_names {xs ys : List Str} (h : firstWrong xs ys = none) : ∀ x ∈ xs, isName x = true := by
  intro x hx
  obtain ⟨i, hi, rfl⟩ := List.getElem_of_mem hx
  have := (wrongs_none h i hi).1.1
  rw [Bool.or_eq_false_iff] at this
  exact (Bool.not_eq_false' _).mp this.1
theorem fw_txts {xs ys : List Str} (h : firstWrong xs ys = none) : Txts xs := fun x hx => Nat.le_trans (name_len (fw_names h x hx)) (by decide)
theorem NdOk.len {n : Nd} (h : NdOk n) : n.hs.length ≤ 8 ∧ n.fs.length ≤ 8 := by
  have h1 := fw_len h.c1
  have h2 := fw_len h.c2
  simp only [List.length_nil] at h1
  omega
theorem fit_of {f : RF} (h : f.every NdOk) : f.Fit := fun q hq => by
  have := (RF.every_pre h q hq).len
  omega
theorem name_fine {x : Str} (h : isName x = true) : Fine x := by
  refine ⟨Nat.le_trans (name_len h) (by decide), ?_⟩
  unfold isName isLetters at h
  rw [Bool.and_eq_true, Bool.and_eq_true, List.all_eq_true] at h
  have hL : PyData.strOk letters = true := by decide +kernel
  show PyData.strOk x = true
  unfold PyData.strOk at hL ⊢
  rw [Array.all_eq_true'] at hL ⊢
  intro c hc
  exact hL c (by rw [← Array.mem_toList_iff]; exact of_decide_eq_true (h.2.2 c (by rw [Array.mem_toList_iff]; exact hc)))
theorem fw_fines {xs ys : List Str} (h : firstWrong xs ys = none) : Fines xs := fun x hx => name_fine (fw_names h x hx)
/-- names in their order -/
structure Right (xs : List Str) : Prop where
  up : xs.Pairwise SLt
  nm : ∀ x ∈ xs, isName x = true
theorem Right.sub {xs ys : List Str} (h : Right ys) (s : List.Sublist xs ys) : Right xs := ⟨h.up.sublist s, fun x hx => h.nm x (s.subset hx)⟩
theorem Right.nodup {xs : List Str} (h : Right xs) : xs.Nodup := h.up.imp fun {a b} hl e => by subst e; exact List.lt_irrefl _ hl
theorem Right.fines {xs : List Str} (h : Right xs) : Fines xs := fun x hx => name_fine (h.nm x hx)
theorem Right.none {xs ys : List Str} (h : Right xs) (l : ys.length + xs.length ≤ 8) (d : ∀ x ∈ xs, ¬ x ∈ ys) : firstWrong xs ys = none := by
  unfold firstWrong
  rw [List.find?_eq_none]
  intro i hi
  have hi := List.mem_range.mp hi
  unfold wrongAt
  rw [List.getElem?_eq_getElem hi]
  dsimp only
  rw [h.nm _ (List.getElem_mem hi), rises_pw h.up hi, decide_eq_false (show ¬ 8 ≤ ys.length + i by omega), decide_eq_false (d _ (List.getElem_mem hi))]
  exact Bool.false_ne_true
theorem Right.bad {xs : List Str} (g : Right xs) (h0 : xs ≠ []) (h1 : xs.length ≤ 60) : firstBad xs = Option.none := by
  unfold firstBad
  rw [if_neg h0, List.find?_eq_none]
  intro i hi
  have hi := List.mem_range.mp hi
  unfold badAt
  rw [List.getElem?_eq_getElem hi]
  dsimp only
  rw [g.nm _ (List.getElem_mem hi), rises_pw g.up hi, decide_eq_false (show ¬ i = 60 by omega)]
  exact Bool.false_ne_true
/-- a row of distinct names, sorted -/
theorem right_of {xs zs : List Str} (p : zs.Perm xs) (s : sortedS zs = true) (nd : xs.Nodup) (nm : ∀ x ∈ xs, isName x = true) : Right zs :=
  ⟨((sorted_pw s).and (p.nodup_iff.mpr nd)).imp fun h => lt_of h.1 h.2, fun x hx => nm x (p.mem_iff.mp hx)⟩
end Sc
namespace Sc
open PySem PySem.Spec PyProof.Rows L2
/-! ### texts of books -/
abbrev s_words_of : Stmt := topS 48
theorem sc_words_of : FnScope ["rule", "around", "words"] ["rule", "around"] (defScope s_words_of) := ⟨rfl, rfl, rfl, by decide +kernel, rfl, by decide +kernel, by decide +kernel⟩
/-- a part of a condition behind its word -/
def partW (w : Str) (xs : List Str) : List Str := if xs = [] then [] else w :: xs
/-- the words of a rule within k others -/
def wordsN (n : Nd) (k : Nat) : List Str := (List.replicate k (Str.ofString ">") : List Str) ++ [n.nm, "is", n.rl] ++ partW "if" n.hs ++ partW "not" n.fs
/-- a part is put behind the words -/
def tExt (K : PySem.W.Frag) (C R : Addr) (part : Nd → List Str) (wd : Str) : TS := fun D σ H => ∃ (N : Addr → Prop) (o lw : Addr) (n : Nd) (ws : List Str), σ[0]? = some (some (.ref o)) ∧ σ[2]? = some (some (.ref lw)) ∧ NdAt K C R N H o n ∧ NdOk n ∧ H lw = some (.lst (ws.map V.str)) ∧ ws.length ≤ 900 ∧
  ∀ H', SameX lw H H' → H' lw = some (.lst ((ws ++ partW wd (part n)).map V.str)) → D.nx σ H'
section
variable {P : Program} {w : World} {K : PySem.W.Frag} {mg : Str → Option Value} {base : Heap} {C R B CW : Addr}
def sp_words_of (K : PySem.W.Frag) (C R : Addr) : Sp := fun vs H Q _ => ∃ (N : Addr → Prop) (o : Addr) (n : Nd) (k : Nat), vs = [.ref o, .int (k : Nat)] ∧ NdAt K C R N H o n ∧ NdOk n ∧ k ≤ 100 ∧ ∀ H' p, Same H H' → H p = none → H' p = some (.lst ((wordsN n k).map V.str)) → Q (.ref p) H'
theorem rep_one {α : Type} (x : α) : ∀ k : Nat, (List.replicate k [x]).flatten = List.replicate k x
  | 0 => rfl
  | k + 1 => by
    rw [List.replicate_succ, List.flatten_cons, rep_one x k]
    rfl
theorem ok_words_of {f : Addr} {fd : FuncData} {t1 : Tok} (F : Fun K "words_of" "words_of" s_words_of f fd) (B : Blt mg) (kR : RuleX P w K mg base R) (kK : CondG P w K mg base C) (m_SIGN : mg "SIGN" = some (.str ">" t1)) : FnOk P w K mg base CX0 3 f fd ["rule", "around"] (sp_words_of K C R) := by
  refine F.ok sc_words_of (fun vs H Q E h => by obtain ⟨N, o, n, k, rfl, _⟩ := h; rfl) (fun cdv A outer s H vs Q E hr h => ?_)
  obtain ⟨N, o, n, k, rfl, hN, hok, hk, q⟩ := h
  refine ⟨_, (pss_cons (ps_set (i := 2) sc_words_of.nd rfl (Or.inl rfl) (pe_op op_cat (pe_op op_rep (pe_lst (pa_cons (pe_glob (v := .str ">") rfl m_SIGN ⟨_, rfl⟩) pa_nil)) (pv 1)) (pe_lst (pa_cons (pe_cprop kR.name kR.cls (hr.mono (by decide)) (pv 0)) (pa_cons pe_str (pa_cons (pe_cprop kR.ruling kR.cls (hr.mono (by decide)) (pv 0)) pa_nil))))))
      (pss_cons (wk_ps (tExt K C R (fun n => n.hs) "if") (ps_if (pt_tru (pe_cprop kK.holding kK.cls (hr.mono (by decide)) (pe_cprop kR.condition kR.cls (hr.mono (by decide)) (pv 0))) (by intro _; rfl)) (pss_one (ps_expr (pe_bm PySem.F.plainAttrs_list PySem.F.slot_list_extend PySem.F.type_list_extend mt_extend (pv 2) (pa_cons (pe_op op_cat (pe_lst (pa_cons pe_str pa_nil)) (pe_callTy call_list_of (by rfl) B.b_list PyProof.Rows.boot_list (pa_cons (pe_cprop kK.holding kK.cls (hr.mono (by decide)) (pe_cprop kR.condition kR.cls (hr.mono (by decide)) (pv 0))) pa_nil))) pa_nil)))) pss_nil) ?w1)
      (pss_cons (wk_ps (tExt K C R (fun n => n.fs) "not") (ps_if (pt_tru (pe_cprop kK.failing kK.cls (hr.mono (by decide)) (pe_cprop kR.condition kR.cls (hr.mono (by decide)) (pv 0))) (by intro _; rfl)) (pss_one (ps_expr (pe_bm PySem.F.plainAttrs_list PySem.F.slot_list_extend PySem.F.type_list_extend mt_extend (pv 2) (pa_cons (pe_op op_cat (pe_lst (pa_cons pe_str pa_nil)) (pe_callTy call_list_of (by rfl) B.b_list PyProof.Rows.boot_list (pa_cons (pe_cprop kK.failing kK.cls (hr.mono (by decide)) (pe_cprop kR.condition kR.cls (hr.mono (by decide)) (pv 0))) pa_nil))) pa_nil)))) pss_nil) ?w2)
      (pss_one (ps_ret (pv 2)))))), ?_⟩
  case w1 =>
    rintro D σ H1 ⟨N, o, lw, n, ws, g0, g2, hN, hok, ew, hwl, q⟩
    obtain ⟨dx, c, pe, l, ws', ho, hc, hpe, hl, hfe⟩ := hN
    obtain ⟨dxc, ca, cb, cn, zs, hco, hca, hcb, hcn, hzs⟩ := hc.at_
    have hlen := hok.len
    refine ⟨_, g0, o, dx, _, rfl, ho, o, dx, _, _, rfl, ho, rfl, c, dxc, _, rfl, hco, c, dxc, _, _, rfl, hco, rfl, _, .inr (.inl ⟨_, hca, rfl⟩), bcase (fun c1 => ?_) (fun c1 => ?_)⟩
    · have e1 : n.hs ≠ [] := fun z => by rw [z] at c1; exact Bool.noConfusion (show false = true from c1)
      refine ⟨_, g2, .inl ⟨rfl, _, sqL_of ew⟩, (by show 1 ≤ sizeLine; decide), fun l1 n1 => ?_⟩
      have s1 : Same H1 (upd H1 l1 (.lst [.str "if"])) := (Same.refl H1).put n1
      have m1 : (upd H1 l1 (.lst [.str "if"])) l1 = some (.lst [.str "if"]) := upd_same
      generalize upd H1 l1 (.lst [.str "if"]) = H2 at s1 m1 ⊢
      have ho2 := s1 _ _ ho
      have hco2 := s1 _ _ hco
      refine ⟨_, g0, o, dx, _, rfl, ho2, o, dx, _, _, rfl, ho2, rfl, c, dxc, _, rfl, hco2, c, dxc, _, _, rfl, hco2, rfl, ca, _, rfl, .inr (s1.tup hca), fun l2 n2 => ?_⟩
      have s2 : Same H2 (upd H2 l2 (.lst (n.hs.map V.str))) := (Same.refl H2).put n2
      have m2 : (upd H2 l2 (.lst (n.hs.map V.str))) l2 = some (.lst (n.hs.map V.str)) := upd_same
      generalize upd H2 l2 (.lst (n.hs.map V.str)) = H3 at s2 m2 ⊢
      refine ⟨l1, l2, _, _, rfl, rfl, s2 _ _ m1, m2, by rw [List.length_map, sizeLine_eq]; show 1 + _ ≤ _; omega, fun l3 n3 => ?_⟩
      have s3 : Same H3 (upd H3 l3 (.lst ([V.str "if"] ++ n.hs.map V.str))) := (Same.refl H3).put n3
      have m3 : (upd H3 l3 (.lst ([V.str "if"] ++ n.hs.map V.str))) l3 = some (.lst ([V.str "if"] ++ n.hs.map V.str)) := upd_same
      generalize upd H3 l3 (.lst ([V.str "if"] ++ n.hs.map V.str)) = H4 at s3 m3 ⊢
      have s14 := (s1.trans s2).trans s3
      refine ⟨lw, l3, _, _, rfl, rfl, s14 _ _ ew, m3, by rw [List.length_append, List.length_map, List.length_map, sizeLine_eq]; show _ + (1 + _) ≤ _; omega, ?_⟩
      refine q _ (SameX.put (SameX.of s14)) ?_
      rw [upd_same, show partW "if" n.hs = Str.ofString "if" :: n.hs by unfold partW; rw [if_neg e1], List.map_append]
      rfl
    · have e1 : n.hs = [] := by
        cases hh : n.hs with
        | nil => rfl
        | cons x r => rw [hh] at c1; exact Bool.noConfusion (show true = false from c1)
      exact q H1 (fun _ _ _ h => h) (by rw [show partW "if" n.hs = [] by unfold partW; rw [if_pos e1], List.append_nil]; exact ew)
  case w2 =>
    rintro D σ H1 ⟨N, o, lw, n, ws, g0, g2, hN, hok, ew, hwl, q⟩
    obtain ⟨dx, c, pe, l, ws', ho, hc, hpe, hl, hfe⟩ := hN
    obtain ⟨dxc, ca, cb, cn, zs, hco, hca, hcb, hcn, hzs⟩ := hc.at_
    have hlen := hok.len
    refine ⟨_, g0, o, dx, _, rfl, ho, o, dx, _, _, rfl, ho, rfl, c, dxc, _, rfl, hco, c, dxc, _, _, rfl, hco, rfl, _, .inr (.inl ⟨_, hcb, rfl⟩), bcase (fun c1 => ?_) (fun c1 => ?_)⟩
    · have e1 : n.fs ≠ [] := fun z => by rw [z] at c1; exact Bool.noConfusion (show false = true from c1)
      refine ⟨_, g2, .inl ⟨rfl, _, sqL_of ew⟩, (by show 1 ≤ sizeLine; decide), fun l1 n1 => ?_⟩
      have s1 : Same H1 (upd H1 l1 (.lst [.str "not"])) := (Same.refl H1).put n1
      have m1 : (upd H1 l1 (.lst [.str "not"])) l1 = some (.lst [.str "not"]) := upd_same
      generalize upd H1 l1 (.lst [.str "not"]) = H2 at s1 m1 ⊢
      have ho2 := s1 _ _ ho
      have hco2 := s1 _ _ hco
      refine ⟨_, g0, o, dx, _, rfl, ho2, o, dx, _, _, rfl, ho2, rfl, c, dxc, _, rfl, hco2, c, dxc, _, _, rfl, hco2, rfl, cb, _, rfl, .inr (s1.tup hcb), fun l2 n2 => ?_⟩
      have s2 : Same H2 (upd H2 l2 (.lst (n.fs.map V.str))) := (Same.refl H2).put n2
      have m2 : (upd H2 l2 (.lst (n.fs.map V.str))) l2 = some (.lst (n.fs.map V.str)) := upd_same
      generalize upd H2 l2 (.lst (n.fs.map V.str)) = H3 at s2 m2 ⊢
      refine ⟨l1, l2, _, _, rfl, rfl, s2 _ _ m1, m2, by rw [List.length_map, sizeLine_eq]; show 1 + _ ≤ _; omega, fun l3 n3 => ?_⟩
      have s3 : Same H3 (upd H3 l3 (.lst ([V.str "not"] ++ n.fs.map V.str))) := (Same.refl H3).put n3
      have m3 : (upd H3 l3 (.lst ([V.str "not"] ++ n.fs.map V.str))) l3 = some (.lst ([V.str "not"] ++ n.fs.map V.str)) := upd_same
      generalize upd H3 l3 (.lst ([V.str "not"] ++ n.fs.map V.str)) = H4 at s3 m3 ⊢
      have s14 := (s1.trans s2).trans s3
      refine ⟨lw, l3, _, _, rfl, rfl, s14 _ _ ew, m3, by rw [List.length_append, List.length_map, List.length_map, sizeLine_eq]; show _ + (1 + _) ≤ _; omega, ?_⟩
      refine q _ (SameX.put (SameX.of s14)) ?_
      rw [upd_same, show partW "not" n.fs = Str.ofString "not" :: n.fs by unfold partW; rw [if_neg e1], List.map_append]
      rfl
    · have e1 : n.fs = [] := by
        cases hh : n.fs with
        | nil => rfl
        | cons x r => rw [hh] at c1; exact Bool.noConfusion (show true = false from c1)
      exact q H1 (fun _ _ _ h => h) (by rw [show partW "not" n.fs = [] by unfold partW; rw [if_pos e1], List.append_nil]; exact ew)
  refine ⟨(by show 1 ≤ sizeLine; decide), fun l1 n1 => ?_⟩
  have s1 : Same H (upd H l1 (.lst [.str ">"])) := (Same.refl H).put n1
  have m1 : (upd H l1 (.lst [.str ">"])) l1 = some (.lst [.str ">"]) := upd_same
  generalize upd H l1 (.lst [.str ">"]) = H1 at s1 m1 ⊢
  refine ⟨_, rfl, l1, _, _, rfl, rfl, m1, by omega, by omega, by rw [sizeLine_eq]; show 1 * (k : Int).toNat ≤ _; omega, fun l2 n2 => ?_⟩
  rw [rep_one, Int.toNat_natCast]
  have s2 : Same H1 (upd H1 l2 (.lst (List.replicate k (V.str ">")))) := (Same.refl H1).put n2
  have m2 : (upd H1 l2 (.lst (List.replicate k (V.str ">")))) l2 = some (.lst (List.replicate k (V.str ">"))) := upd_same
  generalize upd H1 l2 (.lst (List.replicate k (V.str ">"))) = H2 at s2 m2 ⊢
  obtain ⟨dx, c, pe, l, ws', ho, hc, hpe, hl, hfe⟩ := id hN
  have s12 := s1.trans s2
  have ho2 := s12 _ _ ho
  refine ⟨_, rfl, o, dx, _, rfl, ho2, o, dx, _, _, rfl, ho2, rfl, _, rfl, o, dx, _, rfl, ho2, o, dx, _, _, rfl, ho2, rfl, (by show 3 ≤ sizeLine; decide), fun l3 n3 => ?_⟩
  have s3 : Same H2 (upd H2 l3 (.lst [.str n.nm, .str "is", .str n.rl])) := (Same.refl H2).put n3
  have m3 : (upd H2 l3 (.lst [.str n.nm, .str "is", .str n.rl])) l3 = some (.lst [.str n.nm, .str "is", .str n.rl]) := upd_same
  generalize upd H2 l3 (.lst [.str n.nm, .str "is", .str n.rl]) = H3 at s3 m3 ⊢
  refine ⟨l2, l3, _, _, rfl, rfl, s3 _ _ m2, m3, by rw [List.length_replicate, sizeLine_eq]; show k + 3 ≤ _; omega, fun lw nlw => ?_⟩
  have s4 : Same H3 (upd H3 lw (.lst (List.replicate k (V.str ">") ++ [.str n.nm, .str "is", .str n.rl]))) := (Same.refl H3).put nlw
  have m4 : (upd H3 lw (.lst (List.replicate k (V.str ">") ++ [.str n.nm, .str "is", .str n.rl]))) lw = some (.lst (((List.replicate k (Str.ofString ">") : List Str) ++ [n.nm, "is", n.rl]).map V.str)) := by rw [upd_same, List.map_append, List.map_replicate]; rfl
  generalize upd H3 lw (.lst (List.replicate k (V.str ">") ++ [.str n.nm, .str "is", .str n.rl])) = H4 at s4 m4 ⊢
  have s03 := s12.trans s3
  have s04 := s03.trans s4
  have fw : H lw = none := s03.free nlw
  have hlen := hok.len
  have pl : ∀ (wd : Str) (xs : List Str), xs.length ≤ 8 → (partW wd xs).length ≤ 9 := fun wd xs h => by
    unfold partW
    split
    · exact Nat.zero_le _
    · rw [List.length_cons]
      omega
  have x1 := pl "if" n.hs (by omega)
  refine ⟨Used N H, o, lw, n, _, rfl, rfl, (hN.re (fun b xs hb e => ⟨hb, by rw [e]; exact fun z => nomatch z⟩)).keeps s04.keeps, hok, m4, by rw [List.length_append, List.length_replicate]; show k + 3 ≤ _; omega, fun H5 sx5 m5 => ?_⟩
  have kk : Keeps (Used N H) H4 H5 := SameX.keeps' sx5 (used_not fw) fun o' h => by rw [m4] at h; exact ⟨_, (Option.some.inj h).symm⟩
  refine ⟨Used N H, o, lw, n, _, rfl, rfl, ((hN.re (fun b xs hb e => ⟨hb, by rw [e]; exact fun z => nomatch z⟩)).keeps s04.keeps).keeps kk, hok, m5, by rw [List.length_append, List.length_append, List.length_replicate]; show k + 3 + (partW "if" n.hs).length ≤ 900; omega, fun H6 sx6 m6 => ?_⟩
  refine ⟨_, rfl, q H6 lw (fun b o' e => sx6 b o' (ne_of_none e fw) (sx5 b o' (ne_of_none e fw) (s04 b o' e))) fw m6⟩
end
end Sc
namespace Sc
open PySem PySem.Spec PyProof.Rows L2
abbrev s_check_writable : Stmt := topS 47
theorem sc_check_writable : FnScope ["book", "rules", "index", "rule", "fact"] ["book", "rules"] (defScope s_check_writable) := ⟨rfl, rfl, rfl, by decide +kernel, rfl, by decide +kernel, by decide +kernel⟩
abbrev s_format_book : Stmt := topS 46
theorem sc_format_book : FnScope ["book", "rules", "rows", "rule", "_", "around", "words"] ["book"] (defScope s_format_book) := ⟨rfl, rfl, rfl, by decide +kernel, rfl, by decide +kernel, by decide +kernel⟩
def reserved : List Str := ["facts", "is", "if", "not", "else"]
def resN (n : Nd) : Bool := decide (n.nm ∈ reserved) || decide (n.rl ∈ reserved)
def resAt (ns : List Nd) (i : Nat) : Bool := match ns[i]? with | some n => resN n | none => false
/-- the index of the first reserved word -/
def wrIx (xs : List Str) (ns : List Nd) (rl : Str) : Option Int := if (xs.any fun x => decide (x ∈ reserved)) = true then some (-1) else match (List.range ns.length).find? (resAt ns) with
  | some i => some (i : Nat)
  | none => if rl ∈ reserved then some 60 else none
def errN (C : Addr) (i : Int) (H : Hp) (E : XK) : Prop := ∀ H' d, Same H H' → H' d = none → E (.ref C) (some d) (upd H' d (.xd [(("index" : Str), .int i)]))
/-- the class Book as its users see it -/
structure BookX (P : Program) (w : World) (K : PySem.W.Frag) (mg : Str → Option Value) (base : Heap) (B : Addr) : Prop where
  cls : Cls K B
  facts : PropX P w K mg base B "facts" "_facts"
  rules : PropX P w K mg base B "rules" "_rules"
  ruling : PropX P w K mg base B "ruling" "_ruling"
section
variable {P : Program} {w : World} {K : PySem.W.Frag} {mg : Str → Option Value} {base : Heap} {C R B CW : Addr}
def sp_check_writable (K : PySem.W.Frag) (C R B CW : Addr) : Sp := fun vs H Q E => ∃ (N : Addr → Prop) (o p : Addr) (xs : List Str) (f : RF) (rl : Str) (us : List V) (ns : List Nd), vs = [.ref o, .ref p] ∧ BookAt K C R B N H o xs f rl ∧ xs.length ≤ 900 ∧ H p = some (.lst us) ∧ All2 (RefAt K C R N H) us ns ∧ ns.length ≤ 900 ∧
  (wrIx xs ns rl = none → ∀ H', Same H H' → Q .non H') ∧ (∀ i, wrIx xs ns rl = some i → errN CW i H E)
theorem ok_check_writable {f : Addr} {fd : FuncData} {t1 t2 : Tok} {rsA : Addr} (F : Fun K "check_writable" "check_writable" s_check_writable f fd) (Bl : Blt mg) (kR : RuleX P w K mg base R) (kB : BookX P w K mg base B) (m_RESERVED : mg "RESERVED" = some (.ref rsA)) (hRS : ∀ H, SqT K H rsA (reserved.map V.str))
    (m_NUMBER_OF_FACTS : mg "NUMBER_OF_FACTS" = some (.int (-1) t1)) (m_NUMBER_OF_BOOK : mg "NUMBER_OF_BOOK" = some (.int 60 t2)) (e_NotWritable : ErrMk P w K mg base "NotWritable" CW ["self", "index"] (sp_init1 CW "index")) :
    FnOk P w K mg base (L2.CX P w) 3 f fd ["book", "rules"] (sp_check_writable K C R B CW) := by
  refine F.okX sc_check_writable (fun vs H Q E h => by obtain ⟨N, o, p, xs, f, rl, us, ns, rfl, _⟩ := h; rfl) (fun cdv A outer s H vs Q E hr h => ?_)
  obtain ⟨N, o, p, xs, f, rl, us, ns, rfl, hB, hxl, hp, hus, hnl, q, er⟩ := h
  refine ⟨_, (pss_cons (ps_if (pt_val (pe_callB (cr_any rfl) (by rfl) Bl.b_any (by decide +kernel) (pa_cons (pe_lc (own := [("fact", 4)]) (g := gName 4) (tt := tYes) rfl sc_check_writable.nd (pi_tup (pe_cprop kB.facts kB.cls (hr.mono (by decide)) (pv 0))) (blkOk_by (own := [("fact", 4)]) (N := ["book", "rules", "index", "rule", "fact"]) (sc := defScope s_check_writable) (by decide +kernel)) (fun _ _ _ _ _ => (pg_name (i := 4) sc_check_writable.nd rfl (Or.inl rfl))) (fun _ _ _ _ _ => pts_nil) (fun _ _ _ _ _ => (pe_.re (pe_cmpR op_in_seq (pv 4) (pe_glob (v := .ref rsA) rfl m_RESERVED rfl) rfl) (by first | (dsimp only [Cx.blk]; done) | exact rfl)))) pa_nil))) (pss_one (ps_raise rfl (takes_of rfl rfl rfl rfl) (pmk_err1 e_NotWritable (hr.mono (by decide)) (pe_glob (v := .int (-1)) rfl m_NUMBER_OF_FACTS ⟨_, rfl⟩)))) pss_nil)
      (pss_cons (ps_for (passes_of rfl) rfl (pi_enum (by rfl) Bl.b_enumerate (pa_cons (pv 1) pa_nil)) (pg_tup (by rfl) (pgs_cons (pg_name (i := 2) sc_check_writable.nd rfl (Or.inl rfl)) (pgs_cons (pg_name (i := 3) sc_check_writable.nd rfl (Or.inl rfl)) pgs_nil))) (pss_one (ps_if (PW.pt (pw_or (pt_cmpR op_in_seq (pe_cprop kR.name kR.cls (hr.mono (by decide)) (pv 3)) (pe_glob (v := .ref rsA) rfl m_RESERVED rfl) rfl) (pw_or1 (pt_cmpR op_in_seq (pe_cprop kR.ruling kR.cls (hr.mono (by decide)) (pv 3)) (pe_glob (v := .ref rsA) rfl m_RESERVED rfl) rfl)))) (pss_one (ps_raise rfl (takes_of rfl rfl rfl rfl) (pmk_err1 e_NotWritable (hr.mono (by decide)) (pv 2)))) pss_nil)))
      (pss_one (ps_if (pt_cmpR op_in_seq (pe_cprop kB.ruling kB.cls (hr.mono (by decide)) (pv 0)) (pe_glob (v := .ref rsA) rfl m_RESERVED rfl) rfl) (pss_one (ps_raise rfl (takes_of rfl rfl rfl rfl) (pmk_err1 e_NotWritable (hr.mono (by decide)) (pe_glob (v := .int 60) rfl m_NUMBER_OF_BOOK ⟨_, rfl⟩)))) pss_nil)))), ?_⟩
  obtain ⟨dx, fa, pr, nl, ws, us2, ho, hfa, hpr, hF, hl, hus2⟩ := hB
  have hul := hus.len
  refine ⟨_, rfl, o, dx, _, rfl, ho, o, dx, _, _, rfl, ho, rfl, fa, rfl, ⟨_, hfa⟩, fun D nD => lc_it walk_tup (fun i H' => Same H H' ∧ H' D = some (.lst ((xs.take i).map fun x => V.bl (decide (x ∈ reserved))))) ⟨(Same.refl H).put nD, upd_same⟩ (fun _ _ _ h => h.1.tup hfa) ?_ ?_⟩
  · rintro i y H2 H3 hi ⟨s, e⟩ ⟨rfl, hy⟩
    rw [List.length_map] at hi
    have hx : xs[i]? = some xs[i] := List.getElem?_eq_getElem hi
    obtain rfl : V.str xs[i] = y := strAt_inj hx hy
    refine ⟨rfl, yes_ ⟨_, rfl, rsA, _, rfl, .inr (hRS _), rfl, flat_strs _, grow (acc := fun i => (xs.take i).map fun x => V.bl (decide (x ∈ reserved))) nD s e ?_ ?_⟩⟩
    · rw [List.length_map, List.length_take]
      exact small1000 (by omega)
    · show List.map _ _ = _
      rw [take_more hx, List.map_append]
      simp only [List.map_cons, List.map_nil, inV_str]
      rfl
  rintro H1 ⟨s1, e1⟩
  rw [List.length_map, List.take_length] at e1
  refine ⟨D, xs.map fun x => decide (x ∈ reserved), rfl, sqL_of (by rw [e1, List.map_map]; rfl), ?_⟩
  rw [show (xs.map fun x => decide (x ∈ reserved)).any id = xs.any fun x => decide (x ∈ reserved) by rw [List.any_map]; rfl]
  refine ⟨_, rfl, bcase (fun c1 => ?_) (fun c1 => ?_)⟩
  · exact ⟨(show (-1 : Int).natAbs.log2 < 1920 by decide), fun d nd => er (-1) (by unfold wrIx; rw [if_pos c1]) H1 d s1 nd⟩
  have w1 : wrIx xs ns rl = match (List.range ns.length).find? (resAt ns) with | some i => some ((i : Nat) : Int) | none => if rl ∈ reserved then some 60 else none := by
    unfold wrIx
    rw [if_neg (by rw [c1]; exact Bool.false_ne_true)]
  refine ⟨_, rfl, p, _, rfl, sqL_of (s1 _ _ hp), for_it walk_enum (fun i σ H' => ∃ y2 y3 y4, σ = [some (.ref o), some (.ref p), y2, y3, y4] ∧ Same H H' ∧ ∀ j, j < i → resAt ns j = false)
    ⟨none, none, none, rfl, s1, fun j hj => absurd hj (Nat.not_lt_zero j)⟩ (fun _ _ _ _ ⟨_, _, _, _, s, _⟩ => sqL_of (s _ _ hp)) ?_ ?_⟩
  · rintro i x σ H2 H3 hi ⟨y2, y3, y4, rfl, s, hb⟩ ⟨T, v1, v2, rfl, nT, rfl, h1, h2⟩
    obtain rfl : V.int (i : Nat) = v1 := Option.some.inj h1
    obtain ⟨n, hn, o', rfl, hN⟩ := hus.get h2
    have hin : i < ns.length := by rw [← hul]; exact hi
    have s3 : Same H (upd H2 T (.tup [.int (i : Nat), .ref o'])) := s.put' nT
    obtain ⟨dx', c', pe', l', ws', ho', _⟩ := hN
    have ho3 := s3 _ _ ho'
    have ea : resAt ns i = (decide (n.nm ∈ reserved) || decide (n.rl ∈ reserved)) := by unfold resAt; rw [hn]; rfl
    have rz : resAt ns i = true → ∀ {H' : Hp}, Same H H' → ∀ d, H' d = none → E (.ref CW) (some d) (upd H' d (.xd [(("index" : Str), .int (i : Nat))])) := fun hp {H'} sH d nd => er (i : Nat) (by rw [w1, find_at hin hp hb]) H' d sH nd
    refine ⟨T, [.int (i : Nat), .ref o'], rfl, sqT_new, rfl, _, _, rfl, _, _, rfl, rfl, ?_⟩
    refine ⟨_, rfl, o', dx', _, rfl, ho3, o', dx', _, _, rfl, ho3, rfl, rsA, _, rfl, .inr (hRS _), rfl, flat_strs _, _, rfl, bcase (fun c2 => ?_) (fun c2 => ?_)⟩
    · have c2 : decide (n.nm ∈ reserved) = true := by rw [← inV_str]; exact c2
      exact iteT ⟨_, rfl, fok_nat (by omega), rz (by rw [ea, c2, Bool.true_or]) s3⟩
    have c2 : decide (n.nm ∈ reserved) = false := by rw [← inV_str]; exact c2
    refine ⟨_, rfl, o', dx', _, rfl, ho3, o', dx', _, _, rfl, ho3, rfl, rsA, _, rfl, .inr (hRS _), rfl, flat_strs _, _, rfl, bcase (fun c3 => ?_) (fun c3 => ?_)⟩
    · have c3 : decide (n.rl ∈ reserved) = true := by rw [← inV_str]; exact c3
      exact ⟨_, rfl, fok_nat (by omega), rz (by rw [ea, c3, Bool.or_true]) s3⟩
    have c3 : decide (n.rl ∈ reserved) = false := by rw [← inV_str]; exact c3
    refine ⟨_, _, _, rfl, s3, fun j hj => ?_⟩
    by_cases hj2 : j < i
    · exact hb j hj2
    · have ej : j = i := by omega
      subst ej
      rw [ea, c2, c3]
      rfl
  · rintro σ H2 ⟨y2, y3, y4, rfl, s, hb⟩
    rw [hul] at hb
    have w2 : wrIx xs ns rl = if rl ∈ reserved then some 60 else none := by rw [w1, find_none hb]
    have ho2 := s _ _ ho
    refine ⟨_, rfl, o, dx, _, rfl, ho2, o, dx, _, _, rfl, ho2, rfl, rsA, _, rfl, .inr (hRS _), rfl, flat_strs _, _, rfl, bcase (fun c2 => ?_) (fun c2 => ?_)⟩
    · have c2 : decide (rl ∈ reserved) = true := by rw [← inV_str]; exact c2
      exact ⟨(show (60 : Int).natAbs.log2 < 1920 by decide), fun d nd => er 60 (by rw [w2, if_pos (of_decide_eq_true c2)]) H2 d s nd⟩
    · have c2 : decide (rl ∈ reserved) = false := by rw [← inV_str]; exact c2
      exact q (by rw [w2, if_neg (of_decide_eq_false c2)]) H2 s
end
end Sc
namespace Sc
open PySem PySem.Spec PyProof.Rows L2
/-! ### lengths of texts -/
theorem joinL_len (S : List Nat) : ∀ ps : List (List Nat), (TL.joinL S ps).length ≤ (ps.map List.length).sum + ps.length * S.length
  | [] => Nat.zero_le _
  | [p] => by
    show p.length ≤ (p.length + 0) + 1 * S.length
    omega
  | p :: q :: r => by
    have ih := joinL_len S (q :: r)
    show (p ++ (S ++ TL.joinL S (q :: r))).length ≤ (p.length + ((q :: r).map List.length).sum) + ((q :: r).length + 1) * S.length
    rw [List.length_append, List.length_append, Nat.add_mul]
    omega
theorem join_len (y : Str) (ps : List Str) : (Txt.join y ps).length ≤ (ps.map (·.length)).sum + ps.length * y.length := by
  have h := joinL_len (TL.tl y) (ps.map TL.tl)
  rw [← TL.tl_join, ← TL.join_eq, List.length_map, List.map_map] at h
  have e1 : (TL.tl (Txt.join y ps)).length = (Txt.join y ps).length := by
    show (Txt.join y ps).cps.toList.length = _
    rw [Array.length_toList]
    rfl
  have e2 : (TL.tl y).length = y.length := by
    show y.cps.toList.length = _
    rw [Array.length_toList]
    rfl
  have e3 : ps.map (List.length ∘ TL.tl) = ps.map (·.length) := by
    apply List.map_congr_left
    intro x _
    show x.cps.toList.length = _
    rw [Array.length_toList]
    rfl
  rw [e1, e2, e3] at h
  exact h
theorem sum_le {α : Type} {f : α → Nat} {m : Nat} : ∀ {l : List α}, (∀ x ∈ l, f x ≤ m) → (l.map f).sum ≤ l.length * m
  | [], _ => Nat.zero_le _
  | x :: r, h => by
    have h1 := h x List.mem_cons_self
    have h2 := sum_le (l := r) fun y hy => h y (List.mem_cons_of_mem _ hy)
    show f x + (r.map f).sum ≤ (r.length + 1) * m
    rw [Nat.succ_mul]
    omega
abbrev spc : Str := Str.ofString " "
abbrev lf : Str := Str.ofString "\n"
/-- the rows of a book -/
def rowsB (xs : List Str) (ps : List (Nd × Nat)) (rl : Str) : List (List Str) := ((Str.ofString "facts" :: xs) :: ps.map fun q => wordsN q.1 q.2) ++ [[Str.ofString "else", rl]]
def textB (xs : List Str) (ps : List (Nd × Nat)) (rl : Str) : Str := Txt.join lf ((rowsB xs ps rl).map (Txt.join spc))
theorem pre_dep : ∀ (f : RF) (k : Nat), ∀ q ∈ f.pre k, q.2 + 1 ≤ k + f.dep
  | .nil, k, q, h => nomatch h
  | .cons nm hs fs rl exc rest, k, q, h => by
    show _ ≤ k + max (exc.dep + 1) rest.dep
    rcases List.mem_cons.mp h with rfl | h
    · show k + 1 ≤ _
      omega
    rcases List.mem_append.mp h with h | h
    · have := pre_dep exc (k + 1) q h
      omega
    · have := pre_dep rest k q h
      omega
/-- short rows of short words -/
def RowOk (ws : List Str) : Prop := ws.length ≤ 200 ∧ ∀ x ∈ ws, x.length ≤ 8
theorem rowText_len {ws : List Str} (h : RowOk ws) : (Txt.join spc ws).length ≤ 1800 := by
  have h1 : (Txt.join spc ws).length ≤ (ws.map (·.length)).sum + ws.length * 1 := join_len spc ws
  have h2 : (ws.map (·.length)).sum ≤ ws.length * 8 := sum_le h.2
  have h3 := h.1
  omega
theorem wordsN_ok {n : Nd} {k : Nat} (h : NdOk n) (hk : k ≤ 100) : RowOk (wordsN n k) := by
  have hl := h.len
  have p1 : ∀ (wd : Str) (xs : List Str), xs.length ≤ 8 → (partW wd xs).length ≤ 9 := fun wd xs h => by
    unfold partW
    split
    · exact Nat.zero_le _
    · rw [List.length_cons]
      omega
  have p2 : ∀ (wd : Str) (xs : List Str), wd.length ≤ 8 → (∀ x ∈ xs, x.length ≤ 8) → ∀ x ∈ partW wd xs, x.length ≤ 8 := fun wd xs h1 h2 x hx => by
    unfold partW at hx
    split at hx
    · cases hx
    · rcases List.mem_cons.mp hx with rfl | hx
      · exact h1
      · exact h2 x hx
  constructor
  · have a1 := p1 "if" n.hs hl.1
    have a2 := p1 "not" n.fs hl.2
    unfold wordsN
    rw [List.length_append, List.length_append, List.length_append, List.length_replicate]
    show k + 3 + _ + _ ≤ 200
    omega
  · intro x hx
    unfold wordsN at hx
    rcases List.mem_append.mp hx with hx | hx
    · rcases List.mem_append.mp hx with hx | hx
      · rcases List.mem_append.mp hx with hx | hx
        · rw [List.eq_of_mem_replicate hx]
          decide
        · rcases List.mem_cons.mp hx with rfl | hx
          · exact name_len h.nm
          rcases List.mem_cons.mp hx with rfl | hx
          · decide
          rw [List.mem_singleton.mp hx]
          exact name_len h.rl
      · exact p2 "if" n.hs (by decide) (fun x hx => name_len (fw_names h.c1 x hx)) x hx
    · exact p2 "not" n.fs (by decide) (fun x hx => name_len (fw_names h.c2 x hx)) x hx
/-- lists of texts in a list -/
def LstAt (N : Addr → Prop) (H : Hp) (v : V) (ws : List Str) : Prop := ∃ l, v = .ref l ∧ N l ∧ H l = some (.lst (ws.map V.str))
theorem LstAt.keeps {N : Addr → Prop} {H H' : Hp} {v : V} {ws : List Str} (h : LstAt N H v ws) (k : Keeps N H H') : LstAt N H' v ws := by
  obtain ⟨l, e, n, h⟩ := h
  exact ⟨l, e, n, k _ _ (stays_lst n) h⟩
section
variable {P : Program} {w : World} {K : PySem.W.Frag} {mg : Str → Option Value} {base : Heap} {C R B CW : Addr}
def sp_format_book (K : PySem.W.Frag) (C R B CW : Addr) : Sp := fun vs H Q E => ∃ (N : Addr → Prop) (o : Addr) (xs : List Str) (f : RF) (rl : Str), vs = [.ref o] ∧ BookAt K C R B N H o xs f rl ∧ xs.length ≤ 60 ∧ (∀ x ∈ xs, isName x = true) ∧ f.dep ≤ 12 ∧ f.size ≤ 60 ∧ f.every NdOk ∧ isName rl = true ∧
  (wrIx xs ((f.pre 0).map fun q => q.1) rl = none → ∀ H', Same H H' → Q (.str (textB xs (f.pre 0) rl)) H') ∧ (∀ i, wrIx xs ((f.pre 0).map fun q => q.1) rl = some i → errN CW i H E)
theorem ok_format_book {f : Addr} {fd : FuncData} (F : Fun K "format_book" "format_book" s_format_book f fd) (Bl : Blt mg) (kR : RuleX P w K mg base R) (kB : BookX P w K mg base B) (c_nested : Cal P w K mg base CX0 15 "nested" ["rules", "around"] (sp_nested K C R 12))
    (c_check_writable : Cal P w K mg base (L2.CX P w) 3 "check_writable" ["book", "rules"] (sp_check_writable K C R B CW)) (c_words_of : Cal P w K mg base CX0 3 "words_of" ["rule", "around"] (sp_words_of K C R)) :
    FnOk P w K mg base (L2.CX P w) 16 f fd ["book"] (sp_format_book K C R B CW) := by
  refine F.okX sc_format_book (fun vs H Q E h => by obtain ⟨N, o, xs, f, rl, rfl, _⟩ := h; rfl) (fun cdv A outer s H vs Q E hr h => ?_)
  obtain ⟨N, o, xs, f, rl, rfl, hB, hxl, hxn, hd, hz, hev, hrl, q, er⟩ := h
  refine ⟨_, (pss_cons (ps_set (i := 1) sc_format_book.nd rfl (Or.inl rfl) (pe_cal c_nested (hr.mono (by decide)) (pa_cons (pe_cprop kB.rules kB.cls (hr.mono (by decide)) (pv 0)) (pa_cons pe_int pa_nil))))
      (pss_cons (ps_expr (pe_calX c_check_writable (hr.mono (by decide)) (takes_of rfl rfl rfl rfl) (pa_cons (pv 0) (pa_cons (pe_lc (own := [("rule", 3), ("_", 4)]) (g := gTup K 2 (gCons (gName 3) (gCons (gName 4) gNil))) (tt := tYes) rfl sc_format_book.nd (pi_list (pv 1)) (blkOk_by (own := [("rule", 3), ("_", 4)]) (N := ["book", "rules", "rows", "rule", "_", "around", "words"]) (sc := defScope s_format_book) (by decide +kernel)) (fun _ _ _ _ _ => (pg_tup (by rfl) (pgs_cons (pg_name (i := 3) sc_format_book.nd rfl (Or.inl rfl)) (pgs_cons (pg_name (i := 4) sc_format_book.nd rfl (Or.inl rfl)) pgs_nil)))) (fun _ _ _ _ _ => pts_nil) (fun _ _ _ _ _ => (pe_.re (pv 3) (by first | (dsimp only [Cx.blk]; done) | exact rfl)))) pa_nil))))
      (pss_cons (ps_set (i := 2) sc_format_book.nd rfl (Or.inl rfl) (pe_lst (pa_cons (pe_op op_cat (pe_lst (pa_cons pe_str pa_nil)) (pe_callTy call_list_of (by rfl) Bl.b_list PyProof.Rows.boot_list (pa_cons (pe_cprop kB.facts kB.cls (hr.mono (by decide)) (pv 0)) pa_nil))) pa_nil)))
      (pss_cons (ps_expr (pe_bm PySem.F.plainAttrs_list PySem.F.slot_list_extend PySem.F.type_list_extend mt_extend (pv 2) (pa_cons (pe_lc (own := [("rule", 3), ("around", 5)]) (g := gTup K 2 (gCons (gName 3) (gCons (gName 5) gNil))) (tt := tYes) rfl sc_format_book.nd (pi_list (pv 1)) (blkOk_by (own := [("rule", 3), ("around", 5)]) (N := ["book", "rules", "rows", "rule", "_", "around", "words"]) (sc := defScope s_format_book) (by decide +kernel)) (fun _ _ _ _ _ => (pg_tup (by rfl) (pgs_cons (pg_name (i := 3) sc_format_book.nd rfl (Or.inl rfl)) (pgs_cons (pg_name (i := 5) sc_format_book.nd rfl (Or.inl rfl)) pgs_nil)))) (fun _ _ _ _ _ => pts_nil) (fun _ _ _ _ _ => (pe_.re (pe_cal c_words_of (hr.mono (by decide)) (pa_cons (pv 3) (pa_cons (pv 5) pa_nil))) (by first | (dsimp only [Cx.blk]; done) | exact rfl)))) pa_nil)))
      (pss_cons (ps_expr (pe_bm PySem.F.plainAttrs_list PySem.F.slot_list_append PySem.F.type_list_append mt_append (pv 2) (pa_cons (pe_lst (pa_cons pe_str (pa_cons (pe_cprop kB.ruling kB.cls (hr.mono (by decide)) (pv 0)) pa_nil))) pa_nil)))
      (pss_one (ps_ret (pe_join pe_str (pe_lc (own := [("words", 6)]) (g := gName 6) (tt := tYes) rfl sc_format_book.nd (pi_list (pv 2)) (blkOk_by (own := [("words", 6)]) (N := ["book", "rules", "rows", "rule", "_", "around", "words"]) (sc := defScope s_format_book) (by decide +kernel)) (fun _ _ _ _ _ => (pg_name (i := 6) sc_format_book.nd rfl (Or.inl rfl))) (fun _ _ _ _ _ => pts_nil) (fun _ _ _ _ _ => (pe_.re (pe_join pe_str (pv 6)) (by first | (dsimp only [Cx.blk]; done) | exact rfl)))))))))))), ?_⟩
  obtain ⟨dx, fa, pr, nl, ws, us2, ho, hfa, hpr, hF, hl, hus2⟩ := id hB
  refine ⟨_, rfl, o, dx, _, rfl, ho, o, dx, _, _, rfl, ho, rfl, N, pr, 0, ws, f, rfl, hpr, hF, hd, by omega, fun H1 D us s1 nD eD hu => ?_⟩
  have hul := hu.len
  rw [RF.pre_len] at hul
  refine ⟨_, rfl, _, rfl, D, rfl, ⟨_, sqL_of eD⟩, fun D2 nD2 => lc_it walk_list (fun i H' => Same H1 H' ∧ ∃ rs, H' D2 = some (.lst rs) ∧ All2 (RefAt K C R N H1) rs (((f.pre 0).take i).map fun q => q.1)) ⟨(Same.refl H1).put nD2, [], upd_same, .nil⟩ (fun _ _ _ h => sqL_of (h.1 _ _ eD)) ?_ ?_⟩
  · rintro i y H8 H9 hi ⟨s, rs, e, hr2⟩ ⟨rfl, hy⟩
    obtain ⟨⟨n, k⟩, hq, t, o', rfl, ht, hN⟩ := hu.get hy
    have ht := s _ _ ht
    have hrl := hr2.len
    rw [List.length_map, List.length_take, RF.pre_len] at hrl
    refine ⟨t, [.ref o', .int (k : Nat)], rfl, sqT_of ht, rfl, _, _, rfl, _, _, rfl, rfl, rfl, yes_ ⟨_, rfl, rs, e, small1000 (by omega), s.put nD2, _, upd_same, ?_⟩⟩
    rw [take_more hq, List.map_append]
    exact hr2.snoc ⟨o', rfl, hN⟩
  rintro H2 ⟨s2, rs, e2, hr2⟩
  rw [hu.len, List.take_length] at hr2
  have s02 := s1.trans s2
  refine ⟨N, o, D2, xs, f, rl, rs, _, rfl, hB.keeps s02.keeps, by omega, e2, hr2.mono (fun _ _ x => x.keeps s2.keeps), by rw [List.length_map, RF.pre_len]; omega, fun w0 H3 s3 => ?_, fun i ei H' d sH nd => er i ei H' d (s02.trans sH) nd⟩
  have q := q w0
  have s03 := s02.trans s3
  have eD3 := s3 _ _ (s2 _ _ eD)
  have hu3 : PreAt K C R N H3 us (f.pre 0) := hu.keeps (s2.trans s3).keeps
  have ho3 := s03 _ _ ho
  refine ⟨(by show 1 ≤ sizeLine; decide), fun l1 n1 => ?_⟩
  have s4 : Same H3 (upd H3 l1 (.lst [.str "facts"])) := (Same.refl H3).put n1
  have m1 : (upd H3 l1 (.lst [.str "facts"])) l1 = some (.lst [.str "facts"]) := upd_same
  generalize upd H3 l1 (.lst [.str "facts"]) = H4 at s4 m1 ⊢
  have ho4 := s4 _ _ ho3
  refine ⟨_, rfl, o, dx, _, rfl, ho4, o, dx, _, _, rfl, ho4, rfl, fa, _, rfl, .inr (s4.tup (s03.tup hfa)), fun l2 n2 => ?_⟩
  have s5 : Same H4 (upd H4 l2 (.lst (xs.map V.str))) := (Same.refl H4).put n2
  have m2 : (upd H4 l2 (.lst (xs.map V.str))) l2 = some (.lst (xs.map V.str)) := upd_same
  generalize upd H4 l2 (.lst (xs.map V.str)) = H5 at s5 m2 ⊢
  refine ⟨l1, l2, _, _, rfl, rfl, s5 _ _ m1, m2, by rw [List.length_map, sizeLine_eq]; show 1 + _ ≤ _; omega, fun l3 n3 => ?_⟩
  have s6 : Same H5 (upd H5 l3 (.lst ([V.str "facts"] ++ xs.map V.str))) := (Same.refl H5).put n3
  have m3 : (upd H5 l3 (.lst ([V.str "facts"] ++ xs.map V.str))) l3 = some (.lst ((Str.ofString "facts" :: xs).map V.str)) := upd_same
  generalize upd H5 l3 (.lst ([V.str "facts"] ++ xs.map V.str)) = H6 at s6 m3 ⊢
  refine ⟨(by show 1 ≤ sizeLine; decide), fun rp nrp => ?_⟩
  have s7 : Same H6 (upd H6 rp (.lst [.ref l3])) := (Same.refl H6).put nrp
  have erp : (upd H6 rp (.lst [.ref l3])) rp = some (.lst [.ref l3]) := upd_same
  have n3r : l3 ≠ rp := ne_of_none m3 nrp
  have m37 := s7 _ _ m3
  generalize upd H6 rp (.lst [.ref l3]) = H7 at s7 erp m37 ⊢
  have s37 := ((s4.trans s5).trans s6).trans s7
  have s07 := s03.trans s37
  have eD7 := s37 _ _ eD3
  have hu7 : PreAt K C R N H7 us (f.pre 0) := hu3.keeps s37.keeps
  have f3r : H3 rp = none := ((s4.trans s5).trans s6).free nrp
  refine ⟨_, rfl, .inl ⟨rfl, _, sqL_of erp⟩, _, rfl, D, rfl, ⟨_, sqL_of eD7⟩, fun D4 nD4 => lc_it walk_list (fun i H' => Same H7 H' ∧ ∃ rs, H' D4 = some (.lst rs) ∧ All2 (LstAt (fun l => l ≠ rp ∧ l ≠ D4) H') rs (((f.pre 0).take i).map fun q => wordsN q.1 q.2)) ⟨(Same.refl H7).put nD4, [], upd_same, .nil⟩ (fun _ _ _ h => sqL_of (h.1 _ _ eD7)) ?_ ?_⟩
  · rintro i y H8 H9 hi ⟨s, rs, e, hr2⟩ ⟨rfl, hy⟩
    obtain ⟨⟨n, k⟩, hq, t, o', rfl, ht, hN⟩ := hu7.get hy
    have ht := s _ _ ht
    have hmem := List.mem_of_getElem? hq
    have hrl2 := hr2.len
    rw [List.length_map, List.length_take, RF.pre_len] at hrl2
    have hkd := pre_dep f 0 _ hmem
    dsimp only at hkd hN
    refine ⟨t, [.ref o', .int (k : Nat)], rfl, sqT_of ht, rfl, _, _, rfl, _, _, rfl, rfl, rfl, yes_ ⟨_, rfl, _, rfl, N, o', n, k, rfl, hN.keeps s.keeps, RF.every_pre hev _ hmem, by omega, fun H10 p' s10 np' e10 => ?_⟩⟩
    have eD4 := s10 _ _ e
    have hp1 : p' ≠ rp := fun z => by rw [z, s _ _ erp] at np'; cases np'
    have hp2 : p' ≠ D4 := fun z => by rw [z, e] at np'; cases np'
    have kk : Keeps (fun l => l ≠ rp ∧ l ≠ D4) H10 (upd H10 D4 (.lst (rs ++ [.ref p']))) := keeps_own eD4 fun z => z.2 rfl
    refine ⟨rs, eD4, small1000 (by omega), (s.trans s10).put nD4, _, upd_same, ?_⟩
    rw [take_more hq, List.map_append]
    exact (hr2.mono fun _ _ x => (x.keeps s10.keeps).keeps kk).snoc ⟨p', rfl, ⟨hp1, hp2⟩, by rw [upd_ne hp2]; exact e10⟩
  rintro H8 ⟨s8, rs2, e8, hr8⟩
  rw [hu7.len, List.take_length] at hr8
  have hr8l := hr8.len
  rw [List.length_map, RF.pre_len] at hr8l
  have erp8 := s8 _ _ erp
  refine ⟨rp, D4, _, _, rfl, rfl, erp8, e8, by rw [sizeLine_eq]; show 1 + _ ≤ _; omega, ?_⟩
  have kr : Keeps (fun l => l ≠ rp) H8 (upd H8 rp (.lst ([V.ref l3] ++ rs2))) := keeps_own erp8 fun z => z rfl
  have hrows : All2 (LstAt (fun l => l ≠ rp) (upd H8 rp (.lst ([V.ref l3] ++ rs2)))) ([V.ref l3] ++ rs2) ((Str.ofString "facts" :: xs) :: (f.pre 0).map fun q => wordsN q.1 q.2) :=
    .cons (LstAt.keeps (N := fun l => l ≠ rp) ⟨l3, rfl, n3r, s8 _ _ m37⟩ kr) (hr8.mono fun _ _ ⟨l, e, n, h⟩ => LstAt.keeps (N := fun l => l ≠ rp) ⟨l, e, n.1, h⟩ kr)
  have s78 := s37.trans s8
  have s9 : Same H3 (upd H8 rp (.lst ([V.ref l3] ++ rs2))) := s78.put f3r
  have erp9 : (upd H8 rp (.lst ([V.ref l3] ++ rs2))) rp = some (.lst ([V.ref l3] ++ rs2)) := upd_same
  generalize upd H8 rp (.lst ([V.ref l3] ++ rs2)) = H9 at hrows s9 erp9 ⊢
  have ho9 := s9 _ _ ho3
  refine ⟨_, rfl, .inl ⟨rfl, _, sqL_of erp9⟩, _, rfl, o, dx, _, rfl, ho9, o, dx, _, _, rfl, ho9, rfl, (by show 2 ≤ sizeLine; decide), fun l5 n5 => ?_⟩
  have s10 : Same H9 (upd H9 l5 (.lst [.str "else", .str rl])) := (Same.refl H9).put n5
  have m5 : (upd H9 l5 (.lst [.str "else", .str rl])) l5 = some (.lst ([Str.ofString "else", rl].map V.str)) := upd_same
  have n5r : l5 ≠ rp := fun z => by rw [z, erp9] at n5; cases n5
  have erp10 := s10 _ _ erp9
  generalize upd H9 l5 (.lst [.str "else", .str rl]) = H10 at s10 m5 erp10 ⊢
  refine ⟨rp, _, _, rfl, rfl, erp10, small1000 (by show rs2.length + 1 ≤ 1000; omega), ?_⟩
  have kr2 : Keeps (fun l => l ≠ rp) H10 (upd H10 rp (.lst ([V.ref l3] ++ rs2 ++ [.ref l5]))) := keeps_own erp10 fun z => z rfl
  have hrows2 : All2 (LstAt (fun l => l ≠ rp) (upd H10 rp (.lst ([V.ref l3] ++ rs2 ++ [.ref l5])))) ([V.ref l3] ++ rs2 ++ [.ref l5]) (rowsB xs (f.pre 0) rl) :=
    (hrows.mono fun _ _ x => (x.keeps s10.keeps).keeps kr2).snoc (LstAt.keeps (N := fun l => l ≠ rp) ⟨l5, rfl, n5r, m5⟩ kr2)
  have s11 : Same H3 (upd H10 rp (.lst ([V.ref l3] ++ rs2 ++ [.ref l5]))) := (s9.trans s10).put f3r
  have erp11 : (upd H10 rp (.lst ([V.ref l3] ++ rs2 ++ [.ref l5]))) rp = some (.lst ([V.ref l3] ++ rs2 ++ [.ref l5])) := upd_same
  generalize upd H10 rp (.lst ([V.ref l3] ++ rs2 ++ [.ref l5])) = H11 at hrows2 s11 erp11 ⊢
  have hlen := hrows2.len
  have hrok : ∀ ws ∈ rowsB xs (f.pre 0) rl, RowOk ws := fun ws hw => by
    rcases List.mem_append.mp hw with hw | hw
    · rcases List.mem_cons.mp hw with rfl | hw
      · refine ⟨by rw [List.length_cons]; omega, fun x hx => ?_⟩
        rcases List.mem_cons.mp hx with rfl | hx
        · decide
        · exact name_len (hxn x hx)
      · obtain ⟨q', hq', rfl⟩ := List.mem_map.mp hw
        have := pre_dep f 0 _ hq'
        exact wordsN_ok (RF.every_pre hev _ hq') (by omega)
    · rw [List.mem_singleton.mp hw]
      refine ⟨(by show 2 ≤ 200; decide), fun x hx => ?_⟩
      rcases List.mem_cons.mp hx with rfl | hx
      · decide
      · rw [List.mem_singleton.mp hx]
        exact name_len hrl
  have hbl : (rowsB xs (f.pre 0) rl).length ≤ 62 := by
    unfold rowsB
    rw [List.length_append, List.length_cons, List.length_map, RF.pre_len]
    show f.size + 1 + 1 ≤ 62
    omega
  refine ⟨⟨_, rfl⟩, _, rfl, rp, rfl, ⟨_, sqL_of erp11⟩, fun D6 nD6 => lc_it walk_list (fun i H' => Same H11 H' ∧ H' D6 = some (.lst ((((rowsB xs (f.pre 0) rl).take i).map (Txt.join spc)).map V.str))) ⟨(Same.refl H11).put nD6, upd_same⟩ (fun _ _ _ h => sqL_of (h.1 _ _ erp11)) ?_ ?_⟩
  · rintro i y H12 H13 hi ⟨s, e⟩ ⟨rfl, hy⟩
    obtain ⟨ws', hw', l, rfl, nl', hl'⟩ := hrows2.get hy
    have hl' := s _ _ hl'
    have rok := hrok _ (List.mem_of_getElem? hw')
    have h2 : (ws'.map (·.length)).sum ≤ ws'.length * 8 := sum_le rok.2
    have h3 := rok.1
    refine ⟨rfl, yes_ ⟨⟨_, rfl⟩, _, rfl, spc, l, ws', rfl, rfl, .inl (sqL_of hl'), ?_, ?_⟩⟩
    · have e : spc.length = 1 := rfl
      rw [e]
      omega
    refine grow (acc := fun i => (((rowsB xs (f.pre 0) rl).take i).map (Txt.join spc)).map V.str) nD6 s e ?_ ?_
    · rw [List.length_map, List.length_map, List.length_take]
      exact small1000 (by omega)
    · show List.map V.str (List.map _ _) = _
      rw [take_more hw', List.map_append, List.map_append]
      rfl
  rintro H12 ⟨s12, e12⟩
  rw [hlen, List.take_length] at e12
  have h4 : (((rowsB xs (f.pre 0) rl).map (Txt.join spc)).map (·.length)).sum ≤ ((rowsB xs (f.pre 0) rl).map (Txt.join spc)).length * 1800 := sum_le fun x hx => by
    obtain ⟨ws', hw', rfl⟩ := List.mem_map.mp hx
    exact rowText_len (hrok _ hw')
  rw [List.length_map] at h4
  refine ⟨lf, D6, (rowsB xs (f.pre 0) rl).map (Txt.join spc), rfl, rfl, .inl (sqL_of e12), ?_, ?_⟩
  · have e : lf.length = 1 := rfl
    rw [e, List.length_map]
    omega
  · exact q H12 (s03.trans (s11.trans s12))
end
end Sc
namespace SetS
open PySem PySem.Spec PyProof.Rows L2
/-! ### sets of texts -/
def txt (e : Int × Value) : Str := match e.2 with | .str x _ => x | _ => ⟨#[]⟩
/-- an entry of a set of texts -/
def Ent (P : Program) (w : World) (e : Int × Value) : Prop := ∃ x t, e.2 = Value.str x t ∧ e.1 = (strKind P w).hash x
/-- the set at a has the texts zs, in some order -/
def TxtSet (P : Program) (w : World) (h : Heap) (a : Addr) (zs : List Str) : Prop :=
  ∃ o es ep t, (h.get? a = some o ∧ o.ExactSet ∧ o.data = .set es ep t) ∧ ((∀ e ∈ es.toList, Ent P w e) ∧ es.toList.map txt = zs ∧ zs.Nodup) ∧
    (es.size < scanBound ∧ t.fits es.size = true ∧ Ris t.place.toList ∧ (w.params.followText "set-order" = true ∨ t.led = true))
section
variable {P : Program} {w : World} {A : Around} {E : Value → Shared → Prop} {s : Shared} {h h' : Heap} {a : Addr} {zs : List Str}
theorem TxtSet.kept (R : TxtSet P w h a zs) (k : ∀ o, h.get? a = some o → h'.get? a = some o) : TxtSet P w h' a zs := by
  obtain ⟨o, es, ep, t, ⟨ho, q⟩, r⟩ := R
  exact ⟨o, es, ep, t, ⟨k o ho, q⟩, r⟩
theorem ent_is {e : Int × Value} (g : Ent P w e) (x : Str) : (strKind P w).is x e.2 = true ↔ txt e = x := by
  obtain ⟨y, t, e1, _⟩ := g
  unfold txt
  rw [e1]
  constructor
  · intro q
    obtain ⟨u, q⟩ := Value.isStrOf_shape (show Value.isStrOf x (Value.str y t) = true from q)
    cases q
    rfl
  · rintro rfl
    exact strKind_is P w y t
theorem ent_elems {l : List (Int × Value)} (g : ∀ e ∈ l, Ent P w e) : ElemsOf (strKind P w) l := fun e he => by
  obtain ⟨x, t, h1, h2⟩ := g e he
  refine ⟨⟨x, ?_, h2⟩, ?_⟩
  · rw [h1]; exact strKind_is P w x t
  · rw [h1]; rfl
theorem mem_txt {l : List (Int × Value)} (g : ∀ e ∈ l, Ent P w e) (x : Str) : x ∈ l.map txt ↔ ∃ e ∈ l, (strKind P w).is x e.2 = true := by
  rw [List.mem_map]
  exact ⟨fun ⟨e, he, q⟩ => ⟨e, he, (ent_is (g e he) x).mpr q⟩, fun ⟨e, he, q⟩ => ⟨e, he, (ent_is (g e he) x).mp q⟩⟩
/-- the rows are laid, and all anew where the table is too full -/
theorem lay {gv : Bool → Sem Unit} (hg : ∀ (b : Bool) (s₁ : Shared) (Q' : Unit → Shared → Prop), Q' () s₁ → wpAny (model P w) A (gv b) Q' E s₁)
    {o : Obj} {es : Array (Int × Value)} {ep : Nat} {t : SetTable} (ho : s.heap.get? a = some o) (hex : o.ExactSet) (hd : o.data = .set es ep t)
    {es1 : Array (Int × Value)} {t2 : SetTable} (g1 : ∀ e ∈ es1.toList, Ent P w e) (nd1 : (es1.toList.map txt).Nodup) (hb1 : es1.size < scanBound) (hf2 : t2.fits es1.size = true) (hr : Ris t2.place.toList)
    (hl : w.params.followText "set-order" = true ∨ t2.led = true) {wd : Bool} {R : Option Bool → Shared → Prop}
    (hR : ∀ h' zs', Heap.SameBut a s.heap h' → TxtSet P w h' a zs' → zs'.Perm (es1.toList.map txt) → R (some true) { s with heap := h' }) :
    wpAny (model P w) A (do
        storeSet a es1 t2
        if (!wd && t2.tooFull) = true then do
            gv (relayAll t2 es1 (SetTable.grown es1.size)).2.2
            storeSet a (relayAll t2 es1 (SetTable.grown es1.size)).1 (relayAll t2 es1 (SetTable.grown es1.size)).2.1
            pure (some true)
          else pure (some true)) R E s := by
  have o1 := store_at (es' := es1) (t' := t2) ho hd
  have b1 := Heap.SameBut.update s.heap a (Obj.putSet es1 t2)
  refine wpAny_bind (wpAny_storeSet_of ho hd ?_ (fits_of_scanBound hb1))
  split
  · have p3 := relayAll_perm t2 es1 (SetTable.grown es1.size)
    have f3 := relayAll_fits t2 es1 (SetTable.grown es1.size)
    have r3 := relayAll_ris t2 es1 (SetTable.grown es1.size)
    have l3 := relayAll_led t2 es1 (SetTable.grown es1.size)
    rcases hz : relayAll t2 es1 (SetTable.grown es1.size) with ⟨es2, t3, gave⟩
    rw [hz] at p3 f3 r3 l3
    dsimp only at p3 f3 r3 l3 ⊢
    have z3 : es2.size < scanBound := by rw [← Array.length_toList, p3.length_eq, Array.length_toList]; exact hb1
    refine wpAny_bind (hg _ _ _ (wpAny_bind (wpAny_storeSet_of o1 rfl ?_ (fits_of_scanBound z3))))
    refine wpAny_pure (hR _ _ (b1.trans (Heap.SameBut.update _ a _)) ⟨_, es2, _, t3, ⟨store_at (es' := es2) (t' := t3) o1 rfl, hex, rfl⟩, ⟨fun e he => g1 e (p3.mem_iff.mp he), rfl, (p3.map txt).nodup_iff.mpr nd1⟩, z3, f3, r3, hl.imp id fun z => by rw [l3]; exact z⟩ (p3.map txt))
  · exact wpAny_pure (hR _ _ b1 ⟨_, es1, _, t2, ⟨o1, hex, rfl⟩, ⟨g1, rfl, nd1⟩, hb1, hf2, hr, hl⟩ (List.Perm.refl _))
/-- a text is put in -/
theorem add {x : Str} {tk : Tok} {Q : Bool → Shared → Prop} (R : TxtSet P w s.heap a zs) (room : zs.length + 1 < scanBound)
    (hQ : ∀ b h' zs', Heap.SameBut a s.heap h' → TxtSet P w h' a zs' → (∀ y, y ∈ zs' ↔ y ∈ zs ∨ y = x) → zs'.length ≤ zs.length + 1 → Q b { s with heap := h' }) :
    wpAny (model P w) A (setAddHashed a (.str x tk) ((strKind P w).hash x)) Q E s := by
  obtain ⟨o, es, ep, t, ⟨ho, hex, hd⟩, ⟨g, rfl, nd⟩, hb, hf, hr, hl⟩ := R
  have hk : (strKind P w).is x (.str x tk) = true := strKind_is P w x tk
  have hc : (Value.str x tk).scannable = true := rfl
  have el : ElemsOf (strKind P w) es.toList := ent_elems g
  unfold setAddHashed setAddHashedIn
  refine wpAny_holding (wpAny_bind (wpAny_setState_of ho hd hf ?_))
  dsimp only
  rw [byScan_of hc hb el]
  simp only [↓reduceIte]
  unfold setAddByScan
  refine wpAny_bind (wpAny_bind (wpAny_rule (wpAny_bind (wpAny_setScan_of hk ho hd hf el ?_))))
  cases hfi : List.findIdx? (fun e => (strKind P w).is x e.2) es.toList with
  | some j =>
    obtain ⟨hj, pj, _⟩ := List.findIdx?_eq_some_iff_getElem.mp hfi
    have hx : x ∈ es.toList.map txt := (mem_txt g x).mpr ⟨_, List.getElem_mem hj, pj⟩
    dsimp only
    exact wpAny_pure (wpAny_pure (hQ _ s.heap _ (Heap.SameBut.refl a s.heap) ⟨o, es, ep, t, ⟨ho, hex, hd⟩, ⟨g, rfl, nd⟩, hb, hf, hr, hl⟩ (fun y => ⟨.inl, fun z => z.elim id fun e => e ▸ hx⟩) (Nat.le_succ _)))
  | none =>
    have nx : x ∉ es.toList.map txt := fun z => by
      obtain ⟨e, he, q⟩ := (mem_txt g x).mp z
      have c := List.findIdx?_eq_none_iff.mp hfi e he
      rw [q] at c
      cases c
    have gw : ∀ (b : Bool) {s₁ : Shared} {Q' : Unit → Shared → Prop}, Q' () s₁ → wpAny (model P w) A (match b with | true => rule "set.scan.the-table-gave-way" | false => pure ()) Q' E s₁ := by
      intro b s₁ Q' q
      cases b
      · exact wpAny_pure q
      · exact wpAny_rule q
    have p1 := layNew_perm t es ((strKind P w).hash x) (.str x tk)
    have f1 := layNew_fits t es ((strKind P w).hash x) (.str x tk)
    have r1 := layNew_ris t es ((strKind P w).hash x) (.str x tk) hr
    have l1 := layNew_led t es ((strKind P w).hash x) (.str x tk)
    dsimp only
    rcases hz : layNew t es ((strKind P w).hash x) (.str x tk) with ⟨es1, t1, wd, gave⟩
    rw [hz] at p1 f1 r1 l1
    dsimp only at p1 f1 r1 l1 ⊢
    rw [Array.toList_push] at p1
    have p2 : es1.toList.Perm (((strKind P w).hash x, Value.str x tk) :: es.toList) := p1.trans (List.perm_append_singleton _ _)
    have p3 : (es1.toList.map txt).Perm (x :: es.toList.map txt) := p2.map txt
    have g1 : ∀ e ∈ es1.toList, Ent P w e := fun e he => by
      rcases List.mem_cons.mp (p2.mem_iff.mp he) with z | z
      · rw [z]; exact ⟨x, tk, rfl, rfl⟩
      · exact g e z
    have nd1 : (es1.toList.map txt).Nodup := p3.nodup_iff.mpr (List.nodup_cons.mpr ⟨nx, nd⟩)
    have hb1 : es1.size < scanBound := by
      have e1 := p2.length_eq
      rw [Array.length_toList, List.length_cons] at e1
      rw [List.length_map] at room
      omega
    have hl1 : w.params.followText "set-order" = true ∨ t1.led = true := hl.imp id fun z => by rw [l1]; exact z
    have fin : ∀ b h' zs', Heap.SameBut a s.heap h' → TxtSet P w h' a zs' → zs'.Perm (es1.toList.map txt) → Q b { s with heap := h' } := fun b h' zs' sb r p => by
      have p := p.trans p3
      refine hQ b h' zs' sb r (fun y => ?_) (Nat.le_of_eq p.length_eq)
      rw [p.mem_iff, List.mem_cons]
      exact Or.comm
    refine wpAny_bind (gw _ ?_)
    split
    · refine wpAny_bind ?_
      rw [hashByValue_scannable 8 hc]
      refine wpAny_pure (lay ?_ ho hex hd g1 nd1 hb1 ?_ ?_ ?_ ?_)
      · intro b s₁ Q' q
        cases b
        · exact wpAny_pure q
        · exact wpAny_rule q
      · first | (split <;> first | exact f1 | exact SetTable.fits_plain_off f1) | exact f1
      · first | (split <;> exact r1) | exact r1
      · first | (split <;> exact hl1) | exact hl1
      · exact fun h' zs' sb r p => wpAny_pure (fin _ h' zs' sb r p)
    · refine wpAny_bind (wpAny_pure ?_)
      simp only [↓reduceIte]
      refine lay ?_ ho hex hd g1 nd1 hb1 f1 r1 hl1 ?_
      · intro b s₁ Q' q
        cases b
        · exact wpAny_pure q
        · exact wpAny_rule q
      · exact fun h' zs' sb r p => wpAny_pure (fin _ h' zs' sb r p)

theorem fresh {h : Heap} (ho : h.get? a = some { cls := .type "set", dict := none, data := .set #[] 0 (.fresh 0 0 (!w.params.followText "set-order")) }) : TxtSet P w h a [] := by
  refine ⟨_, #[], 0, _, ⟨ho, ⟨rfl, rfl, rfl⟩, rfl⟩, ⟨(fun e he => by simp at he), rfl, List.nodup_nil⟩, by decide, rfl, List.Pairwise.nil, ?_⟩
  show _ ∨ (!w.params.followText "set-order") = true
  cases w.params.followText "set-order"
  · exact .inr rfl
  · exact .inl rfl
/-- what has been met of the texts is in the set -/
def Met (ss : List Str) (i : Nat) (zs : List Str) : Prop := (∀ y, y ∈ zs ↔ y ∈ ss.take i) ∧ zs.length ≤ i
theorem update {I : Addr} {fp wr : List Addr} {G : Array GenState → Array GenState → Prop} {n : Nat} {Pv : Nat → Value → Prop} {St : Nat → Shared → Prop} {R : Result → Shared → Prop}
    (W : WalksS P w A.in1 I fp wr G n Pv St) (S : Addr) (hS : S ∉ fp) (ss : List Str) (hn : n = ss.length) (hb : ss.length + 1 < scanBound) (hv : ∀ i v, Pv i v → ∃ x t, ss[i]? = some x ∧ v = .str x t)
    (fin : ∀ (s0 s' : Shared) zs, Moved (S :: wr) G s0 s' → TxtSet P w s'.heap S zs → Met ss n zs → s0 = s → R (.ok (.ret .none)) s') :
    ∀ (k i : Nat) (s1 : Shared), n - i = k → i ≤ n → St i s1 → (∃ zs, TxtSet P w s1.heap S zs ∧ Met ss i zs) → (∀ s', Moved (S :: wr) G s1 s' → Moved (S :: wr) G s s') →
      codeAny (model P w) A (.builtin "set.update.loop" ⟨[.ref S, .ref I], []⟩) R s1 := by
  have out : S ∉ wr := fun z => hS (W.sub _ z)
  have more : ∀ b ∈ wr, b ∈ S :: wr := fun b z => List.mem_cons_of_mem _ z
  intro k
  induction k with
  | zero =>
    intro i s1 hk hi hst ⟨zs, hz, m⟩ gone
    obtain rfl : i = n := by omega
    refine codeAny_builtin F.entry_set_update_loop ?_
    rw [Around.under_plainId F.plain_set_update_loop _]
    show wpAny _ A.in1 (pyNext (.ref I) >>= _) _ _ s1
    refine wpAny_bind (W.done s1 _ _ hst fun s2 mv => ?_)
    show wpAny _ A.in1 (ret Value.none) _ _ s2
    exact wpAny_pure (fin s s2 zs (gone s2 (mv.mono more)) (hz.kept fun o e => mv.heap S o out e) m rfl)
  | succ k ih =>
    intro i s1 hk hi hst ⟨zs, hz, m⟩ gone
    have lt : i < n := by omega
    refine codeAny_builtin F.entry_set_update_loop ?_
    rw [Around.under_plainId F.plain_set_update_loop _]
    show wpAny _ A.in1 (pyNext (.ref I) >>= _) _ _ s1
    refine wpAny_bind (W.item i s1 _ _ lt hst fun v s2 hp hst2 mv => ?_)
    obtain ⟨x, t, hx, rfl⟩ := hv i v hp
    have hz2 := hz.kept (h' := s2.heap) fun o e => mv.heap S o out e
    show wpAny _ A.in1 (holding [Value.str x t] (setAdd S (.str x t)) >>= _) _ _ s2
    refine wpAny_bind (wpAny_holding ?_)
    unfold setAdd
    refine wpAny_holding (wpAny_bind ((strKind P w).pyHash (k := x) (strKind_is P w x t) ?_))
    have ml := m.2
    refine add (s := { s2 with toks := s2.toks + 1 }) hz2 (by omega) fun b h3 zs3 sb hz3 mem len => ?_
    have m3 : Met ss (i + 1) zs3 := by
      refine ⟨fun y => ?_, by omega⟩
      rw [mem, m.1, List.take_add_one, hx, List.mem_append]
      simp
    have mv3 : Moved (S :: wr) G s1 { s2 with heap := h3, toks := s2.toks + 1 } := (mv.mono more).then_heap (Nat.le_succ _) fun b o hb e => by
      rw [sb.2 b fun z => hb (by rw [z]; exact List.mem_cons_self)]
      exact e
    refine wpAny_pure ⟨plainId_quiet F.plain_set_update_loop _, ih (i + 1) _ (by omega) lt (W.frame _ s2 _ _ hst2 (Nat.le_succ _) fun b hb o e => ?_) ⟨zs3, hz3, m3⟩ fun s' h => gone s' (Moved.trans W.gtrans mv3 h)⟩
    rw [sb.2 b fun z => hS (by rw [← z]; exact hb)]
    exact e

/-- an empty set's object -/
abbrev emp (w : World) : Obj := { cls := .type "set", dict := none, data := .set #[] 0 (.fresh 0 0 (!w.params.followText "set-order")) }
set_option maxRecDepth 100000 in
set_option maxHeartbeats 3200000 in
/-- set(x): the set is made, and filled by its __init__ -/
theorem made {x : Value} {Z : Shared → Prop} {Q : Value → Shared → Prop}
    (hi : wpAny (model P w) A.in1.in1 (Builtin.«set.__init__» ⟨[.ref s.heap.objs.size, x], []⟩)
      (fun fin s' => match fin with | .done f => wants (fun r s₂ => r = .none ∧ Z s₂) E (.ok f) s' | .again c' => c'.quiet = true ∧ codeAny (model P w) A.in1 c' (wants (fun r s₂ => r = .none ∧ Z s₂) E) s')
      (fun e s' => wants (fun r s₂ => r = .none ∧ Z s₂) E (.error e) s') { s with heap := s.heap.push (emp w) })
    (hq : ∀ s₂, Z s₂ → Q (.ref s.heap.objs.size) s₂) : wpAny (model P w) A (call (.type "set") [x]) Q E s := by
  have cf := F.called_set
  obtain ⟨c, tl, mro⟩ := cf.mro
  have q1 := cf.made
  have q2 := cf.sub
  have q3 := cf.notType
  have q4 := cf.canCreate
  have q5 := F.typeCall_set_1 x
  have q6 := cf.init.lookup
  have q7 := cf.init.bind (.ref s.heap.objs.size)
  refine wpAny_call (codeAny_of_tree ?_)
  show wpAny _ _ (callAny (.type "set") _) _ _ _
  refine wpAny_pure ⟨Code.quiet_builtin _ (by decide +kernel), codeAny_builtin F.entry_type_call ?_⟩
  rw [Around.under_plain (weight_type_call_type "set" [x] []) rfl]
  repeat (any_goals (first | assumption | wp_step))
  have new := code_set_led1 (P := P) (w := w) (A := A.in1) (s := s) (E := E) x (Q₁ := fun obj s₁ => obj = .ref s.heap.objs.size ∧ s₁ = { s with heap := s.heap.push (emp w) }) ⟨rfl, rfl⟩
  refine codeAny_mono new fun r s₁ hr => ?_
  rcases r with e | fl
  · exact hr
  rcases fl with _ | obj | _ | _
  all_goals first | exact hr.elim | skip
  obtain ⟨rfl, rfl⟩ := hr
  have isS : Shared.TypeIs { s with heap := s.heap.push (emp w) } (.ref s.heap.objs.size) "set" := ⟨_, Heap.get?_push_size _ rfl, rfl⟩
  repeat (any_goals (first | assumption | wp_step))
  refine codeAny_mono (codeAny_call_builtin (R := wants (fun r s₂ => r = .none ∧ Z s₂) E) cf.init.plain F.entry_set_init (check_set_init_1 isS hi)) fun r₂ s₂ hr₂ => ?_
  rcases r₂ with e | fl₂
  · exact hr₂
  rcases fl₂ with _ | r | _ | _
  all_goals first | exact hr₂.elim | skip
  obtain ⟨rfl, z⟩ := hr₂
  repeat (any_goals (first | assumption | wp_step))
  exact hq _ z

theorem strs_at : ∀ {vs : List Value} {ss : List Str}, StrsAre vs ss → ∀ (i : Nat) (v : Value), vs[i]? = some v → ∃ x t, ss[i]? = some x ∧ v = .str x t
  | _, _, .cons y t r, 0, v, e => ⟨y, t, rfl, (Option.some.inj e).symm⟩
  | _, _, .cons y t r, i + 1, v, e => strs_at r i v e

set_option maxRecDepth 100000 in
set_option maxHeartbeats 3200000 in
/-- set(xs), xs a tuple of texts -/
theorem of_tuple {l : Addr} {items : Array Value} {ss : List Str} {Q : Value → Shared → Prop} (hh : A.handled = none) (hl : s.heap.IsTuple l items) (hit : StrsAre items.toList ss) (hb : ss.length + 1 < scanBound)
    (hq : ∀ (h' : Heap) (tk : Nat) zs, TxtSet P w h' s.heap.objs.size zs → Met ss ss.length zs → (∀ b o, s.heap.get? b = some o → h'.get? b = some o) → Q (.ref s.heap.objs.size) { s with heap := h', toks := tk }) :
    wpAny (model P w) A (call (.type "set") [.ref l]) Q E s := by
  have hn : items.size = ss.length := by
    have q := StrsAre.length hit
    rw [Array.length_toList] at q
    exact q
  refine made (Z := fun s₂ => ∃ h' tk zs, s₂ = { s with heap := h', toks := tk } ∧ TxtSet P w h' s.heap.objs.size zs ∧ Met ss ss.length zs ∧ ∀ b o, s.heap.get? b = some o → h'.get? b = some o) ?_ fun s₂ hz => ?_
  · obtain ⟨ol, hol, hc, nl, hd⟩ := hl
    obtain ⟨ocl, odi, oda, osl⟩ := ol
    simp only at hc hd
    subst hc
    subst hd
    have S0 : (s.heap.push (emp w)).get? s.heap.objs.size = some (emp w) := Heap.get?_push_size _ rfl
    have isS : Shared.TypeIs { s with heap := s.heap.push (emp w) } (.ref s.heap.objs.size) "set" := ⟨_, S0, rfl⟩
    have hol' : (s.heap.push (emp w)).get? l = some { cls := .type "tuple", dict := odi, data := .seq items nl, slots := osl } := Heap.get?_push_of_some _ hol
    have n1 := F.sub_tuple_set
    have n2 := F.sub_tuple_frozenset
    have n3 : (Value.type "tuple" == Value.type "dict") = false := by decide
    have hl1 : (s.heap.push (emp w)).IsTuple l items := ⟨_, hol', rfl, nl, rfl⟩
    unfold Builtin.«set.__init__» noKeywords Builtin.Frozenset.updateFrom
    generalize hPI : pyIter = PI
    wp_walk
    subst hPI
    refine wpAny_pyIter_tuple hl1 (wpAny_bind (wpAny_runValue ?_))
    have lt0 : l < s.heap.objs.size := Heap.lt_size hol
    have hh3 : A.in1.in1.in1.handled = none := by simp [hh]
    have nI : l ≠ (s.heap.push (emp w)).objs.size := by
      rw [Heap.size_push]
      exact Nat.ne_of_lt (Nat.lt_succ_of_lt lt0)
    have nS : s.heap.objs.size ∉ [(s.heap.push (emp w)).objs.size, l] := by
      rw [Heap.size_push]
      simp only [List.mem_cons, List.not_mem_nil, or_false, not_or]
      exact ⟨Nat.ne_of_lt (Nat.lt_succ_self _), Nat.ne_of_gt lt0⟩
    have hv : ∀ (i : Nat) (v : Value), items[i]? = some v → ∃ x t, ss[i]? = some x ∧ v = .str x t := fun i v e => by
      rw [← Array.getElem?_toList] at e
      exact strs_at hit i v e
    refine update (s := { s with heap := (s.heap.push (emp w)).push { cls := .type "tuple_iterator", data := .fields #[.ref l, .int 0 0] } }) ((Walks.tuple hh3 _ l nI items).toS) s.heap.objs.size nS ss hn hb hv
      (fun s0 s' zs mv hz m e0 => ?_) (items.size - 0) 0 _ (by omega) (Nat.zero_le _) ⟨⟨_, Heap.get?_push_size _ rfl, rfl, rfl⟩, hl1.push _⟩ ⟨[], fresh (Heap.get?_push_of_some _ S0), fun y => (by simp), Nat.le_refl 0⟩ (fun _ z => z)
    subst e0
    obtain ⟨h', g2, d', tk', os'⟩ := s'
    obtain rfl : g2 = s.gens := mv.gens
    obtain rfl : d' = s.drawn := mv.drawn
    obtain rfl : os' = s.os := mv.os
    show wpAny _ _ _ _ _ _
    refine wpAny_pure ?_
    show wpAny _ _ (ret Value.none) _ _ _
    rw [hn] at m
    refine wpAny_pure ⟨rfl, h', tk', zs, rfl, hz, m, fun b o e => ?_⟩
    have lb : b < s.heap.objs.size := Heap.lt_size e
    refine mv.heap b o ?_ (Heap.get?_push_of_some _ (Heap.get?_push_of_some _ e))
    simp only [List.mem_cons, List.not_mem_nil, or_false, not_or]
    refine ⟨Nat.ne_of_lt lb, ?_⟩
    rw [Heap.size_push]
    exact Nat.ne_of_lt (Nat.lt_succ_of_lt lb)
  · obtain ⟨h', tk, zs, rfl, hz, m, k⟩ := hz
    exact hq h' tk zs hz m k

set_option maxRecDepth 100000 in
set_option maxHeartbeats 3200000 in
/-- set(xs), xs a list of texts -/
theorem of_list {l : Addr} {items : Array Value} {ss : List Str} {Q : Value → Shared → Prop} (hh : A.handled = none) (hl : s.heap.IsList l items) (hit : StrsAre items.toList ss) (hb : ss.length + 1 < scanBound)
    (hq : ∀ (h' : Heap) (tk : Nat) zs, TxtSet P w h' s.heap.objs.size zs → Met ss ss.length zs → (∀ b o, s.heap.get? b = some o → h'.get? b = some o) → Q (.ref s.heap.objs.size) { s with heap := h', toks := tk }) :
    wpAny (model P w) A (call (.type "set") [.ref l]) Q E s := by
  have hn : items.size = ss.length := by
    have q := StrsAre.length hit
    rw [Array.length_toList] at q
    exact q
  refine made (Z := fun s₂ => ∃ h' tk zs, s₂ = { s with heap := h', toks := tk } ∧ TxtSet P w h' s.heap.objs.size zs ∧ Met ss ss.length zs ∧ ∀ b o, s.heap.get? b = some o → h'.get? b = some o) ?_ fun s₂ hz => ?_
  · obtain ⟨ol, hol, hc, nl, hd⟩ := hl
    obtain ⟨ocl, odi, oda, osl⟩ := ol
    simp only at hc hd
    subst hc
    subst hd
    have S0 : (s.heap.push (emp w)).get? s.heap.objs.size = some (emp w) := Heap.get?_push_size _ rfl
    have isS : Shared.TypeIs { s with heap := s.heap.push (emp w) } (.ref s.heap.objs.size) "set" := ⟨_, S0, rfl⟩
    have hol' : (s.heap.push (emp w)).get? l = some { cls := .type "list", dict := odi, data := .seq items nl, slots := osl } := Heap.get?_push_of_some _ hol
    have n1 := F.sub_list_set
    have n2 := F.sub_list_frozenset
    have n3 : (Value.type "list" == Value.type "dict") = false := by decide
    have hl1 : (s.heap.push (emp w)).IsList l items := ⟨_, hol', rfl, nl, rfl⟩
    unfold Builtin.«set.__init__» noKeywords Builtin.Frozenset.updateFrom
    generalize hPI : pyIter = PI
    wp_walk
    subst hPI
    refine wpAny_pyIter_list hl1 (wpAny_bind (wpAny_runValue ?_))
    have lt0 : l < s.heap.objs.size := Heap.lt_size hol
    have hh3 : A.in1.in1.in1.handled = none := by simp [hh]
    have nI : l ≠ (s.heap.push (emp w)).objs.size := by
      rw [Heap.size_push]
      exact Nat.ne_of_lt (Nat.lt_succ_of_lt lt0)
    have nS : s.heap.objs.size ∉ [(s.heap.push (emp w)).objs.size, l] := by
      rw [Heap.size_push]
      simp only [List.mem_cons, List.not_mem_nil, or_false, not_or]
      exact ⟨Nat.ne_of_lt (Nat.lt_succ_self _), Nat.ne_of_gt lt0⟩
    have hv : ∀ (i : Nat) (v : Value), items[i]? = some v → ∃ x t, ss[i]? = some x ∧ v = .str x t := fun i v e => by
      rw [← Array.getElem?_toList] at e
      exact strs_at hit i v e
    refine update (s := { s with heap := (s.heap.push (emp w)).push { cls := .type "list_iterator", data := .fields #[.ref l, .int 0 0] } }) ((Walks.list hh3 _ l nI items).toS) s.heap.objs.size nS ss hn hb hv
      (fun s0 s' zs mv hz m e0 => ?_) (items.size - 0) 0 _ (by omega) (Nat.zero_le _) ⟨⟨_, Heap.get?_push_size _ rfl, rfl, rfl⟩, hl1.push _⟩ ⟨[], fresh (Heap.get?_push_of_some _ S0), fun y => (by simp), Nat.le_refl 0⟩ (fun _ z => z)
    subst e0
    obtain ⟨h', g2, d', tk', os'⟩ := s'
    obtain rfl : g2 = s.gens := mv.gens
    obtain rfl : d' = s.drawn := mv.drawn
    obtain rfl : os' = s.os := mv.os
    show wpAny _ _ _ _ _ _
    refine wpAny_pure ?_
    show wpAny _ _ (ret Value.none) _ _ _
    rw [hn] at m
    refine wpAny_pure ⟨rfl, h', tk', zs, rfl, hz, m, fun b o e => ?_⟩
    have lb : b < s.heap.objs.size := Heap.lt_size e
    refine mv.heap b o ?_ (Heap.get?_push_of_some _ (Heap.get?_push_of_some _ e))
    simp only [List.mem_cons, List.not_mem_nil, or_false, not_or]
    refine ⟨Nat.ne_of_lt lb, ?_⟩
    rw [Heap.size_push]
    exact Nat.ne_of_lt (Nat.lt_succ_of_lt lb)
  · obtain ⟨h', tk, zs, rfl, hz, m, k⟩ := hz
    exact hq h' tk zs hz m k
end
end SetS
namespace Sc
open PySem PySem.Spec PyProof.Rows L2
abbrev s_Words___init__ : Stmt := (inClass (topS 40) 0)
theorem sc_Words___init__ : FnScope ["self", "row", "text"] ["self", "row", "text"] (defScope s_Words___init__) := ⟨rfl, rfl, rfl, by decide +kernel, rfl, by decide +kernel, by decide +kernel⟩
abbrev s_Words_ahead : Stmt := (inClass (topS 40) 1)
theorem sc_Words_ahead : FnScope ["self"] ["self"] (defScope s_Words_ahead) := ⟨rfl, rfl, rfl, by decide +kernel, rfl, by decide +kernel, by decide +kernel⟩
abbrev s_Words_check : Stmt := (inClass (topS 40) 2)
theorem sc_Words_check : FnScope ["self", "right"] ["self", "right"] (defScope s_Words_check) := ⟨rfl, rfl, rfl, by decide +kernel, rfl, by decide +kernel, by decide +kernel⟩
abbrev s_Words_take : Stmt := (inClass (topS 40) 3)
theorem sc_Words_take : FnScope ["self", "right"] ["self", "right"] (defScope s_Words_take) := ⟨rfl, rfl, rfl, by decide +kernel, rfl, by decide +kernel, by decide +kernel⟩
abbrev s_Words_check_end : Stmt := (inClass (topS 40) 5)
theorem sc_Words_check_end : FnScope ["self"] ["self"] (defScope s_Words_check_end) := ⟨rfl, rfl, rfl, by decide +kernel, rfl, by decide +kernel, by decide +kernel⟩
abbrev s_is_free_name : Stmt := topS 56
theorem sc_is_free_name : FnScope ["word"] ["word"] (defScope s_is_free_name) := ⟨rfl, rfl, rfl, by decide +kernel, rfl, by decide +kernel, by decide +kernel⟩
abbrev s_read_ending : Stmt := topS 51
theorem sc_read_ending : FnScope ["words", "ruling"] ["words"] (defScope s_read_ending) := ⟨rfl, rfl, rfl, by decide +kernel, rfl, by decide +kernel, by decide +kernel⟩
abbrev s_read_facts : Stmt := topS 50
theorem sc_read_facts : FnScope ["words", "facts", "fact", "right"] ["words"] (defScope s_read_facts) := ⟨rfl, rfl, rfl, by decide +kernel, rfl, by decide +kernel, by decide +kernel⟩
/-! ### own methods -/
structure MethR (P : Program) (w : World) (K : PySem.W.Frag) (mg : Str → Option Value) (base : Heap) (k : Nat) (C : Addr) (m : Str) (ps : List Str) (sp : Sp) : Prop where
  ex : ∃ (g : Addr) (fd : FuncData), Meth K C m g ∧ FnOk P w K mg base CX0 k g fd ps sp ∧ Binds K fd ps []
section
variable {X : Cx} {k : Nat} {C : Addr} {m : Str} {ps : List Str} {sp : Sp} {e o : Expr} {es : List Expr} {ta : TE} {t : TA} {pos apos : Pos}
theorem pe_me {pl : Sem Bool} (T : Cls X.K C) (M : MethR X.prog X.w X.K X.mg X.base k C m ps sp) (hr : Room k X.A) (he : PE X o ta) (ha : PA X (e :: es) t)
    (hst : starEach (e :: es) X.env = (false, eval e X.env) :: starEach es X.env := by rfl) (hpl : (backTo pos (starEach es X.env)).any (·.1) = false := by rfl)
    (ht : eval (.Call (.Attribute o m apos) (e :: es) [] pos) X.env = (do
      let ov ← eval o X.env
      standAt apos.atName
      let (f, first) ← holding [ov] (getMethod ov m pl)
      callWith pos f first (backTo pos (starEach (e :: es) X.env)) (backToKw pos (keywordEach [] X.env))) := by rfl) : PE X (.Call (.Attribute o m apos) (e :: es) [] pos) (tMeth C m sp [] E0 ta t) := by
  obtain ⟨g, fd, h1, F, hb⟩ := M.ex
  exact pe_meth he T h1 F hr hb .nil pass0 ha hst hpl ht
theorem pe_me0 {pl : Sem Bool} (T : Cls X.K C) (M : MethR X.prog X.w X.K X.mg X.base k C m ps sp) (hr : Room k X.A) (he : PE X o ta)
    (ht : eval (.Call (.Attribute o m apos) [] [] pos) X.env = (do
      let ov ← eval o X.env
      standAt apos.atName
      let (f, first) ← holding [ov] (getMethod ov m pl)
      callWith pos f first (backTo pos (starEach [] X.env)) (backToKw pos (keywordEach [] X.env))) := by rfl) : PE X (.Call (.Attribute o m apos) [] [] pos) (tMeth C m sp [] E0 ta tNil) := by
  obtain ⟨g, fd, h1, F, hb⟩ := M.ex
  exact pe_meth0 he T h1 F hr hb .nil pass0 ht
end
/-! ### the words of a row -/
def wdF (row : Int) (ll : Addr) (at_ : Nat) : List (Str × V) := putF "at" (.int (at_ : Nat)) (putF "left" (.ref ll) (putF "row" (.int row) []))
def WdAt (WD : Addr) (o : Addr) (H : Hp) (ws : List Str) (at_ : Nat) : Prop := ∃ (dx ll : Addr) (row : Int), H o = some (.ins WD dx (wdF row ll at_)) ∧ H ll = some (.lst (ws.map V.str)) ∧ ws.length ≤ 900
section
variable {WD o : Addr} {H H' H'' : Hp} {ws : List Str} {at_ : Nat}
theorem SameX.tr {x : Addr} (s : SameX x H H') (t : SameX x H' H'') : SameX x H H'' := fun b ob n e => t b ob n (s b ob n e)
theorem _root_.L2.Same.sx {x : Addr} (s : Same H H') : SameX x H H' := fun b ob _ e => s b ob e
theorem SameX.put0 {x D : Addr} {y : HO} (s : SameX x H H') (n : H D = none) : SameX x H (upd H' D y) := fun b ob nb e => by rw [upd_ne (ne_of_none e n)]; exact s b ob nb e
theorem SameX.free0 {x D : Addr} (s : SameX x H H') (n : H' D = none) (nx : D ≠ x) : H D = none := by
  cases h : H D with
  | none => rfl
  | some ob => rw [s D ob nx h] at n; cases n
theorem WdAt.same (s : Same H H') (h : WdAt WD o H ws at_) : WdAt WD o H' ws at_ := by
  obtain ⟨dx, ll, row, h1, h2, h3⟩ := h
  exact ⟨dx, ll, row, s _ _ h1, s _ _ h2, h3⟩
theorem WdAt.ne (h : WdAt WD o H ws at_) {D : Addr} (n : H D = none) : D ≠ o := by
  obtain ⟨dx, ll, row, h1, _⟩ := h
  exact fun z => by rw [z, h1] at n; cases n
theorem WdAt.keeps {N : Addr → Prop} (h : WdAt WD o H ws at_) (s : SameX o H H') : Keeps N H H' := fun b ob st e => by
  by_cases z : b = o
  · subst z
    obtain ⟨dx, ll, row, h1, _⟩ := h
    rw [h1] at e
    cases e
    exact absurd ((show DoneF (wdF row ll at_) = false from rfl).symm.trans (st.2.1 _ _ _ rfl)) (by decide)
  · exact s b ob z e
end
section
variable {P : Program} {w : World} {K : PySem.W.Frag} {mg : Str → Option Value} {base : Heap} {C R WD : Addr}
def sp_winit (WD : Addr) : Sp := fun vs H Q _ => ∃ (o dx : Addr) (row : Int) (ws : List Str), vs = [.ref o, .int row, .str (Txt.join spc ws)] ∧ H o = some (.ins WD dx []) ∧ ws ≠ [] ∧ (∀ x ∈ ws, ¬ 32 ∈ TL.tl x) ∧ ws.length ≤ 900 ∧ (Txt.join spc ws).length ≤ 100000 ∧ ∀ H', WdAt WD o H' ws 0 → SameX o H H' → Q .non H'
theorem ok_winit {f : Addr} {fd : FuncData} (F : Fun K "__init__" "Words.__init__" s_Words___init__ f fd) (B : Blt mg) (T : Cls K WD) (n1 : NoAttr K WD "row") (n2 : NoAttr K WD "left") (n3 : NoAttr K WD "at") : FnOk P w K mg base CX0 1 f fd ["self", "row", "text"] (sp_winit WD) := by
  refine F.ok sc_Words___init__ (fun vs H Q E h => by obtain ⟨o, dx, row, ws, rfl, _⟩ := h; rfl) (fun cdv A outer s H vs Q E hr h => ?_)
  obtain ⟨o, dx, row, ws, rfl, ho, hne, hsp, hl, hjl, q⟩ := h
  refine ⟨_, (pss_cons (ps_fld (pv 0) (pv 1) rfl)
      (pss_cons (ps_fld (pv 0) (pe_split (pv 2) pe_str) rfl)
      (pss_one (ps_fld (pv 0) pe_int rfl)))), ?_⟩
  refine ⟨_, rfl, _, rfl, o, WD, dx, [], rfl, ho, T, n1, (by show 0 < 1000; decide), ?_⟩
  have so : SameX o H (upd H o (.ins WD dx (putF "row" (.int row) []))) := fun b ob n e => by rw [upd_ne n]; exact e
  have ho1 : (upd H o (.ins WD dx (putF "row" (.int row) []))) o = some (.ins WD dx (putF "row" (.int row) [])) := upd_same
  generalize upd H o (.ins WD dx (putF "row" (.int row) [])) = H1 at so ho1 ⊢
  have hsplit : Txt.split (Txt.join spc ws) (Str.ofString " ") = ws := TL.split_join (s := 32) (S := []) rfl (by decide +kernel) hne hsp
  refine ⟨_, rfl, ⟨_, rfl⟩, _, _, rfl, rfl, rfl, by rw [sizeLine_eq]; omega, fun ll nll => ?_⟩
  rw [hsplit]
  have l1 : ll ≠ o := fun z => by rw [z, ho1] at nll; cases nll
  refine ⟨_, rfl, o, WD, dx, _, rfl, by rw [upd_ne l1.symm]; exact ho1, T, n2, (by show 1 < 1000; decide), ?_⟩
  refine ⟨_, rfl, o, WD, dx, _, rfl, upd_same, T, n3, (by show 2 < 1000; decide), ?_⟩
  refine q _ ⟨dx, ll, row, upd_same, by rw [upd_ne l1, upd_ne l1]; exact upd_same, hl⟩ fun b ob n e => ?_
  rw [upd_ne n, upd_ne n, upd_ne (fun z => by have := so b ob n e; rw [z, nll] at this; cases this)]
  exact so b ob n e
theorem vsT {o : Addr} {b : Bool} (h : b = true) : V.ref o :: ([V.bl b] ++ []) = [V.ref o, .bl true] := by rw [h]; rfl
def optV : Option Str → V
  | some x => .str x
  | none => .non
def sp_ahead (WD : Addr) : Sp := fun vs H Q _ => ∃ (o : Addr) (ws : List Str) (at_ : Nat), vs = [.ref o] ∧ WdAt WD o H ws at_ ∧ Q (optV ws[at_]?) H
theorem ok_ahead {f : Addr} {fd : FuncData} (F : Fun K "ahead" "Words.ahead" s_Words_ahead f fd) (B : Blt mg) (T : Cls K WD) (n2 : NoAttr K WD "left") (n3 : NoAttr K WD "at") : FnOk P w K mg base CX0 1 f fd ["self"] (sp_ahead WD) := by
  refine F.ok sc_Words_ahead (fun vs H Q E h => by obtain ⟨o, ws, at_, rfl, _⟩ := h; rfl) (fun cdv A outer s H vs Q E hr h => ?_)
  obtain ⟨o, ws, at_, rfl, ⟨dx, ll, row, ho, hll, hl⟩, q⟩ := h
  refine ⟨_, (pss_one (ps_ret (pe_ifExp (pt_cmpR op_lt (pe_fld (pv 0) rfl) (pe_callB call_len_seq (by rfl) B.b_len PySem.boot_len (pa_cons (pe_fld (pv 0) rfl) pa_nil)) (nomark _)) (pe_ix ix_list (pe_fld (pv 0) rfl) (pe_fld (pv 0) rfl) (fun _ _ => rfl)) pe_non))), ?_⟩
  refine ⟨_, rfl, o, WD, dx, _, _, rfl, ho, T, n3, rfl, _, rfl, o, WD, dx, _, _, rfl, ho, T, n2, rfl, ll, _, rfl, .inl (sqL_of hll), _, _, rfl, rfl, _, rfl, bcase (fun c => ?_) (fun c => ?_)⟩
  · have c : at_ < ws.length := by have := of_decide_eq_true c; rw [List.length_map] at this; omega
    rw [List.getElem?_eq_getElem c] at q
    refine ⟨_, rfl, o, WD, dx, _, _, rfl, ho, T, n2, rfl, _, rfl, o, WD, dx, _, _, rfl, ho, T, n3, rfl, ll, _, _, _, rfl, rfl, sqL_of hll, atI_nat (j := at_) (by rw [List.getElem?_map, List.getElem?_eq_getElem c]; rfl), q⟩
  · have c : ws.length ≤ at_ := by have := of_decide_eq_false c; rw [List.length_map] at this; omega
    rw [List.getElem?_eq_none c] at q
    exact q
def sp_wcheck (WD : Addr) : Sp := fun vs H Q _ => ∃ (o : Addr) (ws : List Str) (at_ : Nat), vs = [.ref o, .bl true] ∧ WdAt WD o H ws at_ ∧ Q .non H
theorem ok_wcheck {f : Addr} {fd : FuncData} (F : Fun K "check" "Words.check" s_Words_check f fd) (B : Blt mg) : FnOk P w K mg base CX0 1 f fd ["self", "right"] (sp_wcheck WD) := by
  refine F.ok sc_Words_check (fun vs H Q E h => by obtain ⟨o, ws, at_, rfl, _⟩ := h; rfl) (fun cdv A outer s H vs Q E hr h => ?_)
  obtain ⟨o, ws, at_, rfl, hW, q⟩ := h
  refine ⟨_, (pss_one (ps_if (pt_not (pt_val (pv 1))) pss_never pss_nil)), ?_⟩
  exact ⟨_, rfl, _, rfl, iteF q⟩
def sp_wtake (WD : Addr) : Sp := fun vs H Q _ => ∃ (o : Addr) (ws : List Str) (at_ : Nat) (x : Str), vs = [.ref o, .bl true] ∧ WdAt WD o H ws at_ ∧ ws[at_]? = some x ∧ ∀ H', WdAt WD o H' ws (at_ + 1) → SameX o H H' → Q (.str x) H'
theorem ok_wtake {f : Addr} {fd : FuncData} (F : Fun K "take" "Words.take" s_Words_take f fd) (B : Blt mg) (CLw : Cls K WD) (n2 : NoAttr K WD "left") (n3 : NoAttr K WD "at") (mw_check : MethR P w K mg base 1 WD "check" ["self", "right"] (sp_wcheck WD)) : FnOk P w K mg base CX0 2 f fd ["self", "right"] (sp_wtake WD) := by
  refine F.ok sc_Words_take (fun vs H Q E h => by obtain ⟨o, ws, at_, x, rfl, _⟩ := h; rfl) (fun cdv A outer s H vs Q E hr h => ?_)
  obtain ⟨o, ws, at_, x, rfl, hW, hx, q⟩ := h
  obtain ⟨dx, ll, row, ho, hll, hl⟩ := id hW
  refine ⟨_, (pss_cons (ps_expr (pe_me CLw mw_check (hr.mono (by decide)) (pv 0) (pa_cons (pv 1) pa_nil)))
      (pss_cons (ps_fldaug (pv 0) pe_int iop_add)
      (pss_one (ps_ret (pe_ix ix_list (pe_fld (pv 0) rfl) (pe_op op_sub (pe_fld (pv 0) rfl) pe_int) (fun _ _ => rfl)))))), ?_⟩
  refine ⟨_, rfl, o, dx, _, rfl, ho, rfl, _, rfl, o, ws, at_, rfl, hW, ?_⟩
  refine ⟨_, rfl, o, WD, dx, _, _, rfl, ho, CLw, n3, rfl, _, 1, rfl, rfl, dx, _, ho, (by show 3 < 1000; decide), ?_⟩
  have hlo : ll ≠ o := fun z => by rw [z, ho] at hll; cases hll
  have ho2 : (upd H o (.ins WD dx (putF "at" (.int ((at_ : Int) + 1)) (wdF row ll at_)))) o = some (.ins WD dx (wdF row ll (at_ + 1))) := by rw [upd_same]; rfl
  have hll2 : (upd H o (.ins WD dx (putF "at" (.int ((at_ : Int) + 1)) (wdF row ll at_)))) ll = some (.lst (ws.map V.str)) := by rw [upd_ne hlo]; exact hll
  have so : SameX o H (upd H o (.ins WD dx (putF "at" (.int ((at_ : Int) + 1)) (wdF row ll at_)))) := fun b ob n e => by rw [upd_ne n]; exact e
  generalize upd H o (.ins WD dx (putF "at" (.int ((at_ : Int) + 1)) (wdF row ll at_))) = H2 at ho2 hll2 so ⊢
  refine ⟨_, rfl, o, WD, dx, _, _, rfl, ho2, CLw, n2, rfl, _, rfl, o, WD, dx, _, _, rfl, ho2, CLw, n3, rfl, _, 1, rfl, rfl, ll, _, _, _, rfl, rfl, sqL_of hll2, ?_, q H2 ⟨dx, ll, row, ho2, hll2, hl⟩ so⟩
  have e : (((at_ + 1 : Nat) : Int) - 1) = ((at_ : Nat) : Int) := by omega
  rw [e]
  exact atI_nat (j := at_) (by rw [List.getElem?_map, hx]; rfl)
def sp_wend (WD : Addr) : Sp := fun vs H Q _ => ∃ (o : Addr) (ws : List Str), vs = [.ref o] ∧ WdAt WD o H ws ws.length ∧ Q .non H
theorem ok_wend {f : Addr} {fd : FuncData} (F : Fun K "check_end" "Words.check_end" s_Words_check_end f fd) (B : Blt mg) (CLw : Cls K WD) (mw_ahead : MethR P w K mg base 1 WD "ahead" ["self"] (sp_ahead WD)) (mw_check : MethR P w K mg base 1 WD "check" ["self", "right"] (sp_wcheck WD)) : FnOk P w K mg base CX0 2 f fd ["self"] (sp_wend WD) := by
  refine F.ok sc_Words_check_end (fun vs H Q E h => by obtain ⟨o, ws, rfl, _⟩ := h; rfl) (fun cdv A outer s H vs Q E hr h => ?_)
  obtain ⟨o, ws, rfl, hW, q⟩ := h
  obtain ⟨dx, ll, row, ho, hll, hl⟩ := id hW
  refine ⟨_, (pss_one (ps_expr (pe_me CLw mw_check (hr.mono (by decide)) (pv 0) (pa_cons (pe_cmpR op_isN (pe_me0 CLw mw_ahead (hr.mono (by decide)) (pv 0)) pe_non (nomark _)) pa_nil)))), ?_⟩
  refine ⟨_, rfl, o, dx, _, rfl, ho, rfl, _, rfl, o, dx, _, rfl, ho, rfl, o, ws, ws.length, rfl, hW, ?_⟩
  rw [List.getElem?_eq_none (Nat.le_refl _)]
  exact ⟨rfl, o, ws, ws.length, rfl, hW, q⟩
def sp_free : Sp := fun vs H Q _ => ∃ (x : Str), vs = [.str x] ∧ isName x = true ∧ ¬ x ∈ reserved ∧ ∀ H', Same H H' → Q (.bl true) H'
theorem ok_free {f : Addr} {fd : FuncData} {rsA : Addr} (F : Fun K "is_free_name" "is_free_name" s_is_free_name f fd) (B : Blt mg) (m_RESERVED : mg "RESERVED" = some (.ref rsA)) (hRS : ∀ H, SqT K H rsA (reserved.map V.str)) (c_is_name : Cal P w K mg base CX0 1 "is_name" ["value"] sp_is_name) : FnOk P w K mg base CX0 2 f fd ["word"] sp_free := by
  refine F.ok sc_is_free_name (fun vs H Q E h => by obtain ⟨x, rfl, _⟩ := h; rfl) (fun cdv A outer s H vs Q E hr h => ?_)
  obtain ⟨x, rfl, hx, hr0, q⟩ := h
  refine ⟨_, (pss_one (ps_ret (pe_and (pe_cal c_is_name (hr.mono (by decide)) (pa_cons (pv 0) pa_nil)) (pe_one (pe_cmpR op_notIn_seq (pv 0) (pe_glob (v := .ref rsA) rfl m_RESERVED rfl) rfl))))), ?_⟩
  have hl := name_len hx
  refine ⟨_, rfl, x, rfl, by rw [sizeLine_eq]; omega, fun H1 s1 => ?_⟩
  rw [hx]
  refine ⟨true, rfl, ?_⟩
  refine iteT ?_
  refine ⟨_, rfl, rsA, _, rfl, .inr (hRS H1), rfl, flat_strs reserved, ?_⟩
  rw [inV_str, decide_eq_false hr0]
  exact q H1 s1
def sp_risesL : Sp := fun vs H Q _ => ∃ (a : Addr) (xs : List Str) (i : Nat), vs = [.ref a, .int (i : Nat)] ∧ H a = some (.lst (xs.map V.str)) ∧ i < xs.length ∧ Q (.bl (risesAt xs i)) H
theorem ok_risesL {f : Addr} {fd : FuncData} (F : Fun K "rises" "rises" s_rises f fd) : FnOk P w K mg base CX0 1 f fd ["names", "index"] sp_risesL := by
  refine F.ok sc_rises (fun vs H Q E h => by obtain ⟨a, xs, i, rfl, _⟩ := h; rfl) (fun cdv A outer s H vs Q E hr h => ?_)
  obtain ⟨a, xs, i, rfl, hS, hi, q⟩ := h
  refine ⟨_, (pss_one (ps_ret (pe_or (pe_cmpR op_eq (pv 1) pe_int (nomark _)) (pe_one (pe_cmpR op_lt_str (pe_ix ix_list (pv 0) (pe_op op_sub (pv 1) pe_int) (fun _ _ => rfl)) (pe_ix ix_list (pv 0) (pv 1) (fun _ _ => rfl)) (nomark _)))))), ?_⟩
  refine ⟨_, rfl, rfl, _, rfl, bcase (fun e => ?_) (fun e => ?_)⟩
  · have e0 : i = 0 := by have := V.int.inj (of_decide_eq_true e); omega
    have er : risesAt xs i = true := by unfold risesAt; rw [decide_eq_true e0, Bool.true_or]
    rw [er] at q
    exact q
  · have e0 : i ≠ 0 := fun z => by subst z; exact Bool.noConfusion (e.symm.trans (decide_eq_true rfl))
    have h1 : i - 1 < xs.length := by omega
    have g1 : (xs.map V.str)[i - 1]? = some (.str xs[i - 1]) := by rw [List.getElem?_map, List.getElem?_eq_getElem h1]; rfl
    have g2 : (xs.map V.str)[i]? = some (.str xs[i]) := by rw [List.getElem?_map, List.getElem?_eq_getElem hi]; rfl
    refine ⟨.ref a, rfl, .int i, rfl, i, 1, rfl, rfl, a, _, _, _, rfl, rfl, sqL_of hS, at_of (j := i - 1) (by omega) g1, .ref a, rfl, .int i, rfl, a, _, _, _, rfl, rfl, sqL_of hS, at_of rfl g2, xs[i - 1], xs[i], rfl, rfl, ?_⟩
    have er : risesAt xs i = decide (xs[i - 1].cps.toList < xs[i].cps.toList) := by
      unfold risesAt
      rw [decide_eq_false e0, Bool.false_or, List.getElem?_eq_getElem h1, List.getElem?_eq_getElem hi]
    rw [← er]
    exact q
def sp_rend (WD : Addr) : Sp := fun vs H Q _ => ∃ (o : Addr) (rl : Str), vs = [.ref o] ∧ WdAt WD o H ["else", rl] 0 ∧ isName rl = true ∧ ¬ rl ∈ reserved ∧ ∀ H', SameX o H H' → Q (.str rl) H'
theorem ok_rend {f : Addr} {fd : FuncData} (F : Fun K "read_ending" "read_ending" s_read_ending f fd) (B : Blt mg) (CLw : Cls K WD) (mw_ahead : MethR P w K mg base 1 WD "ahead" ["self"] (sp_ahead WD)) (mw_take : MethR P w K mg base 2 WD "take" ["self", "right"] (sp_wtake WD)) (mw_check_end : MethR P w K mg base 2 WD "check_end" ["self"] (sp_wend WD)) (c_is_free_name : Cal P w K mg base CX0 2 "is_free_name" ["word"] sp_free) :
    FnOk P w K mg base CX0 3 f fd ["words"] (sp_rend WD) := by
  refine F.ok sc_read_ending (fun vs H Q E h => by obtain ⟨o, rl, rfl, _⟩ := h; rfl) (fun cdv A outer s H vs Q E hr h => ?_)
  obtain ⟨o, rl, rfl, hW, hn, hre, q⟩ := h
  refine ⟨_, (pss_cons (ps_expr (pe_me CLw mw_take (hr.mono (by decide)) (pv 0) (pa_cons (pe_cmpR op_eq (pe_me0 CLw mw_ahead (hr.mono (by decide)) (pv 0)) pe_str (nomark _)) pa_nil)))
      (pss_cons (ps_set (i := 1) sc_read_ending.nd rfl (Or.inl rfl) (pe_me CLw mw_take (hr.mono (by decide)) (pv 0) (pa_cons (pe_cal c_is_free_name (hr.mono (by decide)) (pa_cons (pe_me0 CLw mw_ahead (hr.mono (by decide)) (pv 0)) pa_nil)) pa_nil)))
      (pss_cons (ps_expr (pe_me0 CLw mw_check_end (hr.mono (by decide)) (pv 0)))
      (pss_one (ps_ret (pv 1)))))), ?_⟩
  obtain ⟨dx, ll, row, ho, _⟩ := id hW
  refine ⟨_, rfl, o, dx, _, rfl, ho, rfl, _, rfl, o, dx, _, rfl, ho, rfl, o, _, 0, rfl, hW, rfl, o, _, 0, Str.ofString "else", (vsT (decide_eq_true rfl)), hW, rfl, fun H1 W1 s1 => ?_⟩
  obtain ⟨dx1, ll1, row1, ho1, _⟩ := id W1
  refine ⟨_, rfl, o, dx1, _, rfl, ho1, rfl, _, rfl, o, dx1, _, rfl, ho1, rfl, o, _, 1, rfl, W1, rl, rfl, hn, hre, fun H2 s2 => ?_⟩
  have W2 := W1.same s2
  refine ⟨o, _, 1, rl, rfl, W2, rfl, fun H3 W3 s3 => ?_⟩
  obtain ⟨dx3, ll3, row3, ho3, _⟩ := id W3
  refine ⟨_, rfl, o, dx3, _, rfl, ho3, rfl, o, _, rfl, W3, _, rfl, q H3 (s1.tr (s2.sx.tr s3))⟩
/-- the facts in the first row -/
def sp_rfacts (K : PySem.W.Frag) (WD : Addr) : Sp := fun vs H Q _ => ∃ (o : Addr) (xs : List Str), vs = [.ref o] ∧ WdAt WD o H ("facts" :: xs) 0 ∧ Right xs ∧ xs ≠ [] ∧ xs.length ≤ 60 ∧ (∀ x ∈ xs, ¬ x ∈ reserved) ∧ ∀ H' p, SameX o H H' → SqT K H' p (xs.map V.str) → Q (.ref p) H'
theorem ok_rfacts {f : Addr} {fd : FuncData} {t1 : Tok} (F : Fun K "read_facts" "read_facts" s_read_facts f fd) (B : Blt mg) (CLw : Cls K WD) (m_MOST_FACTS : mg "MOST_FACTS" = some (.int 60 t1)) (mw_ahead : MethR P w K mg base 1 WD "ahead" ["self"] (sp_ahead WD)) (mw_take : MethR P w K mg base 2 WD "take" ["self", "right"] (sp_wtake WD)) (c_is_free_name : Cal P w K mg base CX0 2 "is_free_name" ["word"] sp_free) (c_rises : Cal P w K mg base CX0 1 "rises" ["names", "index"] sp_risesL) :
    FnOk P w K mg base CX0 3 f fd ["words"] (sp_rfacts K WD) := by
  refine F.ok sc_read_facts (fun vs H Q E h => by obtain ⟨o, xs, rfl, _⟩ := h; rfl) (fun cdv A outer s H vs Q E hr h => ?_)
  obtain ⟨o, xs, rfl, hW, hx, hx0, hx60, hre, q⟩ := h
  refine ⟨_, (pss_cons (ps_expr (pe_me CLw mw_take (hr.mono (by decide)) (pv 0) (pa_cons (pe_cmpR op_eq (pe_me0 CLw mw_ahead (hr.mono (by decide)) (pv 0)) pe_str (nomark _)) pa_nil)))
      (pss_cons (ps_set (i := 1) sc_read_facts.nd rfl (Or.inl rfl) (pe_lst pa_nil))
      (pss_cons (ps_while PassesOwn.never (PW.pt (pw_or (pt_not (pt_tru (pv 1) (by intro _; rfl))) (pw_or1 (pt_cmpR op_notN (pe_me0 CLw mw_ahead (hr.mono (by decide)) (pv 0)) pe_non (nomark _))))) (pss_cons (ps_set (i := 2) sc_read_facts.nd rfl (Or.inl rfl) (pe_me0 CLw mw_ahead (hr.mono (by decide)) (pv 0)))
      (pss_cons (ps_set (i := 3) sc_read_facts.nd rfl (Or.inl rfl) (pe_and (pe_cal c_is_free_name (hr.mono (by decide)) (pa_cons (pv 2) pa_nil)) (pe_and (pe_cal c_rises (hr.mono (by decide)) (pa_cons (pe_op op_cat (pv 1) (pe_lst (pa_cons (pv 2) pa_nil))) (pa_cons (pe_callB call_len_seq (by rfl) B.b_len PySem.boot_len (pa_cons (pv 1) pa_nil)) pa_nil))) (pe_one (pe_cmpR op_lt (pe_callB call_len_seq (by rfl) B.b_len PySem.boot_len (pa_cons (pv 1) pa_nil)) (pe_glob (v := .int 60) rfl m_MOST_FACTS ⟨_, rfl⟩) (nomark _))))))
      (pss_one (ps_expr (pe_bm PySem.F.plainAttrs_list PySem.F.slot_list_append PySem.F.type_list_append mt_append (pv 1) (pa_cons (pe_me CLw mw_take (hr.mono (by decide)) (pv 0) (pa_cons (pv 3) pa_nil)) pa_nil)))))))
      (pss_one (ps_ret (pe_callTy call_tuple_of (by rfl) B.b_tuple PyProof.Rows.boot_tuple (pa_cons (pv 1) pa_nil))))))), ?_⟩
  have hpos : 0 < xs.length := List.length_pos_iff.mpr hx0
  obtain ⟨dx, ll, row, ho, _⟩ := id hW
  refine ⟨_, rfl, o, dx, _, rfl, ho, rfl, _, rfl, o, dx, _, rfl, ho, rfl, o, _, 0, rfl, hW, rfl, o, _, 0, Str.ofString "facts", (vsT (decide_eq_true rfl)), hW, rfl, fun H1 W1 s1 => ?_⟩
  refine ⟨Nat.zero_le _, fun D nD => ?_⟩
  have nDo := W1.ne nD
  refine ⟨fun m σ H' => ∃ (i : Nat) (y2 y3 : Option V), m = xs.length - i ∧ i ≤ xs.length ∧ σ = [some (.ref o), some (.ref D), y2, y3] ∧ SameX o H1 H' ∧ H' D = some (.lst ((xs.take i).map V.str)) ∧ WdAt WD o H' ("facts" :: xs) (i + 1),
    ⟨_, 0, _, _, rfl, Nat.zero_le _, rfl, (Same.refl H1).sx.put0 nD, upd_same, W1.same ((Same.refl H1).put nD)⟩, ?_⟩
  rintro m σ H2 ⟨i, y2, y3, rfl, hi, rfl, s2, e2, W2⟩
  obtain ⟨dx2, ll2, row2, ho2, _⟩ := id W2
  have hlen : ((xs.take i).map V.str).length = i := by rw [List.length_map, List.length_take]; omega
  by_cases hi' : i < xs.length
  · have hxi : xs[i]? = some xs[i] := List.getElem?_eq_getElem hi'
    have hah : optV ((Str.ofString "facts" :: xs)[i + 1]?) = .str xs[i] := by rw [List.getElem?_cons_succ, hxi]; rfl
    have key : ∀ T : Bool → Hp → Prop, T true H2 → (tOr (tNot (tTru K (tVar 1))) (tTest (tOp (fun x y H Q => y = V.non ∧ Q (V.bl !decide (x = V.non)) H) (tMeth WD (Str.ofString "ahead") (sp_ahead WD) [] E0 (tVar 0) tNil) (tC V.non)))) [some (.ref o), some (.ref D), y2, y3] H2 T := by
      intro T hT
      refine ⟨_, rfl, _, .inl ⟨_, sqL_of e2, rfl⟩, ?_⟩
      cases i with
      | zero => exact iteT hT
      | succ i =>
        have hne : (!!((xs.take (i + 1)).map V.str).isEmpty) = false := by
          cases xs with
          | nil => exact absurd rfl hx0
          | cons x r => rfl
        rw [hne]
        refine iteF ⟨_, rfl, o, dx2, _, rfl, ho2, rfl, o, _, _, rfl, W2, ?_⟩
        rw [hah]
        exact ⟨rfl, _, rfl, hT⟩
    refine key _ (iteT ?_)
    have hmem := List.getElem_mem hi'
    refine ⟨fun σ' H' => ∃ (y2 y3 : Option V), σ' = [some (.ref o), some (.ref D), y2, y3] ∧ SameX o H1 H' ∧ H' D = some (.lst ((xs.take (i + 1)).map V.str)) ∧ WdAt WD o H' ("facts" :: xs) (i + 1 + 1), fun σ' H' ⟨y2, y3, e, h⟩ => ⟨_, (by omega), i + 1, y2, y3, rfl, hi', e, h⟩, ?_⟩
    refine ⟨_, rfl, o, dx2, _, rfl, ho2, rfl, o, _, _, rfl, W2, ?_⟩
    rw [hah]
    refine ⟨_, rfl, xs[i], rfl, hx.nm _ hmem, hre _ hmem, fun H3 s3 => ⟨true, rfl, iteT ?_⟩⟩
    refine ⟨_, rfl, _, rfl, (by show 1 ≤ sizeLine; decide), fun d nd => ?_⟩
    have s4 : Same H3 (upd H3 d (.lst [.str xs[i]])) := (Same.refl H3).put nd
    have m4 : (upd H3 d (.lst [.str xs[i]])) d = some (.lst [.str xs[i]]) := upd_same
    generalize upd H3 d (.lst [.str xs[i]]) = H4 at s4 m4 ⊢
    have s34 := s3.trans s4
    refine ⟨D, d, _, _, rfl, rfl, s34 _ _ e2, m4, by rw [sizeLine_eq, hlen]; show i + 1 ≤ _; omega, fun d5 nd5 => ?_⟩
    have s5 : Same H4 (upd H4 d5 (.lst ((xs.take i).map V.str ++ [.str xs[i]]))) := (Same.refl H4).put nd5
    have m5 : (upd H4 d5 (.lst ((xs.take i).map V.str ++ [.str xs[i]]))) d5 = some (.lst ((xs.take (i + 1)).map V.str)) := by rw [upd_same, take_more hxi, List.map_append]; rfl
    generalize upd H4 d5 (.lst ((xs.take i).map V.str ++ [.str xs[i]])) = H5 at s5 m5 ⊢
    have s25 := s34.trans s5
    refine ⟨_, rfl, D, _, rfl, .inl (sqL_of (s25 _ _ e2)), ?_⟩
    rw [hlen]
    refine ⟨d5, xs.take (i + 1), i, rfl, m5, by rw [List.length_take]; omega, ?_⟩
    rw [rises_pw (hx.up.sublist (List.take_sublist _ _)) (by rw [List.length_take]; omega)]
    refine ⟨true, rfl, iteT ?_⟩
    refine ⟨_, rfl, D, _, rfl, .inl (sqL_of (s25 _ _ e2)), _, 60, rfl, rfl, ?_⟩
    rw [hlen]
    have W5 := W2.same s25
    obtain ⟨dx5, ll5, row5, ho5, _⟩ := id W5
    have e5 := s25 _ _ e2
    refine ⟨_, rfl, .inl ⟨rfl, _, sqL_of e5⟩, _, rfl, o, dx5, _, rfl, ho5, rfl, _, rfl, o, _, i + 1, xs[i], vsT (decide_eq_true (by omega)), W5, by rw [List.getElem?_cons_succ, hxi], fun H6 W6 s6 => ?_⟩
    have e6 := s6 _ _ nDo e5
    have nDH1 : H1 D = none := nD
    refine ⟨D, _, _, rfl, rfl, e6, small1000 (by rw [hlen]; omega), _, _, rfl, ((s2.tr s25.sx).tr s6).put0 nDH1, ?_, ?_⟩
    · rw [upd_same, take_more hxi, List.map_append]
      rfl
    · obtain ⟨dx6, ll6, row6, ho6, hll6, hl6⟩ := W6
      exact ⟨dx6, ll6, row6, by rw [upd_ne nDo.symm]; exact ho6, by rw [upd_ne (fun z => by subst z; rw [e6] at hll6; have := congrArg (fun o => match o with | some (HO.lst l) => l.length | _ => 0) hll6; simp only [hlen] at this; simp at this; omega)]; exact hll6, hl6⟩
  · have hi2 : i = xs.length := by omega
    subst hi2
    have hah : optV ((Str.ofString "facts" :: xs)[xs.length + 1]?) = .non := by rw [List.getElem?_cons_succ, List.getElem?_eq_none (Nat.le_refl _)]; rfl
    rw [List.take_length] at e2
    refine ⟨_, rfl, true, .inl ⟨_, sqL_of e2, (by cases xs with | nil => exact absurd rfl hx0 | cons _ _ => rfl)⟩, ?_⟩
    refine iteF ⟨_, rfl, o, dx2, _, rfl, ho2, rfl, o, _, _, rfl, W2, ?_⟩
    rw [hah]
    refine ⟨rfl, _, rfl, iteF ?_⟩
    refine ⟨_, rfl, D, _, rfl, .inl ⟨sqL_of e2, fun t nt => ?_⟩⟩
    exact q _ t (s1.tr (s2.tr ((Same.refl H2).put nt).sx)) sqT_new
end
end Sc
namespace Sc
open PySem PySem.Spec PyProof.Rows L2
abbrev s_read_part : Stmt := topS 54
theorem sc_read_part : FnScope ["words", "word", "facts", "taken", "found", "fact", "known", "right"] ["words", "word", "facts", "taken"] (defScope s_read_part) := ⟨rfl, rfl, rfl, by decide +kernel, rfl, by decide +kernel, by decide +kernel⟩
abbrev s_read_signs : Stmt := topS 53
theorem sc_read_signs : FnScope ["words", "before", "most", "around"] ["words", "before"] (defScope s_read_signs) := ⟨rfl, rfl, rfl, by decide +kernel, rfl, by decide +kernel, by decide +kernel⟩
section
variable {P : Program} {w : World} {K : PySem.W.Frag} {mg : Str → Option Value} {base : Heap} {C R WD : Addr}
/-- what stands behind a part -/
structure PartOk (wd : Str) (xs ts hs rest : List Str) : Prop where
  r0 : hs = [] → rest[0]? ≠ some wd
  r1 : rest = [] ∨ rest[0]? = some (Str.ofString "not")
  up : hs.Pairwise SLt
  nm : ∀ x ∈ hs, isName x = true
  fa : ∀ x ∈ hs, x ∈ xs
  tk : ∀ x ∈ hs, ¬ x ∈ ts
  rs : ∀ x ∈ hs, ¬ x ∈ reserved
  l8 : ts.length + hs.length ≤ 8
theorem inN {x n : Str} : inV (.str x) [V.non, .str n] = decide (x = n) := by
  have e : inV (.str x) [V.non, .str n] = (eqV V.non (.str x) || inV (.str x) ([n].map V.str)) := rfl
  rw [e, inV_str]
  show (false || decide (x ∈ [n])) = _
  simp
theorem inNn {n : Str} : inV .non [V.non, .str n] = true := rfl
def sp_rpart (K : PySem.W.Frag) (WD : Addr) : Sp := fun vs H Q _ => ∃ (o a tk : Addr) (ws : List Str) (at_ : Nat) (xs ts hs rest : List Str) (wd : Str), vs = [.ref o, .str wd, .ref a, .ref tk] ∧ WdAt WD o H ws at_ ∧ SqT K H a (xs.map V.str) ∧ SqT K H tk (ts.map V.str) ∧ ws.drop at_ = partW wd hs ++ rest ∧ PartOk wd xs ts hs rest ∧
  ∀ H' p, WdAt WD o H' ws (at_ + (partW wd hs).length) → SameX o H H' → SqT K H' p (hs.map V.str) → Q (.ref p) H'
theorem drop_get {α : Type} {l : List α} {i j : Nat} : (l.drop i)[j]? = l[i + j]? := List.getElem?_drop
theorem ok_rpart {f : Addr} {fd : FuncData} {t1 : Tok} (F : Fun K "read_part" "read_part" s_read_part f fd) (B : Blt mg) (CLw : Cls K WD) (m_MOST_NAMES : mg "MOST_NAMES" = some (.int 8 t1)) (mw_ahead : MethR P w K mg base 1 WD "ahead" ["self"] (sp_ahead WD)) (mw_take : MethR P w K mg base 2 WD "take" ["self", "right"] (sp_wtake WD)) (c_rises : Cal P w K mg base CX0 1 "rises" ["names", "index"] sp_risesL) :
    FnOk P w K mg base CX0 3 f fd ["words", "word", "facts", "taken"] (sp_rpart K WD) := by
  refine F.ok sc_read_part (fun vs H Q E h => by obtain ⟨o, a, tk, ws, at_, xs, ts, hs, rest, wd, rfl, _⟩ := h; rfl) (fun cdv A outer s H vs Q E hr h => ?_)
  obtain ⟨o, a, tk, ws, at_, xs, ts, hs, rest, wd, rfl, hW, hA, hT, hz, hp, q⟩ := h
  refine ⟨_, (pss_cons (ps_set (i := 4) sc_read_part.nd rfl (Or.inl rfl) (pe_lst pa_nil))
      (pss_cons (ps_if (pt_cmpR op_eq (pe_me0 CLw mw_ahead (hr.mono (by decide)) (pv 0)) (pv 1) (nomark _)) (pss_cons (ps_expr (pe_me CLw mw_take (hr.mono (by decide)) (pv 0) (pa_cons pe_bl pa_nil)))
      (pss_one (ps_while PassesOwn.never (PW.pt (pw_or (pt_not (pt_tru (pv 4) (by intro _; rfl))) (pw_or1 (pt_cmpR op_notIn_seq (pe_me0 CLw mw_ahead (hr.mono (by decide)) (pv 0)) (pe_tup (pa_cons pe_non (pa_cons pe_str pa_nil))) rfl)))) (pss_cons (ps_set (i := 5) sc_read_part.nd rfl (Or.inl rfl) (pe_me0 CLw mw_ahead (hr.mono (by decide)) (pv 0)))
      (pss_cons (ps_set (i := 6) sc_read_part.nd rfl (Or.inl rfl) (pe_and (pe_cmpR op_in_seq (pv 5) (pv 2) rfl) (pe_one (pe_cmpR op_notIn_seq (pv 5) (pv 3) rfl))))
      (pss_cons (ps_set (i := 7) sc_read_part.nd rfl (Or.inl rfl) (pe_and (pv 6) (pe_and (pe_cal c_rises (hr.mono (by decide)) (pa_cons (pe_op op_cat (pv 4) (pe_lst (pa_cons (pv 5) pa_nil))) (pa_cons (pe_callB call_len_seq (by rfl) B.b_len PySem.boot_len (pa_cons (pv 4) pa_nil)) pa_nil))) (pe_one (pe_cmpR op_lt (pe_op op_add (pe_callB call_len_seq (by rfl) B.b_len PySem.boot_len (pa_cons (pv 3) pa_nil)) (pe_callB call_len_seq (by rfl) B.b_len PySem.boot_len (pa_cons (pv 4) pa_nil))) (pe_glob (v := .int 8) rfl m_MOST_NAMES ⟨_, rfl⟩) (nomark _))))))
      (pss_one (ps_expr (pe_bm PySem.F.plainAttrs_list PySem.F.slot_list_append PySem.F.type_list_append mt_append (pv 4) (pa_cons (pe_me CLw mw_take (hr.mono (by decide)) (pv 0) (pa_cons (pv 7) pa_nil)) pa_nil)))))))))) pss_nil)
      (pss_one (ps_ret (pe_callTy call_tuple_of (by rfl) B.b_tuple PyProof.Rows.boot_tuple (pa_cons (pv 4) pa_nil)))))), ?_⟩
  refine ⟨Nat.zero_le _, fun D nD => ?_⟩
  have nDo := hW.ne nD
  have s0 : Same H (upd H D (.lst [])) := (Same.refl H).put nD
  have e0 : (upd H D (.lst [])) D = some (.lst []) := upd_same
  have W0 := hW.same s0
  have nDH := nD
  generalize upd H D (.lst []) = H0 at s0 e0 W0 ⊢
  obtain ⟨dx0, ll0, row0, ho0, _⟩ := id W0
  have hhead : ws[at_]? = (partW wd hs ++ rest)[0]? := by rw [← hz, drop_get, Nat.add_zero]
  refine ⟨_, rfl, o, dx0, _, rfl, ho0, rfl, o, _, _, rfl, W0, _, rfl, (by cases ws[at_]? <;> rfl), _, rfl, ?_⟩
  by_cases h0 : hs = []
  · have hno : ws[at_]? ≠ some wd := by
      rw [hhead]
      unfold partW
      rw [if_pos h0, List.nil_append]
      exact hp.r0 h0
    have hf : decide (optV ws[at_]? = .str wd) = false := by
      refine decide_eq_false fun z => hno ?_
      cases h : ws[at_]? with
      | none => rw [h] at z; cases z
      | some y => rw [h] at z; cases z; rfl
    rw [hf]
    refine iteF ⟨_, rfl, D, _, rfl, .inl ⟨sqL_of e0, fun t nt => ?_⟩⟩
    have hl : (partW wd hs).length = 0 := by unfold partW; rw [if_pos h0]; rfl
    subst h0
    exact q _ t (by rw [hl]; exact W0.same ((Same.refl H0).put nt)) (s0.trans ((Same.refl H0).put nt)).sx sqT_new
  have hpw : partW wd hs = wd :: hs := if_neg h0
  rw [hpw] at hz hhead
  have hpos : 0 < hs.length := List.length_pos_iff.mpr h0
  have h1 : ws[at_]? = some wd := hhead
  have hget : ∀ j, ws[at_ + 1 + j]? = (hs ++ rest)[j]? := fun j => by
    have : (ws.drop at_)[1 + j]? = (wd :: (hs ++ rest))[1 + j]? := by rw [hz]; rfl
    rw [drop_get, Nat.add_comm 1 j, List.getElem?_cons_succ, Nat.add_comm j 1, ← Nat.add_assoc] at this
    exact this
  rw [h1]
  rw [show decide (optV (some wd) = V.str wd) = true from decide_eq_true rfl]
  refine iteT ?_
  refine ⟨_, rfl, o, dx0, _, rfl, ho0, rfl, o, _, at_, wd, rfl, W0, h1, fun H1 W1 s1 => ?_⟩
  have s01 : SameX o H H1 := s0.sx.tr s1
  have e1 := s1 _ _ nDo e0
  refine ⟨fun m σ H' => ∃ (i : Nat) (y5 y6 y7 : Option V), m = hs.length - i ∧ i ≤ hs.length ∧ σ = [some (.ref o), some (.str wd), some (.ref a), some (.ref tk), some (.ref D), y5, y6, y7] ∧ SameX o H H' ∧ H' D = some (.lst ((hs.take i).map V.str)) ∧ WdAt WD o H' ws (at_ + 1 + i),
    ⟨_, 0, _, _, _, rfl, Nat.zero_le _, rfl, s01, e1, W1⟩, ?_⟩
  rintro m σ H2 ⟨i, y5, y6, y7, rfl, hi, rfl, s2, e2, W2⟩
  obtain ⟨dx2, ll2, row2, ho2, _⟩ := id W2
  have hlen : ((hs.take i).map V.str).length = i := by rw [List.length_map, List.length_take]; omega
  by_cases hi' : i < hs.length
  · have hxi : hs[i]? = some hs[i] := List.getElem?_eq_getElem hi'
    have hmem := List.getElem_mem hi'
    have hwi : ws[at_ + 1 + i]? = some hs[i] := by rw [hget, List.getElem?_append_left hi', hxi]
    have hah : optV (ws[at_ + 1 + i]?) = .str hs[i] := by rw [hwi]; rfl
    have hnot : hs[i] ≠ Str.ofString "not" := fun z => hp.rs _ hmem (by rw [z]; decide)
    have key : ∀ T : Bool → Hp → Prop, (∀ H3, Same H2 H3 → T true H3) → (tOr (tNot (tTru K (tVar 4))) (tTest (tOp (rIn K true) (tMeth WD (Str.ofString "ahead") (sp_ahead WD) [] E0 (tVar 0) tNil) (tTup (tCons (tC V.non) (tCons (tC (V.str (Str.ofString "not"))) tNil)))))) [some (.ref o), some (.str wd), some (.ref a), some (.ref tk), some (.ref D), y5, y6, y7] H2 T := by
      intro T hT
      by_cases hi0 : i = 0
      · refine ⟨_, rfl, false, .inl ⟨_, sqL_of e2, by rw [hi0]; rfl⟩, iteT (hT H2 (Same.refl H2))⟩
      · refine ⟨_, rfl, true, .inl ⟨_, sqL_of e2, ?_⟩, iteF ⟨_, rfl, o, dx2, _, rfl, ho2, rfl, o, _, _, rfl, W2, ?_⟩⟩
        · cases hq : (hs.take i).map V.str with
          | nil => rw [hq] at hlen; exact absurd hlen.symm hi0
          | cons _ _ => rfl
        · rw [hah]
          refine ⟨(by show 2 ≤ sizeLine; decide), fun t nt => ⟨t, _, rfl, .inr sqT_new, rfl, rfl, ?_⟩⟩
          rw [if_pos rfl, inN, decide_eq_false hnot]
          exact ⟨_, rfl, hT _ ((Same.refl H2).put nt)⟩
    refine key _ fun H3 s23 => iteT ?_
    have W3 := W2.same s23
    obtain ⟨dx3, ll3, row3, ho3, _⟩ := id W3
    have e3 := s23 _ _ e2
    have s03 := s2.tr s23.sx
    have hA3 : SqT K H3 a (xs.map V.str) := (hW.keeps (N := NoL) s03).tup hA
    have hT3 : SqT K H3 tk (ts.map V.str) := (hW.keeps (N := NoL) s03).tup hT
    refine ⟨fun σ' H' => ∃ (y5 y6 y7 : Option V), σ' = [some (.ref o), some (.str wd), some (.ref a), some (.ref tk), some (.ref D), y5, y6, y7] ∧ SameX o H H' ∧ H' D = some (.lst ((hs.take (i + 1)).map V.str)) ∧ WdAt WD o H' ws (at_ + 1 + (i + 1)), fun σ' H' ⟨y5, y6, y7, e, h⟩ => ⟨_, (by omega), i + 1, y5, y6, y7, rfl, hi', e, h⟩, ?_⟩
    refine ⟨_, rfl, o, dx3, _, rfl, ho3, rfl, o, _, _, rfl, W3, ?_⟩
    rw [hah]
    refine ⟨_, rfl, _, rfl, a, _, rfl, .inr hA3, rfl, flat_strs xs, ?_⟩
    rw [if_neg (by decide), inV_str, decide_eq_true (hp.fa _ hmem)]
    refine ⟨true, rfl, iteT ?_⟩
    refine ⟨_, rfl, _, rfl, tk, _, rfl, .inr hT3, rfl, flat_strs ts, ?_⟩
    rw [if_pos rfl, inV_str, decide_eq_false (hp.tk _ hmem)]
    refine ⟨_, rfl, true, rfl, iteT ?_⟩
    refine ⟨_, rfl, _, rfl, (by show 1 ≤ sizeLine; decide), fun d nd => ?_⟩
    have s4 : Same H3 (upd H3 d (.lst [.str hs[i]])) := (Same.refl H3).put nd
    have m4 : (upd H3 d (.lst [.str hs[i]])) d = some (.lst [.str hs[i]]) := upd_same
    generalize upd H3 d (.lst [.str hs[i]]) = H4 at s4 m4 ⊢
    refine ⟨D, d, _, _, rfl, rfl, s4 _ _ e3, m4, by rw [sizeLine_eq, hlen]; have := hp.l8; show i + 1 ≤ _; omega, fun d5 nd5 => ?_⟩
    have s5 : Same H4 (upd H4 d5 (.lst ((hs.take i).map V.str ++ [.str hs[i]]))) := (Same.refl H4).put nd5
    have m5 : (upd H4 d5 (.lst ((hs.take i).map V.str ++ [.str hs[i]]))) d5 = some (.lst ((hs.take (i + 1)).map V.str)) := by rw [upd_same, take_more hxi, List.map_append]; rfl
    generalize upd H4 d5 (.lst ((hs.take i).map V.str ++ [.str hs[i]])) = H5 at s5 m5 ⊢
    have s35 := s4.trans s5
    have e5 := s35 _ _ e3
    have l8 := hp.l8
    refine ⟨_, rfl, D, _, rfl, .inl (sqL_of e5), ?_⟩
    rw [hlen]
    refine ⟨d5, hs.take (i + 1), i, rfl, m5, by rw [List.length_take]; omega, ?_⟩
    rw [rises_pw (hp.up.sublist (List.take_sublist _ _)) (by rw [List.length_take]; omega)]
    refine ⟨true, rfl, iteT ?_⟩
    refine ⟨_, rfl, tk, _, rfl, .inr (s35.tup hT3), _, rfl, D, _, rfl, .inl (sqL_of e5), _, _, rfl, rfl, _, 8, rfl, rfl, ?_⟩
    rw [hlen, List.length_map]
    have W5 := W3.same s35
    obtain ⟨dx5, ll5, row5, ho5, _⟩ := id W5
    refine ⟨_, rfl, .inl ⟨rfl, _, sqL_of e5⟩, _, rfl, o, dx5, _, rfl, ho5, rfl, _, rfl, o, _, at_ + 1 + i, hs[i], vsT (decide_eq_true (by omega)), W5, hwi, fun H6 W6 s6 => ?_⟩
    have e6 := s6 _ _ nDo e5
    refine ⟨D, _, _, rfl, rfl, e6, small1000 (by rw [hlen]; omega), _, _, _, rfl, ((s03.tr s35.sx).tr s6).put0 nDH, ?_, ?_⟩
    · rw [upd_same, take_more hxi, List.map_append]
      rfl
    · obtain ⟨dx6, ll6, row6, ho6, hll6, hl6⟩ := W6
      refine ⟨dx6, ll6, row6, by rw [upd_ne nDo.symm]; exact ho6, ?_, hl6⟩
      rw [upd_ne (fun z => ?_)]
      · exact hll6
      · rw [z, e6] at hll6
        have h2 := congrArg (fun o => match o with | some (HO.lst l) => l.length | _ => 0) hll6
        have h3 : (List.map V.str (List.take i hs)).length = (List.map V.str ws).length := h2
        rw [hlen, List.length_map] at h3
        have h4 : at_ + 1 + i < ws.length := (List.getElem?_eq_some_iff.mp hwi).1
        omega
  · have hi2 : i = hs.length := by omega
    subst hi2
    rw [List.take_length] at e2
    have hwi : ws[at_ + 1 + hs.length]? = rest[0]? := by rw [hget, List.getElem?_append_right (Nat.le_refl _), Nat.sub_self]
    have hl : (partW wd hs).length = 1 + hs.length := by rw [hpw, List.length_cons]; omega
    have fin : ∀ H3, Same H2 H3 → (tRet (tCB (fun xs H_1 Q => ∃ p ys, xs = [V.ref p] ∧ ((SqL K H_1 p ys ∧ ∀ l, H_1 l = none → Q (.ref l) (upd H_1 l (.tup ys))) ∨ SqT K H_1 p ys ∧ Q (.ref p) H_1)) (tCons (tVar 4) tNil))) { nx := fun x H' => Q .non H', rt := Q } [some (.ref o), some (.str wd), some (.ref a), some (.ref tk), some (.ref D), y5, y6, y7] H3 := fun H3 s23 => by
      refine ⟨_, rfl, D, _, rfl, .inl ⟨sqL_of (s23 _ _ e2), fun t nt => ?_⟩⟩
      have s4 : Same H3 (upd H3 t (.tup (hs.map V.str))) := (Same.refl H3).put nt
      exact q _ t (by rw [hl, ← Nat.add_assoc]; exact W2.same (s23.trans s4)) (s2.tr (s23.trans s4).sx) sqT_new
    refine ⟨_, rfl, true, .inl ⟨_, sqL_of e2, ?_⟩, iteF ⟨_, rfl, o, dx2, _, rfl, ho2, rfl, o, _, _, rfl, W2, ?_⟩⟩
    · cases hs with
      | nil => exact absurd rfl h0
      | cons _ _ => rfl
    rw [hwi]
    rcases hp.r1 with hr | hr
    · rw [hr]
      refine ⟨(by show 2 ≤ sizeLine; decide), fun t nt => ⟨t, _, rfl, .inr sqT_new, rfl, rfl, _, rfl, iteF ?_⟩⟩
      exact fin _ ((Same.refl H2).put nt)
    · rw [hr]
      refine ⟨(by show 2 ≤ sizeLine; decide), fun t nt => ⟨t, _, rfl, .inr sqT_new, rfl, rfl, ?_⟩⟩
      rw [if_pos rfl, show inV (optV (some (Str.ofString "not"))) [V.non, .str (Str.ofString "not")] = true from by show inV (.str _) _ = true; rw [inN, decide_eq_true rfl]]
      exact ⟨_, rfl, iteF (fin _ ((Same.refl H2).put nt))⟩
end
end Sc
namespace Sc
open PySem PySem.Spec PyProof.Rows L2
/-! ### the draws of the laws from k31 on -/
abbrev s__law_sides : Stmt := topS 62
theorem sc__law_sides : FnScope ["_law_h", "_law_facts_here", "_law_most", "_law_rest", "_law_holding", "_law_failing", "_law_k", "_law_one"] ["_law_h", "_law_facts_here", "_law_most"] (defScope s__law_sides) := ⟨rfl, rfl, rfl, by decide +kernel, rfl, by decide +kernel, by decide +kernel⟩
def ten : List Str := ["crew", "debt", "fog", "gate", "late", "mail", "noon", "paid", "rain", "warm"]
theorem ten_right : Right ten := ⟨by decide +kernel, by decide +kernel⟩
section
variable {P : Program} {w : World} {K : PySem.W.Frag} {mg : Str → Option Value} {base : Heap}
def sp_facts : Sp := fun vs H Q _ => ∃ (a l : Addr) (m : Nat), vs = [.ref a, .int (m : Nat)] ∧ RS H a l ∧ 1 ≤ m ∧ m ≤ 10 ∧ ∀ H' p fs, Kp a l H H' → H' p = some (.tup (fs.map V.str)) → H p = none → List.Sublist fs ten → 1 ≤ fs.length → fs.length ≤ m → Q (.ref p) H'
theorem ok_facts {f : Addr} {fd : FuncData} (F : Fun K "_law_facts" "_law_facts" s__law_facts f fd) (B : Blt mg) (c__law_next : Cal P w K mg base CX0 1 "_law_next" ["_law_h", "_law_limit"] sp_next) : FnOk P w K mg base CX0 2 f fd ["_law_h", "_law_most"] sp_facts := by
  refine F.ok sc__law_facts (fun vs H Q E h => by obtain ⟨a, l, c, rfl, _⟩ := h; rfl) (fun cdv A outer s H vs Q E hr h => ?_)
  obtain ⟨a, l, c, rfl, hR, c0, c1, q⟩ := h
  refine ⟨_, (pss_cons (ps_set (i := 2) sc__law_facts.nd rfl (Or.inl rfl) (pe_lst (pa_cons pe_str (pa_cons pe_str (pa_cons pe_str (pa_cons pe_str (pa_cons pe_str (pa_cons pe_str (pa_cons pe_str (pa_cons pe_str (pa_cons pe_str (pa_cons pe_str pa_nil))))))))))))
      (pss_cons (ps_set (i := 3) sc__law_facts.nd rfl (Or.inl rfl) (pe_op op_add pe_int (pe_cal c__law_next (hr.mono (by decide)) (pa_cons (pv 0) (pa_cons (pv 1) pa_nil)))))
      (pss_cons (ps_while PassesOwn.never (pt_cmpR op_gt (pe_callB call_len_seq (by rfl) B.b_len PySem.boot_len (pa_cons (pv 2) pa_nil)) (pv 3) (nomark _)) (pss_one (ps_expr (pe_bm PySem.F.plainAttrs_list PySem.F.slot_list_pop PySem.F.type_list_pop mt_popAt (pv 2) (pa_cons (pe_cal c__law_next (hr.mono (by decide)) (pa_cons (pv 0) (pa_cons (pe_callB call_len_seq (by rfl) B.b_len PySem.boot_len (pa_cons (pv 2) pa_nil)) pa_nil))) pa_nil)))))
      (pss_one (ps_ret (pe_callTy call_tuple_of (by rfl) B.b_tuple PyProof.Rows.boot_tuple (pa_cons (pv 2) pa_nil))))))), ?_⟩
  refine ⟨(by show 10 ≤ sizeLine; decide), fun p np => ?_⟩
  obtain ⟨npa, npl⟩ := hR.no np
  have k0 := (Kp.refl hR).put (o := .lst (ten.map V.str)) np
  have e0 : (upd H p (.lst (ten.map V.str))) p = some (.lst (ten.map V.str)) := upd_same
  refine ⟨_, rfl, _, rfl, a, l, _, rfl, k0.new, by omega, small_lim (by omega) (by omega), fun H1 r k1 r0 r1 => ⟨1, r, rfl, rfl, ?_⟩⟩
  obtain ⟨m, rfl⟩ := Int.eq_ofNat_of_zero_le r0
  refine ⟨fun k σ H' => ∃ zs : List Str, k = zs.length ∧ σ = [some (.ref a), some (.int (c : Nat)), some (.ref p), some (.int (1 + (m : Nat)))] ∧ Kp a l H H' ∧ H' p = some (.lst (zs.map V.str)) ∧ List.Sublist zs ten ∧ m + 1 ≤ zs.length,
    ⟨_, ten, rfl, rfl, k0.trans k1, k1.keep p _ npa npl e0, List.Sublist.refl _, (by show m + 1 ≤ 10; omega)⟩, ?_⟩
  rintro k σ H1 ⟨zs, rfl, rfl, k1, e1, sb, hc⟩
  have hz : zs.length ≤ 10 := sb.length_le
  refine ⟨.ref p, rfl, p, _, rfl, .inl (sqL_of e1), _, rfl, _, _, rfl, rfl, _, rfl, bcase (fun t1 => ?_) (fun t1 => ?_)⟩
  · have t1 : 1 + (m : Int) < ((zs.map V.str).length : Int) := of_decide_eq_true t1
    rw [List.length_map] at t1
    refine ⟨fun σ' H' => ∃ zs' : List Str, zs'.length < zs.length ∧ (σ' = [some (.ref a), some (.int (c : Nat)), some (.ref p), some (.int (1 + (m : Nat)))] ∧ Kp a l H H' ∧ H' p = some (.lst (zs'.map V.str)) ∧ List.Sublist zs' ten ∧ m + 1 ≤ zs'.length),
      fun σ' H' ⟨zs', lt, x⟩ => ⟨_, lt, zs', rfl, x⟩, ?_⟩
    refine ⟨.ref p, rfl, .inl ⟨rfl, _, sqL_of e1⟩, .ref a, rfl, .ref p, rfl, p, _, rfl, .inl (sqL_of e1), a, l, _, rfl, k1.new, by rw [List.length_map]; omega, ?_, fun H2 r k2 r0 r1 => ?_⟩
    · rw [List.length_map]
      exact Nat.lt_of_le_of_lt (Nat.log2_le_self _) (by show zs.length < 9000; omega)
    · have e2 : H2 p = some (.lst (zs.map V.str)) := k2.keep p _ npa npl e1
      rw [List.length_map] at r1
      obtain ⟨j, rfl⟩ := Int.eq_ofNat_of_zero_le r0
      have hj : j < zs.length := by omega
      have hj' : j < (zs.map V.str).length := by rw [List.length_map]; exact hj
      refine ⟨p, _, _, j, _, rfl, rfl, e2, by omega, by omega, (ixN_seq (ixN_of hj')).1, List.getElem?_eq_getElem hj', zs.eraseIdx j, ?_, rfl, (k1.trans k2).put0 np, ?_, (List.eraseIdx_sublist zs j).trans sb, ?_⟩
      · rw [List.length_eraseIdx_of_lt hj]
        omega
      · rw [upd_same, map_eraseIdx]
      · rw [List.length_eraseIdx_of_lt hj]
        omega
  · have t1 : ¬ 1 + (m : Int) < ((zs.map V.str).length : Int) := of_decide_eq_false t1
    rw [List.length_map] at t1
    refine ⟨.ref p, rfl, p, _, rfl, .inl ⟨sqL_of e1, fun t nt => q _ t zs (k1.put nt) upd_same (k1.free nt) sb (by omega) (by omega)⟩⟩
/-- the parts of a drawn condition -/
structure Side (fs hs gs : List Str) (m : Nat) : Prop where
  r1 : Right hs
  r2 : Right gs
  s1 : ∀ x ∈ hs, x ∈ fs
  s2 : ∀ x ∈ gs, x ∈ fs
  dj : ∀ x ∈ gs, ¬ x ∈ hs
  le : hs.length + gs.length ≤ m
theorem erase_perm {α : Type} : ∀ {zs : List α} {j : Nat} (h : j < zs.length), (zs[j] :: zs.eraseIdx j).Perm zs
  | z :: r, 0, _ => List.Perm.refl _
  | z :: r, j + 1, h => by
    have hj : j < r.length := by simpa using h
    have ih := erase_perm hj
    show (r[j] :: z :: r.eraseIdx j).Perm (z :: r)
    exact (List.Perm.swap _ _ _).trans (ih.cons z)
def sp_sides (K : PySem.W.Frag) : Sp := fun vs H Q _ => ∃ (a l fp : Addr) (fs : List Str) (m : Nat), vs = [.ref a, .ref fp, .int (m : Nat)] ∧ RS H a l ∧ SqT K H fp (fs.map V.str) ∧ fs.length ≤ 60 ∧ Right fs ∧ m ≤ 8 ∧
  ∀ H' p pw pb hs gs, Kp a l H H' → H' p = some (.tup [.ref pw, .ref pb]) → H' pw = some (.tup (hs.map V.str)) → H' pb = some (.tup (gs.map V.str)) → Side fs hs gs m → Q (.ref p) H'
theorem ok_sides {f : Addr} {fd : FuncData} (F : Fun K "_law_sides" "_law_sides" s__law_sides f fd) (B : Blt mg) (c__law_next : Cal P w K mg base CX0 1 "_law_next" ["_law_h", "_law_limit"] sp_next) : FnOk P w K mg base CX0 2 f fd ["_law_h", "_law_facts_here", "_law_most"] (sp_sides K) := by
  refine F.ok sc__law_sides (fun vs H Q E h => by obtain ⟨a, l, fp, fs, m, rfl, _⟩ := h; rfl) (fun cdv A outer s H vs Q E hr h => ?_)
  obtain ⟨a, l, fp, fs, m, rfl, R, hS, hl, hfs, hm, q⟩ := h
  refine ⟨_, (pss_cons (ps_par3 (i := 3) (j := 4) (l := 5) rfl sc__law_sides.nd rfl rfl rfl (by decide) (by decide) (by decide) rfl rfl rfl (pa_cons (pe_callTy call_list_of (by rfl) B.b_list PyProof.Rows.boot_list (pa_cons (pv 1) pa_nil)) (pa_cons (pe_lst pa_nil) (pa_cons (pe_lst pa_nil) pa_nil))) rfl)
      (pss_cons (ps_for PassesOwn.never rfl (pi_range1 (by rfl) B.b_range (pa_cons (pe_cal c__law_next (hr.mono (by decide)) (pa_cons (pv 0) (pa_cons (pe_op op_add (pe_callB (call_min2 rfl) (by rfl) B.b_min (by decide +kernel) (pa_cons (pv 2) (pa_cons (pe_callB call_len_seq (by rfl) B.b_len PySem.boot_len (pa_cons (pv 1) pa_nil)) pa_nil))) pe_int) pa_nil))) pa_nil)) (pg_name (i := 6) sc__law_sides.nd rfl (Or.inl rfl)) (pss_cons (ps_set (i := 7) sc__law_sides.nd rfl (Or.inl rfl) (pe_bm PySem.F.plainAttrs_list PySem.F.slot_list_pop PySem.F.type_list_pop mt_popAt (pv 3) (pa_cons (pe_cal c__law_next (hr.mono (by decide)) (pa_cons (pv 0) (pa_cons (pe_callB call_len_seq (by rfl) B.b_len PySem.boot_len (pa_cons (pv 3) pa_nil)) pa_nil))) pa_nil)))
      (pss_one (ps_if (pt_cmpR op_gt (pe_cal c__law_next (hr.mono (by decide)) (pa_cons (pv 0) (pa_cons pe_int pa_nil))) pe_int (nomark _)) (pss_one (ps_expr (pe_bm PySem.F.plainAttrs_list PySem.F.slot_list_append PySem.F.type_list_append mt_append (pv 4) (pa_cons (pv 7) pa_nil)))) (pss_one (ps_expr (pe_bm PySem.F.plainAttrs_list PySem.F.slot_list_append PySem.F.type_list_append mt_append (pv 5) (pa_cons (pv 7) pa_nil))))))))
      (pss_one (ps_ret (pe_tup (pa_cons (pe_callTy call_tuple_of (by rfl) B.b_tuple PyProof.Rows.boot_tuple (pa_cons (pe_callB cr_sortedS (by rfl) B.b_sorted (by decide +kernel) (pa_cons (pv 4) pa_nil)) pa_nil)) (pa_cons (pe_callTy call_tuple_of (by rfl) B.b_tuple PyProof.Rows.boot_tuple (pa_cons (pe_callB cr_sortedS (by rfl) B.b_sorted (by decide +kernel) (pa_cons (pv 5) pa_nil)) pa_nil)) pa_nil))))))), ?_⟩
  refine ⟨_, rfl, fp, _, rfl, .inr hS, fun lr nr => ⟨Nat.zero_le _, fun lw nw => ⟨Nat.zero_le _, fun lb nb => ⟨_, _, _, rfl, ?_⟩⟩⟩⟩
  have s1 : Same H (upd H lr (.lst (fs.map V.str))) := (Same.refl H).put nr
  have s2 : Same H (upd (upd H lr (.lst (fs.map V.str))) lw (.lst [])) := s1.put' nw
  have s3 : Same H (upd (upd (upd H lr (.lst (fs.map V.str))) lw (.lst [])) lb (.lst [])) := s2.put' nb
  have wr : lr ≠ lw := ne_of_none upd_same nw
  have wb : lw ≠ lb := ne_of_none upd_same nb
  have rb : lr ≠ lb := ne_of_none (show _ = some (HO.lst (fs.map V.str)) by rw [upd_ne wr]; exact upd_same) nb
  have er : (upd (upd (upd H lr (.lst (fs.map V.str))) lw (.lst [])) lb (.lst [])) lr = some (.lst (fs.map V.str)) := by rw [upd_ne rb, upd_ne wr]; exact upd_same
  have ew : (upd (upd (upd H lr (.lst (fs.map V.str))) lw (.lst [])) lb (.lst [])) lw = some (.lst (([] : List Str).map V.str)) := by rw [upd_ne wb]; exact upd_same
  have eb : (upd (upd (upd H lr (.lst (fs.map V.str))) lw (.lst [])) lb (.lst [])) lb = some (.lst (([] : List Str).map V.str)) := upd_same
  have fw : H lw = none := s1.free nw
  have fb : H lb = none := s2.free nb
  generalize upd (upd (upd H lr (.lst (fs.map V.str))) lw (.lst [])) lb (.lst []) = H0 at s3 er ew eb ⊢
  obtain ⟨ra, rl⟩ := R.no nr
  obtain ⟨wa, wl⟩ := R.no fw
  obtain ⟨ba, bl⟩ := R.no fb
  have k0 := Kp.of R s3
  have hmn : (if (fs.length : Int) < m then (fs.length : Int) else m) = ((min fs.length m : Nat) : Int) := by split <;> omega
  refine ⟨_, rfl, _, rfl, _, rfl, fp, _, rfl, .inr (k0.tup hS), _, _, rfl, _, 1, rfl, rfl, ?_⟩
  rw [List.length_map, hmn]
  refine ⟨a, l, _, rfl, k0.new, by omega, small_lim (by omega) (by omega), fun H1 r k1 r0 r1 => ?_⟩
  obtain ⟨n, rfl⟩ := Int.eq_ofNat_of_zero_le r0
  have hn : n ≤ min fs.length m := by omega
  have hnd := hfs.nodup
  refine ⟨_, rfl, by omega, by omega, for_it walk_range (fun i σ H' => ∃ (rest ws bs : List Str) (y6 y7 : Option V), σ = [some (.ref a), some (.ref fp), some (.int (m : Nat)), some (.ref lr), some (.ref lw), some (.ref lb), y6, y7] ∧ Kp a l H H' ∧ H' lr = some (.lst (rest.map V.str)) ∧ H' lw = some (.lst (ws.map V.str)) ∧ H' lb = some (.lst (bs.map V.str)) ∧
      (rest ++ (ws ++ bs)).Perm fs ∧ ws.length + bs.length = i)
    ⟨fs, [], [], none, none, rfl, k0.trans k1, k1.keep _ _ ra rl er, k1.keep _ _ wa wl ew, k1.keep _ _ ba bl eb, by rw [List.append_nil, List.append_nil], rfl⟩ (fun _ _ _ _ _ => trivial) ?_ ?_⟩
  · rintro i y σ H3 H2 hi ⟨rest, ws, bs, y6, y7, rfl, k, er, ew, eb, hp, hlen⟩ ⟨rfl, hy⟩
    have hi : i < n := hi
    have hpl := hp.length_eq
    rw [List.length_append, List.length_append] at hpl
    refine ⟨_, rfl, .inl ⟨rfl, _, sqL_of er⟩, _, rfl, _, rfl, lr, _, rfl, .inl (sqL_of er), a, l, _, rfl, k.new, by rw [List.length_map]; omega, small_lim (by omega) (by rw [List.length_map]; omega), fun H4 r4 k4 r40 r41 => ?_⟩
    rw [List.length_map] at r41
    obtain ⟨j, rfl⟩ := Int.eq_ofNat_of_zero_le r40
    have hj : j < rest.length := by omega
    have hj' : j < (rest.map V.str).length := by rw [List.length_map]; exact hj
    have er4 := k4.keep _ _ ra rl er
    have ew4 := k4.keep _ _ wa wl ew
    have eb4 := k4.keep _ _ ba bl eb
    refine ⟨lr, _, _, j, _, rfl, rfl, er4, by omega, by omega, (ixN_seq (ixN_of hj')).1, List.getElem?_eq_getElem hj', ?_⟩
    rw [List.getElem_map]
    have k5 : Kp a l H (upd H4 lr (.lst ((rest.eraseIdx j).map V.str))) := (k.trans k4).put0 nr
    have er5 : (upd H4 lr (.lst ((rest.eraseIdx j).map V.str))) lr = some (.lst ((rest.eraseIdx j).map V.str)) := upd_same
    have ew5 : (upd H4 lr (.lst ((rest.eraseIdx j).map V.str))) lw = some (.lst (ws.map V.str)) := by rw [upd_ne wr.symm]; exact ew4
    have eb5 : (upd H4 lr (.lst ((rest.eraseIdx j).map V.str))) lb = some (.lst (bs.map V.str)) := by rw [upd_ne rb.symm]; exact eb4
    have hpe := erase_perm hj
    rw [map_eraseIdx]
    generalize upd H4 lr (.lst ((rest.eraseIdx j).map V.str)) = H5 at k5 er5 ew5 eb5 ⊢
    refine ⟨_, rfl, a, l, 3, rfl, k5.new, by decide, small_lim (by decide) (by decide), fun H6 r6 k6 r60 r61 => ⟨r6, 0, rfl, rfl, _, rfl, ?_⟩⟩
    have kk := k5.trans k6
    have er6 := k6.keep _ _ ra rl er5
    have ew6 := k6.keep _ _ wa wl ew5
    have eb6 := k6.keep _ _ ba bl eb5
    refine bcase (fun c1 => ?_) (fun c1 => ?_)
    · refine ⟨_, rfl, .inl ⟨rfl, _, sqL_of ew6⟩, _, rfl, lw, _, _, rfl, rfl, ew6, by rw [List.length_map]; exact small1000 (by omega), ?_⟩
      refine ⟨rest.eraseIdx j, ws ++ [rest[j]], bs, _, _, rfl, kk.put0 fw, by rw [upd_ne wr]; exact er6, by rw [upd_same, List.map_append]; rfl, by rw [upd_ne wb.symm]; exact eb6, ?_, by rw [List.length_append, List.length_singleton]; omega⟩
      refine List.Perm.trans ?_ hp
      refine List.Perm.trans ?_ (hpe.append_right (ws ++ bs))
      show (rest.eraseIdx j ++ ((ws ++ [rest[j]]) ++ bs)).Perm (rest[j] :: (rest.eraseIdx j ++ (ws ++ bs)))
      rw [List.append_assoc, ← List.append_assoc]
      have h1 : ((rest.eraseIdx j ++ ws) ++ ([rest[j]] ++ bs)).Perm (rest[j] :: ((rest.eraseIdx j ++ ws) ++ bs)) := List.perm_middle
      rw [List.append_assoc (rest.eraseIdx j) ws bs] at h1
      exact h1
    · refine ⟨_, rfl, .inl ⟨rfl, _, sqL_of eb6⟩, _, rfl, lb, _, _, rfl, rfl, eb6, by rw [List.length_map]; exact small1000 (by omega), ?_⟩
      refine ⟨rest.eraseIdx j, ws, bs ++ [rest[j]], _, _, rfl, kk.put0 fb, by rw [upd_ne rb]; exact er6, by rw [upd_ne wb]; exact ew6, by rw [upd_same, List.map_append]; rfl, ?_, by rw [List.length_append, List.length_singleton]; omega⟩
      refine List.Perm.trans ?_ hp
      refine List.Perm.trans ?_ (hpe.append_right (ws ++ bs))
      show (rest.eraseIdx j ++ (ws ++ (bs ++ [rest[j]]))).Perm (rest[j] :: (rest.eraseIdx j ++ (ws ++ bs)))
      rw [← List.append_assoc, ← List.append_assoc, ← List.append_assoc]
      exact List.perm_append_singleton _ _
  · rintro σ H2 ⟨rest, ws, bs, y6, y7, rfl, k, er, ew, eb, hp, hlen⟩
    have hlen : ws.length + bs.length = n := hlen
    have hsub : (ws ++ bs).Perm (ws ++ bs) := List.Perm.refl _
    have hnd2 : (rest ++ (ws ++ bs)).Nodup := hp.nodup_iff.mpr hnd
    have hin : ∀ x ∈ ws ++ bs, x ∈ fs := fun x hx => hp.mem_iff.mp (List.mem_append_right _ hx)
    have nd3 : (ws ++ bs).Nodup := (List.nodup_append.mp hnd2).2.1
    have ndw := (List.nodup_append.mp nd3).1
    have ndb := (List.nodup_append.mp nd3).2.1
    refine ⟨_, rfl, lw, ws, rfl, sqL_of ew, by omega, fun zs p hz1 hz2 np => ?_⟩
    have s4 : Same H2 (upd H2 p (.lst (zs.map V.str))) := (Same.refl H2).put np
    have e4 : (upd H2 p (.lst (zs.map V.str))) p = some (.lst (zs.map V.str)) := upd_same
    generalize upd H2 p (.lst (zs.map V.str)) = H3 at s4 e4 ⊢
    refine ⟨p, _, rfl, .inl ⟨sqL_of e4, fun t nt => ?_⟩⟩
    have s5 : Same H3 (upd H3 t (.tup (zs.map V.str))) := (Same.refl H3).put nt
    have e5 : (upd H3 t (.tup (zs.map V.str))) t = some (.tup (zs.map V.str)) := upd_same
    generalize upd H3 t (.tup (zs.map V.str)) = H4 at s5 e5 ⊢
    have s25 := s4.trans s5
    refine ⟨_, rfl, lb, bs, rfl, sqL_of (s25 _ _ eb), by omega, fun zs2 p2 hy1 hy2 np2 => ?_⟩
    have s6 : Same H4 (upd H4 p2 (.lst (zs2.map V.str))) := (Same.refl H4).put np2
    have e6 : (upd H4 p2 (.lst (zs2.map V.str))) p2 = some (.lst (zs2.map V.str)) := upd_same
    generalize upd H4 p2 (.lst (zs2.map V.str)) = H5 at s6 e6 ⊢
    refine ⟨p2, _, rfl, .inl ⟨sqL_of e6, fun t2 nt2 => ?_⟩⟩
    have s7 : Same H5 (upd H5 t2 (.tup (zs2.map V.str))) := (Same.refl H5).put nt2
    have e7 : (upd H5 t2 (.tup (zs2.map V.str))) t2 = some (.tup (zs2.map V.str)) := upd_same
    generalize upd H5 t2 (.tup (zs2.map V.str)) = H6 at s7 e7 ⊢
    refine ⟨(by show 2 ≤ sizeLine; decide), fun t3 nt3 => ?_⟩
    have s8 : Same H6 (upd H6 t3 (.tup [.ref t, .ref t2])) := (Same.refl H6).put nt3
    have s47 := (s6.trans s7).trans s8
    refine q _ t3 t t2 zs zs2 (k.same (s25.trans s47)) upd_same (s47 _ _ e5) (s8 _ _ e7) ⟨right_of hz1 hz2 ndw fun x hx => hfs.nm x (hin x (List.mem_append_left _ hx)), right_of hy1 hy2 ndb fun x hx => hfs.nm x (hin x (List.mem_append_right _ hx)), fun x hx => hin x (List.mem_append_left _ (hz1.mem_iff.mp hx)), fun x hx => hin x (List.mem_append_right _ (hy1.mem_iff.mp hx)), fun x hx hw => (List.nodup_append.mp nd3).2.2 x (hz1.mem_iff.mp hw) x (hy1.mem_iff.mp hx) rfl, ?_⟩
    rw [hz1.length_eq, hy1.length_eq]
    omega
end
end Sc
namespace Sc
open PySem PySem.Spec PyProof.Rows L2
abbrev s__law_rule : Stmt := topS 63
theorem sc__law_rule : FnScope ["_law_h", "_law_facts_here", "_law_names", "_law_deep", "_law_name", "_law_sides_here", "_law_ruling", "_law_inner", "_law_k"] ["_law_h", "_law_facts_here", "_law_names", "_law_deep"] (defScope s__law_rule) := ⟨rfl, rfl, rfl, by decide +kernel, rfl, by decide +kernel, by decide +kernel⟩
abbrev s__law_drawn : Stmt := topS 64
theorem sc__law_drawn : FnScope ["_law_h", "_law_facts_here", "_law_most", "_law_names", "_law_rules", "_law_k"] ["_law_h", "_law_facts_here", "_law_most"] (defScope s__law_drawn) := ⟨rfl, rfl, rfl, by decide +kernel, rfl, by decide +kernel, by decide +kernel⟩
def three : List Str := ["fine", "free", "warn"]
theorem three_name : ∀ x ∈ three, isName x = true := by decide +kernel
theorem pe_wk {X : Cx} {e : Expr} {t : TE} (t' : TE) (h : PE X e t) (w : ∀ σ H Q, t' σ H Q → t σ H Q) : PE X e t' := ⟨fun pins s σ H Q I x => h.run pins s σ H Q I (w σ H Q x)⟩
/-- a drawn rule of such facts -/
structure N2 (fs : List Str) (n : Nd) : Prop where
  ok : NdOk n
  s1 : ∀ x ∈ n.hs, x ∈ fs
  s2 : ∀ x ∈ n.fs, x ∈ fs
  s3 : n.rl ∈ three
/-- next(3) if deep > 0 else 0 -/
def tCount : TE := fun σ H Q => ∃ (a l : Addr) (deep : Nat), σ[0]? = some (some (.ref a)) ∧ σ[3]? = some (some (.int (deep : Nat))) ∧ RS H a l ∧ ∀ H' (n : Nat), Kp a l H H' → n ≤ 2 → (n = 0 ∨ 0 < deep) → Q (.int (n : Nat)) H'
section
variable {P : Program} {w : World} {K : PySem.W.Frag} {mg : Str → Option Value} {base : Heap}
def sp_rule2 (K : PySem.W.Frag) (d : Nat) : Sp := fun vs H Q _ => ∃ (a l fp nl : Addr) (fs : List Str) (x : Str) (ns : List Str) (deep : Nat), vs = [.ref a, .ref fp, .ref nl, .int (deep : Nat)] ∧ RS H a l ∧ SqT K H fp (fs.map V.str) ∧ Right fs ∧ fs.length ≤ 60 ∧ H nl = some (.lst ((x :: ns).map V.str)) ∧ nl ≠ a ∧ nl ≠ l ∧
  (∀ y ∈ x :: ns, isName y = true) ∧ ns.length ≤ 20 ∧ deep ≤ d ∧
  ∀ H' v n ns', Kc a l nl H H' → RowAt K H' v n → N2 fs n → n.exc.every (N2 fs) → n.nm :: (n.exc.names ++ ns') = x :: ns → H' nl = some (.lst (ns'.map V.str)) → n.exc.dep ≤ deep → Q v H'
theorem ok_rule2 {d : Nat} {f : Addr} {fd : FuncData} (F : Fun K "_law_rule" "_law_rule" s__law_rule f fd) (B : Blt mg) (c__law_next : Cal P w K mg base CX0 1 "_law_next" ["_law_h", "_law_limit"] sp_next) (c__law_sides : Cal P w K mg base CX0 2 "_law_sides" ["_law_h", "_law_facts_here", "_law_most"] (sp_sides K))
    (c__law_rule : Cal P w K mg base CX0 (d + 2) "_law_rule" ["_law_h", "_law_facts_here", "_law_names", "_law_deep"] (Below (sp_rule2 K) d)) : FnOk P w K mg base CX0 (d + 3) f fd ["_law_h", "_law_facts_here", "_law_names", "_law_deep"] (sp_rule2 K d) := by
  refine F.ok sc__law_rule (fun vs H Q E h => by obtain ⟨a, l, fp, nl, fs, x, ns, deep, rfl, _⟩ := h; rfl) (fun cdv A outer s H vs Q E hr h => ?_)
  obtain ⟨a, l, fp, nl, fs, x, ns, deep, rfl, R, hS, hfs, hfl, en, na, nl', hnm, hnl, hd, q⟩ := h
  refine ⟨_, (pss_cons (ps_par (i := 4) (j := 5) rfl sc__law_rule.nd rfl rfl (by decide) rfl rfl (pa_cons (pe_bm PySem.F.plainAttrs_list PySem.F.slot_list_pop PySem.F.type_list_pop mt_popAt (pv 2) (pa_cons pe_int pa_nil)) (pa_cons (pe_cal c__law_sides (hr.mono (by omega)) (pa_cons (pv 0) (pa_cons (pv 1) (pa_cons pe_int pa_nil)))) pa_nil)) rfl)
      (pss_cons (ps_par (i := 6) (j := 7) rfl sc__law_rule.nd rfl rfl (by decide) rfl rfl (pa_cons (pe_ix ix_list (pe_lst (pa_cons pe_str (pa_cons pe_str (pa_cons pe_str pa_nil)))) (pe_cal c__law_next (hr.mono (by omega)) (pa_cons (pv 0) (pa_cons pe_int pa_nil))) (fun _ _ => rfl)) (pa_cons (pe_lst pa_nil) pa_nil)) rfl)
      (pss_cons (ps_for PassesOwn.never rfl (pi_range1 (by rfl) B.b_range (pa_cons (pe_wk (tCount) (pe_ifExp (pt_cmpR op_gt (pv 3) pe_int (nomark _)) (pe_cal c__law_next (hr.mono (by omega)) (pa_cons (pv 0) (pa_cons pe_int pa_nil))) pe_int) ?we) pa_nil)) (pg_name (i := 8) sc__law_rule.nd rfl (Or.inl rfl)) (pss_one (ps_if (pt_cmpR (op_neD hr.units) (pv 2) (pe_lst pa_nil) (nomark _)) (pss_one (ps_expr (pe_bm PySem.F.plainAttrs_list PySem.F.slot_list_append PySem.F.type_list_append mt_append (pv 7) (pa_cons (pe_cal c__law_rule hr (pa_cons (pv 0) (pa_cons (pv 1) (pa_cons (pv 2) (pa_cons (pe_op op_sub (pv 3) pe_int) pa_nil))))) pa_nil)))) pss_nil)))
      (pss_one (ps_ret (pe_tup (pa_cons (pv 4) (pa_cons (pe_ix ix_tup (pv 5) pe_int (fun _ _ => rfl)) (pa_cons (pe_ix ix_tup (pv 5) pe_int (fun _ _ => rfl)) (pa_cons (pv 6) (pa_cons (pe_callTy call_tuple_of (by rfl) B.b_tuple PyProof.Rows.boot_tuple (pa_cons (pv 7) pa_nil)) pa_nil))))))))))), ?_⟩
  case we =>
    rintro σ H1 Q1 ⟨a, l, deep, g0, g3, R, q⟩
    refine ⟨_, g3, deep, 0, rfl, rfl, _, rfl, bcase (fun c1 => ?_) (fun c1 => ?_)⟩
    · have c1 : 0 < deep := by have := of_decide_eq_true c1; omega
      refine ⟨_, g0, a, l, 3, rfl, R, by decide, small_lim (by decide) (by decide), fun H2 r k r0 r1 => ?_⟩
      obtain ⟨m, rfl⟩ := Int.eq_ofNat_of_zero_le r0
      exact q H2 m k (by omega) (.inr c1)
    · exact q H1 0 (Kp.refl R) (by decide) (.inl rfl)
  have hix : 0 < ((x :: ns).map V.str).length := by rw [List.length_map, List.length_cons]; omega
  refine ⟨_, rfl, .inl ⟨rfl, _, sqL_of en⟩, nl, _, _, 0, .str x, rfl, rfl, en, by omega, by decide, (ixN_seq (ixN_of hix)).1, rfl, ?_⟩
  have k1 : Kc a l nl H (upd H nl (.lst (ns.map V.str))) := (Kc.of R (Same.refl H)).count na nl'
  have en1 : (upd H nl (.lst (ns.map V.str))) nl = some (.lst (ns.map V.str)) := upd_same
  rw [show ((x :: ns).map V.str).eraseIdx 0 = ns.map V.str from rfl]
  generalize upd H nl (.lst (ns.map V.str)) = H1 at k1 en1 ⊢
  refine ⟨_, rfl, _, rfl, a, l, fp, fs, 2, rfl, k1.new, (k1.keeps en).tup hS, hfl, hfs, by decide, fun H2 p pw pb hs gs k2 ep epw epb sd => ⟨_, _, rfl, ?_⟩⟩
  have kc2 := k1.trans (Kp.kc k2)
  have en2 := k2.keep _ _ na nl' en1
  refine ⟨(by show 3 ≤ sizeLine; decide), fun lp nlp => ?_⟩
  have s3 : Same H2 (upd H2 lp (.lst (three.map V.str))) := (Same.refl H2).put nlp
  have elp : (upd H2 lp (.lst (three.map V.str))) lp = some (.lst (three.map V.str)) := upd_same
  obtain ⟨la, ll⟩ := kc2.new.no nlp
  have R3 := kc2.new.same s3
  refine ⟨_, rfl, a, l, 3, rfl, R3, by decide, small_lim (by decide) (by decide), fun H4 r4 k4 r40 r41 => ?_⟩
  obtain ⟨j, rfl⟩ := Int.eq_ofNat_of_zero_le r40
  have hj : j < three.length := by show j < 3; omega
  have elp4 := k4.keep _ _ la ll elp
  refine ⟨lp, _, _, .str three[j], rfl, rfl, sqL_of elp4, atI_nat (j := j) (by rw [List.getElem?_map, List.getElem?_eq_getElem hj]; rfl), ?_⟩
  have hrl : three[j] ∈ three := List.getElem_mem hj
  generalize three[j] = rl at hrl ⊢
  refine ⟨Nat.zero_le _, fun li ni => ⟨_, _, rfl, ?_⟩⟩
  have kp24 : Keeps NoL H2 H4 := s3.keeps.trans k4.keepsN
  have kc4 := (kc2.same s3).trans (Kp.kc k4)
  have en4 := k4.keep _ _ na nl' (s3 _ _ en2)
  obtain ⟨ia, il⟩ := kc4.new.no ni
  have inl : li ≠ nl := fun z => by rw [z, en4] at ni; cases ni
  have s5 : Same H4 (upd H4 li (.lst [])) := (Same.refl H4).put ni
  have ei5 : (upd H4 li (.lst [])) li = some (.lst []) := upd_same
  have fi : H li = none := kc4.free en4 ni
  have kc5 := kc4.same s5
  have en5 := s5 _ _ en4
  have kp25 : Keeps NoL H2 (upd H4 li (.lst [])) := kp24.trans s5.keeps
  generalize upd H4 li (.lst []) = H5 at s5 ei5 kc5 en5 kp25 ⊢
  refine ⟨a, l, deep, rfl, rfl, kc5.new, fun H6 n6 k6 hn6 hdn => ?_⟩
  have hxn := hnm x List.mem_cons_self
  refine ⟨_, rfl, by omega, by omega, for_it walk_range (fun i σ H' => ∃ (g : RF) (us : List V) (ns' : List Str) (y8 : Option V), σ = [some (.ref a), some (.ref fp), some (.ref nl), some (.int (deep : Nat)), some (.str x), some (.ref p), some (.str rl), some (.ref li), y8] ∧ Kc a l nl H H' ∧ Keeps NoL H2 H' ∧ H' li = some (.lst us) ∧ RowsAt K H' g us ∧ g.every (N2 fs) ∧
      g.names ++ ns' = ns ∧ H' nl = some (.lst (ns'.map V.str)) ∧ g.dep ≤ deep)
    ⟨.nil, [], ns, none, rfl, kc5.trans (Kp.kc k6), kp25.trans k6.keepsN, k6.keep _ _ ia il ei5, rfl, trivial, rfl, k6.keep _ _ na nl' en5, Nat.zero_le _⟩ (fun _ _ _ _ _ => trivial) ?_ ?_⟩
  · rintro i y σ H8 H7 hi ⟨g, us, ns', y8, rfl, kc, kp, ei, hg, hev, hnn, en, hdp⟩ ⟨rfl, hy⟩
    have hi : i < n6 := hi
    have hd0 : 0 < deep := by omega
    have hsub : ∀ y ∈ ns', isName y = true := fun y hy => hnm y (List.mem_cons_of_mem _ (by rw [← hnn]; exact List.mem_append_right _ hy))
    have hln : g.names.length + ns'.length = ns.length := by rw [← List.length_append, hnn]
    refine ⟨_, rfl, Nat.zero_le _, fun te nte => ⟨.list (ns'.map PyData.str), .list [], .lst (sqL_of (by rw [upd_ne (ne_of_none en nte)]; exact en)) (dps K _ _), .lst sqL_new .nil, shL (fun z hz => name_fine (hsub z hz)), rfl, _, rfl, ?_⟩⟩
    have ed : (PyData.list (ns'.map PyData.str)).eqv (.list []) = decide (ns' = []) := eqvA_nil _
    rw [ed]
    have s9 : Same H7 (upd H7 te (.lst [])) := (Same.refl H7).put nte
    have en9 := s9 _ _ en
    have ei9 := s9 _ _ ei
    have kc9 := kc.same s9
    have kp9 : Keeps NoL H2 (upd H7 te (.lst [])) := kp.trans s9.keeps
    have hg9 := hg.keeps (N := NoL) s9.keeps
    generalize upd H7 te (.lst []) = H9 at s9 en9 ei9 kc9 kp9 hg9 ⊢
    refine bcase (fun c1 => ?_) (fun c1 => ?_)
    · have c1 : ns' ≠ [] := of_decide_eq_false ((Bool.not_eq_true' _).mp c1)
      obtain ⟨x', r', rfl⟩ := List.exists_cons_of_ne_nil c1
      obtain ⟨d, rfl⟩ : ∃ d', d = d' + 1 := ⟨d - 1, by omega⟩
      refine ⟨_, rfl, .inl ⟨rfl, _, sqL_of ei9⟩, _, rfl, _, rfl, _, rfl, _, rfl, deep, 1, rfl, rfl, ?_⟩
      rw [List.length_cons] at hln
      refine ⟨a, l, fp, nl, fs, x', r', deep - 1, (by show [V.ref a, V.ref fp, V.ref nl, V.int ((deep : Int) - 1)] = _; rw [show (deep : Int) - 1 = ((deep - 1 : Nat) : Int) by omega]), kc9.new, (kc9.keeps (show H nl = some (.lst ((x :: ns).map V.str)) by assumption)).tup hS, hfs, hfl, en9, na, nl', hsub, by omega, by omega, fun H10 v n ns2 k10 hrow hN hNe hnn2 en10 hdn2 => ?_⟩
      have ei10 := k10.keep _ _ ia il inl ei9
      have kk10 : Keeps NoL H9 H10 := k10.keeps en9
      refine ⟨li, _, _, rfl, rfl, ei10, ?_, ?_⟩
      · have := hg.len
        have h2 := RF.nodes_le g
        have h3 : g.names.length = g.size := by unfold RF.names; rw [List.length_map, RF.pre_len]
        exact small1000 (by omega)
      have kw : Keeps NoL H10 (upd H10 li (.lst (us ++ [v]))) := keeps_own ei10 id
      refine ⟨g.snoc n, us ++ [v], ns2, _, rfl, (kc9.trans k10).put0 fi, (kp9.trans kk10).trans kw, upd_same, rows_snoc ((hg9.keeps kk10).keeps kw) (hrow.keeps kw), RF.snoc_every hev hN hNe, ?_, by rw [upd_ne inl.symm]; exact en10, ?_⟩
      · rw [RF.snoc_names, ← hnn, ← hnn2, List.append_assoc]
        rfl
      · rw [RF.snoc_dep]
        omega
    · exact ⟨g, us, ns', _, rfl, kc9, kp9, ei9, hg9, hev, hnn, en9, hdp⟩
  · rintro σ H7 ⟨g, us, ns', y8, rfl, kc, kp, ei, hg, hev, hnn, en, hdp⟩
    have ep7 : SqT K H7 p [.ref pw, .ref pb] := kp.tup (sqT_of ep)
    refine ⟨_, rfl, _, rfl, p, _, 0, _, rfl, rfl, ep7, atI_nat (j := 0) rfl, _, rfl, p, _, 1, _, rfl, rfl, ep7, atI_nat (j := 1) rfl, _, rfl, _, rfl, li, _, rfl, .inl ⟨sqL_of ei, fun t nt => ?_⟩⟩
    have s8 : Same H7 (upd H7 t (.tup us)) := (Same.refl H7).put nt
    have e8 : (upd H7 t (.tup us)) t = some (.tup us) := upd_same
    generalize upd H7 t (.tup us) = H8 at s8 e8 ⊢
    refine ⟨(by show 5 ≤ sizeLine; decide), fun t2 nt2 => ?_⟩
    have s9 : Same H8 (upd H8 t2 (.tup [.str x, .ref pw, .ref pb, .str rl, .ref t])) := (Same.refl H8).put nt2
    have e9 : (upd H8 t2 (.tup [.str x, .ref pw, .ref pb, .str rl, .ref t])) t2 = some (.tup [.str x, .ref pw, .ref pb, .str rl, .ref t]) := upd_same
    have s79 := s8.trans s9
    have kp9 : Keeps NoL H2 _ := kp.trans s79.keeps
    have h8 := sd.le
    refine q _ (.ref t2) ⟨x, hs, gs, rl, g⟩ ns' (kc.same s79) ⟨t2, pw, pb, t, us, rfl, sqT_of e9, kp9.tup (sqT_of epw), kp9.tup (sqT_of epb), sqT_of (s9 _ _ e8), hg.keeps (N := NoL) s79.keeps⟩ ⟨⟨hxn, three_name _ hrl, sd.r1.none (by show 0 + hs.length ≤ 8; omega) (fun _ _ h => nomatch h), sd.r2.none (by show hs.length + gs.length ≤ 8; omega) sd.dj⟩, sd.s1, sd.s2, hrl⟩ hev ?_ (s79 _ _ en) hdp
    show x :: (g.names ++ ns') = x :: ns
    rw [hnn]
theorem Kc.kp {H H' : Hp} {a l c : Addr} (k : Kc a l c H H') (n : H c = none) : Kp a l H H' := ⟨k.old, k.new, fun b o m1 m2 e => k.keep b o m1 m2 (ne_of_none e n) e⟩
/-- the names that rules are drawn from -/
def names12 : List Str := ["hue", "ox", "ab", "ivy", "tar", "bay", "elm", "sun", "cat", "zed", "kin", "rye"]
theorem names12_name : ∀ x ∈ names12, isName x = true := by decide +kernel
theorem names12_nodup : names12.Nodup := by decide +kernel
/-- a drawn book -/
structure Drawn2 (K : PySem.W.Frag) (H : Hp) (p fp : Addr) (fs : List Str) (f : RF) (rl : Str) : Prop where
  at_ : ∃ (pr : Addr) (ws : List V), H p = some (.tup [.ref fp, .ref pr, .str rl]) ∧ SqT K H pr ws ∧ RowsAt K H f ws
  ev : f.every (N2 fs)
  nm : ∃ k ns, f.names ++ ns = names12.drop k
  dp : f.dep ≤ 3
  rl : rl ∈ three
def sp_drawn (K : PySem.W.Frag) : Sp := fun vs H Q _ => ∃ (a l fp : Addr) (fs : List Str) (m : Nat), vs = [.ref a, .ref fp, .int (m : Nat)] ∧ RS H a l ∧ SqT K H fp (fs.map V.str) ∧ Right fs ∧ fs.length ≤ 60 ∧ m ≤ 20 ∧
  ∀ H' p f rl, Kp a l H H' → Drawn2 K H' p fp fs f rl → f.nodes.length ≤ m → Q (.ref p) H'
theorem ok_drawn {f : Addr} {fd : FuncData} (F : Fun K "_law_drawn" "_law_drawn" s__law_drawn f fd) (B : Blt mg) (c__law_next : Cal P w K mg base CX0 1 "_law_next" ["_law_h", "_law_limit"] sp_next)
    (c__law_rule : Cal P w K mg base CX0 5 "_law_rule" ["_law_h", "_law_facts_here", "_law_names", "_law_deep"] (sp_rule2 K 2)) : FnOk P w K mg base CX0 6 f fd ["_law_h", "_law_facts_here", "_law_most"] (sp_drawn K) := by
  refine F.ok sc__law_drawn (fun vs H Q E h => by obtain ⟨a, l, fp, fs, m, rfl, _⟩ := h; rfl) (fun cdv A outer s H vs Q E hr h => ?_)
  obtain ⟨a, l, fp, fs, m, rfl, R, hS, hfs, hfl, hm, q⟩ := h
  refine ⟨_, (pss_cons (ps_par (i := 3) (j := 4) rfl sc__law_drawn.nd rfl rfl (by decide) rfl rfl (pa_cons (pe_lst (pa_cons pe_str (pa_cons pe_str (pa_cons pe_str (pa_cons pe_str (pa_cons pe_str (pa_cons pe_str (pa_cons pe_str (pa_cons pe_str (pa_cons pe_str (pa_cons pe_str (pa_cons pe_str (pa_cons pe_str pa_nil))))))))))))) (pa_cons (pe_lst pa_nil) pa_nil)) rfl)
      (pss_cons (ps_set (i := 3) sc__law_drawn.nd rfl (Or.inl rfl) (pe_slice sl_list (pv 3) (po_some (pe_cal c__law_next (hr.mono (by decide)) (pa_cons (pv 0) (pa_cons pe_int pa_nil)))) po_none))
      (pss_cons (ps_for PassesOwn.never rfl (pi_range1 (by rfl) B.b_range (pa_cons (pe_cal c__law_next (hr.mono (by decide)) (pa_cons (pv 0) (pa_cons (pe_op op_add (pv 2) pe_int) pa_nil))) pa_nil)) (pg_name (i := 5) sc__law_drawn.nd rfl (Or.inl rfl)) (pss_one (ps_if (pt_cmpR (op_neD hr.units) (pv 3) (pe_lst pa_nil) (nomark _)) (pss_one (ps_expr (pe_bm PySem.F.plainAttrs_list PySem.F.slot_list_append PySem.F.type_list_append mt_append (pv 4) (pa_cons (pe_cal c__law_rule (hr.mono (by decide)) (pa_cons (pv 0) (pa_cons (pv 1) (pa_cons (pv 3) (pa_cons pe_int pa_nil))))) pa_nil)))) pss_nil)))
      (pss_one (ps_ret (pe_tup (pa_cons (pv 1) (pa_cons (pe_callTy call_tuple_of (by rfl) B.b_tuple PyProof.Rows.boot_tuple (pa_cons (pv 4) pa_nil)) (pa_cons (pe_ix ix_list (pe_lst (pa_cons pe_str (pa_cons pe_str (pa_cons pe_str pa_nil)))) (pe_cal c__law_next (hr.mono (by decide)) (pa_cons (pv 0) (pa_cons pe_int pa_nil))) (fun _ _ => rfl)) pa_nil))))))))), ?_⟩
  refine ⟨(by show 12 ≤ sizeLine; decide), fun l0 n0 => ⟨Nat.zero_le _, fun li ni => ⟨_, _, rfl, ?_⟩⟩⟩
  have s1 : Same H (upd H l0 (.lst (names12.map V.str))) := (Same.refl H).put n0
  have s2 : Same H (upd (upd H l0 (.lst (names12.map V.str))) li (.lst [])) := s1.put' ni
  have i0 : l0 ≠ li := ne_of_none upd_same ni
  have e0 : (upd (upd H l0 (.lst (names12.map V.str))) li (.lst [])) l0 = some (.lst (names12.map V.str)) := by rw [upd_ne i0]; exact upd_same
  have ei : (upd (upd H l0 (.lst (names12.map V.str))) li (.lst [])) li = some (.lst []) := upd_same
  have fi : H li = none := s1.free ni
  obtain ⟨ia, il⟩ := R.no fi
  obtain ⟨za, zl⟩ := R.no n0
  have R2 := R.same s2
  refine ⟨_, rfl, _, rfl, a, l, 4, rfl, R2, by decide, small_lim (by decide) (by decide), fun H3 r k3 r0 r1 => ?_⟩
  obtain ⟨k, rfl⟩ := Int.eq_ofNat_of_zero_le r0
  have e03 : H3 l0 = some (.lst (names12.map V.str)) := k3.keep _ _ za zl e0
  have ei3 : H3 li = some (.lst []) := k3.keep _ _ ia il ei
  have k03 : Kp a l H H3 := (Kp.of R s2).trans k3
  refine ⟨_, rfl, ?_⟩
  dsimp only [tNoPart]
  refine ⟨l0, _, rfl, sqL_of e03, fun nl nnl => ?_⟩
  rw [cut_from, ← List.map_drop]
  have s4 : Same H3 (upd H3 nl (.lst ((names12.drop k).map V.str))) := (Same.refl H3).put nnl
  have en4 : (upd H3 nl (.lst ((names12.drop k).map V.str))) nl = some (.lst ((names12.drop k).map V.str)) := upd_same
  have ei4 := s4 _ _ ei3
  have fn : H nl = none := k03.free nnl
  have inl : li ≠ nl := fun z => by rw [z, nnl] at ei3; cases ei3
  have k04 := k03.same s4
  generalize upd H3 nl (.lst ((names12.drop k).map V.str)) = H4 at s4 en4 ei4 k04 ⊢
  obtain ⟨na, nl'⟩ := R.no fn
  refine ⟨_, rfl, _, rfl, m, 1, rfl, rfl, a, l, _, rfl, k04.new, by omega, small_lim (by omega) (by omega), fun H5 r5 k5 r50 r51 => ?_⟩
  obtain ⟨n5, rfl⟩ := Int.eq_ofNat_of_zero_le r50
  have hdl : (names12.drop k).length ≤ 12 := by rw [List.length_drop]; exact Nat.sub_le _ _
  have hdn : ∀ y ∈ names12.drop k, isName y = true := fun y hy => names12_name y (List.mem_of_mem_drop hy)
  refine ⟨_, rfl, by omega, by omega, for_it walk_range (fun i σ H' => ∃ (g : RF) (us : List V) (ns' : List Str) (y5 : Option V), σ = [some (.ref a), some (.ref fp), some (.int (m : Nat)), some (.ref nl), some (.ref li), y5] ∧ Kc a l nl H H' ∧ H' li = some (.lst us) ∧ RowsAt K H' g us ∧ g.every (N2 fs) ∧
      g.names ++ ns' = names12.drop k ∧ H' nl = some (.lst (ns'.map V.str)) ∧ g.dep ≤ 3 ∧ g.nodes.length ≤ i)
    ⟨.nil, [], _, none, rfl, Kp.kc (k04.trans k5), k5.keep _ _ ia il ei4, rfl, trivial, rfl, k5.keep _ _ na nl' en4, Nat.zero_le _, Nat.le_refl _⟩ (fun _ _ _ _ _ => trivial) ?_ ?_⟩
  · rintro i y σ H8 H7 hi ⟨g, us, ns', y5, rfl, kc, ei, hg, hev, hnn, en, hdp, hgl⟩ ⟨rfl, hy⟩
    have hsub : ∀ y ∈ ns', isName y = true := fun y hy => hdn y (by rw [← hnn]; exact List.mem_append_right _ hy)
    have hln : g.names.length + ns'.length = (names12.drop k).length := by rw [← List.length_append, hnn]
    refine ⟨_, rfl, Nat.zero_le _, fun te nte => ⟨.list (ns'.map PyData.str), .list [], .lst (sqL_of (by rw [upd_ne (ne_of_none en nte)]; exact en)) (dps K _ _), .lst sqL_new .nil, shL (fun z hz => name_fine (hsub z hz)), rfl, _, rfl, ?_⟩⟩
    have ed : (PyData.list (ns'.map PyData.str)).eqv (.list []) = decide (ns' = []) := eqvA_nil _
    rw [ed]
    have s9 : Same H7 (upd H7 te (.lst [])) := (Same.refl H7).put nte
    have en9 := s9 _ _ en
    have ei9 := s9 _ _ ei
    have kc9 := kc.same s9
    have hg9 := hg.keeps (N := NoL) s9.keeps
    generalize upd H7 te (.lst []) = H9 at s9 en9 ei9 kc9 hg9 ⊢
    refine bcase (fun c1 => ?_) (fun c1 => ?_)
    · have c1 : ns' ≠ [] := of_decide_eq_false ((Bool.not_eq_true' _).mp c1)
      obtain ⟨x', r', rfl⟩ := List.exists_cons_of_ne_nil c1
      refine ⟨_, rfl, .inl ⟨rfl, _, sqL_of ei9⟩, _, rfl, _, rfl, _, rfl, ?_⟩
      rw [List.length_cons] at hln
      refine ⟨a, l, fp, nl, fs, x', r', 2, rfl, kc9.new, ((kc9.kp fn).tup hS), hfs, hfl, en9, na, nl', hsub, by omega, by decide, fun H10 v n ns2 k10 hrow hN hNe hnn2 en10 hdn2 => ?_⟩
      have ei10 := k10.keep _ _ ia il inl ei9
      have kk10 : Keeps NoL H9 H10 := k10.keeps en9
      refine ⟨li, _, _, rfl, rfl, ei10, ?_, ?_⟩
      · have := hg.len
        have h2 := RF.nodes_le g
        have h3 : g.names.length = g.size := by unfold RF.names; rw [List.length_map, RF.pre_len]
        exact small1000 (by omega)
      have kw : Keeps NoL H10 (upd H10 li (.lst (us ++ [v]))) := keeps_own ei10 id
      refine ⟨g.snoc n, us ++ [v], ns2, _, rfl, (kc9.trans k10).put0 fi, upd_same, rows_snoc ((hg9.keeps kk10).keeps kw) (hrow.keeps kw), RF.snoc_every hev hN hNe, ?_, by rw [upd_ne inl.symm]; exact en10, ?_, by rw [RF.snoc_nodes, List.length_append, List.length_singleton]; omega⟩
      · rw [RF.snoc_names, ← hnn, ← hnn2, List.append_assoc]
        rfl
      · rw [RF.snoc_dep]
        omega
    · exact ⟨g, us, ns', _, rfl, kc9, ei9, hg9, hev, hnn, en9, hdp, Nat.le_succ_of_le hgl⟩
  · rintro σ H7 ⟨g, us, ns', y5, rfl, kc, ei, hg, hev, hnn, en, hdp, hgl⟩
    have hgl : g.nodes.length ≤ n5 := hgl
    refine ⟨_, rfl, _, rfl, li, _, rfl, .inl ⟨sqL_of ei, fun t nt => ?_⟩⟩
    have s8 : Same H7 (upd H7 t (.tup us)) := (Same.refl H7).put nt
    have e8 : (upd H7 t (.tup us)) t = some (.tup us) := upd_same
    have kc8 := kc.same s8
    have hg8 := hg.keeps (N := NoL) s8.keeps
    have en8 := s8 _ _ en
    generalize upd H7 t (.tup us) = H8 at s8 e8 kc8 hg8 en8 ⊢
    refine ⟨(by show 3 ≤ sizeLine; decide), fun lp nlp => ?_⟩
    have s9 : Same H8 (upd H8 lp (.lst (three.map V.str))) := (Same.refl H8).put nlp
    have elp : (upd H8 lp (.lst (three.map V.str))) lp = some (.lst (three.map V.str)) := upd_same
    obtain ⟨la, ll⟩ := kc8.new.no nlp
    have kc9 := kc8.same s9
    refine ⟨_, rfl, a, l, 3, rfl, kc9.new, by decide, small_lim (by decide) (by decide), fun H10 r10 k10 r100 r101 => ?_⟩
    obtain ⟨j, rfl⟩ := Int.eq_ofNat_of_zero_le r100
    have hj : j < three.length := by show j < 3; omega
    have elp10 := k10.keep _ _ la ll elp
    refine ⟨lp, _, _, .str three[j], rfl, rfl, sqL_of elp10, atI_nat (j := j) (by rw [List.getElem?_map, List.getElem?_eq_getElem hj]; rfl), ?_⟩
    have hrl : three[j] ∈ three := List.getElem_mem hj
    generalize three[j] = rl at hrl ⊢
    refine ⟨(by show 3 ≤ sizeLine; decide), fun t2 nt2 => ?_⟩
    have kk : Keeps NoL H8 H10 := s9.keeps.trans k10.keepsN
    have s11 : Same H10 (upd H10 t2 (.tup [.ref fp, .ref t, .str rl])) := (Same.refl H10).put nt2
    refine q _ t2 g rl ((((kc9.trans (Kp.kc k10)).kp fn)).same s11) ⟨⟨t, us, upd_same, s11.tup (kk.tup (sqT_of e8)), (hg8.keeps kk).keeps (N := NoL) s11.keeps⟩, hev, ⟨k, ns', hnn⟩, hdp, hrl⟩ (by omega)
end
end Sc
namespace Sc
open PySem PySem.Spec PyProof.Rows L2
abbrev s_read_signs' : Stmt := s_read_signs
abbrev s_read_rule : Stmt := topS 52
theorem sc_read_rule : FnScope ["words", "facts", "before", "around", "outermost", "free", "name", "ruling", "holding", "failing", "other", "_"] ["words", "facts", "before"] (defScope s_read_rule) := ⟨rfl, rfl, rfl, by decide +kernel, rfl, by decide +kernel, by decide +kernel⟩
/-- a rule that is read -/
def TldAt (K : PySem.W.Frag) (C : Addr) (H : Hp) (v : V) (q : Nd × Nat) : Prop := ∃ (t c : Addr), v = .ref t ∧ H t = some (.tup [.int (q.2 : Nat), .str q.1.nm, .ref c, .str q.1.rl]) ∧ CondAt K C H c q.1.hs q.1.fs
theorem TldAt.keeps {K : PySem.W.Frag} {C : Addr} {N : Addr → Prop} {H H' : Hp} {v : V} {q : Nd × Nat} (h : TldAt K C H v q) (k : Keeps N H H') : TldAt K C H' v q := by
  obtain ⟨t, c, e, h1, h2⟩ := h
  exact ⟨t, c, e, k _ _ stays_tup h1, h2.keeps k⟩
def mostS (tl : List (Nd × Nat)) : Nat := match tl.getLast? with | none => 0 | some q => min (q.2 + 1) 5
def tMostS (K : PySem.W.Frag) (C : Addr) : TS := fun D σ H => ∃ (b : Addr) (us : List V) (tl : List (Nd × Nat)) (k : Nat), σ[1]? = some (some (.ref b)) ∧ σ.length = 4 ∧ H b = some (.lst us) ∧ All2 (TldAt K C H) us tl ∧ k ≤ mostS tl ∧ ∀ mo : Int, (k : Int) ≤ mo → D.nx (σ.set 2 (some (.int mo))) H
theorem fw_up {xs ys : List Str} (h : firstWrong xs ys = none) : xs.Pairwise SLt := by
  have step : ∀ i (hi : i + 1 < xs.length), SLt (xs[i]'(by omega)) xs[i + 1] := fun i hi => by
    have := (wrongs_none h (i + 1) hi).1.1
    rw [Bool.or_eq_false_iff] at this
    have h2 := this.2
    rw [risesAt_eq hi (by omega) (by omega)] at h2
    simp only [Bool.not_eq_false', decide_eq_true_eq] at h2
    exact h2
  rw [List.pairwise_iff_getElem]
  intro i j hi hj hij
  induction j with
  | zero => omega
  | succ j ih =>
    by_cases e : i = j
    · subst e
      exact step i hj
    · exact List.lt_trans (ih (by omega) (by omega)) (step j hj)
def tOM : TE := fun σ H Q => ∃ (k z : Nat), σ[3]? = some (some (.int (k : Nat))) ∧ σ[4]? = some (some (.int (z : Nat))) ∧ z ≤ 39 ∧ Q (.bl true) H
section
variable {P : Program} {w : World} {K : PySem.W.Frag} {mg : Str → Option Value} {base : Heap} {C R WD CC : Addr}
/-- a right condition is made -/
theorem mk_cond {C CC : Addr} {H : Hp} {c dxc wa ba : Addr} {hs fs : List Str} {Rx : Hp → Prop} {E : XK} (nc : H c = none) (ndc : H dxc = none) (hW : SqT K H wa (hs.map V.str)) (hB : SqT K H ba (fs.map V.str)) (c1 : firstWrong hs [] = none) (c2 : firstWrong fs hs = none) (l8 : hs.length + fs.length ≤ 8)
    (q : ∀ H', Same H H' → CondAt K C H' c hs fs → Rx H') : sp_cond_init K C CC [.ref c, .ref wa, .ref ba] (upd (upd H dxc (.own c)) c (.ins C dxc [])) (fun v H' => v = .non ∧ Rx H') E := by
  have s1 : Same H (upd (upd H dxc (.own c)) c (.ins C dxc [])) := ((Same.refl H).put ndc).put nc
  refine ⟨c, dxc, wa, ba, hs, fs, rfl, upd_same, s1.tup hW, s1.tup hB, fw_txts c1, fw_txts c2, by omega, by omega, (fun i e => by rw [c1] at e; cases e), fun _ => ⟨(fun i e => by rw [c2] at e; cases e), fun _ H2 nn zs sX hc hn hperm hsort => ⟨rfl, ?_⟩⟩⟩
  have s2 : Same H H2 := fun b' o' h => sX b' o' (fun e => by rw [e, nc] at h; cases h) (s1 _ _ h)
  exact q H2 s2 ⟨dxc, wa, ba, nn, zs, hc, s2.tup hW, s2.tup hB, hn, srt_uniq hperm hsort⟩
def sp_rsigns (K : PySem.W.Frag) (C WD : Addr) : Sp := fun vs H Q _ => ∃ (o b : Addr) (ws : List Str) (us : List V) (tl : List (Nd × Nat)) (k : Nat) (x : Str) (rest : List Str), vs = [.ref o, .ref b] ∧ WdAt WD o H ws 0 ∧ H b = some (.lst us) ∧ All2 (TldAt K C H) us tl ∧ ws = List.replicate k (Str.ofString ">") ++ x :: rest ∧ x ≠ Str.ofString ">" ∧ k ≤ mostS tl ∧
  ∀ H', WdAt WD o H' ws k → SameX o H H' → Q (.int (k : Nat)) H'
theorem ok_rsigns {f : Addr} {fd : FuncData} {t1 t2 : Tok} (F : Fun K "read_signs" "read_signs" s_read_signs f fd) (B : Blt mg) (CLw : Cls K WD) (m_MOST_AROUND : mg "MOST_AROUND" = some (.int 5 t1)) (m_SIGN : mg "SIGN" = some (.str ">" t2)) (mw_ahead : MethR P w K mg base 1 WD "ahead" ["self"] (sp_ahead WD)) (mw_take : MethR P w K mg base 2 WD "take" ["self", "right"] (sp_wtake WD)) :
    FnOk P w K mg base CX0 3 f fd ["words", "before"] (sp_rsigns K C WD) := by
  refine F.ok sc_read_signs (fun vs H Q E h => by obtain ⟨o, b, ws, us, tl, k, x, rest, rfl, _⟩ := h; rfl) (fun cdv A outer s H vs Q E hr h => ?_)
  obtain ⟨o, b, ws, us, tl, k, x, rest, rfl, hW, hb, hus, hws, hx, hk, q⟩ := h
  refine ⟨_, (pss_cons (wk_ps (tMostS K C) (ps_set (i := 2) sc_read_signs.nd rfl (Or.inl rfl) (pe_ifExp (pt_tru (pv 1) (by intro _; rfl)) (pe_callB (call_min2 rfl) (by rfl) B.b_min (by decide +kernel) (pa_cons (pe_op op_add (pe_ix ix_tup (pe_ix ix_list (pv 1) (pe_un un_neg pe_int) (fun _ _ => rfl)) pe_int (fun _ _ => rfl)) pe_int) (pa_cons (pe_glob (v := .int 5) rfl m_MOST_AROUND ⟨_, rfl⟩) pa_nil))) pe_int)) ?w1)
      (pss_cons (ps_set (i := 3) sc_read_signs.nd rfl (Or.inl rfl) pe_int)
      (pss_cons (ps_while PassesOwn.never (pt_cmpR op_eq (pe_me0 CLw mw_ahead (hr.mono (by decide)) (pv 0)) (pe_glob (v := .str ">") rfl m_SIGN ⟨_, rfl⟩) (nomark _)) (pss_cons (ps_expr (pe_me CLw mw_take (hr.mono (by decide)) (pv 0) (pa_cons (pe_cmpR op_lt (pv 3) (pv 2) (nomark _)) pa_nil)))
      (pss_one (ps_aug (i := 3) sc_read_signs.nd rfl (Or.inl rfl) pe_int ip_add))))
      (pss_one (ps_ret (pv 3)))))), ?_⟩
  case w1 =>
    rintro D σ H1 ⟨b, us, tl, k, g1, gl, hb, hus, hk, q⟩
    have hul := hus.len
    refine ⟨_, g1, _, .inl ⟨_, sqL_of hb, rfl⟩, ?_⟩
    rcases List.eq_nil_or_concat tl with h | ⟨tl', q0, h⟩
    · rw [h] at hus hk
      cases hus
      have hk0 : k = 0 := by unfold mostS at hk; exact Nat.le_zero.mp hk
      exact iteF (q 0 (by rw [hk0]; exact Int.le_refl 0))
    · rw [List.concat_eq_append] at h
      rw [h] at hus hk
      unfold mostS at hk
      rw [List.getLast?_concat] at hk
      have hk : k ≤ min (q0.2 + 1) 5 := hk
      obtain ⟨us', v, rfl, hv⟩ : ∃ us' v, us = us' ++ [v] ∧ TldAt K C H1 v q0 := by
        rcases List.eq_nil_or_concat us with z | ⟨a, b, z⟩
        · rw [z] at hus
          have := hus.len
          rw [List.length_append] at this
          cases this
        · rw [List.concat_eq_append] at z
          subst z
          have hl1 := hus.len
          rw [List.length_append, List.length_append] at hl1
          have hl1 : a.length = tl'.length := by
            have : a.length + 1 = tl'.length + 1 := hl1
            omega
          obtain ⟨m, hm, hr⟩ := hus.get (i := a.length) (by rw [List.getElem?_append_right (Nat.le_refl _), Nat.sub_self]; rfl)
          rw [hl1, List.getElem?_append_right (Nat.le_refl _), Nat.sub_self] at hm
          cases hm
          exact ⟨a, b, rfl, hr⟩
      have hne : (!(us' ++ [v]).isEmpty) = true := by cases us' <;> rfl
      rw [hne]
      obtain ⟨t, c, rfl, ht, _⟩ := hv
      refine iteT ⟨_, g1, 1, rfl, b, _, _, _, rfl, rfl, sqL_of hb, atI_last _ _, t, _, 0, _, rfl, rfl, sqT_of ht, atI_nat (j := 0) rfl, _, 1, rfl, rfl, _, 5, rfl, ?_⟩
      exact q _ (by split <;> omega)
  refine ⟨b, us, tl, k, rfl, rfl, hb, hus, hk, fun mo hmo => ?_⟩
  refine ⟨fun m σ H' => ∃ (i : Nat), m = k - i ∧ i ≤ k ∧ σ = [some (.ref o), some (.ref b), some (.int mo), some (.int (i : Nat))] ∧ SameX o H H' ∧ WdAt WD o H' ws i,
    ⟨_, 0, rfl, Nat.zero_le _, rfl, (Same.refl H).sx, hW⟩, ?_⟩
  rintro m σ H2 ⟨i, rfl, hi, rfl, s2, W2⟩
  obtain ⟨dx2, ll2, row2, ho2, _⟩ := id W2
  have hlr : (List.replicate k (Str.ofString ">")).length = k := List.length_replicate ..
  by_cases hi' : i < k
  · have hwi : ws[i]? = some (Str.ofString ">") := by rw [hws, List.getElem?_append_left (by omega), List.getElem?_replicate, if_pos hi']
    refine ⟨_, rfl, o, dx2, _, rfl, ho2, rfl, o, _, _, rfl, W2, ?_⟩
    rw [hwi]
    refine ⟨rfl, _, rfl, ?_⟩
    rw [show decide (optV (some (Str.ofString ">")) = V.str (Str.ofString ">")) = true from decide_eq_true rfl]
    refine iteT ?_
    refine ⟨fun σ' H' => σ' = [some (.ref o), some (.ref b), some (.int mo), some (.int ((i + 1 : Nat) : Int))] ∧ SameX o H H' ∧ WdAt WD o H' ws (i + 1), fun σ' H' h => ⟨_, (by omega), i + 1, rfl, hi', h⟩, ?_⟩
    refine ⟨_, rfl, o, dx2, _, rfl, ho2, rfl, _, rfl, _, rfl, _, _, rfl, rfl, o, _, i, _, vsT (decide_eq_true (by omega)), W2, hwi, fun H3 W3 s3 => ?_⟩
    exact ⟨_, rfl, _, _, rfl, rfl, rfl, s2.tr s3, W3⟩
  · have hik : i = k := by omega
    subst hik
    have hwi : ws[i]? = some x := by rw [hws, List.getElem?_append_right (by omega), hlr, Nat.sub_self]; rfl
    refine ⟨_, rfl, o, dx2, _, rfl, ho2, rfl, o, _, _, rfl, W2, ?_⟩
    rw [hwi]
    refine ⟨rfl, _, rfl, ?_⟩
    rw [show decide (optV (some x) = V.str (Str.ofString ">")) = false from decide_eq_false fun z => hx (V.str.inj z)]
    exact iteF ⟨_, rfl, q H2 W2 s2⟩
/-- what a row of a rule must be -/
structure RowR (xs : List Str) (tl : List (Nd × Nat)) (n : Nd) (k : Nat) : Prop where
  ok : NdOk n
  f1 : ∀ x ∈ n.hs, x ∈ xs
  f2 : ∀ x ∈ n.fs, x ∈ xs
  r1 : ¬ n.nm ∈ reserved
  r2 : ¬ n.rl ∈ reserved
  r3 : ∀ x ∈ n.hs, ¬ x ∈ reserved
  r4 : ∀ x ∈ n.fs, ¬ x ∈ reserved
  nw : ∀ q ∈ tl, n.nm ≠ q.1.nm
  ln : tl.length ≤ 39
  mo : k ≤ mostS tl
def sp_rrule (K : PySem.W.Frag) (C WD : Addr) : Sp := fun vs H Q _ => ∃ (o a b : Addr) (us : List V) (tl : List (Nd × Nat)) (xs : List Str) (n : Nd) (k : Nat), vs = [.ref o, .ref a, .ref b] ∧ WdAt WD o H (wordsN n k) 0 ∧ SqT K H a (xs.map V.str) ∧ H b = some (.lst us) ∧ All2 (TldAt K C H) us tl ∧ RowR xs tl n k ∧
  ∀ H' v, SameX o H H' → TldAt K C H' v (n, k) → Q v H'
theorem ok_rrule {f : Addr} {fd : FuncData} {t1 t2 : Tok} (F : Fun K "read_rule" "read_rule" s_read_rule f fd) (Bl : Blt mg) (CLw : Cls K WD) (m_MOST_RULES : mg "MOST_RULES" = some (.int 60 t1)) (m_MOST_OUTERMOST : mg "MOST_OUTERMOST" = some (.int 40 t2)) (k_Condition : Mkr P w K mg base 4 "Condition" C ["self", "holding", "failing"] (sp_cond_init K C CC))
    (mw_ahead : MethR P w K mg base 1 WD "ahead" ["self"] (sp_ahead WD)) (mw_check : MethR P w K mg base 1 WD "check" ["self", "right"] (sp_wcheck WD)) (mw_take : MethR P w K mg base 2 WD "take" ["self", "right"] (sp_wtake WD)) (mw_check_end : MethR P w K mg base 2 WD "check_end" ["self"] (sp_wend WD)) (c_is_free_name : Cal P w K mg base CX0 2 "is_free_name" ["word"] sp_free) (c_read_signs : Cal P w K mg base CX0 3 "read_signs" ["words", "before"] (sp_rsigns K C WD)) (c_read_part : Cal P w K mg base CX0 3 "read_part" ["words", "word", "facts", "taken"] (sp_rpart K WD)) :
    FnOk P w K mg base CX0 6 f fd ["words", "facts", "before"] (sp_rrule K C WD) := by
  refine F.ok sc_read_rule (fun vs H Q E h => by obtain ⟨o, a, b, us, tl, xs, n, k, rfl, _⟩ := h; rfl) (fun cdv A outer s H vs Q E hr h => ?_)
  obtain ⟨o, a, b, us, tl, xs, n, k, rfl, hW, hA, hb, hus, hR, q⟩ := h
  refine ⟨_, (pss_cons (ps_expr (pe_me CLw mw_check (hr.mono (by decide)) (pv 0) (pa_cons (pe_cmpR op_lt (pe_callB call_len_seq (by rfl) Bl.b_len PySem.boot_len (pa_cons (pv 2) pa_nil)) (pe_glob (v := .int 60) rfl m_MOST_RULES ⟨_, rfl⟩) (nomark _)) pa_nil)))
      (pss_cons (ps_set (i := 3) sc_read_rule.nd rfl (Or.inl rfl) (pe_cal c_read_signs (hr.mono (by decide)) (pa_cons (pv 0) (pa_cons (pv 2) pa_nil))))
      (pss_cons (ps_set (i := 4) sc_read_rule.nd rfl (Or.inl rfl) (pe_callB call_len_seq (by rfl) Bl.b_len PySem.boot_len (pa_cons (pe_lc (own := [("other", 10), ("_", 11)]) (g := gTup K 4 (gCons (gName 10) (gCons (gName 11) (gCons (gName 11) (gCons (gName 11) gNil))))) rfl sc_read_rule.nd (pi_list (pv 2)) (blkOk_by (own := [("other", 10), ("_", 11)]) (N := ["words", "facts", "before", "around", "outermost", "free", "name", "ruling", "holding", "failing", "other", "_"]) (sc := defScope s_read_rule) (by decide +kernel)) (fun _ _ _ _ _ => (pg_tup (by rfl) (pgs_cons (pg_name (i := 10) sc_read_rule.nd rfl (Or.inl rfl)) (pgs_cons (pg_name (i := 11) sc_read_rule.nd rfl (Or.inl rfl)) (pgs_cons (pg_name (i := 11) sc_read_rule.nd rfl (Or.inl rfl)) (pgs_cons (pg_name (i := 11) sc_read_rule.nd rfl (Or.inl rfl)) pgs_nil)))))) (fun _ _ _ _ _ => (pts_.re (pts_one (pt_cmpR op_eq (pv 10) pe_int (nomark _))) (by first | (dsimp only [Cx.blk]; done) | exact rfl))) (fun _ _ _ _ _ => (pe_.re (pv 10) (by first | (dsimp only [Cx.blk]; done) | exact rfl)))) pa_nil)))
      (pss_cons (ps_expr (pe_me CLw mw_check (hr.mono (by decide)) (pv 0) (pa_cons (pe_wk (tOM) (pe_or (pe_cmpR op_gt (pv 3) pe_int (nomark _)) (pe_one (pe_cmpR op_lt (pv 4) (pe_glob (v := .int 40) rfl m_MOST_OUTERMOST ⟨_, rfl⟩) (nomark _)))) ?w1) pa_nil)))
      (pss_cons (ps_set (i := 5) sc_read_rule.nd rfl (Or.inl rfl) (pe_cmpR op_notIn_seq (pe_me0 CLw mw_ahead (hr.mono (by decide)) (pv 0)) (pe_lc (own := [("_", 11), ("other", 10)]) (g := gTup K 4 (gCons (gName 11) (gCons (gName 10) (gCons (gName 11) (gCons (gName 11) gNil))))) (tt := tYes) rfl sc_read_rule.nd (pi_list (pv 2)) (blkOk_by (own := [("_", 11), ("other", 10)]) (N := ["words", "facts", "before", "around", "outermost", "free", "name", "ruling", "holding", "failing", "other", "_"]) (sc := defScope s_read_rule) (by decide +kernel)) (fun _ _ _ _ _ => (pg_tup (by rfl) (pgs_cons (pg_name (i := 11) sc_read_rule.nd rfl (Or.inl rfl)) (pgs_cons (pg_name (i := 10) sc_read_rule.nd rfl (Or.inl rfl)) (pgs_cons (pg_name (i := 11) sc_read_rule.nd rfl (Or.inl rfl)) (pgs_cons (pg_name (i := 11) sc_read_rule.nd rfl (Or.inl rfl)) pgs_nil)))))) (fun _ _ _ _ _ => pts_nil) (fun _ _ _ _ _ => (pe_.re (pv 10) (by first | (dsimp only [Cx.blk]; done) | exact rfl)))) rfl))
      (pss_cons (ps_set (i := 6) sc_read_rule.nd rfl (Or.inl rfl) (pe_me CLw mw_take (hr.mono (by decide)) (pv 0) (pa_cons (pe_and (pv 5) (pe_one (pe_cal c_is_free_name (hr.mono (by decide)) (pa_cons (pe_me0 CLw mw_ahead (hr.mono (by decide)) (pv 0)) pa_nil)))) pa_nil)))
      (pss_cons (ps_expr (pe_me CLw mw_take (hr.mono (by decide)) (pv 0) (pa_cons (pe_cmpR op_eq (pe_me0 CLw mw_ahead (hr.mono (by decide)) (pv 0)) pe_str (nomark _)) pa_nil)))
      (pss_cons (ps_set (i := 7) sc_read_rule.nd rfl (Or.inl rfl) (pe_me CLw mw_take (hr.mono (by decide)) (pv 0) (pa_cons (pe_cal c_is_free_name (hr.mono (by decide)) (pa_cons (pe_me0 CLw mw_ahead (hr.mono (by decide)) (pv 0)) pa_nil)) pa_nil)))
      (pss_cons (ps_set (i := 8) sc_read_rule.nd rfl (Or.inl rfl) (pe_cal c_read_part (hr.mono (by decide)) (pa_cons (pv 0) (pa_cons pe_str (pa_cons (pv 1) (pa_cons (pe_tup pa_nil) pa_nil))))))
      (pss_cons (ps_set (i := 9) sc_read_rule.nd rfl (Or.inl rfl) (pe_cal c_read_part (hr.mono (by decide)) (pa_cons (pv 0) (pa_cons pe_str (pa_cons (pv 1) (pa_cons (pv 8) pa_nil))))))
      (pss_cons (ps_expr (pe_me0 CLw mw_check_end (hr.mono (by decide)) (pv 0)))
      (pss_one (ps_ret (pe_tup (pa_cons (pv 3) (pa_cons (pv 6) (pa_cons (pe_mkN k_Condition (hr.mono (by decide)) (pa_cons (pv 8) (pa_cons (pv 9) pa_nil))) (pa_cons (pv 7) pa_nil)))))))))))))))))), ?_⟩
  case w1 =>
    rintro σ H1 Q ⟨k, z, g3, g4, hz, q⟩
    refine ⟨_, g3, _, 0, rfl, rfl, _, rfl, bcase (fun c => ?_) (fun c => ?_)⟩
    · exact q
    · refine ⟨_, g4, _, 40, rfl, rfl, ?_⟩
      show Q (V.bl (decide ((z : Int) < 40))) H1
      rw [decide_eq_true (by omega)]
      exact q
  have hul := hus.len
  have hln := hR.ln
  have hok := hR.ok
  obtain ⟨dx, ll, row, ho, _⟩ := id hW
  refine ⟨_, rfl, o, dx, _, rfl, ho, rfl, _, rfl, b, _, rfl, .inl (sqL_of hb), _, 60, rfl, rfl, o, _, 0, vsT (decide_eq_true (by omega)), hW, ?_⟩
  have hbo : b ≠ o := fun z => by rw [z, ho] at hb; cases hb
  have hgt : n.nm ≠ Str.ofString ">" := fun z => by have := hok.nm; rw [z] at this; exact absurd this (by decide +kernel)
  have hw0 : wordsN n k = List.replicate k (Str.ofString ">") ++ n.nm :: (Str.ofString "is" :: n.rl :: (partW "if" n.hs ++ partW "not" n.fs)) := by unfold wordsN; simp
  have hlr : (List.replicate k (Str.ofString ">")).length = k := List.length_replicate ..
  refine ⟨_, rfl, _, rfl, o, b, wordsN n k, us, tl, k, n.nm, _, rfl, hW, hb, hus, hw0, hgt, hR.mo, fun H1 W1 s1 => ?_⟩
  have hb1 := s1 _ _ hbo hb
  have hus1 : All2 (TldAt K C H1) us tl := hus.mono fun _ _ x => x.keeps (N := NoL) (hW.keeps s1)
  refine ⟨_, rfl, b, rfl, ⟨_, sqL_of hb1⟩, fun D1 nD1 => lc_it walk_list (fun i H' => Same H1 H' ∧ ∃ zs : List V, H' D1 = some (.lst zs) ∧ zs.length ≤ i) ⟨(Same.refl H1).put nD1, [], upd_same, Nat.le_refl _⟩ (fun _ _ _ h => sqL_of (h.1 _ _ hb1)) ?_ ?_⟩
  · rintro i y H2 H3 hi ⟨s, zs, e, hzl⟩ ⟨rfl, hy⟩
    obtain ⟨q0, hq0, t, c, rfl, ht, _⟩ := hus1.get hy
    have hi : i < us.length := hi
    refine ⟨t, _, rfl, s.tup (sqT_of ht), rfl, _, _, rfl, _, _, rfl, _, _, rfl, _, _, rfl, rfl, rfl, _, rfl, rfl, _, rfl, bcase (fun c => ?_) (fun c => ?_)⟩
    · exact ⟨_, rfl, zs, e, small1000 (by omega), s.put nD1, _, upd_same, by rw [List.length_append]; show _ + 1 ≤ _; omega⟩
    · exact ⟨s, zs, e, by omega⟩
  rintro H2 ⟨s2, zs, e2, hzl⟩
  have W2 := W1.same s2
  obtain ⟨dx2, ll2, row2, ho2, _⟩ := id W2
  refine ⟨D1, zs, rfl, .inl (sqL_of e2), ?_⟩
  refine ⟨_, rfl, o, dx2, _, rfl, ho2, rfl, k, zs.length, rfl, rfl, by omega, o, _, k, rfl, W2, ?_⟩
  have hk : (wordsN n k)[k]? = some n.nm := by rw [hw0, List.getElem?_append_right (by omega), hlr, Nat.sub_self]; rfl
  have hk1 : (wordsN n k)[k + 1]? = some (Str.ofString "is") := by rw [hw0, List.getElem?_append_right (by omega), hlr, show k + 1 - k = 1 by omega]; rfl
  have hk2 : (wordsN n k)[k + 2]? = some n.rl := by rw [hw0, List.getElem?_append_right (by omega), hlr, show k + 2 - k = 2 by omega]; rfl
  have hb2 := s2 _ _ hb1
  have hus2 : All2 (TldAt K C H2) us tl := hus1.mono fun _ _ x => x.keeps (N := NoL) s2.keeps
  refine ⟨_, rfl, o, dx2, _, rfl, ho2, rfl, o, _, k, rfl, W2, ?_⟩
  rw [hk]
  refine ⟨_, rfl, b, rfl, ⟨_, sqL_of hb2⟩, fun D2 nD2 => lc_it walk_list (fun i H' => Same H2 H' ∧ H' D2 = some (.lst (((tl.take i).map fun q => q.1.nm).map V.str))) ⟨(Same.refl H2).put nD2, upd_same⟩ (fun _ _ _ h => sqL_of (h.1 _ _ hb2)) ?_ ?_⟩
  · rintro i y H3 H4 hi ⟨s, e⟩ ⟨rfl, hy⟩
    obtain ⟨q0, hq0, t, c, rfl, ht, _⟩ := hus2.get hy
    have hi : i < us.length := hi
    refine ⟨t, _, rfl, s.tup (sqT_of ht), rfl, _, _, rfl, _, _, rfl, _, _, rfl, _, _, rfl, rfl, rfl, yes_ ⟨_, rfl, _, e, ?_, s.put nD2, ?_⟩⟩
    · rw [List.length_map, List.length_map, List.length_take]
      exact small1000 (by omega)
    · rw [upd_same, take_more hq0, List.map_append, List.map_append]
      rfl
  rintro H3 ⟨s3, e3⟩
  rw [hul, List.take_length] at e3
  have W3 := W2.same s3
  obtain ⟨dx3, ll3, row3, ho3, _⟩ := id W3
  have hnin : ¬ n.nm ∈ tl.map fun q => q.1.nm := fun z => by obtain ⟨q0, h1, h2⟩ := List.mem_map.mp z; exact hR.nw q0 h1 h2.symm
  refine ⟨D2, _, rfl, .inl (sqL_of e3), rfl, flat_strs _, ?_⟩
  rw [if_pos rfl]
  show gName 5 (V.bl (!inV (.str n.nm) _)) _ _ _
  rw [inV_str, decide_eq_false hnin]
  refine ⟨_, rfl, o, dx3, _, rfl, ho3, rfl, _, rfl, true, rfl, iteT ?_⟩
  refine ⟨_, rfl, o, dx3, _, rfl, ho3, rfl, o, _, k, rfl, W3, ?_⟩
  rw [hk]
  refine ⟨n.nm, rfl, hok.nm, hR.r1, fun H4 s4 => ?_⟩
  have W4 := W3.same s4
  refine ⟨o, _, k, n.nm, rfl, W4, hk, fun H5 W5 s5 => ?_⟩
  obtain ⟨dx5, ll5, row5, ho5, _⟩ := id W5
  refine ⟨_, rfl, o, dx5, _, rfl, ho5, rfl, _, rfl, o, dx5, _, rfl, ho5, rfl, o, _, k + 1, rfl, W5, ?_⟩
  rw [hk1]
  refine ⟨rfl, o, _, k + 1, _, vsT (decide_eq_true rfl), W5, hk1, fun H6 W6 s6 => ?_⟩
  obtain ⟨dx6, ll6, row6, ho6, _⟩ := id W6
  refine ⟨_, rfl, o, dx6, _, rfl, ho6, rfl, _, rfl, o, dx6, _, rfl, ho6, rfl, o, _, k + 2, rfl, W6, ?_⟩
  rw [hk2]
  refine ⟨n.rl, rfl, hok.rl, hR.r2, fun H7 s7 => ?_⟩
  have W7 := W6.same s7
  refine ⟨o, _, k + 2, n.rl, rfl, W7, hk2, fun H8 W8 s8 => ?_⟩
  have s08 : SameX o H H8 := s1.tr ((s2.trans (s3.trans s4)).sx.tr (s5.tr (s6.tr (s7.sx.tr s8))))
  obtain ⟨dx8, ll8, row8, ho8, _⟩ := id W8
  have hrest : (wordsN n k).drop (k + 3) = partW "if" n.hs ++ partW "not" n.fs := by
    have h1 : (wordsN n k).drop k = n.nm :: (Str.ofString "is" :: n.rl :: (partW "if" n.hs ++ partW "not" n.fs)) := by
      rw [hw0]
      have := List.drop_left (l₁ := List.replicate k (Str.ofString ">")) (l₂ := n.nm :: (Str.ofString "is" :: n.rl :: (partW "if" n.hs ++ partW "not" n.fs)))
      rw [hlr] at this
      exact this
    rw [← List.drop_drop, h1]
    rfl
  have c1 := hok.c1
  have c2 := hok.c2
  have l1 := fw_len c1
  have l2 := fw_len c2
  simp only [List.length_nil] at l1
  have hnot0 : partW "not" n.fs = [] ∨ (partW "not" n.fs)[0]? = some (Str.ofString "not") := by
    unfold partW
    by_cases h : n.fs = []
    · rw [if_pos h]; exact .inl rfl
    · rw [if_neg h]; exact .inr rfl
  have P1 : PartOk "if" xs [] n.hs (partW "not" n.fs) := ⟨fun _ => by
    rcases hnot0 with h | h
    · rw [h]; intro z; cases z
    · rw [h]; intro z; exact absurd (Option.some.inj z) (by decide +kernel), hnot0, fw_up c1, fw_names c1, hR.f1, (fun _ _ z => nomatch z), hR.r3, by show 0 + n.hs.length ≤ 8; omega⟩
  have P2 : PartOk "not" xs n.hs n.fs [] := ⟨(fun _ z => by cases z), .inl rfl, fw_up c2, fw_names c2, hR.f2, fw_out c2, hR.r4, by omega⟩
  have hA8 : SqT K H8 a (xs.map V.str) := (hW.keeps (N := NoL) s08).tup hA
  refine ⟨_, rfl, _, rfl, Nat.zero_le _, fun te nte => ?_⟩
  have s9 : Same H8 (upd H8 te (.tup [])) := (Same.refl H8).put nte
  refine ⟨o, a, te, wordsN n k, k + 3, xs, [], n.hs, partW "not" n.fs, "if", rfl, W8.same s9, s9.tup hA8, sqT_new, hrest, P1, fun H10 p10 W10 s10 hp10 => ?_⟩
  have s810 := s9.sx.tr s10
  have hA10 : SqT K H10 a (xs.map V.str) := (W8.keeps (N := NoL) s810).tup hA8
  have hz2 : (wordsN n k).drop (k + 3 + (partW "if" n.hs).length) = partW "not" n.fs ++ [] := by rw [← List.drop_drop, hrest, List.drop_left, List.append_nil]
  refine ⟨_, rfl, _, rfl, _, rfl, o, a, p10, wordsN n k, _, xs, n.hs, n.fs, [], "not", rfl, W10, hA10, hp10, hz2, P2, fun H11 p11 W11 s11 hp11 => ?_⟩
  have hp10' : SqT K H11 p10 (n.hs.map V.str) := (W10.keeps (N := NoL) s11).tup hp10
  have hend : k + 3 + (partW "if" n.hs).length + (partW "not" n.fs).length = (wordsN n k).length := by
    have h1 := congrArg List.length hrest
    rw [List.length_drop, List.length_append] at h1
    have h2 : k + 2 < (wordsN n k).length := (List.getElem?_eq_some_iff.mp hk2).1
    omega
  rw [hend] at W11
  obtain ⟨dx11, ll11, row11, ho11, _⟩ := id W11
  refine ⟨_, rfl, o, dx11, _, rfl, ho11, rfl, o, _, rfl, W11, ?_⟩
  refine ⟨_, rfl, _, rfl, _, rfl, _, rfl, fun cd dxc nc ndc nec => ?_⟩
  refine mk_cond nc ndc hp10' hp11 c1 c2 (by omega) fun H12 s12 hC12 => ?_
  refine ⟨_, rfl, (by show 4 ≤ sizeLine; decide), fun t nt => ?_⟩
  have s13 : Same H12 (upd H12 t (.tup [.int (k : Nat), .str n.nm, .ref cd, .str n.rl])) := (Same.refl H12).put nt
  exact q _ (.ref t) (((s08.tr s810).tr s11).tr (s12.trans s13).sx) ⟨t, cd, rfl, upd_same, hC12.same s13⟩
end
end Sc
namespace Sc
open PySem PySem.Spec PyProof.Rows L2
/-! ### rules put together from their rows, the last one first -/
def stp (q : Nd × Nat) (W : Nat → List Nd) : Nat → List Nd := fun d => if d = q.2 then q.1 :: W q.2 else if d = q.2 + 1 then [] else W d
def proc (l : List (Nd × Nat)) (W : Nat → List Nd) : Nat → List Nd := l.foldr stp W
theorem proc_app (a b : List (Nd × Nat)) (W : Nat → List Nd) : proc (a ++ b) W = proc a (proc b W) := List.foldr_append ..
theorem proc_pre : ∀ (f : RF) (k : Nat) (W : Nat → List Nd), (∀ d, k < d → W d = []) → proc (f.pre k) W = fun d => if d = k then f.nodes ++ W k else W d
  | .nil, k, W, _ => by
    funext d
    show W d = if d = k then [] ++ W k else W d
    by_cases h : d = k
    · rw [if_pos h, h]; rfl
    · rw [if_neg h]
  | .cons nm hs fs rl exc rest, k, W, hW => by
    have h1 := proc_pre rest k W hW
    have hW1 : ∀ d, k + 1 < d → proc (rest.pre k) W d = [] := fun d hd => by rw [h1]; show (if d = k then _ else W d) = []; rw [if_neg (by omega)]; exact hW d (by omega)
    have h2 := proc_pre exc (k + 1) (proc (rest.pre k) W) hW1
    show stp (⟨nm, hs, fs, rl, exc⟩, k) (proc (exc.pre (k + 1) ++ rest.pre k) W) = _
    rw [proc_app]
    generalize hW2 : proc (exc.pre (k + 1)) (proc (rest.pre k) W) = W2 at h2
    have g0 : W2 k = rest.nodes ++ W k := by
      rw [h2]
      show (if k = k + 1 then _ else proc (rest.pre k) W k) = _
      rw [if_neg (by omega), h1]
      show (if k = k then _ else W k) = _
      rw [if_pos rfl]
    have g1 : ∀ d, d ≠ k → d ≠ k + 1 → W2 d = W d := fun d e1 e2 => by
      rw [h2]
      show (if d = k + 1 then _ else proc (rest.pre k) W d) = _
      rw [if_neg e2, h1]
      show (if d = k then _ else W d) = _
      rw [if_neg e1]
    funext d
    show (if d = k then (⟨nm, hs, fs, rl, exc⟩ : Nd) :: W2 k else if d = k + 1 then [] else W2 d) = if d = k then (⟨nm, hs, fs, rl, exc⟩ : Nd) :: rest.nodes ++ W k else W d
    by_cases e : d = k
    · rw [if_pos e, if_pos e, g0]
      rfl
    · rw [if_neg e, if_neg e]
      by_cases e2 : d = k + 1
      · rw [if_pos e2, e2]
        exact (hW _ (by omega)).symm
      · rw [if_neg e2, g1 d e e2]
/-- what waits behind each row are its exceptions -/
theorem proc_exc : ∀ (f : RF) (k : Nat) (W : Nat → List Nd), (∀ d, k < d → W d = []) → ∀ (a r : List (Nd × Nat)) (q : Nd × Nat), f.pre k = a ++ q :: r → proc r W (q.2 + 1) = q.1.exc.nodes
  | .nil, k, W, _, a, r, q, h => by
    have h : [] = a ++ q :: r := h
    cases a <;> cases h
  | .cons nm hs fs rl exc rest, k, W, hW, a, r, q, h => by
    have h1 := proc_pre rest k W hW
    have hW1 : ∀ d, k + 1 < d → proc (rest.pre k) W d = [] := fun d hd => by rw [h1]; show (if d = k then _ else W d) = []; rw [if_neg (by omega)]; exact hW d (by omega)
    have h2 := proc_pre exc (k + 1) (proc (rest.pre k) W) hW1
    have h : (((⟨nm, hs, fs, rl, exc⟩ : Nd), k) :: (exc.pre (k + 1) ++ rest.pre k)) = a ++ q :: r := h
    cases a with
    | nil =>
      injection h with e1 e2
      subst e1 e2
      rw [proc_app, h2]
      show (if k + 1 = k + 1 then exc.nodes ++ proc (rest.pre k) W (k + 1) else _) = exc.nodes
      rw [if_pos rfl, h1]
      show exc.nodes ++ (if k + 1 = k then _ else W (k + 1)) = _
      rw [if_neg (by omega), hW _ (by omega), List.append_nil]
    | cons x a =>
      injection h with e1 e2
      rcases List.append_eq_append_iff.mp e2 with ⟨c, h3, h4⟩ | ⟨c, h3, h4⟩
      · exact proc_exc rest k W hW c r q h4
      · cases c with
        | nil => exact proc_exc rest k W hW [] r q h4.symm
        | cons y c =>
          injection h4 with e3 e4
          subst e3 e4
          show proc (c ++ rest.pre k) W (q.2 + 1) = _
          rw [proc_app]
          exact proc_exc exc (k + 1) (proc (rest.pre k) W) hW1 a c q h3
theorem proc_all (f : RF) : proc (f.pre 0) (fun _ => []) 0 = f.nodes := by
  rw [proc_pre f 0 _ fun _ _ => rfl]
  show (if 0 = 0 then f.nodes ++ [] else []) = _
  rw [if_pos rfl, List.append_nil]
end Sc
namespace Sc
open PySem PySem.Spec PyProof.Rows L2
abbrev s_rules_told : Stmt := topS 55
theorem sc_rules_told : FnScope ["told", "waiting", "around", "name", "condition", "ruling", "exceptions", "_"] ["told"] (defScope s_rules_told) := ⟨rfl, rfl, rfl, by decide +kernel, rfl, by decide +kernel, by decide +kernel⟩
section
variable {P : Program} {w : World} {K : PySem.W.Frag} {mg : Str → Option Value} {base : Heap} {C R WD CC CR : Addr}
/-- the lists of the rules that wait -/
structure Wait (K : PySem.W.Frag) (C R : Addr) (N : Addr → Prop) (H0 : Hp) (Dw : Addr) (ls : List Addr) (W : Nat → List Nd) (i : Nat) (H : Hp) : Prop where
  sm : Same H0 H
  dw : H Dw = some (.lst (ls.map V.ref))
  ln : ls.length = 7
  nd : ls.Nodup
  ne : ¬ Dw ∈ ls
  dn : H0 Dw = none
  fr : ∀ l ∈ ls, H0 l = none
  at_ : ∀ d l, ls[d]? = some l → ∃ us, H l = some (.lst us) ∧ us.length ≤ i ∧ All2 (RefAt K C R (fun b => N b ∧ b ≠ Dw ∧ ¬ b ∈ ls) H) us (W d).reverse
namespace RF
theorem pre_in {p : Nd → Prop} : ∀ {f : RF} {k : Nat}, ∀ q ∈ f.pre k, q.1.exc.dep + 1 ≤ f.dep ∧ q.1.exc.size + 1 ≤ f.size ∧ (f.every p → p q.1 ∧ q.1.exc.every p)
  | .nil, _, q, h => nomatch h
  | .cons n hs fs rl exc rest, k, q, h => by
    show q.1.exc.dep + 1 ≤ max (exc.dep + 1) rest.dep ∧ q.1.exc.size + 1 ≤ exc.size + 1 + rest.size ∧ _
    rcases List.mem_cons.mp h with rfl | h
    · exact ⟨Nat.le_max_left _ _, Nat.le_add_right _ _, fun e => ⟨e.1, e.2.1⟩⟩
    · rcases List.mem_append.mp h with h | h
      · have ⟨h1, h2, h3⟩ := pre_in (p := p) (f := exc) q h
        exact ⟨by omega, by omega, fun e => h3 e.2.1⟩
      · have ⟨h1, h2, h3⟩ := pre_in (p := p) (f := rest) q h
        exact ⟨by omega, by omega, fun e => h3 e.2.2⟩
end RF
theorem All2.rev {α β : Type} {R : α → β → Prop} {as : List α} {bs : List β} (h : All2 R as bs) : All2 R as.reverse bs.reverse := by
  induction h with
  | nil => exact .nil
  | cons h _ ih => rw [List.reverse_cons, List.reverse_cons]; exact ih.snoc h
theorem Wait.same {N : Addr → Prop} {H0 H H' : Hp} {Dw : Addr} {ls : List Addr} {W : Nat → List Nd} {i : Nat} (h : Wait K C R N H0 Dw ls W i H) (s : Same H H') : Wait K C R N H0 Dw ls W i H' :=
  ⟨h.sm.trans s, s _ _ h.dw, h.ln, h.nd, h.ne, h.dn, h.fr, fun d l e => by obtain ⟨us, h1, h2, h3⟩ := h.at_ d l e; exact ⟨us, s _ _ h1, h2, h3.mono fun _ _ x => x.keeps s.keeps⟩⟩
/-- a list of those that wait is replaced by a new one -/
theorem Wait.set {N : Addr → Prop} {H0 H : Hp} {Dw Dn : Addr} {ls : List Addr} {W : Nat → List Nd} {i k : Nat} (h : Wait K C R N H0 Dw ls W i H) (n : H Dn = none) (hk : k < 7) :
    Wait K C R N H0 Dw (ls.set k Dn) (fun d => if d = k then [] else W d) i (upd (upd H Dn (.lst [])) Dw (.lst ((ls.set k Dn).map V.ref))) := by
  have nD : Dn ≠ Dw := fun z => by rw [z, h.dw] at n; cases n
  have nH0 : H0 Dn = none := h.sm.free n
  have nls : ¬ Dn ∈ ls := fun z => by
    obtain ⟨d, hd⟩ := List.mem_iff_getElem?.mp z
    obtain ⟨us, h1, _⟩ := h.at_ d Dn hd
    rw [h1] at n
    cases n
  have hkl : k < ls.length := by rw [h.ln]; exact hk
  have mem : ∀ b, b ∈ ls.set k Dn → b = Dn ∨ b ∈ ls := fun b hb => (List.mem_or_eq_of_mem_set hb).symm
  refine ⟨(h.sm.put' n).put h.dn, upd_same, by rw [List.length_set]; exact h.ln, ?_, fun z => (mem _ z).elim (fun z => nD z.symm) h.ne, h.dn, fun l hl => (mem l hl).elim (fun z => z ▸ nH0) (h.fr l), fun d l e => ?_⟩
  · refine List.pairwise_iff_getElem.mpr fun i j hi hj hij => ?_
    rw [List.length_set] at hi hj
    rw [List.getElem_set, List.getElem_set]
    by_cases e1 : k = i
    · rw [if_pos e1, if_neg (by omega)]
      exact fun z => nls (z ▸ List.getElem_mem hj)
    · rw [if_neg e1]
      by_cases e2 : k = j
      · rw [if_pos e2]
        exact fun z => nls (z ▸ List.getElem_mem hi)
      · rw [if_neg e2]
        exact List.pairwise_iff_getElem.mp h.nd i j hi hj hij
  · rw [List.getElem?_set] at e
    by_cases e1 : k = d
    · rw [if_pos e1, if_pos hkl] at e
      cases e
      refine ⟨[], by rw [upd_ne nD]; exact upd_same, Nat.zero_le _, ?_⟩
      show All2 _ [] (if d = k then [] else W d).reverse
      rw [if_pos e1.symm]
      exact .nil
    · rw [if_neg e1] at e
      obtain ⟨us, h1, h2, h3⟩ := h.at_ d l e
      have hl : l ∈ ls := List.mem_of_getElem? e
      have lD : l ≠ Dn := fun z => nls (z ▸ hl)
      have lw : l ≠ Dw := fun z => h.ne (z ▸ hl)
      refine ⟨us, by rw [upd_ne lw, upd_ne lD]; exact h1, h2, ?_⟩
      show All2 _ us (if d = k then [] else W d).reverse
      rw [if_neg fun z => e1 z.symm]
      have k1 : Keeps (fun b => N b ∧ b ≠ Dw ∧ ¬ b ∈ ls.set k Dn) H (upd H Dn (.lst [])) := ((Same.refl H).put n).keeps
      have k2 : Keeps (fun b => N b ∧ b ≠ Dw ∧ ¬ b ∈ ls.set k Dn) (upd H Dn (.lst [])) (upd (upd H Dn (.lst [])) Dw (.lst ((ls.set k Dn).map V.ref))) := keeps_own (by rw [upd_ne nD.symm]; exact h.dw) fun z => z.2.1 rfl
      exact h3.mono fun v m ⟨o, e, x⟩ => ⟨o, e, (x.re fun b xs hb eb => ⟨hb.1, hb.2.1, fun z => (mem b z).elim (fun z => by rw [z, n] at eb; cases eb) hb.2.2⟩).keeps (k1.trans k2)⟩
/-- a rule more among those that wait -/
theorem Wait.app {N : Addr → Prop} {H0 H : Hp} {Dw l0 x : Addr} {ls : List Addr} {us : List V} {W : Nat → List Nd} {i k : Nat} {n : Nd} (h : Wait K C R N H0 Dw ls W i H) (hl : ls[k]? = some l0) (hu : H l0 = some (.lst us)) (hn : NdAt K C R (fun b => N b ∧ b ≠ Dw ∧ ¬ b ∈ ls) H x n) :
    Wait K C R N H0 Dw ls (fun d => if d = k then n :: W k else W d) (i + 1) (upd H l0 (.lst (us ++ [.ref x]))) := by
  have hm : l0 ∈ ls := List.mem_of_getElem? hl
  have lw : l0 ≠ Dw := fun z => h.ne (z ▸ hm)
  have kk : Keeps (fun b => N b ∧ b ≠ Dw ∧ ¬ b ∈ ls) H (upd H l0 (.lst (us ++ [.ref x]))) := keeps_own hu fun z => z.2.2 hm
  refine ⟨h.sm.put (h.fr l0 hm), by rw [upd_ne lw.symm]; exact h.dw, h.ln, h.nd, h.ne, h.dn, h.fr, fun d l e => ?_⟩
  obtain ⟨vs, h1, h2, h3⟩ := h.at_ d l e
  by_cases hd : d = k
  · subst hd
    rw [hl] at e
    cases e
    rw [hu] at h1
    cases h1
    refine ⟨us ++ [.ref x], upd_same, by rw [List.length_append]; show _ + 1 ≤ _; omega, ?_⟩
    show All2 _ (us ++ [.ref x]) (if d = d then n :: W d else W d).reverse
    rw [if_pos rfl, List.reverse_cons]
    exact (h3.mono fun _ _ z => z.keeps kk).snoc ⟨x, rfl, hn.keeps kk⟩
  · have hne : l ≠ l0 := fun z => by
      subst z
      exact hd ((List.getElem?_inj (List.getElem?_eq_some_iff.mp e).1 h.nd).mp (e.trans hl.symm))
    refine ⟨vs, by rw [upd_ne hne]; exact h1, by omega, ?_⟩
    show All2 _ vs (if d = k then n :: W k else W d).reverse
    rw [if_neg hd]
    exact h3.mono fun _ _ z => z.keeps kk
def sp_rtold (K : PySem.W.Frag) (C R : Addr) : Sp := fun vs H Q _ => ∃ (N : Addr → Prop) (b : Addr) (us : List V) (f : RF), vs = [.ref b] ∧ H b = some (.lst us) ∧ All2 (TldAt K C H) us (f.pre 0) ∧ f.every NdOk ∧ f.dep ≤ 6 ∧ f.size ≤ 60 ∧ (∀ l, H l = none → N l) ∧
  ∀ H' p ws, Same H H' → SqT K H' p ws → ForAt K C R N H' f ws → Q (.ref p) H'
theorem ok_rtold {f : Addr} {fd : FuncData} {t1 : Tok} (F : Fun K "rules_told" "rules_told" s_rules_told f fd) (B : Blt mg) (m_MOST_AROUND : mg "MOST_AROUND" = some (.int 5 t1)) (k_Rule : Mkr P w K mg base 16 "Rule" R ["self", "name", "condition", "ruling", "exceptions"] (sp_rule_init K C R CR)) :
    FnOk P w K mg base CX0 18 f fd ["told"] (sp_rtold K C R) := by
  refine F.ok sc_rules_told (fun vs H Q E h => by obtain ⟨N, b, us, f, rfl, _⟩ := h; rfl) (fun cdv A outer s H vs Q E hr h => ?_)
  obtain ⟨N, b, us, f, rfl, hb, hus, hev, hd, hz, hN, q⟩ := h
  refine ⟨_, (pss_cons (ps_setLc (i := 1) (own := [("_", 7)]) (g := gName 7) (tt := tYes) rfl sc_rules_told.nd rfl rfl (sw_true rfl rfl rfl (by decide +kernel)) (pi_range1 (by rfl) B.b_range (pa_cons (pe_op op_add (pe_glob (v := .int 5) rfl m_MOST_AROUND ⟨_, rfl⟩) pe_int) pa_nil)) (blkOk_by (own := [("_", 7)]) (N := ["told", "waiting", "around", "name", "condition", "ruling", "exceptions", "_"]) (sc := defScope s_rules_told) (by decide +kernel)) (fun _ _ _ _ _ => (pg_name (i := 7) sc_rules_told.nd rfl (Or.inl rfl))) (fun _ _ _ _ _ => pts_nil) (fun _ _ _ _ _ => (pe_.re (pe_lst pa_nil) (by first | (dsimp only [Cx.blk]; done) | exact rfl))))
      (pss_cons (ps_for PassesOwn.never rfl (pi_list (pe_revL (pv 0))) (pg_tup (by rfl) (pgs_cons (pg_name (i := 2) sc_rules_told.nd rfl (Or.inl rfl)) (pgs_cons (pg_name (i := 3) sc_rules_told.nd rfl (Or.inl rfl)) (pgs_cons (pg_name (i := 4) sc_rules_told.nd rfl (Or.inl rfl)) (pgs_cons (pg_name (i := 5) sc_rules_told.nd rfl (Or.inl rfl)) pgs_nil))))) (pss_cons (ps_set (i := 6) sc_rules_told.nd rfl (Or.inl rfl) (pe_callTy call_tuple_of (by rfl) B.b_tuple PyProof.Rows.boot_tuple (pa_cons (pe_revL (pe_ix ix_list (pv 1) (pe_op op_add (pv 2) pe_int) (fun _ _ => rfl))) pa_nil)))
      (pss_cons (ps_asg (pe_lst pa_nil) (pg_sub (pv 1) (pe_op op_add (pv 2) pe_int) set_list))
      (pss_one (ps_expr (pe_bm PySem.F.plainAttrs_list PySem.F.slot_list_append PySem.F.type_list_append mt_append (pe_ix ix_list (pv 1) (pv 2) (fun _ _ => rfl)) (pa_cons (pe_mkN k_Rule (hr.mono (by decide)) (pa_cons (pv 3) (pa_cons (pv 4) (pa_cons (pv 5) (pa_cons (pv 6) pa_nil))))) pa_nil)))))))
      (pss_one (ps_ret (pe_callTy call_tuple_of (by rfl) B.b_tuple PyProof.Rows.boot_tuple (pa_cons (pe_revL (pe_ix ix_list (pv 1) pe_int (fun _ _ => rfl))) pa_nil)))))), ?_⟩
  have hul := hus.len
  have hpl := RF.pre_len f 0
  refine ⟨_, _, rfl, rfl, _, rfl, by omega, by omega, fun Dw nDw => lc_it walk_range (fun i H' => Same H H' ∧ ∃ ls : List Addr, H' Dw = some (.lst (ls.map V.ref)) ∧ ls.length = i ∧ ls.Nodup ∧ ∀ l ∈ ls, H' l = some (.lst []) ∧ H l = none ∧ l ≠ Dw) ⟨(Same.refl H).put nDw, [], upd_same, rfl, List.nodup_nil, fun _ h => nomatch h⟩ (fun _ _ _ _ => trivial) ?_ ?_⟩
  · rintro i y H2 H3 hi ⟨s, ls, e, hl, hnd, hls⟩ ⟨rfl, hy⟩
    have hi : i < 7 := hi
    refine ⟨rfl, yes_ ⟨Nat.zero_le _, fun l nl => ?_⟩⟩
    have lD : l ≠ Dw := fun z => by rw [z, e] at nl; cases nl
    have e2 : (upd H3 l (.lst [])) Dw = some (.lst (ls.map V.ref)) := by rw [upd_ne lD.symm]; exact e
    have lnew : ¬ l ∈ ls := fun z => by rw [(hls l z).1] at nl; cases nl
    refine ⟨_, e2, small1000 (by rw [List.length_map]; omega), (s.put' nl).put nDw, ls ++ [l], by rw [upd_same, List.map_append]; rfl, by rw [List.length_append, hl]; rfl, ?_, fun l' hl' => ?_⟩
    · refine List.nodup_append.mpr ⟨hnd, (by simp), fun x hx y hy e => lnew ?_⟩
      rw [List.mem_singleton.mp hy] at e
      rw [← e]
      exact hx
    · rcases List.mem_append.mp hl' with h | h
      · obtain ⟨h1, h2, h3⟩ := hls l' h
        refine ⟨?_, h2, h3⟩
        rw [upd_ne h3, upd_ne (fun z => lnew (by rw [← z]; exact h))]
        exact h1
      · rw [List.mem_singleton.mp h]
        refine ⟨?_, s.free nl, lD⟩
        rw [upd_ne lD]
        exact upd_same
  rintro H1 ⟨s1, ls0, e1, hl0, hnd0, hls0⟩
  have hl0 : ls0.length = 7 := hl0
  have hb1 := s1 _ _ hb
  refine ⟨_, rfl, b, _, rfl, sqL_of hb1, fun Rv nRv => ?_⟩
  have s2 : Same H1 (upd H1 Rv (.lst us.reverse)) := (Same.refl H1).put nRv
  have eR : (upd H1 Rv (.lst us.reverse)) Rv = some (.lst us.reverse) := upd_same
  have Wt : Wait K C R N H Dw ls0 (fun _ => []) 0 (upd H1 Rv (.lst us.reverse)) := ⟨s1.trans s2, s2 _ _ e1, hl0, hnd0, fun z => (hls0 Dw z).2.2 rfl, nDw, fun l h => (hls0 l h).2.1, fun d l h => ⟨[], s2 _ _ (hls0 l (List.mem_of_getElem? h)).1, Nat.le_refl _, .nil⟩⟩
  have nRd : Rv ≠ Dw := fun z => by rw [z, e1] at nRv; cases nRv
  have nRl : ¬ Rv ∈ ls0 := fun z => by rw [(hls0 Rv z).1] at nRv; cases nRv
  have nRH : H Rv = none := s1.free nRv
  generalize upd H1 Rv (.lst us.reverse) = H2 at s2 eR Wt ⊢
  have hn60 : (f.pre 0).length ≤ 60 := by rw [hpl]; exact hz
  refine ⟨Rv, rfl, ⟨_, sqL_of eR⟩, for_it walk_list (fun i σ H' => ∃ (ls : List Addr) (y2 y3 y4 y5 y6 y7 : Option V), σ = [some (.ref b), some (.ref Dw), y2, y3, y4, y5, y6, y7] ∧ Wait K C R N H Dw ls (proc ((f.pre 0).drop ((f.pre 0).length - i)) fun _ => []) i H' ∧ H' Rv = some (.lst us.reverse) ∧ ¬ Rv ∈ ls)
    ⟨ls0, _, _, _, _, _, _, rfl, by rw [Nat.sub_zero, List.drop_length]; exact Wt, eR, nRl⟩ (fun _ _ _ _ ⟨_, _, _, _, _, _, _, _, _, h, _⟩ => sqL_of h) ?_ ?_⟩
  · rintro i y σ H4 H3 hi ⟨ls, y2, y3, y4, y5, y6, y7, rfl, Wi, eRi, nRi⟩ ⟨rfl, hy⟩
    have hi : i < us.length := by rw [List.length_reverse] at hi; exact hi
    have hj : (f.pre 0).length - 1 - i < (f.pre 0).length := by omega
    rw [List.getElem?_reverse hi, hul] at hy
    obtain ⟨qn, hqn, hT⟩ := hus.get hy
    have hqe : qn = (f.pre 0)[(f.pre 0).length - 1 - i] := by rw [List.getElem?_eq_getElem hj] at hqn; exact (Option.some.inj hqn).symm
    have hmem : qn ∈ f.pre 0 := List.mem_of_getElem? hqn
    obtain ⟨hpd, hps, hpe⟩ := RF.pre_in (p := NdOk) qn hmem
    obtain ⟨hok, hex⟩ := hpe hev
    have hpd5 := pre_dep f 0 qn hmem
    have hdrop : (f.pre 0).drop ((f.pre 0).length - (i + 1)) = qn :: (f.pre 0).drop ((f.pre 0).length - i) := by
      have e1 : (f.pre 0).length - (i + 1) = (f.pre 0).length - 1 - i := by omega
      rw [e1, List.drop_eq_getElem_cons hj, ← hqe, show (f.pre 0).length - 1 - i + 1 = (f.pre 0).length - i by omega]
    have hexc : proc ((f.pre 0).drop ((f.pre 0).length - i)) (fun _ => []) (qn.2 + 1) = qn.1.exc.nodes :=
      proc_exc f 0 _ (fun _ _ => rfl) ((f.pre 0).take ((f.pre 0).length - (i + 1))) _ qn (by rw [← hdrop, List.take_append_drop])
    obtain ⟨t, c, rfl, ht, hC⟩ := hT.keeps (N := NoL) Wi.sm.keeps
    refine ⟨t, _, rfl, sqT_of ht, rfl, _, _, rfl, _, _, rfl, _, _, rfl, _, _, rfl, rfl, ?_⟩
    obtain ⟨l1, hl1⟩ : ∃ l, ls[qn.2 + 1]? = some l := ⟨_, List.getElem?_eq_getElem (by rw [Wi.ln]; omega)⟩
    obtain ⟨us1, hu1, hl1n, hA1⟩ := Wi.at_ _ _ hl1
    rw [hexc] at hA1
    refine ⟨_, rfl, _, rfl, _, 1, rfl, rfl, Dw, _, _, _, rfl, rfl, sqL_of Wi.dw, atI_nat (j := qn.2 + 1) (by rw [List.getElem?_map, hl1]; rfl), ?_⟩
    refine ⟨l1, us1, rfl, sqL_of hu1, fun p1 n1 => ⟨p1, us1.reverse, rfl, .inl ⟨sqL_of upd_same, fun te nte => ?_⟩⟩⟩
    have s5 : Same H3 (upd (upd H3 p1 (.lst us1.reverse)) te (.tup us1.reverse)) := ((Same.refl H3).put n1).put' nte
    have e5 : (upd (upd H3 p1 (.lst us1.reverse)) te (.tup us1.reverse)) te = some (.tup us1.reverse) := upd_same
    have W5 := Wi.same s5
    have hA5 := hA1.mono fun _ _ x => x.keeps s5.keeps
    have eR5 := s5 _ _ eRi
    generalize upd (upd H3 p1 (.lst us1.reverse)) te (.tup us1.reverse) = H5 at s5 e5 W5 hA5 eR5 ⊢
    refine ⟨Nat.zero_le _, fun Dn nDn => ?_⟩
    have nDd : Dn ≠ Dw := fun z => by rw [z, W5.dw] at nDn; cases nDn
    have W6 := W5.set nDn (k := qn.2 + 1) (by omega)
    have hA6 : All2 (RefAt K C R (fun b => N b ∧ b ≠ Dw ∧ ¬ b ∈ ls.set (qn.2 + 1) Dn) (upd (upd H5 Dn (.lst [])) Dw (.lst ((ls.set (qn.2 + 1) Dn).map V.ref)))) us1 qn.1.exc.nodes.reverse := by
      have mem : ∀ b, b ∈ ls.set (qn.2 + 1) Dn → b = Dn ∨ b ∈ ls := fun b hb => (List.mem_or_eq_of_mem_set hb).symm
      have k1 : Keeps (fun b => N b ∧ b ≠ Dw ∧ ¬ b ∈ ls.set (qn.2 + 1) Dn) H5 (upd H5 Dn (.lst [])) := ((Same.refl H5).put nDn).keeps
      have k2 : Keeps (fun b => N b ∧ b ≠ Dw ∧ ¬ b ∈ ls.set (qn.2 + 1) Dn) (upd H5 Dn (.lst [])) (upd (upd H5 Dn (.lst [])) Dw (.lst ((ls.set (qn.2 + 1) Dn).map V.ref))) := keeps_own (by rw [upd_ne nDd.symm]; exact W5.dw) fun z => z.2.1 rfl
      exact hA5.mono fun v m ⟨o, e, x⟩ => ⟨o, e, (x.re fun b xs hb eb => ⟨hb.1, hb.2.1, fun z => (mem b z).elim (fun z => by rw [z, nDn] at eb; cases eb) hb.2.2⟩).keeps (k1.trans k2)⟩
    have eR6 : (upd (upd H5 Dn (.lst [])) Dw (.lst ((ls.set (qn.2 + 1) Dn).map V.ref))) Rv = some (.lst us.reverse) := by
      have h1 : Rv ≠ Dn := fun z => by rw [z, nDn] at eR5; cases eR5
      rw [upd_ne nRd, upd_ne h1]
      exact eR5
    have e6 : (upd (upd H5 Dn (.lst [])) Dw (.lst ((ls.set (qn.2 + 1) Dn).map V.ref))) te = some (.tup us1.reverse) := by
      have h1 : te ≠ Dn := fun z => by rw [z, nDn] at e5; cases e5
      have h2 : te ≠ Dw := fun z => by rw [z, W5.dw] at e5; cases e5
      rw [upd_ne h2, upd_ne h1]
      exact e5
    have hC5 := hC.keeps (N := NoL) s5.keeps
    have hC6 : CondAt K C (upd (upd H5 Dn (.lst [])) Dw (.lst ((ls.set (qn.2 + 1) Dn).map V.ref))) c qn.1.hs qn.1.fs := by
      have k1 : Keeps NoL H5 (upd H5 Dn (.lst [])) := ((Same.refl H5).put nDn).keeps
      have k2 : Keeps NoL (upd H5 Dn (.lst [])) (upd (upd H5 Dn (.lst [])) Dw (.lst ((ls.set (qn.2 + 1) Dn).map V.ref))) := keeps_own (by rw [upd_ne nDd.symm]; exact W5.dw) fun z => z
      exact hC5.keeps (k1.trans k2)
    have nRi6 : ¬ Rv ∈ ls.set (qn.2 + 1) Dn := fun z => by
      rcases List.mem_or_eq_of_mem_set z with z | z
      · exact nRi z
      · rw [z, nDn] at eR5; cases eR5
    obtain ⟨l0, hl0⟩ : ∃ l, (ls.set (qn.2 + 1) Dn)[qn.2]? = some l := ⟨_, List.getElem?_eq_getElem (by rw [W6.ln]; omega)⟩
    have hq7 : qn.2 + 1 < (ls.map V.ref).length := by rw [List.length_map, W5.ln]; omega
    refine ⟨_, rfl, _, rfl, _, 1, rfl, rfl, Dw, _, _, qn.2 + 1, rfl, rfl, (by rw [upd_ne nDd.symm]; exact W5.dw), ixN_of hq7, ?_⟩
    rw [← List.map_set]
    generalize upd (upd H5 Dn (.lst [])) Dw (.lst ((ls.set (qn.2 + 1) Dn).map V.ref)) = H6 at W6 hA6 eR6 e6 hC6 ⊢
    generalize ls.set (qn.2 + 1) Dn = ls' at W6 hA6 nRi6 hl0 ⊢
    obtain ⟨us0, hu0, hl0n, hA0⟩ := W6.at_ _ _ hl0
    refine ⟨_, rfl, _, rfl, Dw, _, _, _, rfl, rfl, sqL_of W6.dw, atI_nat (j := qn.2) (by rw [List.getElem?_map, hl0]; rfl), ?_⟩
    refine ⟨.inl ⟨rfl, _, sqL_of hu0⟩, _, rfl, _, rfl, _, rfl, _, rfl, fun x dx2 nx ndx nex => ?_⟩
    have s7 : Same H6 (upd (upd H6 dx2 (.own x)) x (.ins R dx2 [])) := ((Same.refl H6).put ndx).put nx
    have ln1 := name_len hok.nm
    have ln2 := name_len hok.rl
    have hFx : ForAt K C R (fun b => N b ∧ b ≠ Dw ∧ ¬ b ∈ ls') H6 qn.1.exc us1.reverse := ForAt.of (by
      have := hA6.rev
      rw [List.reverse_reverse] at this
      exact this)
    refine ⟨_, x, dx2, c, te, qn.1.nm, qn.1.rl, us1.reverse, qn.1.exc, rfl, upd_same, s7.tup (sqT_of e6), hFx.keeps s7.keeps, by omega, by omega, by omega, by omega, (fun e => by rw [hok.nm] at e; cases e), fun _ => ⟨(fun e => by rw [hok.rl] at e; cases e), fun _ H10 l sX hx10 nelx nl el => ⟨rfl, ?_⟩⟩⟩
    have s10 : Same H6 H10 := fun b' o' h => sX b' o' (fun e => by rw [e, nx] at h; cases h) (s7 _ _ h)
    have fl : H6 l = none := s7.free nl
    have hNl : N l ∧ l ≠ Dw ∧ ¬ l ∈ ls' := ⟨hN l (W6.sm.free fl), (fun z => by rw [z, W6.dw] at fl; cases fl), fun z => by
      obtain ⟨d, hd⟩ := List.mem_iff_getElem?.mp z
      obtain ⟨us, h1, _⟩ := W6.at_ d l hd
      rw [h1] at fl
      cases fl⟩
    have hnd10 : NdAt K C R (fun b => N b ∧ b ≠ Dw ∧ ¬ b ∈ ls') H10 x qn.1 := ⟨dx2, c, te, l, us1.reverse, hx10, hC6.keeps (N := NoL) s10.keeps, s10.tup (sqT_of e6), ⟨hNl, el⟩, hFx.keeps s10.keeps⟩
    have W10 := (W6.same s10).app hl0 (s10 _ _ hu0) hnd10
    refine ⟨l0, us0, .ref x, rfl, rfl, s10 _ _ hu0, small1000 (by omega), ls', _, _, _, _, _, _, rfl, ?_, ?_, nRi6⟩
    · rw [hdrop]
      have hp : (proc (qn :: (f.pre 0).drop ((f.pre 0).length - i)) fun _ => []) = fun d => if d = qn.2 then qn.1 :: (if qn.2 = qn.2 + 1 then [] else proc ((f.pre 0).drop ((f.pre 0).length - i)) (fun _ => []) qn.2) else if d = qn.2 + 1 then [] else proc ((f.pre 0).drop ((f.pre 0).length - i)) (fun _ => []) d := by
        rw [if_neg (by omega)]
        rfl
      rw [hp]
      exact W10
    · have : Rv ≠ l0 := fun z => nRi6 (z ▸ List.mem_of_getElem? hl0)
      rw [upd_ne this]
      exact s10 _ _ eR6
  · rintro σ H3 ⟨ls, y2, y3, y4, y5, y6, y7, rfl, Wi, eRi, nRi⟩
    have Wi : Wait K C R N H Dw ls (proc (f.pre 0) fun _ => []) us.reverse.length H3 := by
      rw [List.length_reverse, hul, Nat.sub_self, List.drop_zero] at Wi
      rw [List.length_reverse, hul]
      exact Wi
    obtain ⟨l0, hl0⟩ : ∃ l, ls[0]? = some l := ⟨_, List.getElem?_eq_getElem (by rw [Wi.ln]; omega)⟩
    obtain ⟨us0, hu0, hl0n, hA0⟩ := Wi.at_ _ _ hl0
    rw [proc_all] at hA0
    refine ⟨_, rfl, Dw, _, _, _, rfl, rfl, sqL_of Wi.dw, atI_nat (j := 0) (by rw [List.getElem?_map, hl0]; rfl), ?_⟩
    refine ⟨l0, us0, rfl, sqL_of hu0, fun p1 n1 => ⟨p1, us0.reverse, rfl, .inl ⟨sqL_of upd_same, fun te nte => ?_⟩⟩⟩
    have s5 : Same H3 (upd (upd H3 p1 (.lst us0.reverse)) te (.tup us0.reverse)) := ((Same.refl H3).put n1).put' nte
    have hF : ForAt K C R (fun b => N b ∧ b ≠ Dw ∧ ¬ b ∈ ls) H3 f us0.reverse := ForAt.of (by
      have := hA0.rev
      rw [List.reverse_reverse] at this
      exact this)
    exact q _ te _ (Wi.sm.trans s5) (sqT_of upd_same) ((hF.re fun b xs hb _ => hb.1).keeps s5.keeps)
end
end Sc
namespace Sc
open PySem PySem.Spec PyProof.Rows L2
/-! ### the text of a book, and its rows -/
theorem mem_joinL {c : Nat} {S : List Nat} : ∀ {ps : List (List Nat)}, c ∈ TL.joinL S ps → c ∈ S ∨ ∃ p ∈ ps, c ∈ p
  | [], h => by cases h
  | [p], h => .inr ⟨p, List.mem_cons_self, h⟩
  | p :: q :: r, h => by
    have h : c ∈ p ++ (S ++ TL.joinL S (q :: r)) := h
    rcases List.mem_append.mp h with h | h
    · exact .inr ⟨p, List.mem_cons_self, h⟩
    · rcases List.mem_append.mp h with h | h
      · exact .inl h
      · rcases mem_joinL h with h | ⟨p', h1, h2⟩
        · exact .inl h
        · exact .inr ⟨p', List.mem_cons_of_mem _ h1, h2⟩
theorem mem_join {c : Nat} {y : Str} {ps : List Str} (h : c ∈ TL.tl (Txt.join y ps)) : c ∈ TL.tl y ∨ ∃ p ∈ ps, c ∈ TL.tl p := by
  rw [TL.join_eq, TL.tl_join] at h
  rcases mem_joinL h with h | ⟨p, h1, h2⟩
  · exact .inl h
  · obtain ⟨z, hz, rfl⟩ := List.mem_map.mp h1
    exact .inr ⟨z, hz, h2⟩
/-- a word: no space, no line feed within -/
def WordOk (x : Str) : Prop := ¬ 32 ∈ TL.tl x ∧ ¬ 10 ∈ TL.tl x
theorem name_word {x : Str} (h : isName x = true) : WordOk x := by
  unfold isName at h
  rw [Bool.and_eq_true, Bool.and_eq_true] at h
  have h2 : x.cps.toList.all (fun c => decide (c ∈ letters.cps.toList)) = true := h.2.2
  rw [List.all_eq_true] at h2
  exact ⟨fun z => absurd (of_decide_eq_true (h2 32 z)) (by decide +kernel), fun z => absurd (of_decide_eq_true (h2 10 z)) (by decide +kernel)⟩
theorem wordsN_word {n : Nd} {k : Nat} (h : NdOk n) : ∀ x ∈ wordsN n k, WordOk x := by
  have p2 : ∀ (wd : Str) (xs : List Str), WordOk wd → (∀ x ∈ xs, WordOk x) → ∀ x ∈ partW wd xs, WordOk x := fun wd xs h1 h2 x hx => by
    unfold partW at hx
    split at hx
    · cases hx
    · rcases List.mem_cons.mp hx with rfl | hx
      · exact h1
      · exact h2 x hx
  intro x hx
  unfold wordsN at hx
  rcases List.mem_append.mp hx with hx | hx
  · rcases List.mem_append.mp hx with hx | hx
    · rcases List.mem_append.mp hx with hx | hx
      · rw [List.eq_of_mem_replicate hx]
        exact ⟨by decide +kernel, by decide +kernel⟩
      · rcases List.mem_cons.mp hx with rfl | hx
        · exact name_word h.nm
        rcases List.mem_cons.mp hx with rfl | hx
        · exact ⟨by decide +kernel, by decide +kernel⟩
        rw [List.mem_singleton.mp hx]
        exact name_word h.rl
    · exact p2 "if" n.hs ⟨by decide +kernel, by decide +kernel⟩ (fun x hx => name_word (fw_names h.c1 x hx)) x hx
  · exact p2 "not" n.fs ⟨by decide +kernel, by decide +kernel⟩ (fun x hx => name_word (fw_names h.c2 x hx)) x hx
/-- what a row of a text is -/
structure RowTx (ws : List Str) : Prop where
  ne : ws ≠ []
  wd : ∀ x ∈ ws, WordOk x
  ok : RowOk ws
theorem RowTx.lf {ws : List Str} (h : RowTx ws) : ¬ 10 ∈ TL.tl (Txt.join spc ws) := fun z => by
  rcases mem_join z with z | ⟨p, h1, h2⟩
  · exact absurd z (by decide +kernel)
  · exact (h.wd p h1).2 h2
theorem pre_every {p : Nd → Prop} : ∀ {f : RF} {k : Nat}, f.every p → ∀ q ∈ f.pre k, p q.1 := fun e q h => (RF.pre_in (p := p) q h).2.2 e |>.1
theorem rows_ok {xs : List Str} {f : RF} {rl : Str} (hx : ∀ x ∈ xs, isName x = true) (hl : xs.length ≤ 60) (hd : f.dep ≤ 12) (he : f.every NdOk) (hr : isName rl = true) : ∀ ws ∈ rowsB xs (f.pre 0) rl, RowTx ws := by
  intro ws h
  unfold rowsB at h
  rcases List.mem_append.mp h with h | h
  · rcases List.mem_cons.mp h with rfl | h
    · refine ⟨List.cons_ne_nil _ _, fun x h => ?_, by rw [List.length_cons]; omega, fun x h => ?_⟩
      · rcases List.mem_cons.mp h with rfl | h
        · exact ⟨by decide +kernel, by decide +kernel⟩
        · exact name_word (hx x h)
      · rcases List.mem_cons.mp h with rfl | h
        · decide
        · exact name_len (hx x h)
    · obtain ⟨q, hq, rfl⟩ := List.mem_map.mp h
      have := pre_dep f 0 q hq
      have hn := pre_every he q hq
      exact ⟨by unfold wordsN; simp, wordsN_word hn, wordsN_ok hn (by omega)⟩
  · rw [List.mem_singleton.mp h]
    refine ⟨List.cons_ne_nil _ _, fun x h => ?_, (by show 2 ≤ 200; decide), fun x h => ?_⟩
    · rcases List.mem_cons.mp h with rfl | h
      · exact ⟨by decide +kernel, by decide +kernel⟩
      · rw [List.mem_singleton.mp h]; exact name_word hr
    · rcases List.mem_cons.mp h with rfl | h
      · decide
      · rw [List.mem_singleton.mp h]; exact name_len hr
theorem text_split {rs : List (List Str)} (h : ∀ ws ∈ rs, RowTx ws) (h0 : rs ≠ []) : Txt.split (Txt.join lf (rs.map (Txt.join spc))) (Str.ofString "\n") = rs.map (Txt.join spc) := by
  refine TL.split_join (s := 10) (S := []) rfl (by decide +kernel) (fun z => h0 (List.map_eq_nil_iff.mp z)) fun p hp => ?_
  obtain ⟨ws, hw, rfl⟩ := List.mem_map.mp hp
  exact (h ws hw).lf
theorem text_len {rs : List (List Str)} (h : ∀ ws ∈ rs, RowTx ws) (hl : rs.length ≤ 100) : (Txt.join lf (rs.map (Txt.join spc))).length ≤ 200000 := by
  have h1 := join_len lf (rs.map (Txt.join spc))
  rw [List.length_map, List.map_map] at h1
  have h2 : (rs.map ((fun x : Str => x.length) ∘ Txt.join spc)).sum ≤ rs.length * 1800 := sum_le fun ws hw => rowText_len (h ws hw).ok
  have h3 : lf.length = 1 := rfl
  rw [h3] at h1
  have h2' : (rs.map ((·.length) ∘ Txt.join spc)).sum ≤ rs.length * 1800 := h2
  omega
/-! ### how deep the rows stand, one behind the other -/
theorem pre_low : ∀ (f : RF) (k : Nat), ∀ q ∈ f.pre k, k ≤ q.2
  | .nil, k, q, h => nomatch h
  | .cons nm hs fs rl exc rest, k, q, h => by
    rcases List.mem_cons.mp h with rfl | h
    · exact Nat.le_refl _
    rcases List.mem_append.mp h with h | h
    · exact Nat.le_of_succ_le (pre_low exc (k + 1) q h)
    · exact pre_low rest k q h
theorem last_cons {α : Type} {x q0 : α} {a : List α} (h : (x :: a).getLast? = some q0) : (a = [] ∧ q0 = x) ∨ (a ≠ [] ∧ a.getLast? = some q0) := by
  cases a with
  | nil => cases h; exact .inl ⟨rfl, rfl⟩
  | cons y a => exact .inr ⟨List.cons_ne_nil _ _, by rw [List.getLast?_cons_cons] at h; exact h⟩
theorem pre_step : ∀ (f : RF) (k : Nat) (a r : List (Nd × Nat)) (q : Nd × Nat), f.pre k = a ++ q :: r → (a = [] → q.2 = k) ∧ ∀ q0, a.getLast? = some q0 → q.2 ≤ q0.2 + 1
  | .nil, k, a, r, q, h => by
    have h : [] = a ++ q :: r := h
    cases a <;> cases h
  | .cons nm hs fs rl exc rest, k, a, r, q, h => by
    have h : (((⟨nm, hs, fs, rl, exc⟩ : Nd), k) :: (exc.pre (k + 1) ++ rest.pre k)) = a ++ q :: r := h
    cases a with
    | nil =>
      injection h with e1 e2
      subst e1
      exact ⟨fun _ => rfl, fun q0 h => by cases h⟩
    | cons x a =>
      injection h with e1 e2
      refine ⟨(fun z => by cases z), fun q0 hq0 => ?_⟩
      have hx : k ≤ x.2 := by rw [← e1]; exact Nat.le_refl _
      rcases List.append_eq_append_iff.mp e2 with ⟨c, h3, h4⟩ | ⟨c, h3, h4⟩
      · have ih := pre_step rest k c r q h4
        rcases last_cons hq0 with ⟨z1, z2⟩ | ⟨z1, z2⟩
        · have hc : c = [] := by rw [z1] at h3; exact (List.append_eq_nil_iff.mp h3.symm).2
          have := ih.1 hc
          rw [z2]; omega
        · cases hcc : c with
          | nil =>
            have := ih.1 hcc
            have hm : q0 ∈ exc.pre (k + 1) := by
              rw [h3, hcc, List.append_nil] at z2
              exact List.mem_of_getLast? z2
            have := pre_low exc (k + 1) q0 hm
            omega
          | cons y c' =>
            rw [h3, List.getLast?_append, hcc] at z2
            rw [hcc] at ih
            cases hl : (y :: c').getLast? with
            | none => rw [List.getLast?_eq_none_iff] at hl; cases hl
            | some q1 =>
              rw [hl] at z2
              obtain rfl : q1 = q0 := Option.some.inj z2
              exact ih.2 q1 hl
      · cases c with
        | nil =>
          have ih := (pre_step rest k [] r q h4.symm).1 rfl
          rcases last_cons hq0 with ⟨z1, z2⟩ | ⟨z1, z2⟩
          · rw [z2]; omega
          · have hm : q0 ∈ exc.pre (k + 1) := by rw [h3, List.append_nil]; exact List.mem_of_getLast? z2
            have := pre_low exc (k + 1) q0 hm
            omega
        | cons y c =>
          injection h4 with e3 e4
          subst e3
          have ih := pre_step exc (k + 1) a c q h3
          rcases last_cons hq0 with ⟨z1, z2⟩ | ⟨z1, z2⟩
          · have := ih.1 z1
            rw [z2]; omega
          · exact ih.2 q0 z2
theorem most_ok {f : RF} (hd : f.dep ≤ 6) {i : Nat} {q : Nd × Nat} (h : (f.pre 0)[i]? = some q) : q.2 ≤ mostS ((f.pre 0).take i) := by
  have hi := (List.getElem?_eq_some_iff.mp h).1
  have e : f.pre 0 = (f.pre 0).take i ++ q :: (f.pre 0).drop (i + 1) := by
    have := List.drop_eq_getElem_cons hi
    have e2 : (f.pre 0)[i] = q := (List.getElem?_eq_some_iff.mp h).2
    rw [e2] at this
    rw [← this, List.take_append_drop]
  have h1 := pre_step f 0 _ _ q e
  have h2 := pre_dep f 0 q (List.mem_of_getElem? h)
  unfold mostS
  split
  · next hl => rw [h1.1 (List.getLast?_eq_none_iff.mp hl)]; exact Nat.le_refl _
  · next q0 hl => have := h1.2 q0 hl; omega
theorem reserved_fact {x : Str} (h : x = Str.ofString "else" ∨ x = Str.ofString ">") : isName x = false ∨ x ∈ reserved := by
  rcases h with rfl | rfl
  · exact .inr (by decide +kernel)
  · exact .inl (by decide +kernel)
end Sc
namespace Sc
open PySem PySem.Spec PyProof.Rows L2
abbrev s_parse_book : Stmt := topS 49
theorem sc_parse_book : FnScope ["text", "rows", "facts", "told", "words", "last", "ruling", "row", "line"] ["text"] (defScope s_parse_book) := ⟨rfl, rfl, rfl, by decide +kernel, rfl, by decide +kernel, by decide +kernel⟩
/-- making an object whose init raises nothing -/
structure Mkr0 (P : Program) (w : World) (K : PySem.W.Frag) (mg : Str → Option Value) (base : Heap) (k : Nat) (x : Str) (C : Addr) (ps : List Str) (sp : Sp) : Prop where
  ex : ∃ (f : Addr) (fd : FuncData), Mk K C f ∧ FnOk P w K mg base CX0 k f fd ps sp ∧ mg x = some (.ref C) ∧ Binds K fd ps []
section
variable {X : Cx} {k : Nat} {x : Str} {C : Addr} {ps : List Str} {sp : Sp} {e : Expr} {es : List Expr} {t : TA} {p pos : Pos}
theorem pe_mk0 (M : Mkr0 X.prog X.w X.K X.mg X.base k x C ps sp) (hr : Room (k + 1) X.A) (ha : PA X (e :: es) t) (hg : Gl X x := by rfl) (hdb : (x == ("__debug__" : Str)) = false := by decide)
    (he : starEach (e :: es) X.env = (false, eval e X.env) :: starEach es X.env := by rfl) (hpl : (backTo pos (starEach es X.env)).any (·.1) = false := by rfl) : PE X (.Call (.Name x p) (e :: es) [] pos) (tMake C sp [] E0 t) := by
  obtain ⟨f, fd, hk, F, hm, hb⟩ := M.ex
  exact pe_make hk F hr hg hm hb .nil pass0 ha hdb he hpl
end
section
variable {P : Program} {w : World} {K : PySem.W.Frag} {mg : Str → Option Value} {base : Heap} {C R B WD CC CR CFa CB : Addr}
/-- the rows of a text that are not read yet -/
structure RowsW (WD : Addr) (H0 H : Hp) (os : List Addr) (rs : List (List Str)) (k : Nat) : Prop where
  nd : os.Nodup
  fr : ∀ o ∈ os, H0 o = none
  at_ : ∀ j o ws, k ≤ j → os[j]? = some o → rs[j]? = some ws → WdAt WD o H ws 0
theorem RowsW.same {H0 H H' : Hp} {os : List Addr} {rs : List (List Str)} {k : Nat} (h : RowsW WD H0 H os rs k) (s : Same H H') : RowsW WD H0 H' os rs k :=
  ⟨h.nd, h.fr, fun j o ws hj ho hw => (h.at_ j o ws hj ho hw).same s⟩
theorem WdAt.put {H : Hp} {o D : Addr} {ws : List Str} {at_ : Nat} {us ys : List V} (h : WdAt WD o H ws at_) (ne : ws ≠ []) (e : H D = some (.lst us)) (hu : ∀ u ∈ us, ∃ t : Addr, u = .ref t) : WdAt WD o (upd H D (.lst ys)) ws at_ := by
  obtain ⟨dx, ll, row, h1, h2, h3⟩ := h
  refine ⟨dx, ll, row, by rw [upd_ne (fun z => by rw [z, e] at h1; cases h1)]; exact h1, ?_, h3⟩
  have hne : ll ≠ D := fun z => by
    rw [z, e] at h2
    cases ws with
    | nil => exact ne rfl
    | cons x r =>
      have h2 : us = (x :: r).map V.str := by cases h2; rfl
      obtain ⟨t, ht⟩ := hu (.str x) (by rw [h2]; exact List.mem_cons_self)
      cases ht
  rw [upd_ne hne]
  exact h2
theorem RowsW.put {H0 H : Hp} {os : List Addr} {rs : List (List Str)} {k : Nat} {D : Addr} {us ys : List V} (h : RowsW WD H0 H os rs k) (e : H D = some (.lst us)) (hu : ∀ u ∈ us, ∃ t : Addr, u = .ref t) (hr : ∀ ws ∈ rs, ws ≠ []) : RowsW WD H0 (upd H D (.lst ys)) os rs k :=
  ⟨h.nd, h.fr, fun j o ws hj ho hw => (h.at_ j o ws hj ho hw).put (hr ws (List.mem_of_getElem? hw)) e hu⟩
theorem RowsW.add {H0 H : Hp} {os : List Addr} {rs : List (List Str)} {o : Addr} {ws : List Str} (h : RowsW WD H0 H os rs 0) (n : ¬ o ∈ os) (fr : H0 o = none) (hw : rs[os.length]? = some ws) (W : WdAt WD o H ws 0) : RowsW WD H0 H (os ++ [o]) rs 0 := by
  refine ⟨List.nodup_append.mpr ⟨h.nd, by simp, fun x hx y hy e => n (by rw [List.mem_singleton.mp hy] at e; rw [← e]; exact hx)⟩, fun o' ho' => ?_, fun j o' ws' hj ho' hw' => ?_⟩
  · rcases List.mem_append.mp ho' with z | z
    · exact h.fr o' z
    · rw [List.mem_singleton.mp z]; exact fr
  · by_cases hj2 : j < os.length
    · rw [List.getElem?_append_left hj2] at ho'
      exact h.at_ j o' ws' hj ho' hw'
    · have hj3 : j < os.length + 1 := by have := (List.getElem?_eq_some_iff.mp ho').1; rw [List.length_append] at this; exact this
      obtain rfl : j = os.length := by omega
      rw [List.getElem?_append_right (Nat.le_refl _), Nat.sub_self] at ho'
      cases ho'
      rw [hw] at hw'
      cases hw'
      exact W
theorem RowsW.step {H0 H H' : Hp} {os : List Addr} {rs : List (List Str)} {k : Nat} {o : Addr} {ws : List Str} {at_ : Nat} (h : RowsW WD H0 H os rs k) (ho : os[k]? = some o) (hW : WdAt WD o H ws at_) (s : SameX o H H') : RowsW WD H0 H' os rs (k + 1) := by
  obtain ⟨dx, ll, row, g1, g2, g3⟩ := hW
  refine ⟨h.nd, h.fr, fun j o' ws' hj ho' hw' => ?_⟩
  have hne : o' ≠ o := fun z => by
    subst z
    have := (List.getElem?_inj (List.getElem?_eq_some_iff.mp ho').1 h.nd).mp (ho'.trans ho.symm)
    omega
  obtain ⟨dx', ll', row', e1, e2, e3⟩ := h.at_ j o' ws' (by omega) ho' hw'
  exact ⟨dx', ll', row', s _ _ hne e1, s _ _ (fun z => by rw [z, g1] at e2; cases e2) e2, e3⟩
/-- the rules that a text tells -/
structure TxtOk (xs : List Str) (f : RF) (rl : Str) : Prop where
  x : Right xs
  x0 : xs ≠ []
  xl : xs.length ≤ 60
  xr : ∀ z ∈ xs, ¬ z ∈ reserved
  ok : f.every NdOk
  dep : f.dep ≤ 6
  zz : f.size ≤ 39
  nd : f.names.Nodup
  sub : ∀ q ∈ f.pre 0, (∀ z ∈ q.1.hs, z ∈ xs) ∧ (∀ z ∈ q.1.fs, z ∈ xs)
  res : ∀ q ∈ f.pre 0, ¬ q.1.nm ∈ reserved ∧ ¬ q.1.rl ∈ reserved
  rn : isName rl = true
  rr : ¬ rl ∈ reserved
  fb : firstBad xs = none
  ff : firstFault xs (f.pre 0) [] 0 0 = none
def sp_parse (K : PySem.W.Frag) (C R B : Addr) : Sp := fun vs H Q _ => ∃ (N : Addr → Prop) (xs : List Str) (f : RF) (rl : Str), vs = [.str (textB xs (f.pre 0) rl)] ∧ TxtOk xs f rl ∧ (∀ l, H l = none → N l) ∧
  ∀ H' b, Same H H' → BookAt K C R B N H' b xs f rl → Q (.ref b) H'
theorem ok_parse {f : Addr} {fd : FuncData} (F : Fun K "parse_book" "parse_book" s_parse_book f fd) (Bl : Blt mg) (CLw : Cls K WD) (k_Book : Mkr P w K mg base 17 "Book" B ["self", "facts", "rules", "ruling"] (sp_book_init K C R B CFa CB)) (k_Words : Mkr0 P w K mg base 1 "Words" WD ["self", "row", "text"] (sp_winit WD)) (mw_ahead : MethR P w K mg base 1 WD "ahead" ["self"] (sp_ahead WD))
    (c_read_facts : Cal P w K mg base CX0 3 "read_facts" ["words"] (sp_rfacts K WD)) (c_read_rule : Cal P w K mg base CX0 6 "read_rule" ["words", "facts", "before"] (sp_rrule K C WD)) (c_read_ending : Cal P w K mg base CX0 3 "read_ending" ["words"] (sp_rend WD)) (c_rules_told : Cal P w K mg base CX0 18 "rules_told" ["told"] (sp_rtold K C R)) :
    FnOk P w K mg base CX0 19 f fd ["text"] (sp_parse K C R B) := by
  refine F.ok sc_parse_book (fun vs H Q E h => by obtain ⟨N, xs, f, rl, rfl, _⟩ := h; rfl) (fun cdv A outer s H vs Q E hr h => ?_)
  obtain ⟨N, xs, f, rl, rfl, hT, hN, q⟩ := h
  refine ⟨_, (pss_cons (ps_setLc (i := 1) (own := [("row", 7), ("line", 8)]) (g := gTup K 2 (gCons (gName 7) (gCons (gName 8) gNil))) (tt := tYes) rfl sc_parse_book.nd rfl rfl (sw_true rfl rfl rfl (by decide +kernel)) (pi_enum (by rfl) Bl.b_enumerate (pa_cons (pe_split (pv 0) pe_str) pa_nil)) (blkOk_by (own := [("row", 7), ("line", 8)]) (N := ["text", "rows", "facts", "told", "words", "last", "ruling", "row", "line"]) (sc := defScope s_parse_book) (by decide +kernel)) (fun _ _ _ _ _ => (pg_tup (by rfl) (pgs_cons (pg_name (i := 7) sc_parse_book.nd rfl (Or.inl rfl)) (pgs_cons (pg_name (i := 8) sc_parse_book.nd rfl (Or.inl rfl)) pgs_nil)))) (fun _ _ _ _ _ => pts_nil) (fun _ _ _ _ _ => (pe_.re (pe_mk0 k_Words (hr.mono (by decide)) (pa_cons (pv 7) (pa_cons (pv 8) pa_nil))) (by first | (dsimp only [Cx.blk]; done) | exact rfl))))
      (pss_cons (ps_set (i := 2) sc_parse_book.nd rfl (Or.inl rfl) (pe_cal c_read_facts (hr.mono (by decide)) (pa_cons (pe_ix ix_list (pv 1) pe_int (fun _ _ => rfl)) pa_nil)))
      (pss_cons (ps_set (i := 3) sc_parse_book.nd rfl (Or.inl rfl) (pe_lst pa_nil))
      (pss_cons (ps_for PassesOwn.never rfl (pi_list (pe_slice sl_list (pv 1) (po_some pe_int) po_none)) (pg_name (i := 4) sc_parse_book.nd rfl (Or.inl rfl)) (pss_cons (ps_if (pt_cmpR op_eq (pe_me0 CLw mw_ahead (hr.mono (by decide)) (pv 4)) pe_str (nomark _)) (pss_one ps_break) pss_nil)
      (pss_one (ps_expr (pe_bm PySem.F.plainAttrs_list PySem.F.slot_list_append PySem.F.type_list_append mt_append (pv 3) (pa_cons (pe_cal c_read_rule (hr.mono (by decide)) (pa_cons (pv 4) (pa_cons (pv 2) (pa_cons (pv 3) pa_nil)))) pa_nil))))))
      (pss_cons (ps_set (i := 5) sc_parse_book.nd rfl (Or.inl rfl) (pe_op op_add pe_int (pe_callB call_len_seq (by rfl) Bl.b_len PySem.boot_len (pa_cons (pv 3) pa_nil))))
      (pss_cons (ps_if (pt_cmpR op_eq (pv 5) (pe_callB call_len_seq (by rfl) Bl.b_len PySem.boot_len (pa_cons (pv 1) pa_nil)) (nomark _)) pss_never pss_nil)
      (pss_cons (ps_set (i := 6) sc_parse_book.nd rfl (Or.inl rfl) (pe_cal c_read_ending (hr.mono (by decide)) (pa_cons (pe_ix ix_list (pv 1) (pv 5) (fun _ _ => rfl)) pa_nil)))
      (pss_cons (ps_if (pt_cmpR op_lt (pe_op op_add (pv 5) pe_int) (pe_callB call_len_seq (by rfl) Bl.b_len PySem.boot_len (pa_cons (pv 1) pa_nil)) (nomark _)) pss_never pss_nil)
      (pss_one (ps_ret (pe_mkN k_Book (hr.mono (by decide)) (pa_cons (pv 2) (pa_cons (pe_cal c_rules_told (hr.mono (by decide)) (pa_cons (pv 3) pa_nil)) (pa_cons (pv 6) pa_nil)))))))))))))), ?_⟩
  have hfx : ∀ x ∈ xs, isName x = true := hT.x.nm
  have hrx := rows_ok (xs := xs) (f := f) (rl := rl) hfx hT.xl (by have := hT.dep; omega) hT.ok hT.rn
  have hR0 : (rowsB xs (f.pre 0) rl)[0]? = some (Str.ofString "facts" :: xs) := rfl
  have hRl : (rowsB xs (f.pre 0) rl).length = (f.pre 0).length + 2 := by unfold rowsB; simp
  have hRj : ∀ j q, (f.pre 0)[j]? = some q → (rowsB xs (f.pre 0) rl)[j + 1]? = some (wordsN q.1 q.2) := fun j q h => by
    have hj := (List.getElem?_eq_some_iff.mp h).1
    unfold rowsB
    rw [List.cons_append, List.getElem?_cons_succ, List.getElem?_append_left (by rw [List.length_map]; exact hj), List.getElem?_map, h]
    rfl
  have hRe : (rowsB xs (f.pre 0) rl)[(f.pre 0).length + 1]? = some [Str.ofString "else", rl] := by
    unfold rowsB
    rw [List.cons_append, List.getElem?_cons_succ, List.getElem?_append_right (by rw [List.length_map]; exact Nat.le_refl _), List.length_map, Nat.sub_self]
    rfl
  have hpl := RF.pre_len f 0
  have hzz := hT.zz
  obtain ⟨tx, etx⟩ : ∃ tx, tx = textB xs (f.pre 0) rl := ⟨_, rfl⟩
  have htl : tx.length ≤ 200000 := by rw [etx]; exact text_len hrx (by omega)
  have hts : Txt.split tx (Str.ofString "\n") = (rowsB xs (f.pre 0) rl).map (Txt.join spc) := by rw [etx]; exact text_split hrx (by unfold rowsB; simp)
  rw [← etx]
  generalize rowsB xs (f.pre 0) rl = Rw at hrx hR0 hRl hRj hRe hts ⊢
  refine ⟨_, rfl, ⟨_, rfl⟩, _, _, rfl, rfl, rfl, by rw [sizeLine_eq]; omega, fun tL ntL => ?_⟩
  rw [hts]
  refine ⟨tL, _, rfl, sqL_of upd_same, fun D nD => ?_⟩
  have hDt : tL ≠ D := fun z => by rw [← z, upd_same] at nD; cases nD
  have nD0 : H D = none := ((Same.refl H).put ntL).free nD
  have hrn : ∀ ws ∈ Rw, ws ≠ [] := fun ws h => (hrx ws h).ne
  refine lc_it walk_enum (fun i H' => ∃ os : List Addr, Same H H' ∧ H' tL = some (.lst ((Rw.map (Txt.join spc)).map V.str)) ∧ H' D = some (.lst (os.map V.ref)) ∧ os.length = i ∧ RowsW WD H H' os Rw 0)
    ⟨[], ((Same.refl H).put ntL).put' nD, ?_, upd_same, rfl, ⟨List.nodup_nil, (fun _ h => nomatch h), fun j o ws _ h => by cases j <;> cases h⟩⟩ (fun _ _ _ ⟨_, _, h, _⟩ => sqL_of h) ?_ ?_
  · rw [upd_ne hDt]; exact upd_same
  · rintro i y H2 H3 hi ⟨os, s, etl, eD, hl, hW⟩ ⟨T, v1, v2, rfl, nT, rfl, h1, h2⟩
    obtain rfl : V.int (i : Nat) = v1 := Option.some.inj h1
    have h2 : ((Rw.map (Txt.join spc)).map V.str)[i]? = some v2 := h2
    rw [List.getElem?_map, List.getElem?_map] at h2
    cases hws : Rw[i]? with
    | none => rw [hws] at h2; cases h2
    | some ws =>
      rw [hws] at h2
      obtain rfl : V.str (Txt.join spc ws) = v2 := Option.some.inj h2
      have hok := hrx ws (List.mem_of_getElem? hws)
      have hjl := rowText_len hok.ok
      have hwl := hok.ok.1
      have s3 : Same H2 (upd H2 T (.tup [.int (i : Nat), .str (Txt.join spc ws)])) := (Same.refl H2).put nT
      refine ⟨T, _, rfl, sqT_of upd_same, rfl, _, _, rfl, _, _, rfl, rfl, rfl, yes_ ⟨_, rfl, _, rfl, fun o dx no ndo neo => ?_⟩⟩
      have W3 := hW.same s3
      have etl3 := s3 _ _ etl
      have eD3 := s3 _ _ eD
      have s03 := s.trans s3
      generalize upd H2 T (.tup [.int (i : Nat), .str (Txt.join spc ws)]) = H3 at no ndo neo W3 etl3 eD3 s03 ⊢
      have s4 : Same H3 (upd (upd H3 dx (.own o)) o (.ins WD dx [])) := ((Same.refl H3).put ndo).put no
      refine ⟨o, dx, _, ws, rfl, upd_same, hok.ne, fun x hx => (hok.wd x hx).1, by omega, by omega, fun H5 W5 sx => ⟨rfl, ?_⟩⟩
      have s5 : Same H3 H5 := fun b ob e => sx b ob (fun z => by rw [z, no] at e; cases e) (s4 _ _ e)
      have hRw : i < Rw.length := (List.getElem?_eq_some_iff.mp hws).1
      have S5 := s03.trans s5
      have hno : ¬ o ∈ os := fun z => by
        obtain ⟨j, hj⟩ := List.mem_iff_getElem?.mp z
        have hjl := (List.getElem?_eq_some_iff.mp hj).1
        obtain ⟨dx', ll', row', e, _⟩ := W3.at_ j o _ (Nat.zero_le _) hj (List.getElem?_eq_getElem (by omega))
        rw [no] at e
        cases e
      refine ⟨_, s5 _ _ eD3, small1000 (by rw [List.length_map]; omega), os ++ [o], S5.put nD0, ?_, ?_, by rw [List.length_append, hl]; rfl, ?_⟩
      · rw [upd_ne hDt]
        exact s5 _ _ etl3
      · rw [upd_same, List.map_append]; rfl
      · exact ((W3.same s5).add hno (s03.free no) (by rw [hl]; exact hws) W5).put (s5 _ _ eD3) (fun u hu => by obtain ⟨z, _, hz⟩ := List.mem_map.mp hu; exact ⟨z, hz.symm⟩) hrn
  rintro H1 ⟨os, s1, etl, eD, hl, hW⟩
  rw [List.length_map, List.length_map] at hl
  obtain ⟨o0, ho0⟩ : ∃ o, os[0]? = some o := ⟨_, List.getElem?_eq_getElem (by omega)⟩
  have W0 := hW.at_ 0 o0 _ (Nat.le_refl _) ho0 hR0
  refine ⟨_, rfl, D, _, _, _, rfl, rfl, sqL_of eD, atI_nat (j := 0) (by rw [List.getElem?_map, ho0]; rfl), ?_⟩
  refine ⟨o0, xs, rfl, W0, hT.x, hT.x0, hT.xl, hT.xr, fun H2 fp s2 hfp => ?_⟩
  have ne_o : ∀ {o : Addr} {b : Addr} {H : Hp} {ws : List Str} {us : List V} {k : Nat}, WdAt WD o H ws k → H b = some (.lst us) → b ≠ o := fun W e z => by
    obtain ⟨dx, ll, row, e1, _⟩ := W
    rw [z, e1] at e
    cases e
  have so0 : H o0 = none := hW.fr o0 (List.mem_of_getElem? ho0)
  have toS : ∀ {o H1 H2}, H o = none → Same H H1 → SameX o H1 H2 → Same H H2 := fun n s x b ob e => x b ob (fun z => by rw [z, n] at e; cases e) (s b ob e)
  have S2 := toS so0 s1 s2
  have hW2 := hW.step ho0 W0 s2
  have eD2 := s2 _ _ (ne_o W0 eD) eD
  refine ⟨Nat.zero_le _, fun Dt nDt => ?_⟩
  have s3 : Same H2 (upd H2 Dt (.lst [])) := (Same.refl H2).put nDt
  have nDtD : Dt ≠ D := fun z => by rw [z, eD2] at nDt; cases nDt
  have nDt0 : H Dt = none := S2.free nDt
  have hW3 := hW2.same s3
  have eD3 := s3 _ _ eD2
  have eT3 : (upd H2 Dt (.lst [])) Dt = some (.lst []) := upd_same
  have S3 := S2.trans s3
  have hfp3 := s3.tup hfp
  generalize upd H2 Dt (.lst []) = H3 at s3 hW3 eD3 eT3 S3 hfp3 ⊢
  refine ⟨_, rfl, 1, rfl, D, _, rfl, sqL_of eD3, fun Dl nDl => ?_⟩
  rw [show (some 1 : Option Int) = some ((1 : Nat) : Int) from rfl, cut_from, ← List.map_drop]
  have s4 : Same H3 (upd H3 Dl (.lst ((os.drop 1).map V.ref))) := (Same.refl H3).put nDl
  have nDlT : Dl ≠ Dt := fun z => by rw [z, eT3] at nDl; cases nDl
  have hW4 := hW3.same s4
  have eD4 := s4 _ _ eD3
  have eT4 := s4 _ _ eT3
  have S4 := S3.trans s4
  have hfp4 := s4.tup hfp3
  have eL4 : (upd H3 Dl (.lst ((os.drop 1).map V.ref))) Dl = some (.lst ((os.drop 1).map V.ref)) := upd_same
  generalize upd H3 Dl (.lst ((os.drop 1).map V.ref)) = H4 at hW4 eD4 eT4 S4 hfp4 eL4 ⊢
  refine ⟨Dl, rfl, ⟨_, sqL_of eL4⟩, for_it walk_list (fun i σ H' => i ≤ (f.pre 0).length ∧ ∃ (us : List V) (y4 y5 y6 y7 y8 : Option V), σ = [some (.str tx), some (.ref D), some (.ref fp), some (.ref Dt), y4, y5, y6, y7, y8] ∧ Same H H' ∧ H' D = some (.lst (os.map V.ref)) ∧ H' Dl = some (.lst ((os.drop 1).map V.ref)) ∧ H' Dt = some (.lst us) ∧ All2 (TldAt K C H') us ((f.pre 0).take i) ∧ SqT K H' fp (xs.map V.str) ∧ RowsW WD H H' os Rw (i + 1))
    ⟨Nat.zero_le _, [], _, _, _, _, _, rfl, S4, eD4, eL4, eT4, .nil, hfp4, hW4⟩ (fun _ _ _ _ ⟨_, _, _, _, _, _, _, _, _, _, h, _⟩ => sqL_of h) ?_ ?_⟩
  · rintro i y σ H5 H6 hi ⟨hle, us, y4, y5, y6, y7, y8, rfl, S5, eD5, eL5, eT5, hus, hfp5, hW5⟩ ⟨rfl, hy⟩
    have hy : ((os.drop 1).map V.ref)[i]? = some y := hy
    rw [List.getElem?_map, List.getElem?_drop] at hy
    cases ho : os[1 + i]? with
    | none => rw [ho] at hy; cases hy
    | some o =>
      rw [ho] at hy
      obtain rfl : V.ref o = y := Option.some.inj hy
      rw [Nat.add_comm] at ho
      have hoH := hW5.fr o (List.mem_of_getElem? ho)
      by_cases hlt : i < (f.pre 0).length
      · obtain ⟨q0, hq0⟩ : ∃ q, (f.pre 0)[i]? = some q := ⟨_, List.getElem?_eq_getElem hlt⟩
        have W5 := hW5.at_ (i + 1) o _ (Nat.le_refl _) ho (hRj i q0 hq0)
        obtain ⟨dx5, ll5, row5, ho5, _⟩ := id W5
        have hmem : q0 ∈ f.pre 0 := List.mem_of_getElem? hq0
        have hres := hT.res q0 hmem
        have hsub := hT.sub q0 hmem
        have hf0 : ∃ x0, (wordsN q0.1 q0.2)[0]? = some x0 ∧ x0 ≠ Str.ofString "else" := by
          unfold wordsN
          cases q0.2 with
          | zero => exact ⟨q0.1.nm, rfl, fun z => hres.1 (by rw [z]; decide +kernel)⟩
          | succ k => exact ⟨Str.ofString ">", rfl, by decide +kernel⟩
        obtain ⟨x0, hx0, hne⟩ := hf0
        have hRow : RowR xs ((f.pre 0).take i) q0.1 q0.2 := ⟨pre_every hT.ok q0 hmem, hsub.1, hsub.2, hres.1, hres.2, fun x h => hT.xr x (hsub.1 x h), fun x h => hT.xr x (hsub.2 x h), fun q hq z => by
          obtain ⟨j, hj⟩ := List.mem_iff_getElem?.mp hq
          have hji : j < i := by have := (List.getElem?_eq_some_iff.mp hj).1; rw [List.length_take] at this; omega
          rw [List.getElem?_take_of_lt hji] at hj
          have hnd : ((f.pre 0).map fun q => q.1.nm).Nodup := hT.nd
          have := (List.getElem?_inj (by rw [List.length_map]; exact hlt) hnd).mp (show ((f.pre 0).map fun q => q.1.nm)[i]? = ((f.pre 0).map fun q => q.1.nm)[j]? by rw [List.getElem?_map, List.getElem?_map, hq0, hj]; exact congrArg some z)
          omega, by rw [List.length_take]; omega, most_ok hT.dep hq0⟩
        have hur : ∀ u ∈ us, ∃ t : Addr, u = .ref t := fun u hu => by
          obtain ⟨j, hj⟩ := List.mem_iff_getElem?.mp hu
          obtain ⟨q, _, t, c, e, _⟩ := hus.get hj
          exact ⟨t, e⟩
        have hul := hus.len
        rw [List.length_take] at hul
        refine ⟨_, rfl, o, dx5, _, rfl, ho5, rfl, o, _, _, rfl, W5, ?_⟩
        rw [hx0]
        refine ⟨rfl, _, rfl, ?_⟩
        rw [show decide (optV (some x0) = V.str (Str.ofString "else")) = false from decide_eq_false fun z => hne (V.str.inj z)]
        refine iteF ⟨_, rfl, .inl ⟨rfl, _, sqL_of eT5⟩, _, rfl, _, rfl, _, rfl, o, fp, Dt, us, (f.pre 0).take i, xs, q0.1, q0.2, rfl, W5, hfp5, eT5, hus, hRow, fun H7 v s7 hv => ?_⟩
        have S7 := toS hoH S5 s7
        have eT7 := s7 _ _ (ne_o W5 eT5) eT5
        have eD7 := s7 _ _ (ne_o W5 eD5) eD5
        have eL7 := s7 _ _ (ne_o W5 eL5) eL5
        have k7 : Keeps NoL H6 H7 := W5.keeps s7
        have k8 : Keeps NoL H7 (upd H7 Dt (.lst (us ++ [v]))) := keeps_own eT7 fun z => z
        refine ⟨Dt, us, v, rfl, rfl, eT7, small1000 (by omega), hlt, us ++ [v], _, _, _, _, _, rfl, S7.put nDt0, by rw [upd_ne nDtD.symm]; exact eD7, by rw [upd_ne nDlT]; exact eL7, upd_same, ?_, k8.tup (k7.tup hfp5), (hW5.step ho W5 s7).put eT7 hur hrn⟩
        rw [take_more hq0]
        exact ((hus.mono fun _ _ x => x.keeps k7).snoc hv).mono fun _ _ x => x.keeps k8
      · have hi2 : i = (f.pre 0).length := by omega
        subst hi2
        have W5 := hW5.at_ _ o _ (Nat.le_refl _) ho hRe
        obtain ⟨dx5, ll5, row5, ho5, _⟩ := id W5
        refine ⟨_, rfl, o, dx5, _, rfl, ho5, rfl, o, _, _, rfl, W5, rfl, _, rfl, ?_⟩
        rw [show decide (optV ([Str.ofString "else", rl][0]?) = V.str (Str.ofString "else")) = true from decide_eq_true rfl]
        refine iteT ?_
        rw [List.take_length] at hus
        have hul := hus.len
        refine ⟨_, rfl, Dt, us, rfl, .inl (sqL_of eT5), _, _, rfl, rfl, ?_⟩
        show gName 5 (V.int (1 + ((us.length : Nat) : Int))) _ _ _
        rw [show (1 : Int) + (us.length : Nat) = (((f.pre 0).length + 1 : Nat) : Int) by omega]
        have hol : (os.map V.ref).length = (f.pre 0).length + 2 := by rw [List.length_map]; omega
        refine ⟨_, rfl, _, rfl, D, _, rfl, .inl (sqL_of eD5), rfl, _, rfl, ?_⟩
        rw [decide_eq_false (fun z => by have := V.int.inj z; omega)]
        refine iteF ?_
        refine ⟨_, rfl, _, rfl, D, _, _, _, rfl, rfl, sqL_of eD5, atI_nat (j := (f.pre 0).length + 1) (by rw [List.getElem?_map, ho]; rfl), o, rl, rfl, W5, hT.rn, hT.rr, fun H7 s7 => ?_⟩
        have S7 := toS hoH S5 s7
        have eT7 := s7 _ _ (ne_o W5 eT5) eT5
        have eD7 := s7 _ _ (ne_o W5 eD5) eD5
        have k7 : Keeps NoL H6 H7 := W5.keeps s7
        have hus7 := hus.mono fun _ _ x => x.keeps k7
        have hfp7 := k7.tup hfp5
        refine ⟨_, rfl, _, _, rfl, rfl, _, rfl, D, _, rfl, .inl (sqL_of eD7), _, _, rfl, rfl, _, rfl, ?_⟩
        rw [decide_eq_false (by omega)]
        refine iteF ?_
        refine ⟨_, rfl, _, rfl, N, Dt, us, f, rfl, eT7, hus7, hT.ok, hT.dep, by omega, fun l hl => hN l (S7.free hl), fun H8 pr ws s8 hpr hF => ⟨_, rfl, fun x dx2 nx ndx nex => ?_⟩⟩
        have S8 := S7.trans s8
        have hfp8 := s8.tup hfp7
        have s9 : Same H8 (upd (upd H8 dx2 (.own x)) x (.ins B dx2 [])) := ((Same.refl H8).put ndx).put nx
        have ll := name_len hT.rn
        have hfn := hT.x.fines
        have hd6 := hT.dep
        have hxl := hT.xl
        refine ⟨N, x, dx2, fp, pr, xs, rl, ws, f, rfl, upd_same, s9.tup hfp8, hfn.txts, by omega, s9.tup hpr, hF.keeps s9.keeps, by omega, by omega, fit_of hT.ok, by omega, (fun i ei => by rw [hT.fb] at ei; cases ei), fun _ => ⟨(fun wd i ei => by rw [hT.ff] at ei; cases ei), fun _ => ⟨(fun z => by rw [hT.rn] at z; cases z), fun _ H10 l us2 sX hx10 nelx nl el hus2 => ⟨rfl, ?_⟩⟩⟩⟩
        have s10 : Same H8 H10 := fun b' o' h => sX b' o' (fun e => by rw [e, nx] at h; cases h) (s9 _ _ h)
        exact q H10 x (S8.trans s10) ⟨dx2, fp, pr, l, ws, us2, hx10, s10.tup hfp8, s10.tup hpr, hF.keeps s10.keeps, ⟨hN l (S8.free (s9.free nl)), el⟩, hus2⟩
  · rintro σ H5 ⟨hle, _⟩
    rw [List.length_map, List.length_drop, hl, hRl] at hle
    omega
end
end Sc
namespace Sc
open PySem PySem.Spec PyProof.Rows L2
abbrev s__law_made : Stmt := topS 65
theorem sc__law_made : FnScope ["_law_rules", "_law_found", "_law_name", "_law_holding", "_law_failing", "_law_ruling", "_law_inner"] ["_law_rules"] (defScope s__law_made) := ⟨rfl, rfl, rfl, by decide +kernel, rfl, by decide +kernel, by decide +kernel⟩
abbrev s__law_book : Stmt := topS 66
theorem sc__law_book : FnScope ["_law_drawn_here"] ["_law_drawn_here"] (defScope s__law_book) := ⟨rfl, rfl, rfl, by decide +kernel, rfl, by decide +kernel, by decide +kernel⟩
section
variable {P : Program} {w : World} {K : PySem.W.Frag} {mg : Str → Option Value} {base : Heap} {C R B CC CR CF CB : Addr}
def sp_made (K : PySem.W.Frag) (C R : Addr) (d : Nat) : Sp := fun vs H Q _ => ∃ (N : Addr → Prop) (p : Addr) (ws : List V) (f : RF), vs = [.ref p] ∧ SqT K H p ws ∧ RowsAt K H f ws ∧ (∀ l, H l = none → N l) ∧ f.dep ≤ d ∧ d ≤ 12 ∧ f.size ≤ 900 ∧ f.every NdOk ∧
  ∀ H' p' us, Same H H' → SqT K H' p' us → ForAt K C R N H' f us → Q (.ref p') H'
theorem ok_made {d : Nat} {f : Addr} {fd : FuncData} (F : Fun K "_law_made" "_law_made" s__law_made f fd) (B : Blt mg) (k_Condition : Mkr P w K mg base 4 "Condition" C ["self", "holding", "failing"] (sp_cond_init K C CC)) (k_Rule : Mkr P w K mg base 16 "Rule" R ["self", "name", "condition", "ruling", "exceptions"] (sp_rule_init K C R CR))
    (c__law_made : Cal P w K mg base CX0 (d + 17) "_law_made" ["_law_rules"] (Below (sp_made K C R) d)) :
    FnOk P w K mg base CX0 (d + 18) f fd ["_law_rules"] (sp_made K C R d) := by
  refine F.ok sc__law_made (fun vs H Q E h => by obtain ⟨N, p, ws, f, rfl, _⟩ := h; rfl) (fun cdv A outer s H vs Q E hr h => ?_)
  obtain ⟨N, p, ws, f, rfl, hP, hX, hN, hd, hd12, hz, hev, q⟩ := h
  refine ⟨_, (pss_cons (ps_set (i := 1) sc__law_made.nd rfl (Or.inl rfl) (pe_lst pa_nil))
      (pss_cons (ps_for PassesOwn.never rfl (pi_tup (pv 0)) (pg_tup (by rfl) (pgs_cons (pg_name (i := 2) sc__law_made.nd rfl (Or.inl rfl)) (pgs_cons (pg_name (i := 3) sc__law_made.nd rfl (Or.inl rfl)) (pgs_cons (pg_name (i := 4) sc__law_made.nd rfl (Or.inl rfl)) (pgs_cons (pg_name (i := 5) sc__law_made.nd rfl (Or.inl rfl)) (pgs_cons (pg_name (i := 6) sc__law_made.nd rfl (Or.inl rfl)) pgs_nil)))))) (pss_one (ps_expr (pe_bm PySem.F.plainAttrs_list PySem.F.slot_list_append PySem.F.type_list_append mt_append (pv 1) (pa_cons (pe_mkN k_Rule (hr.mono (by omega)) (pa_cons (pv 2) (pa_cons (pe_mkN k_Condition (hr.mono (by omega)) (pa_cons (pv 3) (pa_cons (pv 4) pa_nil))) (pa_cons (pv 5) (pa_cons (pe_cal c__law_made hr (pa_cons (pv 6) pa_nil)) pa_nil))))) pa_nil)))))
      (pss_one (ps_ret (pe_callTy call_tuple_of (by rfl) B.b_tuple PyProof.Rows.boot_tuple (pa_cons (pv 1) pa_nil)))))), ?_⟩
  have hA := hX.all
  have hln := hA.len
  have hlz := RF.nodes_le f
  refine ⟨Nat.zero_le _, fun D nD => ?_⟩
  have s0 : Same H (upd H D (.lst [])) := (Same.refl H).put nD
  have e0 : (upd H D (.lst [])) D = some (.lst []) := upd_same
  generalize upd H D (.lst []) = H0 at s0 e0 ⊢
  refine ⟨_, rfl, p, rfl, ⟨_, s0.tup hP⟩, for_it walk_tup (fun i σ H' => ∃ (rs : List V) (y2 y3 y4 y5 y6 : Option V), σ = [some (.ref p), some (.ref D), y2, y3, y4, y5, y6] ∧ Same H H' ∧ H' D = some (.lst rs) ∧ All2 (RefAt K C R (fun l => N l ∧ l ≠ D) H') rs (f.nodes.take i))
    ⟨[], none, none, none, none, none, rfl, s0, e0, .nil⟩ (fun _ _ _ _ ⟨_, _, _, _, _, _, _, s, _⟩ => s.tup hP) ?_ ?_⟩
  · rintro i y σ H4 H3 hi ⟨rs, y2, y3, y4, y5, y6, rfl, s, e, hrs⟩ ⟨rfl, hy⟩
    obtain ⟨n, hn, hrow⟩ := hA.get hy
    have hmem : n ∈ f.nodes := List.mem_of_getElem? hn
    have hdm := RF.dep_mem _ n hmem
    have hsm := RF.size_mem _ n hmem
    obtain ⟨hok, hne⟩ := RF.every_nodes.mp hev n hmem
    obtain ⟨d, rfl⟩ : ∃ d', d = d' + 1 := ⟨d - 1, by omega⟩
    have hrl := hrs.len
    rw [List.length_take] at hrl
    obtain ⟨o, wa, ba, pa, ws', rfl, hO, hW, hB, hPe, hXe⟩ := hrow.keeps (N := NoL) s.keeps
    refine ⟨o, _, rfl, hO, rfl, _, _, rfl, _, _, rfl, _, _, rfl, _, _, rfl, _, _, rfl, rfl, ?_⟩
    refine ⟨_, rfl, .inl ⟨rfl, _, sqL_of e⟩, _, rfl, _, rfl, _, rfl, fun c dxc nc ndc nec => ?_⟩
    have s1 : Same H3 (upd (upd H3 dxc (.own c)) c (.ins C dxc [])) := ((Same.refl H3).put ndc).put nc
    have hlen := hok.len
    refine ⟨c, dxc, wa, ba, n.hs, n.fs, rfl, upd_same, s1.tup hW, s1.tup hB, fw_txts hok.c1, fw_txts hok.c2, by omega, by omega, (fun i e => by rw [hok.c1] at e; cases e), fun _ => ⟨(fun i e => by rw [hok.c2] at e; cases e), fun _ H5 nn zs sX hc hnn hperm hsort => ⟨rfl, ?_⟩⟩⟩
    have s2 : Same H3 H5 := fun b' o' h => sX b' o' (fun e => by rw [e, nc] at h; cases h) (s1 _ _ h)
    have hcond : CondAt K C H5 c n.hs n.fs := ⟨dxc, wa, ba, nn, zs, hc, s2.tup hW, s2.tup hB, hnn, srt_uniq hperm hsort⟩
    have s05 := s.trans s2
    have e5 := s2 _ _ e
    refine ⟨_, rfl, _, rfl, fun l => N l ∧ l ≠ D, pa, ws', n.exc, rfl, s2.tup hPe, hXe.keeps (N := NoL) s2.keeps, fun l nl => ⟨hN l (s05.free nl), (fun z => by rw [z, e5] at nl; cases nl)⟩, by omega, by omega, by omega, hne, fun H6 t us s6 ht hF => ?_⟩
    have e6 := s6 _ _ e5
    intro x dx nx ndx nex
    have s7 : Same H6 (upd (upd H6 dx (.own x)) x (.ins R dx [])) := ((Same.refl H6).put ndx).put nx
    have l1 := name_len hok.nm
    have l2 := name_len hok.rl
    refine ⟨fun l => N l ∧ l ≠ D, x, dx, c, t, n.nm, n.rl, us, n.exc, rfl, upd_same, s7.tup ht, hF.keeps s7.keeps, by omega, by omega, by omega, by omega, (fun e => by rw [hok.nm] at e; cases e), fun _ => ⟨(fun e => by rw [hok.rl] at e; cases e), fun _ H8 l sX8 hx8 nelx nl el => ⟨rfl, ?_⟩⟩⟩
    have s8 : Same H6 H8 := fun b' o' h => sX8 b' o' (fun e => by rw [e, nx] at h; cases h) (s7 _ _ h)
    have s38 := (s2.trans s6).trans s8
    have s08 := s.trans s38
    have e8 := s8 _ _ e6
    have fl : H6 l = none := s7.free nl
    have hnd : NdAt K C R (fun l => N l ∧ l ≠ D) H8 x n := ⟨dx, c, t, l, us, hx8, (hcond.same s6).same s8, s8.tup ht, ⟨⟨hN l ((s05.trans s6).free fl), (fun z => by rw [z, e6] at fl; cases fl)⟩, el⟩, hF.keeps s8.keeps⟩
    refine ⟨D, _, _, rfl, rfl, e8, small1000 (by omega), ?_⟩
    have kk : Keeps (fun l => N l ∧ l ≠ D) H8 (upd H8 D (.lst (rs ++ [.ref x]))) := keeps_own e8 fun z => z.2 rfl
    refine ⟨rs ++ [.ref x], _, _, _, _, _, rfl, s08.put nD, upd_same, ?_⟩
    rw [take_more hn]
    exact (hrs.mono fun _ _ x => (x.keeps s38.keeps).keeps kk).snoc ⟨x, rfl, hnd.keeps kk⟩
  · rintro σ H3 ⟨rs, y2, y3, y4, y5, y6, rfl, s, e, hrs⟩
    rw [hln, List.take_length] at hrs
    refine ⟨_, rfl, D, _, rfl, .inl ⟨sqL_of e, fun t nt => ?_⟩⟩
    have s4 : Same H3 (upd H3 t (.tup rs)) := (Same.refl H3).put nt
    exact q _ t rs (s.trans s4) sqT_new (ForAt.of (hrs.mono fun _ _ ⟨o, e, x⟩ => ⟨o, e, (x.re fun b xs h _ => h.1).keeps s4.keeps⟩))
def sp_book2 (K : PySem.W.Frag) (C R B : Addr) : Sp := fun vs H Q _ => ∃ (N : Addr → Prop) (p fp pr : Addr) (xs : List Str) (last : Str) (ws : List V) (f : RF), vs = [.ref p] ∧ SqT K H p [.ref fp, .ref pr, .str last] ∧ SqT K H fp (xs.map V.str) ∧ Txts xs ∧ xs.length ≤ 1000 ∧ SqT K H pr ws ∧ RowsAt K H f ws ∧ (∀ l, H l = none → N l) ∧ f.every NdOk ∧ f.dep ≤ 12 ∧ f.size ≤ 900 ∧
  firstBad xs = none ∧ firstFault xs (f.pre 0) [] 0 0 = none ∧ isName last = true ∧ ∀ H' o, Same H H' → BookAt K C R B N H' o xs f last → Q (.ref o) H'
theorem ok_book2 {f : Addr} {fd : FuncData} (F : Fun K "_law_book" "_law_book" s__law_book f fd) (Bl : Blt mg) (k_Book : Mkr P w K mg base 17 "Book" B ["self", "facts", "rules", "ruling"] (sp_book_init K C R B CF CB))
    (c__law_made : Cal P w K mg base CX0 30 "_law_made" ["_law_rules"] (sp_made K C R 12)) :
    FnOk P w K mg base CX0 31 f fd ["_law_drawn_here"] (sp_book2 K C R B) := by
  refine F.ok sc__law_book (fun vs H Q E h => by obtain ⟨N, p, fp, pr, xs, last, ws, f, rfl, _⟩ := h; rfl) (fun cdv A outer s H vs Q E hr h => ?_)
  obtain ⟨N, p, fp, pr, xs, last, ws, f, rfl, hO, hS, tS, lS, hP, hX, hN, hev, hd, hz, hb, hff, hlast, q⟩ := h
  refine ⟨_, (pss_one (ps_ret (pe_mkN k_Book (hr.mono (by decide)) (pa_cons (pe_ix ix_tup (pv 0) pe_int (fun _ _ => rfl)) (pa_cons (pe_cal c__law_made (hr.mono (by decide)) (pa_cons (pe_ix ix_tup (pv 0) pe_int (fun _ _ => rfl)) pa_nil)) (pa_cons (pe_ix ix_tup (pv 0) pe_int (fun _ _ => rfl)) pa_nil)))))), ?_⟩
  refine ⟨_, rfl, p, _, 0, _, rfl, rfl, hO, atI_nat (j := 0) rfl, _, rfl, p, _, 1, _, rfl, rfl, hO, atI_nat (j := 1) rfl, N, pr, ws, f, rfl, hP, hX, hN, hd, by decide, hz, hev, fun H4 t us s4 ht hF => ?_⟩
  refine ⟨_, rfl, p, _, 2, _, rfl, rfl, s4.tup hO, atI_nat (j := 2) rfl, fun x dx nx ndx nex => ?_⟩
  have s5 : Same H4 (upd (upd H4 dx (.own x)) x (.ins B dx [])) := ((Same.refl H4).put ndx).put nx
  have s05 := s4.trans s5
  have ll := name_len hlast
  refine ⟨N, x, dx, fp, t, xs, last, us, f, rfl, upd_same, s05.tup hS, tS, lS, s5.tup ht, hF.keeps s5.keeps, hd, hz, fit_of hev, by omega, (fun i ei => by rw [hb] at ei; cases ei), fun _ => ⟨(fun wd i ei => by rw [hff] at ei; cases ei), fun _ => ⟨(fun z => by rw [hlast] at z; cases z), fun _ H6 l us2 sX6 hx6 nelx nl el hus => ⟨rfl, ?_⟩⟩⟩⟩
  have s6 : Same H4 H6 := fun b' o' h => sX6 b' o' (fun e => by rw [e, nx] at h; cases h) (s5 _ _ h)
  have s06 := s4.trans s6
  exact q H6 x s06 ⟨dx, fp, t, l, us, us2, hx6, s06.tup hS, s6.tup ht, hF.keeps s6.keeps, ⟨hN l (s4.free (s5.free nl)), el⟩, hus⟩
end
end Sc
namespace Sc
open PySem PySem.Spec PyProof.Rows L2
abbrev s__law_words : Stmt := topS 69
theorem sc__law_words : FnScope ["_law_rules", "_law_deep", "_law_found", "_law_name", "_law_holding", "_law_failing", "_law_ruling", "_law_inner", "_law_words_here"] ["_law_rules", "_law_deep"] (defScope s__law_words) := ⟨rfl, rfl, rfl, by decide +kernel, rfl, by decide +kernel, by decide +kernel⟩
abbrev s__law_rows_of : Stmt := topS 70
theorem sc__law_rows_of : FnScope ["_law_drawn_here"] ["_law_drawn_here"] (defScope s__law_rows_of) := ⟨rfl, rfl, rfl, by decide +kernel, rfl, by decide +kernel, by decide +kernel⟩
abbrev s__law_text : Stmt := topS 71
theorem sc__law_text : FnScope ["_law_rows", "_law_words_here"] ["_law_rows"] (defScope s__law_text) := ⟨rfl, rfl, rfl, by decide +kernel, rfl, by decide +kernel, by decide +kernel⟩
theorem LstAt.re {N M : Addr → Prop} {H : Hp} (g : ∀ b xs, N b → H b = some (.lst xs) → M b) {v : V} {ws : List Str} (h : LstAt N H v ws) : LstAt M H v ws := by
  obtain ⟨l, e, n, h⟩ := h
  exact ⟨l, e, g _ _ n h, h⟩
abbrev AllL : Addr → Prop := fun _ => True
/-- a part of a condition as a list -/
def tPartV (K : PySem.W.Frag) (i : Nat) (wd : Str) : TE := fun σ H Q => ∃ (a : Addr) (xs : List Str), σ[i]? = some (some (.ref a)) ∧ SqT K H a (xs.map V.str) ∧ Fines xs ∧ xs.length ≤ 100 ∧ ∀ H' l, Same H H' → H l = none → H' l = some (.lst ((partW wd xs).map V.str)) → Q (.ref l) H'
section
variable {P : Program} {w : World} {K : PySem.W.Frag} {mg : Str → Option Value} {base : Heap}
def sp_text (K : PySem.W.Frag) : Sp := fun vs H Q _ => ∃ (p : Addr) (us : List V) (rows : List (List Str)), vs = [.ref p] ∧ H p = some (.lst us) ∧ All2 (LstAt AllL H) us rows ∧ (∀ ws ∈ rows, RowOk ws) ∧ rows.length ≤ 62 ∧ ∀ H', Same H H' → Q (.str (Txt.join lf (rows.map (Txt.join spc)))) H'
theorem ok_text {f : Addr} {fd : FuncData} (F : Fun K "_law_text" "_law_text" s__law_text f fd) (B : Blt mg) : FnOk P w K mg base CX0 1 f fd ["_law_rows"] (sp_text K) := by
  refine F.ok sc__law_text (fun vs H Q E h => by obtain ⟨p, us, rows, rfl, _⟩ := h; rfl) (fun cdv A outer s H vs Q E hr h => ?_)
  obtain ⟨p, us, rows, rfl, hp, hu, hrok, hbl, q⟩ := h
  refine ⟨_, (pss_one (ps_ret (pe_join pe_str (pe_lc (own := [("_law_words_here", 1)]) (g := gName 1) (tt := tYes) rfl sc__law_text.nd (pi_list (pv 0)) (blkOk_by (own := [("_law_words_here", 1)]) (N := ["_law_rows", "_law_words_here"]) (sc := defScope s__law_text) (by decide +kernel)) (fun _ _ _ _ _ => (pg_name (i := 1) sc__law_text.nd rfl (Or.inl rfl))) (fun _ _ _ _ _ => pts_nil) (fun _ _ _ _ _ => (pe_.re (pe_join pe_str (pv 1)) (by first | (dsimp only [Cx.blk]; done) | exact rfl))))))), ?_⟩
  have hlen := hu.len
  refine ⟨⟨_, rfl⟩, _, rfl, p, rfl, ⟨_, sqL_of hp⟩, fun D6 nD6 => lc_it walk_list (fun i H' => Same H H' ∧ H' D6 = some (.lst (((rows.take i).map (Txt.join spc)).map V.str))) ⟨(Same.refl H).put nD6, upd_same⟩ (fun _ _ _ h => sqL_of (h.1 _ _ hp)) ?_ ?_⟩
  · rintro i y H12 H13 hi ⟨s, e⟩ ⟨rfl, hy⟩
    obtain ⟨ws', hw', l, rfl, nl', hl'⟩ := hu.get hy
    have hl' := s _ _ hl'
    have rok := hrok _ (List.mem_of_getElem? hw')
    have h2 : (ws'.map (·.length)).sum ≤ ws'.length * 8 := sum_le rok.2
    have h3 := rok.1
    refine ⟨rfl, yes_ ⟨⟨_, rfl⟩, _, rfl, spc, l, ws', rfl, rfl, .inl (sqL_of hl'), ?_, ?_⟩⟩
    · have e : spc.length = 1 := rfl
      rw [e]
      omega
    refine grow (acc := fun i => ((rows.take i).map (Txt.join spc)).map V.str) nD6 s e ?_ ?_
    · rw [List.length_map, List.length_map, List.length_take]
      exact small1000 (by omega)
    · show List.map V.str (List.map _ _) = _
      rw [take_more hw', List.map_append, List.map_append]
      rfl
  rintro H12 ⟨s12, e12⟩
  rw [hlen, List.take_length] at e12
  have h4 : ((rows.map (Txt.join spc)).map (·.length)).sum ≤ (rows.map (Txt.join spc)).length * 1800 := sum_le fun x hx => by
    obtain ⟨ws', hw', rfl⟩ := List.mem_map.mp hx
    exact rowText_len (hrok _ hw')
  rw [List.length_map] at h4
  refine ⟨lf, D6, rows.map (Txt.join spc), rfl, rfl, .inl (sqL_of e12), ?_, q H12 s12⟩
  have e : lf.length = 1 := rfl
  rw [e, List.length_map]
  omega
def sp_words (K : PySem.W.Frag) (d : Nat) : Sp := fun vs H Q _ => ∃ (p : Addr) (deep : Nat) (ws : List V) (f : RF), vs = [.ref p, .int (deep : Nat)] ∧ SqT K H p ws ∧ RowsAt K H f ws ∧ f.every NdOk ∧ deep + d ≤ 50 ∧ f.dep ≤ d ∧ d ≤ 20 ∧ f.size ≤ 900 ∧ ∀ H' D us, Same H H' → H' D = some (.lst us) → All2 (LstAt AllL H') us ((f.pre deep).map fun q => wordsN q.1 q.2) → Q (.ref D) H'
theorem ok_words {d : Nat} {f : Addr} {fd : FuncData} (F : Fun K "_law_words" "_law_words" s__law_words f fd) (B : Blt mg) (c__law_words : Cal P w K mg base CX0 (d + 1) "_law_words" ["_law_rules", "_law_deep"] (Below (sp_words K) d)) :
    FnOk P w K mg base CX0 (d + 2) f fd ["_law_rules", "_law_deep"] (sp_words K d) := by
  refine F.ok sc__law_words (fun vs H Q E h => by obtain ⟨p, deep, ws, f, rfl, _⟩ := h; rfl) (fun cdv A outer s H vs Q E hr h => ?_)
  obtain ⟨p, deep, ws, f, rfl, hP, hX, hev, hdp, hd, hd20, hz, q⟩ := h
  have hA := hX.all
  have hln := hA.len
  have hlz := RF.nodes_le f
  refine ⟨_, (pss_cons (ps_set (i := 2) sc__law_words.nd rfl (Or.inl rfl) (pe_lst pa_nil))
      (pss_cons (ps_for PassesOwn.never rfl (pi_tup (pv 0)) (pg_tup (by rfl) (pgs_cons (pg_name (i := 3) sc__law_words.nd rfl (Or.inl rfl)) (pgs_cons (pg_name (i := 4) sc__law_words.nd rfl (Or.inl rfl)) (pgs_cons (pg_name (i := 5) sc__law_words.nd rfl (Or.inl rfl)) (pgs_cons (pg_name (i := 6) sc__law_words.nd rfl (Or.inl rfl)) (pgs_cons (pg_name (i := 7) sc__law_words.nd rfl (Or.inl rfl)) pgs_nil)))))) (pss_cons (ps_set (i := 8) sc__law_words.nd rfl (Or.inl rfl) (pe_op op_cat (pe_op op_rep (pe_lst (pa_cons pe_str pa_nil)) (pv 1)) (pe_lst (pa_cons (pv 3) (pa_cons pe_str (pa_cons (pv 6) pa_nil))))))
      (pss_cons (ps_set (i := 8) sc__law_words.nd rfl (Or.inl rfl) (pe_op op_cat (pv 8) (pe_wk (tPartV K 4 "if") (pe_ifExp (pt_cmpR (op_neD hr.units) (pv 4) (pe_tup pa_nil) (nomark _)) (pe_op op_cat (pe_lst (pa_cons pe_str pa_nil)) (pe_callTy call_list_of (by rfl) B.b_list PyProof.Rows.boot_list (pa_cons (pv 4) pa_nil))) (pe_lst pa_nil)) ?wi)))
      (pss_cons (ps_expr (pe_bm PySem.F.plainAttrs_list PySem.F.slot_list_append PySem.F.type_list_append mt_append (pv 2) (pa_cons (pe_op op_cat (pv 8) (pe_wk (tPartV K 5 "not") (pe_ifExp (pt_cmpR (op_neD hr.units) (pv 5) (pe_tup pa_nil) (nomark _)) (pe_op op_cat (pe_lst (pa_cons pe_str pa_nil)) (pe_callTy call_list_of (by rfl) B.b_list PyProof.Rows.boot_list (pa_cons (pv 5) pa_nil))) (pe_lst pa_nil)) ?wn)) pa_nil)))
      (pss_one (ps_set (i := 2) sc__law_words.nd rfl (Or.inl rfl) (pe_op op_cat (pv 2) (pe_cal c__law_words hr (pa_cons (pv 7) (pa_cons (pe_op op_add (pv 1) pe_int) pa_nil))))))))))
      (pss_one (ps_ret (pv 2))))), ?_⟩
  case wi =>
    rintro σ H1 Q1 ⟨a, xs, g4, hS, hf, hl, q⟩
    refine ⟨_, g4, Nat.zero_le _, fun te nte => ?_⟩
    have s0 : Same H1 (upd H1 te (.tup [])) := (Same.refl H1).put nte
    have m0 : (upd H1 te (.tup [])) te = some (.tup []) := upd_same
    have n0 := s0
    generalize upd H1 te (.tup []) = H2 at s0 m0 ⊢
    refine ⟨.tuple (xs.map PyData.str), .tuple [], .tup (s0.tup hS) (dps K _ _), .tup (sqT_of m0) .nil, shT hf, rfl, _, rfl, ?_⟩
    have ed : (PyData.tuple (xs.map PyData.str)).eqv (.tuple []) = decide (xs = []) := eqvA_nil _
    rw [ed]
    refine bcase (fun c1 => ?_) (fun c1 => ?_)
    · have c1 : xs ≠ [] := of_decide_eq_false ((Bool.not_eq_true' _).mp c1)
      refine ⟨(by show 1 ≤ sizeLine; decide), fun l1 n1 => ?_⟩
      have s1 : Same H2 (upd H2 l1 (.lst [.str "if"])) := (Same.refl H2).put n1
      have m1 : (upd H2 l1 (.lst [.str "if"])) l1 = some (.lst [.str "if"]) := upd_same
      generalize upd H2 l1 (.lst [.str "if"]) = H3 at s1 m1 ⊢
      refine ⟨_, g4, a, _, rfl, .inr (s1.tup (s0.tup hS)), fun l2 n2 => ?_⟩
      have s2 : Same H3 (upd H3 l2 (.lst (xs.map V.str))) := (Same.refl H3).put n2
      have m2 : (upd H3 l2 (.lst (xs.map V.str))) l2 = some (.lst (xs.map V.str)) := upd_same
      generalize upd H3 l2 (.lst (xs.map V.str)) = H4 at s2 m2 ⊢
      refine ⟨l1, l2, _, _, rfl, rfl, s2 _ _ m1, m2, by rw [List.length_map, sizeLine_eq]; show 1 + _ ≤ _; omega, fun l3 n3 => ?_⟩
      have s3 : Same H4 (upd H4 l3 (.lst ([V.str "if"] ++ xs.map V.str))) := (Same.refl H4).put n3
      refine q _ l3 (((s0.trans s1).trans s2).trans s3) (((s0.trans s1).trans s2).free n3) ?_
      rw [upd_same, show partW "if" xs = Str.ofString "if" :: xs by unfold partW; rw [if_neg c1]]
      rfl
    · have c1 : xs = [] := of_decide_eq_true ((Bool.not_eq_false' _).mp c1)
      refine ⟨Nat.zero_le _, fun l1 n1 => q _ l1 (s0.put' n1) (s0.free n1) ?_⟩
      rw [upd_same, show partW "if" xs = [] by unfold partW; rw [if_pos c1]]
      rfl
  case wn =>
    rintro σ H1 Q1 ⟨a, xs, g4, hS, hf, hl, q⟩
    refine ⟨_, g4, Nat.zero_le _, fun te nte => ?_⟩
    have s0 : Same H1 (upd H1 te (.tup [])) := (Same.refl H1).put nte
    have m0 : (upd H1 te (.tup [])) te = some (.tup []) := upd_same
    have n0 := s0
    generalize upd H1 te (.tup []) = H2 at s0 m0 ⊢
    refine ⟨.tuple (xs.map PyData.str), .tuple [], .tup (s0.tup hS) (dps K _ _), .tup (sqT_of m0) .nil, shT hf, rfl, _, rfl, ?_⟩
    have ed : (PyData.tuple (xs.map PyData.str)).eqv (.tuple []) = decide (xs = []) := eqvA_nil _
    rw [ed]
    refine bcase (fun c1 => ?_) (fun c1 => ?_)
    · have c1 : xs ≠ [] := of_decide_eq_false ((Bool.not_eq_true' _).mp c1)
      refine ⟨(by show 1 ≤ sizeLine; decide), fun l1 n1 => ?_⟩
      have s1 : Same H2 (upd H2 l1 (.lst [.str "not"])) := (Same.refl H2).put n1
      have m1 : (upd H2 l1 (.lst [.str "not"])) l1 = some (.lst [.str "not"]) := upd_same
      generalize upd H2 l1 (.lst [.str "not"]) = H3 at s1 m1 ⊢
      refine ⟨_, g4, a, _, rfl, .inr (s1.tup (s0.tup hS)), fun l2 n2 => ?_⟩
      have s2 : Same H3 (upd H3 l2 (.lst (xs.map V.str))) := (Same.refl H3).put n2
      have m2 : (upd H3 l2 (.lst (xs.map V.str))) l2 = some (.lst (xs.map V.str)) := upd_same
      generalize upd H3 l2 (.lst (xs.map V.str)) = H4 at s2 m2 ⊢
      refine ⟨l1, l2, _, _, rfl, rfl, s2 _ _ m1, m2, by rw [List.length_map, sizeLine_eq]; show 1 + _ ≤ _; omega, fun l3 n3 => ?_⟩
      have s3 : Same H4 (upd H4 l3 (.lst ([V.str "not"] ++ xs.map V.str))) := (Same.refl H4).put n3
      refine q _ l3 (((s0.trans s1).trans s2).trans s3) (((s0.trans s1).trans s2).free n3) ?_
      rw [upd_same, show partW "not" xs = Str.ofString "not" :: xs by unfold partW; rw [if_neg c1]]
      rfl
    · have c1 : xs = [] := of_decide_eq_true ((Bool.not_eq_false' _).mp c1)
      refine ⟨Nat.zero_le _, fun l1 n1 => q _ l1 (s0.put' n1) (s0.free n1) ?_⟩
      rw [upd_same, show partW "not" xs = [] by unfold partW; rw [if_pos c1]]
      rfl
  have pl : ∀ (wd : Str) (xs : List Str), xs.length ≤ 8 → (partW wd xs).length ≤ 9 := fun wd xs h => by
    unfold partW
    split
    · exact Nat.zero_le _
    · rw [List.length_cons]
      omega
  refine ⟨Nat.zero_le _, fun D0 nD0 => ⟨_, rfl, p, rfl, ⟨_, ((Same.refl H).put nD0).tup hP⟩, for_it walk_tup (fun i σ H' => ∃ (D : Addr) (us : List V) (y3 y4 y5 y6 y7 y8 : Option V), σ = [some (.ref p), some (.int (deep : Nat)), some (.ref D), y3, y4, y5, y6, y7, y8] ∧ Same H H' ∧ H D = none ∧ H' D = some (.lst us) ∧ All2 (LstAt (fun l => l ≠ D) H') us ((RF.preL (f.nodes.take i) deep).map fun q => wordsN q.1 q.2))
    ⟨D0, [], none, none, none, none, none, none, rfl, (Same.refl H).put nD0, nD0, upd_same, .nil⟩ (fun _ _ _ _ ⟨_, _, _, _, _, _, _, _, _, s, _⟩ => s.tup hP) ?_ ?_⟩⟩
  · rintro i y σ H3 H2 hi ⟨D, us, y3, y4, y5, y6, y7, y8, rfl, s, nD, e, hu⟩ ⟨rfl, hy⟩
    obtain ⟨n, hn, hrow⟩ := hA.get hy
    have hmem : n ∈ f.nodes := List.mem_of_getElem? hn
    have hdm := RF.dep_mem f n hmem
    have hsm := RF.size_mem f n hmem
    obtain ⟨hok, hne⟩ := RF.every_nodes.mp hev n hmem
    obtain ⟨d, rfl⟩ : ∃ d', d = d' + 1 := ⟨d - 1, by omega⟩
    have hul := hu.len
    rw [List.length_map] at hul
    have hpl := RF.preL_len (f := f) (i := i) (k := deep)
    have hlen := hok.len
    have x1 := pl "if" n.hs (by omega)
    have x2 := pl "not" n.fs (by omega)
    obtain ⟨o, wa, ba, pa, ws', rfl, hO, hW, hB, hPe, hXe⟩ := hrow.keeps (N := NoL) s.keeps
    refine ⟨o, _, rfl, hO, rfl, _, _, rfl, _, _, rfl, _, _, rfl, _, _, rfl, _, _, rfl, rfl, ?_⟩
    refine ⟨(by show 1 ≤ sizeLine; decide), fun l1 n1 => ?_⟩
    have s1 : Same H2 (upd H2 l1 (.lst [.str ">"])) := (Same.refl H2).put n1
    have m1 : (upd H2 l1 (.lst [.str ">"])) l1 = some (.lst [.str ">"]) := upd_same
    generalize upd H2 l1 (.lst [.str ">"]) = H4 at s1 m1 ⊢
    refine ⟨_, rfl, l1, _, _, rfl, rfl, m1, by omega, by omega, by rw [sizeLine_eq]; show 1 * (deep : Int).toNat ≤ _; omega, fun l2 n2 => ?_⟩
    rw [rep_one, Int.toNat_natCast]
    have s2 : Same H4 (upd H4 l2 (.lst (List.replicate deep (V.str ">")))) := (Same.refl H4).put n2
    have m2 : (upd H4 l2 (.lst (List.replicate deep (V.str ">")))) l2 = some (.lst (List.replicate deep (V.str ">"))) := upd_same
    generalize upd H4 l2 (.lst (List.replicate deep (V.str ">"))) = H5 at s2 m2 ⊢
    refine ⟨_, rfl, _, rfl, (by show 3 ≤ sizeLine; decide), fun l3 n3 => ?_⟩
    have s3 : Same H5 (upd H5 l3 (.lst [.str n.nm, .str "is", .str n.rl])) := (Same.refl H5).put n3
    have m3 : (upd H5 l3 (.lst [.str n.nm, .str "is", .str n.rl])) l3 = some (.lst [.str n.nm, .str "is", .str n.rl]) := upd_same
    generalize upd H5 l3 (.lst [.str n.nm, .str "is", .str n.rl]) = H6 at s3 m3 ⊢
    refine ⟨l2, l3, _, _, rfl, rfl, s3 _ _ m2, m3, by rw [List.length_replicate, sizeLine_eq]; show deep + 3 ≤ _; omega, fun lw nlw => ?_⟩
    have s4 : Same H6 (upd H6 lw (.lst (List.replicate deep (V.str ">") ++ [.str n.nm, .str "is", .str n.rl]))) := (Same.refl H6).put nlw
    have m4 : (upd H6 lw (.lst (List.replicate deep (V.str ">") ++ [.str n.nm, .str "is", .str n.rl]))) lw = some (.lst (((List.replicate deep (Str.ofString ">") : List Str) ++ [n.nm, "is", n.rl]).map V.str)) := by rw [upd_same, List.map_append, List.map_replicate]; rfl
    generalize upd H6 lw (.lst (List.replicate deep (V.str ">") ++ [.str n.nm, .str "is", .str n.rl])) = H7 at s4 m4 ⊢
    have s27 := ((s1.trans s2).trans s3).trans s4
    refine ⟨_, rfl, wa, n.hs, rfl, s27.tup hW, fw_fines hok.c1, by omega, fun H8 l8 s8 n8 e8 => ?_⟩
    refine ⟨lw, l8, _, _, rfl, rfl, s8 _ _ m4, e8, by rw [List.length_map, List.length_map, List.length_append, List.length_replicate, sizeLine_eq]; show deep + 3 + _ ≤ _; omega, fun lw2 n9 => ?_⟩
    rw [← List.map_append]
    have s9 : Same H8 (upd H8 lw2 (.lst ((((List.replicate deep (Str.ofString ">") : List Str) ++ [n.nm, "is", n.rl]) ++ partW "if" n.hs).map V.str))) := (Same.refl H8).put n9
    have m9 : (upd H8 lw2 (.lst ((((List.replicate deep (Str.ofString ">") : List Str) ++ [n.nm, "is", n.rl]) ++ partW "if" n.hs).map V.str))) lw2 = some (.lst ((((List.replicate deep (Str.ofString ">") : List Str) ++ [n.nm, "is", n.rl]) ++ partW "if" n.hs).map V.str)) := upd_same
    generalize upd H8 lw2 (.lst ((((List.replicate deep (Str.ofString ">") : List Str) ++ [n.nm, "is", n.rl]) ++ partW "if" n.hs).map V.str)) = H9 at s9 m9 ⊢
    have s29 := (s27.trans s8).trans s9
    refine ⟨_, rfl, .inl ⟨rfl, _, sqL_of (s29 _ _ e)⟩, _, rfl, ba, n.fs, rfl, s29.tup hB, fw_fines hok.c2, by omega, fun H10 l10 s10 n10 e10 => ?_⟩
    refine ⟨lw2, l10, _, _, rfl, rfl, s10 _ _ m9, e10, by rw [List.length_map, List.length_map, List.length_append, List.length_append, List.length_replicate, sizeLine_eq]; show deep + 3 + _ + _ ≤ _; omega, fun lw3 n11 => ?_⟩
    rw [← List.map_append]
    have s11 : Same H10 (upd H10 lw3 (.lst ((wordsN n deep).map V.str))) := (Same.refl H10).put n11
    have m11 : (upd H10 lw3 (.lst ((wordsN n deep).map V.str))) lw3 = some (.lst ((wordsN n deep).map V.str)) := upd_same
    have ew : (upd H10 lw3 (.lst ((((List.replicate deep (Str.ofString ">") : List Str) ++ [n.nm, "is", n.rl]) ++ partW "if" n.hs ++ partW "not" n.fs).map V.str))) = upd H10 lw3 (.lst ((wordsN n deep).map V.str)) := rfl
    rw [ew]
    generalize upd H10 lw3 (.lst ((wordsN n deep).map V.str)) = H11 at s11 m11 ⊢
    have s211 := (s29.trans s10).trans s11
    have e11 := s211 _ _ e
    have w3D : lw3 ≠ D := fun z => by rw [z, s10 _ _ (s29 _ _ e)] at n11; cases n11
    refine ⟨D, _, _, rfl, rfl, e11, small1000 (by omega), ?_⟩
    have kD : Keeps (fun l => l ≠ D) H11 (upd H11 D (.lst (us ++ [.ref lw3]))) := keeps_own e11 fun z => z rfl
    have hu11 : All2 (LstAt (fun l => l ≠ D) (upd H11 D (.lst (us ++ [.ref lw3])))) (us ++ [.ref lw3]) (((RF.preL (f.nodes.take i) deep).map fun q => wordsN q.1 q.2) ++ [wordsN n deep]) :=
      (hu.mono fun _ _ x => (x.keeps s211.keeps).keeps kD).snoc (LstAt.keeps (N := fun l => l ≠ D) ⟨lw3, rfl, w3D, m11⟩ kD)
    have s12 : Same H (upd H11 D (.lst (us ++ [.ref lw3]))) := (s.trans s211).put nD
    have e12 : (upd H11 D (.lst (us ++ [.ref lw3]))) D = some (.lst (us ++ [.ref lw3])) := upd_same
    have kN : Keeps NoL H2 (upd H11 D (.lst (us ++ [.ref lw3]))) := s211.keeps.trans (keeps_own e11 id)
    have hPe12 := kN.tup hPe
    have hXe12 := hXe.keeps kN
    generalize upd H11 D (.lst (us ++ [.ref lw3])) = H12 at hu11 s12 e12 hPe12 hXe12 ⊢
    refine ⟨_, rfl, _, rfl, _, rfl, deep, 1, rfl, rfl, pa, deep + 1, ws', n.exc, rfl, hPe12, hXe12, hne, ?_, by omega, by omega, by omega, fun H13 D13 us13 s13 e13 hu13 => ?_⟩
    · omega
    have hl13 := hu13.len
    rw [List.length_map, RF.pre_len] at hl13
    refine ⟨D, D13, _, _, rfl, rfl, s13 _ _ e12, e13, by rw [List.length_append, sizeLine_eq]; show us.length + 1 + _ ≤ _; omega, fun l14 n14 => ?_⟩
    have s14 : Same H13 (upd H13 l14 (.lst (us ++ [.ref lw3] ++ us13))) := (Same.refl H13).put n14
    refine ⟨l14, _, _, _, _, _, _, _, rfl, (s12.trans s13).trans s14, (s12.trans s13).free n14, upd_same, ?_⟩
    rw [RF.preL_more hn, List.map_append, List.map_cons]
    have h1 := (hu11.mono fun _ _ x => (LstAt.re (M := fun l => l ≠ l14) (fun b xs _ h z => by rw [z, n14] at h; cases h) (x.keeps s13.keeps)).keeps s14.keeps).app (hu13.mono fun _ _ x => (LstAt.re (M := fun l => l ≠ l14) (fun b xs _ h z => by rw [z, n14] at h; cases h) x).keeps s14.keeps)
    rw [List.append_assoc (List.map _ _)] at h1
    exact h1
  · rintro σ H2 ⟨D, us, y3, y4, y5, y6, y7, y8, rfl, s, nD, e, hu⟩
    rw [hln, RF.preL_all] at hu
    exact ⟨_, rfl, q H2 D us s e (hu.mono fun _ _ x => x.re fun _ _ _ _ => trivial)⟩
def sp_rows_of (K : PySem.W.Frag) : Sp := fun vs H Q _ => ∃ (p fp pr : Addr) (xs : List Str) (rl : Str) (ws : List V) (f : RF), vs = [.ref p] ∧ SqT K H p [.ref fp, .ref pr, .str rl] ∧ SqT K H fp (xs.map V.str) ∧ xs.length ≤ 60 ∧ SqT K H pr ws ∧ RowsAt K H f ws ∧ f.every NdOk ∧ f.dep ≤ 12 ∧ f.size ≤ 60 ∧ ∀ H' D us, Same H H' → H' D = some (.lst us) → All2 (LstAt AllL H') us (rowsB xs (f.pre 0) rl) → Q (.ref D) H'
theorem ok_rows_of {f : Addr} {fd : FuncData} (F : Fun K "_law_rows_of" "_law_rows_of" s__law_rows_of f fd) (B : Blt mg) (c__law_words : Cal P w K mg base CX0 14 "_law_words" ["_law_rules", "_law_deep"] (sp_words K 12)) :
    FnOk P w K mg base CX0 15 f fd ["_law_drawn_here"] (sp_rows_of K) := by
  refine F.ok sc__law_rows_of (fun vs H Q E h => by obtain ⟨p, fp, pr, xs, rl, ws, f, rfl, _⟩ := h; rfl) (fun cdv A outer s H vs Q E hr h => ?_)
  obtain ⟨p, fp, pr, xs, rl, ws, f, rfl, hO, hS, hxl, hP, hX, hev, hd, hz, q⟩ := h
  refine ⟨_, (pss_one (ps_ret (pe_op op_cat (pe_op op_cat (pe_lst (pa_cons (pe_op op_cat (pe_lst (pa_cons pe_str pa_nil)) (pe_callTy call_list_of (by rfl) B.b_list PyProof.Rows.boot_list (pa_cons (pe_ix ix_tup (pv 0) pe_int (fun _ _ => rfl)) pa_nil))) pa_nil)) (pe_cal c__law_words (hr.mono (by decide)) (pa_cons (pe_ix ix_tup (pv 0) pe_int (fun _ _ => rfl)) (pa_cons pe_int pa_nil)))) (pe_lst (pa_cons (pe_lst (pa_cons pe_str (pa_cons (pe_ix ix_tup (pv 0) pe_int (fun _ _ => rfl)) pa_nil))) pa_nil))))), ?_⟩
  refine ⟨(by show 1 ≤ sizeLine; decide), fun l1 n1 => ?_⟩
  have s1 : Same H (upd H l1 (.lst [.str "facts"])) := (Same.refl H).put n1
  have m1 : (upd H l1 (.lst [.str "facts"])) l1 = some (.lst [.str "facts"]) := upd_same
  generalize upd H l1 (.lst [.str "facts"]) = H1 at s1 m1 ⊢
  refine ⟨_, rfl, p, _, 0, _, rfl, rfl, s1.tup hO, atI_nat (j := 0) rfl, fp, _, rfl, .inr (s1.tup hS), fun l2 n2 => ?_⟩
  have s2 : Same H1 (upd H1 l2 (.lst (xs.map V.str))) := (Same.refl H1).put n2
  have m2 : (upd H1 l2 (.lst (xs.map V.str))) l2 = some (.lst (xs.map V.str)) := upd_same
  generalize upd H1 l2 (.lst (xs.map V.str)) = H2 at s2 m2 ⊢
  refine ⟨l1, l2, _, _, rfl, rfl, s2 _ _ m1, m2, by rw [List.length_map, sizeLine_eq]; show 1 + _ ≤ _; omega, fun l3 n3 => ?_⟩
  have s3 : Same H2 (upd H2 l3 (.lst ([V.str "facts"] ++ xs.map V.str))) := (Same.refl H2).put n3
  have m3 : (upd H2 l3 (.lst ([V.str "facts"] ++ xs.map V.str))) l3 = some (.lst ((Str.ofString "facts" :: xs).map V.str)) := upd_same
  generalize upd H2 l3 (.lst ([V.str "facts"] ++ xs.map V.str)) = H3 at s3 m3 ⊢
  refine ⟨(by show 1 ≤ sizeLine; decide), fun l4 n4 => ?_⟩
  have s4 : Same H3 (upd H3 l4 (.lst [.ref l3])) := (Same.refl H3).put n4
  have m4 : (upd H3 l4 (.lst [.ref l3])) l4 = some (.lst [.ref l3]) := upd_same
  generalize upd H3 l4 (.lst [.ref l3]) = H4 at s4 m4 ⊢
  have s04 := ((s1.trans s2).trans s3).trans s4
  refine ⟨_, rfl, p, _, 1, _, rfl, rfl, s04.tup hO, atI_nat (j := 1) rfl, pr, 0, ws, f, rfl, s04.tup hP, hX.keeps (N := NoL) s04.keeps, hev, by decide, hd, by decide, by omega, fun H5 D us s5 eD hu => ?_⟩
  have hul := hu.len
  rw [List.length_map, RF.pre_len] at hul
  refine ⟨l4, D, _, _, rfl, rfl, s5 _ _ m4, eD, by rw [sizeLine_eq]; show 1 + us.length ≤ _; omega, fun l6 n6 => ?_⟩
  have s6 : Same H5 (upd H5 l6 (.lst ([V.ref l3] ++ us))) := (Same.refl H5).put n6
  have m6 : (upd H5 l6 (.lst ([V.ref l3] ++ us))) l6 = some (.lst ([V.ref l3] ++ us)) := upd_same
  generalize upd H5 l6 (.lst ([V.ref l3] ++ us)) = H6 at s6 m6 ⊢
  have s06 := (s04.trans s5).trans s6
  refine ⟨_, rfl, p, _, 2, _, rfl, rfl, s06.tup hO, atI_nat (j := 2) rfl, (by show 2 ≤ sizeLine; decide), fun l7 n7 => ?_⟩
  have s7 : Same H6 (upd H6 l7 (.lst [.str "else", .str rl])) := (Same.refl H6).put n7
  have m7 : (upd H6 l7 (.lst [.str "else", .str rl])) l7 = some (.lst ([Str.ofString "else", rl].map V.str)) := upd_same
  generalize upd H6 l7 (.lst [.str "else", .str rl]) = H7 at s7 m7 ⊢
  refine ⟨(by show 1 ≤ sizeLine; decide), fun l8 n8 => ?_⟩
  have s8 : Same H7 (upd H7 l8 (.lst [.ref l7])) := (Same.refl H7).put n8
  have m8 : (upd H7 l8 (.lst [.ref l7])) l8 = some (.lst [.ref l7]) := upd_same
  generalize upd H7 l8 (.lst [.ref l7]) = H8 at s8 m8 ⊢
  refine ⟨l6, l8, _, _, rfl, rfl, s8 _ _ (s7 _ _ m6), m8, by rw [sizeLine_eq]; show (us.length + 1) + 1 ≤ _; omega, fun l9 n9 => ?_⟩
  have s9 : Same H8 (upd H8 l9 (.lst ([V.ref l3] ++ us ++ [.ref l7]))) := (Same.refl H8).put n9
  have s89 := s8.trans s9
  have s59 := (s6.trans s7).trans s89
  refine q _ l9 _ ((s06.trans s7).trans s89) upd_same ?_
  exact (All2.cons (⟨l3, rfl, trivial, s59 _ _ (s5 _ _ (s4 _ _ m3))⟩ : LstAt AllL _ _ _) (hu.mono fun _ _ x => x.keeps (N := AllL) s59.keeps)).snoc ⟨l7, rfl, trivial, s89 _ _ m7⟩
end
end Sc
namespace Sc
open PySem PySem.Spec PyProof.Rows L2
section
variable {K : PySem.W.Frag} {H : Hp}
/-! ### rows as data -/
def RF.dats : RF → List PyData
  | .nil => []
  | .cons nm hs fs rl exc rest => .tuple [.str nm, .tuple (hs.map PyData.str), .tuple (fs.map PyData.str), .str rl, .tuple exc.dats] :: rest.dats
theorem dp_rows : ∀ {f : RF} {vs : List V}, RowsAt K H f vs → DpAll K H vs f.dats
  | .nil, _, h => by
    obtain rfl : _ = [] := h
    exact .nil
  | .cons nm hs fs rl exc rest, vs, h => by
    obtain ⟨o, w, b, p, ws, vs', rfl, h1, h2, h3, h4, h6, h7⟩ := h
    exact .cons (.tup h1 (.cons (.str _) (.cons (.tup h2 (dps K H hs)) (.cons (.tup h3 (dps K H fs)) (.cons (.str _) (.cons (.tup h4 (dp_rows h6)) .nil)))))) (dp_rows h7)
theorem lay_rows : ∀ {f : RF}, f.every NdOk → PyData.canLayAll0 f.dats = true
  | .nil, _ => rfl
  | .cons nm hs fs rl exc rest, h => by
    obtain ⟨h1, h2, h3⟩ := h
    show (((PyData.str nm).canLay0 && (PyData.canLayAll0 (hs.map PyData.str) && (PyData.canLayAll0 (fs.map PyData.str) && ((PyData.str rl).canLay0 && (PyData.canLayAll0 exc.dats && true))))) && PyData.canLayAll0 rest.dats) = true
    rw [(name_fine h1.nm).2, strs_lay (fw_fines h1.c1), strs_lay (fw_fines h1.c2), (name_fine h1.rl).2, lay_rows h2, lay_rows h3]
    rfl
theorem dep_rows : ∀ f : RF, PyData.depthAll f.dats ≤ 2 * f.dep
  | .nil => Nat.le_refl 0
  | .cons nm hs fs rl exc rest => by
    have h1 := dep_rows exc
    have h2 := dep_rows rest
    show max ((max (PyData.str nm).depth (max (PyData.depthAll (hs.map PyData.str) + 1) (max (PyData.depthAll (fs.map PyData.str) + 1) (max (PyData.str rl).depth (max (PyData.depthAll exc.dats + 1) 0))))) + 1) (PyData.depthAll rest.dats) ≤ 2 * max (exc.dep + 1) rest.dep
    rw [strs_depth, strs_depth]
    have e1 : (PyData.str nm).depth = 0 := rfl
    have e2 : (PyData.str rl).depth = 0 := rfl
    omega
theorem sh_rows {f : RF} (h : f.every NdOk) (d : f.dep ≤ 12) : SeqAt.shaped (.tuple f.dats) = true := by
  unfold SeqAt.shaped
  have e1 : (PyData.tuple f.dats).canLay0 = true := lay_rows h
  have e2 : (PyData.tuple f.dats).depth ≤ 64 := by
    have := dep_rows f
    show PyData.depthAll f.dats + 1 ≤ 64
    omega
  rw [e1, decide_eq_true e2]
  rfl
end
namespace RF
def ofL : List Nd → RF
  | [] => .nil
  | n :: r => .cons n.nm n.hs n.fs n.rl n.exc (ofL r)
theorem ofL_nodes : ∀ ns : List Nd, (ofL ns).nodes = ns
  | [] => rfl
  | n :: r => by show n :: (ofL r).nodes = _; rw [ofL_nodes r]
theorem ofL_every {p : Nd → Prop} : ∀ {ns : List Nd}, (∀ n ∈ ns, p n ∧ n.exc.every p) → (ofL ns).every p
  | [], _ => trivial
  | n :: r, h => ⟨(h n List.mem_cons_self).1, (h n List.mem_cons_self).2, ofL_every fun m hm => h m (List.mem_cons_of_mem _ hm)⟩
theorem ofL_dep {d : Nat} : ∀ {ns : List Nd}, (∀ n ∈ ns, n.exc.dep + 1 ≤ d) → (ofL ns).dep ≤ d
  | [], _ => Nat.zero_le _
  | n :: r, h => by
    have h1 := h n List.mem_cons_self
    have h2 := ofL_dep (ns := r) fun m hm => h m (List.mem_cons_of_mem _ hm)
    show max (n.exc.dep + 1) (ofL r).dep ≤ d
    omega
end RF
theorem sh_rowsL {f : RF} (h : f.every NdOk) (d : f.dep ≤ 12) : SeqAt.shaped (.list f.dats) = true := by
  unfold SeqAt.shaped
  have e1 : (PyData.list f.dats).canLay0 = true := lay_rows h
  have e2 : (PyData.list f.dats).depth ≤ 64 := by
    have := dep_rows f
    show PyData.depthAll f.dats + 1 ≤ 64
    omega
  rw [e1, decide_eq_true e2]
  rfl
theorem dats_nil {f : RF} : (PyData.list f.dats).eqv (.list []) = decide (f.nodes = []) := by
  cases f with
  | nil => rfl
  | cons nm hs fs rl exc rest => exact (decide_eq_false (List.cons_ne_nil _ _)).symm
end Sc
namespace Sc
open PySem PySem.Spec PyProof.Rows L2
/-- a block within a block that uses no name from around -/
theorem blkOk_any {N : List Str} {sc sc' scope : Scope} {own : List (Str × Nat)} (h : BlkOk N sc scope own) (nf : (scope.names.all fun y => match y.2 with | .free => false | _ => true) = true) : BlkOk N sc' scope own :=
  ⟨h.kind, h.uniq, h.ix, fun y hy e => by
    have q := List.all_eq_true.mp nf y hy
    rw [e] at q
    exact Bool.noConfusion q, h.own⟩
/-! ### a list of whatever items against an empty one -/
def rNilE (neg : Bool) : R2 := fun x y H Q => ∃ (a b : Addr) (xs : List V), x = .ref a ∧ y = .ref b ∧ H a = some (.lst xs) ∧ H b = some (.lst []) ∧ Q (.bl (if neg then !xs.isEmpty else xs.isEmpty)) H
section
variable {X : Cx}
theorem op_neE (hu : X.A.units + 64 < cLine) : OpR X (compareOp .NotEq) (rNilE true) := by
  intro pins s σ H x y v u Q I rx ry h
  obtain ⟨a, b, xs, rfl, rfl, ha, hb, q⟩ := h
  cases rx
  cases ry
  obtain ⟨its, r, p1, _⟩ := I.list (.inl (.inl ha))
  obtain ⟨its2, r2, p2, _⟩ := I.list (.inl (.inl hb))
  have h1 := r.length
  have h2 := r2.length
  have z2 : its2 = [] := List.length_eq_zero_iff.mp (by rw [← h2]; rfl)
  subst z2
  cases xs with
  | nil =>
    have z1 : its = [] := List.length_eq_zero_iff.mp (by rw [← h1]; rfl)
    subst z1
    exact EqBoolInt.of_rcne (SeqAt.RcNeAt.lists (e := fun _ => true) p1.isList p2.isList rfl (by omega) (fun j hj _ => absurd hj (Nat.not_lt_zero j))) ⟨.bl _, H, I, rfl, q⟩
  | cons z r0 =>
    exact EqBoolInt.of_rcne (SeqAt.RcNeAt.lists_lengths p1.isList p2.isList (by
      have : its.length ≠ 0 := by rw [← h1, List.length_cons]; omega
      simpa using fun e => this (by rw [e]; rfl)) (by omega)) ⟨.bl _, H, I, rfl, q⟩
theorem op_eqE (hu : X.A.units + 64 < cLine) : OpR X (compareOp .Eq) (rNilE false) := by
  intro pins s σ H x y v u Q I rx ry h
  obtain ⟨a, b, xs, rfl, rfl, ha, hb, q⟩ := h
  cases rx
  cases ry
  obtain ⟨its, r, p1, _⟩ := I.list (.inl (.inl ha))
  obtain ⟨its2, r2, p2, _⟩ := I.list (.inl (.inl hb))
  have h1 := r.length
  have h2 := r2.length
  have z2 : its2 = [] := List.length_eq_zero_iff.mp (by rw [← h2]; rfl)
  subst z2
  cases xs with
  | nil =>
    have z1 : its = [] := List.length_eq_zero_iff.mp (by rw [← h1]; rfl)
    subst z1
    exact EqBoolInt.of_rc (SeqAt.RcAt.lists (e := fun _ => true) p1.isList p2.isList rfl (by omega) (fun j hj _ => absurd hj (Nat.not_lt_zero j))) ⟨.bl _, H, I, rfl, q⟩
  | cons z r0 =>
    exact EqBoolInt.of_rc (SeqAt.RcAt.lists_lengths p1.isList p2.isList (by
      have : its.length ≠ 0 := by rw [← h1, List.length_cons]; omega
      simpa using fun e => this (by rw [e]; rfl)) (by omega)) ⟨.bl _, H, I, rfl, q⟩
end
end Sc
namespace Sc
open PySem PySem.Spec PyProof.Rows L2
/-! ### alike, over lists and tuples wherever they come from -/
theorem tyT {K : PySem.W.Frag} {H : Hp} {a : Addr} {xs : List V} (h : SqT K H a xs) : TyX K H (.ref a) (.type "tuple") := by
  rcases h with (h | ⟨o, h⟩) | ⟨o, its, n, hk, hc, _⟩
  · exact .base (.tup h)
  · exact .fTuple h
  · exact .kTuple hk hc
theorem _root_.L2.TyX.lst {K : PySem.W.Frag} {H : Hp} {a : Addr} {xs : List V} (h : H a = some (.lst xs)) : TyX K H (.ref a) (.type "list") := .base (.lst h)
theorem _root_.L2.TyX.int {K : PySem.W.Frag} {H : Hp} (i : Int) : TyX K H (.int i) (.type "int") := .base (.int i)
theorem _root_.L2.TyX.str {K : PySem.W.Frag} {H : Hp} (x : Str) : TyX K H (.str x) (.type "str") := .base (.str x)
theorem _root_.L2.TyX.tup {K : PySem.W.Frag} {H : Hp} {a : Addr} {xs : List V} (h : SqT K H a xs) : TyX K H (.ref a) (.type "tuple") := tyT h
def rIsTX (K : PySem.W.Frag) (T : String) : List V → Hp → VK → Prop := fun xs H Q => ∃ (x : V) (t : String) (b : Bool), xs = [x, .ty T] ∧ TyX K H x (.type t) ∧ kitB t T = some b ∧ Q (.bl b) H
theorem call_isTX {X : Cx} (T : String) : CallR X (.builtin "isinstance") (rIsTX X.K T) := by
  intro pins s σ H xs us Q I r h
  obtain ⟨x, t, b, ex, ht, hb, q⟩ := h
  exact call_isi pins s σ H xs us Q I r ⟨_, _, _, _, _, ex, .ty _, ht, kit_ty hb, q⟩
inductive AT (K : PySem.W.Frag) (H : Hp) : Nat → V → PyData → Prop where
  | int (n : Nat) (i : Int) : AT K H n (.int i) (.int i)
  | str (n : Nat) (x : Str) : AT K H n (.str x) (.str x)
  | lst {n : Nat} {a : Addr} {xs : List V} {ds : List PyData} (e : H a = some (.lst xs)) (l : xs.length = ds.length) (z : xs.length ≤ 1000000) (all : ∀ (i : Nat) (x : V) (d : PyData), xs[i]? = some x → ds[i]? = some d → AT K H n x d) : AT K H (n + 1) (.ref a) (.list ds)
  | tup {n : Nat} {a : Addr} {xs : List V} {ds : List PyData} (e : SqT K H a xs) (l : xs.length = ds.length) (z : xs.length ≤ 1000000) (all : ∀ (i : Nat) (x : V) (d : PyData), xs[i]? = some x → ds[i]? = some d → AT K H n x d) : AT K H (n + 1) (.ref a) (.tuple ds)
section
variable {P : Program} {w : World} {K : PySem.W.Frag} {mg : Str → Option Value} {base : Heap} {C R B : Addr}
theorem AT.same {H H' : Hp} {n : Nat} {x : V} {d : PyData} (s : Same H H') (h : AT K H n x d) : AT K H' n x d := by
  induction h with
  | int n i => exact .int n i
  | str n x => exact .str n x
  | lst e l z all ih => exact .lst (s _ _ e) l z ih
  | tup e l z all ih => exact .tup (s.tup e) l z ih
def sp_alikeT (K : PySem.W.Frag) (n : Nat) : Sp := fun vs H Q _ => ∃ (x y : V) (d : PyData), vs = [x, y] ∧ AT K H n x d ∧ AT K H n y d ∧ ∀ H', Same H H' → Q (.bl true) H'
/-- the answer where no list or tuple stands -/
theorem ok_alikeT0 {f : Addr} {fd : FuncData} (F : Fun K "_law_alike" "_law_alike" s__law_alike f fd) (B : Blt mg) : FnOk P w K mg base CX0 1 f fd ["_law_found", "_law_due"] (sp_alikeT K 0) := by
  refine F.ok sc__law_alike (fun vs H Q E h => by obtain ⟨x, y, d, rfl, _⟩ := h; rfl) (fun cdv A outer s H vs Q E hr h => ?_)
  obtain ⟨x, y, d, rfl, hx, hy, q⟩ := h
  refine ⟨_, (pss_cons (ps_if (pt_val (pe_callB (call_isTX "dict") (by rfl) B.b_isinstance PyProof.Rows.boot_isinstance (pa_cons (pv 1) (pa_cons (pe_bltn (v := .ty "dict") (by rfl) B.b_dict (by decide +kernel) rfl) pa_nil)))) pss_never pss_nil)
      (pss_cons (ps_if (pt_val (pe_callB call_isiT (by rfl) B.b_isinstance PyProof.Rows.boot_isinstance (pa_cons (pv 1) (pa_cons (pe_tup (pa_cons (pe_bltn (v := .ty "tuple") (by rfl) B.b_tuple PyProof.Rows.boot_tuple rfl) (pa_cons (pe_bltn (v := .ty "list") (by rfl) B.b_list PyProof.Rows.boot_list rfl) pa_nil))) pa_nil)))) pss_never pss_nil)
      (pss_cons (ps_if (PW.pt (pw_or (pt_cmpR op_isN (pv 1) pe_non (nomark _)) (pw_or1 (pt_val (pe_callB (call_isTX "str") (by rfl) B.b_isinstance PyProof.Rows.boot_isinstance (pa_cons (pv 1) (pa_cons (pe_bltn (v := .ty "str") (by rfl) B.b_str PyProof.Rows.boot_str rfl) pa_nil))))))) (pss_one (ps_ret (pe_and (pe_cmpR op_eq (pv 0) (pv 1) (nomark _)) (pe_one (pe_cmpR op_eq (pe_callB (call_isTX "str") (by rfl) B.b_isinstance PyProof.Rows.boot_isinstance (pa_cons (pv 0) (pa_cons (pe_bltn (v := .ty "str") (by rfl) B.b_str PyProof.Rows.boot_str rfl) pa_nil))) (pe_callB (call_isTX "str") (by rfl) B.b_isinstance PyProof.Rows.boot_isinstance (pa_cons (pv 1) (pa_cons (pe_bltn (v := .ty "str") (by rfl) B.b_str PyProof.Rows.boot_str rfl) pa_nil))) (nomark _)))))) pss_nil)
      (pss_one (ps_ret (pe_and (pe_callB (call_isTX "int") (by rfl) B.b_isinstance PyProof.Rows.boot_isinstance (pa_cons (pv 0) (pa_cons (pe_bltn (v := .ty "int") (by rfl) B.b_int PyProof.Rows.boot_int rfl) pa_nil))) (pe_and (pe_cmpR op_eq (pe_callB (call_isTX "bool") (by rfl) B.b_isinstance PyProof.Rows.boot_isinstance (pa_cons (pv 0) (pa_cons (pe_bltn (v := .ty "bool") (by rfl) B.b_bool PyProof.Rows.boot_bool rfl) pa_nil))) (pe_callB (call_isTX "bool") (by rfl) B.b_isinstance PyProof.Rows.boot_isinstance (pa_cons (pv 1) (pa_cons (pe_bltn (v := .ty "bool") (by rfl) B.b_bool PyProof.Rows.boot_bool rfl) pa_nil))) (nomark _)) (pe_one (pe_cmpR op_eq (pv 0) (pv 1) (nomark _)))))))))), ?_⟩
  cases hx with
  | int _ i =>
    cases hy
    refine ⟨_, rfl, _, "int", false, rfl, .int i, by decide +kernel, false, rfl, iteF ?_⟩
    refine ⟨_, rfl, (by show 2 ≤ sizeLine; decide), fun tp ntp => ⟨_, tp, _, .type "int", [.type "tuple", .type "list"], false, rfl, upd_same, .cons (.ty _) (.cons (.ty _) .nil), .base (.int i), kitAny_cons (b := false) (kit_ty (by decide +kernel)) (fun _ => kitAny_cons (b := false) (kit_ty (by decide +kernel)) (fun _ => kitAny_nil) (fun z => nomatch z)) (fun z => nomatch z), false, rfl, iteF ?_⟩⟩
    have s1 : Same H (upd H tp (.tup [.ty "tuple", .ty "list"])) := (Same.refl H).put ntp
    refine ⟨_, rfl, rfl, false, rfl, iteF ⟨_, rfl, _, "int", false, rfl, .int i, by decide +kernel, false, rfl, iteF ?_⟩⟩
    refine ⟨_, rfl, _, "int", true, rfl, .int i, by decide +kernel, true, rfl, iteT ?_⟩
    refine ⟨_, rfl, _, "int", false, rfl, .int i, by decide +kernel, _, rfl, _, "int", false, rfl, .int i, by decide +kernel, rfl, true, rfl, iteT ?_⟩
    refine ⟨_, rfl, _, rfl, rfl, ?_⟩
    rw [decide_eq_true rfl]
    exact q _ s1
  | str _ x =>
    cases hy
    refine ⟨_, rfl, _, "str", false, rfl, .str x, by decide +kernel, false, rfl, iteF ?_⟩
    refine ⟨_, rfl, (by show 2 ≤ sizeLine; decide), fun tp ntp => ⟨_, tp, _, .type "str", [.type "tuple", .type "list"], false, rfl, upd_same, .cons (.ty _) (.cons (.ty _) .nil), .base (.str x), kitAny_cons (b := false) (kit_ty (by decide +kernel)) (fun _ => kitAny_cons (b := false) (kit_ty (by decide +kernel)) (fun _ => kitAny_nil) (fun z => nomatch z)) (fun z => nomatch z), false, rfl, iteF ?_⟩⟩
    have s1 : Same H (upd H tp (.tup [.ty "tuple", .ty "list"])) := (Same.refl H).put ntp
    refine ⟨_, rfl, rfl, false, rfl, iteF ⟨_, rfl, _, "str", true, rfl, .str x, by decide +kernel, true, rfl, iteT ?_⟩⟩
    refine ⟨_, rfl, _, rfl, rfl, decide (V.str x = V.str x), rfl, ?_⟩
    rw [decide_eq_true rfl]
    refine iteT ?_
    refine ⟨_, rfl, _, "str", true, rfl, .str x, by decide +kernel, _, rfl, _, "str", true, rfl, .str x, by decide +kernel, rfl, ?_⟩
    exact q _ s1
theorem ok_alikeT {n : Nat} {f : Addr} {fd : FuncData} (F : Fun K "_law_alike" "_law_alike" s__law_alike f fd) (B : Blt mg) (c__law_alike : Cal P w K mg base CX0 (n + 1) "_law_alike" ["_law_found", "_law_due"] (sp_alikeT K n)) : FnOk P w K mg base CX0 (n + 2) f fd ["_law_found", "_law_due"] (sp_alikeT K (n + 1)) := by
  refine F.ok sc__law_alike (fun vs H Q E h => by obtain ⟨x, y, d, rfl, _⟩ := h; rfl) (fun cdv A outer s H vs Q E hr h => ?_)
  obtain ⟨x, y, d, rfl, hx, hy, q⟩ := h
  refine ⟨_, (pss_cons (ps_if (pt_val (pe_callB (call_isTX "dict") (by rfl) B.b_isinstance PyProof.Rows.boot_isinstance (pa_cons (pv 1) (pa_cons (pe_bltn (v := .ty "dict") (by rfl) B.b_dict (by decide +kernel) rfl) pa_nil)))) pss_never pss_nil)
      (pss_cons (ps_if (pt_val (pe_callB call_isiT (by rfl) B.b_isinstance PyProof.Rows.boot_isinstance (pa_cons (pv 1) (pa_cons (pe_tup (pa_cons (pe_bltn (v := .ty "tuple") (by rfl) B.b_tuple PyProof.Rows.boot_tuple rfl) (pa_cons (pe_bltn (v := .ty "list") (by rfl) B.b_list PyProof.Rows.boot_list rfl) pa_nil))) pa_nil)))) (pss_cons (ps_if (PW.pt (pw_or (pt_not (pt_val (pe_callB call_isiT (by rfl) B.b_isinstance PyProof.Rows.boot_isinstance (pa_cons (pv 0) (pa_cons (pe_tup (pa_cons (pe_bltn (v := .ty "tuple") (by rfl) B.b_tuple PyProof.Rows.boot_tuple rfl) (pa_cons (pe_bltn (v := .ty "list") (by rfl) B.b_list PyProof.Rows.boot_list rfl) pa_nil))) pa_nil))))) (pw_or1 (pt_cmpR op_ne (pe_callB (call_isTX "list") (by rfl) B.b_isinstance PyProof.Rows.boot_isinstance (pa_cons (pv 0) (pa_cons (pe_bltn (v := .ty "list") (by rfl) B.b_list PyProof.Rows.boot_list rfl) pa_nil))) (pe_callB (call_isTX "list") (by rfl) B.b_isinstance PyProof.Rows.boot_isinstance (pa_cons (pv 1) (pa_cons (pe_bltn (v := .ty "list") (by rfl) B.b_list PyProof.Rows.boot_list rfl) pa_nil))) (nomark _))))) (pss_one (ps_ret pe_bl)) pss_nil)
      (pss_cons (ps_if (pt_cmpR op_ne (pe_callB call_len_seq (by rfl) B.b_len PySem.boot_len (pa_cons (pv 0) pa_nil)) (pe_callB call_len_seq (by rfl) B.b_len PySem.boot_len (pa_cons (pv 1) pa_nil)) (nomark _)) (pss_one (ps_ret pe_bl)) pss_nil)
      (pss_one (ps_ret (pe_cmpR (op_eqD hr.units) (pe_lc (own := [("_law_k", 2)]) (g := gName 2) rfl sc__law_alike.nd (pi_range1 (by rfl) B.b_range (pa_cons (pe_callB call_len_seq (by rfl) B.b_len PySem.boot_len (pa_cons (pv 1) pa_nil)) pa_nil)) (blkOk_by (own := [("_law_k", 2)]) (N := ["_law_found", "_law_due", "_law_k"]) (sc := defScope s__law_alike) (by decide +kernel)) (fun _ _ _ _ _ => (pg_name (i := 2) sc__law_alike.nd rfl (Or.inl rfl))) (fun _ _ _ _ _ => (pts_.re (pts_one (pt_not (pt_val (pe_cal c__law_alike hr (pa_cons (pe_ix ix_seq (pv 0) (pv 2) (fun _ _ => rfl)) (pa_cons (pe_ix ix_seq (pv 1) (pv 2) (fun _ _ => rfl)) pa_nil)))))) (by first | (dsimp only [Cx.blk]; done) | exact rfl))) (fun _ _ _ _ _ => (pe_.re (pv 2) (by first | (dsimp only [Cx.blk]; done) | exact rfl)))) (pe_lst pa_nil) (nomark _)))))) pss_nil)
      (pss_cons (ps_if (PW.pt (pw_or (pt_cmpR op_isN (pv 1) pe_non (nomark _)) (pw_or1 (pt_val (pe_callB (call_isTX "str") (by rfl) B.b_isinstance PyProof.Rows.boot_isinstance (pa_cons (pv 1) (pa_cons (pe_bltn (v := .ty "str") (by rfl) B.b_str PyProof.Rows.boot_str rfl) pa_nil))))))) (pss_one (ps_ret (pe_and (pe_cmpR op_eq (pv 0) (pv 1) (nomark _)) (pe_one (pe_cmpR op_eq (pe_callB (call_isTX "str") (by rfl) B.b_isinstance PyProof.Rows.boot_isinstance (pa_cons (pv 0) (pa_cons (pe_bltn (v := .ty "str") (by rfl) B.b_str PyProof.Rows.boot_str rfl) pa_nil))) (pe_callB (call_isTX "str") (by rfl) B.b_isinstance PyProof.Rows.boot_isinstance (pa_cons (pv 1) (pa_cons (pe_bltn (v := .ty "str") (by rfl) B.b_str PyProof.Rows.boot_str rfl) pa_nil))) (nomark _)))))) pss_nil)
      (pss_one (ps_ret (pe_and (pe_callB (call_isTX "int") (by rfl) B.b_isinstance PyProof.Rows.boot_isinstance (pa_cons (pv 0) (pa_cons (pe_bltn (v := .ty "int") (by rfl) B.b_int PyProof.Rows.boot_int rfl) pa_nil))) (pe_and (pe_cmpR op_eq (pe_callB (call_isTX "bool") (by rfl) B.b_isinstance PyProof.Rows.boot_isinstance (pa_cons (pv 0) (pa_cons (pe_bltn (v := .ty "bool") (by rfl) B.b_bool PyProof.Rows.boot_bool rfl) pa_nil))) (pe_callB (call_isTX "bool") (by rfl) B.b_isinstance PyProof.Rows.boot_isinstance (pa_cons (pv 1) (pa_cons (pe_bltn (v := .ty "bool") (by rfl) B.b_bool PyProof.Rows.boot_bool rfl) pa_nil))) (nomark _)) (pe_one (pe_cmpR op_eq (pv 0) (pv 1) (nomark _)))))))))), ?_⟩
  cases hx with
  | int _ i =>
    cases hy
    refine ⟨_, rfl, _, "int", false, rfl, .int i, by decide +kernel, false, rfl, iteF ?_⟩
    refine ⟨_, rfl, (by show 2 ≤ sizeLine; decide), fun tp ntp => ⟨_, tp, _, .type "int", [.type "tuple", .type "list"], false, rfl, upd_same, .cons (.ty _) (.cons (.ty _) .nil), .base (.int i), kitAny_cons (b := false) (kit_ty (by decide +kernel)) (fun _ => kitAny_cons (b := false) (kit_ty (by decide +kernel)) (fun _ => kitAny_nil) (fun z => nomatch z)) (fun z => nomatch z), false, rfl, iteF ?_⟩⟩
    have s1 : Same H (upd H tp (.tup [.ty "tuple", .ty "list"])) := (Same.refl H).put ntp
    refine ⟨_, rfl, rfl, false, rfl, iteF ⟨_, rfl, _, "int", false, rfl, .int i, by decide +kernel, false, rfl, iteF ?_⟩⟩
    refine ⟨_, rfl, _, "int", true, rfl, .int i, by decide +kernel, true, rfl, iteT ?_⟩
    refine ⟨_, rfl, _, "int", false, rfl, .int i, by decide +kernel, _, rfl, _, "int", false, rfl, .int i, by decide +kernel, rfl, true, rfl, iteT ?_⟩
    refine ⟨_, rfl, _, rfl, rfl, ?_⟩
    rw [decide_eq_true rfl]
    exact q _ s1
  | str _ x =>
    cases hy
    refine ⟨_, rfl, _, "str", false, rfl, .str x, by decide +kernel, false, rfl, iteF ?_⟩
    refine ⟨_, rfl, (by show 2 ≤ sizeLine; decide), fun tp ntp => ⟨_, tp, _, .type "str", [.type "tuple", .type "list"], false, rfl, upd_same, .cons (.ty _) (.cons (.ty _) .nil), .base (.str x), kitAny_cons (b := false) (kit_ty (by decide +kernel)) (fun _ => kitAny_cons (b := false) (kit_ty (by decide +kernel)) (fun _ => kitAny_nil) (fun z => nomatch z)) (fun z => nomatch z), false, rfl, iteF ?_⟩⟩
    have s1 : Same H (upd H tp (.tup [.ty "tuple", .ty "list"])) := (Same.refl H).put ntp
    refine ⟨_, rfl, rfl, false, rfl, iteF ⟨_, rfl, _, "str", true, rfl, .str x, by decide +kernel, true, rfl, iteT ?_⟩⟩
    refine ⟨_, rfl, _, rfl, rfl, decide (V.str x = V.str x), rfl, ?_⟩
    rw [decide_eq_true rfl]
    refine iteT ?_
    refine ⟨_, rfl, _, "str", true, rfl, .str x, by decide +kernel, _, rfl, _, "str", true, rfl, .str x, by decide +kernel, rfl, ?_⟩
    exact q _ s1
  | lst e l z all =>
    rename_i p xs ds
    cases hy with
    | lst e2 l2 z2 all2 =>
      rename_i q0 ys
      refine ⟨_, rfl, _, "list", false, rfl, .lst e2, by decide +kernel, false, rfl, iteF ?_⟩
      refine ⟨_, rfl, (by show 2 ≤ sizeLine; decide), fun tp ntp => ?_⟩
      have s1 : Same H (upd H tp (.tup [.ty "tuple", .ty "list"])) := (Same.refl H).put ntp
      refine ⟨_, tp, _, .type "list", [.type "tuple", .type "list"], true, rfl, upd_same, .cons (.ty _) (.cons (.ty _) .nil), .base (.lst (s1 _ _ e2)), kitAny_cons (b := false) (kit_ty (by decide +kernel)) (fun _ => kitAny_cons (b := true) (kit_ty (by decide +kernel)) (fun z => nomatch z) (fun _ => rfl)) (fun z => nomatch z), true, rfl, iteT ?_⟩
      refine ⟨_, rfl, (by show 2 ≤ sizeLine; decide), fun tp2 ntp2 => ?_⟩
      have s2 := s1.put' (o := .tup [.ty "tuple", .ty "list"]) ntp2
      refine ⟨_, tp2, _, .type "list", [.type "tuple", .type "list"], true, rfl, upd_same, .cons (.ty _) (.cons (.ty _) .nil), .base (.lst (s2 _ _ e)), kitAny_cons (b := false) (kit_ty (by decide +kernel)) (fun _ => kitAny_cons (b := true) (kit_ty (by decide +kernel)) (fun z => nomatch z) (fun _ => rfl)) (fun z => nomatch z), true, rfl, iteF ?_⟩
      refine ⟨_, rfl, _, "list", true, rfl, .lst (s2 _ _ e), by decide +kernel, _, rfl, _, "list", true, rfl, .lst (s2 _ _ e2), by decide +kernel, rfl, _, rfl, iteF ?_⟩
      refine ⟨_, rfl, p, _, rfl, .inl (sqL_of (s2 _ _ e)), _, rfl, q0, _, rfl, .inl (sqL_of (s2 _ _ e2)), rfl, _, rfl, ?_⟩
      have el : ((xs.length : Nat) : Int) = (ys.length : Nat) := by rw [l, l2]
      rw [el, decide_eq_true rfl]
      refine iteF ?_
      refine ⟨_, rfl, q0, _, rfl, .inl (sqL_of (s2 _ _ e2)), _, rfl, by omega, by omega, fun D nD => lc_it walk_range (fun i H' => Same H H' ∧ H' D = some (.lst [])) ⟨s2.put' nD, upd_same⟩ (fun _ _ _ _ => trivial) ?_ ?_⟩
      · rintro i y H2 H3 hi ⟨s3, e3⟩ ⟨rfl, hy⟩
        have hy : y = V.int (i : Nat) := by
          rw [hy]
          show V.int (0 + (i : Nat)) = _
          rw [Int.zero_add]
        subst hy
        have hi : i < ys.length := by simpa using hi
        have hix : i < xs.length := by omega
        have hid : i < ds.length := by omega
        refine ⟨rfl, _, rfl, _, rfl, .inl ⟨_, _, (i : Nat), _, rfl, rfl, sqL_of (s3 _ _ e), atI_nat (List.getElem?_eq_getElem hix), ?_⟩⟩
        refine ⟨_, rfl, _, rfl, .inl ⟨_, _, (i : Nat), _, rfl, rfl, sqL_of (s3 _ _ e2), atI_nat (List.getElem?_eq_getElem hi), ?_⟩⟩
        refine ⟨_, _, ds[i], rfl, (all i _ _ (List.getElem?_eq_getElem hix) (List.getElem?_eq_getElem hid)).same s3, (all2 i _ _ (List.getElem?_eq_getElem hi) (List.getElem?_eq_getElem hid)).same s3, fun H4 s4 => ⟨true, rfl, iteF ⟨s3.trans s4, s4 _ _ e3⟩⟩⟩
      · rintro H2 ⟨s3, e3⟩
        refine ⟨Nat.zero_le _, fun p2 np2 => ⟨.list [], .list [], .lst (sqL_of (by rw [upd_ne (ne_of_none e3 np2)]; exact e3)) .nil, .lst sqL_new .nil, rfl, rfl, q _ (s3.put' np2)⟩⟩
  | tup e l z all =>
    rename_i p xs ds
    cases hy with
    | tup e2 l2 z2 all2 =>
      rename_i q0 ys
      refine ⟨_, rfl, _, "tuple", false, rfl, .tup e2, by decide +kernel, false, rfl, iteF ?_⟩
      refine ⟨_, rfl, (by show 2 ≤ sizeLine; decide), fun tp ntp => ?_⟩
      have s1 : Same H (upd H tp (.tup [.ty "tuple", .ty "list"])) := (Same.refl H).put ntp
      refine ⟨_, tp, _, .type "tuple", [.type "tuple", .type "list"], true, rfl, upd_same, .cons (.ty _) (.cons (.ty _) .nil), tyT (s1.tup e2), kitAny_cons (b := true) (kit_ty (by decide +kernel)) (fun z => nomatch z) (fun _ => rfl), true, rfl, iteT ?_⟩
      refine ⟨_, rfl, (by show 2 ≤ sizeLine; decide), fun tp2 ntp2 => ?_⟩
      have s2 := s1.put' (o := .tup [.ty "tuple", .ty "list"]) ntp2
      refine ⟨_, tp2, _, .type "tuple", [.type "tuple", .type "list"], true, rfl, upd_same, .cons (.ty _) (.cons (.ty _) .nil), tyT (s2.tup e), kitAny_cons (b := true) (kit_ty (by decide +kernel)) (fun z => nomatch z) (fun _ => rfl), true, rfl, iteF ?_⟩
      refine ⟨_, rfl, _, "tuple", false, rfl, .tup (s2.tup e), by decide +kernel, _, rfl, _, "tuple", false, rfl, .tup (s2.tup e2), by decide +kernel, rfl, _, rfl, iteF ?_⟩
      refine ⟨_, rfl, p, _, rfl, .inr (s2.tup e), _, rfl, q0, _, rfl, .inr (s2.tup e2), rfl, _, rfl, ?_⟩
      have el : ((xs.length : Nat) : Int) = (ys.length : Nat) := by rw [l, l2]
      rw [el, decide_eq_true rfl]
      refine iteF ?_
      refine ⟨_, rfl, q0, _, rfl, .inr (s2.tup e2), _, rfl, by omega, by omega, fun D nD => lc_it walk_range (fun i H' => Same H H' ∧ H' D = some (.lst [])) ⟨s2.put' nD, upd_same⟩ (fun _ _ _ _ => trivial) ?_ ?_⟩
      · rintro i y H2 H3 hi ⟨s3, e3⟩ ⟨rfl, hy⟩
        have hy : y = V.int (i : Nat) := by
          rw [hy]
          show V.int (0 + (i : Nat)) = _
          rw [Int.zero_add]
        subst hy
        have hi : i < ys.length := by simpa using hi
        have hix : i < xs.length := by omega
        have hid : i < ds.length := by omega
        refine ⟨rfl, _, rfl, _, rfl, .inr (.inl ⟨_, _, (i : Nat), _, rfl, rfl, s3.tup e, atI_nat (List.getElem?_eq_getElem hix), ?_⟩)⟩
        refine ⟨_, rfl, _, rfl, .inr (.inl ⟨_, _, (i : Nat), _, rfl, rfl, s3.tup e2, atI_nat (List.getElem?_eq_getElem hi), ?_⟩)⟩
        refine ⟨_, _, ds[i], rfl, (all i _ _ (List.getElem?_eq_getElem hix) (List.getElem?_eq_getElem hid)).same s3, (all2 i _ _ (List.getElem?_eq_getElem hi) (List.getElem?_eq_getElem hid)).same s3, fun H4 s4 => ⟨true, rfl, iteF ⟨s3.trans s4, s4 _ _ e3⟩⟩⟩
      · rintro H2 ⟨s3, e3⟩
        refine ⟨Nat.zero_le _, fun p2 np2 => ⟨.list [], .list [], .lst (sqL_of (by rw [upd_ne (ne_of_none e3 np2)]; exact e3)) .nil, .lst sqL_new .nil, rfl, rfl, q _ (s3.put' np2)⟩⟩
end
end Sc
namespace Sc
open PySem PySem.Spec PyProof.Rows L2
abbrev s__law_told : Stmt := topS 67
theorem sc__law_told : FnScope ["_law_rules", "_law_found", "_law_rule_here", "_law_condition"] ["_law_rules"] (defScope s__law_told) := ⟨rfl, rfl, rfl, by decide +kernel, rfl, by decide +kernel, by decide +kernel⟩
abbrev s__law_seen : Stmt := topS 68
theorem sc__law_seen : FnScope ["_law_book_here"] ["_law_book_here"] (defScope s__law_seen) := ⟨rfl, rfl, rfl, by decide +kernel, rfl, by decide +kernel, by decide +kernel⟩
section
variable {P : Program} {w : World} {K : PySem.W.Frag} {mg : Str → Option Value} {base : Heap} {C R B CC CR CF_ CB : Addr}
theorem at_strs {H : Hp} {a : Addr} {n : Nat} {xs : List Str} (h : SqT K H a (xs.map V.str)) (l : xs.length ≤ 1000) : AT K H (n + 1) (.ref a) (.tuple (xs.map PyData.str)) := by
  refine .tup h (by rw [List.length_map, List.length_map]) (by rw [List.length_map]; omega) fun i x d hx hd => ?_
  rw [List.getElem?_map] at hx hd
  cases e : xs[i]? with
  | none => rw [e] at hx; cases hx
  | some z => rw [e] at hx hd; cases hx; cases hd; exact .str _ _
theorem dats_len : ∀ f : RF, f.dats.length = f.nodes.length
  | .nil => rfl
  | .cons nm hs fs rl exc rest => by
    show (_ :: rest.dats).length = (_ :: rest.nodes).length
    rw [List.length_cons, List.length_cons, dats_len rest]
theorem at_rows {H : Hp} : ∀ {f : RF} {vs : List V} {n : Nat}, RowsAt K H f vs → f.every NdOk → f.size ≤ 900 → 2 * f.dep ≤ n → ∀ (i : Nat) (x : V) (d : PyData), vs[i]? = some x → f.dats[i]? = some d → AT K H n x d
  | .nil, vs, n, h, _, _, _, i, x, d, hx, _ => by
    obtain rfl : vs = [] := h
    cases i <;> cases hx
  | .cons nm hs fs rl exc rest, vs, n, h, ⟨ok, e2, e3⟩, hz, hn, i, x, d, hx, hd => by
    obtain ⟨o, w, b, p, ws, vs', rfl, h1, h2, h3, h4, h6, h7⟩ := h
    have hn : 2 * max (exc.dep + 1) rest.dep ≤ n := hn
    have hz : exc.size + 1 + rest.size ≤ 900 := hz
    have hl := ok.len
    cases i with
    | succ i => exact at_rows h7 e3 (by omega) (by omega) i x d hx hd
    | zero =>
      cases hx
      cases hd
      obtain ⟨n, rfl⟩ : ∃ m, n = m + 2 := ⟨n - 2, by omega⟩
      have hel := h6.len
      have hez := RF.nodes_le exc
      refine .tup h1 rfl (by show 5 ≤ 1000000; decide) fun j x d hx hd => ?_
      match j, hx, hd with
      | 0, hx, hd => cases hx; cases hd; exact .str _ _
      | 1, hx, hd => cases hx; cases hd; exact at_strs h2 (by show hs.length ≤ 1000; have : hs.length ≤ 8 := hl.1; omega)
      | 2, hx, hd => cases hx; cases hd; exact at_strs h3 (by show fs.length ≤ 1000; have : fs.length ≤ 8 := hl.2; omega)
      | 3, hx, hd => cases hx; cases hd; exact .str _ _
      | 4, hx, hd => cases hx; cases hd; exact .tup h4 (by rw [hel, dats_len]) (by omega) fun k x d hx hd => at_rows h6 e2 (by omega) (by omega) k x d hx hd
      | j + 5, hx, hd => cases hx
/-- a book told in tuples -/
def SeenAt (K : PySem.W.Frag) (H : Hp) (p : Addr) (xs : List Str) (f : RF) (rl : Str) : Prop := ∃ (fp pr : Addr) (ws : List V), SqT K H p [.ref fp, .ref pr, .str rl] ∧ SqT K H fp (xs.map V.str) ∧ SqT K H pr ws ∧ RowsAt K H f ws
theorem SeenAt.keeps {N : Addr → Prop} {H H' : Hp} {p : Addr} {xs : List Str} {f : RF} {rl : Str} (k : Keeps N H H') (h : SeenAt K H p xs f rl) : SeenAt K H' p xs f rl := by
  obtain ⟨fp, pr, ws, h1, h2, h3, h4⟩ := h
  exact ⟨fp, pr, ws, k.tup h1, k.tup h2, k.tup h3, h4.keeps k⟩
theorem at_seen {H : Hp} {p : Addr} {xs : List Str} {f : RF} {rl : Str} (h : SeenAt K H p xs f rl) (l : xs.length ≤ 60) (ev : f.every NdOk) (hz : f.size ≤ 900) (hd : f.dep ≤ 8) : AT K H 30 (.ref p) (.tuple [.tuple (xs.map PyData.str), .tuple f.dats, .str rl]) := by
  obtain ⟨fp, pr, ws, h1, h2, h3, h4⟩ := h
  have hel := h4.len
  have hez := RF.nodes_le f
  refine .tup h1 rfl (by show 3 ≤ 1000000; decide) fun j x d hx hd => ?_
  match j, hx, hd with
  | 0, hx, hd => cases hx; cases hd; exact at_strs h2 (by omega)
  | 1, hx, hd => cases hx; cases hd; exact .tup h3 (by rw [hel, dats_len]) (by omega) fun k x d hx hd => at_rows h4 ev hz (by omega) k x d hx hd
  | 2, hx, hd => cases hx; cases hd; exact .str _ _
  | j + 3, hx, hd => cases hx
def sp_told (K : PySem.W.Frag) (C R : Addr) (d : Nat) : Sp := fun vs H Q _ => ∃ (N : Addr → Prop) (p : Addr) (ws : List V) (f : RF), vs = [.ref p] ∧ SqT K H p ws ∧ ForAt K C R N H f ws ∧ f.dep ≤ d ∧ f.size ≤ 900 ∧
  ∀ H' p' us, Same H H' → SqT K H' p' us → RowsAt K H' f us → Q (.ref p') H'
theorem ok_told {d : Nat} {f : Addr} {fd : FuncData} (F : Fun K "_law_told" "_law_told" s__law_told f fd) (B : Blt mg) (kR : RuleX P w K mg base R) (kK : CondG P w K mg base C)
    (c__law_told : Cal P w K mg base CX0 (d + 3) "_law_told" ["_law_rules"] (Below (sp_told K C R) d)) :
    FnOk P w K mg base CX0 (d + 4) f fd ["_law_rules"] (sp_told K C R d) := by
  refine F.ok sc__law_told (fun vs H Q E h => by obtain ⟨N, p, ws, f, rfl, _⟩ := h; rfl) (fun cdv A outer s H vs Q E hr h => ?_)
  obtain ⟨N, p, ws, f, rfl, hP, hF, hd, hz, q⟩ := h
  refine ⟨_, (pss_cons (ps_set (i := 1) sc__law_told.nd rfl (Or.inl rfl) (pe_lst pa_nil))
      (pss_cons (ps_for PassesOwn.never rfl (pi_tup (pv 0)) (pg_name (i := 2) sc__law_told.nd rfl (Or.inl rfl)) (pss_cons (ps_set (i := 3) sc__law_told.nd rfl (Or.inl rfl) (pe_cprop kR.condition kR.cls (hr.mono (by omega)) (pv 2)))
      (pss_one (ps_expr (pe_bm PySem.F.plainAttrs_list PySem.F.slot_list_append PySem.F.type_list_append mt_append (pv 1) (pa_cons (pe_tup (pa_cons (pe_cprop kR.name kR.cls (hr.mono (by omega)) (pv 2)) (pa_cons (pe_cprop kK.holding kK.cls (hr.mono (by omega)) (pv 3)) (pa_cons (pe_cprop kK.failing kK.cls (hr.mono (by omega)) (pv 3)) (pa_cons (pe_cprop kR.ruling kR.cls (hr.mono (by omega)) (pv 2)) (pa_cons (pe_cal c__law_told hr (pa_cons (pe_cprop kR.exceptions kR.cls (hr.mono (by omega)) (pv 2)) pa_nil)) pa_nil)))))) pa_nil))))))
      (pss_one (ps_ret (pe_callTy call_tuple_of (by rfl) B.b_tuple PyProof.Rows.boot_tuple (pa_cons (pv 1) pa_nil)))))), ?_⟩
  have hA := hF.all
  have hln := hA.len
  have hlz := RF.nodes_le f
  refine ⟨Nat.zero_le _, fun D nD => ?_⟩
  have s0 : Same H (upd H D (.lst [])) := (Same.refl H).put nD
  have e0 : (upd H D (.lst [])) D = some (.lst []) := upd_same
  generalize upd H D (.lst []) = H0 at s0 e0 ⊢
  refine ⟨_, rfl, p, rfl, ⟨_, s0.tup hP⟩, for_it walk_tup (fun i σ H' => ∃ (rs : List V) (y2 y3 : Option V), σ = [some (.ref p), some (.ref D), y2, y3] ∧ Same H H' ∧ H' D = some (.lst rs) ∧ All2 (RowAt K H') rs (f.nodes.take i))
    ⟨[], none, none, rfl, s0, e0, .nil⟩ (fun _ _ _ _ ⟨_, _, _, _, s, _⟩ => s.tup hP) ?_ ?_⟩
  · rintro i y σ H4 H3 hi ⟨rs, y2, y3, rfl, s, e, hrs⟩ ⟨rfl, hy⟩
    obtain ⟨n, hn, o, rfl, hN⟩ := hA.get hy
    have hmem : n ∈ f.nodes := List.mem_of_getElem? hn
    have hdm := RF.dep_mem _ n hmem
    have hsm := RF.size_mem _ n hmem
    obtain ⟨d, rfl⟩ : ∃ d', d = d' + 1 := ⟨d - 1, by omega⟩
    have hrl := hrs.len
    rw [List.length_take] at hrl
    obtain ⟨dx', c', pe', l', ws', ho', hc', hpe', hle', hfe'⟩ := hN.keeps (N := N) s.keeps
    obtain ⟨dxc, ca, cb, cn, zs, hcc, hca, hcb, _⟩ := hc'.at_
    refine ⟨_, rfl, o, dx', _, rfl, ho', o, dx', _, _, rfl, ho', rfl, ?_⟩
    refine ⟨_, rfl, .inl ⟨rfl, _, sqL_of e⟩, _, rfl, o, dx', _, rfl, ho', o, dx', _, _, rfl, ho', rfl, _, rfl, c', dxc, _, rfl, hcc, c', dxc, _, _, rfl, hcc, rfl, _, rfl, c', dxc, _, rfl, hcc, c', dxc, _, _, rfl, hcc, rfl, _, rfl, o, dx', _, rfl, ho', o, dx', _, _, rfl, ho', rfl, _, rfl, o, dx', _, rfl, ho', o, dx', _, _, rfl, ho', rfl, N, pe', ws', n.exc, rfl, hpe', hfe', by omega, by omega, fun H5 p5 us5 s5 hp5 hr5 => ?_⟩
    refine ⟨(by show 5 ≤ sizeLine; decide), fun t nt => ?_⟩
    have s6 : Same H5 (upd H5 t (.tup [.str n.nm, .ref ca, .ref cb, .str n.rl, .ref p5])) := (Same.refl H5).put nt
    have e6 : (upd H5 t (.tup [.str n.nm, .ref ca, .ref cb, .str n.rl, .ref p5])) t = some (.tup [.str n.nm, .ref ca, .ref cb, .str n.rl, .ref p5]) := upd_same
    generalize upd H5 t (.tup [.str n.nm, .ref ca, .ref cb, .str n.rl, .ref p5]) = H6 at s6 e6 ⊢
    have s36 := s5.trans s6
    have eD := s36 _ _ e
    refine ⟨D, _, _, rfl, rfl, eD, small1000 (by omega), ?_⟩
    have kk : Keeps NoL H6 (upd H6 D (.lst (rs ++ [.ref t]))) := keeps_own eD id
    have hrow : RowAt K H6 (.ref t) n := ⟨t, ca, cb, p5, us5, rfl, sqT_of e6, s36.tup hca, s36.tup hcb, s6.tup hp5, hr5.keeps (N := NoL) s6.keeps⟩
    refine ⟨rs ++ [.ref t], _, _, rfl, (s.trans s36).put nD, upd_same, ?_⟩
    rw [take_more hn]
    exact (hrs.mono fun _ _ x => (x.keeps (N := NoL) s36.keeps).keeps kk).snoc (hrow.keeps kk)
  · rintro σ H3 ⟨rs, y2, y3, rfl, s, e, hrs⟩
    rw [hln, List.take_length] at hrs
    refine ⟨_, rfl, D, _, rfl, .inl ⟨sqL_of e, fun t nt => ?_⟩⟩
    have s4 : Same H3 (upd H3 t (.tup rs)) := (Same.refl H3).put nt
    exact q _ t rs (s.trans s4) sqT_new (RowsAt.of (hrs.mono fun _ _ x => x.keeps (N := NoL) s4.keeps))
def sp_seen (K : PySem.W.Frag) (C R B : Addr) : Sp := fun vs H Q _ => ∃ (N : Addr → Prop) (o : Addr) (xs : List Str) (f : RF) (rl : Str), vs = [.ref o] ∧ BookAt K C R B N H o xs f rl ∧ f.dep ≤ 12 ∧ f.size ≤ 900 ∧ ∀ H' p, Same H H' → SeenAt K H' p xs f rl → Q (.ref p) H'
theorem ok_seen {f : Addr} {fd : FuncData} (F : Fun K "_law_seen" "_law_seen" s__law_seen f fd) (Bl : Blt mg) (kB : BookX P w K mg base B) (c__law_told : Cal P w K mg base CX0 16 "_law_told" ["_law_rules"] (sp_told K C R 12)) :
    FnOk P w K mg base CX0 17 f fd ["_law_book_here"] (sp_seen K C R B) := by
  refine F.ok sc__law_seen (fun vs H Q E h => by obtain ⟨N, o, xs, f, rl, rfl, _⟩ := h; rfl) (fun cdv A outer s H vs Q E hr h => ?_)
  obtain ⟨N, o, xs, f, rl, rfl, ⟨dx, a, p, l, ws, us, ho, hS, hP, hF, _⟩, hd, hz, q⟩ := h
  refine ⟨_, (pss_one (ps_ret (pe_tup (pa_cons (pe_cprop kB.facts kB.cls (hr.mono (by decide)) (pv 0)) (pa_cons (pe_cal c__law_told (hr.mono (by decide)) (pa_cons (pe_cprop kB.rules kB.cls (hr.mono (by decide)) (pv 0)) pa_nil)) (pa_cons (pe_cprop kB.ruling kB.cls (hr.mono (by decide)) (pv 0)) pa_nil)))))), ?_⟩
  refine ⟨_, rfl, o, dx, _, rfl, ho, o, dx, _, _, rfl, ho, rfl, _, rfl, o, dx, _, rfl, ho, o, dx, _, _, rfl, ho, rfl, N, p, ws, f, rfl, hP, hF, hd, hz, fun H5 p5 us5 s5 hp5 hr5 => ?_⟩
  have ho5 := s5 _ _ ho
  refine ⟨_, rfl, o, dx, _, rfl, ho5, o, dx, _, _, rfl, ho5, rfl, (by show 3 ≤ sizeLine; decide), fun t nt => ?_⟩
  have s6 : Same H5 (upd H5 t (.tup [.ref a, .ref p5, .str rl])) := (Same.refl H5).put nt
  exact q _ t (s5.trans s6) ⟨a, p5, us5, sqT_new, (s5.trans s6).tup hS, s6.tup hp5, hr5.keeps (N := NoL) s6.keeps⟩
end
end Sc
namespace Sc
open PySem PySem.Spec PyProof.Rows L2
abbrev s_law : Stmt := topS 72
theorem sc_law : FnScope ["_law_script", "_law_h", "_law_lap", "_law_drawn_here", "_law_inner", "_law_name", "_law_sides_here", "_law_text_here", "_law_found"] ["_law_script"] (defScope s_law) := ⟨rfl, rfl, rfl, by decide +kernel, rfl, by decide +kernel, by decide +kernel⟩
theorem no_fault {xs : List Str} : ∀ {ps : List (Nd × Nat)} {met : List Str} {out i : Nat}, (∀ q ∈ ps, (∀ x ∈ q.1.hs, x ∈ xs) ∧ ∀ x ∈ q.1.fs, x ∈ xs) → (∀ q ∈ ps, q.2 ≤ 5) → (met ++ ps.map fun q => q.1.nm).Nodup → i + ps.length ≤ 60 → out + ps.length ≤ 40 → firstFault xs ps met out i = none
  | [], _, _, _, _, _, _, _, _ => rfl
  | (n, k) :: r, met, out, i, h1, h2, h3, h4, h5 => by
    have hs := h1 _ List.mem_cons_self
    have hk : k ≤ 5 := h2 _ List.mem_cons_self
    rw [List.length_cons] at h4 h5
    have hon : outNext out k ≤ out + 1 := by unfold outNext; split <;> omega
    have hm : ¬ n.nm ∈ met := fun z => (List.nodup_append.mp h3).2.2 _ z _ List.mem_cons_self rfl
    have f0 : faultAt xs met (outNext out k) i n k = none := by
      unfold faultAt
      rw [if_neg hm, if_neg, if_neg (by omega), if_neg (by omega)]
      rw [Bool.not_eq_true, List.any_eq_false]
      intro x hx
      have hx := (srt_perm _).mem_iff.mp hx
      rw [decide_eq_true (show x ∈ xs from (List.mem_append.mp hx).elim (hs.1 x) (hs.2 x))]
      decide
    unfold firstFault
    rw [f0]
    refine no_fault (fun q hq => h1 q (List.mem_cons_of_mem _ hq)) (fun q hq => h2 q (List.mem_cons_of_mem _ hq)) ?_ (by omega) (by omega)
    rw [List.append_assoc]
    exact h3
theorem names12_len {f : RF} {k : Nat} {ns : List Str} (e : f.names ++ ns = names12.drop k) : f.size ≤ 12 := by
  have h1 := congrArg List.length e
  rw [List.length_append, List.length_drop] at h1
  have h2 : names12.length = 12 := rfl
  have h3 : f.names.length = f.size := by rw [← RF.pre_names f 0, List.length_map, RF.pre_len]
  omega
namespace RF
theorem of_names : ∀ ns ms : List Nd, (ofNodes (ns ++ ms)).names = (ofNodes ns).names ++ (ofNodes ms).names
  | [], ms => rfl
  | n :: r, ms => by
    have ih := of_names r ms
    show n.nm :: ((n.exc.pre 1 ++ (ofNodes (r ++ ms)).pre 0).map (fun q : Nd × Nat => q.1.nm)) = (n.nm :: ((n.exc.pre 1 ++ (ofNodes r).pre 0).map (fun q : Nd × Nat => q.1.nm))) ++ (ofNodes ms).names
    rw [List.map_append, List.map_append, List.cons_append, List.append_assoc]
    exact congrArg (fun z => n.nm :: ((n.exc.pre 1).map (fun q => q.1.nm) ++ z)) ih
theorem app_names (f g : RF) : (f.app g).names = f.names ++ g.names := by
  unfold app
  rw [of_names, of_nodes, of_nodes]
theorem only_names (n : Nd) : (only n).names = n.nm :: n.exc.names := by
  show n.nm :: ((n.exc.pre 1 ++ []).map (fun q : Nd × Nat => q.1.nm)) = _
  rw [List.append_nil]
  exact congrArg (n.nm :: ·) (RF.pre_names n.exc 1)
end RF
theorem every_of {p : Nd → Prop} : ∀ {f : RF} {k : Nat}, (∀ q ∈ f.pre k, p q.1) → f.every p
  | .nil, _, _ => trivial
  | .cons nm hs fs rl exc rest, k, h => ⟨h _ List.mem_cons_self, every_of (k := k + 1) fun q hq => h q (List.mem_cons_of_mem _ (List.mem_append_left _ hq)), every_of (k := k) fun q hq => h q (List.mem_cons_of_mem _ (List.mem_append_right _ hq))⟩
/-- a rule of a text: its facts are the book's, its words are free -/
structure CFR (fs : List Str) (n : Nd) : Prop where
  ok : NdOk n
  s1 : ∀ x ∈ n.hs, x ∈ fs
  s2 : ∀ x ∈ n.fs, x ∈ fs
  r1 : ¬ n.nm ∈ reserved
  r2 : ¬ n.rl ∈ reserved
/-- a drawn book -/
structure Dat (fs : List Str) (f : RF) (rl : Str) : Prop where
  x : Right fs
  x1 : 1 ≤ fs.length
  xl : fs.length ≤ 10
  xr : ∀ z ∈ fs, ¬ z ∈ reserved
  ev : f.every (CFR fs)
  dp : f.dep ≤ 6
  sz : f.size ≤ 18
  nd : f.names.Nodup
  rl : rl ∈ three
def chain : List Str := ["deepsix", "deepfive", "deepfour", "deepthre", "deeptwo", "deepone"]
theorem chain_ok : ∀ x ∈ chain, isName x = true ∧ ¬ x ∈ reserved := by decide +kernel
theorem chain_nd : (names12 ++ chain.reverse).Nodup := by decide +kernel
abbrev longS : Str := Str.ofString "longruli"
theorem long_ok : isName longS = true ∧ ¬ longS ∈ reserved := by decide +kernel
theorem ten_free : ∀ x ∈ ten, ¬ x ∈ reserved := by decide +kernel
theorem twelve_free : ∀ x ∈ names12, ¬ x ∈ reserved := by decide +kernel
theorem three_free : ∀ x ∈ three, ¬ x ∈ reserved := by decide +kernel
theorem CFR.every {fs : List Str} {f : RF} (h : f.every (CFR fs)) : f.every NdOk := RF.every_mono (fun n (h : CFR fs n) => h.ok) h
theorem Dat.ff {fs : List Str} {f : RF} {rl : Str} (d : Dat fs f rl) : firstFault fs (f.pre 0) [] 0 0 = none := by
  have h1 := d.sz
  have h2 := d.dp
  refine no_fault (fun q hq => ?_) (fun q hq => ?_) (by rw [List.nil_append, RF.pre_names]; exact d.nd) (by rw [RF.pre_len]; omega) (by rw [RF.pre_len]; omega)
  · have h := pre_every d.ev q hq
    exact ⟨h.s1, h.s2⟩
  · have := pre_dep f 0 q hq
    omega
theorem Dat.ne {fs : List Str} {f : RF} {rl : Str} (d : Dat fs f rl) : fs ≠ [] := fun z => by
  have := d.x1
  rw [z] at this
  exact absurd this (by decide)
theorem Dat.bad {fs : List Str} {f : RF} {rl : Str} (d : Dat fs f rl) : firstBad fs = none := d.x.bad d.ne (by have := d.xl; omega)
theorem Dat.txt {fs : List Str} {f : RF} {rl : Str} (d : Dat fs f rl) : TxtOk fs f rl := by
  have h1 := d.sz
  have h2 := d.xl
  exact ⟨d.x, d.ne, by omega, d.xr, CFR.every d.ev, d.dp, by omega, d.nd, fun q hq => ⟨(pre_every d.ev q hq).s1, (pre_every d.ev q hq).s2⟩, fun q hq => ⟨(pre_every d.ev q hq).r1, (pre_every d.ev q hq).r2⟩, three_name _ d.rl, three_free _ d.rl, d.bad, d.ff⟩
theorem Dat.wr {fs : List Str} {f : RF} {rl : Str} (d : Dat fs f rl) : wrIx fs ((f.pre 0).map fun q => q.1) rl = none := by
  unfold wrIx
  have h1 : ¬ (fs.any fun x => decide (x ∈ reserved)) = true := by
    rw [List.any_eq_true]
    rintro ⟨x, hx, h⟩
    exact d.xr x hx (of_decide_eq_true h)
  rw [if_neg h1]
  have h2 : (List.range ((f.pre 0).map fun q => q.1).length).find? (resAt ((f.pre 0).map fun q => q.1)) = none := by
    rw [List.find?_eq_none]
    intro i hi
    have hi := List.mem_range.mp hi
    rw [List.length_map] at hi
    have e : ((f.pre 0).map fun q => q.1)[i]? = some ((f.pre 0)[i]).1 := by rw [List.getElem?_map, List.getElem?_eq_getElem hi]; rfl
    have hm := pre_every d.ev _ (List.getElem_mem hi)
    unfold resAt
    rw [e]
    show ¬ (resN ((f.pre 0)[i]).1) = true
    unfold resN
    rw [decide_eq_false hm.r1, decide_eq_false hm.r2]
    decide
  rw [h2]
  show (if rl ∈ reserved then some 60 else none) = none
  rw [if_neg (three_free _ d.rl)]
theorem at_seen' {K : PySem.W.Frag} {H : Hp} {p : Addr} {xs : List Str} {f : RF} {rl : Str} (h : SeenAt K H p xs f rl) (l : xs.length ≤ 60) (ev : f.every NdOk) (hz : f.size ≤ 900) (hd : f.dep ≤ 8) : AT K H 29 (.ref p) (.tuple [.tuple (xs.map PyData.str), .tuple f.dats, .str rl]) := by
  obtain ⟨fp, pr, ws, h1, h2, h3, h4⟩ := h
  have hel := h4.len
  have hez := RF.nodes_le f
  refine .tup h1 rfl (by show 3 ≤ 1000000; decide) fun j x d hx hd => ?_
  match j, hx, hd with
  | 0, hx, hd => cases hx; cases hd; exact at_strs h2 (by omega)
  | 1, hx, hd => cases hx; cases hd; exact .tup h3 (by rw [hel, dats_len]) (by omega) fun k x d hx hd => at_rows h4 ev hz (by omega) k x d hx hd
  | 2, hx, hd => cases hx; cases hd; exact .str _ _
  | j + 3, hx, hd => cases hx
/-- six rules more, each within the next -/
def tDeep (K : PySem.W.Frag) : TS := fun D σ H => ∃ (a l p : Addr) (fs : List Str) (f : RF) (rl : Str) (y0 y2 y4 y5 y6 y7 y8 : Option V), σ = [y0, some (.ref a), y2, some (.ref p), y4, y5, y6, y7, y8] ∧ RS H a l ∧ SeenAt K H p fs f rl ∧ Dat fs f rl ∧ (∃ k ns, f.names ++ ns = names12.drop k) ∧ f.dep ≤ 3 ∧
  ∀ H' p' f' z4 z5 z6, RS H' a l → SeenAt K H' p' fs f' rl → Dat fs f' rl → D.nx [y0, some (.ref a), y2, some (.ref p'), z4, z5, z6, y7, y8] H'
section
variable {P : Program} {w : World} {K : PySem.W.Frag} {mg : Str → Option Value} {base : Heap} {C R B0 CW : Addr}
def sp_law (K : PySem.W.Frag) : Sp := fun vs H Q _ => ∃ (s : Addr) (ns : List Int), vs = [.ref s] ∧ SqL K H s (ns.map V.int) ∧ ns.length ≤ 63 ∧ (∀ z ∈ ns, Builtin.Int.intBits z ≤ 1048576) ∧ ∀ H', Q (.bl true) H'
theorem ok_law {f : Addr} {fd : FuncData} (F : Fun K "law" "law" s_law f fd) (B : Blt mg) (mB : mg "Book" = some (.ref B0)) (ICb : IsiC K B0) (CLb : Cls K B0)
    (c__law_mix : Cal P w K mg base CX0 1 "_law_mix" ["_law_script", "_law_seed"] (sp_mix K)) (c__law_next : Cal P w K mg base CX0 1 "_law_next" ["_law_h", "_law_limit"] sp_next)
    (c__law_facts : Cal P w K mg base CX0 2 "_law_facts" ["_law_h", "_law_most"] sp_facts) (c__law_sides : Cal P w K mg base CX0 2 "_law_sides" ["_law_h", "_law_facts_here", "_law_most"] (sp_sides K)) (c__law_drawn : Cal P w K mg base CX0 6 "_law_drawn" ["_law_h", "_law_facts_here", "_law_most"] (sp_drawn K))
    (c__law_rows_of : Cal P w K mg base CX0 15 "_law_rows_of" ["_law_drawn_here"] (sp_rows_of K)) (c__law_text : Cal P w K mg base CX0 1 "_law_text" ["_law_rows"] (sp_text K)) (c__law_book : Cal P w K mg base CX0 31 "_law_book" ["_law_drawn_here"] (sp_book2 K C R B0))
    (c_format_book : Cal P w K mg base (L2.CX P w) 16 "format_book" ["book"] (sp_format_book K C R B0 CW)) (c_parse_book : Cal P w K mg base CX0 19 "parse_book" ["text"] (sp_parse K C R B0)) (c__law_seen : Cal P w K mg base CX0 17 "_law_seen" ["_law_book_here"] (sp_seen K C R B0))
    (c__law_alike : Cal P w K mg base CX0 30 "_law_alike" ["_law_found", "_law_due"] (sp_alikeT K 29)) : FnOk P w K mg base CX0 32 f fd ["_law_script"] (sp_law K) := by
  refine F.ok sc_law (fun vs H Q E h => by obtain ⟨s, ns, rfl, _⟩ := h; rfl) (fun cdv A outer s H vs Q E hr h => ?_)
  obtain ⟨s, ns, rfl, hS, hl, hb, q⟩ := h
  refine ⟨_, (pss_cons (ps_set (i := 1) sc_law.nd rfl (Or.inl rfl) (pe_cal c__law_mix (hr.mono (by decide)) (pa_cons (pv 0) (pa_cons pe_int pa_nil))))
      (pss_cons (ps_for PassesOwn.never rfl (pi_range1 (by rfl) B.b_range (pa_cons pe_int pa_nil)) (pg_name (i := 2) sc_law.nd rfl (Or.inl rfl)) (pss_cons (ps_set (i := 3) sc_law.nd rfl (Or.inl rfl) (pe_cal c__law_drawn (hr.mono (by decide)) (pa_cons (pv 1) (pa_cons (pe_cal c__law_facts (hr.mono (by decide)) (pa_cons (pv 1) (pa_cons pe_int pa_nil))) (pa_cons pe_int pa_nil)))))
      (pss_cons (wk_ps (tDeep K) (ps_if (pt_cmpR op_eq (pe_cal c__law_next (hr.mono (by decide)) (pa_cons (pv 1) (pa_cons pe_int pa_nil))) pe_int (nomark _)) (pss_cons (ps_set (i := 4) sc_law.nd rfl (Or.inl rfl) (pe_tup pa_nil))
      (pss_cons (ps_for PassesOwn.never rfl (pi_tup (pe_tup (pa_cons pe_str (pa_cons pe_str (pa_cons pe_str (pa_cons pe_str (pa_cons pe_str (pa_cons pe_str pa_nil)))))))) (pg_name (i := 5) sc_law.nd rfl (Or.inl rfl)) (pss_cons (ps_set (i := 6) sc_law.nd rfl (Or.inl rfl) (pe_cal c__law_sides (hr.mono (by decide)) (pa_cons (pv 1) (pa_cons (pe_ix ix_tup (pv 3) pe_int (fun _ _ => rfl)) (pa_cons pe_int pa_nil)))))
      (pss_one (ps_set (i := 4) sc_law.nd rfl (Or.inl rfl) (pe_tup (pa_cons (pe_tup (pa_cons (pv 5) (pa_cons (pe_ix ix_tup (pv 6) pe_int (fun _ _ => rfl)) (pa_cons (pe_ix ix_tup (pv 6) pe_int (fun _ _ => rfl)) (pa_cons pe_str (pa_cons (pv 4) pa_nil)))))) pa_nil))))))
      (pss_one (ps_set (i := 3) sc_law.nd rfl (Or.inl rfl) (pe_tup (pa_cons (pe_ix ix_tup (pv 3) pe_int (fun _ _ => rfl)) (pa_cons (pe_op op_catA (pe_ix ix_tup (pv 3) pe_int (fun _ _ => rfl)) (pv 4)) (pa_cons (pe_ix ix_tup (pv 3) pe_int (fun _ _ => rfl)) pa_nil)))))))) pss_nil) ?w1)
      (pss_cons (ps_set (i := 7) sc_law.nd rfl (Or.inl rfl) (pe_cal c__law_text (hr.mono (by decide)) (pa_cons (pe_cal c__law_rows_of (hr.mono (by decide)) (pa_cons (pv 3) pa_nil)) pa_nil)))
      (pss_cons (ps_if (pt_not (pt_val (pe_cal c__law_alike (hr.mono (by decide)) (pa_cons (pe_calN c_format_book (hr.mono (by decide)) (pa_cons (pe_cal c__law_book (hr.mono (by decide)) (pa_cons (pv 3) pa_nil)) pa_nil)) (pa_cons (pv 7) pa_nil))))) (pss_one (ps_ret pe_bl)) pss_nil)
      (pss_cons (ps_set (i := 8) sc_law.nd rfl (Or.inl rfl) (pe_cal c_parse_book (hr.mono (by decide)) (pa_cons (pv 7) pa_nil)))
      (pss_one (ps_if (PW.pt (pw_or (pt_not (pt_val (pe_callB call_isi (by rfl) B.b_isinstance PyProof.Rows.boot_isinstance (pa_cons (pv 8) (pa_cons (pe_glob (v := .ref _) rfl mB rfl) pa_nil))))) (pw_or1 (pt_not (pt_val (pe_cal c__law_alike (hr.mono (by decide)) (pa_cons (pe_cal c__law_seen (hr.mono (by decide)) (pa_cons (pv 8) pa_nil)) (pa_cons (pv 3) pa_nil)))))))) (pss_one (ps_ret pe_bl)) pss_nil))))))))
      (pss_one (ps_ret pe_bl)))), ?_⟩
  case w1 =>
    rintro D σ H1 ⟨a, l, p, fs, f, rl, y0, y2, y4, y5, y6, y7, y8, rfl, RR, hp, hD, hnm, hdp, q⟩
    obtain ⟨fp, pr, ws, e1, e2, e3, e4⟩ := id hp
    refine ⟨_, rfl, a, l, 3, rfl, RR, by decide, (by decide +kernel), fun H2 r k2 r0 r1 => ⟨rfl, _, rfl, bcase (fun c => ?_) (fun c => ?_)⟩⟩
    · refine ⟨Nat.zero_le _, fun te nte => ?_⟩
      have k3 : Kp a l H1 (upd H2 te (.tup [])) := k2.put nte
      have e3t : SqT K (upd H2 te (.tup [])) te [] := sqT_new
      generalize upd H2 te (.tup []) = H3 at k3 e3t ⊢
      refine ⟨(by show 6 ≤ sizeLine; decide), fun tc ntc => ?_⟩
      have k4 := k3.put (o := .tup (chain.map V.str)) ntc
      have ec4 : (upd H3 tc (.tup (chain.map V.str))) tc = some (.tup (chain.map V.str)) := upd_same
      have e4t : SqT K (upd H3 tc (.tup (chain.map V.str))) te [] := ((Same.refl H3).put ntc).tup e3t
      refine ⟨tc, rfl, ⟨_, sqT_of ec4⟩, for_it walk_tup (fun i σ H' => ∃ (it : Addr) (us : List V) (g : RF) (z5 z6 : Option V), σ = [y0, some (.ref a), y2, some (.ref p), some (.ref it), z5, z6, y7, y8] ∧ Kp a l H1 H' ∧ SqT K H' tc (chain.map V.str) ∧ SqT K H' it us ∧ RowsAt K H' g us ∧ g.every (CFR fs) ∧ g.dep = i ∧ g.size = i ∧ g.names = (chain.take i).reverse)
        ⟨te, [], .nil, _, _, rfl, k4, sqT_of ec4, e4t, rfl, trivial, rfl, rfl, rfl⟩ (fun _ _ _ _ ⟨_, _, _, _, _, _, _, h, _⟩ => h) ?_ ?_⟩
      · rintro i y σ H5 H6 hi ⟨it, us, g, z5, z6, rfl, k6, hc6, hit, hg, hev, gd, gs, gn⟩ ⟨rfl, hy⟩
        have hi : i < 6 := hi
        rw [List.getElem?_map] at hy
        cases hnm6 : chain[i]? with
        | none => rw [hnm6] at hy; cases hy
        | some nm =>
          rw [hnm6] at hy
          obtain rfl : V.str nm = y := Option.some.inj hy
          have hcm := chain_ok nm (List.mem_of_getElem? hnm6)
          refine ⟨_, rfl, _, rfl, p, _, 0, _, rfl, rfl, k6.tup e1, atI_nat (j := 0) rfl, a, l, fp, fs, 8, rfl, k6.new, k6.tup e2, by have := hD.xl; omega, hD.x, by decide, fun H7 sp pw pb hs gs' k7 es ew eb sd => ?_⟩
          refine ⟨_, rfl, _, rfl, sp, _, 0, _, rfl, rfl, sqT_of es, atI_nat (j := 0) rfl, _, rfl, sp, _, 1, _, rfl, rfl, sqT_of es, atI_nat (j := 1) rfl, _, rfl, (by show 5 ≤ sizeLine; decide), fun t1 nt1 => ⟨(by show 1 ≤ sizeLine; decide), fun t2 nt2 => ?_⟩⟩
          have s8 : Same H7 (upd H7 t1 (.tup [.str nm, .ref pw, .ref pb, .str longS, .ref it])) := (Same.refl H7).put nt1
          have e8 : (upd H7 t1 (.tup [.str nm, .ref pw, .ref pb, .str longS, .ref it])) t1 = some (.tup [.str nm, .ref pw, .ref pb, .str longS, .ref it]) := upd_same
          generalize upd H7 t1 (.tup [.str nm, .ref pw, .ref pb, .str longS, .ref it]) = H8 at nt2 s8 e8 ⊢
          have s9 : Same H8 (upd H8 t2 (.tup [.ref t1])) := (Same.refl H8).put nt2
          have s79 := s8.trans s9
          have k9 := (k6.trans k7).same s79
          have k69 : Kp a l H6 _ := k7.same s79
          have h8 := sd.le
          have hok : NdOk ⟨nm, hs, gs', longS, g⟩ := ⟨hcm.1, long_ok.1, sd.r1.none (by show 0 + hs.length ≤ 8; omega) (fun _ _ h => nomatch h), sd.r2.none (by show hs.length + gs'.length ≤ 8; omega) sd.dj⟩
          refine ⟨t2, [.ref t1], .only ⟨nm, hs, gs', longS, g⟩, _, _, rfl, k9, k69.tup hc6, sqT_new, rows_only ⟨t1, pw, pb, it, us, rfl, s9.tup (sqT_of e8), s79.tup (sqT_of ew), s79.tup (sqT_of eb), k69.tup hit, hg.keeps k69.keepsN⟩, RF.only_every ⟨hok, sd.s1, sd.s2, hcm.2, long_ok.2⟩ hev, by rw [RF.only_dep]; show g.dep + 1 = _; rw [gd], by rw [RF.only_size]; show g.size + 1 = _; rw [gs], ?_⟩
          rw [RF.only_names, take_more hnm6, List.reverse_append]
          show nm :: g.names = nm :: (chain.take i).reverse
          rw [gn]
      · rintro σ H6 ⟨it, us, g, z5, z6, rfl, k6, hc6, hit, hg, hev, gd, gs, gn⟩
        have gd : g.dep = 6 := gd
        have gs : g.size = 6 := gs
        have gn : g.names = chain.reverse := gn
        have hsz : f.size ≤ 12 := by obtain ⟨k, ns, e⟩ := hnm; exact names12_len e
        have hl4 := e4.len
        have hlg := hg.len
        have hz1 := RF.nodes_le f
        have hz2 := RF.nodes_le g
        refine ⟨_, rfl, p, _, 0, _, rfl, rfl, k6.tup e1, atI_nat (j := 0) rfl, _, rfl, p, _, 1, _, rfl, rfl, k6.tup e1, atI_nat (j := 1) rfl, _, rfl, cat_any (k6.tup e3) hit (by rw [sizeLine_eq]; omega) fun pp H7 s7 epp => ?_⟩
        refine ⟨_, rfl, p, _, 2, _, rfl, rfl, s7.tup (k6.tup e1), atI_nat (j := 2) rfl, (by show 3 ≤ sizeLine; decide), fun t3 nt3 => ?_⟩
        have s8 : Same H7 (upd H7 t3 (.tup [.ref fp, .ref pp, .str rl])) := (Same.refl H7).put nt3
        have s78 := s7.trans s8
        refine q _ t3 (f.app g) _ _ _ (k6.new.same s78) ⟨fp, pp, ws ++ us, sqT_new, s78.tup (k6.tup e2), s8.tup epp, rows_app ((e4.keeps k6.keepsN).keeps (N := NoL) s78.keeps) (hg.keeps (N := NoL) s78.keeps)⟩ ⟨hD.x, hD.x1, hD.xl, hD.xr, RF.app_every hD.ev hev, RF.app_dep (by omega) (by omega), by rw [RF.app_size]; omega, ?_, hD.rl⟩
        rw [RF.app_names, gn]
        obtain ⟨k, ns, e⟩ := hnm
        refine chain_nd.sublist (List.Sublist.append ?_ (List.Sublist.refl _))
        exact (List.sublist_append_left f.names ns).trans (by rw [e]; exact List.drop_sublist _ _)
    · exact q H2 p f _ _ _ k2.new (hp.keeps k2.keepsN) hD
  refine ⟨.ref s, rfl, s, ns, 59, rfl, hS, hl, hb, by decide, by decide, fun H1 a l s1 R1 => ?_⟩
  refine ⟨5, rfl, by decide, by decide, for_it walk_range (fun i σ H' => ∃ (y0 y2 y3 y4 y5 y6 y7 y8 : Option V), σ = [y0, some (.ref a), y2, y3, y4, y5, y6, y7, y8] ∧ RS H' a l)
      ⟨_, _, _, _, _, _, _, _, rfl, R1⟩ (fun _ _ _ _ _ => trivial) ?_ ?_⟩
  · rintro i x σ H2 H3 hi ⟨y0, y2, y3, y4, y5, y6, y7, y8, rfl, RR⟩ ⟨rfl, hy⟩
    refine ⟨_, rfl, _, rfl, a, l, 10, rfl, RR, by decide, by decide, fun H4 fp fs k4 efp nfp sub f1 f2 => ?_⟩
    have hright : Right fs := ten_right.sub sub
    refine ⟨a, l, fp, fs, 4, rfl, k4.new, sqT_of efp, hright, by omega, by decide, fun H5 p f0 rl k5 dr hn3 => ?_⟩
    obtain ⟨pr, ws, ep, hP, hX⟩ := dr.at_
    have hp5 : SeenAt K H5 p fs f0 rl := ⟨fp, pr, ws, sqT_of ep, k5.tup (sqT_of efp), hP, hX⟩
    have hnames := dr.nm
    have hD0 : Dat fs f0 rl := by
      obtain ⟨k, ns', e⟩ := hnames
      have hsl : List.Sublist f0.names names12 := (List.sublist_append_left f0.names ns').trans (by rw [e]; exact List.drop_sublist _ _)
      have hev : f0.every fun n => N2 fs n ∧ n.nm ∈ names12 := every_of (k := 0) fun q hq => ⟨RF.every_pre dr.ev q hq, hsl.subset (List.mem_map.mpr ⟨q, hq, rfl⟩)⟩
      exact ⟨hright, f1, f2, fun z hz => ten_free z (sub.subset hz), RF.every_mono (fun n h => ⟨h.1.ok, h.1.s1, h.1.s2, twelve_free _ h.2, three_free _ h.1.s3⟩) hev, by have := dr.dp; omega, by have := names12_len e; omega, names12_nodup.sublist hsl, dr.rl⟩
    refine ⟨a, l, p, fs, f0, rl, _, _, _, _, _, _, _, rfl, k5.new, hp5, hD0, hnames, dr.dp, fun H6 p6 f z4 z5 z6 R6 hp6 hD => ?_⟩
    clear hp5 hD0 hnames dr k5 k4
    obtain ⟨fp, pr, ws, e1, e2, e3, e4⟩ := id hp6
    have hrl := three_name _ hD.rl
    have hsz := hD.sz
    have hdp := hD.dp
    have hxl := hD.xl
    have hev := CFR.every hD.ev
    have hpl := RF.pre_len f 0
    have hrl2 : (rowsB fs (f.pre 0) rl).length ≤ 62 := by unfold rowsB; rw [List.length_append, List.length_cons, List.length_map]; show _ + 1 + 1 ≤ _; omega
    refine ⟨_, rfl, p6, fp, pr, fs, rl, ws, f, rfl, e1, e2, by omega, e3, e4, hev, by omega, by omega, fun H7 D7 us7 s7 e7 hus7 => ?_⟩
    refine ⟨D7, us7, rowsB fs (f.pre 0) rl, rfl, e7, hus7, fun ws hw => (rows_ok hD.x.nm (by omega) (by omega) hev hrl ws hw).ok, hrl2, fun H8 s8 => ?_⟩
    have s68 := s7.trans s8
    refine ⟨_, rfl, (fun _ => True), p6, fp, pr, fs, rl, ws, f, rfl, s68.tup e1, s68.tup e2, hD.x.fines.txts, by omega, s68.tup e3, e4.keeps (N := NoL) s68.keeps, (fun _ _ => trivial), hev, by omega, by omega, hD.bad, hD.ff, hrl, fun H9 ob s9 hB9 => ?_⟩
    refine ⟨(fun _ => True), ob, fs, f, rl, rfl, hB9, by omega, hD.x.nm, by omega, by omega, hev, hrl, (fun _ H10 s10 => ?_), fun i ei => by rw [hD.wr] at ei; cases ei⟩
    refine ⟨_, rfl, _, _, .str (textB fs (f.pre 0) rl), rfl, .str _ _, .str _ _, fun H11 s11 => ?_⟩
    refine ⟨_, rfl, iteF ?_⟩
    refine ⟨_, rfl, (fun _ => True), fs, f, rl, rfl, hD.txt, (fun _ _ => trivial), fun H13 b s13 hB13 => ?_⟩
    obtain ⟨dxb, _, _, _, _, _, hb13, _⟩ := id hB13
    refine ⟨_, rfl, _, _, _, _, true, rfl, .own _, .base (.ins hb13 CLb ICb.ca ICb.cn ICb.ct ICb.cm), ICb.me, _, rfl, iteF ?_⟩
    have s613 := s68.trans (s9.trans (s10.trans (s11.trans s13)))
    refine ⟨_, rfl, (fun _ => True), b, fs, f, rl, rfl, hB13, by omega, by omega, fun H14 p14 s14 hsn => ?_⟩
    have s614 := s613.trans s14
    refine ⟨_, rfl, .ref p14, .ref p6, _, rfl, at_seen' hsn (by omega) hev (by omega) (by omega), at_seen' (SeenAt.keeps (N := NoL) s614.keeps hp6) (by omega) hev (by omega) (by omega), fun H15 s15 => ?_⟩
    exact ⟨_, rfl, iteF ⟨_, _, _, _, _, _, _, _, rfl, R6.same (s614.trans s15)⟩⟩
  · rintro H2 σ ⟨y0, y2, y3, y4, y5, y6, y7, y8, rfl, R⟩
    exact q _
end
end Sc
namespace Sc
open PySem PySem.Spec PyProof.Rows L2
theorem four {K : PySem.W.Frag} {D : Value} (h1 : PySem.W.findIn K D "index" = some none) (h2 : PySem.W.findIn K D "part" = some none) (h3 : PySem.W.findIn K D "word" = some none) (h4 : PySem.W.findIn K D "fact" = some none) :
    ∀ n ∈ (["index", "part", "word", "fact"] : List Str), PySem.W.findIn K D n = some none := by
  intro n hn
  simp only [List.mem_cons, List.not_mem_nil, or_false] at hn
  rcases hn with rfl | rfl | rfl | rfl
  · exact h1
  · exact h2
  · exact h3
  · exact h4
theorem exm_by {K : PySem.W.Frag} {D C : Addr} (h1 : PySem.W.subIn K (.ref C) (.type "BaseException") = some true) (h2 : PySem.W.isClsIn K C = true) (h3 : PySem.W.typeIn K (.ref C) = some (.type "type")) (h4 : PySem.W.subIn K (.ref D) (.ref C) = some true) : PySem.W.exmOne K (.ref D) (.ref C) = some true := by
  have e1 : (PySem.W.subIn K (.ref C) (.type "BaseException") == some true) = true := by rw [h1] <;> rfl
  have e2 : ((PySem.W.clsIn K C).isSome && PySem.W.typeIn K (.ref C) == some (.type "type")) = true := by
    have h2' : (PySem.W.clsIn K C).isSome = true := h2
    rw [h2', h3] <;> rfl
  unfold PySem.W.exmOne PySem.W.kitCls
  rw [if_pos e1]
  dsimp only
  rw [if_pos e2]
  exact h4
theorem kit_by {K : PySem.W.Frag} {D C : Addr} {b : Bool} (h1 : PySem.W.subIn K (.ref D) (.ref D) = some true) (h2 : PySem.W.isClsIn K C = true) (h3 : PySem.W.typeIn K (.ref C) = some (.type "type")) (h4 : PySem.W.subIn K (.ref D) (.ref C) = some b) : PySem.W.kitOne K (.ref D) (.ref C) = some b := by
  have e2 : ((PySem.W.clsIn K C).isSome && PySem.W.typeIn K (.ref C) == some (.type "type")) = true := by
    have h2' : (PySem.W.clsIn K C).isSome = true := h2
    rw [h2', h3] <;> rfl
  unfold PySem.W.kitOne
  split
  · rename_i e
    have e := eq_of_beq e
    cases e
    exact h1.symm.trans h4
  · unfold PySem.W.kitCls
    dsimp only
    rw [if_pos e2]
    exact h4
theorem kit_ve {K : PySem.W.Frag} {D : Addr} (h : PySem.W.subIn K (.ref D) (.type "ValueError") = some true) : PySem.W.kitOne K (.ref D) (.type "ValueError") = some true := by
  unfold PySem.W.kitOne PySem.W.kitCls
  rw [if_neg (by intro z; cases eq_of_beq z)]
  dsimp only
  rw [if_pos (by decide +kernel)]
  exact h
theorem codeHd_by {K : PySem.W.Frag} {c T : Addr} {o : Obj} (lk : K.lookup c = some o) (h : PySem.W.codeHdIn [(c, o)] c T = true) : PySem.W.codeHdIn K c T = true := by
  unfold PySem.W.codeHdIn at h ⊢
  rw [lk]
  have e : ([(c, o)] : PySem.W.Frag).lookup c = some o := by simp [List.lookup]
  rw [e] at h
  exact h
theorem lookup_no {K : PySem.W.Frag} {a : Addr} (h : (K.map (·.1)).contains a = false) : K.lookup a = none := by
  induction K with
  | nil => rfl
  | cons p r ih =>
    rw [List.map_cons, List.contains_cons, Bool.or_eq_false_iff] at h
    obtain ⟨x, o⟩ := p
    rw [List.lookup_cons, h.1]
    exact ih h.2
theorem sup_by {K : PySem.W.Frag} {C CE : Addr} {z : Value} {nm q nm2 q2 : Str} {N N2 : Addr} {bs bm su bs2 bm2 su2 : List Value} {sn sn2 : List Str} {ab ab2 : Bool} {col col2 : Option Bool} {dd dd2 : Option Addr} {x0 x1 x2 x3 x5 y0 y1 y2 y3 y5 : Option Value}
    (xC : K.lookup C = some (excClassObj nm q C N bs bm true sn su ab col dd x0 x1 x2 x3 x5 "ValueError.__new__")) (xE : K.lookup CE = some (excClassObj nm2 q2 CE N2 bs2 bm2 true sn2 su2 ab2 col2 dd2 y0 y1 y2 y3 y5 "ValueError.__new__"))
    (e : bm = .ref CE :: bm2) (f : PySem.W.findIn K (.ref CE) "__init__" = some (some z)) : PySem.W.ks_superIn K C C "__init__" = some (some z) := by
  subst e
  unfold PySem.W.ks_superIn PySem.W.clsIn
  unfold PySem.W.findIn at f
  dsimp only at f
  rw [xC]
  rw [xE] at f
  simp only [excClassObj] at f ⊢
  simp
  exact f
/-- a def that calls itself: depth by depth -/
theorem rec_all {P : Program} {w : World} {K : PySem.W.Frag} {mg : Str → Option Value} {base : Heap} {S : Nat → Sp} {k : Nat} {x : Str} {f : Addr} {fd : FuncData} {ps : List Str} (step : ∀ d, Cal P w K mg base CX0 (d + k) x ps (Below S d) → FnOk P w K mg base CX0 (d + k + 1) f fd ps (S d))
    (hm : mg x = some (.ref f)) (kp : PySem.W.keepIn K (.ref f) = true) (b : Binds K fd ps []) : ∀ d, FnOk P w K mg base CX0 (d + k + 1) f fd ps (S d)
  | 0 => step 0 ⟨_, _, FnOk.never, hm, kp, b⟩
  | d + 1 => step (d + 1) ⟨_, _, (by have h := rec_all step hm kp b d; rw [show d + k + 1 = d + 1 + k by omega] at h; exact h), hm, kp, b⟩
theorem alikeT_all {P : Program} {w : World} {K : PySem.W.Frag} {mg : Str → Option Value} {base : Heap} {f : Addr} {fd : FuncData} (F : Fun K "_law_alike" "_law_alike" s__law_alike f fd) (B : Blt mg) (hm : mg "_law_alike" = some (.ref f)) (kp : PySem.W.keepIn K (.ref f) = true) (b : Binds K fd ["_law_found", "_law_due"] []) :
    ∀ n, FnOk P w K mg base CX0 (n + 1) f fd ["_law_found", "_law_due"] (sp_alikeT K n)
  | 0 => ok_alikeT0 F B
  | n + 1 => ok_alikeT F B ⟨_, _, alikeT_all F B hm kp b n, hm, kp, b⟩
theorem all_mk {l : PySem.W.OpenLaw} {P : Program} {w : World} {K : PySem.W.Frag} {h : Heap} {mg : Str → Option Value} {fa : Addr} (eP : l.prog = P) (X : K.In h) (G : h.Ns mainGlobals mg) (hfa : mg "law" = some (.ref fa))
    {f_is_name : Addr} {oc_is_name kV_is_name dc_is_name pm_is_name cd_is_name ct_is_name : Value} {od_is_name an_is_name : Option Addr} {sl_is_name : Array (Option Value)}
    {f_rises : Addr} {oc_rises kV_rises dc_rises pm_rises cd_rises ct_rises : Value} {od_rises an_rises : Option Addr} {sl_rises : Array (Option Value)}
    {f_check_facts : Addr} {oc_check_facts kV_check_facts dc_check_facts pm_check_facts cd_check_facts ct_check_facts : Value} {od_check_facts an_check_facts : Option Addr} {sl_check_facts : Array (Option Value)}
    {f_nested : Addr} {oc_nested kV_nested dc_nested pm_nested cd_nested ct_nested : Value} {od_nested an_nested : Option Addr} {sl_nested : Array (Option Value)}
    {f_check_rules : Addr} {oc_check_rules kV_check_rules dc_check_rules pm_check_rules cd_check_rules ct_check_rules : Value} {od_check_rules an_check_rules : Option Addr} {sl_check_rules : Array (Option Value)}
    {f_check_part : Addr} {oc_check_part kV_check_part dc_check_part pm_check_part cd_check_part ct_check_part : Value} {od_check_part an_check_part : Option Addr} {sl_check_part : Array (Option Value)}
    {f_merged : Addr} {oc_merged kV_merged dc_merged pm_merged cd_merged ct_merged : Value} {od_merged an_merged : Option Addr} {sl_merged : Array (Option Value)}
    {f_words_of : Addr} {oc_words_of kV_words_of dc_words_of pm_words_of cd_words_of ct_words_of : Value} {od_words_of an_words_of : Option Addr} {sl_words_of : Array (Option Value)}
    {f_check_writable : Addr} {oc_check_writable kV_check_writable dc_check_writable pm_check_writable cd_check_writable ct_check_writable : Value} {od_check_writable an_check_writable : Option Addr} {sl_check_writable : Array (Option Value)}
    {f_format_book : Addr} {oc_format_book kV_format_book dc_format_book pm_format_book cd_format_book ct_format_book : Value} {od_format_book an_format_book : Option Addr} {sl_format_book : Array (Option Value)}
    {f_is_free_name : Addr} {oc_is_free_name kV_is_free_name dc_is_free_name pm_is_free_name cd_is_free_name ct_is_free_name : Value} {od_is_free_name an_is_free_name : Option Addr} {sl_is_free_name : Array (Option Value)}
    {f_read_facts : Addr} {oc_read_facts kV_read_facts dc_read_facts pm_read_facts cd_read_facts ct_read_facts : Value} {od_read_facts an_read_facts : Option Addr} {sl_read_facts : Array (Option Value)}
    {f_read_ending : Addr} {oc_read_ending kV_read_ending dc_read_ending pm_read_ending cd_read_ending ct_read_ending : Value} {od_read_ending an_read_ending : Option Addr} {sl_read_ending : Array (Option Value)}
    {f_read_part : Addr} {oc_read_part kV_read_part dc_read_part pm_read_part cd_read_part ct_read_part : Value} {od_read_part an_read_part : Option Addr} {sl_read_part : Array (Option Value)}
    {f_read_signs : Addr} {oc_read_signs kV_read_signs dc_read_signs pm_read_signs cd_read_signs ct_read_signs : Value} {od_read_signs an_read_signs : Option Addr} {sl_read_signs : Array (Option Value)}
    {f_read_rule : Addr} {oc_read_rule kV_read_rule dc_read_rule pm_read_rule cd_read_rule ct_read_rule : Value} {od_read_rule an_read_rule : Option Addr} {sl_read_rule : Array (Option Value)}
    {f_rules_told : Addr} {oc_rules_told kV_rules_told dc_rules_told pm_rules_told cd_rules_told ct_rules_told : Value} {od_rules_told an_rules_told : Option Addr} {sl_rules_told : Array (Option Value)}
    {f_parse_book : Addr} {oc_parse_book kV_parse_book dc_parse_book pm_parse_book cd_parse_book ct_parse_book : Value} {od_parse_book an_parse_book : Option Addr} {sl_parse_book : Array (Option Value)}
    {f__law_mix : Addr} {oc__law_mix kV__law_mix dc__law_mix pm__law_mix cd__law_mix ct__law_mix : Value} {od__law_mix an__law_mix : Option Addr} {sl__law_mix : Array (Option Value)}
    {f__law_next : Addr} {oc__law_next kV__law_next dc__law_next pm__law_next cd__law_next ct__law_next : Value} {od__law_next an__law_next : Option Addr} {sl__law_next : Array (Option Value)}
    {f__law_alike : Addr} {oc__law_alike kV__law_alike dc__law_alike pm__law_alike cd__law_alike ct__law_alike : Value} {od__law_alike an__law_alike : Option Addr} {sl__law_alike : Array (Option Value)}
    {f__law_facts : Addr} {oc__law_facts kV__law_facts dc__law_facts pm__law_facts cd__law_facts ct__law_facts : Value} {od__law_facts an__law_facts : Option Addr} {sl__law_facts : Array (Option Value)}
    {f__law_sides : Addr} {oc__law_sides kV__law_sides dc__law_sides pm__law_sides cd__law_sides ct__law_sides : Value} {od__law_sides an__law_sides : Option Addr} {sl__law_sides : Array (Option Value)}
    {f__law_rule : Addr} {oc__law_rule kV__law_rule dc__law_rule pm__law_rule cd__law_rule ct__law_rule : Value} {od__law_rule an__law_rule : Option Addr} {sl__law_rule : Array (Option Value)}
    {f__law_drawn : Addr} {oc__law_drawn kV__law_drawn dc__law_drawn pm__law_drawn cd__law_drawn ct__law_drawn : Value} {od__law_drawn an__law_drawn : Option Addr} {sl__law_drawn : Array (Option Value)}
    {f__law_made : Addr} {oc__law_made kV__law_made dc__law_made pm__law_made cd__law_made ct__law_made : Value} {od__law_made an__law_made : Option Addr} {sl__law_made : Array (Option Value)}
    {f__law_book : Addr} {oc__law_book kV__law_book dc__law_book pm__law_book cd__law_book ct__law_book : Value} {od__law_book an__law_book : Option Addr} {sl__law_book : Array (Option Value)}
    {f__law_told : Addr} {oc__law_told kV__law_told dc__law_told pm__law_told cd__law_told ct__law_told : Value} {od__law_told an__law_told : Option Addr} {sl__law_told : Array (Option Value)}
    {f__law_seen : Addr} {oc__law_seen kV__law_seen dc__law_seen pm__law_seen cd__law_seen ct__law_seen : Value} {od__law_seen an__law_seen : Option Addr} {sl__law_seen : Array (Option Value)}
    {f__law_words : Addr} {oc__law_words kV__law_words dc__law_words pm__law_words cd__law_words ct__law_words : Value} {od__law_words an__law_words : Option Addr} {sl__law_words : Array (Option Value)}
    {f__law_rows_of : Addr} {oc__law_rows_of kV__law_rows_of dc__law_rows_of pm__law_rows_of cd__law_rows_of ct__law_rows_of : Value} {od__law_rows_of an__law_rows_of : Option Addr} {sl__law_rows_of : Array (Option Value)}
    {f__law_text : Addr} {oc__law_text kV__law_text dc__law_text pm__law_text cd__law_text ct__law_text : Value} {od__law_text an__law_text : Option Addr} {sl__law_text : Array (Option Value)}
    {f_law : Addr} {oc_law kV_law dc_law pm_law ct_law : Value} {od_law an_law : Option Addr} {sl_law : Array (Option Value)}
    {f_mi : Addr} {oc_mi kV_mi dc_mi pm_mi cd_mi ct_mi : Value} {od_mi an_mi : Option Addr} {sl_mi : Array (Option Value)}
    {f_mh : Addr} {oc_mh kV_mh dc_mh pm_mh cd_mh ct_mh : Value} {od_mh an_mh : Option Addr} {sl_mh : Array (Option Value)}
    {f_mf : Addr} {oc_mf kV_mf dc_mf pm_mf cd_mf ct_mf : Value} {od_mf an_mf : Option Addr} {sl_mf : Array (Option Value)}
    {f_mn : Addr} {oc_mn kV_mn dc_mn pm_mn cd_mn ct_mn : Value} {od_mn an_mn : Option Addr} {sl_mn : Array (Option Value)}
    {f_ri : Addr} {oc_ri kV_ri dc_ri pm_ri cd_ri ct_ri : Value} {od_ri an_ri : Option Addr} {sl_ri : Array (Option Value)}
    {f_rn : Addr} {oc_rn kV_rn dc_rn pm_rn cd_rn ct_rn : Value} {od_rn an_rn : Option Addr} {sl_rn : Array (Option Value)}
    {f_rc : Addr} {oc_rc kV_rc dc_rc pm_rc cd_rc ct_rc : Value} {od_rc an_rc : Option Addr} {sl_rc : Array (Option Value)}
    {f_rr : Addr} {oc_rr kV_rr dc_rr pm_rr cd_rr ct_rr : Value} {od_rr an_rr : Option Addr} {sl_rr : Array (Option Value)}
    {f_re : Addr} {oc_re kV_re dc_re pm_re cd_re ct_re : Value} {od_re an_re : Option Addr} {sl_re : Array (Option Value)}
    {f_rd : Addr} {oc_rd kV_rd dc_rd pm_rd cd_rd ct_rd : Value} {od_rd an_rd : Option Addr} {sl_rd : Array (Option Value)}
    {f_bi : Addr} {oc_bi kV_bi dc_bi pm_bi cd_bi ct_bi : Value} {od_bi an_bi : Option Addr} {sl_bi : Array (Option Value)}
    {f_bf : Addr} {oc_bf kV_bf dc_bf pm_bf cd_bf ct_bf : Value} {od_bf an_bf : Option Addr} {sl_bf : Array (Option Value)}
    {f_bs : Addr} {oc_bs kV_bs dc_bs pm_bs cd_bs ct_bs : Value} {od_bs an_bs : Option Addr} {sl_bs : Array (Option Value)}
    {f_br : Addr} {oc_br kV_br dc_br pm_br cd_br ct_br : Value} {od_br an_br : Option Addr} {sl_br : Array (Option Value)}
    {f_wi : Addr} {oc_wi kV_wi dc_wi pm_wi cd_wi ct_wi : Value} {od_wi an_wi : Option Addr} {sl_wi : Array (Option Value)}
    {f_wa : Addr} {oc_wa kV_wa dc_wa pm_wa cd_wa ct_wa : Value} {od_wa an_wa : Option Addr} {sl_wa : Array (Option Value)}
    {f_wc : Addr} {oc_wc kV_wc dc_wc pm_wc cd_wc ct_wc : Value} {od_wc an_wc : Option Addr} {sl_wc : Array (Option Value)}
    {f_wt : Addr} {oc_wt kV_wt dc_wt pm_wt cd_wt ct_wt : Value} {od_wt an_wt : Option Addr} {sl_wt : Array (Option Value)}
    {f_we : Addr} {oc_we kV_we dc_we pm_we cd_we ct_we : Value} {od_we an_we : Option Addr} {sl_we : Array (Option Value)}
    {CO : Addr}
    {pp_mh : Addr} {rs_mh : List Value}
    {pp_mf : Addr} {rs_mf : List Value}
    {pp_mn : Addr} {rs_mn : List Value}
    {RO : Addr}
    {pp_rn : Addr} {rs_rn : List Value}
    {pp_rc : Addr} {rs_rc : List Value}
    {pp_rr : Addr} {rs_rr : List Value}
    {pp_re : Addr} {rs_re : List Value}
    {pp_rd : Addr} {rs_rd : List Value}
    {BO : Addr}
    {pp_bf : Addr} {rs_bf : List Value}
    {pp_bs : Addr} {rs_bs : List Value}
    {pp_br : Addr} {rs_br : List Value}
    {WO : Addr}
    {rsA : Addr}
    {odR : Option Addr} {nR : Nat} {slR : Array (Option Value)} {uR1 uR2 uR3 uR4 uR5 : Tok}
    {cc_law : Addr}
    {t_LETTERS : Tok}
    {t_LONGEST_NAME : Tok}
    {t_MOST_FACTS : Tok}
    {t_MOST_NAMES : Tok}
    {t_MOST_AROUND : Tok}
    {t_MOST_RULES : Tok}
    {t_MOST_OUTERMOST : Tok}
    {t_SIGN : Tok}
    {t_NUMBER_OF_FACTS : Tok}
    {t_NUMBER_OF_BOOK : Tok}
    {CE : Addr}
    {E0 : Addr}
    {E1 : Addr}
    {E2 : Addr}
    {E3 : Addr}
    {E4 : Addr}
    {nmE qE : Str} {NE : Addr} {bsE bmE suE : List Value} {snE : List Str} {abE : Bool} {colE : Option Bool} {ddE : Option Addr} {x0E x1E x2E x3E x5E : Option Value}
    {nmi0 qi0 : Str} {Ni0 : Addr} {bsi0 bmi0 sui0 : List Value} {sni0 : List Str} {abi0 : Bool} {coli0 : Option Bool} {ddi0 odii0 anii0 ccddi0 cddi0 : Option Addr} {x0i0 x1i0 x2i0 x3i0 x5i0 : Option Value} {fIi0 celi0 codi0 : Addr} {ocii0 kVii0 dcii0 pmii0 ctii0 clci0 ccli0 : Value} {slii0 csli0 ccsi0 : Array (Option Value)} {vsi0 : Array Value} {fili0 : Str} {tfii0 : Tok}
    {nmi1 qi1 : Str} {Ni1 : Addr} {bsi1 bmi1 sui1 : List Value} {sni1 : List Str} {abi1 : Bool} {coli1 : Option Bool} {ddi1 odii1 anii1 ccddi1 cddi1 : Option Addr} {x0i1 x1i1 x2i1 x3i1 x5i1 : Option Value} {fIi1 celi1 codi1 : Addr} {ocii1 kVii1 dcii1 pmii1 ctii1 clci1 ccli1 : Value} {slii1 csli1 ccsi1 : Array (Option Value)} {vsi1 : Array Value} {fili1 : Str} {tfii1 : Tok}
    {nmi2 qi2 : Str} {Ni2 : Addr} {bsi2 bmi2 sui2 : List Value} {sni2 : List Str} {abi2 : Bool} {coli2 : Option Bool} {ddi2 odii2 anii2 ccddi2 cddi2 : Option Addr} {x0i2 x1i2 x2i2 x3i2 x5i2 : Option Value} {fIi2 celi2 codi2 : Addr} {ocii2 kVii2 dcii2 pmii2 ctii2 clci2 ccli2 : Value} {slii2 csli2 ccsi2 : Array (Option Value)} {vsi2 : Array Value} {fili2 : Str} {tfii2 : Tok}
    {nmi3 qi3 : Str} {Ni3 : Addr} {bsi3 bmi3 sui3 : List Value} {sni3 : List Str} {abi3 : Bool} {coli3 : Option Bool} {ddi3 odii3 anii3 ccddi3 cddi3 : Option Addr} {x0i3 x1i3 x2i3 x3i3 x5i3 : Option Value} {fIi3 celi3 codi3 : Addr} {ocii3 kVii3 dcii3 pmii3 ctii3 clci3 ccli3 : Value} {slii3 csli3 ccsi3 : Array (Option Value)} {vsi3 : Array Value} {fili3 : Str} {tfii3 : Tok}
    {nmi4 qi4 : Str} {Ni4 : Addr} {bsi4 bmi4 sui4 : List Value} {sni4 : List Str} {abi4 : Bool} {coli4 : Option Bool} {ddi4 odii4 anii4 ccddi4 cddi4 : Option Addr} {x0i4 x1i4 x2i4 x3i4 x5i4 : Option Value} {fIi4 celi4 codi4 : Addr} {ocii4 kVii4 dcii4 pmii4 ctii4 clci4 ccli4 : Value} {slii4 csli4 ccsi4 : Array (Option Value)} {vsi4 : Array Value} {fili4 : Str} {tfii4 : Tok}
    (a_is_name : PySem.W.nsIn K mainGlobals "is_name" = some (some (.ref f_is_name)))
    (l_is_name : K.lookup f_is_name = some ⟨oc_is_name, od_is_name, .func (PySem.W.fnOf "is_name" "is_name" (defArgs s_is_name) (defBody s_is_name) (defScope s_is_name) .none kV_is_name dc_is_name pm_is_name an_is_name cd_is_name ct_is_name), sl_is_name⟩)
    (c_is_name : PySem.W.codeIn K cd_is_name "is_name" = true)
    (k_is_name : PySem.W.keepIn K (.ref f_is_name) = true)
    (a_rises : PySem.W.nsIn K mainGlobals "rises" = some (some (.ref f_rises)))
    (l_rises : K.lookup f_rises = some ⟨oc_rises, od_rises, .func (PySem.W.fnOf "rises" "rises" (defArgs s_rises) (defBody s_rises) (defScope s_rises) .none kV_rises dc_rises pm_rises an_rises cd_rises ct_rises), sl_rises⟩)
    (c_rises : PySem.W.codeIn K cd_rises "rises" = true)
    (k_rises : PySem.W.keepIn K (.ref f_rises) = true)
    (a_check_facts : PySem.W.nsIn K mainGlobals "check_facts" = some (some (.ref f_check_facts)))
    (l_check_facts : K.lookup f_check_facts = some ⟨oc_check_facts, od_check_facts, .func (PySem.W.fnOf "check_facts" "check_facts" (defArgs s_check_facts) (defBody s_check_facts) (defScope s_check_facts) .none kV_check_facts dc_check_facts pm_check_facts an_check_facts cd_check_facts ct_check_facts), sl_check_facts⟩)
    (c_check_facts : PySem.W.codeIn K cd_check_facts "check_facts" = true)
    (k_check_facts : PySem.W.keepIn K (.ref f_check_facts) = true)
    (a_nested : PySem.W.nsIn K mainGlobals "nested" = some (some (.ref f_nested)))
    (l_nested : K.lookup f_nested = some ⟨oc_nested, od_nested, .func (PySem.W.fnOf "nested" "nested" (defArgs s_nested) (defBody s_nested) (defScope s_nested) .none kV_nested dc_nested pm_nested an_nested cd_nested ct_nested), sl_nested⟩)
    (c_nested : PySem.W.codeIn K cd_nested "nested" = true)
    (k_nested : PySem.W.keepIn K (.ref f_nested) = true)
    (a_check_rules : PySem.W.nsIn K mainGlobals "check_rules" = some (some (.ref f_check_rules)))
    (l_check_rules : K.lookup f_check_rules = some ⟨oc_check_rules, od_check_rules, .func (PySem.W.fnOf "check_rules" "check_rules" (defArgs s_check_rules) (defBody s_check_rules) (defScope s_check_rules) .none kV_check_rules dc_check_rules pm_check_rules an_check_rules cd_check_rules ct_check_rules), sl_check_rules⟩)
    (c_check_rules : PySem.W.codeIn K cd_check_rules "check_rules" = true)
    (k_check_rules : PySem.W.keepIn K (.ref f_check_rules) = true)
    (a_check_part : PySem.W.nsIn K mainGlobals "check_part" = some (some (.ref f_check_part)))
    (l_check_part : K.lookup f_check_part = some ⟨oc_check_part, od_check_part, .func (PySem.W.fnOf "check_part" "check_part" (defArgs s_check_part) (defBody s_check_part) (defScope s_check_part) .none kV_check_part dc_check_part pm_check_part an_check_part cd_check_part ct_check_part), sl_check_part⟩)
    (c_check_part : PySem.W.codeIn K cd_check_part "check_part" = true)
    (k_check_part : PySem.W.keepIn K (.ref f_check_part) = true)
    (a_merged : PySem.W.nsIn K mainGlobals "merged" = some (some (.ref f_merged)))
    (l_merged : K.lookup f_merged = some ⟨oc_merged, od_merged, .func (PySem.W.fnOf "merged" "merged" (defArgs s_merged) (defBody s_merged) (defScope s_merged) .none kV_merged dc_merged pm_merged an_merged cd_merged ct_merged), sl_merged⟩)
    (c_merged : PySem.W.codeIn K cd_merged "merged" = true)
    (k_merged : PySem.W.keepIn K (.ref f_merged) = true)
    (a_words_of : PySem.W.nsIn K mainGlobals "words_of" = some (some (.ref f_words_of)))
    (l_words_of : K.lookup f_words_of = some ⟨oc_words_of, od_words_of, .func (PySem.W.fnOf "words_of" "words_of" (defArgs s_words_of) (defBody s_words_of) (defScope s_words_of) .none kV_words_of dc_words_of pm_words_of an_words_of cd_words_of ct_words_of), sl_words_of⟩)
    (c_words_of : PySem.W.codeIn K cd_words_of "words_of" = true)
    (k_words_of : PySem.W.keepIn K (.ref f_words_of) = true)
    (a_check_writable : PySem.W.nsIn K mainGlobals "check_writable" = some (some (.ref f_check_writable)))
    (l_check_writable : K.lookup f_check_writable = some ⟨oc_check_writable, od_check_writable, .func (PySem.W.fnOf "check_writable" "check_writable" (defArgs s_check_writable) (defBody s_check_writable) (defScope s_check_writable) .none kV_check_writable dc_check_writable pm_check_writable an_check_writable cd_check_writable ct_check_writable), sl_check_writable⟩)
    (c_check_writable : PySem.W.codeIn K cd_check_writable "check_writable" = true)
    (k_check_writable : PySem.W.keepIn K (.ref f_check_writable) = true)
    (a_format_book : PySem.W.nsIn K mainGlobals "format_book" = some (some (.ref f_format_book)))
    (l_format_book : K.lookup f_format_book = some ⟨oc_format_book, od_format_book, .func (PySem.W.fnOf "format_book" "format_book" (defArgs s_format_book) (defBody s_format_book) (defScope s_format_book) .none kV_format_book dc_format_book pm_format_book an_format_book cd_format_book ct_format_book), sl_format_book⟩)
    (c_format_book : PySem.W.codeIn K cd_format_book "format_book" = true)
    (k_format_book : PySem.W.keepIn K (.ref f_format_book) = true)
    (a_is_free_name : PySem.W.nsIn K mainGlobals "is_free_name" = some (some (.ref f_is_free_name)))
    (l_is_free_name : K.lookup f_is_free_name = some ⟨oc_is_free_name, od_is_free_name, .func (PySem.W.fnOf "is_free_name" "is_free_name" (defArgs s_is_free_name) (defBody s_is_free_name) (defScope s_is_free_name) .none kV_is_free_name dc_is_free_name pm_is_free_name an_is_free_name cd_is_free_name ct_is_free_name), sl_is_free_name⟩)
    (c_is_free_name : PySem.W.codeIn K cd_is_free_name "is_free_name" = true)
    (k_is_free_name : PySem.W.keepIn K (.ref f_is_free_name) = true)
    (a_read_facts : PySem.W.nsIn K mainGlobals "read_facts" = some (some (.ref f_read_facts)))
    (l_read_facts : K.lookup f_read_facts = some ⟨oc_read_facts, od_read_facts, .func (PySem.W.fnOf "read_facts" "read_facts" (defArgs s_read_facts) (defBody s_read_facts) (defScope s_read_facts) .none kV_read_facts dc_read_facts pm_read_facts an_read_facts cd_read_facts ct_read_facts), sl_read_facts⟩)
    (c_read_facts : PySem.W.codeIn K cd_read_facts "read_facts" = true)
    (k_read_facts : PySem.W.keepIn K (.ref f_read_facts) = true)
    (a_read_ending : PySem.W.nsIn K mainGlobals "read_ending" = some (some (.ref f_read_ending)))
    (l_read_ending : K.lookup f_read_ending = some ⟨oc_read_ending, od_read_ending, .func (PySem.W.fnOf "read_ending" "read_ending" (defArgs s_read_ending) (defBody s_read_ending) (defScope s_read_ending) .none kV_read_ending dc_read_ending pm_read_ending an_read_ending cd_read_ending ct_read_ending), sl_read_ending⟩)
    (c_read_ending : PySem.W.codeIn K cd_read_ending "read_ending" = true)
    (k_read_ending : PySem.W.keepIn K (.ref f_read_ending) = true)
    (a_read_part : PySem.W.nsIn K mainGlobals "read_part" = some (some (.ref f_read_part)))
    (l_read_part : K.lookup f_read_part = some ⟨oc_read_part, od_read_part, .func (PySem.W.fnOf "read_part" "read_part" (defArgs s_read_part) (defBody s_read_part) (defScope s_read_part) .none kV_read_part dc_read_part pm_read_part an_read_part cd_read_part ct_read_part), sl_read_part⟩)
    (c_read_part : PySem.W.codeIn K cd_read_part "read_part" = true)
    (k_read_part : PySem.W.keepIn K (.ref f_read_part) = true)
    (a_read_signs : PySem.W.nsIn K mainGlobals "read_signs" = some (some (.ref f_read_signs)))
    (l_read_signs : K.lookup f_read_signs = some ⟨oc_read_signs, od_read_signs, .func (PySem.W.fnOf "read_signs" "read_signs" (defArgs s_read_signs) (defBody s_read_signs) (defScope s_read_signs) .none kV_read_signs dc_read_signs pm_read_signs an_read_signs cd_read_signs ct_read_signs), sl_read_signs⟩)
    (c_read_signs : PySem.W.codeIn K cd_read_signs "read_signs" = true)
    (k_read_signs : PySem.W.keepIn K (.ref f_read_signs) = true)
    (a_read_rule : PySem.W.nsIn K mainGlobals "read_rule" = some (some (.ref f_read_rule)))
    (l_read_rule : K.lookup f_read_rule = some ⟨oc_read_rule, od_read_rule, .func (PySem.W.fnOf "read_rule" "read_rule" (defArgs s_read_rule) (defBody s_read_rule) (defScope s_read_rule) .none kV_read_rule dc_read_rule pm_read_rule an_read_rule cd_read_rule ct_read_rule), sl_read_rule⟩)
    (c_read_rule : PySem.W.codeIn K cd_read_rule "read_rule" = true)
    (k_read_rule : PySem.W.keepIn K (.ref f_read_rule) = true)
    (a_rules_told : PySem.W.nsIn K mainGlobals "rules_told" = some (some (.ref f_rules_told)))
    (l_rules_told : K.lookup f_rules_told = some ⟨oc_rules_told, od_rules_told, .func (PySem.W.fnOf "rules_told" "rules_told" (defArgs s_rules_told) (defBody s_rules_told) (defScope s_rules_told) .none kV_rules_told dc_rules_told pm_rules_told an_rules_told cd_rules_told ct_rules_told), sl_rules_told⟩)
    (c_rules_told : PySem.W.codeIn K cd_rules_told "rules_told" = true)
    (k_rules_told : PySem.W.keepIn K (.ref f_rules_told) = true)
    (a_parse_book : PySem.W.nsIn K mainGlobals "parse_book" = some (some (.ref f_parse_book)))
    (l_parse_book : K.lookup f_parse_book = some ⟨oc_parse_book, od_parse_book, .func (PySem.W.fnOf "parse_book" "parse_book" (defArgs s_parse_book) (defBody s_parse_book) (defScope s_parse_book) .none kV_parse_book dc_parse_book pm_parse_book an_parse_book cd_parse_book ct_parse_book), sl_parse_book⟩)
    (c_parse_book : PySem.W.codeIn K cd_parse_book "parse_book" = true)
    (k_parse_book : PySem.W.keepIn K (.ref f_parse_book) = true)
    (a__law_mix : PySem.W.nsIn K mainGlobals "_law_mix" = some (some (.ref f__law_mix)))
    (l__law_mix : K.lookup f__law_mix = some ⟨oc__law_mix, od__law_mix, .func (PySem.W.fnOf "_law_mix" "_law_mix" (defArgs s__law_mix) (defBody s__law_mix) (defScope s__law_mix) .none kV__law_mix dc__law_mix pm__law_mix an__law_mix cd__law_mix ct__law_mix), sl__law_mix⟩)
    (c__law_mix : PySem.W.codeIn K cd__law_mix "_law_mix" = true)
    (k__law_mix : PySem.W.keepIn K (.ref f__law_mix) = true)
    (a__law_next : PySem.W.nsIn K mainGlobals "_law_next" = some (some (.ref f__law_next)))
    (l__law_next : K.lookup f__law_next = some ⟨oc__law_next, od__law_next, .func (PySem.W.fnOf "_law_next" "_law_next" (defArgs s__law_next) (defBody s__law_next) (defScope s__law_next) .none kV__law_next dc__law_next pm__law_next an__law_next cd__law_next ct__law_next), sl__law_next⟩)
    (c__law_next : PySem.W.codeIn K cd__law_next "_law_next" = true)
    (k__law_next : PySem.W.keepIn K (.ref f__law_next) = true)
    (a__law_alike : PySem.W.nsIn K mainGlobals "_law_alike" = some (some (.ref f__law_alike)))
    (l__law_alike : K.lookup f__law_alike = some ⟨oc__law_alike, od__law_alike, .func (PySem.W.fnOf "_law_alike" "_law_alike" (defArgs s__law_alike) (defBody s__law_alike) (defScope s__law_alike) .none kV__law_alike dc__law_alike pm__law_alike an__law_alike cd__law_alike ct__law_alike), sl__law_alike⟩)
    (c__law_alike : PySem.W.codeIn K cd__law_alike "_law_alike" = true)
    (k__law_alike : PySem.W.keepIn K (.ref f__law_alike) = true)
    (a__law_facts : PySem.W.nsIn K mainGlobals "_law_facts" = some (some (.ref f__law_facts)))
    (l__law_facts : K.lookup f__law_facts = some ⟨oc__law_facts, od__law_facts, .func (PySem.W.fnOf "_law_facts" "_law_facts" (defArgs s__law_facts) (defBody s__law_facts) (defScope s__law_facts) .none kV__law_facts dc__law_facts pm__law_facts an__law_facts cd__law_facts ct__law_facts), sl__law_facts⟩)
    (c__law_facts : PySem.W.codeIn K cd__law_facts "_law_facts" = true)
    (k__law_facts : PySem.W.keepIn K (.ref f__law_facts) = true)
    (a__law_sides : PySem.W.nsIn K mainGlobals "_law_sides" = some (some (.ref f__law_sides)))
    (l__law_sides : K.lookup f__law_sides = some ⟨oc__law_sides, od__law_sides, .func (PySem.W.fnOf "_law_sides" "_law_sides" (defArgs s__law_sides) (defBody s__law_sides) (defScope s__law_sides) .none kV__law_sides dc__law_sides pm__law_sides an__law_sides cd__law_sides ct__law_sides), sl__law_sides⟩)
    (c__law_sides : PySem.W.codeIn K cd__law_sides "_law_sides" = true)
    (k__law_sides : PySem.W.keepIn K (.ref f__law_sides) = true)
    (a__law_rule : PySem.W.nsIn K mainGlobals "_law_rule" = some (some (.ref f__law_rule)))
    (l__law_rule : K.lookup f__law_rule = some ⟨oc__law_rule, od__law_rule, .func (PySem.W.fnOf "_law_rule" "_law_rule" (defArgs s__law_rule) (defBody s__law_rule) (defScope s__law_rule) .none kV__law_rule dc__law_rule pm__law_rule an__law_rule cd__law_rule ct__law_rule), sl__law_rule⟩)
    (c__law_rule : PySem.W.codeIn K cd__law_rule "_law_rule" = true)
    (k__law_rule : PySem.W.keepIn K (.ref f__law_rule) = true)
    (a__law_drawn : PySem.W.nsIn K mainGlobals "_law_drawn" = some (some (.ref f__law_drawn)))
    (l__law_drawn : K.lookup f__law_drawn = some ⟨oc__law_drawn, od__law_drawn, .func (PySem.W.fnOf "_law_drawn" "_law_drawn" (defArgs s__law_drawn) (defBody s__law_drawn) (defScope s__law_drawn) .none kV__law_drawn dc__law_drawn pm__law_drawn an__law_drawn cd__law_drawn ct__law_drawn), sl__law_drawn⟩)
    (c__law_drawn : PySem.W.codeIn K cd__law_drawn "_law_drawn" = true)
    (k__law_drawn : PySem.W.keepIn K (.ref f__law_drawn) = true)
    (a__law_made : PySem.W.nsIn K mainGlobals "_law_made" = some (some (.ref f__law_made)))
    (l__law_made : K.lookup f__law_made = some ⟨oc__law_made, od__law_made, .func (PySem.W.fnOf "_law_made" "_law_made" (defArgs s__law_made) (defBody s__law_made) (defScope s__law_made) .none kV__law_made dc__law_made pm__law_made an__law_made cd__law_made ct__law_made), sl__law_made⟩)
    (c__law_made : PySem.W.codeIn K cd__law_made "_law_made" = true)
    (k__law_made : PySem.W.keepIn K (.ref f__law_made) = true)
    (a__law_book : PySem.W.nsIn K mainGlobals "_law_book" = some (some (.ref f__law_book)))
    (l__law_book : K.lookup f__law_book = some ⟨oc__law_book, od__law_book, .func (PySem.W.fnOf "_law_book" "_law_book" (defArgs s__law_book) (defBody s__law_book) (defScope s__law_book) .none kV__law_book dc__law_book pm__law_book an__law_book cd__law_book ct__law_book), sl__law_book⟩)
    (c__law_book : PySem.W.codeIn K cd__law_book "_law_book" = true)
    (k__law_book : PySem.W.keepIn K (.ref f__law_book) = true)
    (a__law_told : PySem.W.nsIn K mainGlobals "_law_told" = some (some (.ref f__law_told)))
    (l__law_told : K.lookup f__law_told = some ⟨oc__law_told, od__law_told, .func (PySem.W.fnOf "_law_told" "_law_told" (defArgs s__law_told) (defBody s__law_told) (defScope s__law_told) .none kV__law_told dc__law_told pm__law_told an__law_told cd__law_told ct__law_told), sl__law_told⟩)
    (c__law_told : PySem.W.codeIn K cd__law_told "_law_told" = true)
    (k__law_told : PySem.W.keepIn K (.ref f__law_told) = true)
    (a__law_seen : PySem.W.nsIn K mainGlobals "_law_seen" = some (some (.ref f__law_seen)))
    (l__law_seen : K.lookup f__law_seen = some ⟨oc__law_seen, od__law_seen, .func (PySem.W.fnOf "_law_seen" "_law_seen" (defArgs s__law_seen) (defBody s__law_seen) (defScope s__law_seen) .none kV__law_seen dc__law_seen pm__law_seen an__law_seen cd__law_seen ct__law_seen), sl__law_seen⟩)
    (c__law_seen : PySem.W.codeIn K cd__law_seen "_law_seen" = true)
    (k__law_seen : PySem.W.keepIn K (.ref f__law_seen) = true)
    (a__law_words : PySem.W.nsIn K mainGlobals "_law_words" = some (some (.ref f__law_words)))
    (l__law_words : K.lookup f__law_words = some ⟨oc__law_words, od__law_words, .func (PySem.W.fnOf "_law_words" "_law_words" (defArgs s__law_words) (defBody s__law_words) (defScope s__law_words) .none kV__law_words dc__law_words pm__law_words an__law_words cd__law_words ct__law_words), sl__law_words⟩)
    (c__law_words : PySem.W.codeIn K cd__law_words "_law_words" = true)
    (k__law_words : PySem.W.keepIn K (.ref f__law_words) = true)
    (a__law_rows_of : PySem.W.nsIn K mainGlobals "_law_rows_of" = some (some (.ref f__law_rows_of)))
    (l__law_rows_of : K.lookup f__law_rows_of = some ⟨oc__law_rows_of, od__law_rows_of, .func (PySem.W.fnOf "_law_rows_of" "_law_rows_of" (defArgs s__law_rows_of) (defBody s__law_rows_of) (defScope s__law_rows_of) .none kV__law_rows_of dc__law_rows_of pm__law_rows_of an__law_rows_of cd__law_rows_of ct__law_rows_of), sl__law_rows_of⟩)
    (c__law_rows_of : PySem.W.codeIn K cd__law_rows_of "_law_rows_of" = true)
    (k__law_rows_of : PySem.W.keepIn K (.ref f__law_rows_of) = true)
    (a__law_text : PySem.W.nsIn K mainGlobals "_law_text" = some (some (.ref f__law_text)))
    (l__law_text : K.lookup f__law_text = some ⟨oc__law_text, od__law_text, .func (PySem.W.fnOf "_law_text" "_law_text" (defArgs s__law_text) (defBody s__law_text) (defScope s__law_text) .none kV__law_text dc__law_text pm__law_text an__law_text cd__law_text ct__law_text), sl__law_text⟩)
    (c__law_text : PySem.W.codeIn K cd__law_text "_law_text" = true)
    (k__law_text : PySem.W.keepIn K (.ref f__law_text) = true)
    (a_law : PySem.W.nsIn K mainGlobals "law" = some (some (.ref f_law)))
    (l_law : K.lookup f_law = some ⟨oc_law, od_law, .func (PySem.W.fnOf "law" "law" (defArgs s_law) (defBody s_law) (defScope s_law) .none kV_law dc_law pm_law an_law (.ref cc_law) ct_law), sl_law⟩)
    (c_law : PySem.W.codeIn K (.ref cc_law) "law" = true)
    (k_law : PySem.W.keepIn K (.ref f_law) = true)
    (co : PySem.W.nsIn K mainGlobals "Condition" = some (some (.ref CO)))
    (co_mk : PySem.W.makesIn K CO = true)
    (co_in : PySem.W.findIn K (.ref CO) "__init__" = some (some (.ref f_mi)))
    (co_fn : PySem.W.isFn K (.ref f_mi) = true)
    (co_kp : PySem.W.keepIn K (.ref CO) = true)
    (co_pg : PySem.W.plainGet K CO Str.empty = true)
    (co_hd : PySem.W.hasDictIn K CO = true)
    (co_po : PySem.W.plainOver K CO = true)
    (co_sa : PySem.W.findIn K (.ref CO) "__setattr__" = some (some (.builtin "object.__setattr__")))
    (co_n1 : PySem.W.findIn K (.ref CO) "_holding" = some none)
    (co_n2 : PySem.W.findIn K (.ref CO) "_failing" = some none)
    (co_n3 : PySem.W.findIn K (.ref CO) "_names" = some none)
    (pa_mh : PySem.W.findIn K (.ref CO) "holding" = some (some (.ref pp_mh)))
    (pg_mh : PySem.W.specialIn K (.ref pp_mh) "__get__" = some (some (.builtin "property.__get__")))
    (pt_mh : PySem.W.takesIn K (.ref pp_mh) = some true)
    (pr_mh : PySem.W.recIn K pp_mh "property" = some (.ref f_mh :: rs_mh))
    (pa_mf : PySem.W.findIn K (.ref CO) "failing" = some (some (.ref pp_mf)))
    (pg_mf : PySem.W.specialIn K (.ref pp_mf) "__get__" = some (some (.builtin "property.__get__")))
    (pt_mf : PySem.W.takesIn K (.ref pp_mf) = some true)
    (pr_mf : PySem.W.recIn K pp_mf "property" = some (.ref f_mf :: rs_mf))
    (pa_mn : PySem.W.findIn K (.ref CO) "names" = some (some (.ref pp_mn)))
    (pg_mn : PySem.W.specialIn K (.ref pp_mn) "__get__" = some (some (.builtin "property.__get__")))
    (pt_mn : PySem.W.takesIn K (.ref pp_mn) = some true)
    (pr_mn : PySem.W.recIn K pp_mn "property" = some (.ref f_mn :: rs_mn))
    (ro : PySem.W.nsIn K mainGlobals "Rule" = some (some (.ref RO)))
    (ro_mk : PySem.W.makesIn K RO = true)
    (ro_in : PySem.W.findIn K (.ref RO) "__init__" = some (some (.ref f_ri)))
    (ro_fn : PySem.W.isFn K (.ref f_ri) = true)
    (ro_kp : PySem.W.keepIn K (.ref RO) = true)
    (ro_pg : PySem.W.plainGet K RO Str.empty = true)
    (ro_hd : PySem.W.hasDictIn K RO = true)
    (ro_po : PySem.W.plainOver K RO = true)
    (ro_sa : PySem.W.findIn K (.ref RO) "__setattr__" = some (some (.builtin "object.__setattr__")))
    (ro_n1 : PySem.W.findIn K (.ref RO) "_name" = some none)
    (ro_n2 : PySem.W.findIn K (.ref RO) "_condition" = some none)
    (ro_n3 : PySem.W.findIn K (.ref RO) "_ruling" = some none)
    (ro_n4 : PySem.W.findIn K (.ref RO) "_exceptions" = some none)
    (ro_n5 : PySem.W.findIn K (.ref RO) "_depth" = some none)
    (ro_n6 : PySem.W.findIn K (.ref RO) "_inside" = some none)
    (pa_rn : PySem.W.findIn K (.ref RO) "name" = some (some (.ref pp_rn)))
    (pg_rn : PySem.W.specialIn K (.ref pp_rn) "__get__" = some (some (.builtin "property.__get__")))
    (pt_rn : PySem.W.takesIn K (.ref pp_rn) = some true)
    (pr_rn : PySem.W.recIn K pp_rn "property" = some (.ref f_rn :: rs_rn))
    (pa_rc : PySem.W.findIn K (.ref RO) "condition" = some (some (.ref pp_rc)))
    (pg_rc : PySem.W.specialIn K (.ref pp_rc) "__get__" = some (some (.builtin "property.__get__")))
    (pt_rc : PySem.W.takesIn K (.ref pp_rc) = some true)
    (pr_rc : PySem.W.recIn K pp_rc "property" = some (.ref f_rc :: rs_rc))
    (pa_rr : PySem.W.findIn K (.ref RO) "ruling" = some (some (.ref pp_rr)))
    (pg_rr : PySem.W.specialIn K (.ref pp_rr) "__get__" = some (some (.builtin "property.__get__")))
    (pt_rr : PySem.W.takesIn K (.ref pp_rr) = some true)
    (pr_rr : PySem.W.recIn K pp_rr "property" = some (.ref f_rr :: rs_rr))
    (pa_re : PySem.W.findIn K (.ref RO) "exceptions" = some (some (.ref pp_re)))
    (pg_re : PySem.W.specialIn K (.ref pp_re) "__get__" = some (some (.builtin "property.__get__")))
    (pt_re : PySem.W.takesIn K (.ref pp_re) = some true)
    (pr_re : PySem.W.recIn K pp_re "property" = some (.ref f_re :: rs_re))
    (pa_rd : PySem.W.findIn K (.ref RO) "depth" = some (some (.ref pp_rd)))
    (pg_rd : PySem.W.specialIn K (.ref pp_rd) "__get__" = some (some (.builtin "property.__get__")))
    (pt_rd : PySem.W.takesIn K (.ref pp_rd) = some true)
    (pr_rd : PySem.W.recIn K pp_rd "property" = some (.ref f_rd :: rs_rd))
    (bo : PySem.W.nsIn K mainGlobals "Book" = some (some (.ref BO)))
    (bo_mk : PySem.W.makesIn K BO = true)
    (bo_in : PySem.W.findIn K (.ref BO) "__init__" = some (some (.ref f_bi)))
    (bo_fn : PySem.W.isFn K (.ref f_bi) = true)
    (bo_kp : PySem.W.keepIn K (.ref BO) = true)
    (bo_pg : PySem.W.plainGet K BO Str.empty = true)
    (bo_hd : PySem.W.hasDictIn K BO = true)
    (bo_po : PySem.W.plainOver K BO = true)
    (bo_sa : PySem.W.findIn K (.ref BO) "__setattr__" = some (some (.builtin "object.__setattr__")))
    (bo_n1 : PySem.W.findIn K (.ref BO) "_facts" = some none)
    (bo_n2 : PySem.W.findIn K (.ref BO) "_rules" = some none)
    (bo_n3 : PySem.W.findIn K (.ref BO) "_ruling" = some none)
    (bo_n4 : PySem.W.findIn K (.ref BO) "_numbered" = some none)
    (pa_bf : PySem.W.findIn K (.ref BO) "facts" = some (some (.ref pp_bf)))
    (pg_bf : PySem.W.specialIn K (.ref pp_bf) "__get__" = some (some (.builtin "property.__get__")))
    (pt_bf : PySem.W.takesIn K (.ref pp_bf) = some true)
    (pr_bf : PySem.W.recIn K pp_bf "property" = some (.ref f_bf :: rs_bf))
    (pa_bs : PySem.W.findIn K (.ref BO) "rules" = some (some (.ref pp_bs)))
    (pg_bs : PySem.W.specialIn K (.ref pp_bs) "__get__" = some (some (.builtin "property.__get__")))
    (pt_bs : PySem.W.takesIn K (.ref pp_bs) = some true)
    (pr_bs : PySem.W.recIn K pp_bs "property" = some (.ref f_bs :: rs_bs))
    (pa_br : PySem.W.findIn K (.ref BO) "ruling" = some (some (.ref pp_br)))
    (pg_br : PySem.W.specialIn K (.ref pp_br) "__get__" = some (some (.builtin "property.__get__")))
    (pt_br : PySem.W.takesIn K (.ref pp_br) = some true)
    (pr_br : PySem.W.recIn K pp_br "property" = some (.ref f_br :: rs_br))
    (wo : PySem.W.nsIn K mainGlobals "Words" = some (some (.ref WO)))
    (wo_mk : PySem.W.makesIn K WO = true)
    (wo_in : PySem.W.findIn K (.ref WO) "__init__" = some (some (.ref f_wi)))
    (wo_fn : PySem.W.isFn K (.ref f_wi) = true)
    (wo_kp : PySem.W.keepIn K (.ref WO) = true)
    (wo_pg : PySem.W.plainGet K WO Str.empty = true)
    (wo_hd : PySem.W.hasDictIn K WO = true)
    (wo_po : PySem.W.plainOver K WO = true)
    (wo_sa : PySem.W.findIn K (.ref WO) "__setattr__" = some (some (.builtin "object.__setattr__")))
    (wo_n1 : PySem.W.findIn K (.ref WO) "row" = some none)
    (wo_n2 : PySem.W.findIn K (.ref WO) "left" = some none)
    (wo_n3 : PySem.W.findIn K (.ref WO) "at" = some none)
    (at_wa : PySem.W.findIn K (.ref WO) "ahead" = some (some (.ref f_wa)))
    (fn_wa : PySem.W.isFn K (.ref f_wa) = true)
    (at_wc : PySem.W.findIn K (.ref WO) "check" = some (some (.ref f_wc)))
    (fn_wc : PySem.W.isFn K (.ref f_wc) = true)
    (at_wt : PySem.W.findIn K (.ref WO) "take" = some (some (.ref f_wt)))
    (fn_wt : PySem.W.isFn K (.ref f_wt) = true)
    (at_we : PySem.W.findIn K (.ref WO) "check_end" = some (some (.ref f_we)))
    (fn_we : PySem.W.isFn K (.ref f_we) = true)
    (bo_ca : PySem.W.findIn K (.ref BO) "__class__" = some (some (.builtin "object.__class__")))
    (bo_ob : PySem.W.mroIn K BO (.type "object") = some true)
    (bo_ss : PySem.W.subIn K (.ref BO) (.ref BO) = some true)
    (bo_cl : PySem.W.isClsIn K BO = true)
    (bo_ty : PySem.W.typeIn K (.ref BO) = some (.type "type"))
    (m_RESERVED : PySem.W.nsIn K mainGlobals "RESERVED" = some (some (.ref rsA)))
    (rs_l : K.lookup rsA = some ⟨.type "tuple", odR, .seq #[.str "facts" uR1, .str "is" uR2, .str "if" uR3, .str "not" uR4, .str "else" uR5] nR, slR⟩)
    (l_mi : K.lookup f_mi = some ⟨oc_mi, od_mi, .func (PySem.W.fnOf "__init__" "Condition.__init__" (defArgs s_Condition___init__) (defBody s_Condition___init__) (defScope s_Condition___init__) .none kV_mi dc_mi pm_mi an_mi cd_mi ct_mi), sl_mi⟩)
    (c_mi : PySem.W.codeIn K cd_mi "Condition.__init__" = true)
    (k_mi : PySem.W.keepIn K (.ref f_mi) = true)
    (l_mh : K.lookup f_mh = some ⟨oc_mh, od_mh, .func (PySem.W.fnOf "holding" "Condition.holding" (defArgs s_Condition_holding) (defBody s_Condition_holding) (defScope s_Condition_holding) .none kV_mh dc_mh pm_mh an_mh cd_mh ct_mh), sl_mh⟩)
    (c_mh : PySem.W.codeIn K cd_mh "Condition.holding" = true)
    (k_mh : PySem.W.keepIn K (.ref f_mh) = true)
    (l_mf : K.lookup f_mf = some ⟨oc_mf, od_mf, .func (PySem.W.fnOf "failing" "Condition.failing" (defArgs s_Condition_failing) (defBody s_Condition_failing) (defScope s_Condition_failing) .none kV_mf dc_mf pm_mf an_mf cd_mf ct_mf), sl_mf⟩)
    (c_mf : PySem.W.codeIn K cd_mf "Condition.failing" = true)
    (k_mf : PySem.W.keepIn K (.ref f_mf) = true)
    (l_mn : K.lookup f_mn = some ⟨oc_mn, od_mn, .func (PySem.W.fnOf "names" "Condition.names" (defArgs s_Condition_names) (defBody s_Condition_names) (defScope s_Condition_names) .none kV_mn dc_mn pm_mn an_mn cd_mn ct_mn), sl_mn⟩)
    (c_mn : PySem.W.codeIn K cd_mn "Condition.names" = true)
    (k_mn : PySem.W.keepIn K (.ref f_mn) = true)
    (l_ri : K.lookup f_ri = some ⟨oc_ri, od_ri, .func (PySem.W.fnOf "__init__" "Rule.__init__" (defArgs s_Rule___init__) (defBody s_Rule___init__) (defScope s_Rule___init__) .none kV_ri dc_ri pm_ri an_ri cd_ri ct_ri), sl_ri⟩)
    (c_ri : PySem.W.codeIn K cd_ri "Rule.__init__" = true)
    (k_ri : PySem.W.keepIn K (.ref f_ri) = true)
    (l_rn : K.lookup f_rn = some ⟨oc_rn, od_rn, .func (PySem.W.fnOf "name" "Rule.name" (defArgs s_Rule_name) (defBody s_Rule_name) (defScope s_Rule_name) .none kV_rn dc_rn pm_rn an_rn cd_rn ct_rn), sl_rn⟩)
    (c_rn : PySem.W.codeIn K cd_rn "Rule.name" = true)
    (k_rn : PySem.W.keepIn K (.ref f_rn) = true)
    (l_rc : K.lookup f_rc = some ⟨oc_rc, od_rc, .func (PySem.W.fnOf "condition" "Rule.condition" (defArgs s_Rule_condition) (defBody s_Rule_condition) (defScope s_Rule_condition) .none kV_rc dc_rc pm_rc an_rc cd_rc ct_rc), sl_rc⟩)
    (c_rc : PySem.W.codeIn K cd_rc "Rule.condition" = true)
    (k_rc : PySem.W.keepIn K (.ref f_rc) = true)
    (l_rr : K.lookup f_rr = some ⟨oc_rr, od_rr, .func (PySem.W.fnOf "ruling" "Rule.ruling" (defArgs s_Rule_ruling) (defBody s_Rule_ruling) (defScope s_Rule_ruling) .none kV_rr dc_rr pm_rr an_rr cd_rr ct_rr), sl_rr⟩)
    (c_rr : PySem.W.codeIn K cd_rr "Rule.ruling" = true)
    (k_rr : PySem.W.keepIn K (.ref f_rr) = true)
    (l_re : K.lookup f_re = some ⟨oc_re, od_re, .func (PySem.W.fnOf "exceptions" "Rule.exceptions" (defArgs s_Rule_exceptions) (defBody s_Rule_exceptions) (defScope s_Rule_exceptions) .none kV_re dc_re pm_re an_re cd_re ct_re), sl_re⟩)
    (c_re : PySem.W.codeIn K cd_re "Rule.exceptions" = true)
    (k_re : PySem.W.keepIn K (.ref f_re) = true)
    (l_rd : K.lookup f_rd = some ⟨oc_rd, od_rd, .func (PySem.W.fnOf "depth" "Rule.depth" (defArgs s_Rule_depth) (defBody s_Rule_depth) (defScope s_Rule_depth) .none kV_rd dc_rd pm_rd an_rd cd_rd ct_rd), sl_rd⟩)
    (c_rd : PySem.W.codeIn K cd_rd "Rule.depth" = true)
    (k_rd : PySem.W.keepIn K (.ref f_rd) = true)
    (l_bi : K.lookup f_bi = some ⟨oc_bi, od_bi, .func (PySem.W.fnOf "__init__" "Book.__init__" (defArgs s_Book___init__) (defBody s_Book___init__) (defScope s_Book___init__) .none kV_bi dc_bi pm_bi an_bi cd_bi ct_bi), sl_bi⟩)
    (c_bi : PySem.W.codeIn K cd_bi "Book.__init__" = true)
    (k_bi : PySem.W.keepIn K (.ref f_bi) = true)
    (l_bf : K.lookup f_bf = some ⟨oc_bf, od_bf, .func (PySem.W.fnOf "facts" "Book.facts" (defArgs s_Book_facts) (defBody s_Book_facts) (defScope s_Book_facts) .none kV_bf dc_bf pm_bf an_bf cd_bf ct_bf), sl_bf⟩)
    (c_bf : PySem.W.codeIn K cd_bf "Book.facts" = true)
    (k_bf : PySem.W.keepIn K (.ref f_bf) = true)
    (l_bs : K.lookup f_bs = some ⟨oc_bs, od_bs, .func (PySem.W.fnOf "rules" "Book.rules" (defArgs s_Book_rules) (defBody s_Book_rules) (defScope s_Book_rules) .none kV_bs dc_bs pm_bs an_bs cd_bs ct_bs), sl_bs⟩)
    (c_bs : PySem.W.codeIn K cd_bs "Book.rules" = true)
    (k_bs : PySem.W.keepIn K (.ref f_bs) = true)
    (l_br : K.lookup f_br = some ⟨oc_br, od_br, .func (PySem.W.fnOf "ruling" "Book.ruling" (defArgs s_Book_ruling) (defBody s_Book_ruling) (defScope s_Book_ruling) .none kV_br dc_br pm_br an_br cd_br ct_br), sl_br⟩)
    (c_br : PySem.W.codeIn K cd_br "Book.ruling" = true)
    (k_br : PySem.W.keepIn K (.ref f_br) = true)
    (l_wi : K.lookup f_wi = some ⟨oc_wi, od_wi, .func (PySem.W.fnOf "__init__" "Words.__init__" (defArgs s_Words___init__) (defBody s_Words___init__) (defScope s_Words___init__) .none kV_wi dc_wi pm_wi an_wi cd_wi ct_wi), sl_wi⟩)
    (c_wi : PySem.W.codeIn K cd_wi "Words.__init__" = true)
    (k_wi : PySem.W.keepIn K (.ref f_wi) = true)
    (l_wa : K.lookup f_wa = some ⟨oc_wa, od_wa, .func (PySem.W.fnOf "ahead" "Words.ahead" (defArgs s_Words_ahead) (defBody s_Words_ahead) (defScope s_Words_ahead) .none kV_wa dc_wa pm_wa an_wa cd_wa ct_wa), sl_wa⟩)
    (c_wa : PySem.W.codeIn K cd_wa "Words.ahead" = true)
    (k_wa : PySem.W.keepIn K (.ref f_wa) = true)
    (l_wc : K.lookup f_wc = some ⟨oc_wc, od_wc, .func (PySem.W.fnOf "check" "Words.check" (defArgs s_Words_check) (defBody s_Words_check) (defScope s_Words_check) .none kV_wc dc_wc pm_wc an_wc cd_wc ct_wc), sl_wc⟩)
    (c_wc : PySem.W.codeIn K cd_wc "Words.check" = true)
    (k_wc : PySem.W.keepIn K (.ref f_wc) = true)
    (l_wt : K.lookup f_wt = some ⟨oc_wt, od_wt, .func (PySem.W.fnOf "take" "Words.take" (defArgs s_Words_take) (defBody s_Words_take) (defScope s_Words_take) .none kV_wt dc_wt pm_wt an_wt cd_wt ct_wt), sl_wt⟩)
    (c_wt : PySem.W.codeIn K cd_wt "Words.take" = true)
    (k_wt : PySem.W.keepIn K (.ref f_wt) = true)
    (l_we : K.lookup f_we = some ⟨oc_we, od_we, .func (PySem.W.fnOf "check_end" "Words.check_end" (defArgs s_Words_check_end) (defBody s_Words_check_end) (defScope s_Words_check_end) .none kV_we dc_we pm_we an_we cd_we ct_we), sl_we⟩)
    (c_we : PySem.W.codeIn K cd_we "Words.check_end" = true)
    (k_we : PySem.W.keepIn K (.ref f_we) = true)
    (b_isinstance : PySem.W.nsIn K mainGlobals "isinstance" = some none)
    (b_len : PySem.W.nsIn K mainGlobals "len" = some none)
    (b_all : PySem.W.nsIn K mainGlobals "all" = some none)
    (b_any : PySem.W.nsIn K mainGlobals "any" = some none)
    (b_sum : PySem.W.nsIn K mainGlobals "sum" = some none)
    (b_max : PySem.W.nsIn K mainGlobals "max" = some none)
    (b_min : PySem.W.nsIn K mainGlobals "min" = some none)
    (b_int : PySem.W.nsIn K mainGlobals "int" = some none)
    (b_str : PySem.W.nsIn K mainGlobals "str" = some none)
    (b_bool : PySem.W.nsIn K mainGlobals "bool" = some none)
    (b_list : PySem.W.nsIn K mainGlobals "list" = some none)
    (b_tuple : PySem.W.nsIn K mainGlobals "tuple" = some none)
    (b_dict : PySem.W.nsIn K mainGlobals "dict" = some none)
    (b_range : PySem.W.nsIn K mainGlobals "range" = some none)
    (b_enumerate : PySem.W.nsIn K mainGlobals "enumerate" = some none)
    (b_sorted : PySem.W.nsIn K mainGlobals "sorted" = some none)
    (b_reversed : PySem.W.nsIn K mainGlobals "reversed" = some none)
    (b_zip : PySem.W.nsIn K mainGlobals "zip" = some none)
    (b_set : PySem.W.nsIn K mainGlobals "set" = some none)
    (b_ValueError : PySem.W.nsIn K mainGlobals "ValueError" = some none)
    (m_LETTERS : PySem.W.nsIn K mainGlobals "LETTERS" = some (some (.str letters t_LETTERS)))
    (m_LONGEST_NAME : PySem.W.nsIn K mainGlobals "LONGEST_NAME" = some (some (.int 8 t_LONGEST_NAME)))
    (m_MOST_FACTS : PySem.W.nsIn K mainGlobals "MOST_FACTS" = some (some (.int 60 t_MOST_FACTS)))
    (m_MOST_NAMES : PySem.W.nsIn K mainGlobals "MOST_NAMES" = some (some (.int 8 t_MOST_NAMES)))
    (m_MOST_AROUND : PySem.W.nsIn K mainGlobals "MOST_AROUND" = some (some (.int 5 t_MOST_AROUND)))
    (m_MOST_RULES : PySem.W.nsIn K mainGlobals "MOST_RULES" = some (some (.int 60 t_MOST_RULES)))
    (m_MOST_OUTERMOST : PySem.W.nsIn K mainGlobals "MOST_OUTERMOST" = some (some (.int 40 t_MOST_OUTERMOST)))
    (m_SIGN : PySem.W.nsIn K mainGlobals "SIGN" = some (some (.str ">" t_SIGN)))
    (m_NUMBER_OF_FACTS : PySem.W.nsIn K mainGlobals "NUMBER_OF_FACTS" = some (some (.int (-1) t_NUMBER_OF_FACTS)))
    (m_NUMBER_OF_BOOK : PySem.W.nsIn K mainGlobals "NUMBER_OF_BOOK" = some (some (.int 60 t_NUMBER_OF_BOOK)))
    (m_CourtError : PySem.W.nsIn K mainGlobals "CourtError" = some (some (.ref CE)))
    (m_InvalidFacts : PySem.W.nsIn K mainGlobals "InvalidFacts" = some (some (.ref E0)))
    (m_InvalidCondition : PySem.W.nsIn K mainGlobals "InvalidCondition" = some (some (.ref E1)))
    (m_InvalidRule : PySem.W.nsIn K mainGlobals "InvalidRule" = some (some (.ref E2)))
    (m_InvalidBook : PySem.W.nsIn K mainGlobals "InvalidBook" = some (some (.ref E3)))
    (m_NotWritable : PySem.W.nsIn K mainGlobals "NotWritable" = some (some (.ref E4)))
    (CEbe : PySem.W.subIn K (.ref CE) (.type "BaseException") = some true)
    (CEcl : PySem.W.isClsIn K CE = true)
    (CEty : PySem.W.typeIn K (.ref CE) = some (.type "type"))
    (u_0 : PySem.W.isClsIn K E0 = true)
    (v_0 : PySem.W.typeIn K (.ref E0) = some (.type "type"))
    (u_1 : PySem.W.isClsIn K E1 = true)
    (v_1 : PySem.W.typeIn K (.ref E1) = some (.type "type"))
    (u_2 : PySem.W.isClsIn K E2 = true)
    (v_2 : PySem.W.typeIn K (.ref E2) = some (.type "type"))
    (u_3 : PySem.W.isClsIn K E3 = true)
    (v_3 : PySem.W.typeIn K (.ref E3) = some (.type "type"))
    (u_4 : PySem.W.isClsIn K E4 = true)
    (v_4 : PySem.W.typeIn K (.ref E4) = some (.type "type"))
    (sg : PySem.W.specialIn K (.builtin "object.__class__") "__get__" = some (some (.builtin "getset_descriptor.__get__")))
    (tk : PySem.W.takesIn K (.builtin "object.__class__") = some true)
    (x_E : K.lookup CE = some (excClassObj nmE qE CE NE bsE bmE true snE suE abE colE ddE x0E x1E x2E x3E x5E "ValueError.__new__"))
    (f_E : PySem.W.findIn K (.ref CE) "__init__" = some (some (.builtin "ValueError.__init__")))
    (noS : PySem.W.nsIn K mainGlobals "super" = some none)
    (opq : PySem.W.nsIn K cStatics "thirdparty.any" = some none)
    (i0_x : K.lookup E0 = some (excClassObj nmi0 qi0 E0 Ni0 bsi0 bmi0 true sni0 sui0 abi0 coli0 ddi0 x0i0 x1i0 x2i0 x3i0 x5i0 "ValueError.__new__"))
    (i0_rv : HandSPX.refsVE bmi0 = true)
    (i0_sa : PySem.W.findIn K (.ref E0) "__setattr__" = some (some (.builtin "object.__setattr__")))
    (i0_ty : PySem.W.typeIn K (.ref E0) = some (.type "type"))
    (i0_kC : PySem.W.keepIn K (.ref E0) = true)
    (i0_in : PySem.W.findIn K (.ref E0) "__init__" = some (some (.ref fIi0)))
    (i0_tI : PySem.W.typeIn K (.ref fIi0) = some (.type "function"))
    (i0_lI : K.lookup fIi0 = some ⟨ocii0, odii0, .func (supFd (nf_InvalidFacts celi0 codi0) kVii0 dcii0 pmii0 anii0 ctii0), slii0⟩)
    (i0_cI : PySem.W.codeIn K (.ref codi0) "InvalidFacts.__init__" = true)
    (i0_ce : K.lookup celi0 = some ⟨clci0, ccddi0, .cell (some (.ref E0)), csli0⟩)
    (i0_co : K.lookup codi0 = some ⟨ccli0, cddi0, .fields vsi0, ccsi0⟩)
    (i0_fi : vsi0[2]? = some (.str fili0 tfii0))
    (i0_fe : ((P.main.file : Str) == fili0) = true)
    (i0_sb : PySem.W.mroIn K E0 (.ref E0) = some true)
    (i0_bm : bmi0 = .ref CE :: bmE)
    (i0_vB : PySem.W.subIn K (.ref E0) (.type "ValueError") = some true)
    (i0_bE : PySem.W.subIn K (.ref E0) (.type "BaseException") = some true)
    (i0_f_index : PySem.W.findIn K (.ref E0) "index" = some none)
    (i1_x : K.lookup E1 = some (excClassObj nmi1 qi1 E1 Ni1 bsi1 bmi1 true sni1 sui1 abi1 coli1 ddi1 x0i1 x1i1 x2i1 x3i1 x5i1 "ValueError.__new__"))
    (i1_rv : HandSPX.refsVE bmi1 = true)
    (i1_sa : PySem.W.findIn K (.ref E1) "__setattr__" = some (some (.builtin "object.__setattr__")))
    (i1_ty : PySem.W.typeIn K (.ref E1) = some (.type "type"))
    (i1_kC : PySem.W.keepIn K (.ref E1) = true)
    (i1_in : PySem.W.findIn K (.ref E1) "__init__" = some (some (.ref fIi1)))
    (i1_tI : PySem.W.typeIn K (.ref fIi1) = some (.type "function"))
    (i1_lI : K.lookup fIi1 = some ⟨ocii1, odii1, .func (supFd (nf_InvalidCondition celi1 codi1) kVii1 dcii1 pmii1 anii1 ctii1), slii1⟩)
    (i1_cI : PySem.W.codeIn K (.ref codi1) "InvalidCondition.__init__" = true)
    (i1_ce : K.lookup celi1 = some ⟨clci1, ccddi1, .cell (some (.ref E1)), csli1⟩)
    (i1_co : K.lookup codi1 = some ⟨ccli1, cddi1, .fields vsi1, ccsi1⟩)
    (i1_fi : vsi1[2]? = some (.str fili1 tfii1))
    (i1_fe : ((P.main.file : Str) == fili1) = true)
    (i1_sb : PySem.W.mroIn K E1 (.ref E1) = some true)
    (i1_bm : bmi1 = .ref CE :: bmE)
    (i1_vB : PySem.W.subIn K (.ref E1) (.type "ValueError") = some true)
    (i1_bE : PySem.W.subIn K (.ref E1) (.type "BaseException") = some true)
    (i1_f_part : PySem.W.findIn K (.ref E1) "part" = some none)
    (i1_f_index : PySem.W.findIn K (.ref E1) "index" = some none)
    (i2_x : K.lookup E2 = some (excClassObj nmi2 qi2 E2 Ni2 bsi2 bmi2 true sni2 sui2 abi2 coli2 ddi2 x0i2 x1i2 x2i2 x3i2 x5i2 "ValueError.__new__"))
    (i2_rv : HandSPX.refsVE bmi2 = true)
    (i2_sa : PySem.W.findIn K (.ref E2) "__setattr__" = some (some (.builtin "object.__setattr__")))
    (i2_ty : PySem.W.typeIn K (.ref E2) = some (.type "type"))
    (i2_kC : PySem.W.keepIn K (.ref E2) = true)
    (i2_in : PySem.W.findIn K (.ref E2) "__init__" = some (some (.ref fIi2)))
    (i2_tI : PySem.W.typeIn K (.ref fIi2) = some (.type "function"))
    (i2_lI : K.lookup fIi2 = some ⟨ocii2, odii2, .func (supFd (nf_InvalidRule celi2 codi2) kVii2 dcii2 pmii2 anii2 ctii2), slii2⟩)
    (i2_cI : PySem.W.codeIn K (.ref codi2) "InvalidRule.__init__" = true)
    (i2_ce : K.lookup celi2 = some ⟨clci2, ccddi2, .cell (some (.ref E2)), csli2⟩)
    (i2_co : K.lookup codi2 = some ⟨ccli2, cddi2, .fields vsi2, ccsi2⟩)
    (i2_fi : vsi2[2]? = some (.str fili2 tfii2))
    (i2_fe : ((P.main.file : Str) == fili2) = true)
    (i2_sb : PySem.W.mroIn K E2 (.ref E2) = some true)
    (i2_bm : bmi2 = .ref CE :: bmE)
    (i2_vB : PySem.W.subIn K (.ref E2) (.type "ValueError") = some true)
    (i2_bE : PySem.W.subIn K (.ref E2) (.type "BaseException") = some true)
    (i2_f_part : PySem.W.findIn K (.ref E2) "part" = some none)
    (i3_x : K.lookup E3 = some (excClassObj nmi3 qi3 E3 Ni3 bsi3 bmi3 true sni3 sui3 abi3 coli3 ddi3 x0i3 x1i3 x2i3 x3i3 x5i3 "ValueError.__new__"))
    (i3_rv : HandSPX.refsVE bmi3 = true)
    (i3_sa : PySem.W.findIn K (.ref E3) "__setattr__" = some (some (.builtin "object.__setattr__")))
    (i3_ty : PySem.W.typeIn K (.ref E3) = some (.type "type"))
    (i3_kC : PySem.W.keepIn K (.ref E3) = true)
    (i3_in : PySem.W.findIn K (.ref E3) "__init__" = some (some (.ref fIi3)))
    (i3_tI : PySem.W.typeIn K (.ref fIi3) = some (.type "function"))
    (i3_lI : K.lookup fIi3 = some ⟨ocii3, odii3, .func (supFd (nf_InvalidBook celi3 codi3) kVii3 dcii3 pmii3 anii3 ctii3), slii3⟩)
    (i3_cI : PySem.W.codeIn K (.ref codi3) "InvalidBook.__init__" = true)
    (i3_ce : K.lookup celi3 = some ⟨clci3, ccddi3, .cell (some (.ref E3)), csli3⟩)
    (i3_co : K.lookup codi3 = some ⟨ccli3, cddi3, .fields vsi3, ccsi3⟩)
    (i3_fi : vsi3[2]? = some (.str fili3 tfii3))
    (i3_fe : ((P.main.file : Str) == fili3) = true)
    (i3_sb : PySem.W.mroIn K E3 (.ref E3) = some true)
    (i3_bm : bmi3 = .ref CE :: bmE)
    (i3_vB : PySem.W.subIn K (.ref E3) (.type "ValueError") = some true)
    (i3_bE : PySem.W.subIn K (.ref E3) (.type "BaseException") = some true)
    (i3_f_word : PySem.W.findIn K (.ref E3) "word" = some none)
    (i3_f_index : PySem.W.findIn K (.ref E3) "index" = some none)
    (i4_x : K.lookup E4 = some (excClassObj nmi4 qi4 E4 Ni4 bsi4 bmi4 true sni4 sui4 abi4 coli4 ddi4 x0i4 x1i4 x2i4 x3i4 x5i4 "ValueError.__new__"))
    (i4_rv : HandSPX.refsVE bmi4 = true)
    (i4_sa : PySem.W.findIn K (.ref E4) "__setattr__" = some (some (.builtin "object.__setattr__")))
    (i4_ty : PySem.W.typeIn K (.ref E4) = some (.type "type"))
    (i4_kC : PySem.W.keepIn K (.ref E4) = true)
    (i4_in : PySem.W.findIn K (.ref E4) "__init__" = some (some (.ref fIi4)))
    (i4_tI : PySem.W.typeIn K (.ref fIi4) = some (.type "function"))
    (i4_lI : K.lookup fIi4 = some ⟨ocii4, odii4, .func (supFd (nf_NotWritable celi4 codi4) kVii4 dcii4 pmii4 anii4 ctii4), slii4⟩)
    (i4_cI : PySem.W.codeIn K (.ref codi4) "NotWritable.__init__" = true)
    (i4_ce : K.lookup celi4 = some ⟨clci4, ccddi4, .cell (some (.ref E4)), csli4⟩)
    (i4_co : K.lookup codi4 = some ⟨ccli4, cddi4, .fields vsi4, ccsi4⟩)
    (i4_fi : vsi4[2]? = some (.str fili4 tfii4))
    (i4_fe : ((P.main.file : Str) == fili4) = true)
    (i4_sb : PySem.W.mroIn K E4 (.ref E4) = some true)
    (i4_bm : bmi4 = .ref CE :: bmE)
    (i4_vB : PySem.W.subIn K (.ref E4) (.type "ValueError") = some true)
    (i4_bE : PySem.W.subIn K (.ref E4) (.type "BaseException") = some true)
    (i4_f_index : PySem.W.findIn K (.ref E4) "index" = some none)
    (top0 : (P.main.scope.names.lookup ("super" : Str)).isSome = false) : LamX.LawAtS l w K CX0 32 63 "_law_script" mg fa h := by
  have e := hfa.symm.trans (PySem.W.mg_of X G a_law)
  cases e
  subst eP
  have B : Blt mg := ⟨PySem.W.mg_none_of X G b_isinstance, PySem.W.mg_none_of X G b_len, PySem.W.mg_none_of X G b_all, PySem.W.mg_none_of X G b_any, PySem.W.mg_none_of X G b_sum, PySem.W.mg_none_of X G b_max, PySem.W.mg_none_of X G b_min, PySem.W.mg_none_of X G b_int, PySem.W.mg_none_of X G b_str, PySem.W.mg_none_of X G b_bool, PySem.W.mg_none_of X G b_list, PySem.W.mg_none_of X G b_tuple, PySem.W.mg_none_of X G b_dict, PySem.W.mg_none_of X G b_range, PySem.W.mg_none_of X G b_enumerate, PySem.W.mg_none_of X G b_sorted, PySem.W.mg_none_of X G b_reversed, PySem.W.mg_none_of X G b_zip, PySem.W.mg_none_of X G b_set, PySem.W.mg_none_of X G b_ValueError⟩
  have F_is_name := fun_mk (st := s_is_name) l_is_name c_is_name k_is_name
  have b_is_name := F_is_name.binds (ps := ["value"]) fun _ _ _ _ _ _ us hl => match us, hl with | [_], _ => rfl
  have F_rises := fun_mk (st := s_rises) l_rises c_rises k_rises
  have b_rises := F_rises.binds (ps := ["names", "index"]) fun _ _ _ _ _ _ us hl => match us, hl with | [_, _], _ => rfl
  have F_check_facts := fun_mk (st := s_check_facts) l_check_facts c_check_facts k_check_facts
  have b_check_facts := F_check_facts.binds (ps := ["facts"]) fun _ _ _ _ _ _ us hl => match us, hl with | [_], _ => rfl
  have F_nested := fun_mk (st := s_nested) l_nested c_nested k_nested
  have b_nested := F_nested.binds (ps := ["rules", "around"]) fun _ _ _ _ _ _ us hl => match us, hl with | [_, _], _ => rfl
  have F_check_rules := fun_mk (st := s_check_rules) l_check_rules c_check_rules k_check_rules
  have b_check_rules := F_check_rules.binds (ps := ["facts", "rules"]) fun _ _ _ _ _ _ us hl => match us, hl with | [_, _], _ => rfl
  have F_check_part := fun_mk (st := s_check_part) l_check_part c_check_part k_check_part
  have b_check_part := F_check_part.binds (ps := ["part", "names", "before"]) fun _ _ _ _ _ _ us hl => match us, hl with | [_, _, _], _ => rfl
  have F_merged := fun_mk (st := s_merged) l_merged c_merged k_merged
  have b_merged := F_merged.binds (ps := ["names", "others"]) fun _ _ _ _ _ _ us hl => match us, hl with | [_, _], _ => rfl
  have F_words_of := fun_mk (st := s_words_of) l_words_of c_words_of k_words_of
  have b_words_of := F_words_of.binds (ps := ["rule", "around"]) fun _ _ _ _ _ _ us hl => match us, hl with | [_, _], _ => rfl
  have F_check_writable := fun_mk (st := s_check_writable) l_check_writable c_check_writable k_check_writable
  have b_check_writable := F_check_writable.binds (ps := ["book", "rules"]) fun _ _ _ _ _ _ us hl => match us, hl with | [_, _], _ => rfl
  have F_format_book := fun_mk (st := s_format_book) l_format_book c_format_book k_format_book
  have b_format_book := F_format_book.binds (ps := ["book"]) fun _ _ _ _ _ _ us hl => match us, hl with | [_], _ => rfl
  have F_is_free_name := fun_mk (st := s_is_free_name) l_is_free_name c_is_free_name k_is_free_name
  have b_is_free_name := F_is_free_name.binds (ps := ["word"]) fun _ _ _ _ _ _ us hl => match us, hl with | [_], _ => rfl
  have F_read_facts := fun_mk (st := s_read_facts) l_read_facts c_read_facts k_read_facts
  have b_read_facts := F_read_facts.binds (ps := ["words"]) fun _ _ _ _ _ _ us hl => match us, hl with | [_], _ => rfl
  have F_read_ending := fun_mk (st := s_read_ending) l_read_ending c_read_ending k_read_ending
  have b_read_ending := F_read_ending.binds (ps := ["words"]) fun _ _ _ _ _ _ us hl => match us, hl with | [_], _ => rfl
  have F_read_part := fun_mk (st := s_read_part) l_read_part c_read_part k_read_part
  have b_read_part := F_read_part.binds (ps := ["words", "word", "facts", "taken"]) fun _ _ _ _ _ _ us hl => match us, hl with | [_, _, _, _], _ => rfl
  have F_read_signs := fun_mk (st := s_read_signs) l_read_signs c_read_signs k_read_signs
  have b_read_signs := F_read_signs.binds (ps := ["words", "before"]) fun _ _ _ _ _ _ us hl => match us, hl with | [_, _], _ => rfl
  have F_read_rule := fun_mk (st := s_read_rule) l_read_rule c_read_rule k_read_rule
  have b_read_rule := F_read_rule.binds (ps := ["words", "facts", "before"]) fun _ _ _ _ _ _ us hl => match us, hl with | [_, _, _], _ => rfl
  have F_rules_told := fun_mk (st := s_rules_told) l_rules_told c_rules_told k_rules_told
  have b_rules_told := F_rules_told.binds (ps := ["told"]) fun _ _ _ _ _ _ us hl => match us, hl with | [_], _ => rfl
  have F_parse_book := fun_mk (st := s_parse_book) l_parse_book c_parse_book k_parse_book
  have b_parse_book := F_parse_book.binds (ps := ["text"]) fun _ _ _ _ _ _ us hl => match us, hl with | [_], _ => rfl
  have F__law_mix := fun_mk (st := s__law_mix) l__law_mix c__law_mix k__law_mix
  have b__law_mix := F__law_mix.binds (ps := ["_law_script", "_law_seed"]) fun _ _ _ _ _ _ us hl => match us, hl with | [_, _], _ => rfl
  have F__law_next := fun_mk (st := s__law_next) l__law_next c__law_next k__law_next
  have b__law_next := F__law_next.binds (ps := ["_law_h", "_law_limit"]) fun _ _ _ _ _ _ us hl => match us, hl with | [_, _], _ => rfl
  have F__law_alike := fun_mk (st := s__law_alike) l__law_alike c__law_alike k__law_alike
  have b__law_alike := F__law_alike.binds (ps := ["_law_found", "_law_due"]) fun _ _ _ _ _ _ us hl => match us, hl with | [_, _], _ => rfl
  have F__law_facts := fun_mk (st := s__law_facts) l__law_facts c__law_facts k__law_facts
  have b__law_facts := F__law_facts.binds (ps := ["_law_h", "_law_most"]) fun _ _ _ _ _ _ us hl => match us, hl with | [_, _], _ => rfl
  have F__law_sides := fun_mk (st := s__law_sides) l__law_sides c__law_sides k__law_sides
  have b__law_sides := F__law_sides.binds (ps := ["_law_h", "_law_facts_here", "_law_most"]) fun _ _ _ _ _ _ us hl => match us, hl with | [_, _, _], _ => rfl
  have F__law_rule := fun_mk (st := s__law_rule) l__law_rule c__law_rule k__law_rule
  have b__law_rule := F__law_rule.binds (ps := ["_law_h", "_law_facts_here", "_law_names", "_law_deep"]) fun _ _ _ _ _ _ us hl => match us, hl with | [_, _, _, _], _ => rfl
  have F__law_drawn := fun_mk (st := s__law_drawn) l__law_drawn c__law_drawn k__law_drawn
  have b__law_drawn := F__law_drawn.binds (ps := ["_law_h", "_law_facts_here", "_law_most"]) fun _ _ _ _ _ _ us hl => match us, hl with | [_, _, _], _ => rfl
  have F__law_made := fun_mk (st := s__law_made) l__law_made c__law_made k__law_made
  have b__law_made := F__law_made.binds (ps := ["_law_rules"]) fun _ _ _ _ _ _ us hl => match us, hl with | [_], _ => rfl
  have F__law_book := fun_mk (st := s__law_book) l__law_book c__law_book k__law_book
  have b__law_book := F__law_book.binds (ps := ["_law_drawn_here"]) fun _ _ _ _ _ _ us hl => match us, hl with | [_], _ => rfl
  have F__law_told := fun_mk (st := s__law_told) l__law_told c__law_told k__law_told
  have b__law_told := F__law_told.binds (ps := ["_law_rules"]) fun _ _ _ _ _ _ us hl => match us, hl with | [_], _ => rfl
  have F__law_seen := fun_mk (st := s__law_seen) l__law_seen c__law_seen k__law_seen
  have b__law_seen := F__law_seen.binds (ps := ["_law_book_here"]) fun _ _ _ _ _ _ us hl => match us, hl with | [_], _ => rfl
  have F__law_words := fun_mk (st := s__law_words) l__law_words c__law_words k__law_words
  have b__law_words := F__law_words.binds (ps := ["_law_rules", "_law_deep"]) fun _ _ _ _ _ _ us hl => match us, hl with | [_, _], _ => rfl
  have F__law_rows_of := fun_mk (st := s__law_rows_of) l__law_rows_of c__law_rows_of k__law_rows_of
  have b__law_rows_of := F__law_rows_of.binds (ps := ["_law_drawn_here"]) fun _ _ _ _ _ _ us hl => match us, hl with | [_], _ => rfl
  have F__law_text := fun_mk (st := s__law_text) l__law_text c__law_text k__law_text
  have b__law_text := F__law_text.binds (ps := ["_law_rows"]) fun _ _ _ _ _ _ us hl => match us, hl with | [_], _ => rfl
  have ox_InvalidFacts : OexC K E0 := ⟨⟨_, _, _, _, _, _, _, _, _, _, _, _, _, _, _, i0_x, i0_rv⟩, i0_sa, i0_bE, i0_ty, i0_kC⟩
  have sp_InvalidFacts : SupC l.prog K mg E0 celi0 codi0 := ⟨⟨_, _, _, i0_ce⟩, ⟨_, _, _, _, _, _, i0_co, i0_fi, i0_fe⟩, i0_sb, PySem.W.mg_none_of X G noS, opq, sup_by i0_x x_E i0_bm f_E, i0_vB, top0⟩
  have ox_InvalidCondition : OexC K E1 := ⟨⟨_, _, _, _, _, _, _, _, _, _, _, _, _, _, _, i1_x, i1_rv⟩, i1_sa, i1_bE, i1_ty, i1_kC⟩
  have sp_InvalidCondition : SupC l.prog K mg E1 celi1 codi1 := ⟨⟨_, _, _, i1_ce⟩, ⟨_, _, _, _, _, _, i1_co, i1_fi, i1_fe⟩, i1_sb, PySem.W.mg_none_of X G noS, opq, sup_by i1_x x_E i1_bm f_E, i1_vB, top0⟩
  have ox_InvalidRule : OexC K E2 := ⟨⟨_, _, _, _, _, _, _, _, _, _, _, _, _, _, _, i2_x, i2_rv⟩, i2_sa, i2_bE, i2_ty, i2_kC⟩
  have sp_InvalidRule : SupC l.prog K mg E2 celi2 codi2 := ⟨⟨_, _, _, i2_ce⟩, ⟨_, _, _, _, _, _, i2_co, i2_fi, i2_fe⟩, i2_sb, PySem.W.mg_none_of X G noS, opq, sup_by i2_x x_E i2_bm f_E, i2_vB, top0⟩
  have ox_InvalidBook : OexC K E3 := ⟨⟨_, _, _, _, _, _, _, _, _, _, _, _, _, _, _, i3_x, i3_rv⟩, i3_sa, i3_bE, i3_ty, i3_kC⟩
  have sp_InvalidBook : SupC l.prog K mg E3 celi3 codi3 := ⟨⟨_, _, _, i3_ce⟩, ⟨_, _, _, _, _, _, i3_co, i3_fi, i3_fe⟩, i3_sb, PySem.W.mg_none_of X G noS, opq, sup_by i3_x x_E i3_bm f_E, i3_vB, top0⟩
  have ox_NotWritable : OexC K E4 := ⟨⟨_, _, _, _, _, _, _, _, _, _, _, _, _, _, _, i4_x, i4_rv⟩, i4_sa, i4_bE, i4_ty, i4_kC⟩
  have sp_NotWritable : SupC l.prog K mg E4 celi4 codi4 := ⟨⟨_, _, _, i4_ce⟩, ⟨_, _, _, _, _, _, i4_co, i4_fi, i4_fe⟩, i4_sb, PySem.W.mg_none_of X G noS, opq, sup_by i4_x x_E i4_bm f_E, i4_vB, top0⟩
  have F_mi := fun_mk (st := s_Condition___init__) l_mi c_mi k_mi
  have b_mi := F_mi.binds (ps := ["self", "holding", "failing"]) fun _ _ _ _ _ _ us hl => match us, hl with | [_, _, _], _ => rfl
  have F_mh := fun_mk (st := s_Condition_holding) l_mh c_mh k_mh
  have b_mh := F_mh.binds (ps := ["self"]) fun _ _ _ _ _ _ us hl => match us, hl with | [_], _ => rfl
  have F_mf := fun_mk (st := s_Condition_failing) l_mf c_mf k_mf
  have b_mf := F_mf.binds (ps := ["self"]) fun _ _ _ _ _ _ us hl => match us, hl with | [_], _ => rfl
  have F_mn := fun_mk (st := s_Condition_names) l_mn c_mn k_mn
  have b_mn := F_mn.binds (ps := ["self"]) fun _ _ _ _ _ _ us hl => match us, hl with | [_], _ => rfl
  have F_ri := fun_mk (st := s_Rule___init__) l_ri c_ri k_ri
  have b_ri := F_ri.binds (ps := ["self", "name", "condition", "ruling", "exceptions"]) fun _ _ _ _ _ _ us hl => match us, hl with | [_, _, _, _, _], _ => rfl
  have F_rn := fun_mk (st := s_Rule_name) l_rn c_rn k_rn
  have b_rn := F_rn.binds (ps := ["self"]) fun _ _ _ _ _ _ us hl => match us, hl with | [_], _ => rfl
  have F_rc := fun_mk (st := s_Rule_condition) l_rc c_rc k_rc
  have b_rc := F_rc.binds (ps := ["self"]) fun _ _ _ _ _ _ us hl => match us, hl with | [_], _ => rfl
  have F_rr := fun_mk (st := s_Rule_ruling) l_rr c_rr k_rr
  have b_rr := F_rr.binds (ps := ["self"]) fun _ _ _ _ _ _ us hl => match us, hl with | [_], _ => rfl
  have F_re := fun_mk (st := s_Rule_exceptions) l_re c_re k_re
  have b_re := F_re.binds (ps := ["self"]) fun _ _ _ _ _ _ us hl => match us, hl with | [_], _ => rfl
  have F_rd := fun_mk (st := s_Rule_depth) l_rd c_rd k_rd
  have b_rd := F_rd.binds (ps := ["self"]) fun _ _ _ _ _ _ us hl => match us, hl with | [_], _ => rfl
  have F_bi := fun_mk (st := s_Book___init__) l_bi c_bi k_bi
  have b_bi := F_bi.binds (ps := ["self", "facts", "rules", "ruling"]) fun _ _ _ _ _ _ us hl => match us, hl with | [_, _, _, _], _ => rfl
  have F_bf := fun_mk (st := s_Book_facts) l_bf c_bf k_bf
  have b_bf := F_bf.binds (ps := ["self"]) fun _ _ _ _ _ _ us hl => match us, hl with | [_], _ => rfl
  have F_bs := fun_mk (st := s_Book_rules) l_bs c_bs k_bs
  have b_bs := F_bs.binds (ps := ["self"]) fun _ _ _ _ _ _ us hl => match us, hl with | [_], _ => rfl
  have F_br := fun_mk (st := s_Book_ruling) l_br c_br k_br
  have b_br := F_br.binds (ps := ["self"]) fun _ _ _ _ _ _ us hl => match us, hl with | [_], _ => rfl
  have F_wi := fun_mk (st := s_Words___init__) l_wi c_wi k_wi
  have b_wi := F_wi.binds (ps := ["self", "row", "text"]) fun _ _ _ _ _ _ us hl => match us, hl with | [_, _, _], _ => rfl
  have F_wa := fun_mk (st := s_Words_ahead) l_wa c_wa k_wa
  have b_wa := F_wa.binds (ps := ["self"]) fun _ _ _ _ _ _ us hl => match us, hl with | [_], _ => rfl
  have F_wc := fun_mk (st := s_Words_check) l_wc c_wc k_wc
  have b_wc := F_wc.binds (ps := ["self", "right"]) fun _ _ _ _ _ _ us hl => match us, hl with | [_, _], _ => rfl
  have F_wt := fun_mk (st := s_Words_take) l_wt c_wt k_wt
  have b_wt := F_wt.binds (ps := ["self", "right"]) fun _ _ _ _ _ _ us hl => match us, hl with | [_, _], _ => rfl
  have F_we := fun_mk (st := s_Words_check_end) l_we c_we k_we
  have b_we := F_we.binds (ps := ["self"]) fun _ _ _ _ _ _ us hl => match us, hl with | [_], _ => rfl
  have GN : GNames mg := ⟨⟨_, PySem.W.mg_of X G m_LETTERS⟩, ⟨_, PySem.W.mg_of X G m_LONGEST_NAME⟩⟩
  have CLc : Cls K CO := ⟨co_pg, co_hd, co_po, co_sa⟩
  have CLr : Cls K RO := ⟨ro_pg, ro_hd, ro_po, ro_sa⟩
  have CLb : Cls K BO := ⟨bo_pg, bo_hd, bo_po, bo_sa⟩
  have CLw : Cls K WO := ⟨wo_pg, wo_hd, wo_po, wo_sa⟩
  refine ⟨PySem.W.fnOf "law" "law" (defArgs s_law) (defBody s_law) (defScope s_law) .none kV_law dc_law pm_law an_law (.ref cc_law) ct_law, [], sp_law K, (fun _ h => nomatch h), (fun _ h => nomatch h), (fun _ h => nomatch h), ?_, ?_, ?_⟩
  · exact fun s u => .of_eq rfl
  · exact fun H a ns hl hb ht hS => ⟨a, ns, rfl, hS, hl, hb, fun _ => rfl⟩
  · intro base KB NB TBs
    have e_InvalidFacts : ErrMk l.prog w K mg base "InvalidFacts" E0 ["self", "index"] (sp_init1 E0 "index") := ⟨_, _, ox_InvalidFacts, i0_in, i0_tI, ok_init_InvalidFacts i0_lI i0_cI ox_InvalidFacts sp_InvalidFacts i0_f_index, fun s us _ hl => match us, hl with | [_, _], _ => .of_eq rfl, PySem.W.mg_of X G m_InvalidFacts⟩
    have e_InvalidCondition : ErrMk l.prog w K mg base "InvalidCondition" E1 ["self", "part", "index"] (sp_init2 E1 "part" "index") := ⟨_, _, ox_InvalidCondition, i1_in, i1_tI, ok_init_InvalidCondition i1_lI i1_cI ox_InvalidCondition sp_InvalidCondition i1_f_part i1_f_index, fun s us _ hl => match us, hl with | [_, _, _], _ => .of_eq rfl, PySem.W.mg_of X G m_InvalidCondition⟩
    have e_InvalidRule : ErrMk l.prog w K mg base "InvalidRule" E2 ["self", "part"] (sp_init1 E2 "part") := ⟨_, _, ox_InvalidRule, i2_in, i2_tI, ok_init_InvalidRule i2_lI i2_cI ox_InvalidRule sp_InvalidRule i2_f_part, fun s us _ hl => match us, hl with | [_, _], _ => .of_eq rfl, PySem.W.mg_of X G m_InvalidRule⟩
    have e_InvalidBook : ErrMk l.prog w K mg base "InvalidBook" E3 ["self", "word", "index"] (sp_init2 E3 "word" "index") := ⟨_, _, ox_InvalidBook, i3_in, i3_tI, ok_init_InvalidBook i3_lI i3_cI ox_InvalidBook sp_InvalidBook i3_f_word i3_f_index, fun s us _ hl => match us, hl with | [_, _, _], _ => .of_eq rfl, PySem.W.mg_of X G m_InvalidBook⟩
    have e_NotWritable : ErrMk l.prog w K mg base "NotWritable" E4 ["self", "index"] (sp_init1 E4 "index") := ⟨_, _, ox_NotWritable, i4_in, i4_tI, ok_init_NotWritable i4_lI i4_cI ox_NotWritable sp_NotWritable i4_f_index, fun s us _ hl => match us, hl with | [_, _], _ => .of_eq rfl, PySem.W.mg_of X G m_NotWritable⟩
    have hRS : ∀ H : Hp, SqT K H rsA (reserved.map V.str) := fun H => .inr ⟨_, _, _, rs_l, rfl, rfl, (by show 5 ≤ sizeLine; decide), vals_of_strs (.cons _ _ (.cons _ _ (.cons _ _ (.cons _ _ (.cons _ _ .nil)))))⟩
    have c_is_name : Cal l.prog w K mg base CX0 1 "is_name" ["value"] (sp_is_name) := ⟨_, _, (ok_is_name F_is_name B GN), PySem.W.mg_of X G a_is_name, k_is_name, b_is_name⟩
    have c_rises : Cal l.prog w K mg base CX0 1 "rises" ["names", "index"] (sp_rises K) := ⟨_, _, (ok_rises F_rises ), PySem.W.mg_of X G a_rises, k_rises, b_rises⟩
    have c_check_facts : Cal l.prog w K mg base (L2.CX l.prog w) 3 "check_facts" ["facts"] (sp_check_facts K E0) := ⟨_, _, (ok_check_facts F_check_facts B ⟨_, PySem.W.mg_of X G m_MOST_FACTS⟩ e_InvalidFacts c_is_name c_rises), PySem.W.mg_of X G a_check_facts, k_check_facts, b_check_facts⟩
    have c_check_part : Cal l.prog w K mg base (L2.CX l.prog w) 3 "check_part" ["part", "names", "before"] (sp_check_part K E1) := ⟨_, _, (ok_check_part F_check_part B ⟨_, PySem.W.mg_of X G m_MOST_NAMES⟩ e_InvalidCondition c_is_name c_rises), PySem.W.mg_of X G a_check_part, k_check_part, b_check_part⟩
    have c_merged : Cal l.prog w K mg base CX0 1 "merged" ["names", "others"] (sp_merged K) := ⟨_, _, (ok_merged F_merged B), PySem.W.mg_of X G a_merged, k_merged, b_merged⟩
    have pc_mh : PropC l.prog w K mg base CO pp_mh f_mh _ "holding" "_holding" := ⟨⟨pa_mh, pg_mh, pt_mh, ⟨_, pr_mh⟩⟩, ok_holding F_mh CLc co_n1, b_mh⟩
    have pc_mf : PropC l.prog w K mg base CO pp_mf f_mf _ "failing" "_failing" := ⟨⟨pa_mf, pg_mf, pt_mf, ⟨_, pr_mf⟩⟩, ok_failing F_mf CLc co_n2, b_mf⟩
    have pc_mn : PropC l.prog w K mg base CO pp_mn f_mn _ "names" "_names" := ⟨⟨pa_mn, pg_mn, pt_mn, ⟨_, pr_mn⟩⟩, ok_cnames F_mn CLc co_n3, b_mn⟩
    have pc_rn : PropC l.prog w K mg base RO pp_rn f_rn _ "name" "_name" := ⟨⟨pa_rn, pg_rn, pt_rn, ⟨_, pr_rn⟩⟩, ok_Rule_name F_rn CLr ro_n1, b_rn⟩
    have pc_rc : PropC l.prog w K mg base RO pp_rc f_rc _ "condition" "_condition" := ⟨⟨pa_rc, pg_rc, pt_rc, ⟨_, pr_rc⟩⟩, ok_Rule_condition F_rc CLr ro_n2, b_rc⟩
    have pc_rr : PropC l.prog w K mg base RO pp_rr f_rr _ "ruling" "_ruling" := ⟨⟨pa_rr, pg_rr, pt_rr, ⟨_, pr_rr⟩⟩, ok_Rule_ruling F_rr CLr ro_n3, b_rr⟩
    have pc_re : PropC l.prog w K mg base RO pp_re f_re _ "exceptions" "_exceptions" := ⟨⟨pa_re, pg_re, pt_re, ⟨_, pr_re⟩⟩, ok_Rule_exceptions F_re CLr ro_n4, b_re⟩
    have pc_rd : PropC l.prog w K mg base RO pp_rd f_rd _ "depth" "_depth" := ⟨⟨pa_rd, pg_rd, pt_rd, ⟨_, pr_rd⟩⟩, ok_Rule_depth F_rd CLr ro_n5, b_rd⟩
    have pc_bf : PropC l.prog w K mg base BO pp_bf f_bf _ "facts" "_facts" := ⟨⟨pa_bf, pg_bf, pt_bf, ⟨_, pr_bf⟩⟩, ok_Book_facts F_bf CLb bo_n1, b_bf⟩
    have pc_bs : PropC l.prog w K mg base BO pp_bs f_bs _ "rules" "_rules" := ⟨⟨pa_bs, pg_bs, pt_bs, ⟨_, pr_bs⟩⟩, ok_Book_rules F_bs CLb bo_n2, b_bs⟩
    have pc_br : PropC l.prog w K mg base BO pp_br f_br _ "ruling" "_ruling" := ⟨⟨pa_br, pg_br, pt_br, ⟨_, pr_br⟩⟩, ok_Book_ruling F_br CLb bo_n3, b_br⟩
    have kK : CondG l.prog w K mg base CO := ⟨CLc, ⟨_, _, _, pc_mh⟩, ⟨_, _, _, pc_mf⟩, ⟨_, _, _, pc_mn⟩⟩
    have kR : RuleX l.prog w K mg base RO := ⟨CLr, ⟨_, _, _, pc_rn⟩, ⟨_, _, _, pc_rc⟩, ⟨_, _, _, pc_rr⟩, ⟨_, _, _, pc_re⟩, ⟨_, _, _, pc_rd⟩⟩
    have kB : BookX l.prog w K mg base BO := ⟨CLb, ⟨_, _, _, pc_bf⟩, ⟨_, _, _, pc_bs⟩, ⟨_, _, _, pc_br⟩⟩
    have c_nested : Cal l.prog w K mg base CX0 15 "nested" ["rules", "around"] (sp_nested K CO RO 12) := ⟨_, _, rec_all (S := sp_nested K CO RO) (k := 2) (fun d c => ok_nested F_nested kR c) (PySem.W.mg_of X G a_nested) k_nested b_nested 12, PySem.W.mg_of X G a_nested, k_nested, b_nested⟩
    have c_check_rules : Cal l.prog w K mg base (L2.CX l.prog w) 16 "check_rules" ["facts", "rules"] (sp_check_rules K CO RO E3) := ⟨_, _, (ok_check_rules F_check_rules B kR kK (PySem.W.mg_of X G m_MOST_AROUND) (PySem.W.mg_of X G m_MOST_RULES) (PySem.W.mg_of X G m_MOST_OUTERMOST) e_InvalidBook c_nested), PySem.W.mg_of X G a_check_rules, k_check_rules, b_check_rules⟩
    have kM : Mkr l.prog w K mg base 4 "Condition" CO ["self", "holding", "failing"] (sp_cond_init K CO E1) := ⟨_, _, ⟨co_mk, co_in, co_fn, co_kp⟩, ok_cond_init F_mi B CLc co_n1 co_n2 co_n3 c_check_part c_merged, PySem.W.mg_of X G co, b_mi⟩
    have kRM : Mkr l.prog w K mg base 16 "Rule" RO ["self", "name", "condition", "ruling", "exceptions"] (sp_rule_init K CO RO E2) := ⟨_, _, ⟨ro_mk, ro_in, ro_fn, ro_kp⟩, ok_rule_init F_ri B CLr ro_n1 ro_n2 ro_n3 ro_n4 ro_n5 ro_n6 kR e_InvalidRule c_is_name c_nested, PySem.W.mg_of X G ro, b_ri⟩
    have kBM : Mkr l.prog w K mg base 17 "Book" BO ["self", "facts", "rules", "ruling"] (sp_book_init K CO RO BO E0 E3) := ⟨_, _, ⟨bo_mk, bo_in, bo_fn, bo_kp⟩, ok_book_init F_bi B CLb bo_n1 bo_n2 bo_n3 bo_n4 e_InvalidBook c_is_name c_nested c_check_facts c_check_rules, PySem.W.mg_of X G bo, b_bi⟩
    have c__law_mix : Cal l.prog w K mg base CX0 1 "_law_mix" ["_law_script", "_law_seed"] (sp_mix K) := ⟨_, _, (ok_mix F__law_mix B), PySem.W.mg_of X G a__law_mix, k__law_mix, b__law_mix⟩
    have c__law_next : Cal l.prog w K mg base CX0 1 "_law_next" ["_law_h", "_law_limit"] (sp_next) := ⟨_, _, (ok_next F__law_next B), PySem.W.mg_of X G a__law_next, k__law_next, b__law_next⟩
    have c__law_facts : Cal l.prog w K mg base CX0 2 "_law_facts" ["_law_h", "_law_most"] (sp_facts) := ⟨_, _, (ok_facts F__law_facts B c__law_next), PySem.W.mg_of X G a__law_facts, k__law_facts, b__law_facts⟩
    have c__law_sides : Cal l.prog w K mg base CX0 2 "_law_sides" ["_law_h", "_law_facts_here", "_law_most"] (sp_sides K) := ⟨_, _, (ok_sides F__law_sides B c__law_next), PySem.W.mg_of X G a__law_sides, k__law_sides, b__law_sides⟩
    have c__law_rule : Cal l.prog w K mg base CX0 5 "_law_rule" ["_law_h", "_law_facts_here", "_law_names", "_law_deep"] (sp_rule2 K 2) := ⟨_, _, rec_all (S := sp_rule2 K) (k := 2) (fun d c => ok_rule2 F__law_rule B c__law_next c__law_sides c) (PySem.W.mg_of X G a__law_rule) k__law_rule b__law_rule 2, PySem.W.mg_of X G a__law_rule, k__law_rule, b__law_rule⟩
    have c__law_drawn : Cal l.prog w K mg base CX0 6 "_law_drawn" ["_law_h", "_law_facts_here", "_law_most"] (sp_drawn K) := ⟨_, _, (ok_drawn F__law_drawn B c__law_next c__law_rule), PySem.W.mg_of X G a__law_drawn, k__law_drawn, b__law_drawn⟩
    have c__law_made : Cal l.prog w K mg base CX0 30 "_law_made" ["_law_rules"] (sp_made K CO RO 12) := ⟨_, _, rec_all (S := sp_made K CO RO) (k := 17) (fun d c => ok_made F__law_made B kM kRM c) (PySem.W.mg_of X G a__law_made) k__law_made b__law_made 12, PySem.W.mg_of X G a__law_made, k__law_made, b__law_made⟩
    have c__law_book : Cal l.prog w K mg base CX0 31 "_law_book" ["_law_drawn_here"] (sp_book2 K CO RO BO) := ⟨_, _, (ok_book2 F__law_book B kBM c__law_made), PySem.W.mg_of X G a__law_book, k__law_book, b__law_book⟩
    have c__law_told : Cal l.prog w K mg base CX0 16 "_law_told" ["_law_rules"] (sp_told K CO RO 12) := ⟨_, _, rec_all (S := sp_told K CO RO) (k := 3) (fun d c => ok_told F__law_told B kR kK c) (PySem.W.mg_of X G a__law_told) k__law_told b__law_told 12, PySem.W.mg_of X G a__law_told, k__law_told, b__law_told⟩
    have c__law_seen : Cal l.prog w K mg base CX0 17 "_law_seen" ["_law_book_here"] (sp_seen K CO RO BO) := ⟨_, _, (ok_seen F__law_seen B kB c__law_told), PySem.W.mg_of X G a__law_seen, k__law_seen, b__law_seen⟩
    have c__law_words : Cal l.prog w K mg base CX0 14 "_law_words" ["_law_rules", "_law_deep"] (sp_words K 12) := ⟨_, _, rec_all (S := sp_words K) (k := 1) (fun d c => ok_words F__law_words B c) (PySem.W.mg_of X G a__law_words) k__law_words b__law_words 12, PySem.W.mg_of X G a__law_words, k__law_words, b__law_words⟩
    have c__law_rows_of : Cal l.prog w K mg base CX0 15 "_law_rows_of" ["_law_drawn_here"] (sp_rows_of K) := ⟨_, _, (ok_rows_of F__law_rows_of B c__law_words), PySem.W.mg_of X G a__law_rows_of, k__law_rows_of, b__law_rows_of⟩
    have c__law_text : Cal l.prog w K mg base CX0 1 "_law_text" ["_law_rows"] (sp_text K) := ⟨_, _, (ok_text F__law_text B), PySem.W.mg_of X G a__law_text, k__law_text, b__law_text⟩
    have c_words_of : Cal l.prog w K mg base CX0 3 "words_of" ["rule", "around"] (sp_words_of K CO RO) := ⟨_, _, (ok_words_of F_words_of B kR kK (PySem.W.mg_of X G m_SIGN)), PySem.W.mg_of X G a_words_of, k_words_of, b_words_of⟩
    have c_check_writable : Cal l.prog w K mg base (L2.CX l.prog w) 3 "check_writable" ["book", "rules"] (sp_check_writable K CO RO BO E4) := ⟨_, _, (ok_check_writable F_check_writable B kR kB (PySem.W.mg_of X G m_RESERVED) hRS (PySem.W.mg_of X G m_NUMBER_OF_FACTS) (PySem.W.mg_of X G m_NUMBER_OF_BOOK) e_NotWritable), PySem.W.mg_of X G a_check_writable, k_check_writable, b_check_writable⟩
    have c_format_book : Cal l.prog w K mg base (L2.CX l.prog w) 16 "format_book" ["book"] (sp_format_book K CO RO BO E4) := ⟨_, _, (ok_format_book F_format_book B kR kB c_nested c_check_writable c_words_of), PySem.W.mg_of X G a_format_book, k_format_book, b_format_book⟩
    have c_risesL : Cal l.prog w K mg base CX0 1 "rises" ["names", "index"] sp_risesL := ⟨_, _, ok_risesL F_rises, PySem.W.mg_of X G a_rises, k_rises, b_rises⟩
    have mw_ahead : MethR l.prog w K mg base 1 WO "ahead" ["self"] (sp_ahead WO) := ⟨_, _, ⟨at_wa, fn_wa, k_wa⟩, ok_ahead F_wa B CLw wo_n2 wo_n3, b_wa⟩
    have mw_check : MethR l.prog w K mg base 1 WO "check" ["self", "right"] (sp_wcheck WO) := ⟨_, _, ⟨at_wc, fn_wc, k_wc⟩, ok_wcheck F_wc B, b_wc⟩
    have mw_take : MethR l.prog w K mg base 2 WO "take" ["self", "right"] (sp_wtake WO) := ⟨_, _, ⟨at_wt, fn_wt, k_wt⟩, ok_wtake F_wt B CLw wo_n2 wo_n3 mw_check, b_wt⟩
    have mw_check_end : MethR l.prog w K mg base 2 WO "check_end" ["self"] (sp_wend WO) := ⟨_, _, ⟨at_we, fn_we, k_we⟩, ok_wend F_we B CLw mw_ahead mw_check, b_we⟩
    have kW : Mkr0 l.prog w K mg base 1 "Words" WO ["self", "row", "text"] (sp_winit WO) := ⟨_, _, ⟨wo_mk, wo_in, wo_fn, wo_kp⟩, ok_winit F_wi B CLw wo_n1 wo_n2 wo_n3, PySem.W.mg_of X G wo, b_wi⟩
    have c_is_free_name : Cal l.prog w K mg base CX0 2 "is_free_name" ["word"] (sp_free) := ⟨_, _, (ok_free F_is_free_name B (PySem.W.mg_of X G m_RESERVED) hRS c_is_name), PySem.W.mg_of X G a_is_free_name, k_is_free_name, b_is_free_name⟩
    have c_read_facts : Cal l.prog w K mg base CX0 3 "read_facts" ["words"] (sp_rfacts K WO) := ⟨_, _, (ok_rfacts F_read_facts B CLw (PySem.W.mg_of X G m_MOST_FACTS) mw_ahead mw_take c_is_free_name c_risesL), PySem.W.mg_of X G a_read_facts, k_read_facts, b_read_facts⟩
    have c_read_ending : Cal l.prog w K mg base CX0 3 "read_ending" ["words"] (sp_rend WO) := ⟨_, _, (ok_rend F_read_ending B CLw mw_ahead mw_take mw_check_end c_is_free_name), PySem.W.mg_of X G a_read_ending, k_read_ending, b_read_ending⟩
    have c_read_part : Cal l.prog w K mg base CX0 3 "read_part" ["words", "word", "facts", "taken"] (sp_rpart K WO) := ⟨_, _, (ok_rpart F_read_part B CLw (PySem.W.mg_of X G m_MOST_NAMES) mw_ahead mw_take c_risesL), PySem.W.mg_of X G a_read_part, k_read_part, b_read_part⟩
    have c_read_signs : Cal l.prog w K mg base CX0 3 "read_signs" ["words", "before"] (sp_rsigns K CO WO) := ⟨_, _, (ok_rsigns F_read_signs B CLw (PySem.W.mg_of X G m_MOST_AROUND) (PySem.W.mg_of X G m_SIGN) mw_ahead mw_take), PySem.W.mg_of X G a_read_signs, k_read_signs, b_read_signs⟩
    have c_read_rule : Cal l.prog w K mg base CX0 6 "read_rule" ["words", "facts", "before"] (sp_rrule K CO WO) := ⟨_, _, (ok_rrule F_read_rule B CLw (PySem.W.mg_of X G m_MOST_RULES) (PySem.W.mg_of X G m_MOST_OUTERMOST) kM mw_ahead mw_check mw_take mw_check_end c_is_free_name c_read_signs c_read_part), PySem.W.mg_of X G a_read_rule, k_read_rule, b_read_rule⟩
    have c_rules_told : Cal l.prog w K mg base CX0 18 "rules_told" ["told"] (sp_rtold K CO RO) := ⟨_, _, (ok_rtold F_rules_told B (PySem.W.mg_of X G m_MOST_AROUND) kRM), PySem.W.mg_of X G a_rules_told, k_rules_told, b_rules_told⟩
    have c_parse_book : Cal l.prog w K mg base CX0 19 "parse_book" ["text"] (sp_parse K CO RO BO) := ⟨_, _, (ok_parse F_parse_book B CLw kBM kW mw_ahead c_read_facts c_read_rule c_read_ending c_rules_told), PySem.W.mg_of X G a_parse_book, k_parse_book, b_parse_book⟩
    have c__law_alike : Cal l.prog w K mg base CX0 30 "_law_alike" ["_law_found", "_law_due"] (sp_alikeT K 29) := ⟨_, _, alikeT_all F__law_alike B (PySem.W.mg_of X G a__law_alike) k__law_alike b__law_alike 29, PySem.W.mg_of X G a__law_alike, k__law_alike, b__law_alike⟩
    have ICb : IsiC K BO := ⟨bo_ca, sg, tk, bo_ob, kit_by bo_ss bo_cl bo_ty bo_ss⟩
    exact ok_law (fun_mk (st := s_law) l_law c_law k_law) B (PySem.W.mg_of X G bo) ICb CLb c__law_mix c__law_next c__law_facts c__law_sides c__law_drawn c__law_rows_of c__law_text c__law_book c_format_book c_parse_book c__law_seen c__law_alike
end Sc
/-! the head's facts read by a Hook of one's own: functions by address, all else by one Bool -/
namespace HeadY
open PySem PySem.Spec PyProof.Rows L2 He
/-! ### addresses -/
def recF (K : PySem.W.Frag) (p : Addr) : Addr := match PySem.W.recIn K p "property" with
  | some (.ref g :: _) => g
  | _ => 0
def codA (K : PySem.W.Frag) (f : Addr) : Addr := match K.lookup f with
  | some ⟨_, _, .func fd, _⟩ => (match fd.code with
    | .ref c => c
    | _ => 0)
  | _ => 0
def cloA (K : PySem.W.Frag) (f : Addr) : Addr := match K.lookup f with
  | some ⟨_, _, .func fd, _⟩ => (match fd.closure with
    | (_, c) :: _ => c
    | _ => 0)
  | _ => 0
def mroT (K : PySem.W.Frag) (C : Addr) : List Value := match K.lookup C with
  | some ⟨_, _, .cls cd, _⟩ => cd.mro.tail
  | _ => []
/-! ### functions -/
abbrev FnY : Type := Option (Str × Str × Arguments × FuncBody × Scope)
def fnY (K : PySem.W.Frag) (a : Addr) : FnY := match K.lookup a with
  | some ⟨_, _, .func fd, _⟩ => some (fd.name, fd.qualname, fd.params, fd.body, fd.scope)
  | _ => none
structure FnDY where
  at_ : PySem.W.Frag → Addr
  name : Str
  qual : Str
  params : Arguments
  body : List Stmt
  scope : Scope
def FnDY.val (d : FnDY) : FnY := some (d.name, d.qual, d.params, .stmts d.body, d.scope)
def fnB (K : PySem.W.Frag) (a : Addr) (q : Str) : Bool := match K.lookup a with
  | some ⟨_, _, .func fd, _⟩ => PySem.W.codeIn K (.ref (codA K a)) q && (decide (fd.code = .ref (codA K a)) && (decide (fd.globals = mainGlobals) && (fd.closure.isEmpty && (decide (fd.defaults = .none) && decide (fd.builtins = builtinsNs)))))
  | _ => false
def fnBC (K : PySem.W.Frag) (a : Addr) (q : Str) : Bool := match K.lookup a with
  | some ⟨_, _, .func fd, _⟩ => PySem.W.codeIn K (.ref (codA K a)) q && (decide (fd.code = .ref (codA K a)) && (decide (fd.globals = mainGlobals) && (decide (fd.closure = [(("__class__" : Str), cloA K a)]) && (decide (fd.defaults = .none) && decide (fd.builtins = builtinsNs)))))
  | _ => false
theorem fn_ok {K : PySem.W.Frag} {a : Addr} {n q : Str} {ps : Arguments} {b : List Stmt} {sc : Scope} (e : fnY K a = some (n, q, ps, .stmts b, sc)) (c : fnB K a q = true) :
    ∃ oc od kV dc pm an ct sl, K.lookup a = some ⟨oc, od, .func (PySem.W.fnOf n q ps b sc .none kV dc pm an (.ref (codA K a)) ct), sl⟩ ∧ PySem.W.codeIn K (.ref (codA K a)) q = true := by
  unfold fnB at c
  unfold fnY at e
  cases z : K.lookup a with
  | none => rw [z] at c; cases c
  | some o =>
    obtain ⟨oc, od, dt, sl⟩ := o
    rw [z] at c e
    cases dt with
    | func fd =>
      obtain ⟨n1, n2, n3, n4, n5, n6, n7, n8, n9, n10, n11, n12, n13, n14, n15⟩ := fd
      have e2 : (some (n1, n2, n3, n4, n5) : FnY) = some (n, q, ps, .stmts b, sc) := e
      simp only [Option.some.injEq, Prod.mk.injEq] at e2
      obtain ⟨h1, h2, h3, h4, h5⟩ := e2
      obtain ⟨c1, c⟩ := ba c
      obtain ⟨c2, c⟩ := ba c
      obtain ⟨c3, c⟩ := ba c
      obtain ⟨c4, c⟩ := ba c
      obtain ⟨c5, c6⟩ := ba c
      have c2 : n13 = _ := of_decide_eq_true c2
      have c3 : n6 = _ := of_decide_eq_true c3
      have c4 : n7 = [] := List.isEmpty_iff.mp c4
      have c5 : n8 = _ := of_decide_eq_true c5
      have c6 : n15 = _ := of_decide_eq_true c6
      exact ⟨oc, od, n9, n10, n11, n12, n14, sl, by rw [h1, h2, h3, h4, h5, c2, c3, c4, c5, c6], c1⟩
    | _ => cases c
theorem fn_okC {K : PySem.W.Frag} {a : Addr} {n q : Str} {ps : Arguments} {b : List Stmt} {sc : Scope} (e : fnY K a = some (n, q, ps, .stmts b, sc)) (c : fnBC K a q = true) :
    ∃ oc od kV dc pm an ct sl, K.lookup a = some ⟨oc, od, .func (PySem.W.fnX n q ps b sc [(("__class__" : Str), cloA K a)] .none kV dc pm an (.ref (codA K a)) ct), sl⟩ ∧ PySem.W.codeIn K (.ref (codA K a)) q = true := by
  unfold fnBC at c
  unfold fnY at e
  cases z : K.lookup a with
  | none => rw [z] at c; cases c
  | some o =>
    obtain ⟨oc, od, dt, sl⟩ := o
    rw [z] at c e
    cases dt with
    | func fd =>
      obtain ⟨n1, n2, n3, n4, n5, n6, n7, n8, n9, n10, n11, n12, n13, n14, n15⟩ := fd
      have e2 : (some (n1, n2, n3, n4, n5) : FnY) = some (n, q, ps, .stmts b, sc) := e
      simp only [Option.some.injEq, Prod.mk.injEq] at e2
      obtain ⟨h1, h2, h3, h4, h5⟩ := e2
      obtain ⟨c1, c⟩ := ba c
      obtain ⟨c2, c⟩ := ba c
      obtain ⟨c3, c⟩ := ba c
      obtain ⟨c4, c⟩ := ba c
      obtain ⟨c5, c6⟩ := ba c
      have c2 : n13 = _ := of_decide_eq_true c2
      have c3 : n6 = _ := of_decide_eq_true c3
      have c4 : n7 = _ := of_decide_eq_true c4
      have c5 : n8 = _ := of_decide_eq_true c5
      have c6 : n15 = _ := of_decide_eq_true c6
      exact ⟨oc, od, n9, n10, n11, n12, n14, sl, by rw [h1, h2, h3, h4, h5, c2, c3, c4, c5, c6], c1⟩
    | _ => cases c
/-! ### shapes -/
def intB (K : PySem.W.Frag) (x : Str) (i : Int) : Bool := match PySem.W.nsIn K mainGlobals x with
  | some (some (.int j _)) => decide (j = i)
  | _ => false
theorem int_is {K : PySem.W.Frag} {x : Str} {i : Int} (c : intB K x i = true) : ∃ t, PySem.W.nsIn K mainGlobals x = some (some (.int i t)) := by
  unfold intB at c
  split at c
  · rename_i j t e
    exact ⟨t, by rw [e, of_decide_eq_true c]⟩
  · cases c
def strB (K : PySem.W.Frag) (x s : Str) : Bool := match PySem.W.nsIn K mainGlobals x with
  | some (some (.str j _)) => decide (j = s)
  | _ => false
theorem str_is {K : PySem.W.Frag} {x s : Str} (c : strB K x s = true) : ∃ t, PySem.W.nsIn K mainGlobals x = some (some (.str s t)) := by
  unfold strB at c
  split at c
  · rename_i j t e
    exact ⟨t, by rw [e, of_decide_eq_true c]⟩
  · cases c
def recB (K : PySem.W.Frag) (p : Addr) : Bool := match PySem.W.recIn K p "property" with
  | some (.ref g :: _) => decide (g = recF K p)
  | _ => false
theorem rec_is {K : PySem.W.Frag} {p : Addr} (c : recB K p = true) : ∃ rs, PySem.W.recIn K p "property" = some (.ref (recF K p) :: rs) := by
  unfold recB at c
  split at c
  · rename_i g rs e
    exact ⟨rs, by rw [e, of_decide_eq_true c]⟩
  · cases c
theorem some_is {α : Type} {o : Option α} (c : o.isSome = true) : ∃ x, o = some x := Option.isSome_iff_exists.mp c
def sixB (id : String) : List (Option Value) → Bool
  | [_, _, _, _, some (.builtin b), _] => decide (b = id)
  | _ => false
theorem six_is {id : String} {l : List (Option Value)} (c : sixB id l = true) : ∃ x0 x1 x2 x3 x5, l = [x0, x1, x2, x3, some (.builtin id), x5] := by
  unfold sixB at c
  split at c
  · have c := of_decide_eq_true c
    exact ⟨_, _, _, _, _, by rw [c]⟩
  · cases c
def excB (K : PySem.W.Frag) (C : Addr) (id : String) : Bool := match K.lookup C with
  | some ⟨.type t, _, .cls cd, sl⟩ => decide (t = "type") && (decide (cd.mro = .ref C :: mroT K C) && (cd.hasDict && (!cd.hasDel && sixB id sl.toList)))
  | _ => false
theorem exc_is {K : PySem.W.Frag} {C : Addr} {id : String} (c : excB K C id = true) :
    ∃ nm q N bs sn su ab col dd x0 x1 x2 x3 x5, K.lookup C = some (excClassObj nm q C N bs (mroT K C) true sn su ab col dd x0 x1 x2 x3 x5 id) := by
  unfold excB at c
  cases z : K.lookup C with
  | none => rw [z] at c; cases c
  | some o =>
    obtain ⟨oc, od, dt, ⟨sl⟩⟩ := o
    rw [z] at c
    cases oc with
    | type t =>
      cases dt with
      | cls cd =>
        obtain ⟨n1, n2, n3, n4, n5, n6, n7, n8, n9, n10, n11⟩ := cd
        obtain ⟨c1, c⟩ := ba c
        obtain ⟨c2, c⟩ := ba c
        obtain ⟨c3, c⟩ := ba c
        obtain ⟨c4, c5⟩ := ba c
        have c1 : t = _ := of_decide_eq_true c1
        have c2 : n3 = _ := of_decide_eq_true c2
        have c3 : n6 = true := c3
        have c4 : n11 = false := by
          cases n11 with
          | false => rfl
          | true => cases c4
        obtain ⟨x0, x1, x2, x3, x5, c5⟩ := six_is (l := sl) c5
        exact ⟨n1, n5, n4, n2, n7, n8, n9, n10, od, x0, x1, x2, x3, x5, by rw [c1, c2, c3, c4, c5]⟩
      | _ => cases c
    | _ => cases dt <;> cases c
def cellB (K : PySem.W.Frag) (c E : Addr) : Bool := match K.lookup c with
  | some ⟨_, _, .cell (some (.ref a)), _⟩ => decide (a = E)
  | _ => false
theorem cell_is {K : PySem.W.Frag} {c E : Addr} (e : cellB K c E = true) : ∃ cl cd sl, K.lookup c = some ⟨cl, cd, .cell (some (.ref E)), sl⟩ := by
  unfold cellB at e
  split at e
  · rename_i a _ z
    exact ⟨_, _, _, by rw [z, of_decide_eq_true e]⟩
  · cases e
def fileB (K : PySem.W.Frag) (c : Addr) (f : Str) : Bool := match K.lookup c with
  | some ⟨_, _, .fields vs, _⟩ => (match (vs[2]? : Option Value) with
    | some (.str x _) => f == x
    | _ => false)
  | _ => false
theorem file_is {K : PySem.W.Frag} {c : Addr} {f : Str} (e : fileB K c f = true) : ∃ cl cd vs sl x t, K.lookup c = some ⟨cl, cd, .fields vs, sl⟩ ∧ vs[2]? = some (.str x t) ∧ (f == x) = true := by
  unfold fileB at e
  split at e
  · rename_i vs _ z
    split at e
    · rename_i x t y
      exact ⟨_, _, _, _, x, t, z, y, e⟩
    · cases e
  · cases e
def strsB : List Value → List Str → Bool
  | [], [] => true
  | .str x _ :: r, s :: ss => decide (x = s) && strsB r ss
  | _, _ => false
theorem strs_is : ∀ {l : List Value} {ss : List Str}, strsB l ss = true → ∃ us : List Tok, us.length = ss.length ∧ l = List.zipWith Value.str ss us
  | [], [], _ => ⟨[], rfl, rfl⟩
  | [], s :: ss, h => by cases h
  | v :: r, [], h => by cases v <;> cases h
  | v :: r, s :: ss, h => by
    cases v with
    | str x t =>
      obtain ⟨h1, h2⟩ := ba h
      obtain ⟨us, e1, e2⟩ := strs_is h2
      refine ⟨t :: us, by simp [e1], ?_⟩
      have h1 : x = s := of_decide_eq_true h1
      rw [h1, e2]
      rfl
    | _ => cases h
def tupB (K : PySem.W.Frag) (a : Addr) (ss : List Str) : Bool := match K.lookup a with
  | some ⟨.type c, _, .seq its _, _⟩ => decide (c = "tuple") && strsB its.toList ss
  | _ => false
theorem tup_is {K : PySem.W.Frag} {a : Addr} {ss : List Str} (e : tupB K a ss = true) : ∃ od n sl, ∃ us : List Tok, us.length = ss.length ∧ K.lookup a = some ⟨.type "tuple", od, .seq ⟨List.zipWith Value.str ss us⟩ n, sl⟩ := by
  unfold tupB at e
  cases z : K.lookup a with
  | none => rw [z] at e; cases e
  | some o =>
    obtain ⟨oc, od, dt, sl⟩ := o
    rw [z] at e
    cases oc with
    | type c =>
      cases dt with
      | seq its n =>
        obtain ⟨⟨its⟩⟩ : Nonempty { x : Array Value // x = its } := ⟨⟨its, rfl⟩⟩
        obtain ⟨e1, e2⟩ := ba e
        obtain ⟨us, h1, h2⟩ := strs_is e2
        have e1 : c = "tuple" := of_decide_eq_true e1
        refine ⟨od, n, sl, us, h1, ?_⟩
        rw [e1, ← h2]
      | _ => cases e
    | _ => cases dt <;> cases e
theorem len1 {α : Type} {us : List α} (h : us.length = 1) : ∃ a, us = [a] := by
  match us, h with
  | [a], _ => exact ⟨a, rfl⟩
theorem len2 {α : Type} {us : List α} (h : us.length = 2) : ∃ a b, us = [a, b] := by
  match us, h with
  | [a, b], _ => exact ⟨a, b, rfl⟩
theorem len3 {α : Type} {us : List α} (h : us.length = 3) : ∃ a b c, us = [a, b, c] := by
  match us, h with
  | [a, b, c], _ => exact ⟨a, b, c, rfl⟩
theorem len4 {α : Type} {us : List α} (h : us.length = 4) : ∃ a b c d, us = [a, b, c, d] := by
  match us, h with
  | [a, b, c, d], _ => exact ⟨a, b, c, d, rfl⟩
theorem len5 {α : Type} {us : List α} (h : us.length = 5) : ∃ a b c d e, us = [a, b, c, d, e] := by
  match us, h with
  | [a, b, c, d, e], _ => exact ⟨a, b, c, d, e, rfl⟩
theorem tbl_is {K : PySem.W.Frag} {c T : Addr} (e : PySem.W.codeHdIn K c T = true) : ∃ o, K.lookup c = some o ∧ PySem.W.codeHdIn [(c, o)] c T = true := by
  cases z : K.lookup c with
  | none =>
    unfold PySem.W.codeHdIn at e
    rw [z] at e
    cases e
  | some o =>
    refine ⟨o, rfl, ?_⟩
    unfold PySem.W.codeHdIn at e ⊢
    have q : ([(c, o)] : PySem.W.Frag).lookup c = some o := by simp [List.lookup]
    rw [q]
    rw [z] at e
    exact e
/-! ### the Hook -/
abbrev AlY : Type := List FnY × Bool
structure SaysY (fn : List FnDY) (tf : List (PySem.W.Frag → Addr)) (ex : PySem.W.Frag → Bool) (h : Heap) (K : PySem.W.Frag) : Prop where
  fns : fn.map (fun d => fnY K (d.at_ K)) = fn.map FnDY.val
  more : ex K = true
  hd : ∀ p ∈ tf, PySem.W.codeHdIn K (p K) (tabOf K (p K)) = true
  out : ∀ p ∈ tf, K.lookup (tabOf K (p K)) = none
  empty : ∀ p ∈ tf, h.get? (tabOf K (p K)) = some { cls := .none, data := .fields #[] }
def tabsY (g : Addr → Option Obj) (tf : List (PySem.W.Frag → Addr)) (K : PySem.W.Frag) : Bool := tf.all fun p => PySem.W.codeHdIn K (p K) (tabOf K (p K)) && (match g (tabOf K (p K)) with
  | some o => emptyTab o
  | none => false)
def obsY (as : List Addr) (fn : List FnDY) (tf : List (PySem.W.Frag → Addr)) (ex : PySem.W.Frag → Bool) (g : Addr → Option Obj) : AlY :=
  (fun K : PySem.W.Frag => (fn.map (fun d => fnY K (d.at_ K)), ex K && tabsY g tf K)) (frT g as)
def valY (fn : List FnDY) : AlY := (fn.map FnDY.val, true)
theorem saysY_of {as : List Addr} {fn : List FnDY} {tf : List (PySem.W.Frag → Addr)} {ex : PySem.W.Frag → Bool} {h : Heap} (e : obsY as fn tf ex h.get? = valY fn) : SaysY fn tf ex h (frT h.get? as) := by
  have e1 : fn.map (fun d => fnY (frT h.get? as) (d.at_ (frT h.get? as))) = fn.map FnDY.val := congrArg (fun z : AlY => z.1) e
  have e2 : (ex (frT h.get? as) && tabsY h.get? tf (frT h.get? as)) = true := congrArg (fun z : AlY => z.2) e
  obtain ⟨h1, h2⟩ := ba e2
  have key : ∀ p ∈ tf, PySem.W.codeHdIn (frT h.get? as) (p (frT h.get? as)) (tabOf (frT h.get? as) (p (frT h.get? as))) = true ∧ ∃ o, h.get? (tabOf (frT h.get? as) (p (frT h.get? as))) = some o ∧ emptyTab o = true := fun p hp => by
    obtain ⟨h3, h4⟩ := ba (List.all_eq_true.mp h2 p hp)
    refine ⟨h3, ?_⟩
    split at h4
    · rename_i o q
      exact ⟨o, q, h4⟩
    · cases h4
  exact ⟨e1, h1, fun p hp => (key p hp).1, fun p hp => by
    obtain ⟨_, o, q, z⟩ := key p hp
    exact frT_none q z, fun p hp => by
    obtain ⟨_, o, q, z⟩ := key p hp
    rw [q, emptyTab_eq z]⟩
def hookY (as : List Addr) (fn : List FnDY) (tf : List (PySem.W.Frag → Addr)) (ex : PySem.W.Frag → Bool) : PySem.W.Hook where
  α := AlY
  obs := fun s => obsY as fn tf ex s.heap.get?
  val := fun _ => valY fn
  says := fun _ h => ∃ K : PySem.W.Frag, K.In h ∧ SaysY fn tf ex h K
  of := fun _ _ e => ⟨_, frT_in, saysY_of e⟩
  keeps := fun _ _ _ ⟨K, hK, c⟩ k => ⟨K, PySem.W.Frag.In.keeps hK k, ⟨c.fns, c.more, c.hd, c.out, fun p hp => k _ _ (c.empty p hp)⟩⟩
theorem obsY_eq {as : List Addr} {fn : List FnDY} {tf : List (PySem.W.Frag → Addr)} {ex : PySem.W.Frag → Bool} {g : Addr → Option Obj} {s : Shared} (h : ∀ a, g a = s.heap.get? a) : obsY as fn tf ex g = (hookY as fn tf ex).obs s := by
  have e : g = s.heap.get? := funext h
  rw [e] <;> rfl
theorem map_join {α β γ δ ε : Type} {X : Option α} {a : α → β} {b : α → γ} {c : α → δ} {d : α → ε} {x : β} {y : γ} {z : δ} {u : ε} (h1 : X.map (fun s => (a s, b s, c s)) = some (x, y, z)) (h2 : X.map (fun s => (a s, b s, d s)) = some (x, y, u)) : ∃ s, X = some s ∧ a s = x ∧ b s = y ∧ c s = z ∧ d s = u := by
  cases X with
  | none => cases h1
  | some s =>
    have e1 : (a s, b s, c s) = (x, y, z) := Option.some.inj h1
    have e2 : (a s, b s, d s) = (x, y, u) := Option.some.inj h2
    simp only [Prod.mk.injEq] at e1 e2
    exact ⟨s, rfl, e1.1, e1.2.1, e1.2.2, e2.2.2⟩
/-- two runs, two parts of what is looked at -/
theorem run_join {r : PySem.W.OpenRow} {q : Program} {M : Nat} {loose : List Str} {w : World} {as : List Addr} {fn1 fn2 : List FnDY} {tf1 tf2 : List (PySem.W.Frag → Addr)} {ex1 ex2 : PySem.W.Frag → Bool}
    (h1 : HandSHeadRun.RunEq r q (hookY as fn1 tf1 ex1) (fun s => obsY as fn1 tf1 ex1 (HandSHeadRun.getT s)) M loose w) (h2 : HandSHeadRun.RunEq r q (hookY as fn2 tf2 ex2) (fun s => obsY as fn2 tf2 ex2 (HandSHeadRun.getT s)) M loose w) :
    HandSHeadRun.RunEq r q (hookY as (fn1 ++ fn2) (tf1 ++ tf2) (fun K => ex1 K && ex2 K)) (fun s => obsY as (fn1 ++ fn2) (tf1 ++ tf2) (fun K => ex1 K && ex2 K) (HandSHeadRun.getT s)) M loose w := by
  intro os
  obtain ⟨s, e, e1, e2, e3, e4⟩ := map_join (h1 os) (h2 os)
  rw [e]
  have e3 : obsY as fn1 tf1 ex1 (HandSHeadRun.getT s) = valY fn1 := e3
  have e4 : obsY as fn2 tf2 ex2 (HandSHeadRun.getT s) = valY fn2 := e4
  have a1 : fn1.map (fun d => fnY (frT (HandSHeadRun.getT s) as) (d.at_ (frT (HandSHeadRun.getT s) as))) = fn1.map FnDY.val := congrArg (fun z : AlY => z.1) e3
  have a2 : (ex1 (frT (HandSHeadRun.getT s) as) && tabsY (HandSHeadRun.getT s) tf1 (frT (HandSHeadRun.getT s) as)) = true := congrArg (fun z : AlY => z.2) e3
  have b1 : fn2.map (fun d => fnY (frT (HandSHeadRun.getT s) as) (d.at_ (frT (HandSHeadRun.getT s) as))) = fn2.map FnDY.val := congrArg (fun z : AlY => z.1) e4
  have b2 : (ex2 (frT (HandSHeadRun.getT s) as) && tabsY (HandSHeadRun.getT s) tf2 (frT (HandSHeadRun.getT s) as)) = true := congrArg (fun z : AlY => z.2) e4
  obtain ⟨a2, a3⟩ := ba a2
  obtain ⟨b2, b3⟩ := ba b2
  have c : obsY as (fn1 ++ fn2) (tf1 ++ tf2) (fun K => ex1 K && ex2 K) (HandSHeadRun.getT s) = valY (fn1 ++ fn2) := by
    show ((fn1 ++ fn2).map (fun d => fnY (frT (HandSHeadRun.getT s) as) (d.at_ (frT (HandSHeadRun.getT s) as))), (ex1 (frT (HandSHeadRun.getT s) as) && ex2 (frT (HandSHeadRun.getT s) as)) && tabsY (HandSHeadRun.getT s) (tf1 ++ tf2) (frT (HandSHeadRun.getT s) as)) = ((fn1 ++ fn2).map FnDY.val, true)
    have t : tabsY (HandSHeadRun.getT s) (tf1 ++ tf2) (frT (HandSHeadRun.getT s) as) = true := by
      unfold tabsY at a3 b3 ⊢
      rw [List.all_append, a3, b3] <;> rfl
    rw [List.map_append, List.map_append, a1, b1, a2, b2, t] <;> rfl
  show some (_, _, _) = some (_, _, _)
  rw [e1, e2]
  exact congrArg (fun z => some (true, PySem.W.openGood q loose, z)) c
theorem SaysY.fn {fn : List FnDY} {tf : List (PySem.W.Frag → Addr)} {ex : PySem.W.Frag → Bool} {h : Heap} {K : PySem.W.Frag} (c : SaysY fn tf ex h K) (i : Nat) {d : FnDY} (e : fn[i]? = some d) : fnY K (d.at_ K) = some (d.name, d.qual, d.params, .stmts d.body, d.scope) := by
  have e2 : (fn.map fun d => fnY K (d.at_ K))[i]? = (fn.map FnDY.val)[i]? := by rw [c.fns]
  rw [List.getElem?_map, List.getElem?_map, e] at e2
  exact Option.some.inj e2
end HeadY
namespace Sc
open PySem PySem.Spec PyProof.Rows L2 HeadY He
abbrev theLaw : PySem.W.OpenLaw := PySem.Challenge.rw_smallcourt_k55_whole_texts_of_books
abbrev theRow : PySem.W.OpenRow := PySem.W.OpenLaw.row PySem.Challenge.rw_smallcourt_k55_whole_texts_of_books
def theFile : Str := theRow.prog.main.file
def Ad_f_is_name (K : PySem.W.Frag) : Addr := ga K "is_name"
def Ad_f_rises (K : PySem.W.Frag) : Addr := ga K "rises"
def Ad_f_check_facts (K : PySem.W.Frag) : Addr := ga K "check_facts"
def Ad_f_nested (K : PySem.W.Frag) : Addr := ga K "nested"
def Ad_f_check_rules (K : PySem.W.Frag) : Addr := ga K "check_rules"
def Ad_f_check_part (K : PySem.W.Frag) : Addr := ga K "check_part"
def Ad_f_merged (K : PySem.W.Frag) : Addr := ga K "merged"
def Ad_f_words_of (K : PySem.W.Frag) : Addr := ga K "words_of"
def Ad_f_check_writable (K : PySem.W.Frag) : Addr := ga K "check_writable"
def Ad_f_format_book (K : PySem.W.Frag) : Addr := ga K "format_book"
def Ad_f_is_free_name (K : PySem.W.Frag) : Addr := ga K "is_free_name"
def Ad_f_read_facts (K : PySem.W.Frag) : Addr := ga K "read_facts"
def Ad_f_read_ending (K : PySem.W.Frag) : Addr := ga K "read_ending"
def Ad_f_read_part (K : PySem.W.Frag) : Addr := ga K "read_part"
def Ad_f_read_signs (K : PySem.W.Frag) : Addr := ga K "read_signs"
def Ad_f_read_rule (K : PySem.W.Frag) : Addr := ga K "read_rule"
def Ad_f_rules_told (K : PySem.W.Frag) : Addr := ga K "rules_told"
def Ad_f_parse_book (K : PySem.W.Frag) : Addr := ga K "parse_book"
def Ad_f__law_mix (K : PySem.W.Frag) : Addr := ga K "_law_mix"
def Ad_f__law_next (K : PySem.W.Frag) : Addr := ga K "_law_next"
def Ad_f__law_alike (K : PySem.W.Frag) : Addr := ga K "_law_alike"
def Ad_f__law_facts (K : PySem.W.Frag) : Addr := ga K "_law_facts"
def Ad_f__law_sides (K : PySem.W.Frag) : Addr := ga K "_law_sides"
def Ad_f__law_rule (K : PySem.W.Frag) : Addr := ga K "_law_rule"
def Ad_f__law_drawn (K : PySem.W.Frag) : Addr := ga K "_law_drawn"
def Ad_f__law_made (K : PySem.W.Frag) : Addr := ga K "_law_made"
def Ad_f__law_book (K : PySem.W.Frag) : Addr := ga K "_law_book"
def Ad_f__law_told (K : PySem.W.Frag) : Addr := ga K "_law_told"
def Ad_f__law_seen (K : PySem.W.Frag) : Addr := ga K "_law_seen"
def Ad_f__law_words (K : PySem.W.Frag) : Addr := ga K "_law_words"
def Ad_f__law_rows_of (K : PySem.W.Frag) : Addr := ga K "_law_rows_of"
def Ad_f__law_text (K : PySem.W.Frag) : Addr := ga K "_law_text"
def Ad_f_law (K : PySem.W.Frag) : Addr := ga K "law"
def Ad_CO (K : PySem.W.Frag) : Addr := ga K "Condition"
def Ad_RO (K : PySem.W.Frag) : Addr := ga K "Rule"
def Ad_BO (K : PySem.W.Frag) : Addr := ga K "Book"
def Ad_WO (K : PySem.W.Frag) : Addr := ga K "Words"
def Ad_rsA (K : PySem.W.Frag) : Addr := ga K "RESERVED"
def Ad_CE (K : PySem.W.Frag) : Addr := ga K "CourtError"
def Ad_E0 (K : PySem.W.Frag) : Addr := ga K "InvalidFacts"
def Ad_E1 (K : PySem.W.Frag) : Addr := ga K "InvalidCondition"
def Ad_E2 (K : PySem.W.Frag) : Addr := ga K "InvalidRule"
def Ad_E3 (K : PySem.W.Frag) : Addr := ga K "InvalidBook"
def Ad_E4 (K : PySem.W.Frag) : Addr := ga K "NotWritable"
def Ad_f_mi (K : PySem.W.Frag) : Addr := ma K (Ad_CO K) "__init__"
def Ad_pp_mh (K : PySem.W.Frag) : Addr := ma K (Ad_CO K) "holding"
def Ad_pp_mf (K : PySem.W.Frag) : Addr := ma K (Ad_CO K) "failing"
def Ad_pp_mn (K : PySem.W.Frag) : Addr := ma K (Ad_CO K) "names"
def Ad_f_ri (K : PySem.W.Frag) : Addr := ma K (Ad_RO K) "__init__"
def Ad_pp_rn (K : PySem.W.Frag) : Addr := ma K (Ad_RO K) "name"
def Ad_pp_rc (K : PySem.W.Frag) : Addr := ma K (Ad_RO K) "condition"
def Ad_pp_rr (K : PySem.W.Frag) : Addr := ma K (Ad_RO K) "ruling"
def Ad_pp_re (K : PySem.W.Frag) : Addr := ma K (Ad_RO K) "exceptions"
def Ad_pp_rd (K : PySem.W.Frag) : Addr := ma K (Ad_RO K) "depth"
def Ad_f_bi (K : PySem.W.Frag) : Addr := ma K (Ad_BO K) "__init__"
def Ad_pp_bf (K : PySem.W.Frag) : Addr := ma K (Ad_BO K) "facts"
def Ad_pp_bs (K : PySem.W.Frag) : Addr := ma K (Ad_BO K) "rules"
def Ad_pp_br (K : PySem.W.Frag) : Addr := ma K (Ad_BO K) "ruling"
def Ad_f_wi (K : PySem.W.Frag) : Addr := ma K (Ad_WO K) "__init__"
def Ad_f_wa (K : PySem.W.Frag) : Addr := ma K (Ad_WO K) "ahead"
def Ad_f_wc (K : PySem.W.Frag) : Addr := ma K (Ad_WO K) "check"
def Ad_f_wt (K : PySem.W.Frag) : Addr := ma K (Ad_WO K) "take"
def Ad_f_we (K : PySem.W.Frag) : Addr := ma K (Ad_WO K) "check_end"
def Ad_fIi0 (K : PySem.W.Frag) : Addr := ma K (Ad_E0 K) "__init__"
def Ad_fIi1 (K : PySem.W.Frag) : Addr := ma K (Ad_E1 K) "__init__"
def Ad_fIi2 (K : PySem.W.Frag) : Addr := ma K (Ad_E2 K) "__init__"
def Ad_fIi3 (K : PySem.W.Frag) : Addr := ma K (Ad_E3 K) "__init__"
def Ad_fIi4 (K : PySem.W.Frag) : Addr := ma K (Ad_E4 K) "__init__"
def Ad_f_mh (K : PySem.W.Frag) : Addr := recF K (Ad_pp_mh K)
def Ad_f_mf (K : PySem.W.Frag) : Addr := recF K (Ad_pp_mf K)
def Ad_f_mn (K : PySem.W.Frag) : Addr := recF K (Ad_pp_mn K)
def Ad_f_rn (K : PySem.W.Frag) : Addr := recF K (Ad_pp_rn K)
def Ad_f_rc (K : PySem.W.Frag) : Addr := recF K (Ad_pp_rc K)
def Ad_f_rr (K : PySem.W.Frag) : Addr := recF K (Ad_pp_rr K)
def Ad_f_re (K : PySem.W.Frag) : Addr := recF K (Ad_pp_re K)
def Ad_f_rd (K : PySem.W.Frag) : Addr := recF K (Ad_pp_rd K)
def Ad_f_bf (K : PySem.W.Frag) : Addr := recF K (Ad_pp_bf K)
def Ad_f_bs (K : PySem.W.Frag) : Addr := recF K (Ad_pp_bs K)
def Ad_f_br (K : PySem.W.Frag) : Addr := recF K (Ad_pp_br K)
def Ad_cc_law (K : PySem.W.Frag) : Addr := codA K (Ad_f_law K)
def Ad_celi0 (K : PySem.W.Frag) : Addr := cloA K (Ad_fIi0 K)
def Ad_codi0 (K : PySem.W.Frag) : Addr := codA K (Ad_fIi0 K)
def Ad_celi1 (K : PySem.W.Frag) : Addr := cloA K (Ad_fIi1 K)
def Ad_codi1 (K : PySem.W.Frag) : Addr := codA K (Ad_fIi1 K)
def Ad_celi2 (K : PySem.W.Frag) : Addr := cloA K (Ad_fIi2 K)
def Ad_codi2 (K : PySem.W.Frag) : Addr := codA K (Ad_fIi2 K)
def Ad_celi3 (K : PySem.W.Frag) : Addr := cloA K (Ad_fIi3 K)
def Ad_codi3 (K : PySem.W.Frag) : Addr := codA K (Ad_fIi3 K)
def Ad_celi4 (K : PySem.W.Frag) : Addr := cloA K (Ad_fIi4 K)
def Ad_codi4 (K : PySem.W.Frag) : Addr := codA K (Ad_fIi4 K)
def Fx0 (K : PySem.W.Frag) : Prop := (PySem.W.nsIn K mainGlobals "is_name" = some (some (.ref (Ad_f_is_name K)))) ∧ (fnB K (Ad_f_is_name K) "is_name" = true) ∧ (PySem.W.keepIn K (.ref (Ad_f_is_name K)) = true) ∧ (PySem.W.nsIn K mainGlobals "rises" = some (some (.ref (Ad_f_rises K)))) ∧ (fnB K (Ad_f_rises K) "rises" = true) ∧ (PySem.W.keepIn K (.ref (Ad_f_rises K)) = true) ∧ (PySem.W.nsIn K mainGlobals "check_facts" = some (some (.ref (Ad_f_check_facts K)))) ∧ (fnB K (Ad_f_check_facts K) "check_facts" = true) ∧ (PySem.W.keepIn K (.ref (Ad_f_check_facts K)) = true) ∧ (PySem.W.nsIn K mainGlobals "nested" = some (some (.ref (Ad_f_nested K)))) ∧ (fnB K (Ad_f_nested K) "nested" = true) ∧ (PySem.W.keepIn K (.ref (Ad_f_nested K)) = true)
instance (K : PySem.W.Frag) : Decidable (Fx0 K) := by unfold Fx0; infer_instance
def Fx1 (K : PySem.W.Frag) : Prop := (PySem.W.nsIn K mainGlobals "check_rules" = some (some (.ref (Ad_f_check_rules K)))) ∧ (fnB K (Ad_f_check_rules K) "check_rules" = true) ∧ (PySem.W.keepIn K (.ref (Ad_f_check_rules K)) = true) ∧ (PySem.W.nsIn K mainGlobals "check_part" = some (some (.ref (Ad_f_check_part K)))) ∧ (fnB K (Ad_f_check_part K) "check_part" = true) ∧ (PySem.W.keepIn K (.ref (Ad_f_check_part K)) = true) ∧ (PySem.W.nsIn K mainGlobals "merged" = some (some (.ref (Ad_f_merged K)))) ∧ (fnB K (Ad_f_merged K) "merged" = true) ∧ (PySem.W.keepIn K (.ref (Ad_f_merged K)) = true) ∧ (PySem.W.nsIn K mainGlobals "words_of" = some (some (.ref (Ad_f_words_of K)))) ∧ (fnB K (Ad_f_words_of K) "words_of" = true) ∧ (PySem.W.keepIn K (.ref (Ad_f_words_of K)) = true)
instance (K : PySem.W.Frag) : Decidable (Fx1 K) := by unfold Fx1; infer_instance
def Fx2 (K : PySem.W.Frag) : Prop := (PySem.W.nsIn K mainGlobals "check_writable" = some (some (.ref (Ad_f_check_writable K)))) ∧ (fnB K (Ad_f_check_writable K) "check_writable" = true) ∧ (PySem.W.keepIn K (.ref (Ad_f_check_writable K)) = true) ∧ (PySem.W.nsIn K mainGlobals "format_book" = some (some (.ref (Ad_f_format_book K)))) ∧ (fnB K (Ad_f_format_book K) "format_book" = true) ∧ (PySem.W.keepIn K (.ref (Ad_f_format_book K)) = true) ∧ (PySem.W.nsIn K mainGlobals "is_free_name" = some (some (.ref (Ad_f_is_free_name K)))) ∧ (fnB K (Ad_f_is_free_name K) "is_free_name" = true) ∧ (PySem.W.keepIn K (.ref (Ad_f_is_free_name K)) = true) ∧ (PySem.W.nsIn K mainGlobals "read_facts" = some (some (.ref (Ad_f_read_facts K)))) ∧ (fnB K (Ad_f_read_facts K) "read_facts" = true) ∧ (PySem.W.keepIn K (.ref (Ad_f_read_facts K)) = true)
instance (K : PySem.W.Frag) : Decidable (Fx2 K) := by unfold Fx2; infer_instance
def Fx3 (K : PySem.W.Frag) : Prop := (PySem.W.nsIn K mainGlobals "read_ending" = some (some (.ref (Ad_f_read_ending K)))) ∧ (fnB K (Ad_f_read_ending K) "read_ending" = true) ∧ (PySem.W.keepIn K (.ref (Ad_f_read_ending K)) = true) ∧ (PySem.W.nsIn K mainGlobals "read_part" = some (some (.ref (Ad_f_read_part K)))) ∧ (fnB K (Ad_f_read_part K) "read_part" = true) ∧ (PySem.W.keepIn K (.ref (Ad_f_read_part K)) = true) ∧ (PySem.W.nsIn K mainGlobals "read_signs" = some (some (.ref (Ad_f_read_signs K)))) ∧ (fnB K (Ad_f_read_signs K) "read_signs" = true) ∧ (PySem.W.keepIn K (.ref (Ad_f_read_signs K)) = true) ∧ (PySem.W.nsIn K mainGlobals "read_rule" = some (some (.ref (Ad_f_read_rule K)))) ∧ (fnB K (Ad_f_read_rule K) "read_rule" = true) ∧ (PySem.W.keepIn K (.ref (Ad_f_read_rule K)) = true)
instance (K : PySem.W.Frag) : Decidable (Fx3 K) := by unfold Fx3; infer_instance
def Fx4 (K : PySem.W.Frag) : Prop := (PySem.W.nsIn K mainGlobals "rules_told" = some (some (.ref (Ad_f_rules_told K)))) ∧ (fnB K (Ad_f_rules_told K) "rules_told" = true) ∧ (PySem.W.keepIn K (.ref (Ad_f_rules_told K)) = true) ∧ (PySem.W.nsIn K mainGlobals "parse_book" = some (some (.ref (Ad_f_parse_book K)))) ∧ (fnB K (Ad_f_parse_book K) "parse_book" = true) ∧ (PySem.W.keepIn K (.ref (Ad_f_parse_book K)) = true) ∧ (PySem.W.nsIn K mainGlobals "_law_mix" = some (some (.ref (Ad_f__law_mix K)))) ∧ (fnB K (Ad_f__law_mix K) "_law_mix" = true) ∧ (PySem.W.keepIn K (.ref (Ad_f__law_mix K)) = true) ∧ (PySem.W.nsIn K mainGlobals "_law_next" = some (some (.ref (Ad_f__law_next K)))) ∧ (fnB K (Ad_f__law_next K) "_law_next" = true) ∧ (PySem.W.keepIn K (.ref (Ad_f__law_next K)) = true)
instance (K : PySem.W.Frag) : Decidable (Fx4 K) := by unfold Fx4; infer_instance
def Fx5 (K : PySem.W.Frag) : Prop := (PySem.W.nsIn K mainGlobals "_law_alike" = some (some (.ref (Ad_f__law_alike K)))) ∧ (fnB K (Ad_f__law_alike K) "_law_alike" = true) ∧ (PySem.W.keepIn K (.ref (Ad_f__law_alike K)) = true) ∧ (PySem.W.nsIn K mainGlobals "_law_facts" = some (some (.ref (Ad_f__law_facts K)))) ∧ (fnB K (Ad_f__law_facts K) "_law_facts" = true) ∧ (PySem.W.keepIn K (.ref (Ad_f__law_facts K)) = true) ∧ (PySem.W.nsIn K mainGlobals "_law_sides" = some (some (.ref (Ad_f__law_sides K)))) ∧ (fnB K (Ad_f__law_sides K) "_law_sides" = true) ∧ (PySem.W.keepIn K (.ref (Ad_f__law_sides K)) = true) ∧ (PySem.W.nsIn K mainGlobals "_law_rule" = some (some (.ref (Ad_f__law_rule K)))) ∧ (fnB K (Ad_f__law_rule K) "_law_rule" = true) ∧ (PySem.W.keepIn K (.ref (Ad_f__law_rule K)) = true)
instance (K : PySem.W.Frag) : Decidable (Fx5 K) := by unfold Fx5; infer_instance
def Fx6 (K : PySem.W.Frag) : Prop := (PySem.W.nsIn K mainGlobals "_law_drawn" = some (some (.ref (Ad_f__law_drawn K)))) ∧ (fnB K (Ad_f__law_drawn K) "_law_drawn" = true) ∧ (PySem.W.keepIn K (.ref (Ad_f__law_drawn K)) = true) ∧ (PySem.W.nsIn K mainGlobals "_law_made" = some (some (.ref (Ad_f__law_made K)))) ∧ (fnB K (Ad_f__law_made K) "_law_made" = true) ∧ (PySem.W.keepIn K (.ref (Ad_f__law_made K)) = true) ∧ (PySem.W.nsIn K mainGlobals "_law_book" = some (some (.ref (Ad_f__law_book K)))) ∧ (fnB K (Ad_f__law_book K) "_law_book" = true) ∧ (PySem.W.keepIn K (.ref (Ad_f__law_book K)) = true) ∧ (PySem.W.nsIn K mainGlobals "_law_told" = some (some (.ref (Ad_f__law_told K)))) ∧ (fnB K (Ad_f__law_told K) "_law_told" = true) ∧ (PySem.W.keepIn K (.ref (Ad_f__law_told K)) = true)
instance (K : PySem.W.Frag) : Decidable (Fx6 K) := by unfold Fx6; infer_instance
def Fx7 (K : PySem.W.Frag) : Prop := (PySem.W.nsIn K mainGlobals "_law_seen" = some (some (.ref (Ad_f__law_seen K)))) ∧ (fnB K (Ad_f__law_seen K) "_law_seen" = true) ∧ (PySem.W.keepIn K (.ref (Ad_f__law_seen K)) = true) ∧ (PySem.W.nsIn K mainGlobals "_law_words" = some (some (.ref (Ad_f__law_words K)))) ∧ (fnB K (Ad_f__law_words K) "_law_words" = true) ∧ (PySem.W.keepIn K (.ref (Ad_f__law_words K)) = true) ∧ (PySem.W.nsIn K mainGlobals "_law_rows_of" = some (some (.ref (Ad_f__law_rows_of K)))) ∧ (fnB K (Ad_f__law_rows_of K) "_law_rows_of" = true) ∧ (PySem.W.keepIn K (.ref (Ad_f__law_rows_of K)) = true) ∧ (PySem.W.nsIn K mainGlobals "_law_text" = some (some (.ref (Ad_f__law_text K)))) ∧ (fnB K (Ad_f__law_text K) "_law_text" = true) ∧ (PySem.W.keepIn K (.ref (Ad_f__law_text K)) = true)
instance (K : PySem.W.Frag) : Decidable (Fx7 K) := by unfold Fx7; infer_instance
def Fx8 (K : PySem.W.Frag) : Prop := (PySem.W.nsIn K mainGlobals "law" = some (some (.ref (Ad_f_law K)))) ∧ (fnB K (Ad_f_law K) "law" = true) ∧ (PySem.W.keepIn K (.ref (Ad_f_law K)) = true) ∧ (PySem.W.nsIn K mainGlobals "Condition" = some (some (.ref (Ad_CO K)))) ∧ (PySem.W.makesIn K (Ad_CO K) = true) ∧ (PySem.W.findIn K (.ref (Ad_CO K)) "__init__" = some (some (.ref (Ad_f_mi K)))) ∧ (PySem.W.isFn K (.ref (Ad_f_mi K)) = true) ∧ (PySem.W.keepIn K (.ref (Ad_CO K)) = true) ∧ (PySem.W.plainGet K (Ad_CO K) Str.empty = true) ∧ (PySem.W.hasDictIn K (Ad_CO K) = true) ∧ (PySem.W.plainOver K (Ad_CO K) = true) ∧ (PySem.W.findIn K (.ref (Ad_CO K)) "__setattr__" = some (some (.builtin "object.__setattr__")))
instance (K : PySem.W.Frag) : Decidable (Fx8 K) := by unfold Fx8; infer_instance
def Fx9 (K : PySem.W.Frag) : Prop := (PySem.W.findIn K (.ref (Ad_CO K)) "_holding" = some none) ∧ (PySem.W.findIn K (.ref (Ad_CO K)) "_failing" = some none) ∧ (PySem.W.findIn K (.ref (Ad_CO K)) "_names" = some none) ∧ (PySem.W.findIn K (.ref (Ad_CO K)) "holding" = some (some (.ref (Ad_pp_mh K)))) ∧ (PySem.W.specialIn K (.ref (Ad_pp_mh K)) "__get__" = some (some (.builtin "property.__get__"))) ∧ (PySem.W.takesIn K (.ref (Ad_pp_mh K)) = some true) ∧ (recB K (Ad_pp_mh K) = true) ∧ (PySem.W.findIn K (.ref (Ad_CO K)) "failing" = some (some (.ref (Ad_pp_mf K)))) ∧ (PySem.W.specialIn K (.ref (Ad_pp_mf K)) "__get__" = some (some (.builtin "property.__get__"))) ∧ (PySem.W.takesIn K (.ref (Ad_pp_mf K)) = some true) ∧ (recB K (Ad_pp_mf K) = true) ∧ (PySem.W.findIn K (.ref (Ad_CO K)) "names" = some (some (.ref (Ad_pp_mn K))))
instance (K : PySem.W.Frag) : Decidable (Fx9 K) := by unfold Fx9; infer_instance
def Fx10 (K : PySem.W.Frag) : Prop := (PySem.W.specialIn K (.ref (Ad_pp_mn K)) "__get__" = some (some (.builtin "property.__get__"))) ∧ (PySem.W.takesIn K (.ref (Ad_pp_mn K)) = some true) ∧ (recB K (Ad_pp_mn K) = true) ∧ (PySem.W.nsIn K mainGlobals "Rule" = some (some (.ref (Ad_RO K)))) ∧ (PySem.W.makesIn K (Ad_RO K) = true) ∧ (PySem.W.findIn K (.ref (Ad_RO K)) "__init__" = some (some (.ref (Ad_f_ri K)))) ∧ (PySem.W.isFn K (.ref (Ad_f_ri K)) = true) ∧ (PySem.W.keepIn K (.ref (Ad_RO K)) = true) ∧ (PySem.W.plainGet K (Ad_RO K) Str.empty = true) ∧ (PySem.W.hasDictIn K (Ad_RO K) = true) ∧ (PySem.W.plainOver K (Ad_RO K) = true) ∧ (PySem.W.findIn K (.ref (Ad_RO K)) "__setattr__" = some (some (.builtin "object.__setattr__")))
instance (K : PySem.W.Frag) : Decidable (Fx10 K) := by unfold Fx10; infer_instance
def Fx11 (K : PySem.W.Frag) : Prop := (PySem.W.findIn K (.ref (Ad_RO K)) "_name" = some none) ∧ (PySem.W.findIn K (.ref (Ad_RO K)) "_condition" = some none) ∧ (PySem.W.findIn K (.ref (Ad_RO K)) "_ruling" = some none) ∧ (PySem.W.findIn K (.ref (Ad_RO K)) "_exceptions" = some none) ∧ (PySem.W.findIn K (.ref (Ad_RO K)) "_depth" = some none) ∧ (PySem.W.findIn K (.ref (Ad_RO K)) "_inside" = some none) ∧ (PySem.W.findIn K (.ref (Ad_RO K)) "name" = some (some (.ref (Ad_pp_rn K)))) ∧ (PySem.W.specialIn K (.ref (Ad_pp_rn K)) "__get__" = some (some (.builtin "property.__get__"))) ∧ (PySem.W.takesIn K (.ref (Ad_pp_rn K)) = some true) ∧ (recB K (Ad_pp_rn K) = true) ∧ (PySem.W.findIn K (.ref (Ad_RO K)) "condition" = some (some (.ref (Ad_pp_rc K)))) ∧ (PySem.W.specialIn K (.ref (Ad_pp_rc K)) "__get__" = some (some (.builtin "property.__get__")))
instance (K : PySem.W.Frag) : Decidable (Fx11 K) := by unfold Fx11; infer_instance
def Fx12 (K : PySem.W.Frag) : Prop := (PySem.W.takesIn K (.ref (Ad_pp_rc K)) = some true) ∧ (recB K (Ad_pp_rc K) = true) ∧ (PySem.W.findIn K (.ref (Ad_RO K)) "ruling" = some (some (.ref (Ad_pp_rr K)))) ∧ (PySem.W.specialIn K (.ref (Ad_pp_rr K)) "__get__" = some (some (.builtin "property.__get__"))) ∧ (PySem.W.takesIn K (.ref (Ad_pp_rr K)) = some true) ∧ (recB K (Ad_pp_rr K) = true) ∧ (PySem.W.findIn K (.ref (Ad_RO K)) "exceptions" = some (some (.ref (Ad_pp_re K)))) ∧ (PySem.W.specialIn K (.ref (Ad_pp_re K)) "__get__" = some (some (.builtin "property.__get__"))) ∧ (PySem.W.takesIn K (.ref (Ad_pp_re K)) = some true) ∧ (recB K (Ad_pp_re K) = true) ∧ (PySem.W.findIn K (.ref (Ad_RO K)) "depth" = some (some (.ref (Ad_pp_rd K)))) ∧ (PySem.W.specialIn K (.ref (Ad_pp_rd K)) "__get__" = some (some (.builtin "property.__get__")))
instance (K : PySem.W.Frag) : Decidable (Fx12 K) := by unfold Fx12; infer_instance
def Fx13 (K : PySem.W.Frag) : Prop := (PySem.W.takesIn K (.ref (Ad_pp_rd K)) = some true) ∧ (recB K (Ad_pp_rd K) = true) ∧ (PySem.W.nsIn K mainGlobals "Book" = some (some (.ref (Ad_BO K)))) ∧ (PySem.W.makesIn K (Ad_BO K) = true) ∧ (PySem.W.findIn K (.ref (Ad_BO K)) "__init__" = some (some (.ref (Ad_f_bi K)))) ∧ (PySem.W.isFn K (.ref (Ad_f_bi K)) = true) ∧ (PySem.W.keepIn K (.ref (Ad_BO K)) = true) ∧ (PySem.W.plainGet K (Ad_BO K) Str.empty = true) ∧ (PySem.W.hasDictIn K (Ad_BO K) = true) ∧ (PySem.W.plainOver K (Ad_BO K) = true) ∧ (PySem.W.findIn K (.ref (Ad_BO K)) "__setattr__" = some (some (.builtin "object.__setattr__"))) ∧ (PySem.W.findIn K (.ref (Ad_BO K)) "_facts" = some none)
instance (K : PySem.W.Frag) : Decidable (Fx13 K) := by unfold Fx13; infer_instance
def Fx14 (K : PySem.W.Frag) : Prop := (PySem.W.findIn K (.ref (Ad_BO K)) "_rules" = some none) ∧ (PySem.W.findIn K (.ref (Ad_BO K)) "_ruling" = some none) ∧ (PySem.W.findIn K (.ref (Ad_BO K)) "_numbered" = some none) ∧ (PySem.W.findIn K (.ref (Ad_BO K)) "facts" = some (some (.ref (Ad_pp_bf K)))) ∧ (PySem.W.specialIn K (.ref (Ad_pp_bf K)) "__get__" = some (some (.builtin "property.__get__"))) ∧ (PySem.W.takesIn K (.ref (Ad_pp_bf K)) = some true) ∧ (recB K (Ad_pp_bf K) = true) ∧ (PySem.W.findIn K (.ref (Ad_BO K)) "rules" = some (some (.ref (Ad_pp_bs K)))) ∧ (PySem.W.specialIn K (.ref (Ad_pp_bs K)) "__get__" = some (some (.builtin "property.__get__"))) ∧ (PySem.W.takesIn K (.ref (Ad_pp_bs K)) = some true) ∧ (recB K (Ad_pp_bs K) = true) ∧ (PySem.W.findIn K (.ref (Ad_BO K)) "ruling" = some (some (.ref (Ad_pp_br K))))
instance (K : PySem.W.Frag) : Decidable (Fx14 K) := by unfold Fx14; infer_instance
def Fx15 (K : PySem.W.Frag) : Prop := (PySem.W.specialIn K (.ref (Ad_pp_br K)) "__get__" = some (some (.builtin "property.__get__"))) ∧ (PySem.W.takesIn K (.ref (Ad_pp_br K)) = some true) ∧ (recB K (Ad_pp_br K) = true) ∧ (PySem.W.nsIn K mainGlobals "Words" = some (some (.ref (Ad_WO K)))) ∧ (PySem.W.makesIn K (Ad_WO K) = true) ∧ (PySem.W.findIn K (.ref (Ad_WO K)) "__init__" = some (some (.ref (Ad_f_wi K)))) ∧ (PySem.W.isFn K (.ref (Ad_f_wi K)) = true) ∧ (PySem.W.keepIn K (.ref (Ad_WO K)) = true) ∧ (PySem.W.plainGet K (Ad_WO K) Str.empty = true) ∧ (PySem.W.hasDictIn K (Ad_WO K) = true) ∧ (PySem.W.plainOver K (Ad_WO K) = true) ∧ (PySem.W.findIn K (.ref (Ad_WO K)) "__setattr__" = some (some (.builtin "object.__setattr__")))
instance (K : PySem.W.Frag) : Decidable (Fx15 K) := by unfold Fx15; infer_instance
def Fx16 (K : PySem.W.Frag) : Prop := (PySem.W.findIn K (.ref (Ad_WO K)) "row" = some none) ∧ (PySem.W.findIn K (.ref (Ad_WO K)) "left" = some none) ∧ (PySem.W.findIn K (.ref (Ad_WO K)) "at" = some none) ∧ (PySem.W.findIn K (.ref (Ad_WO K)) "ahead" = some (some (.ref (Ad_f_wa K)))) ∧ (PySem.W.isFn K (.ref (Ad_f_wa K)) = true) ∧ (PySem.W.findIn K (.ref (Ad_WO K)) "check" = some (some (.ref (Ad_f_wc K)))) ∧ (PySem.W.isFn K (.ref (Ad_f_wc K)) = true) ∧ (PySem.W.findIn K (.ref (Ad_WO K)) "take" = some (some (.ref (Ad_f_wt K)))) ∧ (PySem.W.isFn K (.ref (Ad_f_wt K)) = true) ∧ (PySem.W.findIn K (.ref (Ad_WO K)) "check_end" = some (some (.ref (Ad_f_we K)))) ∧ (PySem.W.isFn K (.ref (Ad_f_we K)) = true) ∧ (PySem.W.findIn K (.ref (Ad_BO K)) "__class__" = some (some (.builtin "object.__class__")))
instance (K : PySem.W.Frag) : Decidable (Fx16 K) := by unfold Fx16; infer_instance
def Fx17 (K : PySem.W.Frag) : Prop := (PySem.W.mroIn K (Ad_BO K) (.type "object") = some true) ∧ (PySem.W.subIn K (.ref (Ad_BO K)) (.ref (Ad_BO K)) = some true) ∧ (PySem.W.isClsIn K (Ad_BO K) = true) ∧ (PySem.W.typeIn K (.ref (Ad_BO K)) = some (.type "type")) ∧ (PySem.W.nsIn K mainGlobals "RESERVED" = some (some (.ref (Ad_rsA K)))) ∧ (HeadY.tupB K (Ad_rsA K) ["facts", "is", "if", "not", "else"] = true) ∧ (fnB K (Ad_f_mi K) "Condition.__init__" = true) ∧ (PySem.W.keepIn K (.ref (Ad_f_mi K)) = true) ∧ (fnB K (Ad_f_mh K) "Condition.holding" = true) ∧ (PySem.W.keepIn K (.ref (Ad_f_mh K)) = true) ∧ (fnB K (Ad_f_mf K) "Condition.failing" = true) ∧ (PySem.W.keepIn K (.ref (Ad_f_mf K)) = true)
instance (K : PySem.W.Frag) : Decidable (Fx17 K) := by unfold Fx17; infer_instance
def Fx18 (K : PySem.W.Frag) : Prop := (fnB K (Ad_f_mn K) "Condition.names" = true) ∧ (PySem.W.keepIn K (.ref (Ad_f_mn K)) = true) ∧ (fnB K (Ad_f_ri K) "Rule.__init__" = true) ∧ (PySem.W.keepIn K (.ref (Ad_f_ri K)) = true) ∧ (fnB K (Ad_f_rn K) "Rule.name" = true) ∧ (PySem.W.keepIn K (.ref (Ad_f_rn K)) = true) ∧ (fnB K (Ad_f_rc K) "Rule.condition" = true) ∧ (PySem.W.keepIn K (.ref (Ad_f_rc K)) = true) ∧ (fnB K (Ad_f_rr K) "Rule.ruling" = true) ∧ (PySem.W.keepIn K (.ref (Ad_f_rr K)) = true) ∧ (fnB K (Ad_f_re K) "Rule.exceptions" = true) ∧ (PySem.W.keepIn K (.ref (Ad_f_re K)) = true)
instance (K : PySem.W.Frag) : Decidable (Fx18 K) := by unfold Fx18; infer_instance
def Fx19 (K : PySem.W.Frag) : Prop := (fnB K (Ad_f_rd K) "Rule.depth" = true) ∧ (PySem.W.keepIn K (.ref (Ad_f_rd K)) = true) ∧ (fnB K (Ad_f_bi K) "Book.__init__" = true) ∧ (PySem.W.keepIn K (.ref (Ad_f_bi K)) = true) ∧ (fnB K (Ad_f_bf K) "Book.facts" = true) ∧ (PySem.W.keepIn K (.ref (Ad_f_bf K)) = true) ∧ (fnB K (Ad_f_bs K) "Book.rules" = true) ∧ (PySem.W.keepIn K (.ref (Ad_f_bs K)) = true) ∧ (fnB K (Ad_f_br K) "Book.ruling" = true) ∧ (PySem.W.keepIn K (.ref (Ad_f_br K)) = true) ∧ (fnB K (Ad_f_wi K) "Words.__init__" = true) ∧ (PySem.W.keepIn K (.ref (Ad_f_wi K)) = true)
instance (K : PySem.W.Frag) : Decidable (Fx19 K) := by unfold Fx19; infer_instance
def Fx20 (K : PySem.W.Frag) : Prop := (fnB K (Ad_f_wa K) "Words.ahead" = true) ∧ (PySem.W.keepIn K (.ref (Ad_f_wa K)) = true) ∧ (fnB K (Ad_f_wc K) "Words.check" = true) ∧ (PySem.W.keepIn K (.ref (Ad_f_wc K)) = true) ∧ (fnB K (Ad_f_wt K) "Words.take" = true) ∧ (PySem.W.keepIn K (.ref (Ad_f_wt K)) = true) ∧ (fnB K (Ad_f_we K) "Words.check_end" = true) ∧ (PySem.W.keepIn K (.ref (Ad_f_we K)) = true) ∧ (PySem.W.nsIn K mainGlobals "isinstance" = some none) ∧ (PySem.W.nsIn K mainGlobals "len" = some none) ∧ (PySem.W.nsIn K mainGlobals "all" = some none) ∧ (PySem.W.nsIn K mainGlobals "any" = some none)
instance (K : PySem.W.Frag) : Decidable (Fx20 K) := by unfold Fx20; infer_instance
def Fx21 (K : PySem.W.Frag) : Prop := (PySem.W.nsIn K mainGlobals "sum" = some none) ∧ (PySem.W.nsIn K mainGlobals "max" = some none) ∧ (PySem.W.nsIn K mainGlobals "min" = some none) ∧ (PySem.W.nsIn K mainGlobals "int" = some none) ∧ (PySem.W.nsIn K mainGlobals "str" = some none) ∧ (PySem.W.nsIn K mainGlobals "bool" = some none) ∧ (PySem.W.nsIn K mainGlobals "list" = some none) ∧ (PySem.W.nsIn K mainGlobals "tuple" = some none) ∧ (PySem.W.nsIn K mainGlobals "dict" = some none) ∧ (PySem.W.nsIn K mainGlobals "range" = some none) ∧ (PySem.W.nsIn K mainGlobals "enumerate" = some none) ∧ (PySem.W.nsIn K mainGlobals "sorted" = some none)
instance (K : PySem.W.Frag) : Decidable (Fx21 K) := by unfold Fx21; infer_instance
def Fx22 (K : PySem.W.Frag) : Prop := (PySem.W.nsIn K mainGlobals "reversed" = some none) ∧ (PySem.W.nsIn K mainGlobals "zip" = some none) ∧ (PySem.W.nsIn K mainGlobals "set" = some none) ∧ (PySem.W.nsIn K mainGlobals "ValueError" = some none) ∧ (strB K "LETTERS" letters = true) ∧ (intB K "LONGEST_NAME" 8 = true) ∧ (intB K "MOST_FACTS" 60 = true) ∧ (intB K "MOST_NAMES" 8 = true) ∧ (intB K "MOST_AROUND" 5 = true) ∧ (intB K "MOST_RULES" 60 = true) ∧ (intB K "MOST_OUTERMOST" 40 = true) ∧ (strB K "SIGN" ">" = true)
instance (K : PySem.W.Frag) : Decidable (Fx22 K) := by unfold Fx22; infer_instance
def Fx23 (K : PySem.W.Frag) : Prop := (intB K "NUMBER_OF_FACTS" (-1) = true) ∧ (intB K "NUMBER_OF_BOOK" 60 = true) ∧ (PySem.W.nsIn K mainGlobals "CourtError" = some (some (.ref (Ad_CE K)))) ∧ (PySem.W.nsIn K mainGlobals "InvalidFacts" = some (some (.ref (Ad_E0 K)))) ∧ (PySem.W.nsIn K mainGlobals "InvalidCondition" = some (some (.ref (Ad_E1 K)))) ∧ (PySem.W.nsIn K mainGlobals "InvalidRule" = some (some (.ref (Ad_E2 K)))) ∧ (PySem.W.nsIn K mainGlobals "InvalidBook" = some (some (.ref (Ad_E3 K)))) ∧ (PySem.W.nsIn K mainGlobals "NotWritable" = some (some (.ref (Ad_E4 K)))) ∧ (PySem.W.subIn K (.ref (Ad_CE K)) (.type "BaseException") = some true) ∧ (PySem.W.isClsIn K (Ad_CE K) = true) ∧ (PySem.W.typeIn K (.ref (Ad_CE K)) = some (.type "type")) ∧ (PySem.W.isClsIn K (Ad_E0 K) = true)
instance (K : PySem.W.Frag) : Decidable (Fx23 K) := by unfold Fx23; infer_instance
def Fx24 (K : PySem.W.Frag) : Prop := (PySem.W.typeIn K (.ref (Ad_E0 K)) = some (.type "type")) ∧ (PySem.W.isClsIn K (Ad_E1 K) = true) ∧ (PySem.W.typeIn K (.ref (Ad_E1 K)) = some (.type "type")) ∧ (PySem.W.isClsIn K (Ad_E2 K) = true) ∧ (PySem.W.typeIn K (.ref (Ad_E2 K)) = some (.type "type")) ∧ (PySem.W.isClsIn K (Ad_E3 K) = true) ∧ (PySem.W.typeIn K (.ref (Ad_E3 K)) = some (.type "type")) ∧ (PySem.W.isClsIn K (Ad_E4 K) = true) ∧ (PySem.W.typeIn K (.ref (Ad_E4 K)) = some (.type "type")) ∧ (PySem.W.specialIn K (.builtin "object.__class__") "__get__" = some (some (.builtin "getset_descriptor.__get__"))) ∧ (PySem.W.takesIn K (.builtin "object.__class__") = some true) ∧ (excB K (Ad_CE K) "ValueError.__new__" = true)
instance (K : PySem.W.Frag) : Decidable (Fx24 K) := by unfold Fx24; infer_instance
def Fx25 (K : PySem.W.Frag) : Prop := (PySem.W.findIn K (.ref (Ad_CE K)) "__init__" = some (some (.builtin "ValueError.__init__"))) ∧ (PySem.W.nsIn K mainGlobals "super" = some none) ∧ (PySem.W.nsIn K cStatics "thirdparty.any" = some none) ∧ (excB K (Ad_E0 K) "ValueError.__new__" = true) ∧ (HandSPX.refsVE (mroT K (Ad_E0 K)) = true) ∧ (PySem.W.findIn K (.ref (Ad_E0 K)) "__setattr__" = some (some (.builtin "object.__setattr__"))) ∧ (PySem.W.typeIn K (.ref (Ad_E0 K)) = some (.type "type")) ∧ (PySem.W.keepIn K (.ref (Ad_E0 K)) = true) ∧ (PySem.W.findIn K (.ref (Ad_E0 K)) "__init__" = some (some (.ref (Ad_fIi0 K)))) ∧ (PySem.W.typeIn K (.ref (Ad_fIi0 K)) = some (.type "function")) ∧ (fnBC K (Ad_fIi0 K) "InvalidFacts.__init__" = true) ∧ (cellB K (Ad_celi0 K) (Ad_E0 K) = true)
instance (K : PySem.W.Frag) : Decidable (Fx25 K) := by unfold Fx25; infer_instance
def Fx26 (K : PySem.W.Frag) : Prop := (fileB K (Ad_codi0 K) theFile = true) ∧ (PySem.W.mroIn K (Ad_E0 K) (.ref (Ad_E0 K)) = some true) ∧ ((mroT K (Ad_E0 K)) = .ref (Ad_CE K) :: (mroT K (Ad_CE K))) ∧ (PySem.W.subIn K (.ref (Ad_E0 K)) (.type "ValueError") = some true) ∧ (PySem.W.subIn K (.ref (Ad_E0 K)) (.type "BaseException") = some true) ∧ (PySem.W.findIn K (.ref (Ad_E0 K)) "index" = some none) ∧ (excB K (Ad_E1 K) "ValueError.__new__" = true) ∧ (HandSPX.refsVE (mroT K (Ad_E1 K)) = true) ∧ (PySem.W.findIn K (.ref (Ad_E1 K)) "__setattr__" = some (some (.builtin "object.__setattr__"))) ∧ (PySem.W.typeIn K (.ref (Ad_E1 K)) = some (.type "type")) ∧ (PySem.W.keepIn K (.ref (Ad_E1 K)) = true) ∧ (PySem.W.findIn K (.ref (Ad_E1 K)) "__init__" = some (some (.ref (Ad_fIi1 K))))
instance (K : PySem.W.Frag) : Decidable (Fx26 K) := by unfold Fx26; infer_instance
def Fx27 (K : PySem.W.Frag) : Prop := (PySem.W.typeIn K (.ref (Ad_fIi1 K)) = some (.type "function")) ∧ (fnBC K (Ad_fIi1 K) "InvalidCondition.__init__" = true) ∧ (cellB K (Ad_celi1 K) (Ad_E1 K) = true) ∧ (fileB K (Ad_codi1 K) theFile = true) ∧ (PySem.W.mroIn K (Ad_E1 K) (.ref (Ad_E1 K)) = some true) ∧ ((mroT K (Ad_E1 K)) = .ref (Ad_CE K) :: (mroT K (Ad_CE K))) ∧ (PySem.W.subIn K (.ref (Ad_E1 K)) (.type "ValueError") = some true) ∧ (PySem.W.subIn K (.ref (Ad_E1 K)) (.type "BaseException") = some true) ∧ (PySem.W.findIn K (.ref (Ad_E1 K)) "part" = some none) ∧ (PySem.W.findIn K (.ref (Ad_E1 K)) "index" = some none) ∧ (excB K (Ad_E2 K) "ValueError.__new__" = true) ∧ (HandSPX.refsVE (mroT K (Ad_E2 K)) = true)
instance (K : PySem.W.Frag) : Decidable (Fx27 K) := by unfold Fx27; infer_instance
def Fx28 (K : PySem.W.Frag) : Prop := (PySem.W.findIn K (.ref (Ad_E2 K)) "__setattr__" = some (some (.builtin "object.__setattr__"))) ∧ (PySem.W.typeIn K (.ref (Ad_E2 K)) = some (.type "type")) ∧ (PySem.W.keepIn K (.ref (Ad_E2 K)) = true) ∧ (PySem.W.findIn K (.ref (Ad_E2 K)) "__init__" = some (some (.ref (Ad_fIi2 K)))) ∧ (PySem.W.typeIn K (.ref (Ad_fIi2 K)) = some (.type "function")) ∧ (fnBC K (Ad_fIi2 K) "InvalidRule.__init__" = true) ∧ (cellB K (Ad_celi2 K) (Ad_E2 K) = true) ∧ (fileB K (Ad_codi2 K) theFile = true) ∧ (PySem.W.mroIn K (Ad_E2 K) (.ref (Ad_E2 K)) = some true) ∧ ((mroT K (Ad_E2 K)) = .ref (Ad_CE K) :: (mroT K (Ad_CE K))) ∧ (PySem.W.subIn K (.ref (Ad_E2 K)) (.type "ValueError") = some true) ∧ (PySem.W.subIn K (.ref (Ad_E2 K)) (.type "BaseException") = some true)
instance (K : PySem.W.Frag) : Decidable (Fx28 K) := by unfold Fx28; infer_instance
def Fx29 (K : PySem.W.Frag) : Prop := (PySem.W.findIn K (.ref (Ad_E2 K)) "part" = some none) ∧ (excB K (Ad_E3 K) "ValueError.__new__" = true) ∧ (HandSPX.refsVE (mroT K (Ad_E3 K)) = true) ∧ (PySem.W.findIn K (.ref (Ad_E3 K)) "__setattr__" = some (some (.builtin "object.__setattr__"))) ∧ (PySem.W.typeIn K (.ref (Ad_E3 K)) = some (.type "type")) ∧ (PySem.W.keepIn K (.ref (Ad_E3 K)) = true) ∧ (PySem.W.findIn K (.ref (Ad_E3 K)) "__init__" = some (some (.ref (Ad_fIi3 K)))) ∧ (PySem.W.typeIn K (.ref (Ad_fIi3 K)) = some (.type "function")) ∧ (fnBC K (Ad_fIi3 K) "InvalidBook.__init__" = true) ∧ (cellB K (Ad_celi3 K) (Ad_E3 K) = true) ∧ (fileB K (Ad_codi3 K) theFile = true) ∧ (PySem.W.mroIn K (Ad_E3 K) (.ref (Ad_E3 K)) = some true)
instance (K : PySem.W.Frag) : Decidable (Fx29 K) := by unfold Fx29; infer_instance
def Fx30 (K : PySem.W.Frag) : Prop := ((mroT K (Ad_E3 K)) = .ref (Ad_CE K) :: (mroT K (Ad_CE K))) ∧ (PySem.W.subIn K (.ref (Ad_E3 K)) (.type "ValueError") = some true) ∧ (PySem.W.subIn K (.ref (Ad_E3 K)) (.type "BaseException") = some true) ∧ (PySem.W.findIn K (.ref (Ad_E3 K)) "word" = some none) ∧ (PySem.W.findIn K (.ref (Ad_E3 K)) "index" = some none) ∧ (excB K (Ad_E4 K) "ValueError.__new__" = true) ∧ (HandSPX.refsVE (mroT K (Ad_E4 K)) = true) ∧ (PySem.W.findIn K (.ref (Ad_E4 K)) "__setattr__" = some (some (.builtin "object.__setattr__"))) ∧ (PySem.W.typeIn K (.ref (Ad_E4 K)) = some (.type "type")) ∧ (PySem.W.keepIn K (.ref (Ad_E4 K)) = true) ∧ (PySem.W.findIn K (.ref (Ad_E4 K)) "__init__" = some (some (.ref (Ad_fIi4 K)))) ∧ (PySem.W.typeIn K (.ref (Ad_fIi4 K)) = some (.type "function"))
instance (K : PySem.W.Frag) : Decidable (Fx30 K) := by unfold Fx30; infer_instance
def Fx31 (K : PySem.W.Frag) : Prop := (fnBC K (Ad_fIi4 K) "NotWritable.__init__" = true) ∧ (cellB K (Ad_celi4 K) (Ad_E4 K) = true) ∧ (fileB K (Ad_codi4 K) theFile = true) ∧ (PySem.W.mroIn K (Ad_E4 K) (.ref (Ad_E4 K)) = some true) ∧ ((mroT K (Ad_E4 K)) = .ref (Ad_CE K) :: (mroT K (Ad_CE K))) ∧ (PySem.W.subIn K (.ref (Ad_E4 K)) (.type "ValueError") = some true) ∧ (PySem.W.subIn K (.ref (Ad_E4 K)) (.type "BaseException") = some true) ∧ (PySem.W.findIn K (.ref (Ad_E4 K)) "index" = some none)
instance (K : PySem.W.Frag) : Decidable (Fx31 K) := by unfold Fx31; infer_instance
def fn0 : FnDY := ⟨Ad_f_is_name, "is_name", "is_name", defArgs s_is_name, defBody s_is_name, defScope s_is_name⟩
def fn1 : FnDY := ⟨Ad_f_rises, "rises", "rises", defArgs s_rises, defBody s_rises, defScope s_rises⟩
def fn2 : FnDY := ⟨Ad_f_check_facts, "check_facts", "check_facts", defArgs s_check_facts, defBody s_check_facts, defScope s_check_facts⟩
def fn3 : FnDY := ⟨Ad_f_nested, "nested", "nested", defArgs s_nested, defBody s_nested, defScope s_nested⟩
def fn4 : FnDY := ⟨Ad_f_check_rules, "check_rules", "check_rules", defArgs s_check_rules, defBody s_check_rules, defScope s_check_rules⟩
def fn5 : FnDY := ⟨Ad_f_check_part, "check_part", "check_part", defArgs s_check_part, defBody s_check_part, defScope s_check_part⟩
def fn6 : FnDY := ⟨Ad_f_merged, "merged", "merged", defArgs s_merged, defBody s_merged, defScope s_merged⟩
def fn7 : FnDY := ⟨Ad_f_words_of, "words_of", "words_of", defArgs s_words_of, defBody s_words_of, defScope s_words_of⟩
def fn8 : FnDY := ⟨Ad_f_check_writable, "check_writable", "check_writable", defArgs s_check_writable, defBody s_check_writable, defScope s_check_writable⟩
def fn9 : FnDY := ⟨Ad_f_format_book, "format_book", "format_book", defArgs s_format_book, defBody s_format_book, defScope s_format_book⟩
def fn10 : FnDY := ⟨Ad_f_is_free_name, "is_free_name", "is_free_name", defArgs s_is_free_name, defBody s_is_free_name, defScope s_is_free_name⟩
def fn11 : FnDY := ⟨Ad_f_read_facts, "read_facts", "read_facts", defArgs s_read_facts, defBody s_read_facts, defScope s_read_facts⟩
def fn12 : FnDY := ⟨Ad_f_read_ending, "read_ending", "read_ending", defArgs s_read_ending, defBody s_read_ending, defScope s_read_ending⟩
def fn13 : FnDY := ⟨Ad_f_read_part, "read_part", "read_part", defArgs s_read_part, defBody s_read_part, defScope s_read_part⟩
def fn14 : FnDY := ⟨Ad_f_read_signs, "read_signs", "read_signs", defArgs s_read_signs, defBody s_read_signs, defScope s_read_signs⟩
def fn15 : FnDY := ⟨Ad_f_read_rule, "read_rule", "read_rule", defArgs s_read_rule, defBody s_read_rule, defScope s_read_rule⟩
def fn16 : FnDY := ⟨Ad_f_rules_told, "rules_told", "rules_told", defArgs s_rules_told, defBody s_rules_told, defScope s_rules_told⟩
def fn17 : FnDY := ⟨Ad_f_parse_book, "parse_book", "parse_book", defArgs s_parse_book, defBody s_parse_book, defScope s_parse_book⟩
def fn18 : FnDY := ⟨Ad_f__law_mix, "_law_mix", "_law_mix", defArgs s__law_mix, defBody s__law_mix, defScope s__law_mix⟩
def fn19 : FnDY := ⟨Ad_f__law_next, "_law_next", "_law_next", defArgs s__law_next, defBody s__law_next, defScope s__law_next⟩
def fn20 : FnDY := ⟨Ad_f__law_alike, "_law_alike", "_law_alike", defArgs s__law_alike, defBody s__law_alike, defScope s__law_alike⟩
def fn21 : FnDY := ⟨Ad_f__law_facts, "_law_facts", "_law_facts", defArgs s__law_facts, defBody s__law_facts, defScope s__law_facts⟩
def fn22 : FnDY := ⟨Ad_f__law_sides, "_law_sides", "_law_sides", defArgs s__law_sides, defBody s__law_sides, defScope s__law_sides⟩
def fn23 : FnDY := ⟨Ad_f__law_rule, "_law_rule", "_law_rule", defArgs s__law_rule, defBody s__law_rule, defScope s__law_rule⟩
def fn24 : FnDY := ⟨Ad_f__law_drawn, "_law_drawn", "_law_drawn", defArgs s__law_drawn, defBody s__law_drawn, defScope s__law_drawn⟩
def fn25 : FnDY := ⟨Ad_f__law_made, "_law_made", "_law_made", defArgs s__law_made, defBody s__law_made, defScope s__law_made⟩
def fn26 : FnDY := ⟨Ad_f__law_book, "_law_book", "_law_book", defArgs s__law_book, defBody s__law_book, defScope s__law_book⟩
def fn27 : FnDY := ⟨Ad_f__law_told, "_law_told", "_law_told", defArgs s__law_told, defBody s__law_told, defScope s__law_told⟩
def fn28 : FnDY := ⟨Ad_f__law_seen, "_law_seen", "_law_seen", defArgs s__law_seen, defBody s__law_seen, defScope s__law_seen⟩
def fn29 : FnDY := ⟨Ad_f__law_words, "_law_words", "_law_words", defArgs s__law_words, defBody s__law_words, defScope s__law_words⟩
def fn30 : FnDY := ⟨Ad_f__law_rows_of, "_law_rows_of", "_law_rows_of", defArgs s__law_rows_of, defBody s__law_rows_of, defScope s__law_rows_of⟩
def fn31 : FnDY := ⟨Ad_f__law_text, "_law_text", "_law_text", defArgs s__law_text, defBody s__law_text, defScope s__law_text⟩
def fn32 : FnDY := ⟨Ad_f_law, "law", "law", defArgs s_law, defBody s_law, defScope s_law⟩
def fn33 : FnDY := ⟨Ad_f_mi, "__init__", "Condition.__init__", defArgs s_Condition___init__, defBody s_Condition___init__, defScope s_Condition___init__⟩
def fn34 : FnDY := ⟨Ad_f_mh, "holding", "Condition.holding", defArgs s_Condition_holding, defBody s_Condition_holding, defScope s_Condition_holding⟩
def fn35 : FnDY := ⟨Ad_f_mf, "failing", "Condition.failing", defArgs s_Condition_failing, defBody s_Condition_failing, defScope s_Condition_failing⟩
def fn36 : FnDY := ⟨Ad_f_mn, "names", "Condition.names", defArgs s_Condition_names, defBody s_Condition_names, defScope s_Condition_names⟩
def fn37 : FnDY := ⟨Ad_f_ri, "__init__", "Rule.__init__", defArgs s_Rule___init__, defBody s_Rule___init__, defScope s_Rule___init__⟩
def fn38 : FnDY := ⟨Ad_f_rn, "name", "Rule.name", defArgs s_Rule_name, defBody s_Rule_name, defScope s_Rule_name⟩
def fn39 : FnDY := ⟨Ad_f_rc, "condition", "Rule.condition", defArgs s_Rule_condition, defBody s_Rule_condition, defScope s_Rule_condition⟩
def fn40 : FnDY := ⟨Ad_f_rr, "ruling", "Rule.ruling", defArgs s_Rule_ruling, defBody s_Rule_ruling, defScope s_Rule_ruling⟩
def fn41 : FnDY := ⟨Ad_f_re, "exceptions", "Rule.exceptions", defArgs s_Rule_exceptions, defBody s_Rule_exceptions, defScope s_Rule_exceptions⟩
def fn42 : FnDY := ⟨Ad_f_rd, "depth", "Rule.depth", defArgs s_Rule_depth, defBody s_Rule_depth, defScope s_Rule_depth⟩
def fn43 : FnDY := ⟨Ad_f_bi, "__init__", "Book.__init__", defArgs s_Book___init__, defBody s_Book___init__, defScope s_Book___init__⟩
def fn44 : FnDY := ⟨Ad_f_bf, "facts", "Book.facts", defArgs s_Book_facts, defBody s_Book_facts, defScope s_Book_facts⟩
def fn45 : FnDY := ⟨Ad_f_bs, "rules", "Book.rules", defArgs s_Book_rules, defBody s_Book_rules, defScope s_Book_rules⟩
def fn46 : FnDY := ⟨Ad_f_br, "ruling", "Book.ruling", defArgs s_Book_ruling, defBody s_Book_ruling, defScope s_Book_ruling⟩
def fn47 : FnDY := ⟨Ad_f_wi, "__init__", "Words.__init__", defArgs s_Words___init__, defBody s_Words___init__, defScope s_Words___init__⟩
def fn48 : FnDY := ⟨Ad_f_wa, "ahead", "Words.ahead", defArgs s_Words_ahead, defBody s_Words_ahead, defScope s_Words_ahead⟩
def fn49 : FnDY := ⟨Ad_f_wc, "check", "Words.check", defArgs s_Words_check, defBody s_Words_check, defScope s_Words_check⟩
def fn50 : FnDY := ⟨Ad_f_wt, "take", "Words.take", defArgs s_Words_take, defBody s_Words_take, defScope s_Words_take⟩
def fn51 : FnDY := ⟨Ad_f_we, "check_end", "Words.check_end", defArgs s_Words_check_end, defBody s_Words_check_end, defScope s_Words_check_end⟩
def fn52 : FnDY := ⟨Ad_fIi0, (nf_InvalidFacts 0 0).name, (nf_InvalidFacts 0 0).qual, (nf_InvalidFacts 0 0).params, (nf_InvalidFacts 0 0).body, (nf_InvalidFacts 0 0).scope⟩
def fn53 : FnDY := ⟨Ad_fIi1, (nf_InvalidCondition 0 0).name, (nf_InvalidCondition 0 0).qual, (nf_InvalidCondition 0 0).params, (nf_InvalidCondition 0 0).body, (nf_InvalidCondition 0 0).scope⟩
def fn54 : FnDY := ⟨Ad_fIi2, (nf_InvalidRule 0 0).name, (nf_InvalidRule 0 0).qual, (nf_InvalidRule 0 0).params, (nf_InvalidRule 0 0).body, (nf_InvalidRule 0 0).scope⟩
def fn55 : FnDY := ⟨Ad_fIi3, (nf_InvalidBook 0 0).name, (nf_InvalidBook 0 0).qual, (nf_InvalidBook 0 0).params, (nf_InvalidBook 0 0).body, (nf_InvalidBook 0 0).scope⟩
def fn56 : FnDY := ⟨Ad_fIi4, (nf_NotWritable 0 0).name, (nf_NotWritable 0 0).qual, (nf_NotWritable 0 0).params, (nf_NotWritable 0 0).body, (nf_NotWritable 0 0).scope⟩
def ex_0 (K : PySem.W.Frag) : Bool := ([fun K => decide (Fx0 K), fun K => decide (Fx1 K), fun K => decide (Fx2 K), fun K => decide (Fx3 K), fun K => decide (Fx4 K), fun K => decide (Fx5 K), fun K => decide (Fx6 K)] : List (PySem.W.Frag → Bool)).all fun f => f K
def fn_0 : List FnDY := [fn0, fn1, fn2, fn3, fn4, fn5, fn6, fn7, fn8, fn9, fn10, fn11]
def tf_0 : List (PySem.W.Frag → Addr) := []
def ex_1 (K : PySem.W.Frag) : Bool := ([fun K => decide (Fx7 K), fun K => decide (Fx8 K), fun K => decide (Fx9 K), fun K => decide (Fx10 K), fun K => decide (Fx11 K), fun K => decide (Fx12 K), fun K => decide (Fx13 K)] : List (PySem.W.Frag → Bool)).all fun f => f K
def fn_1 : List FnDY := [fn12, fn13, fn14, fn15, fn16, fn17, fn18, fn19, fn20, fn21, fn22, fn23]
def tf_1 : List (PySem.W.Frag → Addr) := []
def ex_2 (K : PySem.W.Frag) : Bool := ([fun K => decide (Fx14 K), fun K => decide (Fx15 K), fun K => decide (Fx16 K), fun K => decide (Fx17 K), fun K => decide (Fx18 K), fun K => decide (Fx19 K), fun K => decide (Fx20 K)] : List (PySem.W.Frag → Bool)).all fun f => f K
def fn_2 : List FnDY := [fn24, fn25, fn26, fn27, fn28, fn29, fn30, fn31, fn32, fn33, fn34, fn35]
def tf_2 : List (PySem.W.Frag → Addr) := []
def ex_3 (K : PySem.W.Frag) : Bool := ([fun K => decide (Fx21 K), fun K => decide (Fx22 K), fun K => decide (Fx23 K), fun K => decide (Fx24 K), fun K => decide (Fx25 K), fun K => decide (Fx26 K), fun K => decide (Fx27 K)] : List (PySem.W.Frag → Bool)).all fun f => f K
def fn_3 : List FnDY := [fn36, fn37, fn38, fn39, fn40, fn41, fn42, fn43, fn44, fn45, fn46, fn47]
def tf_3 : List (PySem.W.Frag → Addr) := []
def ex_4 (K : PySem.W.Frag) : Bool := ([fun K => decide (Fx28 K), fun K => decide (Fx29 K), fun K => decide (Fx30 K), fun K => decide (Fx31 K)] : List (PySem.W.Frag → Bool)).all fun f => f K
def fn_4 : List FnDY := [fn48, fn49, fn50, fn51, fn52, fn53, fn54, fn55, fn56]
def tf_4 : List (PySem.W.Frag → Addr) := []
abbrev fnL : List FnDY := ((((fn_0 ++ fn_1) ++ fn_2) ++ fn_3) ++ fn_4)
abbrev tfL : List (PySem.W.Frag → Addr) := ((((tf_0 ++ tf_1) ++ tf_2) ++ tf_3) ++ tf_4)
abbrev exB : PySem.W.Frag → Bool := (fun K => (fun K => (fun K => (fun K => ex_0 K && ex_1 K) K && ex_2 K) K && ex_3 K) K && ex_4 K)
theorem mem_at {α : Type} {l : List α} {i : Nat} {a : α} (h : l[i]? = some a) : a ∈ l := List.mem_of_getElem? h
theorem all_at {K : PySem.W.Frag} {L : List (PySem.W.Frag → Bool)} (h : (L.all fun f => f K) = true) (i : Nat) {f : PySem.W.Frag → Bool} (e : L[i]? = some f) : f K = true := List.all_eq_true.mp h f (List.mem_of_getElem? e)
theorem more_0 {h : Heap} {K : PySem.W.Frag} (S : SaysY fnL tfL exB h K) : ex_0 K = true := (ba (ba (ba (ba S.more).1).1).1).1
theorem more_1 {h : Heap} {K : PySem.W.Frag} (S : SaysY fnL tfL exB h K) : ex_1 K = true := (ba (ba (ba (ba S.more).1).1).1).2
theorem more_2 {h : Heap} {K : PySem.W.Frag} (S : SaysY fnL tfL exB h K) : ex_2 K = true := (ba (ba (ba S.more).1).1).2
theorem more_3 {h : Heap} {K : PySem.W.Frag} (S : SaysY fnL tfL exB h K) : ex_3 K = true := (ba (ba S.more).1).2
theorem more_4 {h : Heap} {K : PySem.W.Frag} (S : SaysY fnL tfL exB h K) : ex_4 K = true := (ba S.more).2
theorem gx0 {h : Heap} {K : PySem.W.Frag} (S : SaysY fnL tfL exB h K) : Fx0 K := of_decide_eq_true (all_at (more_0 S) 0 rfl)
theorem gx1 {h : Heap} {K : PySem.W.Frag} (S : SaysY fnL tfL exB h K) : Fx1 K := of_decide_eq_true (all_at (more_0 S) 1 rfl)
theorem gx2 {h : Heap} {K : PySem.W.Frag} (S : SaysY fnL tfL exB h K) : Fx2 K := of_decide_eq_true (all_at (more_0 S) 2 rfl)
theorem gx3 {h : Heap} {K : PySem.W.Frag} (S : SaysY fnL tfL exB h K) : Fx3 K := of_decide_eq_true (all_at (more_0 S) 3 rfl)
theorem gx4 {h : Heap} {K : PySem.W.Frag} (S : SaysY fnL tfL exB h K) : Fx4 K := of_decide_eq_true (all_at (more_0 S) 4 rfl)
theorem gx5 {h : Heap} {K : PySem.W.Frag} (S : SaysY fnL tfL exB h K) : Fx5 K := of_decide_eq_true (all_at (more_0 S) 5 rfl)
theorem gx6 {h : Heap} {K : PySem.W.Frag} (S : SaysY fnL tfL exB h K) : Fx6 K := of_decide_eq_true (all_at (more_0 S) 6 rfl)
theorem gx7 {h : Heap} {K : PySem.W.Frag} (S : SaysY fnL tfL exB h K) : Fx7 K := of_decide_eq_true (all_at (more_1 S) 0 rfl)
theorem gx8 {h : Heap} {K : PySem.W.Frag} (S : SaysY fnL tfL exB h K) : Fx8 K := of_decide_eq_true (all_at (more_1 S) 1 rfl)
theorem gx9 {h : Heap} {K : PySem.W.Frag} (S : SaysY fnL tfL exB h K) : Fx9 K := of_decide_eq_true (all_at (more_1 S) 2 rfl)
theorem gx10 {h : Heap} {K : PySem.W.Frag} (S : SaysY fnL tfL exB h K) : Fx10 K := of_decide_eq_true (all_at (more_1 S) 3 rfl)
theorem gx11 {h : Heap} {K : PySem.W.Frag} (S : SaysY fnL tfL exB h K) : Fx11 K := of_decide_eq_true (all_at (more_1 S) 4 rfl)
theorem gx12 {h : Heap} {K : PySem.W.Frag} (S : SaysY fnL tfL exB h K) : Fx12 K := of_decide_eq_true (all_at (more_1 S) 5 rfl)
theorem gx13 {h : Heap} {K : PySem.W.Frag} (S : SaysY fnL tfL exB h K) : Fx13 K := of_decide_eq_true (all_at (more_1 S) 6 rfl)
theorem gx14 {h : Heap} {K : PySem.W.Frag} (S : SaysY fnL tfL exB h K) : Fx14 K := of_decide_eq_true (all_at (more_2 S) 0 rfl)
theorem gx15 {h : Heap} {K : PySem.W.Frag} (S : SaysY fnL tfL exB h K) : Fx15 K := of_decide_eq_true (all_at (more_2 S) 1 rfl)
theorem gx16 {h : Heap} {K : PySem.W.Frag} (S : SaysY fnL tfL exB h K) : Fx16 K := of_decide_eq_true (all_at (more_2 S) 2 rfl)
theorem gx17 {h : Heap} {K : PySem.W.Frag} (S : SaysY fnL tfL exB h K) : Fx17 K := of_decide_eq_true (all_at (more_2 S) 3 rfl)
theorem gx18 {h : Heap} {K : PySem.W.Frag} (S : SaysY fnL tfL exB h K) : Fx18 K := of_decide_eq_true (all_at (more_2 S) 4 rfl)
theorem gx19 {h : Heap} {K : PySem.W.Frag} (S : SaysY fnL tfL exB h K) : Fx19 K := of_decide_eq_true (all_at (more_2 S) 5 rfl)
theorem gx20 {h : Heap} {K : PySem.W.Frag} (S : SaysY fnL tfL exB h K) : Fx20 K := of_decide_eq_true (all_at (more_2 S) 6 rfl)
theorem gx21 {h : Heap} {K : PySem.W.Frag} (S : SaysY fnL tfL exB h K) : Fx21 K := of_decide_eq_true (all_at (more_3 S) 0 rfl)
theorem gx22 {h : Heap} {K : PySem.W.Frag} (S : SaysY fnL tfL exB h K) : Fx22 K := of_decide_eq_true (all_at (more_3 S) 1 rfl)
theorem gx23 {h : Heap} {K : PySem.W.Frag} (S : SaysY fnL tfL exB h K) : Fx23 K := of_decide_eq_true (all_at (more_3 S) 2 rfl)
theorem gx24 {h : Heap} {K : PySem.W.Frag} (S : SaysY fnL tfL exB h K) : Fx24 K := of_decide_eq_true (all_at (more_3 S) 3 rfl)
theorem gx25 {h : Heap} {K : PySem.W.Frag} (S : SaysY fnL tfL exB h K) : Fx25 K := of_decide_eq_true (all_at (more_3 S) 4 rfl)
theorem gx26 {h : Heap} {K : PySem.W.Frag} (S : SaysY fnL tfL exB h K) : Fx26 K := of_decide_eq_true (all_at (more_3 S) 5 rfl)
theorem gx27 {h : Heap} {K : PySem.W.Frag} (S : SaysY fnL tfL exB h K) : Fx27 K := of_decide_eq_true (all_at (more_3 S) 6 rfl)
theorem gx28 {h : Heap} {K : PySem.W.Frag} (S : SaysY fnL tfL exB h K) : Fx28 K := of_decide_eq_true (all_at (more_4 S) 0 rfl)
theorem gx29 {h : Heap} {K : PySem.W.Frag} (S : SaysY fnL tfL exB h K) : Fx29 K := of_decide_eq_true (all_at (more_4 S) 1 rfl)
theorem gx30 {h : Heap} {K : PySem.W.Frag} (S : SaysY fnL tfL exB h K) : Fx30 K := of_decide_eq_true (all_at (more_4 S) 2 rfl)
theorem gx31 {h : Heap} {K : PySem.W.Frag} (S : SaysY fnL tfL exB h K) : Fx31 K := of_decide_eq_true (all_at (more_4 S) 3 rfl)
theorem all_y {w : World} {K : PySem.W.Frag} {h : Heap} {mg : Str → Option Value} {fa : Addr} (X : K.In h) (G : h.Ns mainGlobals mg) (hfa : mg "law" = some (.ref fa)) (S : SaysY fnL tfL exB h K) : LamX.LawAtS theLaw w K CX0 32 63 "_law_script" mg fa h := by
  obtain ⟨_, _, _, _, _, _, _, _, l_is_name, y_l_is_name⟩ := fn_ok (S.fn 0 rfl) (gx0 S).2.1
  obtain ⟨_, _, _, _, _, _, _, _, l_rises, y_l_rises⟩ := fn_ok (S.fn 1 rfl) (gx0 S).2.2.2.2.1
  obtain ⟨_, _, _, _, _, _, _, _, l_check_facts, y_l_check_facts⟩ := fn_ok (S.fn 2 rfl) (gx0 S).2.2.2.2.2.2.2.1
  obtain ⟨_, _, _, _, _, _, _, _, l_nested, y_l_nested⟩ := fn_ok (S.fn 3 rfl) (gx0 S).2.2.2.2.2.2.2.2.2.2.1
  obtain ⟨_, _, _, _, _, _, _, _, l_check_rules, y_l_check_rules⟩ := fn_ok (S.fn 4 rfl) (gx1 S).2.1
  obtain ⟨_, _, _, _, _, _, _, _, l_check_part, y_l_check_part⟩ := fn_ok (S.fn 5 rfl) (gx1 S).2.2.2.2.1
  obtain ⟨_, _, _, _, _, _, _, _, l_merged, y_l_merged⟩ := fn_ok (S.fn 6 rfl) (gx1 S).2.2.2.2.2.2.2.1
  obtain ⟨_, _, _, _, _, _, _, _, l_words_of, y_l_words_of⟩ := fn_ok (S.fn 7 rfl) (gx1 S).2.2.2.2.2.2.2.2.2.2.1
  obtain ⟨_, _, _, _, _, _, _, _, l_check_writable, y_l_check_writable⟩ := fn_ok (S.fn 8 rfl) (gx2 S).2.1
  obtain ⟨_, _, _, _, _, _, _, _, l_format_book, y_l_format_book⟩ := fn_ok (S.fn 9 rfl) (gx2 S).2.2.2.2.1
  obtain ⟨_, _, _, _, _, _, _, _, l_is_free_name, y_l_is_free_name⟩ := fn_ok (S.fn 10 rfl) (gx2 S).2.2.2.2.2.2.2.1
  obtain ⟨_, _, _, _, _, _, _, _, l_read_facts, y_l_read_facts⟩ := fn_ok (S.fn 11 rfl) (gx2 S).2.2.2.2.2.2.2.2.2.2.1
  obtain ⟨_, _, _, _, _, _, _, _, l_read_ending, y_l_read_ending⟩ := fn_ok (S.fn 12 rfl) (gx3 S).2.1
  obtain ⟨_, _, _, _, _, _, _, _, l_read_part, y_l_read_part⟩ := fn_ok (S.fn 13 rfl) (gx3 S).2.2.2.2.1
  obtain ⟨_, _, _, _, _, _, _, _, l_read_signs, y_l_read_signs⟩ := fn_ok (S.fn 14 rfl) (gx3 S).2.2.2.2.2.2.2.1
  obtain ⟨_, _, _, _, _, _, _, _, l_read_rule, y_l_read_rule⟩ := fn_ok (S.fn 15 rfl) (gx3 S).2.2.2.2.2.2.2.2.2.2.1
  obtain ⟨_, _, _, _, _, _, _, _, l_rules_told, y_l_rules_told⟩ := fn_ok (S.fn 16 rfl) (gx4 S).2.1
  obtain ⟨_, _, _, _, _, _, _, _, l_parse_book, y_l_parse_book⟩ := fn_ok (S.fn 17 rfl) (gx4 S).2.2.2.2.1
  obtain ⟨_, _, _, _, _, _, _, _, l__law_mix, y_l__law_mix⟩ := fn_ok (S.fn 18 rfl) (gx4 S).2.2.2.2.2.2.2.1
  obtain ⟨_, _, _, _, _, _, _, _, l__law_next, y_l__law_next⟩ := fn_ok (S.fn 19 rfl) (gx4 S).2.2.2.2.2.2.2.2.2.2.1
  obtain ⟨_, _, _, _, _, _, _, _, l__law_alike, y_l__law_alike⟩ := fn_ok (S.fn 20 rfl) (gx5 S).2.1
  obtain ⟨_, _, _, _, _, _, _, _, l__law_facts, y_l__law_facts⟩ := fn_ok (S.fn 21 rfl) (gx5 S).2.2.2.2.1
  obtain ⟨_, _, _, _, _, _, _, _, l__law_sides, y_l__law_sides⟩ := fn_ok (S.fn 22 rfl) (gx5 S).2.2.2.2.2.2.2.1
  obtain ⟨_, _, _, _, _, _, _, _, l__law_rule, y_l__law_rule⟩ := fn_ok (S.fn 23 rfl) (gx5 S).2.2.2.2.2.2.2.2.2.2.1
  obtain ⟨_, _, _, _, _, _, _, _, l__law_drawn, y_l__law_drawn⟩ := fn_ok (S.fn 24 rfl) (gx6 S).2.1
  obtain ⟨_, _, _, _, _, _, _, _, l__law_made, y_l__law_made⟩ := fn_ok (S.fn 25 rfl) (gx6 S).2.2.2.2.1
  obtain ⟨_, _, _, _, _, _, _, _, l__law_book, y_l__law_book⟩ := fn_ok (S.fn 26 rfl) (gx6 S).2.2.2.2.2.2.2.1
  obtain ⟨_, _, _, _, _, _, _, _, l__law_told, y_l__law_told⟩ := fn_ok (S.fn 27 rfl) (gx6 S).2.2.2.2.2.2.2.2.2.2.1
  obtain ⟨_, _, _, _, _, _, _, _, l__law_seen, y_l__law_seen⟩ := fn_ok (S.fn 28 rfl) (gx7 S).2.1
  obtain ⟨_, _, _, _, _, _, _, _, l__law_words, y_l__law_words⟩ := fn_ok (S.fn 29 rfl) (gx7 S).2.2.2.2.1
  obtain ⟨_, _, _, _, _, _, _, _, l__law_rows_of, y_l__law_rows_of⟩ := fn_ok (S.fn 30 rfl) (gx7 S).2.2.2.2.2.2.2.1
  obtain ⟨_, _, _, _, _, _, _, _, l__law_text, y_l__law_text⟩ := fn_ok (S.fn 31 rfl) (gx7 S).2.2.2.2.2.2.2.2.2.2.1
  obtain ⟨_, _, _, _, _, _, _, _, l_law, y_l_law⟩ := fn_ok (S.fn 32 rfl) (gx8 S).2.1
  obtain ⟨_, pr_mh⟩ := rec_is (gx9 S).2.2.2.2.2.2.1
  obtain ⟨_, pr_mf⟩ := rec_is (gx9 S).2.2.2.2.2.2.2.2.2.2.1
  obtain ⟨_, pr_mn⟩ := rec_is (gx10 S).2.2.1
  obtain ⟨_, pr_rn⟩ := rec_is (gx11 S).2.2.2.2.2.2.2.2.2.1
  obtain ⟨_, pr_rc⟩ := rec_is (gx12 S).2.1
  obtain ⟨_, pr_rr⟩ := rec_is (gx12 S).2.2.2.2.2.1
  obtain ⟨_, pr_re⟩ := rec_is (gx12 S).2.2.2.2.2.2.2.2.2.1
  obtain ⟨_, pr_rd⟩ := rec_is (gx13 S).2.1
  obtain ⟨_, pr_bf⟩ := rec_is (gx14 S).2.2.2.2.2.2.1
  obtain ⟨_, pr_bs⟩ := rec_is (gx14 S).2.2.2.2.2.2.2.2.2.2.1
  obtain ⟨_, pr_br⟩ := rec_is (gx15 S).2.2.1
  obtain ⟨_, _, _, us_rs_l, hl_rs_l, rs_l⟩ := tup_is (gx17 S).2.2.2.2.2.1
  obtain ⟨_, _, _, _, _, rfl⟩ := len5 hl_rs_l
  obtain ⟨_, _, _, _, _, _, _, _, l_mi, y_l_mi⟩ := fn_ok (S.fn 33 rfl) (gx17 S).2.2.2.2.2.2.1
  obtain ⟨_, _, _, _, _, _, _, _, l_mh, y_l_mh⟩ := fn_ok (S.fn 34 rfl) (gx17 S).2.2.2.2.2.2.2.2.1
  obtain ⟨_, _, _, _, _, _, _, _, l_mf, y_l_mf⟩ := fn_ok (S.fn 35 rfl) (gx17 S).2.2.2.2.2.2.2.2.2.2.1
  obtain ⟨_, _, _, _, _, _, _, _, l_mn, y_l_mn⟩ := fn_ok (S.fn 36 rfl) (gx18 S).1
  obtain ⟨_, _, _, _, _, _, _, _, l_ri, y_l_ri⟩ := fn_ok (S.fn 37 rfl) (gx18 S).2.2.1
  obtain ⟨_, _, _, _, _, _, _, _, l_rn, y_l_rn⟩ := fn_ok (S.fn 38 rfl) (gx18 S).2.2.2.2.1
  obtain ⟨_, _, _, _, _, _, _, _, l_rc, y_l_rc⟩ := fn_ok (S.fn 39 rfl) (gx18 S).2.2.2.2.2.2.1
  obtain ⟨_, _, _, _, _, _, _, _, l_rr, y_l_rr⟩ := fn_ok (S.fn 40 rfl) (gx18 S).2.2.2.2.2.2.2.2.1
  obtain ⟨_, _, _, _, _, _, _, _, l_re, y_l_re⟩ := fn_ok (S.fn 41 rfl) (gx18 S).2.2.2.2.2.2.2.2.2.2.1
  obtain ⟨_, _, _, _, _, _, _, _, l_rd, y_l_rd⟩ := fn_ok (S.fn 42 rfl) (gx19 S).1
  obtain ⟨_, _, _, _, _, _, _, _, l_bi, y_l_bi⟩ := fn_ok (S.fn 43 rfl) (gx19 S).2.2.1
  obtain ⟨_, _, _, _, _, _, _, _, l_bf, y_l_bf⟩ := fn_ok (S.fn 44 rfl) (gx19 S).2.2.2.2.1
  obtain ⟨_, _, _, _, _, _, _, _, l_bs, y_l_bs⟩ := fn_ok (S.fn 45 rfl) (gx19 S).2.2.2.2.2.2.1
  obtain ⟨_, _, _, _, _, _, _, _, l_br, y_l_br⟩ := fn_ok (S.fn 46 rfl) (gx19 S).2.2.2.2.2.2.2.2.1
  obtain ⟨_, _, _, _, _, _, _, _, l_wi, y_l_wi⟩ := fn_ok (S.fn 47 rfl) (gx19 S).2.2.2.2.2.2.2.2.2.2.1
  obtain ⟨_, _, _, _, _, _, _, _, l_wa, y_l_wa⟩ := fn_ok (S.fn 48 rfl) (gx20 S).1
  obtain ⟨_, _, _, _, _, _, _, _, l_wc, y_l_wc⟩ := fn_ok (S.fn 49 rfl) (gx20 S).2.2.1
  obtain ⟨_, _, _, _, _, _, _, _, l_wt, y_l_wt⟩ := fn_ok (S.fn 50 rfl) (gx20 S).2.2.2.2.1
  obtain ⟨_, _, _, _, _, _, _, _, l_we, y_l_we⟩ := fn_ok (S.fn 51 rfl) (gx20 S).2.2.2.2.2.2.1
  obtain ⟨_, m_LETTERS⟩ := str_is (gx22 S).2.2.2.2.1
  obtain ⟨_, m_LONGEST_NAME⟩ := int_is (gx22 S).2.2.2.2.2.1
  obtain ⟨_, m_MOST_FACTS⟩ := int_is (gx22 S).2.2.2.2.2.2.1
  obtain ⟨_, m_MOST_NAMES⟩ := int_is (gx22 S).2.2.2.2.2.2.2.1
  obtain ⟨_, m_MOST_AROUND⟩ := int_is (gx22 S).2.2.2.2.2.2.2.2.1
  obtain ⟨_, m_MOST_RULES⟩ := int_is (gx22 S).2.2.2.2.2.2.2.2.2.1
  obtain ⟨_, m_MOST_OUTERMOST⟩ := int_is (gx22 S).2.2.2.2.2.2.2.2.2.2.1
  obtain ⟨_, m_SIGN⟩ := str_is (gx22 S).2.2.2.2.2.2.2.2.2.2.2
  obtain ⟨_, m_NUMBER_OF_FACTS⟩ := int_is (gx23 S).1
  obtain ⟨_, m_NUMBER_OF_BOOK⟩ := int_is (gx23 S).2.1
  obtain ⟨_, _, _, _, _, _, _, _, _, _, _, _, _, _, x_E⟩ := exc_is (gx24 S).2.2.2.2.2.2.2.2.2.2.2
  obtain ⟨_, _, _, _, _, _, _, _, _, _, _, _, _, _, i0_x⟩ := exc_is (gx25 S).2.2.2.1
  obtain ⟨_, _, _, _, _, _, _, _, i0_lI, y_i0_lI⟩ := fn_okC (S.fn 52 rfl) (gx25 S).2.2.2.2.2.2.2.2.2.2.1
  obtain ⟨_, _, _, i0_ce⟩ := cell_is (gx25 S).2.2.2.2.2.2.2.2.2.2.2
  obtain ⟨_, _, _, _, _, _, i0_co, i0_fi, i0_fe⟩ := file_is (gx26 S).1
  obtain ⟨_, _, _, _, _, _, _, _, _, _, _, _, _, _, i1_x⟩ := exc_is (gx26 S).2.2.2.2.2.2.1
  obtain ⟨_, _, _, _, _, _, _, _, i1_lI, y_i1_lI⟩ := fn_okC (S.fn 53 rfl) (gx27 S).2.1
  obtain ⟨_, _, _, i1_ce⟩ := cell_is (gx27 S).2.2.1
  obtain ⟨_, _, _, _, _, _, i1_co, i1_fi, i1_fe⟩ := file_is (gx27 S).2.2.2.1
  obtain ⟨_, _, _, _, _, _, _, _, _, _, _, _, _, _, i2_x⟩ := exc_is (gx27 S).2.2.2.2.2.2.2.2.2.2.1
  obtain ⟨_, _, _, _, _, _, _, _, i2_lI, y_i2_lI⟩ := fn_okC (S.fn 54 rfl) (gx28 S).2.2.2.2.2.1
  obtain ⟨_, _, _, i2_ce⟩ := cell_is (gx28 S).2.2.2.2.2.2.1
  obtain ⟨_, _, _, _, _, _, i2_co, i2_fi, i2_fe⟩ := file_is (gx28 S).2.2.2.2.2.2.2.1
  obtain ⟨_, _, _, _, _, _, _, _, _, _, _, _, _, _, i3_x⟩ := exc_is (gx29 S).2.1
  obtain ⟨_, _, _, _, _, _, _, _, i3_lI, y_i3_lI⟩ := fn_okC (S.fn 55 rfl) (gx29 S).2.2.2.2.2.2.2.2.1
  obtain ⟨_, _, _, i3_ce⟩ := cell_is (gx29 S).2.2.2.2.2.2.2.2.2.1
  obtain ⟨_, _, _, _, _, _, i3_co, i3_fi, i3_fe⟩ := file_is (gx29 S).2.2.2.2.2.2.2.2.2.2.1
  obtain ⟨_, _, _, _, _, _, _, _, _, _, _, _, _, _, i4_x⟩ := exc_is (gx30 S).2.2.2.2.2.1
  obtain ⟨_, _, _, _, _, _, _, _, i4_lI, y_i4_lI⟩ := fn_okC (S.fn 56 rfl) (gx31 S).1
  obtain ⟨_, _, _, i4_ce⟩ := cell_is (gx31 S).2.1
  obtain ⟨_, _, _, _, _, _, i4_co, i4_fi, i4_fe⟩ := file_is (gx31 S).2.2.1
  exact all_mk (l := theLaw) (P := theRow.prog) (celi0 := (Ad_celi0 K)) (codi0 := (Ad_codi0 K)) (celi1 := (Ad_celi1 K)) (codi1 := (Ad_codi1 K)) (celi2 := (Ad_celi2 K)) (codi2 := (Ad_codi2 K)) (celi3 := (Ad_celi3 K)) (codi3 := (Ad_codi3 K)) (celi4 := (Ad_celi4 K)) (codi4 := (Ad_codi4 K))  rfl X G hfa (gx0 S).1 l_is_name y_l_is_name (gx0 S).2.2.1 (gx0 S).2.2.2.1 l_rises y_l_rises (gx0 S).2.2.2.2.2.1 (gx0 S).2.2.2.2.2.2.1 l_check_facts y_l_check_facts (gx0 S).2.2.2.2.2.2.2.2.1 (gx0 S).2.2.2.2.2.2.2.2.2.1 l_nested y_l_nested (gx0 S).2.2.2.2.2.2.2.2.2.2.2 (gx1 S).1 l_check_rules y_l_check_rules (gx1 S).2.2.1 (gx1 S).2.2.2.1 l_check_part y_l_check_part (gx1 S).2.2.2.2.2.1 (gx1 S).2.2.2.2.2.2.1 l_merged y_l_merged (gx1 S).2.2.2.2.2.2.2.2.1 (gx1 S).2.2.2.2.2.2.2.2.2.1 l_words_of y_l_words_of (gx1 S).2.2.2.2.2.2.2.2.2.2.2 (gx2 S).1 l_check_writable y_l_check_writable (gx2 S).2.2.1 (gx2 S).2.2.2.1 l_format_book y_l_format_book (gx2 S).2.2.2.2.2.1 (gx2 S).2.2.2.2.2.2.1 l_is_free_name y_l_is_free_name (gx2 S).2.2.2.2.2.2.2.2.1 (gx2 S).2.2.2.2.2.2.2.2.2.1 l_read_facts y_l_read_facts (gx2 S).2.2.2.2.2.2.2.2.2.2.2 (gx3 S).1 l_read_ending y_l_read_ending (gx3 S).2.2.1 (gx3 S).2.2.2.1 l_read_part y_l_read_part (gx3 S).2.2.2.2.2.1 (gx3 S).2.2.2.2.2.2.1 l_read_signs y_l_read_signs (gx3 S).2.2.2.2.2.2.2.2.1 (gx3 S).2.2.2.2.2.2.2.2.2.1 l_read_rule y_l_read_rule (gx3 S).2.2.2.2.2.2.2.2.2.2.2 (gx4 S).1 l_rules_told y_l_rules_told (gx4 S).2.2.1 (gx4 S).2.2.2.1 l_parse_book y_l_parse_book (gx4 S).2.2.2.2.2.1 (gx4 S).2.2.2.2.2.2.1 l__law_mix y_l__law_mix (gx4 S).2.2.2.2.2.2.2.2.1 (gx4 S).2.2.2.2.2.2.2.2.2.1 l__law_next y_l__law_next (gx4 S).2.2.2.2.2.2.2.2.2.2.2 (gx5 S).1 l__law_alike y_l__law_alike (gx5 S).2.2.1 (gx5 S).2.2.2.1 l__law_facts y_l__law_facts (gx5 S).2.2.2.2.2.1 (gx5 S).2.2.2.2.2.2.1 l__law_sides y_l__law_sides (gx5 S).2.2.2.2.2.2.2.2.1 (gx5 S).2.2.2.2.2.2.2.2.2.1 l__law_rule y_l__law_rule (gx5 S).2.2.2.2.2.2.2.2.2.2.2 (gx6 S).1 l__law_drawn y_l__law_drawn (gx6 S).2.2.1 (gx6 S).2.2.2.1 l__law_made y_l__law_made (gx6 S).2.2.2.2.2.1 (gx6 S).2.2.2.2.2.2.1 l__law_book y_l__law_book (gx6 S).2.2.2.2.2.2.2.2.1 (gx6 S).2.2.2.2.2.2.2.2.2.1 l__law_told y_l__law_told (gx6 S).2.2.2.2.2.2.2.2.2.2.2 (gx7 S).1 l__law_seen y_l__law_seen (gx7 S).2.2.1 (gx7 S).2.2.2.1 l__law_words y_l__law_words (gx7 S).2.2.2.2.2.1 (gx7 S).2.2.2.2.2.2.1 l__law_rows_of y_l__law_rows_of (gx7 S).2.2.2.2.2.2.2.2.1 (gx7 S).2.2.2.2.2.2.2.2.2.1 l__law_text y_l__law_text (gx7 S).2.2.2.2.2.2.2.2.2.2.2 (gx8 S).1 l_law y_l_law (gx8 S).2.2.1 (gx8 S).2.2.2.1 (gx8 S).2.2.2.2.1 (gx8 S).2.2.2.2.2.1 (gx8 S).2.2.2.2.2.2.1 (gx8 S).2.2.2.2.2.2.2.1 (gx8 S).2.2.2.2.2.2.2.2.1 (gx8 S).2.2.2.2.2.2.2.2.2.1 (gx8 S).2.2.2.2.2.2.2.2.2.2.1 (gx8 S).2.2.2.2.2.2.2.2.2.2.2 (gx9 S).1 (gx9 S).2.1 (gx9 S).2.2.1 (gx9 S).2.2.2.1 (gx9 S).2.2.2.2.1 (gx9 S).2.2.2.2.2.1 pr_mh (gx9 S).2.2.2.2.2.2.2.1 (gx9 S).2.2.2.2.2.2.2.2.1 (gx9 S).2.2.2.2.2.2.2.2.2.1 pr_mf (gx9 S).2.2.2.2.2.2.2.2.2.2.2 (gx10 S).1 (gx10 S).2.1 pr_mn (gx10 S).2.2.2.1 (gx10 S).2.2.2.2.1 (gx10 S).2.2.2.2.2.1 (gx10 S).2.2.2.2.2.2.1 (gx10 S).2.2.2.2.2.2.2.1 (gx10 S).2.2.2.2.2.2.2.2.1 (gx10 S).2.2.2.2.2.2.2.2.2.1 (gx10 S).2.2.2.2.2.2.2.2.2.2.1 (gx10 S).2.2.2.2.2.2.2.2.2.2.2 (gx11 S).1 (gx11 S).2.1 (gx11 S).2.2.1 (gx11 S).2.2.2.1 (gx11 S).2.2.2.2.1 (gx11 S).2.2.2.2.2.1 (gx11 S).2.2.2.2.2.2.1 (gx11 S).2.2.2.2.2.2.2.1 (gx11 S).2.2.2.2.2.2.2.2.1 pr_rn (gx11 S).2.2.2.2.2.2.2.2.2.2.1 (gx11 S).2.2.2.2.2.2.2.2.2.2.2 (gx12 S).1 pr_rc (gx12 S).2.2.1 (gx12 S).2.2.2.1 (gx12 S).2.2.2.2.1 pr_rr (gx12 S).2.2.2.2.2.2.1 (gx12 S).2.2.2.2.2.2.2.1 (gx12 S).2.2.2.2.2.2.2.2.1 pr_re (gx12 S).2.2.2.2.2.2.2.2.2.2.1 (gx12 S).2.2.2.2.2.2.2.2.2.2.2 (gx13 S).1 pr_rd (gx13 S).2.2.1 (gx13 S).2.2.2.1 (gx13 S).2.2.2.2.1 (gx13 S).2.2.2.2.2.1 (gx13 S).2.2.2.2.2.2.1 (gx13 S).2.2.2.2.2.2.2.1 (gx13 S).2.2.2.2.2.2.2.2.1 (gx13 S).2.2.2.2.2.2.2.2.2.1 (gx13 S).2.2.2.2.2.2.2.2.2.2.1 (gx13 S).2.2.2.2.2.2.2.2.2.2.2 (gx14 S).1 (gx14 S).2.1 (gx14 S).2.2.1 (gx14 S).2.2.2.1 (gx14 S).2.2.2.2.1 (gx14 S).2.2.2.2.2.1 pr_bf (gx14 S).2.2.2.2.2.2.2.1 (gx14 S).2.2.2.2.2.2.2.2.1 (gx14 S).2.2.2.2.2.2.2.2.2.1 pr_bs (gx14 S).2.2.2.2.2.2.2.2.2.2.2 (gx15 S).1 (gx15 S).2.1 pr_br (gx15 S).2.2.2.1 (gx15 S).2.2.2.2.1 (gx15 S).2.2.2.2.2.1 (gx15 S).2.2.2.2.2.2.1 (gx15 S).2.2.2.2.2.2.2.1 (gx15 S).2.2.2.2.2.2.2.2.1 (gx15 S).2.2.2.2.2.2.2.2.2.1 (gx15 S).2.2.2.2.2.2.2.2.2.2.1 (gx15 S).2.2.2.2.2.2.2.2.2.2.2 (gx16 S).1 (gx16 S).2.1 (gx16 S).2.2.1 (gx16 S).2.2.2.1 (gx16 S).2.2.2.2.1 (gx16 S).2.2.2.2.2.1 (gx16 S).2.2.2.2.2.2.1 (gx16 S).2.2.2.2.2.2.2.1 (gx16 S).2.2.2.2.2.2.2.2.1 (gx16 S).2.2.2.2.2.2.2.2.2.1 (gx16 S).2.2.2.2.2.2.2.2.2.2.1 (gx16 S).2.2.2.2.2.2.2.2.2.2.2 (gx17 S).1 (gx17 S).2.1 (gx17 S).2.2.1 (gx17 S).2.2.2.1 (gx17 S).2.2.2.2.1 rs_l l_mi y_l_mi (gx17 S).2.2.2.2.2.2.2.1 l_mh y_l_mh (gx17 S).2.2.2.2.2.2.2.2.2.1 l_mf y_l_mf (gx17 S).2.2.2.2.2.2.2.2.2.2.2 l_mn y_l_mn (gx18 S).2.1 l_ri y_l_ri (gx18 S).2.2.2.1 l_rn y_l_rn (gx18 S).2.2.2.2.2.1 l_rc y_l_rc (gx18 S).2.2.2.2.2.2.2.1 l_rr y_l_rr (gx18 S).2.2.2.2.2.2.2.2.2.1 l_re y_l_re (gx18 S).2.2.2.2.2.2.2.2.2.2.2 l_rd y_l_rd (gx19 S).2.1 l_bi y_l_bi (gx19 S).2.2.2.1 l_bf y_l_bf (gx19 S).2.2.2.2.2.1 l_bs y_l_bs (gx19 S).2.2.2.2.2.2.2.1 l_br y_l_br (gx19 S).2.2.2.2.2.2.2.2.2.1 l_wi y_l_wi (gx19 S).2.2.2.2.2.2.2.2.2.2.2 l_wa y_l_wa (gx20 S).2.1 l_wc y_l_wc (gx20 S).2.2.2.1 l_wt y_l_wt (gx20 S).2.2.2.2.2.1 l_we y_l_we (gx20 S).2.2.2.2.2.2.2.1 (gx20 S).2.2.2.2.2.2.2.2.1 (gx20 S).2.2.2.2.2.2.2.2.2.1 (gx20 S).2.2.2.2.2.2.2.2.2.2.1 (gx20 S).2.2.2.2.2.2.2.2.2.2.2 (gx21 S).1 (gx21 S).2.1 (gx21 S).2.2.1 (gx21 S).2.2.2.1 (gx21 S).2.2.2.2.1 (gx21 S).2.2.2.2.2.1 (gx21 S).2.2.2.2.2.2.1 (gx21 S).2.2.2.2.2.2.2.1 (gx21 S).2.2.2.2.2.2.2.2.1 (gx21 S).2.2.2.2.2.2.2.2.2.1 (gx21 S).2.2.2.2.2.2.2.2.2.2.1 (gx21 S).2.2.2.2.2.2.2.2.2.2.2 (gx22 S).1 (gx22 S).2.1 (gx22 S).2.2.1 (gx22 S).2.2.2.1 m_LETTERS m_LONGEST_NAME m_MOST_FACTS m_MOST_NAMES m_MOST_AROUND m_MOST_RULES m_MOST_OUTERMOST m_SIGN m_NUMBER_OF_FACTS m_NUMBER_OF_BOOK (gx23 S).2.2.1 (gx23 S).2.2.2.1 (gx23 S).2.2.2.2.1 (gx23 S).2.2.2.2.2.1 (gx23 S).2.2.2.2.2.2.1 (gx23 S).2.2.2.2.2.2.2.1 (gx23 S).2.2.2.2.2.2.2.2.1 (gx23 S).2.2.2.2.2.2.2.2.2.1 (gx23 S).2.2.2.2.2.2.2.2.2.2.1 (gx23 S).2.2.2.2.2.2.2.2.2.2.2 (gx24 S).1 (gx24 S).2.1 (gx24 S).2.2.1 (gx24 S).2.2.2.1 (gx24 S).2.2.2.2.1 (gx24 S).2.2.2.2.2.1 (gx24 S).2.2.2.2.2.2.1 (gx24 S).2.2.2.2.2.2.2.1 (gx24 S).2.2.2.2.2.2.2.2.1 (gx24 S).2.2.2.2.2.2.2.2.2.1 (gx24 S).2.2.2.2.2.2.2.2.2.2.1 x_E (gx25 S).1 (gx25 S).2.1 (gx25 S).2.2.1 i0_x (gx25 S).2.2.2.2.1 (gx25 S).2.2.2.2.2.1 (gx25 S).2.2.2.2.2.2.1 (gx25 S).2.2.2.2.2.2.2.1 (gx25 S).2.2.2.2.2.2.2.2.1 (gx25 S).2.2.2.2.2.2.2.2.2.1 i0_lI y_i0_lI i0_ce i0_co i0_fi i0_fe (gx26 S).2.1 (gx26 S).2.2.1 (gx26 S).2.2.2.1 (gx26 S).2.2.2.2.1 (gx26 S).2.2.2.2.2.1 i1_x (gx26 S).2.2.2.2.2.2.2.1 (gx26 S).2.2.2.2.2.2.2.2.1 (gx26 S).2.2.2.2.2.2.2.2.2.1 (gx26 S).2.2.2.2.2.2.2.2.2.2.1 (gx26 S).2.2.2.2.2.2.2.2.2.2.2 (gx27 S).1 i1_lI y_i1_lI i1_ce i1_co i1_fi i1_fe (gx27 S).2.2.2.2.1 (gx27 S).2.2.2.2.2.1 (gx27 S).2.2.2.2.2.2.1 (gx27 S).2.2.2.2.2.2.2.1 (gx27 S).2.2.2.2.2.2.2.2.1 (gx27 S).2.2.2.2.2.2.2.2.2.1 i2_x (gx27 S).2.2.2.2.2.2.2.2.2.2.2 (gx28 S).1 (gx28 S).2.1 (gx28 S).2.2.1 (gx28 S).2.2.2.1 (gx28 S).2.2.2.2.1 i2_lI y_i2_lI i2_ce i2_co i2_fi i2_fe (gx28 S).2.2.2.2.2.2.2.2.1 (gx28 S).2.2.2.2.2.2.2.2.2.1 (gx28 S).2.2.2.2.2.2.2.2.2.2.1 (gx28 S).2.2.2.2.2.2.2.2.2.2.2 (gx29 S).1 i3_x (gx29 S).2.2.1 (gx29 S).2.2.2.1 (gx29 S).2.2.2.2.1 (gx29 S).2.2.2.2.2.1 (gx29 S).2.2.2.2.2.2.1 (gx29 S).2.2.2.2.2.2.2.1 i3_lI y_i3_lI i3_ce i3_co i3_fi i3_fe (gx29 S).2.2.2.2.2.2.2.2.2.2.2 (gx30 S).1 (gx30 S).2.1 (gx30 S).2.2.1 (gx30 S).2.2.2.1 (gx30 S).2.2.2.2.1 i4_x (gx30 S).2.2.2.2.2.2.1 (gx30 S).2.2.2.2.2.2.2.1 (gx30 S).2.2.2.2.2.2.2.2.1 (gx30 S).2.2.2.2.2.2.2.2.2.1 (gx30 S).2.2.2.2.2.2.2.2.2.2.1 (gx30 S).2.2.2.2.2.2.2.2.2.2.2 i4_lI y_i4_lI i4_ce i4_co i4_fi i4_fe (gx31 S).2.2.2.1 (gx31 S).2.2.2.2.1 (gx31 S).2.2.2.2.2.1 (gx31 S).2.2.2.2.2.2.1 (gx31 S).2.2.2.2.2.2.2 (by kernel_rfl)
def nameOf (s : Stmt) : List Str := match s with
  | .FunctionDef n .. => [n]
  | .ClassDef n .. => [n]
  | .Assign [.Name n _] _ _ => [n]
  | _ => []
def lawI : Nat := theRow.prog.main.body.length - 1
def names : List Str := (theRow.prog.main.body.take lawI).flatMap nameOf
def asL : List Addr := [3, 2, 31, 53, 74, 95, 107, 128, 149, 161, 182, 203, 319, 423, 516, 584, 0, 6, 30, 52, 73, 94, 106, 127, 148, 160, 181, 202, 318, 422, 515, 583, 589, 19, 21, 48, 50, 69, 71, 90] ++ [92, 123, 125, 144, 146, 177, 179, 198, 200, 208, 210, 215, 217, 222, 224, 229, 231, 236, 238, 243, 245, 248, 250, 260, 262, 269, 277, 285, 293, 301, 307, 309, 314, 316, 333, 335, 342, 350, 358, 364] ++ [372, 378, 380, 383, 385, 390, 392, 397, 399, 404, 406, 411, 413, 418, 420, 432, 434, 437, 439, 444, 446, 458, 460, 467, 475, 483, 487, 489, 494, 496, 499, 501, 506, 508, 511, 513, 525, 527, 530, 532] ++ [544, 546, 551, 553, 558, 560, 565, 567, 572, 574, 579, 581, 592, 594, 597, 599, 604, 606, 609, 611, 616, 618, 623, 625, 628, 630, 635, 637, 642, 644, 647, 649, 654, 656, 661, 663, 668, 670, 673, 675] ++ [680, 682, 687, 689, 694, 696, 701, 703, 708, 710, 715, 717, 722, 724, 729, 731, 736, 738, 743, 745, 748, 750, 755, 757, 38, 59, 80, 113, 134, 167, 188, 20, 32, 49, 70, 91, 124, 145, 178, 199] ++ [209, 216, 223, 230, 237, 244, 249, 261, 268, 270, 276, 278, 284, 286, 292, 294, 300, 302, 308, 315, 320, 321, 334, 341, 343, 349, 351, 357, 359, 363, 365, 371, 373, 379, 384, 391, 398, 405, 412, 419] ++ [424, 425, 433, 438, 445, 459, 466, 468, 474, 476, 482, 484, 488, 495, 500, 507, 512, 517, 518, 526, 531, 545, 552, 559, 566, 573, 580, 585, 586, 593, 598, 605, 610, 617, 624, 629, 636, 643, 648, 655] ++ [662, 669, 674, 681, 688, 695, 702, 709, 716, 723, 730, 737, 744, 749, 756, 4]
abbrev hk : PySem.W.Hook := hookY asL fnL tfL exB
def ob (s : PySem.W.SharedT) : AlY := obsY asL fnL tfL exB (HandSHeadRun.getT s)
theorem ob_eq (s : PySem.W.SharedT) : ob s = hk.obs s.abs := obsY_eq (HandSHeadRun.getT_eq s)
theorem run_0 (w : World) : HandSHeadRun.RunEq theRow (PySem.W.view theRow.prog [lawI]) (hookY asL fn_0 tf_0 ex_0) (fun s => obsY asL fn_0 tf_0 ex_0 (HandSHeadRun.getT s)) 9000 names w := by
  intro os
  kernel_rfl
theorem run_1 (w : World) : HandSHeadRun.RunEq theRow (PySem.W.view theRow.prog [lawI]) (hookY asL fn_1 tf_1 ex_1) (fun s => obsY asL fn_1 tf_1 ex_1 (HandSHeadRun.getT s)) 9000 names w := by
  intro os
  kernel_rfl
theorem run_2 (w : World) : HandSHeadRun.RunEq theRow (PySem.W.view theRow.prog [lawI]) (hookY asL fn_2 tf_2 ex_2) (fun s => obsY asL fn_2 tf_2 ex_2 (HandSHeadRun.getT s)) 9000 names w := by
  intro os
  kernel_rfl
theorem run_3 (w : World) : HandSHeadRun.RunEq theRow (PySem.W.view theRow.prog [lawI]) (hookY asL fn_3 tf_3 ex_3) (fun s => obsY asL fn_3 tf_3 ex_3 (HandSHeadRun.getT s)) 9000 names w := by
  intro os
  kernel_rfl
theorem run_4 (w : World) : HandSHeadRun.RunEq theRow (PySem.W.view theRow.prog [lawI]) (hookY asL fn_4 tf_4 ex_4) (fun s => obsY asL fn_4 tf_4 ex_4 (HandSHeadRun.getT s)) 9000 names w := by
  intro os
  kernel_rfl
theorem run (w : World) : HandSHeadRun.RunEq theRow (PySem.W.view theRow.prog [lawI]) hk ob 9000 names w := run_join (run_join (run_join (run_join (run_0 w) (run_1 w)) (run_2 w)) (run_3 w)) (run_4 w)
end Sc
open PySem PySem.W PySem.Calls PyProof.Rows
theorem PySem.Challenge.cw_smallcourt_k55_whole_texts_of_books_holds : PySem.Challenge.rw_smallcourt_k55_whole_texts_of_books.Holds := by
  w_on; o_law
  refine HandSHeadRun.head_any (r := Sc.theRow) (q := view Sc.theRow.prog [Sc.lawI]) (H := Sc.hk) (ob := Sc.ob) (M := 9000) (loose := Sc.names) (d := HandSHeadRun.topDef Sc.theRow.prog Sc.lawI) (kwd := []) Sc.ob_eq (by kernel_rfl) (fun s => by kernel_rfl) Sc.run (by kernel_rfl) (by kernel_rfl) (by kernel_rfl) (by rfl) (by first | assumption | decide +kernel) (by decide +kernel) ⟨rfl, rfl, rfl, rfl, rfl, by decide +kernel⟩ ?hw ?hc
  case hw => w_witness2
  case hc =>
    refine LamX.walk_ofTsE (l := Sc.theLaw) (n := 63) (k := 32) (CX := fun _ => L2.CX0) (x := "_law_script") rfl (by decide) (by kernel_rfl) ⟨rfl, by decide, by decide⟩ ?F (fun _ _ _ _ _ z => z)
    intro w mg fa h Y G hmg0
    obtain ⟨K, KX, c⟩ := Y
    have hmg : mg ("law" : PySem.Str) = some (.ref fa) := by
      have e : (HandSHeadRun.topDef Sc.theRow.prog Sc.lawI).name = ("law" : PySem.Str) := by kernel_rfl
      rw [← e]
      exact hmg0
    exact ⟨K, KX, Sc.all_y KX G hmg c⟩
