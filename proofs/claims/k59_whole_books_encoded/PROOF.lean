import PyProof.Rows.All
import Wide.All
import OpenK.AllK
import Wide.FinOn
import KE.GoesMore
import HandS.Iter
import KE.KExcSuper
import HandS.Nested
import HandS.ExcInit
import HandS.FStr
import HandS.ForMost
import HandS.ForExc
import HandS.EndTab
import HandS.IsInst
import HandS.SetFor
import HandS.ExcIs
import HandS.ExcField
import HandS.TupAny
import HandS.Wide
import HandS.WideBits
import HandS.Walk
import HandS.Deep
import KE.KExcIs
import PySem.Challenge.RW_smallcourt_k59_whole_books_encoded
import HandS.Property
import HandS.NamedTupGet
import HandS.More
import HandS.SlotsOwn
import KE.KOpsOwn
import KE.KCallOwn
import HandS.WordsExc
import HandS.Style
import HandS.Replace
import HandS.Strs
import PyProof.EqKinds
import PyProof.NeKinds
import HandS.ReCall
import HandS.Head2
import HandS.HeadHook4
import HandS.HeadWalk
set_option Elab.async false
set_option linter.all false
set_option maxRecDepth 100000
set_option maxHeartbeats 4000000
namespace Sc
open PySem PySem.Spec PySem.Calls PyProof.Rows L2
/-! ### enumerate(tuple) -/
theorem enumT_new (l : Addr) (items : Array Value) (n : Nat) (dct : Option Addr) (sl : Array (Option Value)) :
    Meets (Builtin.«enumerate.__new__» ⟨[.type "enumerate", .ref l], []⟩) (fun _ R s =>
      s.heap.get? l = some { cls := .type "tuple", dict := dct, data := .seq items n, slots := sl } ∧
      R (.ok (.ret (.ref (s.heap.objs.size + 1)))) { s with heap := (s.heap.push { cls := .type "tuple_iterator", data := .fields #[.ref l, .int 0 0] }).push { cls := .type "enumerate", data := .fields #[.none, .bool false, .ref s.heap.objs.size, rawInt 0, .none, .none] } }) :=
  .of_wp fun prog w A R s h => by
    obtain ⟨hp, g, d, tk, os⟩ := s
    obtain ⟨hl, hR⟩ := h
    have hsub := sub_enumerate
    have hT : Heap.IsTuple hp l items := ⟨_, hl, rfl, n, rfl⟩
    have hz : (hp.push { cls := .type "tuple_iterator", data := .fields #[.ref l, .int 0 0] }).objs.size = hp.objs.size + 1 := Heap.size_push ..
    rw [← hz] at hR
    have it1 : ∀ {A' : Around} {E : Value → Shared → Prop} {Q : Value → Shared → Prop}, Q (.ref hp.objs.size) ⟨hp.push { cls := .type "tuple_iterator", data := .fields #[.ref l, .int 0 0] }, g, d, tk, os⟩ →
        wpAny (model prog w) A' (pyIter (.ref l)) Q E ⟨hp, g, d, tk, os⟩ := fun q => wpAny_pyIter_tuple (s := ⟨hp, g, d, tk, os⟩) hT q
    wp_walk using AutoSeq1.wpAny_loadPart' hl, it1
    refine wpAny_stack_any fun st => wpAny_pure ?_
    split
    · rename_i c _ _ _ _ _
      cases (c == Value.type "enumerate") <;>
      · wp_walk using AutoSeq1.wpAny_loadPart' hl, it1
        exact ⟨_, rfl, hR⟩
    · wp_walk using AutoSeq1.wpAny_loadPart' hl, it1
      exact ⟨_, rfl, hR⟩
section
variable {prog : Program} {w : World} {A : Around} {E : Value → Shared → Prop} {s : Shared}
theorem enumT_call {l : Addr} {items : Array Value} {Q : Value → Shared → Prop} (hL : s.heap.IsTuple l items)
    (h : ∀ h', IsEnum h' (s.heap.objs.size + 1) s.heap.objs.size 0 .none → h'.IsTupleIter s.heap.objs.size l 0 → (∀ b o, s.heap.get? b = some o → h'.get? b = some o) →
      Q (.ref (s.heap.objs.size + 1)) { s with heap := h' }) : wpAny (model prog w) A (call (.type "enumerate") [.ref l]) Q E s := by
  obtain ⟨⟨c, dct, dt, sl⟩, hl, hc, n, hd⟩ := hL
  dsimp only at hc hd
  subst hc hd
  refine callType_new F.called_enumerate (by decide) (F.typeCall_enumerate_1 _) (F.newCall_enumerate_1 _) (fun obj => F.args_object_init_2 obj _) F.entry_enumerate_new (enumT_new l items n dct sl) ⟨hl, ?_⟩
  have hz : (s.heap.push { cls := .type "tuple_iterator", data := .fields #[.ref l, .int 0 0] }).objs.size = s.heap.objs.size + 1 := Heap.size_push ..
  have he := Heap.get?_push_size (s.heap.push { cls := .type "tuple_iterator", data := .fields #[.ref l, .int 0 0] })
    (o := { cls := .type "enumerate", data := .fields #[.none, .bool false, .ref s.heap.objs.size, rawInt 0, .none, .none] }) rfl
  rw [hz] at he
  exact ⟨⟨_, he, rfl⟩, h _ he ⟨_, Heap.get?_push_of_some _ (Heap.get?_push_size _ rfl), rfl, rfl⟩ fun b o x => Heap.get?_push_of_some _ (Heap.get?_push_of_some _ x)⟩
end
/-- the tuple at a, each item in a new pair -/
def IteT (K : PySem.W.Frag) (a : Addr) : It where
  go := fun i H => ∃ (xs : List V) (x : V), SqT K H a xs ∧ xs[i]? = some x
  yld := fun i H v H' => ∃ T x, v = .ref T ∧ H T = none ∧ H' = upd H T (.tup [.int (i : Nat), x]) ∧ ∀ xs, SqT K H a xs → xs[i]? = some x
  stop := fun i H => ∃ xs : List V, SqT K H a xs ∧ xs.length ≤ i
theorem enumT_turn {P : Program} {w : World} {K : PySem.W.Frag} {elts : List Expr} {kk : Nat} {tpos : Pos} (a e it : Addr) :
    Turn P w K (.Tuple elts kk tpos) (IteT K a) [e, it] e (fun i h => (∃ old, IsEnum h e it ((i : Nat) : Int) old) ∧ h.IsTupleIter it a i ∧ e ≠ it) where
  mem := List.mem_cons_self
  obj := fun i h st b hb => by
    obtain ⟨⟨old, he⟩, ⟨o, ho, hc, hd⟩, _⟩ := st
    rcases List.mem_cons.mp hb with rfl | hb
    · exact ⟨_, he, fun v q => nomatch q⟩
    · rcases List.mem_cons.mp hb with rfl | hb
      · exact ⟨o, ho, fun v q => by rw [hd] at q; cases q⟩
      · cases hb
  keep := fun i h h' st k => by
    obtain ⟨⟨old, he⟩, hi, hne⟩ := st
    exact ⟨⟨old, k e (by simp) _ he⟩, hi.at fun o q => k it (by simp) o q, hne⟩
  item := by
    intro X hP hw hK hc i pins s σ H E I hf st hg
    subst hP hw hK
    obtain ⟨⟨old, he⟩, hit, hne⟩ := st
    obtain ⟨xs, x, hq, hx⟩ := hg
    obtain ⟨its, rv, p, hz⟩ := I.tuple hq
    obtain ⟨u, hu, ru⟩ := rv.get hx
    have hel : e < s.heap.objs.size := Heap.lt_size he
    have hil : it < s.heap.objs.size := by obtain ⟨_, q, _⟩ := hit; exact Heap.lt_size q
    have p' : s.heap.IsTuple a its.toArray := p
    have hae : a ≠ e := fun z => by
      obtain ⟨o, ho, hcl, n, hd⟩ := p'
      rw [z, he] at ho
      cases ho
      cases hd
    have hai : a ≠ it := fun z => by
      obtain ⟨o, ho, hcl, n, hd⟩ := p'
      obtain ⟨o2, ho2, hcl2, hd2⟩ := hit
      rw [z, ho2] at ho
      cases ho
      rw [hd2] at hd
      cases hd
    have hlt : i < its.toArray.size := by
      rw [List.size_toArray]
      exact (List.getElem?_eq_some_iff.mp hu).1
    refine wpAny_pyNext_enum_itemD (Draws.tuple (A := X.A.in1) (I.ok.hd hc) it a hai its.toArray) he ⟨hit, p'⟩ hlt hne (by simp [hne, hae.symm]) fun y h' tk hy ho st' hT hsz hk => ?_
    obtain ⟨hit', hp'⟩ := st'
    have ey : y = u := by
      have z : its.toArray[i]? = some u := by simpa using hu
      rw [hy] at z
      exact Option.some.inj z
    subst ey
    refine ⟨_, rfl, wpAny_letOwnedTupleGo_enum (s := { s with heap := h', toks := tk + 1 }) ho fun h'' he' sb => ?_⟩
    have hT2 : h''.get? s.heap.objs.size = some { cls := .type "tuple", data := .seq #[.int i tk, y] } := (sb.2 _ (Nat.ne_of_gt hel)).trans hT
    have new : ObjOk X.prog X.w (upd H s.heap.objs.size (.tup [.int (i : Nat), x])) h'' s.heap.objs.size (.tup [.int (i : Nat), x]) :=
      ⟨by show 2 ≤ sizeLine; decide, [.int i tk, y], .cons ⟨_, rfl⟩ (.cons ru .nil), ⟨_, hT2, rfl, _, rfl⟩⟩
    have I1 : Inv X pins σ (upd H s.heap.objs.size (.tup [.int (i : Nat), x])) { s with heap := h'', toks := tk + 1 } :=
      I.turnedNew (ch := [e, it]) (fun b ob hb q => (sb.2 b (fun z => hb (by simp [z]))).trans (hk b ob (fun z => hb (by simp [z])) (fun z => hb (by simp [z])) q)) hf (Nat.le_refl _) new
    refine ⟨.ref s.heap.objs.size, _, I1, rfl, ⟨_, x, rfl, I.hok.fresh (Nat.le_refl _), rfl, fun ys hy => by rw [I.tuple_inj hy hq]; exact hx⟩, ⟨⟨y, ?_⟩, hit'.at fun o q => (sb.2 it (Ne.symm hne)).trans q, hne⟩, fun b hb => ?_⟩
    · have e1 : ((i + 1 : Nat) : Int) = (i : Int) + 1 := by omega
      rw [e1]
      exact he'
    · have hb' : b < s.heap.objs.size := by
        rcases List.mem_cons.mp hb with rfl | hb
        · exact hel
        · rcases List.mem_cons.mp hb with rfl | hb
          · exact hil
          · cases hb
      rw [upd_ne (Nat.ne_of_lt hb')]
      exact (hf b hb).1
  done := by
    intro X hP hw hK hc i pins s σ H E I hf st hg
    subst hP hw hK
    obtain ⟨⟨old, he⟩, hit, hne⟩ := st
    obtain ⟨xs, hq, hx⟩ := hg
    obtain ⟨its, rv, p, hz⟩ := I.tuple hq
    obtain ⟨f0, f1, f2, f3, f4, f5⟩ := hf it (by simp)
    have hl := rv.length
    have p' : s.heap.IsTuple a its.toArray := p
    have hai : a ≠ it := fun z => by
      obtain ⟨o, ho, hcl, n, hd⟩ := p'
      obtain ⟨o2, ho2, hcl2, hd2⟩ := hit
      rw [z, ho2] at ho
      cases ho
      rw [hd2] at hd
      cases hd
    have D : Draws X.prog X.w X.A.in1 it [it, a] i (fun _ _ => True) (fun j h => h.IsTupleIter it a j ∧ h.IsTuple a its.toArray ∧ j = i) :=
      { live := fun _ _ st => let ⟨o, ho, _⟩ := st.1; ⟨o, ho⟩
        frame := fun _ _ _ st hk => ⟨st.1.at fun o e => hk it (by simp) o e, st.2.1.at fun o e => hk a (by simp) o e, st.2.2⟩
        item := fun j s Q E hj stj hQ => absurd hj (by rw [stj.2.2]; exact Nat.lt_irrefl i)
        done := fun s Q E stj hE => wpAny_nextOf_tuple_end (I.ok.hd hc) stj.1 stj.2.1 (by simp; omega) hE }
    exact wpAny_pyNext_enum_endD D he ⟨hit, p', rfl⟩ fun h' eb => ⟨rfl, I.turned (t' := s.toks) (fun b o hb q => eb b o hb q) f0 f1 f3 f4 f5⟩
  self := fun A i s Q E st h => by
    obtain ⟨⟨_, he⟩, _⟩ := st
    exact wpAny_pyIter_enum he h
def iEnumT (K : PySem.W.Frag) (ta : TA) : TI := fun σ H R => ta σ H fun vs H1 => ∃ a xs, vs = [.ref a] ∧ SqT K H1 a xs ∧ R (IteT K a) H1
theorem pi_enumT {X : Cx} {e : Expr} {ta : TA} {p pos tpos : Pos} {elts : List Expr} {kk : Nat} (hg : Gl X "enumerate") (hm : X.mg "enumerate" = none) (ha : PA X [e] ta) (hs : starEach [e] X.env = [(false, eval e X.env)] := by rfl) :
    PI X (.Tuple elts kk tpos) (.Call (.Name "enumerate" p) [e] [] pos) (iEnumT X.K ta) := by
  refine ⟨fun pins s σ H R I h => ?_⟩
  refine Call_ (ld_blt I hg hm boot_enumerate (PyProof.Rows.callWith_type1 (thn (ha.run pos pins s σ H _ I h) fun us s1 ⟨vs, H1, I1, r1, a, xs, ex, hq, q⟩ => ?_) hs rfl))
  subst ex
  cases r1 with
  | cons r rr =>
    cases rr
    cases r
    obtain ⟨its, rv, p', hz⟩ := I1.tuple hq
    refine enumT_call (show s1.heap.IsTuple a its.toArray from p') fun h' he hit hk => wpAny_pyIter_enum he ?_
    have I2 : Inv X pins σ H1 { s1 with heap := h' } := I1.kept (t' := s1.toks) hk
    refine ⟨s1.heap.objs.size + 1, [s1.heap.objs.size + 1, s1.heap.objs.size], _, _, H1, rfl, I2, enumT_turn a (s1.heap.objs.size + 1) s1.heap.objs.size, ⟨⟨.none, he⟩, hit, Nat.succ_ne_self _⟩, fun b hb => ?_, q⟩
    have hle : s1.heap.objs.size ≤ b := by
      rcases List.mem_cons.mp hb with rfl | hb
      · exact Nat.le_succ _
      · rcases List.mem_cons.mp hb with rfl | hb
        · exact Nat.le_refl _
        · cases hb
    exact I1.fpOk hle (I1.hok.fresh hle)
end Sc
namespace Sc
open PySem PySem.Spec PySem.Calls PyProof.Rows L2 NdefX
/-! ### super().__init__(..) in an own error's __init__ -/
/-- what the written part tells for super() in the __init__ of the class at C: cc its cell, cda the code object of __init__ -/
structure SupC (prog : Program) (K : PySem.W.Frag) (mg : Str → Option Value) (C cc cda : Addr) : Prop where
  cell : ∃ cl cld csl, K.lookup cc = some ⟨cl, cld, .cell (some (.ref C)), csl⟩
  code : ∃ ccl cdd vs ccs file tf, K.lookup cda = some ⟨ccl, cdd, .fields vs, ccs⟩ ∧ vs[2]? = some (.str file tf) ∧ ((prog.main.file : Str) == file) = true
  sub : PySem.W.mroIn K C (.ref C) = some true
  noS : mg "super" = none
  opq : PySem.W.nsIn K cStatics "thirdparty.any" = some none
  up : PySem.W.ks_superIn K C C "__init__" = some (some (.builtin "ValueError.__init__"))
  isB : PySem.W.subIn K (.ref C) (.type "ValueError") = some true
  top : (prog.main.scope.names.lookup ("super" : Str)).isSome = false
section
variable {X : Cx} {pins : List (Addr × Obj)} {σ : L2.St} {H : Hp} {s : Shared} {a C cc cda f : Addr}
theorem sup_bound {u : Addr} {us : List Value} {A : Around} {E : Value → Shared → Prop} {Q : Value → Shared → Prop} (T : OexC X.K C) (I : Inv X pins σ H s) (e : H a = some (exo a C none)) (hu : s.heap.get? u = some (PySem.W.kxs_mw "ValueError.__init__" a)) (hl : us.length ≤ sizeLine)
    (h : ∀ s', Inv X pins σ H s' → Q .none s') : wpAny (model X.prog X.w) A (call (.ref u) us) Q E s := by
  obtain ⟨nm, q, N, bs, bm, sn, sub, ab, col, dd, k0, k1, k2, k3, k5, hC, hbm⟩ := T.cls
  obtain ⟨t1, ho⟩ := exo_at I.hok e
  have hC' := I.kIn _ _ hC
  obtain ⟨hp, g, d, tk, os⟩ := s
  refine wpAny_call (codeAny_of_tree ?_)
  show wpAny _ A.in1 (callAny (.ref u) ⟨us, []⟩) _ _ _
  simp only [callAny]
  refine wpAny_bind (wpAny_load hu ?_)
  have b1 : (Value.type "method-wrapper" == Value.type "method" || Value.type "method-wrapper" == Value.type "builtin_function_or_method" || Value.type "method-wrapper" == Value.type "method-wrapper") = true := by decide
  simp only [PySem.W.kxs_mw, b1, if_true]
  refine PySem.W.KFB.if_so (by decide) (wpAny_bind (PySem.W.check_bound_init PySem.F.excBase_ValueError.toExcCallFacts hC' ho rfl (wpAny_bind (wpAny_pure (wpAny_pure ?_)))))
  refine ⟨plainId_quiet PySem.F.excBase_ValueError.init.plain _, codeAny_builtin PySem.F.excBase_ValueError.initEntry ?_⟩
  refine PySem.W.exc_init_tree (cls := .ref C) (t0 := t1) (dv := none) (c2 := .none) (c3 := .none) (b4 := .bool false) ho hl fun h' k hx _ => ?_
  have J := I.write (t' := tk) (x := a) (e := a) (o := exo a C none) (by rw [e]; exact True.intro) (.inl rfl) k ⟨_, hx⟩ (exo_ok hx)
  have eu : upd H a (exo a C none) = H := funext fun b => by
    by_cases hb : b = a
    · rw [hb, upd_same, e]
    · rw [upd_ne hb]
  rw [eu] at J
  exact h _ J
theorem at_super {pl : Sem Bool} {body : List Stmt} {e : Expr} {es : List Expr} {ta : TA} {D : Ends} {p0 p1 p2 p3 p4 : Pos} {fd : FuncData} {ar : Arg} {oc : Value} {od : Option Addr} {osl : Array (Option Value)}
    (T : OexC X.K C) (S : SupC X.prog X.K X.mg C cc cda) (hks : X.env.kindOf "super" = some .globalImplicit) (hkc : X.env.kindOf "__class__" = some .free) (hcl : X.env.cells.lookup ("__class__" : Str) = some cc)
    (hfu : X.env.func = some f) (hco : X.env.code = .ref cda) (lk : X.K.lookup f = some ⟨oc, od, .func fd, osl⟩) (hp : (fd.params.posonlyargs ++ fd.params.args).head? = some ar) (hN0 : X.N[0]? = some ar.arg) (hka : X.env.kindOf ar.arg = some .local)
    (hA : PA X (e :: es) ta) (I : Inv X pins σ H s) (hσ : σ[0]? = some (some (.ref a))) (ha : H a = some (exo a C none)) (q : ta σ H fun vs H1 => vs.length ≤ 1000 ∧ H1 a = some (exo a C none) ∧ D.nx σ H1)
    (he : starEach (e :: es) X.env = (false, eval e X.env) :: starEach es X.env := by rfl) (hpl : (backTo p3 (starEach es X.env)).any (·.1) = false := by rfl) (hi : interactive X.env = false := by rfl)
    (hev : eval (.Call (.Attribute (.Call (.Name "super" p0) [] [] p1) "__init__" p2) (e :: es) [] p3) X.env = (do
      let ov ← attributeBase (.Call (.Name "super" p0) [] [] p1) "__init__" X.env (eval (.Call (.Name "super" p0) [] [] p1) X.env)
      standAt p2.atName
      let (g, first) ← holding [ov] (getMethod ov "__init__" pl)
      callWith p3 g first (backTo p3 (starEach (e :: es) X.env)) []) := by rfl) (hsw : swapsWith (.Call (.Attribute (.Call (.Name "super" p0) [] [] p1) "__init__" p2) (e :: es) [] p3) none p4.line X.env = pure false := by rfl) :
    PySem.wpAt (model X.prog X.w) X.A (.func body X.env) (exec (.Expr (.Call (.Attribute (.Call (.Name "super" p0) [] [] p1) "__init__" p2) (e :: es) [] p3) p4) X.env) (SP X pins D) X.xe s := by
  obtain ⟨cl, cld, csl, hcell⟩ := S.cell
  obtain ⟨ccl, cdd, vs, ccs, file, tf, hcode, hvs, hfile⟩ := S.code
  have KX := I.kIn
  refine ks_wpAt_Expr_any (ks_wpAt_MethodCall (pl := pl) ?_ hev) hi hsw
  refine ks_wpAt_super_base hks hkc (by decide) hfu (KX _ _ lk) rfl hp hco (KX _ _ hcode) rfl hvs hfile S.top ?_
  obtain ⟨mb, b1, b2⟩ := I.mod.blt
  refine PySem.W.ks_loadName_global I.ok.kind hks (Calls.loadGlobal_builtin (v := .type "super") (by rw [I.ok.glob]; exact I.mod.glob.keeps I.bk) S.noS (by rw [I.ok.blt]; exact b1.keeps I.bk) ((b2 _ (by decide +kernel)).trans (by decide +kernel)) ⟨rfl, ?_⟩)
  refine wpAny_loadName_free I.ok.kind hkc hcl ⟨_, KX _ _ hcell, rfl⟩ ?_
  obtain ⟨m, hn, hloc⟩ := I.loc
  obtain ⟨u, ru, hlook⟩ := hloc 0 ar.arg (.ref a) hN0 hσ (.inl hka)
  obtain rfl : u = Value.ref a := ru
  have hm : m ar.arg = some (.ref a) := by
    rcases hlook with ⟨_, z⟩ | ⟨z, _⟩
    · exact z
    · rcases z with z | z <;> rw [show X.env.kindOf ar.arg = _ from hka] at z <;> cases z
  refine wpAny_loadName_local I.ok.kind hka hn hm ?_
  obtain ⟨nm, qn, N, bs, bm, sn, sub, ab, col, dd, k0, k1, k2, k3, k5, hC, hbm⟩ := T.cls
  have hcls : PySem.W.clsIn X.K C = some { name := nm, bases := bs, mro := .ref C :: bm, ns := N, qualname := qn, hasDict := true, slotNames := sn, subclasses := sub, abstract := ab, collection := col, hasDel := false } := by unfold PySem.W.clsIn; rw [hC] <;> rfl
  obtain ⟨t1, ho⟩ := exo_at I.hok ha
  have hC' := KX _ _ hC
  have ex := S.up
  unfold PySem.W.ks_superIn at ex
  rw [hcls] at ex
  obtain ⟨hp', g, d, tk, os⟩ := s
  refine ks_wpAny_isType_cls hC' rfl ⟨rfl, ?_⟩
  refine ks_wpAny_call_super hC' rfl ho rfl (fun c z => nomatch z) (PySem.W.looks_mroIn KX S.sub) (fun h' e1 k => ?_)
  have I1 : Inv X pins σ H ⟨h', g, d, tk, os⟩ := I.kept (t' := tk) k
  have IA : PySem.W.InstAt h' a { cls := .ref C, dict := none, data := .fields #[.ref t1, .none, .none, .none, .bool false, .none] } C none := ⟨k _ _ ho, rfl, rfl, trivial⟩
  have hIs : PySem.W.Looks (model X.prog X.w) h' (isInstance (.ref a) (.type "ValueError")) true := IA.type.andThen (PySem.W.looks_subIn I1.kIn S.isB)
  refine PySem.W.kxs_getMethod PySem.W.kxs_ValueError e1 (PySem.W.looks_opaque I1.kIn S.opq) (l₀ := .ref C :: bm) (fun A Q E s k q => wpAny_bind ((PySem.W.looks_clsIn I1.kIn hcls) A _ E s k (wpAny_pure q))) rfl I1.kIn ex hIs (PySem.W.ks_ne I1.kIn IA hcls) (by decide) ?_
  have I2 : Inv X pins σ H ⟨h'.push (PySem.W.kxs_mw "ValueError.__init__" a), g, d, tk + 1, os⟩ := I1.kept (t' := tk + 1) fun b o z => Heap.get?_push_of_some _ z
  have hu : (h'.push (PySem.W.kxs_mw "ValueError.__init__" a)).get? h'.objs.size = some (PySem.W.kxs_mw "ValueError.__init__" a) := Heap.get?_push_at rfl rfl
  have hun : H h'.objs.size = none := I1.hok.fresh (Nat.le_refl _)
  have hunf : h'.objs.size ∉ X.fs ∧ h'.objs.size ≠ X.env.locals := ⟨I1.nofs (Nat.le_refl _), fun z => Nat.lt_irrefl _ (by have := I1.lt; rw [← z] at this; exact this)⟩
  have I3 : Inv X ((h'.objs.size, PySem.W.kxs_mw "ValueError.__init__" a) :: pins) σ H ⟨h'.push (PySem.W.kxs_mw "ValueError.__init__" a), g, d, tk + 1, os⟩ := I2.pins_of fun p hp => by
    rcases List.mem_cons.mp hp with rfl | hp
    · exact ⟨hu, hun, hunf.2, hunf.1, fun v z => nomatch z⟩
    · exact I2.pin p (List.mem_append_right _ hp)
  rw [he]
  refine PySem.W.kxs_callWith (i := "ValueError.__init__") (x := a) (first := []) (by show (false || (backTo p3 (starEach es X.env)).any (·.1)) = false; rw [hpl]; rfl) (evalArgs_plain ?_)
  show wpAny _ _ (spliced (backTo p3 ((false, eval e X.env) :: starEach es X.env))) _ _ _
  rw [← he]
  refine thn (hA.run p3 _ _ σ H _ I3 q) fun us s1 ⟨vs, H1, I4, r1, hl, e4, q4⟩ => ?_
  have I5 : Inv X pins σ H1 s1 := I4.pins_of fun p hp => I4.pin p (List.mem_append_right _ (.tail _ hp))
  have hu4 := (I4.pin _ (List.mem_append_right _ List.mem_cons_self)).1
  refine ⟨hu4, ?_⟩
  refine sup_bound T I5 e4 hu4 (by show us.length ≤ sizeLine; rw [← Paired.length r1, sizeLine_eq]; omega) fun s' J => ?_
  exact ⟨σ, H1, J, q4⟩
end
/-! ### the __init__ as a def -/
/-- the reading of a body that begins with super().__init__(e ..) -/
def tInit (C : Addr) (ta : TA) (tr : TS) : TS := fun D σ H => ∃ a : Addr, σ[0]? = some (some (.ref a)) ∧ H a = some (exo a C none) ∧ ta σ H fun vs H1 => vs.length ≤ 1000 ∧ H1 a = some (exo a C none) ∧ tr D σ H1
section
variable {P : Program} {w : World} {K : PySem.W.Frag} {mg : Str → Option Value} {base : Heap} {N ps : List Str} {F : NF} {f C cc : Addr} {k : Nat} {sp : Sp} {kV doc pm ct oc : Value} {an od : Option Addr} {osl : Array (Option Value)}
/-- the def's data as it stands -/
abbrev supFd (F : NF) (kV doc pm : Value) (an : Option Addr) (ct : Value) : FuncData := PySem.W.fnX F.name F.qual F.params F.body F.scope F.cl .none kV doc pm an (.ref F.c) ct
theorem fn_sup {e : Expr} {es : List Expr} {rest : List Stmt} {ar : Arg} {p0 p1 p2 p3 p4 : Pos} (lk : K.lookup f = some ⟨oc, od, .func (supFd F kV doc pm an ct), osl⟩) (hcd : PySem.W.codeIn K (.ref F.c) F.qual = true) (hcl : F.cl = [(("__class__" : Str), cc)])
    (SC : NScope N ps ["__class__"] F.scope) (T : OexC K C) (S : SupC P K mg C cc F.c) (len : ∀ vs H Q E, sp vs H Q E → vs.length = ps.length)
    (hbd : F.body = .Expr (.Call (.Attribute (.Call (.Name "super" p0) [] [] p1) "__init__" p2) (e :: es) [] p3) p4 :: rest)
    (hp : (F.params.posonlyargs ++ F.params.args).head? = some ar) (hN0 : N[0]? = some ar.arg) (hka : F.scope.names.lookup ar.arg = some .local) (hks : F.scope.names.lookup ("super" : Str) = some .globalImplicit)
    (hbody : ∀ (A : Around) (outer : List Env) (s : Shared) (H : Hp) (vs : List V) (Q : VK) (E : XK), Room k (A.deeper (envF F f s.heap.objs.size)) → sp vs H Q E →
      ∃ ta tr, PA (ncx CX0 P w K mg base N F f A outer s H E) (e :: es) ta ∧ PSs (ncx CX0 P w K mg base N F f A outer s H E) rest tr ∧ tInit C ta tr { nx := fun _ H' => Q .non H', rt := Q } (startF N vs [none]) H)
    (hev : ∀ L, ∃ pl, eval (.Call (.Attribute (.Call (.Name "super" p0) [] [] p1) "__init__" p2) (e :: es) [] p3) (envF F f L) = (do
      let ov ← attributeBase (.Call (.Name "super" p0) [] [] p1) "__init__" (envF F f L) (eval (.Call (.Name "super" p0) [] [] p1) (envF F f L))
      standAt p2.atName
      let (g, first) ← holding [ov] (getMethod ov "__init__" pl)
      callWith p3 g first (backTo p3 (starEach (e :: es) (envF F f L))) []))
    (hsw : ∀ L, swapsWith (.Call (.Attribute (.Call (.Name "super" p0) [] [] p1) "__init__" p2) (e :: es) [] p3) none p4.line (envF F f L) = pure false) (he : ∀ L, starEach (e :: es) (envF F f L) = (false, eval e (envF F f L)) :: starEach es (envF F f L))
    (hpl : ∀ L, (backTo p3 (starEach es (envF F f L))).any (·.1) = false) (hi : ∀ L, interactive (envF F f L) = false) :
    FnOk P w K mg base CX0 (k + 1) f (supFd F kV doc pm an ct) ps sp := by
  refine ⟨len, fun A outer s H args us vs Q E hr e0 hb r hsp => ?_⟩
  have hl := len _ _ _ _ hsp
  have KX : K.In s.heap := e0.mod.kin.keeps fun b o e => (e0.bs b o e).1
  have lim : s.heap.NoLimit := e0.mod.nolimit.keeps fun b o e => (e0.bs b o e).1
  obtain ⟨cl, cld, csl, hcell⟩ := S.cell
  have hcH : H cc = none := by
    have z := e0.mod.kin _ _ hcell
    exact (e0.bs _ _ z).2
  have CA : CellsAt F.cl ["__class__"] [none] s.heap H := by
    rw [hcl]
    refine ⟨rfl, fun y c h => ?_, fun x y c h1 h2 => ?_, fun i y h => ?_⟩
    · have q : y = ("__class__" : Str) ∧ c = cc := by
        simp only [List.lookup] at h
        split at h
        · rename_i z; exact ⟨by simpa using z, (Option.some.inj h).symm⟩
        · cases h
      rw [q.2]
      exact ⟨hcH, some (.ref C), ⟨_, KX _ _ hcell, rfl⟩⟩
    · have q : ∀ z, List.lookup z [(("__class__" : Str), cc)] = some c → z = ("__class__" : Str) := fun z h => by
        simp only [List.lookup] at h
        split at h
        · rename_i z; simpa using z
        · cases h
      rw [q x h1, q y h2]
    · cases i with
      | zero =>
        have q : y = ("__class__" : Str) := (Option.some.inj h).symm
        subst q
        exact ⟨cc, by simp [List.lookup], fun v z => by cases z⟩
      | succ i => simp at h
  refine ks_codeAny_call_defAt (fd := supFd F kV doc pm an ct) (body := F.body) (binds := ps.zip us) hr.depth (KX _ _ lk) rfl lim (PySem.W.codeRec_of KX hcd) rfl hb SC.nocell (fun ⟨n, _⟩ hy => SC.par n (List.of_mem_zip hy).1) (fun h₁ hns kp => ?_) SC.co SC.gen SC.kind
  obtain ⟨ta, tr, hta, htr, a, hσ, ha, q⟩ := hbody A outer s H vs Q E (hr.deeper _) hsp
  have I : Inv (ncx CX0 P w K mg base N F f A outer s H E) [] (startF N vs [none]) H { s with heap := h₁, toks := s.toks + (ps.zip us).length } := inv_startN SC hr.hd e0 hl r CA hns kp
  obtain ⟨pl, hev⟩ := hev s.heap.objs.size
  have fin : ∀ {s' : Shared} {σ' : L2.St} {H' : Hp} {v : V} {u : Value}, Inv (ncx CX0 P w K mg base N F f A outer s H E) [] σ' H' s' → L2.RelV v u → Q v H' → CE outer P w H s Q u s' :=
    fun {s' σ' H' v u} J rv q => ⟨v, H', J.os, J.bare, J.base, J.hok, rv, q⟩
  rw [hbd]
  refine ks_wpAt_execs_cons (ks_wpAt_mono (at_super (X := ncx CX0 P w K mg base N F f A outer s H E) (D := { nx := fun σ' H' => tr { nx := fun _ H' => Q .non H', rt := Q } σ' H', rt := fun _ _ => False }) (pl := pl) (f := f) (ar := ar) (fd := supFd F kV doc pm an ct) T S hks (SC.frk _ List.mem_cons_self) (by show F.cl.lookup _ = _; rw [hcl]; simp [List.lookup]) rfl rfl lk hp hN0 hka hta I hσ ha q (he _) (hpl _) (hi _) hev (hsw _)) (fun fl s' hs => ?_) fun _ _ z => z)
  cases fl with
  | ret u =>
    obtain ⟨_, _, _, _, _, z⟩ := hs
    exact z.elim
  | brk =>
    obtain ⟨_, _, _, z⟩ := hs
    exact z.elim
  | cont =>
    obtain ⟨_, _, _, z⟩ := hs
    exact z.elim
  | next =>
    obtain ⟨σ', H', J, z⟩ := hs
    refine PySem.wpAt_of_wpAny (wpAny_mono (htr.run [] s' σ' H' _ J z) (fun fl2 s2 h2 => ?_) fun _ _ y => y)
    cases fl2 with
    | ret u =>
      obtain ⟨v, σ2, H2, J2, rv, q2⟩ := h2
      exact fin J2 rv q2
    | next =>
      obtain ⟨σ2, H2, J2, q2⟩ := h2
      exact fin (v := V.non) (u := Value.none) J2 rfl q2
    | brk =>
      obtain ⟨_, _, _, q2⟩ := h2
      exact q2.elim
    | cont =>
      obtain ⟨_, _, _, q2⟩ := h2
      exact q2.elim
end
end Sc
namespace Sc
open PySem PySem.Spec PyProof.Rows L2
/-- the built-ins are not hidden -/
structure Blt (mg : Str → Option Value) : Prop where
  b_isinstance : mg "isinstance" = none
  b_len : mg "len" = none
  b_all : mg "all" = none
  b_any : mg "any" = none
  b_sum : mg "sum" = none
  b_max : mg "max" = none
  b_min : mg "min" = none
  b_int : mg "int" = none
  b_str : mg "str" = none
  b_bool : mg "bool" = none
  b_list : mg "list" = none
  b_tuple : mg "tuple" = none
  b_dict : mg "dict" = none
  b_range : mg "range" = none
  b_enumerate : mg "enumerate" = none
  b_sorted : mg "sorted" = none
  b_reversed : mg "reversed" = none
  b_zip : mg "zip" = none
  b_set : mg "set" = none
  b_ValueError : mg "ValueError" = none
/-- a def as its callers see it -/
structure Cal (P : Program) (w : World) (K : PySem.W.Frag) (mg : Str → Option Value) (base : Heap) (CX : CXT) (k : Nat) (x : Str) (ps : List Str) (sp : Sp) : Prop where
  ex : ∃ (f : Addr) (fd : FuncData), FnOk P w K mg base CX k f fd ps sp ∧ mg x = some (.ref f) ∧ PySem.W.keepIn K (.ref f) = true ∧ Binds K fd ps []
section
variable {X : Cx} {k : Nat} {x : Str} {ps : List Str} {sp : Sp} {e : Expr} {es : List Expr} {t : TA} {p pos : Pos}
theorem pe_cal (C : Cal X.prog X.w X.K X.mg X.base CX0 k x ps sp) (hr : Room k X.A) (ha : PA X (e :: es) t) (hg : Gl X x := by rfl) (hdb : (x == ("__debug__" : Str)) = false := by decide)
    (he : starEach (e :: es) X.env = (false, eval e X.env) :: starEach es X.env := by rfl) (hpl : (backTo pos (starEach es X.env)).any (·.1) = false := by rfl) : PE X (.Call (.Name x p) (e :: es) [] pos) (tCall sp [] E0 t) := by
  obtain ⟨f, fd, F, hm, hk, hb⟩ := C.ex
  exact pe_call F hr hg hm hk hb .nil pass0 ha hdb he hpl
/-- a def that may raise, where it does not -/
theorem pe_calN (C : Cal X.prog X.w X.K X.mg X.base (L2.CX X.prog X.w) k x ps sp) (hr : Room k X.A) (ha : PA X (e :: es) t) (hg : Gl X x := by rfl) (hdb : (x == ("__debug__" : Str)) = false := by decide)
    (he : starEach (e :: es) X.env = (false, eval e X.env) :: starEach es X.env := by rfl) (hpl : (backTo pos (starEach es X.env)).any (·.1) = false := by rfl) : PE X (.Call (.Name x p) (e :: es) [] pos) (tCall sp [] E0 t) := by
  obtain ⟨f, fd, F, hm, hk, hb⟩ := C.ex
  exact pe_call F hr hg hm hk hb .nil passL ha hdb he hpl
/-- a def that may raise -/
theorem pe_calX {W : WX} (C : Cal X.prog X.w X.K X.mg X.base (L2.CX X.prog X.w) k x ps sp) (hr : Room k X.A) (tk : Takes X W) (ha : PA X (e :: es) t) (hg : Gl X x := by rfl) (hdb : (x == ("__debug__" : Str)) = false := by decide)
    (he : starEach (e :: es) X.env = (false, eval e X.env) :: starEach es X.env := by rfl) (hpl : (backTo pos (starEach es X.env)).any (·.1) = false := by rfl) : PE X (.Call (.Name x p) (e :: es) [] pos) (tCallS sp (WE W) t) := by
  obtain ⟨f, fd, F, hm, hk, hb⟩ := C.ex
  exact pe_callS F hr hg hm hk hb (fun σ => passAt tk σ) ha hdb he hpl
end
/-! ### a reading that does not lean on the state within which it is asked -/
theorem pe_.re {X : Cx} {e : Expr} {t t' : TE} (h : PE X e t) (q : t = t') : PE X e t' := q ▸ h
theorem pts_.re {X : Cx} {es : List Expr} {t t' : TT} (h : PTs X es t) (q : t = t') : PTs X es t' := q ▸ h
theorem pss_.re {X : Cx} {sts : List Stmt} {t t' : TS} (h : PSs X sts t) (q : t = t') : PSs X sts t' := q ▸ h
/-- a value's truth -/
def tTru (K : PySem.W.Frag) (ta : TE) : TT := fun σ H Q => ta σ H fun x H' => ∃ k, TruV K x H' k ∧ Q k H'
theorem pt_tru {X : Cx} {a : Expr} {ta : TE} (ha : PE X a ta) (he : ∀ whole, isTrue a X.env whole = (do let v ← whole; standAt a.pos; holding [v] (truthy v))) : PT X a (tTru X.K ta) := pt_truth ha he
/-! ### lists -/
theorem take_more {α : Type} {l : List α} {i : Nat} {x : α} (h : l[i]? = some x) : l.take (i + 1) = l.take i ++ [x] := by
  rw [List.take_add_one, h]
  rfl
/-! ### heaps -/
theorem _root_.L2.Same.put {H H' : Hp} {p : Addr} {o : HO} (s : Same H H') (n : H p = none) : Same H (upd H' p o) := fun b x e => by
  rw [upd_ne (ne_of_none e n)]
  exact s b x e
theorem _root_.L2.Same.put' {H H' : Hp} {p : Addr} {o : HO} (s : Same H H') (n : H' p = none) : Same H (upd H' p o) := s.put (s.free n)
theorem _root_.L2.Same.tup {K : PySem.W.Frag} {H H' : Hp} {a : Addr} {xs : List V} (e : Same H H') (h : SqT K H a xs) : SqT K H' a xs := by
  rcases h with (h | ⟨o, h⟩) | h
  · exact .inl (.inl (e _ _ h))
  · exact .inl (.inr ⟨o, e _ _ h⟩)
  · exact .inr h
theorem sqT_new {K : PySem.W.Frag} {H : Hp} {p : Addr} {xs : List V} : SqT K (upd H p (.tup xs)) p xs := .inl (.inl upd_same)
theorem sqL_new {K : PySem.W.Frag} {H : Hp} {p : Addr} {xs : List V} : SqL K (upd H p (.lst xs)) p xs := .inl (.inl upd_same)
theorem sqT_of {K : PySem.W.Frag} {H : Hp} {p : Addr} {xs : List V} (h : H p = some (.tup xs)) : SqT K H p xs := .inl (.inl h)
theorem sqL_of {K : PySem.W.Frag} {H : Hp} {p : Addr} {xs : List V} (h : H p = some (.lst xs)) : SqL K H p xs := .inl (.inl h)
/-- a comprehension's list grows -/
theorem grow {H1 H4 : Hp} {D : Addr} {acc : Nat → List V} {i : Nat} {y : V} (nD : H1 D = none) (s : Same H1 H4) (e : H4 D = some (.lst (acc i))) (l : (acc i).length < sizeLine) (n : acc (i + 1) = acc i ++ [y]) :
    ∃ a, H4 D = some (.lst a) ∧ a.length < sizeLine ∧ (Same H1 (upd H4 D (.lst (a ++ [y]))) ∧ (upd H4 D (.lst (a ++ [y]))) D = some (.lst (acc (i + 1)))) :=
  ⟨acc i, e, l, s.put nD, by rw [upd_same, n]⟩
theorem bcase {b : Bool} {A B : Prop} (h1 : b = true → A) (h2 : b = false → B) : if b = true then A else B := by
  cases b with
  | true => exact iteT (h1 rfl)
  | false => exact iteF (h2 rfl)
/-- isinstance(x, T), T a built-in class -/
def rIsT (K : PySem.W.Frag) (T : String) : List V → Hp → VK → Prop := fun xs H Q => ∃ (x : V) (t : String) (b : Bool), xs = [x, .ty T] ∧ TyOf K H x (.type t) ∧ kitB t T = some b ∧ Q (.bl b) H
theorem call_isT {X : Cx} (T : String) : CallR X (.builtin "isinstance") (rIsT X.K T) := by
  intro pins s σ H xs us Q I r h
  obtain ⟨x, t, b, ex, ht, hb, q⟩ := h
  exact call_isi pins s σ H xs us Q I r ⟨_, _, _, _, _, ex, .ty _, .base ht, kit_ty hb, q⟩
/-- a comprehension without a test -/
theorem yes_ {σ : L2.St} {H : Hp} {A : Hp → Prop} {B : Hp → Prop} (h : A H) : tYes σ H fun b H3 => if b = true then A H3 else B H3 := by
  show (if true = true then A H else B H)
  rw [if_pos rfl]
  exact h
/-- as many slots as names -/
theorem takes_len {X : Cx} {W : WX} (tk : Takes X W) : Takes X (fun cls d σ H => σ.length = X.N.length → W cls d σ H) := fun u s' ⟨a, B, sI, pins, σ, H, cls, d, e, I, nb, up, sky, na, os, ag, w⟩ =>
  tk u s' ⟨a, B, sI, pins, σ, H, cls, d, e, I, nb, up, sky, na, os, ag, w I.len⟩
/-! ### walks -/
theorem walk_enumT {K : PySem.W.Frag} {a : Addr} {xs : List V} : Walk (IteT K a) xs.length (fun H => SqT K H a xs) (YPair (fun i => some (.int (i : Nat))) (fun i => xs[i]?)) := by
  refine ⟨fun i _ hi q => ⟨xs, xs[i], q, by simp [hi]⟩, fun _ q => ⟨xs, q, Nat.le_refl _⟩, fun i H v H' _ q y => ?_⟩
  obtain ⟨T, x, h1, h2, h3, h4⟩ := y
  exact ⟨T, .int (i : Nat), x, h1, h2, h3, rfl, h4 xs q⟩
/-! ### list.count of truth values -/
section
variable {X : Cx}
theorem countP_eqU {x : V} : ∀ {xs : List V} {us : List Value}, Vals xs us → xs.all flatV = true → us.countP (eqU x) = xs.countP fun y => eqV y x
  | _, _, .nil, _ => rfl
  | y :: xs, u :: us, .cons r t, f => by
    rw [List.all_cons, Bool.and_eq_true] at f
    rw [List.countP_cons, List.countP_cons, eqU_of r f.1, countP_eqU t f.2]
def rCount (K : PySem.W.Frag) : V → List V → Hp → VK → Prop := fun x xs H Q => ∃ (p : Addr) (ys : List V) (y : V), x = .ref p ∧ xs = [y] ∧ SqL K H p ys ∧ flatV y = true ∧ ys.all flatV = true ∧ Q (.int (ys.countP (fun z => eqV z y) : Nat)) H
theorem mt_lcountB : MtR X "list.count" (rCount X.K) := by
  intro pins s σ H x xs v us Q I rx rxs h
  obtain ⟨p, ys, y, rfl, rfl, hs, fy, fys, q⟩ := h
  cases rx
  cases rxs with
  | cons ry rt =>
    rename_i uy ut
    cases rt
    obtain ⟨its, rv, ⟨⟨cls, dd, data, sl⟩, n, ho, hc, hdn, hd⟩, hlen⟩ := I.list hs
    simp only at hc hd
    subst hc hd
    refine call_meets PySem.F.slot_list_count ⟨_, ho, rfl⟩ PySem.F.entry_list_count (PySem.F.args_list_count_2 _ _)
      (SeqAt.list_countAt p its.toArray n dd sl uy (eqU y)) ⟨ho, fun u' hu' => mem_eqAt ry fy rv fys u' (by simpa using hu'), ?_⟩
    have ec : its.toArray.toList.countP (eqU y) = ys.countP fun z => eqV z y := countP_eqU rv fys
    refine ⟨.int (ys.countP (fun z => eqV z y) : Nat), H, I.tok _, ⟨s.toks, ?_⟩, q⟩
    show Value.int ((its.toArray.toList.countP (eqU y) : Nat) : Int) s.toks = Value.int ((ys.countP (fun z => eqV z y) : Nat) : Int) s.toks
    rw [ec]
end
/-! ### the caught error, whatever it bears -/
/-- an own class of errors, as isinstance and the reading of a field ask for it -/
structure ErrC (K : PySem.W.Frag) (D : Addr) : Prop where
  cl : (PySem.W.clsIn K D).isSome = true
  ga : PySem.W.findIn K (.ref D) "__getattribute__" = some (some (.builtin "BaseException.__getattribute__"))
  gt : PySem.W.findIn K (.ref D) "__getattr__" = some none
  be : PySem.W.subIn K (.ref D) (.type "BaseException") = some true
  kc : PySem.W.findIn K (.ref D) "__class__" = some (some (.builtin "object.__class__"))
  sg : PySem.W.specialIn K (.builtin "object.__class__") "__get__" = some (some (.builtin "getset_descriptor.__get__"))
  tk : PySem.W.takesIn K (.builtin "object.__class__") = some true
  ob : PySem.W.mroIn K D (.type "object") = some true
  hd : PySem.W.hasDictIn K D = true
def errB (K : PySem.W.Frag) (D : Addr) : Bool :=
  (PySem.W.clsIn K D).isSome && (decide (PySem.W.findIn K (.ref D) "__getattribute__" = some (some (.builtin "BaseException.__getattribute__"))) && (decide (PySem.W.findIn K (.ref D) "__getattr__" = some none) &&
  (decide (PySem.W.subIn K (.ref D) (.type "BaseException") = some true) && (decide (PySem.W.findIn K (.ref D) "__class__" = some (some (.builtin "object.__class__"))) &&
  (decide (PySem.W.specialIn K (.builtin "object.__class__") "__get__" = some (some (.builtin "getset_descriptor.__get__"))) && (decide (PySem.W.takesIn K (.builtin "object.__class__") = some true) &&
  (decide (PySem.W.mroIn K D (.type "object") = some true) && PySem.W.hasDictIn K D)))))))
theorem errC_of {K : PySem.W.Frag} {D : Addr} (h : errB K D = true) : ErrC K D := by
  unfold errB at h
  simp only [Bool.and_eq_true, decide_eq_true_eq] at h
  obtain ⟨h1, h2, h3, h4, h5, h6, h7, h8, h9⟩ := h
  exact ⟨h1, h2, h3, h4, h5, h6, h7, h8, h9⟩
section
variable {X : Cx} {a : Addr} {cls : Value} {oe : Obj} {pn : List (Addr × Obj)} {d : Option Addr}
theorem err_inst {D : Addr} {h : Heap} (hz : Zc (.ref D) d oe) (hf : ∃ vs, oe.data = .fields vs) (hget : h.get? a = some oe) (hd : ∀ dd, d = some dd → ∃ od, h.get? dd = some od) : ∃ od, PySem.W.InstAt h a oe D od := by
  obtain ⟨oc, odd, oda, osl⟩ := oe
  obtain ⟨h1, h2⟩ := hz
  obtain ⟨vs, hv⟩ := hf
  dsimp only at h1 h2 hv
  subst h1 h2 hv
  cases odd with
  | none => exact ⟨none, hget, rfl, rfl, trivial⟩
  | some dd =>
    obtain ⟨od, ho⟩ := hd dd rfl
    exact ⟨some od, hget, rfl, rfl, ho⟩
/-- its dict stands, where it has one -/
def XdOk (d : Option Addr) (H : Hp) : Prop := ∀ dd, d = some dd → ∃ fs, H dd = some (.xd fs)
def rIsG (K : PySem.W.Frag) (a : Addr) (cls : Value) (d : Option Addr) : List V → Hp → VK → Prop := fun xs H Q =>
  ∃ (D : Addr) (c : V) (cv : Value) (b : Bool), cls = .ref D ∧ ErrC K D ∧ XdOk d H ∧ xs = [.ref a, c] ∧ (∀ u, RelV c u → u = cv) ∧ PySem.W.kitOne K (.ref D) cv = some b ∧ Q (.bl b) H
theorem call_isG (hz : Zc cls d oe) (hf : ∃ vs, oe.data = .fields vs) : CallR (X.suite a ((a, oe) :: pn)) (.builtin "isinstance") (rIsG X.K a cls d) := by
  intro pins s σ H xs us Q I r h
  obtain ⟨D, c, cv, b, ec, C, hx, rfl, hcv, e, q⟩ := h
  subst ec
  obtain ⟨u1, u2, rfl, r1, r2⟩ := vals2 r
  obtain rfl : u1 = Value.ref a := r1
  have e2 := hcv _ r2
  subst e2
  obtain ⟨hget, _⟩ := I.pin (a, oe) (List.mem_append_left _ List.mem_cons_self)
  obtain ⟨od, J⟩ := err_inst (h := s.heap) hz hf hget fun dd ed => by
    obtain ⟨fs, e⟩ := hx dd ed
    obtain ⟨mA, ⟨o, _, _, ho, _⟩, _⟩ := (show ObjOk X.prog X.w H s.heap dd (.xd fs) from I.hok dd _ e)
    exact ⟨o, ho⟩
  exact PySem.W.kia_one (PySem.W.kitx_exc C.cl C.ga C.gt C.be C.kc C.sg C.tk C.ob) I.kIn J e (fun z => nomatch z) fun tk => ⟨.bl b, H, I.kept (t' := tk) fun _ _ z => z, rfl, q⟩
/-- e.n, e the error that the suite holds -/
def tXg (K : PySem.W.Frag) (a : Addr) (cls : Value) (d : Option Addr) (n : Str) (te : TE) : TE := fun σ H Q => te σ H fun x H1 => x = .ref a ∧ ∃ (D dd : Addr) (fs : List (Str × V)) (v : V), cls = .ref D ∧ ErrC K D ∧ PySem.W.findIn K (.ref D) n = some none ∧ d = some dd ∧ H1 dd = some (.xd fs) ∧ fs.lookup n = some v ∧ Q v H1
theorem pe_xg {e : Expr} {te : TE} {pos : Pos} {n : Str} (hz : Zc cls d oe) (hf : ∃ vs, oe.data = .fields vs) (he : PE (X.suite a ((a, oe) :: pn)) e te) (hb : attributeBase e n X.env (eval e X.env) = eval e X.env := by rfl) :
    PE (X.suite a ((a, oe) :: pn)) (.Attribute e n pos) (tXg X.K a cls d n te) := by
  refine ⟨fun pins s σ H Q I h => attr_of hb (thn (he.run pins s σ H _ I h) fun u s1 hh => ?_)⟩
  obtain ⟨x, H1, I1, rx, ex, D, dd, fs, v, ec, C, hno, ed, ea, l, q⟩ := hh
  subst ex ec ed
  obtain rfl : u = Value.ref a := rx
  obtain ⟨ha, _⟩ := I1.pin (a, oe) (List.mem_append_left _ List.mem_cons_self)
  obtain ⟨vs, hd⟩ := hf
  obtain ⟨mA, hns, hr⟩ := (show ObjOk X.prog X.w H1 s1.heap dd (.xd fs) from I1.hok dd _ ea)
  obtain ⟨od, ho, hl⟩ := lookIn_ns hns
  obtain ⟨u, hu, ru⟩ := RelO.some_of (v := v) (o := mA n) (by rw [← l]; exact hr n)
  have J : PySem.W.InstAt s1.heap a oe D (some od) := ⟨ha, hz.1, by unfold PySem.W.notCls; rw [hd] <;> rfl, by rw [hz.2]; exact ho⟩
  exact HandSPX.exc_get I1.kIn J C.ga C.gt C.be (PySem.W.findObj_own C.hd hno rfl (by rw [hl, hu])) (handed_of ru) ⟨v, H1, I1.tok _, ru, q⟩
end
end Sc
namespace Sc
open PySem PySem.Spec PyProof.Rows L2 NdefX
/-! ### own errors with fields, made and raised -/
/-- what an f-string takes -/
def FOk : V → Prop
  | .int i => i.natAbs.log2 < 1920
  | .str z => z.length ≤ 1000000
  | _ => False
theorem fmt_at {y : V} {R : Str → Prop} (ok : FOk y) (q : ∀ z : Str, z.length ≤ 1000000 → R z) : (∃ z : Str, y = .str z ∧ z.length ≤ sizeLine ∧ R z) ∨ ∃ i : Int, y = .int i ∧ i.natAbs.log2 < 1920 ∧ R (toString i) := by
  cases y with
  | str z => exact .inl ⟨z, rfl, Nat.le_trans ok (by rw [sizeLine_eq]; decide), q z ok⟩
  | int i =>
    refine .inr ⟨i, rfl, ok, q _ ?_⟩
    have e : (PySem.Str.ofString (toString i)).length ≤ 1921 := int_text_len_1921 ok
    exact Nat.le_trans e (by decide)
  | _ => exact ok.elim
theorem fok_nat {i : Nat} (hi : i ≤ 1000) : FOk (.int (i : Nat)) := by
  show (i : Int).natAbs.log2 < 1920
  have e1 : (i : Int).natAbs = i := rfl
  rw [e1]
  by_cases h0 : i = 0
  · subst h0
    decide
  · have := (Nat.log2_lt h0 (k := 10)).mpr (Nat.lt_of_le_of_lt hi (by decide))
    omega
theorem app_len {a b : Str} : (a ++ b).length = a.length + b.length := by
  show (a.cps ++ b.cps).size = a.cps.size + b.cps.size
  exact Array.size_append
/-- a rule of arguments, its reading made monotone -/
theorem pa_mono {X : Cx} {es : List Expr} {ta : TA} (h : PA X es ta) : PA X es (fun σ H Q => ∃ R, ta σ H R ∧ ∀ vs H1, R vs H1 → Q vs H1) := by
  refine ⟨fun pos pins s σ H Q I ⟨R, q, k⟩ => wpAny_mono (h.run pos pins s σ H R I q) (fun us s1 ⟨vs, H1, J, r, z⟩ => ⟨vs, H1, J, r, k vs H1 z⟩) fun _ _ z => z⟩
/-- the promise of an __init__ that keeps its fields fs, in their order -/
def sp_init1 (C : Addr) (f : Str) : Sp := fun vs H Q _ => ∃ (a : Addr) (y : V), vs = [.ref a, y] ∧ H a = some (exo a C none) ∧ FOk y ∧ ∀ dx, H dx = none → dx ≠ a → Q .non (upd (upd H dx (exd dx [(f, y)])) a (exo a C (some dx)))
def sp_init2 (C : Addr) (f g : Str) : Sp := fun vs H Q _ => ∃ (a : Addr) (y z : V), vs = [.ref a, y, z] ∧ H a = some (exo a C none) ∧ FOk y ∧ FOk z ∧
  ∀ dx, H dx = none → dx ≠ a → Q .non (upd (upd (upd H dx (exd dx [(f, y)])) a (exo a C (some dx))) dx (exd dx [(g, z), (f, y)]))
/-- the class x at C, its __init__ keeping sp -/
structure ErrMk (P : Program) (w : World) (K : PySem.W.Frag) (mg : Str → Option Value) (base : Heap) (x : Str) (C : Addr) (ps : List Str) (sp : Sp) : Prop where
  ex : ∃ (fI : Addr) (fd : FuncData), OexC K C ∧ PySem.W.findIn K (.ref C) "__init__" = some (some (.ref fI)) ∧ PySem.W.typeIn K (.ref fI) = some (.type "function") ∧ FnOk P w K mg base CX0 1 fI fd ps sp ∧ Binds K fd ps [] ∧ mg x = some (.ref C)
theorem let_go {H : Hp} {a d : Addr} {o o' u : HO} (n : H a = none) (ne : d ≠ a) : upd (del (upd (upd H d u) a o) a) d o' = upd H d o' := by
  funext b
  by_cases hd : b = d
  · rw [hd, upd_same, upd_same]
  · rw [upd_ne hd, upd_ne hd]
    by_cases ha : b = a
    · rw [ha, del_same, n]
    · rw [del_ne ha, upd_ne ha, upd_ne hd]
section
variable {X : Cx} {x f g : Str} {C : Addr} {ps : List Str} {e e2 : Expr} {te te2 : TE} {p pos : Pos}
/-- x(e): an error whose own dict, new, holds the field -/
def tErr1 (C : Addr) (f : Str) (te : TE) : L2.St → Hp → XK → Prop := fun σ H Q => te σ H fun y H1 => FOk y ∧ ∀ d, H1 d = none → Q (.ref C) (some d) (upd H1 d (.xd [(f, y)]))
theorem pmk_err1 (M : ErrMk X.prog X.w X.K X.mg X.base x C ps (sp_init1 C f)) (hr : Room 2 X.A) (he : PE X e te) (hg : Gl X x := by rfl) (hdb : (x == ("__debug__" : Str)) = false := by decide)
    (hs : starEach [e] X.env = (false, eval e X.env) :: starEach [] X.env := by rfl) : PMk X (.Call (.Name x p) [e] [] pos) (tErr1 C f te) := by
  obtain ⟨fI, fd, T, iC, tI, F, hb, hm⟩ := M.ex
  intro pins s σ H Q I h
  refine pmk_oex (CX := CX0) T iC tI F hr hb .nil (fun _ _ _ _ _ _ _ z => z.elim) hg hm (pa_mono (pa_cons he pa_nil hs)) hdb hs rfl pins s σ H Q I ?_
  refine ⟨fun vs H1 => match vs with
    | [y] => FOk y ∧ ∀ d, H1 d = none → Q (.ref C) (some d) (upd H1 d (.xd [(f, y)]))
    | _ => False, h, fun vs H1 r => ?_⟩
  match vs, r with
  | [y], ⟨ok, q⟩ =>
    refine ⟨by simp, fun a na => ⟨a, y, rfl, upd_same, ok, fun dx nd ne => ⟨rfl, dx, _, upd_same, by rw [upd_ne ne, upd_same], ?_, ?_⟩⟩⟩
    · rw [upd_ne ne] at nd
      exact nd
    · rw [upd_ne ne] at nd
      have e1 : upd (upd (upd H1 a (exo a C none)) dx (exd dx [(f, y)])) a (exo a C (some dx)) = upd (upd H1 dx (exd dx [(f, y)])) a (exo a C (some dx)) := by
        funext b
        by_cases ha : b = a
        · rw [ha, upd_same, upd_same]
        · rw [upd_ne ha, upd_ne ha]
          by_cases hb : b = dx
          · rw [hb, upd_same, upd_same]
          · rw [upd_ne hb, upd_ne hb, upd_ne ha]
      rw [e1, let_go na ne]
      exact q dx nd
/-- x(e, e2): two fields -/
def tErr2 (C : Addr) (f g : Str) (te te2 : TE) : L2.St → Hp → XK → Prop := fun σ H Q => te σ H fun y H0 => te2 σ H0 fun z H1 => (FOk y ∧ FOk z) ∧ ∀ d, H1 d = none → Q (.ref C) (some d) (upd H1 d (.xd [(g, z), (f, y)]))
theorem pmk_err2 (M : ErrMk X.prog X.w X.K X.mg X.base x C ps (sp_init2 C f g)) (hr : Room 2 X.A) (he : PE X e te) (he2 : PE X e2 te2) (hg : Gl X x := by rfl) (hdb : (x == ("__debug__" : Str)) = false := by decide)
    (hs : starEach [e, e2] X.env = (false, eval e X.env) :: starEach [e2] X.env := by rfl) (hs2 : starEach [e2] X.env = (false, eval e2 X.env) :: starEach [] X.env := by rfl) (hpl : (backTo pos (starEach [e2] X.env)).any (·.1) = false := by rfl) :
    PMk X (.Call (.Name x p) [e, e2] [] pos) (tErr2 C f g te te2) := by
  obtain ⟨fI, fd, T, iC, tI, F, hb, hm⟩ := M.ex
  intro pins s σ H Q I h
  refine pmk_oex (CX := CX0) T iC tI F hr hb .nil (fun _ _ _ _ _ _ _ z => z.elim) hg hm (pa_mono (pa_cons he (pa_cons he2 pa_nil hs2) hs)) hdb hs hpl pins s σ H Q I ?_
  refine ⟨fun vs H1 => match vs with
    | [y, z] => (FOk y ∧ FOk z) ∧ ∀ d, H1 d = none → Q (.ref C) (some d) (upd H1 d (.xd [(g, z), (f, y)]))
    | _ => False, h, fun vs H1 r => ?_⟩
  match vs, r with
  | [y, z], ⟨⟨ok, ok2⟩, q⟩ =>
    refine ⟨by simp, fun a na => ⟨a, y, z, rfl, upd_same, ok, ok2, fun dx nd ne => ⟨rfl, dx, _, by rw [upd_ne ne.symm, upd_same], upd_same, ?_, ?_⟩⟩⟩
    · rw [upd_ne ne] at nd
      exact nd
    · rw [upd_ne ne] at nd
      have e1 : upd (del (upd (upd (upd (upd H1 a (exo a C none)) dx (exd dx [(f, y)])) a (exo a C (some dx))) dx (exd dx [(g, z), (f, y)])) a) dx (.xd [(g, z), (f, y)]) = upd H1 dx (.xd [(g, z), (f, y)]) := by
        funext b
        by_cases hb : b = dx
        · rw [hb, upd_same, upd_same]
        · rw [upd_ne hb, upd_ne hb]
          by_cases ha : b = a
          · rw [ha, del_same, na]
          · rw [del_ne ha, upd_ne hb, upd_ne ha, upd_ne hb, upd_ne ha]
      rw [e1]
      exact q dx nd
/-- the class x at C, without an __init__ of its own -/
structure ErrMk0 (K : PySem.W.Frag) (mg : Str → Option Value) (x : Str) (C : Addr) : Prop where
  q : PySem.W.excIn K C [.type "ValueError", .type "Exception", .type "BaseException", .type "object"] "ValueError.__new__" = true
  g : mg x = some (.ref C)
  k : PySem.W.keepIn K (.ref C) = true
  b : PySem.W.subIn K (.ref C) (.type "BaseException") = some true
  t : PySem.W.typeIn K (.ref C) = some (.type "type")
theorem pmk_err0 {m : Str} {j : Nat} {p2 : Pos} (M : ErrMk0 X.K X.mg x C) (hg : Gl X x := by rfl) (hdb : (x == ("__debug__" : Str)) = false := by decide) :
    PMk X (.Call (.Name x p) [.Constant (.str m) j p2] [] pos) (fun _ H Q => Q (.ref C) none H) := pmk_own PySem.F.excBase_ValueError M.q M.g M.k (raises_own M.b M.t) hg hdb
end
end Sc
namespace Sc
open PySem PySem.Spec PyProof.Rows L2 NdefX
def topS (i : Nat) : Stmt := PySem.Challenge.pw_smallcourt_k59_whole_books_encoded.main.body.getD i (.Pass ⟨0, 0, 0, 0⟩)
section
variable {P : Program} {w : World} {K : PySem.W.Frag} {mg : Str → Option Value} {base : Heap}
theorem sc_init_InvalidFacts : NScope ["self", "index", "__class__"] ["self", "index"] ["__class__"] (defScope (inClass (topS 3) 0)) := nscope_by (by decide +kernel)
abbrev nf_InvalidFacts (cc c : Addr) : NF := ⟨"__init__", "InvalidFacts.__init__", defArgs (inClass (topS 3) 0), defBody (inClass (topS 3) 0), defScope (inClass (topS 3) 0), [(("__class__" : Str), cc)], c⟩
theorem ok_init_InvalidFacts {fI C cc c : Addr} {oc kV doc pm ct : Value} {od an : Option Addr} {osl : Array (Option Value)} (lk : K.lookup fI = some ⟨oc, od, .func (supFd (nf_InvalidFacts cc c) kV doc pm an ct), osl⟩)
    (hcd : PySem.W.codeIn K (.ref c) "InvalidFacts.__init__" = true) (T : OexC K C) (S : SupC P K mg C cc c) (n0 : PySem.W.findIn K (.ref C) "index" = some none) : FnOk P w K mg base CX0 1 fI (supFd (nf_InvalidFacts cc c) kV doc pm an ct) ["self", "index"] (sp_init1 C "index") := by
  refine fn_sup (N := ["self", "index", "__class__"]) (ps := ["self", "index"]) lk hcd rfl sc_init_InvalidFacts T S (fun vs H Q E h => ?_) rfl rfl rfl rfl rfl (fun A outer s H vs Q E hr h => ?_) (fun L => ⟨_, rfl⟩) (fun L => rfl) (fun L => rfl) (fun L => rfl) (fun L => rfl)
  · obtain ⟨a, y0, rfl, ha, ok0, q⟩ := h
    rfl
  · obtain ⟨a, y0, rfl, ha, ok0, q⟩ := h
    refine ⟨_, _, pa_cons (pe_joined (PJ.cons pe_str (PJ.cons (pe_fmt (pv 1)) PJ.nil))) pa_nil, pss_one (ps_ost (pv 0) (pv 1)), a, rfl, ha, ?_⟩
    refine ⟨_, rfl, (by rw [sizeLine_eq]; simp only [app_len]; have e0 : Str.empty.length = 0 := rfl; have e1 : (("wrong fact at index " : Str)).length = 20 := (by decide +kernel); omega), ⟨y0, rfl, fmt_at ok0 fun z0 hz0 => ⟨_, rfl, (by rw [sizeLine_eq]; simp only [app_len]; have e0 : Str.empty.length = 0 := rfl; have e1 : (("wrong fact at index " : Str)).length = 20 := (by decide +kernel); omega), ⟨by simp, ha, y0, rfl, .ref a, rfl, a, C, rfl, T, n0, .inl ⟨ha, fun dx nd ne => q dx nd ne⟩⟩⟩⟩⟩

theorem sc_init_InvalidCase : NScope ["self", "index", "__class__"] ["self", "index"] ["__class__"] (defScope (inClass (topS 4) 0)) := nscope_by (by decide +kernel)
abbrev nf_InvalidCase (cc c : Addr) : NF := ⟨"__init__", "InvalidCase.__init__", defArgs (inClass (topS 4) 0), defBody (inClass (topS 4) 0), defScope (inClass (topS 4) 0), [(("__class__" : Str), cc)], c⟩
theorem ok_init_InvalidCase {fI C cc c : Addr} {oc kV doc pm ct : Value} {od an : Option Addr} {osl : Array (Option Value)} (lk : K.lookup fI = some ⟨oc, od, .func (supFd (nf_InvalidCase cc c) kV doc pm an ct), osl⟩)
    (hcd : PySem.W.codeIn K (.ref c) "InvalidCase.__init__" = true) (T : OexC K C) (S : SupC P K mg C cc c) (n0 : PySem.W.findIn K (.ref C) "index" = some none) : FnOk P w K mg base CX0 1 fI (supFd (nf_InvalidCase cc c) kV doc pm an ct) ["self", "index"] (sp_init1 C "index") := by
  refine fn_sup (N := ["self", "index", "__class__"]) (ps := ["self", "index"]) lk hcd rfl sc_init_InvalidCase T S (fun vs H Q E h => ?_) rfl rfl rfl rfl rfl (fun A outer s H vs Q E hr h => ?_) (fun L => ⟨_, rfl⟩) (fun L => rfl) (fun L => rfl) (fun L => rfl) (fun L => rfl)
  · obtain ⟨a, y0, rfl, ha, ok0, q⟩ := h
    rfl
  · obtain ⟨a, y0, rfl, ha, ok0, q⟩ := h
    refine ⟨_, _, pa_cons (pe_joined (PJ.cons pe_str (PJ.cons (pe_fmt (pv 1)) PJ.nil))) pa_nil, pss_one (ps_ost (pv 0) (pv 1)), a, rfl, ha, ?_⟩
    refine ⟨_, rfl, (by rw [sizeLine_eq]; simp only [app_len]; have e0 : Str.empty.length = 0 := rfl; have e1 : (("wrong name in the case at index " : Str)).length = 32 := (by decide +kernel); omega), ⟨y0, rfl, fmt_at ok0 fun z0 hz0 => ⟨_, rfl, (by rw [sizeLine_eq]; simp only [app_len]; have e0 : Str.empty.length = 0 := rfl; have e1 : (("wrong name in the case at index " : Str)).length = 32 := (by decide +kernel); omega), ⟨by simp, ha, y0, rfl, .ref a, rfl, a, C, rfl, T, n0, .inl ⟨ha, fun dx nd ne => q dx nd ne⟩⟩⟩⟩⟩

theorem sc_init_InvalidCondition : NScope ["self", "part", "index", "__class__"] ["self", "part", "index"] ["__class__"] (defScope (inClass (topS 5) 0)) := nscope_by (by decide +kernel)
abbrev nf_InvalidCondition (cc c : Addr) : NF := ⟨"__init__", "InvalidCondition.__init__", defArgs (inClass (topS 5) 0), defBody (inClass (topS 5) 0), defScope (inClass (topS 5) 0), [(("__class__" : Str), cc)], c⟩
theorem ok_init_InvalidCondition {fI C cc c : Addr} {oc kV doc pm ct : Value} {od an : Option Addr} {osl : Array (Option Value)} (lk : K.lookup fI = some ⟨oc, od, .func (supFd (nf_InvalidCondition cc c) kV doc pm an ct), osl⟩)
    (hcd : PySem.W.codeIn K (.ref c) "InvalidCondition.__init__" = true) (T : OexC K C) (S : SupC P K mg C cc c) (n0 : PySem.W.findIn K (.ref C) "part" = some none) (n1 : PySem.W.findIn K (.ref C) "index" = some none) : FnOk P w K mg base CX0 1 fI (supFd (nf_InvalidCondition cc c) kV doc pm an ct) ["self", "part", "index"] (sp_init2 C "part" "index") := by
  refine fn_sup (N := ["self", "part", "index", "__class__"]) (ps := ["self", "part", "index"]) lk hcd rfl sc_init_InvalidCondition T S (fun vs H Q E h => ?_) rfl rfl rfl rfl rfl (fun A outer s H vs Q E hr h => ?_) (fun L => ⟨_, rfl⟩) (fun L => rfl) (fun L => rfl) (fun L => rfl) (fun L => rfl)
  · obtain ⟨a, y0, y1, rfl, ha, ok0, ok1, q⟩ := h
    rfl
  · obtain ⟨a, y0, y1, rfl, ha, ok0, ok1, q⟩ := h
    refine ⟨_, _, pa_cons (pe_joined (PJ.cons pe_str (PJ.cons (pe_fmt (pv 1)) (PJ.cons pe_str (PJ.cons (pe_fmt (pv 2)) PJ.nil))))) pa_nil, pss_cons (ps_ost (pv 0) (pv 1)) (pss_one (ps_ost (pv 0) (pv 2))), a, rfl, ha, ?_⟩
    refine ⟨_, rfl, (by rw [sizeLine_eq]; simp only [app_len]; have e0 : Str.empty.length = 0 := rfl; have e1 : (("wrong name in part " : Str)).length = 19 := (by decide +kernel); have e2 : ((" of the condition at index " : Str)).length = 27 := (by decide +kernel); omega), ⟨y0, rfl, fmt_at ok0 fun z0 hz0 => ⟨_, rfl, (by rw [sizeLine_eq]; simp only [app_len]; have e0 : Str.empty.length = 0 := rfl; have e1 : (("wrong name in part " : Str)).length = 19 := (by decide +kernel); have e2 : ((" of the condition at index " : Str)).length = 27 := (by decide +kernel); omega), ⟨_, rfl, (by rw [sizeLine_eq]; simp only [app_len]; have e0 : Str.empty.length = 0 := rfl; have e1 : (("wrong name in part " : Str)).length = 19 := (by decide +kernel); have e2 : ((" of the condition at index " : Str)).length = 27 := (by decide +kernel); omega), ⟨y1, rfl, fmt_at ok1 fun z1 hz1 => ⟨_, rfl, (by rw [sizeLine_eq]; simp only [app_len]; have e0 : Str.empty.length = 0 := rfl; have e1 : (("wrong name in part " : Str)).length = 19 := (by decide +kernel); have e2 : ((" of the condition at index " : Str)).length = 27 := (by decide +kernel); omega), ⟨by simp, ha, y0, rfl, .ref a, rfl, a, C, rfl, T, n0, .inl ⟨ha, fun dx nd ne => ⟨y1, rfl, .ref a, rfl, a, C, rfl, T, n1, .inr ⟨dx, _, upd_same, by rw [upd_ne ne, upd_same], by simp, q dx nd ne⟩⟩⟩⟩⟩⟩⟩⟩⟩⟩

theorem sc_init_InvalidRule : NScope ["self", "part", "__class__"] ["self", "part"] ["__class__"] (defScope (inClass (topS 7) 0)) := nscope_by (by decide +kernel)
abbrev nf_InvalidRule (cc c : Addr) : NF := ⟨"__init__", "InvalidRule.__init__", defArgs (inClass (topS 7) 0), defBody (inClass (topS 7) 0), defScope (inClass (topS 7) 0), [(("__class__" : Str), cc)], c⟩
theorem ok_init_InvalidRule {fI C cc c : Addr} {oc kV doc pm ct : Value} {od an : Option Addr} {osl : Array (Option Value)} (lk : K.lookup fI = some ⟨oc, od, .func (supFd (nf_InvalidRule cc c) kV doc pm an ct), osl⟩)
    (hcd : PySem.W.codeIn K (.ref c) "InvalidRule.__init__" = true) (T : OexC K C) (S : SupC P K mg C cc c) (n0 : PySem.W.findIn K (.ref C) "part" = some none) : FnOk P w K mg base CX0 1 fI (supFd (nf_InvalidRule cc c) kV doc pm an ct) ["self", "part"] (sp_init1 C "part") := by
  refine fn_sup (N := ["self", "part", "__class__"]) (ps := ["self", "part"]) lk hcd rfl sc_init_InvalidRule T S (fun vs H Q E h => ?_) rfl rfl rfl rfl rfl (fun A outer s H vs Q E hr h => ?_) (fun L => ⟨_, rfl⟩) (fun L => rfl) (fun L => rfl) (fun L => rfl) (fun L => rfl)
  · obtain ⟨a, y0, rfl, ha, ok0, q⟩ := h
    rfl
  · obtain ⟨a, y0, rfl, ha, ok0, q⟩ := h
    refine ⟨_, _, pa_cons (pe_joined (PJ.cons pe_str (PJ.cons (pe_fmt (pv 1)) (PJ.cons pe_str PJ.nil)))) pa_nil, pss_one (ps_ost (pv 0) (pv 1)), a, rfl, ha, ?_⟩
    refine ⟨_, rfl, (by rw [sizeLine_eq]; simp only [app_len]; have e0 : Str.empty.length = 0 := rfl; have e1 : (("wrong " : Str)).length = 6 := (by decide +kernel); have e2 : ((" of a rule" : Str)).length = 10 := (by decide +kernel); omega), ⟨y0, rfl, fmt_at ok0 fun z0 hz0 => ⟨_, rfl, (by rw [sizeLine_eq]; simp only [app_len]; have e0 : Str.empty.length = 0 := rfl; have e1 : (("wrong " : Str)).length = 6 := (by decide +kernel); have e2 : ((" of a rule" : Str)).length = 10 := (by decide +kernel); omega), ⟨_, rfl, (by rw [sizeLine_eq]; simp only [app_len]; have e0 : Str.empty.length = 0 := rfl; have e1 : (("wrong " : Str)).length = 6 := (by decide +kernel); have e2 : ((" of a rule" : Str)).length = 10 := (by decide +kernel); omega), ⟨by simp, ha, y0, rfl, .ref a, rfl, a, C, rfl, T, n0, .inl ⟨ha, fun dx nd ne => q dx nd ne⟩⟩⟩⟩⟩⟩

theorem sc_init_InvalidBook : NScope ["self", "word", "index", "__class__"] ["self", "word", "index"] ["__class__"] (defScope (inClass (topS 8) 0)) := nscope_by (by decide +kernel)
abbrev nf_InvalidBook (cc c : Addr) : NF := ⟨"__init__", "InvalidBook.__init__", defArgs (inClass (topS 8) 0), defBody (inClass (topS 8) 0), defScope (inClass (topS 8) 0), [(("__class__" : Str), cc)], c⟩
theorem ok_init_InvalidBook {fI C cc c : Addr} {oc kV doc pm ct : Value} {od an : Option Addr} {osl : Array (Option Value)} (lk : K.lookup fI = some ⟨oc, od, .func (supFd (nf_InvalidBook cc c) kV doc pm an ct), osl⟩)
    (hcd : PySem.W.codeIn K (.ref c) "InvalidBook.__init__" = true) (T : OexC K C) (S : SupC P K mg C cc c) (n0 : PySem.W.findIn K (.ref C) "word" = some none) (n1 : PySem.W.findIn K (.ref C) "index" = some none) : FnOk P w K mg base CX0 1 fI (supFd (nf_InvalidBook cc c) kV doc pm an ct) ["self", "word", "index"] (sp_init2 C "word" "index") := by
  refine fn_sup (N := ["self", "word", "index", "__class__"]) (ps := ["self", "word", "index"]) lk hcd rfl sc_init_InvalidBook T S (fun vs H Q E h => ?_) rfl rfl rfl rfl rfl (fun A outer s H vs Q E hr h => ?_) (fun L => ⟨_, rfl⟩) (fun L => rfl) (fun L => rfl) (fun L => rfl) (fun L => rfl)
  · obtain ⟨a, y0, y1, rfl, ha, ok0, ok1, q⟩ := h
    rfl
  · obtain ⟨a, y0, y1, rfl, ha, ok0, ok1, q⟩ := h
    refine ⟨_, _, pa_cons (pe_joined (PJ.cons pe_str (PJ.cons (pe_fmt (pv 1)) (PJ.cons pe_str (PJ.cons (pe_fmt (pv 2)) PJ.nil))))) pa_nil, pss_cons (ps_ost (pv 0) (pv 1)) (pss_one (ps_ost (pv 0) (pv 2))), a, rfl, ha, ?_⟩
    refine ⟨_, rfl, (by rw [sizeLine_eq]; simp only [app_len]; have e0 : Str.empty.length = 0 := rfl; have e1 : (("wrong book by " : Str)).length = 14 := (by decide +kernel); have e2 : ((" at index " : Str)).length = 10 := (by decide +kernel); omega), ⟨y0, rfl, fmt_at ok0 fun z0 hz0 => ⟨_, rfl, (by rw [sizeLine_eq]; simp only [app_len]; have e0 : Str.empty.length = 0 := rfl; have e1 : (("wrong book by " : Str)).length = 14 := (by decide +kernel); have e2 : ((" at index " : Str)).length = 10 := (by decide +kernel); omega), ⟨_, rfl, (by rw [sizeLine_eq]; simp only [app_len]; have e0 : Str.empty.length = 0 := rfl; have e1 : (("wrong book by " : Str)).length = 14 := (by decide +kernel); have e2 : ((" at index " : Str)).length = 10 := (by decide +kernel); omega), ⟨y1, rfl, fmt_at ok1 fun z1 hz1 => ⟨_, rfl, (by rw [sizeLine_eq]; simp only [app_len]; have e0 : Str.empty.length = 0 := rfl; have e1 : (("wrong book by " : Str)).length = 14 := (by decide +kernel); have e2 : ((" at index " : Str)).length = 10 := (by decide +kernel); omega), ⟨by simp, ha, y0, rfl, .ref a, rfl, a, C, rfl, T, n0, .inl ⟨ha, fun dx nd ne => ⟨y1, rfl, .ref a, rfl, a, C, rfl, T, n1, .inr ⟨dx, _, upd_same, by rw [upd_ne ne, upd_same], by simp, q dx nd ne⟩⟩⟩⟩⟩⟩⟩⟩⟩⟩

theorem sc_init_DecodeError : NScope ["self", "offset", "__class__"] ["self", "offset"] ["__class__"] (defScope (inClass (topS 10) 0)) := nscope_by (by decide +kernel)
abbrev nf_DecodeError (cc c : Addr) : NF := ⟨"__init__", "DecodeError.__init__", defArgs (inClass (topS 10) 0), defBody (inClass (topS 10) 0), defScope (inClass (topS 10) 0), [(("__class__" : Str), cc)], c⟩
theorem ok_init_DecodeError {fI C cc c : Addr} {oc kV doc pm ct : Value} {od an : Option Addr} {osl : Array (Option Value)} (lk : K.lookup fI = some ⟨oc, od, .func (supFd (nf_DecodeError cc c) kV doc pm an ct), osl⟩)
    (hcd : PySem.W.codeIn K (.ref c) "DecodeError.__init__" = true) (T : OexC K C) (S : SupC P K mg C cc c) (n0 : PySem.W.findIn K (.ref C) "offset" = some none) : FnOk P w K mg base CX0 1 fI (supFd (nf_DecodeError cc c) kV doc pm an ct) ["self", "offset"] (sp_init1 C "offset") := by
  refine fn_sup (N := ["self", "offset", "__class__"]) (ps := ["self", "offset"]) lk hcd rfl sc_init_DecodeError T S (fun vs H Q E h => ?_) rfl rfl rfl rfl rfl (fun A outer s H vs Q E hr h => ?_) (fun L => ⟨_, rfl⟩) (fun L => rfl) (fun L => rfl) (fun L => rfl) (fun L => rfl)
  · obtain ⟨a, y0, rfl, ha, ok0, q⟩ := h
    rfl
  · obtain ⟨a, y0, rfl, ha, ok0, q⟩ := h
    refine ⟨_, _, pa_cons (pe_joined (PJ.cons pe_str (PJ.cons (pe_fmt (pv 1)) PJ.nil))) pa_nil, pss_one (ps_ost (pv 0) (pv 1)), a, rfl, ha, ?_⟩
    refine ⟨_, rfl, (by rw [sizeLine_eq]; simp only [app_len]; have e0 : Str.empty.length = 0 := rfl; have e1 : (("wrong item at offset " : Str)).length = 21 := (by decide +kernel); omega), ⟨y0, rfl, fmt_at ok0 fun z0 hz0 => ⟨_, rfl, (by rw [sizeLine_eq]; simp only [app_len]; have e0 : Str.empty.length = 0 := rfl; have e1 : (("wrong item at offset " : Str)).length = 21 := (by decide +kernel); omega), ⟨by simp, ha, y0, rfl, .ref a, rfl, a, C, rfl, T, n0, .inl ⟨ha, fun dx nd ne => q dx nd ne⟩⟩⟩⟩⟩

end
end Sc
namespace Sc
open PySem PySem.Spec PyProof.Rows L2
/-! ### names -/
abbrev s_is_name : Stmt := topS 14
theorem sc_is_name : FnScope ["value", "letter"] ["value"] (defScope s_is_name) := ⟨rfl, rfl, rfl, by decide +kernel, rfl, by decide +kernel, by decide +kernel⟩
abbrev s_is_integer : Stmt := topS 15
theorem sc_is_integer : FnScope ["value"] ["value"] (defScope s_is_integer) := ⟨rfl, rfl, rfl, by decide +kernel, rfl, by decide +kernel, by decide +kernel⟩
abbrev s_rises : Stmt := topS 16
theorem sc_rises : FnScope ["names", "index"] ["names", "index"] (defScope s_rises) := ⟨rfl, rfl, rfl, by decide +kernel, rfl, by decide +kernel, by decide +kernel⟩
def letters : Str := "abcdefghijklmnopqrstuvwxyz"
def isLetters (x : Str) : Bool := x.cps.toList.all fun c => decide (c ∈ letters.cps.toList)
def isName (x : Str) : Bool := decide (1 ≤ x.length) && (decide (x.length ≤ 8) && isLetters x)
def isLetterV (c : Nat) : V := .bl (decide (c ∈ letters.cps.toList))
structure GNames (mg : Str → Option Value) : Prop where
  m_LETTERS : ∃ t, mg "LETTERS" = some (.str letters t)
  m_LONGEST : ∃ t, mg "LONGEST_NAME" = some (.int 8 t)
section
variable {P : Program} {w : World} {K : PySem.W.Frag} {mg : Str → Option Value} {base : Heap}
def sp_is_name : Sp := fun vs H Q _ => ∃ x : Str, vs = [.str x] ∧ x.length ≤ sizeLine ∧ ∀ H', Same H H' → Q (.bl (isName x)) H'
theorem ok_is_name {f : Addr} {fd : FuncData} (F : Fun K "is_name" "is_name" s_is_name f fd) (B : Blt mg) (G : GNames mg) : FnOk P w K mg base CX0 1 f fd ["value"] sp_is_name := by
  obtain ⟨⟨t1, mL⟩, ⟨t2, mN⟩⟩ := G
  refine F.ok sc_is_name (fun vs H Q E h => by obtain ⟨x, rfl, _⟩ := h; rfl) (fun cdv A outer s H vs Q E hr h => ?_)
  obtain ⟨x, rfl, hx, q⟩ := h
  refine ⟨_, (pss_cons (ps_if (PW.pt (pw_or (pt_not (pt_val (pe_callB (call_isT "str") (by rfl) B.b_isinstance PyProof.Rows.boot_isinstance (pa_cons (pv 0) (pa_cons (pe_bltn (v := .ty "str") (by rfl) B.b_str PyProof.Rows.boot_str rfl) pa_nil))))) (pw_or1 (pt_not (pt_chain op_le op_le pe_int (pe_callB call_len_str (by rfl) B.b_len PySem.boot_len (pa_cons (pv 0) pa_nil)) (pe_glob (v := .int 8) rfl mN ⟨_, rfl⟩)))))) (pss_one (ps_ret pe_bl)) pss_nil)
      (pss_one (ps_ret (pe_callB (cr_all rfl) (by rfl) B.b_all PyProof.Rows.boot_all (pa_cons (pe_lc (own := [("letter", 1)]) (g := gName 1) (tt := tYes) rfl sc_is_name.nd (pi_str (pv 0)) (blkOk_by (own := [("letter", 1)]) (N := ["value", "letter"]) (sc := defScope s_is_name) (by decide +kernel)) (fun _ _ _ _ _ => (pg_name (i := 1) sc_is_name.nd rfl (Or.inl rfl))) (fun _ _ _ _ _ => pts_nil) (fun _ _ _ _ _ => (pe_.re (pe_cmpR op_in_sign (pv 1) (pe_glob (v := .str "abcdefghijklmnopqrstuvwxyz") rfl mL ⟨_, rfl⟩) rfl) (by first | (dsimp only [Cx.blk]; done) | exact rfl)))) pa_nil))))), ?_⟩
  refine ⟨.str x, rfl, _, "str", true, rfl, .str _, by decide +kernel, _, rfl, iteF ?_⟩
  refine ⟨.str x, rfl, x, rfl, hx, 1, x.length, rfl, rfl, _, rfl, bcase (fun h1 => ?_) (fun h1 => ?_)⟩
  · refine ⟨_, _, rfl, rfl, _, rfl, ?_⟩
    have h1 : 1 ≤ x.length := by have := of_decide_eq_true h1; omega
    by_cases h2 : x.length ≤ 8
    · have e2 : decide ((x.length : Int) ≤ 8) = true := decide_eq_true (by omega)
      rw [e2]
      refine iteF ?_
      refine ⟨.str x, rfl, x, rfl, fun D nD => lc_it walk_str (fun i H' => Same H H' ∧ H' D = some (.lst ((x.cps.toList.take i).map isLetterV))) ⟨(Same.refl H).put nD, upd_same⟩ (fun _ _ _ _ => trivial) ?_ ?_⟩
      · rintro i y H2 H3 hi ⟨s, e⟩ ⟨rfl, c, hc, rfl⟩
        refine ⟨rfl, yes_ ⟨_, rfl, c, letters, rfl, rfl, grow (acc := fun i => .map isLetterV (x.cps.toList.take i)) nD s e ?_ ?_⟩⟩
        · rw [List.length_map, List.length_take]
          exact small1000 (by have : x.cps.toList.length = x.length := rfl; omega)
        · show List.map _ _ = _
          rw [take_more (x := c) (by rw [Array.getElem?_toList]; exact hc), List.map_append]
          rfl
      · rintro H2 ⟨s, e⟩
        have el : x.cps.toList.take x.cps.size = x.cps.toList := List.take_of_length_le (by rw [Array.length_toList]; exact Nat.le_refl _)
        rw [el] at e
        refine ⟨D, x.cps.toList.map fun c => decide (c ∈ letters.cps.toList), rfl, sqL_of (by rw [e, List.map_map]; rfl), ?_⟩
        have ea : isName x = (x.cps.toList.map fun c => decide (c ∈ letters.cps.toList)).all id := by
          unfold isName isLetters
          rw [decide_eq_true h1, decide_eq_true h2, Bool.true_and, Bool.true_and, List.all_map]
          rfl
        rw [← ea]
        exact q H2 s
    · have e2 : decide ((x.length : Int) ≤ 8) = false := decide_eq_false (by omega)
      rw [e2]
      refine iteT ?_
      have e : isName x = false := by unfold isName; rw [decide_eq_false h2, Bool.false_and, Bool.and_false]
      rw [← e]
      exact q H (Same.refl H)
  · have h1 : ¬ 1 ≤ x.length := by have := of_decide_eq_false h1; omega
    refine ⟨_, rfl, iteT ?_⟩
    have e : isName x = false := by unfold isName; rw [decide_eq_false h1, Bool.false_and]
    rw [← e]
    exact q H (Same.refl H)
/-- any value of a built-in kind -/
def sp_is_integer (K : PySem.W.Frag) : Sp := fun vs H Q _ => ∃ (x : V) (t : String) (b c : Bool), vs = [x] ∧ TyOf K H x (.type t) ∧ kitB t "int" = some b ∧ kitB t "bool" = some c ∧ Q (.bl (b && !c)) H
theorem ok_is_integer {f : Addr} {fd : FuncData} (F : Fun K "is_integer" "is_integer" s_is_integer f fd) (B : Blt mg) : FnOk P w K mg base CX0 1 f fd ["value"] (sp_is_integer K) := by
  refine F.ok sc_is_integer (fun vs H Q E h => by obtain ⟨x, _, _, _, rfl, _⟩ := h; rfl) (fun cdv A outer s H vs Q E hr h => ?_)
  obtain ⟨x, t, b, c, rfl, ht, hb, hc, q⟩ := h
  refine ⟨_, (pss_one (ps_ret (pe_and (pe_callB (call_isT "int") (by rfl) B.b_isinstance PyProof.Rows.boot_isinstance (pa_cons (pv 0) (pa_cons (pe_bltn (v := .ty "int") (by rfl) B.b_int PyProof.Rows.boot_int rfl) pa_nil))) (pe_one (pe_not (pe_callB (call_isT "bool") (by rfl) B.b_isinstance PyProof.Rows.boot_isinstance (pa_cons (pv 0) (pa_cons (pe_bltn (v := .ty "bool") (by rfl) B.b_bool PyProof.Rows.boot_bool rfl) pa_nil)))))))), ?_⟩
  refine ⟨x, rfl, x, t, b, rfl, ht, hb, b, rfl, bcase (fun e => ?_) (fun e => ?_)⟩
  · subst e
    exact ⟨x, rfl, x, t, c, rfl, ht, hc, c, rfl, q⟩
  · subst e
    exact q
/-- does the i-th name come behind the one before it -/
def risesAt (xs : List Str) (i : Nat) : Bool := decide (i = 0) || match xs[i - 1]?, xs[i]? with
  | some a, some b => decide (a.cps.toList < b.cps.toList)
  | _, _ => false
def sp_rises (K : PySem.W.Frag) : Sp := fun vs H Q _ => ∃ (a : Addr) (xs : List Str) (i : Nat), vs = [.ref a, .int i] ∧ SqT K H a (xs.map V.str) ∧ i < xs.length ∧ Q (.bl (risesAt xs i)) H
theorem ok_rises {f : Addr} {fd : FuncData} (F : Fun K "rises" "rises" s_rises f fd) : FnOk P w K mg base CX0 1 f fd ["names", "index"] (sp_rises K) := by
  refine F.ok sc_rises (fun vs H Q E h => by obtain ⟨a, xs, i, rfl, _⟩ := h; rfl) (fun cdv A outer s H vs Q E hr h => ?_)
  obtain ⟨a, xs, i, rfl, hS, hi, q⟩ := h
  refine ⟨_, (pss_one (ps_ret (pe_or (pe_cmpR op_eq (pv 1) pe_int (nomark _)) (pe_one (pe_cmpR op_lt_str (pe_ix ix_tup (pv 0) (pe_op op_sub (pv 1) pe_int) (fun _ _ => rfl)) (pe_ix ix_tup (pv 0) (pv 1) (fun _ _ => rfl)) (nomark _)))))), ?_⟩
  refine ⟨_, rfl, rfl, _, rfl, bcase (fun e => ?_) (fun e => ?_)⟩
  · have e0 : i = 0 := by have := V.int.inj (of_decide_eq_true e); omega
    have er : risesAt xs i = true := by unfold risesAt; rw [decide_eq_true e0, Bool.true_or]
    rw [er] at q
    exact q
  · have e0 : i ≠ 0 := fun z => by subst z; exact Bool.noConfusion (e.symm.trans (decide_eq_true rfl))
    have h1 : i - 1 < xs.length := by omega
    have g1 : (xs.map V.str)[i - 1]? = some (.str xs[i - 1]) := by rw [List.getElem?_map, List.getElem?_eq_getElem h1]; rfl
    have g2 : (xs.map V.str)[i]? = some (.str xs[i]) := by rw [List.getElem?_map, List.getElem?_eq_getElem hi]; rfl
    refine ⟨.ref a, rfl, .int i, rfl, i, 1, rfl, rfl, a, _, _, _, rfl, rfl, hS, at_of (j := i - 1) (by omega) g1, .ref a, rfl, .int i, rfl, a, _, _, _, rfl, rfl, hS, at_of rfl g2, xs[i - 1], xs[i], rfl, rfl, ?_⟩
    have er : risesAt xs i = decide (xs[i - 1].cps.toList < xs[i].cps.toList) := by
      unfold risesAt
      rw [decide_eq_false e0, Bool.false_or, List.getElem?_eq_getElem h1, List.getElem?_eq_getElem hi]
    rw [← er]
    exact q
end
end Sc
namespace Sc
open PySem PySem.Spec PyProof.Rows L2
/-! ### the law's draws -/
abbrev s__law_mix : Stmt := topS 51
theorem sc__law_mix : FnScope ["_law_script", "_law_seed", "_law_state", "_law_cell"] ["_law_script", "_law_seed"] (defScope s__law_mix) := ⟨rfl, rfl, rfl, by decide +kernel, rfl, by decide +kernel, by decide +kernel⟩
abbrev s__law_next : Stmt := topS 52
theorem sc__law_next : FnScope ["_law_h", "_law_limit", "_law_cell"] ["_law_h", "_law_limit"] (defScope s__law_next) := ⟨rfl, rfl, rfl, by decide +kernel, rfl, by decide +kernel, by decide +kernel⟩
abbrev s__law_facts : Stmt := topS 54
theorem sc__law_facts : FnScope ["_law_h", "_law_most", "_law_some", "_law_many"] ["_law_h", "_law_most"] (defScope s__law_facts) := ⟨rfl, rfl, rfl, by decide +kernel, rfl, by decide +kernel, by decide +kernel⟩
abbrev s__law_alike : Stmt := topS 53
theorem sc__law_alike : FnScope ["_law_found", "_law_due", "_law_k"] ["_law_found", "_law_due"] (defScope s__law_alike) := ⟨rfl, rfl, rfl, by decide +kernel, rfl, by decide +kernel, by decide +kernel⟩
def twelve : List Str := ["age", "bad", "cold", "dear", "early", "first", "good", "hot", "idle", "just", "keen", "late"]
/-- the state of the draws: a list at a, its cells at l -/
def RS (H : Hp) (a l : Addr) : Prop := ∃ (st k : Int) (ns : List Int), H a = some (.lst [.int st, .ref l, .int k]) ∧ H l = some (.lst (ns.map V.int)) ∧ 0 ≤ st ∧ st < 2147483647 ∧ ns.length ≤ 63 ∧ ∀ z ∈ ns, Builtin.Int.intBits z ≤ 1048576
/-- all but the draws' state stands -/
structure Kp (a l : Addr) (H H' : Hp) : Prop where
  old : RS H a l
  new : RS H' a l
  keep : ∀ b o, b ≠ a → b ≠ l → H b = some o → H' b = some o
section
variable {P : Program} {w : World} {K : PySem.W.Frag} {mg : Str → Option Value} {base : Heap} {a l : Addr} {H H' H'' : Hp}
theorem RS.ne (r : RS H a l) : a ≠ l := fun z => by
  obtain ⟨st, k, ns, h1, h2, _⟩ := r
  subst z
  rw [h1] at h2
  have e := HO.lst.inj (Option.some.inj h2)
  match ns, e with
  | [x, y, z], e => cases (List.cons.inj (List.cons.inj e).2).1
theorem RS.same (r : RS H a l) (s : Same H H') : RS H' a l := by
  obtain ⟨st, k, ns, h1, h2, q⟩ := r
  exact ⟨st, k, ns, s _ _ h1, s _ _ h2, q⟩
theorem Kp.refl (r : RS H a l) : Kp a l H H := ⟨r, r, fun _ _ _ _ e => e⟩
theorem Kp.trans (k : Kp a l H H') (k' : Kp a l H' H'') : Kp a l H H'' := ⟨k.old, k'.new, fun b o n1 n2 e => k'.keep b o n1 n2 (k.keep b o n1 n2 e)⟩
theorem Kp.of (r : RS H a l) (s : Same H H') : Kp a l H H' := ⟨r, r.same s, fun b o _ _ e => s b o e⟩
theorem Kp.same (k : Kp a l H H') (s : Same H' H'') : Kp a l H H'' := k.trans (.of k.new s)
theorem RS.no {b : Addr} (r : RS H a l) (e : H b = none) : b ≠ a ∧ b ≠ l := by
  obtain ⟨st, k, ns, h1, h2, _⟩ := r
  exact ⟨fun z => (by rw [z, h1] at e; cases e), fun z => (by rw [z, h2] at e; cases e)⟩
theorem RS.not {b : Addr} {o : HO} (r : RS H a l) (e : H b = some o) (n : ∀ xs, o ≠ .lst xs) : b ≠ a ∧ b ≠ l := by
  obtain ⟨st, k, ns, h1, h2, _⟩ := r
  exact ⟨fun z => (by rw [z, h1] at e; exact n _ (Option.some.inj e).symm), fun z => (by rw [z, h2] at e; exact n _ (Option.some.inj e).symm)⟩
theorem Kp.free {b : Addr} (k : Kp a l H H') (e : H' b = none) : H b = none := by
  cases q : H b with
  | none => rfl
  | some o =>
    obtain ⟨n1, n2⟩ := k.new.no e
    rw [k.keep b o n1 n2 q] at e
    cases e
theorem Kp.put {p : Addr} {o : HO} (k : Kp a l H H') (n : H' p = none) : Kp a l H (upd H' p o) := k.same ((Same.refl H').put n)
theorem Kp.put0 {p : Addr} {o : HO} (k : Kp a l H H') (n : H p = none) : Kp a l H (upd H' p o) := by
  obtain ⟨n1, n2⟩ := k.old.no n
  obtain ⟨st, x, ns, h1, h2, q⟩ := k.new
  exact ⟨k.old, ⟨st, x, ns, by rw [upd_ne n1.symm]; exact h1, by rw [upd_ne n2.symm]; exact h2, q⟩, fun b o m1 m2 e => by rw [upd_ne (ne_of_none e n)]; exact k.keep b o m1 m2 e⟩
theorem ixN_of {n j : Nat} (hj : j < n) : ixN n (j : Int) = some j := by
  unfold ixN
  rw [if_pos (by omega), if_pos (by omega)]
  rfl
theorem Kp.obj {b : Addr} {o : HO} (k : Kp a l H H') (e : H b = some o) (n : ∀ xs, o ≠ .lst xs) : H' b = some o := by
  obtain ⟨n1, n2⟩ := k.old.not e n
  exact k.keep b o n1 n2 e
theorem Kp.tup {b : Addr} {xs : List V} (k : Kp a l H H') (h : SqT K H b xs) : SqT K H' b xs := by
  rcases h with (h | ⟨o, h⟩) | h
  · exact .inl (.inl (k.obj h fun _ z => nomatch z))
  · exact .inl (.inr ⟨o, k.obj h fun _ z => nomatch z⟩)
  · exact .inr h
theorem bits_div {x n : Int} (h0 : 0 ≤ x) (hn : 0 < n) : Builtin.Int.intBits (x / n) ≤ Builtin.Int.intBits x := by
  have h1 : 0 ≤ x / n := Int.ediv_nonneg h0 (Int.le_of_lt hn)
  have h2 : x / n ≤ x := Int.ediv_le_self n h0
  unfold Builtin.Int.intBits
  by_cases e : x / n = 0
  · rw [e]
    exact Nat.zero_le _
  · have e2 : x ≠ 0 := fun z => by rw [z, Int.zero_ediv] at e; exact e rfl
    rw [if_neg (by simpa using e), if_neg (by simpa using e2)]
    have e3 : (x / n).natAbs.log2 ≤ x.natAbs.log2 := (Nat.le_log2 (by omega)).mpr (Nat.le_trans (Nat.log2_self_le (by omega)) (by omega))
    omega
theorem small_bits {x : Int} {k : Nat} (h : x.natAbs < 2 ^ k) : Builtin.Int.intBits x ≤ k := by
  unfold Builtin.Int.intBits
  split
  · exact Nat.zero_le k
  · rename_i e
    have e : x ≠ 0 := by simpa using e
    have := (Nat.log2_lt (n := x.natAbs) (by omega)).mpr h
    omega
def sp_mix (K : PySem.W.Frag) : Sp := fun vs H Q _ => ∃ (s : Addr) (ns : List Int) (z : Int), vs = [.ref s, .int z] ∧ SqL K H s (ns.map V.int) ∧ ns.length ≤ 63 ∧ (∀ z ∈ ns, Builtin.Int.intBits z ≤ 1048576) ∧ 0 ≤ z ∧ z < 2147483647 ∧
  ∀ H' a l, Same H H' → RS H' a l → Q (.ref a) H'
theorem ok_mix {f : Addr} {fd : FuncData} (F : Fun K "_law_mix" "_law_mix" s__law_mix f fd) (B : Blt mg) : FnOk P w K mg base CX0 1 f fd ["_law_script", "_law_seed"] (sp_mix K) := by
  refine F.ok sc__law_mix (fun vs H Q E h => by obtain ⟨s, ns, z, rfl, _⟩ := h; rfl) (fun cdv A outer s H vs Q E hr h => ?_)
  obtain ⟨s, ns, z, rfl, hS, hl, hb, z0, z1, q⟩ := h
  refine ⟨_, (pss_cons (ps_set (i := 2) sc__law_mix.nd rfl (Or.inl rfl) (pv 1))
      (pss_cons (ps_for PassesOwn.never rfl (pi_list (pv 0)) (pg_name (i := 3) sc__law_mix.nd rfl (Or.inl rfl)) (pss_one (ps_set (i := 2) sc__law_mix.nd rfl (Or.inl rfl) (pe_op op_mod (pe_callTy call_int1 (by rfl) B.b_int PyProof.Rows.boot_int (pa_cons (pe_op op_add (pe_op op_add (pe_op op_mul (pv 2) pe_int) (pe_op op_mod (pe_callTy call_int1 (by rfl) B.b_int PyProof.Rows.boot_int (pa_cons (pv 3) pa_nil)) pe_int)) pe_int) pa_nil)) pe_int))))
      (pss_one (ps_ret (pe_lst (pa_cons (pv 2) (pa_cons (pe_callTy call_list_of (by rfl) B.b_list PyProof.Rows.boot_list (pa_cons (pv 0) pa_nil)) (pa_cons pe_int pa_nil)))))))), ?_⟩
  refine ⟨_, rfl, .ref s, rfl, s, rfl, ⟨_, hS⟩, for_it walk_list (fun i σ H' => ∃ (st : Int) (y : Option V), σ = [some (.ref s), some (.int z), some (.int st), y] ∧ H' = H ∧ 0 ≤ st ∧ st < 2147483647)
    ⟨z, none, rfl, rfl, z0, z1⟩ (fun i σ H' _ ⟨_, _, _, e, _⟩ => by rw [e]; exact hS) ?_ ?_⟩
  · rintro i x σ H2 H3 hi ⟨st, y, rfl, rfl, h0, h1⟩ ⟨rfl, hx⟩
    obtain ⟨c, hc, rfl⟩ : ∃ c, ns[i]? = some c ∧ x = V.int c := by
      rw [List.getElem?_map] at hx
      cases e : ns[i]? with
      | none => rw [e] at hx; cases hx
      | some c => rw [e] at hx; exact ⟨c, rfl, (Option.some.inj hx).symm⟩
    refine ⟨_, rfl, st, 48271, rfl, rfl, .inl ⟨by omega, by omega⟩, _, rfl, .inl ⟨c, rfl, c, 2147483629, rfl, rfl, (show (0 : Int) < 2147483629 by decide), _, _, rfl, rfl, _, _, rfl, rfl, .inl ⟨_, rfl, _, 2147483647, rfl, rfl, (show (0 : Int) < 2147483647 by decide), ?_⟩⟩⟩
    exact ⟨_, _, rfl, rfl, Int.emod_nonneg _ (by decide), Int.emod_lt_of_pos _ (by decide)⟩
  · rintro σ H2 ⟨st, y, rfl, rfl, h0, h1⟩
    refine ⟨_, rfl, .ref s, rfl, s, _, rfl, .inl hS, fun l nl => ⟨(by show 3 ≤ sizeLine; decide), fun a na => q _ a l ?_ ⟨st, 0, ns, upd_same, ?_, h0, h1, hl, hb⟩⟩⟩
    · exact ((Same.refl _).put nl).put' na
    · rw [upd_ne (ne_of_none upd_same na), upd_same]
def sp_next : Sp := fun vs H Q _ => ∃ (a l : Addr) (n : Int), vs = [.ref a, .int n] ∧ RS H a l ∧ 0 < n ∧ n.natAbs.log2 < 9000 ∧ ∀ H' r, Kp a l H H' → 0 ≤ r → r < n → Q (.int r) H'
theorem ok_next {f : Addr} {fd : FuncData} (F : Fun K "_law_next" "_law_next" s__law_next f fd) (B : Blt mg) : FnOk P w K mg base CX0 1 f fd ["_law_h", "_law_limit"] sp_next := by
  refine F.ok sc__law_next (fun vs H Q E h => by obtain ⟨a, l, n, rfl, _⟩ := h; rfl) (fun cdv A outer s H vs Q E hr h => ?_)
  obtain ⟨a, l, n, rfl, hR, n0, n9, q⟩ := h
  refine ⟨_, (pss_cons (ps_set (i := 2) sc__law_next.nd rfl (Or.inl rfl) (pe_ix ix_list (pe_op op_cat (pe_ix ix_list (pv 0) pe_int (fun _ _ => rfl)) (pe_lst (pa_cons pe_int pa_nil))) (pe_op op_mod (pe_callTy call_int1 (by rfl) B.b_int PyProof.Rows.boot_int (pa_cons (pe_ix ix_list (pv 0) pe_int (fun _ _ => rfl)) pa_nil)) (pe_callB (call_max2 rfl) (by rfl) B.b_max PyProof.Rows.boot_max (pa_cons pe_int (pa_cons (pe_callB call_len_seq (by rfl) B.b_len PySem.boot_len (pa_cons (pe_ix ix_list (pv 0) pe_int (fun _ _ => rfl)) pa_nil)) pa_nil)))) (fun _ _ => rfl)))
      (pss_cons (ps_if (pt_cmpR op_ge (pv 2) (pe_op op_pow pe_int pe_int) (nomark _)) (pss_cons (ps_asg (pe_op op_fdivW (pv 2) (pv 1)) (pg_sub (pe_ix ix_list (pv 0) pe_int (fun _ _ => rfl)) (pe_op op_mod (pe_callTy call_int1 (by rfl) B.b_int PyProof.Rows.boot_int (pa_cons (pe_ix ix_list (pv 0) pe_int (fun _ _ => rfl)) pa_nil)) (pe_callB call_len_seq (by rfl) B.b_len PySem.boot_len (pa_cons (pe_ix ix_list (pv 0) pe_int (fun _ _ => rfl)) pa_nil))) set_list))
      (pss_one (ps_ret (pe_op op_mod (pe_callTy call_int1 (by rfl) B.b_int PyProof.Rows.boot_int (pa_cons (pv 2) pa_nil)) (pv 1))))) pss_nil)
      (pss_cons (ps_asg (pe_op op_mod (pe_callTy call_int1 (by rfl) B.b_int PyProof.Rows.boot_int (pa_cons (pe_op op_add (pe_op op_add (pe_op op_mul (pe_ix ix_list (pv 0) pe_int (fun _ _ => rfl)) pe_int) (pe_op op_mulX (pv 2) pe_int)) pe_int) pa_nil)) pe_int) (pg_sub (pv 0) pe_int set_list))
      (pss_cons (ps_asg (pe_op op_add (pe_ix ix_list (pv 0) pe_int (fun _ _ => rfl)) pe_int) (pg_sub (pv 0) pe_int set_list))
      (pss_one (ps_ret (pe_op op_mod (pe_callTy call_int1 (by rfl) B.b_int PyProof.Rows.boot_int (pa_cons (pe_op op_fdiv (pe_ix ix_list (pv 0) pe_int (fun _ _ => rfl)) pe_int) pa_nil)) (pv 1)))))))), ?_⟩
  obtain ⟨st, k, ns, ha, hl, s0, s1, hlen, hb⟩ := id hR
  have nal := hR.ne
  have hm0 : 0 < (if ((ns.map V.int).length : Int) > 1 then ((ns.map V.int).length : Int) else 1) := by
    split <;> omega
  have hmx : (if ((ns.map V.int).length : Int) > 1 then ((ns.map V.int).length : Int) else 1) ≤ ns.length + 1 := by
    rw [List.length_map]
    split <;> omega
  have hcell : ∃ (j : Nat) (c : Int), k % (if ((ns.map V.int).length : Int) > 1 then ((ns.map V.int).length : Int) else 1) = j ∧ (ns.map V.int ++ [V.int 0])[j]? = some (.int c) ∧ (10 ^ 18 ≤ c → j < ns.length ∧ ns[j]? = some c ∧ k % (ns.length : Int) = j) ∧ Builtin.Int.intBits c ≤ 1048576 := by
    have r0 := Int.emod_nonneg k (Int.ne_of_gt hm0)
    have r1 := Int.emod_lt_of_pos k hm0
    obtain ⟨j, ej⟩ := Int.eq_ofNat_of_zero_le r0
    have ej : k % (if ((ns.map V.int).length : Int) > 1 then ((ns.map V.int).length : Int) else 1) = (j : Int) := ej
    by_cases hj : j < ns.length
    · refine ⟨j, ns[j], ej, ?_, fun _ => ⟨hj, List.getElem?_eq_getElem hj, ?_⟩, hb _ (List.getElem_mem hj)⟩
      · rw [List.getElem?_append_left (by rw [List.length_map]; exact hj), List.getElem?_map, List.getElem?_eq_getElem hj]
        rfl
      · rw [← ej, List.length_map]
        by_cases h1 : (ns.length : Int) > 1
        · rw [if_pos h1]
        · rw [if_neg h1]
          have e1 : (ns.length : Int) = 1 := by omega
          rw [e1]
    · have ejn : j = ns.length := by omega
      refine ⟨j, 0, ej, ?_, fun z => absurd z (by decide), by decide⟩
      rw [List.getElem?_append_right (by rw [List.length_map]; omega), List.length_map, ejn, Nat.sub_self]
      rfl
  obtain ⟨j, c, ej, gc, big, hc⟩ := hcell
  refine ⟨.ref a, rfl, a, _, 1, .ref l, rfl, rfl, sqL_of ha, atI_nat (j := 1) rfl, (by show 1 ≤ sizeLine; decide), fun p np => ?_⟩
  have npa := ne_of_none ha np
  have npl := ne_of_none hl np
  refine ⟨l, p, ns.map V.int, [.int 0], rfl, rfl, by rw [upd_ne npl]; exact hl, upd_same, by rw [List.length_map, sizeLine_eq]; show ns.length + 1 ≤ _; omega, fun p2 np2 => ?_⟩
  have np2' : H p2 = none := by
    cases e : H p2 with
    | none => rfl
    | some o => rw [upd_ne (ne_of_none e np)] at np2; rw [e] at np2; cases np2
  have s2 : Same H (upd (upd H p (.lst [.int 0])) p2 (.lst (ns.map V.int ++ [.int 0]))) := ((Same.refl H).put np).put np2'
  generalize hH2 : upd (upd H p (.lst [.int 0])) p2 (.lst (ns.map V.int ++ [.int 0])) = H2 at s2
  have hp2 : H2 p2 = some (.lst (ns.map V.int ++ [.int 0])) := by rw [← hH2, upd_same]
  have ha2 := s2 _ _ ha
  have hl2 := s2 _ _ hl
  refine ⟨.ref a, rfl, a, _, 2, .int k, rfl, rfl, sqL_of ha2, atI_nat (j := 2) rfl, .inl ⟨k, rfl, ?_⟩⟩
  refine ⟨.ref a, rfl, a, _, 1, .ref l, rfl, rfl, sqL_of ha2, atI_nat (j := 1) rfl, l, _, rfl, .inl (sqL_of hl2), 1, _, rfl, ?_⟩
  refine ⟨k, _, rfl, rfl, hm0, p2, _, _, .int c, rfl, rfl, sqL_of hp2, at_of ej gc, ?_⟩
  refine ⟨.int c, rfl, 10, 18, rfl, rfl, ⟨by decide, by decide, by decide⟩, c, 10 ^ 18, rfl, rfl, _, rfl, bcase (fun c1 => ?_) (fun c1 => ?_)⟩
  · have c1 : (10 : Int) ^ 18 ≤ c := of_decide_eq_true c1
    obtain ⟨hj, gj, ej2⟩ := big c1
    have hlp : 0 < (ns.length : Int) := by omega
    refine ⟨_, rfl, .int n, rfl, c, n, rfl, rfl, ⟨n0, n9⟩, .ref a, rfl, a, _, 1, .ref l, rfl, rfl, sqL_of ha2, atI_nat (j := 1) rfl, .ref a, rfl, a, _, 2, .int k, rfl, rfl, sqL_of ha2, atI_nat (j := 2) rfl, .inl ⟨k, rfl, ?_⟩⟩
    refine ⟨.ref a, rfl, a, _, 1, .ref l, rfl, rfl, sqL_of ha2, atI_nat (j := 1) rfl, l, _, rfl, .inl (sqL_of hl2), k, _, rfl, rfl, by rw [List.length_map]; exact hlp, l, _, _, j, rfl, rfl, hl2, ?_, ?_⟩
    · rw [List.length_map, ej2]
      unfold ixN
      rw [if_pos (by omega), if_pos (by omega)]
      rfl
    · refine ⟨.int c, rfl, .inl ⟨c, rfl, .int n, rfl, c, n, rfl, rfl, n0, q _ _ ⟨hR, ?_, fun b o n1 n2 e => ?_⟩ (Int.emod_nonneg _ (Int.ne_of_gt n0)) (Int.emod_lt_of_pos _ n0)⟩⟩
      · refine ⟨st, k, ns.set j (c / n), by rw [upd_ne nal]; exact ha2, by rw [upd_same, List.map_set], s0, s1, by rw [List.length_set]; exact hlen, fun z hz => ?_⟩
        rcases List.mem_or_eq_of_mem_set hz with h | h
        · exact hb z h
        · rw [h]
          exact Nat.le_trans (bits_div (by omega) n0) hc
      · rw [upd_ne n2]
        exact s2 b o e
  · refine ⟨.ref a, rfl, a, _, 0, .int st, rfl, rfl, sqL_of ha2, atI_nat (j := 0) rfl, st, 48271, rfl, rfl, .inl ⟨by omega, by omega⟩, .int c, rfl, c, 69621, rfl, rfl, ?_, _, _, rfl, rfl, _, 11, rfl, rfl, .inl ⟨_, rfl, _, 2147483647, rfl, rfl, (show (0 : Int) < 2147483647 by decide), .ref a, rfl, ?_⟩⟩
    · show (Builtin.Int.intBits c : Int) + (Builtin.Int.intBits 69621 : Int) ≤ 134217728
      have e1 : Builtin.Int.intBits 69621 ≤ 20 := small_bits (by decide)
      omega
    have z0 : 0 ≤ (st * 48271 + c * 69621 + 11) % 2147483647 := Int.emod_nonneg _ (by decide)
    have z1 : (st * 48271 + c * 69621 + 11) % 2147483647 < 2147483647 := Int.emod_lt_of_pos _ (by decide)
    refine ⟨a, _, 0, 0, rfl, rfl, ha2, rfl, ?_⟩
    refine ⟨.ref a, rfl, a, _, 2, .int k, rfl, rfl, sqL_of upd_same, atI_nat (j := 2) rfl, k, 1, rfl, rfl, .ref a, rfl, a, _, 2, 2, rfl, rfl, upd_same, rfl, ?_⟩
    refine ⟨.ref a, rfl, a, _, 0, .int ((st * 48271 + c * 69621 + 11) % 2147483647), rfl, rfl, sqL_of upd_same, atI_nat (j := 0) rfl, _, 7, rfl, rfl, ⟨by decide, by decide⟩, .inl ⟨_, rfl, .int n, rfl, _, n, rfl, rfl, n0, q _ _ ⟨hR, ?_, fun b o n1 n2 e => ?_⟩ (Int.emod_nonneg _ (Int.ne_of_gt n0)) (Int.emod_lt_of_pos _ n0)⟩⟩
    · exact ⟨_, k + 1, ns, upd_same, by rw [upd_ne nal.symm, upd_ne nal.symm]; exact hl2, z0, z1, hlen, hb⟩
    · rw [upd_ne n1, upd_ne n1]
      exact s2 b o e
theorem map_eraseIdx {α β : Type} {f : α → β} : ∀ (xs : List α) (j : Nat), (xs.map f).eraseIdx j = (xs.eraseIdx j).map f
  | [], _ => rfl
  | _ :: _, 0 => rfl
  | x :: r, j + 1 => by
    show f x :: (r.map f).eraseIdx j = f x :: (r.eraseIdx j).map f
    rw [map_eraseIdx r j]
/-- what stands at a value, read as data, at most n lists or tuples deep -/
inductive AD (H : Hp) : Nat → V → PyData → Prop where
  | non (n : Nat) : AD H n .non .none
  | bl (n : Nat) (b : Bool) : AD H n (.bl b) (.bool b)
  | int (n : Nat) (i : Int) : AD H n (.int i) (.int i)
  | str (n : Nat) (x : Str) : AD H n (.str x) (.str x)
  | lst {n : Nat} {a : Addr} {xs : List V} {ds : List PyData} (e : H a = some (.lst xs)) (l : xs.length = ds.length) (z : xs.length ≤ 1000000) (all : ∀ (i : Nat) (x : V) (d : PyData), xs[i]? = some x → ds[i]? = some d → AD H n x d) : AD H (n + 1) (.ref a) (.list ds)
  | tup {n : Nat} {a : Addr} {xs : List V} {ds : List PyData} (e : H a = some (.tup xs)) (l : xs.length = ds.length) (z : xs.length ≤ 1000000) (all : ∀ (i : Nat) (x : V) (d : PyData), xs[i]? = some x → ds[i]? = some d → AD H n x d) : AD H (n + 1) (.ref a) (.tuple ds)
theorem AD.same {n : Nat} {x : V} {d : PyData} (s : Same H H') (h : AD H n x d) : AD H' n x d := by
  induction h with
  | non n => exact .non n
  | bl n b => exact .bl n b
  | int n i => exact .int n i
  | str n x => exact .str n x
  | lst e l z all ih => exact .lst (s _ _ e) l z ih
  | tup e l z all ih => exact .tup (s _ _ e) l z ih
def sp_alike (n : Nat) : Sp := fun vs H Q _ => ∃ (x y : V) (d : PyData), vs = [x, y] ∧ AD H n x d ∧ AD H n y d ∧ ∀ H', Same H H' → Q (.bl true) H'
/-- the answer where no list or tuple stands -/
theorem ok_alike0 {f : Addr} {fd : FuncData} (F : Fun K "_law_alike" "_law_alike" s__law_alike f fd) (B : Blt mg) : FnOk P w K mg base CX0 1 f fd ["_law_found", "_law_due"] (sp_alike 0) := by
  refine F.ok sc__law_alike (fun vs H Q E h => by obtain ⟨x, y, d, rfl, _⟩ := h; rfl) (fun cdv A outer s H vs Q E hr h => ?_)
  obtain ⟨x, y, d, rfl, hx, hy, q⟩ := h
  refine ⟨_, (pss_cons (ps_if (pt_val (pe_callB (call_isT "dict") (by rfl) B.b_isinstance PyProof.Rows.boot_isinstance (pa_cons (pv 1) (pa_cons (pe_bltn (v := .ty "dict") (by rfl) B.b_dict (by decide +kernel) rfl) pa_nil)))) pss_never pss_nil)
      (pss_cons (ps_if (pt_val (pe_callB call_isiT (by rfl) B.b_isinstance PyProof.Rows.boot_isinstance (pa_cons (pv 1) (pa_cons (pe_tup (pa_cons (pe_bltn (v := .ty "tuple") (by rfl) B.b_tuple PyProof.Rows.boot_tuple rfl) (pa_cons (pe_bltn (v := .ty "list") (by rfl) B.b_list PyProof.Rows.boot_list rfl) pa_nil))) pa_nil)))) pss_never pss_nil)
      (pss_cons (ps_if (PW.pt (pw_or (pt_cmpR op_isN (pv 1) pe_non (nomark _)) (pw_or1 (pt_val (pe_callB (call_isT "str") (by rfl) B.b_isinstance PyProof.Rows.boot_isinstance (pa_cons (pv 1) (pa_cons (pe_bltn (v := .ty "str") (by rfl) B.b_str PyProof.Rows.boot_str rfl) pa_nil))))))) (pss_one (ps_ret (pe_and (pe_cmpR op_eq (pv 0) (pv 1) (nomark _)) (pe_one (pe_cmpR op_eq (pe_callB (call_isT "str") (by rfl) B.b_isinstance PyProof.Rows.boot_isinstance (pa_cons (pv 0) (pa_cons (pe_bltn (v := .ty "str") (by rfl) B.b_str PyProof.Rows.boot_str rfl) pa_nil))) (pe_callB (call_isT "str") (by rfl) B.b_isinstance PyProof.Rows.boot_isinstance (pa_cons (pv 1) (pa_cons (pe_bltn (v := .ty "str") (by rfl) B.b_str PyProof.Rows.boot_str rfl) pa_nil))) (nomark _)))))) pss_nil)
      (pss_one (ps_ret (pe_and (pe_callB (call_isT "int") (by rfl) B.b_isinstance PyProof.Rows.boot_isinstance (pa_cons (pv 0) (pa_cons (pe_bltn (v := .ty "int") (by rfl) B.b_int PyProof.Rows.boot_int rfl) pa_nil))) (pe_and (pe_cmpR op_eq (pe_callB (call_isT "bool") (by rfl) B.b_isinstance PyProof.Rows.boot_isinstance (pa_cons (pv 0) (pa_cons (pe_bltn (v := .ty "bool") (by rfl) B.b_bool PyProof.Rows.boot_bool rfl) pa_nil))) (pe_callB (call_isT "bool") (by rfl) B.b_isinstance PyProof.Rows.boot_isinstance (pa_cons (pv 1) (pa_cons (pe_bltn (v := .ty "bool") (by rfl) B.b_bool PyProof.Rows.boot_bool rfl) pa_nil))) (nomark _)) (pe_one (pe_cmpR op_eq (pv 0) (pv 1) (nomark _)))))))))), ?_⟩
  cases hx with
  | non _ =>
    cases hy
    refine ⟨_, rfl, _, "NoneType", false, rfl, .non, by decide +kernel, false, rfl, iteF ?_⟩
    refine ⟨_, rfl, (by show 2 ≤ sizeLine; decide), fun tp ntp => ⟨_, tp, _, .type "NoneType", [.type "tuple", .type "list"], false, rfl, upd_same, .cons (.ty _) (.cons (.ty _) .nil), .base (.non), kitAny_cons (b := false) (kit_ty (by decide +kernel)) (fun _ => kitAny_cons (b := false) (kit_ty (by decide +kernel)) (fun _ => kitAny_nil) (fun z => nomatch z)) (fun z => nomatch z), false, rfl, iteF ?_⟩⟩
    have s1 : Same H (upd H tp (.tup [.ty "tuple", .ty "list"])) := (Same.refl H).put ntp
    refine ⟨_, rfl, rfl, true, rfl, iteT (iteT ?_)⟩
    refine ⟨_, rfl, _, rfl, rfl, decide (V.non = V.non), rfl, ?_⟩
    rw [decide_eq_true rfl]
    refine iteT ?_
    refine ⟨_, rfl, _, "NoneType", false, rfl, .non, by decide +kernel, _, rfl, _, "NoneType", false, rfl, .non, by decide +kernel, rfl, ?_⟩
    exact q _ s1
  | bl _ b =>
    cases hy
    refine ⟨_, rfl, _, "bool", false, rfl, .bl b, by decide +kernel, false, rfl, iteF ?_⟩
    refine ⟨_, rfl, (by show 2 ≤ sizeLine; decide), fun tp ntp => ⟨_, tp, _, .type "bool", [.type "tuple", .type "list"], false, rfl, upd_same, .cons (.ty _) (.cons (.ty _) .nil), .base (.bl b), kitAny_cons (b := false) (kit_ty (by decide +kernel)) (fun _ => kitAny_cons (b := false) (kit_ty (by decide +kernel)) (fun _ => kitAny_nil) (fun z => nomatch z)) (fun z => nomatch z), false, rfl, iteF ?_⟩⟩
    have s1 : Same H (upd H tp (.tup [.ty "tuple", .ty "list"])) := (Same.refl H).put ntp
    refine ⟨_, rfl, rfl, false, rfl, iteF ⟨_, rfl, _, "bool", false, rfl, .bl b, by decide +kernel, false, rfl, iteF ?_⟩⟩
    refine ⟨_, rfl, _, "bool", true, rfl, .bl b, by decide +kernel, true, rfl, iteT ?_⟩
    refine ⟨_, rfl, _, "bool", true, rfl, .bl b, by decide +kernel, _, rfl, _, "bool", true, rfl, .bl b, by decide +kernel, rfl, true, rfl, iteT ?_⟩
    refine ⟨_, rfl, _, rfl, rfl, ?_⟩
    rw [decide_eq_true rfl]
    exact q _ s1
  | int _ i =>
    cases hy
    refine ⟨_, rfl, _, "int", false, rfl, .int i, by decide +kernel, false, rfl, iteF ?_⟩
    refine ⟨_, rfl, (by show 2 ≤ sizeLine; decide), fun tp ntp => ⟨_, tp, _, .type "int", [.type "tuple", .type "list"], false, rfl, upd_same, .cons (.ty _) (.cons (.ty _) .nil), .base (.int i), kitAny_cons (b := false) (kit_ty (by decide +kernel)) (fun _ => kitAny_cons (b := false) (kit_ty (by decide +kernel)) (fun _ => kitAny_nil) (fun z => nomatch z)) (fun z => nomatch z), false, rfl, iteF ?_⟩⟩
    have s1 : Same H (upd H tp (.tup [.ty "tuple", .ty "list"])) := (Same.refl H).put ntp
    refine ⟨_, rfl, rfl, false, rfl, iteF ⟨_, rfl, _, "int", false, rfl, .int i, by decide +kernel, false, rfl, iteF ?_⟩⟩
    refine ⟨_, rfl, _, "int", true, rfl, .int i, by decide +kernel, true, rfl, iteT ?_⟩
    refine ⟨_, rfl, _, "int", false, rfl, .int i, by decide +kernel, _, rfl, _, "int", false, rfl, .int i, by decide +kernel, rfl, true, rfl, iteT ?_⟩
    refine ⟨_, rfl, _, rfl, rfl, ?_⟩
    rw [decide_eq_true rfl]
    exact q _ s1
  | str _ x =>
    cases hy
    refine ⟨_, rfl, _, "str", false, rfl, .str x, by decide +kernel, false, rfl, iteF ?_⟩
    refine ⟨_, rfl, (by show 2 ≤ sizeLine; decide), fun tp ntp => ⟨_, tp, _, .type "str", [.type "tuple", .type "list"], false, rfl, upd_same, .cons (.ty _) (.cons (.ty _) .nil), .base (.str x), kitAny_cons (b := false) (kit_ty (by decide +kernel)) (fun _ => kitAny_cons (b := false) (kit_ty (by decide +kernel)) (fun _ => kitAny_nil) (fun z => nomatch z)) (fun z => nomatch z), false, rfl, iteF ?_⟩⟩
    have s1 : Same H (upd H tp (.tup [.ty "tuple", .ty "list"])) := (Same.refl H).put ntp
    refine ⟨_, rfl, rfl, false, rfl, iteF ⟨_, rfl, _, "str", true, rfl, .str x, by decide +kernel, true, rfl, iteT ?_⟩⟩
    refine ⟨_, rfl, _, rfl, rfl, decide (V.str x = V.str x), rfl, ?_⟩
    rw [decide_eq_true rfl]
    refine iteT ?_
    refine ⟨_, rfl, _, "str", true, rfl, .str x, by decide +kernel, _, rfl, _, "str", true, rfl, .str x, by decide +kernel, rfl, ?_⟩
    exact q _ s1
theorem ok_alike {n : Nat} {f : Addr} {fd : FuncData} (F : Fun K "_law_alike" "_law_alike" s__law_alike f fd) (B : Blt mg) (c__law_alike : Cal P w K mg base CX0 (n + 1) "_law_alike" ["_law_found", "_law_due"] (sp_alike n)) : FnOk P w K mg base CX0 (n + 2) f fd ["_law_found", "_law_due"] (sp_alike (n + 1)) := by
  refine F.ok sc__law_alike (fun vs H Q E h => by obtain ⟨x, y, d, rfl, _⟩ := h; rfl) (fun cdv A outer s H vs Q E hr h => ?_)
  obtain ⟨x, y, d, rfl, hx, hy, q⟩ := h
  refine ⟨_, (pss_cons (ps_if (pt_val (pe_callB (call_isT "dict") (by rfl) B.b_isinstance PyProof.Rows.boot_isinstance (pa_cons (pv 1) (pa_cons (pe_bltn (v := .ty "dict") (by rfl) B.b_dict (by decide +kernel) rfl) pa_nil)))) pss_never pss_nil)
      (pss_cons (ps_if (pt_val (pe_callB call_isiT (by rfl) B.b_isinstance PyProof.Rows.boot_isinstance (pa_cons (pv 1) (pa_cons (pe_tup (pa_cons (pe_bltn (v := .ty "tuple") (by rfl) B.b_tuple PyProof.Rows.boot_tuple rfl) (pa_cons (pe_bltn (v := .ty "list") (by rfl) B.b_list PyProof.Rows.boot_list rfl) pa_nil))) pa_nil)))) (pss_cons (ps_if (PW.pt (pw_or (pt_not (pt_val (pe_callB call_isiT (by rfl) B.b_isinstance PyProof.Rows.boot_isinstance (pa_cons (pv 0) (pa_cons (pe_tup (pa_cons (pe_bltn (v := .ty "tuple") (by rfl) B.b_tuple PyProof.Rows.boot_tuple rfl) (pa_cons (pe_bltn (v := .ty "list") (by rfl) B.b_list PyProof.Rows.boot_list rfl) pa_nil))) pa_nil))))) (pw_or1 (pt_cmpR op_ne (pe_callB (call_isT "list") (by rfl) B.b_isinstance PyProof.Rows.boot_isinstance (pa_cons (pv 0) (pa_cons (pe_bltn (v := .ty "list") (by rfl) B.b_list PyProof.Rows.boot_list rfl) pa_nil))) (pe_callB (call_isT "list") (by rfl) B.b_isinstance PyProof.Rows.boot_isinstance (pa_cons (pv 1) (pa_cons (pe_bltn (v := .ty "list") (by rfl) B.b_list PyProof.Rows.boot_list rfl) pa_nil))) (nomark _))))) (pss_one (ps_ret pe_bl)) pss_nil)
      (pss_cons (ps_if (pt_cmpR op_ne (pe_callB call_len_seq (by rfl) B.b_len PySem.boot_len (pa_cons (pv 0) pa_nil)) (pe_callB call_len_seq (by rfl) B.b_len PySem.boot_len (pa_cons (pv 1) pa_nil)) (nomark _)) (pss_one (ps_ret pe_bl)) pss_nil)
      (pss_one (ps_ret (pe_cmpR (op_eqD hr.units) (pe_lc (own := [("_law_k", 2)]) (g := gName 2) rfl sc__law_alike.nd (pi_range1 (by rfl) B.b_range (pa_cons (pe_callB call_len_seq (by rfl) B.b_len PySem.boot_len (pa_cons (pv 1) pa_nil)) pa_nil)) (blkOk_by (own := [("_law_k", 2)]) (N := ["_law_found", "_law_due", "_law_k"]) (sc := defScope s__law_alike) (by decide +kernel)) (fun _ _ _ _ _ => (pg_name (i := 2) sc__law_alike.nd rfl (Or.inl rfl))) (fun _ _ _ _ _ => (pts_.re (pts_one (pt_not (pt_val (pe_cal c__law_alike hr (pa_cons (pe_ix ix_seq (pv 0) (pv 2) (fun _ _ => rfl)) (pa_cons (pe_ix ix_seq (pv 1) (pv 2) (fun _ _ => rfl)) pa_nil)))))) (by first | (dsimp only [Cx.blk]; done) | exact rfl))) (fun _ _ _ _ _ => (pe_.re (pv 2) (by first | (dsimp only [Cx.blk]; done) | exact rfl)))) (pe_lst pa_nil) (nomark _)))))) pss_nil)
      (pss_cons (ps_if (PW.pt (pw_or (pt_cmpR op_isN (pv 1) pe_non (nomark _)) (pw_or1 (pt_val (pe_callB (call_isT "str") (by rfl) B.b_isinstance PyProof.Rows.boot_isinstance (pa_cons (pv 1) (pa_cons (pe_bltn (v := .ty "str") (by rfl) B.b_str PyProof.Rows.boot_str rfl) pa_nil))))))) (pss_one (ps_ret (pe_and (pe_cmpR op_eq (pv 0) (pv 1) (nomark _)) (pe_one (pe_cmpR op_eq (pe_callB (call_isT "str") (by rfl) B.b_isinstance PyProof.Rows.boot_isinstance (pa_cons (pv 0) (pa_cons (pe_bltn (v := .ty "str") (by rfl) B.b_str PyProof.Rows.boot_str rfl) pa_nil))) (pe_callB (call_isT "str") (by rfl) B.b_isinstance PyProof.Rows.boot_isinstance (pa_cons (pv 1) (pa_cons (pe_bltn (v := .ty "str") (by rfl) B.b_str PyProof.Rows.boot_str rfl) pa_nil))) (nomark _)))))) pss_nil)
      (pss_one (ps_ret (pe_and (pe_callB (call_isT "int") (by rfl) B.b_isinstance PyProof.Rows.boot_isinstance (pa_cons (pv 0) (pa_cons (pe_bltn (v := .ty "int") (by rfl) B.b_int PyProof.Rows.boot_int rfl) pa_nil))) (pe_and (pe_cmpR op_eq (pe_callB (call_isT "bool") (by rfl) B.b_isinstance PyProof.Rows.boot_isinstance (pa_cons (pv 0) (pa_cons (pe_bltn (v := .ty "bool") (by rfl) B.b_bool PyProof.Rows.boot_bool rfl) pa_nil))) (pe_callB (call_isT "bool") (by rfl) B.b_isinstance PyProof.Rows.boot_isinstance (pa_cons (pv 1) (pa_cons (pe_bltn (v := .ty "bool") (by rfl) B.b_bool PyProof.Rows.boot_bool rfl) pa_nil))) (nomark _)) (pe_one (pe_cmpR op_eq (pv 0) (pv 1) (nomark _)))))))))), ?_⟩
  cases hx with
  | non _ =>
    cases hy
    refine ⟨_, rfl, _, "NoneType", false, rfl, .non, by decide +kernel, false, rfl, iteF ?_⟩
    refine ⟨_, rfl, (by show 2 ≤ sizeLine; decide), fun tp ntp => ⟨_, tp, _, .type "NoneType", [.type "tuple", .type "list"], false, rfl, upd_same, .cons (.ty _) (.cons (.ty _) .nil), .base (.non), kitAny_cons (b := false) (kit_ty (by decide +kernel)) (fun _ => kitAny_cons (b := false) (kit_ty (by decide +kernel)) (fun _ => kitAny_nil) (fun z => nomatch z)) (fun z => nomatch z), false, rfl, iteF ?_⟩⟩
    have s1 : Same H (upd H tp (.tup [.ty "tuple", .ty "list"])) := (Same.refl H).put ntp
    refine ⟨_, rfl, rfl, true, rfl, iteT (iteT ?_)⟩
    refine ⟨_, rfl, _, rfl, rfl, decide (V.non = V.non), rfl, ?_⟩
    rw [decide_eq_true rfl]
    refine iteT ?_
    refine ⟨_, rfl, _, "NoneType", false, rfl, .non, by decide +kernel, _, rfl, _, "NoneType", false, rfl, .non, by decide +kernel, rfl, ?_⟩
    exact q _ s1
  | bl _ b =>
    cases hy
    refine ⟨_, rfl, _, "bool", false, rfl, .bl b, by decide +kernel, false, rfl, iteF ?_⟩
    refine ⟨_, rfl, (by show 2 ≤ sizeLine; decide), fun tp ntp => ⟨_, tp, _, .type "bool", [.type "tuple", .type "list"], false, rfl, upd_same, .cons (.ty _) (.cons (.ty _) .nil), .base (.bl b), kitAny_cons (b := false) (kit_ty (by decide +kernel)) (fun _ => kitAny_cons (b := false) (kit_ty (by decide +kernel)) (fun _ => kitAny_nil) (fun z => nomatch z)) (fun z => nomatch z), false, rfl, iteF ?_⟩⟩
    have s1 : Same H (upd H tp (.tup [.ty "tuple", .ty "list"])) := (Same.refl H).put ntp
    refine ⟨_, rfl, rfl, false, rfl, iteF ⟨_, rfl, _, "bool", false, rfl, .bl b, by decide +kernel, false, rfl, iteF ?_⟩⟩
    refine ⟨_, rfl, _, "bool", true, rfl, .bl b, by decide +kernel, true, rfl, iteT ?_⟩
    refine ⟨_, rfl, _, "bool", true, rfl, .bl b, by decide +kernel, _, rfl, _, "bool", true, rfl, .bl b, by decide +kernel, rfl, true, rfl, iteT ?_⟩
    refine ⟨_, rfl, _, rfl, rfl, ?_⟩
    rw [decide_eq_true rfl]
    exact q _ s1
  | int _ i =>
    cases hy
    refine ⟨_, rfl, _, "int", false, rfl, .int i, by decide +kernel, false, rfl, iteF ?_⟩
    refine ⟨_, rfl, (by show 2 ≤ sizeLine; decide), fun tp ntp => ⟨_, tp, _, .type "int", [.type "tuple", .type "list"], false, rfl, upd_same, .cons (.ty _) (.cons (.ty _) .nil), .base (.int i), kitAny_cons (b := false) (kit_ty (by decide +kernel)) (fun _ => kitAny_cons (b := false) (kit_ty (by decide +kernel)) (fun _ => kitAny_nil) (fun z => nomatch z)) (fun z => nomatch z), false, rfl, iteF ?_⟩⟩
    have s1 : Same H (upd H tp (.tup [.ty "tuple", .ty "list"])) := (Same.refl H).put ntp
    refine ⟨_, rfl, rfl, false, rfl, iteF ⟨_, rfl, _, "int", false, rfl, .int i, by decide +kernel, false, rfl, iteF ?_⟩⟩
    refine ⟨_, rfl, _, "int", true, rfl, .int i, by decide +kernel, true, rfl, iteT ?_⟩
    refine ⟨_, rfl, _, "int", false, rfl, .int i, by decide +kernel, _, rfl, _, "int", false, rfl, .int i, by decide +kernel, rfl, true, rfl, iteT ?_⟩
    refine ⟨_, rfl, _, rfl, rfl, ?_⟩
    rw [decide_eq_true rfl]
    exact q _ s1
  | str _ x =>
    cases hy
    refine ⟨_, rfl, _, "str", false, rfl, .str x, by decide +kernel, false, rfl, iteF ?_⟩
    refine ⟨_, rfl, (by show 2 ≤ sizeLine; decide), fun tp ntp => ⟨_, tp, _, .type "str", [.type "tuple", .type "list"], false, rfl, upd_same, .cons (.ty _) (.cons (.ty _) .nil), .base (.str x), kitAny_cons (b := false) (kit_ty (by decide +kernel)) (fun _ => kitAny_cons (b := false) (kit_ty (by decide +kernel)) (fun _ => kitAny_nil) (fun z => nomatch z)) (fun z => nomatch z), false, rfl, iteF ?_⟩⟩
    have s1 : Same H (upd H tp (.tup [.ty "tuple", .ty "list"])) := (Same.refl H).put ntp
    refine ⟨_, rfl, rfl, false, rfl, iteF ⟨_, rfl, _, "str", true, rfl, .str x, by decide +kernel, true, rfl, iteT ?_⟩⟩
    refine ⟨_, rfl, _, rfl, rfl, decide (V.str x = V.str x), rfl, ?_⟩
    rw [decide_eq_true rfl]
    refine iteT ?_
    refine ⟨_, rfl, _, "str", true, rfl, .str x, by decide +kernel, _, rfl, _, "str", true, rfl, .str x, by decide +kernel, rfl, ?_⟩
    exact q _ s1
  | lst e l z all =>
    rename_i p xs ds
    cases hy with
    | lst e2 l2 z2 all2 =>
      rename_i q0 ys
      refine ⟨_, rfl, _, "list", false, rfl, .lst e2, by decide +kernel, false, rfl, iteF ?_⟩
      refine ⟨_, rfl, (by show 2 ≤ sizeLine; decide), fun tp ntp => ?_⟩
      have s1 : Same H (upd H tp (.tup [.ty "tuple", .ty "list"])) := (Same.refl H).put ntp
      refine ⟨_, tp, _, .type "list", [.type "tuple", .type "list"], true, rfl, upd_same, .cons (.ty _) (.cons (.ty _) .nil), .base (.lst (s1 _ _ e2)), kitAny_cons (b := false) (kit_ty (by decide +kernel)) (fun _ => kitAny_cons (b := true) (kit_ty (by decide +kernel)) (fun z => nomatch z) (fun _ => rfl)) (fun z => nomatch z), true, rfl, iteT ?_⟩
      refine ⟨_, rfl, (by show 2 ≤ sizeLine; decide), fun tp2 ntp2 => ?_⟩
      have s2 := s1.put' (o := .tup [.ty "tuple", .ty "list"]) ntp2
      refine ⟨_, tp2, _, .type "list", [.type "tuple", .type "list"], true, rfl, upd_same, .cons (.ty _) (.cons (.ty _) .nil), .base (.lst (s2 _ _ e)), kitAny_cons (b := false) (kit_ty (by decide +kernel)) (fun _ => kitAny_cons (b := true) (kit_ty (by decide +kernel)) (fun z => nomatch z) (fun _ => rfl)) (fun z => nomatch z), true, rfl, iteF ?_⟩
      refine ⟨_, rfl, _, "list", true, rfl, .lst (s2 _ _ e), by decide +kernel, _, rfl, _, "list", true, rfl, .lst (s2 _ _ e2), by decide +kernel, rfl, _, rfl, iteF ?_⟩
      refine ⟨_, rfl, p, _, rfl, .inl (sqL_of (s2 _ _ e)), _, rfl, q0, _, rfl, .inl (sqL_of (s2 _ _ e2)), rfl, _, rfl, ?_⟩
      have el : ((xs.length : Nat) : Int) = (ys.length : Nat) := by rw [l, l2]
      rw [el, decide_eq_true rfl]
      refine iteF ?_
      refine ⟨_, rfl, q0, _, rfl, .inl (sqL_of (s2 _ _ e2)), _, rfl, by omega, by omega, fun D nD => lc_it walk_range (fun i H' => Same H H' ∧ H' D = some (.lst [])) ⟨s2.put' nD, upd_same⟩ (fun _ _ _ _ => trivial) ?_ ?_⟩
      · rintro i y H2 H3 hi ⟨s3, e3⟩ ⟨rfl, hy⟩
        have hy : y = V.int (i : Nat) := by
          rw [hy]
          show V.int (0 + (i : Nat)) = _
          rw [Int.zero_add]
        subst hy
        have hi : i < ys.length := by simpa using hi
        have hix : i < xs.length := by omega
        have hid : i < ds.length := by omega
        refine ⟨rfl, _, rfl, _, rfl, .inl ⟨_, _, (i : Nat), _, rfl, rfl, sqL_of (s3 _ _ e), atI_nat (List.getElem?_eq_getElem hix), ?_⟩⟩
        refine ⟨_, rfl, _, rfl, .inl ⟨_, _, (i : Nat), _, rfl, rfl, sqL_of (s3 _ _ e2), atI_nat (List.getElem?_eq_getElem hi), ?_⟩⟩
        refine ⟨_, _, ds[i], rfl, (all i _ _ (List.getElem?_eq_getElem hix) (List.getElem?_eq_getElem hid)).same s3, (all2 i _ _ (List.getElem?_eq_getElem hi) (List.getElem?_eq_getElem hid)).same s3, fun H4 s4 => ⟨true, rfl, iteF ⟨s3.trans s4, s4 _ _ e3⟩⟩⟩
      · rintro H2 ⟨s3, e3⟩
        refine ⟨Nat.zero_le _, fun p2 np2 => ⟨.list [], .list [], .lst (sqL_of (by rw [upd_ne (ne_of_none e3 np2)]; exact e3)) .nil, .lst sqL_new .nil, rfl, rfl, q _ (s3.put' np2)⟩⟩
  | tup e l z all =>
    rename_i p xs ds
    cases hy with
    | tup e2 l2 z2 all2 =>
      rename_i q0 ys
      refine ⟨_, rfl, _, "tuple", false, rfl, .tup e2, by decide +kernel, false, rfl, iteF ?_⟩
      refine ⟨_, rfl, (by show 2 ≤ sizeLine; decide), fun tp ntp => ?_⟩
      have s1 : Same H (upd H tp (.tup [.ty "tuple", .ty "list"])) := (Same.refl H).put ntp
      refine ⟨_, tp, _, .type "tuple", [.type "tuple", .type "list"], true, rfl, upd_same, .cons (.ty _) (.cons (.ty _) .nil), .base (.tup (s1 _ _ e2)), kitAny_cons (b := true) (kit_ty (by decide +kernel)) (fun z => nomatch z) (fun _ => rfl), true, rfl, iteT ?_⟩
      refine ⟨_, rfl, (by show 2 ≤ sizeLine; decide), fun tp2 ntp2 => ?_⟩
      have s2 := s1.put' (o := .tup [.ty "tuple", .ty "list"]) ntp2
      refine ⟨_, tp2, _, .type "tuple", [.type "tuple", .type "list"], true, rfl, upd_same, .cons (.ty _) (.cons (.ty _) .nil), .base (.tup (s2 _ _ e)), kitAny_cons (b := true) (kit_ty (by decide +kernel)) (fun z => nomatch z) (fun _ => rfl), true, rfl, iteF ?_⟩
      refine ⟨_, rfl, _, "tuple", false, rfl, .tup (s2 _ _ e), by decide +kernel, _, rfl, _, "tuple", false, rfl, .tup (s2 _ _ e2), by decide +kernel, rfl, _, rfl, iteF ?_⟩
      refine ⟨_, rfl, p, _, rfl, .inr (sqT_of (s2 _ _ e)), _, rfl, q0, _, rfl, .inr (sqT_of (s2 _ _ e2)), rfl, _, rfl, ?_⟩
      have el : ((xs.length : Nat) : Int) = (ys.length : Nat) := by rw [l, l2]
      rw [el, decide_eq_true rfl]
      refine iteF ?_
      refine ⟨_, rfl, q0, _, rfl, .inr (sqT_of (s2 _ _ e2)), _, rfl, by omega, by omega, fun D nD => lc_it walk_range (fun i H' => Same H H' ∧ H' D = some (.lst [])) ⟨s2.put' nD, upd_same⟩ (fun _ _ _ _ => trivial) ?_ ?_⟩
      · rintro i y H2 H3 hi ⟨s3, e3⟩ ⟨rfl, hy⟩
        have hy : y = V.int (i : Nat) := by
          rw [hy]
          show V.int (0 + (i : Nat)) = _
          rw [Int.zero_add]
        subst hy
        have hi : i < ys.length := by simpa using hi
        have hix : i < xs.length := by omega
        have hid : i < ds.length := by omega
        refine ⟨rfl, _, rfl, _, rfl, .inr (.inl ⟨_, _, (i : Nat), _, rfl, rfl, sqT_of (s3 _ _ e), atI_nat (List.getElem?_eq_getElem hix), ?_⟩)⟩
        refine ⟨_, rfl, _, rfl, .inr (.inl ⟨_, _, (i : Nat), _, rfl, rfl, sqT_of (s3 _ _ e2), atI_nat (List.getElem?_eq_getElem hi), ?_⟩)⟩
        refine ⟨_, _, ds[i], rfl, (all i _ _ (List.getElem?_eq_getElem hix) (List.getElem?_eq_getElem hid)).same s3, (all2 i _ _ (List.getElem?_eq_getElem hi) (List.getElem?_eq_getElem hid)).same s3, fun H4 s4 => ⟨true, rfl, iteF ⟨s3.trans s4, s4 _ _ e3⟩⟩⟩
      · rintro H2 ⟨s3, e3⟩
        refine ⟨Nat.zero_le _, fun p2 np2 => ⟨.list [], .list [], .lst (sqL_of (by rw [upd_ne (ne_of_none e3 np2)]; exact e3)) .nil, .lst sqL_new .nil, rfl, rfl, q _ (s3.put' np2)⟩⟩
end
end Sc
namespace Sc
open PySem PySem.Spec PyProof.Rows L2
theorem strAt_inj {xs : List Str} {i : Nat} {x : Str} {v : V} (hx : xs[i]? = some x) (h : (xs.map V.str)[i]? = some v) : V.str x = v := by
  rw [List.getElem?_map, hx] at h
  exact Option.some.inj h
theorem find_none {n : Nat} {p : Nat → Bool} (h : ∀ j, j < n → p j = false) : (List.range n).find? p = none := by
  rw [List.find?_eq_none]
  intro j hj
  rw [h j (List.mem_range.mp hj)]
  exact Bool.false_ne_true
theorem find_at {n i : Nat} {p : Nat → Bool} (hi : i < n) (hp : p i = true) (h : ∀ j, j < i → p j = false) : (List.range n).find? p = some i := by
  rw [List.find?_range_eq_some]
  exact ⟨hp, List.mem_range.mpr hi, fun j hj => by rw [h j hj]; rfl⟩
/-- names that texts of a program may have -/
def Txts (xs : List Str) : Prop := ∀ x ∈ xs, x.length ≤ 1000
def errIx (C : Addr) (i : Nat) (H : Hp) (E : XK) : Prop := ∀ H' d, Same H H' → H' d = none → E (.ref C) (some d) (upd H' d (.xd [(("index" : Str), .int i)]))
theorem flat_strs : ∀ xs : List Str, (xs.map V.str).all flatV = true
  | [] => rfl
  | _ :: r => flat_strs r
theorem inV_str {x : Str} : ∀ xs : List Str, inV (.str x) (xs.map V.str) = decide (x ∈ xs)
  | [] => rfl
  | y :: r => by
    show (eqV (.str y) (.str x) || inV (.str x) (r.map V.str)) = _
    rw [inV_str r]
    show ((y == x) || _) = _
    by_cases h : y = x
    · subst h
      simp
    · have e : (y == x) = false := by simpa using h
      rw [e, Bool.false_or]
      simp [List.mem_cons, show ¬ x = y from fun z => h z.symm]
end Sc
namespace Sc
open PySem PySem.Spec PyProof.Rows L2
/-! ### conditions -/
abbrev s_check_part : Stmt := topS 37
theorem sc_check_part : FnScope ["part", "names", "before", "index", "name", "wrong"] ["part", "names", "before"] (defScope s_check_part) := ⟨rfl, rfl, rfl, by decide +kernel, rfl, by decide +kernel, by decide +kernel⟩
abbrev s_merged : Stmt := topS 38
theorem sc_merged : FnScope ["names", "others", "name"] ["names", "others"] (defScope s_merged) := ⟨rfl, rfl, rfl, by decide +kernel, rfl, by decide +kernel, by decide +kernel⟩
theorem filter1 {α : Type} (p : α → Bool) (y : α) : List.filter p [y] = if p y = true then [y] else [] := by cases h : p y <;> simp [List.filter, h]
section
variable {P : Program} {w : World} {K : PySem.W.Frag} {mg : Str → Option Value} {base : Heap} {CC : Addr}
/-- the i-th name of a part is wrong; ys the part ahead of it -/
def wrongAt (xs ys : List Str) (i : Nat) : Bool := match xs[i]? with
  | some x => (!isName x || !risesAt xs i) || (decide (8 ≤ ys.length + i) || decide (x ∈ ys))
  | none => false
def firstWrong (xs ys : List Str) : Option Nat := (List.range xs.length).find? (wrongAt xs ys)
def errPI (C : Addr) (part : Int) (i : Nat) (H : Hp) (E : XK) : Prop := ∀ H' d, Same H H' → H' d = none → E (.ref C) (some d) (upd H' d (.xd [(("index" : Str), .int i), (("part" : Str), .int part)]))
def sp_check_part (K : PySem.W.Frag) (C : Addr) : Sp := fun vs H Q E => ∃ (part : Nat) (a b : Addr) (xs ys : List Str), vs = [.int part, .ref a, .ref b] ∧ part ≤ 1 ∧ SqT K H a (xs.map V.str) ∧ SqT K H b (ys.map V.str) ∧ Txts xs ∧ xs.length ≤ 1000 ∧ ys.length ≤ 1000 ∧
  (firstWrong xs ys = none → ∀ H', Same H H' → Q .non H') ∧ (∀ i, firstWrong xs ys = some i → errPI C part i H E)
theorem ok_check_part {f : Addr} {fd : FuncData} (F : Fun K "check_part" "check_part" s_check_part f fd) (B : Blt mg) (mM : ∃ t, mg "MOST_NAMES" = some (.int 8 t))
    (e_InvalidCondition : ErrMk P w K mg base "InvalidCondition" CC ["self", "part", "index"] (sp_init2 CC "part" "index")) (c_is_name : Cal P w K mg base CX0 1 "is_name" ["value"] sp_is_name) (c_rises : Cal P w K mg base CX0 1 "rises" ["names", "index"] (sp_rises K)) :
    FnOk P w K mg base (L2.CX P w) 3 f fd ["part", "names", "before"] (sp_check_part K CC) := by
  obtain ⟨t1, mM⟩ := mM
  refine F.okX sc_check_part (fun vs H Q E h => by obtain ⟨part, a, b, xs, ys, rfl, _⟩ := h; rfl) (fun cdv A outer s H vs Q E hr h => ?_)
  obtain ⟨part, a, b, xs, ys, rfl, hp, hS, hY, hT, hl, hly, q, e⟩ := h
  refine ⟨_, (pss_one (ps_for (passes_of rfl) rfl (pi_enumT (by rfl) B.b_enumerate (pa_cons (pv 1) pa_nil)) (pg_tup (by rfl) (pgs_cons (pg_name (i := 3) sc_check_part.nd rfl (Or.inl rfl)) (pgs_cons (pg_name (i := 4) sc_check_part.nd rfl (Or.inl rfl)) pgs_nil))) (pss_cons (ps_set (i := 5) sc_check_part.nd rfl (Or.inl rfl) (pe_or (pe_not (pe_cal c_is_name (hr.mono (by decide)) (pa_cons (pv 4) pa_nil))) (pe_one (pe_not (pe_cal c_rises (hr.mono (by decide)) (pa_cons (pv 1) (pa_cons (pv 3) pa_nil)))))))
      (pss_one (ps_if (PW.pt (pw_or (pt_val (pv 5)) (pw_or (pt_cmpR op_ge (pe_op op_add (pe_callB call_len_seq (by rfl) B.b_len PySem.boot_len (pa_cons (pv 2) pa_nil)) (pv 3)) (pe_glob (v := .int 8) rfl mM ⟨_, rfl⟩) (nomark _)) (pw_or1 (pt_cmpR op_in_seq (pv 4) (pv 2) rfl))))) (pss_one (ps_raise rfl (takes_of rfl rfl rfl rfl) (pmk_err2 e_InvalidCondition (hr.mono (by decide)) (pv 0) (pv 3)))) pss_nil))))), ?_⟩
  refine ⟨.ref a, rfl, a, _, rfl, hS, for_it walk_enumT (fun i σ H' => ∃ y1 y2 y3, σ = [some (.int part), some (.ref a), some (.ref b), y1, y2, y3] ∧ Same H H' ∧ ∀ j, j < i → wrongAt xs ys j = false)
    ⟨none, none, none, rfl, Same.refl H, fun j hj => absurd hj (Nat.not_lt_zero j)⟩ (fun i σ H' _ ⟨_, _, _, _, s, _⟩ => s.tup hS) ?_ ?_⟩
  · rintro i x σ H2 H3 hi ⟨y1, y2, y3, rfl, s, hb⟩ ⟨T, v1, v2, rfl, nT, rfl, h1, h2⟩
    obtain rfl : V.int (i : Nat) = v1 := Option.some.inj h1
    rw [List.length_map] at hi
    have hx : xs[i]? = some xs[i] := List.getElem?_eq_getElem hi
    obtain rfl : V.str xs[i] = v2 := strAt_inj hx h2
    have s3 : Same H (upd H2 T (.tup [.int (i : Nat), .str xs[i]])) := s.put' nT
    have rz : ∀ {H' : Hp}, wrongAt xs ys i = true → Same H H' → ∀ d, H' d = none → E (.ref CC) (some d) (upd H' d (.xd [(("index" : Str), .int (i : Nat)), (("part" : Str), .int part)])) := fun {H'} hp sH d nd => e i (find_at hi hp hb) H' d sH nd
    refine ⟨T, [.int (i : Nat), .str xs[i]], rfl, sqT_new, rfl, _, _, rfl, _, _, rfl, rfl, ?_⟩
    have ew : wrongAt xs ys i = ((!isName xs[i] || !risesAt xs i) || (decide (8 ≤ ys.length + i) || decide (xs[i] ∈ ys))) := by unfold wrongAt; rw [hx]
    have fk : FOk (.int part) ∧ FOk (.int (i : Nat)) := ⟨fok_nat (by omega), fok_nat (by omega)⟩
    refine ⟨_, rfl, xs[i], rfl, Nat.le_trans (hT _ (List.getElem_mem hi)) (by rw [sizeLine_eq]; decide), fun H4 s4 => ⟨_, rfl, _, rfl, bcase (fun c1 => ?_) (fun c1 => ?_)⟩⟩
    · exact ⟨_, rfl, _, rfl, iteT (iteT ⟨_, rfl, _, rfl, fk, rz (by rw [ew, c1, Bool.true_or, Bool.true_or]) (s3.trans s4)⟩)⟩
    · have s5 := s3.trans s4
      rw [c1, Bool.false_or] at ew
      refine ⟨.ref a, rfl, .int i, rfl, a, xs, i, rfl, s5.tup hS, hi, _, rfl, ?_⟩
      refine ⟨_, rfl, _, rfl, bcase (fun c2 => ?_) (fun c2 => ?_)⟩
      · exact iteT ⟨_, rfl, _, rfl, fk, rz (by rw [ew, c2, Bool.true_or]) s5⟩
      · rw [c2, Bool.false_or] at ew
        refine ⟨.ref b, rfl, b, _, rfl, .inr (s5.tup hY), .int i, rfl, _, i, rfl, rfl, _, 8, rfl, rfl, _, rfl, ?_⟩
        rw [List.length_map]
        by_cases h8 : 8 ≤ ys.length + i
        · rw [decide_eq_true (show (8 : Int) ≤ (ys.length : Int) + (i : Int) by omega)]
          exact iteT (iteT ⟨_, rfl, _, rfl, fk, rz (by rw [ew, decide_eq_true h8, Bool.true_or]) s5⟩)
        · rw [decide_eq_false (show ¬ (8 : Int) ≤ (ys.length : Int) + (i : Int) by omega)]
          rw [decide_eq_false h8, Bool.false_or] at ew
          refine iteF ⟨.str xs[i], rfl, .ref b, rfl, b, _, rfl, .inr (s5.tup hY), rfl, flat_strs ys, _, rfl, bcase (fun c3 => ?_) (fun c3 => ?_)⟩
          · have c3 : decide (xs[i] ∈ ys) = true := by rw [← inV_str]; exact c3
            exact ⟨_, rfl, _, rfl, fk, rz (by rw [ew, c3]) s5⟩
          · have c3 : decide (xs[i] ∈ ys) = false := by rw [← inV_str]; exact c3
            refine ⟨_, _, _, rfl, s5, fun j hj => ?_⟩
            by_cases hj2 : j < i
            · exact hb j hj2
            · have ej : j = i := by omega
              subst ej
              rw [ew, c3]
  · rintro σ H2 ⟨y1, y2, y3, rfl, s, hb⟩
    rw [List.length_map] at hb
    exact q (find_none hb) H2 s
def sp_merged (K : PySem.W.Frag) : Sp := fun vs H Q _ => ∃ (a b : Addr) (xs ys : List Str), vs = [.ref a, .ref b] ∧ SqT K H a (xs.map V.str) ∧ SqT K H b (ys.map V.str) ∧ xs.length + ys.length < 64 ∧
  ∀ H' p (zs : List Str), Same H H' → H' p = some (.tup (zs.map V.str)) → zs.Perm (xs ++ ys.filter fun y => !decide (y ∈ xs)) → sortedS zs = true → Q (.ref p) H'
theorem ok_merged {f : Addr} {fd : FuncData} (F : Fun K "merged" "merged" s_merged f fd) (B : Blt mg) : FnOk P w K mg base CX0 1 f fd ["names", "others"] (sp_merged K) := by
  refine F.ok sc_merged (fun vs H Q E h => by obtain ⟨a, b, xs, ys, rfl, _⟩ := h; rfl) (fun cdv A outer s H vs Q E hr h => ?_)
  obtain ⟨a, b, xs, ys, rfl, hS, hY, hl, q⟩ := h
  refine ⟨_, (pss_one (ps_ret (pe_callTy call_tuple_of (by rfl) B.b_tuple PyProof.Rows.boot_tuple (pa_cons (pe_callB cr_sortedS (by rfl) B.b_sorted (by decide +kernel) (pa_cons (pe_op op_cat (pe_callTy call_list_of (by rfl) B.b_list PyProof.Rows.boot_list (pa_cons (pv 0) pa_nil)) (pe_lc (own := [("name", 2)]) (g := gName 2) rfl sc_merged.nd (pi_tup (pv 1)) (blkOk_by (own := [("name", 2)]) (N := ["names", "others", "name"]) (sc := defScope s_merged) (by decide +kernel)) (fun _ _ _ _ _ => (pg_name (i := 2) sc_merged.nd rfl (Or.inl rfl))) (fun _ _ _ _ _ => (pts_.re (pts_one (pt_cmpR op_notIn_seq (pv 2) (pv 0) rfl)) (by first | (dsimp only [Cx.blk]; done) | exact rfl))) (fun _ _ _ _ _ => (pe_.re (pv 2) (by first | (dsimp only [Cx.blk]; done) | exact rfl))))) pa_nil)) pa_nil)))), ?_⟩
  have big : ∀ {m : Nat}, m ≤ 1000 → m ≤ sizeLine := fun {m} h => by rw [sizeLine_eq]; omega
  refine ⟨.ref a, rfl, a, _, rfl, .inr hS, fun l nl => ?_⟩
  have s1 := (Same.refl H).put (o := .lst (xs.map V.str)) nl
  have e1 : (upd H l (.lst (xs.map V.str))) l = some (.lst (xs.map V.str)) := upd_same
  generalize upd H l (.lst (xs.map V.str)) = H1 at s1 e1 ⊢
  refine ⟨.ref b, rfl, b, rfl, ⟨_, s1.tup hY⟩, fun D nD => lc_it walk_tup (fun i H' => Same H1 H' ∧ H' D = some (.lst (((ys.take i).filter fun y => !decide (y ∈ xs)).map V.str))) ⟨(Same.refl H1).put nD, upd_same⟩ (fun _ _ _ h => (s1.trans h.1).tup hY) ?_ ?_⟩
  · rintro i y H2 H3 hi ⟨s, e⟩ ⟨rfl, hy⟩
    rw [List.length_map] at hi
    have hx : ys[i]? = some ys[i] := List.getElem?_eq_getElem hi
    obtain rfl : V.str ys[i] = y := strAt_inj hx hy
    refine ⟨rfl, .str ys[i], rfl, .ref a, rfl, a, _, rfl, .inr ((s1.trans s).tup hS), rfl, flat_strs xs, _, rfl, bcase (fun c1 => ?_) (fun c1 => ?_)⟩
    · have c1 : (!decide (ys[i] ∈ xs)) = true := by rw [← inV_str]; exact c1
      refine ⟨_, rfl, grow (acc := fun i => ((ys.take i).filter fun y => !decide (y ∈ xs)).map V.str) nD s e ?_ ?_⟩
      · rw [List.length_map]
        refine small1000 (Nat.le_trans (List.length_filter_le _ _) ?_)
        rw [List.length_take]
        omega
      · show List.map V.str _ = _
        rw [take_more hx, List.filter_append, List.map_append, filter1, if_pos c1]
        rfl
    · have c1 : (!decide (ys[i] ∈ xs)) = false := by rw [← inV_str]; exact c1
      refine ⟨s, ?_⟩
      rw [take_more hx, List.filter_append, filter1, if_neg (by rw [c1]; exact Bool.false_ne_true), List.append_nil]
      exact e
  · rintro H2 ⟨s, e⟩
    rw [List.length_map, List.take_length] at e
    have hfl := List.length_filter_le (fun y => !decide (y ∈ xs)) ys
    refine ⟨l, D, _, _, rfl, rfl, s _ _ e1, e, big (by rw [List.length_map, List.length_map]; omega), fun p np => ?_⟩
    have s2 := (s1.trans s).put' (o := .lst (xs.map V.str ++ (ys.filter fun y => !decide (y ∈ xs)).map V.str)) np
    refine ⟨p, xs ++ ys.filter fun y => !decide (y ∈ xs), rfl, ?_, ?_, fun zs p2 hp hs np2 => ?_⟩
    · rw [List.map_append]
      exact sqL_new
    · rw [List.length_append]
      omega
    · refine ⟨p2, _, rfl, .inl ⟨sqL_new, fun p3 np3 => q _ p3 zs ((s2.put' np2).put' np3) upd_same hp hs⟩⟩
end
end Sc
namespace Sc
open PySem PySem.Spec PyProof.Rows L2
/-! ### an object Condition -/
abbrev s_Condition___init__ : Stmt := (inClass (topS 36) 0)
theorem sc_Condition___init__ : FnScope ["self", "holding", "failing"] ["self", "holding", "failing"] (defScope s_Condition___init__) := ⟨rfl, rfl, rfl, by decide +kernel, rfl, by decide +kernel, by decide +kernel⟩
section
variable {P : Program} {w : World} {K : PySem.W.Frag} {mg : Str → Option Value} {base : Heap} {CC C : Addr}
theorem wrongs_none {xs ys : List Str} (h : firstWrong xs ys = none) (i : Nat) (hi : i < xs.length) : ((!isName xs[i] || !risesAt xs i) = false ∧ ¬ 8 ≤ ys.length + i) ∧ ¬ xs[i] ∈ ys := by
  unfold firstWrong at h
  rw [List.find?_eq_none] at h
  have h := (Bool.not_eq_true _).mp (h i (List.mem_range.mpr hi))
  unfold wrongAt at h
  rw [List.getElem?_eq_getElem hi] at h
  dsimp only at h
  rw [Bool.or_eq_false_iff, Bool.or_eq_false_iff (x := decide _)] at h
  exact ⟨⟨h.1, of_decide_eq_false h.2.1⟩, of_decide_eq_false h.2.2⟩
theorem fw_len {xs ys : List Str} (h : firstWrong xs ys = none) : xs.length = 0 ∨ ys.length + xs.length ≤ 8 := by
  by_cases e : xs.length = 0
  · exact .inl e
  · have := (wrongs_none h (xs.length - 1) (by omega)).1.2
    exact .inr (by omega)
theorem fw_out {xs ys : List Str} (h : firstWrong xs ys = none) : ∀ x ∈ xs, ¬ x ∈ ys := by
  intro x hx
  obtain ⟨i, hi, rfl⟩ := List.getElem_of_mem hx
  exact (wrongs_none h i hi).2
theorem filter_out {xs ys : List Str} (h : ∀ x ∈ xs, ¬ x ∈ ys) : xs.filter (fun x => !decide (x ∈ ys)) = xs := by
  rw [List.filter_eq_self]
  intro x hx
  rw [decide_eq_false (h x hx)]
  rfl
/-- all but the object at x stands -/
def SameX (x : Addr) (H H' : Hp) : Prop := ∀ b o, b ≠ x → H b = some o → H' b = some o
/-- the fields of a condition -/
def condF (a b n : Addr) : List (Str × V) := putF "_names" (.ref n) (putF "_failing" (.ref b) (putF "_holding" (.ref a) []))
def sp_cond_init (K : PySem.W.Frag) (C CC : Addr) : Sp := fun vs H Q E => ∃ (x dx a b : Addr) (xs ys : List Str), vs = [.ref x, .ref a, .ref b] ∧ H x = some (.ins C dx []) ∧ SqT K H a (xs.map V.str) ∧ SqT K H b (ys.map V.str) ∧ Txts xs ∧ Txts ys ∧ xs.length ≤ 1000 ∧ ys.length ≤ 1000 ∧
  (∀ i, firstWrong xs [] = some i → errPI CC ((0 : Nat) : Int) i H E) ∧ (firstWrong xs [] = none → (∀ i, firstWrong ys xs = some i → errPI CC ((1 : Nat) : Int) i H E) ∧
  (firstWrong ys xs = none → ∀ H' n zs, SameX x H H' → H' x = some (.ins C dx (condF a b n)) → H' n = some (.tup (zs.map V.str)) → zs.Perm (xs ++ ys) → sortedS zs = true → Q .non H'))
theorem sqT_upd {H : Hp} {x dx a' : Addr} {fs : List (Str × V)} {o : HO} {vs : List V} (hx : H x = some (.ins C dx fs)) (h : SqT K H a' vs) : SqT K (upd H x o) a' vs := by
  rcases h with (h | ⟨ob, h⟩) | h
  · have ne : a' ≠ x := fun e => by rw [e, hx] at h; cases h
    exact .inl (.inl (by rw [upd_ne ne]; exact h))
  · have ne : a' ≠ x := fun e => by rw [e, hx] at h; cases h
    exact .inl (.inr ⟨ob, by rw [upd_ne ne]; exact h⟩)
  · exact .inr h
theorem putF_len (f : Str) (v : V) : ∀ fs : List (Str × V), (putF f v fs).length ≤ fs.length + 1
  | [] => Nat.le_refl 1
  | (g, x) :: r => by
    unfold putF
    split
    · exact Nat.le_succ _
    · show (putF f v r).length + 1 ≤ r.length + 1 + 1
      exact Nat.succ_le_succ (putF_len f v r)
theorem ok_cond_init {f : Addr} {fd : FuncData} (F : Fun K "__init__" "Condition.__init__" s_Condition___init__ f fd) (B : Blt mg) (T : Cls K C) (n1 : NoAttr K C "_holding") (n2 : NoAttr K C "_failing") (n3 : NoAttr K C "_names")
    (c_check_part : Cal P w K mg base (L2.CX P w) 3 "check_part" ["part", "names", "before"] (sp_check_part K CC)) (c_merged : Cal P w K mg base CX0 1 "merged" ["names", "others"] (sp_merged K)) :
    FnOk P w K mg base (L2.CX P w) 4 f fd ["self", "holding", "failing"] (sp_cond_init K C CC) := by
  refine F.okX sc_Condition___init__ (fun vs H Q E h => by obtain ⟨x, dx, a, b, xs, ys, rfl, _⟩ := h; rfl) (fun cdv A outer s H vs Q E hr h => ?_)
  obtain ⟨x, dx, a, b, xs, ys, rfl, hx, hA, hB, tA, tB, lA, lB, e0, q⟩ := h
  refine ⟨_, (pss_cons (ps_expr (pe_calX c_check_part (hr.mono (by decide)) (takes_of rfl rfl rfl rfl) (pa_cons pe_int (pa_cons (pv 1) (pa_cons (pe_tup pa_nil) pa_nil)))))
      (pss_cons (ps_expr (pe_calX c_check_part (hr.mono (by decide)) (takes_of rfl rfl rfl rfl) (pa_cons pe_int (pa_cons (pv 2) (pa_cons (pv 1) pa_nil)))))
      (pss_cons (ps_fld (pv 0) (pv 1) rfl)
      (pss_cons (ps_fld (pv 0) (pv 2) rfl)
      (pss_one (ps_fld (pv 0) (pe_cal c_merged (hr.mono (by decide)) (pa_cons (pv 1) (pa_cons (pv 2) pa_nil))) rfl)))))), ?_⟩
  refine ⟨.ref a, rfl, Nat.zero_le _, fun t nt => ⟨0, a, t, xs, [], rfl, by decide, ((Same.refl H).put nt).tup hA, sqT_new, tA, lA, by decide, fun e1 H1 s1 => ?_, fun i ei H' d sH nd => e0 i ei H' d (((Same.refl H).put nt).trans sH) nd⟩⟩
  obtain ⟨e1', q⟩ := q e1
  have s1 := ((Same.refl H).put nt).trans s1
  refine ⟨.ref b, rfl, .ref a, rfl, 1, b, a, ys, xs, rfl, by decide, s1.tup hB, s1.tup hA, tB, lB, lA, fun e2 H2 s2 => ?_, fun i ei H' d sH nd => e1' i ei H' d (s1.trans sH) nd⟩
  have s2 := s1.trans s2
  have q := q e2
  have hlen : xs.length + ys.length < 64 := by
    have h1 := fw_len e1
    have h2 := fw_len e2
    simp only [List.length_nil] at h1
    omega
  have hx2 := s2 _ _ hx
  refine ⟨.ref a, rfl, .ref x, rfl, x, C, dx, [], rfl, hx2, T, n1, by decide, ?_⟩
  refine ⟨.ref b, rfl, .ref x, rfl, x, C, dx, _, rfl, upd_same, T, n2, Nat.lt_of_le_of_lt (putF_len _ _ _) (by decide), ?_⟩
  refine ⟨.ref a, rfl, .ref b, rfl, a, b, xs, ys, rfl, ?_, ?_, hlen, fun H' p zs sH ep hperm hsort => ?_⟩
  · exact sqT_upd upd_same (sqT_upd hx2 (s2.tup hA))
  · exact sqT_upd upd_same (sqT_upd hx2 (s2.tup hB))
  · rw [filter_out (fw_out e2)] at hperm
    refine ⟨.ref x, rfl, x, C, dx, _, rfl, sH _ _ upd_same, T, n3, Nat.lt_of_le_of_lt (putF_len _ _ _) (Nat.lt_of_le_of_lt (Nat.succ_le_succ (putF_len _ _ _)) (by decide)), q _ p zs (fun b' o ne hb => ?_) upd_same ?_ hperm hsort⟩
    · rw [upd_ne ne]
      refine sH _ _ ?_
      rw [upd_ne ne, upd_ne ne]
      exact s2 _ _ hb
    · have ne : p ≠ x := fun e => by
        have h2 := sH _ _ (upd_same (H := upd H2 x (.ins C dx (putF "_holding" (.ref a) []))) (a := x) (o := .ins C dx (putF "_failing" (.ref b) (putF "_holding" (.ref a) []))))
        rw [e, h2] at ep
        cases ep
      rw [upd_ne ne]
      exact ep
end
end Sc
namespace Sc
open PySem PySem.Spec PyProof.Rows L2
/-- len(o), o an object whose class has its own __len__ -/
def rLenO (C : Addr) (sp : Sp) : List V → Hp → VK → Prop := fun xs H Q => ∃ (a dx : Addr) (fs : List (Str × V)), xs = [.ref a] ∧ H a = some (.ins C dx fs) ∧ sp [.ref a] H (fun v H' => ∃ n : Nat, v = .int n ∧ n < 2 ^ 62 ∧ Q (.int n) H') (fun _ _ _ => False)
theorem call_lenO {X : Cx} {C g : Addr} {k : Nat} {fd : FuncData} {ps : List Str} {sp : Sp} (at_ : PySem.W.findIn X.K (.ref C) "__len__" = some (some (.ref g))) (ty : PySem.W.typeIn X.K (.ref g) = some (.type "function"))
    (F : FnOk X.prog X.w X.K X.mg X.base CX0 k g fd ps sp) (hr : Room (k + 1) X.A) (hb : Binds X.K fd ps []) : CallR X (.builtin "len") (rLenO C sp) := by
  intro pins s σ H xs us Q I r h
  obtain ⟨a, dx, fs, rfl, ea, h⟩ := h
  obtain ⟨u, rfl, ru⟩ := vals1 r
  obtain rfl : u = Value.ref a := ru
  obtain ⟨mA, O, _⟩ := ins_get I.hok ea
  obtain ⟨od, J, _⟩ := ObjM.look O
  have hl : ([Value.ref a] ++ ([] : List Value)).length = ps.length := F.len _ _ _ _ h
  refine Calls.call_function_entry kind_len plain_len entry_len (args_len1 (.ref a)) ?_
  unfold Builtin.len
  rw [show oneArg "len" { pos := [Value.ref a] } = pure (.ref a) from rfl, pure_bind]
  refine wpAny_bind (PySem.W.special_fn I.kIn J at_ ty (wpAny_call (codeAny_mono (F.run X.A.in1 X.stack s H ⟨[.ref a], []⟩ [.ref a] [.ref a] _ _ (Room.in1 hr) (Env0.in1 I.env0) (hb s [.ref a] I.kIn hl) (Paired.cons rfl .nil) h) fun res s' hq => ?_)))
  cases res with
  | error e => exact hq.elim
  | ok fl =>
    cases fl with
    | ret v =>
      obtain ⟨y, H', I', ry, n, rfl, hn, q⟩ := I.after hq
      obtain ⟨t, rfl⟩ := ry
      dsimp only
      have e62 : (2 : Nat) ^ 62 < 2 ^ 63 := by decide
      refine wpAny_bind (wpAny_holding (wpAny_pure (wpAny_bind (wpAny_letGo ?_))))
      have h1 : ¬ (n : Int) < 0 := by omega
      have h2 : ¬ (n : Int) ≥ 2 ^ 63 := by
        have : (n : Int) < 2 ^ 62 := by exact_mod_cast hn
        omega
      rw [if_neg h1, if_neg h2]
      exact wpAny_bind (wpAny_mkInt (wpAny_pure ⟨_, rfl, .int n, H', I'.tok _, ⟨_, rfl⟩, q⟩))
    | next => exact hq.elim
    | brk => exact hq.elim
    | cont => exact hq.elim
end Sc
namespace Sc
open PySem PySem.Spec PyProof.Rows L2
section
variable {P : Program} {w : World} {K : PySem.W.Frag} {mg : Str → Option Value} {base : Heap} {a l : Addr} {H H' H'' : Hp}
theorem wk_ss {X : Cx} {st : List Stmt} {t : TS} (t' : TS) (h : PSs X st t) (w : ∀ D σ H, t' D σ H → t D σ H) : PSs X st t' := ⟨fun pins s σ H D I x => h.run pins s σ H D I (w D σ H x)⟩
/-- a class whose objects a def of its own makes -/
structure Mkr (P : Program) (w : World) (K : PySem.W.Frag) (mg : Str → Option Value) (base : Heap) (k : Nat) (x : Str) (C : Addr) (ps : List Str) (sp : Sp) : Prop where
  ex : ∃ (f : Addr) (fd : FuncData), Mk K C f ∧ FnOk P w K mg base (L2.CX P w) k f fd ps sp ∧ mg x = some (.ref C) ∧ Binds K fd ps []
section
variable {X : Cx} {k : Nat} {x : Str} {C : Addr} {ps : List Str} {sp : Sp} {e : Expr} {es : List Expr} {t : TA} {p pos : Pos}
theorem pe_mkN (M : Mkr X.prog X.w X.K X.mg X.base k x C ps sp) (hr : Room (k + 1) X.A) (ha : PA X (e :: es) t) (hg : Gl X x := by rfl) (hdb : (x == ("__debug__" : Str)) = false := by decide)
    (he : starEach (e :: es) X.env = (false, eval e X.env) :: starEach es X.env := by rfl) (hpl : (backTo pos (starEach es X.env)).any (·.1) = false := by rfl) : PE X (.Call (.Name x p) (e :: es) [] pos) (tMake C sp [] E0 t) := by
  obtain ⟨f, fd, hk, F, hm, hb⟩ := M.ex
  exact pe_make hk F hr hg hm hb .nil passL ha hdb he hpl
theorem pe_mkX {E : XK} (M : Mkr X.prog X.w X.K X.mg X.base k x C ps sp) (hr : Room (k + 1) X.A) (tk : Takes X (fun cls d _ H => E cls d H)) (ha : PA X (e :: es) t) (hg : Gl X x := by rfl) (hdb : (x == ("__debug__" : Str)) = false := by decide)
    (he : starEach (e :: es) X.env = (false, eval e X.env) :: starEach es X.env := by rfl) (hpl : (backTo pos (starEach es X.env)).any (·.1) = false := by rfl) : PE X (.Call (.Name x p) (e :: es) [] pos) (tMake C sp [] E t) := by
  obtain ⟨f, fd, hk, F, hm, hb⟩ := M.ex
  exact pe_make hk F hr hg hm hb .nil (fun pins σ H s e s' I h => passAt tk σ pins H s e s' I h) ha hdb he hpl
end
def sp_prop (C : Addr) (n : Str) : Sp := fun vs H Q _ => ∃ (x dx : Addr) (fs : List (Str × V)) (v : V), vs = [.ref x] ∧ H x = some (.ins C dx fs) ∧ fs.lookup n = some v ∧ Q v H
def sp_len (K : PySem.W.Frag) (C : Addr) : Sp := fun vs H Q _ => ∃ (x dx n : Addr) (fs : List (Str × V)) (zs : List V), vs = [.ref x] ∧ H x = some (.ins C dx fs) ∧ fs.lookup ("_names" : Str) = some (.ref n) ∧ SqT K H n zs ∧ Q (.int zs.length) H
structure CondC (P : Program) (w : World) (K : PySem.W.Frag) (mg : Str → Option Value) (base : Heap) (C p1 g1 p2 g2 p3 g3 g4 : Addr) (fd1 fd2 fd3 fd4 : FuncData) : Prop where
  cls : Cls K C
  p_holding : PropOf K C "holding" p1 g1 ∧ FnOk P w K mg base CX0 1 g1 fd1 ["self"] (sp_prop C "_holding") ∧ Binds K fd1 ["self"] []
  p_failing : PropOf K C "failing" p2 g2 ∧ FnOk P w K mg base CX0 1 g2 fd2 ["self"] (sp_prop C "_failing") ∧ Binds K fd2 ["self"] []
  p_names : PropOf K C "names" p3 g3 ∧ FnOk P w K mg base CX0 1 g3 fd3 ["self"] (sp_prop C "_names") ∧ Binds K fd3 ["self"] []
  lenAt : PySem.W.findIn K (.ref C) "__len__" = some (some (.ref g4))
  lenTy : PySem.W.typeIn K (.ref g4) = some (.type "function")
  lenF : FnOk P w K mg base CX0 1 g4 fd4 ["self"] (sp_len K C)
  lenB : Binds K fd4 ["self"] []
end
end Sc
namespace Sc
open PySem PySem.Spec PyProof.Rows L2
abbrev s_Condition_holding : Stmt := (inClass (topS 36) 1)
theorem sc_Condition_holding : FnScope ["self"] ["self"] (defScope s_Condition_holding) := ⟨rfl, rfl, rfl, by decide +kernel, rfl, by decide +kernel, by decide +kernel⟩
abbrev s_Condition_failing : Stmt := (inClass (topS 36) 2)
theorem sc_Condition_failing : FnScope ["self"] ["self"] (defScope s_Condition_failing) := ⟨rfl, rfl, rfl, by decide +kernel, rfl, by decide +kernel, by decide +kernel⟩
abbrev s_Condition_names : Stmt := (inClass (topS 36) 3)
theorem sc_Condition_names : FnScope ["self"] ["self"] (defScope s_Condition_names) := ⟨rfl, rfl, rfl, by decide +kernel, rfl, by decide +kernel, by decide +kernel⟩
abbrev s_Condition___len__ : Stmt := (inClass (topS 36) 5)
theorem sc_Condition___len__ : FnScope ["self"] ["self"] (defScope s_Condition___len__) := ⟨rfl, rfl, rfl, by decide +kernel, rfl, by decide +kernel, by decide +kernel⟩
section
variable {P : Program} {w : World} {K : PySem.W.Frag} {mg : Str → Option Value} {base : Heap} {C : Addr}
theorem ok_holding {f : Addr} {fd : FuncData} (F : Fun K "holding" "Condition.holding" s_Condition_holding f fd) (T : Cls K C) (n : NoAttr K C "_holding") : FnOk P w K mg base CX0 1 f fd ["self"] (sp_prop C "_holding") := by
  refine F.ok sc_Condition_holding (fun vs H Q E h => by obtain ⟨x, dx, fs, v, rfl, _⟩ := h; rfl) (fun cdv A outer s H vs Q E hr h => ?_)
  obtain ⟨x, dx, fs, v, rfl, hx, hl, q⟩ := h
  exact ⟨_, (pss_one (ps_ret (pe_fld (pv 0) rfl))), ⟨_, rfl, x, C, dx, fs, v, rfl, hx, T, n, hl, q⟩⟩
theorem ok_failing {f : Addr} {fd : FuncData} (F : Fun K "failing" "Condition.failing" s_Condition_failing f fd) (T : Cls K C) (n : NoAttr K C "_failing") : FnOk P w K mg base CX0 1 f fd ["self"] (sp_prop C "_failing") := by
  refine F.ok sc_Condition_failing (fun vs H Q E h => by obtain ⟨x, dx, fs, v, rfl, _⟩ := h; rfl) (fun cdv A outer s H vs Q E hr h => ?_)
  obtain ⟨x, dx, fs, v, rfl, hx, hl, q⟩ := h
  exact ⟨_, (pss_one (ps_ret (pe_fld (pv 0) rfl))), ⟨_, rfl, x, C, dx, fs, v, rfl, hx, T, n, hl, q⟩⟩
theorem ok_cnames {f : Addr} {fd : FuncData} (F : Fun K "names" "Condition.names" s_Condition_names f fd) (T : Cls K C) (n : NoAttr K C "_names") : FnOk P w K mg base CX0 1 f fd ["self"] (sp_prop C "_names") := by
  refine F.ok sc_Condition_names (fun vs H Q E h => by obtain ⟨x, dx, fs, v, rfl, _⟩ := h; rfl) (fun cdv A outer s H vs Q E hr h => ?_)
  obtain ⟨x, dx, fs, v, rfl, hx, hl, q⟩ := h
  exact ⟨_, (pss_one (ps_ret (pe_fld (pv 0) rfl))), ⟨_, rfl, x, C, dx, fs, v, rfl, hx, T, n, hl, q⟩⟩
theorem ok_clen {f : Addr} {fd : FuncData} (F : Fun K "__len__" "Condition.__len__" s_Condition___len__ f fd) (B : Blt mg) (T : Cls K C) (n : NoAttr K C "_names") : FnOk P w K mg base CX0 1 f fd ["self"] (sp_len K C) := by
  refine F.ok sc_Condition___len__ (fun vs H Q E h => by obtain ⟨x, dx, m, fs, zs, rfl, _⟩ := h; rfl) (fun cdv A outer s H vs Q E hr h => ?_)
  obtain ⟨x, dx, m, fs, zs, rfl, hx, hl, hz, q⟩ := h
  exact ⟨_, (pss_one (ps_ret (pe_callB call_len_seq (by rfl) B.b_len PySem.boot_len (pa_cons (pe_fld (pv 0) rfl) pa_nil)))), ⟨_, rfl, x, C, dx, fs, _, rfl, hx, T, n, hl, m, _, rfl, .inr hz, q⟩⟩
end
end Sc
namespace Sc
open PySem PySem.Spec PyProof.Rows L2
def SLe (a b : Str) : Prop := a.cps.toList ≤ b.cps.toList
theorem rising_pw : ∀ (x : Str) (r : List Str), risingS x r = true → (∀ y ∈ r, SLe x y) ∧ r.Pairwise SLe
  | _, [], _ => ⟨(fun _ h => nomatch h), List.Pairwise.nil⟩
  | x, y :: r, h => by
    have h : (!ltCps y.cps.toList x.cps.toList && risingS y r) = true := h
    rw [Bool.and_eq_true, ltCps_eq] at h
    obtain ⟨h1, h2⟩ := h
    obtain ⟨i1, i2⟩ := rising_pw y r h2
    have hxy : SLe x y := by
      have h1 : ¬ y.cps.toList < x.cps.toList := by simpa using h1
      exact h1
    refine ⟨fun z hz => ?_, List.pairwise_cons.mpr ⟨i1, i2⟩⟩
    rcases List.mem_cons.mp hz with rfl | h
    · exact hxy
    · exact List.le_trans hxy (i1 z h)
theorem sorted_pw : ∀ {r : List Str}, sortedS r = true → r.Pairwise SLe
  | [], _ => .nil
  | x :: r, h => List.pairwise_cons.mpr (rising_pw x r h)
theorem str_ext {a b : Str} (h : a.cps.toList = b.cps.toList) : a = b := by
  obtain ⟨x⟩ := a
  obtain ⟨y⟩ := b
  congr 1
  exact Array.toList_inj.mp h
theorem sorted_uniq {a b : List Str} (p : a.Perm b) (sa : sortedS a = true) (sb : sortedS b = true) : a = b :=
  List.Perm.eq_of_pairwise (le := SLe) (fun x y _ _ h1 h2 => str_ext (List.le_antisymm h1 h2)) (sorted_pw sa) (sorted_pw sb) p
end Sc
namespace OwnX
open PySem PySem.Spec PyProof.Rows PySem.W
section
variable {prog : Program} {w : World} {M : Model} {A : Around} {E : Value → Shared → Prop} {s : Shared} {K : Frag} {x C L f : Addr} {h₀ : Heap} {m : Str → Option Value} {ox : Obj} {od : Option Obj}
/-- x op b, both of the class at C -/
theorem bin_same {op : Operator} {b : Value} {Q : Value → Shared → Prop} (X : K.In s.heap) (I : InstAt s.heap x ox C od) (hb : Looks (model prog w) s.heap (typeOf b) (.ref C)) (hc : selfFirst K C = true)
    (hs : findIn K (.ref C) (PySem.dunder op.info.2) = some (some (.ref f))) (hf : isFn K (.ref f) = true)
    (h : wpAny (model prog w) A (call (.ref f) [.ref x, b]) (PySem.W.CmpBack Q) E s) : wpAny (model prog w) A (binaryOp op (.ref x) b) Q E s := by
  obtain ⟨cd, rest, hcd, hm⟩ := ksp_first hc
  rcases hi : op.info with ⟨sym, nm'⟩
  rw [hi] at hs
  dsimp only at hs
  have one := ksp_try X I hs hf h
  obtain ⟨hh, g, d, tt, os⟩ := s
  have L1 : Looks (model prog w) hh (typeOf (.ref x)) (.ref C) := I.type
  have L3 : Looks (model prog w) hh (fillsNumberSlot (.ref C) nm') true := fills_K X hcd hm hs
  simp only [binaryOp, hi]
  refine wpAny_holding (wpAny_bind ?_)
  unfold binaryOp1
  refine wpAny_bind (L1.at (wpAny_bind (hb.at (wpAny_bind (L3.at ?_)))))
  have e : (Value.ref C == Value.ref C) = true := beq_self_eq_true _
  simp only [e, if_true]
  ksp_lk
  refine wpAny_mono one (fun r s' hr' => ?_) fun _ _ e => e
  obtain ⟨v, rfl, hq⟩ := hr'
  ksp_lk
  exact hq
theorem ifBound_ne {args : List Value} {Q : Option Value → Shared → Prop} (X : K.In s.heap) (I : InstAt s.heap x ox C od) (hs : findIn K (.ref C) "__ne__" = some (some (.builtin "object.__ne__")))
    (h : wpAny M A (call (.builtin "object.__ne__") (.ref x :: args)) (fun v => Q (some v)) E s) : wpAny M A (callSpecialIfBound? (.ref x) "__ne__" args) Q E s := by
  simp only [callSpecialIfBound?, bindSpecialIfBound?]
  refine wpAny_holding (wpAny_bind (wpAny_bind (wpAny_bind (I.type.here ((looks_findIn X hs).here ?_)))))
  refine wpAny_bind (wpAny_askSetting (wpAny_ite ?_))
  have fin : wpAny M A (call (.builtin "object.__ne__") ([.ref x] ++ args) >>= fun v => pure (some v)) Q E s := wpAny_bind (wpAny_mono h (fun v s' h' => wpAny_pure h') fun _ _ h' => h')
  split
  · exact wpAny_bind (wpAny_of_eq (F.cmp_object.ne.bind _) (wpAny_pure (by exact fin)))
  · exact wpAny_tryCatch (wpAny_bind (wpAny_of_eq (F.cmp_object.ne.bind _) (wpAny_pure (by exact fin))))
theorem entry_ne {b : Value} {Q : Fin → Shared → Prop} (X : K.In s.heap) (I : InstAt s.heap x ox C od) (hs : findIn K (.ref C) "__eq__" = some (some (.ref f))) (hf : isFn K (.ref f) = true) (hu : A.units < cLine)
    (h : wpAny (model prog w) A (call (.ref f) [.ref x, b]) (fun v s' => ∃ b, v = .bool b ∧ Q (.done (.ret (.bool (!b)))) s') E s) : wpAny (model prog w) A (Builtin.«object.__ne__» ⟨[.ref x, b], []⟩) Q E s := by
  unfold Builtin.«object.__ne__»
  repeat (first
    | with_reducible refine wpAny_cRoomFor hu ?_
    | (refine wpAny_bind (m := callSpecialIfBound? (.ref x) (Str.ofString "__eq__") [b])
        (ifBound_K X I hs hf (wpAny_mono h (fun r s' hr => by
          obtain ⟨b, rfl, hq⟩ := hr
          repeat (first | exact hq | exact wpAny_pure hq | exact wpAny_truthy_bool hq | (refine wpAny_bind (m := truthy (.bool _)) (wpAny_truthy_bool ?_)) | wp_step)) fun _ _ e => e)))
    | wp_step)
theorem try_ne {b : Value} {Q : Option Value → Shared → Prop} (X : K.In s.heap) (I : InstAt s.heap x ox C od) (hm : mroIn K C (.type "object") = some true) (hn : findIn K (.ref C) "__ne__" = some (some (.builtin "object.__ne__")))
    (hs : findIn K (.ref C) "__eq__" = some (some (.ref f))) (hf : isFn K (.ref f) = true) (hu : A.units + 1 < cLine)
    (h : wpAny (model prog w) A.in1 (call (.ref f) [.ref x, b]) (fun v s' => ∃ b, v = .bool b ∧ Q (some (.bool (!b))) s') E s) : wpAny (model prog w) A (tryCompare (.ref x) "__ne__" b) Q E s := by
  unfold tryCompare
  refine wpAny_bind (ifBound_ne X I hn (wpAny_call (codeAny_call_builtin F.cmp_object.ne.plain F.cmpEntry_ne (check_slot F.cmpKind_ne F.cmpSplit_ne (I.type.andThen (looks_mroIn X hm)) (F.cmpArgs_ne _ _)
    (entry_ne (A := A.in1) X I hs hf hu (wpAny_mono h (fun v s' hv => ?_) fun _ _ e => e))))))
  obtain ⟨b, rfl, hq⟩ := hv
  first | exact ⟨b, rfl, wpAny_pure hq⟩ | exact ⟨b, rfl, wpAny_pure (wpAny_pure hq)⟩ | exact ⟨b, rfl, hq⟩
theorem ne_K {b tb : Value} {Q : Value → Shared → Prop} (hu : A.units + 1 < cLine) (X : K.In s.heap) (I : InstAt s.heap x ox C od) (hb : Looks (model prog w) s.heap (typeOf b) tb) (hnf : notFirst K C tb = true)
    (hm : mroIn K C (.type "object") = some true) (hn : findIn K (.ref C) "__ne__" = some (some (.builtin "object.__ne__"))) (hs : findIn K (.ref C) "__eq__" = some (some (.ref f))) (hf : isFn K (.ref f) = true)
    (h : wpAny (model prog w) A.in1 (call (.ref f) [.ref x, b]) (fun v s' => ∃ b, v = .bool b ∧ Q (.bool (!b)) s') E s) : wpAny (model prog w) A (richCompare .NotEq (.ref x) b) Q E s := by
  have one : wpAny (model prog w) A (tryCompare (.ref x) "__ne__" b) (fun r s' => ∃ v, r = some v ∧ Q v s') E s := try_ne X I hm hn hs hf hu (wpAny_mono h (fun v s' ⟨b, e, q⟩ => ⟨b, e, _, rfl, q⟩) fun _ _ e => e)
  unfold richCompare
  simp only [oneThing_ref]
  refine wpAny_holding (wpAny_bind (wpAny_cRoomFor (Nat.lt_of_succ_lt hu) ?_))
  rw [cmpInfo_NotEq]
  dsimp only
  refine wpAny_bind (I.type.here (wpAny_bind (hb.here ?_)))
  split
  · rename_i q
    have e : subIn K tb (.ref C) = some false := by
      rcases Bool.or_eq_true_iff.mp hnf with e | e
      · rw [beq_iff_eq.mp e] at q; simp at q
      · exact beq_iff_eq.mp e
    refine wpAny_bind ((looks_subIn X e).here ?_)
    simp only [Bool.false_eq_true, if_false]
    refine wpAny_bind (wpAny_mono one (fun r s' z => ?_) fun _ _ e => e)
    obtain ⟨v, rfl, hq⟩ := z
    exact wpAny_pure hq
  · refine wpAny_bind (wpAny_pure ?_)
    simp only [Bool.false_eq_true, if_false]
    refine wpAny_bind (wpAny_mono one (fun r s' z => ?_) fun _ _ e => e)
    obtain ⟨v, rfl, hq⟩ := z
    exact wpAny_pure hq
end
end OwnX
namespace Sc
open PySem PySem.Spec PyProof.Rows L2
/-- a value's type, as comparisons ask for it -/
inductive TyR (K : PySem.W.Frag) (H : Hp) : V → Value → Prop where
  | non : TyR K H .non (.type "NoneType")
  | int (i : Int) : TyR K H (.int i) (.type "int")
  | str (x : Str) : TyR K H (.str x) (.type "str")
  | lst {a : Addr} {xs : List V} (e : SqL K H a xs) : TyR K H (.ref a) (.type "list")
  | tup {a : Addr} {xs : List V} (e : SqT K H a xs) : TyR K H (.ref a) (.type "tuple")
  | ins {a C dx : Addr} {fs : List (Str × V)} (e : H a = some (.ins C dx fs)) : TyR K H (.ref a) (.ref C)
section
variable {X : Cx} {CX : CXT} {C g : Addr} {k : Nat} {fd : FuncData} {ps : List Str} {sp : Sp} {E : XK}
theorem TyR.looks {pins : List (Addr × Obj)} {σ : L2.St} {H : Hp} {s : Shared} {y : V} {t u : Value} (I : Inv X pins σ H s) (h : TyR X.K H y t) (r : RelV y u) {prog : Program} {w : World} : PySem.W.Looks (model prog w) s.heap (typeOf u) t := by
  cases h with
  | non => cases r; exact PySem.W.Looks.of_pure rfl
  | int i => obtain ⟨t, rfl⟩ := r; exact PySem.W.Looks.of_pure rfl
  | str i => obtain ⟨t, rfl⟩ := r; exact PySem.W.Looks.of_pure rfl
  | lst e =>
    cases r
    obtain ⟨its, _, ⟨o, n, ho, hc, _⟩, _⟩ := I.list e
    exact fun A Q E s k q => wpAny_typeOf_ref (k _ _ ho) (by rw [hc]; exact q)
  | tup e =>
    cases r
    obtain ⟨its, _, ⟨o, ho, hc, _⟩, _⟩ := I.tuple e
    exact fun A Q E s k q => wpAny_typeOf_ref (k _ _ ho) (by rw [hc]; exact q)
  | ins e =>
    cases r
    obtain ⟨mA, O, _⟩ := ins_get I.hok e
    obtain ⟨od, J, _⟩ := O.look
    exact J.type
/-- x == y, x of the class at C with its own __eq__ at g -/
def rEqO (K : PySem.W.Frag) (C : Addr) (sp : Sp) (E : XK) : R2 := fun x y H Q => ∃ (a dx : Addr) (fs : List (Str × V)) (tb : Value), x = .ref a ∧ H a = some (.ins C dx fs) ∧ TyR K H y tb ∧ PySem.W.notFirst K C tb = true ∧ sp [x, y] H Q E
theorem op_eqO (hs : PySem.W.findIn X.K (.ref C) "__eq__" = some (some (.ref g))) (hf : PySem.W.isFn X.K (.ref g) = true) (F : FnOk X.prog X.w X.K X.mg X.base CX k g fd ps sp) (hr : Room k X.A) (hb : Binds X.K fd ps []) (hx : Passes CX X E) : OpR X (compareOp .Eq) (rEqO X.K C sp E) := by
  intro pins s σ H x y v u Q I rx ry h
  obtain ⟨a, dx, fs, tb, rfl, ha, hy, hn, q⟩ := h
  cases (show v = Value.ref a from rx)
  obtain ⟨mA, O, _⟩ := ins_get I.hok ha
  obtain ⟨od, J, _⟩ := O.look
  obtain ⟨m, hF⟩ := I.fr
  show wpAny _ _ (richCompare .Eq _ _) _ _ _
  refine PySem.W.cmp_K (op := .Eq) (tb := tb) hr.units0 hF I.ok.mod.kin J (hy.looks I ry) hn hs hf ?_
  refine wpAny_mono (run_fn (us := [.ref a, u]) (vs := [.ref a, y]) (dvs := []) F hr hb .nil hx I (.cons rfl (.cons ry .nil)) q) (fun w s' z => ?_) fun _ _ x => x
  obtain ⟨z', H', I', rz, qz⟩ := z
  exact SlX.cmpback rz ⟨z', H', I', rz, qz⟩
/-- x != y by the same -/
def rNeO (K : PySem.W.Frag) (C : Addr) (sp : Sp) (E : XK) : R2 := fun x y H Q => ∃ (a dx : Addr) (fs : List (Str × V)) (tb : Value), x = .ref a ∧ H a = some (.ins C dx fs) ∧ TyR K H y tb ∧ PySem.W.notFirst K C tb = true ∧ sp [x, y] H (fun v H' => ∃ b, v = .bl b ∧ Q (.bl (!b)) H') E
theorem op_neO (hm : PySem.W.mroIn X.K C (.type "object") = some true) (hne : PySem.W.findIn X.K (.ref C) "__ne__" = some (some (.builtin "object.__ne__"))) (hs : PySem.W.findIn X.K (.ref C) "__eq__" = some (some (.ref g))) (hf : PySem.W.isFn X.K (.ref g) = true)
    (F : FnOk X.prog X.w X.K X.mg X.base CX k g fd ps sp) (hr : Room (k + 1) X.A) (hb : Binds X.K fd ps []) (hx : Passes CX X E) : OpR X (compareOp .NotEq) (rNeO X.K C sp E) := by
  intro pins s σ H x y v u Q I rx ry h
  obtain ⟨a, dx, fs, tb, rfl, ha, hy, hn, q⟩ := h
  cases (show v = Value.ref a from rx)
  obtain ⟨mA, O, _⟩ := ins_get I.hok ha
  obtain ⟨od, J, _⟩ := O.look
  show wpAny _ _ (richCompare .NotEq _ _) _ _ _
  have hu : X.A.units + 1 < cLine := by have := hr.un; omega
  refine OwnX.ne_K hu I.kIn J (hy.looks I ry) hn hm hne hs hf ?_
  have hl : ([Value.ref a, u] ++ ([] : List Value)).length = ps.length := F.len _ _ _ _ q
  refine wpAny_call (codeAny_mono (F.run X.A.in1 X.stack s H ⟨[.ref a, u], []⟩ [.ref a, u] [.ref a, y] _ _ hr.in1 I.env0.in1 (hb s [.ref a, u] I.kIn hl) (.cons rfl (.cons ry .nil)) q) fun r s' hq => ?_)
  cases r with
  | error e => exact hx pins σ H s e s' I hq
  | ok fl =>
    cases fl with
    | ret w =>
      obtain ⟨v, H', I', rv, b, rfl, qz⟩ := I.after hq
      cases rv
      exact ⟨b, rfl, .bl (!b), H', I', rfl, qz⟩
    | next => exact hq.elim
    | brk => exact hq.elim
    | cont => exact hq.elim
/-- x op y, both of the class at C, whose own method for op is at g -/
def rBinO (C : Addr) (sp : Sp) (E : XK) : R2 := fun x y H Q => ∃ (a dx : Addr) (fs : List (Str × V)) (b dy : Addr) (gs : List (Str × V)), x = .ref a ∧ y = .ref b ∧ H a = some (.ins C dx fs) ∧ H b = some (.ins C dy gs) ∧ sp [x, y] H Q E
theorem op_binO {op : Operator} (hc : PySem.W.selfFirst X.K C = true) (hs : PySem.W.findIn X.K (.ref C) (PySem.dunder op.info.2) = some (some (.ref g))) (hf : PySem.W.isFn X.K (.ref g) = true)
    (F : FnOk X.prog X.w X.K X.mg X.base CX k g fd ps sp) (hr : Room k X.A) (hb : Binds X.K fd ps []) (hx : Passes CX X E) : OpR X (binaryOp op) (rBinO C sp E) := by
  intro pins s σ H x y v u Q I rx ry h
  obtain ⟨a, dx, fs, b, dy, gs, rfl, rfl, ha, hy, q⟩ := h
  cases (show v = Value.ref a from rx)
  cases (show u = Value.ref b from ry)
  obtain ⟨mA, O, _⟩ := ins_get I.hok ha
  obtain ⟨od, J, _⟩ := O.look
  obtain ⟨mA', O', _⟩ := ins_get I.hok hy
  obtain ⟨od', J', _⟩ := O'.look
  refine OwnX.bin_same I.kIn J J'.type hc hs hf ?_
  refine wpAny_mono (run_fn (us := [.ref a, .ref b]) (vs := [.ref a, .ref b]) (dvs := []) F hr hb .nil hx I (.cons rfl (.cons rfl .nil)) q) (fun w s' z => ?_) fun _ _ x => x
  obtain ⟨z', H', I', rz, qz⟩ := z
  exact SlX.cmpback rz ⟨z', H', I', rz, qz⟩
end
end Sc
namespace Sc
open PySem PySem.Spec PyProof.Rows L2
/-- texts that can be compared and are not long -/
def Fine (x : Str) : Prop := x.length ≤ 1000 ∧ (PyData.str x).canLay0 = true
def Fines (xs : List Str) : Prop := ∀ x ∈ xs, Fine x
section
variable {P : Program} {w : World} {K : PySem.W.Frag} {mg : Str → Option Value} {base : Heap} {a l : Addr} {H H' H'' : Hp}
theorem Fines.txts {xs : List Str} (h : Fines xs) : Txts xs := fun x hx => (h x hx).1
theorem dps (K : PySem.W.Frag) (H : Hp) : ∀ xs : List Str, DpAll K H (xs.map V.str) (xs.map PyData.str)
  | [] => .nil
  | x :: r => .cons (.str x) (dps K H r)
theorem strs_lay : ∀ {xs : List Str}, Fines xs → PyData.canLayAll0 (xs.map PyData.str) = true
  | [], _ => rfl
  | x :: r, h => by
    show ((PyData.str x).canLay0 && PyData.canLayAll0 (r.map PyData.str)) = true
    rw [(h x List.mem_cons_self).2, strs_lay fun y hy => h y (List.mem_cons_of_mem x hy)]
    rfl
theorem strs_depth : ∀ xs : List Str, PyData.depthAll (xs.map PyData.str) = 0
  | [] => rfl
  | x :: r => by
    show max (PyData.str x).depth (PyData.depthAll (r.map PyData.str)) = 0
    rw [strs_depth r]
    rfl
theorem shT {xs : List Str} (h : Fines xs) : SeqAt.shaped (.tuple (xs.map PyData.str)) = true := by
  unfold SeqAt.shaped
  have e1 : (PyData.tuple (xs.map PyData.str)).canLay0 = true := strs_lay h
  have e2 : (PyData.tuple (xs.map PyData.str)).depth = 1 := by show PyData.depthAll (xs.map PyData.str) + 1 = 1; rw [strs_depth]
  rw [e1, e2]
  rfl
theorem shL {xs : List Str} (h : Fines xs) : SeqAt.shaped (.list (xs.map PyData.str)) = true := by
  unfold SeqAt.shaped
  have e1 : (PyData.list (xs.map PyData.str)).canLay0 = true := strs_lay h
  have e2 : (PyData.list (xs.map PyData.str)).depth = 1 := by show PyData.depthAll (xs.map PyData.str) + 1 = 1; rw [strs_depth]
  rw [e1, e2]
  rfl
theorem eqvA_nil : ∀ xs : List Str, PyData.eqvAll (xs.map PyData.str) [] = decide (xs = [])
  | [] => rfl
  | _ :: _ => rfl
theorem eqvA : ∀ xs ys : List Str, PyData.eqvAll (xs.map PyData.str) (ys.map PyData.str) = decide (xs = ys)
  | [], [] => rfl
  | [], _ :: _ => rfl
  | _ :: _, [] => rfl
  | x :: r, y :: t => by
    show ((x == y) && PyData.eqvAll (r.map PyData.str) (t.map PyData.str)) = _
    rw [eqvA r t]
    by_cases h : x = y
    · subst h
      simp
    · have e : (x == y) = false := by simpa using h
      rw [e, Bool.false_and, decide_eq_false fun z => h (List.cons.inj z).1]
def chr1 (c : Nat) : Str := ⟨#[c]⟩
def oddL (x : Str) (i : Nat) : List Str := ((x.cps.toList.take i).filter fun c => !decide (c ∈ letters.cps.toList)).map chr1
theorem oddL_len {x : Str} {i : Nat} : (oddL x i).length ≤ x.length := by
  unfold oddL
  rw [List.length_map]
  exact Nat.le_trans (List.length_filter_le _ _) (by rw [List.length_take]; exact Nat.min_le_right _ _)
theorem oddL_fine {x : Str} {i : Nat} (h : Fine x) : Fines (oddL x i) := by
  intro y hy
  unfold oddL at hy
  obtain ⟨c, hc, rfl⟩ := List.mem_map.mp hy
  have hc := List.mem_of_mem_take (List.mem_filter.mp hc).1
  refine ⟨(show 1 ≤ 1000 by decide), ?_⟩
  have h2 : PyData.strOk x = true := h.2
  show PyData.strOk (chr1 c) = true
  unfold PyData.strOk at h2 ⊢
  rw [Array.all_eq_true'] at h2
  have h3 := h2 c (by rw [← Array.mem_toList_iff]; exact hc)
  rw [Array.all_eq_true']
  intro y hy
  have ey : y = c := by
    have hy : y ∈ (#[c] : Array Nat) := hy
    simpa using hy
  subst ey
  exact h3
theorem oddL_nil {x : Str} : decide (oddL x x.length = []) = isLetters x := by
  have el : x.cps.toList.take x.length = x.cps.toList := List.take_of_length_le (by rw [Array.length_toList]; exact Nat.le_refl _)
  unfold oddL isLetters
  rw [el]
  cases h : x.cps.toList.all fun c => decide (c ∈ letters.cps.toList) with
  | true =>
    rw [List.all_eq_true] at h
    have e : (x.cps.toList.filter fun c => !decide (c ∈ letters.cps.toList)) = [] := by
      rw [List.filter_eq_nil_iff]
      intro c hc z
      rw [h c hc] at z
      cases z
    rw [e]
    rfl
  | false =>
    rw [decide_eq_false]
    intro z
    have z := List.map_eq_nil_iff.mp z
    rw [List.filter_eq_nil_iff] at z
    rw [List.all_eq_false] at h
    obtain ⟨c, hc, hn⟩ := h
    exact z c hc (by cases e : decide (c ∈ letters.cps.toList) with | true => exact absurd e hn | false => rfl)
theorem risesAt_eq {xs : List Str} {i : Nat} (hi : i < xs.length) (h0 : i ≠ 0) (h1 : i - 1 < xs.length) : risesAt xs i = decide (xs[i - 1].cps.toList < xs[i].cps.toList) := by
  unfold risesAt
  rw [decide_eq_false h0, Bool.false_or, List.getElem?_eq_getElem h1, List.getElem?_eq_getElem hi]
theorem risesAt_0 {xs : List Str} : risesAt xs 0 = true := rfl
theorem strG {xs : List Str} {i : Nat} (hi : i < xs.length) : (xs.map V.str)[i]? = some (.str xs[i]) := by rw [List.getElem?_map, List.getElem?_eq_getElem hi]; rfl
theorem small_lim {z : Int} (h0 : 0 ≤ z) (h1 : z ≤ 1000) : z.natAbs.log2 < 9000 := by
  by_cases e : z.natAbs = 0
  · rw [e]; decide
  · exact (Nat.log2_lt e).mpr (Nat.lt_of_le_of_lt (show z.natAbs ≤ 2 ^ 10 by omega) (Nat.pow_lt_pow_right (by decide) (by decide)))
end
end Sc
namespace Sc
open PySem PySem.Spec PyProof.Rows L2
/-! ### what a condition does -/
abbrev s_Condition___call__ : Stmt := (inClass (topS 36) 4)
theorem sc_Condition___call__ : FnScope ["self", "case", "held", "name"] ["self", "case"] (defScope s_Condition___call__) := ⟨rfl, rfl, rfl, by decide +kernel, rfl, by decide +kernel, by decide +kernel⟩
/-- the texts in their order -/
def srt (l : List Str) : List Str := l.mergeSort fun a b => decide (a.cps.toList ≤ b.cps.toList)
theorem srt_perm (l : List Str) : (srt l).Perm l := List.mergeSort_perm _ _
theorem rising_of : ∀ (x : Str) (r : List Str), (∀ y ∈ r, SLe x y) → r.Pairwise SLe → risingS x r = true
  | _, [], _, _ => rfl
  | x, y :: r, h1, h2 => by
    have h2 := List.pairwise_cons.mp h2
    show (!ltCps y.cps.toList x.cps.toList && risingS y r) = true
    rw [Bool.and_eq_true, ltCps_eq]
    refine ⟨?_, rising_of y r h2.1 h2.2⟩
    have h3 : x.cps.toList ≤ y.cps.toList := h1 y List.mem_cons_self
    rw [decide_eq_false (show ¬ y.cps.toList < x.cps.toList from fun z => List.not_lt.mpr h3 z)]
    rfl
theorem sorted_of : ∀ {r : List Str}, r.Pairwise SLe → sortedS r = true
  | [], _ => rfl
  | x :: r, h => rising_of x r (List.pairwise_cons.mp h).1 (List.pairwise_cons.mp h).2
theorem srt_sorted (l : List Str) : sortedS (srt l) = true := by
  refine sorted_of ((List.pairwise_mergeSort (le := fun a b : Str => decide (a.cps.toList ≤ b.cps.toList)) (fun a b c h1 h2 => ?_) (fun a b => ?_) l).imp fun h => of_decide_eq_true h)
  · exact decide_eq_true (List.le_trans (of_decide_eq_true h1) (of_decide_eq_true h2))
  · rw [Bool.or_eq_true]
    rcases List.le_total a.cps.toList b.cps.toList with h | h
    · exact .inl (decide_eq_true h)
    · exact .inr (decide_eq_true h)
/-- an object Condition -/
structure CondAt (K : PySem.W.Frag) (C : Addr) (H : Hp) (o : Addr) (hs fs : List Str) : Prop where
  at_ : ∃ (dx a b n : Addr) (zs : List Str), H o = some (.ins C dx (condF a b n)) ∧ SqT K H a (hs.map V.str) ∧ SqT K H b (fs.map V.str) ∧ H n = some (.tup (zs.map V.str)) ∧ zs = srt (hs ++ fs)
theorem CondAt.same {K : PySem.W.Frag} {C : Addr} {H H' : Hp} {o : Addr} {hs fs : List Str} (h : CondAt K C H o hs fs) (s : Same H H') : CondAt K C H' o hs fs := by
  obtain ⟨dx, a, b, n, zs, h1, h2, h3, h4, h5⟩ := h.at_
  exact ⟨dx, a, b, n, zs, s _ _ h1, s.tup h2, s.tup h3, s _ _ h4, h5⟩
def meets (hs fs case : List Str) : Bool := (hs.all fun x => decide (x ∈ case)) && !(fs.any fun x => decide (x ∈ case))
section
variable {P : Program} {w : World} {K : PySem.W.Frag} {mg : Str → Option Value} {base : Heap} {CC C : Addr}
/-- [name in case for name in xs]: the truths -/
theorem inAll {H1 : Hp} {D c : Addr} {xs cs : List Str} {W : Nat} {X : Cx} {σ : L2.St} : True := trivial
def sp_ccall (K : PySem.W.Frag) (C : Addr) : Sp := fun vs H Q _ => ∃ (o c : Addr) (hs fs cs : List Str), vs = [.ref o, .ref c] ∧ CondAt K C H o hs fs ∧ SqT K H c (cs.map V.str) ∧ hs.length ≤ 1000 ∧ fs.length ≤ 1000 ∧ ∀ H', Same H H' → Q (.bl (meets hs fs cs)) H'
theorem ok_ccall {f : Addr} {fd : FuncData} (F : Fun K "__call__" "Condition.__call__" s_Condition___call__ f fd) (B : Blt mg) (T : Cls K C) (n1 : NoAttr K C "_holding") (n2 : NoAttr K C "_failing") : FnOk P w K mg base CX0 1 f fd ["self", "case"] (sp_ccall K C) := by
  refine F.ok sc_Condition___call__ (fun vs H Q E h => by obtain ⟨o, c, hs, fs, cs, rfl, _⟩ := h; rfl) (fun cdv A outer s H vs Q E hr h => ?_)
  obtain ⟨o, c, hs, fs, cs, rfl, hC, hc, l1, l2, q⟩ := h
  obtain ⟨dx, a, b, n, zs, ho, ha, hb, _⟩ := hC.at_
  refine ⟨_, (pss_cons (ps_set (i := 2) sc_Condition___call__.nd rfl (Or.inl rfl) (pe_callB (cr_all rfl) (by rfl) B.b_all PyProof.Rows.boot_all (pa_cons (pe_lc (own := [("name", 3)]) (g := gName 3) (tt := tYes) rfl sc_Condition___call__.nd (pi_tup (pe_fld (pv 0) rfl)) (blkOk_by (own := [("name", 3)]) (N := ["self", "case", "held", "name"]) (sc := defScope s_Condition___call__) (by decide +kernel)) (fun _ _ _ _ _ => (pg_name (i := 3) sc_Condition___call__.nd rfl (Or.inl rfl))) (fun _ _ _ _ _ => pts_nil) (fun _ _ _ _ _ => (pe_.re (pe_cmpR op_in_seq (pv 3) (pv 1) rfl) (by first | (dsimp only [Cx.blk]; done) | exact rfl)))) pa_nil)))
      (pss_one (ps_ret (pe_and (pv 2) (pe_one (pe_not (pe_callB (cr_any rfl) (by rfl) B.b_any (by decide +kernel) (pa_cons (pe_lc (own := [("name", 3)]) (g := gName 3) (tt := tYes) rfl sc_Condition___call__.nd (pi_tup (pe_fld (pv 0) rfl)) (blkOk_by (own := [("name", 3)]) (N := ["self", "case", "held", "name"]) (sc := defScope s_Condition___call__) (by decide +kernel)) (fun _ _ _ _ _ => (pg_name (i := 3) sc_Condition___call__.nd rfl (Or.inl rfl))) (fun _ _ _ _ _ => pts_nil) (fun _ _ _ _ _ => (pe_.re (pe_cmpR op_in_seq (pv 3) (pv 1) rfl) (by first | (dsimp only [Cx.blk]; done) | exact rfl)))) pa_nil)))))))), ?_⟩
  refine ⟨_, rfl, o, C, dx, _, .ref a, rfl, ho, T, n1, rfl, a, rfl, ⟨_, ha⟩, fun D nD => lc_it walk_tup (fun i H' => Same H H' ∧ H' D = some (.lst ((hs.take i).map fun x => V.bl (decide (x ∈ cs))))) ⟨(Same.refl H).put nD, upd_same⟩ (fun _ _ _ h => h.1.tup ha) ?_ ?_⟩
  · rintro i y H2 H3 hi ⟨s, e⟩ ⟨rfl, hy⟩
    rw [List.length_map] at hi
    have hx : hs[i]? = some hs[i] := List.getElem?_eq_getElem hi
    obtain rfl : V.str hs[i] = y := strAt_inj hx hy
    refine ⟨rfl, yes_ ⟨_, rfl, _, rfl, c, _, rfl, .inr (s.tup hc), rfl, flat_strs cs, grow (acc := fun i => (hs.take i).map fun x => V.bl (decide (x ∈ cs))) nD s e ?_ ?_⟩⟩
    · rw [List.length_map, List.length_take]
      exact small1000 (by omega)
    · show List.map _ _ = _
      rw [take_more hx, List.map_append]
      simp only [List.map_cons, List.map_nil, inV_str]
      rfl
  · rintro H2 ⟨s, e⟩
    rw [List.length_map, List.take_length] at e
    refine ⟨D, hs.map fun x => decide (x ∈ cs), rfl, sqL_of (by rw [e, List.map_map]; rfl), ?_⟩
    refine ⟨_, rfl, _, rfl, bcase (fun c1 => ?_) (fun c1 => ?_)⟩
    · refine ⟨_, rfl, o, C, dx, _, .ref b, rfl, s _ _ ho, T, n2, rfl, b, rfl, ⟨_, s.tup hb⟩, fun D2 nD2 => lc_it walk_tup (fun i H' => Same H2 H' ∧ H' D2 = some (.lst ((fs.take i).map fun x => V.bl (decide (x ∈ cs))))) ⟨(Same.refl H2).put nD2, upd_same⟩ (fun _ _ _ h => (s.trans h.1).tup hb) ?_ ?_⟩
      · rintro i y H4 H3 hi ⟨s2, e2⟩ ⟨rfl, hy⟩
        rw [List.length_map] at hi
        have hx : fs[i]? = some fs[i] := List.getElem?_eq_getElem hi
        obtain rfl : V.str fs[i] = y := strAt_inj hx hy
        refine ⟨rfl, yes_ ⟨_, rfl, _, rfl, c, _, rfl, .inr ((s.trans s2).tup hc), rfl, flat_strs cs, grow (acc := fun i => (fs.take i).map fun x => V.bl (decide (x ∈ cs))) nD2 s2 e2 ?_ ?_⟩⟩
        · rw [List.length_map, List.length_take]
          exact small1000 (by omega)
        · show List.map _ _ = _
          rw [take_more hx, List.map_append]
          simp only [List.map_cons, List.map_nil, inV_str]
          rfl
      · rintro H4 ⟨s2, e2⟩
        rw [List.length_map, List.take_length] at e2
        refine ⟨D2, fs.map fun x => decide (x ∈ cs), rfl, sqL_of (by rw [e2, List.map_map]; rfl), ?_⟩
        refine ⟨_, rfl, ?_⟩
        have em : meets hs fs cs = !((fs.map fun x => decide (x ∈ cs)).any id) := by
          unfold meets
          rw [List.any_map]
          have c1 : (hs.all fun x => decide (x ∈ cs)) = true := by rw [List.all_map] at c1; exact c1
          rw [c1, Bool.true_and]
          rfl
        rw [← em]
        exact q H4 (s.trans s2)
    · have em : meets hs fs cs = false := by
        unfold meets
        have c1 : (hs.all fun x => decide (x ∈ cs)) = false := by rw [List.all_map] at c1; exact c1
        rw [c1, Bool.false_and]
      rw [← em]
      exact q H2 s
/-! ### within -/
abbrev s_Condition_within : Stmt := (inClass (topS 36) 8)
theorem sc_Condition_within : FnScope ["self", "other", "held", "name"] ["self", "other"] (defScope s_Condition_within) := ⟨rfl, rfl, rfl, by decide +kernel, rfl, by decide +kernel, by decide +kernel⟩
def withinC (hs fs gs ks : List Str) : Bool := (gs.all fun x => decide (x ∈ hs)) && (ks.all fun x => decide (x ∈ fs))
def sp_within (K : PySem.W.Frag) (C : Addr) : Sp := fun vs H Q _ => ∃ (o o2 : Addr) (hs fs gs ks : List Str), vs = [.ref o, .ref o2] ∧ CondAt K C H o hs fs ∧ CondAt K C H o2 gs ks ∧ gs.length ≤ 1000 ∧ ks.length ≤ 1000 ∧ ∀ H', Same H H' → Q (.bl (withinC hs fs gs ks)) H'
/-- the getters -/
abbrev PropC (P : Program) (w : World) (K : PySem.W.Frag) (mg : Str → Option Value) (base : Heap) (C p g : Addr) (fd : FuncData) (n f : Str) : Prop := PropOf K C n p g ∧ FnOk P w K mg base CX0 1 g fd ["self"] (sp_prop C f) ∧ Binds K fd ["self"] []
theorem ok_within {f p1' g1 p2' g2 : Addr} {fd fd1 fd2 : FuncData} (F : Fun K "within" "Condition.within" s_Condition_within f fd) (B : Blt mg) (T : Cls K C) (n1 : NoAttr K C "_holding") (n2 : NoAttr K C "_failing")
    (p1 : PropC P w K mg base C p1' g1 fd1 "holding" "_holding") (p2 : PropC P w K mg base C p2' g2 fd2 "failing" "_failing") : FnOk P w K mg base CX0 3 f fd ["self", "other"] (sp_within K C) := by
  refine F.ok sc_Condition_within (fun vs H Q E h => by obtain ⟨o, c, hs, fs, gs, ks, rfl, _⟩ := h; rfl) (fun cdv A outer s H vs Q E hr h => ?_)
  obtain ⟨o, o2, hs, fs, gs, ks, rfl, hC, hD, l1, l2, q⟩ := h
  obtain ⟨dx, a, b, n, zs, ho, ha, hb, _⟩ := hC.at_
  obtain ⟨dx2, a2, b2, n2', zs2, ho2, ha2, hb2, _⟩ := hD.at_
  have lk1 : (condF a2 b2 n2').lookup ("_holding" : Str) = some (.ref a2) := rfl
  have lk2 : (condF a2 b2 n2').lookup ("_failing" : Str) = some (.ref b2) := rfl
  refine ⟨_, (pss_cons (ps_set (i := 2) sc_Condition_within.nd rfl (Or.inl rfl) (pe_callB (cr_all rfl) (by rfl) B.b_all PyProof.Rows.boot_all (pa_cons (pe_lc (own := [("name", 3)]) (g := gName 3) (tt := tYes) rfl sc_Condition_within.nd (pi_tup (pe_prop (pv 1) T p1.1 p1.2.1 (hr.mono (by decide)) p1.2.2 .nil pass0 rfl)) (blkOk_by (own := [("name", 3)]) (N := ["self", "other", "held", "name"]) (sc := defScope s_Condition_within) (by decide +kernel)) (fun _ _ _ _ _ => (pg_name (i := 3) sc_Condition_within.nd rfl (Or.inl rfl))) (fun _ _ _ _ _ => pts_nil) (fun _ _ _ _ _ => (pe_.re (pe_cmpR op_in_seq (pv 3) (pe_fld (pv 0) rfl) rfl) (by first | (dsimp only [Cx.blk]; done) | exact rfl)))) pa_nil)))
      (pss_one (ps_ret (pe_and (pv 2) (pe_one (pe_callB (cr_all rfl) (by rfl) B.b_all PyProof.Rows.boot_all (pa_cons (pe_lc (own := [("name", 3)]) (g := gName 3) (tt := tYes) rfl sc_Condition_within.nd (pi_tup (pe_prop (pv 1) T p2.1 p2.2.1 (hr.mono (by decide)) p2.2.2 .nil pass0 rfl)) (blkOk_by (own := [("name", 3)]) (N := ["self", "other", "held", "name"]) (sc := defScope s_Condition_within) (by decide +kernel)) (fun _ _ _ _ _ => (pg_name (i := 3) sc_Condition_within.nd rfl (Or.inl rfl))) (fun _ _ _ _ _ => pts_nil) (fun _ _ _ _ _ => (pe_.re (pe_cmpR op_in_seq (pv 3) (pe_fld (pv 0) rfl) rfl) (by first | (dsimp only [Cx.blk]; done) | exact rfl)))) pa_nil))))))), ?_⟩
  refine ⟨_, rfl, o2, dx2, _, rfl, ho2, ⟨o2, dx2, _, _, rfl, ho2, lk1, ?_⟩⟩
  refine ⟨a2, rfl, ⟨_, ha2⟩, fun D nD => lc_it walk_tup (fun i H' => Same H H' ∧ H' D = some (.lst ((gs.take i).map fun x => V.bl (decide (x ∈ hs))))) ⟨(Same.refl H).put nD, upd_same⟩ (fun _ _ _ h => h.1.tup ha2) ?_ ?_⟩
  · rintro i y H2 H3 hi ⟨s, e⟩ ⟨rfl, hy⟩
    rw [List.length_map] at hi
    have hx : gs[i]? = some gs[i] := List.getElem?_eq_getElem hi
    obtain rfl : V.str gs[i] = y := strAt_inj hx hy
    refine ⟨rfl, yes_ ⟨_, rfl, _, rfl, o, C, dx, _, .ref a, rfl, s _ _ ho, T, n1, rfl, a, _, rfl, .inr (s.tup ha), rfl, flat_strs hs, grow (acc := fun i => (gs.take i).map fun x => V.bl (decide (x ∈ hs))) nD s e ?_ ?_⟩⟩
    · rw [List.length_map, List.length_take]
      exact small1000 (by omega)
    · show List.map _ _ = _
      rw [take_more hx, List.map_append]
      simp only [List.map_cons, List.map_nil, inV_str]
      rfl
  · rintro H2 ⟨s, e⟩
    rw [List.length_map, List.take_length] at e
    refine ⟨D, gs.map fun x => decide (x ∈ hs), rfl, sqL_of (by rw [e, List.map_map]; rfl), ?_⟩
    refine ⟨_, rfl, _, rfl, bcase (fun c1 => ?_) (fun c1 => ?_)⟩
    · refine ⟨_, rfl, o2, dx2, _, rfl, s _ _ ho2, ⟨o2, dx2, _, _, rfl, s _ _ ho2, lk2, ?_⟩⟩
      refine ⟨b2, rfl, ⟨_, s.tup hb2⟩, fun D2 nD2 => lc_it walk_tup (fun i H' => Same H2 H' ∧ H' D2 = some (.lst ((ks.take i).map fun x => V.bl (decide (x ∈ fs))))) ⟨(Same.refl H2).put nD2, upd_same⟩ (fun _ _ _ h => (s.trans h.1).tup hb2) ?_ ?_⟩
      · rintro i y H4 H3 hi ⟨s2, e2⟩ ⟨rfl, hy⟩
        rw [List.length_map] at hi
        have hx : ks[i]? = some ks[i] := List.getElem?_eq_getElem hi
        obtain rfl : V.str ks[i] = y := strAt_inj hx hy
        have s3 := s.trans s2
        refine ⟨rfl, yes_ ⟨_, rfl, _, rfl, o, C, dx, _, .ref b, rfl, s3 _ _ ho, T, n2, rfl, b, _, rfl, .inr (s3.tup hb), rfl, flat_strs fs, grow (acc := fun i => (ks.take i).map fun x => V.bl (decide (x ∈ fs))) nD2 s2 e2 ?_ ?_⟩⟩
        · rw [List.length_map, List.length_take]
          exact small1000 (by omega)
        · show List.map _ _ = _
          rw [take_more hx, List.map_append]
          simp only [List.map_cons, List.map_nil, inV_str]
          rfl
      · rintro H4 ⟨s2, e2⟩
        rw [List.length_map, List.take_length] at e2
        refine ⟨D2, ks.map fun x => decide (x ∈ fs), rfl, sqL_of (by rw [e2, List.map_map]; rfl), ?_⟩
        have em : withinC hs fs gs ks = (ks.map fun x => decide (x ∈ fs)).all id := by
          unfold withinC
          have c1 : (gs.all fun x => decide (x ∈ hs)) = true := by rw [List.all_map] at c1; exact c1
          rw [c1, Bool.true_and, List.all_map]
          rfl
        rw [← em]
        exact q H4 (s.trans s2)
    · have em : withinC hs fs gs ks = false := by
        unfold withinC
        have c1 : (gs.all fun x => decide (x ∈ hs)) = false := by rw [List.all_map] at c1; exact c1
        rw [c1, Bool.false_and]
      rw [← em]
      exact q H2 s
/-! ### == -/
abbrev s_Condition___eq__ : Stmt := (inClass (topS 36) 7)
theorem sc_Condition___eq__ : FnScope ["self", "other"] ["self", "other"] (defScope s_Condition___eq__) := ⟨rfl, rfl, rfl, by decide +kernel, rfl, by decide +kernel, by decide +kernel⟩
theorem dp_strs {H : Hp} {a : Addr} {xs : List Str} (h : SqT K H a (xs.map V.str)) : Dp K H (.ref a) (.tuple (xs.map PyData.str)) := .tup h (dps K H xs)
/-- what isinstance asks of the class at C -/
structure IsiC (K : PySem.W.Frag) (C : Addr) : Prop where
  ca : PySem.W.findIn K (.ref C) "__class__" = some (some (.builtin "object.__class__"))
  cn : PySem.W.specialIn K (.builtin "object.__class__") "__get__" = some (some (.builtin "getset_descriptor.__get__"))
  ct : PySem.W.takesIn K (.builtin "object.__class__") = some true
  cm : PySem.W.mroIn K C (.type "object") = some true
  me : PySem.W.kitOne K (.ref C) (.ref C) = some true
def sp_ceq (K : PySem.W.Frag) (C : Addr) : Sp := fun vs H Q _ => ∃ (o : Addr) (y : V) (hs fs : List Str), vs = [.ref o, y] ∧ CondAt K C H o hs fs ∧ Fines hs ∧ Fines fs ∧
  ((∃ (o2 : Addr) (gs ks : List Str), y = .ref o2 ∧ CondAt K C H o2 gs ks ∧ Fines gs ∧ Fines ks ∧ Q (.bl (decide (hs = gs) && decide (fs = ks))) H) ∨ (∃ t : Value, TyOf K H y t ∧ PySem.W.kitOne K t (.ref C) = some false ∧ Q (.bl false) H))
theorem ok_ceq {f : Addr} {fd : FuncData} (F : Fun K "__eq__" "Condition.__eq__" s_Condition___eq__ f fd) (B : Blt mg) (T : Cls K C) (n1 : NoAttr K C "_holding") (n2 : NoAttr K C "_failing") (mC : mg "Condition" = some (.ref C)) (I : IsiC K C) : FnOk P w K mg base CX0 1 f fd ["self", "other"] (sp_ceq K C) := by
  refine F.ok sc_Condition___eq__ (fun vs H Q E h => by obtain ⟨o, y, hs, fs, rfl, _⟩ := h; rfl) (fun cdv A outer s H vs Q E hr h => ?_)
  obtain ⟨o, y, hs, fs, rfl, hC, f1, f2, q⟩ := h
  obtain ⟨dx, a, b, n, zs, ho, ha, hb, _⟩ := hC.at_
  refine ⟨_, (pss_one (ps_ret (pe_and (pe_callB call_isi (by rfl) B.b_isinstance PyProof.Rows.boot_isinstance (pa_cons (pv 1) (pa_cons (pe_glob (v := .ref _) rfl mC rfl) pa_nil))) (pe_and (pe_cmpR (op_eqD hr.units) (pe_fld (pv 0) rfl) (pe_fld (pv 1) rfl) (nomark _)) (pe_one (pe_cmpR (op_eqD hr.units) (pe_fld (pv 0) rfl) (pe_fld (pv 1) rfl) (nomark _))))))), ?_⟩
  rcases q with ⟨o2, gs, ks, rfl, hD, f3, f4, q⟩ | ⟨t, ht, hk, q⟩
  · obtain ⟨dx2, a2, b2, n2', zs2, ho2, ha2, hb2, _⟩ := hD.at_
    refine ⟨_, rfl, _, _, _, _, _, rfl, .own _, .base (.ins ho2 T I.ca I.cn I.ct I.cm), I.me, _, rfl, iteT ?_⟩
    refine ⟨_, rfl, o, C, dx, _, .ref a, rfl, ho, T, n1, rfl, _, rfl, o2, C, dx2, _, .ref a2, rfl, ho2, T, n1, rfl, _, _, dp_strs ha, dp_strs ha2, shT f1, shT f3, _, rfl, ?_⟩
    have e1 : (PyData.tuple (hs.map PyData.str)).eqv (.tuple (gs.map PyData.str)) = decide (hs = gs) := eqvA hs gs
    rw [e1]
    by_cases c1 : hs = gs
    · rw [decide_eq_true c1]
      rw [decide_eq_true c1, Bool.true_and] at q
      refine iteT ⟨_, rfl, o, C, dx, _, .ref b, rfl, ho, T, n2, rfl, _, rfl, o2, C, dx2, _, .ref b2, rfl, ho2, T, n2, rfl, _, _, dp_strs hb, dp_strs hb2, shT f2, shT f4, ?_⟩
      have e2 : (PyData.tuple (fs.map PyData.str)).eqv (.tuple (ks.map PyData.str)) = decide (fs = ks) := eqvA fs ks
      rw [e2]
      exact q
    · rw [decide_eq_false c1]
      rw [decide_eq_false c1, Bool.false_and] at q
      exact iteF q
  · exact ⟨_, rfl, _, _, _, _, _, rfl, .own _, .base ht, hk, _, rfl, iteF q⟩
/-! ### & -/
abbrev s_Condition___and__ : Stmt := (inClass (topS 36) 6)
theorem sc_Condition___and__ : FnScope ["self", "other", "holding", "failing", "name"] ["self", "other"] (defScope s_Condition___and__) := ⟨rfl, rfl, rfl, by decide +kernel, rfl, by decide +kernel, by decide +kernel⟩
def mrg (xs ys : List Str) : List Str := srt (xs ++ ys.filter fun y => !decide (y ∈ xs))
theorem mrg_txts {xs ys : List Str} (h1 : Txts xs) (h2 : Txts ys) : Txts (mrg xs ys) := fun x hx => by
  have hx := (srt_perm _).mem_iff.mp hx
  rcases List.mem_append.mp hx with h | h
  · exact h1 x h
  · exact h2 x (List.mem_filter.mp h).1
theorem mrg_len {xs ys : List Str} : (mrg xs ys).length ≤ xs.length + ys.length := by
  unfold mrg
  rw [(srt_perm _).length_eq, List.length_append]
  have := List.length_filter_le (fun y => !decide (y ∈ xs)) ys
  omega
theorem srt_uniq {zs l : List Str} (p : zs.Perm l) (s : sortedS zs = true) : zs = srt l := sorted_uniq (p.trans (srt_perm l).symm) s (srt_sorted l)
/-- a name of the one is in the other -/
def meetN (xs ys : List Str) : Bool := xs.any fun x => decide (x ∈ ys)
def sp_cand (K : PySem.W.Frag) (C CC CN : Addr) : Sp := fun vs H Q E => ∃ (o o2 : Addr) (hs fs gs ks : List Str), vs = [.ref o, .ref o2] ∧ CondAt K C H o hs fs ∧ CondAt K C H o2 gs ks ∧ Txts hs ∧ Txts fs ∧ Txts gs ∧ Txts ks ∧ hs.length + gs.length < 64 ∧ fs.length + ks.length < 64 ∧
  (meetN (mrg hs gs) (mrg fs ks) = true → ∀ H', Same H H' → E (.ref CN) none H') ∧ (meetN (mrg hs gs) (mrg fs ks) = false →
    (∀ i, firstWrong (mrg hs gs) [] = some i → errPI CC ((0 : Nat) : Int) i H E) ∧ (firstWrong (mrg hs gs) [] = none → (∀ i, firstWrong (mrg fs ks) (mrg hs gs) = some i → errPI CC ((1 : Nat) : Int) i H E) ∧
    (firstWrong (mrg fs ks) (mrg hs gs) = none → ∀ H' o3, Same H H' → H o3 = none → CondAt K C H' o3 (mrg hs gs) (mrg fs ks) → Q (.ref o3) H')))
theorem ok_cand {f p1' g1 p2' g2 CN : Addr} {fd fd1 fd2 : FuncData} (F : Fun K "__and__" "Condition.__and__" s_Condition___and__ f fd) (B : Blt mg) (T : Cls K C) (n1 : NoAttr K C "_holding") (n2 : NoAttr K C "_failing")
    (p1 : PropC P w K mg base C p1' g1 fd1 "holding" "_holding") (p2 : PropC P w K mg base C p2' g2 fd2 "failing" "_failing") (e_NeverMet : ErrMk0 K mg "NeverMet" CN)
    (c_merged : Cal P w K mg base CX0 1 "merged" ["names", "others"] (sp_merged K)) (k_Condition : Mkr P w K mg base 4 "Condition" C ["self", "holding", "failing"] (sp_cond_init K C CC)) : FnOk P w K mg base (L2.CX P w) 6 f fd ["self", "other"] (sp_cand K C CC CN) := by
  refine F.okX sc_Condition___and__ (fun vs H Q E h => by obtain ⟨o, o2, hs, fs, gs, ks, rfl, _⟩ := h; rfl) (fun cdv A outer s H vs Q E hr h => ?_)
  obtain ⟨o, o2, hs, fs, gs, ks, rfl, hC, hD, t1, t2, t3, t4, l1, l2, qE, q⟩ := h
  obtain ⟨dx, a, b, n, zs, ho, ha, hb, _⟩ := hC.at_
  obtain ⟨dx2, a2, b2, n2', zs2, ho2, ha2, hb2, _⟩ := hD.at_
  have lk1 : (condF a2 b2 n2').lookup ("_holding" : Str) = some (.ref a2) := rfl
  have lk2 : (condF a2 b2 n2').lookup ("_failing" : Str) = some (.ref b2) := rfl
  refine ⟨_, (pss_cons (ps_set (i := 2) sc_Condition___and__.nd rfl (Or.inl rfl) (pe_cal c_merged (hr.mono (by decide)) (pa_cons (pe_fld (pv 0) rfl) (pa_cons (pe_prop (pv 1) T p1.1 p1.2.1 (hr.mono (by decide)) p1.2.2 .nil pass0 rfl) pa_nil))))
      (pss_cons (ps_set (i := 3) sc_Condition___and__.nd rfl (Or.inr rfl) (pe_cal c_merged (hr.mono (by decide)) (pa_cons (pe_fld (pv 0) rfl) (pa_cons (pe_prop (pv 1) T p2.1 p2.2.1 (hr.mono (by decide)) p2.2.2 .nil pass0 rfl) pa_nil))))
      (pss_cons (ps_if (pt_val (pe_callB (cr_any rfl) (by rfl) B.b_any (by decide +kernel) (pa_cons (pe_lc (own := [("name", 4)]) (g := gName 4) (tt := tYes) rfl sc_Condition___and__.nd (pi_tup (pv 2)) (blkOk_by (own := [("name", 4)]) (N := ["self", "other", "holding", "failing", "name"]) (sc := defScope s_Condition___and__) (by decide +kernel)) (fun _ _ _ _ _ => (pg_name (i := 4) sc_Condition___and__.nd rfl (Or.inl rfl))) (fun _ _ _ _ _ => pts_nil) (fun _ _ _ _ _ => (pe_.re (pe_cmpR op_in_seq (pv 4) (pv 3) rfl) (by first | (dsimp only [Cx.blk]; done) | exact rfl)))) pa_nil))) (pss_one (ps_raise rfl (takes_of rfl rfl rfl rfl) (pmk_err0 e_NeverMet))) pss_nil)
      (pss_one (ps_ret (pe_mkX k_Condition (hr.mono (by decide)) (takes_of rfl rfl rfl rfl) (pa_cons (pv 2) (pa_cons (pv 3) pa_nil)))))))), ?_⟩
  refine ⟨_, rfl, o, C, dx, _, .ref a, rfl, ho, T, n1, rfl, _, rfl, o2, dx2, _, rfl, ho2, ⟨o2, dx2, _, _, rfl, ho2, lk1, ?_⟩⟩
  refine ⟨a, a2, hs, gs, rfl, ha, ha2, l1, fun H1 hA za s1 eA pA sA => ?_⟩
  obtain rfl : za = mrg hs gs := srt_uniq pA sA
  refine ⟨_, rfl, o, C, dx, _, .ref b, rfl, s1 _ _ ho, T, n2, rfl, _, rfl, o2, dx2, _, rfl, s1 _ _ ho2, ⟨o2, dx2, _, _, rfl, s1 _ _ ho2, lk2, ?_⟩⟩
  refine ⟨b, b2, fs, ks, rfl, s1.tup hb, s1.tup hb2, l2, fun H2 hB zb s2 eB pB sB => ?_⟩
  obtain rfl : zb = mrg fs ks := srt_uniq pB sB
  have s12 := s1.trans s2
  have eA2 := s2 _ _ eA
  refine ⟨_, rfl, hA, rfl, ⟨_, sqT_of eA2⟩, fun D nD => lc_it walk_tup (fun i H' => Same H2 H' ∧ H' D = some (.lst (((mrg hs gs).take i).map fun x => V.bl (decide (x ∈ mrg fs ks))))) ⟨(Same.refl H2).put nD, upd_same⟩ (fun _ _ _ h => h.1.tup (sqT_of eA2)) ?_ ?_⟩
  · rintro i y H4 H3 hi ⟨s, e⟩ ⟨rfl, hy⟩
    rw [List.length_map] at hi
    have hx : (mrg hs gs)[i]? = some (mrg hs gs)[i] := List.getElem?_eq_getElem hi
    obtain rfl : V.str (mrg hs gs)[i] = y := strAt_inj hx hy
    refine ⟨rfl, yes_ ⟨_, rfl, _, rfl, hB, _, rfl, .inr (sqT_of (s _ _ eB)), rfl, flat_strs _, grow (acc := fun i => ((mrg hs gs).take i).map fun x => V.bl (decide (x ∈ mrg fs ks))) nD s e ?_ ?_⟩⟩
    · rw [List.length_map, List.length_take]
      have := mrg_len (xs := hs) (ys := gs)
      exact small1000 (by omega)
    · show List.map _ _ = _
      rw [take_more hx, List.map_append]
      simp only [List.map_cons, List.map_nil, inV_str]
      rfl
  · rintro H4 ⟨s, e⟩
    rw [List.length_map, List.take_length] at e
    refine ⟨D, (mrg hs gs).map fun x => decide (x ∈ mrg fs ks), rfl, sqL_of (by rw [e, List.map_map]; rfl), ?_⟩
    have em : ((mrg hs gs).map fun x => decide (x ∈ mrg fs ks)).any id = meetN (mrg hs gs) (mrg fs ks) := by
      rw [List.any_map]
      rfl
    rw [em]
    refine ⟨_, rfl, bcase (fun c1 => ?_) (fun c1 => ?_)⟩
    · exact qE c1 H4 (s12.trans s)
    · obtain ⟨q0, q⟩ := q c1
      have s4 := s12.trans s
      have eA4 := s _ _ eA2
      have eB4 := s _ _ eB
      refine ⟨_, rfl, _, rfl, fun o3 dx3 nx ndx nex => ?_⟩
      have s5 : Same H4 (upd (upd H4 dx3 (.own o3)) o3 (.ins C dx3 [])) := ((Same.refl H4).put ndx).put nx
      have m1 := mrg_len (xs := hs) (ys := gs)
      have m2 := mrg_len (xs := fs) (ys := ks)
      refine ⟨o3, dx3, hA, hB, _, _, rfl, upd_same, sqT_of (s5 _ _ eA4), sqT_of (s5 _ _ eB4), mrg_txts t1 t3, mrg_txts t2 t4, by omega, by omega, fun i ei H' d sH nd => q0 i ei H' d ((s4.trans s5).trans sH) nd, fun en => ?_⟩
      obtain ⟨q1, q⟩ := q en
      refine ⟨fun i ei H' d sH nd => q1 i ei H' d ((s4.trans s5).trans sH) nd, fun en2 H' n3 zs3 sX hx hn hperm hsort => ⟨rfl, ?_⟩⟩
      have sS : Same H4 H' := fun b' o' h => sX b' o' (fun e => by rw [e, nx] at h; cases h) (s5 _ _ h)
      exact q en2 H' o3 (s4.trans sS) (s4.free nx) ⟨dx3, hA, hB, n3, zs3, hx, sqT_of (sS _ _ eA4), sqT_of (sS _ _ eB4), hn, srt_uniq hperm hsort⟩
end
end Sc
namespace Sc
open PySem PySem.Spec PyProof.Rows L2
/-- o(e, ..), o an object whose class has its own __call__; the arguments leave it as it is -/
def tCallO (C : Addr) (sp : Sp) (E : XK) (te : TE) (t : TA) : TE := fun σ H Q => te σ H fun x H1 => ∃ (a : Addr), x = .ref a ∧
  t σ H1 fun vs H2 => (∃ (dx : Addr) (fs : List (Str × V)), H2 a = some (.ins C dx fs)) ∧ sp (.ref a :: vs) H2 Q E
theorem callWith_o {M : Model} {A : Around} {E : Value → Shared → Prop} {s : Shared} {pos : Pos} {x C : Addr} {first : List Value} {Q : Value → Shared → Prop} {args : List (Bool × Sem Value)} (hplain : args.any (·.1) = false)
    (h : wpAny M A (evalArgs (.ref x) true args []) (fun a s₁ => (∃ ox od, PySem.W.InstAt s₁.heap x ox C od ∧ ox.data = Data.plain) ∧ wpAny M A (call (.ref x) (first ++ a.pos) a.kw) Q E s₁) E s) : wpAny M A (callWith pos (.ref x) first args []) Q E s := by
  unfold callWith
  refine wpAny_bind (wpAny_holding (wpAny_mono h (fun a s₁ h₁ => wpAny_bind (wpAny_standAt ?_)) (fun _ _ z => z)))
  obtain ⟨⟨ox, od, J, hd⟩, h₂⟩ := h₁
  have L := PySem.W.kco_keeper (M := M) J hd
  simp only [hplain, List.any_nil, Bool.or_false]
  exact wpAny_bind (PySem.W.Looks.here L (wpAny_bind (wpAny_mono (wpAny_operateT h₂) (fun r s₂ hr => wpAny_bind (wpAny_holding (wpAny_point (wpAny_pure hr)))) (fun _ _ z => z))))
theorem pe_callO {X : Cx} {CX : CXT} {C g : Addr} {k : Nat} {fd : FuncData} {ps : List Str} {sp : Sp} {E : XK} {te : TE} {t : TA} {x : Str} {e : Expr} {es : List Expr} {p pos : Pos}
    (at_ : PySem.W.findIn X.K (.ref C) "__call__" = some (some (.ref g))) (fn : PySem.W.isFn X.K (.ref g) = true) (fi : PySem.W.fnIn X.K g = true)
    (F : FnOk X.prog X.w X.K X.mg X.base CX k g fd ps sp) (hr : Room k X.A) (hb : Binds X.K fd ps []) (hx : Passes CX X E) (ho : PE X (.Name x p) te) (ha : PA X (e :: es) t)
    (he : starEach (e :: es) X.env = (false, eval e X.env) :: starEach es X.env := by rfl) (hpl : (backTo pos (starEach es X.env)).any (·.1) = false := by rfl) :
    PE X (.Call (.Name x p) (e :: es) [] pos) (tCallO C sp E te t) := by
  refine ⟨fun pins s σ H Q I h => wpAny_Call_NameR (thn (ho.run pins s σ H _ I h) fun u s1 hh => ?_)⟩
  obtain ⟨y, H1, I1, ry, a, rfl, h⟩ := hh
  obtain rfl : u = Value.ref a := ry
  have hr0 := ha.run pos pins s1 σ H1 _ I1 h
  have eb : backTo pos (starEach (e :: es) X.env) = (false, eval e X.env) :: backTo pos (starEach es X.env) := by rw [he]; rfl
  rw [eb] at hr0 ⊢
  refine callWith_o (C := C) (by rw [List.any_cons, hpl]; rfl) (Calls.evalArgs_plain (thn hr0 fun us s2 hh => ?_))
  obtain ⟨vs, H2, I2, rv, ⟨dx, fs, ea⟩, hq⟩ := hh
  obtain ⟨mA, O, _⟩ := ins_get I2.hok ea
  obtain ⟨od, J, _⟩ := ObjM.look O
  have hl : (Value.ref a :: us).length = ps.length := by
    have := F.len _ _ _ _ hq
    rw [← this, List.length_cons, List.length_cons, Vals.length rv]
  refine ⟨⟨_, _, J, rfl⟩, wpAny_call (PySem.W.kco_code I2.kIn J rfl at_ fn fi (codeAny_mono (F.run X.A X.stack s2 H2 ⟨.ref a :: us, []⟩ (.ref a :: us) (.ref a :: vs) Q E hr I2.env0 ?_ (Paired.cons rfl rv) hq) fun res s' hcr => ?_))⟩
  · have := hb s2 (.ref a :: us) I2.kIn (by rw [List.append_nil]; exact hl)
    rw [List.append_nil] at this
    exact this
  · cases res with
    | error er => exact hx pins σ H2 s2 er s' I2 hcr
    | ok fl =>
      cases fl with
      | ret v => exact I2.after hcr
      | next => exact hcr.elim
      | brk => exact hcr.elim
      | cont => exact hcr.elim
end Sc
namespace Sc
open PySem PySem.Spec PyProof.Rows L2
/-- the class Condition as its users see it -/
structure CondX (P : Program) (w : World) (K : PySem.W.Frag) (mg : Str → Option Value) (base : Heap) (C CC CN : Addr) : Prop where
  cls : Cls K C
  isi : IsiC K C
  holding : ∃ p g fd, PropC P w K mg base C p g fd "holding" "_holding"
  failing : ∃ p g fd, PropC P w K mg base C p g fd "failing" "_failing"
  names : ∃ p g fd, PropC P w K mg base C p g fd "names" "_names"
  call : ∃ g fd, PySem.W.findIn K (.ref C) "__call__" = some (some (.ref g)) ∧ PySem.W.isFn K (.ref g) = true ∧ PySem.W.fnIn K g = true ∧ FnOk P w K mg base CX0 1 g fd ["self", "case"] (sp_ccall K C) ∧ Binds K fd ["self", "case"] []
  eq : ∃ g fd, PySem.W.findIn K (.ref C) "__eq__" = some (some (.ref g)) ∧ PySem.W.isFn K (.ref g) = true ∧ FnOk P w K mg base CX0 1 g fd ["self", "other"] (sp_ceq K C) ∧ Binds K fd ["self", "other"] []
  ne : PySem.W.findIn K (.ref C) "__ne__" = some (some (.builtin "object.__ne__"))
  and_ : PySem.W.selfFirst K C = true ∧ ∃ g fd, PySem.W.findIn K (.ref C) "__and__" = some (some (.ref g)) ∧ PySem.W.isFn K (.ref g) = true ∧ FnOk P w K mg base (L2.CX P w) 6 g fd ["self", "other"] (sp_cand K C CC CN) ∧ Binds K fd ["self", "other"] []
  within_ : ∃ g fd, Meth K C "within" g ∧ FnOk P w K mg base CX0 3 g fd ["self", "other"] (sp_within K C) ∧ Binds K fd ["self", "other"] []
section
variable {X : Cx} {C CC CN : Addr} {e o : Expr} {es : List Expr} {ta te : TE} {t : TA} {x : Str} {p pos apos : Pos} {E : XK}
theorem pe_cprop {f n : Str} (M : ∃ p g fd, PropC X.prog X.w X.K X.mg X.base C p g fd n f) (c : Cls X.K C) (hr : Room 2 X.A) (he : PE X e ta) (hab : attributeBase e n X.env (eval e X.env) = eval e X.env := by rfl) : PE X (.Attribute e n pos) (tProp C (sp_prop C f) [] E0 ta) := by
  obtain ⟨p, g, fd, h1, h2, h3⟩ := M
  exact pe_prop he c h1 h2 hr h3 .nil pass0 hab
theorem pe_cc (M : CondX X.prog X.w X.K X.mg X.base C CC CN) (hr : Room 1 X.A) (ho : PE X (.Name x p) te) (ha : PA X (e :: es) t)
    (he : starEach (e :: es) X.env = (false, eval e X.env) :: starEach es X.env := by rfl) (hpl : (backTo pos (starEach es X.env)).any (·.1) = false := by rfl) : PE X (.Call (.Name x p) (e :: es) [] pos) (tCallO C (sp_ccall X.K C) E0 te t) := by
  obtain ⟨g, fd, h1, h2, h3, F, hb⟩ := M.call
  exact pe_callO h1 h2 h3 F hr hb pass0 ho ha he hpl
theorem op_ceq (M : CondX X.prog X.w X.K X.mg X.base C CC CN) (hr : Room 1 X.A) : OpR X (compareOp .Eq) (rEqO X.K C (sp_ceq X.K C) E0) := by
  obtain ⟨g, fd, h1, h2, F, hb⟩ := M.eq
  exact op_eqO h1 h2 F hr hb pass0
theorem op_cne (M : CondX X.prog X.w X.K X.mg X.base C CC CN) (hr : Room 2 X.A) : OpR X (compareOp .NotEq) (rNeO X.K C (sp_ceq X.K C) E0) := by
  obtain ⟨g, fd, h1, h2, F, hb⟩ := M.eq
  exact op_neO M.isi.cm M.ne h1 h2 F hr hb pass0
theorem op_candN (M : CondX X.prog X.w X.K X.mg X.base C CC CN) (hr : Room 6 X.A) : OpR X (binaryOp .BitAnd) (rBinO C (sp_cand X.K C CC CN) E0) := by
  obtain ⟨h0, g, fd, h1, h2, F, hb⟩ := M.and_
  exact op_binO h0 h1 h2 F hr hb passL
theorem op_candX (M : CondX X.prog X.w X.K X.mg X.base C CC CN) (hr : Room 6 X.A) (tk : Takes X (fun cls d _ H => E cls d H)) : OpR X (binaryOp .BitAnd) (rBinO C (sp_cand X.K C CC CN) E) := by
  obtain ⟨h0, g, fd, h1, h2, F, hb⟩ := M.and_
  exact op_binO h0 h1 h2 F hr hb (fun pins σ H s e s' I h => passAt tk σ pins H s e s' I h)
theorem pe_cwithin {pl : Sem Bool} (M : CondX X.prog X.w X.K X.mg X.base C CC CN) (hr : Room 3 X.A) (he : PE X o ta) (ha : PA X (e :: es) t)
    (hst : starEach (e :: es) X.env = (false, eval e X.env) :: starEach es X.env := by rfl) (hpl : (backTo pos (starEach es X.env)).any (·.1) = false := by rfl)
    (ht : eval (.Call (.Attribute o "within" apos) (e :: es) [] pos) X.env = (do
      let ov ← eval o X.env
      standAt apos.atName
      let (f, first) ← holding [ov] (getMethod ov "within" pl)
      callWith pos f first (backTo pos (starEach (e :: es) X.env)) (backToKw pos (keywordEach [] X.env))) := by rfl) : PE X (.Call (.Attribute o "within" apos) (e :: es) [] pos) (tMeth C "within" (sp_within X.K C) [] E0 ta t) := by
  obtain ⟨g, fd, h1, F, hb⟩ := M.within_
  exact pe_meth he M.cls h1 F hr hb .nil pass0 ha hst hpl ht
end
end Sc
namespace Sc
open PySem PySem.Spec PyProof.Rows L2
theorem wk_ps {X : Cx} {st : Stmt} {t : TS} (t' : TS) (h : PS X st t) (w : ∀ D σ H, t' D σ H → t D σ H) : PS X st t' := ⟨fun pins s σ H D I x => h.run pins s σ H D I (w D σ H x)⟩
/-! ### rules as data -/
inductive All2 {α β : Type} (R : α → β → Prop) : List α → List β → Prop where
  | nil : All2 R [] []
  | cons {a : α} {b : β} {as : List α} {bs : List β} (h : R a b) (t : All2 R as bs) : All2 R (a :: as) (b :: bs)
namespace All2
variable {α β : Type} {R S : α → β → Prop} {as as' : List α} {bs bs' : List β}
theorem len (h : All2 R as bs) : as.length = bs.length := by
  induction h with
  | nil => rfl
  | cons _ _ ih => rw [List.length_cons, List.length_cons, ih]
theorem mono (h : All2 R as bs) (f : ∀ a b, R a b → S a b) : All2 S as bs := by
  induction h with
  | nil => exact .nil
  | cons h _ ih => exact .cons (f _ _ h) ih
theorem monoM (h : All2 R as bs) (f : ∀ a b, b ∈ bs → R a b → S a b) : All2 S as bs := by
  induction h with
  | nil => exact .nil
  | cons h _ ih => exact .cons (f _ _ List.mem_cons_self h) (ih fun a b m => f a b (List.mem_cons_of_mem _ m))
theorem app (h : All2 R as bs) (k : All2 R as' bs') : All2 R (as ++ as') (bs ++ bs') := by
  induction h with
  | nil => exact k
  | cons h _ ih => exact .cons h ih
theorem one {a : α} {b : β} (h : R a b) : All2 R [a] [b] := .cons h .nil
theorem snoc {a : α} {b : β} (h : All2 R as bs) (r : R a b) : All2 R (as ++ [a]) (bs ++ [b]) := h.app (one r)
theorem get (h : All2 R as bs) : ∀ {i : Nat} {a : α}, as[i]? = some a → ∃ b, bs[i]? = some b ∧ R a b := by
  induction h with
  | nil => intro i a e; cases i <;> cases e
  | cons h _ ih =>
    intro i a e
    cases i with
    | zero => cases e; exact ⟨_, rfl, h⟩
    | succ i => exact ih e
theorem get' (h : All2 R as bs) : ∀ {i : Nat} {b : β}, bs[i]? = some b → ∃ a, as[i]? = some a ∧ R a b := by
  induction h with
  | nil => intro i a e; cases i <;> cases e
  | cons h _ ih =>
    intro i a e
    cases i with
    | zero => cases e; exact ⟨_, rfl, h⟩
    | succ i => exact ih e
theorem at' (h : All2 R as bs) {i : Nat} (hi : i < bs.length) : ∃ a, as[i]? = some a ∧ R a bs[i] := h.get' (List.getElem?_eq_getElem hi)
end All2
/-- a row of rules, each with its exceptions -/
inductive RF where
  | nil : RF
  | cons (nm : Str) (hs fs : List Str) (rl : Str) (exc rest : RF) : RF
structure Nd where
  nm : Str
  hs : List Str
  fs : List Str
  rl : Str
  exc : RF
namespace RF
def nodes : RF → List Nd
  | .nil => []
  | .cons nm hs fs rl exc rest => ⟨nm, hs, fs, rl, exc⟩ :: rest.nodes
def dep : RF → Nat
  | .nil => 0
  | .cons _ _ _ _ exc rest => max (exc.dep + 1) rest.dep
def size : RF → Nat
  | .nil => 0
  | .cons _ _ _ _ exc rest => exc.size + 1 + rest.size
/-- all rules by their numbers, and within how many they stand -/
def pre : RF → Nat → List (Nd × Nat)
  | .nil, _ => []
  | .cons nm hs fs rl exc rest, k => (⟨nm, hs, fs, rl, exc⟩, k) :: (exc.pre (k + 1) ++ rest.pre k)
def ofNodes : List Nd → RF
  | [] => .nil
  | n :: r => .cons n.nm n.hs n.fs n.rl n.exc (ofNodes r)
theorem nodes_of : ∀ ns : List Nd, (ofNodes ns).nodes = ns
  | [] => rfl
  | n :: r => by show n :: (ofNodes r).nodes = n :: r; rw [nodes_of r]
theorem of_nodes : ∀ f : RF, ofNodes f.nodes = f
  | .nil => rfl
  | .cons nm hs fs rl exc rest => by show RF.cons nm hs fs rl exc (ofNodes rest.nodes) = _; rw [of_nodes rest]
theorem pre_nodes : ∀ (f : RF) (k : Nat), f.pre k = f.nodes.flatMap fun n => (n, k) :: n.exc.pre (k + 1)
  | .nil, _ => rfl
  | .cons nm hs fs rl exc rest, k => by
    show (_, k) :: (exc.pre (k + 1) ++ rest.pre k) = _
    rw [pre_nodes rest k]
    rfl
theorem pre_len : ∀ (f : RF) (k : Nat), (f.pre k).length = f.size
  | .nil, _ => rfl
  | .cons nm hs fs rl exc rest, k => by
    show ((_, k) :: (exc.pre (k + 1) ++ rest.pre k)).length = exc.size + 1 + rest.size
    rw [List.length_cons, List.length_append, pre_len exc, pre_len rest]
    omega
theorem dep_nil : ∀ f : RF, f.dep = 0 → f = .nil
  | .nil, _ => rfl
  | .cons _ _ _ _ exc rest, h => by
    have h : max (exc.dep + 1) rest.dep = 0 := h
    omega
theorem dep_mem : ∀ (f : RF) (n : Nd), n ∈ f.nodes → n.exc.dep + 1 ≤ f.dep
  | .nil, n, h => nomatch h
  | .cons nm hs fs rl exc rest, n, h => by
    show _ ≤ max (exc.dep + 1) rest.dep
    rcases List.mem_cons.mp h with rfl | h
    · exact Nat.le_max_left _ _
    · exact Nat.le_trans (dep_mem rest n h) (Nat.le_max_right _ _)
theorem dep_le : ∀ (f : RF) (d : Nat), (∀ n ∈ f.nodes, n.exc.dep + 1 ≤ d) → f.dep ≤ d
  | .nil, d, _ => Nat.zero_le d
  | .cons nm hs fs rl exc rest, d, h => by
    show max (exc.dep + 1) rest.dep ≤ d
    exact Nat.max_le.mpr ⟨h _ List.mem_cons_self, dep_le rest d fun n m => h n (List.mem_cons_of_mem _ m)⟩
theorem size_mem : ∀ (f : RF) (n : Nd), n ∈ f.nodes → n.exc.size + 1 ≤ f.size
  | .nil, n, h => nomatch h
  | .cons nm hs fs rl exc rest, n, h => by
    show _ ≤ exc.size + 1 + rest.size
    rcases List.mem_cons.mp h with rfl | h
    · show exc.size + 1 ≤ _
      omega
    · have := size_mem rest n h
      omega
theorem nodes_le : ∀ f : RF, f.nodes.length ≤ f.size
  | .nil => Nat.le_refl 0
  | .cons nm hs fs rl exc rest => by
    show rest.nodes.length + 1 ≤ exc.size + 1 + rest.size
    have := nodes_le rest
    omega
/-- the names of all rules, by their numbers -/
def names (f : RF) : List Str := (f.pre 0).map fun p => p.1.nm
theorem pre_names : ∀ (f : RF) (k : Nat), (f.pre k).map (fun p => p.1.nm) = f.names
  | .nil, _ => rfl
  | .cons nm hs fs rl exc rest, k => by
    unfold names
    show nm :: ((exc.pre (k + 1) ++ rest.pre k).map fun p => p.1.nm) = nm :: ((exc.pre (0 + 1) ++ rest.pre 0).map fun p => p.1.nm)
    rw [List.map_append, List.map_append, pre_names exc, pre_names exc, pre_names rest, pre_names rest]
/-- the first rules of a row, with their exceptions, by their numbers -/
def preL (ns : List Nd) (k : Nat) : List (Nd × Nat) := ns.flatMap fun n => (n, k) :: n.exc.pre (k + 1)
theorem preL_more {f : RF} {i k : Nat} {n : Nd} (h : f.nodes[i]? = some n) : preL (f.nodes.take (i + 1)) k = preL (f.nodes.take i) k ++ ((n, k) :: n.exc.pre (k + 1)) := by
  unfold preL
  rw [take_more h, List.flatMap_append]
  simp
theorem preL_all {f : RF} {k : Nat} : preL (f.nodes.take f.nodes.length) k = f.pre k := by
  rw [List.take_length, pre_nodes]
  rfl
theorem preL_len {f : RF} {i k : Nat} : (preL (f.nodes.take i) k).length ≤ f.size := by
  have e : preL f.nodes k = preL (f.nodes.take i) k ++ preL (f.nodes.drop i) k := by
    unfold preL
    rw [← List.flatMap_append, List.take_append_drop]
  have e2 : (preL f.nodes k).length = f.size := by
    rw [← pre_len f k, pre_nodes]
    rfl
  rw [← e2, e, List.length_append]
  exact Nat.le_add_right _ _
end RF
/-! ### where they stand -/
/-- an object that is made, to its last field -/
def DoneF (fs : List (Str × V)) : Bool := (fs.lookup ("_inside" : Str)).isSome || ((fs.lookup ("_names" : Str)).isSome || (fs.lookup ("_numbered" : Str)).isSome)
/-- what steps that change only lists of the law's own, or an object that is being made, leave as it is -/
def Stays (N : Addr → Prop) (b : Addr) (o : HO) : Prop := (∀ xs, o = .lst xs → N b) ∧ (∀ C dx fs, o = .ins C dx fs → DoneF fs = true) ∧ ∀ ps, o ≠ .tbl ps
def Keeps (N : Addr → Prop) (H H' : Hp) : Prop := ∀ b o, Stays N b o → H b = some o → H' b = some o
section
variable {K : PySem.W.Frag} {C R : Addr} {N : Addr → Prop} {H H' H'' : Hp}
theorem _root_.L2.Same.keeps (s : Same H H') : Keeps N H H' := fun b o _ e => s b o e
theorem Keeps.trans (h : Keeps N H H') (k : Keeps N H' H'') : Keeps N H H'' := fun b o st e => k b o st (h b o st e)
theorem Kp.keeps {a l : Addr} (k : Kp a l H H') (na : ¬ N a) (nl : ¬ N l) : Keeps N H H' := fun b o st e => by
  by_cases z : ∃ xs, o = .lst xs
  · obtain ⟨xs, rfl⟩ := z
    have := st.1 xs rfl
    exact k.keep b _ (fun z => na (z ▸ this)) (fun z => nl (z ▸ this)) e
  · exact k.obj e fun xs z2 => z ⟨xs, z2⟩
theorem SameX.keeps {x dx : Addr} {fs : List (Str × V)} (s : SameX x H H') (e : H x = some (.ins R dx fs)) (n : DoneF fs = false := by rfl) : Keeps N H H' := fun b o st h => s b o (fun z => by rw [z, e] at h; exact Bool.noConfusion (n.symm.trans (st.2.1 R dx fs (Option.some.inj h).symm))) h
/-- an object that is being made changes -/
theorem keeps_make {x dx : Addr} {fs : List (Str × V)} {o : HO} (e : H x = some (.ins R dx fs)) (n : DoneF fs = false := by rfl) : Keeps N H (upd H x o) := SameX.keeps (fun b o' ne h => by rw [upd_ne ne]; exact h) e n
theorem stays_tup {b : Addr} {xs : List V} : Stays N b (.tup xs) := ⟨(fun _ z => nomatch z), (fun _ _ _ z => nomatch z), (fun _ z => nomatch z)⟩
theorem stays_ins {b C dx : Addr} {fs : List (Str × V)} (h : DoneF fs = true := by rfl) : Stays N b (.ins C dx fs) := ⟨(fun _ z => nomatch z), (fun _ _ _ z => by cases z; exact h), (fun _ z => nomatch z)⟩
theorem stays_lst {b : Addr} {xs : List V} (h : N b) : Stays N b (.lst xs) := ⟨(fun _ _ => h), (fun _ _ _ z => nomatch z), (fun _ z => nomatch z)⟩
theorem Keeps.tup {b : Addr} {xs : List V} (k : Keeps N H H') (h : SqT K H b xs) : SqT K H' b xs := by
  rcases h with (h | ⟨o, h⟩) | h
  · exact .inl (.inl (k _ _ stays_tup h))
  · exact .inl (.inr ⟨o, k _ _ ⟨(fun _ z => nomatch z), (fun _ _ _ z => nomatch z), (fun _ z => nomatch z)⟩ h⟩)
  · exact .inr h
theorem CondAt.keeps {o : Addr} {hs fs : List Str} (h : CondAt K C H o hs fs) (k : Keeps N H H') : CondAt K C H' o hs fs := by
  obtain ⟨dx, a, b, n, zs, h1, h2, h3, h4, h5⟩ := h.at_
  exact ⟨dx, a, b, n, zs, k _ _ stays_ins h1, k.tup h2, k.tup h3, k _ _ stays_tup h4, h5⟩
/-- the fields of a rule -/
def ruleF (nm : Str) (c : Addr) (rl : Str) (p : Addr) (d : Int) (l : Addr) : List (Str × V) :=
  putF "_inside" (.ref l) (putF "_depth" (.int d) (putF "_exceptions" (.ref p) (putF "_ruling" (.str rl) (putF "_condition" (.ref c) (putF "_name" (.str nm) [])))))
def ForAt (K : PySem.W.Frag) (C R : Addr) (N : Addr → Prop) (H : Hp) : RF → List V → Prop
  | .nil, vs => vs = []
  | .cons nm hs fs rl exc rest, vs => ∃ (o dx c p l : Addr) (ws vs' : List V), vs = .ref o :: vs' ∧ H o = some (.ins R dx (ruleF nm c rl p ((exc.dep + 1 : Nat) : Int) l)) ∧ CondAt K C H c hs fs ∧ SqT K H p ws ∧ (N l ∧ H l = some (.lst ((nm :: exc.names).map V.str))) ∧
      ForAt K C R N H exc ws ∧ ForAt K C R N H rest vs'
def NdAt (K : PySem.W.Frag) (C R : Addr) (N : Addr → Prop) (H : Hp) (o : Addr) (n : Nd) : Prop := ∃ (dx c p l : Addr) (ws : List V), H o = some (.ins R dx (ruleF n.nm c n.rl p ((n.exc.dep + 1 : Nat) : Int) l)) ∧ CondAt K C H c n.hs n.fs ∧ SqT K H p ws ∧ (N l ∧ H l = some (.lst ((n.nm :: n.exc.names).map V.str))) ∧ ForAt K C R N H n.exc ws
def RefAt (K : PySem.W.Frag) (C R : Addr) (N : Addr → Prop) (H : Hp) (v : V) (n : Nd) : Prop := ∃ o, v = .ref o ∧ NdAt K C R N H o n
theorem stays_rule {b : Addr} {dx c p l : Addr} {nm rl : Str} {d : Int} : Stays N b (.ins R dx (ruleF nm c rl p d l)) := stays_ins
theorem ForAt.keeps (k : Keeps N H H') : ∀ {f : RF} {vs : List V}, ForAt K C R N H f vs → ForAt K C R N H' f vs
  | .nil, _, h => h
  | .cons nm hs fs rl exc rest, vs, h => by
    obtain ⟨o, dx, c, p, l, ws, vs', e, h1, h2, h3, ⟨h4, h5⟩, h6, h7⟩ := h
    exact ⟨o, dx, c, p, l, ws, vs', e, k _ _ stays_rule h1, h2.keeps k, k.tup h3, ⟨h4, k _ _ (stays_lst h4) h5⟩, ForAt.keeps k h6, ForAt.keeps k h7⟩
theorem NdAt.keeps {o : Addr} {n : Nd} (h : NdAt K C R N H o n) (k : Keeps N H H') : NdAt K C R N H' o n := by
  obtain ⟨dx, c, p, l, ws, h1, h2, h3, ⟨h4, h5⟩, h6⟩ := h
  exact ⟨dx, c, p, l, ws, k _ _ stays_rule h1, h2.keeps k, k.tup h3, ⟨h4, k _ _ (stays_lst h4) h5⟩, h6.keeps k⟩
theorem RefAt.keeps {v : V} {n : Nd} (h : RefAt K C R N H v n) (k : Keeps N H H') : RefAt K C R N H' v n := by
  obtain ⟨o, e, h⟩ := h
  exact ⟨o, e, h.keeps k⟩
theorem ForAt.all : ∀ {f : RF} {vs : List V}, ForAt K C R N H f vs → All2 (RefAt K C R N H) vs f.nodes
  | .nil, _, h => by
    obtain rfl : _ = [] := h
    exact .nil
  | .cons nm hs fs rl exc rest, vs, h => by
    obtain ⟨o, dx, c, p, l, ws, vs', rfl, h1, h2, h3, h4, h6, h7⟩ := h
    exact .cons ⟨o, rfl, dx, c, p, l, ws, h1, h2, h3, h4, h6⟩ h7.all
theorem ForAt.of : ∀ {f : RF} {vs : List V}, All2 (RefAt K C R N H) vs f.nodes → ForAt K C R N H f vs
  | .nil, _, h => by
    cases h
    rfl
  | .cons nm hs fs rl exc rest, vs, h => by
    cases h with
    | cons h t =>
      obtain ⟨o, rfl, dx, c, p, l, ws, h1, h2, h3, h4, h6⟩ := h
      exact ⟨o, dx, c, p, l, ws, _, rfl, h1, h2, h3, h4, h6, ForAt.of t⟩
theorem ForAt.len {f : RF} {vs : List V} (h : ForAt K C R N H f vs) : vs.length = f.nodes.length := h.all.len
theorem ForAt.re {M : Addr → Prop} (g : ∀ b xs, N b → H b = some (.lst xs) → M b) : ∀ {f : RF} {vs : List V}, ForAt K C R N H f vs → ForAt K C R M H f vs
  | .nil, _, h => h
  | .cons nm hs fs rl exc rest, vs, h => by
    obtain ⟨o, dx, c, p, l, ws, vs', e, h1, h2, h3, ⟨h4, h5⟩, h6, h7⟩ := h
    exact ⟨o, dx, c, p, l, ws, vs', e, h1, h2, h3, ⟨g _ _ h4 h5, h5⟩, ForAt.re g h6, ForAt.re g h7⟩
theorem NdAt.re {M : Addr → Prop} (g : ∀ b xs, N b → H b = some (.lst xs) → M b) {o : Addr} {n : Nd} (h : NdAt K C R N H o n) : NdAt K C R M H o n := by
  obtain ⟨dx, c, p, l, ws, h1, h2, h3, ⟨h4, h5⟩, h6⟩ := h
  exact ⟨dx, c, p, l, ws, h1, h2, h3, ⟨g _ _ h4 h5, h5⟩, h6.re g⟩
/-- the addresses of N that are in use -/
def Used (N : Addr → Prop) (H : Hp) (b : Addr) : Prop := N b ∧ H b ≠ none
theorem ForAt.used {f : RF} {vs : List V} (h : ForAt K C R N H f vs) : ForAt K C R (Used N H) H f vs := h.re fun b xs n e => ⟨n, by rw [e]; exact fun z => nomatch z⟩
theorem used_not {D : Addr} (n : H D = none) : ¬ Used N H D := fun h => h.2 n
theorem SameX.keeps' {D : Addr} (s : SameX D H H') (n : ¬ N D) (z : ∀ o, H D = some o → ∃ xs, o = .lst xs) : Keeps N H H' := fun b o st h => s b o (fun e => by
  subst e
  obtain ⟨xs, rfl⟩ := z o h
  exact n (st.1 xs rfl)) h
/-- a list of one's own changes -/
theorem keeps_own {D : Addr} {xs : List V} {o : HO} (e : H D = some (.lst xs)) (n : ¬ N D) : Keeps N H (upd H D o) := SameX.keeps' (fun b o' ne h => by rw [upd_ne ne]; exact h) n fun o' h => by rw [e] at h; exact ⟨xs, (Option.some.inj h).symm⟩
/-- a list of tuples (rule, number of rules around) -/
def PairAt (K : PySem.W.Frag) (C R : Addr) (N : Addr → Prop) (H : Hp) (v : V) (n : Nd × Nat) : Prop := ∃ (t o : Addr), v = .ref t ∧ H t = some (.tup [.ref o, .int (n.2 : Nat)]) ∧ NdAt K C R N H o n.1
theorem PairAt.keeps {v : V} {n : Nd × Nat} (h : PairAt K C R N H v n) (k : Keeps N H H') : PairAt K C R N H' v n := by
  obtain ⟨t, o, e, h1, h2⟩ := h
  exact ⟨t, o, e, k _ _ stays_tup h1, h2.keeps k⟩
theorem PairAt.re {M : Addr → Prop} (g : ∀ b xs, N b → H b = some (.lst xs) → M b) {v : V} {n : Nd × Nat} (h : PairAt K C R N H v n) : PairAt K C R M H v n := by
  obtain ⟨t, o, e, h1, h2⟩ := h
  exact ⟨t, o, e, h1, h2.re g⟩
abbrev PreAt (K : PySem.W.Frag) (C R : Addr) (N : Addr → Prop) (H : Hp) (us : List V) (ps : List (Nd × Nat)) : Prop := All2 (PairAt K C R N H) us ps
theorem PreAt.keeps {us : List V} {ps : List (Nd × Nat)} (h : PreAt K C R N H us ps) (k : Keeps N H H') : PreAt K C R N H' us ps := h.mono fun _ _ x => x.keeps k
/-! ### the law's rows: tuples -/
def RowsAt (K : PySem.W.Frag) (H : Hp) : RF → List V → Prop
  | .nil, vs => vs = []
  | .cons nm hs fs rl exc rest, vs => ∃ (o w b p : Addr) (ws vs' : List V), vs = .ref o :: vs' ∧ SqT K H o [.str nm, .ref w, .ref b, .str rl, .ref p] ∧ SqT K H w (hs.map V.str) ∧ SqT K H b (fs.map V.str) ∧ SqT K H p ws ∧ RowsAt K H exc ws ∧ RowsAt K H rest vs'
def RowAt (K : PySem.W.Frag) (H : Hp) (v : V) (n : Nd) : Prop := ∃ (o w b p : Addr) (ws : List V), v = .ref o ∧ SqT K H o [.str n.nm, .ref w, .ref b, .str n.rl, .ref p] ∧ SqT K H w (n.hs.map V.str) ∧ SqT K H b (n.fs.map V.str) ∧ SqT K H p ws ∧ RowsAt K H n.exc ws
theorem RowsAt.keeps (k : Keeps N H H') : ∀ {f : RF} {vs : List V}, RowsAt K H f vs → RowsAt K H' f vs
  | .nil, _, h => h
  | .cons nm hs fs rl exc rest, vs, h => by
    obtain ⟨o, w, b, p, ws, vs', e, h1, h2, h3, h4, h6, h7⟩ := h
    exact ⟨o, w, b, p, ws, vs', e, k.tup h1, k.tup h2, k.tup h3, k.tup h4, RowsAt.keeps k h6, RowsAt.keeps k h7⟩
theorem RowAt.keeps {v : V} {n : Nd} (h : RowAt K H v n) (k : Keeps N H H') : RowAt K H' v n := by
  obtain ⟨o, w, b, p, ws, e, h1, h2, h3, h4, h6⟩ := h
  exact ⟨o, w, b, p, ws, e, k.tup h1, k.tup h2, k.tup h3, k.tup h4, h6.keeps k⟩
theorem RowsAt.all : ∀ {f : RF} {vs : List V}, RowsAt K H f vs → All2 (RowAt K H) vs f.nodes
  | .nil, _, h => by
    obtain rfl : _ = [] := h
    exact .nil
  | .cons nm hs fs rl exc rest, vs, h => by
    obtain ⟨o, w, b, p, ws, vs', rfl, h1, h2, h3, h4, h6, h7⟩ := h
    exact .cons ⟨o, w, b, p, ws, rfl, h1, h2, h3, h4, h6⟩ h7.all
theorem RowsAt.of : ∀ {f : RF} {vs : List V}, All2 (RowAt K H) vs f.nodes → RowsAt K H f vs
  | .nil, _, h => by
    cases h
    rfl
  | .cons nm hs fs rl exc rest, vs, h => by
    cases h with
    | cons h t =>
      obtain ⟨o, w, b, p, ws, rfl, h1, h2, h3, h4, h6⟩ := h
      exact ⟨o, w, b, p, ws, _, rfl, h1, h2, h3, h4, h6, RowsAt.of t⟩
theorem RowsAt.len {f : RF} {vs : List V} (h : RowsAt K H f vs) : vs.length = f.nodes.length := h.all.len
end
end Sc
namespace Sc
open PySem PySem.Spec PyProof.Rows L2
/-! ### xs[i] += e -/
def rGetL (K : PySem.W.Frag) : V → V → Hp → VK → Prop := fun x y H Q => ∃ (p : Addr) (xs : List V) (i : Nat) (v : V), x = .ref p ∧ y = .int i ∧ SqL K H p xs ∧ xs[i]? = some v ∧ Q v H
theorem get_list {X : Cx} : PGet X (rGetL X.K) := by
  intro pins s σ H x y v u Q I rx ry h
  obtain ⟨p, xs, i, z, rfl, rfl, hq, he, q⟩ := h
  cases rx
  obtain ⟨t, rfl⟩ := ry
  obtain ⟨its, r, pl, hz⟩ := I.list hq
  obtain ⟨w, ew, rw'⟩ := r.get he
  have hl := r.length
  have hn := line63
  have hi : i < its.length := by
    by_cases c : i < its.length
    · exact c
    · rw [List.getElem?_eq_none (by omega)] at ew; cases ew
  exact wpAny_getItem_list pl.isList (by omega) (by omega) (by simpa using ew) ⟨z, H, I, rw', q⟩
/-! ### rows of rules, longer and shorter -/
namespace RF
/-- something of all rules -/
def every (p : Nd → Prop) : RF → Prop
  | .nil => True
  | .cons nm hs fs rl exc rest => p ⟨nm, hs, fs, rl, exc⟩ ∧ exc.every p ∧ rest.every p
theorem every_nodes {p : Nd → Prop} : ∀ {f : RF}, f.every p ↔ ∀ n ∈ f.nodes, p n ∧ n.exc.every p
  | .nil => ⟨(fun _ _ h => nomatch h), fun _ => trivial⟩
  | .cons nm hs fs rl exc rest => by
    constructor
    · rintro ⟨h1, h2, h3⟩ n hn
      rcases List.mem_cons.mp hn with rfl | hn
      · exact ⟨h1, h2⟩
      · exact every_nodes.mp h3 n hn
    · intro h
      exact ⟨(h _ List.mem_cons_self).1, (h _ List.mem_cons_self).2, every_nodes.mpr fun n hn => h n (List.mem_cons_of_mem _ hn)⟩
theorem every_pre {p : Nd → Prop} : ∀ {f : RF} {k : Nat}, f.every p → ∀ q ∈ f.pre k, p q.1
  | .nil, k, _, q, h => nomatch h
  | .cons nm hs fs rl exc rest, k, h, q, hq => by
    rcases List.mem_cons.mp hq with rfl | hq
    · exact h.1
    rcases List.mem_append.mp hq with hq | hq
    · exact every_pre h.2.1 q hq
    · exact every_pre h.2.2 q hq
theorem every_mono {p r : Nd → Prop} (g : ∀ n, p n → r n) : ∀ {f : RF}, f.every p → f.every r
  | .nil, _ => trivial
  | .cons nm hs fs rl exc rest, h => ⟨g _ h.1, every_mono g h.2.1, every_mono g h.2.2⟩
def snoc : RF → Nd → RF
  | .nil, n => .cons n.nm n.hs n.fs n.rl n.exc .nil
  | .cons nm hs fs rl exc rest, n => .cons nm hs fs rl exc (rest.snoc n)
theorem snoc_nodes : ∀ (f : RF) (n : Nd), (f.snoc n).nodes = f.nodes ++ [n]
  | .nil, n => rfl
  | .cons nm hs fs rl exc rest, n => by show _ :: (rest.snoc n).nodes = _; rw [snoc_nodes rest n]; rfl
theorem snoc_size : ∀ (f : RF) (n : Nd), (f.snoc n).size = f.size + (n.exc.size + 1)
  | .nil, n => by show n.exc.size + 1 + 0 = 0 + _; omega
  | .cons nm hs fs rl exc rest, n => by show exc.size + 1 + (rest.snoc n).size = exc.size + 1 + rest.size + _; rw [snoc_size rest n]; omega
theorem snoc_dep : ∀ (f : RF) (n : Nd), (f.snoc n).dep = max f.dep (n.exc.dep + 1)
  | .nil, n => by show max (n.exc.dep + 1) 0 = max 0 _; omega
  | .cons nm hs fs rl exc rest, n => by show max (exc.dep + 1) (rest.snoc n).dep = max (max (exc.dep + 1) rest.dep) _; rw [snoc_dep rest n]; omega
theorem snoc_pre : ∀ (f : RF) (n : Nd) (k : Nat), (f.snoc n).pre k = f.pre k ++ ((n, k) :: n.exc.pre (k + 1))
  | .nil, n, k => by show (_, k) :: (n.exc.pre (k + 1) ++ []) = [] ++ _; rw [List.append_nil]; rfl
  | .cons nm hs fs rl exc rest, n, k => by show (_, k) :: (exc.pre (k + 1) ++ (rest.snoc n).pre k) = (_, k) :: (exc.pre (k + 1) ++ rest.pre k) ++ _; rw [snoc_pre rest n k]; simp
theorem snoc_names (f : RF) (n : Nd) : (f.snoc n).names = f.names ++ n.nm :: n.exc.names := by
  rw [← pre_names (f.snoc n) 0, snoc_pre, List.map_append, pre_names, List.map_cons, pre_names]
theorem snoc_every {p : Nd → Prop} {f : RF} {n : Nd} (h : f.every p) (h1 : p n) (h2 : n.exc.every p) : (f.snoc n).every p := every_nodes.mpr fun m hm => by
  rw [snoc_nodes] at hm
  rcases List.mem_append.mp hm with hm | hm
  · exact every_nodes.mp h m hm
  · rw [List.mem_singleton.mp hm]
    exact ⟨h1, h2⟩
end RF
theorem rows_snoc {K : PySem.W.Frag} {H : Hp} {f : RF} {vs : List V} {v : V} {n : Nd} (h : RowsAt K H f vs) (r : RowAt K H v n) : RowsAt K H (f.snoc n) (vs ++ [v]) := RowsAt.of (by rw [RF.snoc_nodes]; exact h.all.snoc r)
/-! ### all but the draws' state and a counter stands -/
structure Kc (a l c : Addr) (H H' : Hp) : Prop where
  old : RS H a l
  new : RS H' a l
  keep : ∀ b o, b ≠ a → b ≠ l → b ≠ c → H b = some o → H' b = some o
abbrev NoL : Addr → Prop := fun _ => False
section
variable {K : PySem.W.Frag} {a l c : Addr} {H H' H'' : Hp}
theorem Kp.kc (k : Kp a l H H') : Kc a l c H H' := ⟨k.old, k.new, fun b o n1 n2 _ e => k.keep b o n1 n2 e⟩
theorem Kc.trans (k : Kc a l c H H') (k' : Kc a l c H' H'') : Kc a l c H H'' := ⟨k.old, k'.new, fun b o n1 n2 n3 e => k'.keep b o n1 n2 n3 (k.keep b o n1 n2 n3 e)⟩
theorem Kc.of (r : RS H a l) (s : Same H H') : Kc a l c H H' := ⟨r, r.same s, fun b o _ _ _ e => s b o e⟩
theorem Kc.same (k : Kc a l c H H') (s : Same H' H'') : Kc a l c H H'' := k.trans (.of k.new s)
theorem Kc.put0 {p : Addr} {o : HO} (k : Kc a l c H H') (n : H p = none) : Kc a l c H (upd H' p o) := by
  obtain ⟨n1, n2⟩ := k.old.no n
  obtain ⟨st, x, ns, h1, h2, q⟩ := k.new
  exact ⟨k.old, ⟨st, x, ns, by rw [upd_ne n1.symm]; exact h1, by rw [upd_ne n2.symm]; exact h2, q⟩, fun b o m1 m2 m3 e => by rw [upd_ne (ne_of_none e n)]; exact k.keep b o m1 m2 m3 e⟩
/-- the counter changes -/
theorem Kc.count {o : HO} (k : Kc a l c H H') (n1 : c ≠ a) (n2 : c ≠ l) : Kc a l c H (upd H' c o) := by
  obtain ⟨st, x, ns, h1, h2, q⟩ := k.new
  exact ⟨k.old, ⟨st, x, ns, by rw [upd_ne n1.symm]; exact h1, by rw [upd_ne n2.symm]; exact h2, q⟩, fun b o m1 m2 m3 e => by rw [upd_ne m3]; exact k.keep b o m1 m2 m3 e⟩
theorem Kc.keeps {xs : List V} (k : Kc a l c H H') (e : H c = some (.lst xs)) : Keeps NoL H H' := fun b o st h => by
  obtain ⟨sd, x, ns, h1, h2, q⟩ := k.old
  have nl : ∀ zs, o ≠ .lst zs := fun zs z => st.1 zs z
  exact k.keep b o (fun z => by rw [z, h1] at h; exact nl _ (Option.some.inj h).symm) (fun z => by rw [z, h2] at h; exact nl _ (Option.some.inj h).symm) (fun z => by rw [z, e] at h; exact nl _ (Option.some.inj h).symm) h
theorem Kp.keepsN (k : Kp a l H H') : Keeps NoL H H' := k.keeps id id
theorem Kc.free {b : Addr} {xs : List V} (k : Kc a l c H H') (ec : H' c = some (.lst xs)) (e : H' b = none) : H b = none := by
  cases q : H b with
  | none => rfl
  | some o =>
    obtain ⟨n1, n2⟩ := k.new.no e
    rw [k.keep b o n1 n2 (fun z => by rw [z, ec] at e; cases e) q] at e
    cases e
end
/-! ### drawn rules -/
def fourR : List Str := ["pay", "warn", "free", "none"]
/-- the name of the i-th drawn rule -/
def rn (i : Nat) : Str := Str.ofString "r" ++ (⟨#[letters.cps.toList.getD i 0]⟩ : Str)
def rnames (c n : Nat) : List Str := (List.range' c n).map rn
theorem rnames_app {c n m : Nat} : rnames c n ++ rnames (c + n) m = rnames c (n + m) := by
  unfold rnames
  rw [← List.map_append, List.range'_append_1]
theorem rnames_one {c m : Nat} : rn c :: rnames (c + 1) m = rnames c (m + 1) := rfl
theorem rn_name : ∀ i, i < 24 → isName (rn i) = true := by decide +kernel
theorem four_name : ∀ x ∈ fourR, isName x = true := by decide +kernel
end Sc
namespace Sc
open PySem PySem.Spec PyProof.Rows L2
/-! ### slices of tuples -/
section
variable {K : PySem.W.Frag} {H : Hp}
theorem sl_any {b : Addr} {vs : List V} {lo hi : Option Int} {Q : VK} (hS : SqT K H b vs) (q : ∀ p H', Same H H' → SqT K H' p (cutV vs lo hi) → Q (.ref p) H') : rSlA K (.ref b) lo hi H Q :=
  ⟨b, vs, rfl, hS, fun c => q b H (Same.refl H) (by
    have e : cutV vs lo hi = vs := by
      unfold cutV
      rw [c.1, c.2, List.drop_zero, Nat.sub_zero, List.take_length]
    rw [e]
    exact hS), fun _ p np => q p _ ((Same.refl H).put np) sqT_new⟩
theorem cat_any {b c : Addr} {xs ys : List V} {Q : VK} (hA : SqT K H b xs) (hB : SqT K H c ys) (hl : xs.length + ys.length ≤ sizeLine) (q : ∀ p H', Same H H' → SqT K H' p (xs ++ ys) → Q (.ref p) H') : rCatA K (.ref b) (.ref c) H Q :=
  ⟨b, c, xs, ys, rfl, rfl, hA, hB, hl, fun e => q c H (Same.refl H) (by rw [e]; exact hB), fun _ e => q b H (Same.refl H) (by rw [e, List.append_nil]; exact hA), fun _ _ p np => q p _ ((Same.refl H).put np) sqT_new⟩
theorem sIx_nat (n d k : Nat) : HT.sIx n d (some (k : Int)) = min k n := by
  unfold HT.sIx
  first
    | (simp; done)
    | (simp; omega)
    | (split <;> omega)
theorem cut_to (vs : List V) (m : Nat) : cutV vs none (some (m : Int)) = vs.take m := by
  unfold cutV
  rw [sIx_nat]
  show (vs.drop 0).take (min m vs.length - 0) = _
  rw [List.drop_zero, Nat.sub_zero]
  by_cases h : m ≤ vs.length
  · rw [Nat.min_eq_left h]
  · rw [Nat.min_eq_right (by omega), List.take_length, List.take_of_length_le (by omega)]
theorem cut_from (vs : List V) (k : Nat) : cutV vs (some (k : Int)) none = vs.drop k := by
  unfold cutV
  rw [sIx_nat]
  show (vs.drop (min k vs.length)).take (vs.length - min k vs.length) = _
  by_cases h : k ≤ vs.length
  · rw [Nat.min_eq_left h, List.take_of_length_le (by rw [List.length_drop]; exact Nat.le_refl _)]
  · rw [Nat.min_eq_right (by omega), List.drop_length, List.drop_of_length_le (by omega)]
    exact List.take_nil
theorem cut_part (vs : List V) (k m : Nat) : cutV vs (some (k : Int)) (some (m : Int)) = (vs.drop k).take (m - k) := by
  unfold cutV
  rw [sIx_nat, sIx_nat]
  by_cases h : k ≤ vs.length
  · rw [Nat.min_eq_left h]
    by_cases h2 : m ≤ vs.length
    · rw [Nat.min_eq_left h2]
    · rw [Nat.min_eq_right (by omega), List.take_of_length_le (by rw [List.length_drop]; exact Nat.le_refl _), List.take_of_length_le (by rw [List.length_drop]; omega)]
  · rw [Nat.min_eq_right (show vs.length ≤ k by omega), List.drop_length, List.drop_of_length_le (show vs.length ≤ k by omega), List.take_nil, List.take_nil]
end
end Sc
namespace Sc
open PySem
/-! ### parts of a text -/
def stAt (b : List Stmt) (i : Nat) : Stmt := b.getD i (.Pass ⟨0, 0, 0, 0⟩)
def forB : Stmt → List Stmt
  | .For _ _ b _ _ => b
  | _ => []
def whileB : Stmt → List Stmt
  | .While _ b _ _ => b
  | _ => []
def ifB : Stmt → List Stmt
  | .If _ b _ _ => b
  | _ => []
def ifE : Stmt → List Stmt
  | .If _ _ b _ => b
  | _ => []
end Sc
namespace Sc
open PySem PySem.Spec PyProof.Rows L2
namespace RF
def app (f g : RF) : RF := ofNodes (f.nodes ++ g.nodes)
theorem app_nodes (f g : RF) : (f.app g).nodes = f.nodes ++ g.nodes := nodes_of _
theorem of_size : ∀ ns ms : List Nd, (ofNodes (ns ++ ms)).size = (ofNodes ns).size + (ofNodes ms).size
  | [], ms => by show (ofNodes ms).size = 0 + _; omega
  | n :: r, ms => by
    show n.exc.size + 1 + (ofNodes (r ++ ms)).size = n.exc.size + 1 + (ofNodes r).size + _
    rw [of_size r ms]
    omega
theorem app_size (f g : RF) : (f.app g).size = f.size + g.size := by
  unfold app
  rw [of_size, of_nodes, of_nodes]
theorem app_dep {f g : RF} {d : Nat} (h : f.dep ≤ d) (k : g.dep ≤ d) : (f.app g).dep ≤ d := dep_le _ d fun n hn => by
  rw [app_nodes] at hn
  rcases List.mem_append.mp hn with hn | hn
  · exact Nat.le_trans (dep_mem f n hn) h
  · exact Nat.le_trans (dep_mem g n hn) k
theorem app_every {p : Nd → Prop} {f g : RF} (h : f.every p) (k : g.every p) : (f.app g).every p := every_nodes.mpr fun n hn => by
  rw [app_nodes] at hn
  rcases List.mem_append.mp hn with hn | hn
  · exact every_nodes.mp h n hn
  · exact every_nodes.mp k n hn
/-- the first rules, the others -/
def head (f : RF) (i : Nat) : RF := ofNodes (f.nodes.take i)
def rest (f : RF) (i : Nat) : RF := ofNodes (f.nodes.drop i)
theorem head_nodes (f : RF) (i : Nat) : (f.head i).nodes = f.nodes.take i := nodes_of _
theorem rest_nodes (f : RF) (i : Nat) : (f.rest i).nodes = f.nodes.drop i := nodes_of _
theorem head_rest (f : RF) (i : Nat) : (f.head i).app (f.rest i) = f := by
  unfold app
  rw [head_nodes, rest_nodes, List.take_append_drop, of_nodes]
theorem cut_size (f : RF) (i : Nat) : (f.head i).size + (f.rest i).size = f.size := by rw [← app_size, head_rest]
theorem head_dep (f : RF) (i : Nat) : (f.head i).dep ≤ f.dep := dep_le _ _ fun n hn => dep_mem f n (List.mem_of_mem_take (by rw [head_nodes] at hn; exact hn))
theorem rest_dep (f : RF) (i : Nat) : (f.rest i).dep ≤ f.dep := dep_le _ _ fun n hn => dep_mem f n (List.mem_of_mem_drop (by rw [rest_nodes] at hn; exact hn))
theorem head_every {p : Nd → Prop} {f : RF} (h : f.every p) (i : Nat) : (f.head i).every p := every_nodes.mpr fun n hn => every_nodes.mp h n (List.mem_of_mem_take (by rw [head_nodes] at hn; exact hn))
theorem rest_every {p : Nd → Prop} {f : RF} (h : f.every p) (i : Nat) : (f.rest i).every p := every_nodes.mpr fun n hn => every_nodes.mp h n (List.mem_of_mem_drop (by rw [rest_nodes] at hn; exact hn))
/-- a row of one rule -/
def only (n : Nd) : RF := .cons n.nm n.hs n.fs n.rl n.exc .nil
theorem only_size (n : Nd) : (only n).size = n.exc.size + 1 := rfl
theorem only_dep (n : Nd) : (only n).dep = n.exc.dep + 1 := Nat.max_zero _
theorem only_every {p : Nd → Prop} {n : Nd} (h : p n) (k : n.exc.every p) : (only n).every p := ⟨h, k, trivial⟩
end RF
namespace All2
variable {α β : Type} {R : α → β → Prop}
theorem take {as : List α} {bs : List β} (h : All2 R as bs) : ∀ i, All2 R (as.take i) (bs.take i) := by
  induction h with
  | nil => intro i; rw [List.take_nil, List.take_nil]; exact .nil
  | cons h _ ih =>
    intro i
    cases i with
    | zero => exact .nil
    | succ i => exact .cons h (ih i)
theorem drop {as : List α} {bs : List β} (h : All2 R as bs) : ∀ i, All2 R (as.drop i) (bs.drop i) := by
  induction h with
  | nil => intro i; rw [List.drop_nil, List.drop_nil]; exact .nil
  | cons h t ih =>
    intro i
    cases i with
    | zero => exact .cons h t
    | succ i => exact ih i
end All2
section
variable {K : PySem.W.Frag} {H : Hp} {f g : RF} {vs us : List V} {v : V} {n : Nd}
theorem rows_app (h : RowsAt K H f vs) (k : RowsAt K H g us) : RowsAt K H (f.app g) (vs ++ us) := RowsAt.of (by rw [RF.app_nodes]; exact h.all.app k.all)
theorem rows_head (h : RowsAt K H f vs) (i : Nat) : RowsAt K H (f.head i) (vs.take i) := RowsAt.of (by rw [RF.head_nodes]; exact h.all.take i)
theorem rows_rest (h : RowsAt K H f vs) (i : Nat) : RowsAt K H (f.rest i) (vs.drop i) := RowsAt.of (by rw [RF.rest_nodes]; exact h.all.drop i)
theorem rows_only (h : RowAt K H v n) : RowsAt K H (.only n) [v] := RowsAt.of (.one h)
theorem cut_last (vs : List V) : cutV vs (some (-1)) none = vs.drop (vs.length - 1) := by
  unfold cutV
  have e1 : HT.sIx vs.length 0 (some (-1)) = vs.length - 1 := by
    unfold HT.sIx
    dsimp only
    rw [if_pos (by decide)]
    omega
  have e2 : HT.sIx vs.length vs.length none = vs.length := rfl
  rw [e1, e2, List.take_of_length_le]
  rw [List.length_drop]
  exact Nat.le_refl _
end
end Sc
namespace Sc
open PySem PySem.Spec PyProof.Rows L2
/-! ### rules -/
/-- a getter as its users see it -/
abbrev PropX (P : Program) (w : World) (K : PySem.W.Frag) (mg : Str → Option Value) (base : Heap) (C : Addr) (n f : Str) : Prop := ∃ p g fd, PropC P w K mg base C p g fd n f
/-- the class Rule as its users see it -/
structure RuleX (P : Program) (w : World) (K : PySem.W.Frag) (mg : Str → Option Value) (base : Heap) (R : Addr) : Prop where
  cls : Cls K R
  name : PropX P w K mg base R "name" "_name"
  condition : PropX P w K mg base R "condition" "_condition"
  ruling : PropX P w K mg base R "ruling" "_ruling"
  exceptions : PropX P w K mg base R "exceptions" "_exceptions"
  depth : PropX P w K mg base R "depth" "_depth"
/-- the getters of a condition -/
structure CondG (P : Program) (w : World) (K : PySem.W.Frag) (mg : Str → Option Value) (base : Heap) (C : Addr) : Prop where
  cls : Cls K C
  holding : PropX P w K mg base C "holding" "_holding"
  failing : PropX P w K mg base C "failing" "_failing"
  names : PropX P w K mg base C "names" "_names"
def Below (S : Nat → Sp) : Nat → Sp
  | 0 => fun _ _ _ _ => False
  | d + 1 => S d
abbrev s_nested : Stmt := topS 31
theorem sc_nested : FnScope ["rules", "around", "found", "rule"] ["rules", "around"] (defScope s_nested) := ⟨rfl, rfl, rfl, by decide +kernel, rfl, by decide +kernel, by decide +kernel⟩
section
variable {P : Program} {w : World} {K : PySem.W.Frag} {mg : Str → Option Value} {base : Heap} {C R : Addr}
theorem FnOk.never {CX : CXT} {k : Nat} {f : Addr} {fd : FuncData} {ps : List Str} : FnOk P w K mg base CX k f fd ps (fun _ _ _ _ => False) := ⟨fun _ _ _ _ h => h.elim, fun _ _ _ _ _ _ _ _ _ _ _ _ _ h => h.elim⟩
def sp_nested (K : PySem.W.Frag) (C R : Addr) (d : Nat) : Sp := fun vs H Q _ => ∃ (N : Addr → Prop) (p : Addr) (k : Nat) (ws : List V) (f : RF), vs = [.ref p, .int (k : Nat)] ∧ SqT K H p ws ∧ ForAt K C R N H f ws ∧ f.dep ≤ d ∧ f.size ≤ 900 ∧
  ∀ H' D us, Same H H' → H D = none → H' D = some (.lst us) → PreAt K C R N H' us (f.pre k) → Q (.ref D) H'
theorem ok_nested {d : Nat} {f : Addr} {fd : FuncData} (F : Fun K "nested" "nested" s_nested f fd) (kR : RuleX P w K mg base R) (c_nested : Cal P w K mg base CX0 (d + 2) "nested" ["rules", "around"] (Below (sp_nested K C R) d)) :
    FnOk P w K mg base CX0 (d + 3) f fd ["rules", "around"] (sp_nested K C R d) := by
  refine F.ok sc_nested (fun vs H Q E h => by obtain ⟨N, p, k, ws, f, rfl, _⟩ := h; rfl) (fun cdv A outer s H vs Q E hr h => ?_)
  obtain ⟨N, p, k, ws, f, rfl, hP, hF, hd, hz, q⟩ := h
  have hA := hF.used.all
  have hln := hA.len
  have hlz := RF.nodes_le f
  refine ⟨_, (pss_cons (ps_set (i := 2) sc_nested.nd rfl (Or.inl rfl) (pe_lst pa_nil))
      (pss_cons (ps_for PassesOwn.never rfl (pi_tup (pv 0)) (pg_name (i := 3) sc_nested.nd rfl (Or.inl rfl)) (pss_cons (ps_expr (pe_bm PySem.F.plainAttrs_list PySem.F.slot_list_append PySem.F.type_list_append mt_append (pv 2) (pa_cons (pe_tup (pa_cons (pv 3) (pa_cons (pv 1) pa_nil))) pa_nil)))
      (pss_one (ps_expr (pe_bm PySem.F.plainAttrs_list PySem.F.slot_list_extend PySem.F.type_list_extend mt_extend (pv 2) (pa_cons (pe_cal c_nested hr (pa_cons (pe_cprop kR.exceptions kR.cls (hr.mono (by omega)) (pv 3)) (pa_cons (pe_op op_add (pv 1) pe_int) pa_nil))) pa_nil))))))
      (pss_one (ps_ret (pv 2))))), ?_⟩
  refine ⟨Nat.zero_le _, fun D nD => ⟨_, rfl, p, rfl, ⟨_, ((Same.refl H).put nD).tup hP⟩, for_it walk_tup (fun i σ H' => ∃ us y, σ = [some (.ref p), some (.int (k : Nat)), some (.ref D), y] ∧ Same H H' ∧ H' D = some (.lst us) ∧ PreAt K C R (Used N H) H' us (RF.preL (f.nodes.take i) k))
    ⟨[], none, rfl, (Same.refl H).put nD, upd_same, .nil⟩ (fun _ _ _ _ ⟨_, _, _, s, _⟩ => s.tup hP) ?_ ?_⟩⟩
  · rintro i y σ H3 H2 hi ⟨us, y', rfl, s, e, hu⟩ ⟨rfl, hy⟩
    have nU := used_not (N := N) nD
    obtain ⟨n, hn, o, rfl, hN⟩ := hA.get hy
    have hmem : n ∈ f.nodes := List.mem_of_getElem? hn
    have hdm := RF.dep_mem f n hmem
    have hsm := RF.size_mem f n hmem
    obtain ⟨d, rfl⟩ : ∃ d', d = d' + 1 := ⟨d - 1, by omega⟩
    have hul := hu.len
    have hpl := RF.preL_len (f := f) (i := i) (k := k)
    have hpl2 := RF.preL_len (f := f) (i := i + 1) (k := k)
    rw [RF.preL_more hn, List.length_append, List.length_cons, RF.pre_len] at hpl2
    refine ⟨_, rfl, .inl ⟨rfl, _, sqL_of e⟩, _, rfl, _, rfl, (by show 2 ≤ sizeLine; decide), fun t nt => ?_⟩
    have s3 := s.put' (o := .tup [.ref o, .int (k : Nat)]) nt
    have e3 : (upd H2 t (.tup [.ref o, .int (k : Nat)])) D = some (.lst us) := by rw [upd_ne (ne_of_none e nt)]; exact e
    have t3 : (upd H2 t (.tup [.ref o, .int (k : Nat)])) t = some (.tup [.ref o, .int (k : Nat)]) := upd_same
    have s23 : Same H2 (upd H2 t (.tup [.ref o, .int (k : Nat)])) := (Same.refl H2).put nt
    have hu3 := hu.keeps s23.keeps
    clear s23
    generalize upd H2 t (.tup [.ref o, .int (k : Nat)]) = H3 at s3 e3 t3 hu3 ⊢
    refine ⟨D, _, _, rfl, rfl, e3, small1000 (by omega), ?_⟩
    have s4 : Same H (upd H3 D (.lst (us ++ [.ref t]))) := s3.put nD
    have e4 : (upd H3 D (.lst (us ++ [.ref t]))) D = some (.lst (us ++ [.ref t])) := upd_same
    have tD : t ≠ D := fun z => by rw [z, e3] at t3; cases t3
    have hu4 : PreAt K C R (Used N H) (upd H3 D (.lst (us ++ [.ref t]))) (us ++ [.ref t]) (RF.preL (f.nodes.take i) k ++ [(n, k)]) :=
      (hu3.keeps (keeps_own e3 nU)).snoc ⟨t, o, rfl, by rw [upd_ne tD]; exact t3, hN.keeps s4.keeps⟩
    generalize upd H3 D (.lst (us ++ [.ref t])) = H4 at s4 e4 hu4 ⊢
    obtain ⟨dx, c, pe, l, ws', ho, hc, hpe, hl, hfe⟩ := hN
    refine ⟨_, rfl, .inl ⟨rfl, _, sqL_of e4⟩, _, rfl, o, dx, _, rfl, s4 _ _ ho, ⟨o, dx, _, _, rfl, s4 _ _ ho, rfl, ?_⟩⟩
    refine ⟨_, rfl, k, 1, rfl, rfl, ?_⟩
    refine ⟨_, pe, k + 1, ws', n.exc, rfl, s4.tup hpe, hfe.keeps s4.keeps, by omega, by omega, fun H5 D5 us5 s5 n5 e5 hu5 => ?_⟩
    have s45 := s4.trans s5
    have e45 := s5 _ _ e4
    refine ⟨D, D5, _, _, rfl, rfl, e45, e5, ?_, ?_⟩
    · have := hu5.len
      rw [RF.pre_len] at this
      have h4 := hu4.len
      rw [List.length_append (bs := [(n, k)]), List.length_singleton] at h4
      exact Nat.le_of_lt (small1000 (by omega))
    refine ⟨_, _, rfl, s45.put nD, upd_same, ?_⟩
    rw [RF.preL_more hn]
    have h1 := (hu4.keeps s5.keeps).app hu5
    have h2 := PreAt.keeps h1 (keeps_own (o := .lst (us ++ [.ref t] ++ us5)) e45 nU)
    rw [show RF.preL (f.nodes.take i) k ++ [(n, k)] ++ n.exc.pre (k + 1) = RF.preL (f.nodes.take i) k ++ ((n, k) :: n.exc.pre (k + 1)) by simp] at h2
    exact h2
  · rintro σ H2 ⟨us, y, rfl, s, e, hu⟩
    rw [hln, RF.preL_all] at hu
    exact ⟨_, rfl, q H2 D us s nD e (hu.mono fun _ _ x => x.re fun b xs h _ => h.1)⟩
end
end Sc
namespace Sc
open PySem PySem.Spec PyProof.Rows L2
/-! ### an object Rule -/
abbrev s_Rule___init__ : Stmt := (inClass (topS 29) 0)
theorem sc_Rule___init__ : FnScope ["self", "name", "condition", "ruling", "exceptions", "rule", "_"] ["self", "name", "condition", "ruling", "exceptions"] (defScope s_Rule___init__) := ⟨rfl, rfl, rfl, by decide +kernel, rfl, by decide +kernel, by decide +kernel⟩
abbrev s_Rule_name : Stmt := (inClass (topS 29) 1)
theorem sc_Rule_name : FnScope ["self"] ["self"] (defScope s_Rule_name) := ⟨rfl, rfl, rfl, by decide +kernel, rfl, by decide +kernel, by decide +kernel⟩
abbrev s_Rule_condition : Stmt := (inClass (topS 29) 2)
theorem sc_Rule_condition : FnScope ["self"] ["self"] (defScope s_Rule_condition) := ⟨rfl, rfl, rfl, by decide +kernel, rfl, by decide +kernel, by decide +kernel⟩
abbrev s_Rule_ruling : Stmt := (inClass (topS 29) 3)
theorem sc_Rule_ruling : FnScope ["self"] ["self"] (defScope s_Rule_ruling) := ⟨rfl, rfl, rfl, by decide +kernel, rfl, by decide +kernel, by decide +kernel⟩
abbrev s_Rule_exceptions : Stmt := (inClass (topS 29) 4)
theorem sc_Rule_exceptions : FnScope ["self"] ["self"] (defScope s_Rule_exceptions) := ⟨rfl, rfl, rfl, by decide +kernel, rfl, by decide +kernel, by decide +kernel⟩
abbrev s_Rule_depth : Stmt := (inClass (topS 29) 5)
theorem sc_Rule_depth : FnScope ["self"] ["self"] (defScope s_Rule_depth) := ⟨rfl, rfl, rfl, by decide +kernel, rfl, by decide +kernel, by decide +kernel⟩
section
variable {P : Program} {w : World} {K : PySem.W.Frag} {mg : Str → Option Value} {base : Heap} {C R CR : Addr}
theorem ok_Rule_name {f : Addr} {fd : FuncData} (F : Fun K "name" "Rule.name" s_Rule_name f fd) (T : Cls K R) (n : NoAttr K R "_name") : FnOk P w K mg base CX0 1 f fd ["self"] (sp_prop R "_name") := by
  refine F.ok sc_Rule_name (fun vs H Q E h => by obtain ⟨x, dx, fs, v, rfl, _⟩ := h; rfl) (fun cdv A outer s H vs Q E hr h => ?_)
  obtain ⟨x, dx, fs, v, rfl, hx, hl, q⟩ := h
  exact ⟨_, (pss_one (ps_ret (pe_fld (pv 0) rfl))), ⟨_, rfl, x, R, dx, fs, v, rfl, hx, T, n, hl, q⟩⟩
theorem ok_Rule_condition {f : Addr} {fd : FuncData} (F : Fun K "condition" "Rule.condition" s_Rule_condition f fd) (T : Cls K R) (n : NoAttr K R "_condition") : FnOk P w K mg base CX0 1 f fd ["self"] (sp_prop R "_condition") := by
  refine F.ok sc_Rule_condition (fun vs H Q E h => by obtain ⟨x, dx, fs, v, rfl, _⟩ := h; rfl) (fun cdv A outer s H vs Q E hr h => ?_)
  obtain ⟨x, dx, fs, v, rfl, hx, hl, q⟩ := h
  exact ⟨_, (pss_one (ps_ret (pe_fld (pv 0) rfl))), ⟨_, rfl, x, R, dx, fs, v, rfl, hx, T, n, hl, q⟩⟩
theorem ok_Rule_ruling {f : Addr} {fd : FuncData} (F : Fun K "ruling" "Rule.ruling" s_Rule_ruling f fd) (T : Cls K R) (n : NoAttr K R "_ruling") : FnOk P w K mg base CX0 1 f fd ["self"] (sp_prop R "_ruling") := by
  refine F.ok sc_Rule_ruling (fun vs H Q E h => by obtain ⟨x, dx, fs, v, rfl, _⟩ := h; rfl) (fun cdv A outer s H vs Q E hr h => ?_)
  obtain ⟨x, dx, fs, v, rfl, hx, hl, q⟩ := h
  exact ⟨_, (pss_one (ps_ret (pe_fld (pv 0) rfl))), ⟨_, rfl, x, R, dx, fs, v, rfl, hx, T, n, hl, q⟩⟩
theorem ok_Rule_exceptions {f : Addr} {fd : FuncData} (F : Fun K "exceptions" "Rule.exceptions" s_Rule_exceptions f fd) (T : Cls K R) (n : NoAttr K R "_exceptions") : FnOk P w K mg base CX0 1 f fd ["self"] (sp_prop R "_exceptions") := by
  refine F.ok sc_Rule_exceptions (fun vs H Q E h => by obtain ⟨x, dx, fs, v, rfl, _⟩ := h; rfl) (fun cdv A outer s H vs Q E hr h => ?_)
  obtain ⟨x, dx, fs, v, rfl, hx, hl, q⟩ := h
  exact ⟨_, (pss_one (ps_ret (pe_fld (pv 0) rfl))), ⟨_, rfl, x, R, dx, fs, v, rfl, hx, T, n, hl, q⟩⟩
theorem ok_Rule_depth {f : Addr} {fd : FuncData} (F : Fun K "depth" "Rule.depth" s_Rule_depth f fd) (T : Cls K R) (n : NoAttr K R "_depth") : FnOk P w K mg base CX0 1 f fd ["self"] (sp_prop R "_depth") := by
  refine F.ok sc_Rule_depth (fun vs H Q E h => by obtain ⟨x, dx, fs, v, rfl, _⟩ := h; rfl) (fun cdv A outer s H vs Q E hr h => ?_)
  obtain ⟨x, dx, fs, v, rfl, hx, hl, q⟩ := h
  exact ⟨_, (pss_one (ps_ret (pe_fld (pv 0) rfl))), ⟨_, rfl, x, R, dx, fs, v, rfl, hx, T, n, hl, q⟩⟩
theorem putF_le {f : Str} {v : V} {fs : List (Str × V)} {n : Nat} (h : fs.length ≤ n) : (putF f v fs).length ≤ n + 1 := Nat.le_trans (putF_len f v fs) (Nat.succ_le_succ h)
theorem SameX.refl {x : Addr} {H : Hp} : SameX x H H := fun _ _ _ e => e
theorem SameX.put {x : Addr} {H H' : Hp} {o : HO} (s : SameX x H H') : SameX x H (upd H' x o) := fun b o' ne e => by rw [upd_ne ne]; exact s b o' ne e
theorem SameX.same {x : Addr} {H H' H'' : Hp} (s : SameX x H H') (k : Same H' H'') : SameX x H H'' := fun b o ne e => k _ _ (s b o ne e)
theorem SameX.of {x : Addr} {H H' : Hp} (k : Same H H') : SameX x H H' := fun b o _ e => k _ _ e
theorem SameX.free {x l : Addr} {H H' : Hp} (s : SameX x H H') (ne : l ≠ x) (n : H' l = none) : H l = none := by
  cases e : H l with
  | none => rfl
  | some o => rw [s l o ne e] at n; cases n
theorem dep_is {f : RF} {m : Int} (hm : m ∈ (0 : Int) :: f.nodes.map fun n => ((n.exc.dep + 1 : Nat) : Int)) (hle : ∀ y, y ∈ ((0 : Int) :: f.nodes.map fun n => ((n.exc.dep + 1 : Nat) : Int)) → y ≤ m) : m = (f.dep : Nat) := by
  have h0 := hle 0 List.mem_cons_self
  obtain ⟨k, rfl⟩ := Int.eq_ofNat_of_zero_le h0
  have h1 : f.dep ≤ k := RF.dep_le f k fun n hn => by
    have := hle _ (List.mem_cons_of_mem _ (List.mem_map.mpr ⟨n, hn, rfl⟩))
    omega
  have h2 : k ≤ f.dep := by
    rcases List.mem_cons.mp hm with h | h
    · omega
    · obtain ⟨n, hn, e⟩ := List.mem_map.mp h
      have := RF.dep_mem f n hn
      omega
  omega
def errPt (C : Addr) (w : Str) (H : Hp) (E : XK) : Prop := ∀ H' d, Same H H' → H' d = none → E (.ref C) (some d) (upd H' d (.xd [(("part" : Str), .str w)]))
def sp_rule_init (K : PySem.W.Frag) (C R CR : Addr) : Sp := fun vs H Q E => ∃ (N : Addr → Prop) (x dx c p : Addr) (nm rl : Str) (ws : List V) (exc : RF), vs = [.ref x, .str nm, .ref c, .str rl, .ref p] ∧ H x = some (.ins R dx []) ∧ SqT K H p ws ∧ ForAt K C R N H exc ws ∧ nm.length ≤ 1000 ∧ rl.length ≤ 1000 ∧ exc.dep ≤ 12 ∧ exc.size ≤ 900 ∧
  (isName nm = false → errPt CR "name" H E) ∧ (isName nm = true → (isName rl = false → errPt CR "ruling" H E) ∧ (isName rl = true →
    ∀ H' l, SameX x H H' → H' x = some (.ins R dx (ruleF nm c rl p ((exc.dep + 1 : Nat) : Int) l)) → l ≠ x → H l = none → H' l = some (.lst ((nm :: exc.names).map V.str)) → Q .non H'))
theorem ok_rule_init {f : Addr} {fd : FuncData} (F : Fun K "__init__" "Rule.__init__" s_Rule___init__ f fd) (B : Blt mg) (T : Cls K R) (n1 : NoAttr K R "_name") (n2 : NoAttr K R "_condition") (n3 : NoAttr K R "_ruling") (n4 : NoAttr K R "_exceptions") (n5 : NoAttr K R "_depth") (n6 : NoAttr K R "_inside")
    (kR : RuleX P w K mg base R) (e_InvalidRule : ErrMk P w K mg base "InvalidRule" CR ["self", "part"] (sp_init1 CR "part")) (c_is_name : Cal P w K mg base CX0 1 "is_name" ["value"] sp_is_name) (c_nested : Cal P w K mg base CX0 15 "nested" ["rules", "around"] (sp_nested K C R 12)) :
    FnOk P w K mg base (L2.CX P w) 16 f fd ["self", "name", "condition", "ruling", "exceptions"] (sp_rule_init K C R CR) := by
  refine F.okX sc_Rule___init__ (fun vs H Q E h => by obtain ⟨N, x, dx, c, p, nm, rl, ws, exc, rfl, _⟩ := h; rfl) (fun cdv A outer s H vs Q E hr h => ?_)
  obtain ⟨N, x, dx, c, p, nm, rl, ws, exc, rfl, hx, hP, hF, ln, lr, hd, hz, e1, q⟩ := h
  refine ⟨_, (pss_cons (ps_if (pt_not (pt_val (pe_cal c_is_name (hr.mono (by decide)) (pa_cons (pv 1) pa_nil)))) (pss_one (ps_raise rfl (takes_of rfl rfl rfl rfl) (pmk_err1 e_InvalidRule (hr.mono (by decide)) pe_str))) pss_nil)
      (pss_cons (ps_if (pt_not (pt_val (pe_cal c_is_name (hr.mono (by decide)) (pa_cons (pv 3) pa_nil)))) (pss_one (ps_raise rfl (takes_of rfl rfl rfl rfl) (pmk_err1 e_InvalidRule (hr.mono (by decide)) pe_str))) pss_nil)
      (pss_cons (ps_fld (pv 0) (pv 1) rfl)
      (pss_cons (ps_fld (pv 0) (pv 2) rfl)
      (pss_cons (ps_fld (pv 0) (pv 3) rfl)
      (pss_cons (ps_fld (pv 0) (pv 4) rfl)
      (pss_cons (ps_fld (pv 0) (pe_op op_add pe_int (pe_callB (cr_max rfl) (by rfl) B.b_max PyProof.Rows.boot_max (pa_cons (pe_op op_cat (pe_lst (pa_cons pe_int pa_nil)) (pe_lc (own := [("rule", 5)]) (g := gName 5) (tt := tYes) rfl sc_Rule___init__.nd (pi_tup (pv 4)) (blkOk_by (own := [("rule", 5)]) (N := ["self", "name", "condition", "ruling", "exceptions", "rule", "_"]) (sc := defScope s_Rule___init__) (by decide +kernel)) (fun _ _ _ _ _ => (pg_name (i := 5) sc_Rule___init__.nd rfl (Or.inl rfl))) (fun _ _ _ _ _ => pts_nil) (fun _ _ _ _ _ => (pe_.re (pe_cprop kR.depth kR.cls (hr.mono (by decide)) (pv 5)) (by first | (dsimp only [Cx.blk]; done) | exact rfl))))) pa_nil))) rfl)
      (pss_one (ps_fld (pv 0) (pe_op op_cat (pe_lst (pa_cons (pv 1) pa_nil)) (pe_lc (own := [("rule", 5), ("_", 6)]) (g := gTup K 2 (gCons (gName 5) (gCons (gName 6) gNil))) (tt := tYes) rfl sc_Rule___init__.nd (pi_list (pe_cal c_nested (hr.mono (by decide)) (pa_cons (pv 4) (pa_cons pe_int pa_nil)))) (blkOk_by (own := [("rule", 5), ("_", 6)]) (N := ["self", "name", "condition", "ruling", "exceptions", "rule", "_"]) (sc := defScope s_Rule___init__) (by decide +kernel)) (fun _ _ _ _ _ => (pg_tup (by rfl) (pgs_cons (pg_name (i := 5) sc_Rule___init__.nd rfl (Or.inl rfl)) (pgs_cons (pg_name (i := 6) sc_Rule___init__.nd rfl (Or.inl rfl)) pgs_nil)))) (fun _ _ _ _ _ => pts_nil) (fun _ _ _ _ _ => (pe_.re (pe_cprop kR.name kR.cls (hr.mono (by decide)) (pv 5)) (by first | (dsimp only [Cx.blk]; done) | exact rfl))))) rfl))))))))), ?_⟩
  have big : ∀ {m : Nat}, m ≤ 1000 → m ≤ sizeLine := fun {m} h => by rw [sizeLine_eq]; omega
  have fkp : ∀ wd : Str, wd.length ≤ 1000 → FOk (.str wd) := fun wd h => Nat.le_trans h (by decide)
  refine ⟨_, rfl, nm, rfl, big ln, fun H1 s1 => ⟨_, rfl, bcase (fun c1 => ?_) (fun c1 => ?_)⟩⟩
  · exact ⟨fkp "name" (by decide), fun d nd => e1 ((Bool.not_eq_true' _).mp c1) H1 d s1 nd⟩
  obtain ⟨e2, q⟩ := q ((Bool.not_eq_false' _).mp c1)
  refine ⟨_, rfl, rl, rfl, big lr, fun H2 s2 => ⟨_, rfl, bcase (fun c2 => ?_) (fun c2 => ?_)⟩⟩
  · exact ⟨fkp "ruling" (by decide), fun d nd => e2 ((Bool.not_eq_true' _).mp c2) H2 d (s1.trans s2) nd⟩
  have q := q ((Bool.not_eq_false' _).mp c2)
  have s12 := s1.trans s2
  have hx2 := s12 _ _ hx
  refine ⟨_, rfl, _, rfl, x, R, dx, _, rfl, hx2, T, n1, by decide, ?_⟩
  refine ⟨_, rfl, _, rfl, x, R, dx, _, rfl, upd_same, T, n2, Nat.lt_of_le_of_lt (putF_le (Nat.zero_le 0)) (by decide), ?_⟩
  refine ⟨_, rfl, _, rfl, x, R, dx, _, rfl, upd_same, T, n3, Nat.lt_of_le_of_lt (putF_le (putF_le (Nat.zero_le 0))) (by decide), ?_⟩
  refine ⟨_, rfl, _, rfl, x, R, dx, _, rfl, upd_same, T, n4, Nat.lt_of_le_of_lt (putF_le (putF_le (putF_le (Nat.zero_le 0)))) (by decide), ?_⟩
  have sx : SameX x H (upd (upd (upd (upd H2 x (.ins R dx (putF "_name" (.str nm) []))) x (.ins R dx (putF "_condition" (.ref c) (putF "_name" (.str nm) [])))) x (.ins R dx (putF "_ruling" (.str rl) (putF "_condition" (.ref c) (putF "_name" (.str nm) []))))) x (.ins R dx (putF "_exceptions" (.ref p) (putF "_ruling" (.str rl) (putF "_condition" (.ref c) (putF "_name" (.str nm) [])))))) := ((((SameX.of s12).put).put).put).put
  have hx6 : (upd (upd (upd (upd H2 x (.ins R dx (putF "_name" (.str nm) []))) x (.ins R dx (putF "_condition" (.ref c) (putF "_name" (.str nm) [])))) x (.ins R dx (putF "_ruling" (.str rl) (putF "_condition" (.ref c) (putF "_name" (.str nm) []))))) x (.ins R dx (putF "_exceptions" (.ref p) (putF "_ruling" (.str rl) (putF "_condition" (.ref c) (putF "_name" (.str nm) [])))))) x = some (.ins R dx (putF "_exceptions" (.ref p) (putF "_ruling" (.str rl) (putF "_condition" (.ref c) (putF "_name" (.str nm) []))))) := upd_same
  generalize upd (upd (upd (upd H2 x (.ins R dx (putF "_name" (.str nm) []))) x (.ins R dx (putF "_condition" (.ref c) (putF "_name" (.str nm) [])))) x (.ins R dx (putF "_ruling" (.str rl) (putF "_condition" (.ref c) (putF "_name" (.str nm) []))))) x (.ins R dx (putF "_exceptions" (.ref p) (putF "_ruling" (.str rl) (putF "_condition" (.ref c) (putF "_name" (.str nm) []))))) = H6 at sx hx6 ⊢
  have k6 : Keeps N H H6 := sx.keeps hx
  have hP6 := k6.tup hP
  have hF6 := hF.keeps k6
  have hA6 := hF6.all
  have hln := hA6.len
  have hlz := RF.nodes_le exc
  refine ⟨(by show 1 ≤ sizeLine; decide), fun l0 nl0 => ?_⟩
  have s0 : Same H6 (upd H6 l0 (.lst [.int 0])) := (Same.refl H6).put nl0
  have el0 : (upd H6 l0 (.lst [.int 0])) l0 = some (.lst [.int 0]) := upd_same
  generalize upd H6 l0 (.lst [.int 0]) = H7 at s0 el0 ⊢
  refine ⟨_, rfl, p, rfl, ⟨_, s0.tup hP6⟩, fun D nD => lc_it walk_tup (fun i H' => Same H7 H' ∧ H' D = some (.lst ((exc.nodes.take i).map fun n => V.int ((n.exc.dep + 1 : Nat) : Int)))) ⟨(Same.refl H7).put nD, upd_same⟩ (fun _ _ _ h => (s0.trans h.1).tup hP6) ?_ ?_⟩
  · rintro i y H8 H9 hi ⟨s, e⟩ ⟨rfl, hy⟩
    obtain ⟨n, hn, o, rfl, hN⟩ := hA6.get hy
    obtain ⟨dx', c', p', l', ws', ho, _⟩ := hN
    have ho := s _ _ (s0 _ _ ho)
    refine ⟨rfl, yes_ ⟨_, rfl, o, dx', _, rfl, ho, o, dx', _, _, rfl, ho, rfl, grow (acc := fun i => (exc.nodes.take i).map fun n => V.int ((n.exc.dep + 1 : Nat) : Int)) nD s e ?_ ?_⟩⟩
    · rw [List.length_map, List.length_take]
      exact small1000 (by omega)
    · show List.map _ _ = _
      rw [take_more hn, List.map_append]
      rfl
  rintro H8 ⟨s8, e8⟩
  rw [hln, List.take_length] at e8
  have el8 := s8 _ _ el0
  refine ⟨l0, D, _, _, rfl, rfl, el8, e8, ?_, fun l2 nl2 => ?_⟩
  · rw [List.length_map]
    exact big (by show 1 + _ ≤ _; omega)
  have s9 : Same H8 (upd H8 l2 (.lst ([V.int 0] ++ exc.nodes.map fun n => V.int ((n.exc.dep + 1 : Nat) : Int)))) := (Same.refl H8).put nl2
  have e9 : (upd H8 l2 (.lst ([V.int 0] ++ exc.nodes.map fun n => V.int ((n.exc.dep + 1 : Nat) : Int)))) l2 = some (.lst ([V.int 0] ++ exc.nodes.map fun n => V.int ((n.exc.dep + 1 : Nat) : Int))) := upd_same
  generalize upd H8 l2 (.lst ([V.int 0] ++ exc.nodes.map fun n => V.int ((n.exc.dep + 1 : Nat) : Int))) = H9 at s9 e9 ⊢
  refine ⟨l2, (0 : Int) :: exc.nodes.map (fun n => ((n.exc.dep + 1 : Nat) : Int)), rfl, sqL_of (by rw [e9, List.map_cons, List.map_map]; rfl), Nat.succ_pos _, fun m hm hle => ?_⟩
  obtain rfl := dep_is hm hle
  have s69 := (s0.trans s8).trans s9
  have hx9 := s69 _ _ hx6
  refine ⟨1, _, rfl, rfl, _, rfl, x, R, dx, _, rfl, hx9, T, n5, Nat.lt_of_le_of_lt (putF_le (putF_le (putF_le (putF_le (Nat.zero_le 0))))) (by decide), ?_⟩
  have sx10 : SameX x H (upd H9 x (.ins R dx (putF "_depth" (.int (1 + (exc.dep : Int))) (putF "_exceptions" (.ref p) (putF "_ruling" (.str rl) (putF "_condition" (.ref c) (putF "_name" (.str nm) []))))))) := (sx.same s69).put
  have hx10 : (upd H9 x (.ins R dx (putF "_depth" (.int (1 + (exc.dep : Int))) (putF "_exceptions" (.ref p) (putF "_ruling" (.str rl) (putF "_condition" (.ref c) (putF "_name" (.str nm) []))))))) x = some (.ins R dx (putF "_depth" (.int (1 + (exc.dep : Int))) (putF "_exceptions" (.ref p) (putF "_ruling" (.str rl) (putF "_condition" (.ref c) (putF "_name" (.str nm) [])))))) := upd_same
  generalize upd H9 x (.ins R dx (putF "_depth" (.int (1 + (exc.dep : Int))) (putF "_exceptions" (.ref p) (putF "_ruling" (.str rl) (putF "_condition" (.ref c) (putF "_name" (.str nm) [])))))) = H10 at sx10 hx10 ⊢
  rw [show 1 + (exc.dep : Int) = ((exc.dep + 1 : Nat) : Int) by omega] at hx10
  have k10 : Keeps N H H10 := sx10.keeps hx
  refine ⟨_, rfl, (by show 1 ≤ sizeLine; decide), fun l1 nl1 => ?_⟩
  have s11 : Same H10 (upd H10 l1 (.lst [.str nm])) := (Same.refl H10).put nl1
  have e11 : (upd H10 l1 (.lst [.str nm])) l1 = some (.lst [.str nm]) := upd_same
  generalize upd H10 l1 (.lst [.str nm]) = H11 at s11 e11 ⊢
  refine ⟨_, rfl, N, p, 1, ws, exc, rfl, s11.tup (k10.tup hP), (hF.keeps k10).keeps s11.keeps, hd, hz, fun H12 D3 us s12' nD3 eD3 hu => ?_⟩
  have hul := hu.len
  rw [RF.pre_len] at hul
  refine ⟨D3, rfl, ⟨_, sqL_of eD3⟩, fun D4 nD4 => lc_it walk_list (fun i H' => Same H12 H' ∧ H' D4 = some (.lst (((exc.pre 1).take i).map fun q => V.str q.1.nm))) ⟨(Same.refl H12).put nD4, upd_same⟩ (fun _ _ _ h => sqL_of (h.1 _ _ eD3)) ?_ ?_⟩
  · rintro i y H13 H14 hi ⟨s, e⟩ ⟨rfl, hy⟩
    obtain ⟨⟨n, k⟩, hq, t, o, rfl, ht, hN⟩ := hu.get hy
    obtain ⟨dx', c', p', l', ws', ho, _⟩ := hN
    have ho := s _ _ ho
    have ht := s _ _ ht
    refine ⟨t, [.ref o, .int (k : Nat)], rfl, sqT_of ht, rfl, _, _, rfl, _, _, rfl, rfl, rfl, yes_ ⟨_, rfl, o, dx', _, rfl, ho, o, dx', _, _, rfl, ho, rfl, grow (acc := fun i => ((exc.pre 1).take i).map fun q => V.str q.1.nm) nD4 s e ?_ ?_⟩⟩
    · rw [List.length_map, List.length_take, RF.pre_len]
      exact small1000 (by omega)
    · show List.map _ _ = _
      rw [take_more hq, List.map_append]
      rfl
  rintro H13 ⟨s13, e13⟩
  rw [hu.len, List.take_length] at e13
  have e13 : H13 D4 = some (.lst (exc.names.map V.str)) := by rw [e13, ← RF.pre_names exc 1, List.map_map]; rfl
  have s1013 := (s11.trans s12').trans s13
  refine ⟨l1, D4, _, _, rfl, rfl, s13 _ _ (s12' _ _ e11), e13, ?_, fun l2' nl2' => ?_⟩
  · rw [List.length_map, ← RF.pre_names exc 1, List.length_map, RF.pre_len]
    exact big (by show 1 + _ ≤ _; omega)
  have s14 : Same H13 (upd H13 l2' (.lst ([V.str nm] ++ exc.names.map V.str))) := (Same.refl H13).put nl2'
  have e14 : (upd H13 l2' (.lst ([V.str nm] ++ exc.names.map V.str))) l2' = some (.lst ((nm :: exc.names).map V.str)) := upd_same
  generalize upd H13 l2' (.lst ([V.str nm] ++ exc.names.map V.str)) = H14 at s14 e14 ⊢
  have s1014 := s1013.trans s14
  have hx14 := s1014 _ _ hx10
  have ne : l2' ≠ x := fun z => by rw [z, hx14] at e14; cases e14
  refine ⟨_, rfl, x, R, dx, _, rfl, hx14, T, n6, Nat.lt_of_le_of_lt (putF_le (putF_le (putF_le (putF_le (putF_le (Nat.zero_le 0)))))) (by decide), ?_⟩
  exact q _ l2' (sx10.same s1014).put upd_same ne (sx10.free ne (s1013.free nl2')) (by rw [upd_ne ne]; exact e14)
end
end Sc
namespace Sc
open PySem PySem.Spec PyProof.Rows L2
abbrev s_check_rules : Stmt := topS 32
theorem sc_check_rules : FnScope ["facts", "rules", "names", "outermost", "index", "rule", "around", "name"] ["facts", "rules"] (defScope s_check_rules) := ⟨rfl, rfl, rfl, by decide +kernel, rfl, by decide +kernel, by decide +kernel⟩
/-- the word for a rule of a book that is wrong: met the names ahead of it, out how many are outermost -/
def faultAt (facts met : List Str) (out i : Nat) (n : Nd) (k : Nat) : Option Str :=
  if n.nm ∈ met then some "name" else if ((srt (n.hs ++ n.fs)).any fun x => !decide (x ∈ facts)) = true then some "condition" else if 5 < k then some "depth" else if i = 60 ∨ 40 < out then some "many" else none
def outNext (out k : Nat) : Nat := if k = 0 then out + 1 else out
def firstFault (facts : List Str) : List (Nd × Nat) → List Str → Nat → Nat → Option (Str × Nat)
  | [], _, _, _ => none
  | (n, k) :: r, met, out, i => match faultAt facts met (outNext out k) i n k with
    | some w => some (w, i)
    | none => firstFault facts r (met ++ [n.nm]) (outNext out k) (i + 1)
/-- the error that tells a word and an index -/
def errWI (C : Addr) (w : Str) (i : Int) (H : Hp) (E : XK) : Prop := ∀ H' d, Same H H' → H' d = none → E (.ref C) (some d) (upd H' d (.xd [(("index" : Str), .int i), (("word" : Str), .str w)]))
/-- parts that are no longer than those of a condition -/
def RF.Fit (f : RF) : Prop := ∀ q ∈ f.pre 0, q.1.hs.length + q.1.fs.length ≤ 100
section
variable {P : Program} {w : World} {K : PySem.W.Frag} {mg : Str → Option Value} {base : Heap} {C R CB : Addr}
theorem set_same' {σ : L2.St} {i : Nat} {v : Option V} (h : σ[i]? = some v) : σ.set i v = σ := by
  apply List.ext_getElem?
  intro j
  rw [List.getElem?_set]
  split
  · rename_i e
    subst e
    split
    · exact h.symm
    · rename_i c
      rw [List.getElem?_eq_none (by omega)] at h
      cases h
  · rfl
/-- if around == 0: outermost = outermost + 1 -/
def tOut (i j : Nat) : TS := fun D σ H => ∃ (out k : Nat), σ[i]? = some (some (.int (out : Nat))) ∧ σ[j]? = some (some (.int (k : Nat))) ∧ D.nx (σ.set i (some (.int (outNext out k : Nat)))) H
def sp_check_rules (K : PySem.W.Frag) (C R CB : Addr) : Sp := fun vs H Q E => ∃ (N : Addr → Prop) (a p : Addr) (xs : List Str) (ws : List V) (f : RF), vs = [.ref a, .ref p] ∧ SqT K H a (xs.map V.str) ∧ SqT K H p ws ∧ ForAt K C R N H f ws ∧ f.dep ≤ 12 ∧ f.size ≤ 900 ∧ f.Fit ∧
  (firstFault xs (f.pre 0) [] 0 0 = none → ∀ H', Same H H' → Q .non H') ∧ (∀ wd i, firstFault xs (f.pre 0) [] 0 0 = some (wd, i) → wd.length ≤ 1000 → errWI CB wd i H E)
theorem drop_at {α : Type} {l : List α} {i : Nat} {x : α} (h : l[i]? = some x) : l.drop i = x :: l.drop (i + 1) := by
  have hi : i < l.length := by
    by_cases c : i < l.length
    · exact c
    · rw [List.getElem?_eq_none (by omega)] at h; cases h
  rw [List.drop_eq_getElem_cons hi]
  rw [List.getElem?_eq_getElem hi] at h
  rw [Option.some.inj h]
theorem ok_check_rules {f : Addr} {fd : FuncData} {t1 t2 t3 : Tok} (F : Fun K "check_rules" "check_rules" s_check_rules f fd) (B : Blt mg) (kR : RuleX P w K mg base R) (kK : CondG P w K mg base C) (m_MOST_AROUND : mg "MOST_AROUND" = some (.int 5 t1)) (m_MOST_RULES : mg "MOST_RULES" = some (.int 60 t2)) (m_MOST_OUTERMOST : mg "MOST_OUTERMOST" = some (.int 40 t3))
    (e_InvalidBook : ErrMk P w K mg base "InvalidBook" CB ["self", "word", "index"] (sp_init2 CB "word" "index")) (c_nested : Cal P w K mg base CX0 15 "nested" ["rules", "around"] (sp_nested K C R 12)) :
    FnOk P w K mg base (L2.CX P w) 16 f fd ["facts", "rules"] (sp_check_rules K C R CB) := by
  refine F.okX sc_check_rules (fun vs H Q E h => by obtain ⟨N, a, p, xs, ws, f, rfl, _⟩ := h; rfl) (fun cdv A outer s H vs Q E hr h => ?_)
  obtain ⟨N, a, p, xs, ws, f, rfl, hA, hP, hF, hd, hz, hfit, q, er⟩ := h
  refine ⟨_, (pss_cons (ps_set (i := 2) sc_check_rules.nd rfl (Or.inl rfl) (pe_lst pa_nil))
      (pss_cons (ps_set (i := 3) sc_check_rules.nd rfl (Or.inl rfl) pe_int)
      (pss_one (ps_for (passes_of rfl) rfl (pi_enum (by rfl) B.b_enumerate (pa_cons (pe_cal c_nested (hr.mono (by decide)) (pa_cons (pv 1) (pa_cons pe_int pa_nil))) pa_nil)) (pg_tup (by rfl) (pgs_cons (pg_name (i := 4) sc_check_rules.nd rfl (Or.inl rfl)) (pgs_cons (pg_tup (by rfl) (pgs_cons (pg_name (i := 5) sc_check_rules.nd rfl (Or.inl rfl)) (pgs_cons (pg_name (i := 6) sc_check_rules.nd rfl (Or.inl rfl)) pgs_nil))) pgs_nil))) (pss_cons (wk_ps (tOut 3 6) (ps_if (pt_cmpR op_eq (pv 6) pe_int (nomark _)) (pss_one (ps_set (i := 3) sc_check_rules.nd rfl (Or.inl rfl) (pe_op op_add (pv 3) pe_int))) pss_nil) ?wo)
      (pss_cons (ps_if (pt_cmpR op_in_seq (pe_cprop kR.name kR.cls (hr.mono (by decide)) (pv 5)) (pv 2) rfl) (pss_one (ps_raise rfl (takes_of rfl rfl rfl rfl) (pmk_err2 e_InvalidBook (hr.mono (by decide)) pe_str (pv 4)))) pss_nil)
      (pss_cons (ps_if (pt_val (pe_callB (cr_any rfl) (by rfl) B.b_any (by decide +kernel) (pa_cons (pe_lc (own := [("name", 7)]) (g := gName 7) (tt := tYes) rfl sc_check_rules.nd (pi_tup (pe_cprop kK.names kK.cls (hr.mono (by decide)) (pe_cprop kR.condition kR.cls (hr.mono (by decide)) (pv 5)))) (blkOk_by (own := [("name", 7)]) (N := ["facts", "rules", "names", "outermost", "index", "rule", "around", "name"]) (sc := defScope s_check_rules) (by decide +kernel)) (fun _ _ _ _ _ => (pg_name (i := 7) sc_check_rules.nd rfl (Or.inl rfl))) (fun _ _ _ _ _ => pts_nil) (fun _ _ _ _ _ => (pe_.re (pe_cmpR op_notIn_seq (pv 7) (pv 0) rfl) (by first | (dsimp only [Cx.blk]; done) | exact rfl)))) pa_nil))) (pss_one (ps_raise rfl (takes_of rfl rfl rfl rfl) (pmk_err2 e_InvalidBook (hr.mono (by decide)) pe_str (pv 4)))) pss_nil)
      (pss_cons (ps_if (pt_cmpR op_gt (pv 6) (pe_glob (v := .int 5) rfl m_MOST_AROUND ⟨_, rfl⟩) (nomark _)) (pss_one (ps_raise rfl (takes_of rfl rfl rfl rfl) (pmk_err2 e_InvalidBook (hr.mono (by decide)) pe_str (pv 4)))) pss_nil)
      (pss_cons (ps_if (PW.pt (pw_or (pt_cmpR op_eq (pv 4) (pe_glob (v := .int 60) rfl m_MOST_RULES ⟨_, rfl⟩) (nomark _)) (pw_or1 (pt_cmpR op_gt (pv 3) (pe_glob (v := .int 40) rfl m_MOST_OUTERMOST ⟨_, rfl⟩) (nomark _))))) (pss_one (ps_raise rfl (takes_of rfl rfl rfl rfl) (pmk_err2 e_InvalidBook (hr.mono (by decide)) pe_str (pv 4)))) pss_nil)
      (pss_one (ps_expr (pe_bm PySem.F.plainAttrs_list PySem.F.slot_list_append PySem.F.type_list_append mt_append (pv 2) (pa_cons (pe_cprop kR.name kR.cls (hr.mono (by decide)) (pv 5)) pa_nil))))))))))))), ?_⟩
  case wo =>
    rintro D σ H1 ⟨out, k, h3, h6, q⟩
    refine ⟨_, h6, rfl, _, rfl, bcase (fun c => ?_) (fun c => ?_)⟩
    · have c : k = 0 := by have := V.int.inj (of_decide_eq_true c); omega
      subst c
      exact ⟨_, h3, out, 1, rfl, rfl, q⟩
    · have c : k ≠ 0 := fun z => by subst z; exact Bool.noConfusion (c.symm.trans (decide_eq_true rfl))
      unfold outNext at q
      rw [if_neg c, set_same' h3] at q
      exact q
  refine ⟨Nat.zero_le _, fun NL nNL => ?_⟩
  have s0 : Same H (upd H NL (.lst [])) := (Same.refl H).put nNL
  have e0 : (upd H NL (.lst [])) NL = some (.lst ([].map V.str)) := upd_same
  generalize upd H NL (.lst []) = H0 at s0 e0 ⊢
  refine ⟨_, rfl, Used N H, p, 0, ws, f, rfl, s0.tup hP, hF.used.keeps s0.keeps, hd, hz, fun H1 D us s1 nD e1 hu1 => ?_⟩
  have hul := hu1.len
  rw [RF.pre_len] at hul
  refine ⟨D, _, rfl, sqL_of e1, for_it walk_enum (fun i σ H' => ∃ (met : List Str) (out : Nat) (y4 y5 y6 y7 : Option V), σ = [some (.ref a), some (.ref p), some (.ref NL), some (.int (out : Nat)), y4, y5, y6, y7] ∧ Same H H' ∧ H' D = some (.lst us) ∧ PreAt K C R (Used N H) H' us (f.pre 0) ∧ H' NL = some (.lst (met.map V.str)) ∧ met.length = i ∧
      firstFault xs (f.pre 0) [] 0 0 = firstFault xs ((f.pre 0).drop i) met out i)
    ⟨[], 0, none, none, none, none, rfl, s0.trans s1, e1, hu1, s1 _ _ e0, rfl, rfl⟩ (fun _ _ _ _ ⟨_, _, _, _, _, _, _, _, e, _⟩ => sqL_of e) ?_ ?_⟩
  · rintro i x σ H2 H3 hi ⟨met, out, y4, y5, y6, y7, rfl, s, eD, hu, eN, hm, hff⟩ ⟨T, v1, v2, rfl, nT, rfl, h1, h2⟩
    obtain rfl : V.int (i : Nat) = v1 := Option.some.inj h1
    obtain ⟨⟨n, k⟩, hq, t, o, rfl, ht, hN⟩ := hu.get h2
    have hfitq := hfit _ (List.mem_of_getElem? hq)
    rw [drop_at hq] at hff
    dsimp only at ht hN hfitq
    have s23 : Same H2 (upd H2 T (.tup [.int (i : Nat), .ref t])) := (Same.refl H2).put nT
    have s3 := s.trans s23
    have eD3 := s23 _ _ eD
    have eN3 := s23 _ _ eN
    have ht3 := s23 _ _ ht
    have hN3 := hN.keeps s23.keeps
    have hu3 := hu.keeps s23.keeps
    have eT3 : (upd H2 T (.tup [.int (i : Nat), .ref t])) T = some (.tup [.int (i : Nat), .ref t]) := upd_same
    clear s23
    generalize upd H2 T (.tup [.int (i : Nat), .ref t]) = H3 at s3 eD3 eN3 ht3 hN3 hu3 eT3 ⊢
    refine ⟨T, [.int (i : Nat), .ref t], rfl, sqT_of eT3, rfl, _, _, rfl, _, _, rfl, t, [.ref o, .int (k : Nat)], rfl, sqT_of ht3, rfl, _, _, rfl, _, _, rfl, rfl, rfl, ?_⟩
    refine ⟨out, k, rfl, rfl, ?_⟩
    obtain ⟨dx, c, pe, l, ws', ho, hc, hpe, hl, hfe⟩ := hN3
    have hi9 : i ≤ 1000 := by omega
    have fkw : ∀ wd : Str, wd.length ≤ 1000 → FOk (.str wd) ∧ FOk (.int (i : Nat)) := fun wd h => ⟨Nat.le_trans h (by decide), fok_nat hi9⟩
    have rz : ∀ {wd : Str} {H' : Hp}, faultAt xs met (outNext out k) i n k = some wd → wd.length ≤ 1000 → Same H H' → ∀ d, H' d = none → E (.ref CB) (some d) (upd H' d (.xd [(("index" : Str), .int (i : Nat)), (("word" : Str), .str wd)])) := fun {wd H'} hf hw sH d nd => er wd i (by rw [hff]; unfold firstFault; rw [hf]) hw H' d sH nd
    refine ⟨_, rfl, o, dx, _, rfl, ho, o, dx, _, _, rfl, ho, rfl, _, rfl, NL, _, rfl, .inl (sqL_of eN3), rfl, flat_strs met, _, rfl, bcase (fun c1 => ?_) (fun c1 => ?_)⟩
    · have c1 : decide (n.nm ∈ met) = true := by rw [← inV_str]; exact c1
      exact ⟨_, rfl, fkw "name" (by decide), rz (by unfold faultAt; rw [if_pos (of_decide_eq_true c1)]) (by decide) s3⟩
    have c1 : decide (n.nm ∈ met) = false := by rw [← inV_str]; exact c1
    have f1 : faultAt xs met (outNext out k) i n k = if ((srt (n.hs ++ n.fs)).any fun x => !decide (x ∈ xs)) = true then some (Str.ofString "condition") else if 5 < k then some (Str.ofString "depth") else if i = 60 ∨ 40 < outNext out k then some (Str.ofString "many") else none := by
      unfold faultAt
      rw [if_neg (of_decide_eq_false c1)]
    obtain ⟨dxc, ca, cb, cn, zs, hco, hca, hcb, hcn, hzs⟩ := hc.at_
    have hzl : zs.length ≤ 100 := by
      rw [hzs, (srt_perm _).length_eq, List.length_append]
      exact hfitq
    refine ⟨_, rfl, o, dx, _, rfl, ho, o, dx, _, _, rfl, ho, rfl, c, dxc, _, rfl, hco, c, dxc, _, _, rfl, hco, rfl, cn, rfl, ⟨_, sqT_of hcn⟩, fun D2 nD2 => lc_it walk_tup (fun j H' => Same H3 H' ∧ H' D2 = some (.lst ((zs.take j).map fun x => V.bl (!decide (x ∈ xs))))) ⟨(Same.refl H3).put nD2, upd_same⟩ (fun _ _ _ h => h.1.tup (sqT_of hcn)) ?_ ?_⟩
    · rintro j y H4 H5 hj ⟨s4, e4⟩ ⟨rfl, hy⟩
      rw [List.length_map] at hj
      have hx : zs[j]? = some zs[j] := List.getElem?_eq_getElem hj
      obtain rfl : V.str zs[j] = y := strAt_inj hx hy
      refine ⟨rfl, yes_ ⟨_, rfl, _, rfl, a, _, rfl, .inr ((s3.trans s4).tup hA), rfl, flat_strs _, grow (acc := fun j => (zs.take j).map fun x => V.bl (!decide (x ∈ xs))) nD2 s4 e4 ?_ ?_⟩⟩
      · rw [List.length_map, List.length_take]
        exact small1000 (by omega)
      · show List.map _ _ = _
        rw [take_more hx, List.map_append]
        simp only [List.map_cons, List.map_nil, inV_str]
        rfl
    rintro H4 ⟨s4, e4⟩
    rw [List.length_map, List.take_length] at e4
    refine ⟨D2, zs.map fun x => !decide (x ∈ xs), rfl, sqL_of (by rw [e4, List.map_map]; rfl), ?_⟩
    have em : (zs.map fun x => !decide (x ∈ xs)).any id = (srt (n.hs ++ n.fs)).any fun x => !decide (x ∈ xs) := by
      rw [List.any_map, hzs]
      rfl
    rw [em]
    have s5 := s3.trans s4
    refine ⟨_, rfl, bcase (fun c2 => ?_) (fun c2 => ?_)⟩
    · exact ⟨_, rfl, fkw "condition" (by decide), rz (by rw [f1, if_pos c2]) (by decide) s5⟩
    have f2 : faultAt xs met (outNext out k) i n k = if 5 < k then some (Str.ofString "depth") else if i = 60 ∨ 40 < outNext out k then some (Str.ofString "many") else none := by
      rw [f1, if_neg (by rw [c2]; exact Bool.false_ne_true)]
    refine ⟨_, rfl, k, 5, rfl, rfl, _, rfl, bcase (fun c3 => ?_) (fun c3 => ?_)⟩
    · have c3 : 5 < k := by have := of_decide_eq_true c3; omega
      exact ⟨_, rfl, fkw "depth" (by decide), rz (by rw [f2, if_pos c3]) (by decide) s5⟩
    have c3 : ¬ 5 < k := by have := of_decide_eq_false c3; omega
    rw [if_neg c3] at f2
    refine ⟨_, rfl, rfl, _, rfl, bcase (fun c4 => ?_) (fun c4 => ?_)⟩
    · have e60 : i = 60 := by have := V.int.inj (of_decide_eq_true c4); omega
      exact iteT ⟨_, rfl, fkw "many" (by decide), rz (by rw [f2, if_pos (.inl e60)]) (by decide) s5⟩
    have n60 : i ≠ 60 := fun z => by subst z; exact Bool.noConfusion (c4.symm.trans (decide_eq_true rfl))
    refine ⟨_, rfl, outNext out k, 40, rfl, rfl, _, rfl, bcase (fun c5 => ?_) (fun c5 => ?_)⟩
    · have c5 : 40 < outNext out k := by have := of_decide_eq_true c5; omega
      exact ⟨_, rfl, fkw "many" (by decide), rz (by rw [f2, if_pos (.inr c5)]) (by decide) s5⟩
    have c5 : ¬ 40 < outNext out k := by have := of_decide_eq_false c5; omega
    rw [if_neg (fun z => z.elim n60 c5)] at f2
    have eN5 := s4 _ _ eN3
    have ho5 := s4 _ _ ho
    refine ⟨_, rfl, .inl ⟨rfl, _, sqL_of eN5⟩, _, rfl, o, dx, _, rfl, ho5, o, dx, _, _, rfl, ho5, rfl, NL, _, _, rfl, rfl, eN5, ?_, ?_⟩
    · rw [List.length_map]
      exact small1000 (by omega)
    have nDL : D ≠ NL := fun z => by rw [z, e0] at nD; cases nD
    refine ⟨met ++ [n.nm], outNext out k, _, _, _, _, rfl, s5.put nNL, by rw [upd_ne nDL]; exact s4 _ _ eD3, (hu3.keeps s4.keeps).keeps (keeps_own eN5 (used_not nNL)), by rw [upd_same, List.map_append]; rfl, by rw [List.length_append, List.length_singleton, hm], ?_⟩
    rw [hff]
    show (match faultAt xs met (outNext out k) i n k with | some w => some (w, i) | none => _) = _
    rw [f2]
  · rintro σ H2 ⟨met, out, y4, y5, y6, y7, rfl, s, eD, hu, eN, hm, hff⟩
    have hl : us.length = (f.pre 0).length := hu1.len
    rw [hl, List.drop_length] at hff
    exact q hff H2 s
end
end Sc
namespace Sc
open PySem PySem.Spec PyProof.Rows L2
/-! ### facts -/
abbrev s_check_facts : Stmt := topS 19
theorem sc_check_facts : FnScope ["facts", "index", "name"] ["facts"] (defScope s_check_facts) := ⟨rfl, rfl, rfl, by decide +kernel, rfl, by decide +kernel, by decide +kernel⟩
abbrev s_check_case : Stmt := topS 20
theorem sc_check_case : FnScope ["facts", "case", "index", "name"] ["facts", "case"] (defScope s_check_case) := ⟨rfl, rfl, rfl, by decide +kernel, rfl, by decide +kernel, by decide +kernel⟩
/-- the i-th fact is wrong -/
def badAt (xs : List Str) (i : Nat) : Bool := decide (i = 60) || ((match xs[i]? with | some x => !isName x | none => false) || !risesAt xs i)
def firstBad (xs : List Str) : Option Nat := if xs = [] then some 0 else (List.range xs.length).find? (badAt xs)
section
variable {P : Program} {w : World} {K : PySem.W.Frag} {mg : Str → Option Value} {base : Heap} {CF CC CN : Addr}
def sp_check_facts (K : PySem.W.Frag) (C : Addr) : Sp := fun vs H Q E => ∃ (a : Addr) (xs : List Str), vs = [.ref a] ∧ SqT K H a (xs.map V.str) ∧ Txts xs ∧ xs.length ≤ 1000 ∧
  (firstBad xs = none → ∀ H', Same H H' → Q .non H') ∧ (∀ i, firstBad xs = some i → errIx C i H E)
theorem ok_check_facts {f : Addr} {fd : FuncData} (F : Fun K "check_facts" "check_facts" s_check_facts f fd) (B : Blt mg) (mM : ∃ t, mg "MOST_FACTS" = some (.int 60 t))
    (e_InvalidFacts : ErrMk P w K mg base "InvalidFacts" CF ["self", "index"] (sp_init1 CF "index")) (c_is_name : Cal P w K mg base CX0 1 "is_name" ["value"] sp_is_name) (c_rises : Cal P w K mg base CX0 1 "rises" ["names", "index"] (sp_rises K)) :
    FnOk P w K mg base (L2.CX P w) 3 f fd ["facts"] (sp_check_facts K CF) := by
  obtain ⟨t1, mM⟩ := mM
  refine F.okX sc_check_facts (fun vs H Q E h => by obtain ⟨a, xs, rfl, _⟩ := h; rfl) (fun cdv A outer s H vs Q E hr h => ?_)
  obtain ⟨a, xs, rfl, hS, hT, hl, q, e⟩ := h
  refine ⟨_, (pss_cons (ps_if (pt_not (pt_tru (pv 0) (by intro _; rfl))) (pss_one (ps_raise rfl (takes_of rfl rfl rfl rfl) (pmk_err1 e_InvalidFacts (hr.mono (by decide)) pe_int))) pss_nil)
      (pss_one (ps_for (passes_of rfl) rfl (pi_enumT (by rfl) B.b_enumerate (pa_cons (pv 0) pa_nil)) (pg_tup (by rfl) (pgs_cons (pg_name (i := 1) sc_check_facts.nd rfl (Or.inl rfl)) (pgs_cons (pg_name (i := 2) sc_check_facts.nd rfl (Or.inl rfl)) pgs_nil))) (pss_one (ps_if (PW.pt (pw_or (pt_cmpR op_eq (pv 1) (pe_glob (v := .int 60) rfl mM ⟨_, rfl⟩) (nomark _)) (pw_or (pt_not (pt_val (pe_cal c_is_name (hr.mono (by decide)) (pa_cons (pv 2) pa_nil)))) (pw_or1 (pt_not (pt_val (pe_cal c_rises (hr.mono (by decide)) (pa_cons (pv 0) (pa_cons (pv 1) pa_nil))))))))) (pss_one (ps_raise rfl (takes_of rfl rfl rfl rfl) (pmk_err1 e_InvalidFacts (hr.mono (by decide)) (pv 1)))) pss_nil))))), ?_⟩
  refine ⟨.ref a, rfl, _, .inr (.inl ⟨_, hS, rfl⟩), bcase (fun e0 => ?_) (fun e0 => ?_)⟩
  · have ex : xs = [] := by
      cases xs with
      | nil => rfl
      | cons x r => exact Bool.noConfusion (show false = true from e0)
    exact ⟨fok_nat (i := 0) (by decide), fun d nd => e 0 (by unfold firstBad; rw [if_pos ex]) H d (Same.refl H) nd⟩
  · have ex : xs ≠ [] := fun z => by
      subst z
      exact Bool.noConfusion (show true = false from e0)
    have rz : ∀ {i : Nat} {H' : Hp}, i < xs.length → (∀ j, j < i → badAt xs j = false) → badAt xs i = true → Same H H' → ∀ d, H' d = none → E (.ref CF) (some d) (upd H' d (.xd [(("index" : Str), .int (i : Nat))])) :=
      fun {i H'} hi hb hp s d nd => e i (by unfold firstBad; rw [if_neg ex]; exact find_at hi hp hb) H' d s nd
    refine ⟨.ref a, rfl, a, _, rfl, hS, for_it walk_enumT (fun i σ H' => ∃ y1 y2, σ = [some (.ref a), y1, y2] ∧ Same H H' ∧ ∀ j, j < i → badAt xs j = false)
      ⟨none, none, rfl, Same.refl H, fun j hj => absurd hj (Nat.not_lt_zero j)⟩ (fun i σ H' _ ⟨_, _, _, s, _⟩ => s.tup hS) ?_ ?_⟩
    · rintro i x σ H2 H3 hi ⟨y1, y2, rfl, s, hb⟩ ⟨T, v1, v2, rfl, nT, rfl, h1, h2⟩
      obtain rfl : V.int (i : Nat) = v1 := Option.some.inj h1
      rw [List.length_map] at hi
      have hx : xs[i]? = some xs[i] := List.getElem?_eq_getElem hi
      obtain rfl : V.str xs[i] = v2 := strAt_inj hx h2
      have s3 : Same H (upd H2 T (.tup [.int (i : Nat), .str xs[i]])) := s.put' nT
      have rz := fun {H' : Hp} (hp : badAt xs i = true) (sH : Same H H') => rz hi hb hp sH
      refine ⟨T, [.int (i : Nat), .str xs[i]], rfl, sqT_new, rfl, _, _, rfl, _, _, rfl, rfl, ?_⟩
      refine ⟨_, rfl, rfl, _, rfl, bcase (fun c1 => ?_) (fun c1 => ?_)⟩
      · have e60 : i = 60 := by have := V.int.inj (of_decide_eq_true c1); omega
        refine iteT ⟨_, rfl, fok_nat (by omega), rz (by unfold badAt; rw [decide_eq_true e60, Bool.true_or]) s3⟩
      · have n60 : i ≠ 60 := fun z => by subst z; exact Bool.noConfusion (c1.symm.trans (decide_eq_true rfl))
        refine ⟨_, rfl, xs[i], rfl, Nat.le_trans (hT _ (List.getElem_mem hi)) (by rw [sizeLine_eq]; decide), fun H4 s4 => ⟨_, rfl, bcase (fun c2 => ?_) (fun c2 => ?_)⟩⟩
        · refine iteT ⟨_, rfl, fok_nat (by omega), rz (by unfold badAt; rw [hx, decide_eq_false n60, Bool.false_or]; show (!isName xs[i] || _) = true; rw [c2, Bool.true_or]) (s3.trans s4)⟩
        · refine ⟨.ref a, rfl, _, rfl, a, xs, i, rfl, (s3.trans s4).tup hS, hi, _, rfl, bcase (fun c3 => ?_) (fun c3 => ?_)⟩
          · exact ⟨_, rfl, fok_nat (by omega), rz (by unfold badAt; rw [hx, c3, Bool.or_true, Bool.or_true]) (s3.trans s4)⟩
          · refine ⟨_, _, rfl, s3.trans s4, fun j hj => ?_⟩
            by_cases hj2 : j < i
            · exact hb j hj2
            · have ej : j = i := by omega
              subst ej
              unfold badAt
              rw [hx, decide_eq_false n60, c3, Bool.or_false, Bool.false_or]
              exact c2
    · rintro σ H2 ⟨y1, y2, rfl, s, hb⟩
      rw [List.length_map] at hb
      exact q (by unfold firstBad; rw [if_neg ex]; exact find_none hb) H2 s
/-- the i-th name of a case is wrong -/
def outAt (facts cs : List Str) (i : Nat) : Bool := (match cs[i]? with | some x => !decide (x ∈ facts) | none => false) || !risesAt cs i
def firstOut (facts cs : List Str) : Option Nat := (List.range cs.length).find? (outAt facts cs)
def sp_check_case (K : PySem.W.Frag) (C : Addr) : Sp := fun vs H Q E => ∃ (a b : Addr) (xs cs : List Str), vs = [.ref a, .ref b] ∧ SqT K H a (xs.map V.str) ∧ SqT K H b (cs.map V.str) ∧ cs.length ≤ 1000 ∧
  (firstOut xs cs = none → ∀ H', Same H H' → Q .non H') ∧ (∀ i, firstOut xs cs = some i → errIx C i H E)
theorem ok_check_case {f : Addr} {fd : FuncData} (F : Fun K "check_case" "check_case" s_check_case f fd) (B : Blt mg)
    (e_InvalidCase : ErrMk P w K mg base "InvalidCase" CC ["self", "index"] (sp_init1 CC "index")) (c_rises : Cal P w K mg base CX0 1 "rises" ["names", "index"] (sp_rises K)) :
    FnOk P w K mg base (L2.CX P w) 3 f fd ["facts", "case"] (sp_check_case K CC) := by
  refine F.okX sc_check_case (fun vs H Q E h => by obtain ⟨a, b, xs, cs, rfl, _⟩ := h; rfl) (fun cdv A outer s H vs Q E hr h => ?_)
  obtain ⟨a, b, xs, cs, rfl, hS, hC, hl, q, e⟩ := h
  refine ⟨_, (pss_one (ps_for (passes_of rfl) rfl (pi_enumT (by rfl) B.b_enumerate (pa_cons (pv 1) pa_nil)) (pg_tup (by rfl) (pgs_cons (pg_name (i := 2) sc_check_case.nd rfl (Or.inl rfl)) (pgs_cons (pg_name (i := 3) sc_check_case.nd rfl (Or.inl rfl)) pgs_nil))) (pss_one (ps_if (PW.pt (pw_or (pt_cmpR op_notIn_seq (pv 3) (pv 0) rfl) (pw_or1 (pt_not (pt_val (pe_cal c_rises (hr.mono (by decide)) (pa_cons (pv 1) (pa_cons (pv 2) pa_nil)))))))) (pss_one (ps_raise rfl (takes_of rfl rfl rfl rfl) (pmk_err1 e_InvalidCase (hr.mono (by decide)) (pv 2)))) pss_nil)))), ?_⟩
  refine ⟨.ref b, rfl, b, _, rfl, hC, for_it walk_enumT (fun i σ H' => ∃ y1 y2, σ = [some (.ref a), some (.ref b), y1, y2] ∧ Same H H' ∧ ∀ j, j < i → outAt xs cs j = false)
    ⟨none, none, rfl, Same.refl H, fun j hj => absurd hj (Nat.not_lt_zero j)⟩ (fun i σ H' _ ⟨_, _, _, s, _⟩ => s.tup hC) ?_ ?_⟩
  · rintro i x σ H2 H3 hi ⟨y1, y2, rfl, s, hb⟩ ⟨T, v1, v2, rfl, nT, rfl, h1, h2⟩
    obtain rfl : V.int (i : Nat) = v1 := Option.some.inj h1
    rw [List.length_map] at hi
    have hx : cs[i]? = some cs[i] := List.getElem?_eq_getElem hi
    obtain rfl : V.str cs[i] = v2 := strAt_inj hx h2
    have s3 : Same H (upd H2 T (.tup [.int (i : Nat), .str cs[i]])) := s.put' nT
    have rz : ∀ {H' : Hp}, outAt xs cs i = true → Same H H' → ∀ d, H' d = none → E (.ref CC) (some d) (upd H' d (.xd [(("index" : Str), .int (i : Nat))])) := fun {H'} hp sH d nd => e i (find_at hi hp hb) H' d sH nd
    refine ⟨T, [.int (i : Nat), .str cs[i]], rfl, sqT_new, rfl, _, _, rfl, _, _, rfl, rfl, ?_⟩
    refine ⟨.str cs[i], rfl, .ref a, rfl, a, _, rfl, .inr (s3.tup hS), rfl, flat_strs xs, _, rfl, bcase (fun c1 => ?_) (fun c1 => ?_)⟩
    · have c1 : (!decide (cs[i] ∈ xs)) = true := by rw [← inV_str]; exact c1
      exact iteT ⟨_, rfl, fok_nat (by omega), rz (by unfold outAt; rw [hx]; show (!decide (cs[i] ∈ xs) || _) = true; rw [c1, Bool.true_or]) s3⟩
    · have c1 : (!decide (cs[i] ∈ xs)) = false := by rw [← inV_str]; exact c1
      refine ⟨.ref b, rfl, _, rfl, b, cs, i, rfl, s3.tup hC, hi, _, rfl, bcase (fun c3 => ?_) (fun c3 => ?_)⟩
      · exact ⟨_, rfl, fok_nat (by omega), rz (by unfold outAt; rw [hx, c3, Bool.or_true]) s3⟩
      · refine ⟨_, _, rfl, s3, fun j hj => ?_⟩
        by_cases hj2 : j < i
        · exact hb j hj2
        · have ej : j = i := by omega
          subst ej
          unfold outAt
          rw [hx, c3, Bool.or_false]
          exact c1
  · rintro σ H2 ⟨y1, y2, rfl, s, hb⟩
    rw [List.length_map] at hb
    exact q (find_none hb) H2 s
end
end Sc
namespace Sc
open PySem PySem.Spec PyProof.Rows L2
/-! ### an object Book -/
abbrev s_Book___init__ : Stmt := (inClass (topS 30) 0)
theorem sc_Book___init__ : FnScope ["self", "facts", "rules", "ruling", "rule", "_"] ["self", "facts", "rules", "ruling"] (defScope s_Book___init__) := ⟨rfl, rfl, rfl, by decide +kernel, rfl, by decide +kernel, by decide +kernel⟩
abbrev s_Book_facts : Stmt := (inClass (topS 30) 1)
theorem sc_Book_facts : FnScope ["self"] ["self"] (defScope s_Book_facts) := ⟨rfl, rfl, rfl, by decide +kernel, rfl, by decide +kernel, by decide +kernel⟩
abbrev s_Book_rules : Stmt := (inClass (topS 30) 2)
theorem sc_Book_rules : FnScope ["self"] ["self"] (defScope s_Book_rules) := ⟨rfl, rfl, rfl, by decide +kernel, rfl, by decide +kernel, by decide +kernel⟩
abbrev s_Book_ruling : Stmt := (inClass (topS 30) 3)
theorem sc_Book_ruling : FnScope ["self"] ["self"] (defScope s_Book_ruling) := ⟨rfl, rfl, rfl, by decide +kernel, rfl, by decide +kernel, by decide +kernel⟩
section
variable {P : Program} {w : World} {K : PySem.W.Frag} {mg : Str → Option Value} {base : Heap} {C R B CF CB : Addr}
theorem ok_Book_facts {f : Addr} {fd : FuncData} (F : Fun K "facts" "Book.facts" s_Book_facts f fd) (T : Cls K B) (n : NoAttr K B "_facts") : FnOk P w K mg base CX0 1 f fd ["self"] (sp_prop B "_facts") := by
  refine F.ok sc_Book_facts (fun vs H Q E h => by obtain ⟨x, dx, fs, v, rfl, _⟩ := h; rfl) (fun cdv A outer s H vs Q E hr h => ?_)
  obtain ⟨x, dx, fs, v, rfl, hx, hl, q⟩ := h
  exact ⟨_, (pss_one (ps_ret (pe_fld (pv 0) rfl))), ⟨_, rfl, x, B, dx, fs, v, rfl, hx, T, n, hl, q⟩⟩
theorem ok_Book_rules {f : Addr} {fd : FuncData} (F : Fun K "rules" "Book.rules" s_Book_rules f fd) (T : Cls K B) (n : NoAttr K B "_rules") : FnOk P w K mg base CX0 1 f fd ["self"] (sp_prop B "_rules") := by
  refine F.ok sc_Book_rules (fun vs H Q E h => by obtain ⟨x, dx, fs, v, rfl, _⟩ := h; rfl) (fun cdv A outer s H vs Q E hr h => ?_)
  obtain ⟨x, dx, fs, v, rfl, hx, hl, q⟩ := h
  exact ⟨_, (pss_one (ps_ret (pe_fld (pv 0) rfl))), ⟨_, rfl, x, B, dx, fs, v, rfl, hx, T, n, hl, q⟩⟩
theorem ok_Book_ruling {f : Addr} {fd : FuncData} (F : Fun K "ruling" "Book.ruling" s_Book_ruling f fd) (T : Cls K B) (n : NoAttr K B "_ruling") : FnOk P w K mg base CX0 1 f fd ["self"] (sp_prop B "_ruling") := by
  refine F.ok sc_Book_ruling (fun vs H Q E h => by obtain ⟨x, dx, fs, v, rfl, _⟩ := h; rfl) (fun cdv A outer s H vs Q E hr h => ?_)
  obtain ⟨x, dx, fs, v, rfl, hx, hl, q⟩ := h
  exact ⟨_, (pss_one (ps_ret (pe_fld (pv 0) rfl))), ⟨_, rfl, x, B, dx, fs, v, rfl, hx, T, n, hl, q⟩⟩
/-- the fields of a book -/
def bookF (a p : Addr) (rl : Str) (l : Addr) : List (Str × V) := putF "_numbered" (.ref l) (putF "_ruling" (.str rl) (putF "_rules" (.ref p) (putF "_facts" (.ref a) [])))
def BookAt (K : PySem.W.Frag) (C R B : Addr) (N : Addr → Prop) (H : Hp) (o : Addr) (xs : List Str) (f : RF) (rl : Str) : Prop := ∃ (dx a p l : Addr) (ws us : List V), H o = some (.ins B dx (bookF a p rl l)) ∧ SqT K H a (xs.map V.str) ∧ SqT K H p ws ∧ ForAt K C R N H f ws ∧ (N l ∧ H l = some (.lst us)) ∧ All2 (RefAt K C R N H) us ((f.pre 0).map fun q => q.1)
theorem BookAt.keeps {N : Addr → Prop} {H H' : Hp} {o : Addr} {xs : List Str} {f : RF} {rl : Str} (h : BookAt K C R B N H o xs f rl) (k : Keeps N H H') : BookAt K C R B N H' o xs f rl := by
  obtain ⟨dx, a, p, l, ws, us, h1, h2, h3, h4, ⟨h5, h6⟩, h7⟩ := h
  exact ⟨dx, a, p, l, ws, us, k _ _ stays_ins h1, k.tup h2, k.tup h3, h4.keeps k, ⟨h5, k _ _ (stays_lst h5) h6⟩, h7.mono fun _ _ x => x.keeps k⟩
def sp_book_init (K : PySem.W.Frag) (C R B CF CB : Addr) : Sp := fun vs H Q E => ∃ (N : Addr → Prop) (x dx a p : Addr) (xs : List Str) (rl : Str) (ws : List V) (f : RF), vs = [.ref x, .ref a, .ref p, .str rl] ∧ H x = some (.ins B dx []) ∧ SqT K H a (xs.map V.str) ∧ Txts xs ∧ xs.length ≤ 1000 ∧ SqT K H p ws ∧ ForAt K C R N H f ws ∧ f.dep ≤ 12 ∧ f.size ≤ 900 ∧ f.Fit ∧ rl.length ≤ 1000 ∧
  (∀ i, firstBad xs = some i → errIx CF i H E) ∧ (firstBad xs = none → (∀ wd i, firstFault xs (f.pre 0) [] 0 0 = some (wd, i) → wd.length ≤ 1000 → errWI CB wd (i : Nat) H E) ∧ (firstFault xs (f.pre 0) [] 0 0 = none →
    (isName rl = false → errWI CB "ruling" (-1) H E) ∧ (isName rl = true → ∀ H' l us, SameX x H H' → H' x = some (.ins B dx (bookF a p rl l)) → l ≠ x → H l = none → H' l = some (.lst us) → All2 (RefAt K C R N H') us ((f.pre 0).map fun q => q.1) → Q .non H')))
theorem ok_book_init {f : Addr} {fd : FuncData} (F : Fun K "__init__" "Book.__init__" s_Book___init__ f fd) (Bl : Blt mg) (T : Cls K B) (n1 : NoAttr K B "_facts") (n2 : NoAttr K B "_rules") (n3 : NoAttr K B "_ruling") (n4 : NoAttr K B "_numbered")
    (e_InvalidBook : ErrMk P w K mg base "InvalidBook" CB ["self", "word", "index"] (sp_init2 CB "word" "index")) (c_is_name : Cal P w K mg base CX0 1 "is_name" ["value"] sp_is_name) (c_nested : Cal P w K mg base CX0 15 "nested" ["rules", "around"] (sp_nested K C R 12))
    (c_check_facts : Cal P w K mg base (L2.CX P w) 3 "check_facts" ["facts"] (sp_check_facts K CF)) (c_check_rules : Cal P w K mg base (L2.CX P w) 16 "check_rules" ["facts", "rules"] (sp_check_rules K C R CB)) :
    FnOk P w K mg base (L2.CX P w) 17 f fd ["self", "facts", "rules", "ruling"] (sp_book_init K C R B CF CB) := by
  refine F.okX sc_Book___init__ (fun vs H Q E h => by obtain ⟨N, x, dx, a, p, xs, rl, ws, f, rfl, _⟩ := h; rfl) (fun cdv A outer s H vs Q E hr h => ?_)
  obtain ⟨N, x, dx, a, p, xs, rl, ws, f, rfl, hx, hA, tA, lA, hP, hF, hd, hz, hfit, lr, e1, q⟩ := h
  refine ⟨_, (pss_cons (ps_expr (pe_calX c_check_facts (hr.mono (by decide)) (takes_of rfl rfl rfl rfl) (pa_cons (pv 1) pa_nil)))
      (pss_cons (ps_expr (pe_calX c_check_rules (hr.mono (by decide)) (takes_of rfl rfl rfl rfl) (pa_cons (pv 1) (pa_cons (pv 2) pa_nil))))
      (pss_cons (ps_if (pt_not (pt_val (pe_cal c_is_name (hr.mono (by decide)) (pa_cons (pv 3) pa_nil)))) (pss_one (ps_raise rfl (takes_of rfl rfl rfl rfl) (pmk_err2 e_InvalidBook (hr.mono (by decide)) pe_str (pe_un un_neg pe_int)))) pss_nil)
      (pss_cons (ps_fld (pv 0) (pv 1) rfl)
      (pss_cons (ps_fld (pv 0) (pv 2) rfl)
      (pss_cons (ps_fld (pv 0) (pv 3) rfl)
      (pss_one (ps_fld (pv 0) (pe_lc (own := [("rule", 4), ("_", 5)]) (g := gTup K 2 (gCons (gName 4) (gCons (gName 5) gNil))) (tt := tYes) rfl sc_Book___init__.nd (pi_list (pe_cal c_nested (hr.mono (by decide)) (pa_cons (pv 2) (pa_cons pe_int pa_nil)))) (blkOk_by (own := [("rule", 4), ("_", 5)]) (N := ["self", "facts", "rules", "ruling", "rule", "_"]) (sc := defScope s_Book___init__) (by decide +kernel)) (fun _ _ _ _ _ => (pg_tup (by rfl) (pgs_cons (pg_name (i := 4) sc_Book___init__.nd rfl (Or.inl rfl)) (pgs_cons (pg_name (i := 5) sc_Book___init__.nd rfl (Or.inl rfl)) pgs_nil)))) (fun _ _ _ _ _ => pts_nil) (fun _ _ _ _ _ => (pe_.re (pv 4) (by first | (dsimp only [Cx.blk]; done) | exact rfl)))) rfl)))))))), ?_⟩
  have big : ∀ {m : Nat}, m ≤ 1000 → m ≤ sizeLine := fun {m} h => by rw [sizeLine_eq]; omega
  refine ⟨_, rfl, a, xs, rfl, hA, tA, lA, fun z1 H1 s1 => ?_, e1⟩
  obtain ⟨e2, q⟩ := q z1
  refine ⟨_, rfl, _, rfl, N, a, p, xs, ws, f, rfl, s1.tup hA, s1.tup hP, hF.keeps s1.keeps, hd, hz, hfit, fun z2 H2 s2 => ?_, fun wd i ei hw H' d sH nd => e2 wd i ei hw H' d (s1.trans sH) nd⟩
  obtain ⟨e3, q⟩ := q z2
  have s12 := s1.trans s2
  refine ⟨_, rfl, rl, rfl, big lr, fun H3 s3 => ⟨_, rfl, bcase (fun c1 => ?_) (fun c1 => ?_)⟩⟩
  · exact ⟨1, rfl, ⟨Nat.le_trans (show (Str.ofString "ruling").length ≤ 1000 by decide) (by decide), (show (-1 : Int).natAbs.log2 < 1920 by decide)⟩, fun d nd => e3 ((Bool.not_eq_true' _).mp c1) H3 d (s12.trans s3) nd⟩
  have q := q ((Bool.not_eq_false' _).mp c1)
  have s13 := s12.trans s3
  have hx3 := s13 _ _ hx
  refine ⟨_, rfl, _, rfl, x, B, dx, _, rfl, hx3, T, n1, by decide, ?_⟩
  refine ⟨_, rfl, _, rfl, x, B, dx, _, rfl, upd_same, T, n2, Nat.lt_of_le_of_lt (putF_le (Nat.zero_le 0)) (by decide), ?_⟩
  refine ⟨_, rfl, _, rfl, x, B, dx, _, rfl, upd_same, T, n3, Nat.lt_of_le_of_lt (putF_le (putF_le (Nat.zero_le 0))) (by decide), ?_⟩
  have sx : SameX x H (upd (upd (upd H3 x (.ins B dx (putF "_facts" (.ref a) []))) x (.ins B dx (putF "_rules" (.ref p) (putF "_facts" (.ref a) [])))) x (.ins B dx (putF "_ruling" (.str rl) (putF "_rules" (.ref p) (putF "_facts" (.ref a) []))))) := (((SameX.of s13).put).put).put
  have hx6 : (upd (upd (upd H3 x (.ins B dx (putF "_facts" (.ref a) []))) x (.ins B dx (putF "_rules" (.ref p) (putF "_facts" (.ref a) [])))) x (.ins B dx (putF "_ruling" (.str rl) (putF "_rules" (.ref p) (putF "_facts" (.ref a) []))))) x = some (.ins B dx (putF "_ruling" (.str rl) (putF "_rules" (.ref p) (putF "_facts" (.ref a) [])))) := upd_same
  generalize upd (upd (upd H3 x (.ins B dx (putF "_facts" (.ref a) []))) x (.ins B dx (putF "_rules" (.ref p) (putF "_facts" (.ref a) [])))) x (.ins B dx (putF "_ruling" (.str rl) (putF "_rules" (.ref p) (putF "_facts" (.ref a) [])))) = H6 at sx hx6 ⊢
  have k6 : Keeps N H H6 := sx.keeps hx
  refine ⟨_, rfl, N, p, 0, ws, f, rfl, k6.tup hP, hF.keeps k6, hd, hz, fun H7 D us s7 nD eD hu => ?_⟩
  have hul := hu.len
  rw [RF.pre_len] at hul
  refine ⟨D, rfl, ⟨_, sqL_of eD⟩, fun D2 nD2 => lc_it walk_list (fun i H' => Same H7 H' ∧ ∃ rs, H' D2 = some (.lst rs) ∧ All2 (RefAt K C R N H7) rs (((f.pre 0).take i).map fun q => q.1)) ⟨(Same.refl H7).put nD2, [], upd_same, .nil⟩ (fun _ _ _ h => sqL_of (h.1 _ _ eD)) ?_ ?_⟩
  · rintro i y H8 H9 hi ⟨s, rs, e, hr2⟩ ⟨rfl, hy⟩
    obtain ⟨⟨n, k⟩, hq, t, o, rfl, ht, hN⟩ := hu.get hy
    have ht := s _ _ ht
    have hrl := hr2.len
    rw [List.length_map, List.length_take, RF.pre_len] at hrl
    refine ⟨t, [.ref o, .int (k : Nat)], rfl, sqT_of ht, rfl, _, _, rfl, _, _, rfl, rfl, rfl, yes_ ⟨_, rfl, rs, e, small1000 (by omega), s.put nD2, _, upd_same, ?_⟩⟩
    rw [take_more hq, List.map_append]
    exact hr2.snoc ⟨o, rfl, hN⟩
  rintro H8 ⟨s8, rs, e8, hr2⟩
  rw [hu.len, List.take_length] at hr2
  have s68 := s7.trans s8
  have hx8 := s68 _ _ hx6
  have ne : D2 ≠ x := fun z => by rw [z, hx8] at e8; cases e8
  refine ⟨_, rfl, x, B, dx, _, rfl, hx8, T, n4, Nat.lt_of_le_of_lt (putF_le (putF_le (putF_le (Nat.zero_le 0)))) (by decide), ?_⟩
  have kk : Keeps N H7 (upd H8 x (.ins B dx (putF "_numbered" (.ref D2) (putF "_ruling" (.str rl) (putF "_rules" (.ref p) (putF "_facts" (.ref a) [])))))) := Keeps.trans s8.keeps (keeps_make hx8)
  exact q _ D2 rs (sx.same s68).put upd_same ne (sx.free ne (s7.free nD2)) (by rw [upd_ne ne]; exact e8) (hr2.mono fun _ _ x => x.keeps kk)
end
end Sc
namespace Sc
open PySem
/-! ### cases by their numbers -/
def caseOf : List Str → Nat → List Str
  | [], _ => []
  | x :: r, n => (if n % 2 = 1 then [x] else []) ++ caseOf r (n / 2)
def bitN (n k : Nat) : Bool := decide (n / 2 ^ k % 2 = 1)
theorem bitN_succ {n k : Nat} : bitN n (k + 1) = bitN (n / 2) k := by
  unfold bitN
  rw [Nat.pow_succ, Nat.mul_comm, ← Nat.div_div_eq_div_mul]
theorem caseOf_more : ∀ (fs : List Str) (n i : Nat) (x : Str), fs[i]? = some x → caseOf (fs.take (i + 1)) n = caseOf (fs.take i) n ++ (if bitN n i = true then [x] else [])
  | y :: r, n, 0, x, h => by
    have h : y = x := Option.some.inj h
    subst h
    show (if n % 2 = 1 then [y] else []) ++ caseOf [] (n / 2) = [] ++ _
    unfold bitN caseOf
    rw [Nat.pow_zero, Nat.div_one, List.append_nil, List.nil_append]
    by_cases c : n % 2 = 1
    · rw [if_pos c, if_pos (decide_eq_true c)]
    · rw [if_neg c, if_neg (by rw [decide_eq_false c]; exact Bool.false_ne_true)]
  | y :: r, n, i + 1, x, h => by
    have h : r[i]? = some x := h
    show (if n % 2 = 1 then [y] else []) ++ caseOf (r.take (i + 1)) (n / 2) = ((if n % 2 = 1 then [y] else []) ++ caseOf (r.take i) (n / 2)) ++ _
    rw [caseOf_more r (n / 2) i x h, List.append_assoc, bitN_succ]
theorem caseOf_sub : ∀ (fs : List Str) (n : Nat), List.Sublist (caseOf fs n) fs
  | [], _ => .slnil
  | x :: r, n => by
    unfold caseOf
    by_cases c : n % 2 = 1
    · rw [if_pos c]
      exact (caseOf_sub r _).cons₂ x
    · rw [if_neg c]
      exact (caseOf_sub r _).cons x
/-- each choice of the facts is a case -/
theorem caseOf_all (p : Str → Bool) : ∀ fs : List Str, ∃ n, n < 2 ^ fs.length ∧ caseOf fs n = fs.filter p
  | [] => ⟨0, by decide, rfl⟩
  | x :: r => by
    obtain ⟨n, h1, h2⟩ := caseOf_all p r
    cases c : p x with
    | true =>
      refine ⟨2 * n + 1, by rw [List.length_cons, Nat.pow_succ]; omega, ?_⟩
      unfold caseOf
      rw [if_pos (by omega), show (2 * n + 1) / 2 = n by omega, h2, List.filter_cons, if_pos c]
      rfl
    | false =>
      refine ⟨2 * n, by rw [List.length_cons, Nat.pow_succ]; omega, ?_⟩
      unfold caseOf
      rw [if_neg (by omega), show (2 * n) / 2 = n by omega, h2, List.filter_cons, if_neg (by rw [c]; exact Bool.false_ne_true)]
      rfl
end Sc
namespace Sc
open PySem PySem.Spec PyProof.Rows L2
/-! ### rising rows of the twelve facts -/
def SLt (a b : Str) : Prop := a.cps.toList < b.cps.toList
instance (a b : Str) : Decidable (SLt a b) := inferInstanceAs (Decidable (a.cps.toList < b.cps.toList))
structure Good (xs : List Str) : Prop where
  up : xs.Pairwise SLt
  mem : ∀ x ∈ xs, x ∈ twelve
theorem twelve_up : twelve.Pairwise SLt := by decide +kernel
theorem twelve_name : ∀ x ∈ twelve, isName x = true := by decide +kernel
theorem twelve_good : Good twelve := ⟨twelve_up, fun _ h => h⟩
theorem Good.sub {xs ys : List Str} (h : Good ys) (s : List.Sublist xs ys) : Good xs := ⟨h.up.sublist s, fun x hx => h.mem x (s.subset hx)⟩
theorem Good.nodup {xs : List Str} (h : Good xs) : xs.Nodup := h.up.imp fun {a b} hl e => by subst e; exact List.lt_irrefl _ hl
theorem Good.fines {xs : List Str} (h : Good xs) (tf : Fines twelve) : Fines xs := fun x hx => tf x (h.mem x hx)
theorem Good.le {xs : List Str} (h : Good xs) : xs.Pairwise SLe := h.up.imp fun hl => List.le_of_lt hl
theorem good_nil : Good [] := ⟨.nil, fun _ h => nomatch h⟩
theorem Good.srt {xs : List Str} (h : Good xs) : srt xs = xs := sorted_uniq (srt_perm xs) (srt_sorted xs) (sorted_of h.le)
theorem lt_of {a b : Str} (h : SLe a b) (n : a ≠ b) : SLt a b := by
  by_cases c : a.cps.toList < b.cps.toList
  · exact c
  · exact absurd (str_ext (List.le_antisymm h (List.not_lt.mp c))) n
theorem srt_good {xs : List Str} (nd : xs.Nodup) (m : ∀ x ∈ xs, x ∈ twelve) : Good (srt xs) := by
  have nd2 : (Sc.srt xs).Nodup := (srt_perm xs).nodup_iff.mpr nd
  refine ⟨?_, fun x hx => m x ((srt_perm xs).mem_iff.mp hx)⟩
  exact ((sorted_pw (srt_sorted xs)).and nd2).imp fun h => lt_of h.1 h.2
theorem mem_mrg {xs ys : List Str} {x : Str} : x ∈ mrg xs ys ↔ x ∈ xs ∨ x ∈ ys := by
  unfold mrg
  rw [(srt_perm _).mem_iff, List.mem_append, List.mem_filter]
  constructor
  · rintro (h | h)
    · exact .inl h
    · exact .inr h.1
  · rintro (h | h)
    · exact .inl h
    · by_cases c : x ∈ xs
      · exact .inl c
      · exact .inr ⟨h, by rw [decide_eq_false c]; rfl⟩
theorem Good.mrg {xs ys : List Str} (h : Good xs) (k : Good ys) : Good (mrg xs ys) := by
  refine srt_good ?_ fun x hx => ?_
  · rw [List.nodup_append]
    refine ⟨h.nodup, (List.filter_sublist).nodup k.nodup, fun a ha b hb e => ?_⟩
    subst e
    have := (List.mem_filter.mp hb).2
    rw [decide_eq_true ha] at this
    cases this
  · rcases List.mem_append.mp hx with h1 | h1
    · exact h.mem x h1
    · exact k.mem x (List.mem_filter.mp h1).1
/-- a good row is told by its members -/
theorem Good.ext {xs ys : List Str} (h : Good xs) (k : Good ys) (e : ∀ x, x ∈ xs ↔ x ∈ ys) : xs = ys := by
  have p : xs.Perm ys := (List.perm_ext_iff_of_nodup h.nodup k.nodup).mpr e
  exact sorted_uniq p (sorted_of h.le) (sorted_of k.le)
theorem rises_pw {xs : List Str} (h : xs.Pairwise SLt) {i : Nat} (hi : i < xs.length) : risesAt xs i = true := by
  by_cases h0 : i = 0
  · subst h0
    rfl
  · rw [risesAt_eq hi h0 (by omega)]
    exact decide_eq_true (List.pairwise_iff_getElem.mp h (i - 1) i (by omega) hi (by omega))
theorem Good.none {xs ys : List Str} (h : Good xs) (l : ys.length + xs.length ≤ 8) (d : ∀ x ∈ xs, ¬ x ∈ ys) : firstWrong xs ys = none := by
  unfold firstWrong
  rw [List.find?_eq_none]
  intro i hi
  have hi := List.mem_range.mp hi
  unfold wrongAt
  rw [List.getElem?_eq_getElem hi]
  dsimp only
  rw [twelve_name _ (h.mem _ (List.getElem_mem hi)), rises_pw h.up hi, decide_eq_false (show ¬ 8 ≤ ys.length + i by omega), decide_eq_false (d _ (List.getElem_mem hi))]
  exact Bool.false_ne_true
/-! ### two conditions over the same cases -/
theorem meets_iff {hs fs cs : List Str} : meets hs fs cs = true ↔ (∀ x ∈ hs, x ∈ cs) ∧ ∀ x ∈ fs, ¬ x ∈ cs := by
  unfold meets
  rw [Bool.and_eq_true, List.all_eq_true, Bool.not_eq_true', List.any_eq_false]
  constructor
  · rintro ⟨h1, h2⟩
    exact ⟨fun x hx => of_decide_eq_true (h1 x hx), fun x hx hc => h2 x hx (decide_eq_true hc)⟩
  · rintro ⟨h1, h2⟩
    exact ⟨fun x hx => decide_eq_true (h1 x hx), fun x hx hc => h2 x hx (of_decide_eq_true hc)⟩
theorem meets_mrg {hs fs gs ks cs : List Str} : meets (mrg hs gs) (mrg fs ks) cs = (meets hs fs cs && meets gs ks cs) := by
  rw [Bool.eq_iff_iff, Bool.and_eq_true, meets_iff, meets_iff, meets_iff]
  constructor
  · rintro ⟨h1, h2⟩
    exact ⟨⟨fun x hx => h1 x (mem_mrg.mpr (.inl hx)), fun x hx => h2 x (mem_mrg.mpr (.inl hx))⟩, fun x hx => h1 x (mem_mrg.mpr (.inr hx)), fun x hx => h2 x (mem_mrg.mpr (.inr hx))⟩
  · rintro ⟨⟨h1, h2⟩, h3, h4⟩
    refine ⟨fun x hx => ?_, fun x hx => ?_⟩
    · rcases mem_mrg.mp hx with h | h
      · exact h1 x h
      · exact h3 x h
    · rcases mem_mrg.mp hx with h | h
      · exact h2 x h
      · exact h4 x h
/-- a case that meets the joined condition: what must hold, and no more -/
theorem met_case {fs ws bs : List Str} (s1 : ∀ x ∈ ws, x ∈ fs) (d : ∀ x ∈ ws, ¬ x ∈ bs) : meets ws bs (fs.filter fun x => decide (x ∈ ws)) = true := by
  rw [meets_iff]
  refine ⟨fun x hx => List.mem_filter.mpr ⟨s1 x hx, decide_eq_true hx⟩, fun x hx hc => ?_⟩
  exact d x (of_decide_eq_true (List.mem_filter.mp hc).2) hx
theorem both_iff {fs hs ks gs ls : List Str} (h1 : ∀ x ∈ hs, x ∈ fs) (h2 : ∀ x ∈ gs, x ∈ fs) :
    (∃ n, n < 2 ^ fs.length ∧ (meets hs ks (caseOf fs n) && meets gs ls (caseOf fs n)) = true) ↔ meetN (mrg hs gs) (mrg ks ls) = false := by
  constructor
  · rintro ⟨n, _, h⟩
    rw [← meets_mrg, meets_iff] at h
    unfold meetN
    rw [List.any_eq_false]
    intro x hx hc
    exact h.2 x (of_decide_eq_true hc) (h.1 x hx)
  · intro h
    obtain ⟨n, hn, e⟩ := caseOf_all (fun x => decide (x ∈ mrg hs gs)) fs
    refine ⟨n, hn, ?_⟩
    rw [← meets_mrg, e]
    refine met_case (fun x hx => ?_) (fun x hx hc => ?_)
    · rcases mem_mrg.mp hx with h' | h'
      · exact h1 x h'
      · exact h2 x h'
    · unfold meetN at h
      rw [List.any_eq_false] at h
      exact h x hx (decide_eq_true hc)
theorem within_iff {fs hs ks gs ls : List Str} (h1 : ∀ x ∈ hs, x ∈ fs) (h2 : ∀ x ∈ ls, x ∈ fs) (d : ∀ x ∈ hs, ¬ x ∈ ks) :
    withinC hs ks gs ls = true ↔ ∀ n, n < 2 ^ fs.length → (meets hs ks (caseOf fs n) && !meets gs ls (caseOf fs n)) = false := by
  unfold withinC
  rw [Bool.and_eq_true, List.all_eq_true, List.all_eq_true]
  constructor
  · rintro ⟨q1, q2⟩ n _
    cases c : meets hs ks (caseOf fs n) with
    | false => rfl
    | true =>
      have c := meets_iff.mp c
      have : meets gs ls (caseOf fs n) = true := meets_iff.mpr ⟨fun x hx => c.1 x (of_decide_eq_true (q1 x hx)), fun x hx => c.2 x (of_decide_eq_true (q2 x hx))⟩
      rw [this]
      rfl
  · intro q
    constructor
    · intro x hx
      obtain ⟨n, hn, e⟩ := caseOf_all (fun x => decide (x ∈ hs)) fs
      have h := q n hn
      rw [e, met_case h1 d, Bool.true_and] at h
      have h : meets gs ls (fs.filter fun x => decide (x ∈ hs)) = true := by
        cases c : meets gs ls (fs.filter fun x => decide (x ∈ hs)) with
        | true => rfl
        | false => rw [c] at h; cases h
      exact (List.mem_filter.mp ((meets_iff.mp h).1 x hx)).2
    · intro x hx
      obtain ⟨n, hn, e⟩ := caseOf_all (fun x => !decide (x ∈ ks)) fs
      have h := q n hn
      have m : meets hs ks (fs.filter fun x => !decide (x ∈ ks)) = true := by
        rw [meets_iff]
        refine ⟨fun y hy => List.mem_filter.mpr ⟨h1 y hy, by rw [decide_eq_false (d y hy)]; rfl⟩, fun y hy hc => ?_⟩
        have := (List.mem_filter.mp hc).2
        rw [decide_eq_true hy] at this
        cases this
      rw [e, m, Bool.true_and] at h
      have h : meets gs ls (fs.filter fun x => !decide (x ∈ ks)) = true := by
        cases c : meets gs ls (fs.filter fun x => !decide (x ∈ ks)) with
        | true => rfl
        | false => rw [c] at h; cases h
      refine decide_eq_true (Classical.byContradiction fun nk => ?_)
      exact (meets_iff.mp h).2 x hx (List.mem_filter.mpr ⟨h2 x hx, by rw [decide_eq_false nk]; rfl⟩)
end Sc
namespace Sc
open PySem PySem.Spec PyProof.Rows L2
/-! ### rules of right parts -/
structure NdOk (n : Nd) : Prop where
  nm : isName n.nm = true
  rl : isName n.rl = true
  c1 : firstWrong n.hs [] = none
  c2 : firstWrong n.fs n.hs = none
theorem name_len {x : Str} (h : isName x = true) : x.length ≤ 8 := by
  unfold isName at h
  rw [Bool.and_eq_true, Bool.and_eq_true] at h
  exact of_decide_eq_true h.2.1
theorem fw_names {xs ys : List Str} (h : firstWrong xs ys = none) : ∀ x ∈ xs, isName x = true := by
  intro x hx
  obtain ⟨i, hi, rfl⟩ := List.getElem_of_mem hx
  have := (wrongs_none h i hi).1.1
  rw [Bool.or_eq_false_iff] at this
  exact (Bool.not_eq_false' _).mp this.1
theorem fw_txts {xs ys : List Str} (h : firstWrong xs ys = none) : Txts xs := fun x hx => Nat.le_trans (name_len (fw_names h x hx)) (by decide)
theorem NdOk.len {n : Nd} (h : NdOk n) : n.hs.length ≤ 8 ∧ n.fs.length ≤ 8 := by
  have h1 := fw_len h.c1
  have h2 := fw_len h.c2
  simp only [List.length_nil] at h1
  omega
theorem fit_of {f : RF} (h : f.every NdOk) : f.Fit := fun q hq => by
  have := (RF.every_pre h q hq).len
  omega
theorem name_fine {x : Str} (h : isName x = true) : Fine x := by
  refine ⟨Nat.le_trans (name_len h) (by decide), ?_⟩
  unfold isName isLetters at h
  rw [Bool.and_eq_true, Bool.and_eq_true, List.all_eq_true] at h
  have hL : PyData.strOk letters = true := by decide +kernel
  show PyData.strOk x = true
  unfold PyData.strOk at hL ⊢
  rw [Array.all_eq_true'] at hL ⊢
  intro c hc
  exact hL c (by rw [← Array.mem_toList_iff]; exact of_decide_eq_true (h.2.2 c (by rw [Array.mem_toList_iff]; exact hc)))
theorem fw_fines {xs ys : List Str} (h : firstWrong xs ys = none) : Fines xs := fun x hx => name_fine (fw_names h x hx)
/-- names in their order -/
structure Right (xs : List Str) : Prop where
  up : xs.Pairwise SLt
  nm : ∀ x ∈ xs, isName x = true
theorem Right.sub {xs ys : List Str} (h : Right ys) (s : List.Sublist xs ys) : Right xs := ⟨h.up.sublist s, fun x hx => h.nm x (s.subset hx)⟩
theorem Right.nodup {xs : List Str} (h : Right xs) : xs.Nodup := h.up.imp fun {a b} hl e => by subst e; exact List.lt_irrefl _ hl
theorem Right.fines {xs : List Str} (h : Right xs) : Fines xs := fun x hx => name_fine (h.nm x hx)
theorem Right.none {xs ys : List Str} (h : Right xs) (l : ys.length + xs.length ≤ 8) (d : ∀ x ∈ xs, ¬ x ∈ ys) : firstWrong xs ys = none := by
  unfold firstWrong
  rw [List.find?_eq_none]
  intro i hi
  have hi := List.mem_range.mp hi
  unfold wrongAt
  rw [List.getElem?_eq_getElem hi]
  dsimp only
  rw [h.nm _ (List.getElem_mem hi), rises_pw h.up hi, decide_eq_false (show ¬ 8 ≤ ys.length + i by omega), decide_eq_false (d _ (List.getElem_mem hi))]
  exact Bool.false_ne_true
theorem Right.bad {xs : List Str} (g : Right xs) (h0 : xs ≠ []) (h1 : xs.length ≤ 60) : firstBad xs = Option.none := by
  unfold firstBad
  rw [if_neg h0, List.find?_eq_none]
  intro i hi
  have hi := List.mem_range.mp hi
  unfold badAt
  rw [List.getElem?_eq_getElem hi]
  dsimp only
  rw [g.nm _ (List.getElem_mem hi), rises_pw g.up hi, decide_eq_false (show ¬ i = 60 by omega)]
  exact Bool.false_ne_true
/-- a row of distinct names, sorted -/
theorem right_of {xs zs : List Str} (p : zs.Perm xs) (s : sortedS zs = true) (nd : xs.Nodup) (nm : ∀ x ∈ xs, isName x = true) : Right zs :=
  ⟨((sorted_pw s).and (p.nodup_iff.mpr nd)).imp fun h => lt_of h.1 h.2, fun x hx => nm x (p.mem_iff.mp hx)⟩
end Sc
namespace Sc
open PySem PySem.Spec PyProof.Rows L2
/-! ### the draws of the laws from k31 on -/
abbrev s__law_sides : Stmt := topS 55
theorem sc__law_sides : FnScope ["_law_h", "_law_facts_here", "_law_most", "_law_rest", "_law_holding", "_law_failing", "_law_k", "_law_one"] ["_law_h", "_law_facts_here", "_law_most"] (defScope s__law_sides) := ⟨rfl, rfl, rfl, by decide +kernel, rfl, by decide +kernel, by decide +kernel⟩
def ten : List Str := ["crew", "debt", "fog", "gate", "late", "mail", "noon", "paid", "rain", "warm"]
theorem ten_right : Right ten := ⟨by decide +kernel, by decide +kernel⟩
section
variable {P : Program} {w : World} {K : PySem.W.Frag} {mg : Str → Option Value} {base : Heap}
def sp_facts : Sp := fun vs H Q _ => ∃ (a l : Addr) (m : Nat), vs = [.ref a, .int (m : Nat)] ∧ RS H a l ∧ 1 ≤ m ∧ m ≤ 10 ∧ ∀ H' p fs, Kp a l H H' → H' p = some (.tup (fs.map V.str)) → H p = none → List.Sublist fs ten → 1 ≤ fs.length → fs.length ≤ m → Q (.ref p) H'
theorem ok_facts {f : Addr} {fd : FuncData} (F : Fun K "_law_facts" "_law_facts" s__law_facts f fd) (B : Blt mg) (c__law_next : Cal P w K mg base CX0 1 "_law_next" ["_law_h", "_law_limit"] sp_next) : FnOk P w K mg base CX0 2 f fd ["_law_h", "_law_most"] sp_facts := by
  refine F.ok sc__law_facts (fun vs H Q E h => by obtain ⟨a, l, c, rfl, _⟩ := h; rfl) (fun cdv A outer s H vs Q E hr h => ?_)
  obtain ⟨a, l, c, rfl, hR, c0, c1, q⟩ := h
  refine ⟨_, (pss_cons (ps_set (i := 2) sc__law_facts.nd rfl (Or.inl rfl) (pe_lst (pa_cons pe_str (pa_cons pe_str (pa_cons pe_str (pa_cons pe_str (pa_cons pe_str (pa_cons pe_str (pa_cons pe_str (pa_cons pe_str (pa_cons pe_str (pa_cons pe_str pa_nil))))))))))))
      (pss_cons (ps_set (i := 3) sc__law_facts.nd rfl (Or.inl rfl) (pe_op op_add pe_int (pe_cal c__law_next (hr.mono (by decide)) (pa_cons (pv 0) (pa_cons (pv 1) pa_nil)))))
      (pss_cons (ps_while PassesOwn.never (pt_cmpR op_gt (pe_callB call_len_seq (by rfl) B.b_len PySem.boot_len (pa_cons (pv 2) pa_nil)) (pv 3) (nomark _)) (pss_one (ps_expr (pe_bm PySem.F.plainAttrs_list PySem.F.slot_list_pop PySem.F.type_list_pop mt_popAt (pv 2) (pa_cons (pe_cal c__law_next (hr.mono (by decide)) (pa_cons (pv 0) (pa_cons (pe_callB call_len_seq (by rfl) B.b_len PySem.boot_len (pa_cons (pv 2) pa_nil)) pa_nil))) pa_nil)))))
      (pss_one (ps_ret (pe_callTy call_tuple_of (by rfl) B.b_tuple PyProof.Rows.boot_tuple (pa_cons (pv 2) pa_nil))))))), ?_⟩
  refine ⟨(by show 10 ≤ sizeLine; decide), fun p np => ?_⟩
  obtain ⟨npa, npl⟩ := hR.no np
  have k0 := (Kp.refl hR).put (o := .lst (ten.map V.str)) np
  have e0 : (upd H p (.lst (ten.map V.str))) p = some (.lst (ten.map V.str)) := upd_same
  refine ⟨_, rfl, _, rfl, a, l, _, rfl, k0.new, by omega, small_lim (by omega) (by omega), fun H1 r k1 r0 r1 => ⟨1, r, rfl, rfl, ?_⟩⟩
  obtain ⟨m, rfl⟩ := Int.eq_ofNat_of_zero_le r0
  refine ⟨fun k σ H' => ∃ zs : List Str, k = zs.length ∧ σ = [some (.ref a), some (.int (c : Nat)), some (.ref p), some (.int (1 + (m : Nat)))] ∧ Kp a l H H' ∧ H' p = some (.lst (zs.map V.str)) ∧ List.Sublist zs ten ∧ m + 1 ≤ zs.length,
    ⟨_, ten, rfl, rfl, k0.trans k1, k1.keep p _ npa npl e0, List.Sublist.refl _, (by show m + 1 ≤ 10; omega)⟩, ?_⟩
  rintro k σ H1 ⟨zs, rfl, rfl, k1, e1, sb, hc⟩
  have hz : zs.length ≤ 10 := sb.length_le
  refine ⟨.ref p, rfl, p, _, rfl, .inl (sqL_of e1), _, rfl, _, _, rfl, rfl, _, rfl, bcase (fun t1 => ?_) (fun t1 => ?_)⟩
  · have t1 : 1 + (m : Int) < ((zs.map V.str).length : Int) := of_decide_eq_true t1
    rw [List.length_map] at t1
    refine ⟨fun σ' H' => ∃ zs' : List Str, zs'.length < zs.length ∧ (σ' = [some (.ref a), some (.int (c : Nat)), some (.ref p), some (.int (1 + (m : Nat)))] ∧ Kp a l H H' ∧ H' p = some (.lst (zs'.map V.str)) ∧ List.Sublist zs' ten ∧ m + 1 ≤ zs'.length),
      fun σ' H' ⟨zs', lt, x⟩ => ⟨_, lt, zs', rfl, x⟩, ?_⟩
    refine ⟨.ref p, rfl, .inl ⟨rfl, _, sqL_of e1⟩, .ref a, rfl, .ref p, rfl, p, _, rfl, .inl (sqL_of e1), a, l, _, rfl, k1.new, by rw [List.length_map]; omega, ?_, fun H2 r k2 r0 r1 => ?_⟩
    · rw [List.length_map]
      exact Nat.lt_of_le_of_lt (Nat.log2_le_self _) (by show zs.length < 9000; omega)
    · have e2 : H2 p = some (.lst (zs.map V.str)) := k2.keep p _ npa npl e1
      rw [List.length_map] at r1
      obtain ⟨j, rfl⟩ := Int.eq_ofNat_of_zero_le r0
      have hj : j < zs.length := by omega
      have hj' : j < (zs.map V.str).length := by rw [List.length_map]; exact hj
      refine ⟨p, _, _, j, _, rfl, rfl, e2, by omega, by omega, (ixN_seq (ixN_of hj')).1, List.getElem?_eq_getElem hj', zs.eraseIdx j, ?_, rfl, (k1.trans k2).put0 np, ?_, (List.eraseIdx_sublist zs j).trans sb, ?_⟩
      · rw [List.length_eraseIdx_of_lt hj]
        omega
      · rw [upd_same, map_eraseIdx]
      · rw [List.length_eraseIdx_of_lt hj]
        omega
  · have t1 : ¬ 1 + (m : Int) < ((zs.map V.str).length : Int) := of_decide_eq_false t1
    rw [List.length_map] at t1
    refine ⟨.ref p, rfl, p, _, rfl, .inl ⟨sqL_of e1, fun t nt => q _ t zs (k1.put nt) upd_same (k1.free nt) sb (by omega) (by omega)⟩⟩
/-- the parts of a drawn condition -/
structure Side (fs hs gs : List Str) (m : Nat) : Prop where
  r1 : Right hs
  r2 : Right gs
  s1 : ∀ x ∈ hs, x ∈ fs
  s2 : ∀ x ∈ gs, x ∈ fs
  dj : ∀ x ∈ gs, ¬ x ∈ hs
  le : hs.length + gs.length ≤ m
theorem erase_perm {α : Type} : ∀ {zs : List α} {j : Nat} (h : j < zs.length), (zs[j] :: zs.eraseIdx j).Perm zs
  | z :: r, 0, _ => List.Perm.refl _
  | z :: r, j + 1, h => by
    have hj : j < r.length := by simpa using h
    have ih := erase_perm hj
    show (r[j] :: z :: r.eraseIdx j).Perm (z :: r)
    exact (List.Perm.swap _ _ _).trans (ih.cons z)
def sp_sides (K : PySem.W.Frag) : Sp := fun vs H Q _ => ∃ (a l fp : Addr) (fs : List Str) (m : Nat), vs = [.ref a, .ref fp, .int (m : Nat)] ∧ RS H a l ∧ SqT K H fp (fs.map V.str) ∧ fs.length ≤ 60 ∧ Right fs ∧ m ≤ 8 ∧
  ∀ H' p pw pb hs gs, Kp a l H H' → H' p = some (.tup [.ref pw, .ref pb]) → H' pw = some (.tup (hs.map V.str)) → H' pb = some (.tup (gs.map V.str)) → Side fs hs gs m → Q (.ref p) H'
theorem ok_sides {f : Addr} {fd : FuncData} (F : Fun K "_law_sides" "_law_sides" s__law_sides f fd) (B : Blt mg) (c__law_next : Cal P w K mg base CX0 1 "_law_next" ["_law_h", "_law_limit"] sp_next) : FnOk P w K mg base CX0 2 f fd ["_law_h", "_law_facts_here", "_law_most"] (sp_sides K) := by
  refine F.ok sc__law_sides (fun vs H Q E h => by obtain ⟨a, l, fp, fs, m, rfl, _⟩ := h; rfl) (fun cdv A outer s H vs Q E hr h => ?_)
  obtain ⟨a, l, fp, fs, m, rfl, R, hS, hl, hfs, hm, q⟩ := h
  refine ⟨_, (pss_cons (ps_par3 (i := 3) (j := 4) (l := 5) rfl sc__law_sides.nd rfl rfl rfl (by decide) (by decide) (by decide) rfl rfl rfl (pa_cons (pe_callTy call_list_of (by rfl) B.b_list PyProof.Rows.boot_list (pa_cons (pv 1) pa_nil)) (pa_cons (pe_lst pa_nil) (pa_cons (pe_lst pa_nil) pa_nil))) rfl)
      (pss_cons (ps_for PassesOwn.never rfl (pi_range1 (by rfl) B.b_range (pa_cons (pe_cal c__law_next (hr.mono (by decide)) (pa_cons (pv 0) (pa_cons (pe_op op_add (pe_callB (call_min2 rfl) (by rfl) B.b_min (by decide +kernel) (pa_cons (pv 2) (pa_cons (pe_callB call_len_seq (by rfl) B.b_len PySem.boot_len (pa_cons (pv 1) pa_nil)) pa_nil))) pe_int) pa_nil))) pa_nil)) (pg_name (i := 6) sc__law_sides.nd rfl (Or.inl rfl)) (pss_cons (ps_set (i := 7) sc__law_sides.nd rfl (Or.inl rfl) (pe_bm PySem.F.plainAttrs_list PySem.F.slot_list_pop PySem.F.type_list_pop mt_popAt (pv 3) (pa_cons (pe_cal c__law_next (hr.mono (by decide)) (pa_cons (pv 0) (pa_cons (pe_callB call_len_seq (by rfl) B.b_len PySem.boot_len (pa_cons (pv 3) pa_nil)) pa_nil))) pa_nil)))
      (pss_one (ps_if (pt_cmpR op_gt (pe_cal c__law_next (hr.mono (by decide)) (pa_cons (pv 0) (pa_cons pe_int pa_nil))) pe_int (nomark _)) (pss_one (ps_expr (pe_bm PySem.F.plainAttrs_list PySem.F.slot_list_append PySem.F.type_list_append mt_append (pv 4) (pa_cons (pv 7) pa_nil)))) (pss_one (ps_expr (pe_bm PySem.F.plainAttrs_list PySem.F.slot_list_append PySem.F.type_list_append mt_append (pv 5) (pa_cons (pv 7) pa_nil))))))))
      (pss_one (ps_ret (pe_tup (pa_cons (pe_callTy call_tuple_of (by rfl) B.b_tuple PyProof.Rows.boot_tuple (pa_cons (pe_callB cr_sortedS (by rfl) B.b_sorted (by decide +kernel) (pa_cons (pv 4) pa_nil)) pa_nil)) (pa_cons (pe_callTy call_tuple_of (by rfl) B.b_tuple PyProof.Rows.boot_tuple (pa_cons (pe_callB cr_sortedS (by rfl) B.b_sorted (by decide +kernel) (pa_cons (pv 5) pa_nil)) pa_nil)) pa_nil))))))), ?_⟩
  refine ⟨_, rfl, fp, _, rfl, .inr hS, fun lr nr => ⟨Nat.zero_le _, fun lw nw => ⟨Nat.zero_le _, fun lb nb => ⟨_, _, _, rfl, ?_⟩⟩⟩⟩
  have s1 : Same H (upd H lr (.lst (fs.map V.str))) := (Same.refl H).put nr
  have s2 : Same H (upd (upd H lr (.lst (fs.map V.str))) lw (.lst [])) := s1.put' nw
  have s3 : Same H (upd (upd (upd H lr (.lst (fs.map V.str))) lw (.lst [])) lb (.lst [])) := s2.put' nb
  have wr : lr ≠ lw := ne_of_none upd_same nw
  have wb : lw ≠ lb := ne_of_none upd_same nb
  have rb : lr ≠ lb := ne_of_none (show _ = some (HO.lst (fs.map V.str)) by rw [upd_ne wr]; exact upd_same) nb
  have er : (upd (upd (upd H lr (.lst (fs.map V.str))) lw (.lst [])) lb (.lst [])) lr = some (.lst (fs.map V.str)) := by rw [upd_ne rb, upd_ne wr]; exact upd_same
  have ew : (upd (upd (upd H lr (.lst (fs.map V.str))) lw (.lst [])) lb (.lst [])) lw = some (.lst (([] : List Str).map V.str)) := by rw [upd_ne wb]; exact upd_same
  have eb : (upd (upd (upd H lr (.lst (fs.map V.str))) lw (.lst [])) lb (.lst [])) lb = some (.lst (([] : List Str).map V.str)) := upd_same
  have fw : H lw = none := s1.free nw
  have fb : H lb = none := s2.free nb
  generalize upd (upd (upd H lr (.lst (fs.map V.str))) lw (.lst [])) lb (.lst []) = H0 at s3 er ew eb ⊢
  obtain ⟨ra, rl⟩ := R.no nr
  obtain ⟨wa, wl⟩ := R.no fw
  obtain ⟨ba, bl⟩ := R.no fb
  have k0 := Kp.of R s3
  have hmn : (if (fs.length : Int) < m then (fs.length : Int) else m) = ((min fs.length m : Nat) : Int) := by split <;> omega
  refine ⟨_, rfl, _, rfl, _, rfl, fp, _, rfl, .inr (k0.tup hS), _, _, rfl, _, 1, rfl, rfl, ?_⟩
  rw [List.length_map, hmn]
  refine ⟨a, l, _, rfl, k0.new, by omega, small_lim (by omega) (by omega), fun H1 r k1 r0 r1 => ?_⟩
  obtain ⟨n, rfl⟩ := Int.eq_ofNat_of_zero_le r0
  have hn : n ≤ min fs.length m := by omega
  have hnd := hfs.nodup
  refine ⟨_, rfl, by omega, by omega, for_it walk_range (fun i σ H' => ∃ (rest ws bs : List Str) (y6 y7 : Option V), σ = [some (.ref a), some (.ref fp), some (.int (m : Nat)), some (.ref lr), some (.ref lw), some (.ref lb), y6, y7] ∧ Kp a l H H' ∧ H' lr = some (.lst (rest.map V.str)) ∧ H' lw = some (.lst (ws.map V.str)) ∧ H' lb = some (.lst (bs.map V.str)) ∧
      (rest ++ (ws ++ bs)).Perm fs ∧ ws.length + bs.length = i)
    ⟨fs, [], [], none, none, rfl, k0.trans k1, k1.keep _ _ ra rl er, k1.keep _ _ wa wl ew, k1.keep _ _ ba bl eb, by rw [List.append_nil, List.append_nil], rfl⟩ (fun _ _ _ _ _ => trivial) ?_ ?_⟩
  · rintro i y σ H3 H2 hi ⟨rest, ws, bs, y6, y7, rfl, k, er, ew, eb, hp, hlen⟩ ⟨rfl, hy⟩
    have hi : i < n := hi
    have hpl := hp.length_eq
    rw [List.length_append, List.length_append] at hpl
    refine ⟨_, rfl, .inl ⟨rfl, _, sqL_of er⟩, _, rfl, _, rfl, lr, _, rfl, .inl (sqL_of er), a, l, _, rfl, k.new, by rw [List.length_map]; omega, small_lim (by omega) (by rw [List.length_map]; omega), fun H4 r4 k4 r40 r41 => ?_⟩
    rw [List.length_map] at r41
    obtain ⟨j, rfl⟩ := Int.eq_ofNat_of_zero_le r40
    have hj : j < rest.length := by omega
    have hj' : j < (rest.map V.str).length := by rw [List.length_map]; exact hj
    have er4 := k4.keep _ _ ra rl er
    have ew4 := k4.keep _ _ wa wl ew
    have eb4 := k4.keep _ _ ba bl eb
    refine ⟨lr, _, _, j, _, rfl, rfl, er4, by omega, by omega, (ixN_seq (ixN_of hj')).1, List.getElem?_eq_getElem hj', ?_⟩
    rw [List.getElem_map]
    have k5 : Kp a l H (upd H4 lr (.lst ((rest.eraseIdx j).map V.str))) := (k.trans k4).put0 nr
    have er5 : (upd H4 lr (.lst ((rest.eraseIdx j).map V.str))) lr = some (.lst ((rest.eraseIdx j).map V.str)) := upd_same
    have ew5 : (upd H4 lr (.lst ((rest.eraseIdx j).map V.str))) lw = some (.lst (ws.map V.str)) := by rw [upd_ne wr.symm]; exact ew4
    have eb5 : (upd H4 lr (.lst ((rest.eraseIdx j).map V.str))) lb = some (.lst (bs.map V.str)) := by rw [upd_ne rb.symm]; exact eb4
    have hpe := erase_perm hj
    rw [map_eraseIdx]
    generalize upd H4 lr (.lst ((rest.eraseIdx j).map V.str)) = H5 at k5 er5 ew5 eb5 ⊢
    refine ⟨_, rfl, a, l, 3, rfl, k5.new, by decide, small_lim (by decide) (by decide), fun H6 r6 k6 r60 r61 => ⟨r6, 0, rfl, rfl, _, rfl, ?_⟩⟩
    have kk := k5.trans k6
    have er6 := k6.keep _ _ ra rl er5
    have ew6 := k6.keep _ _ wa wl ew5
    have eb6 := k6.keep _ _ ba bl eb5
    refine bcase (fun c1 => ?_) (fun c1 => ?_)
    · refine ⟨_, rfl, .inl ⟨rfl, _, sqL_of ew6⟩, _, rfl, lw, _, _, rfl, rfl, ew6, by rw [List.length_map]; exact small1000 (by omega), ?_⟩
      refine ⟨rest.eraseIdx j, ws ++ [rest[j]], bs, _, _, rfl, kk.put0 fw, by rw [upd_ne wr]; exact er6, by rw [upd_same, List.map_append]; rfl, by rw [upd_ne wb.symm]; exact eb6, ?_, by rw [List.length_append, List.length_singleton]; omega⟩
      refine List.Perm.trans ?_ hp
      refine List.Perm.trans ?_ (hpe.append_right (ws ++ bs))
      show (rest.eraseIdx j ++ ((ws ++ [rest[j]]) ++ bs)).Perm (rest[j] :: (rest.eraseIdx j ++ (ws ++ bs)))
      rw [List.append_assoc, ← List.append_assoc]
      have h1 : ((rest.eraseIdx j ++ ws) ++ ([rest[j]] ++ bs)).Perm (rest[j] :: ((rest.eraseIdx j ++ ws) ++ bs)) := List.perm_middle
      rw [List.append_assoc (rest.eraseIdx j) ws bs] at h1
      exact h1
    · refine ⟨_, rfl, .inl ⟨rfl, _, sqL_of eb6⟩, _, rfl, lb, _, _, rfl, rfl, eb6, by rw [List.length_map]; exact small1000 (by omega), ?_⟩
      refine ⟨rest.eraseIdx j, ws, bs ++ [rest[j]], _, _, rfl, kk.put0 fb, by rw [upd_ne rb]; exact er6, by rw [upd_ne wb]; exact ew6, by rw [upd_same, List.map_append]; rfl, ?_, by rw [List.length_append, List.length_singleton]; omega⟩
      refine List.Perm.trans ?_ hp
      refine List.Perm.trans ?_ (hpe.append_right (ws ++ bs))
      show (rest.eraseIdx j ++ (ws ++ (bs ++ [rest[j]]))).Perm (rest[j] :: (rest.eraseIdx j ++ (ws ++ bs)))
      rw [← List.append_assoc, ← List.append_assoc, ← List.append_assoc]
      exact List.perm_append_singleton _ _
  · rintro σ H2 ⟨rest, ws, bs, y6, y7, rfl, k, er, ew, eb, hp, hlen⟩
    have hlen : ws.length + bs.length = n := hlen
    have hsub : (ws ++ bs).Perm (ws ++ bs) := List.Perm.refl _
    have hnd2 : (rest ++ (ws ++ bs)).Nodup := hp.nodup_iff.mpr hnd
    have hin : ∀ x ∈ ws ++ bs, x ∈ fs := fun x hx => hp.mem_iff.mp (List.mem_append_right _ hx)
    have nd3 : (ws ++ bs).Nodup := (List.nodup_append.mp hnd2).2.1
    have ndw := (List.nodup_append.mp nd3).1
    have ndb := (List.nodup_append.mp nd3).2.1
    refine ⟨_, rfl, lw, ws, rfl, sqL_of ew, by omega, fun zs p hz1 hz2 np => ?_⟩
    have s4 : Same H2 (upd H2 p (.lst (zs.map V.str))) := (Same.refl H2).put np
    have e4 : (upd H2 p (.lst (zs.map V.str))) p = some (.lst (zs.map V.str)) := upd_same
    generalize upd H2 p (.lst (zs.map V.str)) = H3 at s4 e4 ⊢
    refine ⟨p, _, rfl, .inl ⟨sqL_of e4, fun t nt => ?_⟩⟩
    have s5 : Same H3 (upd H3 t (.tup (zs.map V.str))) := (Same.refl H3).put nt
    have e5 : (upd H3 t (.tup (zs.map V.str))) t = some (.tup (zs.map V.str)) := upd_same
    generalize upd H3 t (.tup (zs.map V.str)) = H4 at s5 e5 ⊢
    have s25 := s4.trans s5
    refine ⟨_, rfl, lb, bs, rfl, sqL_of (s25 _ _ eb), by omega, fun zs2 p2 hy1 hy2 np2 => ?_⟩
    have s6 : Same H4 (upd H4 p2 (.lst (zs2.map V.str))) := (Same.refl H4).put np2
    have e6 : (upd H4 p2 (.lst (zs2.map V.str))) p2 = some (.lst (zs2.map V.str)) := upd_same
    generalize upd H4 p2 (.lst (zs2.map V.str)) = H5 at s6 e6 ⊢
    refine ⟨p2, _, rfl, .inl ⟨sqL_of e6, fun t2 nt2 => ?_⟩⟩
    have s7 : Same H5 (upd H5 t2 (.tup (zs2.map V.str))) := (Same.refl H5).put nt2
    have e7 : (upd H5 t2 (.tup (zs2.map V.str))) t2 = some (.tup (zs2.map V.str)) := upd_same
    generalize upd H5 t2 (.tup (zs2.map V.str)) = H6 at s7 e7 ⊢
    refine ⟨(by show 2 ≤ sizeLine; decide), fun t3 nt3 => ?_⟩
    have s8 : Same H6 (upd H6 t3 (.tup [.ref t, .ref t2])) := (Same.refl H6).put nt3
    have s47 := (s6.trans s7).trans s8
    refine q _ t3 t t2 zs zs2 (k.same (s25.trans s47)) upd_same (s47 _ _ e5) (s8 _ _ e7) ⟨right_of hz1 hz2 ndw fun x hx => hfs.nm x (hin x (List.mem_append_left _ hx)), right_of hy1 hy2 ndb fun x hx => hfs.nm x (hin x (List.mem_append_right _ hx)), fun x hx => hin x (List.mem_append_left _ (hz1.mem_iff.mp hx)), fun x hx => hin x (List.mem_append_right _ (hy1.mem_iff.mp hx)), fun x hx hw => (List.nodup_append.mp nd3).2.2 x (hz1.mem_iff.mp hw) x (hy1.mem_iff.mp hx) rfl, ?_⟩
    rw [hz1.length_eq, hy1.length_eq]
    omega
end
end Sc
namespace Sc
open PySem PySem.Spec PyProof.Rows L2
abbrev s__law_rule : Stmt := topS 56
theorem sc__law_rule : FnScope ["_law_h", "_law_facts_here", "_law_names", "_law_deep", "_law_name", "_law_sides_here", "_law_ruling", "_law_inner", "_law_k"] ["_law_h", "_law_facts_here", "_law_names", "_law_deep"] (defScope s__law_rule) := ⟨rfl, rfl, rfl, by decide +kernel, rfl, by decide +kernel, by decide +kernel⟩
abbrev s__law_drawn : Stmt := topS 57
theorem sc__law_drawn : FnScope ["_law_h", "_law_facts_here", "_law_most", "_law_names", "_law_rules", "_law_k"] ["_law_h", "_law_facts_here", "_law_most"] (defScope s__law_drawn) := ⟨rfl, rfl, rfl, by decide +kernel, rfl, by decide +kernel, by decide +kernel⟩
def three : List Str := ["fine", "free", "warn"]
theorem three_name : ∀ x ∈ three, isName x = true := by decide +kernel
theorem pe_wk {X : Cx} {e : Expr} {t : TE} (t' : TE) (h : PE X e t) (w : ∀ σ H Q, t' σ H Q → t σ H Q) : PE X e t' := ⟨fun pins s σ H Q I x => h.run pins s σ H Q I (w σ H Q x)⟩
/-- a drawn rule of such facts -/
structure N2 (fs : List Str) (n : Nd) : Prop where
  ok : NdOk n
  s1 : ∀ x ∈ n.hs, x ∈ fs
  s2 : ∀ x ∈ n.fs, x ∈ fs
/-- next(3) if deep > 0 else 0 -/
def tCount : TE := fun σ H Q => ∃ (a l : Addr) (deep : Nat), σ[0]? = some (some (.ref a)) ∧ σ[3]? = some (some (.int (deep : Nat))) ∧ RS H a l ∧ ∀ H' (n : Nat), Kp a l H H' → n ≤ 2 → (n = 0 ∨ 0 < deep) → Q (.int (n : Nat)) H'
section
variable {P : Program} {w : World} {K : PySem.W.Frag} {mg : Str → Option Value} {base : Heap}
def sp_rule2 (K : PySem.W.Frag) (d : Nat) : Sp := fun vs H Q _ => ∃ (a l fp nl : Addr) (fs : List Str) (x : Str) (ns : List Str) (deep : Nat), vs = [.ref a, .ref fp, .ref nl, .int (deep : Nat)] ∧ RS H a l ∧ SqT K H fp (fs.map V.str) ∧ Right fs ∧ fs.length ≤ 60 ∧ H nl = some (.lst ((x :: ns).map V.str)) ∧ nl ≠ a ∧ nl ≠ l ∧
  (∀ y ∈ x :: ns, isName y = true) ∧ ns.length ≤ 20 ∧ deep ≤ d ∧
  ∀ H' v n ns', Kc a l nl H H' → RowAt K H' v n → N2 fs n → n.exc.every (N2 fs) → n.nm :: (n.exc.names ++ ns') = x :: ns → H' nl = some (.lst (ns'.map V.str)) → n.exc.dep ≤ deep → Q v H'
theorem ok_rule2 {d : Nat} {f : Addr} {fd : FuncData} (F : Fun K "_law_rule" "_law_rule" s__law_rule f fd) (B : Blt mg) (c__law_next : Cal P w K mg base CX0 1 "_law_next" ["_law_h", "_law_limit"] sp_next) (c__law_sides : Cal P w K mg base CX0 2 "_law_sides" ["_law_h", "_law_facts_here", "_law_most"] (sp_sides K))
    (c__law_rule : Cal P w K mg base CX0 (d + 2) "_law_rule" ["_law_h", "_law_facts_here", "_law_names", "_law_deep"] (Below (sp_rule2 K) d)) : FnOk P w K mg base CX0 (d + 3) f fd ["_law_h", "_law_facts_here", "_law_names", "_law_deep"] (sp_rule2 K d) := by
  refine F.ok sc__law_rule (fun vs H Q E h => by obtain ⟨a, l, fp, nl, fs, x, ns, deep, rfl, _⟩ := h; rfl) (fun cdv A outer s H vs Q E hr h => ?_)
  obtain ⟨a, l, fp, nl, fs, x, ns, deep, rfl, R, hS, hfs, hfl, en, na, nl', hnm, hnl, hd, q⟩ := h
  refine ⟨_, (pss_cons (ps_par (i := 4) (j := 5) rfl sc__law_rule.nd rfl rfl (by decide) rfl rfl (pa_cons (pe_bm PySem.F.plainAttrs_list PySem.F.slot_list_pop PySem.F.type_list_pop mt_popAt (pv 2) (pa_cons pe_int pa_nil)) (pa_cons (pe_cal c__law_sides (hr.mono (by omega)) (pa_cons (pv 0) (pa_cons (pv 1) (pa_cons pe_int pa_nil)))) pa_nil)) rfl)
      (pss_cons (ps_par (i := 6) (j := 7) rfl sc__law_rule.nd rfl rfl (by decide) rfl rfl (pa_cons (pe_ix ix_list (pe_lst (pa_cons pe_str (pa_cons pe_str (pa_cons pe_str pa_nil)))) (pe_cal c__law_next (hr.mono (by omega)) (pa_cons (pv 0) (pa_cons pe_int pa_nil))) (fun _ _ => rfl)) (pa_cons (pe_lst pa_nil) pa_nil)) rfl)
      (pss_cons (ps_for PassesOwn.never rfl (pi_range1 (by rfl) B.b_range (pa_cons (pe_wk (tCount) (pe_ifExp (pt_cmpR op_gt (pv 3) pe_int (nomark _)) (pe_cal c__law_next (hr.mono (by omega)) (pa_cons (pv 0) (pa_cons pe_int pa_nil))) pe_int) ?we) pa_nil)) (pg_name (i := 8) sc__law_rule.nd rfl (Or.inl rfl)) (pss_one (ps_if (pt_cmpR (op_neD hr.units) (pv 2) (pe_lst pa_nil) (nomark _)) (pss_one (ps_expr (pe_bm PySem.F.plainAttrs_list PySem.F.slot_list_append PySem.F.type_list_append mt_append (pv 7) (pa_cons (pe_cal c__law_rule hr (pa_cons (pv 0) (pa_cons (pv 1) (pa_cons (pv 2) (pa_cons (pe_op op_sub (pv 3) pe_int) pa_nil))))) pa_nil)))) pss_nil)))
      (pss_one (ps_ret (pe_tup (pa_cons (pv 4) (pa_cons (pe_ix ix_tup (pv 5) pe_int (fun _ _ => rfl)) (pa_cons (pe_ix ix_tup (pv 5) pe_int (fun _ _ => rfl)) (pa_cons (pv 6) (pa_cons (pe_callTy call_tuple_of (by rfl) B.b_tuple PyProof.Rows.boot_tuple (pa_cons (pv 7) pa_nil)) pa_nil))))))))))), ?_⟩
  case we =>
    rintro σ H1 Q1 ⟨a, l, deep, g0, g3, R, q⟩
    refine ⟨_, g3, deep, 0, rfl, rfl, _, rfl, bcase (fun c1 => ?_) (fun c1 => ?_)⟩
    · have c1 : 0 < deep := by have := of_decide_eq_true c1; omega
      refine ⟨_, g0, a, l, 3, rfl, R, by decide, small_lim (by decide) (by decide), fun H2 r k r0 r1 => ?_⟩
      obtain ⟨m, rfl⟩ := Int.eq_ofNat_of_zero_le r0
      exact q H2 m k (by omega) (.inr c1)
    · exact q H1 0 (Kp.refl R) (by decide) (.inl rfl)
  have hix : 0 < ((x :: ns).map V.str).length := by rw [List.length_map, List.length_cons]; omega
  refine ⟨_, rfl, .inl ⟨rfl, _, sqL_of en⟩, nl, _, _, 0, .str x, rfl, rfl, en, by omega, by decide, (ixN_seq (ixN_of hix)).1, rfl, ?_⟩
  have k1 : Kc a l nl H (upd H nl (.lst (ns.map V.str))) := (Kc.of R (Same.refl H)).count na nl'
  have en1 : (upd H nl (.lst (ns.map V.str))) nl = some (.lst (ns.map V.str)) := upd_same
  rw [show ((x :: ns).map V.str).eraseIdx 0 = ns.map V.str from rfl]
  generalize upd H nl (.lst (ns.map V.str)) = H1 at k1 en1 ⊢
  refine ⟨_, rfl, _, rfl, a, l, fp, fs, 2, rfl, k1.new, (k1.keeps en).tup hS, hfl, hfs, by decide, fun H2 p pw pb hs gs k2 ep epw epb sd => ⟨_, _, rfl, ?_⟩⟩
  have kc2 := k1.trans (Kp.kc k2)
  have en2 := k2.keep _ _ na nl' en1
  refine ⟨(by show 3 ≤ sizeLine; decide), fun lp nlp => ?_⟩
  have s3 : Same H2 (upd H2 lp (.lst (three.map V.str))) := (Same.refl H2).put nlp
  have elp : (upd H2 lp (.lst (three.map V.str))) lp = some (.lst (three.map V.str)) := upd_same
  obtain ⟨la, ll⟩ := kc2.new.no nlp
  have R3 := kc2.new.same s3
  refine ⟨_, rfl, a, l, 3, rfl, R3, by decide, small_lim (by decide) (by decide), fun H4 r4 k4 r40 r41 => ?_⟩
  obtain ⟨j, rfl⟩ := Int.eq_ofNat_of_zero_le r40
  have hj : j < three.length := by show j < 3; omega
  have elp4 := k4.keep _ _ la ll elp
  refine ⟨lp, _, _, .str three[j], rfl, rfl, sqL_of elp4, atI_nat (j := j) (by rw [List.getElem?_map, List.getElem?_eq_getElem hj]; rfl), ?_⟩
  have hrl : three[j] ∈ three := List.getElem_mem hj
  generalize three[j] = rl at hrl ⊢
  refine ⟨Nat.zero_le _, fun li ni => ⟨_, _, rfl, ?_⟩⟩
  have kp24 : Keeps NoL H2 H4 := s3.keeps.trans k4.keepsN
  have kc4 := (kc2.same s3).trans (Kp.kc k4)
  have en4 := k4.keep _ _ na nl' (s3 _ _ en2)
  obtain ⟨ia, il⟩ := kc4.new.no ni
  have inl : li ≠ nl := fun z => by rw [z, en4] at ni; cases ni
  have s5 : Same H4 (upd H4 li (.lst [])) := (Same.refl H4).put ni
  have ei5 : (upd H4 li (.lst [])) li = some (.lst []) := upd_same
  have fi : H li = none := kc4.free en4 ni
  have kc5 := kc4.same s5
  have en5 := s5 _ _ en4
  have kp25 : Keeps NoL H2 (upd H4 li (.lst [])) := kp24.trans s5.keeps
  generalize upd H4 li (.lst []) = H5 at s5 ei5 kc5 en5 kp25 ⊢
  refine ⟨a, l, deep, rfl, rfl, kc5.new, fun H6 n6 k6 hn6 hdn => ?_⟩
  have hxn := hnm x List.mem_cons_self
  refine ⟨_, rfl, by omega, by omega, for_it walk_range (fun i σ H' => ∃ (g : RF) (us : List V) (ns' : List Str) (y8 : Option V), σ = [some (.ref a), some (.ref fp), some (.ref nl), some (.int (deep : Nat)), some (.str x), some (.ref p), some (.str rl), some (.ref li), y8] ∧ Kc a l nl H H' ∧ Keeps NoL H2 H' ∧ H' li = some (.lst us) ∧ RowsAt K H' g us ∧ g.every (N2 fs) ∧
      g.names ++ ns' = ns ∧ H' nl = some (.lst (ns'.map V.str)) ∧ g.dep ≤ deep)
    ⟨.nil, [], ns, none, rfl, kc5.trans (Kp.kc k6), kp25.trans k6.keepsN, k6.keep _ _ ia il ei5, rfl, trivial, rfl, k6.keep _ _ na nl' en5, Nat.zero_le _⟩ (fun _ _ _ _ _ => trivial) ?_ ?_⟩
  · rintro i y σ H8 H7 hi ⟨g, us, ns', y8, rfl, kc, kp, ei, hg, hev, hnn, en, hdp⟩ ⟨rfl, hy⟩
    have hi : i < n6 := hi
    have hd0 : 0 < deep := by omega
    have hsub : ∀ y ∈ ns', isName y = true := fun y hy => hnm y (List.mem_cons_of_mem _ (by rw [← hnn]; exact List.mem_append_right _ hy))
    have hln : g.names.length + ns'.length = ns.length := by rw [← List.length_append, hnn]
    refine ⟨_, rfl, Nat.zero_le _, fun te nte => ⟨.list (ns'.map PyData.str), .list [], .lst (sqL_of (by rw [upd_ne (ne_of_none en nte)]; exact en)) (dps K _ _), .lst sqL_new .nil, shL (fun z hz => name_fine (hsub z hz)), rfl, _, rfl, ?_⟩⟩
    have ed : (PyData.list (ns'.map PyData.str)).eqv (.list []) = decide (ns' = []) := eqvA_nil _
    rw [ed]
    have s9 : Same H7 (upd H7 te (.lst [])) := (Same.refl H7).put nte
    have en9 := s9 _ _ en
    have ei9 := s9 _ _ ei
    have kc9 := kc.same s9
    have kp9 : Keeps NoL H2 (upd H7 te (.lst [])) := kp.trans s9.keeps
    have hg9 := hg.keeps (N := NoL) s9.keeps
    generalize upd H7 te (.lst []) = H9 at s9 en9 ei9 kc9 kp9 hg9 ⊢
    refine bcase (fun c1 => ?_) (fun c1 => ?_)
    · have c1 : ns' ≠ [] := of_decide_eq_false ((Bool.not_eq_true' _).mp c1)
      obtain ⟨x', r', rfl⟩ := List.exists_cons_of_ne_nil c1
      obtain ⟨d, rfl⟩ : ∃ d', d = d' + 1 := ⟨d - 1, by omega⟩
      refine ⟨_, rfl, .inl ⟨rfl, _, sqL_of ei9⟩, _, rfl, _, rfl, _, rfl, _, rfl, deep, 1, rfl, rfl, ?_⟩
      rw [List.length_cons] at hln
      refine ⟨a, l, fp, nl, fs, x', r', deep - 1, (by show [V.ref a, V.ref fp, V.ref nl, V.int ((deep : Int) - 1)] = _; rw [show (deep : Int) - 1 = ((deep - 1 : Nat) : Int) by omega]), kc9.new, (kc9.keeps (show H nl = some (.lst ((x :: ns).map V.str)) by assumption)).tup hS, hfs, hfl, en9, na, nl', hsub, by omega, by omega, fun H10 v n ns2 k10 hrow hN hNe hnn2 en10 hdn2 => ?_⟩
      have ei10 := k10.keep _ _ ia il inl ei9
      have kk10 : Keeps NoL H9 H10 := k10.keeps en9
      refine ⟨li, _, _, rfl, rfl, ei10, ?_, ?_⟩
      · have := hg.len
        have h2 := RF.nodes_le g
        have h3 : g.names.length = g.size := by unfold RF.names; rw [List.length_map, RF.pre_len]
        exact small1000 (by omega)
      have kw : Keeps NoL H10 (upd H10 li (.lst (us ++ [v]))) := keeps_own ei10 id
      refine ⟨g.snoc n, us ++ [v], ns2, _, rfl, (kc9.trans k10).put0 fi, (kp9.trans kk10).trans kw, upd_same, rows_snoc ((hg9.keeps kk10).keeps kw) (hrow.keeps kw), RF.snoc_every hev hN hNe, ?_, by rw [upd_ne inl.symm]; exact en10, ?_⟩
      · rw [RF.snoc_names, ← hnn, ← hnn2, List.append_assoc]
        rfl
      · rw [RF.snoc_dep]
        omega
    · exact ⟨g, us, ns', _, rfl, kc9, kp9, ei9, hg9, hev, hnn, en9, hdp⟩
  · rintro σ H7 ⟨g, us, ns', y8, rfl, kc, kp, ei, hg, hev, hnn, en, hdp⟩
    have ep7 : SqT K H7 p [.ref pw, .ref pb] := kp.tup (sqT_of ep)
    refine ⟨_, rfl, _, rfl, p, _, 0, _, rfl, rfl, ep7, atI_nat (j := 0) rfl, _, rfl, p, _, 1, _, rfl, rfl, ep7, atI_nat (j := 1) rfl, _, rfl, _, rfl, li, _, rfl, .inl ⟨sqL_of ei, fun t nt => ?_⟩⟩
    have s8 : Same H7 (upd H7 t (.tup us)) := (Same.refl H7).put nt
    have e8 : (upd H7 t (.tup us)) t = some (.tup us) := upd_same
    generalize upd H7 t (.tup us) = H8 at s8 e8 ⊢
    refine ⟨(by show 5 ≤ sizeLine; decide), fun t2 nt2 => ?_⟩
    have s9 : Same H8 (upd H8 t2 (.tup [.str x, .ref pw, .ref pb, .str rl, .ref t])) := (Same.refl H8).put nt2
    have e9 : (upd H8 t2 (.tup [.str x, .ref pw, .ref pb, .str rl, .ref t])) t2 = some (.tup [.str x, .ref pw, .ref pb, .str rl, .ref t]) := upd_same
    have s79 := s8.trans s9
    have kp9 : Keeps NoL H2 _ := kp.trans s79.keeps
    have h8 := sd.le
    refine q _ (.ref t2) ⟨x, hs, gs, rl, g⟩ ns' (kc.same s79) ⟨t2, pw, pb, t, us, rfl, sqT_of e9, kp9.tup (sqT_of epw), kp9.tup (sqT_of epb), sqT_of (s9 _ _ e8), hg.keeps (N := NoL) s79.keeps⟩ ⟨⟨hxn, three_name _ hrl, sd.r1.none (by show 0 + hs.length ≤ 8; omega) (fun _ _ h => nomatch h), sd.r2.none (by show hs.length + gs.length ≤ 8; omega) sd.dj⟩, sd.s1, sd.s2⟩ hev ?_ (s79 _ _ en) hdp
    show x :: (g.names ++ ns') = x :: ns
    rw [hnn]
theorem Kc.kp {H H' : Hp} {a l c : Addr} (k : Kc a l c H H') (n : H c = none) : Kp a l H H' := ⟨k.old, k.new, fun b o m1 m2 e => k.keep b o m1 m2 (ne_of_none e n) e⟩
/-- the names that rules are drawn from -/
def names12 : List Str := ["hue", "ox", "ab", "ivy", "tar", "bay", "elm", "sun", "cat", "zed", "kin", "rye"]
theorem names12_name : ∀ x ∈ names12, isName x = true := by decide +kernel
theorem names12_nodup : names12.Nodup := by decide +kernel
/-- a drawn book -/
structure Drawn2 (K : PySem.W.Frag) (H : Hp) (p fp : Addr) (fs : List Str) (f : RF) (rl : Str) : Prop where
  at_ : ∃ (pr : Addr) (ws : List V), H p = some (.tup [.ref fp, .ref pr, .str rl]) ∧ SqT K H pr ws ∧ RowsAt K H f ws
  ev : f.every (N2 fs)
  nm : ∃ k ns, f.names ++ ns = names12.drop k
  dp : f.dep ≤ 3
  rl : rl ∈ three
def sp_drawn (K : PySem.W.Frag) : Sp := fun vs H Q _ => ∃ (a l fp : Addr) (fs : List Str) (m : Nat), vs = [.ref a, .ref fp, .int (m : Nat)] ∧ RS H a l ∧ SqT K H fp (fs.map V.str) ∧ Right fs ∧ fs.length ≤ 60 ∧ m ≤ 20 ∧
  ∀ H' p f rl, Kp a l H H' → Drawn2 K H' p fp fs f rl → f.nodes.length ≤ m → Q (.ref p) H'
theorem ok_drawn {f : Addr} {fd : FuncData} (F : Fun K "_law_drawn" "_law_drawn" s__law_drawn f fd) (B : Blt mg) (c__law_next : Cal P w K mg base CX0 1 "_law_next" ["_law_h", "_law_limit"] sp_next)
    (c__law_rule : Cal P w K mg base CX0 5 "_law_rule" ["_law_h", "_law_facts_here", "_law_names", "_law_deep"] (sp_rule2 K 2)) : FnOk P w K mg base CX0 6 f fd ["_law_h", "_law_facts_here", "_law_most"] (sp_drawn K) := by
  refine F.ok sc__law_drawn (fun vs H Q E h => by obtain ⟨a, l, fp, fs, m, rfl, _⟩ := h; rfl) (fun cdv A outer s H vs Q E hr h => ?_)
  obtain ⟨a, l, fp, fs, m, rfl, R, hS, hfs, hfl, hm, q⟩ := h
  refine ⟨_, (pss_cons (ps_par (i := 3) (j := 4) rfl sc__law_drawn.nd rfl rfl (by decide) rfl rfl (pa_cons (pe_lst (pa_cons pe_str (pa_cons pe_str (pa_cons pe_str (pa_cons pe_str (pa_cons pe_str (pa_cons pe_str (pa_cons pe_str (pa_cons pe_str (pa_cons pe_str (pa_cons pe_str (pa_cons pe_str (pa_cons pe_str pa_nil))))))))))))) (pa_cons (pe_lst pa_nil) pa_nil)) rfl)
      (pss_cons (ps_set (i := 3) sc__law_drawn.nd rfl (Or.inl rfl) (pe_slice sl_list (pv 3) (po_some (pe_cal c__law_next (hr.mono (by decide)) (pa_cons (pv 0) (pa_cons pe_int pa_nil)))) po_none))
      (pss_cons (ps_for PassesOwn.never rfl (pi_range1 (by rfl) B.b_range (pa_cons (pe_cal c__law_next (hr.mono (by decide)) (pa_cons (pv 0) (pa_cons (pe_op op_add (pv 2) pe_int) pa_nil))) pa_nil)) (pg_name (i := 5) sc__law_drawn.nd rfl (Or.inl rfl)) (pss_one (ps_if (pt_cmpR (op_neD hr.units) (pv 3) (pe_lst pa_nil) (nomark _)) (pss_one (ps_expr (pe_bm PySem.F.plainAttrs_list PySem.F.slot_list_append PySem.F.type_list_append mt_append (pv 4) (pa_cons (pe_cal c__law_rule (hr.mono (by decide)) (pa_cons (pv 0) (pa_cons (pv 1) (pa_cons (pv 3) (pa_cons pe_int pa_nil))))) pa_nil)))) pss_nil)))
      (pss_one (ps_ret (pe_tup (pa_cons (pv 1) (pa_cons (pe_callTy call_tuple_of (by rfl) B.b_tuple PyProof.Rows.boot_tuple (pa_cons (pv 4) pa_nil)) (pa_cons (pe_ix ix_list (pe_lst (pa_cons pe_str (pa_cons pe_str (pa_cons pe_str pa_nil)))) (pe_cal c__law_next (hr.mono (by decide)) (pa_cons (pv 0) (pa_cons pe_int pa_nil))) (fun _ _ => rfl)) pa_nil))))))))), ?_⟩
  refine ⟨(by show 12 ≤ sizeLine; decide), fun l0 n0 => ⟨Nat.zero_le _, fun li ni => ⟨_, _, rfl, ?_⟩⟩⟩
  have s1 : Same H (upd H l0 (.lst (names12.map V.str))) := (Same.refl H).put n0
  have s2 : Same H (upd (upd H l0 (.lst (names12.map V.str))) li (.lst [])) := s1.put' ni
  have i0 : l0 ≠ li := ne_of_none upd_same ni
  have e0 : (upd (upd H l0 (.lst (names12.map V.str))) li (.lst [])) l0 = some (.lst (names12.map V.str)) := by rw [upd_ne i0]; exact upd_same
  have ei : (upd (upd H l0 (.lst (names12.map V.str))) li (.lst [])) li = some (.lst []) := upd_same
  have fi : H li = none := s1.free ni
  obtain ⟨ia, il⟩ := R.no fi
  obtain ⟨za, zl⟩ := R.no n0
  have R2 := R.same s2
  refine ⟨_, rfl, _, rfl, a, l, 4, rfl, R2, by decide, small_lim (by decide) (by decide), fun H3 r k3 r0 r1 => ?_⟩
  obtain ⟨k, rfl⟩ := Int.eq_ofNat_of_zero_le r0
  have e03 : H3 l0 = some (.lst (names12.map V.str)) := k3.keep _ _ za zl e0
  have ei3 : H3 li = some (.lst []) := k3.keep _ _ ia il ei
  have k03 : Kp a l H H3 := (Kp.of R s2).trans k3
  refine ⟨_, rfl, ?_⟩
  dsimp only [tNoPart]
  refine ⟨l0, _, rfl, sqL_of e03, fun nl nnl => ?_⟩
  rw [cut_from, ← List.map_drop]
  have s4 : Same H3 (upd H3 nl (.lst ((names12.drop k).map V.str))) := (Same.refl H3).put nnl
  have en4 : (upd H3 nl (.lst ((names12.drop k).map V.str))) nl = some (.lst ((names12.drop k).map V.str)) := upd_same
  have ei4 := s4 _ _ ei3
  have fn : H nl = none := k03.free nnl
  have inl : li ≠ nl := fun z => by rw [z, nnl] at ei3; cases ei3
  have k04 := k03.same s4
  generalize upd H3 nl (.lst ((names12.drop k).map V.str)) = H4 at s4 en4 ei4 k04 ⊢
  obtain ⟨na, nl'⟩ := R.no fn
  refine ⟨_, rfl, _, rfl, m, 1, rfl, rfl, a, l, _, rfl, k04.new, by omega, small_lim (by omega) (by omega), fun H5 r5 k5 r50 r51 => ?_⟩
  obtain ⟨n5, rfl⟩ := Int.eq_ofNat_of_zero_le r50
  have hdl : (names12.drop k).length ≤ 12 := by rw [List.length_drop]; exact Nat.sub_le _ _
  have hdn : ∀ y ∈ names12.drop k, isName y = true := fun y hy => names12_name y (List.mem_of_mem_drop hy)
  refine ⟨_, rfl, by omega, by omega, for_it walk_range (fun i σ H' => ∃ (g : RF) (us : List V) (ns' : List Str) (y5 : Option V), σ = [some (.ref a), some (.ref fp), some (.int (m : Nat)), some (.ref nl), some (.ref li), y5] ∧ Kc a l nl H H' ∧ H' li = some (.lst us) ∧ RowsAt K H' g us ∧ g.every (N2 fs) ∧
      g.names ++ ns' = names12.drop k ∧ H' nl = some (.lst (ns'.map V.str)) ∧ g.dep ≤ 3 ∧ g.nodes.length ≤ i)
    ⟨.nil, [], _, none, rfl, Kp.kc (k04.trans k5), k5.keep _ _ ia il ei4, rfl, trivial, rfl, k5.keep _ _ na nl' en4, Nat.zero_le _, Nat.le_refl _⟩ (fun _ _ _ _ _ => trivial) ?_ ?_⟩
  · rintro i y σ H8 H7 hi ⟨g, us, ns', y5, rfl, kc, ei, hg, hev, hnn, en, hdp, hgl⟩ ⟨rfl, hy⟩
    have hsub : ∀ y ∈ ns', isName y = true := fun y hy => hdn y (by rw [← hnn]; exact List.mem_append_right _ hy)
    have hln : g.names.length + ns'.length = (names12.drop k).length := by rw [← List.length_append, hnn]
    refine ⟨_, rfl, Nat.zero_le _, fun te nte => ⟨.list (ns'.map PyData.str), .list [], .lst (sqL_of (by rw [upd_ne (ne_of_none en nte)]; exact en)) (dps K _ _), .lst sqL_new .nil, shL (fun z hz => name_fine (hsub z hz)), rfl, _, rfl, ?_⟩⟩
    have ed : (PyData.list (ns'.map PyData.str)).eqv (.list []) = decide (ns' = []) := eqvA_nil _
    rw [ed]
    have s9 : Same H7 (upd H7 te (.lst [])) := (Same.refl H7).put nte
    have en9 := s9 _ _ en
    have ei9 := s9 _ _ ei
    have kc9 := kc.same s9
    have hg9 := hg.keeps (N := NoL) s9.keeps
    generalize upd H7 te (.lst []) = H9 at s9 en9 ei9 kc9 hg9 ⊢
    refine bcase (fun c1 => ?_) (fun c1 => ?_)
    · have c1 : ns' ≠ [] := of_decide_eq_false ((Bool.not_eq_true' _).mp c1)
      obtain ⟨x', r', rfl⟩ := List.exists_cons_of_ne_nil c1
      refine ⟨_, rfl, .inl ⟨rfl, _, sqL_of ei9⟩, _, rfl, _, rfl, _, rfl, ?_⟩
      rw [List.length_cons] at hln
      refine ⟨a, l, fp, nl, fs, x', r', 2, rfl, kc9.new, ((kc9.kp fn).tup hS), hfs, hfl, en9, na, nl', hsub, by omega, by decide, fun H10 v n ns2 k10 hrow hN hNe hnn2 en10 hdn2 => ?_⟩
      have ei10 := k10.keep _ _ ia il inl ei9
      have kk10 : Keeps NoL H9 H10 := k10.keeps en9
      refine ⟨li, _, _, rfl, rfl, ei10, ?_, ?_⟩
      · have := hg.len
        have h2 := RF.nodes_le g
        have h3 : g.names.length = g.size := by unfold RF.names; rw [List.length_map, RF.pre_len]
        exact small1000 (by omega)
      have kw : Keeps NoL H10 (upd H10 li (.lst (us ++ [v]))) := keeps_own ei10 id
      refine ⟨g.snoc n, us ++ [v], ns2, _, rfl, (kc9.trans k10).put0 fi, upd_same, rows_snoc ((hg9.keeps kk10).keeps kw) (hrow.keeps kw), RF.snoc_every hev hN hNe, ?_, by rw [upd_ne inl.symm]; exact en10, ?_, by rw [RF.snoc_nodes, List.length_append, List.length_singleton]; omega⟩
      · rw [RF.snoc_names, ← hnn, ← hnn2, List.append_assoc]
        rfl
      · rw [RF.snoc_dep]
        omega
    · exact ⟨g, us, ns', _, rfl, kc9, ei9, hg9, hev, hnn, en9, hdp, Nat.le_succ_of_le hgl⟩
  · rintro σ H7 ⟨g, us, ns', y5, rfl, kc, ei, hg, hev, hnn, en, hdp, hgl⟩
    have hgl : g.nodes.length ≤ n5 := hgl
    refine ⟨_, rfl, _, rfl, li, _, rfl, .inl ⟨sqL_of ei, fun t nt => ?_⟩⟩
    have s8 : Same H7 (upd H7 t (.tup us)) := (Same.refl H7).put nt
    have e8 : (upd H7 t (.tup us)) t = some (.tup us) := upd_same
    have kc8 := kc.same s8
    have hg8 := hg.keeps (N := NoL) s8.keeps
    have en8 := s8 _ _ en
    generalize upd H7 t (.tup us) = H8 at s8 e8 kc8 hg8 en8 ⊢
    refine ⟨(by show 3 ≤ sizeLine; decide), fun lp nlp => ?_⟩
    have s9 : Same H8 (upd H8 lp (.lst (three.map V.str))) := (Same.refl H8).put nlp
    have elp : (upd H8 lp (.lst (three.map V.str))) lp = some (.lst (three.map V.str)) := upd_same
    obtain ⟨la, ll⟩ := kc8.new.no nlp
    have kc9 := kc8.same s9
    refine ⟨_, rfl, a, l, 3, rfl, kc9.new, by decide, small_lim (by decide) (by decide), fun H10 r10 k10 r100 r101 => ?_⟩
    obtain ⟨j, rfl⟩ := Int.eq_ofNat_of_zero_le r100
    have hj : j < three.length := by show j < 3; omega
    have elp10 := k10.keep _ _ la ll elp
    refine ⟨lp, _, _, .str three[j], rfl, rfl, sqL_of elp10, atI_nat (j := j) (by rw [List.getElem?_map, List.getElem?_eq_getElem hj]; rfl), ?_⟩
    have hrl : three[j] ∈ three := List.getElem_mem hj
    generalize three[j] = rl at hrl ⊢
    refine ⟨(by show 3 ≤ sizeLine; decide), fun t2 nt2 => ?_⟩
    have kk : Keeps NoL H8 H10 := s9.keeps.trans k10.keepsN
    have s11 : Same H10 (upd H10 t2 (.tup [.ref fp, .ref t, .str rl])) := (Same.refl H10).put nt2
    refine q _ t2 g rl ((((kc9.trans (Kp.kc k10)).kp fn)).same s11) ⟨⟨t, us, upd_same, s11.tup (kk.tup (sqT_of e8)), (hg8.keeps kk).keeps (N := NoL) s11.keeps⟩, hev, ⟨k, ns', hnn⟩, hdp, hrl⟩ (by omega)
end
end Sc
namespace Sc
open PySem PySem.Spec PyProof.Rows L2
/-! ### books as numbers -/
def letIx (c : Nat) : Nat := letters.cps.toList.idxOf c
theorem occ_let : ∀ c ∈ letters.cps.toList, (Builtin.Str.occurrences letters (⟨#[c]⟩ : Str) 0 letters.length 1).head? = some (letIx c) := by decide +kernel
theorem let_at : ∀ c ∈ letters.cps.toList, letters.cps.toList[letIx c]? = some c := by decide +kernel
theorem let_lt : ∀ c ∈ letters.cps.toList, letIx c < 26 := by decide +kernel
theorem name_let {x : Str} (h : isName x = true) : ∀ c ∈ x.cps.toList, c ∈ letters.cps.toList := by
  unfold isName isLetters at h
  rw [Bool.and_eq_true, Bool.and_eq_true, List.all_eq_true] at h
  exact fun c hc => of_decide_eq_true (h.2.2 c hc)
theorem name_pos {x : Str} (h : isName x = true) : 1 ≤ x.length := by
  unfold isName at h
  rw [Bool.and_eq_true, Bool.and_eq_true] at h
  exact of_decide_eq_true h.1
def lettC (x : Str) : List Int := x.cps.toList.map fun c => (letIx c : Int) + 1
def nameC (x : Str) : List Int := (x.length : Int) :: lettC x
theorem lettC_len {x : Str} : (lettC x).length = x.length := by unfold lettC; rw [List.length_map, Array.length_toList]; rfl
theorem nameC_len {x : Str} : (nameC x).length = x.length + 1 := by unfold nameC; rw [List.length_cons, lettC_len]
def partC (xs hs : List Str) : List Int := (hs.length : Int) :: hs.map fun h => (xs.idxOf h : Int)
theorem partC_len {xs hs : List Str} : (partC xs hs).length = hs.length + 1 := by unfold partC; rw [List.length_cons, List.length_map]
namespace RF
def codeB (xs : List Str) : RF → List Int
  | .nil => []
  | .cons nm hs fs rl exc rest => nameC nm ++ nameC rl ++ partC xs hs ++ partC xs fs ++ ((exc.nodes.length : Int) :: exc.codeB xs) ++ rest.codeB xs
def code (xs : List Str) (f : RF) : List Int := (f.nodes.length : Int) :: f.codeB xs
/-- the numbers of one rule -/
def codeN (xs : List Str) (n : Nd) : List Int := nameC n.nm ++ nameC n.rl ++ partC xs n.hs ++ partC xs n.fs ++ n.exc.code xs
theorem codeB_nodes (xs : List Str) : ∀ f : RF, f.codeB xs = f.nodes.flatMap (codeN xs)
  | .nil => rfl
  | .cons nm hs fs rl exc rest => by
    show nameC nm ++ nameC rl ++ partC xs hs ++ partC xs fs ++ ((exc.nodes.length : Int) :: exc.codeB xs) ++ rest.codeB xs = codeN xs ⟨nm, hs, fs, rl, exc⟩ ++ rest.nodes.flatMap (codeN xs)
    rw [codeB_nodes xs rest]
    rfl
theorem codeB_len {xs : List Str} : ∀ {f : RF}, f.every NdOk → (f.codeB xs).length ≤ 29 * f.size
  | .nil, _ => Nat.le_refl 0
  | .cons nm hs fs rl exc rest, ⟨h1, h2, h3⟩ => by
    have e1 := codeB_len (xs := xs) h2
    have e2 := codeB_len (xs := xs) h3
    have l1 : nm.length ≤ 8 := name_len h1.nm
    have l2 : rl.length ≤ 8 := name_len h1.rl
    have l3 : hs.length + fs.length ≤ 8 := by have := fw_len h1.c1; have := fw_len h1.c2; simp only [List.length_nil] at *; omega
    show (nameC nm ++ nameC rl ++ partC xs hs ++ partC xs fs ++ ((exc.nodes.length : Int) :: exc.codeB xs) ++ rest.codeB xs).length ≤ 29 * (exc.size + 1 + rest.size)
    rw [List.length_append, List.length_append, List.length_append, List.length_append, List.length_append, List.length_cons, nameC_len, nameC_len, partC_len, partC_len]
    omega
end RF
def factC (xs : List Str) : List Int := (xs.length : Int) :: xs.flatMap nameC
def bookC (xs : List Str) (f : RF) (rl : Str) : List Int := 66 :: (factC xs ++ f.code xs ++ nameC rl)
def chkS (t n : Int) : Int := (11 * t + n) % 247
def chk (l : List Int) : Int := l.foldl chkS 7
end Sc
namespace Sc
open PySem PySem.Spec PyProof.Rows L2
abbrev s_numbers_of_name : Stmt := topS 45
theorem sc_numbers_of_name : FnScope ["name", "letter"] ["name"] (defScope s_numbers_of_name) := ⟨rfl, rfl, rfl, by decide +kernel, rfl, by decide +kernel, by decide +kernel⟩
abbrev s__law_name_code : Stmt := topS 62
theorem sc__law_name_code : FnScope ["_law_name", "_law_sign"] ["_law_name"] (defScope s__law_name_code) := ⟨rfl, rfl, rfl, by decide +kernel, rfl, by decide +kernel, by decide +kernel⟩
abbrev s_checksum : Stmt := topS 47
theorem sc_checksum : FnScope ["numbers", "told", "number"] ["numbers"] (defScope s_checksum) := ⟨rfl, rfl, rfl, by decide +kernel, rfl, by decide +kernel, by decide +kernel⟩
abbrev s__law_checked : Stmt := topS 65
theorem sc__law_checked : FnScope ["_law_values", "_law_found", "_law_value"] ["_law_values"] (defScope s__law_checked) := ⟨rfl, rfl, rfl, by decide +kernel, rfl, by decide +kernel, by decide +kernel⟩
section
variable {P : Program} {w : World} {K : PySem.W.Frag} {mg : Str → Option Value} {base : Heap}
theorem catL {H : Hp} {a b : Addr} {xs ys : List V} {Q : VK} (e1 : H a = some (.lst xs)) (e2 : H b = some (.lst ys)) (hl : xs.length + ys.length ≤ sizeLine) (q : ∀ p H', Same H H' → H p = none → H' p = some (.lst (xs ++ ys)) → Q (.ref p) H') : rCat (.ref a) (.ref b) H Q :=
  ⟨a, b, xs, ys, rfl, rfl, e1, e2, hl, fun p np => q p _ ((Same.refl H).put np) np upd_same⟩
def sp_nname : Sp := fun vs H Q _ => ∃ (x : Str), vs = [.str x] ∧ isName x = true ∧ ∀ H' D, Same H H' → H D = none → H' D = some (.lst ((nameC x).map V.int)) → Q (.ref D) H'
theorem occ_at {x : Str} (h : isName x = true) {i : Nat} (hi : i < x.cps.size) : ∃ rest, Builtin.Str.occurrences letters (⟨#[x.cps[i]]⟩ : Str) 0 letters.length 1 = letIx x.cps[i] :: rest := by
  have := occ_let _ (name_let h _ (Array.mem_toList_iff.mpr (Array.getElem_mem hi)))
  cases e : Builtin.Str.occurrences letters (⟨#[x.cps[i]]⟩ : Str) 0 letters.length 1 with
  | nil => rw [e] at this; cases this
  | cons a r => rw [e] at this; cases this; exact ⟨r, rfl⟩
theorem ok_nname {f : Addr} {fd : FuncData} (F : Fun K "numbers_of_name" "numbers_of_name" s_numbers_of_name f fd) (B : Blt mg) (G : GNames mg) : FnOk P w K mg base CX0 1 f fd ["name"] sp_nname := by
  obtain ⟨⟨t1, m_LETTERS⟩, _⟩ := G
  refine F.ok sc_numbers_of_name (fun vs H Q E h => by obtain ⟨x, rfl, _⟩ := h; rfl) (fun cdv A outer s H vs Q E hr h => ?_)
  obtain ⟨x, rfl, hx, q⟩ := h
  have hl := name_len hx
  have hp := name_pos hx
  refine ⟨_, (pss_one (ps_ret (pe_op op_cat (pe_lst (pa_cons (pe_callB call_len_str (by rfl) B.b_len PySem.boot_len (pa_cons (pv 0) pa_nil)) pa_nil)) (pe_lc (own := [("letter", 1)]) (g := gName 1) (tt := tYes) rfl sc_numbers_of_name.nd (pi_str (pv 0)) (blkOk_by (own := [("letter", 1)]) (N := ["name", "letter"]) (sc := defScope s_numbers_of_name) (by decide +kernel)) (fun _ _ _ _ _ => (pg_name (i := 1) sc_numbers_of_name.nd rfl (Or.inl rfl))) (fun _ _ _ _ _ => pts_nil) (fun _ _ _ _ _ => (pe_.re (pe_op op_add (pe_bm PySem.F.plainAttrs_str PySem.F.slot_str_index PySem.F.type_str_index mt_sindex (pe_glob (v := .str "abcdefghijklmnopqrstuvwxyz") rfl m_LETTERS ⟨_, rfl⟩) (pa_cons (pv 1) pa_nil)) pe_int) (by first | (dsimp only [Cx.blk]; done) | exact rfl))))))), ?_⟩
  refine ⟨_, rfl, x, rfl, (by rw [sizeLine_eq]; omega), (by show 1 ≤ sizeLine; decide), fun d1 n1 => ?_⟩
  have s1 : Same H (upd H d1 (.lst [.int (x.length : Nat)])) := (Same.refl H).put n1
  have e1 : (upd H d1 (.lst [.int (x.length : Nat)])) d1 = some (.lst [.int (x.length : Nat)]) := upd_same
  generalize upd H d1 (.lst [.int (x.length : Nat)]) = H1 at s1 e1 ⊢
  refine ⟨_, rfl, x, rfl, fun D nD => lc_it walk_str (fun i H' => Same H1 H' ∧ H' D = some (.lst (((lettC x).take i).map V.int))) ⟨(Same.refl H1).put nD, upd_same⟩ (fun _ _ _ _ => trivial) ?_ ?_⟩
  · rintro i y H2 H3 hi ⟨s, e⟩ ⟨rfl, c, hc, rfl⟩
    obtain ⟨rest, ho⟩ := occ_at hx hi
    obtain rfl : x.cps[i] = c := by rw [Array.getElem?_eq_getElem hi] at hc; exact Option.some.inj hc
    have hg : (lettC x)[i]? = some ((letIx x.cps[i] : Int) + 1) := by
      unfold lettC
      rw [List.getElem?_map, Array.getElem?_toList, hc]
      rfl
    have hll := lettC_len (x := x)
    have hti := List.length_take_le i (lettC x)
    refine ⟨rfl, yes_ ⟨rfl, _, rfl, letters, _, _, rest, rfl, rfl, ho, _, _, rfl, rfl, _, e, ?_, s.put nD, ?_⟩⟩
    · rw [List.length_map, List.length_take, sizeLine_eq]
      omega
    · rw [upd_same, take_more hg, List.map_append]
      rfl
  rintro H2 ⟨s2, e2⟩
  have e2 : H2 D = some (.lst ((lettC x).map V.int)) := by
    rw [e2, List.take_of_length_le (by rw [lettC_len]; exact Nat.le_refl _)]
  have hll := lettC_len (x := x)
  exact catL (s2 _ _ e1) e2 (by rw [List.length_map, sizeLine_eq]; show 1 + _ ≤ _; omega) fun p H' s3 np ep => q H' p (s1.trans (s2.trans s3)) (s1.free (s2.free np)) ep
theorem ok_lnname {f : Addr} {fd : FuncData} (F : Fun K "_law_name_code" "_law_name_code" s__law_name_code f fd) (B : Blt mg) : FnOk P w K mg base CX0 1 f fd ["_law_name"] sp_nname := by
  refine F.ok sc__law_name_code (fun vs H Q E h => by obtain ⟨x, rfl, _⟩ := h; rfl) (fun cdv A outer s H vs Q E hr h => ?_)
  obtain ⟨x, rfl, hx, q⟩ := h
  have hl := name_len hx
  have hp := name_pos hx
  refine ⟨_, (pss_one (ps_ret (pe_op op_cat (pe_lst (pa_cons (pe_callB call_len_str (by rfl) B.b_len PySem.boot_len (pa_cons (pv 0) pa_nil)) pa_nil)) (pe_lc (own := [("_law_sign", 1)]) (g := gName 1) (tt := tYes) rfl sc__law_name_code.nd (pi_str (pv 0)) (blkOk_by (own := [("_law_sign", 1)]) (N := ["_law_name", "_law_sign"]) (sc := defScope s__law_name_code) (by decide +kernel)) (fun _ _ _ _ _ => (pg_name (i := 1) sc__law_name_code.nd rfl (Or.inl rfl))) (fun _ _ _ _ _ => pts_nil) (fun _ _ _ _ _ => (pe_.re (pe_op op_add (pe_bm PySem.F.plainAttrs_str PySem.F.slot_str_index PySem.F.type_str_index mt_sindex pe_str (pa_cons (pv 1) pa_nil)) pe_int) (by first | (dsimp only [Cx.blk]; done) | exact rfl))))))), ?_⟩
  refine ⟨_, rfl, x, rfl, (by rw [sizeLine_eq]; omega), (by show 1 ≤ sizeLine; decide), fun d1 n1 => ?_⟩
  have s1 : Same H (upd H d1 (.lst [.int (x.length : Nat)])) := (Same.refl H).put n1
  have e1 : (upd H d1 (.lst [.int (x.length : Nat)])) d1 = some (.lst [.int (x.length : Nat)]) := upd_same
  generalize upd H d1 (.lst [.int (x.length : Nat)]) = H1 at s1 e1 ⊢
  refine ⟨_, rfl, x, rfl, fun D nD => lc_it walk_str (fun i H' => Same H1 H' ∧ H' D = some (.lst (((lettC x).take i).map V.int))) ⟨(Same.refl H1).put nD, upd_same⟩ (fun _ _ _ _ => trivial) ?_ ?_⟩
  · rintro i y H2 H3 hi ⟨s, e⟩ ⟨rfl, c, hc, rfl⟩
    obtain ⟨rest, ho⟩ := occ_at hx hi
    obtain rfl : x.cps[i] = c := by rw [Array.getElem?_eq_getElem hi] at hc; exact Option.some.inj hc
    have hg : (lettC x)[i]? = some ((letIx x.cps[i] : Int) + 1) := by
      unfold lettC
      rw [List.getElem?_map, Array.getElem?_toList, hc]
      rfl
    have hll := lettC_len (x := x)
    have hti := List.length_take_le i (lettC x)
    refine ⟨rfl, yes_ ⟨rfl, _, rfl, letters, _, _, rest, rfl, rfl, ho, _, _, rfl, rfl, _, e, ?_, s.put nD, ?_⟩⟩
    · rw [List.length_map, List.length_take, sizeLine_eq]
      omega
    · rw [upd_same, take_more hg, List.map_append]
      rfl
  rintro H2 ⟨s2, e2⟩
  have e2 : H2 D = some (.lst ((lettC x).map V.int)) := by
    rw [e2, List.take_of_length_le (by rw [lettC_len]; exact Nat.le_refl _)]
  have hll := lettC_len (x := x)
  exact catL (s2 _ _ e1) e2 (by rw [List.length_map, sizeLine_eq]; show 1 + _ ≤ _; omega) fun p H' s3 np ep => q H' p (s1.trans (s2.trans s3)) (s1.free (s2.free np)) ep
theorem chk_range : ∀ (l : List Int) (t : Int), 0 ≤ t → t < 247 → 0 ≤ l.foldl chkS t ∧ l.foldl chkS t < 247
  | [], t, h0, h1 => ⟨h0, h1⟩
  | n :: r, t, h0, h1 => chk_range r _ (Int.emod_nonneg _ (by decide)) (Int.emod_lt_of_pos _ (by decide))
theorem chk_take {l : List Int} {i : Nat} {n : Int} (h : l[i]? = some n) : chk (l.take (i + 1)) = chkS (chk (l.take i)) n := by
  unfold chk
  rw [take_more h, List.foldl_append]
  rfl
theorem chk_r (l : List Int) : 0 ≤ chk l ∧ chk l < 247 := chk_range l 7 (by decide) (by decide)
def sp_chk : Sp := fun vs H Q _ => ∃ (a : Addr) (l : List Int), vs = [.ref a] ∧ H a = some (.lst (l.map V.int)) ∧ ∀ H', Same H H' → Q (.int (chk l)) H'
theorem ok_chk {f : Addr} {fd : FuncData} {t1 t2 t3 : Tok} (F : Fun K "checksum" "checksum" s_checksum f fd) (B : Blt mg) (m_CHECKSUM_BEGIN : mg "CHECKSUM_BEGIN" = some (.int 7 t1)) (m_CHECKSUM_FACTOR : mg "CHECKSUM_FACTOR" = some (.int 11 t2)) (m_CHECKSUM_RANGE : mg "CHECKSUM_RANGE" = some (.int 247 t3)) : FnOk P w K mg base CX0 1 f fd ["numbers"] sp_chk := by
  refine F.ok sc_checksum (fun vs H Q E h => by obtain ⟨a, l, rfl, _⟩ := h; rfl) (fun cdv A outer s H vs Q E hr h => ?_)
  obtain ⟨a, l, rfl, hA, q⟩ := h
  refine ⟨_, (pss_cons (ps_set (i := 1) sc_checksum.nd rfl (Or.inl rfl) (pe_glob (v := .int 7) rfl m_CHECKSUM_BEGIN ⟨_, rfl⟩))
      (pss_cons (ps_for PassesOwn.never rfl (pi_list (pv 0)) (pg_name (i := 2) sc_checksum.nd rfl (Or.inl rfl)) (pss_one (ps_set (i := 1) sc_checksum.nd rfl (Or.inl rfl) (pe_op op_mod (pe_op op_add (pe_op op_mul (pe_glob (v := .int 11) rfl m_CHECKSUM_FACTOR ⟨_, rfl⟩) (pv 1)) (pv 2)) (pe_glob (v := .int 247) rfl m_CHECKSUM_RANGE ⟨_, rfl⟩)))))
      (pss_one (ps_ret (pv 1))))), ?_⟩
  refine ⟨_, rfl, a, rfl, ⟨_, sqL_of hA⟩, for_it walk_list (fun i σ H' => ∃ (y : Option V), σ = [some (.ref a), some (.int (chk (l.take i))), y] ∧ Same H H') ⟨_, rfl, Same.refl H⟩ (fun _ _ _ _ ⟨_, _, s⟩ => sqL_of (s _ _ hA)) ?_ ?_⟩
  · rintro i y σ H3 H2 hi ⟨y2, rfl, s⟩ ⟨rfl, hy⟩
    rw [List.getElem?_map] at hy
    obtain ⟨n, hn, rfl⟩ := Option.map_eq_some_iff.mp hy
    refine ⟨_, rfl, 11, _, rfl, rfl, .inl ⟨by decide, by decide⟩, _, rfl, _, n, rfl, rfl, _, 247, rfl, rfl, (by show (0 : Int) < 247; decide), some (.int n), ?_, s⟩
    rw [chk_take hn]
    rfl
  · rintro σ H2 ⟨y2, rfl, s⟩
    rw [List.length_map, List.take_length]
    exact ⟨_, rfl, q _ s⟩
theorem ok_lchk {f : Addr} {fd : FuncData} (F : Fun K "_law_checked" "_law_checked" s__law_checked f fd) (B : Blt mg) : FnOk P w K mg base CX0 1 f fd ["_law_values"] sp_chk := by
  refine F.ok sc__law_checked (fun vs H Q E h => by obtain ⟨a, l, rfl, _⟩ := h; rfl) (fun cdv A outer s H vs Q E hr h => ?_)
  obtain ⟨a, l, rfl, hA, q⟩ := h
  refine ⟨_, (pss_cons (ps_set (i := 1) sc__law_checked.nd rfl (Or.inl rfl) pe_int)
      (pss_cons (ps_for PassesOwn.never rfl (pi_list (pv 0)) (pg_name (i := 2) sc__law_checked.nd rfl (Or.inl rfl)) (pss_one (ps_set (i := 1) sc__law_checked.nd rfl (Or.inl rfl) (pe_op op_mod (pe_callTy call_int1 (by rfl) B.b_int PyProof.Rows.boot_int (pa_cons (pe_op op_add (pe_op op_mul (pv 1) pe_int) (pv 2)) pa_nil)) pe_int))))
      (pss_one (ps_ret (pv 1))))), ?_⟩
  refine ⟨_, rfl, a, rfl, ⟨_, sqL_of hA⟩, for_it walk_list (fun i σ H' => ∃ (y : Option V), σ = [some (.ref a), some (.int (chk (l.take i))), y] ∧ Same H H') ⟨_, rfl, Same.refl H⟩ (fun _ _ _ _ ⟨_, _, s⟩ => sqL_of (s _ _ hA)) ?_ ?_⟩
  · rintro i y σ H3 H2 hi ⟨y2, rfl, s⟩ ⟨rfl, hy⟩
    rw [List.getElem?_map] at hy
    obtain ⟨n, hn, rfl⟩ := Option.map_eq_some_iff.mp hy
    refine ⟨_, rfl, _, 11, rfl, rfl, .inr ⟨by decide, by decide⟩, _, rfl, _, n, rfl, rfl, .inl ⟨_, rfl, _, 247, rfl, rfl, (by show (0 : Int) < 247; decide), some (.int n), ?_, s⟩⟩
    rw [chk_take hn]
    unfold chkS
    rw [Int.mul_comm]
    rfl
  · rintro σ H2 ⟨y2, rfl, s⟩
    rw [List.length_map, List.take_length]
    exact ⟨_, rfl, q _ s⟩
end
end Sc
namespace Sc
open PySem PySem.Spec PyProof.Rows L2
abbrev s__law_made : Stmt := topS 58
theorem sc__law_made : FnScope ["_law_rules", "_law_found", "_law_name", "_law_holding", "_law_failing", "_law_ruling", "_law_inner"] ["_law_rules"] (defScope s__law_made) := ⟨rfl, rfl, rfl, by decide +kernel, rfl, by decide +kernel, by decide +kernel⟩
abbrev s__law_book : Stmt := topS 59
theorem sc__law_book : FnScope ["_law_drawn_here"] ["_law_drawn_here"] (defScope s__law_book) := ⟨rfl, rfl, rfl, by decide +kernel, rfl, by decide +kernel, by decide +kernel⟩
section
variable {P : Program} {w : World} {K : PySem.W.Frag} {mg : Str → Option Value} {base : Heap} {C R B CC CR CF CB : Addr}
def sp_made (K : PySem.W.Frag) (C R : Addr) (d : Nat) : Sp := fun vs H Q _ => ∃ (N : Addr → Prop) (p : Addr) (ws : List V) (f : RF), vs = [.ref p] ∧ SqT K H p ws ∧ RowsAt K H f ws ∧ (∀ l, H l = none → N l) ∧ f.dep ≤ d ∧ d ≤ 12 ∧ f.size ≤ 900 ∧ f.every NdOk ∧
  ∀ H' p' us, Same H H' → SqT K H' p' us → ForAt K C R N H' f us → Q (.ref p') H'
theorem ok_made {d : Nat} {f : Addr} {fd : FuncData} (F : Fun K "_law_made" "_law_made" s__law_made f fd) (B : Blt mg) (k_Condition : Mkr P w K mg base 4 "Condition" C ["self", "holding", "failing"] (sp_cond_init K C CC)) (k_Rule : Mkr P w K mg base 16 "Rule" R ["self", "name", "condition", "ruling", "exceptions"] (sp_rule_init K C R CR))
    (c__law_made : Cal P w K mg base CX0 (d + 17) "_law_made" ["_law_rules"] (Below (sp_made K C R) d)) :
    FnOk P w K mg base CX0 (d + 18) f fd ["_law_rules"] (sp_made K C R d) := by
  refine F.ok sc__law_made (fun vs H Q E h => by obtain ⟨N, p, ws, f, rfl, _⟩ := h; rfl) (fun cdv A outer s H vs Q E hr h => ?_)
  obtain ⟨N, p, ws, f, rfl, hP, hX, hN, hd, hd12, hz, hev, q⟩ := h
  refine ⟨_, (pss_cons (ps_set (i := 1) sc__law_made.nd rfl (Or.inl rfl) (pe_lst pa_nil))
      (pss_cons (ps_for PassesOwn.never rfl (pi_tup (pv 0)) (pg_tup (by rfl) (pgs_cons (pg_name (i := 2) sc__law_made.nd rfl (Or.inl rfl)) (pgs_cons (pg_name (i := 3) sc__law_made.nd rfl (Or.inl rfl)) (pgs_cons (pg_name (i := 4) sc__law_made.nd rfl (Or.inl rfl)) (pgs_cons (pg_name (i := 5) sc__law_made.nd rfl (Or.inl rfl)) (pgs_cons (pg_name (i := 6) sc__law_made.nd rfl (Or.inl rfl)) pgs_nil)))))) (pss_one (ps_expr (pe_bm PySem.F.plainAttrs_list PySem.F.slot_list_append PySem.F.type_list_append mt_append (pv 1) (pa_cons (pe_mkN k_Rule (hr.mono (by omega)) (pa_cons (pv 2) (pa_cons (pe_mkN k_Condition (hr.mono (by omega)) (pa_cons (pv 3) (pa_cons (pv 4) pa_nil))) (pa_cons (pv 5) (pa_cons (pe_cal c__law_made hr (pa_cons (pv 6) pa_nil)) pa_nil))))) pa_nil)))))
      (pss_one (ps_ret (pe_callTy call_tuple_of (by rfl) B.b_tuple PyProof.Rows.boot_tuple (pa_cons (pv 1) pa_nil)))))), ?_⟩
  have hA := hX.all
  have hln := hA.len
  have hlz := RF.nodes_le f
  refine ⟨Nat.zero_le _, fun D nD => ?_⟩
  have s0 : Same H (upd H D (.lst [])) := (Same.refl H).put nD
  have e0 : (upd H D (.lst [])) D = some (.lst []) := upd_same
  generalize upd H D (.lst []) = H0 at s0 e0 ⊢
  refine ⟨_, rfl, p, rfl, ⟨_, s0.tup hP⟩, for_it walk_tup (fun i σ H' => ∃ (rs : List V) (y2 y3 y4 y5 y6 : Option V), σ = [some (.ref p), some (.ref D), y2, y3, y4, y5, y6] ∧ Same H H' ∧ H' D = some (.lst rs) ∧ All2 (RefAt K C R (fun l => N l ∧ l ≠ D) H') rs (f.nodes.take i))
    ⟨[], none, none, none, none, none, rfl, s0, e0, .nil⟩ (fun _ _ _ _ ⟨_, _, _, _, _, _, _, s, _⟩ => s.tup hP) ?_ ?_⟩
  · rintro i y σ H4 H3 hi ⟨rs, y2, y3, y4, y5, y6, rfl, s, e, hrs⟩ ⟨rfl, hy⟩
    obtain ⟨n, hn, hrow⟩ := hA.get hy
    have hmem : n ∈ f.nodes := List.mem_of_getElem? hn
    have hdm := RF.dep_mem _ n hmem
    have hsm := RF.size_mem _ n hmem
    obtain ⟨hok, hne⟩ := RF.every_nodes.mp hev n hmem
    obtain ⟨d, rfl⟩ : ∃ d', d = d' + 1 := ⟨d - 1, by omega⟩
    have hrl := hrs.len
    rw [List.length_take] at hrl
    obtain ⟨o, wa, ba, pa, ws', rfl, hO, hW, hB, hPe, hXe⟩ := hrow.keeps (N := NoL) s.keeps
    refine ⟨o, _, rfl, hO, rfl, _, _, rfl, _, _, rfl, _, _, rfl, _, _, rfl, _, _, rfl, rfl, ?_⟩
    refine ⟨_, rfl, .inl ⟨rfl, _, sqL_of e⟩, _, rfl, _, rfl, _, rfl, fun c dxc nc ndc nec => ?_⟩
    have s1 : Same H3 (upd (upd H3 dxc (.own c)) c (.ins C dxc [])) := ((Same.refl H3).put ndc).put nc
    have hlen := hok.len
    refine ⟨c, dxc, wa, ba, n.hs, n.fs, rfl, upd_same, s1.tup hW, s1.tup hB, fw_txts hok.c1, fw_txts hok.c2, by omega, by omega, (fun i e => by rw [hok.c1] at e; cases e), fun _ => ⟨(fun i e => by rw [hok.c2] at e; cases e), fun _ H5 nn zs sX hc hnn hperm hsort => ⟨rfl, ?_⟩⟩⟩
    have s2 : Same H3 H5 := fun b' o' h => sX b' o' (fun e => by rw [e, nc] at h; cases h) (s1 _ _ h)
    have hcond : CondAt K C H5 c n.hs n.fs := ⟨dxc, wa, ba, nn, zs, hc, s2.tup hW, s2.tup hB, hnn, srt_uniq hperm hsort⟩
    have s05 := s.trans s2
    have e5 := s2 _ _ e
    refine ⟨_, rfl, _, rfl, fun l => N l ∧ l ≠ D, pa, ws', n.exc, rfl, s2.tup hPe, hXe.keeps (N := NoL) s2.keeps, fun l nl => ⟨hN l (s05.free nl), (fun z => by rw [z, e5] at nl; cases nl)⟩, by omega, by omega, by omega, hne, fun H6 t us s6 ht hF => ?_⟩
    have e6 := s6 _ _ e5
    intro x dx nx ndx nex
    have s7 : Same H6 (upd (upd H6 dx (.own x)) x (.ins R dx [])) := ((Same.refl H6).put ndx).put nx
    have l1 := name_len hok.nm
    have l2 := name_len hok.rl
    refine ⟨fun l => N l ∧ l ≠ D, x, dx, c, t, n.nm, n.rl, us, n.exc, rfl, upd_same, s7.tup ht, hF.keeps s7.keeps, by omega, by omega, by omega, by omega, (fun e => by rw [hok.nm] at e; cases e), fun _ => ⟨(fun e => by rw [hok.rl] at e; cases e), fun _ H8 l sX8 hx8 nelx nl el => ⟨rfl, ?_⟩⟩⟩
    have s8 : Same H6 H8 := fun b' o' h => sX8 b' o' (fun e => by rw [e, nx] at h; cases h) (s7 _ _ h)
    have s38 := (s2.trans s6).trans s8
    have s08 := s.trans s38
    have e8 := s8 _ _ e6
    have fl : H6 l = none := s7.free nl
    have hnd : NdAt K C R (fun l => N l ∧ l ≠ D) H8 x n := ⟨dx, c, t, l, us, hx8, (hcond.same s6).same s8, s8.tup ht, ⟨⟨hN l ((s05.trans s6).free fl), (fun z => by rw [z, e6] at fl; cases fl)⟩, el⟩, hF.keeps s8.keeps⟩
    refine ⟨D, _, _, rfl, rfl, e8, small1000 (by omega), ?_⟩
    have kk : Keeps (fun l => N l ∧ l ≠ D) H8 (upd H8 D (.lst (rs ++ [.ref x]))) := keeps_own e8 fun z => z.2 rfl
    refine ⟨rs ++ [.ref x], _, _, _, _, _, rfl, s08.put nD, upd_same, ?_⟩
    rw [take_more hn]
    exact (hrs.mono fun _ _ x => (x.keeps s38.keeps).keeps kk).snoc ⟨x, rfl, hnd.keeps kk⟩
  · rintro σ H3 ⟨rs, y2, y3, y4, y5, y6, rfl, s, e, hrs⟩
    rw [hln, List.take_length] at hrs
    refine ⟨_, rfl, D, _, rfl, .inl ⟨sqL_of e, fun t nt => ?_⟩⟩
    have s4 : Same H3 (upd H3 t (.tup rs)) := (Same.refl H3).put nt
    exact q _ t rs (s.trans s4) sqT_new (ForAt.of (hrs.mono fun _ _ ⟨o, e, x⟩ => ⟨o, e, (x.re fun b xs h _ => h.1).keeps s4.keeps⟩))
def sp_book2 (K : PySem.W.Frag) (C R B : Addr) : Sp := fun vs H Q _ => ∃ (N : Addr → Prop) (p fp pr : Addr) (xs : List Str) (last : Str) (ws : List V) (f : RF), vs = [.ref p] ∧ SqT K H p [.ref fp, .ref pr, .str last] ∧ SqT K H fp (xs.map V.str) ∧ Txts xs ∧ xs.length ≤ 1000 ∧ SqT K H pr ws ∧ RowsAt K H f ws ∧ (∀ l, H l = none → N l) ∧ f.every NdOk ∧ f.dep ≤ 12 ∧ f.size ≤ 900 ∧
  firstBad xs = none ∧ firstFault xs (f.pre 0) [] 0 0 = none ∧ isName last = true ∧ ∀ H' o, Same H H' → BookAt K C R B N H' o xs f last → Q (.ref o) H'
theorem ok_book2 {f : Addr} {fd : FuncData} (F : Fun K "_law_book" "_law_book" s__law_book f fd) (Bl : Blt mg) (k_Book : Mkr P w K mg base 17 "Book" B ["self", "facts", "rules", "ruling"] (sp_book_init K C R B CF CB))
    (c__law_made : Cal P w K mg base CX0 30 "_law_made" ["_law_rules"] (sp_made K C R 12)) :
    FnOk P w K mg base CX0 31 f fd ["_law_drawn_here"] (sp_book2 K C R B) := by
  refine F.ok sc__law_book (fun vs H Q E h => by obtain ⟨N, p, fp, pr, xs, last, ws, f, rfl, _⟩ := h; rfl) (fun cdv A outer s H vs Q E hr h => ?_)
  obtain ⟨N, p, fp, pr, xs, last, ws, f, rfl, hO, hS, tS, lS, hP, hX, hN, hev, hd, hz, hb, hff, hlast, q⟩ := h
  refine ⟨_, (pss_one (ps_ret (pe_mkN k_Book (hr.mono (by decide)) (pa_cons (pe_ix ix_tup (pv 0) pe_int (fun _ _ => rfl)) (pa_cons (pe_cal c__law_made (hr.mono (by decide)) (pa_cons (pe_ix ix_tup (pv 0) pe_int (fun _ _ => rfl)) pa_nil)) (pa_cons (pe_ix ix_tup (pv 0) pe_int (fun _ _ => rfl)) pa_nil)))))), ?_⟩
  refine ⟨_, rfl, p, _, 0, _, rfl, rfl, hO, atI_nat (j := 0) rfl, _, rfl, p, _, 1, _, rfl, rfl, hO, atI_nat (j := 1) rfl, N, pr, ws, f, rfl, hP, hX, hN, hd, by decide, hz, hev, fun H4 t us s4 ht hF => ?_⟩
  refine ⟨_, rfl, p, _, 2, _, rfl, rfl, s4.tup hO, atI_nat (j := 2) rfl, fun x dx nx ndx nex => ?_⟩
  have s5 : Same H4 (upd (upd H4 dx (.own x)) x (.ins B dx [])) := ((Same.refl H4).put ndx).put nx
  have s05 := s4.trans s5
  have ll := name_len hlast
  refine ⟨N, x, dx, fp, t, xs, last, us, f, rfl, upd_same, s05.tup hS, tS, lS, s5.tup ht, hF.keeps s5.keeps, hd, hz, fit_of hev, by omega, (fun i ei => by rw [hb] at ei; cases ei), fun _ => ⟨(fun wd i ei => by rw [hff] at ei; cases ei), fun _ => ⟨(fun z => by rw [hlast] at z; cases z), fun _ H6 l us2 sX6 hx6 nelx nl el hus => ⟨rfl, ?_⟩⟩⟩⟩
  have s6 : Same H4 H6 := fun b' o' h => sX6 b' o' (fun e => by rw [e, nx] at h; cases h) (s5 _ _ h)
  have s06 := s4.trans s6
  exact q H6 x s06 ⟨dx, fp, t, l, us, us2, hx6, s06.tup hS, s6.tup ht, hF.keeps s6.keeps, ⟨hN l (s4.free (s5.free nl)), el⟩, hus⟩
end
end Sc
namespace Sc
open PySem PySem.Spec PyProof.Rows L2
/-- a block within a block that uses no name from around -/
theorem blkOk_any {N : List Str} {sc sc' scope : Scope} {own : List (Str × Nat)} (h : BlkOk N sc scope own) (nf : (scope.names.all fun y => match y.2 with | .free => false | _ => true) = true) : BlkOk N sc' scope own :=
  ⟨h.kind, h.uniq, h.ix, fun y hy e => by
    have q := List.all_eq_true.mp nf y hy
    rw [e] at q
    exact Bool.noConfusion q, h.own⟩
/-! ### a list of whatever items against an empty one -/
def rNilE (neg : Bool) : R2 := fun x y H Q => ∃ (a b : Addr) (xs : List V), x = .ref a ∧ y = .ref b ∧ H a = some (.lst xs) ∧ H b = some (.lst []) ∧ Q (.bl (if neg then !xs.isEmpty else xs.isEmpty)) H
section
variable {X : Cx}
theorem op_neE (hu : X.A.units + 64 < cLine) : OpR X (compareOp .NotEq) (rNilE true) := by
  intro pins s σ H x y v u Q I rx ry h
  obtain ⟨a, b, xs, rfl, rfl, ha, hb, q⟩ := h
  cases rx
  cases ry
  obtain ⟨its, r, p1, _⟩ := I.list (.inl (.inl ha))
  obtain ⟨its2, r2, p2, _⟩ := I.list (.inl (.inl hb))
  have h1 := r.length
  have h2 := r2.length
  have z2 : its2 = [] := List.length_eq_zero_iff.mp (by rw [← h2]; rfl)
  subst z2
  cases xs with
  | nil =>
    have z1 : its = [] := List.length_eq_zero_iff.mp (by rw [← h1]; rfl)
    subst z1
    exact EqBoolInt.of_rcne (SeqAt.RcNeAt.lists (e := fun _ => true) p1.isList p2.isList rfl (by omega) (fun j hj _ => absurd hj (Nat.not_lt_zero j))) ⟨.bl _, H, I, rfl, q⟩
  | cons z r0 =>
    exact EqBoolInt.of_rcne (SeqAt.RcNeAt.lists_lengths p1.isList p2.isList (by
      have : its.length ≠ 0 := by rw [← h1, List.length_cons]; omega
      simpa using fun e => this (by rw [e]; rfl)) (by omega)) ⟨.bl _, H, I, rfl, q⟩
theorem op_eqE (hu : X.A.units + 64 < cLine) : OpR X (compareOp .Eq) (rNilE false) := by
  intro pins s σ H x y v u Q I rx ry h
  obtain ⟨a, b, xs, rfl, rfl, ha, hb, q⟩ := h
  cases rx
  cases ry
  obtain ⟨its, r, p1, _⟩ := I.list (.inl (.inl ha))
  obtain ⟨its2, r2, p2, _⟩ := I.list (.inl (.inl hb))
  have h1 := r.length
  have h2 := r2.length
  have z2 : its2 = [] := List.length_eq_zero_iff.mp (by rw [← h2]; rfl)
  subst z2
  cases xs with
  | nil =>
    have z1 : its = [] := List.length_eq_zero_iff.mp (by rw [← h1]; rfl)
    subst z1
    exact EqBoolInt.of_rc (SeqAt.RcAt.lists (e := fun _ => true) p1.isList p2.isList rfl (by omega) (fun j hj _ => absurd hj (Nat.not_lt_zero j))) ⟨.bl _, H, I, rfl, q⟩
  | cons z r0 =>
    exact EqBoolInt.of_rc (SeqAt.RcAt.lists_lengths p1.isList p2.isList (by
      have : its.length ≠ 0 := by rw [← h1, List.length_cons]; omega
      simpa using fun e => this (by rw [e]; rfl)) (by omega)) ⟨.bl _, H, I, rfl, q⟩
end
end Sc
namespace Sc
open PySem PySem.Spec PyProof.Rows L2
/-! ### alike, over lists and tuples wherever they come from -/
theorem tyT {K : PySem.W.Frag} {H : Hp} {a : Addr} {xs : List V} (h : SqT K H a xs) : TyX K H (.ref a) (.type "tuple") := by
  rcases h with (h | ⟨o, h⟩) | ⟨o, its, n, hk, hc, _⟩
  · exact .base (.tup h)
  · exact .fTuple h
  · exact .kTuple hk hc
theorem _root_.L2.TyX.lst {K : PySem.W.Frag} {H : Hp} {a : Addr} {xs : List V} (h : H a = some (.lst xs)) : TyX K H (.ref a) (.type "list") := .base (.lst h)
theorem _root_.L2.TyX.int {K : PySem.W.Frag} {H : Hp} (i : Int) : TyX K H (.int i) (.type "int") := .base (.int i)
theorem _root_.L2.TyX.str {K : PySem.W.Frag} {H : Hp} (x : Str) : TyX K H (.str x) (.type "str") := .base (.str x)
theorem _root_.L2.TyX.tup {K : PySem.W.Frag} {H : Hp} {a : Addr} {xs : List V} (h : SqT K H a xs) : TyX K H (.ref a) (.type "tuple") := tyT h
def rIsTX (K : PySem.W.Frag) (T : String) : List V → Hp → VK → Prop := fun xs H Q => ∃ (x : V) (t : String) (b : Bool), xs = [x, .ty T] ∧ TyX K H x (.type t) ∧ kitB t T = some b ∧ Q (.bl b) H
theorem call_isTX {X : Cx} (T : String) : CallR X (.builtin "isinstance") (rIsTX X.K T) := by
  intro pins s σ H xs us Q I r h
  obtain ⟨x, t, b, ex, ht, hb, q⟩ := h
  exact call_isi pins s σ H xs us Q I r ⟨_, _, _, _, _, ex, .ty _, ht, kit_ty hb, q⟩
inductive AT (K : PySem.W.Frag) (H : Hp) : Nat → V → PyData → Prop where
  | int (n : Nat) (i : Int) : AT K H n (.int i) (.int i)
  | str (n : Nat) (x : Str) : AT K H n (.str x) (.str x)
  | lst {n : Nat} {a : Addr} {xs : List V} {ds : List PyData} (e : H a = some (.lst xs)) (l : xs.length = ds.length) (z : xs.length ≤ 1000000) (all : ∀ (i : Nat) (x : V) (d : PyData), xs[i]? = some x → ds[i]? = some d → AT K H n x d) : AT K H (n + 1) (.ref a) (.list ds)
  | tup {n : Nat} {a : Addr} {xs : List V} {ds : List PyData} (e : SqT K H a xs) (l : xs.length = ds.length) (z : xs.length ≤ 1000000) (all : ∀ (i : Nat) (x : V) (d : PyData), xs[i]? = some x → ds[i]? = some d → AT K H n x d) : AT K H (n + 1) (.ref a) (.tuple ds)
section
variable {P : Program} {w : World} {K : PySem.W.Frag} {mg : Str → Option Value} {base : Heap} {C R B : Addr}
theorem AT.same {H H' : Hp} {n : Nat} {x : V} {d : PyData} (s : Same H H') (h : AT K H n x d) : AT K H' n x d := by
  induction h with
  | int n i => exact .int n i
  | str n x => exact .str n x
  | lst e l z all ih => exact .lst (s _ _ e) l z ih
  | tup e l z all ih => exact .tup (s.tup e) l z ih
def sp_alikeT (K : PySem.W.Frag) (n : Nat) : Sp := fun vs H Q _ => ∃ (x y : V) (d : PyData), vs = [x, y] ∧ AT K H n x d ∧ AT K H n y d ∧ ∀ H', Same H H' → Q (.bl true) H'
/-- the answer where no list or tuple stands -/
theorem ok_alikeT0 {f : Addr} {fd : FuncData} (F : Fun K "_law_alike" "_law_alike" s__law_alike f fd) (B : Blt mg) : FnOk P w K mg base CX0 1 f fd ["_law_found", "_law_due"] (sp_alikeT K 0) := by
  refine F.ok sc__law_alike (fun vs H Q E h => by obtain ⟨x, y, d, rfl, _⟩ := h; rfl) (fun cdv A outer s H vs Q E hr h => ?_)
  obtain ⟨x, y, d, rfl, hx, hy, q⟩ := h
  refine ⟨_, (pss_cons (ps_if (pt_val (pe_callB (call_isTX "dict") (by rfl) B.b_isinstance PyProof.Rows.boot_isinstance (pa_cons (pv 1) (pa_cons (pe_bltn (v := .ty "dict") (by rfl) B.b_dict (by decide +kernel) rfl) pa_nil)))) pss_never pss_nil)
      (pss_cons (ps_if (pt_val (pe_callB call_isiT (by rfl) B.b_isinstance PyProof.Rows.boot_isinstance (pa_cons (pv 1) (pa_cons (pe_tup (pa_cons (pe_bltn (v := .ty "tuple") (by rfl) B.b_tuple PyProof.Rows.boot_tuple rfl) (pa_cons (pe_bltn (v := .ty "list") (by rfl) B.b_list PyProof.Rows.boot_list rfl) pa_nil))) pa_nil)))) pss_never pss_nil)
      (pss_cons (ps_if (PW.pt (pw_or (pt_cmpR op_isN (pv 1) pe_non (nomark _)) (pw_or1 (pt_val (pe_callB (call_isTX "str") (by rfl) B.b_isinstance PyProof.Rows.boot_isinstance (pa_cons (pv 1) (pa_cons (pe_bltn (v := .ty "str") (by rfl) B.b_str PyProof.Rows.boot_str rfl) pa_nil))))))) (pss_one (ps_ret (pe_and (pe_cmpR op_eq (pv 0) (pv 1) (nomark _)) (pe_one (pe_cmpR op_eq (pe_callB (call_isTX "str") (by rfl) B.b_isinstance PyProof.Rows.boot_isinstance (pa_cons (pv 0) (pa_cons (pe_bltn (v := .ty "str") (by rfl) B.b_str PyProof.Rows.boot_str rfl) pa_nil))) (pe_callB (call_isTX "str") (by rfl) B.b_isinstance PyProof.Rows.boot_isinstance (pa_cons (pv 1) (pa_cons (pe_bltn (v := .ty "str") (by rfl) B.b_str PyProof.Rows.boot_str rfl) pa_nil))) (nomark _)))))) pss_nil)
      (pss_one (ps_ret (pe_and (pe_callB (call_isTX "int") (by rfl) B.b_isinstance PyProof.Rows.boot_isinstance (pa_cons (pv 0) (pa_cons (pe_bltn (v := .ty "int") (by rfl) B.b_int PyProof.Rows.boot_int rfl) pa_nil))) (pe_and (pe_cmpR op_eq (pe_callB (call_isTX "bool") (by rfl) B.b_isinstance PyProof.Rows.boot_isinstance (pa_cons (pv 0) (pa_cons (pe_bltn (v := .ty "bool") (by rfl) B.b_bool PyProof.Rows.boot_bool rfl) pa_nil))) (pe_callB (call_isTX "bool") (by rfl) B.b_isinstance PyProof.Rows.boot_isinstance (pa_cons (pv 1) (pa_cons (pe_bltn (v := .ty "bool") (by rfl) B.b_bool PyProof.Rows.boot_bool rfl) pa_nil))) (nomark _)) (pe_one (pe_cmpR op_eq (pv 0) (pv 1) (nomark _)))))))))), ?_⟩
  cases hx with
  | int _ i =>
    cases hy
    refine ⟨_, rfl, _, "int", false, rfl, .int i, by decide +kernel, false, rfl, iteF ?_⟩
    refine ⟨_, rfl, (by show 2 ≤ sizeLine; decide), fun tp ntp => ⟨_, tp, _, .type "int", [.type "tuple", .type "list"], false, rfl, upd_same, .cons (.ty _) (.cons (.ty _) .nil), .base (.int i), kitAny_cons (b := false) (kit_ty (by decide +kernel)) (fun _ => kitAny_cons (b := false) (kit_ty (by decide +kernel)) (fun _ => kitAny_nil) (fun z => nomatch z)) (fun z => nomatch z), false, rfl, iteF ?_⟩⟩
    have s1 : Same H (upd H tp (.tup [.ty "tuple", .ty "list"])) := (Same.refl H).put ntp
    refine ⟨_, rfl, rfl, false, rfl, iteF ⟨_, rfl, _, "int", false, rfl, .int i, by decide +kernel, false, rfl, iteF ?_⟩⟩
    refine ⟨_, rfl, _, "int", true, rfl, .int i, by decide +kernel, true, rfl, iteT ?_⟩
    refine ⟨_, rfl, _, "int", false, rfl, .int i, by decide +kernel, _, rfl, _, "int", false, rfl, .int i, by decide +kernel, rfl, true, rfl, iteT ?_⟩
    refine ⟨_, rfl, _, rfl, rfl, ?_⟩
    rw [decide_eq_true rfl]
    exact q _ s1
  | str _ x =>
    cases hy
    refine ⟨_, rfl, _, "str", false, rfl, .str x, by decide +kernel, false, rfl, iteF ?_⟩
    refine ⟨_, rfl, (by show 2 ≤ sizeLine; decide), fun tp ntp => ⟨_, tp, _, .type "str", [.type "tuple", .type "list"], false, rfl, upd_same, .cons (.ty _) (.cons (.ty _) .nil), .base (.str x), kitAny_cons (b := false) (kit_ty (by decide +kernel)) (fun _ => kitAny_cons (b := false) (kit_ty (by decide +kernel)) (fun _ => kitAny_nil) (fun z => nomatch z)) (fun z => nomatch z), false, rfl, iteF ?_⟩⟩
    have s1 : Same H (upd H tp (.tup [.ty "tuple", .ty "list"])) := (Same.refl H).put ntp
    refine ⟨_, rfl, rfl, false, rfl, iteF ⟨_, rfl, _, "str", true, rfl, .str x, by decide +kernel, true, rfl, iteT ?_⟩⟩
    refine ⟨_, rfl, _, rfl, rfl, decide (V.str x = V.str x), rfl, ?_⟩
    rw [decide_eq_true rfl]
    refine iteT ?_
    refine ⟨_, rfl, _, "str", true, rfl, .str x, by decide +kernel, _, rfl, _, "str", true, rfl, .str x, by decide +kernel, rfl, ?_⟩
    exact q _ s1
theorem ok_alikeT {n : Nat} {f : Addr} {fd : FuncData} (F : Fun K "_law_alike" "_law_alike" s__law_alike f fd) (B : Blt mg) (c__law_alike : Cal P w K mg base CX0 (n + 1) "_law_alike" ["_law_found", "_law_due"] (sp_alikeT K n)) : FnOk P w K mg base CX0 (n + 2) f fd ["_law_found", "_law_due"] (sp_alikeT K (n + 1)) := by
  refine F.ok sc__law_alike (fun vs H Q E h => by obtain ⟨x, y, d, rfl, _⟩ := h; rfl) (fun cdv A outer s H vs Q E hr h => ?_)
  obtain ⟨x, y, d, rfl, hx, hy, q⟩ := h
  refine ⟨_, (pss_cons (ps_if (pt_val (pe_callB (call_isTX "dict") (by rfl) B.b_isinstance PyProof.Rows.boot_isinstance (pa_cons (pv 1) (pa_cons (pe_bltn (v := .ty "dict") (by rfl) B.b_dict (by decide +kernel) rfl) pa_nil)))) pss_never pss_nil)
      (pss_cons (ps_if (pt_val (pe_callB call_isiT (by rfl) B.b_isinstance PyProof.Rows.boot_isinstance (pa_cons (pv 1) (pa_cons (pe_tup (pa_cons (pe_bltn (v := .ty "tuple") (by rfl) B.b_tuple PyProof.Rows.boot_tuple rfl) (pa_cons (pe_bltn (v := .ty "list") (by rfl) B.b_list PyProof.Rows.boot_list rfl) pa_nil))) pa_nil)))) (pss_cons (ps_if (PW.pt (pw_or (pt_not (pt_val (pe_callB call_isiT (by rfl) B.b_isinstance PyProof.Rows.boot_isinstance (pa_cons (pv 0) (pa_cons (pe_tup (pa_cons (pe_bltn (v := .ty "tuple") (by rfl) B.b_tuple PyProof.Rows.boot_tuple rfl) (pa_cons (pe_bltn (v := .ty "list") (by rfl) B.b_list PyProof.Rows.boot_list rfl) pa_nil))) pa_nil))))) (pw_or1 (pt_cmpR op_ne (pe_callB (call_isTX "list") (by rfl) B.b_isinstance PyProof.Rows.boot_isinstance (pa_cons (pv 0) (pa_cons (pe_bltn (v := .ty "list") (by rfl) B.b_list PyProof.Rows.boot_list rfl) pa_nil))) (pe_callB (call_isTX "list") (by rfl) B.b_isinstance PyProof.Rows.boot_isinstance (pa_cons (pv 1) (pa_cons (pe_bltn (v := .ty "list") (by rfl) B.b_list PyProof.Rows.boot_list rfl) pa_nil))) (nomark _))))) (pss_one (ps_ret pe_bl)) pss_nil)
      (pss_cons (ps_if (pt_cmpR op_ne (pe_callB call_len_seq (by rfl) B.b_len PySem.boot_len (pa_cons (pv 0) pa_nil)) (pe_callB call_len_seq (by rfl) B.b_len PySem.boot_len (pa_cons (pv 1) pa_nil)) (nomark _)) (pss_one (ps_ret pe_bl)) pss_nil)
      (pss_one (ps_ret (pe_cmpR (op_eqD hr.units) (pe_lc (own := [("_law_k", 2)]) (g := gName 2) rfl sc__law_alike.nd (pi_range1 (by rfl) B.b_range (pa_cons (pe_callB call_len_seq (by rfl) B.b_len PySem.boot_len (pa_cons (pv 1) pa_nil)) pa_nil)) (blkOk_by (own := [("_law_k", 2)]) (N := ["_law_found", "_law_due", "_law_k"]) (sc := defScope s__law_alike) (by decide +kernel)) (fun _ _ _ _ _ => (pg_name (i := 2) sc__law_alike.nd rfl (Or.inl rfl))) (fun _ _ _ _ _ => (pts_.re (pts_one (pt_not (pt_val (pe_cal c__law_alike hr (pa_cons (pe_ix ix_seq (pv 0) (pv 2) (fun _ _ => rfl)) (pa_cons (pe_ix ix_seq (pv 1) (pv 2) (fun _ _ => rfl)) pa_nil)))))) (by first | (dsimp only [Cx.blk]; done) | exact rfl))) (fun _ _ _ _ _ => (pe_.re (pv 2) (by first | (dsimp only [Cx.blk]; done) | exact rfl)))) (pe_lst pa_nil) (nomark _)))))) pss_nil)
      (pss_cons (ps_if (PW.pt (pw_or (pt_cmpR op_isN (pv 1) pe_non (nomark _)) (pw_or1 (pt_val (pe_callB (call_isTX "str") (by rfl) B.b_isinstance PyProof.Rows.boot_isinstance (pa_cons (pv 1) (pa_cons (pe_bltn (v := .ty "str") (by rfl) B.b_str PyProof.Rows.boot_str rfl) pa_nil))))))) (pss_one (ps_ret (pe_and (pe_cmpR op_eq (pv 0) (pv 1) (nomark _)) (pe_one (pe_cmpR op_eq (pe_callB (call_isTX "str") (by rfl) B.b_isinstance PyProof.Rows.boot_isinstance (pa_cons (pv 0) (pa_cons (pe_bltn (v := .ty "str") (by rfl) B.b_str PyProof.Rows.boot_str rfl) pa_nil))) (pe_callB (call_isTX "str") (by rfl) B.b_isinstance PyProof.Rows.boot_isinstance (pa_cons (pv 1) (pa_cons (pe_bltn (v := .ty "str") (by rfl) B.b_str PyProof.Rows.boot_str rfl) pa_nil))) (nomark _)))))) pss_nil)
      (pss_one (ps_ret (pe_and (pe_callB (call_isTX "int") (by rfl) B.b_isinstance PyProof.Rows.boot_isinstance (pa_cons (pv 0) (pa_cons (pe_bltn (v := .ty "int") (by rfl) B.b_int PyProof.Rows.boot_int rfl) pa_nil))) (pe_and (pe_cmpR op_eq (pe_callB (call_isTX "bool") (by rfl) B.b_isinstance PyProof.Rows.boot_isinstance (pa_cons (pv 0) (pa_cons (pe_bltn (v := .ty "bool") (by rfl) B.b_bool PyProof.Rows.boot_bool rfl) pa_nil))) (pe_callB (call_isTX "bool") (by rfl) B.b_isinstance PyProof.Rows.boot_isinstance (pa_cons (pv 1) (pa_cons (pe_bltn (v := .ty "bool") (by rfl) B.b_bool PyProof.Rows.boot_bool rfl) pa_nil))) (nomark _)) (pe_one (pe_cmpR op_eq (pv 0) (pv 1) (nomark _)))))))))), ?_⟩
  cases hx with
  | int _ i =>
    cases hy
    refine ⟨_, rfl, _, "int", false, rfl, .int i, by decide +kernel, false, rfl, iteF ?_⟩
    refine ⟨_, rfl, (by show 2 ≤ sizeLine; decide), fun tp ntp => ⟨_, tp, _, .type "int", [.type "tuple", .type "list"], false, rfl, upd_same, .cons (.ty _) (.cons (.ty _) .nil), .base (.int i), kitAny_cons (b := false) (kit_ty (by decide +kernel)) (fun _ => kitAny_cons (b := false) (kit_ty (by decide +kernel)) (fun _ => kitAny_nil) (fun z => nomatch z)) (fun z => nomatch z), false, rfl, iteF ?_⟩⟩
    have s1 : Same H (upd H tp (.tup [.ty "tuple", .ty "list"])) := (Same.refl H).put ntp
    refine ⟨_, rfl, rfl, false, rfl, iteF ⟨_, rfl, _, "int", false, rfl, .int i, by decide +kernel, false, rfl, iteF ?_⟩⟩
    refine ⟨_, rfl, _, "int", true, rfl, .int i, by decide +kernel, true, rfl, iteT ?_⟩
    refine ⟨_, rfl, _, "int", false, rfl, .int i, by decide +kernel, _, rfl, _, "int", false, rfl, .int i, by decide +kernel, rfl, true, rfl, iteT ?_⟩
    refine ⟨_, rfl, _, rfl, rfl, ?_⟩
    rw [decide_eq_true rfl]
    exact q _ s1
  | str _ x =>
    cases hy
    refine ⟨_, rfl, _, "str", false, rfl, .str x, by decide +kernel, false, rfl, iteF ?_⟩
    refine ⟨_, rfl, (by show 2 ≤ sizeLine; decide), fun tp ntp => ⟨_, tp, _, .type "str", [.type "tuple", .type "list"], false, rfl, upd_same, .cons (.ty _) (.cons (.ty _) .nil), .base (.str x), kitAny_cons (b := false) (kit_ty (by decide +kernel)) (fun _ => kitAny_cons (b := false) (kit_ty (by decide +kernel)) (fun _ => kitAny_nil) (fun z => nomatch z)) (fun z => nomatch z), false, rfl, iteF ?_⟩⟩
    have s1 : Same H (upd H tp (.tup [.ty "tuple", .ty "list"])) := (Same.refl H).put ntp
    refine ⟨_, rfl, rfl, false, rfl, iteF ⟨_, rfl, _, "str", true, rfl, .str x, by decide +kernel, true, rfl, iteT ?_⟩⟩
    refine ⟨_, rfl, _, rfl, rfl, decide (V.str x = V.str x), rfl, ?_⟩
    rw [decide_eq_true rfl]
    refine iteT ?_
    refine ⟨_, rfl, _, "str", true, rfl, .str x, by decide +kernel, _, rfl, _, "str", true, rfl, .str x, by decide +kernel, rfl, ?_⟩
    exact q _ s1
  | lst e l z all =>
    rename_i p xs ds
    cases hy with
    | lst e2 l2 z2 all2 =>
      rename_i q0 ys
      refine ⟨_, rfl, _, "list", false, rfl, .lst e2, by decide +kernel, false, rfl, iteF ?_⟩
      refine ⟨_, rfl, (by show 2 ≤ sizeLine; decide), fun tp ntp => ?_⟩
      have s1 : Same H (upd H tp (.tup [.ty "tuple", .ty "list"])) := (Same.refl H).put ntp
      refine ⟨_, tp, _, .type "list", [.type "tuple", .type "list"], true, rfl, upd_same, .cons (.ty _) (.cons (.ty _) .nil), .base (.lst (s1 _ _ e2)), kitAny_cons (b := false) (kit_ty (by decide +kernel)) (fun _ => kitAny_cons (b := true) (kit_ty (by decide +kernel)) (fun z => nomatch z) (fun _ => rfl)) (fun z => nomatch z), true, rfl, iteT ?_⟩
      refine ⟨_, rfl, (by show 2 ≤ sizeLine; decide), fun tp2 ntp2 => ?_⟩
      have s2 := s1.put' (o := .tup [.ty "tuple", .ty "list"]) ntp2
      refine ⟨_, tp2, _, .type "list", [.type "tuple", .type "list"], true, rfl, upd_same, .cons (.ty _) (.cons (.ty _) .nil), .base (.lst (s2 _ _ e)), kitAny_cons (b := false) (kit_ty (by decide +kernel)) (fun _ => kitAny_cons (b := true) (kit_ty (by decide +kernel)) (fun z => nomatch z) (fun _ => rfl)) (fun z => nomatch z), true, rfl, iteF ?_⟩
      refine ⟨_, rfl, _, "list", true, rfl, .lst (s2 _ _ e), by decide +kernel, _, rfl, _, "list", true, rfl, .lst (s2 _ _ e2), by decide +kernel, rfl, _, rfl, iteF ?_⟩
      refine ⟨_, rfl, p, _, rfl, .inl (sqL_of (s2 _ _ e)), _, rfl, q0, _, rfl, .inl (sqL_of (s2 _ _ e2)), rfl, _, rfl, ?_⟩
      have el : ((xs.length : Nat) : Int) = (ys.length : Nat) := by rw [l, l2]
      rw [el, decide_eq_true rfl]
      refine iteF ?_
      refine ⟨_, rfl, q0, _, rfl, .inl (sqL_of (s2 _ _ e2)), _, rfl, by omega, by omega, fun D nD => lc_it walk_range (fun i H' => Same H H' ∧ H' D = some (.lst [])) ⟨s2.put' nD, upd_same⟩ (fun _ _ _ _ => trivial) ?_ ?_⟩
      · rintro i y H2 H3 hi ⟨s3, e3⟩ ⟨rfl, hy⟩
        have hy : y = V.int (i : Nat) := by
          rw [hy]
          show V.int (0 + (i : Nat)) = _
          rw [Int.zero_add]
        subst hy
        have hi : i < ys.length := by simpa using hi
        have hix : i < xs.length := by omega
        have hid : i < ds.length := by omega
        refine ⟨rfl, _, rfl, _, rfl, .inl ⟨_, _, (i : Nat), _, rfl, rfl, sqL_of (s3 _ _ e), atI_nat (List.getElem?_eq_getElem hix), ?_⟩⟩
        refine ⟨_, rfl, _, rfl, .inl ⟨_, _, (i : Nat), _, rfl, rfl, sqL_of (s3 _ _ e2), atI_nat (List.getElem?_eq_getElem hi), ?_⟩⟩
        refine ⟨_, _, ds[i], rfl, (all i _ _ (List.getElem?_eq_getElem hix) (List.getElem?_eq_getElem hid)).same s3, (all2 i _ _ (List.getElem?_eq_getElem hi) (List.getElem?_eq_getElem hid)).same s3, fun H4 s4 => ⟨true, rfl, iteF ⟨s3.trans s4, s4 _ _ e3⟩⟩⟩
      · rintro H2 ⟨s3, e3⟩
        refine ⟨Nat.zero_le _, fun p2 np2 => ⟨.list [], .list [], .lst (sqL_of (by rw [upd_ne (ne_of_none e3 np2)]; exact e3)) .nil, .lst sqL_new .nil, rfl, rfl, q _ (s3.put' np2)⟩⟩
  | tup e l z all =>
    rename_i p xs ds
    cases hy with
    | tup e2 l2 z2 all2 =>
      rename_i q0 ys
      refine ⟨_, rfl, _, "tuple", false, rfl, .tup e2, by decide +kernel, false, rfl, iteF ?_⟩
      refine ⟨_, rfl, (by show 2 ≤ sizeLine; decide), fun tp ntp => ?_⟩
      have s1 : Same H (upd H tp (.tup [.ty "tuple", .ty "list"])) := (Same.refl H).put ntp
      refine ⟨_, tp, _, .type "tuple", [.type "tuple", .type "list"], true, rfl, upd_same, .cons (.ty _) (.cons (.ty _) .nil), tyT (s1.tup e2), kitAny_cons (b := true) (kit_ty (by decide +kernel)) (fun z => nomatch z) (fun _ => rfl), true, rfl, iteT ?_⟩
      refine ⟨_, rfl, (by show 2 ≤ sizeLine; decide), fun tp2 ntp2 => ?_⟩
      have s2 := s1.put' (o := .tup [.ty "tuple", .ty "list"]) ntp2
      refine ⟨_, tp2, _, .type "tuple", [.type "tuple", .type "list"], true, rfl, upd_same, .cons (.ty _) (.cons (.ty _) .nil), tyT (s2.tup e), kitAny_cons (b := true) (kit_ty (by decide +kernel)) (fun z => nomatch z) (fun _ => rfl), true, rfl, iteF ?_⟩
      refine ⟨_, rfl, _, "tuple", false, rfl, .tup (s2.tup e), by decide +kernel, _, rfl, _, "tuple", false, rfl, .tup (s2.tup e2), by decide +kernel, rfl, _, rfl, iteF ?_⟩
      refine ⟨_, rfl, p, _, rfl, .inr (s2.tup e), _, rfl, q0, _, rfl, .inr (s2.tup e2), rfl, _, rfl, ?_⟩
      have el : ((xs.length : Nat) : Int) = (ys.length : Nat) := by rw [l, l2]
      rw [el, decide_eq_true rfl]
      refine iteF ?_
      refine ⟨_, rfl, q0, _, rfl, .inr (s2.tup e2), _, rfl, by omega, by omega, fun D nD => lc_it walk_range (fun i H' => Same H H' ∧ H' D = some (.lst [])) ⟨s2.put' nD, upd_same⟩ (fun _ _ _ _ => trivial) ?_ ?_⟩
      · rintro i y H2 H3 hi ⟨s3, e3⟩ ⟨rfl, hy⟩
        have hy : y = V.int (i : Nat) := by
          rw [hy]
          show V.int (0 + (i : Nat)) = _
          rw [Int.zero_add]
        subst hy
        have hi : i < ys.length := by simpa using hi
        have hix : i < xs.length := by omega
        have hid : i < ds.length := by omega
        refine ⟨rfl, _, rfl, _, rfl, .inr (.inl ⟨_, _, (i : Nat), _, rfl, rfl, s3.tup e, atI_nat (List.getElem?_eq_getElem hix), ?_⟩)⟩
        refine ⟨_, rfl, _, rfl, .inr (.inl ⟨_, _, (i : Nat), _, rfl, rfl, s3.tup e2, atI_nat (List.getElem?_eq_getElem hi), ?_⟩)⟩
        refine ⟨_, _, ds[i], rfl, (all i _ _ (List.getElem?_eq_getElem hix) (List.getElem?_eq_getElem hid)).same s3, (all2 i _ _ (List.getElem?_eq_getElem hi) (List.getElem?_eq_getElem hid)).same s3, fun H4 s4 => ⟨true, rfl, iteF ⟨s3.trans s4, s4 _ _ e3⟩⟩⟩
      · rintro H2 ⟨s3, e3⟩
        refine ⟨Nat.zero_le _, fun p2 np2 => ⟨.list [], .list [], .lst (sqL_of (by rw [upd_ne (ne_of_none e3 np2)]; exact e3)) .nil, .lst sqL_new .nil, rfl, rfl, q _ (s3.put' np2)⟩⟩
end
end Sc
namespace Sc
open PySem PySem.Spec PyProof.Rows L2
/-- tuple(list): the new tuple with its object -/
def rTupF (K : PySem.W.Frag) : List V → Hp → VK → Prop := fun xs H Q => ∃ (l : Addr) (ys : List V), xs = [.ref l] ∧ SqL K H l ys ∧ ys.length ≤ sizeLine ∧ ∀ (p : Addr) (o : Obj), H p = none → o.cls = .type "tuple" → o.dict = none → Q (.ref p) (upd H p (.frz o (.tup ys)))
theorem call_tupF {X : Cx} : CallR X (.type "tuple") (rTupF X.K) := by
  intro pins s σ H xs us Q I r h
  obtain ⟨l, ys, rfl, hx, hz, q⟩ := h
  cases r with
  | cons r1 r2 =>
    cases r2
    cases r1
    obtain ⟨its, rv, ht, hz2⟩ := Inv.list I hx
    have hl := Vals.length rv
    refine PySem.call_tuple_list (show s.heap.IsList l its.toArray by obtain ⟨o, h1, h2, h3, h4, h5⟩ := ht; exact ⟨o, h2, h3, h1, h5⟩) (fun h' hk => ?_) (by rw [List.size_toArray, ← hl]; exact hz)
    have I2 := Inv.kept (t' := s.toks) I hk
    have hp : ∀ b u, h'.get? b = some u → (h'.push { cls := .type "tuple", data := .seq its.toArray }).get? b = some u := fun b ob q => Heap.get?_push_of_some _ q
    refine ⟨.ref _, _, Inv.laid (s := { heap := h', gens := s.gens, drawn := s.drawn, toks := s.toks, os := s.os }) I2 hp (Nat.le_refl _) ?_, rfl, q _ { cls := .type "tuple", data := .seq its.toArray } (I2.hok.fresh (Nat.le_refl _)) rfl rfl⟩
    dsimp only [ObjOk]
    exact ⟨Heap.get?_push_size _ (ho := rfl), hz2, its, rv, _, Heap.get?_push_size _ (ho := rfl), rfl, _, rfl⟩
/-- a tuple whose object is known -/
def isTup (x : V) (H : Hp) : Prop := ∃ (p : Addr) (o : Obj) (xs : List V), x = .ref p ∧ H p = some (.frz o (.tup xs)) ∧ o.cls = .type "tuple" ∧ o.dict = none
theorem tyok_tup {X : Cx} : TyOk X "tuple" isTup := by
  rintro pins σ H s x v I r ⟨p, o, xs, rfl, h, hc, hd⟩
  have z := I.hok p _ h
  cases r
  obtain ⟨g, _⟩ := z
  exact ⟨⟨o, g, hc⟩, fun a e => by cases e; exact ⟨o, g, hd⟩⟩
/-- facts in such a tuple -/
def FacT (H : Hp) (a : Addr) (xs : List Str) : Prop := ∃ o : Obj, H a = some (.frz o (.tup (xs.map V.str))) ∧ o.cls = .type "tuple" ∧ o.dict = none
theorem FacT.same {H H' : Hp} {a : Addr} {xs : List Str} (s : Same H H') (h : FacT H a xs) : FacT H' a xs := by
  obtain ⟨o, h1, h2⟩ := h
  exact ⟨o, s _ _ h1, h2⟩
theorem FacT.keeps {N : Addr → Prop} {H H' : Hp} {a : Addr} {xs : List Str} (k : Keeps N H H') (h : FacT H a xs) : FacT H' a xs := by
  obtain ⟨o, h1, h2⟩ := h
  exact ⟨o, k _ _ ⟨(fun _ z => nomatch z), (fun _ _ _ z => nomatch z), (fun _ z => nomatch z)⟩ h1, h2⟩
theorem FacT.tup {K : PySem.W.Frag} {H : Hp} {a : Addr} {xs : List Str} (h : FacT H a xs) : SqT K H a (xs.map V.str) := by
  obtain ⟨o, h1, _⟩ := h
  exact .inl (.inr ⟨o, h1⟩)
theorem FacT.is {H : Hp} {a : Addr} {xs : List Str} (h : FacT H a xs) : isTup (.ref a) H := by
  obtain ⟨o, h1, h2, h3⟩ := h
  exact ⟨a, o, _, rfl, h1, h2, h3⟩
end Sc
namespace Sc
open PySem PySem.Spec PyProof.Rows L2
structure BookX (P : Program) (w : World) (K : PySem.W.Frag) (mg : Str → Option Value) (base : Heap) (B : Addr) : Prop where
  cls : Cls K B
  facts : PropX P w K mg base B "facts" "_facts"
  rules : PropX P w K mg base B "rules" "_rules"
  ruling : PropX P w K mg base B "ruling" "_ruling"
end Sc
namespace Sc
open PySem PySem.Spec PyProof.Rows L2
abbrev s_numbers_of_rules : Stmt := topS 46
theorem sc_numbers_of_rules : FnScope ["facts", "rules", "numbers", "rule", "part", "name"] ["facts", "rules"] (defScope s_numbers_of_rules) := ⟨rfl, rfl, rfl, by decide +kernel, rfl, by decide +kernel, by decide +kernel⟩
abbrev s_encode_book : Stmt := topS 44
theorem sc_encode_book : FnScope ["book", "numbers", "fact"] ["book"] (defScope s_encode_book) := ⟨rfl, rfl, rfl, by decide +kernel, rfl, by decide +kernel, by decide +kernel⟩
abbrev s__law_rules_code : Stmt := topS 63
theorem sc__law_rules_code : FnScope ["_law_rules", "_law_facts_here", "_law_found", "_law_name", "_law_holding", "_law_failing", "_law_ruling", "_law_inner", "_law_side", "_law_one"] ["_law_rules", "_law_facts_here"] (defScope s__law_rules_code) := ⟨rfl, rfl, rfl, by decide +kernel, rfl, by decide +kernel, by decide +kernel⟩
abbrev s__law_code : Stmt := topS 64
theorem sc__law_code : FnScope ["_law_drawn_here", "_law_found", "_law_fact"] ["_law_drawn_here"] (defScope s__law_code) := ⟨rfl, rfl, rfl, by decide +kernel, rfl, by decide +kernel, by decide +kernel⟩
section
variable {P : Program} {w : World} {K : PySem.W.Frag} {mg : Str → Option Value} {base : Heap} {C R B : Addr}
/-- rules over facts, for their numbers -/
structure CF (xs : List Str) (n : Nd) : Prop where
  ok : NdOk n
  s1 : ∀ x ∈ n.hs, x ∈ xs
  s2 : ∀ x ∈ n.fs, x ∈ xs
/-- the numbers of the first rules -/
def preC (xs : List Str) (f : RF) (i : Nat) : List Int := (f.nodes.length : Int) :: (f.nodes.take i).flatMap (RF.codeN xs)
theorem preC_more {xs : List Str} {f : RF} {i : Nat} {n : Nd} (h : f.nodes[i]? = some n) : preC xs f (i + 1) = preC xs f i ++ RF.codeN xs n := by
  unfold preC
  rw [take_more h, List.flatMap_append]
  simp
theorem preC_all {xs : List Str} {f : RF} : preC xs f f.nodes.length = f.code xs := by
  unfold preC RF.code
  rw [List.take_length, RF.codeB_nodes]
theorem preC_len (xs : List Str) (f : RF) (i : Nat) : (preC xs f i).length ≤ (f.codeB xs).length + 1 := by
  unfold preC
  rw [RF.codeB_nodes, List.length_cons]
  have e : f.nodes.flatMap (RF.codeN xs) = (f.nodes.take i).flatMap (RF.codeN xs) ++ (f.nodes.drop i).flatMap (RF.codeN xs) := by rw [← List.flatMap_append, List.take_append_drop]
  rw [e, List.length_append]
  omega
theorem idx_at {z : Str} : ∀ {xs : List Str}, z ∈ xs → xs[xs.idxOf z]? = some z ∧ ∀ m, m < xs.idxOf z → xs[m]? ≠ some z
  | x :: r, h => by
    by_cases e : x = z
    · subst e
      rw [List.idxOf_cons_self]
      exact ⟨rfl, fun m hm => absurd hm (Nat.not_lt_zero m)⟩
    · have e1 : (x :: r).idxOf z = r.idxOf z + 1 := by
        rw [List.idxOf_cons]
        have : (x == z) = false := by simpa using e
        rw [this]
        rfl
      rw [e1]
      have ih := idx_at (xs := r) ((List.mem_cons.mp h).resolve_left fun z => e z.symm)
      refine ⟨ih.1, fun m hm => ?_⟩
      cases m with
      | zero => intro z; exact e (Option.some.inj z)
      | succ m => exact ih.2 m (by omega)
def sp_nrules (K : PySem.W.Frag) (C R : Addr) (d : Nat) : Sp := fun vs H Q _ => ∃ (N : Addr → Prop) (a p : Addr) (xs : List Str) (rs : List V) (f : RF), vs = [.ref a, .ref p] ∧ FacT H a xs ∧ SqT K H p rs ∧ ForAt K C R N H f rs ∧ f.dep ≤ d ∧ f.size ≤ 900 ∧ f.every (CF xs) ∧
  ∀ H' D, Same H H' → H D = none → H' D = some (.lst ((f.code xs).map V.int)) → Q (.ref D) H'
theorem ok_nrules {d : Nat} {f : Addr} {fd : FuncData} (F : Fun K "numbers_of_rules" "numbers_of_rules" s_numbers_of_rules f fd) (B : Blt mg) (kR : RuleX P w K mg base R) (kK : CondG P w K mg base C) (c_numbers_of_name : Cal P w K mg base CX0 1 "numbers_of_name" ["name"] sp_nname)
    (c_numbers_of_rules : Cal P w K mg base CX0 (d + 3) "numbers_of_rules" ["facts", "rules"] (Below (sp_nrules K C R) d)) :
    FnOk P w K mg base CX0 (d + 4) f fd ["facts", "rules"] (sp_nrules K C R d) := by
  refine F.ok sc_numbers_of_rules (fun vs H Q E h => by obtain ⟨N, a, p, xs, rs, f, rfl, _⟩ := h; rfl) (fun cdv A outer s H vs Q E hr h => ?_)
  obtain ⟨N, a, p, xs, rs, f, rfl, hS, hP, hF, hd, hz, hev, q⟩ := h
  refine ⟨_, (pss_cons (ps_set (i := 2) sc_numbers_of_rules.nd rfl (Or.inl rfl) (pe_lst (pa_cons (pe_callB call_len_seq (by rfl) B.b_len PySem.boot_len (pa_cons (pv 1) pa_nil)) pa_nil)))
      (pss_cons (ps_for PassesOwn.never rfl (pi_tup (pv 1)) (pg_name (i := 3) sc_numbers_of_rules.nd rfl (Or.inl rfl)) (pss_cons (ps_expr (pe_bm PySem.F.plainAttrs_list PySem.F.slot_list_extend PySem.F.type_list_extend mt_extend (pv 2) (pa_cons (pe_op op_cat (pe_cal c_numbers_of_name (hr.mono (by omega)) (pa_cons (pe_cprop kR.name kR.cls (hr.mono (by omega)) (pv 3)) pa_nil)) (pe_cal c_numbers_of_name (hr.mono (by omega)) (pa_cons (pe_cprop kR.ruling kR.cls (hr.mono (by omega)) (pv 3)) pa_nil))) pa_nil)))
      (pss_cons (ps_for PassesOwn.never rfl (pi_tup (pe_tup (pa_cons (pe_cprop kK.holding kK.cls (hr.mono (by omega)) (pe_cprop kR.condition kR.cls (hr.mono (by omega)) (pv 3))) (pa_cons (pe_cprop kK.failing kK.cls (hr.mono (by omega)) (pe_cprop kR.condition kR.cls (hr.mono (by omega)) (pv 3))) pa_nil)))) (pg_name (i := 4) sc_numbers_of_rules.nd rfl (Or.inl rfl)) (pss_one (ps_expr (pe_bm PySem.F.plainAttrs_list PySem.F.slot_list_extend PySem.F.type_list_extend mt_extend (pv 2) (pa_cons (pe_op op_cat (pe_lst (pa_cons (pe_callB call_len_seq (by rfl) B.b_len PySem.boot_len (pa_cons (pv 4) pa_nil)) pa_nil)) (pe_lc (own := [("name", 5)]) (g := gName 5) (tt := tYes) rfl sc_numbers_of_rules.nd (pi_tup (pv 4)) (blkOk_by (own := [("name", 5)]) (N := ["facts", "rules", "numbers", "rule", "part", "name"]) (sc := defScope s_numbers_of_rules) (by decide +kernel)) (fun _ _ _ _ _ => (pg_name (i := 5) sc_numbers_of_rules.nd rfl (Or.inl rfl))) (fun _ _ _ _ _ => pts_nil) (fun _ _ _ _ _ => (pe_.re (pe_mG tyok_tup PySem.F.plainAttrs_tuple PySem.F.slot_tuple_index PySem.F.type_tuple_index mt_tup_index (pv 0) (pa_cons (pv 5) pa_nil)) (by first | (dsimp only [Cx.blk]; done) | exact rfl))))) pa_nil)))))
      (pss_one (ps_expr (pe_bm PySem.F.plainAttrs_list PySem.F.slot_list_extend PySem.F.type_list_extend mt_extend (pv 2) (pa_cons (pe_cal c_numbers_of_rules hr (pa_cons (pv 0) (pa_cons (pe_cprop kR.exceptions kR.cls (hr.mono (by omega)) (pv 3)) pa_nil))) pa_nil)))))))
      (pss_one (ps_ret (pv 2))))), ?_⟩
  have hA := hF.all
  have hln := hA.len
  have hlz := RF.nodes_le f
  have hcl := RF.codeB_len (xs := xs) (RF.every_mono (fun n (h : CF xs n) => h.ok) hev)
  refine ⟨_, rfl, p, rs, rfl, .inr hP, (by show 1 ≤ sizeLine; decide), fun D nD => ?_⟩
  have s0 : Same H (upd H D (.lst [.int (rs.length : Nat)])) := (Same.refl H).put nD
  have e0 : (upd H D (.lst [.int (rs.length : Nat)])) D = some (.lst ((preC xs f 0).map V.int)) := by rw [hln]; exact upd_same
  generalize upd H D (.lst [.int (rs.length : Nat)]) = H0 at s0 e0 ⊢
  refine ⟨_, rfl, p, rfl, ⟨_, s0.tup hP⟩, for_it walk_tup (fun i σ H' => ∃ (y3 y4 y5 : Option V), σ = [some (.ref a), some (.ref p), some (.ref D), y3, y4, y5] ∧ Same H H' ∧ H' D = some (.lst ((preC xs f i).map V.int)))
    ⟨_, _, _, rfl, s0, e0⟩ (fun _ _ _ _ ⟨_, _, _, _, s, _⟩ => s.tup hP) ?_ ?_⟩
  · rintro i y σ H4 H3 hi ⟨y3, y4, y5, rfl, s, e⟩ ⟨rfl, hy⟩
    obtain ⟨n, hn, o, rfl, hN⟩ := hA.get hy
    have hmem : n ∈ f.nodes := List.mem_of_getElem? hn
    have hdm := RF.dep_mem _ n hmem
    have hsm := RF.size_mem _ n hmem
    obtain ⟨hc, hex⟩ := RF.every_nodes.mp hev n hmem
    obtain ⟨d, rfl⟩ : ∃ d', d = d' + 1 := ⟨d - 1, by omega⟩
    have hpl := preC_len xs f i
    have hpl2 := preC_len xs f (i + 1)
    rw [preC_more hn] at hpl2
    unfold RF.codeN at hpl2
    rw [List.length_append, List.length_append, List.length_append, List.length_append, List.length_append, partC_len, partC_len] at hpl2
    obtain ⟨dx', c', pe', l', ws', ho', hc', hpe', hle', hfe'⟩ := hN
    obtain ⟨dxc, ca, cb, cn, zs, hcc, hca, hcb, _⟩ := hc'.at_
    have hoS := s _ _ ho'
    refine ⟨_, rfl, .inl ⟨rfl, _, sqL_of e⟩, ?_⟩
    refine ⟨_, rfl, o, dx', _, rfl, hoS, o, dx', _, _, rfl, hoS, rfl, n.nm, rfl, hc.ok.nm, fun H5 D5 s5 n5 e5 => ?_⟩
    have ho5 := s5 _ _ hoS
    refine ⟨_, rfl, o, dx', _, rfl, ho5, o, dx', _, _, rfl, ho5, rfl, n.rl, rfl, hc.ok.rl, fun H6 D6 s6 n6 e6 => ?_⟩
    refine catL (s6 _ _ e5) e6 (by rw [sizeLine_eq, List.length_map, List.length_map]; omega) fun D7 H7 s7 n7 e7 => ?_
    have s37 := s5.trans (s6.trans s7)
    refine ⟨D, D7, _, _, rfl, rfl, s37 _ _ e, e7, by rw [sizeLine_eq, List.length_append, List.length_map, List.length_map, List.length_map]; omega, ?_⟩
    rw [← List.map_append, ← List.map_append]
    have S8 : Same H (upd H7 D (.lst ((preC xs f i ++ (nameC n.nm ++ nameC n.rl)).map V.int))) := (s.trans s37).put nD
    have E8 : (upd H7 D (.lst ((preC xs f i ++ (nameC n.nm ++ nameC n.rl)).map V.int))) D = some (.lst ((preC xs f i ++ (nameC n.nm ++ nameC n.rl)).map V.int)) := upd_same
    generalize upd H7 D (.lst ((preC xs f i ++ (nameC n.nm ++ nameC n.rl)).map V.int)) = H8 at S8 E8 ⊢
    have ho8 := S8 _ _ ho'
    have hcc8 := S8 _ _ hcc
    refine ⟨_, rfl, o, dx', _, rfl, ho8, o, dx', _, _, rfl, ho8, rfl, c', dxc, _, rfl, hcc8, c', dxc, _, _, rfl, hcc8, rfl, _, rfl, o, dx', _, rfl, ho8, o, dx', _, _, rfl, ho8, rfl, c', dxc, _, rfl, hcc8, c', dxc, _, _, rfl, hcc8, rfl, (by show 2 ≤ sizeLine; decide), fun tq ntq => ?_⟩
    have s9 : Same H8 (upd H8 tq (.tup [.ref ca, .ref cb])) := (Same.refl H8).put ntq
    have E9 := s9 _ _ E8
    have hq9 : (upd H8 tq (.tup [.ref ca, .ref cb])) tq = some (.tup [.ref ca, .ref cb]) := upd_same
    have S9 := S8.trans s9
    have nDq : tq ≠ D := fun z => by rw [z, E8] at ntq; cases ntq
    generalize upd H8 tq (.tup [.ref ca, .ref cb]) = H9 at s9 E9 hq9 S9 ⊢
    refine ⟨tq, rfl, ⟨_, sqT_of hq9⟩, for_it walk_tup (fun j σ H' => ∃ (y4 y5 : Option V), σ = [some (.ref a), some (.ref p), some (.ref D), some (.ref o), y4, y5] ∧ Same H H' ∧ H' tq = some (.tup [.ref ca, .ref cb]) ∧ H' D = some (.lst ((preC xs f i ++ (nameC n.nm ++ nameC n.rl) ++ (([n.hs, n.fs].take j).flatMap (partC xs))).map V.int)))
      ⟨_, _, rfl, S9, hq9, by rw [E9]; simp⟩ (fun _ _ _ _ ⟨_, _, _, _, h, _⟩ => sqT_of h) ?_ ?_⟩
    · rintro j y σ Hb Ha hj ⟨y4, y5, rfl, Sa, hqa, Ea⟩ ⟨rfl, hy⟩
      obtain ⟨b, ps, rfl, hb, hps, hin⟩ : ∃ b ps, y = .ref b ∧ SqT K H b (ps.map V.str) ∧ [n.hs, n.fs][j]? = some ps ∧ ∀ x ∈ ps, x ∈ xs := by
        match j, hy with
        | 0, hy => cases hy; exact ⟨ca, n.hs, rfl, hca, rfl, hc.s1⟩
        | 1, hy => cases hy; exact ⟨cb, n.fs, rfl, hcb, rfl, hc.s2⟩
        | j + 2, hy => cases hy
      have hp3 : ps.length ≤ 8 := by
        have h1 := fw_len hc.ok.c1
        have h2 := fw_len hc.ok.c2
        simp only [List.length_nil] at h1
        match j, hps with
        | 0, hps => cases hps; omega
        | 1, hps => cases hps; omega
        | j + 2, hps => cases hps
      have hfl : (([n.hs, n.fs].take j).flatMap (partC xs)).length ≤ n.hs.length + n.fs.length + 2 := by
        match j, hps with
        | 0, _ => exact Nat.zero_le _
        | 1, _ => show (partC xs n.hs ++ []).length ≤ _; rw [List.append_nil, partC_len]; omega
        | j + 2, hps => cases hps
      have hbA := Sa.tup hb
      refine ⟨_, rfl, .inl ⟨rfl, _, sqL_of Ea⟩, ?_⟩
      refine ⟨_, rfl, b, _, rfl, .inr hbA, (by show 1 ≤ sizeLine; decide), fun d1 n1 => ?_⟩
      have s1 : Same Ha (upd Ha d1 (.lst [.int ((ps.map V.str).length : Nat)])) := (Same.refl Ha).put n1
      have m1 : (upd Ha d1 (.lst [.int ((ps.map V.str).length : Nat)])) d1 = some (.lst [.int (ps.length : Nat)]) := by rw [upd_same, List.length_map]
      generalize upd Ha d1 (.lst [.int ((ps.map V.str).length : Nat)]) = H1 at s1 m1 ⊢
      refine ⟨_, rfl, b, rfl, ⟨_, s1.tup hbA⟩, fun D2 nD2 => lc_it walk_tup (fun k H' => Same H1 H' ∧ H' D2 = some (.lst (((ps.take k).map fun h => (xs.idxOf h : Int)).map V.int))) ⟨(Same.refl H1).put nD2, upd_same⟩ (fun _ _ _ h => h.1.tup (s1.tup hbA)) ?_ ?_⟩
      · rintro k y H2 H3 hk ⟨s2, e2⟩ ⟨rfl, hy⟩
        rw [List.length_map] at hk
        have hx : ps[k]? = some ps[k] := List.getElem?_eq_getElem hk
        obtain rfl : V.str ps[k] = y := strAt_inj hx hy
        obtain ⟨j1, j2⟩ := idx_at (hin _ (List.getElem_mem hk))
        have hf : FacT H3 a xs := hS.same (Sa.trans (s1.trans s2))
        refine ⟨rfl, yes_ ⟨_, rfl, hf.is, _, rfl, a, xs, _, _, rfl, rfl, hf.tup, j1, j2, _, e2, ?_, s2.put nD2, ?_⟩⟩
        · rw [List.length_map, List.length_map]
          exact small1000 (by have := List.length_take_le k ps; omega)
        · rw [upd_same, take_more hx, List.map_append, List.map_append]
          rfl
      rintro H2 ⟨s2, e2⟩
      rw [List.length_map, List.take_length] at e2
      refine catL (s2 _ _ m1) e2 (by rw [sizeLine_eq, List.length_map, List.length_map]; show 1 + _ ≤ _; omega) fun D3 H3 s3 n3 e3 => ?_
      have s13 := s1.trans (s2.trans s3)
      refine ⟨D, D3, _, _, rfl, rfl, s13 _ _ Ea, e3, ?_, ?_⟩
      · rw [sizeLine_eq, List.length_append, List.length_map, List.length_map, List.length_map, List.length_append, List.length_append, List.length_append]
        show _ + (1 + ps.length) ≤ _
        omega
      · refine ⟨_, _, rfl, (Sa.trans s13).put nD, (by rw [upd_ne nDq]; exact s13 _ _ hqa), ?_⟩
        rw [upd_same, take_more hps, List.flatMap_append, List.flatMap_cons, List.flatMap_nil, List.append_nil]
        simp [partC]
    · rintro σ Ha ⟨y4, y5, rfl, Sa, hqa, Ea⟩
      have Ea : Ha D = some (.lst ((preC xs f i ++ (nameC n.nm ++ nameC n.rl) ++ (partC xs n.hs ++ partC xs n.fs)).map V.int)) := by
        rw [Ea]
        show some (HO.lst ((preC xs f i ++ (nameC n.nm ++ nameC n.rl) ++ (partC xs n.hs ++ (partC xs n.fs ++ []))).map V.int)) = _
        rw [List.append_nil]
      have hoa := Sa _ _ ho'
      refine ⟨_, rfl, .inl ⟨rfl, _, sqL_of Ea⟩, ?_⟩
      refine ⟨_, rfl, _, rfl, o, dx', _, rfl, hoa, o, dx', _, _, rfl, hoa, rfl, N, a, pe', xs, ws', n.exc, rfl, hS.same Sa, Sa.tup hpe', hfe'.keeps Sa.keeps, by omega, by omega, hex, fun H5 D5 s5 n5 e5 => ?_⟩
      refine ⟨D, D5, _, _, rfl, rfl, s5 _ _ Ea, e5, ?_, ?_⟩
      · rw [sizeLine_eq, List.length_map, List.length_map, List.length_append, List.length_append, List.length_append, List.length_append, partC_len, partC_len]
        omega
      · refine ⟨_, _, _, rfl, (Sa.trans s5).put nD, ?_⟩
        rw [upd_same, preC_more hn, ← List.map_append]
        unfold RF.codeN
        simp only [List.append_assoc]
  · rintro σ H3 ⟨y3, y4, y5, rfl, s, e⟩
    rw [hln, preC_all] at e
    exact ⟨_, rfl, q _ D s nD e⟩
/-- a book whose facts' tuple is known -/
def BookFp (K : PySem.W.Frag) (C R B : Addr) (N : Addr → Prop) (H : Hp) (o a : Addr) (f : RF) (rl : Str) : Prop := ∃ (dx p l : Addr) (ws us : List V), H o = some (.ins B dx (bookF a p rl l)) ∧ SqT K H p ws ∧ ForAt K C R N H f ws ∧ (N l ∧ H l = some (.lst us)) ∧ All2 (RefAt K C R N H) us ((f.pre 0).map fun q => q.1)
theorem BookFp.keeps {N : Addr → Prop} {H H' : Hp} {o a : Addr} {f : RF} {rl : Str} (h : BookFp K C R B N H o a f rl) (k : Keeps N H H') : BookFp K C R B N H' o a f rl := by
  obtain ⟨dx, p, l, ws, us, h1, h3, h4, ⟨h5, h6⟩, h7⟩ := h
  exact ⟨dx, p, l, ws, us, k _ _ stays_ins h1, k.tup h3, h4.keeps k, ⟨h5, k _ _ (stays_lst h5) h6⟩, h7.mono fun _ _ x => x.keeps k⟩
theorem BookFp.at_ {N : Addr → Prop} {H : Hp} {o a : Addr} {xs : List Str} {f : RF} {rl : Str} (h : BookFp K C R B N H o a f rl) (hf : SqT K H a (xs.map V.str)) : BookAt K C R B N H o xs f rl := by
  obtain ⟨dx, p, l, ws, us, h1, h3, h4, h5, h7⟩ := h
  exact ⟨dx, a, p, l, ws, us, h1, hf, h3, h4, h5, h7⟩
def preF (xs : List Str) (i : Nat) : List Int := 66 :: (xs.length : Int) :: (xs.take i).flatMap nameC
theorem preF_more {xs : List Str} {i : Nat} {x : Str} (h : xs[i]? = some x) : preF xs (i + 1) = preF xs i ++ nameC x := by
  unfold preF
  rw [take_more h, List.flatMap_append]
  simp
theorem preF_len {xs : List Str} (h : ∀ x ∈ xs, isName x = true) (i : Nat) : (preF xs i).length ≤ 2 + 9 * i := by
  induction i with
  | zero => exact Nat.le_refl 2
  | succ i ih =>
    by_cases hi : i < xs.length
    · rw [preF_more (List.getElem?_eq_getElem hi), List.length_append, nameC_len]
      have := name_len (h _ (List.getElem_mem hi))
      omega
    · have : preF xs (i + 1) = preF xs i := by
        unfold preF
        rw [List.take_of_length_le (by omega), List.take_of_length_le (by omega)]
      rw [this]
      omega
theorem bookC_eq (xs : List Str) (f : RF) (rl : Str) : preF xs xs.length ++ (f.code xs ++ nameC rl) = bookC xs f rl := by
  unfold preF bookC factC
  rw [List.take_length]
  simp
theorem bookC_len {xs : List Str} {f : RF} {rl : Str} (h : ∀ x ∈ xs, isName x = true) (hf : f.every NdOk) (hr : isName rl = true) : (bookC xs f rl).length ≤ 12 + 9 * xs.length + 29 * f.size := by
  rw [← bookC_eq, List.length_append, List.length_append, nameC_len]
  have h1 := preF_len h xs.length
  have h2 := RF.codeB_len (xs := xs) hf
  have h3 := name_len hr
  unfold RF.code
  rw [List.length_cons]
  omega
def sp_encode (K : PySem.W.Frag) (C R B : Addr) : Sp := fun vs H Q _ => ∃ (N : Addr → Prop) (o a : Addr) (xs : List Str) (f : RF) (rl : Str), vs = [.ref o] ∧ BookFp K C R B N H o a f rl ∧ FacT H a xs ∧ (∀ x ∈ xs, isName x = true) ∧ xs.length ≤ 60 ∧ f.dep ≤ 12 ∧ f.size ≤ 900 ∧ f.every (CF xs) ∧ isName rl = true ∧
  ∀ H' D, Same H H' → H' D = some (.lst ((bookC xs f rl ++ [chk (bookC xs f rl)]).map V.int)) → Q (.ref D) H'
theorem ok_encode {f : Addr} {fd : FuncData} {t1 : Tok} (F : Fun K "encode_book" "encode_book" s_encode_book f fd) (B' : Blt mg) (kB : BookX P w K mg base B) (m_FIRST_NUMBER : mg "FIRST_NUMBER" = some (.int 66 t1)) (c_numbers_of_name : Cal P w K mg base CX0 1 "numbers_of_name" ["name"] sp_nname)
    (c_numbers_of_rules : Cal P w K mg base CX0 16 "numbers_of_rules" ["facts", "rules"] (sp_nrules K C R 12)) (c_checksum : Cal P w K mg base CX0 1 "checksum" ["numbers"] sp_chk) :
    FnOk P w K mg base CX0 17 f fd ["book"] (sp_encode K C R B) := by
  refine F.ok sc_encode_book (fun vs H Q E h => by obtain ⟨N, o, a, xs, f, rl, rfl, _⟩ := h; rfl) (fun cdv A outer s H vs Q E hr h => ?_)
  obtain ⟨N, o, a, xs, f, rl, rfl, hB, hf, hxs, hxl, hd, hz, hev, hrl, q⟩ := h
  obtain ⟨dx, p, l, ws, us, ho, hP, hF, hl, hus⟩ := hB
  have B := B'
  refine ⟨_, (pss_cons (ps_set (i := 1) sc_encode_book.nd rfl (Or.inl rfl) (pe_lst (pa_cons (pe_glob (v := .int 66) rfl m_FIRST_NUMBER ⟨_, rfl⟩) (pa_cons (pe_callB call_len_seq (by rfl) B.b_len PySem.boot_len (pa_cons (pe_cprop kB.facts kB.cls (hr.mono (by decide)) (pv 0)) pa_nil)) pa_nil))))
      (pss_cons (ps_for PassesOwn.never rfl (pi_tup (pe_cprop kB.facts kB.cls (hr.mono (by decide)) (pv 0))) (pg_name (i := 2) sc_encode_book.nd rfl (Or.inl rfl)) (pss_one (ps_expr (pe_bm PySem.F.plainAttrs_list PySem.F.slot_list_extend PySem.F.type_list_extend mt_extend (pv 1) (pa_cons (pe_cal c_numbers_of_name (hr.mono (by decide)) (pa_cons (pv 2) pa_nil)) pa_nil)))))
      (pss_cons (ps_expr (pe_bm PySem.F.plainAttrs_list PySem.F.slot_list_extend PySem.F.type_list_extend mt_extend (pv 1) (pa_cons (pe_op op_cat (pe_cal c_numbers_of_rules (hr.mono (by decide)) (pa_cons (pe_cprop kB.facts kB.cls (hr.mono (by decide)) (pv 0)) (pa_cons (pe_cprop kB.rules kB.cls (hr.mono (by decide)) (pv 0)) pa_nil))) (pe_cal c_numbers_of_name (hr.mono (by decide)) (pa_cons (pe_cprop kB.ruling kB.cls (hr.mono (by decide)) (pv 0)) pa_nil))) pa_nil)))
      (pss_one (ps_ret (pe_op op_cat (pv 1) (pe_lst (pa_cons (pe_cal c_checksum (hr.mono (by decide)) (pa_cons (pv 1) pa_nil)) pa_nil)))))))), ?_⟩
  refine ⟨_, rfl, o, dx, _, rfl, ho, o, dx, _, _, rfl, ho, rfl, a, _, rfl, .inr hf.tup, (by show 2 ≤ sizeLine; decide), fun D nD => ?_⟩
  rw [List.length_map]
  have s0 : Same H (upd H D (.lst [.int 66, .int (xs.length : Nat)])) := (Same.refl H).put nD
  have e0 : (upd H D (.lst [.int 66, .int (xs.length : Nat)])) D = some (.lst ((preF xs 0).map V.int)) := upd_same
  generalize upd H D (.lst [.int 66, .int (xs.length : Nat)]) = H0 at s0 e0 ⊢
  have ho0 := s0 _ _ ho
  have hxx : (xs.map V.str).length = xs.length := List.length_map ..
  refine ⟨_, rfl, o, dx, _, rfl, ho0, o, dx, _, _, rfl, ho0, rfl, a, rfl, ⟨_, s0.tup hf.tup⟩, for_it walk_tup (fun i σ H' => ∃ (y : Option V), σ = [some (.ref o), some (.ref D), y] ∧ Same H H' ∧ H' D = some (.lst ((preF xs i).map V.int))) ⟨_, rfl, s0, e0⟩ (fun _ _ _ _ ⟨_, _, s, _⟩ => s.tup hf.tup) ?_ ?_⟩
  · rintro i y σ H3 H2 hi ⟨y2, rfl, s, e⟩ ⟨rfl, hy⟩
    rw [List.length_map] at hi
    have hx : xs[i]? = some xs[i] := List.getElem?_eq_getElem hi
    obtain rfl : V.str xs[i] = y := strAt_inj hx hy
    have hn := hxs _ (List.getElem_mem hi)
    have hpl := preF_len hxs i
    have hnl := name_len hn
    refine ⟨_, rfl, .inl ⟨rfl, _, sqL_of e⟩, ?_⟩
    refine ⟨_, rfl, xs[i], rfl, hn, fun H4 D4 s4 n4 e4 => ?_⟩
    refine ⟨D, D4, _, _, rfl, rfl, s4 _ _ e, e4, by rw [sizeLine_eq, List.length_map, List.length_map, nameC_len]; omega, _, rfl, (s.trans s4).put nD, ?_⟩
    rw [upd_same, preF_more hx, List.map_append]
  · rintro σ H2 ⟨y2, rfl, s, e⟩
    rw [hxx] at e
    have ho2 := s _ _ ho
    have hpl := preF_len hxs xs.length
    have hrn := name_len hrl
    have hcl := RF.codeB_len (xs := xs) (RF.every_mono (fun n (h : CF xs n) => h.ok) hev)
    refine ⟨_, rfl, .inl ⟨rfl, _, sqL_of e⟩, ?_⟩
    refine ⟨_, rfl, o, dx, _, rfl, ho2, o, dx, _, _, rfl, ho2, rfl, _, rfl, o, dx, _, rfl, ho2, o, dx, _, _, rfl, ho2, rfl, N, a, p, xs, ws, f, rfl, hf.same s, s.tup hP, hF.keeps s.keeps, hd, hz, hev, fun H4 D4 s4 n4 e4 => ?_⟩
    have ho4 := s4 _ _ ho2
    refine ⟨_, rfl, o, dx, _, rfl, ho4, o, dx, _, _, rfl, ho4, rfl, rl, rfl, hrl, fun H5 D5 s5 n5 e5 => ?_⟩
    have hcl2 : (f.code xs).length ≤ 1 + 29 * f.size := by unfold RF.code; rw [List.length_cons]; omega
    refine catL (s5 _ _ e4) e5 (by rw [sizeLine_eq, List.length_map, List.length_map, nameC_len]; omega) fun D6 H6 s6 n6 e6 => ?_
    rw [← List.map_append] at e6
    have s46 := s4.trans (s5.trans s6)
    refine ⟨D, D6, _, _, rfl, rfl, s46 _ _ e, e6, by rw [sizeLine_eq, List.length_map, List.length_map, List.length_append, nameC_len]; omega, ?_⟩
    rw [← List.map_append, bookC_eq]
    have S7 : Same H (upd H6 D (.lst ((bookC xs f rl).map V.int))) := (s.trans s46).put nD
    have E7 : (upd H6 D (.lst ((bookC xs f rl).map V.int))) D = some (.lst ((bookC xs f rl).map V.int)) := upd_same
    generalize upd H6 D (.lst ((bookC xs f rl).map V.int)) = H7 at S7 E7 ⊢
    have hbl := bookC_len (rl := rl) hxs (RF.every_mono (fun n (h : CF xs n) => h.ok) hev) hrl
    refine ⟨_, rfl, _, rfl, D, _, rfl, E7, fun H8 s8 => ⟨(by show 1 ≤ sizeLine; decide), fun D8 n8 => ?_⟩⟩
    have s9 : Same H8 (upd H8 D8 (.lst [.int (chk (bookC xs f rl))])) := (Same.refl H8).put n8
    refine catL (ys := [.int (chk (bookC xs f rl))]) (s9 _ _ (s8 _ _ E7)) upd_same (by rw [sizeLine_eq, List.length_map]; show _ + 1 ≤ _; omega) fun D9 H9 s10 n10 e10 => ?_
    exact q H9 D9 (S7.trans (s8.trans (s9.trans s10))) (by rw [e10, List.map_append]; rfl)
def sp_lrules (K : PySem.W.Frag) (d : Nat) : Sp := fun vs H Q _ => ∃ (a p : Addr) (xs : List Str) (rs : List V) (f : RF), vs = [.ref p, .ref a] ∧ FacT H a xs ∧ SqT K H p rs ∧ RowsAt K H f rs ∧ f.dep ≤ d ∧ f.size ≤ 900 ∧ f.every (CF xs) ∧
  ∀ H' D, Same H H' → H' D = some (.lst ((f.code xs).map V.int)) → Q (.ref D) H'
theorem ok_lrules {d : Nat} {f : Addr} {fd : FuncData} (F : Fun K "_law_rules_code" "_law_rules_code" s__law_rules_code f fd) (B : Blt mg) (c__law_name_code : Cal P w K mg base CX0 1 "_law_name_code" ["_law_name"] sp_nname)
    (c__law_rules_code : Cal P w K mg base CX0 (d + 1) "_law_rules_code" ["_law_rules", "_law_facts_here"] (Below (sp_lrules K) d)) :
    FnOk P w K mg base CX0 (d + 2) f fd ["_law_rules", "_law_facts_here"] (sp_lrules K d) := by
  refine F.ok sc__law_rules_code (fun vs H Q E h => by obtain ⟨a, p, xs, rs, f, rfl, _⟩ := h; rfl) (fun cdv A outer s H vs Q E hr h => ?_)
  obtain ⟨a, p, xs, rs, f, rfl, hS, hP, hX, hd, hz, hev, q⟩ := h
  refine ⟨_, (pss_cons (ps_set (i := 2) sc__law_rules_code.nd rfl (Or.inl rfl) (pe_lst (pa_cons (pe_callB call_len_seq (by rfl) B.b_len PySem.boot_len (pa_cons (pv 0) pa_nil)) pa_nil)))
      (pss_cons (ps_for PassesOwn.never rfl (pi_tup (pv 0)) (pg_tup (by rfl) (pgs_cons (pg_name (i := 3) sc__law_rules_code.nd rfl (Or.inl rfl)) (pgs_cons (pg_name (i := 4) sc__law_rules_code.nd rfl (Or.inl rfl)) (pgs_cons (pg_name (i := 5) sc__law_rules_code.nd rfl (Or.inl rfl)) (pgs_cons (pg_name (i := 6) sc__law_rules_code.nd rfl (Or.inl rfl)) (pgs_cons (pg_name (i := 7) sc__law_rules_code.nd rfl (Or.inl rfl)) pgs_nil)))))) (pss_cons (ps_set (i := 2) sc__law_rules_code.nd rfl (Or.inl rfl) (pe_op op_cat (pe_op op_cat (pv 2) (pe_cal c__law_name_code (hr.mono (by omega)) (pa_cons (pv 3) pa_nil))) (pe_cal c__law_name_code (hr.mono (by omega)) (pa_cons (pv 6) pa_nil))))
      (pss_cons (ps_for PassesOwn.never rfl (pi_tup (pe_tup (pa_cons (pv 4) (pa_cons (pv 5) pa_nil)))) (pg_name (i := 8) sc__law_rules_code.nd rfl (Or.inl rfl)) (pss_one (ps_set (i := 2) sc__law_rules_code.nd rfl (Or.inl rfl) (pe_op op_cat (pe_op op_cat (pv 2) (pe_lst (pa_cons (pe_callB call_len_seq (by rfl) B.b_len PySem.boot_len (pa_cons (pv 8) pa_nil)) pa_nil))) (pe_lc (own := [("_law_one", 9)]) (g := gName 9) (tt := tYes) rfl sc__law_rules_code.nd (pi_tup (pv 8)) (blkOk_by (own := [("_law_one", 9)]) (N := ["_law_rules", "_law_facts_here", "_law_found", "_law_name", "_law_holding", "_law_failing", "_law_ruling", "_law_inner", "_law_side", "_law_one"]) (sc := defScope s__law_rules_code) (by decide +kernel)) (fun _ _ _ _ _ => (pg_name (i := 9) sc__law_rules_code.nd rfl (Or.inl rfl))) (fun _ _ _ _ _ => pts_nil) (fun _ _ _ _ _ => (pe_.re (pe_mG tyok_tup PySem.F.plainAttrs_tuple PySem.F.slot_tuple_index PySem.F.type_tuple_index mt_tup_index (pv 1) (pa_cons (pv 9) pa_nil)) (by first | (dsimp only [Cx.blk]; done) | exact rfl))))))))
      (pss_one (ps_set (i := 2) sc__law_rules_code.nd rfl (Or.inl rfl) (pe_op op_cat (pv 2) (pe_cal c__law_rules_code hr (pa_cons (pv 7) (pa_cons (pv 1) pa_nil)))))))))
      (pss_one (ps_ret (pv 2))))), ?_⟩
  have hA := hX.all
  have hln := hA.len
  have hlz := RF.nodes_le f
  have hcl := RF.codeB_len (xs := xs) (RF.every_mono (fun n (h : CF xs n) => h.ok) hev)
  refine ⟨_, rfl, p, rs, rfl, .inr hP, (by show 1 ≤ sizeLine; decide), fun D nD => ?_⟩
  have s0 : Same H (upd H D (.lst [.int (rs.length : Nat)])) := (Same.refl H).put nD
  have e0 : (upd H D (.lst [.int (rs.length : Nat)])) D = some (.lst ((preC xs f 0).map V.int)) := by rw [hln]; exact upd_same
  generalize upd H D (.lst [.int (rs.length : Nat)]) = H0 at s0 e0 ⊢
  refine ⟨_, rfl, p, rfl, ⟨_, s0.tup hP⟩, for_it walk_tup (fun i σ H' => ∃ (D : Addr) (y3 y4 y5 y6 y7 y8 y9 : Option V), σ = [some (.ref p), some (.ref a), some (.ref D), y3, y4, y5, y6, y7, y8, y9] ∧ Same H H' ∧ H' D = some (.lst ((preC xs f i).map V.int)))
    ⟨D, _, _, _, _, _, _, _, rfl, s0, e0⟩ (fun _ _ _ _ ⟨_, _, _, _, _, _, _, _, _, s, _⟩ => s.tup hP) ?_ ?_⟩
  · rintro i y σ H4 H3 hi ⟨D, y3, y4, y5, y6, y7, y8, y9, rfl, s, e⟩ ⟨rfl, hy⟩
    obtain ⟨n, hn, o, wa, ba, pa, ws', rfl, hO, hW, hB, hPe, hXe⟩ := hA.get hy
    have hmem : n ∈ f.nodes := List.mem_of_getElem? hn
    have hdm := RF.dep_mem _ n hmem
    have hsm := RF.size_mem _ n hmem
    obtain ⟨hc, hex⟩ := RF.every_nodes.mp hev n hmem
    obtain ⟨d, rfl⟩ : ∃ d', d = d' + 1 := ⟨d - 1, by omega⟩
    have hpl := preC_len xs f i
    have hpl2 := preC_len xs f (i + 1)
    rw [preC_more hn] at hpl2
    unfold RF.codeN at hpl2
    rw [List.length_append, List.length_append, List.length_append, List.length_append, List.length_append, partC_len, partC_len] at hpl2
    refine ⟨o, _, rfl, s.tup hO, rfl, _, _, rfl, _, _, rfl, _, _, rfl, _, _, rfl, _, _, rfl, rfl, ?_⟩
    refine ⟨_, rfl, _, rfl, n.nm, rfl, hc.ok.nm, fun H5 D5 s5 n5 e5 => ?_⟩
    refine catL (s5 _ _ e) e5 (by rw [sizeLine_eq, List.length_map, List.length_map]; omega) fun D6 H6 s6 n6 e6 => ?_
    refine ⟨_, rfl, n.rl, rfl, hc.ok.rl, fun H7 D7 s7 n7 e7 => ?_⟩
    refine catL (s7 _ _ e6) e7 (by rw [sizeLine_eq, List.length_append, List.length_map, List.length_map, List.length_map]; omega) fun D8 H8 s8 n8 e8 => ?_
    rw [← List.map_append, ← List.map_append] at e8
    have S8 := s.trans (s5.trans (s6.trans (s7.trans s8)))
    refine ⟨_, rfl, _, rfl, (by show 2 ≤ sizeLine; decide), fun tq ntq => ?_⟩
    have s9 : Same H8 (upd H8 tq (.tup [.ref wa, .ref ba])) := (Same.refl H8).put ntq
    have E9 := s9 _ _ e8
    have hq9 : (upd H8 tq (.tup [.ref wa, .ref ba])) tq = some (.tup [.ref wa, .ref ba]) := upd_same
    have S9 := S8.trans s9
    generalize upd H8 tq (.tup [.ref wa, .ref ba]) = H9 at s9 E9 hq9 S9 ⊢
    refine ⟨tq, rfl, ⟨_, sqT_of hq9⟩, for_it walk_tup (fun j σ H' => ∃ (D : Addr) (y8 y9 : Option V), σ = [some (.ref p), some (.ref a), some (.ref D), some (.str n.nm), some (.ref wa), some (.ref ba), some (.str n.rl), some (.ref pa), y8, y9] ∧ Same H H' ∧ H' tq = some (.tup [.ref wa, .ref ba]) ∧ H' D = some (.lst ((preC xs f i ++ nameC n.nm ++ nameC n.rl ++ (([n.hs, n.fs].take j).flatMap (partC xs))).map V.int)))
      ⟨D8, _, _, rfl, S9, hq9, by rw [E9]; simp⟩ (fun _ _ _ _ ⟨_, _, _, _, _, h, _⟩ => sqT_of h) ?_ ?_⟩
    · rintro j y σ Hb Ha hj ⟨D, y8, y9, rfl, Sa, hqa, Ea⟩ ⟨rfl, hy⟩
      obtain ⟨b, ps, rfl, hb, hps, hin⟩ : ∃ b ps, y = .ref b ∧ SqT K H b (ps.map V.str) ∧ [n.hs, n.fs][j]? = some ps ∧ ∀ x ∈ ps, x ∈ xs := by
        match j, hy with
        | 0, hy => cases hy; exact ⟨wa, n.hs, rfl, hW, rfl, hc.s1⟩
        | 1, hy => cases hy; exact ⟨ba, n.fs, rfl, hB, rfl, hc.s2⟩
        | j + 2, hy => cases hy
      have hp3 : ps.length ≤ 8 := by
        have h1 := fw_len hc.ok.c1
        have h2 := fw_len hc.ok.c2
        simp only [List.length_nil] at h1
        match j, hps with
        | 0, hps => cases hps; omega
        | 1, hps => cases hps; omega
        | j + 2, hps => cases hps
      have hfl : (([n.hs, n.fs].take j).flatMap (partC xs)).length ≤ n.hs.length + n.fs.length + 2 := by
        match j, hps with
        | 0, _ => exact Nat.zero_le _
        | 1, _ => show (partC xs n.hs ++ []).length ≤ _; rw [List.append_nil, partC_len]; omega
        | j + 2, hps => cases hps
      have hbA := Sa.tup hb
      refine ⟨_, rfl, ?_⟩
      refine ⟨_, rfl, b, _, rfl, .inr hbA, (by show 1 ≤ sizeLine; decide), fun d1 n1 => ?_⟩
      have s1 : Same Ha (upd Ha d1 (.lst [.int ((ps.map V.str).length : Nat)])) := (Same.refl Ha).put n1
      have m1 : (upd Ha d1 (.lst [.int ((ps.map V.str).length : Nat)])) d1 = some (.lst [.int (ps.length : Nat)]) := by rw [upd_same, List.length_map]
      generalize upd Ha d1 (.lst [.int ((ps.map V.str).length : Nat)]) = H1 at s1 m1 ⊢
      refine catL (s1 _ _ Ea) m1 (by rw [sizeLine_eq, List.length_map, List.length_append, List.length_append, List.length_append]; show _ + 1 ≤ _; omega) fun D1 Hx sx nx ex => ?_
      refine ⟨_, rfl, b, rfl, ⟨_, (s1.trans sx).tup hbA⟩, fun D2 nD2 => lc_it walk_tup (fun k H' => Same Hx H' ∧ H' D2 = some (.lst (((ps.take k).map fun h => (xs.idxOf h : Int)).map V.int))) ⟨(Same.refl Hx).put nD2, upd_same⟩ (fun _ _ _ h => h.1.tup ((s1.trans sx).tup hbA)) ?_ ?_⟩
      · rintro k y H2 H3 hk ⟨s2, e2⟩ ⟨rfl, hy⟩
        rw [List.length_map] at hk
        have hx : ps[k]? = some ps[k] := List.getElem?_eq_getElem hk
        obtain rfl : V.str ps[k] = y := strAt_inj hx hy
        obtain ⟨j1, j2⟩ := idx_at (hin _ (List.getElem_mem hk))
        have hf : FacT H3 a xs := hS.same (Sa.trans (s1.trans (sx.trans s2)))
        refine ⟨rfl, yes_ ⟨_, rfl, hf.is, _, rfl, a, xs, _, _, rfl, rfl, hf.tup, j1, j2, _, e2, ?_, s2.put nD2, ?_⟩⟩
        · rw [List.length_map, List.length_map]
          exact small1000 (by have := List.length_take_le k ps; omega)
        · rw [upd_same, take_more hx, List.map_append, List.map_append]
          rfl
      rintro H2 ⟨s2, e2⟩
      rw [List.length_map, List.take_length] at e2
      refine catL (s2 _ _ ex) e2 (by rw [sizeLine_eq, List.length_append, List.length_map, List.length_map, List.length_map, List.length_append, List.length_append, List.length_append]; show _ + 1 + _ ≤ _; omega) fun D3 H3 s3 n3 e3 => ?_
      have s13 := s1.trans (sx.trans (s2.trans s3))
      refine ⟨D3, _, _, rfl, Sa.trans s13, s13 _ _ hqa, ?_⟩
      rw [e3, take_more hps, List.flatMap_append, List.flatMap_cons, List.flatMap_nil, List.append_nil]
      simp [partC]
    · rintro σ Ha ⟨D, y8, y9, rfl, Sa, hqa, Ea⟩
      have Ea : Ha D = some (.lst ((preC xs f i ++ nameC n.nm ++ nameC n.rl ++ (partC xs n.hs ++ partC xs n.fs)).map V.int)) := by
        rw [Ea]
        show some (HO.lst ((preC xs f i ++ nameC n.nm ++ nameC n.rl ++ (partC xs n.hs ++ (partC xs n.fs ++ []))).map V.int)) = _
        rw [List.append_nil]
      refine ⟨_, rfl, _, rfl, _, rfl, a, pa, xs, ws', n.exc, rfl, hS.same Sa, Sa.tup hPe, hXe.keeps (N := NoL) Sa.keeps, by omega, by omega, hex, fun H5 D5 s5 e5 => ?_⟩
      refine catL (s5 _ _ Ea) e5 (by rw [sizeLine_eq, List.length_map, List.length_map, List.length_append, List.length_append, List.length_append, List.length_append, partC_len, partC_len]; omega) fun D6 H6 s6 n6 e6 => ?_
      refine ⟨D6, _, _, _, _, _, _, _, rfl, Sa.trans (s5.trans s6), ?_⟩
      rw [e6, preC_more hn, ← List.map_append]
      unfold RF.codeN
      simp only [List.append_assoc]
  · rintro σ H3 ⟨D, y3, y4, y5, y6, y7, y8, y9, rfl, s, e⟩
    rw [hln, preC_all] at e
    exact ⟨_, rfl, q _ D s e⟩
def sp_lcode (K : PySem.W.Frag) : Sp := fun vs H Q _ => ∃ (t a p : Addr) (xs : List Str) (rs : List V) (f : RF) (rl : Str), vs = [.ref t] ∧ SqT K H t [.ref a, .ref p, .str rl] ∧ FacT H a xs ∧ SqT K H p rs ∧ RowsAt K H f rs ∧ (∀ x ∈ xs, isName x = true) ∧ xs.length ≤ 60 ∧ f.dep ≤ 12 ∧ f.size ≤ 900 ∧ f.every (CF xs) ∧ isName rl = true ∧
  ∀ H' D, Same H H' → H' D = some (.lst ((bookC xs f rl).map V.int)) → Q (.ref D) H'
theorem ok_lcode {f : Addr} {fd : FuncData} (F : Fun K "_law_code" "_law_code" s__law_code f fd) (B : Blt mg) (c__law_name_code : Cal P w K mg base CX0 1 "_law_name_code" ["_law_name"] sp_nname)
    (c__law_rules_code : Cal P w K mg base CX0 14 "_law_rules_code" ["_law_rules", "_law_facts_here"] (sp_lrules K 12)) :
    FnOk P w K mg base CX0 15 f fd ["_law_drawn_here"] (sp_lcode K) := by
  refine F.ok sc__law_code (fun vs H Q E h => by obtain ⟨t, a, p, xs, rs, f, rl, rfl, _⟩ := h; rfl) (fun cdv A outer s H vs Q E hr h => ?_)
  obtain ⟨t, a, p, xs, rs, f, rl, rfl, hT, hf, hP, hX, hxs, hxl, hd, hz, hev, hrl, q⟩ := h
  refine ⟨_, (pss_cons (ps_set (i := 1) sc__law_code.nd rfl (Or.inl rfl) (pe_lst (pa_cons pe_int (pa_cons (pe_callB call_len_seq (by rfl) B.b_len PySem.boot_len (pa_cons (pe_ix ix_tup (pv 0) pe_int (fun _ _ => rfl)) pa_nil)) pa_nil))))
      (pss_cons (ps_for PassesOwn.never rfl (pi_tup (pe_ix ix_tup (pv 0) pe_int (fun _ _ => rfl))) (pg_name (i := 2) sc__law_code.nd rfl (Or.inl rfl)) (pss_one (ps_set (i := 1) sc__law_code.nd rfl (Or.inl rfl) (pe_op op_cat (pv 1) (pe_cal c__law_name_code (hr.mono (by decide)) (pa_cons (pv 2) pa_nil))))))
      (pss_one (ps_ret (pe_op op_cat (pe_op op_cat (pv 1) (pe_cal c__law_rules_code (hr.mono (by decide)) (pa_cons (pe_ix ix_tup (pv 0) pe_int (fun _ _ => rfl)) (pa_cons (pe_ix ix_tup (pv 0) pe_int (fun _ _ => rfl)) pa_nil)))) (pe_cal c__law_name_code (hr.mono (by decide)) (pa_cons (pe_ix ix_tup (pv 0) pe_int (fun _ _ => rfl)) pa_nil))))))), ?_⟩
  have hxx : (xs.map V.str).length = xs.length := List.length_map ..
  refine ⟨_, rfl, t, _, 0, _, rfl, rfl, hT, atI_nat (j := 0) rfl, a, _, rfl, .inr hf.tup, (by show 2 ≤ sizeLine; decide), fun D nD => ?_⟩
  rw [List.length_map]
  have s0 : Same H (upd H D (.lst [.int 66, .int (xs.length : Nat)])) := (Same.refl H).put nD
  have e0 : (upd H D (.lst [.int 66, .int (xs.length : Nat)])) D = some (.lst ((preF xs 0).map V.int)) := upd_same
  generalize upd H D (.lst [.int 66, .int (xs.length : Nat)]) = H0 at s0 e0 ⊢
  refine ⟨_, rfl, t, _, 0, _, rfl, rfl, s0.tup hT, atI_nat (j := 0) rfl, a, rfl, ⟨_, s0.tup hf.tup⟩, for_it walk_tup (fun i σ H' => ∃ (D : Addr) (y : Option V), σ = [some (.ref t), some (.ref D), y] ∧ Same H H' ∧ H' D = some (.lst ((preF xs i).map V.int))) ⟨D, _, rfl, s0, e0⟩ (fun _ _ _ _ ⟨_, _, _, s, _⟩ => s.tup hf.tup) ?_ ?_⟩
  · rintro i y σ H3 H2 hi ⟨D, y2, rfl, s, e⟩ ⟨rfl, hy⟩
    rw [List.length_map] at hi
    have hx : xs[i]? = some xs[i] := List.getElem?_eq_getElem hi
    obtain rfl : V.str xs[i] = y := strAt_inj hx hy
    have hn := hxs _ (List.getElem_mem hi)
    have hpl := preF_len hxs i
    have hnl := name_len hn
    refine ⟨_, rfl, _, rfl, xs[i], rfl, hn, fun H4 D4 s4 n4 e4 => ?_⟩
    refine catL (s4 _ _ e) e4 (by rw [sizeLine_eq, List.length_map, List.length_map, nameC_len]; omega) fun D5 H5 s5 n5 e5 => ?_
    refine ⟨D5, _, rfl, s.trans (s4.trans s5), ?_⟩
    rw [e5, preF_more hx, List.map_append]
  · rintro σ H2 ⟨D, y2, rfl, s, e⟩
    rw [hxx] at e
    have hpl := preF_len hxs xs.length
    have hrn := name_len hrl
    have hcl := RF.codeB_len (xs := xs) (RF.every_mono (fun n (h : CF xs n) => h.ok) hev)
    have hcl2 : (f.code xs).length ≤ 1 + 29 * f.size := by unfold RF.code; rw [List.length_cons]; omega
    refine ⟨_, rfl, _, rfl, t, _, 1, _, rfl, rfl, s.tup hT, atI_nat (j := 1) rfl, _, rfl, t, _, 0, _, rfl, rfl, s.tup hT, atI_nat (j := 0) rfl, a, p, xs, rs, f, rfl, hf.same s, s.tup hP, hX.keeps (N := NoL) s.keeps, hd, hz, hev, fun H4 D4 s4 e4 => ?_⟩
    refine catL (s4 _ _ e) e4 (by rw [sizeLine_eq, List.length_map, List.length_map]; omega) fun D5 H5 s5 n5 e5 => ?_
    refine ⟨_, rfl, t, _, 2, _, rfl, rfl, (s.trans (s4.trans s5)).tup hT, atI_nat (j := 2) rfl, rl, rfl, hrl, fun H6 D6 s6 n6 e6 => ?_⟩
    refine catL (s6 _ _ e5) e6 (by rw [sizeLine_eq, List.length_append, List.length_map, List.length_map, List.length_map, nameC_len]; omega) fun D7 H7 s7 n7 e7 => ?_
    refine q H7 D7 (s.trans (s4.trans (s5.trans (s6.trans s7)))) ?_
    rw [e7, ← bookC_eq, List.map_append, List.map_append, List.append_assoc]
end
end Sc
namespace Sc
open PySem PySem.Spec PyProof.Rows L2
abbrev s_Reader___init__ : Stmt := (inClass (topS 49) 0)
theorem sc_Reader___init__ : FnScope ["self", "numbers"] ["self", "numbers"] (defScope s_Reader___init__) := ⟨rfl, rfl, rfl, by decide +kernel, rfl, by decide +kernel, by decide +kernel⟩
abbrev s_Reader_take : Stmt := (inClass (topS 49) 1)
theorem sc_Reader_take : FnScope ["self", "least", "most", "number"] ["self", "least", "most"] (defScope s_Reader_take) := ⟨rfl, rfl, rfl, by decide +kernel, rfl, by decide +kernel, by decide +kernel⟩
abbrev s_Reader_take_name : Stmt := (inClass (topS 49) 2)
theorem sc_Reader_take_name : FnScope ["self", "length", "_"] ["self"] (defScope s_Reader_take_name) := ⟨rfl, rfl, rfl, by decide +kernel, rfl, by decide +kernel, by decide +kernel⟩
abbrev s_Reader_take_facts : Stmt := (inClass (topS 49) 3)
theorem sc_Reader_take_facts : FnScope ["self", "facts", "_", "begin", "fact"] ["self"] (defScope s_Reader_take_facts) := ⟨rfl, rfl, rfl, by decide +kernel, rfl, by decide +kernel, by decide +kernel⟩
abbrev s_Reader_take_part : Stmt := (inClass (topS 49) 6)
theorem sc_Reader_take_part : FnScope ["self", "facts", "taken", "part", "least", "_", "begin", "place"] ["self", "facts", "taken"] (defScope s_Reader_take_part) := ⟨rfl, rfl, rfl, by decide +kernel, rfl, by decide +kernel, by decide +kernel⟩
/-! ### own methods -/
structure MethR (P : Program) (w : World) (K : PySem.W.Frag) (mg : Str → Option Value) (base : Heap) (k : Nat) (C : Addr) (m : Str) (ps : List Str) (sp : Sp) : Prop where
  ex : ∃ (g : Addr) (fd : FuncData), Meth K C m g ∧ FnOk P w K mg base CX0 k g fd ps sp ∧ Binds K fd ps []
section
variable {X : Cx} {k : Nat} {C : Addr} {m : Str} {ps : List Str} {sp : Sp} {e o : Expr} {es : List Expr} {ta : TE} {t : TA} {pos apos : Pos}
theorem pe_me {pl : Sem Bool} (T : Cls X.K C) (M : MethR X.prog X.w X.K X.mg X.base k C m ps sp) (hr : Room k X.A) (he : PE X o ta) (ha : PA X (e :: es) t)
    (hst : starEach (e :: es) X.env = (false, eval e X.env) :: starEach es X.env := by rfl) (hpl : (backTo pos (starEach es X.env)).any (·.1) = false := by rfl)
    (ht : eval (.Call (.Attribute o m apos) (e :: es) [] pos) X.env = (do
      let ov ← eval o X.env
      standAt apos.atName
      let (f, first) ← holding [ov] (getMethod ov m pl)
      callWith pos f first (backTo pos (starEach (e :: es) X.env)) (backToKw pos (keywordEach [] X.env))) := by rfl) : PE X (.Call (.Attribute o m apos) (e :: es) [] pos) (tMeth C m sp [] E0 ta t) := by
  obtain ⟨g, fd, h1, F, hb⟩ := M.ex
  exact pe_meth he T h1 F hr hb .nil pass0 ha hst hpl ht
theorem pe_me0 {pl : Sem Bool} (T : Cls X.K C) (M : MethR X.prog X.w X.K X.mg X.base k C m ps sp) (hr : Room k X.A) (he : PE X o ta)
    (ht : eval (.Call (.Attribute o m apos) [] [] pos) X.env = (do
      let ov ← eval o X.env
      standAt apos.atName
      let (f, first) ← holding [ov] (getMethod ov m pl)
      callWith pos f first (backTo pos (starEach [] X.env)) (backToKw pos (keywordEach [] X.env))) := by rfl) : PE X (.Call (.Attribute o m apos) [] [] pos) (tMeth C m sp [] E0 ta tNil) := by
  obtain ⟨g, fd, h1, F, hb⟩ := M.ex
  exact pe_meth0 he T h1 F hr hb .nil pass0 ht
end
/-! ### a reader -/
def rdF (ln lr : Addr) (at_ cnt : Nat) : List (Str × V) := putF "rule_count" (.int (cnt : Nat)) (putF "rule_names" (.ref lr) (putF "at" (.int (at_ : Nat)) (putF "numbers" (.ref ln) [])))
structure Rdr (RD : Addr) (o dx ln lr : Addr) (zs : List Int) (H : Hp) (at_ : Nat) (ns : List Str) (cnt : Nat) : Prop where
  ob : H o = some (.ins RD dx (rdF ln lr at_ cnt))
  nums : H ln = some (.lst (zs.map V.int))
  names : H lr = some (.lst (ns.map V.str))
  ne : ln ≠ lr
  sm : zs.length ≤ 100000
/-- all but the reader and its list of names stays -/
def Kr (o lr : Addr) (H H' : Hp) : Prop := ∀ b ob, b ≠ o → b ≠ lr → H b = some ob → H' b = some ob
theorem Kr.refl {o lr : Addr} (H : Hp) : Kr o lr H H := fun _ _ _ _ h => h
theorem Kr.trans {o lr : Addr} {H H' H'' : Hp} (h : Kr o lr H H') (k : Kr o lr H' H'') : Kr o lr H H'' := fun b ob n1 n2 e => k b ob n1 n2 (h b ob n1 n2 e)
theorem _root_.L2.Same.kr {o lr : Addr} {H H' : Hp} (s : Same H H') : Kr o lr H H' := fun b ob _ _ e => s b ob e
theorem Kr.put {o lr D : Addr} {H H' : Hp} {x : HO} (k : Kr o lr H H') (n : H D = none) : Kr o lr H (upd H' D x) := fun b ob n1 n2 e => by rw [upd_ne (ne_of_none e n)]; exact k b ob n1 n2 e
theorem Kr.put' {o lr D : Addr} {H H' : Hp} {x : HO} (k : Kr o lr H H') (n : H' D = none) : Kr o lr H (upd H' D x) := fun b ob n1 n2 e => by rw [upd_ne (ne_of_none (k b ob n1 n2 e) n)]; exact k b ob n1 n2 e
theorem Kr.free {o lr D : Addr} {H H' : Hp} (k : Kr o lr H H') (n : H' D = none) (n1 : D ≠ o) (n2 : D ≠ lr) : H D = none := by
  cases h : H D with
  | none => rfl
  | some ob => rw [k D ob n1 n2 h] at n; cases n
section
variable {RD : Addr} {o dx ln lr : Addr} {zs : List Int} {H H' : Hp} {at_ cnt : Nat} {ns : List Str}
theorem Rdr.same (h : Rdr RD o dx ln lr zs H at_ ns cnt) (s : Same H H') : Rdr RD o dx ln lr zs H' at_ ns cnt := ⟨s _ _ h.ob, s _ _ h.nums, s _ _ h.names, h.ne, h.sm⟩
theorem Rdr.new (h : Rdr RD o dx ln lr zs H at_ ns cnt) {D : Addr} (n : H D = none) : D ≠ o ∧ D ≠ lr ∧ D ≠ ln := ⟨(fun z => by rw [z, h.ob] at n; cases n), (fun z => by rw [z, h.names] at n; cases n), (fun z => by rw [z, h.nums] at n; cases n)⟩
/-- a list of one's own changes -/
theorem Rdr.own (h : Rdr RD o dx ln lr zs H at_ ns cnt) {D : Addr} {x : HO} (d : D ≠ o ∧ D ≠ lr ∧ D ≠ ln) : Rdr RD o dx ln lr zs (upd H D x) at_ ns cnt := ⟨by rw [upd_ne d.1.symm]; exact h.ob, by rw [upd_ne d.2.2.symm]; exact h.nums, by rw [upd_ne d.2.1.symm]; exact h.names, h.ne, h.sm⟩
theorem Rdr.keeps (h : Rdr RD o dx ln lr zs H at_ ns cnt) {N : Addr → Prop} (nl : ¬ N lr) (k : Kr o lr H H') : Keeps N H H' := fun b ob st e => by
  by_cases z : b = o
  · subst z
    rw [h.ob] at e
    cases e
    exact absurd ((show DoneF (rdF ln lr at_ cnt) = false from rfl).symm.trans (st.2.1 _ _ _ rfl)) (by decide)
  · by_cases z2 : b = lr
    · subst z2
      rw [h.names] at e
      cases e
      exact absurd (st.1 _ rfl) nl
    · exact k b ob z z2 e
theorem Kr.fac {a : Addr} {xs : List Str} (h : Rdr RD o dx ln lr zs H at_ ns cnt) (k : Kr o lr H H') (f : FacT H a xs) : FacT H' a xs := f.keeps (N := NoL) (h.keeps id k)
end
theorem drop_one {α : Type} {l : List α} {i : Nat} {x : α} {r : List α} (h : l.drop i = x :: r) : l[i]? = some x ∧ l.drop (i + 1) = r ∧ i < l.length := by
  have h1 : i < l.length := by
    rcases Nat.lt_or_ge i l.length with z | z
    · exact z
    · rw [List.drop_of_length_le z] at h; cases h
  rw [List.drop_eq_getElem_cons h1] at h
  injection h with h2 h3
  exact ⟨by rw [List.getElem?_eq_getElem h1, h2], h3, h1⟩
theorem drop_app {α : Type} {l a r : List α} {i : Nat} (h : l.drop i = a ++ r) : l.drop (i + a.length) = r := by
  rw [← List.drop_drop, h, List.drop_left]
section
variable {P : Program} {w : World} {K : PySem.W.Frag} {mg : Str → Option Value} {base : Heap} {C R RD : Addr}
def sp_rinit (RD : Addr) : Sp := fun vs H Qk _ => ∃ (o dx a : Addr) (zs : List Int), vs = [.ref o, .ref a] ∧ H o = some (.ins RD dx []) ∧ H a = some (.lst (zs.map V.int)) ∧ zs.length ≤ 100000 ∧
  ∀ H' ln lr, Rdr RD o dx ln lr zs H' 0 [] 0 → SameX o H H' → H lr = none → Qk .non H'
theorem ok_rinit {f : Addr} {fd : FuncData} (F : Fun K "__init__" "Reader.__init__" s_Reader___init__ f fd) (B : Blt mg) (T : Cls K RD) (n1 : NoAttr K RD "numbers") (n2 : NoAttr K RD "at") (n3 : NoAttr K RD "rule_names") (n4 : NoAttr K RD "rule_count") : FnOk P w K mg base CX0 1 f fd ["self", "numbers"] (sp_rinit RD) := by
  refine F.ok sc_Reader___init__ (fun vs H Q E h => by obtain ⟨o, dx, a, zs, rfl, _⟩ := h; rfl) (fun cdv A outer s H vs Q E hr h => ?_)
  obtain ⟨o, dx, a, zs, rfl, ho, ha, hl, q⟩ := h
  refine ⟨_, (pss_cons (ps_fld (pv 0) (pe_callTy call_list_of (by rfl) B.b_list PyProof.Rows.boot_list (pa_cons (pv 1) pa_nil)) rfl)
      (pss_cons (ps_fld (pv 0) pe_int rfl)
      (pss_cons (ps_fld (pv 0) (pe_lst pa_nil) rfl)
      (pss_one (ps_fld (pv 0) pe_int rfl))))), ?_⟩
  refine ⟨_, rfl, a, _, rfl, .inl (sqL_of ha), fun ln nln => ?_⟩
  have o1 : ln ≠ o := fun z => by rw [z, ho] at nln; cases nln
  have a1 : ln ≠ a := fun z => by rw [z, ha] at nln; cases nln
  refine ⟨_, rfl, o, RD, dx, [], rfl, by rw [upd_ne o1.symm]; exact ho, T, n1, (by show 0 < 1000; decide), ?_⟩
  refine ⟨_, rfl, o, RD, dx, _, rfl, upd_same, T, n2, (by show 1 < 1000; decide), ?_⟩
  refine ⟨Nat.zero_le _, fun lr nlr => ?_⟩
  have o2 : lr ≠ o := fun z => by rw [z, upd_same] at nlr; cases nlr
  have l2 : lr ≠ ln := fun z => by rw [z, upd_ne o1, upd_ne o1, upd_same] at nlr; cases nlr
  have nlr0 : H lr = none := by rw [upd_ne o2, upd_ne o2, upd_ne l2] at nlr; exact nlr
  refine ⟨_, rfl, o, RD, dx, _, rfl, by rw [upd_ne o2.symm]; exact upd_same, T, n3, (by show 2 < 1000; decide), ?_⟩
  refine ⟨_, rfl, o, RD, dx, _, rfl, upd_same, T, n4, (by show 3 < 1000; decide), ?_⟩
  refine q _ ln lr ⟨upd_same, ?_, ?_, l2.symm, hl⟩ ?_ nlr0
  · rw [upd_ne o1, upd_ne o1, upd_ne l2.symm, upd_ne o1, upd_ne o1]
    exact upd_same
  · rw [upd_ne o2, upd_ne o2]
    exact upd_same
  · intro b ob nb e
    rw [upd_ne nb, upd_ne nb, upd_ne (fun z => by rw [z, nlr0] at e; cases e), upd_ne nb, upd_ne nb, upd_ne (fun z => by rw [z, nln] at e; cases e)]
    exact e
def sp_take (RD : Addr) : Sp := fun vs H Qk _ => ∃ (o dx ln lr : Addr) (zs : List Int) (at_ : Nat) (ns : List Str) (cnt : Nat) (lo hi z : Int) (r : List Int), vs = [.ref o, .int lo, .int hi] ∧ Rdr RD o dx ln lr zs H at_ ns cnt ∧ zs.drop at_ = z :: r ∧ lo ≤ z ∧ z ≤ hi ∧
  ∀ H', Rdr RD o dx ln lr zs H' (at_ + 1) ns cnt → Kr o lr H H' → zs.drop (at_ + 1) = r → Qk (.int z) H'
theorem ok_take {f : Addr} {fd : FuncData} (F : Fun K "take" "Reader.take" s_Reader_take f fd) (B : Blt mg) (T : Cls K RD) (n1 : NoAttr K RD "numbers") (n2 : NoAttr K RD "at") (c_is_integer : Cal P w K mg base CX0 1 "is_integer" ["value"] (sp_is_integer K)) : FnOk P w K mg base CX0 2 f fd ["self", "least", "most"] (sp_take RD) := by
  refine F.ok sc_Reader_take (fun vs H Q E h => by obtain ⟨o, dx, ln, lr, zs, at_, ns, cnt, lo, hi, z, r, rfl, _⟩ := h; rfl) (fun cdv A outer s H vs Q E hr h => ?_)
  obtain ⟨o, dx, ln, lr, zs, at_, ns, cnt, lo, hi, z, r, rfl, hR, hz, h1, h2, q⟩ := h
  refine ⟨_, (pss_cons (ps_if (pt_cmpR op_eq (pe_fld (pv 0) rfl) (pe_callB call_len_seq (by rfl) B.b_len PySem.boot_len (pa_cons (pe_fld (pv 0) rfl) pa_nil)) (nomark _)) pss_never pss_nil)
      (pss_cons (ps_set (i := 3) sc_Reader_take.nd rfl (Or.inl rfl) (pe_ix ix_list (pe_fld (pv 0) rfl) (pe_fld (pv 0) rfl) (fun _ _ => rfl)))
      (pss_cons (ps_if (PW.pt (pw_or (pt_not (pt_val (pe_cal c_is_integer (hr.mono (by decide)) (pa_cons (pv 3) pa_nil)))) (pw_or1 (pt_not (pt_chain op_le op_le (pv 1) (pv 3) (pv 2)))))) pss_never pss_nil)
      (pss_cons (ps_fldaug (pv 0) pe_int iop_add)
      (pss_one (ps_ret (pv 3))))))), ?_⟩
  obtain ⟨g1, g2, g3⟩ := drop_one hz
  have hob := hR.ob
  have hnu := hR.nums
  have hat : zs.length ≠ at_ := by omega
  refine ⟨_, rfl, o, RD, dx, _, _, rfl, hob, T, n2, rfl, _, rfl, o, RD, dx, _, _, rfl, hob, T, n1, rfl, ln, _, rfl, .inl (sqL_of hnu), rfl, _, rfl, ?_⟩
  refine bcase (fun c => ?_) (fun c => ?_)
  · exact absurd (of_decide_eq_true c) (by rw [List.length_map]; intro z; injection z with z; omega)
  refine ⟨_, rfl, o, RD, dx, _, _, rfl, hob, T, n1, rfl, _, rfl, o, RD, dx, _, _, rfl, hob, T, n2, rfl, ln, _, _, _, rfl, rfl, sqL_of hnu, atI_nat (j := at_) (by rw [List.getElem?_map, g1]; rfl), ?_⟩
  refine ⟨_, rfl, .int z, "int", true, false, rfl, .int z, by decide +kernel, by decide +kernel, ?_⟩
  refine ⟨_, rfl, iteF ?_⟩
  refine ⟨_, rfl, _, rfl, lo, z, rfl, rfl, _, rfl, ?_⟩
  rw [decide_eq_true h1]
  refine iteT ⟨_, rfl, z, hi, rfl, rfl, _, rfl, ?_⟩
  rw [decide_eq_true h2]
  refine iteF ?_
  refine ⟨_, rfl, o, RD, dx, _, _, rfl, hob, T, n2, rfl, _, 1, rfl, rfl, dx, _, hob, (by show 4 < 1000; decide), _, rfl, ?_⟩
  refine q _ ⟨?_, ?_, ?_, hR.ne, hR.sm⟩ (fun b ob n1 n2 e => by rw [upd_ne n1]; exact e) g2
  · rw [upd_same]
    rfl
  · rw [upd_ne (fun z => by rw [z, hob] at hnu; cases hnu)]
    exact hnu
  · rw [upd_ne (fun z => by have := hR.names; rw [z, hob] at this; cases this)]
    exact hR.names
theorem joinL_one : ∀ l : List Nat, TL.joinL [] (l.map fun c => [c]) = l
  | [] => rfl
  | [c] => rfl
  | c :: d :: r => by
    show [c] ++ ([] ++ TL.joinL [] ((d :: r).map fun c => [c])) = c :: d :: r
    rw [joinL_one (d :: r)]
    rfl
theorem join_chars (x : Str) : Txt.join (Str.ofString "") (x.cps.toList.map fun c => (⟨#[c]⟩ : Str)) = x := by
  have h : TL.tl (Txt.join (Str.ofString "") (x.cps.toList.map fun c => (⟨#[c]⟩ : Str))) = TL.tl x := by
    rw [TL.join_eq, TL.tl_join, List.map_map]
    have e : TL.tl (Str.ofString "") = [] := rfl
    rw [e]
    exact joinL_one x.cps.toList
  have e : ∀ y z : Str, TL.tl y = TL.tl z → y = z := by
    intro y z h
    cases y; cases z
    have h : Array.toList _ = Array.toList _ := h
    simp only [Array.toList_inj] at h
    rw [h]
  exact e _ _ h
theorem sum_ones (l : List Nat) : ((l.map fun c => (⟨#[c]⟩ : Str)).map (·.length)).sum = l.length := by
  induction l with
  | nil => rfl
  | cons a r ih => rw [List.map_cons, List.map_cons, List.sum_cons, ih, List.length_cons]; show 1 + _ = _; omega
def sp_tname (RD : Addr) : Sp := fun vs H Qk _ => ∃ (o dx ln lr : Addr) (zs : List Int) (at_ : Nat) (ns : List Str) (cnt : Nat) (x : Str) (r : List Int), vs = [.ref o] ∧ Rdr RD o dx ln lr zs H at_ ns cnt ∧ zs.drop at_ = nameC x ++ r ∧ isName x = true ∧
  ∀ H', Rdr RD o dx ln lr zs H' (at_ + (nameC x).length) ns cnt → Kr o lr H H' → zs.drop (at_ + (nameC x).length) = r → Qk (.str x) H'
theorem ok_tname {f : Addr} {fd : FuncData} (F : Fun K "take_name" "Reader.take_name" s_Reader_take_name f fd) (B : Blt mg) (G : GNames mg) (CLq : Cls K RD) (mq_take : MethR P w K mg base 2 RD "take" ["self", "least", "most"] (sp_take RD)) : FnOk P w K mg base CX0 3 f fd ["self"] (sp_tname RD) := by
  obtain ⟨⟨t1, m_LETTERS⟩, ⟨t2, m_LONGEST_NAME⟩⟩ := G
  refine F.ok sc_Reader_take_name (fun vs H Q E h => by obtain ⟨o, dx, ln, lr, zs, at_, ns, cnt, x, r, rfl, _⟩ := h; rfl) (fun cdv A outer s H vs Q E hr h => ?_)
  obtain ⟨o, dx, ln, lr, zs, at_, ns, cnt, x, r, rfl, hR, hz, hx, q⟩ := h
  refine ⟨_, (pss_cons (ps_set (i := 1) sc_Reader_take_name.nd rfl (Or.inl rfl) (pe_me CLq mq_take (hr.mono (by decide)) (pv 0) (pa_cons pe_int (pa_cons (pe_glob (v := .int 8) rfl m_LONGEST_NAME ⟨_, rfl⟩) pa_nil))))
      (pss_one (ps_ret (pe_join pe_str (pe_lc (own := [("_", 2)]) (g := gName 2) (tt := tYes) rfl sc_Reader_take_name.nd (pi_range1 (by rfl) B.b_range (pa_cons (pv 1) pa_nil)) (blkOk_by (own := [("_", 2)]) (N := ["self", "length", "_"]) (sc := defScope s_Reader_take_name) (by decide +kernel)) (fun _ _ _ _ _ => (pg_name (i := 2) sc_Reader_take_name.nd rfl (Or.inl rfl))) (fun _ _ _ _ _ => pts_nil) (fun _ _ _ _ _ => (pe_.re (pe_ix ix_str (pe_glob (v := .str "abcdefghijklmnopqrstuvwxyz") rfl m_LETTERS ⟨_, rfl⟩) (pe_op op_sub (pe_me CLq mq_take (hr.mono (by decide)) (pv 0) (pa_cons pe_int (pa_cons (pe_callB call_len_str (by rfl) B.b_len PySem.boot_len (pa_cons (pe_glob (v := .str "abcdefghijklmnopqrstuvwxyz") rfl m_LETTERS ⟨_, rfl⟩) pa_nil)) pa_nil))) pe_int) (fun _ _ => rfl)) (by first | (dsimp only [Cx.blk]; done) | exact rfl)))))))), ?_⟩
  have hl := name_len hx
  have hp := name_pos hx
  refine ⟨_, rfl, o, dx, _, rfl, hR.ob, rfl, o, dx, ln, lr, zs, at_, ns, cnt, 1, 8, (x.length : Nat), lettC x ++ r, rfl, hR, hz, by omega, by omega, fun H1 R1 k1 hz1 => ?_⟩
  have hcs : x.cps.toList.length = x.length := by rw [Array.length_toList]; rfl
  refine ⟨⟨_, rfl⟩, _, rfl, _, rfl, (by omega), (by omega), fun D nD => lc_it walk_range (fun i H' => Kr o lr H1 H' ∧ Rdr RD o dx ln lr zs H' (at_ + 1 + i) ns cnt ∧ zs.drop (at_ + 1 + i) = (lettC x).drop i ++ r ∧ H' D = some (.lst (((x.cps.toList.take i).map fun c => (⟨#[c]⟩ : Str)).map V.str)))
    ⟨(Kr.refl H1).put nD, R1.own (R1.new nD), hz1, upd_same⟩ (fun _ _ _ _ => trivial) ?_ ?_⟩
  · rintro i y H2 H3 hi ⟨k2, R2, hz2, e2⟩ ⟨rfl, hy⟩
    have hi : i < x.length := by have : ((x.length : Nat) : Int).toNat = x.length := rfl; omega
    have hic : i < x.cps.toList.length := by omega
    have hcm := name_let hx _ (List.getElem_mem hic)
    have hli : (lettC x).drop i = ((letIx x.cps.toList[i] : Int) + 1) :: (lettC x).drop (i + 1) := by
      have hil : i < (lettC x).length := by rw [lettC_len]; exact hi
      have hg : (lettC x)[i] = (letIx x.cps.toList[i] : Int) + 1 := by
        simp only [lettC, List.getElem_map]
      rw [List.drop_eq_getElem_cons hil, hg]
    rw [hli] at hz2
    have hlt := let_lt _ hcm
    have dne := R1.new nD
    refine ⟨rfl, yes_ ?_⟩
    refine ⟨_, rfl, o, dx, _, rfl, R2.ob, rfl, letters, rfl, (by decide +kernel), ?_⟩
    refine ⟨o, dx, ln, lr, zs, at_ + 1 + i, ns, cnt, 1, 26, _, _, rfl, R2, hz2, by omega, by omega, fun H4 R4 k4 hz4 => ?_⟩
    refine ⟨_, 1, rfl, rfl, letters, _, x.cps.toList[i], rfl, rfl, by rw [sizeLine_eq]; decide +kernel, by rw [Int.add_sub_cancel]; exact atI_nat (let_at _ hcm), ?_⟩
    refine ⟨_, k4 D _ dne.1 dne.2.1 e2, ?_, (k2.trans k4).put nD, R4.own dne, ?_, ?_⟩
    · rw [List.length_map, List.length_map, List.length_take]
      exact small1000 (by omega)
    · rw [show at_ + 1 + (i + 1) = at_ + 1 + i + 1 by omega]; exact hz4
    · rw [upd_same, take_more (List.getElem?_eq_getElem hic), List.map_append, List.map_append]
      rfl
  rintro H2 ⟨k2, R2, hz2, e2⟩
  have hto : ((x.length : Nat) : Int).toNat = x.length := rfl
  rw [hto] at R2 hz2 e2
  rw [List.drop_of_length_le (l := lettC x) (by rw [lettC_len]; exact Nat.le_refl _), List.nil_append] at hz2
  rw [List.take_of_length_le (by omega)] at e2
  refine ⟨Str.ofString "", D, _, rfl, rfl, .inl (sqL_of e2), ?_, ?_⟩
  · rw [sum_ones, List.length_map, hcs]
    show x.length + x.length * 0 ≤ _
    omega
  · rw [join_chars]
    have e : at_ + (nameC x).length = at_ + 1 + x.length := by rw [nameC_len]; omega
    exact q H2 (by rw [e]; exact R2) (k1.trans k2) (by rw [e]; exact hz2)
def sp_tfacts (K : PySem.W.Frag) (RD : Addr) : Sp := fun vs H Qk _ => ∃ (o dx ln lr : Addr) (zs : List Int) (at_ : Nat) (ns : List Str) (cnt : Nat) (xs : List Str) (r : List Int), vs = [.ref o] ∧ Rdr RD o dx ln lr zs H at_ ns cnt ∧ zs.drop at_ = factC xs ++ r ∧ Right xs ∧ 1 ≤ xs.length ∧ xs.length ≤ 60 ∧
  ∀ H' p, Rdr RD o dx ln lr zs H' (at_ + (factC xs).length) ns cnt → Kr o lr H H' → zs.drop (at_ + (factC xs).length) = r → SqT K H' p (xs.map V.str) → Qk (.ref p) H'
theorem ok_tfacts {f : Addr} {fd : FuncData} {t1 : Tok} (F : Fun K "take_facts" "Reader.take_facts" s_Reader_take_facts f fd) (B : Blt mg) (m_MOST_FACTS : mg "MOST_FACTS" = some (.int 60 t1)) (CLq : Cls K RD) (n2 : NoAttr K RD "at") (mq_take : MethR P w K mg base 2 RD "take" ["self", "least", "most"] (sp_take RD)) (mq_take_name : MethR P w K mg base 3 RD "take_name" ["self"] (sp_tname RD)) : FnOk P w K mg base CX0 4 f fd ["self"] (sp_tfacts K RD) := by
  refine F.ok sc_Reader_take_facts (fun vs H Q E h => by obtain ⟨o, dx, ln, lr, zs, at_, ns, cnt, x, r, rfl, _⟩ := h; rfl) (fun cdv A outer s H vs Q E hr h => ?_)
  obtain ⟨o, dx, ln, lr, zs, at_, ns, cnt, xs, r, rfl, hR, hz, hx, hx1, hx60, q⟩ := h
  refine ⟨_, (pss_cons (ps_set (i := 1) sc_Reader_take_facts.nd rfl (Or.inl rfl) (pe_lst pa_nil))
      (pss_cons (ps_for PassesOwn.never rfl (pi_range1 (by rfl) B.b_range (pa_cons (pe_me CLq mq_take (hr.mono (by decide)) (pv 0) (pa_cons pe_int (pa_cons (pe_glob (v := .int 60) rfl m_MOST_FACTS ⟨_, rfl⟩) pa_nil))) pa_nil)) (pg_name (i := 2) sc_Reader_take_facts.nd rfl (Or.inl rfl)) (pss_cons (ps_set (i := 3) sc_Reader_take_facts.nd rfl (Or.inl rfl) (pe_fld (pv 0) rfl))
      (pss_cons (ps_set (i := 4) sc_Reader_take_facts.nd rfl (Or.inl rfl) (pe_me0 CLq mq_take_name (hr.mono (by decide)) (pv 0)))
      (pss_cons (ps_if (PW.pt (pw_and (pt_tru (pv 1) (by intro _; rfl)) (pw_and1 (pt_cmpR op_le_str (pv 4) (pe_ix ix_list (pv 1) (pe_un un_neg pe_int) (fun _ _ => rfl)) (nomark _))))) pss_never pss_nil)
      (pss_one (ps_expr (pe_bm PySem.F.plainAttrs_list PySem.F.slot_list_append PySem.F.type_list_append mt_append (pv 1) (pa_cons (pv 4) pa_nil))))))))
      (pss_one (ps_ret (pe_callTy call_tuple_of (by rfl) B.b_tuple PyProof.Rows.boot_tuple (pa_cons (pv 1) pa_nil)))))), ?_⟩
  refine ⟨Nat.zero_le _, fun D nD => ?_⟩
  have dne := hR.new nD
  have R0 : Rdr RD o dx ln lr zs (upd H D (.lst [])) at_ ns cnt := hR.own dne
  have k0 : Kr o lr H (upd H D (.lst [])) := (Kr.refl H).put nD
  have e0 : (upd H D (.lst [])) D = some (.lst []) := upd_same
  generalize upd H D (.lst []) = H0 at R0 k0 e0 ⊢
  refine ⟨_, rfl, o, dx, _, rfl, R0.ob, rfl, o, dx, ln, lr, zs, at_, ns, cnt, 1, 60, (xs.length : Nat), xs.flatMap nameC ++ r, rfl, R0, hz, by omega, by omega, fun H1 R1 k1 hz1 => ?_⟩
  have e1 := k1 _ _ dne.1 dne.2.1 e0
  have k01 := k0.trans k1
  refine ⟨_, rfl, (by omega), (by omega), for_it walk_range (fun i σ H' => ∃ (y2 y3 y4 : Option V), σ = [some (.ref o), some (.ref D), y2, y3, y4] ∧ Kr o lr H H' ∧ H' D = some (.lst ((xs.take i).map V.str)) ∧ Rdr RD o dx ln lr zs H' (at_ + 1 + ((xs.take i).flatMap nameC).length) ns cnt ∧ zs.drop (at_ + 1 + ((xs.take i).flatMap nameC).length) = (xs.drop i).flatMap nameC ++ r)
    ⟨_, _, _, rfl, k01, e1, R1, hz1⟩ (fun _ _ _ _ _ => trivial) ?_ ?_⟩
  · rintro i y σ H3 H2 hi ⟨y2, y3, y4, rfl, k2, e2, R2, hz2⟩ ⟨rfl, hy⟩
    have hi : i < xs.length := by have : ((xs.length : Nat) : Int).toNat = xs.length := rfl; omega
    have hxi : xs[i]? = some xs[i] := List.getElem?_eq_getElem hi
    rw [List.drop_eq_getElem_cons hi, List.flatMap_cons, List.append_assoc] at hz2
    refine ⟨_, rfl, o, RD, dx, _, _, rfl, R2.ob, CLq, n2, rfl, ?_⟩
    refine ⟨_, rfl, o, dx, _, rfl, R2.ob, rfl, o, dx, ln, lr, zs, _, ns, cnt, xs[i], _, rfl, R2, hz2, hx.nm _ (List.getElem_mem hi), fun H4 R4 k4 hz4 => ?_⟩
    have e4 := k4 _ _ dne.1 dne.2.1 e2
    have e : at_ + 1 + ((xs.take (i + 1)).flatMap nameC).length = at_ + 1 + ((xs.take i).flatMap nameC).length + (nameC xs[i]).length := by
      rw [take_more hxi, List.flatMap_append, List.flatMap_cons, List.flatMap_nil, List.append_nil, List.length_append]
      omega
    have hsz : ((xs.take i).map V.str).length < sizeLine := by
      rw [List.length_map, List.length_take]
      exact small1000 (by omega)
    have fin : ∃ (y2' y3' y4' : Option V), [some (V.ref o), some (.ref D), some y, some (.int (at_ + 1 + ((xs.take i).flatMap nameC).length : Nat)), some (.str xs[i])] = [some (V.ref o), some (.ref D), y2', y3', y4'] ∧ Kr o lr H (upd H4 D (.lst ((xs.take i).map V.str ++ [.str xs[i]]))) ∧ (upd H4 D (.lst ((xs.take i).map V.str ++ [.str xs[i]]))) D = some (.lst ((xs.take (i + 1)).map V.str)) ∧ Rdr RD o dx ln lr zs (upd H4 D (.lst ((xs.take i).map V.str ++ [.str xs[i]]))) (at_ + 1 + ((xs.take (i + 1)).flatMap nameC).length) ns cnt ∧ zs.drop (at_ + 1 + ((xs.take (i + 1)).flatMap nameC).length) = (xs.drop (i + 1)).flatMap nameC ++ r := by
      refine ⟨_, _, _, rfl, (k2.trans k4).put nD, ?_, ?_, ?_⟩
      · rw [upd_same, take_more hxi, List.map_append]
        rfl
      · rw [e]; exact R4.own dne
      · rw [e]; exact hz4
    refine ⟨_, rfl, _, .inl ⟨_, sqL_of e4, rfl⟩, ?_⟩
    cases i with
    | zero =>
      refine iteF ?_
      exact iteF ⟨_, rfl, .inl ⟨rfl, _, sqL_of e4⟩, _, rfl, D, _, _, rfl, rfl, e4, hsz, fin⟩
    | succ i =>
      have hi' : i < xs.length := by omega
      have hlt : SLt xs[i] xs[i + 1] := List.pairwise_iff_getElem.mp hx.up i (i + 1) hi' hi (by omega)
      have hls : (xs.take (i + 1)).map V.str = (xs.take i).map V.str ++ [.str xs[i]] := by
        rw [take_more (List.getElem?_eq_getElem hi'), List.map_append]
        rfl
      have hne : (!((xs.take (i + 1)).map V.str).isEmpty) = true := by rw [hls]; cases (xs.take i).map V.str <;> rfl
      rw [hne]
      refine iteT ?_
      refine ⟨_, rfl, _, rfl, 1, rfl, D, _, _, _, rfl, rfl, sqL_of e4, by rw [hls]; exact atI_last _ _, _, _, rfl, rfl, _, rfl, ?_⟩
      rw [decide_eq_true (show xs[i].cps.toList < xs[i + 1].cps.toList from hlt)]
      exact iteF ⟨_, rfl, .inl ⟨rfl, _, sqL_of e4⟩, _, rfl, D, _, _, rfl, rfl, e4, hsz, fin⟩
  · rintro σ H2 ⟨y2, y3, y4, rfl, k2, e2, R2, hz2⟩
    have hto : ((xs.length : Nat) : Int).toNat = xs.length := rfl
    rw [hto, List.take_length] at e2 R2 
    rw [hto, List.take_length, List.drop_length, List.flatMap_nil, List.nil_append] at hz2
    refine ⟨_, rfl, D, _, rfl, .inl ⟨sqL_of e2, fun t nt => ?_⟩⟩
    have e : at_ + (factC xs).length = at_ + 1 + (xs.flatMap nameC).length := by unfold factC; rw [List.length_cons]; omega
    exact q _ t (by rw [e]; exact R2.own (R2.new nt)) (k2.put' nt) (by rw [e]; exact hz2) sqT_new
theorem idx_lt {xs : List Str} (g : Right xs) {a b : Str} (ha : a ∈ xs) (hb : b ∈ xs) (h : SLt a b) : xs.idxOf a < xs.idxOf b := by
  obtain ⟨e1, _⟩ := idx_at ha
  obtain ⟨e2, _⟩ := idx_at hb
  obtain ⟨l1, g1⟩ := List.getElem?_eq_some_iff.mp e1
  obtain ⟨l2, g2⟩ := List.getElem?_eq_some_iff.mp e2
  rcases Nat.lt_trichotomy (xs.idxOf a) (xs.idxOf b) with z | z | z
  · exact z
  · rw [z] at e1
    rw [e1] at e2
    cases e2
    exact absurd h (List.lt_irrefl _)
  · have := List.pairwise_iff_getElem.mp g.up _ _ l2 l1 z
    rw [g1, g2] at this
    exact absurd h (List.lt_asymm this)
theorem idx_len {xs : List Str} {a : Str} (ha : a ∈ xs) : xs.idxOf a < xs.length := (List.getElem?_eq_some_iff.mp (idx_at ha).1).1
def sp_tpart (K : PySem.W.Frag) (RD : Addr) : Sp := fun vs H Qk _ => ∃ (o dx ln lr a tk : Addr) (zs : List Int) (at_ : Nat) (ns : List Str) (cnt : Nat) (xs ts ps : List Str) (r : List Int), vs = [.ref o, .ref a, .ref tk] ∧ Rdr RD o dx ln lr zs H at_ ns cnt ∧ SqT K H a (xs.map V.str) ∧ SqT K H tk (ts.map V.str) ∧ zs.drop at_ = partC xs ps ++ r ∧ Right xs ∧ xs.length ≤ 1000 ∧ ps.Pairwise SLt ∧ (∀ x ∈ ps, x ∈ xs) ∧ (∀ x ∈ ps, ¬ x ∈ ts) ∧ ts.length + ps.length ≤ 8 ∧
  ∀ H' p, Rdr RD o dx ln lr zs H' (at_ + (partC xs ps).length) ns cnt → Kr o lr H H' → zs.drop (at_ + (partC xs ps).length) = r → SqT K H' p (ps.map V.str) → Qk (.ref p) H'
theorem ok_tpart {f : Addr} {fd : FuncData} {t1 : Tok} (F : Fun K "take_part" "Reader.take_part" s_Reader_take_part f fd) (B : Blt mg) (m_MOST_NAMES : mg "MOST_NAMES" = some (.int 8 t1)) (CLq : Cls K RD) (n2 : NoAttr K RD "at") (mq_take : MethR P w K mg base 2 RD "take" ["self", "least", "most"] (sp_take RD)) : FnOk P w K mg base CX0 3 f fd ["self", "facts", "taken"] (sp_tpart K RD) := by
  refine F.ok sc_Reader_take_part (fun vs H Q E h => by obtain ⟨o, dx, ln, lr, a, tk, zs, at_, ns, cnt, xs, ts, ps, r, rfl, _⟩ := h; rfl) (fun cdv A outer s H vs Q E hr h => ?_)
  obtain ⟨o, dx, ln, lr, a, tk, zs, at_, ns, cnt, xs, ts, ps, r, rfl, hR, hA, hT, hz, hx, hxl, hup, hin, hnt, h8, q⟩ := h
  refine ⟨_, (pss_cons (ps_set (i := 3) sc_Reader_take_part.nd rfl (Or.inl rfl) (pe_lst pa_nil))
      (pss_cons (ps_set (i := 4) sc_Reader_take_part.nd rfl (Or.inl rfl) pe_int)
      (pss_cons (ps_for PassesOwn.never rfl (pi_range1 (by rfl) B.b_range (pa_cons (pe_me CLq mq_take (hr.mono (by decide)) (pv 0) (pa_cons pe_int (pa_cons (pe_op op_sub (pe_glob (v := .int 8) rfl m_MOST_NAMES ⟨_, rfl⟩) (pe_callB call_len_seq (by rfl) B.b_len PySem.boot_len (pa_cons (pv 2) pa_nil))) pa_nil))) pa_nil)) (pg_name (i := 5) sc_Reader_take_part.nd rfl (Or.inl rfl)) (pss_cons (ps_set (i := 6) sc_Reader_take_part.nd rfl (Or.inl rfl) (pe_fld (pv 0) rfl))
      (pss_cons (ps_set (i := 7) sc_Reader_take_part.nd rfl (Or.inl rfl) (pe_me CLq mq_take (hr.mono (by decide)) (pv 0) (pa_cons (pv 4) (pa_cons (pe_op op_sub (pe_callB call_len_seq (by rfl) B.b_len PySem.boot_len (pa_cons (pv 1) pa_nil)) pe_int) pa_nil))))
      (pss_cons (ps_if (pt_cmpR op_in_seq (pe_ix ix_tup (pv 1) (pv 7) (fun _ _ => rfl)) (pv 2) rfl) pss_never pss_nil)
      (pss_cons (ps_expr (pe_bm PySem.F.plainAttrs_list PySem.F.slot_list_append PySem.F.type_list_append mt_append (pv 3) (pa_cons (pe_ix ix_tup (pv 1) (pv 7) (fun _ _ => rfl)) pa_nil)))
      (pss_one (ps_set (i := 4) sc_Reader_take_part.nd rfl (Or.inl rfl) (pe_op op_add (pv 7) pe_int))))))))
      (pss_one (ps_ret (pe_callTy call_tuple_of (by rfl) B.b_tuple PyProof.Rows.boot_tuple (pa_cons (pv 3) pa_nil))))))), ?_⟩
  refine ⟨Nat.zero_le _, fun D nD => ?_⟩
  have dne := hR.new nD
  have R0 : Rdr RD o dx ln lr zs (upd H D (.lst [])) at_ ns cnt := hR.own dne
  have k0 : Kr o lr H (upd H D (.lst [])) := (Kr.refl H).put nD
  have e0 : (upd H D (.lst [])) D = some (.lst []) := upd_same
  generalize upd H D (.lst []) = H0 at R0 k0 e0 ⊢
  have hT0 : SqT K H0 tk (ts.map V.str) := (hR.keeps (N := NoL) id k0).tup hT
  refine ⟨_, rfl, o, dx, _, rfl, R0.ob, rfl, _, rfl, tk, _, rfl, .inr hT0, 8, _, rfl, rfl, ?_⟩
  rw [List.length_map]
  refine ⟨o, dx, ln, lr, zs, at_, ns, cnt, 0, _, (ps.length : Nat), (ps.map fun h => (xs.idxOf h : Int)) ++ r, rfl, R0, hz, by omega, by omega, fun H1 R1 k1 hz1 => ?_⟩
  have e1 := k1 _ _ dne.1 dne.2.1 e0
  have k01 := k0.trans k1
  refine ⟨_, rfl, (by omega), (by omega), for_it walk_range (fun i σ H' => ∃ (lo : Int) (y5 y6 y7 : Option V), σ = [some (.ref o), some (.ref a), some (.ref tk), some (.ref D), some (.int lo), y5, y6, y7] ∧ (∀ x, ps[i]? = some x → lo ≤ (xs.idxOf x : Int)) ∧ Kr o lr H H' ∧ H' D = some (.lst ((ps.take i).map V.str)) ∧ Rdr RD o dx ln lr zs H' (at_ + 1 + i) ns cnt ∧ zs.drop (at_ + 1 + i) = (ps.drop i).map (fun h => (xs.idxOf h : Int)) ++ r)
    ⟨0, _, _, _, rfl, fun x _ => Int.natCast_nonneg _, k01, e1, R1, hz1⟩ (fun _ _ _ _ _ => trivial) ?_ ?_⟩
  · rintro i y σ H3 H2 hi ⟨lo, y5, y6, y7, rfl, hlo, k2, e2, R2, hz2⟩ ⟨rfl, hy⟩
    have hi : i < ps.length := by have : ((ps.length : Nat) : Int).toNat = ps.length := rfl; omega
    have hpi : ps[i]? = some ps[i] := List.getElem?_eq_getElem hi
    have hmem := hin _ (List.getElem_mem hi)
    have hil := idx_len hmem
    rw [List.drop_eq_getElem_cons hi, List.map_cons, List.cons_append] at hz2
    have hA2 := (hR.keeps (N := NoL) id k2).tup hA
    refine ⟨_, rfl, o, RD, dx, _, _, rfl, R2.ob, CLq, n2, rfl, ?_⟩
    refine ⟨_, rfl, o, dx, _, rfl, R2.ob, rfl, _, rfl, _, rfl, a, _, rfl, .inr hA2, _, 1, rfl, rfl, ?_⟩
    rw [List.length_map]
    refine ⟨o, dx, ln, lr, zs, _, ns, cnt, lo, _, _, _, rfl, R2, hz2, hlo _ hpi, by omega, fun H4 R4 k4 hz4 => ?_⟩
    have e4 := k4 _ _ dne.1 dne.2.1 e2
    have k24 := k2.trans k4
    have hA4 := (hR.keeps (N := NoL) id k24).tup hA
    have hT4 := (hR.keeps (N := NoL) id k24).tup hT
    have hix : (xs.map V.str)[xs.idxOf ps[i]]? = some (.str ps[i]) := by rw [List.getElem?_map, (idx_at hmem).1]; rfl
    refine ⟨_, rfl, _, rfl, a, _, _, _, rfl, rfl, hA4, atI_nat hix, ?_⟩
    refine ⟨_, rfl, tk, _, rfl, .inr hT4, rfl, flat_strs ts, _, rfl, ?_⟩
    rw [inV_str, decide_eq_false (hnt _ (List.getElem_mem hi))]
    refine iteF ?_
    refine ⟨_, rfl, .inl ⟨rfl, _, sqL_of e4⟩, _, rfl, _, rfl, a, _, _, _, rfl, rfl, hA4, atI_nat hix, D, _, _, rfl, rfl, e4, ?_, ?_⟩
    · rw [List.length_map, List.length_take]
      exact small1000 (by omega)
    refine ⟨_, rfl, _, 1, rfl, rfl, (xs.idxOf ps[i] : Int) + 1, _, _, _, rfl, ?_, k24.put nD, ?_, ?_, ?_⟩
    · intro x hx1
      have hi' : i + 1 < ps.length := (List.getElem?_eq_some_iff.mp hx1).1
      have hlt := List.pairwise_iff_getElem.mp hup i (i + 1) hi hi' (by omega)
      rw [List.getElem?_eq_getElem hi'] at hx1
      cases hx1
      have := idx_lt hx hmem (hin _ (List.getElem_mem hi')) hlt
      omega
    · rw [upd_same, take_more hpi, List.map_append]
      rfl
    · exact R4.own dne
    · exact hz4
  · rintro σ H2 ⟨lo, y5, y6, y7, rfl, hlo, k2, e2, R2, hz2⟩
    have hto : ((ps.length : Nat) : Int).toNat = ps.length := rfl
    rw [hto] at R2
    rw [hto, List.take_length] at e2
    rw [hto, List.drop_length, List.map_nil, List.nil_append] at hz2
    refine ⟨_, rfl, D, _, rfl, .inl ⟨sqL_of e2, fun t nt => ?_⟩⟩
    have e : at_ + (partC xs ps).length = at_ + 1 + ps.length := by rw [partC_len]; omega
    exact q _ t (by rw [e]; exact R2.own (R2.new nt)) (k2.put' nt) (by rw [e]; exact hz2) sqT_new
end
end Sc
namespace Sc
open PySem PySem.Spec PyProof.Rows L2
abbrev s_Reader_take_rules : Stmt := (inClass (topS 49) 4)
theorem sc_Reader_take_rules : FnScope ["self", "facts", "around", "most", "count", "_"] ["self", "facts", "around"] (defScope s_Reader_take_rules) := ⟨rfl, rfl, rfl, by decide +kernel, rfl, by decide +kernel, by decide +kernel⟩
abbrev s_Reader_take_rule : Stmt := (inClass (topS 49) 5)
theorem sc_Reader_take_rule : FnScope ["self", "facts", "around", "begin", "name", "ruling", "holding", "failing"] ["self", "facts", "around"] (defScope s_Reader_take_rule) := ⟨rfl, rfl, rfl, by decide +kernel, rfl, by decide +kernel, by decide +kernel⟩
theorem fw_up {xs ys : List Str} (h : firstWrong xs ys = none) : xs.Pairwise SLt := by
  have step : ∀ i (hi : i + 1 < xs.length), SLt (xs[i]'(by omega)) xs[i + 1] := fun i hi => by
    have := (wrongs_none h (i + 1) hi).1.1
    rw [Bool.or_eq_false_iff] at this
    have h2 := this.2
    rw [risesAt_eq hi (by omega) (by omega)] at h2
    simp only [Bool.not_eq_false', decide_eq_true_eq] at h2
    exact h2
  rw [List.pairwise_iff_getElem]
  intro i j hi hj hij
  induction j with
  | zero => omega
  | succ j ih =>
    by_cases e : i = j
    · subst e
      exact step i hj
    · exact List.lt_trans (ih (by omega) (by omega)) (step j hj)
def mostR (ar cnt : Nat) : Int := if ar = 0 then 40 else if ar ≤ 5 then 60 - (cnt : Int) else 0
def tMost (RD : Addr) : TS := fun D σ H => ∃ (o dx ln lr : Addr) (at_ cnt ar : Nat) (y1 y4 y5 : Option V), σ = [some (.ref o), y1, some (.int (ar : Nat)), some (.int 0), y4, y5] ∧ H o = some (.ins RD dx (rdF ln lr at_ cnt)) ∧ D.nx [some (.ref o), y1, some (.int (ar : Nat)), some (.int (mostR ar cnt)), y4, y5] H
section
variable {P : Program} {w : World} {K : PySem.W.Frag} {mg : Str → Option Value} {base : Heap} {C R RD CC CR : Addr}
/-- a right condition is made -/
theorem mk_cond {H : Hp} {c dxc wa ba : Addr} {hs fs : List Str} {Rx : Hp → Prop} {E : XK} (nc : H c = none) (ndc : H dxc = none) (hW : SqT K H wa (hs.map V.str)) (hB : SqT K H ba (fs.map V.str)) (c1 : firstWrong hs [] = none) (c2 : firstWrong fs hs = none) (l8 : hs.length + fs.length ≤ 8)
    (q : ∀ H', Same H H' → CondAt K C H' c hs fs → Rx H') : sp_cond_init K C CC [.ref c, .ref wa, .ref ba] (upd (upd H dxc (.own c)) c (.ins C dxc [])) (fun v H' => v = .non ∧ Rx H') E := by
  have s1 : Same H (upd (upd H dxc (.own c)) c (.ins C dxc [])) := ((Same.refl H).put ndc).put nc
  refine ⟨c, dxc, wa, ba, hs, fs, rfl, upd_same, s1.tup hW, s1.tup hB, fw_txts c1, fw_txts c2, by omega, by omega, (fun i e => by rw [c1] at e; cases e), fun _ => ⟨(fun i e => by rw [c2] at e; cases e), fun _ H2 nn zs sX hc hn hperm hsort => ⟨rfl, ?_⟩⟩⟩
  have s2 : Same H H2 := fun b' o' h => sX b' o' (fun e => by rw [e, nc] at h; cases h) (s1 _ _ h)
  exact q H2 s2 ⟨dxc, wa, ba, nn, zs, hc, s2.tup hW, s2.tup hB, hn, srt_uniq hperm hsort⟩
/-- what reading rules and reading a rule ask of the reader -/
structure RdAsk (K : PySem.W.Frag) (RD : Addr) (N : Addr → Prop) (H : Hp) (o dx ln lr a : Addr) (zs : List Int) (at_ : Nat) (ns : List Str) (cnt : Nat) (xs : List Str) : Prop where
  rd : Rdr RD o dx ln lr zs H at_ ns cnt
  fa : SqT K H a (xs.map V.str)
  nl : ¬ N lr
  fr : ∀ l, H l = none → N l
  rt : Right xs
  xl : xs.length ≤ 60
def sp_trules (K : PySem.W.Frag) (C R RD : Addr) (d : Nat) : Sp := fun vs H Qk _ => ∃ (N : Addr → Prop) (o dx ln lr a : Addr) (ar : Nat) (zs : List Int) (at_ : Nat) (ns : List Str) (cnt : Nat) (xs : List Str) (f : RF) (r : List Int), vs = [.ref o, .ref a, .int (ar : Nat)] ∧ RdAsk K RD N H o dx ln lr a zs at_ ns cnt xs ∧
  zs.drop at_ = f.code xs ++ r ∧ f.every (CF xs) ∧ f.dep ≤ d ∧ ar + f.dep ≤ 6 ∧ (ar = 0 → f.nodes.length ≤ 40) ∧ cnt + f.size ≤ 60 ∧ ns.length + f.size ≤ 900 ∧ (ns ++ f.names).Nodup ∧
  ∀ H' p us, Rdr RD o dx ln lr zs H' (at_ + (f.code xs).length) (ns ++ f.names) (cnt + f.size) → Kr o lr H H' → zs.drop (at_ + (f.code xs).length) = r → SqT K H' p us → ForAt K C R N H' f us → Qk (.ref p) H'
def sp_trule (K : PySem.W.Frag) (C R RD : Addr) (d : Nat) : Sp := fun vs H Qk _ => ∃ (N : Addr → Prop) (o dx ln lr a : Addr) (ar : Nat) (zs : List Int) (at_ : Nat) (ns : List Str) (cnt : Nat) (xs : List Str) (n : Nd) (r : List Int), vs = [.ref o, .ref a, .int (ar : Nat)] ∧ RdAsk K RD N H o dx ln lr a zs at_ ns cnt xs ∧
  zs.drop at_ = RF.codeN xs n ++ r ∧ CF xs n ∧ n.exc.every (CF xs) ∧ n.exc.dep ≤ d ∧ ar + 1 + n.exc.dep ≤ 6 ∧ cnt + n.exc.size ≤ 60 ∧ ns.length + 1 + n.exc.size ≤ 900 ∧ (ns ++ n.nm :: n.exc.names).Nodup ∧
  ∀ H' x, Rdr RD o dx ln lr zs H' (at_ + (RF.codeN xs n).length) (ns ++ n.nm :: n.exc.names) (cnt + n.exc.size) → Kr o lr H H' → zs.drop (at_ + (RF.codeN xs n).length) = r → NdAt K C R N H' x n → Qk (.ref x) H'
theorem ok_trule {d : Nat} {f : Addr} {fd : FuncData} (F : Fun K "take_rule" "Reader.take_rule" s_Reader_take_rule f fd) (B : Blt mg) (CLq : Cls K RD) (n2 : NoAttr K RD "at") (n3 : NoAttr K RD "rule_names") (k_Condition : Mkr P w K mg base 4 "Condition" C ["self", "holding", "failing"] (sp_cond_init K C CC)) (k_Rule : Mkr P w K mg base 16 "Rule" R ["self", "name", "condition", "ruling", "exceptions"] (sp_rule_init K C R CR))
    (mq_take_name : MethR P w K mg base 3 RD "take_name" ["self"] (sp_tname RD)) (mq_take_part : MethR P w K mg base 3 RD "take_part" ["self", "facts", "taken"] (sp_tpart K RD)) (mq_take_rules : MethR P w K mg base (2 * d + 18) RD "take_rules" ["self", "facts", "around"] (sp_trules K C R RD d)) :
    FnOk P w K mg base CX0 (2 * d + 19) f fd ["self", "facts", "around"] (sp_trule K C R RD d) := by
  refine F.ok sc_Reader_take_rule (fun vs H Q E h => by obtain ⟨N, o, dx, ln, lr, a, ar, zs, at_, ns, cnt, xs, n, r, rfl, _⟩ := h; rfl) (fun cdv A outer s H vs Q E hr h => ?_)
  obtain ⟨N, o, dx, ln, lr, a, ar, zs, at_, ns, cnt, xs, n, r, rfl, hK, hz, hc, hex, hd, had, hcnt, hnl, hnd, q⟩ := h
  refine ⟨_, (pss_cons (ps_set (i := 3) sc_Reader_take_rule.nd rfl (Or.inl rfl) (pe_fld (pv 0) rfl))
      (pss_cons (ps_set (i := 4) sc_Reader_take_rule.nd rfl (Or.inl rfl) (pe_me0 CLq mq_take_name (hr.mono (by omega)) (pv 0)))
      (pss_cons (ps_if (pt_cmpR op_in_seq (pv 4) (pe_fld (pv 0) rfl) rfl) pss_never pss_nil)
      (pss_cons (ps_expr (pe_bm PySem.F.plainAttrs_list PySem.F.slot_list_append PySem.F.type_list_append mt_append (pe_fld (pv 0) rfl) (pa_cons (pv 4) pa_nil)))
      (pss_cons (ps_set (i := 5) sc_Reader_take_rule.nd rfl (Or.inl rfl) (pe_me0 CLq mq_take_name (hr.mono (by omega)) (pv 0)))
      (pss_cons (ps_set (i := 6) sc_Reader_take_rule.nd rfl (Or.inl rfl) (pe_me CLq mq_take_part (hr.mono (by omega)) (pv 0) (pa_cons (pv 1) (pa_cons (pe_tup pa_nil) pa_nil))))
      (pss_cons (ps_set (i := 7) sc_Reader_take_rule.nd rfl (Or.inl rfl) (pe_me CLq mq_take_part (hr.mono (by omega)) (pv 0) (pa_cons (pv 1) (pa_cons (pv 6) pa_nil))))
      (pss_one (ps_ret (pe_mkN k_Rule (hr.mono (by omega)) (pa_cons (pv 4) (pa_cons (pe_mkN k_Condition (hr.mono (by omega)) (pa_cons (pv 6) (pa_cons (pv 7) pa_nil))) (pa_cons (pv 5) (pa_cons (pe_me CLq mq_take_rules (hr.mono (by omega)) (pv 0) (pa_cons (pv 1) (pa_cons (pe_op op_add (pv 2) pe_int) pa_nil))) pa_nil)))))))))))))), ?_⟩
  have R0 := hK.rd
  have hz0 : zs.drop at_ = nameC n.nm ++ (nameC n.rl ++ (partC xs n.hs ++ (partC xs n.fs ++ (n.exc.code xs ++ r)))) := by
    rw [hz]; unfold RF.codeN; simp only [List.append_assoc]
  refine ⟨_, rfl, o, RD, dx, _, _, rfl, R0.ob, CLq, n2, rfl, ?_⟩
  refine ⟨_, rfl, o, dx, _, rfl, R0.ob, rfl, o, dx, ln, lr, zs, at_, ns, cnt, n.nm, _, rfl, R0, hz0, hc.ok.nm, fun H1 R1 k1 hz1 => ?_⟩
  have hnin : ¬ n.nm ∈ ns := fun z => (List.nodup_append.mp hnd).2.2 _ z _ List.mem_cons_self rfl
  refine ⟨_, rfl, _, rfl, o, RD, dx, _, _, rfl, R1.ob, CLq, n3, rfl, lr, _, rfl, .inl (sqL_of R1.names), rfl, flat_strs ns, _, rfl, ?_⟩
  rw [inV_str, decide_eq_false hnin]
  refine iteF ?_
  refine ⟨_, rfl, o, RD, dx, _, _, rfl, R1.ob, CLq, n3, rfl, .inl ⟨rfl, _, sqL_of R1.names⟩, _, rfl, lr, _, _, rfl, rfl, R1.names, small1000 (by rw [List.length_map]; omega), ?_⟩
  have R2 : Rdr RD o dx ln lr zs (upd H1 lr (.lst (ns.map V.str ++ [.str n.nm]))) (at_ + (nameC n.nm).length) (ns ++ [n.nm]) cnt :=
    ⟨by rw [upd_ne (fun z => by have := R1.names; rw [← z, R1.ob] at this; cases this)]; exact R1.ob, by rw [upd_ne R1.ne]; exact R1.nums, by rw [upd_same, List.map_append]; rfl, R1.ne, R1.sm⟩
  have k2 : Kr o lr H (upd H1 lr (.lst (ns.map V.str ++ [.str n.nm]))) := k1.trans fun b ob _ nb e => by rw [upd_ne nb]; exact e
  generalize upd H1 lr (.lst (ns.map V.str ++ [.str n.nm])) = H2 at R2 k2 ⊢
  refine ⟨_, rfl, o, dx, _, rfl, R2.ob, rfl, o, dx, ln, lr, zs, _, _, cnt, n.rl, _, rfl, R2, hz1, hc.ok.rl, fun H3 R3 k3 hz3 => ?_⟩
  have k03 := k2.trans k3
  have hfa3 := (R0.keeps (N := NoL) id k03).tup hK.fa
  refine ⟨_, rfl, o, dx, _, rfl, R3.ob, rfl, _, rfl, Nat.zero_le _, fun te nte => ?_⟩
  have s4 : Same H3 (upd H3 te (.tup [])) := (Same.refl H3).put nte
  have R4 := R3.same s4
  have c1 := hc.ok.c1
  have c2 := hc.ok.c2
  have l1 := fw_len c1
  have l2 := fw_len c2
  simp only [List.length_nil] at l1
  refine ⟨o, dx, ln, lr, a, te, zs, _, _, cnt, xs, [], n.hs, _, rfl, R4, s4.tup hfa3, sqT_new, hz3, hK.rt, by have := hK.xl; omega, fw_up c1, hc.s1, (fun _ _ z => nomatch z), by show 0 + n.hs.length ≤ 8; omega, fun H5 p5 R5 k5 hz5 hp5 => ?_⟩
  have k05 := (k03.trans s4.kr).trans k5
  have hfa5 := (R0.keeps (N := NoL) id k05).tup hK.fa
  refine ⟨_, rfl, o, dx, _, rfl, R5.ob, rfl, _, rfl, _, rfl, o, dx, ln, lr, a, p5, zs, _, _, cnt, xs, n.hs, n.fs, _, rfl, R5, hfa5, hp5, hz5, hK.rt, by have := hK.xl; omega, fw_up c2, hc.s2, fw_out c2, by omega, fun H6 p6 R6 k6 hz6 hp6 => ?_⟩
  have k06 := k05.trans k6
  have hp56 := (R5.keeps (N := NoL) id k6).tup hp5
  refine ⟨_, rfl, _, rfl, _, rfl, fun cd dxc nc ndc nec => ?_⟩
  refine mk_cond nc ndc hp56 hp6 c1 c2 (by omega) fun H7 s7 hC7 => ?_
  have R7 := R6.same s7
  have k07 := k06.trans s7.kr
  have hfa7 := (R0.keeps (N := NoL) id k07).tup hK.fa
  have fr7 : ∀ l, H7 l = none → N l := fun l h => hK.fr l (k07.free h (R7.new h).1 (R7.new h).2.1)
  have hnd2 : (ns ++ [n.nm] ++ n.exc.names).Nodup := by rw [List.append_assoc]; exact hnd
  have hel : n.exc.names.length = n.exc.size := by unfold RF.names; rw [List.length_map, RF.pre_len]
  refine ⟨_, rfl, _, rfl, o, dx, _, rfl, R7.ob, rfl, _, rfl, _, rfl, ar, 1, rfl, rfl, ?_⟩
  refine ⟨N, o, dx, ln, lr, a, ar + 1, zs, _, _, cnt, xs, n.exc, r, rfl, ⟨R7, hfa7, hK.nl, fr7, hK.rt, hK.xl⟩, hz6, hex, hd, by omega, (fun z => by omega), hcnt, by rw [List.length_append]; show ns.length + 1 + _ ≤ _; omega, hnd2, fun H8 p8 us R8 k8 hz8 hp8 hF8 => ?_⟩
  have k08 := k07.trans k8
  have kk8 : Keeps N H7 H8 := R7.keeps hK.nl k8
  intro x dx2 nx ndx nex
  have s9 : Same H8 (upd (upd H8 dx2 (.own x)) x (.ins R dx2 [])) := ((Same.refl H8).put ndx).put nx
  have ln1 := name_len hc.ok.nm
  have ln2 := name_len hc.ok.rl
  refine ⟨N, x, dx2, cd, p8, n.nm, n.rl, us, n.exc, rfl, upd_same, s9.tup hp8, hF8.keeps s9.keeps, by omega, by omega, by omega, by omega, (fun e => by rw [hc.ok.nm] at e; cases e), fun _ => ⟨(fun e => by rw [hc.ok.rl] at e; cases e), fun _ H10 l sX hx10 nelx nl el => ⟨rfl, ?_⟩⟩⟩
  have s10 : Same H8 H10 := fun b' o' h => sX b' o' (fun e => by rw [e, nx] at h; cases h) (s9 _ _ h)
  have fl : H8 l = none := s9.free nl
  have hN : N l := hK.fr l (k08.free fl (R8.new fl).1 (R8.new fl).2.1)
  have hnd10 : NdAt K C R N H10 x n := ⟨dx2, cd, p8, l, us, hx10, (hC7.keeps kk8).keeps (N := N) s10.keeps, s10.tup hp8, ⟨hN, el⟩, hF8.keeps s10.keeps⟩
  have eL : at_ + (RF.codeN xs n).length = at_ + (nameC n.nm).length + (nameC n.rl).length + (partC xs n.hs).length + (partC xs n.fs).length + (n.exc.code xs).length := by
    unfold RF.codeN
    simp only [List.length_append]
    omega
  have eN : ns ++ n.nm :: n.exc.names = ns ++ [n.nm] ++ n.exc.names := by rw [List.append_assoc]; rfl
  exact q H10 x (by rw [eL, eN]; exact R8.same s10) (k08.trans s10.kr) (by rw [eL]; exact hz8) hnd10
/-- the sizes of the exceptions of the first rules -/
def excZ (f : RF) (i : Nat) : Nat := ((f.nodes.take i).map fun n => n.exc.size).sum
theorem size_nodes : ∀ f : RF, f.size = f.nodes.length + (f.nodes.map fun n => n.exc.size).sum
  | .nil => rfl
  | .cons nm hs fs rl exc rest => by
    have := size_nodes rest
    show exc.size + 1 + rest.size = rest.nodes.length + 1 + (exc.size + (rest.nodes.map fun n => n.exc.size).sum)
    omega
theorem excZ_more {f : RF} {i : Nat} {n : Nd} (h : f.nodes[i]? = some n) : excZ f (i + 1) = excZ f i + n.exc.size := by
  unfold excZ
  rw [take_more h, List.map_append, List.sum_append]
  simp
theorem excZ_le (f : RF) (i : Nat) : f.nodes.length + excZ f i ≤ f.size := by
  rw [size_nodes]
  unfold excZ
  have e : (f.nodes.map fun n => n.exc.size).sum = ((f.nodes.take i).map fun n => n.exc.size).sum + ((f.nodes.drop i).map fun n => n.exc.size).sum := by rw [← List.sum_append, ← List.map_append, List.take_append_drop]
  omega
/-- the names of the first rules and of all within them -/
def preN (f : RF) (i : Nat) : List Str := (f.nodes.take i).flatMap fun n => n.nm :: n.exc.names
theorem preN_more {f : RF} {i : Nat} {n : Nd} (h : f.nodes[i]? = some n) : preN f (i + 1) = preN f i ++ (n.nm :: n.exc.names) := by
  unfold preN
  rw [take_more h, List.flatMap_append]
  simp
theorem names_nodes : ∀ f : RF, f.names = f.nodes.flatMap fun n => n.nm :: n.exc.names
  | .nil => rfl
  | .cons nm hs fs rl exc rest => by
    have ih := names_nodes rest
    show (RF.cons nm hs fs rl exc rest).names = (nm :: exc.names) ++ rest.nodes.flatMap fun n => n.nm :: n.exc.names
    rw [← ih]
    rw [← RF.pre_names _ 0]
    show nm :: ((exc.pre 1 ++ rest.pre 0).map _) = _
    rw [List.map_append, RF.pre_names, RF.pre_names]
    rfl
theorem preN_split (f : RF) (i : Nat) (n : Nd) (h : f.nodes[i]? = some n) : f.names = preN f i ++ (n.nm :: n.exc.names) ++ (f.nodes.drop (i + 1)).flatMap fun n => n.nm :: n.exc.names := by
  rw [← preN_more h, names_nodes]
  unfold preN
  rw [← List.flatMap_append, List.take_append_drop]
theorem preN_len (f : RF) (i : Nat) : (preN f i).length ≤ f.size := by
  have : f.names.length = f.size := by unfold RF.names; rw [List.length_map, RF.pre_len]
  rw [← this, names_nodes]
  have e : f.nodes.flatMap (fun n => n.nm :: n.exc.names) = preN f i ++ (f.nodes.drop i).flatMap fun n => n.nm :: n.exc.names := by unfold preN; rw [← List.flatMap_append, List.take_append_drop]
  rw [e, List.length_append]
  omega
theorem ok_trules {d : Nat} {f : Addr} {fd : FuncData} {t1 t2 t3 : Tok} (F : Fun K "take_rules" "Reader.take_rules" s_Reader_take_rules f fd) (B : Blt mg) (CLq : Cls K RD) (n4 : NoAttr K RD "rule_count") (m_MOST_OUTERMOST : mg "MOST_OUTERMOST" = some (.int 40 t1)) (m_MOST_AROUND : mg "MOST_AROUND" = some (.int 5 t2)) (m_MOST_RULES : mg "MOST_RULES" = some (.int 60 t3))
    (mq_take : MethR P w K mg base 2 RD "take" ["self", "least", "most"] (sp_take RD)) (mq_take_rule : MethR P w K mg base (2 * d + 17) RD "take_rule" ["self", "facts", "around"] (Below (sp_trule K C R RD) d)) :
    FnOk P w K mg base CX0 (2 * d + 18) f fd ["self", "facts", "around"] (sp_trules K C R RD d) := by
  refine F.ok sc_Reader_take_rules (fun vs H Q E h => by obtain ⟨N, o, dx, ln, lr, a, ar, zs, at_, ns, cnt, xs, f, r, rfl, _⟩ := h; rfl) (fun cdv A outer s H vs Q E hr h => ?_)
  obtain ⟨N, o, dx, ln, lr, a, ar, zs, at_, ns, cnt, xs, f, r, rfl, hK, hz, hev, hd, had, h40, hcnt, hnl, hnd, q⟩ := h
  refine ⟨_, (pss_cons (ps_set (i := 3) sc_Reader_take_rules.nd rfl (Or.inl rfl) pe_int)
      (pss_cons (wk_ps (tMost RD) (ps_if (pt_cmpR op_eq (pv 2) pe_int (nomark _)) (pss_one (ps_set (i := 3) sc_Reader_take_rules.nd rfl (Or.inl rfl) (pe_glob (v := .int 40) rfl m_MOST_OUTERMOST ⟨_, rfl⟩))) (pss_one (ps_if (pt_cmpR op_le (pv 2) (pe_glob (v := .int 5) rfl m_MOST_AROUND ⟨_, rfl⟩) (nomark _)) (pss_one (ps_set (i := 3) sc_Reader_take_rules.nd rfl (Or.inl rfl) (pe_op op_sub (pe_glob (v := .int 60) rfl m_MOST_RULES ⟨_, rfl⟩) (pe_fld (pv 0) rfl)))) pss_nil))) ?w1)
      (pss_cons (ps_set (i := 4) sc_Reader_take_rules.nd rfl (Or.inl rfl) (pe_me CLq mq_take (hr.mono (by omega)) (pv 0) (pa_cons pe_int (pa_cons (pv 3) pa_nil))))
      (pss_cons (ps_fldaug (pv 0) (pv 4) iop_add)
      (pss_one (ps_ret (pe_callTy call_tuple_of (by rfl) B.b_tuple PyProof.Rows.boot_tuple (pa_cons (pe_lc (own := [("_", 5)]) (g := gName 5) (tt := tYes) rfl sc_Reader_take_rules.nd (pi_range1 (by rfl) B.b_range (pa_cons (pv 4) pa_nil)) (blkOk_by (own := [("_", 5)]) (N := ["self", "facts", "around", "most", "count", "_"]) (sc := defScope s_Reader_take_rules) (by decide +kernel)) (fun _ _ _ _ _ => (pg_name (i := 5) sc_Reader_take_rules.nd rfl (Or.inl rfl))) (fun _ _ _ _ _ => pts_nil) (fun _ _ _ _ _ => (pe_.re (pe_me CLq mq_take_rule (hr.mono (by omega)) (pv 0) (pa_cons (pv 1) (pa_cons (pv 2) pa_nil))) (by first | (dsimp only [Cx.blk]; done) | exact rfl)))) pa_nil)))))))), ?_⟩
  case w1 =>
    rintro D σ H1 ⟨o, dx, ln, lr, at_, cnt, ar, y1, y4, y5, rfl, hob, q⟩
    refine ⟨_, rfl, rfl, _, rfl, bcase (fun c => ?_) (fun c => ?_)⟩
    · have c : ar = 0 := by have := of_decide_eq_true c; injection this with this; omega
      have e : mostR ar cnt = 40 := if_pos c
      rw [e] at q
      exact q
    · have c : ¬ ar = 0 := by have := of_decide_eq_false c; intro z; exact this (by rw [z]; rfl)
      refine ⟨_, rfl, _, 5, rfl, rfl, _, rfl, bcase (fun c2 => ?_) (fun c2 => ?_)⟩
      · have c2 : ar ≤ 5 := by have := of_decide_eq_true c2; omega
        have e : mostR ar cnt = 60 - (cnt : Int) := by unfold mostR; rw [if_neg c, if_pos c2]
        rw [e] at q
        exact ⟨_, rfl, o, RD, dx, _, _, rfl, hob, CLq, n4, rfl, 60, _, rfl, rfl, q⟩
      · have c2 : ¬ ar ≤ 5 := by have := of_decide_eq_false c2; omega
        have e : mostR ar cnt = 0 := by unfold mostR; rw [if_neg c, if_neg c2]
        rw [e] at q
        exact q
  have R0 := hK.rd
  have hsz := excZ_le f 0
  have hz0 : zs.drop at_ = (f.nodes.length : Int) :: (f.nodes.flatMap (RF.codeN xs) ++ r) := by
    rw [hz]; unfold RF.code; rw [RF.codeB_nodes]; rfl
  refine ⟨o, dx, ln, lr, at_, cnt, ar, _, _, _, rfl, R0.ob, ?_⟩
  have hmost : (f.nodes.length : Int) ≤ mostR ar cnt := by
    unfold mostR
    have hnz := RF.nodes_le f
    by_cases c : ar = 0
    · rw [if_pos c]
      have := h40 c
      omega
    · rw [if_neg c]
      by_cases c2 : ar ≤ 5
      · rw [if_pos c2]
        omega
      · rw [if_neg c2]
        have : f.dep = 0 := by omega
        rw [RF.dep_nil f this]
        exact Int.le_refl 0
  refine ⟨_, rfl, o, dx, _, rfl, R0.ob, rfl, _, rfl, o, dx, ln, lr, zs, at_, ns, cnt, 0, mostR ar cnt, _, _, rfl, R0, hz0, Int.natCast_nonneg _, hmost, fun H1 R1 k1 hz1 => ?_⟩
  refine ⟨_, rfl, o, RD, dx, _, _, rfl, R1.ob, CLq, n4, rfl, _, rfl, _, _, rfl, rfl, dx, _, R1.ob, (by show 4 < 1000; decide), ?_⟩
  have R2 : Rdr RD o dx ln lr zs (upd H1 o (.ins RD dx (putF "rule_count" (.int ((cnt : Int) + (f.nodes.length : Int))) (rdF ln lr (at_ + 1) cnt)))) (at_ + 1) ns (cnt + f.nodes.length) := by
    refine ⟨by rw [upd_same]; rfl, ?_, ?_, R1.ne, R1.sm⟩
    · rw [upd_ne (fun z => by have := R1.nums; rw [z, R1.ob] at this; cases this)]
      exact R1.nums
    · rw [upd_ne (fun z => by have := R1.names; rw [z, R1.ob] at this; cases this)]
      exact R1.names
  have k2 : Kr o lr H (upd H1 o (.ins RD dx (putF "rule_count" (.int ((cnt : Int) + (f.nodes.length : Int))) (rdF ln lr (at_ + 1) cnt)))) := k1.trans fun b ob nb _ e => by rw [upd_ne nb]; exact e
  generalize upd H1 o (.ins RD dx (putF "rule_count" (.int ((cnt : Int) + (f.nodes.length : Int))) (rdF ln lr (at_ + 1) cnt))) = H2 at R2 k2 ⊢
  have hnz := RF.nodes_le f
  refine ⟨_, rfl, _, rfl, (by omega), (by omega), fun D nD => ?_⟩
  have dne := R2.new nD
  have nDH : H D = none := k2.free nD dne.1 dne.2.1
  refine lc_it walk_range (fun i H' => Kr o lr H H' ∧ Rdr RD o dx ln lr zs H' (at_ + 1 + ((f.nodes.take i).flatMap (RF.codeN xs)).length) (ns ++ preN f i) (cnt + f.nodes.length + excZ f i) ∧ zs.drop (at_ + 1 + ((f.nodes.take i).flatMap (RF.codeN xs)).length) = (f.nodes.drop i).flatMap (RF.codeN xs) ++ r ∧ ∃ us, H' D = some (.lst us) ∧ All2 (RefAt K C R (fun l => N l ∧ l ≠ D) H') us (f.nodes.take i))
    ⟨k2.put' nD, by rw [show preN f 0 = [] from rfl, List.append_nil]; exact R2.own dne, hz1, [], upd_same, .nil⟩ (fun _ _ _ _ => trivial) ?_ ?_
  · rintro i y H3 H4 hi ⟨k3, R3, hz3, us, e3, hus⟩ ⟨rfl, hy⟩
    have hi : i < f.nodes.length := by have : ((f.nodes.length : Nat) : Int).toNat = f.nodes.length := rfl; omega
    have hn : f.nodes[i]? = some f.nodes[i] := List.getElem?_eq_getElem hi
    have hmem : f.nodes[i] ∈ f.nodes := List.getElem_mem hi
    have hdm := RF.dep_mem _ _ hmem
    have hsm := RF.size_mem _ _ hmem
    obtain ⟨hc, hex⟩ := RF.every_nodes.mp hev _ hmem
    have hz1' := excZ_le f (i + 1)
    rw [excZ_more hn] at hz1'
    have hpl := preN_len f (i + 1)
    rw [preN_more hn, List.length_append, List.length_cons] at hpl
    have hel : (f.nodes[i]).exc.names.length = (f.nodes[i]).exc.size := by unfold RF.names; rw [List.length_map, RF.pre_len]
    rw [List.drop_eq_getElem_cons hi, List.flatMap_cons, List.append_assoc] at hz3
    have hspl := preN_split f i _ hn
    generalize f.nodes[i] = n at hn hmem hdm hsm hc hex hz1' hpl hel hz3 hspl
    obtain ⟨d, rfl⟩ : ∃ d', d = d' + 1 := ⟨d - 1, by omega⟩
    have hfa3 := (R0.keeps (N := NoL) id k3).tup hK.fa
    have hnd3 : (ns ++ preN f i ++ n.nm :: n.exc.names).Nodup := by
      rw [hspl, ← List.append_assoc, ← List.append_assoc] at hnd
      exact (List.nodup_append.mp hnd).1
    have nN : ¬ (N lr ∧ lr ≠ D) := fun z => hK.nl z.1
    have hul := hus.len
    rw [List.length_take] at hul
    refine ⟨rfl, yes_ ?_⟩
    refine ⟨_, rfl, o, dx, _, rfl, R3.ob, rfl, _, rfl, _, rfl, fun l => N l ∧ l ≠ D, o, dx, ln, lr, a, ar, zs, _, _, _, xs, n, _, rfl, ⟨R3, hfa3, nN, (fun l h => ⟨hK.fr l (k3.free h (R3.new h).1 (R3.new h).2.1), fun z => by rw [z, e3] at h; cases h⟩), hK.rt, hK.xl⟩, hz3, hc, hex, by omega, by omega, by omega, by rw [List.length_append]; omega, hnd3, fun H5 x R5 k5 hz5 hnd5 => ?_⟩
    have e5 := k5 _ _ dne.1 dne.2.1 e3
    have kk : Keeps (fun l => N l ∧ l ≠ D) H5 (upd H5 D (.lst (us ++ [.ref x]))) := keeps_own e5 fun z => z.2 rfl
    have k35 : Keeps (fun l => N l ∧ l ≠ D) H4 H5 := R3.keeps nN k5
    refine ⟨us, e5, small1000 (by omega), (k3.trans k5).put nDH, ?_, ?_, _, upd_same, ?_⟩
    · rw [take_more hn, List.flatMap_append, List.flatMap_cons, List.flatMap_nil, List.append_nil, List.length_append, preN_more hn, excZ_more hn, ← List.append_assoc, ← Nat.add_assoc, ← Nat.add_assoc]
      exact R5.own dne
    · rw [take_more hn, List.flatMap_append, List.flatMap_cons, List.flatMap_nil, List.append_nil, List.length_append, ← Nat.add_assoc]
      exact hz5
    · rw [take_more hn]
      exact (hus.mono fun _ _ x => (x.keeps k35).keeps kk).snoc ⟨x, rfl, hnd5.keeps kk⟩
  rintro H3 ⟨k3, R3, hz3, us, e3, hus⟩
  have hto : ((f.nodes.length : Nat) : Int).toNat = f.nodes.length := rfl
  have hall : preN f f.nodes.length = f.names := by unfold preN; rw [List.take_length, names_nodes]
  have hallZ : cnt + f.nodes.length + excZ f f.nodes.length = cnt + f.size := by unfold excZ; rw [List.take_length, size_nodes]; omega
  rw [hto, List.take_length, hall, hallZ] at R3
  rw [hto, List.take_length, List.drop_length, List.flatMap_nil, List.nil_append] at hz3
  rw [hto, List.take_length] at hus
  have hus : All2 (RefAt K C R N H3) us f.nodes := hus.mono fun _ _ ⟨o, e, x⟩ => ⟨o, e, x.re fun b xs h _ => h.1⟩
  refine ⟨D, us, rfl, .inl ⟨sqL_of e3, fun t nt => ?_⟩⟩
  have s4 : Same H3 (upd H3 t (.tup us)) := (Same.refl H3).put nt
  have eL : at_ + (f.code xs).length = at_ + 1 + (f.nodes.flatMap (RF.codeN xs)).length := by unfold RF.code; rw [List.length_cons, RF.codeB_nodes]; omega
  exact q _ t us (by rw [eL]; exact R3.same s4) (k3.trans s4.kr) (by rw [eL]; exact hz3) sqT_new (ForAt.of (hus.mono fun _ _ x => x.keeps s4.keeps))
end
end Sc
namespace Sc
open PySem PySem.Spec PyProof.Rows L2
abbrev s_decode_book : Stmt := topS 48
theorem sc_decode_book : FnScope ["values", "reader", "facts", "rules", "ruling", "right"] ["values"] (defScope s_decode_book) := ⟨rfl, rfl, rfl, by decide +kernel, rfl, by decide +kernel, by decide +kernel⟩
/-- making an object whose init raises nothing -/
structure Mkr0 (P : Program) (w : World) (K : PySem.W.Frag) (mg : Str → Option Value) (base : Heap) (k : Nat) (x : Str) (C : Addr) (ps : List Str) (sp : Sp) : Prop where
  ex : ∃ (f : Addr) (fd : FuncData), Mk K C f ∧ FnOk P w K mg base CX0 k f fd ps sp ∧ mg x = some (.ref C) ∧ Binds K fd ps []
section
variable {X : Cx} {k : Nat} {x : Str} {C : Addr} {ps : List Str} {sp : Sp} {e : Expr} {es : List Expr} {t : TA} {p pos : Pos}
theorem pe_mk0 (M : Mkr0 X.prog X.w X.K X.mg X.base k x C ps sp) (hr : Room (k + 1) X.A) (ha : PA X (e :: es) t) (hg : Gl X x := by rfl) (hdb : (x == ("__debug__" : Str)) = false := by decide)
    (he : starEach (e :: es) X.env = (false, eval e X.env) :: starEach es X.env := by rfl) (hpl : (backTo pos (starEach es X.env)).any (·.1) = false := by rfl) : PE X (.Call (.Name x p) (e :: es) [] pos) (tMake C sp [] E0 t) := by
  obtain ⟨f, fd, hk, F, hm, hb⟩ := M.ex
  exact pe_make hk F hr hg hm hb .nil pass0 ha hdb he hpl
end
section
variable {P : Program} {w : World} {K : PySem.W.Frag} {mg : Str → Option Value} {base : Heap} {C R B RD CC CR CFa CB : Addr}
/-- reading rules, however deep -/
theorem all_trules {f1 f2 : Addr} {d1 d2 : FuncData} {t1 t2 t3 : Tok} (F1 : Fun K "take_rules" "Reader.take_rules" s_Reader_take_rules f1 d1) (F2 : Fun K "take_rule" "Reader.take_rule" s_Reader_take_rule f2 d2) (Bl : Blt mg) (CLq : Cls K RD) (n2 : NoAttr K RD "at") (n3 : NoAttr K RD "rule_names") (n4 : NoAttr K RD "rule_count")
    (m1 : mg "MOST_OUTERMOST" = some (.int 40 t1)) (m2 : mg "MOST_AROUND" = some (.int 5 t2)) (m3 : mg "MOST_RULES" = some (.int 60 t3))
    (k_Condition : Mkr P w K mg base 4 "Condition" C ["self", "holding", "failing"] (sp_cond_init K C CC)) (k_Rule : Mkr P w K mg base 16 "Rule" R ["self", "name", "condition", "ruling", "exceptions"] (sp_rule_init K C R CR))
    (mq_take : MethR P w K mg base 2 RD "take" ["self", "least", "most"] (sp_take RD)) (mq_take_name : MethR P w K mg base 3 RD "take_name" ["self"] (sp_tname RD)) (mq_take_part : MethR P w K mg base 3 RD "take_part" ["self", "facts", "taken"] (sp_tpart K RD))
    (M1 : Meth K RD "take_rules" f1) (M2 : Meth K RD "take_rule" f2) (b1 : Binds K d1 ["self", "facts", "around"] []) (b2 : Binds K d2 ["self", "facts", "around"] []) : ∀ d, FnOk P w K mg base CX0 (2 * d + 18) f1 d1 ["self", "facts", "around"] (sp_trules K C R RD d)
  | 0 => ok_trules F1 Bl CLq n4 m1 m2 m3 mq_take ⟨_, _, M2, FnOk.never, b2⟩
  | d + 1 => ok_trules (d := d + 1) F1 Bl CLq n4 m1 m2 m3 mq_take ⟨_, _, M2, ok_trule F2 Bl CLq n2 n3 k_Condition k_Rule mq_take_name mq_take_part ⟨_, _, M1, all_trules F1 F2 Bl CLq n2 n3 n4 m1 m2 m3 k_Condition k_Rule mq_take mq_take_name mq_take_part M1 M2 b1 b2 d, b1⟩, b2⟩
def sp_decode (K : PySem.W.Frag) (C R B : Addr) : Sp := fun vs H Qk _ => ∃ (N : Addr → Prop) (v : Addr) (xs : List Str) (f : RF) (rl : Str), vs = [.ref v] ∧ H v = some (.lst ((bookC xs f rl ++ [chk (bookC xs f rl)]).map V.int)) ∧ (∀ l, H l = none → N l) ∧ Right xs ∧ 1 ≤ xs.length ∧ xs.length ≤ 60 ∧ f.every (CF xs) ∧ f.dep ≤ 6 ∧ f.nodes.length ≤ 40 ∧ f.size ≤ 60 ∧ f.names.Nodup ∧ isName rl = true ∧ firstBad xs = none ∧ firstFault xs (f.pre 0) [] 0 0 = none ∧
  ∀ H' b, Same H H' → BookAt K C R B N H' b xs f rl → Qk (.ref b) H'
theorem ok_decode {f : Addr} {fd : FuncData} {t1 : Tok} (F : Fun K "decode_book" "decode_book" s_decode_book f fd) (Bl : Blt mg) (CLq : Cls K RD) (n2 : NoAttr K RD "at") (m_FIRST_NUMBER : mg "FIRST_NUMBER" = some (.int 66 t1)) (k_Book : Mkr P w K mg base 17 "Book" B ["self", "facts", "rules", "ruling"] (sp_book_init K C R B CFa CB)) (k_Reader : Mkr0 P w K mg base 1 "Reader" RD ["self", "numbers"] (sp_rinit RD)) (c_checksum : Cal P w K mg base CX0 1 "checksum" ["numbers"] sp_chk)
    (mq_take : MethR P w K mg base 2 RD "take" ["self", "least", "most"] (sp_take RD)) (mq_take_name : MethR P w K mg base 3 RD "take_name" ["self"] (sp_tname RD)) (mq_take_facts : MethR P w K mg base 4 RD "take_facts" ["self"] (sp_tfacts K RD)) (mq_take_rules : MethR P w K mg base 30 RD "take_rules" ["self", "facts", "around"] (sp_trules K C R RD 6)) :
    FnOk P w K mg base CX0 31 f fd ["values"] (sp_decode K C R B) := by
  refine F.ok sc_decode_book (fun vs H Q E h => by obtain ⟨N, v, xs, f, rl, rfl, _⟩ := h; rfl) (fun cdv A outer s H vs Q E hr h => ?_)
  obtain ⟨N, v, xs, f, rl, rfl, hv, hN, hx, hx1, hx60, hev, hd, h40, hz, hnd, hrl, hb, hff, q⟩ := h
  refine ⟨_, (pss_cons (ps_set (i := 1) sc_decode_book.nd rfl (Or.inl rfl) (pe_mk0 k_Reader (hr.mono (by decide)) (pa_cons (pv 0) pa_nil)))
      (pss_cons (ps_expr (pe_me CLq mq_take (hr.mono (by decide)) (pv 1) (pa_cons (pe_glob (v := .int 66) rfl m_FIRST_NUMBER ⟨_, rfl⟩) (pa_cons (pe_glob (v := .int 66) rfl m_FIRST_NUMBER ⟨_, rfl⟩) pa_nil))))
      (pss_cons (ps_set (i := 2) sc_decode_book.nd rfl (Or.inl rfl) (pe_me0 CLq mq_take_facts (hr.mono (by decide)) (pv 1)))
      (pss_cons (ps_set (i := 3) sc_decode_book.nd rfl (Or.inl rfl) (pe_me CLq mq_take_rules (hr.mono (by decide)) (pv 1) (pa_cons (pv 2) (pa_cons pe_int pa_nil))))
      (pss_cons (ps_set (i := 4) sc_decode_book.nd rfl (Or.inl rfl) (pe_me0 CLq mq_take_name (hr.mono (by decide)) (pv 1)))
      (pss_cons (ps_set (i := 5) sc_decode_book.nd rfl (Or.inl rfl) (pe_cal c_checksum (hr.mono (by decide)) (pa_cons (pe_slice sl_list (pv 0) po_none (po_some (pe_fld (pv 1) rfl))) pa_nil)))
      (pss_cons (ps_expr (pe_me CLq mq_take (hr.mono (by decide)) (pv 1) (pa_cons (pv 5) (pa_cons (pv 5) pa_nil))))
      (pss_cons (ps_if (pt_cmpR op_lt (pe_fld (pv 1) rfl) (pe_callB call_len_seq (by rfl) Bl.b_len PySem.boot_len (pa_cons (pv 0) pa_nil)) (nomark _)) pss_never pss_nil)
      (pss_one (ps_ret (pe_mkN k_Book (hr.mono (by decide)) (pa_cons (pv 2) (pa_cons (pv 3) (pa_cons (pv 4) pa_nil)))))))))))))), ?_⟩
  have hlen := bookC_len (rl := rl) hx.nm (RF.every_mono (fun n (h : CF xs n) => h.ok) hev) hrl
  refine ⟨_, rfl, fun o dx no ndo neo => ?_⟩
  have s0 : Same H (upd (upd H dx (.own o)) o (.ins RD dx [])) := ((Same.refl H).put ndo).put no
  have sm : (bookC xs f rl ++ [chk (bookC xs f rl)]).length ≤ 100000 := by rw [List.length_append]; show _ + 1 ≤ _; omega
  refine ⟨o, dx, v, _, rfl, upd_same, s0 _ _ hv, sm, fun H1 ln lr R1 sx nlr1 => ⟨rfl, ?_⟩⟩
  have nlo : lr ≠ o := fun z => by rw [z, upd_same] at nlr1; cases nlr1
  have nlr : H lr = none := s0.free nlr1
  have S1 : Same H H1 := fun b ob e => sx b ob (fun z => by rw [z, no] at e; cases e) (s0 _ _ e)
  have toS : ∀ {H'}, Kr o lr H1 H' → Same H H' := fun k b ob e => k b ob (fun z => by rw [z, no] at e; cases e) (fun z => by rw [z, nlr] at e; cases e) (S1 b ob e)
  have nN : ¬ (N lr ∧ lr ≠ lr) := fun z => z.2 rfl
  have frN : ∀ {H' at_ ns cnt}, Kr o lr H1 H' → Rdr RD o dx ln lr (bookC xs f rl ++ [chk (bookC xs f rl)]) H' at_ ns cnt → ∀ l, H' l = none → N l ∧ l ≠ lr := fun k R l h => ⟨hN l ((toS k).free h), (R.new h).2.1⟩
  have hz0 : (bookC xs f rl ++ [chk (bookC xs f rl)]).drop 0 = 66 :: (factC xs ++ (f.code xs ++ (nameC rl ++ [chk (bookC xs f rl)]))) := by
    rw [List.drop_zero]; unfold bookC; simp only [List.append_assoc, List.cons_append]
  refine ⟨_, rfl, o, dx, _, rfl, R1.ob, rfl, o, dx, ln, lr, _, 0, [], 0, 66, 66, 66, _, rfl, R1, hz0, by decide, by decide, fun H2 R2 k2 hz2 => ?_⟩
  refine ⟨_, rfl, o, dx, _, rfl, R2.ob, rfl, o, dx, ln, lr, _, _, [], 0, xs, _, rfl, R2, hz2, hx, hx1, hx60, fun H3 p3 R3 k3 hz3 hp3 => ?_⟩
  have k13 := k2.trans k3
  refine ⟨_, rfl, o, dx, _, rfl, R3.ob, rfl, _, rfl, fun l => N l ∧ l ≠ lr, o, dx, ln, lr, p3, 0, _, _, [], 0, xs, f, _, rfl, ⟨R3, hp3, nN, frN k13 R3, hx, hx60⟩, hz3, hev, hd, by omega, (fun _ => h40), by omega, by show 0 + _ ≤ 900; omega, hnd, fun H4 p4 us R4 k4 hz4 hp4 hF4 => ?_⟩
  have k14 := k13.trans k4
  have hp34 := (R3.keeps (N := NoL) id k4).tup hp3
  refine ⟨_, rfl, o, dx, _, rfl, R4.ob, rfl, o, dx, ln, lr, _, _, _, _, rl, _, rfl, R4, hz4, hrl, fun H5 R5 k5 hz5 => ?_⟩
  have k15 := k14.trans k5
  have hv5 := toS k15 _ _ hv
  have e5 : 0 + 1 + (factC xs).length + (f.code xs).length + (nameC rl).length = (bookC xs f rl).length := by unfold bookC; rw [List.length_cons, List.length_append, List.length_append]; omega
  rw [e5] at R5 hz5
  refine ⟨_, rfl, ?_⟩
  dsimp only [tNoPart]
  refine ⟨_, rfl, o, RD, dx, _, _, rfl, R5.ob, CLq, n2, rfl, _, rfl, ?_⟩
  refine ⟨v, _, rfl, sqL_of hv5, fun D nD => ?_⟩
  rw [cut_to, ← List.map_take, List.take_left]
  have s6 : Same H5 (upd H5 D (.lst ((bookC xs f rl).map V.int))) := (Same.refl H5).put nD
  have R6 := R5.same s6
  have hv6 := s6 _ _ hv5
  refine ⟨D, bookC xs f rl, rfl, upd_same, fun H7 s7 => ?_⟩
  have R7 := R6.same s7
  have s57 := s6.trans s7
  refine ⟨_, rfl, o, dx, _, rfl, R7.ob, rfl, _, rfl, _, rfl, o, dx, ln, lr, _, _, _, _, chk (bookC xs f rl), chk (bookC xs f rl), chk (bookC xs f rl), [], rfl, R7, hz5, Int.le_refl _, Int.le_refl _, fun H8 R8 k8 hz8 => ?_⟩
  have k18 := (k15.trans s57.kr).trans k8
  have S8 := toS k18
  have hv8 := S8 _ _ hv
  refine ⟨_, rfl, o, RD, dx, _, _, rfl, R8.ob, CLq, n2, rfl, _, rfl, v, _, rfl, .inl (sqL_of hv8), _, _, rfl, rfl, _, rfl, ?_⟩
  rw [decide_eq_false (by rw [List.length_map, List.length_append]; show ¬ (((bookC xs f rl).length + 1 : Nat) : Int) < (((bookC xs f rl).length + 1 : Nat) : Int); omega)]
  refine iteF ?_
  have k48 : Kr o lr H4 H8 := (k5.trans s57.kr).trans k8
  have K48 : Keeps (fun l => N l ∧ l ≠ lr) H4 H8 := R4.keeps nN k48
  have hp38 := K48.tup hp34
  have hp48 := K48.tup hp4
  have hF8 := hF4.keeps K48
  refine ⟨_, rfl, _, rfl, _, rfl, fun x dx2 nx ndx nex => ?_⟩
  have s9 : Same H8 (upd (upd H8 dx2 (.own x)) x (.ins B dx2 [])) := ((Same.refl H8).put ndx).put nx
  have ll := name_len hrl
  have hfx := hx.fines
  refine ⟨fun l => N l ∧ l ≠ lr, x, dx2, p3, p4, xs, rl, us, f, rfl, upd_same, s9.tup hp38, hfx.txts, by omega, s9.tup hp48, hF8.keeps s9.keeps, by omega, by omega, fit_of (RF.every_mono (fun n (h : CF xs n) => h.ok) hev), by omega, (fun i ei => by rw [hb] at ei; cases ei), fun _ => ⟨(fun wd i ei => by rw [hff] at ei; cases ei), fun _ => ⟨(fun z => by rw [hrl] at z; cases z), fun _ H10 l us2 sX hx10 nelx nl el hus => ⟨rfl, ?_⟩⟩⟩⟩
  have s10 : Same H8 H10 := fun b' o' h => sX b' o' (fun e => by rw [e, nx] at h; cases h) (s9 _ _ h)
  have g0 : ∀ b xs, (N b ∧ b ≠ lr) → H10 b = some (.lst xs) → N b := fun b xs h _ => h.1
  exact q H10 x (S8.trans s10) ⟨dx2, p3, p4, l, us, us2, hx10, s10.tup hp38, s10.tup hp48, (hF8.keeps s10.keeps).re g0, ⟨hN l (S8.free (s9.free nl)), el⟩, hus.mono fun _ _ ⟨o, e, x⟩ => ⟨o, e, x.re g0⟩⟩
end
end Sc
namespace Sc
open PySem PySem.Spec PyProof.Rows L2
section
variable {K : PySem.W.Frag} {H : Hp}
/-! ### rows as data -/
def RF.dats : RF → List PyData
  | .nil => []
  | .cons nm hs fs rl exc rest => .tuple [.str nm, .tuple (hs.map PyData.str), .tuple (fs.map PyData.str), .str rl, .tuple exc.dats] :: rest.dats
theorem dp_rows : ∀ {f : RF} {vs : List V}, RowsAt K H f vs → DpAll K H vs f.dats
  | .nil, _, h => by
    obtain rfl : _ = [] := h
    exact .nil
  | .cons nm hs fs rl exc rest, vs, h => by
    obtain ⟨o, w, b, p, ws, vs', rfl, h1, h2, h3, h4, h6, h7⟩ := h
    exact .cons (.tup h1 (.cons (.str _) (.cons (.tup h2 (dps K H hs)) (.cons (.tup h3 (dps K H fs)) (.cons (.str _) (.cons (.tup h4 (dp_rows h6)) .nil)))))) (dp_rows h7)
theorem lay_rows : ∀ {f : RF}, f.every NdOk → PyData.canLayAll0 f.dats = true
  | .nil, _ => rfl
  | .cons nm hs fs rl exc rest, h => by
    obtain ⟨h1, h2, h3⟩ := h
    show (((PyData.str nm).canLay0 && (PyData.canLayAll0 (hs.map PyData.str) && (PyData.canLayAll0 (fs.map PyData.str) && ((PyData.str rl).canLay0 && (PyData.canLayAll0 exc.dats && true))))) && PyData.canLayAll0 rest.dats) = true
    rw [(name_fine h1.nm).2, strs_lay (fw_fines h1.c1), strs_lay (fw_fines h1.c2), (name_fine h1.rl).2, lay_rows h2, lay_rows h3]
    rfl
theorem dep_rows : ∀ f : RF, PyData.depthAll f.dats ≤ 2 * f.dep
  | .nil => Nat.le_refl 0
  | .cons nm hs fs rl exc rest => by
    have h1 := dep_rows exc
    have h2 := dep_rows rest
    show max ((max (PyData.str nm).depth (max (PyData.depthAll (hs.map PyData.str) + 1) (max (PyData.depthAll (fs.map PyData.str) + 1) (max (PyData.str rl).depth (max (PyData.depthAll exc.dats + 1) 0))))) + 1) (PyData.depthAll rest.dats) ≤ 2 * max (exc.dep + 1) rest.dep
    rw [strs_depth, strs_depth]
    have e1 : (PyData.str nm).depth = 0 := rfl
    have e2 : (PyData.str rl).depth = 0 := rfl
    omega
theorem sh_rows {f : RF} (h : f.every NdOk) (d : f.dep ≤ 12) : SeqAt.shaped (.tuple f.dats) = true := by
  unfold SeqAt.shaped
  have e1 : (PyData.tuple f.dats).canLay0 = true := lay_rows h
  have e2 : (PyData.tuple f.dats).depth ≤ 64 := by
    have := dep_rows f
    show PyData.depthAll f.dats + 1 ≤ 64
    omega
  rw [e1, decide_eq_true e2]
  rfl
end
namespace RF
def ofL : List Nd → RF
  | [] => .nil
  | n :: r => .cons n.nm n.hs n.fs n.rl n.exc (ofL r)
theorem ofL_nodes : ∀ ns : List Nd, (ofL ns).nodes = ns
  | [] => rfl
  | n :: r => by show n :: (ofL r).nodes = _; rw [ofL_nodes r]
theorem ofL_every {p : Nd → Prop} : ∀ {ns : List Nd}, (∀ n ∈ ns, p n ∧ n.exc.every p) → (ofL ns).every p
  | [], _ => trivial
  | n :: r, h => ⟨(h n List.mem_cons_self).1, (h n List.mem_cons_self).2, ofL_every fun m hm => h m (List.mem_cons_of_mem _ hm)⟩
theorem ofL_dep {d : Nat} : ∀ {ns : List Nd}, (∀ n ∈ ns, n.exc.dep + 1 ≤ d) → (ofL ns).dep ≤ d
  | [], _ => Nat.zero_le _
  | n :: r, h => by
    have h1 := h n List.mem_cons_self
    have h2 := ofL_dep (ns := r) fun m hm => h m (List.mem_cons_of_mem _ hm)
    show max (n.exc.dep + 1) (ofL r).dep ≤ d
    omega
end RF
theorem sh_rowsL {f : RF} (h : f.every NdOk) (d : f.dep ≤ 12) : SeqAt.shaped (.list f.dats) = true := by
  unfold SeqAt.shaped
  have e1 : (PyData.list f.dats).canLay0 = true := lay_rows h
  have e2 : (PyData.list f.dats).depth ≤ 64 := by
    have := dep_rows f
    show PyData.depthAll f.dats + 1 ≤ 64
    omega
  rw [e1, decide_eq_true e2]
  rfl
theorem dats_nil {f : RF} : (PyData.list f.dats).eqv (.list []) = decide (f.nodes = []) := by
  cases f with
  | nil => rfl
  | cons nm hs fs rl exc rest => exact (decide_eq_false (List.cons_ne_nil _ _)).symm
end Sc
namespace Sc
open PySem PySem.Spec PyProof.Rows L2
abbrev s__law_told : Stmt := topS 60
theorem sc__law_told : FnScope ["_law_rules", "_law_found", "_law_rule_here", "_law_condition"] ["_law_rules"] (defScope s__law_told) := ⟨rfl, rfl, rfl, by decide +kernel, rfl, by decide +kernel, by decide +kernel⟩
abbrev s__law_seen : Stmt := topS 61
theorem sc__law_seen : FnScope ["_law_book_here"] ["_law_book_here"] (defScope s__law_seen) := ⟨rfl, rfl, rfl, by decide +kernel, rfl, by decide +kernel, by decide +kernel⟩
section
variable {P : Program} {w : World} {K : PySem.W.Frag} {mg : Str → Option Value} {base : Heap} {C R B CC CR CF_ CB : Addr}
theorem at_strs {H : Hp} {a : Addr} {n : Nat} {xs : List Str} (h : SqT K H a (xs.map V.str)) (l : xs.length ≤ 1000) : AT K H (n + 1) (.ref a) (.tuple (xs.map PyData.str)) := by
  refine .tup h (by rw [List.length_map, List.length_map]) (by rw [List.length_map]; omega) fun i x d hx hd => ?_
  rw [List.getElem?_map] at hx hd
  cases e : xs[i]? with
  | none => rw [e] at hx; cases hx
  | some z => rw [e] at hx hd; cases hx; cases hd; exact .str _ _
theorem dats_len : ∀ f : RF, f.dats.length = f.nodes.length
  | .nil => rfl
  | .cons nm hs fs rl exc rest => by
    show (_ :: rest.dats).length = (_ :: rest.nodes).length
    rw [List.length_cons, List.length_cons, dats_len rest]
theorem at_rows {H : Hp} : ∀ {f : RF} {vs : List V} {n : Nat}, RowsAt K H f vs → f.every NdOk → f.size ≤ 900 → 2 * f.dep ≤ n → ∀ (i : Nat) (x : V) (d : PyData), vs[i]? = some x → f.dats[i]? = some d → AT K H n x d
  | .nil, vs, n, h, _, _, _, i, x, d, hx, _ => by
    obtain rfl : vs = [] := h
    cases i <;> cases hx
  | .cons nm hs fs rl exc rest, vs, n, h, ⟨ok, e2, e3⟩, hz, hn, i, x, d, hx, hd => by
    obtain ⟨o, w, b, p, ws, vs', rfl, h1, h2, h3, h4, h6, h7⟩ := h
    have hn : 2 * max (exc.dep + 1) rest.dep ≤ n := hn
    have hz : exc.size + 1 + rest.size ≤ 900 := hz
    have hl := ok.len
    cases i with
    | succ i => exact at_rows h7 e3 (by omega) (by omega) i x d hx hd
    | zero =>
      cases hx
      cases hd
      obtain ⟨n, rfl⟩ : ∃ m, n = m + 2 := ⟨n - 2, by omega⟩
      have hel := h6.len
      have hez := RF.nodes_le exc
      refine .tup h1 rfl (by show 5 ≤ 1000000; decide) fun j x d hx hd => ?_
      match j, hx, hd with
      | 0, hx, hd => cases hx; cases hd; exact .str _ _
      | 1, hx, hd => cases hx; cases hd; exact at_strs h2 (by show hs.length ≤ 1000; have : hs.length ≤ 8 := hl.1; omega)
      | 2, hx, hd => cases hx; cases hd; exact at_strs h3 (by show fs.length ≤ 1000; have : fs.length ≤ 8 := hl.2; omega)
      | 3, hx, hd => cases hx; cases hd; exact .str _ _
      | 4, hx, hd => cases hx; cases hd; exact .tup h4 (by rw [hel, dats_len]) (by omega) fun k x d hx hd => at_rows h6 e2 (by omega) (by omega) k x d hx hd
      | j + 5, hx, hd => cases hx
/-- a book told in tuples -/
def SeenAt (K : PySem.W.Frag) (H : Hp) (p : Addr) (xs : List Str) (f : RF) (rl : Str) : Prop := ∃ (fp pr : Addr) (ws : List V), SqT K H p [.ref fp, .ref pr, .str rl] ∧ SqT K H fp (xs.map V.str) ∧ SqT K H pr ws ∧ RowsAt K H f ws
theorem SeenAt.keeps {N : Addr → Prop} {H H' : Hp} {p : Addr} {xs : List Str} {f : RF} {rl : Str} (k : Keeps N H H') (h : SeenAt K H p xs f rl) : SeenAt K H' p xs f rl := by
  obtain ⟨fp, pr, ws, h1, h2, h3, h4⟩ := h
  exact ⟨fp, pr, ws, k.tup h1, k.tup h2, k.tup h3, h4.keeps k⟩
theorem at_seen {H : Hp} {p : Addr} {xs : List Str} {f : RF} {rl : Str} (h : SeenAt K H p xs f rl) (l : xs.length ≤ 60) (ev : f.every NdOk) (hz : f.size ≤ 900) (hd : f.dep ≤ 8) : AT K H 30 (.ref p) (.tuple [.tuple (xs.map PyData.str), .tuple f.dats, .str rl]) := by
  obtain ⟨fp, pr, ws, h1, h2, h3, h4⟩ := h
  have hel := h4.len
  have hez := RF.nodes_le f
  refine .tup h1 rfl (by show 3 ≤ 1000000; decide) fun j x d hx hd => ?_
  match j, hx, hd with
  | 0, hx, hd => cases hx; cases hd; exact at_strs h2 (by omega)
  | 1, hx, hd => cases hx; cases hd; exact .tup h3 (by rw [hel, dats_len]) (by omega) fun k x d hx hd => at_rows h4 ev hz (by omega) k x d hx hd
  | 2, hx, hd => cases hx; cases hd; exact .str _ _
  | j + 3, hx, hd => cases hx
def sp_told (K : PySem.W.Frag) (C R : Addr) (d : Nat) : Sp := fun vs H Q _ => ∃ (N : Addr → Prop) (p : Addr) (ws : List V) (f : RF), vs = [.ref p] ∧ SqT K H p ws ∧ ForAt K C R N H f ws ∧ f.dep ≤ d ∧ f.size ≤ 900 ∧
  ∀ H' p' us, Same H H' → SqT K H' p' us → RowsAt K H' f us → Q (.ref p') H'
theorem ok_told {d : Nat} {f : Addr} {fd : FuncData} (F : Fun K "_law_told" "_law_told" s__law_told f fd) (B : Blt mg) (kR : RuleX P w K mg base R) (kK : CondG P w K mg base C)
    (c__law_told : Cal P w K mg base CX0 (d + 3) "_law_told" ["_law_rules"] (Below (sp_told K C R) d)) :
    FnOk P w K mg base CX0 (d + 4) f fd ["_law_rules"] (sp_told K C R d) := by
  refine F.ok sc__law_told (fun vs H Q E h => by obtain ⟨N, p, ws, f, rfl, _⟩ := h; rfl) (fun cdv A outer s H vs Q E hr h => ?_)
  obtain ⟨N, p, ws, f, rfl, hP, hF, hd, hz, q⟩ := h
  refine ⟨_, (pss_cons (ps_set (i := 1) sc__law_told.nd rfl (Or.inl rfl) (pe_lst pa_nil))
      (pss_cons (ps_for PassesOwn.never rfl (pi_tup (pv 0)) (pg_name (i := 2) sc__law_told.nd rfl (Or.inl rfl)) (pss_cons (ps_set (i := 3) sc__law_told.nd rfl (Or.inl rfl) (pe_cprop kR.condition kR.cls (hr.mono (by omega)) (pv 2)))
      (pss_one (ps_expr (pe_bm PySem.F.plainAttrs_list PySem.F.slot_list_append PySem.F.type_list_append mt_append (pv 1) (pa_cons (pe_tup (pa_cons (pe_cprop kR.name kR.cls (hr.mono (by omega)) (pv 2)) (pa_cons (pe_cprop kK.holding kK.cls (hr.mono (by omega)) (pv 3)) (pa_cons (pe_cprop kK.failing kK.cls (hr.mono (by omega)) (pv 3)) (pa_cons (pe_cprop kR.ruling kR.cls (hr.mono (by omega)) (pv 2)) (pa_cons (pe_cal c__law_told hr (pa_cons (pe_cprop kR.exceptions kR.cls (hr.mono (by omega)) (pv 2)) pa_nil)) pa_nil)))))) pa_nil))))))
      (pss_one (ps_ret (pe_callTy call_tuple_of (by rfl) B.b_tuple PyProof.Rows.boot_tuple (pa_cons (pv 1) pa_nil)))))), ?_⟩
  have hA := hF.all
  have hln := hA.len
  have hlz := RF.nodes_le f
  refine ⟨Nat.zero_le _, fun D nD => ?_⟩
  have s0 : Same H (upd H D (.lst [])) := (Same.refl H).put nD
  have e0 : (upd H D (.lst [])) D = some (.lst []) := upd_same
  generalize upd H D (.lst []) = H0 at s0 e0 ⊢
  refine ⟨_, rfl, p, rfl, ⟨_, s0.tup hP⟩, for_it walk_tup (fun i σ H' => ∃ (rs : List V) (y2 y3 : Option V), σ = [some (.ref p), some (.ref D), y2, y3] ∧ Same H H' ∧ H' D = some (.lst rs) ∧ All2 (RowAt K H') rs (f.nodes.take i))
    ⟨[], none, none, rfl, s0, e0, .nil⟩ (fun _ _ _ _ ⟨_, _, _, _, s, _⟩ => s.tup hP) ?_ ?_⟩
  · rintro i y σ H4 H3 hi ⟨rs, y2, y3, rfl, s, e, hrs⟩ ⟨rfl, hy⟩
    obtain ⟨n, hn, o, rfl, hN⟩ := hA.get hy
    have hmem : n ∈ f.nodes := List.mem_of_getElem? hn
    have hdm := RF.dep_mem _ n hmem
    have hsm := RF.size_mem _ n hmem
    obtain ⟨d, rfl⟩ : ∃ d', d = d' + 1 := ⟨d - 1, by omega⟩
    have hrl := hrs.len
    rw [List.length_take] at hrl
    obtain ⟨dx', c', pe', l', ws', ho', hc', hpe', hle', hfe'⟩ := hN.keeps (N := N) s.keeps
    obtain ⟨dxc, ca, cb, cn, zs, hcc, hca, hcb, _⟩ := hc'.at_
    refine ⟨_, rfl, o, dx', _, rfl, ho', o, dx', _, _, rfl, ho', rfl, ?_⟩
    refine ⟨_, rfl, .inl ⟨rfl, _, sqL_of e⟩, _, rfl, o, dx', _, rfl, ho', o, dx', _, _, rfl, ho', rfl, _, rfl, c', dxc, _, rfl, hcc, c', dxc, _, _, rfl, hcc, rfl, _, rfl, c', dxc, _, rfl, hcc, c', dxc, _, _, rfl, hcc, rfl, _, rfl, o, dx', _, rfl, ho', o, dx', _, _, rfl, ho', rfl, _, rfl, o, dx', _, rfl, ho', o, dx', _, _, rfl, ho', rfl, N, pe', ws', n.exc, rfl, hpe', hfe', by omega, by omega, fun H5 p5 us5 s5 hp5 hr5 => ?_⟩
    refine ⟨(by show 5 ≤ sizeLine; decide), fun t nt => ?_⟩
    have s6 : Same H5 (upd H5 t (.tup [.str n.nm, .ref ca, .ref cb, .str n.rl, .ref p5])) := (Same.refl H5).put nt
    have e6 : (upd H5 t (.tup [.str n.nm, .ref ca, .ref cb, .str n.rl, .ref p5])) t = some (.tup [.str n.nm, .ref ca, .ref cb, .str n.rl, .ref p5]) := upd_same
    generalize upd H5 t (.tup [.str n.nm, .ref ca, .ref cb, .str n.rl, .ref p5]) = H6 at s6 e6 ⊢
    have s36 := s5.trans s6
    have eD := s36 _ _ e
    refine ⟨D, _, _, rfl, rfl, eD, small1000 (by omega), ?_⟩
    have kk : Keeps NoL H6 (upd H6 D (.lst (rs ++ [.ref t]))) := keeps_own eD id
    have hrow : RowAt K H6 (.ref t) n := ⟨t, ca, cb, p5, us5, rfl, sqT_of e6, s36.tup hca, s36.tup hcb, s6.tup hp5, hr5.keeps (N := NoL) s6.keeps⟩
    refine ⟨rs ++ [.ref t], _, _, rfl, (s.trans s36).put nD, upd_same, ?_⟩
    rw [take_more hn]
    exact (hrs.mono fun _ _ x => (x.keeps (N := NoL) s36.keeps).keeps kk).snoc (hrow.keeps kk)
  · rintro σ H3 ⟨rs, y2, y3, rfl, s, e, hrs⟩
    rw [hln, List.take_length] at hrs
    refine ⟨_, rfl, D, _, rfl, .inl ⟨sqL_of e, fun t nt => ?_⟩⟩
    have s4 : Same H3 (upd H3 t (.tup rs)) := (Same.refl H3).put nt
    exact q _ t rs (s.trans s4) sqT_new (RowsAt.of (hrs.mono fun _ _ x => x.keeps (N := NoL) s4.keeps))
def sp_seen (K : PySem.W.Frag) (C R B : Addr) : Sp := fun vs H Q _ => ∃ (N : Addr → Prop) (o : Addr) (xs : List Str) (f : RF) (rl : Str), vs = [.ref o] ∧ BookAt K C R B N H o xs f rl ∧ f.dep ≤ 12 ∧ f.size ≤ 900 ∧ ∀ H' p, Same H H' → SeenAt K H' p xs f rl → Q (.ref p) H'
theorem ok_seen {f : Addr} {fd : FuncData} (F : Fun K "_law_seen" "_law_seen" s__law_seen f fd) (Bl : Blt mg) (kB : BookX P w K mg base B) (c__law_told : Cal P w K mg base CX0 16 "_law_told" ["_law_rules"] (sp_told K C R 12)) :
    FnOk P w K mg base CX0 17 f fd ["_law_book_here"] (sp_seen K C R B) := by
  refine F.ok sc__law_seen (fun vs H Q E h => by obtain ⟨N, o, xs, f, rl, rfl, _⟩ := h; rfl) (fun cdv A outer s H vs Q E hr h => ?_)
  obtain ⟨N, o, xs, f, rl, rfl, ⟨dx, a, p, l, ws, us, ho, hS, hP, hF, _⟩, hd, hz, q⟩ := h
  refine ⟨_, (pss_one (ps_ret (pe_tup (pa_cons (pe_cprop kB.facts kB.cls (hr.mono (by decide)) (pv 0)) (pa_cons (pe_cal c__law_told (hr.mono (by decide)) (pa_cons (pe_cprop kB.rules kB.cls (hr.mono (by decide)) (pv 0)) pa_nil)) (pa_cons (pe_cprop kB.ruling kB.cls (hr.mono (by decide)) (pv 0)) pa_nil)))))), ?_⟩
  refine ⟨_, rfl, o, dx, _, rfl, ho, o, dx, _, _, rfl, ho, rfl, _, rfl, o, dx, _, rfl, ho, o, dx, _, _, rfl, ho, rfl, N, p, ws, f, rfl, hP, hF, hd, hz, fun H5 p5 us5 s5 hp5 hr5 => ?_⟩
  have ho5 := s5 _ _ ho
  refine ⟨_, rfl, o, dx, _, rfl, ho5, o, dx, _, _, rfl, ho5, rfl, (by show 3 ≤ sizeLine; decide), fun t nt => ?_⟩
  have s6 : Same H5 (upd H5 t (.tup [.ref a, .ref p5, .str rl])) := (Same.refl H5).put nt
  exact q _ t (s5.trans s6) ⟨a, p5, us5, sqT_new, (s5.trans s6).tup hS, s6.tup hp5, hr5.keeps (N := NoL) s6.keeps⟩
def sp_factsF : Sp := fun vs H Q _ => ∃ (a l : Addr) (m : Nat), vs = [.ref a, .int (m : Nat)] ∧ RS H a l ∧ 1 ≤ m ∧ m ≤ 10 ∧ ∀ H' p fs, Kp a l H H' → FacT H' p fs → H p = none → List.Sublist fs ten → 1 ≤ fs.length → fs.length ≤ m → Q (.ref p) H'
theorem ok_factsF {f : Addr} {fd : FuncData} (F : Fun K "_law_facts" "_law_facts" s__law_facts f fd) (B : Blt mg) (c__law_next : Cal P w K mg base CX0 1 "_law_next" ["_law_h", "_law_limit"] sp_next) : FnOk P w K mg base CX0 2 f fd ["_law_h", "_law_most"] sp_factsF := by
  refine F.ok sc__law_facts (fun vs H Q E h => by obtain ⟨a, l, c, rfl, _⟩ := h; rfl) (fun cdv A outer s H vs Q E hr h => ?_)
  obtain ⟨a, l, c, rfl, hR, c0, c1, q⟩ := h
  refine ⟨_, (pss_cons (ps_set (i := 2) sc__law_facts.nd rfl (Or.inl rfl) (pe_lst (pa_cons pe_str (pa_cons pe_str (pa_cons pe_str (pa_cons pe_str (pa_cons pe_str (pa_cons pe_str (pa_cons pe_str (pa_cons pe_str (pa_cons pe_str (pa_cons pe_str pa_nil))))))))))))
      (pss_cons (ps_set (i := 3) sc__law_facts.nd rfl (Or.inl rfl) (pe_op op_add pe_int (pe_cal c__law_next (hr.mono (by decide)) (pa_cons (pv 0) (pa_cons (pv 1) pa_nil)))))
      (pss_cons (ps_while PassesOwn.never (pt_cmpR op_gt (pe_callB call_len_seq (by rfl) B.b_len PySem.boot_len (pa_cons (pv 2) pa_nil)) (pv 3) (nomark _)) (pss_one (ps_expr (pe_bm PySem.F.plainAttrs_list PySem.F.slot_list_pop PySem.F.type_list_pop mt_popAt (pv 2) (pa_cons (pe_cal c__law_next (hr.mono (by decide)) (pa_cons (pv 0) (pa_cons (pe_callB call_len_seq (by rfl) B.b_len PySem.boot_len (pa_cons (pv 2) pa_nil)) pa_nil))) pa_nil)))))
      (pss_one (ps_ret (pe_callTy call_tupF (by rfl) B.b_tuple PyProof.Rows.boot_tuple (pa_cons (pv 2) pa_nil))))))), ?_⟩
  refine ⟨(by show 10 ≤ sizeLine; decide), fun p np => ?_⟩
  obtain ⟨npa, npl⟩ := hR.no np
  have k0 := (Kp.refl hR).put (o := .lst (ten.map V.str)) np
  have e0 : (upd H p (.lst (ten.map V.str))) p = some (.lst (ten.map V.str)) := upd_same
  refine ⟨_, rfl, _, rfl, a, l, _, rfl, k0.new, by omega, small_lim (by omega) (by omega), fun H1 r k1 r0 r1 => ⟨1, r, rfl, rfl, ?_⟩⟩
  obtain ⟨m, rfl⟩ := Int.eq_ofNat_of_zero_le r0
  refine ⟨fun k σ H' => ∃ zs : List Str, k = zs.length ∧ σ = [some (.ref a), some (.int (c : Nat)), some (.ref p), some (.int (1 + (m : Nat)))] ∧ Kp a l H H' ∧ H' p = some (.lst (zs.map V.str)) ∧ List.Sublist zs ten ∧ m + 1 ≤ zs.length,
    ⟨_, ten, rfl, rfl, k0.trans k1, k1.keep p _ npa npl e0, List.Sublist.refl _, (by show m + 1 ≤ 10; omega)⟩, ?_⟩
  rintro k σ H1 ⟨zs, rfl, rfl, k1, e1, sb, hc⟩
  have hz : zs.length ≤ 10 := sb.length_le
  refine ⟨.ref p, rfl, p, _, rfl, .inl (sqL_of e1), _, rfl, _, _, rfl, rfl, _, rfl, bcase (fun t1 => ?_) (fun t1 => ?_)⟩
  · have t1 : 1 + (m : Int) < ((zs.map V.str).length : Int) := of_decide_eq_true t1
    rw [List.length_map] at t1
    refine ⟨fun σ' H' => ∃ zs' : List Str, zs'.length < zs.length ∧ (σ' = [some (.ref a), some (.int (c : Nat)), some (.ref p), some (.int (1 + (m : Nat)))] ∧ Kp a l H H' ∧ H' p = some (.lst (zs'.map V.str)) ∧ List.Sublist zs' ten ∧ m + 1 ≤ zs'.length),
      fun σ' H' ⟨zs', lt, x⟩ => ⟨_, lt, zs', rfl, x⟩, ?_⟩
    refine ⟨.ref p, rfl, .inl ⟨rfl, _, sqL_of e1⟩, .ref a, rfl, .ref p, rfl, p, _, rfl, .inl (sqL_of e1), a, l, _, rfl, k1.new, by rw [List.length_map]; omega, ?_, fun H2 r k2 r0 r1 => ?_⟩
    · rw [List.length_map]
      exact Nat.lt_of_le_of_lt (Nat.log2_le_self _) (by show zs.length < 9000; omega)
    · have e2 : H2 p = some (.lst (zs.map V.str)) := k2.keep p _ npa npl e1
      rw [List.length_map] at r1
      obtain ⟨j, rfl⟩ := Int.eq_ofNat_of_zero_le r0
      have hj : j < zs.length := by omega
      have hj' : j < (zs.map V.str).length := by rw [List.length_map]; exact hj
      refine ⟨p, _, _, j, _, rfl, rfl, e2, by omega, by omega, (ixN_seq (ixN_of hj')).1, List.getElem?_eq_getElem hj', zs.eraseIdx j, ?_, rfl, (k1.trans k2).put0 np, ?_, (List.eraseIdx_sublist zs j).trans sb, ?_⟩
      · rw [List.length_eraseIdx_of_lt hj]
        omega
      · rw [upd_same, map_eraseIdx]
      · rw [List.length_eraseIdx_of_lt hj]
        omega
  · have t1 : ¬ 1 + (m : Int) < ((zs.map V.str).length : Int) := of_decide_eq_false t1
    rw [List.length_map] at t1
    refine ⟨.ref p, rfl, p, _, rfl, sqL_of e1, by rw [sizeLine_eq, List.length_map]; omega, fun t ob nt oc od => q _ t zs (k1.put nt) ⟨ob, upd_same, oc, od⟩ (k1.free nt) sb (by omega) (by omega)⟩
def sp_bookF (K : PySem.W.Frag) (C R B : Addr) : Sp := fun vs H Q _ => ∃ (N : Addr → Prop) (p fp pr : Addr) (xs : List Str) (last : Str) (ws : List V) (f : RF), vs = [.ref p] ∧ SqT K H p [.ref fp, .ref pr, .str last] ∧ SqT K H fp (xs.map V.str) ∧ Txts xs ∧ xs.length ≤ 1000 ∧ SqT K H pr ws ∧ RowsAt K H f ws ∧ (∀ l, H l = none → N l) ∧ f.every NdOk ∧ f.dep ≤ 12 ∧ f.size ≤ 900 ∧
  firstBad xs = none ∧ firstFault xs (f.pre 0) [] 0 0 = none ∧ isName last = true ∧ ∀ H' o, Same H H' → BookFp K C R B N H' o fp f last → Q (.ref o) H'
theorem ok_bookF {f : Addr} {fd : FuncData} (F : Fun K "_law_book" "_law_book" s__law_book f fd) (Bl : Blt mg) (k_Book : Mkr P w K mg base 17 "Book" B ["self", "facts", "rules", "ruling"] (sp_book_init K C R B CF_ CB))
    (c__law_made : Cal P w K mg base CX0 30 "_law_made" ["_law_rules"] (sp_made K C R 12)) :
    FnOk P w K mg base CX0 31 f fd ["_law_drawn_here"] (sp_bookF K C R B) := by
  refine F.ok sc__law_book (fun vs H Q E h => by obtain ⟨N, p, fp, pr, xs, last, ws, f, rfl, _⟩ := h; rfl) (fun cdv A outer s H vs Q E hr h => ?_)
  obtain ⟨N, p, fp, pr, xs, last, ws, f, rfl, hO, hS, tS, lS, hP, hX, hN, hev, hd, hz, hb, hff, hlast, q⟩ := h
  refine ⟨_, (pss_one (ps_ret (pe_mkN k_Book (hr.mono (by decide)) (pa_cons (pe_ix ix_tup (pv 0) pe_int (fun _ _ => rfl)) (pa_cons (pe_cal c__law_made (hr.mono (by decide)) (pa_cons (pe_ix ix_tup (pv 0) pe_int (fun _ _ => rfl)) pa_nil)) (pa_cons (pe_ix ix_tup (pv 0) pe_int (fun _ _ => rfl)) pa_nil)))))), ?_⟩
  refine ⟨_, rfl, p, _, 0, _, rfl, rfl, hO, atI_nat (j := 0) rfl, _, rfl, p, _, 1, _, rfl, rfl, hO, atI_nat (j := 1) rfl, N, pr, ws, f, rfl, hP, hX, hN, hd, by decide, hz, hev, fun H4 t us s4 ht hF => ?_⟩
  refine ⟨_, rfl, p, _, 2, _, rfl, rfl, s4.tup hO, atI_nat (j := 2) rfl, fun x dx nx ndx nex => ?_⟩
  have s5 : Same H4 (upd (upd H4 dx (.own x)) x (.ins B dx [])) := ((Same.refl H4).put ndx).put nx
  have s05 := s4.trans s5
  have ll := name_len hlast
  refine ⟨N, x, dx, fp, t, xs, last, us, f, rfl, upd_same, s05.tup hS, tS, lS, s5.tup ht, hF.keeps s5.keeps, hd, hz, fit_of hev, by omega, (fun i ei => by rw [hb] at ei; cases ei), fun _ => ⟨(fun wd i ei => by rw [hff] at ei; cases ei), fun _ => ⟨(fun z => by rw [hlast] at z; cases z), fun _ H6 l us2 sX6 hx6 nelx nl el hus => ⟨rfl, ?_⟩⟩⟩⟩
  have s6 : Same H4 H6 := fun b' o' h => sX6 b' o' (fun e => by rw [e, nx] at h; cases h) (s5 _ _ h)
  have s06 := s4.trans s6
  exact q H6 x s06 ⟨dx, t, l, us, us2, hx6, s6.tup ht, hF.keeps s6.keeps, ⟨hN l (s4.free (s5.free nl)), el⟩, hus⟩
end
end Sc
namespace Sc
open PySem PySem.Spec PyProof.Rows L2
abbrev s_law : Stmt := topS 66
theorem sc_law : FnScope ["_law_script", "_law_h", "_law_k", "_law_drawn_here", "_law_values", "_law_found"] ["_law_script"] (defScope s_law) := ⟨rfl, rfl, rfl, by decide +kernel, rfl, by decide +kernel, by decide +kernel⟩
theorem no_fault {xs : List Str} : ∀ {ps : List (Nd × Nat)} {met : List Str} {out i : Nat}, (∀ q ∈ ps, (∀ x ∈ q.1.hs, x ∈ xs) ∧ ∀ x ∈ q.1.fs, x ∈ xs) → (∀ q ∈ ps, q.2 ≤ 5) → (met ++ ps.map fun q => q.1.nm).Nodup → i + ps.length ≤ 60 → out + ps.length ≤ 40 → firstFault xs ps met out i = none
  | [], _, _, _, _, _, _, _, _ => rfl
  | (n, k) :: r, met, out, i, h1, h2, h3, h4, h5 => by
    have hs := h1 _ List.mem_cons_self
    have hk : k ≤ 5 := h2 _ List.mem_cons_self
    rw [List.length_cons] at h4 h5
    have hon : outNext out k ≤ out + 1 := by unfold outNext; split <;> omega
    have hm : ¬ n.nm ∈ met := fun z => (List.nodup_append.mp h3).2.2 _ z _ List.mem_cons_self rfl
    have f0 : faultAt xs met (outNext out k) i n k = none := by
      unfold faultAt
      rw [if_neg hm, if_neg, if_neg (by omega), if_neg (by omega)]
      rw [Bool.not_eq_true, List.any_eq_false]
      intro x hx
      have hx := (srt_perm _).mem_iff.mp hx
      rw [decide_eq_true (show x ∈ xs from (List.mem_append.mp hx).elim (hs.1 x) (hs.2 x))]
      decide
    unfold firstFault
    rw [f0]
    refine no_fault (fun q hq => h1 q (List.mem_cons_of_mem _ hq)) (fun q hq => h2 q (List.mem_cons_of_mem _ hq)) ?_ (by omega) (by omega)
    rw [List.append_assoc]
    exact h3
theorem names12_len {f : RF} {k : Nat} {ns : List Str} (e : f.names ++ ns = names12.drop k) : f.size ≤ 12 := by
  have h1 := congrArg List.length e
  rw [List.length_append, List.length_drop] at h1
  have h2 : names12.length = 12 := rfl
  have h3 : f.names.length = f.size := by rw [← RF.pre_names f 0, List.length_map, RF.pre_len]
  omega
theorem pre_dep : ∀ (f : RF) (k : Nat), ∀ q ∈ f.pre k, q.2 + 1 ≤ k + f.dep
  | .nil, _, q, h => nomatch h
  | .cons n hs fs rl exc rest, k, q, h => by
    show q.2 + 1 ≤ k + max (exc.dep + 1) rest.dep
    rcases List.mem_cons.mp h with rfl | h
    · show k + 1 ≤ _
      omega
    · rcases List.mem_append.mp h with h | h
      · have := pre_dep exc (k + 1) q h
        omega
      · have := pre_dep rest k q h
        omega
/-- all but the draws' own lists -/
abbrev NotDraw (a l : Addr) : Addr → Prop := fun b => b ≠ a ∧ b ≠ l
theorem at_ints {K : PySem.W.Frag} {H : Hp} {a : Addr} {n : Nat} {l : List Int} (h : H a = some (.lst (l.map V.int))) (hl : l.length ≤ 1000000) : AT K H (n + 1) (.ref a) (.list (l.map PyData.int)) := by
  refine .lst h (by rw [List.length_map, List.length_map]) (by rw [List.length_map]; exact hl) fun i x d hx hd => ?_
  rw [List.getElem?_map] at hx hd
  cases e : l[i]? with
  | none => rw [e] at hx; cases hx
  | some z => rw [e] at hx hd; cases hx; cases hd; exact .int _ _
theorem AT.up {K : PySem.W.Frag} {H : Hp} {n m : Nat} {x : V} {d : PyData} (h : AT K H n x d) (le : n ≤ m) : AT K H m x d := by
  induction h generalizing m with
  | int n i => exact .int m i
  | str n x => exact .str m x
  | lst e l z all ih =>
    obtain ⟨m, rfl⟩ : ∃ m', m = m' + 1 := ⟨m - 1, by omega⟩
    exact .lst e l z fun i x d hx hd => ih i x d hx hd (by omega)
  | tup e l z all ih =>
    obtain ⟨m, rfl⟩ : ∃ m', m = m' + 1 := ⟨m - 1, by omega⟩
    exact .tup e l z fun i x d hx hd => ih i x d hx hd (by omega)
theorem at_seen' {K : PySem.W.Frag} {H : Hp} {p : Addr} {xs : List Str} {f : RF} {rl : Str} (h : SeenAt K H p xs f rl) (l : xs.length ≤ 60) (ev : f.every NdOk) (hz : f.size ≤ 900) (hd : f.dep ≤ 8) : AT K H 29 (.ref p) (.tuple [.tuple (xs.map PyData.str), .tuple f.dats, .str rl]) := by
  obtain ⟨fp, pr, ws, h1, h2, h3, h4⟩ := h
  have hel := h4.len
  have hez := RF.nodes_le f
  refine .tup h1 rfl (by show 3 ≤ 1000000; decide) fun j x d hx hd => ?_
  match j, hx, hd with
  | 0, hx, hd => cases hx; cases hd; exact at_strs h2 (by omega)
  | 1, hx, hd => cases hx; cases hd; exact .tup h3 (by rw [hel, dats_len]) (by omega) fun k x d hx hd => at_rows h4 ev hz (by omega) k x d hx hd
  | 2, hx, hd => cases hx; cases hd; exact .str _ _
  | j + 3, hx, hd => cases hx
section
variable {P : Program} {w : World} {K : PySem.W.Frag} {mg : Str → Option Value} {base : Heap} {C R B0 : Addr}
def sp_law (K : PySem.W.Frag) : Sp := fun vs H Q _ => ∃ (s : Addr) (ns : List Int), vs = [.ref s] ∧ SqL K H s (ns.map V.int) ∧ ns.length ≤ 63 ∧ (∀ z ∈ ns, Builtin.Int.intBits z ≤ 1048576) ∧ ∀ H', Q (.bl true) H'
theorem ok_law {f : Addr} {fd : FuncData} (F : Fun K "law" "law" s_law f fd) (B : Blt mg) (mB : mg "Book" = some (.ref B0)) (ICb : IsiC K B0) (CLb : Cls K B0)
    (c__law_mix : Cal P w K mg base CX0 1 "_law_mix" ["_law_script", "_law_seed"] (sp_mix K)) (c__law_next : Cal P w K mg base CX0 1 "_law_next" ["_law_h", "_law_limit"] sp_next)
    (c__law_facts : Cal P w K mg base CX0 2 "_law_facts" ["_law_h", "_law_most"] sp_factsF) (c__law_drawn : Cal P w K mg base CX0 6 "_law_drawn" ["_law_h", "_law_facts_here", "_law_most"] (sp_drawn K))
    (c__law_code : Cal P w K mg base CX0 15 "_law_code" ["_law_drawn_here"] (sp_lcode K)) (c__law_checked : Cal P w K mg base CX0 1 "_law_checked" ["_law_values"] sp_chk) (c__law_book : Cal P w K mg base CX0 31 "_law_book" ["_law_drawn_here"] (sp_bookF K C R B0))
    (c_encode_book : Cal P w K mg base CX0 17 "encode_book" ["book"] (sp_encode K C R B0)) (c_decode_book : Cal P w K mg base CX0 31 "decode_book" ["values"] (sp_decode K C R B0)) (c__law_seen : Cal P w K mg base CX0 17 "_law_seen" ["_law_book_here"] (sp_seen K C R B0))
    (c__law_alike : Cal P w K mg base CX0 30 "_law_alike" ["_law_found", "_law_due"] (sp_alikeT K 29)) : FnOk P w K mg base CX0 32 f fd ["_law_script"] (sp_law K) := by
  refine F.ok sc_law (fun vs H Q E h => by obtain ⟨s, ns, rfl, _⟩ := h; rfl) (fun cdv A outer s H vs Q E hr h => ?_)
  obtain ⟨s, ns, rfl, hS, hl, hb, q⟩ := h
  refine ⟨_, (pss_cons (ps_set (i := 1) sc_law.nd rfl (Or.inl rfl) (pe_cal c__law_mix (hr.mono (by decide)) (pa_cons (pv 0) (pa_cons pe_int pa_nil))))
      (pss_cons (ps_for PassesOwn.never rfl (pi_range1 (by rfl) B.b_range (pa_cons pe_int pa_nil)) (pg_name (i := 2) sc_law.nd rfl (Or.inl rfl)) (pss_cons (ps_set (i := 3) sc_law.nd rfl (Or.inl rfl) (pe_cal c__law_drawn (hr.mono (by decide)) (pa_cons (pv 1) (pa_cons (pe_cal c__law_facts (hr.mono (by decide)) (pa_cons (pv 1) (pa_cons pe_int pa_nil))) (pa_cons pe_int pa_nil)))))
      (pss_cons (ps_set (i := 4) sc_law.nd rfl (Or.inl rfl) (pe_cal c__law_code (hr.mono (by decide)) (pa_cons (pv 3) pa_nil)))
      (pss_cons (ps_set (i := 4) sc_law.nd rfl (Or.inl rfl) (pe_op op_cat (pv 4) (pe_lst (pa_cons (pe_cal c__law_checked (hr.mono (by decide)) (pa_cons (pv 4) pa_nil)) pa_nil))))
      (pss_cons (ps_if (pt_not (pt_val (pe_cal c__law_alike (hr.mono (by decide)) (pa_cons (pe_cal c_encode_book (hr.mono (by decide)) (pa_cons (pe_cal c__law_book (hr.mono (by decide)) (pa_cons (pv 3) pa_nil)) pa_nil)) (pa_cons (pv 4) pa_nil))))) (pss_one (ps_ret pe_bl)) pss_nil)
      (pss_cons (ps_set (i := 5) sc_law.nd rfl (Or.inl rfl) (pe_cal c_decode_book (hr.mono (by decide)) (pa_cons (pv 4) pa_nil)))
      (pss_one (ps_if (PW.pt (pw_or (pt_not (pt_val (pe_callB call_isi (by rfl) B.b_isinstance PyProof.Rows.boot_isinstance (pa_cons (pv 5) (pa_cons (pe_glob (v := .ref _) rfl mB rfl) pa_nil))))) (pw_or1 (pt_not (pt_val (pe_cal c__law_alike (hr.mono (by decide)) (pa_cons (pe_cal c__law_seen (hr.mono (by decide)) (pa_cons (pv 5) pa_nil)) (pa_cons (pv 3) pa_nil)))))))) (pss_one (ps_ret pe_bl)) pss_nil))))))))
      (pss_one (ps_ret pe_bl)))), ?_⟩
  refine ⟨.ref s, rfl, s, ns, 63, rfl, hS, hl, hb, by decide, by decide, fun H1 a l s1 R1 => ?_⟩
  refine ⟨6, rfl, by decide, by decide, for_it walk_range (fun i σ H' => ∃ (y0 y2 y3 y4 y5 : Option V), σ = [y0, some (.ref a), y2, y3, y4, y5] ∧ RS H' a l)
      ⟨_, _, _, _, _, rfl, R1⟩ (fun _ _ _ _ _ => trivial) ?_ ?_⟩
  · rintro i x σ H2 H3 hi ⟨y0, y2, y3, y4, y5, rfl, RR⟩ ⟨rfl, hy⟩
    refine ⟨_, rfl, _, rfl, a, l, 10, rfl, RR, by decide, by decide, fun H4 fp fs k4 efp nfp sub f1 f2 => ?_⟩
    have hright : Right fs := ten_right.sub sub
    refine ⟨a, l, fp, fs, 5, rfl, k4.new, efp.tup, hright, by omega, by decide, fun H5 p f rl k5 dr hn3 => ?_⟩
    obtain ⟨pr, ws, ep, hP, hX⟩ := dr.at_
    have hS5 : FacT H5 fp fs := efp.keeps (N := NoL) k5.keepsN
    have hnames := dr.nm
    have hsz : f.size ≤ 12 := by obtain ⟨k, ns, e⟩ := hnames; exact names12_len e
    have hdp := dr.dp
    have hfs0 : fs ≠ [] := fun z => by rw [z] at f1; exact absurd f1 (by decide)
    have hnod : f.names.Nodup := by
      obtain ⟨k, ns', e⟩ := hnames
      have h1 : (f.names ++ ns').Nodup := by rw [e]; exact names12_nodup.sublist (List.drop_sublist _ _)
      exact (List.nodup_append.mp h1).1
    have hrl := three_name _ dr.rl
    have hev : f.every NdOk := RF.every_mono (fun n h => h.ok) dr.ev
    have hcf : f.every (CF fs) := RF.every_mono (fun n h => ⟨h.ok, h.s1, h.s2⟩) dr.ev
    have hff : firstFault fs (f.pre 0) [] 0 0 = none := by
      refine no_fault (fun q hq => ?_) (fun q hq => ?_) (by rw [List.nil_append, RF.pre_names]; exact hnod) (by rw [RF.pre_len]; omega) (by rw [RF.pre_len]; omega)
      · have h := RF.every_pre dr.ev q hq
        exact ⟨h.s1, h.s2⟩
      · have := pre_dep f 0 q hq
        omega
    have R5 := k5.new
    have hbad := hright.bad hfs0 (by omega)
    have hbl := bookC_len (rl := rl) hright.nm hev hrl
    clear k4 k5 efp dr hnames
    refine ⟨_, rfl, p, fp, pr, fs, ws, f, rl, rfl, sqT_of ep, hS5, hP, hX, hright.nm, by omega, by omega, by omega, hcf, hrl, fun H6 D6 s6 e6 => ?_⟩
    refine ⟨_, rfl, _, rfl, D6, _, rfl, e6, fun H7 s7 => ⟨(by show 1 ≤ sizeLine; decide), fun D7 n7 => ?_⟩⟩
    have s8 : Same H7 (upd H7 D7 (.lst [.int (chk (bookC fs f rl))])) := (Same.refl H7).put n7
    refine catL (ys := [.int (chk (bookC fs f rl))]) (s8 _ _ (s7 _ _ e6)) upd_same (by rw [sizeLine_eq, List.length_map]; show _ + 1 ≤ _; omega) fun D9 H9 s9 n9 e9 => ?_
    have e9 : H9 D9 = some (.lst ((bookC fs f rl ++ [chk (bookC fs f rl)]).map V.int)) := by rw [e9, List.map_append]; rfl
    have s59 := s6.trans (s7.trans (s8.trans s9))
    have hll : (bookC fs f rl ++ [chk (bookC fs f rl)]).length ≤ 1000000 := by rw [List.length_append]; show _ + 1 ≤ _; omega
    refine ⟨_, rfl, (fun _ => True), p, fp, pr, fs, rl, ws, f, rfl, s59.tup (sqT_of ep), (hS5.same s59).tup, hright.fines.txts, by omega, s59.tup hP, hX.keeps (N := NoL) s59.keeps, (fun _ _ => trivial), hev, by omega, by omega, hbad, hff, hrl, fun H10 ob s10 hB10 => ?_⟩
    refine ⟨(fun _ => True), ob, fp, fs, f, rl, rfl, hB10, (hS5.same s59).same s10, hright.nm, by omega, by omega, by omega, hcf, hrl, fun H11 D11 s11 e11 => ?_⟩
    have e9' := s11 _ _ (s10 _ _ e9)
    refine ⟨_, rfl, .ref D11, .ref D9, _, rfl, at_ints e11 hll, at_ints e9' hll, fun H12 s12 => ?_⟩
    refine ⟨_, rfl, iteF ?_⟩
    have e9'' := s12 _ _ e9'
    refine ⟨_, rfl, (fun _ => True), D9, fs, f, rl, rfl, e9'', (fun _ _ => trivial), hright, by omega, by omega, hcf, by omega, by omega, by omega, hnod, hrl, hbad, hff, fun H13 b s13 hB13 => ?_⟩
    obtain ⟨dxb, _, _, _, _, _, hb13, _⟩ := id hB13
    refine ⟨_, rfl, _, _, _, _, true, rfl, .own _, .base (.ins hb13 CLb ICb.ca ICb.cn ICb.ct ICb.cm), ICb.me, _, rfl, iteF ?_⟩
    have s513 := s59.trans (s10.trans (s11.trans (s12.trans s13)))
    refine ⟨_, rfl, (fun _ => True), b, fs, f, rl, rfl, hB13, by omega, by omega, fun H14 p14 s14 hsn => ?_⟩
    have s514 := s513.trans s14
    have hsn0 : SeenAt K H14 p fs f rl := ⟨fp, pr, ws, s514.tup (sqT_of ep), (hS5.same s514).tup, s514.tup hP, hX.keeps (N := NoL) s514.keeps⟩
    refine ⟨_, rfl, .ref p14, .ref p, _, rfl, at_seen' hsn (by omega) hev (by omega) (by omega), at_seen' hsn0 (by omega) hev (by omega) (by omega), fun H15 s15 => ?_⟩
    refine ⟨_, rfl, iteF ⟨_, _, _, _, _, rfl, R5.same (s514.trans s15)⟩⟩
  · rintro H2 σ ⟨y0, y2, y3, y4, y5, rfl, R⟩
    exact q _
end
end Sc
namespace Sc
open PySem PySem.Spec PyProof.Rows L2
theorem four {K : PySem.W.Frag} {D : Value} (h1 : PySem.W.findIn K D "index" = some none) (h2 : PySem.W.findIn K D "part" = some none) (h3 : PySem.W.findIn K D "word" = some none) (h4 : PySem.W.findIn K D "fact" = some none) :
    ∀ n ∈ (["index", "part", "word", "fact"] : List Str), PySem.W.findIn K D n = some none := by
  intro n hn
  simp only [List.mem_cons, List.not_mem_nil, or_false] at hn
  rcases hn with rfl | rfl | rfl | rfl
  · exact h1
  · exact h2
  · exact h3
  · exact h4
theorem exm_by {K : PySem.W.Frag} {D C : Addr} (h1 : PySem.W.subIn K (.ref C) (.type "BaseException") = some true) (h2 : PySem.W.isClsIn K C = true) (h3 : PySem.W.typeIn K (.ref C) = some (.type "type")) (h4 : PySem.W.subIn K (.ref D) (.ref C) = some true) : PySem.W.exmOne K (.ref D) (.ref C) = some true := by
  have e1 : (PySem.W.subIn K (.ref C) (.type "BaseException") == some true) = true := by rw [h1] <;> rfl
  have e2 : ((PySem.W.clsIn K C).isSome && PySem.W.typeIn K (.ref C) == some (.type "type")) = true := by
    have h2' : (PySem.W.clsIn K C).isSome = true := h2
    rw [h2', h3] <;> rfl
  unfold PySem.W.exmOne PySem.W.kitCls
  rw [if_pos e1]
  dsimp only
  rw [if_pos e2]
  exact h4
theorem kit_by {K : PySem.W.Frag} {D C : Addr} {b : Bool} (h1 : PySem.W.subIn K (.ref D) (.ref D) = some true) (h2 : PySem.W.isClsIn K C = true) (h3 : PySem.W.typeIn K (.ref C) = some (.type "type")) (h4 : PySem.W.subIn K (.ref D) (.ref C) = some b) : PySem.W.kitOne K (.ref D) (.ref C) = some b := by
  have e2 : ((PySem.W.clsIn K C).isSome && PySem.W.typeIn K (.ref C) == some (.type "type")) = true := by
    have h2' : (PySem.W.clsIn K C).isSome = true := h2
    rw [h2', h3] <;> rfl
  unfold PySem.W.kitOne
  split
  · rename_i e
    have e := eq_of_beq e
    cases e
    exact h1.symm.trans h4
  · unfold PySem.W.kitCls
    dsimp only
    rw [if_pos e2]
    exact h4
theorem kit_ve {K : PySem.W.Frag} {D : Addr} (h : PySem.W.subIn K (.ref D) (.type "ValueError") = some true) : PySem.W.kitOne K (.ref D) (.type "ValueError") = some true := by
  unfold PySem.W.kitOne PySem.W.kitCls
  rw [if_neg (by intro z; cases eq_of_beq z)]
  dsimp only
  rw [if_pos (by decide +kernel)]
  exact h
theorem codeHd_by {K : PySem.W.Frag} {c T : Addr} {o : Obj} (lk : K.lookup c = some o) (h : PySem.W.codeHdIn [(c, o)] c T = true) : PySem.W.codeHdIn K c T = true := by
  unfold PySem.W.codeHdIn at h ⊢
  rw [lk]
  have e : ([(c, o)] : PySem.W.Frag).lookup c = some o := by simp [List.lookup]
  rw [e] at h
  exact h
theorem lookup_no {K : PySem.W.Frag} {a : Addr} (h : (K.map (·.1)).contains a = false) : K.lookup a = none := by
  induction K with
  | nil => rfl
  | cons p r ih =>
    rw [List.map_cons, List.contains_cons, Bool.or_eq_false_iff] at h
    obtain ⟨x, o⟩ := p
    rw [List.lookup_cons, h.1]
    exact ih h.2
theorem sup_by {K : PySem.W.Frag} {C CE : Addr} {z : Value} {nm q nm2 q2 : Str} {N N2 : Addr} {bs bm su bs2 bm2 su2 : List Value} {sn sn2 : List Str} {ab ab2 : Bool} {col col2 : Option Bool} {dd dd2 : Option Addr} {x0 x1 x2 x3 x5 y0 y1 y2 y3 y5 : Option Value}
    (xC : K.lookup C = some (excClassObj nm q C N bs bm true sn su ab col dd x0 x1 x2 x3 x5 "ValueError.__new__")) (xE : K.lookup CE = some (excClassObj nm2 q2 CE N2 bs2 bm2 true sn2 su2 ab2 col2 dd2 y0 y1 y2 y3 y5 "ValueError.__new__"))
    (e : bm = .ref CE :: bm2) (f : PySem.W.findIn K (.ref CE) "__init__" = some (some z)) : PySem.W.ks_superIn K C C "__init__" = some (some z) := by
  subst e
  unfold PySem.W.ks_superIn PySem.W.clsIn
  unfold PySem.W.findIn at f
  dsimp only at f
  rw [xC]
  rw [xE] at f
  simp only [excClassObj] at f ⊢
  simp
  exact f
/-- a def that calls itself: depth by depth -/
theorem rec_all {P : Program} {w : World} {K : PySem.W.Frag} {mg : Str → Option Value} {base : Heap} {S : Nat → Sp} {k : Nat} {x : Str} {f : Addr} {fd : FuncData} {ps : List Str} (step : ∀ d, Cal P w K mg base CX0 (d + k) x ps (Below S d) → FnOk P w K mg base CX0 (d + k + 1) f fd ps (S d))
    (hm : mg x = some (.ref f)) (kp : PySem.W.keepIn K (.ref f) = true) (b : Binds K fd ps []) : ∀ d, FnOk P w K mg base CX0 (d + k + 1) f fd ps (S d)
  | 0 => step 0 ⟨_, _, FnOk.never, hm, kp, b⟩
  | d + 1 => step (d + 1) ⟨_, _, (by have h := rec_all step hm kp b d; rw [show d + k + 1 = d + 1 + k by omega] at h; exact h), hm, kp, b⟩
theorem alikeT_all {P : Program} {w : World} {K : PySem.W.Frag} {mg : Str → Option Value} {base : Heap} {f : Addr} {fd : FuncData} (F : Fun K "_law_alike" "_law_alike" s__law_alike f fd) (B : Blt mg) (hm : mg "_law_alike" = some (.ref f)) (kp : PySem.W.keepIn K (.ref f) = true) (b : Binds K fd ["_law_found", "_law_due"] []) :
    ∀ n, FnOk P w K mg base CX0 (n + 1) f fd ["_law_found", "_law_due"] (sp_alikeT K n)
  | 0 => ok_alikeT0 F B
  | n + 1 => ok_alikeT F B ⟨_, _, alikeT_all F B hm kp b n, hm, kp, b⟩
theorem all_mk {l : PySem.W.OpenLaw} {P : Program} {w : World} {K : PySem.W.Frag} {h : Heap} {mg : Str → Option Value} {fa : Addr} (eP : l.prog = P) (X : K.In h) (G : h.Ns mainGlobals mg) (hfa : mg "law" = some (.ref fa))
    {f_is_name : Addr} {oc_is_name kV_is_name dc_is_name pm_is_name cd_is_name ct_is_name : Value} {od_is_name an_is_name : Option Addr} {sl_is_name : Array (Option Value)}
    {f_is_integer : Addr} {oc_is_integer kV_is_integer dc_is_integer pm_is_integer cd_is_integer ct_is_integer : Value} {od_is_integer an_is_integer : Option Addr} {sl_is_integer : Array (Option Value)}
    {f_rises : Addr} {oc_rises kV_rises dc_rises pm_rises cd_rises ct_rises : Value} {od_rises an_rises : Option Addr} {sl_rises : Array (Option Value)}
    {f_check_facts : Addr} {oc_check_facts kV_check_facts dc_check_facts pm_check_facts cd_check_facts ct_check_facts : Value} {od_check_facts an_check_facts : Option Addr} {sl_check_facts : Array (Option Value)}
    {f_nested : Addr} {oc_nested kV_nested dc_nested pm_nested cd_nested ct_nested : Value} {od_nested an_nested : Option Addr} {sl_nested : Array (Option Value)}
    {f_check_rules : Addr} {oc_check_rules kV_check_rules dc_check_rules pm_check_rules cd_check_rules ct_check_rules : Value} {od_check_rules an_check_rules : Option Addr} {sl_check_rules : Array (Option Value)}
    {f_check_part : Addr} {oc_check_part kV_check_part dc_check_part pm_check_part cd_check_part ct_check_part : Value} {od_check_part an_check_part : Option Addr} {sl_check_part : Array (Option Value)}
    {f_merged : Addr} {oc_merged kV_merged dc_merged pm_merged cd_merged ct_merged : Value} {od_merged an_merged : Option Addr} {sl_merged : Array (Option Value)}
    {f_numbers_of_name : Addr} {oc_numbers_of_name kV_numbers_of_name dc_numbers_of_name pm_numbers_of_name cd_numbers_of_name ct_numbers_of_name : Value} {od_numbers_of_name an_numbers_of_name : Option Addr} {sl_numbers_of_name : Array (Option Value)}
    {f_numbers_of_rules : Addr} {oc_numbers_of_rules kV_numbers_of_rules dc_numbers_of_rules pm_numbers_of_rules cd_numbers_of_rules ct_numbers_of_rules : Value} {od_numbers_of_rules an_numbers_of_rules : Option Addr} {sl_numbers_of_rules : Array (Option Value)}
    {f_checksum : Addr} {oc_checksum kV_checksum dc_checksum pm_checksum cd_checksum ct_checksum : Value} {od_checksum an_checksum : Option Addr} {sl_checksum : Array (Option Value)}
    {f_encode_book : Addr} {oc_encode_book kV_encode_book dc_encode_book pm_encode_book cd_encode_book ct_encode_book : Value} {od_encode_book an_encode_book : Option Addr} {sl_encode_book : Array (Option Value)}
    {f_decode_book : Addr} {oc_decode_book kV_decode_book dc_decode_book pm_decode_book cd_decode_book ct_decode_book : Value} {od_decode_book an_decode_book : Option Addr} {sl_decode_book : Array (Option Value)}
    {f__law_mix : Addr} {oc__law_mix kV__law_mix dc__law_mix pm__law_mix cd__law_mix ct__law_mix : Value} {od__law_mix an__law_mix : Option Addr} {sl__law_mix : Array (Option Value)}
    {f__law_next : Addr} {oc__law_next kV__law_next dc__law_next pm__law_next cd__law_next ct__law_next : Value} {od__law_next an__law_next : Option Addr} {sl__law_next : Array (Option Value)}
    {f__law_alike : Addr} {oc__law_alike kV__law_alike dc__law_alike pm__law_alike cd__law_alike ct__law_alike : Value} {od__law_alike an__law_alike : Option Addr} {sl__law_alike : Array (Option Value)}
    {f__law_facts : Addr} {oc__law_facts kV__law_facts dc__law_facts pm__law_facts cd__law_facts ct__law_facts : Value} {od__law_facts an__law_facts : Option Addr} {sl__law_facts : Array (Option Value)}
    {f__law_sides : Addr} {oc__law_sides kV__law_sides dc__law_sides pm__law_sides cd__law_sides ct__law_sides : Value} {od__law_sides an__law_sides : Option Addr} {sl__law_sides : Array (Option Value)}
    {f__law_rule : Addr} {oc__law_rule kV__law_rule dc__law_rule pm__law_rule cd__law_rule ct__law_rule : Value} {od__law_rule an__law_rule : Option Addr} {sl__law_rule : Array (Option Value)}
    {f__law_drawn : Addr} {oc__law_drawn kV__law_drawn dc__law_drawn pm__law_drawn cd__law_drawn ct__law_drawn : Value} {od__law_drawn an__law_drawn : Option Addr} {sl__law_drawn : Array (Option Value)}
    {f__law_made : Addr} {oc__law_made kV__law_made dc__law_made pm__law_made cd__law_made ct__law_made : Value} {od__law_made an__law_made : Option Addr} {sl__law_made : Array (Option Value)}
    {f__law_book : Addr} {oc__law_book kV__law_book dc__law_book pm__law_book cd__law_book ct__law_book : Value} {od__law_book an__law_book : Option Addr} {sl__law_book : Array (Option Value)}
    {f__law_told : Addr} {oc__law_told kV__law_told dc__law_told pm__law_told cd__law_told ct__law_told : Value} {od__law_told an__law_told : Option Addr} {sl__law_told : Array (Option Value)}
    {f__law_seen : Addr} {oc__law_seen kV__law_seen dc__law_seen pm__law_seen cd__law_seen ct__law_seen : Value} {od__law_seen an__law_seen : Option Addr} {sl__law_seen : Array (Option Value)}
    {f__law_name_code : Addr} {oc__law_name_code kV__law_name_code dc__law_name_code pm__law_name_code cd__law_name_code ct__law_name_code : Value} {od__law_name_code an__law_name_code : Option Addr} {sl__law_name_code : Array (Option Value)}
    {f__law_rules_code : Addr} {oc__law_rules_code kV__law_rules_code dc__law_rules_code pm__law_rules_code cd__law_rules_code ct__law_rules_code : Value} {od__law_rules_code an__law_rules_code : Option Addr} {sl__law_rules_code : Array (Option Value)}
    {f__law_code : Addr} {oc__law_code kV__law_code dc__law_code pm__law_code cd__law_code ct__law_code : Value} {od__law_code an__law_code : Option Addr} {sl__law_code : Array (Option Value)}
    {f__law_checked : Addr} {oc__law_checked kV__law_checked dc__law_checked pm__law_checked cd__law_checked ct__law_checked : Value} {od__law_checked an__law_checked : Option Addr} {sl__law_checked : Array (Option Value)}
    {f_law : Addr} {oc_law kV_law dc_law pm_law ct_law : Value} {od_law an_law : Option Addr} {sl_law : Array (Option Value)}
    {f_mi : Addr} {oc_mi kV_mi dc_mi pm_mi cd_mi ct_mi : Value} {od_mi an_mi : Option Addr} {sl_mi : Array (Option Value)}
    {f_mh : Addr} {oc_mh kV_mh dc_mh pm_mh cd_mh ct_mh : Value} {od_mh an_mh : Option Addr} {sl_mh : Array (Option Value)}
    {f_mf : Addr} {oc_mf kV_mf dc_mf pm_mf cd_mf ct_mf : Value} {od_mf an_mf : Option Addr} {sl_mf : Array (Option Value)}
    {f_mn : Addr} {oc_mn kV_mn dc_mn pm_mn cd_mn ct_mn : Value} {od_mn an_mn : Option Addr} {sl_mn : Array (Option Value)}
    {f_ri : Addr} {oc_ri kV_ri dc_ri pm_ri cd_ri ct_ri : Value} {od_ri an_ri : Option Addr} {sl_ri : Array (Option Value)}
    {f_rn : Addr} {oc_rn kV_rn dc_rn pm_rn cd_rn ct_rn : Value} {od_rn an_rn : Option Addr} {sl_rn : Array (Option Value)}
    {f_rc : Addr} {oc_rc kV_rc dc_rc pm_rc cd_rc ct_rc : Value} {od_rc an_rc : Option Addr} {sl_rc : Array (Option Value)}
    {f_rr : Addr} {oc_rr kV_rr dc_rr pm_rr cd_rr ct_rr : Value} {od_rr an_rr : Option Addr} {sl_rr : Array (Option Value)}
    {f_re : Addr} {oc_re kV_re dc_re pm_re cd_re ct_re : Value} {od_re an_re : Option Addr} {sl_re : Array (Option Value)}
    {f_rd : Addr} {oc_rd kV_rd dc_rd pm_rd cd_rd ct_rd : Value} {od_rd an_rd : Option Addr} {sl_rd : Array (Option Value)}
    {f_bi : Addr} {oc_bi kV_bi dc_bi pm_bi cd_bi ct_bi : Value} {od_bi an_bi : Option Addr} {sl_bi : Array (Option Value)}
    {f_bf : Addr} {oc_bf kV_bf dc_bf pm_bf cd_bf ct_bf : Value} {od_bf an_bf : Option Addr} {sl_bf : Array (Option Value)}
    {f_bs : Addr} {oc_bs kV_bs dc_bs pm_bs cd_bs ct_bs : Value} {od_bs an_bs : Option Addr} {sl_bs : Array (Option Value)}
    {f_br : Addr} {oc_br kV_br dc_br pm_br cd_br ct_br : Value} {od_br an_br : Option Addr} {sl_br : Array (Option Value)}
    {f_qi : Addr} {oc_qi kV_qi dc_qi pm_qi cd_qi ct_qi : Value} {od_qi an_qi : Option Addr} {sl_qi : Array (Option Value)}
    {f_qt : Addr} {oc_qt kV_qt dc_qt pm_qt cd_qt ct_qt : Value} {od_qt an_qt : Option Addr} {sl_qt : Array (Option Value)}
    {f_qn : Addr} {oc_qn kV_qn dc_qn pm_qn cd_qn ct_qn : Value} {od_qn an_qn : Option Addr} {sl_qn : Array (Option Value)}
    {f_qf : Addr} {oc_qf kV_qf dc_qf pm_qf cd_qf ct_qf : Value} {od_qf an_qf : Option Addr} {sl_qf : Array (Option Value)}
    {f_qs : Addr} {oc_qs kV_qs dc_qs pm_qs cd_qs ct_qs : Value} {od_qs an_qs : Option Addr} {sl_qs : Array (Option Value)}
    {f_qr : Addr} {oc_qr kV_qr dc_qr pm_qr cd_qr ct_qr : Value} {od_qr an_qr : Option Addr} {sl_qr : Array (Option Value)}
    {f_qp : Addr} {oc_qp kV_qp dc_qp pm_qp cd_qp ct_qp : Value} {od_qp an_qp : Option Addr} {sl_qp : Array (Option Value)}
    {CO : Addr}
    {pp_mh : Addr} {rs_mh : List Value}
    {pp_mf : Addr} {rs_mf : List Value}
    {pp_mn : Addr} {rs_mn : List Value}
    {RO : Addr}
    {pp_rn : Addr} {rs_rn : List Value}
    {pp_rc : Addr} {rs_rc : List Value}
    {pp_rr : Addr} {rs_rr : List Value}
    {pp_re : Addr} {rs_re : List Value}
    {pp_rd : Addr} {rs_rd : List Value}
    {BO : Addr}
    {pp_bf : Addr} {rs_bf : List Value}
    {pp_bs : Addr} {rs_bs : List Value}
    {pp_br : Addr} {rs_br : List Value}
    {QO : Addr}
    {cc_law : Addr}
    {t_LETTERS : Tok}
    {t_LONGEST_NAME : Tok}
    {t_MOST_FACTS : Tok}
    {t_MOST_NAMES : Tok}
    {t_MOST_AROUND : Tok}
    {t_MOST_RULES : Tok}
    {t_MOST_OUTERMOST : Tok}
    {t_FIRST_NUMBER : Tok}
    {t_CHECKSUM_BEGIN : Tok}
    {t_CHECKSUM_FACTOR : Tok}
    {t_CHECKSUM_RANGE : Tok}
    {CE : Addr}
    {E0 : Addr}
    {E1 : Addr}
    {E2 : Addr}
    {E3 : Addr}
    {nmE qE : Str} {NE : Addr} {bsE bmE suE : List Value} {snE : List Str} {abE : Bool} {colE : Option Bool} {ddE : Option Addr} {x0E x1E x2E x3E x5E : Option Value}
    {nmi0 qi0 : Str} {Ni0 : Addr} {bsi0 bmi0 sui0 : List Value} {sni0 : List Str} {abi0 : Bool} {coli0 : Option Bool} {ddi0 odii0 anii0 ccddi0 cddi0 : Option Addr} {x0i0 x1i0 x2i0 x3i0 x5i0 : Option Value} {fIi0 celi0 codi0 : Addr} {ocii0 kVii0 dcii0 pmii0 ctii0 clci0 ccli0 : Value} {slii0 csli0 ccsi0 : Array (Option Value)} {vsi0 : Array Value} {fili0 : Str} {tfii0 : Tok}
    {nmi1 qi1 : Str} {Ni1 : Addr} {bsi1 bmi1 sui1 : List Value} {sni1 : List Str} {abi1 : Bool} {coli1 : Option Bool} {ddi1 odii1 anii1 ccddi1 cddi1 : Option Addr} {x0i1 x1i1 x2i1 x3i1 x5i1 : Option Value} {fIi1 celi1 codi1 : Addr} {ocii1 kVii1 dcii1 pmii1 ctii1 clci1 ccli1 : Value} {slii1 csli1 ccsi1 : Array (Option Value)} {vsi1 : Array Value} {fili1 : Str} {tfii1 : Tok}
    {nmi2 qi2 : Str} {Ni2 : Addr} {bsi2 bmi2 sui2 : List Value} {sni2 : List Str} {abi2 : Bool} {coli2 : Option Bool} {ddi2 odii2 anii2 ccddi2 cddi2 : Option Addr} {x0i2 x1i2 x2i2 x3i2 x5i2 : Option Value} {fIi2 celi2 codi2 : Addr} {ocii2 kVii2 dcii2 pmii2 ctii2 clci2 ccli2 : Value} {slii2 csli2 ccsi2 : Array (Option Value)} {vsi2 : Array Value} {fili2 : Str} {tfii2 : Tok}
    {nmi3 qi3 : Str} {Ni3 : Addr} {bsi3 bmi3 sui3 : List Value} {sni3 : List Str} {abi3 : Bool} {coli3 : Option Bool} {ddi3 odii3 anii3 ccddi3 cddi3 : Option Addr} {x0i3 x1i3 x2i3 x3i3 x5i3 : Option Value} {fIi3 celi3 codi3 : Addr} {ocii3 kVii3 dcii3 pmii3 ctii3 clci3 ccli3 : Value} {slii3 csli3 ccsi3 : Array (Option Value)} {vsi3 : Array Value} {fili3 : Str} {tfii3 : Tok}
    (a_is_name : PySem.W.nsIn K mainGlobals "is_name" = some (some (.ref f_is_name)))
    (l_is_name : K.lookup f_is_name = some ⟨oc_is_name, od_is_name, .func (PySem.W.fnOf "is_name" "is_name" (defArgs s_is_name) (defBody s_is_name) (defScope s_is_name) .none kV_is_name dc_is_name pm_is_name an_is_name cd_is_name ct_is_name), sl_is_name⟩)
    (c_is_name : PySem.W.codeIn K cd_is_name "is_name" = true)
    (k_is_name : PySem.W.keepIn K (.ref f_is_name) = true)
    (a_is_integer : PySem.W.nsIn K mainGlobals "is_integer" = some (some (.ref f_is_integer)))
    (l_is_integer : K.lookup f_is_integer = some ⟨oc_is_integer, od_is_integer, .func (PySem.W.fnOf "is_integer" "is_integer" (defArgs s_is_integer) (defBody s_is_integer) (defScope s_is_integer) .none kV_is_integer dc_is_integer pm_is_integer an_is_integer cd_is_integer ct_is_integer), sl_is_integer⟩)
    (c_is_integer : PySem.W.codeIn K cd_is_integer "is_integer" = true)
    (k_is_integer : PySem.W.keepIn K (.ref f_is_integer) = true)
    (a_rises : PySem.W.nsIn K mainGlobals "rises" = some (some (.ref f_rises)))
    (l_rises : K.lookup f_rises = some ⟨oc_rises, od_rises, .func (PySem.W.fnOf "rises" "rises" (defArgs s_rises) (defBody s_rises) (defScope s_rises) .none kV_rises dc_rises pm_rises an_rises cd_rises ct_rises), sl_rises⟩)
    (c_rises : PySem.W.codeIn K cd_rises "rises" = true)
    (k_rises : PySem.W.keepIn K (.ref f_rises) = true)
    (a_check_facts : PySem.W.nsIn K mainGlobals "check_facts" = some (some (.ref f_check_facts)))
    (l_check_facts : K.lookup f_check_facts = some ⟨oc_check_facts, od_check_facts, .func (PySem.W.fnOf "check_facts" "check_facts" (defArgs s_check_facts) (defBody s_check_facts) (defScope s_check_facts) .none kV_check_facts dc_check_facts pm_check_facts an_check_facts cd_check_facts ct_check_facts), sl_check_facts⟩)
    (c_check_facts : PySem.W.codeIn K cd_check_facts "check_facts" = true)
    (k_check_facts : PySem.W.keepIn K (.ref f_check_facts) = true)
    (a_nested : PySem.W.nsIn K mainGlobals "nested" = some (some (.ref f_nested)))
    (l_nested : K.lookup f_nested = some ⟨oc_nested, od_nested, .func (PySem.W.fnOf "nested" "nested" (defArgs s_nested) (defBody s_nested) (defScope s_nested) .none kV_nested dc_nested pm_nested an_nested cd_nested ct_nested), sl_nested⟩)
    (c_nested : PySem.W.codeIn K cd_nested "nested" = true)
    (k_nested : PySem.W.keepIn K (.ref f_nested) = true)
    (a_check_rules : PySem.W.nsIn K mainGlobals "check_rules" = some (some (.ref f_check_rules)))
    (l_check_rules : K.lookup f_check_rules = some ⟨oc_check_rules, od_check_rules, .func (PySem.W.fnOf "check_rules" "check_rules" (defArgs s_check_rules) (defBody s_check_rules) (defScope s_check_rules) .none kV_check_rules dc_check_rules pm_check_rules an_check_rules cd_check_rules ct_check_rules), sl_check_rules⟩)
    (c_check_rules : PySem.W.codeIn K cd_check_rules "check_rules" = true)
    (k_check_rules : PySem.W.keepIn K (.ref f_check_rules) = true)
    (a_check_part : PySem.W.nsIn K mainGlobals "check_part" = some (some (.ref f_check_part)))
    (l_check_part : K.lookup f_check_part = some ⟨oc_check_part, od_check_part, .func (PySem.W.fnOf "check_part" "check_part" (defArgs s_check_part) (defBody s_check_part) (defScope s_check_part) .none kV_check_part dc_check_part pm_check_part an_check_part cd_check_part ct_check_part), sl_check_part⟩)
    (c_check_part : PySem.W.codeIn K cd_check_part "check_part" = true)
    (k_check_part : PySem.W.keepIn K (.ref f_check_part) = true)
    (a_merged : PySem.W.nsIn K mainGlobals "merged" = some (some (.ref f_merged)))
    (l_merged : K.lookup f_merged = some ⟨oc_merged, od_merged, .func (PySem.W.fnOf "merged" "merged" (defArgs s_merged) (defBody s_merged) (defScope s_merged) .none kV_merged dc_merged pm_merged an_merged cd_merged ct_merged), sl_merged⟩)
    (c_merged : PySem.W.codeIn K cd_merged "merged" = true)
    (k_merged : PySem.W.keepIn K (.ref f_merged) = true)
    (a_numbers_of_name : PySem.W.nsIn K mainGlobals "numbers_of_name" = some (some (.ref f_numbers_of_name)))
    (l_numbers_of_name : K.lookup f_numbers_of_name = some ⟨oc_numbers_of_name, od_numbers_of_name, .func (PySem.W.fnOf "numbers_of_name" "numbers_of_name" (defArgs s_numbers_of_name) (defBody s_numbers_of_name) (defScope s_numbers_of_name) .none kV_numbers_of_name dc_numbers_of_name pm_numbers_of_name an_numbers_of_name cd_numbers_of_name ct_numbers_of_name), sl_numbers_of_name⟩)
    (c_numbers_of_name : PySem.W.codeIn K cd_numbers_of_name "numbers_of_name" = true)
    (k_numbers_of_name : PySem.W.keepIn K (.ref f_numbers_of_name) = true)
    (a_numbers_of_rules : PySem.W.nsIn K mainGlobals "numbers_of_rules" = some (some (.ref f_numbers_of_rules)))
    (l_numbers_of_rules : K.lookup f_numbers_of_rules = some ⟨oc_numbers_of_rules, od_numbers_of_rules, .func (PySem.W.fnOf "numbers_of_rules" "numbers_of_rules" (defArgs s_numbers_of_rules) (defBody s_numbers_of_rules) (defScope s_numbers_of_rules) .none kV_numbers_of_rules dc_numbers_of_rules pm_numbers_of_rules an_numbers_of_rules cd_numbers_of_rules ct_numbers_of_rules), sl_numbers_of_rules⟩)
    (c_numbers_of_rules : PySem.W.codeIn K cd_numbers_of_rules "numbers_of_rules" = true)
    (k_numbers_of_rules : PySem.W.keepIn K (.ref f_numbers_of_rules) = true)
    (a_checksum : PySem.W.nsIn K mainGlobals "checksum" = some (some (.ref f_checksum)))
    (l_checksum : K.lookup f_checksum = some ⟨oc_checksum, od_checksum, .func (PySem.W.fnOf "checksum" "checksum" (defArgs s_checksum) (defBody s_checksum) (defScope s_checksum) .none kV_checksum dc_checksum pm_checksum an_checksum cd_checksum ct_checksum), sl_checksum⟩)
    (c_checksum : PySem.W.codeIn K cd_checksum "checksum" = true)
    (k_checksum : PySem.W.keepIn K (.ref f_checksum) = true)
    (a_encode_book : PySem.W.nsIn K mainGlobals "encode_book" = some (some (.ref f_encode_book)))
    (l_encode_book : K.lookup f_encode_book = some ⟨oc_encode_book, od_encode_book, .func (PySem.W.fnOf "encode_book" "encode_book" (defArgs s_encode_book) (defBody s_encode_book) (defScope s_encode_book) .none kV_encode_book dc_encode_book pm_encode_book an_encode_book cd_encode_book ct_encode_book), sl_encode_book⟩)
    (c_encode_book : PySem.W.codeIn K cd_encode_book "encode_book" = true)
    (k_encode_book : PySem.W.keepIn K (.ref f_encode_book) = true)
    (a_decode_book : PySem.W.nsIn K mainGlobals "decode_book" = some (some (.ref f_decode_book)))
    (l_decode_book : K.lookup f_decode_book = some ⟨oc_decode_book, od_decode_book, .func (PySem.W.fnOf "decode_book" "decode_book" (defArgs s_decode_book) (defBody s_decode_book) (defScope s_decode_book) .none kV_decode_book dc_decode_book pm_decode_book an_decode_book cd_decode_book ct_decode_book), sl_decode_book⟩)
    (c_decode_book : PySem.W.codeIn K cd_decode_book "decode_book" = true)
    (k_decode_book : PySem.W.keepIn K (.ref f_decode_book) = true)
    (a__law_mix : PySem.W.nsIn K mainGlobals "_law_mix" = some (some (.ref f__law_mix)))
    (l__law_mix : K.lookup f__law_mix = some ⟨oc__law_mix, od__law_mix, .func (PySem.W.fnOf "_law_mix" "_law_mix" (defArgs s__law_mix) (defBody s__law_mix) (defScope s__law_mix) .none kV__law_mix dc__law_mix pm__law_mix an__law_mix cd__law_mix ct__law_mix), sl__law_mix⟩)
    (c__law_mix : PySem.W.codeIn K cd__law_mix "_law_mix" = true)
    (k__law_mix : PySem.W.keepIn K (.ref f__law_mix) = true)
    (a__law_next : PySem.W.nsIn K mainGlobals "_law_next" = some (some (.ref f__law_next)))
    (l__law_next : K.lookup f__law_next = some ⟨oc__law_next, od__law_next, .func (PySem.W.fnOf "_law_next" "_law_next" (defArgs s__law_next) (defBody s__law_next) (defScope s__law_next) .none kV__law_next dc__law_next pm__law_next an__law_next cd__law_next ct__law_next), sl__law_next⟩)
    (c__law_next : PySem.W.codeIn K cd__law_next "_law_next" = true)
    (k__law_next : PySem.W.keepIn K (.ref f__law_next) = true)
    (a__law_alike : PySem.W.nsIn K mainGlobals "_law_alike" = some (some (.ref f__law_alike)))
    (l__law_alike : K.lookup f__law_alike = some ⟨oc__law_alike, od__law_alike, .func (PySem.W.fnOf "_law_alike" "_law_alike" (defArgs s__law_alike) (defBody s__law_alike) (defScope s__law_alike) .none kV__law_alike dc__law_alike pm__law_alike an__law_alike cd__law_alike ct__law_alike), sl__law_alike⟩)
    (c__law_alike : PySem.W.codeIn K cd__law_alike "_law_alike" = true)
    (k__law_alike : PySem.W.keepIn K (.ref f__law_alike) = true)
    (a__law_facts : PySem.W.nsIn K mainGlobals "_law_facts" = some (some (.ref f__law_facts)))
    (l__law_facts : K.lookup f__law_facts = some ⟨oc__law_facts, od__law_facts, .func (PySem.W.fnOf "_law_facts" "_law_facts" (defArgs s__law_facts) (defBody s__law_facts) (defScope s__law_facts) .none kV__law_facts dc__law_facts pm__law_facts an__law_facts cd__law_facts ct__law_facts), sl__law_facts⟩)
    (c__law_facts : PySem.W.codeIn K cd__law_facts "_law_facts" = true)
    (k__law_facts : PySem.W.keepIn K (.ref f__law_facts) = true)
    (a__law_sides : PySem.W.nsIn K mainGlobals "_law_sides" = some (some (.ref f__law_sides)))
    (l__law_sides : K.lookup f__law_sides = some ⟨oc__law_sides, od__law_sides, .func (PySem.W.fnOf "_law_sides" "_law_sides" (defArgs s__law_sides) (defBody s__law_sides) (defScope s__law_sides) .none kV__law_sides dc__law_sides pm__law_sides an__law_sides cd__law_sides ct__law_sides), sl__law_sides⟩)
    (c__law_sides : PySem.W.codeIn K cd__law_sides "_law_sides" = true)
    (k__law_sides : PySem.W.keepIn K (.ref f__law_sides) = true)
    (a__law_rule : PySem.W.nsIn K mainGlobals "_law_rule" = some (some (.ref f__law_rule)))
    (l__law_rule : K.lookup f__law_rule = some ⟨oc__law_rule, od__law_rule, .func (PySem.W.fnOf "_law_rule" "_law_rule" (defArgs s__law_rule) (defBody s__law_rule) (defScope s__law_rule) .none kV__law_rule dc__law_rule pm__law_rule an__law_rule cd__law_rule ct__law_rule), sl__law_rule⟩)
    (c__law_rule : PySem.W.codeIn K cd__law_rule "_law_rule" = true)
    (k__law_rule : PySem.W.keepIn K (.ref f__law_rule) = true)
    (a__law_drawn : PySem.W.nsIn K mainGlobals "_law_drawn" = some (some (.ref f__law_drawn)))
    (l__law_drawn : K.lookup f__law_drawn = some ⟨oc__law_drawn, od__law_drawn, .func (PySem.W.fnOf "_law_drawn" "_law_drawn" (defArgs s__law_drawn) (defBody s__law_drawn) (defScope s__law_drawn) .none kV__law_drawn dc__law_drawn pm__law_drawn an__law_drawn cd__law_drawn ct__law_drawn), sl__law_drawn⟩)
    (c__law_drawn : PySem.W.codeIn K cd__law_drawn "_law_drawn" = true)
    (k__law_drawn : PySem.W.keepIn K (.ref f__law_drawn) = true)
    (a__law_made : PySem.W.nsIn K mainGlobals "_law_made" = some (some (.ref f__law_made)))
    (l__law_made : K.lookup f__law_made = some ⟨oc__law_made, od__law_made, .func (PySem.W.fnOf "_law_made" "_law_made" (defArgs s__law_made) (defBody s__law_made) (defScope s__law_made) .none kV__law_made dc__law_made pm__law_made an__law_made cd__law_made ct__law_made), sl__law_made⟩)
    (c__law_made : PySem.W.codeIn K cd__law_made "_law_made" = true)
    (k__law_made : PySem.W.keepIn K (.ref f__law_made) = true)
    (a__law_book : PySem.W.nsIn K mainGlobals "_law_book" = some (some (.ref f__law_book)))
    (l__law_book : K.lookup f__law_book = some ⟨oc__law_book, od__law_book, .func (PySem.W.fnOf "_law_book" "_law_book" (defArgs s__law_book) (defBody s__law_book) (defScope s__law_book) .none kV__law_book dc__law_book pm__law_book an__law_book cd__law_book ct__law_book), sl__law_book⟩)
    (c__law_book : PySem.W.codeIn K cd__law_book "_law_book" = true)
    (k__law_book : PySem.W.keepIn K (.ref f__law_book) = true)
    (a__law_told : PySem.W.nsIn K mainGlobals "_law_told" = some (some (.ref f__law_told)))
    (l__law_told : K.lookup f__law_told = some ⟨oc__law_told, od__law_told, .func (PySem.W.fnOf "_law_told" "_law_told" (defArgs s__law_told) (defBody s__law_told) (defScope s__law_told) .none kV__law_told dc__law_told pm__law_told an__law_told cd__law_told ct__law_told), sl__law_told⟩)
    (c__law_told : PySem.W.codeIn K cd__law_told "_law_told" = true)
    (k__law_told : PySem.W.keepIn K (.ref f__law_told) = true)
    (a__law_seen : PySem.W.nsIn K mainGlobals "_law_seen" = some (some (.ref f__law_seen)))
    (l__law_seen : K.lookup f__law_seen = some ⟨oc__law_seen, od__law_seen, .func (PySem.W.fnOf "_law_seen" "_law_seen" (defArgs s__law_seen) (defBody s__law_seen) (defScope s__law_seen) .none kV__law_seen dc__law_seen pm__law_seen an__law_seen cd__law_seen ct__law_seen), sl__law_seen⟩)
    (c__law_seen : PySem.W.codeIn K cd__law_seen "_law_seen" = true)
    (k__law_seen : PySem.W.keepIn K (.ref f__law_seen) = true)
    (a__law_name_code : PySem.W.nsIn K mainGlobals "_law_name_code" = some (some (.ref f__law_name_code)))
    (l__law_name_code : K.lookup f__law_name_code = some ⟨oc__law_name_code, od__law_name_code, .func (PySem.W.fnOf "_law_name_code" "_law_name_code" (defArgs s__law_name_code) (defBody s__law_name_code) (defScope s__law_name_code) .none kV__law_name_code dc__law_name_code pm__law_name_code an__law_name_code cd__law_name_code ct__law_name_code), sl__law_name_code⟩)
    (c__law_name_code : PySem.W.codeIn K cd__law_name_code "_law_name_code" = true)
    (k__law_name_code : PySem.W.keepIn K (.ref f__law_name_code) = true)
    (a__law_rules_code : PySem.W.nsIn K mainGlobals "_law_rules_code" = some (some (.ref f__law_rules_code)))
    (l__law_rules_code : K.lookup f__law_rules_code = some ⟨oc__law_rules_code, od__law_rules_code, .func (PySem.W.fnOf "_law_rules_code" "_law_rules_code" (defArgs s__law_rules_code) (defBody s__law_rules_code) (defScope s__law_rules_code) .none kV__law_rules_code dc__law_rules_code pm__law_rules_code an__law_rules_code cd__law_rules_code ct__law_rules_code), sl__law_rules_code⟩)
    (c__law_rules_code : PySem.W.codeIn K cd__law_rules_code "_law_rules_code" = true)
    (k__law_rules_code : PySem.W.keepIn K (.ref f__law_rules_code) = true)
    (a__law_code : PySem.W.nsIn K mainGlobals "_law_code" = some (some (.ref f__law_code)))
    (l__law_code : K.lookup f__law_code = some ⟨oc__law_code, od__law_code, .func (PySem.W.fnOf "_law_code" "_law_code" (defArgs s__law_code) (defBody s__law_code) (defScope s__law_code) .none kV__law_code dc__law_code pm__law_code an__law_code cd__law_code ct__law_code), sl__law_code⟩)
    (c__law_code : PySem.W.codeIn K cd__law_code "_law_code" = true)
    (k__law_code : PySem.W.keepIn K (.ref f__law_code) = true)
    (a__law_checked : PySem.W.nsIn K mainGlobals "_law_checked" = some (some (.ref f__law_checked)))
    (l__law_checked : K.lookup f__law_checked = some ⟨oc__law_checked, od__law_checked, .func (PySem.W.fnOf "_law_checked" "_law_checked" (defArgs s__law_checked) (defBody s__law_checked) (defScope s__law_checked) .none kV__law_checked dc__law_checked pm__law_checked an__law_checked cd__law_checked ct__law_checked), sl__law_checked⟩)
    (c__law_checked : PySem.W.codeIn K cd__law_checked "_law_checked" = true)
    (k__law_checked : PySem.W.keepIn K (.ref f__law_checked) = true)
    (a_law : PySem.W.nsIn K mainGlobals "law" = some (some (.ref f_law)))
    (l_law : K.lookup f_law = some ⟨oc_law, od_law, .func (PySem.W.fnOf "law" "law" (defArgs s_law) (defBody s_law) (defScope s_law) .none kV_law dc_law pm_law an_law (.ref cc_law) ct_law), sl_law⟩)
    (c_law : PySem.W.codeIn K (.ref cc_law) "law" = true)
    (k_law : PySem.W.keepIn K (.ref f_law) = true)
    (co : PySem.W.nsIn K mainGlobals "Condition" = some (some (.ref CO)))
    (co_mk : PySem.W.makesIn K CO = true)
    (co_in : PySem.W.findIn K (.ref CO) "__init__" = some (some (.ref f_mi)))
    (co_fn : PySem.W.isFn K (.ref f_mi) = true)
    (co_kp : PySem.W.keepIn K (.ref CO) = true)
    (co_pg : PySem.W.plainGet K CO Str.empty = true)
    (co_hd : PySem.W.hasDictIn K CO = true)
    (co_po : PySem.W.plainOver K CO = true)
    (co_sa : PySem.W.findIn K (.ref CO) "__setattr__" = some (some (.builtin "object.__setattr__")))
    (co_n1 : PySem.W.findIn K (.ref CO) "_holding" = some none)
    (co_n2 : PySem.W.findIn K (.ref CO) "_failing" = some none)
    (co_n3 : PySem.W.findIn K (.ref CO) "_names" = some none)
    (pa_mh : PySem.W.findIn K (.ref CO) "holding" = some (some (.ref pp_mh)))
    (pg_mh : PySem.W.specialIn K (.ref pp_mh) "__get__" = some (some (.builtin "property.__get__")))
    (pt_mh : PySem.W.takesIn K (.ref pp_mh) = some true)
    (pr_mh : PySem.W.recIn K pp_mh "property" = some (.ref f_mh :: rs_mh))
    (pa_mf : PySem.W.findIn K (.ref CO) "failing" = some (some (.ref pp_mf)))
    (pg_mf : PySem.W.specialIn K (.ref pp_mf) "__get__" = some (some (.builtin "property.__get__")))
    (pt_mf : PySem.W.takesIn K (.ref pp_mf) = some true)
    (pr_mf : PySem.W.recIn K pp_mf "property" = some (.ref f_mf :: rs_mf))
    (pa_mn : PySem.W.findIn K (.ref CO) "names" = some (some (.ref pp_mn)))
    (pg_mn : PySem.W.specialIn K (.ref pp_mn) "__get__" = some (some (.builtin "property.__get__")))
    (pt_mn : PySem.W.takesIn K (.ref pp_mn) = some true)
    (pr_mn : PySem.W.recIn K pp_mn "property" = some (.ref f_mn :: rs_mn))
    (ro : PySem.W.nsIn K mainGlobals "Rule" = some (some (.ref RO)))
    (ro_mk : PySem.W.makesIn K RO = true)
    (ro_in : PySem.W.findIn K (.ref RO) "__init__" = some (some (.ref f_ri)))
    (ro_fn : PySem.W.isFn K (.ref f_ri) = true)
    (ro_kp : PySem.W.keepIn K (.ref RO) = true)
    (ro_pg : PySem.W.plainGet K RO Str.empty = true)
    (ro_hd : PySem.W.hasDictIn K RO = true)
    (ro_po : PySem.W.plainOver K RO = true)
    (ro_sa : PySem.W.findIn K (.ref RO) "__setattr__" = some (some (.builtin "object.__setattr__")))
    (ro_n1 : PySem.W.findIn K (.ref RO) "_name" = some none)
    (ro_n2 : PySem.W.findIn K (.ref RO) "_condition" = some none)
    (ro_n3 : PySem.W.findIn K (.ref RO) "_ruling" = some none)
    (ro_n4 : PySem.W.findIn K (.ref RO) "_exceptions" = some none)
    (ro_n5 : PySem.W.findIn K (.ref RO) "_depth" = some none)
    (ro_n6 : PySem.W.findIn K (.ref RO) "_inside" = some none)
    (pa_rn : PySem.W.findIn K (.ref RO) "name" = some (some (.ref pp_rn)))
    (pg_rn : PySem.W.specialIn K (.ref pp_rn) "__get__" = some (some (.builtin "property.__get__")))
    (pt_rn : PySem.W.takesIn K (.ref pp_rn) = some true)
    (pr_rn : PySem.W.recIn K pp_rn "property" = some (.ref f_rn :: rs_rn))
    (pa_rc : PySem.W.findIn K (.ref RO) "condition" = some (some (.ref pp_rc)))
    (pg_rc : PySem.W.specialIn K (.ref pp_rc) "__get__" = some (some (.builtin "property.__get__")))
    (pt_rc : PySem.W.takesIn K (.ref pp_rc) = some true)
    (pr_rc : PySem.W.recIn K pp_rc "property" = some (.ref f_rc :: rs_rc))
    (pa_rr : PySem.W.findIn K (.ref RO) "ruling" = some (some (.ref pp_rr)))
    (pg_rr : PySem.W.specialIn K (.ref pp_rr) "__get__" = some (some (.builtin "property.__get__")))
    (pt_rr : PySem.W.takesIn K (.ref pp_rr) = some true)
    (pr_rr : PySem.W.recIn K pp_rr "property" = some (.ref f_rr :: rs_rr))
    (pa_re : PySem.W.findIn K (.ref RO) "exceptions" = some (some (.ref pp_re)))
    (pg_re : PySem.W.specialIn K (.ref pp_re) "__get__" = some (some (.builtin "property.__get__")))
    (pt_re : PySem.W.takesIn K (.ref pp_re) = some true)
    (pr_re : PySem.W.recIn K pp_re "property" = some (.ref f_re :: rs_re))
    (pa_rd : PySem.W.findIn K (.ref RO) "depth" = some (some (.ref pp_rd)))
    (pg_rd : PySem.W.specialIn K (.ref pp_rd) "__get__" = some (some (.builtin "property.__get__")))
    (pt_rd : PySem.W.takesIn K (.ref pp_rd) = some true)
    (pr_rd : PySem.W.recIn K pp_rd "property" = some (.ref f_rd :: rs_rd))
    (bo : PySem.W.nsIn K mainGlobals "Book" = some (some (.ref BO)))
    (bo_mk : PySem.W.makesIn K BO = true)
    (bo_in : PySem.W.findIn K (.ref BO) "__init__" = some (some (.ref f_bi)))
    (bo_fn : PySem.W.isFn K (.ref f_bi) = true)
    (bo_kp : PySem.W.keepIn K (.ref BO) = true)
    (bo_pg : PySem.W.plainGet K BO Str.empty = true)
    (bo_hd : PySem.W.hasDictIn K BO = true)
    (bo_po : PySem.W.plainOver K BO = true)
    (bo_sa : PySem.W.findIn K (.ref BO) "__setattr__" = some (some (.builtin "object.__setattr__")))
    (bo_n1 : PySem.W.findIn K (.ref BO) "_facts" = some none)
    (bo_n2 : PySem.W.findIn K (.ref BO) "_rules" = some none)
    (bo_n3 : PySem.W.findIn K (.ref BO) "_ruling" = some none)
    (bo_n4 : PySem.W.findIn K (.ref BO) "_numbered" = some none)
    (pa_bf : PySem.W.findIn K (.ref BO) "facts" = some (some (.ref pp_bf)))
    (pg_bf : PySem.W.specialIn K (.ref pp_bf) "__get__" = some (some (.builtin "property.__get__")))
    (pt_bf : PySem.W.takesIn K (.ref pp_bf) = some true)
    (pr_bf : PySem.W.recIn K pp_bf "property" = some (.ref f_bf :: rs_bf))
    (pa_bs : PySem.W.findIn K (.ref BO) "rules" = some (some (.ref pp_bs)))
    (pg_bs : PySem.W.specialIn K (.ref pp_bs) "__get__" = some (some (.builtin "property.__get__")))
    (pt_bs : PySem.W.takesIn K (.ref pp_bs) = some true)
    (pr_bs : PySem.W.recIn K pp_bs "property" = some (.ref f_bs :: rs_bs))
    (pa_br : PySem.W.findIn K (.ref BO) "ruling" = some (some (.ref pp_br)))
    (pg_br : PySem.W.specialIn K (.ref pp_br) "__get__" = some (some (.builtin "property.__get__")))
    (pt_br : PySem.W.takesIn K (.ref pp_br) = some true)
    (pr_br : PySem.W.recIn K pp_br "property" = some (.ref f_br :: rs_br))
    (qo : PySem.W.nsIn K mainGlobals "Reader" = some (some (.ref QO)))
    (qo_mk : PySem.W.makesIn K QO = true)
    (qo_in : PySem.W.findIn K (.ref QO) "__init__" = some (some (.ref f_qi)))
    (qo_fn : PySem.W.isFn K (.ref f_qi) = true)
    (qo_kp : PySem.W.keepIn K (.ref QO) = true)
    (qo_pg : PySem.W.plainGet K QO Str.empty = true)
    (qo_hd : PySem.W.hasDictIn K QO = true)
    (qo_po : PySem.W.plainOver K QO = true)
    (qo_sa : PySem.W.findIn K (.ref QO) "__setattr__" = some (some (.builtin "object.__setattr__")))
    (qo_n1 : PySem.W.findIn K (.ref QO) "numbers" = some none)
    (qo_n2 : PySem.W.findIn K (.ref QO) "at" = some none)
    (qo_n3 : PySem.W.findIn K (.ref QO) "rule_names" = some none)
    (qo_n4 : PySem.W.findIn K (.ref QO) "rule_count" = some none)
    (at_qt : PySem.W.findIn K (.ref QO) "take" = some (some (.ref f_qt)))
    (fn_qt : PySem.W.isFn K (.ref f_qt) = true)
    (at_qn : PySem.W.findIn K (.ref QO) "take_name" = some (some (.ref f_qn)))
    (fn_qn : PySem.W.isFn K (.ref f_qn) = true)
    (at_qf : PySem.W.findIn K (.ref QO) "take_facts" = some (some (.ref f_qf)))
    (fn_qf : PySem.W.isFn K (.ref f_qf) = true)
    (at_qs : PySem.W.findIn K (.ref QO) "take_rules" = some (some (.ref f_qs)))
    (fn_qs : PySem.W.isFn K (.ref f_qs) = true)
    (at_qr : PySem.W.findIn K (.ref QO) "take_rule" = some (some (.ref f_qr)))
    (fn_qr : PySem.W.isFn K (.ref f_qr) = true)
    (at_qp : PySem.W.findIn K (.ref QO) "take_part" = some (some (.ref f_qp)))
    (fn_qp : PySem.W.isFn K (.ref f_qp) = true)
    (bo_ca : PySem.W.findIn K (.ref BO) "__class__" = some (some (.builtin "object.__class__")))
    (bo_ob : PySem.W.mroIn K BO (.type "object") = some true)
    (bo_ss : PySem.W.subIn K (.ref BO) (.ref BO) = some true)
    (bo_cl : PySem.W.isClsIn K BO = true)
    (bo_ty : PySem.W.typeIn K (.ref BO) = some (.type "type"))
    (l_mi : K.lookup f_mi = some ⟨oc_mi, od_mi, .func (PySem.W.fnOf "__init__" "Condition.__init__" (defArgs s_Condition___init__) (defBody s_Condition___init__) (defScope s_Condition___init__) .none kV_mi dc_mi pm_mi an_mi cd_mi ct_mi), sl_mi⟩)
    (c_mi : PySem.W.codeIn K cd_mi "Condition.__init__" = true)
    (k_mi : PySem.W.keepIn K (.ref f_mi) = true)
    (l_mh : K.lookup f_mh = some ⟨oc_mh, od_mh, .func (PySem.W.fnOf "holding" "Condition.holding" (defArgs s_Condition_holding) (defBody s_Condition_holding) (defScope s_Condition_holding) .none kV_mh dc_mh pm_mh an_mh cd_mh ct_mh), sl_mh⟩)
    (c_mh : PySem.W.codeIn K cd_mh "Condition.holding" = true)
    (k_mh : PySem.W.keepIn K (.ref f_mh) = true)
    (l_mf : K.lookup f_mf = some ⟨oc_mf, od_mf, .func (PySem.W.fnOf "failing" "Condition.failing" (defArgs s_Condition_failing) (defBody s_Condition_failing) (defScope s_Condition_failing) .none kV_mf dc_mf pm_mf an_mf cd_mf ct_mf), sl_mf⟩)
    (c_mf : PySem.W.codeIn K cd_mf "Condition.failing" = true)
    (k_mf : PySem.W.keepIn K (.ref f_mf) = true)
    (l_mn : K.lookup f_mn = some ⟨oc_mn, od_mn, .func (PySem.W.fnOf "names" "Condition.names" (defArgs s_Condition_names) (defBody s_Condition_names) (defScope s_Condition_names) .none kV_mn dc_mn pm_mn an_mn cd_mn ct_mn), sl_mn⟩)
    (c_mn : PySem.W.codeIn K cd_mn "Condition.names" = true)
    (k_mn : PySem.W.keepIn K (.ref f_mn) = true)
    (l_ri : K.lookup f_ri = some ⟨oc_ri, od_ri, .func (PySem.W.fnOf "__init__" "Rule.__init__" (defArgs s_Rule___init__) (defBody s_Rule___init__) (defScope s_Rule___init__) .none kV_ri dc_ri pm_ri an_ri cd_ri ct_ri), sl_ri⟩)
    (c_ri : PySem.W.codeIn K cd_ri "Rule.__init__" = true)
    (k_ri : PySem.W.keepIn K (.ref f_ri) = true)
    (l_rn : K.lookup f_rn = some ⟨oc_rn, od_rn, .func (PySem.W.fnOf "name" "Rule.name" (defArgs s_Rule_name) (defBody s_Rule_name) (defScope s_Rule_name) .none kV_rn dc_rn pm_rn an_rn cd_rn ct_rn), sl_rn⟩)
    (c_rn : PySem.W.codeIn K cd_rn "Rule.name" = true)
    (k_rn : PySem.W.keepIn K (.ref f_rn) = true)
    (l_rc : K.lookup f_rc = some ⟨oc_rc, od_rc, .func (PySem.W.fnOf "condition" "Rule.condition" (defArgs s_Rule_condition) (defBody s_Rule_condition) (defScope s_Rule_condition) .none kV_rc dc_rc pm_rc an_rc cd_rc ct_rc), sl_rc⟩)
    (c_rc : PySem.W.codeIn K cd_rc "Rule.condition" = true)
    (k_rc : PySem.W.keepIn K (.ref f_rc) = true)
    (l_rr : K.lookup f_rr = some ⟨oc_rr, od_rr, .func (PySem.W.fnOf "ruling" "Rule.ruling" (defArgs s_Rule_ruling) (defBody s_Rule_ruling) (defScope s_Rule_ruling) .none kV_rr dc_rr pm_rr an_rr cd_rr ct_rr), sl_rr⟩)
    (c_rr : PySem.W.codeIn K cd_rr "Rule.ruling" = true)
    (k_rr : PySem.W.keepIn K (.ref f_rr) = true)
    (l_re : K.lookup f_re = some ⟨oc_re, od_re, .func (PySem.W.fnOf "exceptions" "Rule.exceptions" (defArgs s_Rule_exceptions) (defBody s_Rule_exceptions) (defScope s_Rule_exceptions) .none kV_re dc_re pm_re an_re cd_re ct_re), sl_re⟩)
    (c_re : PySem.W.codeIn K cd_re "Rule.exceptions" = true)
    (k_re : PySem.W.keepIn K (.ref f_re) = true)
    (l_rd : K.lookup f_rd = some ⟨oc_rd, od_rd, .func (PySem.W.fnOf "depth" "Rule.depth" (defArgs s_Rule_depth) (defBody s_Rule_depth) (defScope s_Rule_depth) .none kV_rd dc_rd pm_rd an_rd cd_rd ct_rd), sl_rd⟩)
    (c_rd : PySem.W.codeIn K cd_rd "Rule.depth" = true)
    (k_rd : PySem.W.keepIn K (.ref f_rd) = true)
    (l_bi : K.lookup f_bi = some ⟨oc_bi, od_bi, .func (PySem.W.fnOf "__init__" "Book.__init__" (defArgs s_Book___init__) (defBody s_Book___init__) (defScope s_Book___init__) .none kV_bi dc_bi pm_bi an_bi cd_bi ct_bi), sl_bi⟩)
    (c_bi : PySem.W.codeIn K cd_bi "Book.__init__" = true)
    (k_bi : PySem.W.keepIn K (.ref f_bi) = true)
    (l_bf : K.lookup f_bf = some ⟨oc_bf, od_bf, .func (PySem.W.fnOf "facts" "Book.facts" (defArgs s_Book_facts) (defBody s_Book_facts) (defScope s_Book_facts) .none kV_bf dc_bf pm_bf an_bf cd_bf ct_bf), sl_bf⟩)
    (c_bf : PySem.W.codeIn K cd_bf "Book.facts" = true)
    (k_bf : PySem.W.keepIn K (.ref f_bf) = true)
    (l_bs : K.lookup f_bs = some ⟨oc_bs, od_bs, .func (PySem.W.fnOf "rules" "Book.rules" (defArgs s_Book_rules) (defBody s_Book_rules) (defScope s_Book_rules) .none kV_bs dc_bs pm_bs an_bs cd_bs ct_bs), sl_bs⟩)
    (c_bs : PySem.W.codeIn K cd_bs "Book.rules" = true)
    (k_bs : PySem.W.keepIn K (.ref f_bs) = true)
    (l_br : K.lookup f_br = some ⟨oc_br, od_br, .func (PySem.W.fnOf "ruling" "Book.ruling" (defArgs s_Book_ruling) (defBody s_Book_ruling) (defScope s_Book_ruling) .none kV_br dc_br pm_br an_br cd_br ct_br), sl_br⟩)
    (c_br : PySem.W.codeIn K cd_br "Book.ruling" = true)
    (k_br : PySem.W.keepIn K (.ref f_br) = true)
    (l_qi : K.lookup f_qi = some ⟨oc_qi, od_qi, .func (PySem.W.fnOf "__init__" "Reader.__init__" (defArgs s_Reader___init__) (defBody s_Reader___init__) (defScope s_Reader___init__) .none kV_qi dc_qi pm_qi an_qi cd_qi ct_qi), sl_qi⟩)
    (c_qi : PySem.W.codeIn K cd_qi "Reader.__init__" = true)
    (k_qi : PySem.W.keepIn K (.ref f_qi) = true)
    (l_qt : K.lookup f_qt = some ⟨oc_qt, od_qt, .func (PySem.W.fnOf "take" "Reader.take" (defArgs s_Reader_take) (defBody s_Reader_take) (defScope s_Reader_take) .none kV_qt dc_qt pm_qt an_qt cd_qt ct_qt), sl_qt⟩)
    (c_qt : PySem.W.codeIn K cd_qt "Reader.take" = true)
    (k_qt : PySem.W.keepIn K (.ref f_qt) = true)
    (l_qn : K.lookup f_qn = some ⟨oc_qn, od_qn, .func (PySem.W.fnOf "take_name" "Reader.take_name" (defArgs s_Reader_take_name) (defBody s_Reader_take_name) (defScope s_Reader_take_name) .none kV_qn dc_qn pm_qn an_qn cd_qn ct_qn), sl_qn⟩)
    (c_qn : PySem.W.codeIn K cd_qn "Reader.take_name" = true)
    (k_qn : PySem.W.keepIn K (.ref f_qn) = true)
    (l_qf : K.lookup f_qf = some ⟨oc_qf, od_qf, .func (PySem.W.fnOf "take_facts" "Reader.take_facts" (defArgs s_Reader_take_facts) (defBody s_Reader_take_facts) (defScope s_Reader_take_facts) .none kV_qf dc_qf pm_qf an_qf cd_qf ct_qf), sl_qf⟩)
    (c_qf : PySem.W.codeIn K cd_qf "Reader.take_facts" = true)
    (k_qf : PySem.W.keepIn K (.ref f_qf) = true)
    (l_qs : K.lookup f_qs = some ⟨oc_qs, od_qs, .func (PySem.W.fnOf "take_rules" "Reader.take_rules" (defArgs s_Reader_take_rules) (defBody s_Reader_take_rules) (defScope s_Reader_take_rules) .none kV_qs dc_qs pm_qs an_qs cd_qs ct_qs), sl_qs⟩)
    (c_qs : PySem.W.codeIn K cd_qs "Reader.take_rules" = true)
    (k_qs : PySem.W.keepIn K (.ref f_qs) = true)
    (l_qr : K.lookup f_qr = some ⟨oc_qr, od_qr, .func (PySem.W.fnOf "take_rule" "Reader.take_rule" (defArgs s_Reader_take_rule) (defBody s_Reader_take_rule) (defScope s_Reader_take_rule) .none kV_qr dc_qr pm_qr an_qr cd_qr ct_qr), sl_qr⟩)
    (c_qr : PySem.W.codeIn K cd_qr "Reader.take_rule" = true)
    (k_qr : PySem.W.keepIn K (.ref f_qr) = true)
    (l_qp : K.lookup f_qp = some ⟨oc_qp, od_qp, .func (PySem.W.fnOf "take_part" "Reader.take_part" (defArgs s_Reader_take_part) (defBody s_Reader_take_part) (defScope s_Reader_take_part) .none kV_qp dc_qp pm_qp an_qp cd_qp ct_qp), sl_qp⟩)
    (c_qp : PySem.W.codeIn K cd_qp "Reader.take_part" = true)
    (k_qp : PySem.W.keepIn K (.ref f_qp) = true)
    (b_isinstance : PySem.W.nsIn K mainGlobals "isinstance" = some none)
    (b_len : PySem.W.nsIn K mainGlobals "len" = some none)
    (b_all : PySem.W.nsIn K mainGlobals "all" = some none)
    (b_any : PySem.W.nsIn K mainGlobals "any" = some none)
    (b_sum : PySem.W.nsIn K mainGlobals "sum" = some none)
    (b_max : PySem.W.nsIn K mainGlobals "max" = some none)
    (b_min : PySem.W.nsIn K mainGlobals "min" = some none)
    (b_int : PySem.W.nsIn K mainGlobals "int" = some none)
    (b_str : PySem.W.nsIn K mainGlobals "str" = some none)
    (b_bool : PySem.W.nsIn K mainGlobals "bool" = some none)
    (b_list : PySem.W.nsIn K mainGlobals "list" = some none)
    (b_tuple : PySem.W.nsIn K mainGlobals "tuple" = some none)
    (b_dict : PySem.W.nsIn K mainGlobals "dict" = some none)
    (b_range : PySem.W.nsIn K mainGlobals "range" = some none)
    (b_enumerate : PySem.W.nsIn K mainGlobals "enumerate" = some none)
    (b_sorted : PySem.W.nsIn K mainGlobals "sorted" = some none)
    (b_reversed : PySem.W.nsIn K mainGlobals "reversed" = some none)
    (b_zip : PySem.W.nsIn K mainGlobals "zip" = some none)
    (b_set : PySem.W.nsIn K mainGlobals "set" = some none)
    (b_ValueError : PySem.W.nsIn K mainGlobals "ValueError" = some none)
    (m_LETTERS : PySem.W.nsIn K mainGlobals "LETTERS" = some (some (.str letters t_LETTERS)))
    (m_LONGEST_NAME : PySem.W.nsIn K mainGlobals "LONGEST_NAME" = some (some (.int 8 t_LONGEST_NAME)))
    (m_MOST_FACTS : PySem.W.nsIn K mainGlobals "MOST_FACTS" = some (some (.int 60 t_MOST_FACTS)))
    (m_MOST_NAMES : PySem.W.nsIn K mainGlobals "MOST_NAMES" = some (some (.int 8 t_MOST_NAMES)))
    (m_MOST_AROUND : PySem.W.nsIn K mainGlobals "MOST_AROUND" = some (some (.int 5 t_MOST_AROUND)))
    (m_MOST_RULES : PySem.W.nsIn K mainGlobals "MOST_RULES" = some (some (.int 60 t_MOST_RULES)))
    (m_MOST_OUTERMOST : PySem.W.nsIn K mainGlobals "MOST_OUTERMOST" = some (some (.int 40 t_MOST_OUTERMOST)))
    (m_FIRST_NUMBER : PySem.W.nsIn K mainGlobals "FIRST_NUMBER" = some (some (.int 66 t_FIRST_NUMBER)))
    (m_CHECKSUM_BEGIN : PySem.W.nsIn K mainGlobals "CHECKSUM_BEGIN" = some (some (.int 7 t_CHECKSUM_BEGIN)))
    (m_CHECKSUM_FACTOR : PySem.W.nsIn K mainGlobals "CHECKSUM_FACTOR" = some (some (.int 11 t_CHECKSUM_FACTOR)))
    (m_CHECKSUM_RANGE : PySem.W.nsIn K mainGlobals "CHECKSUM_RANGE" = some (some (.int 247 t_CHECKSUM_RANGE)))
    (m_CourtError : PySem.W.nsIn K mainGlobals "CourtError" = some (some (.ref CE)))
    (m_InvalidFacts : PySem.W.nsIn K mainGlobals "InvalidFacts" = some (some (.ref E0)))
    (m_InvalidCondition : PySem.W.nsIn K mainGlobals "InvalidCondition" = some (some (.ref E1)))
    (m_InvalidRule : PySem.W.nsIn K mainGlobals "InvalidRule" = some (some (.ref E2)))
    (m_InvalidBook : PySem.W.nsIn K mainGlobals "InvalidBook" = some (some (.ref E3)))
    (CEbe : PySem.W.subIn K (.ref CE) (.type "BaseException") = some true)
    (CEcl : PySem.W.isClsIn K CE = true)
    (CEty : PySem.W.typeIn K (.ref CE) = some (.type "type"))
    (u_0 : PySem.W.isClsIn K E0 = true)
    (v_0 : PySem.W.typeIn K (.ref E0) = some (.type "type"))
    (u_1 : PySem.W.isClsIn K E1 = true)
    (v_1 : PySem.W.typeIn K (.ref E1) = some (.type "type"))
    (u_2 : PySem.W.isClsIn K E2 = true)
    (v_2 : PySem.W.typeIn K (.ref E2) = some (.type "type"))
    (u_3 : PySem.W.isClsIn K E3 = true)
    (v_3 : PySem.W.typeIn K (.ref E3) = some (.type "type"))
    (sg : PySem.W.specialIn K (.builtin "object.__class__") "__get__" = some (some (.builtin "getset_descriptor.__get__")))
    (tk : PySem.W.takesIn K (.builtin "object.__class__") = some true)
    (x_E : K.lookup CE = some (excClassObj nmE qE CE NE bsE bmE true snE suE abE colE ddE x0E x1E x2E x3E x5E "ValueError.__new__"))
    (f_E : PySem.W.findIn K (.ref CE) "__init__" = some (some (.builtin "ValueError.__init__")))
    (noS : PySem.W.nsIn K mainGlobals "super" = some none)
    (opq : PySem.W.nsIn K cStatics "thirdparty.any" = some none)
    (i0_x : K.lookup E0 = some (excClassObj nmi0 qi0 E0 Ni0 bsi0 bmi0 true sni0 sui0 abi0 coli0 ddi0 x0i0 x1i0 x2i0 x3i0 x5i0 "ValueError.__new__"))
    (i0_rv : HandSPX.refsVE bmi0 = true)
    (i0_sa : PySem.W.findIn K (.ref E0) "__setattr__" = some (some (.builtin "object.__setattr__")))
    (i0_ty : PySem.W.typeIn K (.ref E0) = some (.type "type"))
    (i0_kC : PySem.W.keepIn K (.ref E0) = true)
    (i0_in : PySem.W.findIn K (.ref E0) "__init__" = some (some (.ref fIi0)))
    (i0_tI : PySem.W.typeIn K (.ref fIi0) = some (.type "function"))
    (i0_lI : K.lookup fIi0 = some ⟨ocii0, odii0, .func (supFd (nf_InvalidFacts celi0 codi0) kVii0 dcii0 pmii0 anii0 ctii0), slii0⟩)
    (i0_cI : PySem.W.codeIn K (.ref codi0) "InvalidFacts.__init__" = true)
    (i0_ce : K.lookup celi0 = some ⟨clci0, ccddi0, .cell (some (.ref E0)), csli0⟩)
    (i0_co : K.lookup codi0 = some ⟨ccli0, cddi0, .fields vsi0, ccsi0⟩)
    (i0_fi : vsi0[2]? = some (.str fili0 tfii0))
    (i0_fe : ((P.main.file : Str) == fili0) = true)
    (i0_sb : PySem.W.mroIn K E0 (.ref E0) = some true)
    (i0_bm : bmi0 = .ref CE :: bmE)
    (i0_vB : PySem.W.subIn K (.ref E0) (.type "ValueError") = some true)
    (i0_bE : PySem.W.subIn K (.ref E0) (.type "BaseException") = some true)
    (i0_f_index : PySem.W.findIn K (.ref E0) "index" = some none)
    (i1_x : K.lookup E1 = some (excClassObj nmi1 qi1 E1 Ni1 bsi1 bmi1 true sni1 sui1 abi1 coli1 ddi1 x0i1 x1i1 x2i1 x3i1 x5i1 "ValueError.__new__"))
    (i1_rv : HandSPX.refsVE bmi1 = true)
    (i1_sa : PySem.W.findIn K (.ref E1) "__setattr__" = some (some (.builtin "object.__setattr__")))
    (i1_ty : PySem.W.typeIn K (.ref E1) = some (.type "type"))
    (i1_kC : PySem.W.keepIn K (.ref E1) = true)
    (i1_in : PySem.W.findIn K (.ref E1) "__init__" = some (some (.ref fIi1)))
    (i1_tI : PySem.W.typeIn K (.ref fIi1) = some (.type "function"))
    (i1_lI : K.lookup fIi1 = some ⟨ocii1, odii1, .func (supFd (nf_InvalidCondition celi1 codi1) kVii1 dcii1 pmii1 anii1 ctii1), slii1⟩)
    (i1_cI : PySem.W.codeIn K (.ref codi1) "InvalidCondition.__init__" = true)
    (i1_ce : K.lookup celi1 = some ⟨clci1, ccddi1, .cell (some (.ref E1)), csli1⟩)
    (i1_co : K.lookup codi1 = some ⟨ccli1, cddi1, .fields vsi1, ccsi1⟩)
    (i1_fi : vsi1[2]? = some (.str fili1 tfii1))
    (i1_fe : ((P.main.file : Str) == fili1) = true)
    (i1_sb : PySem.W.mroIn K E1 (.ref E1) = some true)
    (i1_bm : bmi1 = .ref CE :: bmE)
    (i1_vB : PySem.W.subIn K (.ref E1) (.type "ValueError") = some true)
    (i1_bE : PySem.W.subIn K (.ref E1) (.type "BaseException") = some true)
    (i1_f_part : PySem.W.findIn K (.ref E1) "part" = some none)
    (i1_f_index : PySem.W.findIn K (.ref E1) "index" = some none)
    (i2_x : K.lookup E2 = some (excClassObj nmi2 qi2 E2 Ni2 bsi2 bmi2 true sni2 sui2 abi2 coli2 ddi2 x0i2 x1i2 x2i2 x3i2 x5i2 "ValueError.__new__"))
    (i2_rv : HandSPX.refsVE bmi2 = true)
    (i2_sa : PySem.W.findIn K (.ref E2) "__setattr__" = some (some (.builtin "object.__setattr__")))
    (i2_ty : PySem.W.typeIn K (.ref E2) = some (.type "type"))
    (i2_kC : PySem.W.keepIn K (.ref E2) = true)
    (i2_in : PySem.W.findIn K (.ref E2) "__init__" = some (some (.ref fIi2)))
    (i2_tI : PySem.W.typeIn K (.ref fIi2) = some (.type "function"))
    (i2_lI : K.lookup fIi2 = some ⟨ocii2, odii2, .func (supFd (nf_InvalidRule celi2 codi2) kVii2 dcii2 pmii2 anii2 ctii2), slii2⟩)
    (i2_cI : PySem.W.codeIn K (.ref codi2) "InvalidRule.__init__" = true)
    (i2_ce : K.lookup celi2 = some ⟨clci2, ccddi2, .cell (some (.ref E2)), csli2⟩)
    (i2_co : K.lookup codi2 = some ⟨ccli2, cddi2, .fields vsi2, ccsi2⟩)
    (i2_fi : vsi2[2]? = some (.str fili2 tfii2))
    (i2_fe : ((P.main.file : Str) == fili2) = true)
    (i2_sb : PySem.W.mroIn K E2 (.ref E2) = some true)
    (i2_bm : bmi2 = .ref CE :: bmE)
    (i2_vB : PySem.W.subIn K (.ref E2) (.type "ValueError") = some true)
    (i2_bE : PySem.W.subIn K (.ref E2) (.type "BaseException") = some true)
    (i2_f_part : PySem.W.findIn K (.ref E2) "part" = some none)
    (i3_x : K.lookup E3 = some (excClassObj nmi3 qi3 E3 Ni3 bsi3 bmi3 true sni3 sui3 abi3 coli3 ddi3 x0i3 x1i3 x2i3 x3i3 x5i3 "ValueError.__new__"))
    (i3_rv : HandSPX.refsVE bmi3 = true)
    (i3_sa : PySem.W.findIn K (.ref E3) "__setattr__" = some (some (.builtin "object.__setattr__")))
    (i3_ty : PySem.W.typeIn K (.ref E3) = some (.type "type"))
    (i3_kC : PySem.W.keepIn K (.ref E3) = true)
    (i3_in : PySem.W.findIn K (.ref E3) "__init__" = some (some (.ref fIi3)))
    (i3_tI : PySem.W.typeIn K (.ref fIi3) = some (.type "function"))
    (i3_lI : K.lookup fIi3 = some ⟨ocii3, odii3, .func (supFd (nf_InvalidBook celi3 codi3) kVii3 dcii3 pmii3 anii3 ctii3), slii3⟩)
    (i3_cI : PySem.W.codeIn K (.ref codi3) "InvalidBook.__init__" = true)
    (i3_ce : K.lookup celi3 = some ⟨clci3, ccddi3, .cell (some (.ref E3)), csli3⟩)
    (i3_co : K.lookup codi3 = some ⟨ccli3, cddi3, .fields vsi3, ccsi3⟩)
    (i3_fi : vsi3[2]? = some (.str fili3 tfii3))
    (i3_fe : ((P.main.file : Str) == fili3) = true)
    (i3_sb : PySem.W.mroIn K E3 (.ref E3) = some true)
    (i3_bm : bmi3 = .ref CE :: bmE)
    (i3_vB : PySem.W.subIn K (.ref E3) (.type "ValueError") = some true)
    (i3_bE : PySem.W.subIn K (.ref E3) (.type "BaseException") = some true)
    (i3_f_word : PySem.W.findIn K (.ref E3) "word" = some none)
    (i3_f_index : PySem.W.findIn K (.ref E3) "index" = some none)
    (top0 : (P.main.scope.names.lookup ("super" : Str)).isSome = false) : LamX.LawAtS l w K CX0 32 63 "_law_script" mg fa h := by
  have e := hfa.symm.trans (PySem.W.mg_of X G a_law)
  cases e
  subst eP
  have B : Blt mg := ⟨PySem.W.mg_none_of X G b_isinstance, PySem.W.mg_none_of X G b_len, PySem.W.mg_none_of X G b_all, PySem.W.mg_none_of X G b_any, PySem.W.mg_none_of X G b_sum, PySem.W.mg_none_of X G b_max, PySem.W.mg_none_of X G b_min, PySem.W.mg_none_of X G b_int, PySem.W.mg_none_of X G b_str, PySem.W.mg_none_of X G b_bool, PySem.W.mg_none_of X G b_list, PySem.W.mg_none_of X G b_tuple, PySem.W.mg_none_of X G b_dict, PySem.W.mg_none_of X G b_range, PySem.W.mg_none_of X G b_enumerate, PySem.W.mg_none_of X G b_sorted, PySem.W.mg_none_of X G b_reversed, PySem.W.mg_none_of X G b_zip, PySem.W.mg_none_of X G b_set, PySem.W.mg_none_of X G b_ValueError⟩
  have F_is_name := fun_mk (st := s_is_name) l_is_name c_is_name k_is_name
  have b_is_name := F_is_name.binds (ps := ["value"]) fun _ _ _ _ _ _ us hl => match us, hl with | [_], _ => rfl
  have F_is_integer := fun_mk (st := s_is_integer) l_is_integer c_is_integer k_is_integer
  have b_is_integer := F_is_integer.binds (ps := ["value"]) fun _ _ _ _ _ _ us hl => match us, hl with | [_], _ => rfl
  have F_rises := fun_mk (st := s_rises) l_rises c_rises k_rises
  have b_rises := F_rises.binds (ps := ["names", "index"]) fun _ _ _ _ _ _ us hl => match us, hl with | [_, _], _ => rfl
  have F_check_facts := fun_mk (st := s_check_facts) l_check_facts c_check_facts k_check_facts
  have b_check_facts := F_check_facts.binds (ps := ["facts"]) fun _ _ _ _ _ _ us hl => match us, hl with | [_], _ => rfl
  have F_nested := fun_mk (st := s_nested) l_nested c_nested k_nested
  have b_nested := F_nested.binds (ps := ["rules", "around"]) fun _ _ _ _ _ _ us hl => match us, hl with | [_, _], _ => rfl
  have F_check_rules := fun_mk (st := s_check_rules) l_check_rules c_check_rules k_check_rules
  have b_check_rules := F_check_rules.binds (ps := ["facts", "rules"]) fun _ _ _ _ _ _ us hl => match us, hl with | [_, _], _ => rfl
  have F_check_part := fun_mk (st := s_check_part) l_check_part c_check_part k_check_part
  have b_check_part := F_check_part.binds (ps := ["part", "names", "before"]) fun _ _ _ _ _ _ us hl => match us, hl with | [_, _, _], _ => rfl
  have F_merged := fun_mk (st := s_merged) l_merged c_merged k_merged
  have b_merged := F_merged.binds (ps := ["names", "others"]) fun _ _ _ _ _ _ us hl => match us, hl with | [_, _], _ => rfl
  have F_numbers_of_name := fun_mk (st := s_numbers_of_name) l_numbers_of_name c_numbers_of_name k_numbers_of_name
  have b_numbers_of_name := F_numbers_of_name.binds (ps := ["name"]) fun _ _ _ _ _ _ us hl => match us, hl with | [_], _ => rfl
  have F_numbers_of_rules := fun_mk (st := s_numbers_of_rules) l_numbers_of_rules c_numbers_of_rules k_numbers_of_rules
  have b_numbers_of_rules := F_numbers_of_rules.binds (ps := ["facts", "rules"]) fun _ _ _ _ _ _ us hl => match us, hl with | [_, _], _ => rfl
  have F_checksum := fun_mk (st := s_checksum) l_checksum c_checksum k_checksum
  have b_checksum := F_checksum.binds (ps := ["numbers"]) fun _ _ _ _ _ _ us hl => match us, hl with | [_], _ => rfl
  have F_encode_book := fun_mk (st := s_encode_book) l_encode_book c_encode_book k_encode_book
  have b_encode_book := F_encode_book.binds (ps := ["book"]) fun _ _ _ _ _ _ us hl => match us, hl with | [_], _ => rfl
  have F_decode_book := fun_mk (st := s_decode_book) l_decode_book c_decode_book k_decode_book
  have b_decode_book := F_decode_book.binds (ps := ["values"]) fun _ _ _ _ _ _ us hl => match us, hl with | [_], _ => rfl
  have F__law_mix := fun_mk (st := s__law_mix) l__law_mix c__law_mix k__law_mix
  have b__law_mix := F__law_mix.binds (ps := ["_law_script", "_law_seed"]) fun _ _ _ _ _ _ us hl => match us, hl with | [_, _], _ => rfl
  have F__law_next := fun_mk (st := s__law_next) l__law_next c__law_next k__law_next
  have b__law_next := F__law_next.binds (ps := ["_law_h", "_law_limit"]) fun _ _ _ _ _ _ us hl => match us, hl with | [_, _], _ => rfl
  have F__law_alike := fun_mk (st := s__law_alike) l__law_alike c__law_alike k__law_alike
  have b__law_alike := F__law_alike.binds (ps := ["_law_found", "_law_due"]) fun _ _ _ _ _ _ us hl => match us, hl with | [_, _], _ => rfl
  have F__law_facts := fun_mk (st := s__law_facts) l__law_facts c__law_facts k__law_facts
  have b__law_facts := F__law_facts.binds (ps := ["_law_h", "_law_most"]) fun _ _ _ _ _ _ us hl => match us, hl with | [_, _], _ => rfl
  have F__law_sides := fun_mk (st := s__law_sides) l__law_sides c__law_sides k__law_sides
  have b__law_sides := F__law_sides.binds (ps := ["_law_h", "_law_facts_here", "_law_most"]) fun _ _ _ _ _ _ us hl => match us, hl with | [_, _, _], _ => rfl
  have F__law_rule := fun_mk (st := s__law_rule) l__law_rule c__law_rule k__law_rule
  have b__law_rule := F__law_rule.binds (ps := ["_law_h", "_law_facts_here", "_law_names", "_law_deep"]) fun _ _ _ _ _ _ us hl => match us, hl with | [_, _, _, _], _ => rfl
  have F__law_drawn := fun_mk (st := s__law_drawn) l__law_drawn c__law_drawn k__law_drawn
  have b__law_drawn := F__law_drawn.binds (ps := ["_law_h", "_law_facts_here", "_law_most"]) fun _ _ _ _ _ _ us hl => match us, hl with | [_, _, _], _ => rfl
  have F__law_made := fun_mk (st := s__law_made) l__law_made c__law_made k__law_made
  have b__law_made := F__law_made.binds (ps := ["_law_rules"]) fun _ _ _ _ _ _ us hl => match us, hl with | [_], _ => rfl
  have F__law_book := fun_mk (st := s__law_book) l__law_book c__law_book k__law_book
  have b__law_book := F__law_book.binds (ps := ["_law_drawn_here"]) fun _ _ _ _ _ _ us hl => match us, hl with | [_], _ => rfl
  have F__law_told := fun_mk (st := s__law_told) l__law_told c__law_told k__law_told
  have b__law_told := F__law_told.binds (ps := ["_law_rules"]) fun _ _ _ _ _ _ us hl => match us, hl with | [_], _ => rfl
  have F__law_seen := fun_mk (st := s__law_seen) l__law_seen c__law_seen k__law_seen
  have b__law_seen := F__law_seen.binds (ps := ["_law_book_here"]) fun _ _ _ _ _ _ us hl => match us, hl with | [_], _ => rfl
  have F__law_name_code := fun_mk (st := s__law_name_code) l__law_name_code c__law_name_code k__law_name_code
  have b__law_name_code := F__law_name_code.binds (ps := ["_law_name"]) fun _ _ _ _ _ _ us hl => match us, hl with | [_], _ => rfl
  have F__law_rules_code := fun_mk (st := s__law_rules_code) l__law_rules_code c__law_rules_code k__law_rules_code
  have b__law_rules_code := F__law_rules_code.binds (ps := ["_law_rules", "_law_facts_here"]) fun _ _ _ _ _ _ us hl => match us, hl with | [_, _], _ => rfl
  have F__law_code := fun_mk (st := s__law_code) l__law_code c__law_code k__law_code
  have b__law_code := F__law_code.binds (ps := ["_law_drawn_here"]) fun _ _ _ _ _ _ us hl => match us, hl with | [_], _ => rfl
  have F__law_checked := fun_mk (st := s__law_checked) l__law_checked c__law_checked k__law_checked
  have b__law_checked := F__law_checked.binds (ps := ["_law_values"]) fun _ _ _ _ _ _ us hl => match us, hl with | [_], _ => rfl
  have ox_InvalidFacts : OexC K E0 := ⟨⟨_, _, _, _, _, _, _, _, _, _, _, _, _, _, _, i0_x, i0_rv⟩, i0_sa, i0_bE, i0_ty, i0_kC⟩
  have sp_InvalidFacts : SupC l.prog K mg E0 celi0 codi0 := ⟨⟨_, _, _, i0_ce⟩, ⟨_, _, _, _, _, _, i0_co, i0_fi, i0_fe⟩, i0_sb, PySem.W.mg_none_of X G noS, opq, sup_by i0_x x_E i0_bm f_E, i0_vB, top0⟩
  have ox_InvalidCondition : OexC K E1 := ⟨⟨_, _, _, _, _, _, _, _, _, _, _, _, _, _, _, i1_x, i1_rv⟩, i1_sa, i1_bE, i1_ty, i1_kC⟩
  have sp_InvalidCondition : SupC l.prog K mg E1 celi1 codi1 := ⟨⟨_, _, _, i1_ce⟩, ⟨_, _, _, _, _, _, i1_co, i1_fi, i1_fe⟩, i1_sb, PySem.W.mg_none_of X G noS, opq, sup_by i1_x x_E i1_bm f_E, i1_vB, top0⟩
  have ox_InvalidRule : OexC K E2 := ⟨⟨_, _, _, _, _, _, _, _, _, _, _, _, _, _, _, i2_x, i2_rv⟩, i2_sa, i2_bE, i2_ty, i2_kC⟩
  have sp_InvalidRule : SupC l.prog K mg E2 celi2 codi2 := ⟨⟨_, _, _, i2_ce⟩, ⟨_, _, _, _, _, _, i2_co, i2_fi, i2_fe⟩, i2_sb, PySem.W.mg_none_of X G noS, opq, sup_by i2_x x_E i2_bm f_E, i2_vB, top0⟩
  have ox_InvalidBook : OexC K E3 := ⟨⟨_, _, _, _, _, _, _, _, _, _, _, _, _, _, _, i3_x, i3_rv⟩, i3_sa, i3_bE, i3_ty, i3_kC⟩
  have sp_InvalidBook : SupC l.prog K mg E3 celi3 codi3 := ⟨⟨_, _, _, i3_ce⟩, ⟨_, _, _, _, _, _, i3_co, i3_fi, i3_fe⟩, i3_sb, PySem.W.mg_none_of X G noS, opq, sup_by i3_x x_E i3_bm f_E, i3_vB, top0⟩
  have F_mi := fun_mk (st := s_Condition___init__) l_mi c_mi k_mi
  have b_mi := F_mi.binds (ps := ["self", "holding", "failing"]) fun _ _ _ _ _ _ us hl => match us, hl with | [_, _, _], _ => rfl
  have F_mh := fun_mk (st := s_Condition_holding) l_mh c_mh k_mh
  have b_mh := F_mh.binds (ps := ["self"]) fun _ _ _ _ _ _ us hl => match us, hl with | [_], _ => rfl
  have F_mf := fun_mk (st := s_Condition_failing) l_mf c_mf k_mf
  have b_mf := F_mf.binds (ps := ["self"]) fun _ _ _ _ _ _ us hl => match us, hl with | [_], _ => rfl
  have F_mn := fun_mk (st := s_Condition_names) l_mn c_mn k_mn
  have b_mn := F_mn.binds (ps := ["self"]) fun _ _ _ _ _ _ us hl => match us, hl with | [_], _ => rfl
  have F_ri := fun_mk (st := s_Rule___init__) l_ri c_ri k_ri
  have b_ri := F_ri.binds (ps := ["self", "name", "condition", "ruling", "exceptions"]) fun _ _ _ _ _ _ us hl => match us, hl with | [_, _, _, _, _], _ => rfl
  have F_rn := fun_mk (st := s_Rule_name) l_rn c_rn k_rn
  have b_rn := F_rn.binds (ps := ["self"]) fun _ _ _ _ _ _ us hl => match us, hl with | [_], _ => rfl
  have F_rc := fun_mk (st := s_Rule_condition) l_rc c_rc k_rc
  have b_rc := F_rc.binds (ps := ["self"]) fun _ _ _ _ _ _ us hl => match us, hl with | [_], _ => rfl
  have F_rr := fun_mk (st := s_Rule_ruling) l_rr c_rr k_rr
  have b_rr := F_rr.binds (ps := ["self"]) fun _ _ _ _ _ _ us hl => match us, hl with | [_], _ => rfl
  have F_re := fun_mk (st := s_Rule_exceptions) l_re c_re k_re
  have b_re := F_re.binds (ps := ["self"]) fun _ _ _ _ _ _ us hl => match us, hl with | [_], _ => rfl
  have F_rd := fun_mk (st := s_Rule_depth) l_rd c_rd k_rd
  have b_rd := F_rd.binds (ps := ["self"]) fun _ _ _ _ _ _ us hl => match us, hl with | [_], _ => rfl
  have F_bi := fun_mk (st := s_Book___init__) l_bi c_bi k_bi
  have b_bi := F_bi.binds (ps := ["self", "facts", "rules", "ruling"]) fun _ _ _ _ _ _ us hl => match us, hl with | [_, _, _, _], _ => rfl
  have F_bf := fun_mk (st := s_Book_facts) l_bf c_bf k_bf
  have b_bf := F_bf.binds (ps := ["self"]) fun _ _ _ _ _ _ us hl => match us, hl with | [_], _ => rfl
  have F_bs := fun_mk (st := s_Book_rules) l_bs c_bs k_bs
  have b_bs := F_bs.binds (ps := ["self"]) fun _ _ _ _ _ _ us hl => match us, hl with | [_], _ => rfl
  have F_br := fun_mk (st := s_Book_ruling) l_br c_br k_br
  have b_br := F_br.binds (ps := ["self"]) fun _ _ _ _ _ _ us hl => match us, hl with | [_], _ => rfl
  have F_qi := fun_mk (st := s_Reader___init__) l_qi c_qi k_qi
  have b_qi := F_qi.binds (ps := ["self", "numbers"]) fun _ _ _ _ _ _ us hl => match us, hl with | [_, _], _ => rfl
  have F_qt := fun_mk (st := s_Reader_take) l_qt c_qt k_qt
  have b_qt := F_qt.binds (ps := ["self", "least", "most"]) fun _ _ _ _ _ _ us hl => match us, hl with | [_, _, _], _ => rfl
  have F_qn := fun_mk (st := s_Reader_take_name) l_qn c_qn k_qn
  have b_qn := F_qn.binds (ps := ["self"]) fun _ _ _ _ _ _ us hl => match us, hl with | [_], _ => rfl
  have F_qf := fun_mk (st := s_Reader_take_facts) l_qf c_qf k_qf
  have b_qf := F_qf.binds (ps := ["self"]) fun _ _ _ _ _ _ us hl => match us, hl with | [_], _ => rfl
  have F_qs := fun_mk (st := s_Reader_take_rules) l_qs c_qs k_qs
  have b_qs := F_qs.binds (ps := ["self", "facts", "around"]) fun _ _ _ _ _ _ us hl => match us, hl with | [_, _, _], _ => rfl
  have F_qr := fun_mk (st := s_Reader_take_rule) l_qr c_qr k_qr
  have b_qr := F_qr.binds (ps := ["self", "facts", "around"]) fun _ _ _ _ _ _ us hl => match us, hl with | [_, _, _], _ => rfl
  have F_qp := fun_mk (st := s_Reader_take_part) l_qp c_qp k_qp
  have b_qp := F_qp.binds (ps := ["self", "facts", "taken"]) fun _ _ _ _ _ _ us hl => match us, hl with | [_, _, _], _ => rfl
  have GN : GNames mg := ⟨⟨_, PySem.W.mg_of X G m_LETTERS⟩, ⟨_, PySem.W.mg_of X G m_LONGEST_NAME⟩⟩
  have CLc : Cls K CO := ⟨co_pg, co_hd, co_po, co_sa⟩
  have CLr : Cls K RO := ⟨ro_pg, ro_hd, ro_po, ro_sa⟩
  have CLb : Cls K BO := ⟨bo_pg, bo_hd, bo_po, bo_sa⟩
  have CLq : Cls K QO := ⟨qo_pg, qo_hd, qo_po, qo_sa⟩
  refine ⟨PySem.W.fnOf "law" "law" (defArgs s_law) (defBody s_law) (defScope s_law) .none kV_law dc_law pm_law an_law (.ref cc_law) ct_law, [], sp_law K, (fun _ h => nomatch h), (fun _ h => nomatch h), (fun _ h => nomatch h), ?_, ?_, ?_⟩
  · exact fun s u => .of_eq rfl
  · exact fun H a ns hl hb ht hS => ⟨a, ns, rfl, hS, hl, hb, fun _ => rfl⟩
  · intro base KB NB TBs
    have e_InvalidFacts : ErrMk l.prog w K mg base "InvalidFacts" E0 ["self", "index"] (sp_init1 E0 "index") := ⟨_, _, ox_InvalidFacts, i0_in, i0_tI, ok_init_InvalidFacts i0_lI i0_cI ox_InvalidFacts sp_InvalidFacts i0_f_index, fun s us _ hl => match us, hl with | [_, _], _ => .of_eq rfl, PySem.W.mg_of X G m_InvalidFacts⟩
    have e_InvalidCondition : ErrMk l.prog w K mg base "InvalidCondition" E1 ["self", "part", "index"] (sp_init2 E1 "part" "index") := ⟨_, _, ox_InvalidCondition, i1_in, i1_tI, ok_init_InvalidCondition i1_lI i1_cI ox_InvalidCondition sp_InvalidCondition i1_f_part i1_f_index, fun s us _ hl => match us, hl with | [_, _, _], _ => .of_eq rfl, PySem.W.mg_of X G m_InvalidCondition⟩
    have e_InvalidRule : ErrMk l.prog w K mg base "InvalidRule" E2 ["self", "part"] (sp_init1 E2 "part") := ⟨_, _, ox_InvalidRule, i2_in, i2_tI, ok_init_InvalidRule i2_lI i2_cI ox_InvalidRule sp_InvalidRule i2_f_part, fun s us _ hl => match us, hl with | [_, _], _ => .of_eq rfl, PySem.W.mg_of X G m_InvalidRule⟩
    have e_InvalidBook : ErrMk l.prog w K mg base "InvalidBook" E3 ["self", "word", "index"] (sp_init2 E3 "word" "index") := ⟨_, _, ox_InvalidBook, i3_in, i3_tI, ok_init_InvalidBook i3_lI i3_cI ox_InvalidBook sp_InvalidBook i3_f_word i3_f_index, fun s us _ hl => match us, hl with | [_, _, _], _ => .of_eq rfl, PySem.W.mg_of X G m_InvalidBook⟩
    have c_is_name : Cal l.prog w K mg base CX0 1 "is_name" ["value"] (sp_is_name) := ⟨_, _, (ok_is_name F_is_name B GN), PySem.W.mg_of X G a_is_name, k_is_name, b_is_name⟩
    have c_rises : Cal l.prog w K mg base CX0 1 "rises" ["names", "index"] (sp_rises K) := ⟨_, _, (ok_rises F_rises ), PySem.W.mg_of X G a_rises, k_rises, b_rises⟩
    have c_check_facts : Cal l.prog w K mg base (L2.CX l.prog w) 3 "check_facts" ["facts"] (sp_check_facts K E0) := ⟨_, _, (ok_check_facts F_check_facts B ⟨_, PySem.W.mg_of X G m_MOST_FACTS⟩ e_InvalidFacts c_is_name c_rises), PySem.W.mg_of X G a_check_facts, k_check_facts, b_check_facts⟩
    have c_check_part : Cal l.prog w K mg base (L2.CX l.prog w) 3 "check_part" ["part", "names", "before"] (sp_check_part K E1) := ⟨_, _, (ok_check_part F_check_part B ⟨_, PySem.W.mg_of X G m_MOST_NAMES⟩ e_InvalidCondition c_is_name c_rises), PySem.W.mg_of X G a_check_part, k_check_part, b_check_part⟩
    have c_merged : Cal l.prog w K mg base CX0 1 "merged" ["names", "others"] (sp_merged K) := ⟨_, _, (ok_merged F_merged B), PySem.W.mg_of X G a_merged, k_merged, b_merged⟩
    have pc_mh : PropC l.prog w K mg base CO pp_mh f_mh _ "holding" "_holding" := ⟨⟨pa_mh, pg_mh, pt_mh, ⟨_, pr_mh⟩⟩, ok_holding F_mh CLc co_n1, b_mh⟩
    have pc_mf : PropC l.prog w K mg base CO pp_mf f_mf _ "failing" "_failing" := ⟨⟨pa_mf, pg_mf, pt_mf, ⟨_, pr_mf⟩⟩, ok_failing F_mf CLc co_n2, b_mf⟩
    have pc_mn : PropC l.prog w K mg base CO pp_mn f_mn _ "names" "_names" := ⟨⟨pa_mn, pg_mn, pt_mn, ⟨_, pr_mn⟩⟩, ok_cnames F_mn CLc co_n3, b_mn⟩
    have pc_rn : PropC l.prog w K mg base RO pp_rn f_rn _ "name" "_name" := ⟨⟨pa_rn, pg_rn, pt_rn, ⟨_, pr_rn⟩⟩, ok_Rule_name F_rn CLr ro_n1, b_rn⟩
    have pc_rc : PropC l.prog w K mg base RO pp_rc f_rc _ "condition" "_condition" := ⟨⟨pa_rc, pg_rc, pt_rc, ⟨_, pr_rc⟩⟩, ok_Rule_condition F_rc CLr ro_n2, b_rc⟩
    have pc_rr : PropC l.prog w K mg base RO pp_rr f_rr _ "ruling" "_ruling" := ⟨⟨pa_rr, pg_rr, pt_rr, ⟨_, pr_rr⟩⟩, ok_Rule_ruling F_rr CLr ro_n3, b_rr⟩
    have pc_re : PropC l.prog w K mg base RO pp_re f_re _ "exceptions" "_exceptions" := ⟨⟨pa_re, pg_re, pt_re, ⟨_, pr_re⟩⟩, ok_Rule_exceptions F_re CLr ro_n4, b_re⟩
    have pc_rd : PropC l.prog w K mg base RO pp_rd f_rd _ "depth" "_depth" := ⟨⟨pa_rd, pg_rd, pt_rd, ⟨_, pr_rd⟩⟩, ok_Rule_depth F_rd CLr ro_n5, b_rd⟩
    have pc_bf : PropC l.prog w K mg base BO pp_bf f_bf _ "facts" "_facts" := ⟨⟨pa_bf, pg_bf, pt_bf, ⟨_, pr_bf⟩⟩, ok_Book_facts F_bf CLb bo_n1, b_bf⟩
    have pc_bs : PropC l.prog w K mg base BO pp_bs f_bs _ "rules" "_rules" := ⟨⟨pa_bs, pg_bs, pt_bs, ⟨_, pr_bs⟩⟩, ok_Book_rules F_bs CLb bo_n2, b_bs⟩
    have pc_br : PropC l.prog w K mg base BO pp_br f_br _ "ruling" "_ruling" := ⟨⟨pa_br, pg_br, pt_br, ⟨_, pr_br⟩⟩, ok_Book_ruling F_br CLb bo_n3, b_br⟩
    have kK : CondG l.prog w K mg base CO := ⟨CLc, ⟨_, _, _, pc_mh⟩, ⟨_, _, _, pc_mf⟩, ⟨_, _, _, pc_mn⟩⟩
    have kR : RuleX l.prog w K mg base RO := ⟨CLr, ⟨_, _, _, pc_rn⟩, ⟨_, _, _, pc_rc⟩, ⟨_, _, _, pc_rr⟩, ⟨_, _, _, pc_re⟩, ⟨_, _, _, pc_rd⟩⟩
    have kB : BookX l.prog w K mg base BO := ⟨CLb, ⟨_, _, _, pc_bf⟩, ⟨_, _, _, pc_bs⟩, ⟨_, _, _, pc_br⟩⟩
    have c_nested : Cal l.prog w K mg base CX0 15 "nested" ["rules", "around"] (sp_nested K CO RO 12) := ⟨_, _, rec_all (S := sp_nested K CO RO) (k := 2) (fun d c => ok_nested F_nested kR c) (PySem.W.mg_of X G a_nested) k_nested b_nested 12, PySem.W.mg_of X G a_nested, k_nested, b_nested⟩
    have c_check_rules : Cal l.prog w K mg base (L2.CX l.prog w) 16 "check_rules" ["facts", "rules"] (sp_check_rules K CO RO E3) := ⟨_, _, (ok_check_rules F_check_rules B kR kK (PySem.W.mg_of X G m_MOST_AROUND) (PySem.W.mg_of X G m_MOST_RULES) (PySem.W.mg_of X G m_MOST_OUTERMOST) e_InvalidBook c_nested), PySem.W.mg_of X G a_check_rules, k_check_rules, b_check_rules⟩
    have kM : Mkr l.prog w K mg base 4 "Condition" CO ["self", "holding", "failing"] (sp_cond_init K CO E1) := ⟨_, _, ⟨co_mk, co_in, co_fn, co_kp⟩, ok_cond_init F_mi B CLc co_n1 co_n2 co_n3 c_check_part c_merged, PySem.W.mg_of X G co, b_mi⟩
    have kRM : Mkr l.prog w K mg base 16 "Rule" RO ["self", "name", "condition", "ruling", "exceptions"] (sp_rule_init K CO RO E2) := ⟨_, _, ⟨ro_mk, ro_in, ro_fn, ro_kp⟩, ok_rule_init F_ri B CLr ro_n1 ro_n2 ro_n3 ro_n4 ro_n5 ro_n6 kR e_InvalidRule c_is_name c_nested, PySem.W.mg_of X G ro, b_ri⟩
    have kBM : Mkr l.prog w K mg base 17 "Book" BO ["self", "facts", "rules", "ruling"] (sp_book_init K CO RO BO E0 E3) := ⟨_, _, ⟨bo_mk, bo_in, bo_fn, bo_kp⟩, ok_book_init F_bi B CLb bo_n1 bo_n2 bo_n3 bo_n4 e_InvalidBook c_is_name c_nested c_check_facts c_check_rules, PySem.W.mg_of X G bo, b_bi⟩
    have c_is_integer : Cal l.prog w K mg base CX0 1 "is_integer" ["value"] (sp_is_integer K) := ⟨_, _, (ok_is_integer F_is_integer B), PySem.W.mg_of X G a_is_integer, k_is_integer, b_is_integer⟩
    have c__law_mix : Cal l.prog w K mg base CX0 1 "_law_mix" ["_law_script", "_law_seed"] (sp_mix K) := ⟨_, _, (ok_mix F__law_mix B), PySem.W.mg_of X G a__law_mix, k__law_mix, b__law_mix⟩
    have c__law_next : Cal l.prog w K mg base CX0 1 "_law_next" ["_law_h", "_law_limit"] (sp_next) := ⟨_, _, (ok_next F__law_next B), PySem.W.mg_of X G a__law_next, k__law_next, b__law_next⟩
    have c__law_facts : Cal l.prog w K mg base CX0 2 "_law_facts" ["_law_h", "_law_most"] (sp_factsF) := ⟨_, _, (ok_factsF F__law_facts B c__law_next), PySem.W.mg_of X G a__law_facts, k__law_facts, b__law_facts⟩
    have c__law_sides : Cal l.prog w K mg base CX0 2 "_law_sides" ["_law_h", "_law_facts_here", "_law_most"] (sp_sides K) := ⟨_, _, (ok_sides F__law_sides B c__law_next), PySem.W.mg_of X G a__law_sides, k__law_sides, b__law_sides⟩
    have c__law_rule : Cal l.prog w K mg base CX0 5 "_law_rule" ["_law_h", "_law_facts_here", "_law_names", "_law_deep"] (sp_rule2 K 2) := ⟨_, _, rec_all (S := sp_rule2 K) (k := 2) (fun d c => ok_rule2 F__law_rule B c__law_next c__law_sides c) (PySem.W.mg_of X G a__law_rule) k__law_rule b__law_rule 2, PySem.W.mg_of X G a__law_rule, k__law_rule, b__law_rule⟩
    have c__law_drawn : Cal l.prog w K mg base CX0 6 "_law_drawn" ["_law_h", "_law_facts_here", "_law_most"] (sp_drawn K) := ⟨_, _, (ok_drawn F__law_drawn B c__law_next c__law_rule), PySem.W.mg_of X G a__law_drawn, k__law_drawn, b__law_drawn⟩
    have c__law_made : Cal l.prog w K mg base CX0 30 "_law_made" ["_law_rules"] (sp_made K CO RO 12) := ⟨_, _, rec_all (S := sp_made K CO RO) (k := 17) (fun d c => ok_made F__law_made B kM kRM c) (PySem.W.mg_of X G a__law_made) k__law_made b__law_made 12, PySem.W.mg_of X G a__law_made, k__law_made, b__law_made⟩
    have c__law_book : Cal l.prog w K mg base CX0 31 "_law_book" ["_law_drawn_here"] (sp_bookF K CO RO BO) := ⟨_, _, (ok_bookF F__law_book B kBM c__law_made), PySem.W.mg_of X G a__law_book, k__law_book, b__law_book⟩
    have c__law_told : Cal l.prog w K mg base CX0 16 "_law_told" ["_law_rules"] (sp_told K CO RO 12) := ⟨_, _, rec_all (S := sp_told K CO RO) (k := 3) (fun d c => ok_told F__law_told B kR kK c) (PySem.W.mg_of X G a__law_told) k__law_told b__law_told 12, PySem.W.mg_of X G a__law_told, k__law_told, b__law_told⟩
    have c__law_seen : Cal l.prog w K mg base CX0 17 "_law_seen" ["_law_book_here"] (sp_seen K CO RO BO) := ⟨_, _, (ok_seen F__law_seen B kB c__law_told), PySem.W.mg_of X G a__law_seen, k__law_seen, b__law_seen⟩
    have c_numbers_of_name : Cal l.prog w K mg base CX0 1 "numbers_of_name" ["name"] (sp_nname) := ⟨_, _, (ok_nname F_numbers_of_name B GN), PySem.W.mg_of X G a_numbers_of_name, k_numbers_of_name, b_numbers_of_name⟩
    have c__law_name_code : Cal l.prog w K mg base CX0 1 "_law_name_code" ["_law_name"] (sp_nname) := ⟨_, _, (ok_lnname F__law_name_code B), PySem.W.mg_of X G a__law_name_code, k__law_name_code, b__law_name_code⟩
    have c_checksum : Cal l.prog w K mg base CX0 1 "checksum" ["numbers"] (sp_chk) := ⟨_, _, (ok_chk F_checksum B (PySem.W.mg_of X G m_CHECKSUM_BEGIN) (PySem.W.mg_of X G m_CHECKSUM_FACTOR) (PySem.W.mg_of X G m_CHECKSUM_RANGE)), PySem.W.mg_of X G a_checksum, k_checksum, b_checksum⟩
    have c__law_checked : Cal l.prog w K mg base CX0 1 "_law_checked" ["_law_values"] (sp_chk) := ⟨_, _, (ok_lchk F__law_checked B), PySem.W.mg_of X G a__law_checked, k__law_checked, b__law_checked⟩
    have c_numbers_of_rules : Cal l.prog w K mg base CX0 16 "numbers_of_rules" ["facts", "rules"] (sp_nrules K CO RO 12) := ⟨_, _, rec_all (S := sp_nrules K CO RO) (k := 3) (fun d c => ok_nrules F_numbers_of_rules B kR kK c_numbers_of_name c) (PySem.W.mg_of X G a_numbers_of_rules) k_numbers_of_rules b_numbers_of_rules 12, PySem.W.mg_of X G a_numbers_of_rules, k_numbers_of_rules, b_numbers_of_rules⟩
    have c_encode_book : Cal l.prog w K mg base CX0 17 "encode_book" ["book"] (sp_encode K CO RO BO) := ⟨_, _, (ok_encode F_encode_book B kB (PySem.W.mg_of X G m_FIRST_NUMBER) c_numbers_of_name c_numbers_of_rules c_checksum), PySem.W.mg_of X G a_encode_book, k_encode_book, b_encode_book⟩
    have c__law_rules_code : Cal l.prog w K mg base CX0 14 "_law_rules_code" ["_law_rules", "_law_facts_here"] (sp_lrules K 12) := ⟨_, _, rec_all (S := sp_lrules K) (k := 1) (fun d c => ok_lrules F__law_rules_code B c__law_name_code c) (PySem.W.mg_of X G a__law_rules_code) k__law_rules_code b__law_rules_code 12, PySem.W.mg_of X G a__law_rules_code, k__law_rules_code, b__law_rules_code⟩
    have c__law_code : Cal l.prog w K mg base CX0 15 "_law_code" ["_law_drawn_here"] (sp_lcode K) := ⟨_, _, (ok_lcode F__law_code B c__law_name_code c__law_rules_code), PySem.W.mg_of X G a__law_code, k__law_code, b__law_code⟩
    have mq_take : MethR l.prog w K mg base 2 QO "take" ["self", "least", "most"] (sp_take QO) := ⟨_, _, ⟨at_qt, fn_qt, k_qt⟩, ok_take F_qt B CLq qo_n1 qo_n2 c_is_integer, b_qt⟩
    have mq_take_name : MethR l.prog w K mg base 3 QO "take_name" ["self"] (sp_tname QO) := ⟨_, _, ⟨at_qn, fn_qn, k_qn⟩, ok_tname F_qn B GN CLq mq_take, b_qn⟩
    have mq_take_facts : MethR l.prog w K mg base 4 QO "take_facts" ["self"] (sp_tfacts K QO) := ⟨_, _, ⟨at_qf, fn_qf, k_qf⟩, ok_tfacts F_qf B (PySem.W.mg_of X G m_MOST_FACTS) CLq qo_n2 mq_take mq_take_name, b_qf⟩
    have mq_take_part : MethR l.prog w K mg base 3 QO "take_part" ["self", "facts", "taken"] (sp_tpart K QO) := ⟨_, _, ⟨at_qp, fn_qp, k_qp⟩, ok_tpart F_qp B (PySem.W.mg_of X G m_MOST_NAMES) CLq qo_n2 mq_take, b_qp⟩
    have mq_take_rules : MethR l.prog w K mg base 30 QO "take_rules" ["self", "facts", "around"] (sp_trules K CO RO QO 6) := ⟨_, _, ⟨at_qs, fn_qs, k_qs⟩, all_trules F_qs F_qr B CLq qo_n2 qo_n3 qo_n4 (PySem.W.mg_of X G m_MOST_OUTERMOST) (PySem.W.mg_of X G m_MOST_AROUND) (PySem.W.mg_of X G m_MOST_RULES) kM kRM mq_take mq_take_name mq_take_part ⟨at_qs, fn_qs, k_qs⟩ ⟨at_qr, fn_qr, k_qr⟩ b_qs b_qr 6, b_qs⟩
    have kQ : Mkr0 l.prog w K mg base 1 "Reader" QO ["self", "numbers"] (sp_rinit QO) := ⟨_, _, ⟨qo_mk, qo_in, qo_fn, qo_kp⟩, ok_rinit F_qi B CLq qo_n1 qo_n2 qo_n3 qo_n4, PySem.W.mg_of X G qo, b_qi⟩
    have c_decode_book : Cal l.prog w K mg base CX0 31 "decode_book" ["values"] (sp_decode K CO RO BO) := ⟨_, _, (ok_decode F_decode_book B CLq qo_n2 (PySem.W.mg_of X G m_FIRST_NUMBER) kBM kQ c_checksum mq_take mq_take_name mq_take_facts mq_take_rules), PySem.W.mg_of X G a_decode_book, k_decode_book, b_decode_book⟩
    have c__law_alike : Cal l.prog w K mg base CX0 30 "_law_alike" ["_law_found", "_law_due"] (sp_alikeT K 29) := ⟨_, _, alikeT_all F__law_alike B (PySem.W.mg_of X G a__law_alike) k__law_alike b__law_alike 29, PySem.W.mg_of X G a__law_alike, k__law_alike, b__law_alike⟩
    have ICb : IsiC K BO := ⟨bo_ca, sg, tk, bo_ob, kit_by bo_ss bo_cl bo_ty bo_ss⟩
    exact ok_law (fun_mk (st := s_law) l_law c_law k_law) B (PySem.W.mg_of X G bo) ICb CLb c__law_mix c__law_next c__law_facts c__law_drawn c__law_code c__law_checked c__law_book c_encode_book c_decode_book c__law_seen c__law_alike
end Sc
/-! the head's facts read by a Hook of one's own: functions by address, all else by one Bool -/
namespace HeadY
open PySem PySem.Spec PyProof.Rows L2 He
/-! ### addresses -/
def recF (K : PySem.W.Frag) (p : Addr) : Addr := match PySem.W.recIn K p "property" with
  | some (.ref g :: _) => g
  | _ => 0
def codA (K : PySem.W.Frag) (f : Addr) : Addr := match K.lookup f with
  | some ⟨_, _, .func fd, _⟩ => (match fd.code with
    | .ref c => c
    | _ => 0)
  | _ => 0
def cloA (K : PySem.W.Frag) (f : Addr) : Addr := match K.lookup f with
  | some ⟨_, _, .func fd, _⟩ => (match fd.closure with
    | (_, c) :: _ => c
    | _ => 0)
  | _ => 0
def mroT (K : PySem.W.Frag) (C : Addr) : List Value := match K.lookup C with
  | some ⟨_, _, .cls cd, _⟩ => cd.mro.tail
  | _ => []
/-! ### functions -/
abbrev FnY : Type := Option (Str × Str × Arguments × FuncBody × Scope)
def fnY (K : PySem.W.Frag) (a : Addr) : FnY := match K.lookup a with
  | some ⟨_, _, .func fd, _⟩ => some (fd.name, fd.qualname, fd.params, fd.body, fd.scope)
  | _ => none
structure FnDY where
  at_ : PySem.W.Frag → Addr
  name : Str
  qual : Str
  params : Arguments
  body : List Stmt
  scope : Scope
def FnDY.val (d : FnDY) : FnY := some (d.name, d.qual, d.params, .stmts d.body, d.scope)
def fnB (K : PySem.W.Frag) (a : Addr) (q : Str) : Bool := match K.lookup a with
  | some ⟨_, _, .func fd, _⟩ => PySem.W.codeIn K (.ref (codA K a)) q && (decide (fd.code = .ref (codA K a)) && (decide (fd.globals = mainGlobals) && (fd.closure.isEmpty && (decide (fd.defaults = .none) && decide (fd.builtins = builtinsNs)))))
  | _ => false
def fnBC (K : PySem.W.Frag) (a : Addr) (q : Str) : Bool := match K.lookup a with
  | some ⟨_, _, .func fd, _⟩ => PySem.W.codeIn K (.ref (codA K a)) q && (decide (fd.code = .ref (codA K a)) && (decide (fd.globals = mainGlobals) && (decide (fd.closure = [(("__class__" : Str), cloA K a)]) && (decide (fd.defaults = .none) && decide (fd.builtins = builtinsNs)))))
  | _ => false
theorem fn_ok {K : PySem.W.Frag} {a : Addr} {n q : Str} {ps : Arguments} {b : List Stmt} {sc : Scope} (e : fnY K a = some (n, q, ps, .stmts b, sc)) (c : fnB K a q = true) :
    ∃ oc od kV dc pm an ct sl, K.lookup a = some ⟨oc, od, .func (PySem.W.fnOf n q ps b sc .none kV dc pm an (.ref (codA K a)) ct), sl⟩ ∧ PySem.W.codeIn K (.ref (codA K a)) q = true := by
  unfold fnB at c
  unfold fnY at e
  cases z : K.lookup a with
  | none => rw [z] at c; cases c
  | some o =>
    obtain ⟨oc, od, dt, sl⟩ := o
    rw [z] at c e
    cases dt with
    | func fd =>
      obtain ⟨n1, n2, n3, n4, n5, n6, n7, n8, n9, n10, n11, n12, n13, n14, n15⟩ := fd
      have e2 : (some (n1, n2, n3, n4, n5) : FnY) = some (n, q, ps, .stmts b, sc) := e
      simp only [Option.some.injEq, Prod.mk.injEq] at e2
      obtain ⟨h1, h2, h3, h4, h5⟩ := e2
      obtain ⟨c1, c⟩ := ba c
      obtain ⟨c2, c⟩ := ba c
      obtain ⟨c3, c⟩ := ba c
      obtain ⟨c4, c⟩ := ba c
      obtain ⟨c5, c6⟩ := ba c
      have c2 : n13 = _ := of_decide_eq_true c2
      have c3 : n6 = _ := of_decide_eq_true c3
      have c4 : n7 = [] := List.isEmpty_iff.mp c4
      have c5 : n8 = _ := of_decide_eq_true c5
      have c6 : n15 = _ := of_decide_eq_true c6
      exact ⟨oc, od, n9, n10, n11, n12, n14, sl, by rw [h1, h2, h3, h4, h5, c2, c3, c4, c5, c6], c1⟩
    | _ => cases c
theorem fn_okC {K : PySem.W.Frag} {a : Addr} {n q : Str} {ps : Arguments} {b : List Stmt} {sc : Scope} (e : fnY K a = some (n, q, ps, .stmts b, sc)) (c : fnBC K a q = true) :
    ∃ oc od kV dc pm an ct sl, K.lookup a = some ⟨oc, od, .func (PySem.W.fnX n q ps b sc [(("__class__" : Str), cloA K a)] .none kV dc pm an (.ref (codA K a)) ct), sl⟩ ∧ PySem.W.codeIn K (.ref (codA K a)) q = true := by
  unfold fnBC at c
  unfold fnY at e
  cases z : K.lookup a with
  | none => rw [z] at c; cases c
  | some o =>
    obtain ⟨oc, od, dt, sl⟩ := o
    rw [z] at c e
    cases dt with
    | func fd =>
      obtain ⟨n1, n2, n3, n4, n5, n6, n7, n8, n9, n10, n11, n12, n13, n14, n15⟩ := fd
      have e2 : (some (n1, n2, n3, n4, n5) : FnY) = some (n, q, ps, .stmts b, sc) := e
      simp only [Option.some.injEq, Prod.mk.injEq] at e2
      obtain ⟨h1, h2, h3, h4, h5⟩ := e2
      obtain ⟨c1, c⟩ := ba c
      obtain ⟨c2, c⟩ := ba c
      obtain ⟨c3, c⟩ := ba c
      obtain ⟨c4, c⟩ := ba c
      obtain ⟨c5, c6⟩ := ba c
      have c2 : n13 = _ := of_decide_eq_true c2
      have c3 : n6 = _ := of_decide_eq_true c3
      have c4 : n7 = _ := of_decide_eq_true c4
      have c5 : n8 = _ := of_decide_eq_true c5
      have c6 : n15 = _ := of_decide_eq_true c6
      exact ⟨oc, od, n9, n10, n11, n12, n14, sl, by rw [h1, h2, h3, h4, h5, c2, c3, c4, c5, c6], c1⟩
    | _ => cases c
/-! ### shapes -/
def intB (K : PySem.W.Frag) (x : Str) (i : Int) : Bool := match PySem.W.nsIn K mainGlobals x with
  | some (some (.int j _)) => decide (j = i)
  | _ => false
theorem int_is {K : PySem.W.Frag} {x : Str} {i : Int} (c : intB K x i = true) : ∃ t, PySem.W.nsIn K mainGlobals x = some (some (.int i t)) := by
  unfold intB at c
  split at c
  · rename_i j t e
    exact ⟨t, by rw [e, of_decide_eq_true c]⟩
  · cases c
def strB (K : PySem.W.Frag) (x s : Str) : Bool := match PySem.W.nsIn K mainGlobals x with
  | some (some (.str j _)) => decide (j = s)
  | _ => false
theorem str_is {K : PySem.W.Frag} {x s : Str} (c : strB K x s = true) : ∃ t, PySem.W.nsIn K mainGlobals x = some (some (.str s t)) := by
  unfold strB at c
  split at c
  · rename_i j t e
    exact ⟨t, by rw [e, of_decide_eq_true c]⟩
  · cases c
def recB (K : PySem.W.Frag) (p : Addr) : Bool := match PySem.W.recIn K p "property" with
  | some (.ref g :: _) => decide (g = recF K p)
  | _ => false
theorem rec_is {K : PySem.W.Frag} {p : Addr} (c : recB K p = true) : ∃ rs, PySem.W.recIn K p "property" = some (.ref (recF K p) :: rs) := by
  unfold recB at c
  split at c
  · rename_i g rs e
    exact ⟨rs, by rw [e, of_decide_eq_true c]⟩
  · cases c
theorem some_is {α : Type} {o : Option α} (c : o.isSome = true) : ∃ x, o = some x := Option.isSome_iff_exists.mp c
def sixB (id : String) : List (Option Value) → Bool
  | [_, _, _, _, some (.builtin b), _] => decide (b = id)
  | _ => false
theorem six_is {id : String} {l : List (Option Value)} (c : sixB id l = true) : ∃ x0 x1 x2 x3 x5, l = [x0, x1, x2, x3, some (.builtin id), x5] := by
  unfold sixB at c
  split at c
  · have c := of_decide_eq_true c
    exact ⟨_, _, _, _, _, by rw [c]⟩
  · cases c
def excB (K : PySem.W.Frag) (C : Addr) (id : String) : Bool := match K.lookup C with
  | some ⟨.type t, _, .cls cd, sl⟩ => decide (t = "type") && (decide (cd.mro = .ref C :: mroT K C) && (cd.hasDict && (!cd.hasDel && sixB id sl.toList)))
  | _ => false
theorem exc_is {K : PySem.W.Frag} {C : Addr} {id : String} (c : excB K C id = true) :
    ∃ nm q N bs sn su ab col dd x0 x1 x2 x3 x5, K.lookup C = some (excClassObj nm q C N bs (mroT K C) true sn su ab col dd x0 x1 x2 x3 x5 id) := by
  unfold excB at c
  cases z : K.lookup C with
  | none => rw [z] at c; cases c
  | some o =>
    obtain ⟨oc, od, dt, ⟨sl⟩⟩ := o
    rw [z] at c
    cases oc with
    | type t =>
      cases dt with
      | cls cd =>
        obtain ⟨n1, n2, n3, n4, n5, n6, n7, n8, n9, n10, n11⟩ := cd
        obtain ⟨c1, c⟩ := ba c
        obtain ⟨c2, c⟩ := ba c
        obtain ⟨c3, c⟩ := ba c
        obtain ⟨c4, c5⟩ := ba c
        have c1 : t = _ := of_decide_eq_true c1
        have c2 : n3 = _ := of_decide_eq_true c2
        have c3 : n6 = true := c3
        have c4 : n11 = false := by
          cases n11 with
          | false => rfl
          | true => cases c4
        obtain ⟨x0, x1, x2, x3, x5, c5⟩ := six_is (l := sl) c5
        exact ⟨n1, n5, n4, n2, n7, n8, n9, n10, od, x0, x1, x2, x3, x5, by rw [c1, c2, c3, c4, c5]⟩
      | _ => cases c
    | _ => cases dt <;> cases c
def cellB (K : PySem.W.Frag) (c E : Addr) : Bool := match K.lookup c with
  | some ⟨_, _, .cell (some (.ref a)), _⟩ => decide (a = E)
  | _ => false
theorem cell_is {K : PySem.W.Frag} {c E : Addr} (e : cellB K c E = true) : ∃ cl cd sl, K.lookup c = some ⟨cl, cd, .cell (some (.ref E)), sl⟩ := by
  unfold cellB at e
  split at e
  · rename_i a _ z
    exact ⟨_, _, _, by rw [z, of_decide_eq_true e]⟩
  · cases e
def fileB (K : PySem.W.Frag) (c : Addr) (f : Str) : Bool := match K.lookup c with
  | some ⟨_, _, .fields vs, _⟩ => (match (vs[2]? : Option Value) with
    | some (.str x _) => f == x
    | _ => false)
  | _ => false
theorem file_is {K : PySem.W.Frag} {c : Addr} {f : Str} (e : fileB K c f = true) : ∃ cl cd vs sl x t, K.lookup c = some ⟨cl, cd, .fields vs, sl⟩ ∧ vs[2]? = some (.str x t) ∧ (f == x) = true := by
  unfold fileB at e
  split at e
  · rename_i vs _ z
    split at e
    · rename_i x t y
      exact ⟨_, _, _, _, x, t, z, y, e⟩
    · cases e
  · cases e
def strsB : List Value → List Str → Bool
  | [], [] => true
  | .str x _ :: r, s :: ss => decide (x = s) && strsB r ss
  | _, _ => false
theorem strs_is : ∀ {l : List Value} {ss : List Str}, strsB l ss = true → ∃ us : List Tok, us.length = ss.length ∧ l = List.zipWith Value.str ss us
  | [], [], _ => ⟨[], rfl, rfl⟩
  | [], s :: ss, h => by cases h
  | v :: r, [], h => by cases v <;> cases h
  | v :: r, s :: ss, h => by
    cases v with
    | str x t =>
      obtain ⟨h1, h2⟩ := ba h
      obtain ⟨us, e1, e2⟩ := strs_is h2
      refine ⟨t :: us, by simp [e1], ?_⟩
      have h1 : x = s := of_decide_eq_true h1
      rw [h1, e2]
      rfl
    | _ => cases h
def tupB (K : PySem.W.Frag) (a : Addr) (ss : List Str) : Bool := match K.lookup a with
  | some ⟨.type c, _, .seq its _, _⟩ => decide (c = "tuple") && strsB its.toList ss
  | _ => false
theorem tup_is {K : PySem.W.Frag} {a : Addr} {ss : List Str} (e : tupB K a ss = true) : ∃ od n sl, ∃ us : List Tok, us.length = ss.length ∧ K.lookup a = some ⟨.type "tuple", od, .seq ⟨List.zipWith Value.str ss us⟩ n, sl⟩ := by
  unfold tupB at e
  cases z : K.lookup a with
  | none => rw [z] at e; cases e
  | some o =>
    obtain ⟨oc, od, dt, sl⟩ := o
    rw [z] at e
    cases oc with
    | type c =>
      cases dt with
      | seq its n =>
        obtain ⟨⟨its⟩⟩ : Nonempty { x : Array Value // x = its } := ⟨⟨its, rfl⟩⟩
        obtain ⟨e1, e2⟩ := ba e
        obtain ⟨us, h1, h2⟩ := strs_is e2
        have e1 : c = "tuple" := of_decide_eq_true e1
        refine ⟨od, n, sl, us, h1, ?_⟩
        rw [e1, ← h2]
      | _ => cases e
    | _ => cases dt <;> cases e
theorem len1 {α : Type} {us : List α} (h : us.length = 1) : ∃ a, us = [a] := by
  match us, h with
  | [a], _ => exact ⟨a, rfl⟩
theorem len2 {α : Type} {us : List α} (h : us.length = 2) : ∃ a b, us = [a, b] := by
  match us, h with
  | [a, b], _ => exact ⟨a, b, rfl⟩
theorem len3 {α : Type} {us : List α} (h : us.length = 3) : ∃ a b c, us = [a, b, c] := by
  match us, h with
  | [a, b, c], _ => exact ⟨a, b, c, rfl⟩
theorem len4 {α : Type} {us : List α} (h : us.length = 4) : ∃ a b c d, us = [a, b, c, d] := by
  match us, h with
  | [a, b, c, d], _ => exact ⟨a, b, c, d, rfl⟩
theorem len5 {α : Type} {us : List α} (h : us.length = 5) : ∃ a b c d e, us = [a, b, c, d, e] := by
  match us, h with
  | [a, b, c, d, e], _ => exact ⟨a, b, c, d, e, rfl⟩
theorem tbl_is {K : PySem.W.Frag} {c T : Addr} (e : PySem.W.codeHdIn K c T = true) : ∃ o, K.lookup c = some o ∧ PySem.W.codeHdIn [(c, o)] c T = true := by
  cases z : K.lookup c with
  | none =>
    unfold PySem.W.codeHdIn at e
    rw [z] at e
    cases e
  | some o =>
    refine ⟨o, rfl, ?_⟩
    unfold PySem.W.codeHdIn at e ⊢
    have q : ([(c, o)] : PySem.W.Frag).lookup c = some o := by simp [List.lookup]
    rw [q]
    rw [z] at e
    exact e
/-! ### the Hook -/
abbrev AlY : Type := List FnY × Bool
structure SaysY (fn : List FnDY) (tf : List (PySem.W.Frag → Addr)) (ex : PySem.W.Frag → Bool) (h : Heap) (K : PySem.W.Frag) : Prop where
  fns : fn.map (fun d => fnY K (d.at_ K)) = fn.map FnDY.val
  more : ex K = true
  hd : ∀ p ∈ tf, PySem.W.codeHdIn K (p K) (tabOf K (p K)) = true
  out : ∀ p ∈ tf, K.lookup (tabOf K (p K)) = none
  empty : ∀ p ∈ tf, h.get? (tabOf K (p K)) = some { cls := .none, data := .fields #[] }
def tabsY (g : Addr → Option Obj) (tf : List (PySem.W.Frag → Addr)) (K : PySem.W.Frag) : Bool := tf.all fun p => PySem.W.codeHdIn K (p K) (tabOf K (p K)) && (match g (tabOf K (p K)) with
  | some o => emptyTab o
  | none => false)
def obsY (as : List Addr) (fn : List FnDY) (tf : List (PySem.W.Frag → Addr)) (ex : PySem.W.Frag → Bool) (g : Addr → Option Obj) : AlY :=
  (fun K : PySem.W.Frag => (fn.map (fun d => fnY K (d.at_ K)), ex K && tabsY g tf K)) (frT g as)
def valY (fn : List FnDY) : AlY := (fn.map FnDY.val, true)
theorem saysY_of {as : List Addr} {fn : List FnDY} {tf : List (PySem.W.Frag → Addr)} {ex : PySem.W.Frag → Bool} {h : Heap} (e : obsY as fn tf ex h.get? = valY fn) : SaysY fn tf ex h (frT h.get? as) := by
  have e1 : fn.map (fun d => fnY (frT h.get? as) (d.at_ (frT h.get? as))) = fn.map FnDY.val := congrArg (fun z : AlY => z.1) e
  have e2 : (ex (frT h.get? as) && tabsY h.get? tf (frT h.get? as)) = true := congrArg (fun z : AlY => z.2) e
  obtain ⟨h1, h2⟩ := ba e2
  have key : ∀ p ∈ tf, PySem.W.codeHdIn (frT h.get? as) (p (frT h.get? as)) (tabOf (frT h.get? as) (p (frT h.get? as))) = true ∧ ∃ o, h.get? (tabOf (frT h.get? as) (p (frT h.get? as))) = some o ∧ emptyTab o = true := fun p hp => by
    obtain ⟨h3, h4⟩ := ba (List.all_eq_true.mp h2 p hp)
    refine ⟨h3, ?_⟩
    split at h4
    · rename_i o q
      exact ⟨o, q, h4⟩
    · cases h4
  exact ⟨e1, h1, fun p hp => (key p hp).1, fun p hp => by
    obtain ⟨_, o, q, z⟩ := key p hp
    exact frT_none q z, fun p hp => by
    obtain ⟨_, o, q, z⟩ := key p hp
    rw [q, emptyTab_eq z]⟩
def hookY (as : List Addr) (fn : List FnDY) (tf : List (PySem.W.Frag → Addr)) (ex : PySem.W.Frag → Bool) : PySem.W.Hook where
  α := AlY
  obs := fun s => obsY as fn tf ex s.heap.get?
  val := fun _ => valY fn
  says := fun _ h => ∃ K : PySem.W.Frag, K.In h ∧ SaysY fn tf ex h K
  of := fun _ _ e => ⟨_, frT_in, saysY_of e⟩
  keeps := fun _ _ _ ⟨K, hK, c⟩ k => ⟨K, PySem.W.Frag.In.keeps hK k, ⟨c.fns, c.more, c.hd, c.out, fun p hp => k _ _ (c.empty p hp)⟩⟩
theorem obsY_eq {as : List Addr} {fn : List FnDY} {tf : List (PySem.W.Frag → Addr)} {ex : PySem.W.Frag → Bool} {g : Addr → Option Obj} {s : Shared} (h : ∀ a, g a = s.heap.get? a) : obsY as fn tf ex g = (hookY as fn tf ex).obs s := by
  have e : g = s.heap.get? := funext h
  rw [e] <;> rfl
theorem map_join {α β γ δ ε : Type} {X : Option α} {a : α → β} {b : α → γ} {c : α → δ} {d : α → ε} {x : β} {y : γ} {z : δ} {u : ε} (h1 : X.map (fun s => (a s, b s, c s)) = some (x, y, z)) (h2 : X.map (fun s => (a s, b s, d s)) = some (x, y, u)) : ∃ s, X = some s ∧ a s = x ∧ b s = y ∧ c s = z ∧ d s = u := by
  cases X with
  | none => cases h1
  | some s =>
    have e1 : (a s, b s, c s) = (x, y, z) := Option.some.inj h1
    have e2 : (a s, b s, d s) = (x, y, u) := Option.some.inj h2
    simp only [Prod.mk.injEq] at e1 e2
    exact ⟨s, rfl, e1.1, e1.2.1, e1.2.2, e2.2.2⟩
/-- two runs, two parts of what is looked at -/
theorem run_join {r : PySem.W.OpenRow} {q : Program} {M : Nat} {loose : List Str} {w : World} {as : List Addr} {fn1 fn2 : List FnDY} {tf1 tf2 : List (PySem.W.Frag → Addr)} {ex1 ex2 : PySem.W.Frag → Bool}
    (h1 : HandSHeadRun.RunEq r q (hookY as fn1 tf1 ex1) (fun s => obsY as fn1 tf1 ex1 (HandSHeadRun.getT s)) M loose w) (h2 : HandSHeadRun.RunEq r q (hookY as fn2 tf2 ex2) (fun s => obsY as fn2 tf2 ex2 (HandSHeadRun.getT s)) M loose w) :
    HandSHeadRun.RunEq r q (hookY as (fn1 ++ fn2) (tf1 ++ tf2) (fun K => ex1 K && ex2 K)) (fun s => obsY as (fn1 ++ fn2) (tf1 ++ tf2) (fun K => ex1 K && ex2 K) (HandSHeadRun.getT s)) M loose w := by
  intro os
  obtain ⟨s, e, e1, e2, e3, e4⟩ := map_join (h1 os) (h2 os)
  rw [e]
  have e3 : obsY as fn1 tf1 ex1 (HandSHeadRun.getT s) = valY fn1 := e3
  have e4 : obsY as fn2 tf2 ex2 (HandSHeadRun.getT s) = valY fn2 := e4
  have a1 : fn1.map (fun d => fnY (frT (HandSHeadRun.getT s) as) (d.at_ (frT (HandSHeadRun.getT s) as))) = fn1.map FnDY.val := congrArg (fun z : AlY => z.1) e3
  have a2 : (ex1 (frT (HandSHeadRun.getT s) as) && tabsY (HandSHeadRun.getT s) tf1 (frT (HandSHeadRun.getT s) as)) = true := congrArg (fun z : AlY => z.2) e3
  have b1 : fn2.map (fun d => fnY (frT (HandSHeadRun.getT s) as) (d.at_ (frT (HandSHeadRun.getT s) as))) = fn2.map FnDY.val := congrArg (fun z : AlY => z.1) e4
  have b2 : (ex2 (frT (HandSHeadRun.getT s) as) && tabsY (HandSHeadRun.getT s) tf2 (frT (HandSHeadRun.getT s) as)) = true := congrArg (fun z : AlY => z.2) e4
  obtain ⟨a2, a3⟩ := ba a2
  obtain ⟨b2, b3⟩ := ba b2
  have c : obsY as (fn1 ++ fn2) (tf1 ++ tf2) (fun K => ex1 K && ex2 K) (HandSHeadRun.getT s) = valY (fn1 ++ fn2) := by
    show ((fn1 ++ fn2).map (fun d => fnY (frT (HandSHeadRun.getT s) as) (d.at_ (frT (HandSHeadRun.getT s) as))), (ex1 (frT (HandSHeadRun.getT s) as) && ex2 (frT (HandSHeadRun.getT s) as)) && tabsY (HandSHeadRun.getT s) (tf1 ++ tf2) (frT (HandSHeadRun.getT s) as)) = ((fn1 ++ fn2).map FnDY.val, true)
    have t : tabsY (HandSHeadRun.getT s) (tf1 ++ tf2) (frT (HandSHeadRun.getT s) as) = true := by
      unfold tabsY at a3 b3 ⊢
      rw [List.all_append, a3, b3] <;> rfl
    rw [List.map_append, List.map_append, a1, b1, a2, b2, t] <;> rfl
  show some (_, _, _) = some (_, _, _)
  rw [e1, e2]
  exact congrArg (fun z => some (true, PySem.W.openGood q loose, z)) c
theorem SaysY.fn {fn : List FnDY} {tf : List (PySem.W.Frag → Addr)} {ex : PySem.W.Frag → Bool} {h : Heap} {K : PySem.W.Frag} (c : SaysY fn tf ex h K) (i : Nat) {d : FnDY} (e : fn[i]? = some d) : fnY K (d.at_ K) = some (d.name, d.qual, d.params, .stmts d.body, d.scope) := by
  have e2 : (fn.map fun d => fnY K (d.at_ K))[i]? = (fn.map FnDY.val)[i]? := by rw [c.fns]
  rw [List.getElem?_map, List.getElem?_map, e] at e2
  exact Option.some.inj e2
end HeadY
namespace Sc
open PySem PySem.Spec PyProof.Rows L2 HeadY He
abbrev theLaw : PySem.W.OpenLaw := PySem.Challenge.rw_smallcourt_k59_whole_books_encoded
abbrev theRow : PySem.W.OpenRow := PySem.W.OpenLaw.row PySem.Challenge.rw_smallcourt_k59_whole_books_encoded
def theFile : Str := theRow.prog.main.file
def Ad_f_is_name (K : PySem.W.Frag) : Addr := ga K "is_name"
def Ad_f_is_integer (K : PySem.W.Frag) : Addr := ga K "is_integer"
def Ad_f_rises (K : PySem.W.Frag) : Addr := ga K "rises"
def Ad_f_check_facts (K : PySem.W.Frag) : Addr := ga K "check_facts"
def Ad_f_nested (K : PySem.W.Frag) : Addr := ga K "nested"
def Ad_f_check_rules (K : PySem.W.Frag) : Addr := ga K "check_rules"
def Ad_f_check_part (K : PySem.W.Frag) : Addr := ga K "check_part"
def Ad_f_merged (K : PySem.W.Frag) : Addr := ga K "merged"
def Ad_f_numbers_of_name (K : PySem.W.Frag) : Addr := ga K "numbers_of_name"
def Ad_f_numbers_of_rules (K : PySem.W.Frag) : Addr := ga K "numbers_of_rules"
def Ad_f_checksum (K : PySem.W.Frag) : Addr := ga K "checksum"
def Ad_f_encode_book (K : PySem.W.Frag) : Addr := ga K "encode_book"
def Ad_f_decode_book (K : PySem.W.Frag) : Addr := ga K "decode_book"
def Ad_f__law_mix (K : PySem.W.Frag) : Addr := ga K "_law_mix"
def Ad_f__law_next (K : PySem.W.Frag) : Addr := ga K "_law_next"
def Ad_f__law_alike (K : PySem.W.Frag) : Addr := ga K "_law_alike"
def Ad_f__law_facts (K : PySem.W.Frag) : Addr := ga K "_law_facts"
def Ad_f__law_sides (K : PySem.W.Frag) : Addr := ga K "_law_sides"
def Ad_f__law_rule (K : PySem.W.Frag) : Addr := ga K "_law_rule"
def Ad_f__law_drawn (K : PySem.W.Frag) : Addr := ga K "_law_drawn"
def Ad_f__law_made (K : PySem.W.Frag) : Addr := ga K "_law_made"
def Ad_f__law_book (K : PySem.W.Frag) : Addr := ga K "_law_book"
def Ad_f__law_told (K : PySem.W.Frag) : Addr := ga K "_law_told"
def Ad_f__law_seen (K : PySem.W.Frag) : Addr := ga K "_law_seen"
def Ad_f__law_name_code (K : PySem.W.Frag) : Addr := ga K "_law_name_code"
def Ad_f__law_rules_code (K : PySem.W.Frag) : Addr := ga K "_law_rules_code"
def Ad_f__law_code (K : PySem.W.Frag) : Addr := ga K "_law_code"
def Ad_f__law_checked (K : PySem.W.Frag) : Addr := ga K "_law_checked"
def Ad_f_law (K : PySem.W.Frag) : Addr := ga K "law"
def Ad_CO (K : PySem.W.Frag) : Addr := ga K "Condition"
def Ad_RO (K : PySem.W.Frag) : Addr := ga K "Rule"
def Ad_BO (K : PySem.W.Frag) : Addr := ga K "Book"
def Ad_QO (K : PySem.W.Frag) : Addr := ga K "Reader"
def Ad_CE (K : PySem.W.Frag) : Addr := ga K "CourtError"
def Ad_E0 (K : PySem.W.Frag) : Addr := ga K "InvalidFacts"
def Ad_E1 (K : PySem.W.Frag) : Addr := ga K "InvalidCondition"
def Ad_E2 (K : PySem.W.Frag) : Addr := ga K "InvalidRule"
def Ad_E3 (K : PySem.W.Frag) : Addr := ga K "InvalidBook"
def Ad_f_mi (K : PySem.W.Frag) : Addr := ma K (Ad_CO K) "__init__"
def Ad_pp_mh (K : PySem.W.Frag) : Addr := ma K (Ad_CO K) "holding"
def Ad_pp_mf (K : PySem.W.Frag) : Addr := ma K (Ad_CO K) "failing"
def Ad_pp_mn (K : PySem.W.Frag) : Addr := ma K (Ad_CO K) "names"
def Ad_f_ri (K : PySem.W.Frag) : Addr := ma K (Ad_RO K) "__init__"
def Ad_pp_rn (K : PySem.W.Frag) : Addr := ma K (Ad_RO K) "name"
def Ad_pp_rc (K : PySem.W.Frag) : Addr := ma K (Ad_RO K) "condition"
def Ad_pp_rr (K : PySem.W.Frag) : Addr := ma K (Ad_RO K) "ruling"
def Ad_pp_re (K : PySem.W.Frag) : Addr := ma K (Ad_RO K) "exceptions"
def Ad_pp_rd (K : PySem.W.Frag) : Addr := ma K (Ad_RO K) "depth"
def Ad_f_bi (K : PySem.W.Frag) : Addr := ma K (Ad_BO K) "__init__"
def Ad_pp_bf (K : PySem.W.Frag) : Addr := ma K (Ad_BO K) "facts"
def Ad_pp_bs (K : PySem.W.Frag) : Addr := ma K (Ad_BO K) "rules"
def Ad_pp_br (K : PySem.W.Frag) : Addr := ma K (Ad_BO K) "ruling"
def Ad_f_qi (K : PySem.W.Frag) : Addr := ma K (Ad_QO K) "__init__"
def Ad_f_qt (K : PySem.W.Frag) : Addr := ma K (Ad_QO K) "take"
def Ad_f_qn (K : PySem.W.Frag) : Addr := ma K (Ad_QO K) "take_name"
def Ad_f_qf (K : PySem.W.Frag) : Addr := ma K (Ad_QO K) "take_facts"
def Ad_f_qs (K : PySem.W.Frag) : Addr := ma K (Ad_QO K) "take_rules"
def Ad_f_qr (K : PySem.W.Frag) : Addr := ma K (Ad_QO K) "take_rule"
def Ad_f_qp (K : PySem.W.Frag) : Addr := ma K (Ad_QO K) "take_part"
def Ad_fIi0 (K : PySem.W.Frag) : Addr := ma K (Ad_E0 K) "__init__"
def Ad_fIi1 (K : PySem.W.Frag) : Addr := ma K (Ad_E1 K) "__init__"
def Ad_fIi2 (K : PySem.W.Frag) : Addr := ma K (Ad_E2 K) "__init__"
def Ad_fIi3 (K : PySem.W.Frag) : Addr := ma K (Ad_E3 K) "__init__"
def Ad_f_mh (K : PySem.W.Frag) : Addr := recF K (Ad_pp_mh K)
def Ad_f_mf (K : PySem.W.Frag) : Addr := recF K (Ad_pp_mf K)
def Ad_f_mn (K : PySem.W.Frag) : Addr := recF K (Ad_pp_mn K)
def Ad_f_rn (K : PySem.W.Frag) : Addr := recF K (Ad_pp_rn K)
def Ad_f_rc (K : PySem.W.Frag) : Addr := recF K (Ad_pp_rc K)
def Ad_f_rr (K : PySem.W.Frag) : Addr := recF K (Ad_pp_rr K)
def Ad_f_re (K : PySem.W.Frag) : Addr := recF K (Ad_pp_re K)
def Ad_f_rd (K : PySem.W.Frag) : Addr := recF K (Ad_pp_rd K)
def Ad_f_bf (K : PySem.W.Frag) : Addr := recF K (Ad_pp_bf K)
def Ad_f_bs (K : PySem.W.Frag) : Addr := recF K (Ad_pp_bs K)
def Ad_f_br (K : PySem.W.Frag) : Addr := recF K (Ad_pp_br K)
def Ad_cc_law (K : PySem.W.Frag) : Addr := codA K (Ad_f_law K)
def Ad_celi0 (K : PySem.W.Frag) : Addr := cloA K (Ad_fIi0 K)
def Ad_codi0 (K : PySem.W.Frag) : Addr := codA K (Ad_fIi0 K)
def Ad_celi1 (K : PySem.W.Frag) : Addr := cloA K (Ad_fIi1 K)
def Ad_codi1 (K : PySem.W.Frag) : Addr := codA K (Ad_fIi1 K)
def Ad_celi2 (K : PySem.W.Frag) : Addr := cloA K (Ad_fIi2 K)
def Ad_codi2 (K : PySem.W.Frag) : Addr := codA K (Ad_fIi2 K)
def Ad_celi3 (K : PySem.W.Frag) : Addr := cloA K (Ad_fIi3 K)
def Ad_codi3 (K : PySem.W.Frag) : Addr := codA K (Ad_fIi3 K)
def Fx0 (K : PySem.W.Frag) : Prop := (PySem.W.nsIn K mainGlobals "is_name" = some (some (.ref (Ad_f_is_name K)))) ∧ (fnB K (Ad_f_is_name K) "is_name" = true) ∧ (PySem.W.keepIn K (.ref (Ad_f_is_name K)) = true) ∧ (PySem.W.nsIn K mainGlobals "is_integer" = some (some (.ref (Ad_f_is_integer K)))) ∧ (fnB K (Ad_f_is_integer K) "is_integer" = true) ∧ (PySem.W.keepIn K (.ref (Ad_f_is_integer K)) = true) ∧ (PySem.W.nsIn K mainGlobals "rises" = some (some (.ref (Ad_f_rises K)))) ∧ (fnB K (Ad_f_rises K) "rises" = true) ∧ (PySem.W.keepIn K (.ref (Ad_f_rises K)) = true) ∧ (PySem.W.nsIn K mainGlobals "check_facts" = some (some (.ref (Ad_f_check_facts K)))) ∧ (fnB K (Ad_f_check_facts K) "check_facts" = true) ∧ (PySem.W.keepIn K (.ref (Ad_f_check_facts K)) = true)
instance (K : PySem.W.Frag) : Decidable (Fx0 K) := by unfold Fx0; infer_instance
def Fx1 (K : PySem.W.Frag) : Prop := (PySem.W.nsIn K mainGlobals "nested" = some (some (.ref (Ad_f_nested K)))) ∧ (fnB K (Ad_f_nested K) "nested" = true) ∧ (PySem.W.keepIn K (.ref (Ad_f_nested K)) = true) ∧ (PySem.W.nsIn K mainGlobals "check_rules" = some (some (.ref (Ad_f_check_rules K)))) ∧ (fnB K (Ad_f_check_rules K) "check_rules" = true) ∧ (PySem.W.keepIn K (.ref (Ad_f_check_rules K)) = true) ∧ (PySem.W.nsIn K mainGlobals "check_part" = some (some (.ref (Ad_f_check_part K)))) ∧ (fnB K (Ad_f_check_part K) "check_part" = true) ∧ (PySem.W.keepIn K (.ref (Ad_f_check_part K)) = true) ∧ (PySem.W.nsIn K mainGlobals "merged" = some (some (.ref (Ad_f_merged K)))) ∧ (fnB K (Ad_f_merged K) "merged" = true) ∧ (PySem.W.keepIn K (.ref (Ad_f_merged K)) = true)
instance (K : PySem.W.Frag) : Decidable (Fx1 K) := by unfold Fx1; infer_instance
def Fx2 (K : PySem.W.Frag) : Prop := (PySem.W.nsIn K mainGlobals "numbers_of_name" = some (some (.ref (Ad_f_numbers_of_name K)))) ∧ (fnB K (Ad_f_numbers_of_name K) "numbers_of_name" = true) ∧ (PySem.W.keepIn K (.ref (Ad_f_numbers_of_name K)) = true) ∧ (PySem.W.nsIn K mainGlobals "numbers_of_rules" = some (some (.ref (Ad_f_numbers_of_rules K)))) ∧ (fnB K (Ad_f_numbers_of_rules K) "numbers_of_rules" = true) ∧ (PySem.W.keepIn K (.ref (Ad_f_numbers_of_rules K)) = true) ∧ (PySem.W.nsIn K mainGlobals "checksum" = some (some (.ref (Ad_f_checksum K)))) ∧ (fnB K (Ad_f_checksum K) "checksum" = true) ∧ (PySem.W.keepIn K (.ref (Ad_f_checksum K)) = true) ∧ (PySem.W.nsIn K mainGlobals "encode_book" = some (some (.ref (Ad_f_encode_book K)))) ∧ (fnB K (Ad_f_encode_book K) "encode_book" = true) ∧ (PySem.W.keepIn K (.ref (Ad_f_encode_book K)) = true)
instance (K : PySem.W.Frag) : Decidable (Fx2 K) := by unfold Fx2; infer_instance
def Fx3 (K : PySem.W.Frag) : Prop := (PySem.W.nsIn K mainGlobals "decode_book" = some (some (.ref (Ad_f_decode_book K)))) ∧ (fnB K (Ad_f_decode_book K) "decode_book" = true) ∧ (PySem.W.keepIn K (.ref (Ad_f_decode_book K)) = true) ∧ (PySem.W.nsIn K mainGlobals "_law_mix" = some (some (.ref (Ad_f__law_mix K)))) ∧ (fnB K (Ad_f__law_mix K) "_law_mix" = true) ∧ (PySem.W.keepIn K (.ref (Ad_f__law_mix K)) = true) ∧ (PySem.W.nsIn K mainGlobals "_law_next" = some (some (.ref (Ad_f__law_next K)))) ∧ (fnB K (Ad_f__law_next K) "_law_next" = true) ∧ (PySem.W.keepIn K (.ref (Ad_f__law_next K)) = true) ∧ (PySem.W.nsIn K mainGlobals "_law_alike" = some (some (.ref (Ad_f__law_alike K)))) ∧ (fnB K (Ad_f__law_alike K) "_law_alike" = true) ∧ (PySem.W.keepIn K (.ref (Ad_f__law_alike K)) = true)
instance (K : PySem.W.Frag) : Decidable (Fx3 K) := by unfold Fx3; infer_instance
def Fx4 (K : PySem.W.Frag) : Prop := (PySem.W.nsIn K mainGlobals "_law_facts" = some (some (.ref (Ad_f__law_facts K)))) ∧ (fnB K (Ad_f__law_facts K) "_law_facts" = true) ∧ (PySem.W.keepIn K (.ref (Ad_f__law_facts K)) = true) ∧ (PySem.W.nsIn K mainGlobals "_law_sides" = some (some (.ref (Ad_f__law_sides K)))) ∧ (fnB K (Ad_f__law_sides K) "_law_sides" = true) ∧ (PySem.W.keepIn K (.ref (Ad_f__law_sides K)) = true) ∧ (PySem.W.nsIn K mainGlobals "_law_rule" = some (some (.ref (Ad_f__law_rule K)))) ∧ (fnB K (Ad_f__law_rule K) "_law_rule" = true) ∧ (PySem.W.keepIn K (.ref (Ad_f__law_rule K)) = true) ∧ (PySem.W.nsIn K mainGlobals "_law_drawn" = some (some (.ref (Ad_f__law_drawn K)))) ∧ (fnB K (Ad_f__law_drawn K) "_law_drawn" = true) ∧ (PySem.W.keepIn K (.ref (Ad_f__law_drawn K)) = true)
instance (K : PySem.W.Frag) : Decidable (Fx4 K) := by unfold Fx4; infer_instance
def Fx5 (K : PySem.W.Frag) : Prop := (PySem.W.nsIn K mainGlobals "_law_made" = some (some (.ref (Ad_f__law_made K)))) ∧ (fnB K (Ad_f__law_made K) "_law_made" = true) ∧ (PySem.W.keepIn K (.ref (Ad_f__law_made K)) = true) ∧ (PySem.W.nsIn K mainGlobals "_law_book" = some (some (.ref (Ad_f__law_book K)))) ∧ (fnB K (Ad_f__law_book K) "_law_book" = true) ∧ (PySem.W.keepIn K (.ref (Ad_f__law_book K)) = true) ∧ (PySem.W.nsIn K mainGlobals "_law_told" = some (some (.ref (Ad_f__law_told K)))) ∧ (fnB K (Ad_f__law_told K) "_law_told" = true) ∧ (PySem.W.keepIn K (.ref (Ad_f__law_told K)) = true) ∧ (PySem.W.nsIn K mainGlobals "_law_seen" = some (some (.ref (Ad_f__law_seen K)))) ∧ (fnB K (Ad_f__law_seen K) "_law_seen" = true) ∧ (PySem.W.keepIn K (.ref (Ad_f__law_seen K)) = true)
instance (K : PySem.W.Frag) : Decidable (Fx5 K) := by unfold Fx5; infer_instance
def Fx6 (K : PySem.W.Frag) : Prop := (PySem.W.nsIn K mainGlobals "_law_name_code" = some (some (.ref (Ad_f__law_name_code K)))) ∧ (fnB K (Ad_f__law_name_code K) "_law_name_code" = true) ∧ (PySem.W.keepIn K (.ref (Ad_f__law_name_code K)) = true) ∧ (PySem.W.nsIn K mainGlobals "_law_rules_code" = some (some (.ref (Ad_f__law_rules_code K)))) ∧ (fnB K (Ad_f__law_rules_code K) "_law_rules_code" = true) ∧ (PySem.W.keepIn K (.ref (Ad_f__law_rules_code K)) = true) ∧ (PySem.W.nsIn K mainGlobals "_law_code" = some (some (.ref (Ad_f__law_code K)))) ∧ (fnB K (Ad_f__law_code K) "_law_code" = true) ∧ (PySem.W.keepIn K (.ref (Ad_f__law_code K)) = true) ∧ (PySem.W.nsIn K mainGlobals "_law_checked" = some (some (.ref (Ad_f__law_checked K)))) ∧ (fnB K (Ad_f__law_checked K) "_law_checked" = true) ∧ (PySem.W.keepIn K (.ref (Ad_f__law_checked K)) = true)
instance (K : PySem.W.Frag) : Decidable (Fx6 K) := by unfold Fx6; infer_instance
def Fx7 (K : PySem.W.Frag) : Prop := (PySem.W.nsIn K mainGlobals "law" = some (some (.ref (Ad_f_law K)))) ∧ (fnB K (Ad_f_law K) "law" = true) ∧ (PySem.W.keepIn K (.ref (Ad_f_law K)) = true) ∧ (PySem.W.nsIn K mainGlobals "Condition" = some (some (.ref (Ad_CO K)))) ∧ (PySem.W.makesIn K (Ad_CO K) = true) ∧ (PySem.W.findIn K (.ref (Ad_CO K)) "__init__" = some (some (.ref (Ad_f_mi K)))) ∧ (PySem.W.isFn K (.ref (Ad_f_mi K)) = true) ∧ (PySem.W.keepIn K (.ref (Ad_CO K)) = true) ∧ (PySem.W.plainGet K (Ad_CO K) Str.empty = true) ∧ (PySem.W.hasDictIn K (Ad_CO K) = true) ∧ (PySem.W.plainOver K (Ad_CO K) = true) ∧ (PySem.W.findIn K (.ref (Ad_CO K)) "__setattr__" = some (some (.builtin "object.__setattr__")))
instance (K : PySem.W.Frag) : Decidable (Fx7 K) := by unfold Fx7; infer_instance
def Fx8 (K : PySem.W.Frag) : Prop := (PySem.W.findIn K (.ref (Ad_CO K)) "_holding" = some none) ∧ (PySem.W.findIn K (.ref (Ad_CO K)) "_failing" = some none) ∧ (PySem.W.findIn K (.ref (Ad_CO K)) "_names" = some none) ∧ (PySem.W.findIn K (.ref (Ad_CO K)) "holding" = some (some (.ref (Ad_pp_mh K)))) ∧ (PySem.W.specialIn K (.ref (Ad_pp_mh K)) "__get__" = some (some (.builtin "property.__get__"))) ∧ (PySem.W.takesIn K (.ref (Ad_pp_mh K)) = some true) ∧ (recB K (Ad_pp_mh K) = true) ∧ (PySem.W.findIn K (.ref (Ad_CO K)) "failing" = some (some (.ref (Ad_pp_mf K)))) ∧ (PySem.W.specialIn K (.ref (Ad_pp_mf K)) "__get__" = some (some (.builtin "property.__get__"))) ∧ (PySem.W.takesIn K (.ref (Ad_pp_mf K)) = some true) ∧ (recB K (Ad_pp_mf K) = true) ∧ (PySem.W.findIn K (.ref (Ad_CO K)) "names" = some (some (.ref (Ad_pp_mn K))))
instance (K : PySem.W.Frag) : Decidable (Fx8 K) := by unfold Fx8; infer_instance
def Fx9 (K : PySem.W.Frag) : Prop := (PySem.W.specialIn K (.ref (Ad_pp_mn K)) "__get__" = some (some (.builtin "property.__get__"))) ∧ (PySem.W.takesIn K (.ref (Ad_pp_mn K)) = some true) ∧ (recB K (Ad_pp_mn K) = true) ∧ (PySem.W.nsIn K mainGlobals "Rule" = some (some (.ref (Ad_RO K)))) ∧ (PySem.W.makesIn K (Ad_RO K) = true) ∧ (PySem.W.findIn K (.ref (Ad_RO K)) "__init__" = some (some (.ref (Ad_f_ri K)))) ∧ (PySem.W.isFn K (.ref (Ad_f_ri K)) = true) ∧ (PySem.W.keepIn K (.ref (Ad_RO K)) = true) ∧ (PySem.W.plainGet K (Ad_RO K) Str.empty = true) ∧ (PySem.W.hasDictIn K (Ad_RO K) = true) ∧ (PySem.W.plainOver K (Ad_RO K) = true) ∧ (PySem.W.findIn K (.ref (Ad_RO K)) "__setattr__" = some (some (.builtin "object.__setattr__")))
instance (K : PySem.W.Frag) : Decidable (Fx9 K) := by unfold Fx9; infer_instance
def Fx10 (K : PySem.W.Frag) : Prop := (PySem.W.findIn K (.ref (Ad_RO K)) "_name" = some none) ∧ (PySem.W.findIn K (.ref (Ad_RO K)) "_condition" = some none) ∧ (PySem.W.findIn K (.ref (Ad_RO K)) "_ruling" = some none) ∧ (PySem.W.findIn K (.ref (Ad_RO K)) "_exceptions" = some none) ∧ (PySem.W.findIn K (.ref (Ad_RO K)) "_depth" = some none) ∧ (PySem.W.findIn K (.ref (Ad_RO K)) "_inside" = some none) ∧ (PySem.W.findIn K (.ref (Ad_RO K)) "name" = some (some (.ref (Ad_pp_rn K)))) ∧ (PySem.W.specialIn K (.ref (Ad_pp_rn K)) "__get__" = some (some (.builtin "property.__get__"))) ∧ (PySem.W.takesIn K (.ref (Ad_pp_rn K)) = some true) ∧ (recB K (Ad_pp_rn K) = true) ∧ (PySem.W.findIn K (.ref (Ad_RO K)) "condition" = some (some (.ref (Ad_pp_rc K)))) ∧ (PySem.W.specialIn K (.ref (Ad_pp_rc K)) "__get__" = some (some (.builtin "property.__get__")))
instance (K : PySem.W.Frag) : Decidable (Fx10 K) := by unfold Fx10; infer_instance
def Fx11 (K : PySem.W.Frag) : Prop := (PySem.W.takesIn K (.ref (Ad_pp_rc K)) = some true) ∧ (recB K (Ad_pp_rc K) = true) ∧ (PySem.W.findIn K (.ref (Ad_RO K)) "ruling" = some (some (.ref (Ad_pp_rr K)))) ∧ (PySem.W.specialIn K (.ref (Ad_pp_rr K)) "__get__" = some (some (.builtin "property.__get__"))) ∧ (PySem.W.takesIn K (.ref (Ad_pp_rr K)) = some true) ∧ (recB K (Ad_pp_rr K) = true) ∧ (PySem.W.findIn K (.ref (Ad_RO K)) "exceptions" = some (some (.ref (Ad_pp_re K)))) ∧ (PySem.W.specialIn K (.ref (Ad_pp_re K)) "__get__" = some (some (.builtin "property.__get__"))) ∧ (PySem.W.takesIn K (.ref (Ad_pp_re K)) = some true) ∧ (recB K (Ad_pp_re K) = true) ∧ (PySem.W.findIn K (.ref (Ad_RO K)) "depth" = some (some (.ref (Ad_pp_rd K)))) ∧ (PySem.W.specialIn K (.ref (Ad_pp_rd K)) "__get__" = some (some (.builtin "property.__get__")))
instance (K : PySem.W.Frag) : Decidable (Fx11 K) := by unfold Fx11; infer_instance
def Fx12 (K : PySem.W.Frag) : Prop := (PySem.W.takesIn K (.ref (Ad_pp_rd K)) = some true) ∧ (recB K (Ad_pp_rd K) = true) ∧ (PySem.W.nsIn K mainGlobals "Book" = some (some (.ref (Ad_BO K)))) ∧ (PySem.W.makesIn K (Ad_BO K) = true) ∧ (PySem.W.findIn K (.ref (Ad_BO K)) "__init__" = some (some (.ref (Ad_f_bi K)))) ∧ (PySem.W.isFn K (.ref (Ad_f_bi K)) = true) ∧ (PySem.W.keepIn K (.ref (Ad_BO K)) = true) ∧ (PySem.W.plainGet K (Ad_BO K) Str.empty = true) ∧ (PySem.W.hasDictIn K (Ad_BO K) = true) ∧ (PySem.W.plainOver K (Ad_BO K) = true) ∧ (PySem.W.findIn K (.ref (Ad_BO K)) "__setattr__" = some (some (.builtin "object.__setattr__"))) ∧ (PySem.W.findIn K (.ref (Ad_BO K)) "_facts" = some none)
instance (K : PySem.W.Frag) : Decidable (Fx12 K) := by unfold Fx12; infer_instance
def Fx13 (K : PySem.W.Frag) : Prop := (PySem.W.findIn K (.ref (Ad_BO K)) "_rules" = some none) ∧ (PySem.W.findIn K (.ref (Ad_BO K)) "_ruling" = some none) ∧ (PySem.W.findIn K (.ref (Ad_BO K)) "_numbered" = some none) ∧ (PySem.W.findIn K (.ref (Ad_BO K)) "facts" = some (some (.ref (Ad_pp_bf K)))) ∧ (PySem.W.specialIn K (.ref (Ad_pp_bf K)) "__get__" = some (some (.builtin "property.__get__"))) ∧ (PySem.W.takesIn K (.ref (Ad_pp_bf K)) = some true) ∧ (recB K (Ad_pp_bf K) = true) ∧ (PySem.W.findIn K (.ref (Ad_BO K)) "rules" = some (some (.ref (Ad_pp_bs K)))) ∧ (PySem.W.specialIn K (.ref (Ad_pp_bs K)) "__get__" = some (some (.builtin "property.__get__"))) ∧ (PySem.W.takesIn K (.ref (Ad_pp_bs K)) = some true) ∧ (recB K (Ad_pp_bs K) = true) ∧ (PySem.W.findIn K (.ref (Ad_BO K)) "ruling" = some (some (.ref (Ad_pp_br K))))
instance (K : PySem.W.Frag) : Decidable (Fx13 K) := by unfold Fx13; infer_instance
def Fx14 (K : PySem.W.Frag) : Prop := (PySem.W.specialIn K (.ref (Ad_pp_br K)) "__get__" = some (some (.builtin "property.__get__"))) ∧ (PySem.W.takesIn K (.ref (Ad_pp_br K)) = some true) ∧ (recB K (Ad_pp_br K) = true) ∧ (PySem.W.nsIn K mainGlobals "Reader" = some (some (.ref (Ad_QO K)))) ∧ (PySem.W.makesIn K (Ad_QO K) = true) ∧ (PySem.W.findIn K (.ref (Ad_QO K)) "__init__" = some (some (.ref (Ad_f_qi K)))) ∧ (PySem.W.isFn K (.ref (Ad_f_qi K)) = true) ∧ (PySem.W.keepIn K (.ref (Ad_QO K)) = true) ∧ (PySem.W.plainGet K (Ad_QO K) Str.empty = true) ∧ (PySem.W.hasDictIn K (Ad_QO K) = true) ∧ (PySem.W.plainOver K (Ad_QO K) = true) ∧ (PySem.W.findIn K (.ref (Ad_QO K)) "__setattr__" = some (some (.builtin "object.__setattr__")))
instance (K : PySem.W.Frag) : Decidable (Fx14 K) := by unfold Fx14; infer_instance
def Fx15 (K : PySem.W.Frag) : Prop := (PySem.W.findIn K (.ref (Ad_QO K)) "numbers" = some none) ∧ (PySem.W.findIn K (.ref (Ad_QO K)) "at" = some none) ∧ (PySem.W.findIn K (.ref (Ad_QO K)) "rule_names" = some none) ∧ (PySem.W.findIn K (.ref (Ad_QO K)) "rule_count" = some none) ∧ (PySem.W.findIn K (.ref (Ad_QO K)) "take" = some (some (.ref (Ad_f_qt K)))) ∧ (PySem.W.isFn K (.ref (Ad_f_qt K)) = true) ∧ (PySem.W.findIn K (.ref (Ad_QO K)) "take_name" = some (some (.ref (Ad_f_qn K)))) ∧ (PySem.W.isFn K (.ref (Ad_f_qn K)) = true) ∧ (PySem.W.findIn K (.ref (Ad_QO K)) "take_facts" = some (some (.ref (Ad_f_qf K)))) ∧ (PySem.W.isFn K (.ref (Ad_f_qf K)) = true) ∧ (PySem.W.findIn K (.ref (Ad_QO K)) "take_rules" = some (some (.ref (Ad_f_qs K)))) ∧ (PySem.W.isFn K (.ref (Ad_f_qs K)) = true)
instance (K : PySem.W.Frag) : Decidable (Fx15 K) := by unfold Fx15; infer_instance
def Fx16 (K : PySem.W.Frag) : Prop := (PySem.W.findIn K (.ref (Ad_QO K)) "take_rule" = some (some (.ref (Ad_f_qr K)))) ∧ (PySem.W.isFn K (.ref (Ad_f_qr K)) = true) ∧ (PySem.W.findIn K (.ref (Ad_QO K)) "take_part" = some (some (.ref (Ad_f_qp K)))) ∧ (PySem.W.isFn K (.ref (Ad_f_qp K)) = true) ∧ (PySem.W.findIn K (.ref (Ad_BO K)) "__class__" = some (some (.builtin "object.__class__"))) ∧ (PySem.W.mroIn K (Ad_BO K) (.type "object") = some true) ∧ (PySem.W.subIn K (.ref (Ad_BO K)) (.ref (Ad_BO K)) = some true) ∧ (PySem.W.isClsIn K (Ad_BO K) = true) ∧ (PySem.W.typeIn K (.ref (Ad_BO K)) = some (.type "type")) ∧ (fnB K (Ad_f_mi K) "Condition.__init__" = true) ∧ (PySem.W.keepIn K (.ref (Ad_f_mi K)) = true) ∧ (fnB K (Ad_f_mh K) "Condition.holding" = true)
instance (K : PySem.W.Frag) : Decidable (Fx16 K) := by unfold Fx16; infer_instance
def Fx17 (K : PySem.W.Frag) : Prop := (PySem.W.keepIn K (.ref (Ad_f_mh K)) = true) ∧ (fnB K (Ad_f_mf K) "Condition.failing" = true) ∧ (PySem.W.keepIn K (.ref (Ad_f_mf K)) = true) ∧ (fnB K (Ad_f_mn K) "Condition.names" = true) ∧ (PySem.W.keepIn K (.ref (Ad_f_mn K)) = true) ∧ (fnB K (Ad_f_ri K) "Rule.__init__" = true) ∧ (PySem.W.keepIn K (.ref (Ad_f_ri K)) = true) ∧ (fnB K (Ad_f_rn K) "Rule.name" = true) ∧ (PySem.W.keepIn K (.ref (Ad_f_rn K)) = true) ∧ (fnB K (Ad_f_rc K) "Rule.condition" = true) ∧ (PySem.W.keepIn K (.ref (Ad_f_rc K)) = true) ∧ (fnB K (Ad_f_rr K) "Rule.ruling" = true)
instance (K : PySem.W.Frag) : Decidable (Fx17 K) := by unfold Fx17; infer_instance
def Fx18 (K : PySem.W.Frag) : Prop := (PySem.W.keepIn K (.ref (Ad_f_rr K)) = true) ∧ (fnB K (Ad_f_re K) "Rule.exceptions" = true) ∧ (PySem.W.keepIn K (.ref (Ad_f_re K)) = true) ∧ (fnB K (Ad_f_rd K) "Rule.depth" = true) ∧ (PySem.W.keepIn K (.ref (Ad_f_rd K)) = true) ∧ (fnB K (Ad_f_bi K) "Book.__init__" = true) ∧ (PySem.W.keepIn K (.ref (Ad_f_bi K)) = true) ∧ (fnB K (Ad_f_bf K) "Book.facts" = true) ∧ (PySem.W.keepIn K (.ref (Ad_f_bf K)) = true) ∧ (fnB K (Ad_f_bs K) "Book.rules" = true) ∧ (PySem.W.keepIn K (.ref (Ad_f_bs K)) = true) ∧ (fnB K (Ad_f_br K) "Book.ruling" = true)
instance (K : PySem.W.Frag) : Decidable (Fx18 K) := by unfold Fx18; infer_instance
def Fx19 (K : PySem.W.Frag) : Prop := (PySem.W.keepIn K (.ref (Ad_f_br K)) = true) ∧ (fnB K (Ad_f_qi K) "Reader.__init__" = true) ∧ (PySem.W.keepIn K (.ref (Ad_f_qi K)) = true) ∧ (fnB K (Ad_f_qt K) "Reader.take" = true) ∧ (PySem.W.keepIn K (.ref (Ad_f_qt K)) = true) ∧ (fnB K (Ad_f_qn K) "Reader.take_name" = true) ∧ (PySem.W.keepIn K (.ref (Ad_f_qn K)) = true) ∧ (fnB K (Ad_f_qf K) "Reader.take_facts" = true) ∧ (PySem.W.keepIn K (.ref (Ad_f_qf K)) = true) ∧ (fnB K (Ad_f_qs K) "Reader.take_rules" = true) ∧ (PySem.W.keepIn K (.ref (Ad_f_qs K)) = true) ∧ (fnB K (Ad_f_qr K) "Reader.take_rule" = true)
instance (K : PySem.W.Frag) : Decidable (Fx19 K) := by unfold Fx19; infer_instance
def Fx20 (K : PySem.W.Frag) : Prop := (PySem.W.keepIn K (.ref (Ad_f_qr K)) = true) ∧ (fnB K (Ad_f_qp K) "Reader.take_part" = true) ∧ (PySem.W.keepIn K (.ref (Ad_f_qp K)) = true) ∧ (PySem.W.nsIn K mainGlobals "isinstance" = some none) ∧ (PySem.W.nsIn K mainGlobals "len" = some none) ∧ (PySem.W.nsIn K mainGlobals "all" = some none) ∧ (PySem.W.nsIn K mainGlobals "any" = some none) ∧ (PySem.W.nsIn K mainGlobals "sum" = some none) ∧ (PySem.W.nsIn K mainGlobals "max" = some none) ∧ (PySem.W.nsIn K mainGlobals "min" = some none) ∧ (PySem.W.nsIn K mainGlobals "int" = some none) ∧ (PySem.W.nsIn K mainGlobals "str" = some none)
instance (K : PySem.W.Frag) : Decidable (Fx20 K) := by unfold Fx20; infer_instance
def Fx21 (K : PySem.W.Frag) : Prop := (PySem.W.nsIn K mainGlobals "bool" = some none) ∧ (PySem.W.nsIn K mainGlobals "list" = some none) ∧ (PySem.W.nsIn K mainGlobals "tuple" = some none) ∧ (PySem.W.nsIn K mainGlobals "dict" = some none) ∧ (PySem.W.nsIn K mainGlobals "range" = some none) ∧ (PySem.W.nsIn K mainGlobals "enumerate" = some none) ∧ (PySem.W.nsIn K mainGlobals "sorted" = some none) ∧ (PySem.W.nsIn K mainGlobals "reversed" = some none) ∧ (PySem.W.nsIn K mainGlobals "zip" = some none) ∧ (PySem.W.nsIn K mainGlobals "set" = some none) ∧ (PySem.W.nsIn K mainGlobals "ValueError" = some none) ∧ (strB K "LETTERS" letters = true)
instance (K : PySem.W.Frag) : Decidable (Fx21 K) := by unfold Fx21; infer_instance
def Fx22 (K : PySem.W.Frag) : Prop := (intB K "LONGEST_NAME" 8 = true) ∧ (intB K "MOST_FACTS" 60 = true) ∧ (intB K "MOST_NAMES" 8 = true) ∧ (intB K "MOST_AROUND" 5 = true) ∧ (intB K "MOST_RULES" 60 = true) ∧ (intB K "MOST_OUTERMOST" 40 = true) ∧ (intB K "FIRST_NUMBER" 66 = true) ∧ (intB K "CHECKSUM_BEGIN" 7 = true) ∧ (intB K "CHECKSUM_FACTOR" 11 = true) ∧ (intB K "CHECKSUM_RANGE" 247 = true) ∧ (PySem.W.nsIn K mainGlobals "CourtError" = some (some (.ref (Ad_CE K)))) ∧ (PySem.W.nsIn K mainGlobals "InvalidFacts" = some (some (.ref (Ad_E0 K))))
instance (K : PySem.W.Frag) : Decidable (Fx22 K) := by unfold Fx22; infer_instance
def Fx23 (K : PySem.W.Frag) : Prop := (PySem.W.nsIn K mainGlobals "InvalidCondition" = some (some (.ref (Ad_E1 K)))) ∧ (PySem.W.nsIn K mainGlobals "InvalidRule" = some (some (.ref (Ad_E2 K)))) ∧ (PySem.W.nsIn K mainGlobals "InvalidBook" = some (some (.ref (Ad_E3 K)))) ∧ (PySem.W.subIn K (.ref (Ad_CE K)) (.type "BaseException") = some true) ∧ (PySem.W.isClsIn K (Ad_CE K) = true) ∧ (PySem.W.typeIn K (.ref (Ad_CE K)) = some (.type "type")) ∧ (PySem.W.isClsIn K (Ad_E0 K) = true) ∧ (PySem.W.typeIn K (.ref (Ad_E0 K)) = some (.type "type")) ∧ (PySem.W.isClsIn K (Ad_E1 K) = true) ∧ (PySem.W.typeIn K (.ref (Ad_E1 K)) = some (.type "type")) ∧ (PySem.W.isClsIn K (Ad_E2 K) = true) ∧ (PySem.W.typeIn K (.ref (Ad_E2 K)) = some (.type "type"))
instance (K : PySem.W.Frag) : Decidable (Fx23 K) := by unfold Fx23; infer_instance
def Fx24 (K : PySem.W.Frag) : Prop := (PySem.W.isClsIn K (Ad_E3 K) = true) ∧ (PySem.W.typeIn K (.ref (Ad_E3 K)) = some (.type "type")) ∧ (PySem.W.specialIn K (.builtin "object.__class__") "__get__" = some (some (.builtin "getset_descriptor.__get__"))) ∧ (PySem.W.takesIn K (.builtin "object.__class__") = some true) ∧ (excB K (Ad_CE K) "ValueError.__new__" = true) ∧ (PySem.W.findIn K (.ref (Ad_CE K)) "__init__" = some (some (.builtin "ValueError.__init__"))) ∧ (PySem.W.nsIn K mainGlobals "super" = some none) ∧ (PySem.W.nsIn K cStatics "thirdparty.any" = some none) ∧ (excB K (Ad_E0 K) "ValueError.__new__" = true) ∧ (HandSPX.refsVE (mroT K (Ad_E0 K)) = true) ∧ (PySem.W.findIn K (.ref (Ad_E0 K)) "__setattr__" = some (some (.builtin "object.__setattr__"))) ∧ (PySem.W.typeIn K (.ref (Ad_E0 K)) = some (.type "type"))
instance (K : PySem.W.Frag) : Decidable (Fx24 K) := by unfold Fx24; infer_instance
def Fx25 (K : PySem.W.Frag) : Prop := (PySem.W.keepIn K (.ref (Ad_E0 K)) = true) ∧ (PySem.W.findIn K (.ref (Ad_E0 K)) "__init__" = some (some (.ref (Ad_fIi0 K)))) ∧ (PySem.W.typeIn K (.ref (Ad_fIi0 K)) = some (.type "function")) ∧ (fnBC K (Ad_fIi0 K) "InvalidFacts.__init__" = true) ∧ (cellB K (Ad_celi0 K) (Ad_E0 K) = true) ∧ (fileB K (Ad_codi0 K) theFile = true) ∧ (PySem.W.mroIn K (Ad_E0 K) (.ref (Ad_E0 K)) = some true) ∧ ((mroT K (Ad_E0 K)) = .ref (Ad_CE K) :: (mroT K (Ad_CE K))) ∧ (PySem.W.subIn K (.ref (Ad_E0 K)) (.type "ValueError") = some true) ∧ (PySem.W.subIn K (.ref (Ad_E0 K)) (.type "BaseException") = some true) ∧ (PySem.W.findIn K (.ref (Ad_E0 K)) "index" = some none) ∧ (excB K (Ad_E1 K) "ValueError.__new__" = true)
instance (K : PySem.W.Frag) : Decidable (Fx25 K) := by unfold Fx25; infer_instance
def Fx26 (K : PySem.W.Frag) : Prop := (HandSPX.refsVE (mroT K (Ad_E1 K)) = true) ∧ (PySem.W.findIn K (.ref (Ad_E1 K)) "__setattr__" = some (some (.builtin "object.__setattr__"))) ∧ (PySem.W.typeIn K (.ref (Ad_E1 K)) = some (.type "type")) ∧ (PySem.W.keepIn K (.ref (Ad_E1 K)) = true) ∧ (PySem.W.findIn K (.ref (Ad_E1 K)) "__init__" = some (some (.ref (Ad_fIi1 K)))) ∧ (PySem.W.typeIn K (.ref (Ad_fIi1 K)) = some (.type "function")) ∧ (fnBC K (Ad_fIi1 K) "InvalidCondition.__init__" = true) ∧ (cellB K (Ad_celi1 K) (Ad_E1 K) = true) ∧ (fileB K (Ad_codi1 K) theFile = true) ∧ (PySem.W.mroIn K (Ad_E1 K) (.ref (Ad_E1 K)) = some true) ∧ ((mroT K (Ad_E1 K)) = .ref (Ad_CE K) :: (mroT K (Ad_CE K))) ∧ (PySem.W.subIn K (.ref (Ad_E1 K)) (.type "ValueError") = some true)
instance (K : PySem.W.Frag) : Decidable (Fx26 K) := by unfold Fx26; infer_instance
def Fx27 (K : PySem.W.Frag) : Prop := (PySem.W.subIn K (.ref (Ad_E1 K)) (.type "BaseException") = some true) ∧ (PySem.W.findIn K (.ref (Ad_E1 K)) "part" = some none) ∧ (PySem.W.findIn K (.ref (Ad_E1 K)) "index" = some none) ∧ (excB K (Ad_E2 K) "ValueError.__new__" = true) ∧ (HandSPX.refsVE (mroT K (Ad_E2 K)) = true) ∧ (PySem.W.findIn K (.ref (Ad_E2 K)) "__setattr__" = some (some (.builtin "object.__setattr__"))) ∧ (PySem.W.typeIn K (.ref (Ad_E2 K)) = some (.type "type")) ∧ (PySem.W.keepIn K (.ref (Ad_E2 K)) = true) ∧ (PySem.W.findIn K (.ref (Ad_E2 K)) "__init__" = some (some (.ref (Ad_fIi2 K)))) ∧ (PySem.W.typeIn K (.ref (Ad_fIi2 K)) = some (.type "function")) ∧ (fnBC K (Ad_fIi2 K) "InvalidRule.__init__" = true) ∧ (cellB K (Ad_celi2 K) (Ad_E2 K) = true)
instance (K : PySem.W.Frag) : Decidable (Fx27 K) := by unfold Fx27; infer_instance
def Fx28 (K : PySem.W.Frag) : Prop := (fileB K (Ad_codi2 K) theFile = true) ∧ (PySem.W.mroIn K (Ad_E2 K) (.ref (Ad_E2 K)) = some true) ∧ ((mroT K (Ad_E2 K)) = .ref (Ad_CE K) :: (mroT K (Ad_CE K))) ∧ (PySem.W.subIn K (.ref (Ad_E2 K)) (.type "ValueError") = some true) ∧ (PySem.W.subIn K (.ref (Ad_E2 K)) (.type "BaseException") = some true) ∧ (PySem.W.findIn K (.ref (Ad_E2 K)) "part" = some none) ∧ (excB K (Ad_E3 K) "ValueError.__new__" = true) ∧ (HandSPX.refsVE (mroT K (Ad_E3 K)) = true) ∧ (PySem.W.findIn K (.ref (Ad_E3 K)) "__setattr__" = some (some (.builtin "object.__setattr__"))) ∧ (PySem.W.typeIn K (.ref (Ad_E3 K)) = some (.type "type")) ∧ (PySem.W.keepIn K (.ref (Ad_E3 K)) = true) ∧ (PySem.W.findIn K (.ref (Ad_E3 K)) "__init__" = some (some (.ref (Ad_fIi3 K))))
instance (K : PySem.W.Frag) : Decidable (Fx28 K) := by unfold Fx28; infer_instance
def Fx29 (K : PySem.W.Frag) : Prop := (PySem.W.typeIn K (.ref (Ad_fIi3 K)) = some (.type "function")) ∧ (fnBC K (Ad_fIi3 K) "InvalidBook.__init__" = true) ∧ (cellB K (Ad_celi3 K) (Ad_E3 K) = true) ∧ (fileB K (Ad_codi3 K) theFile = true) ∧ (PySem.W.mroIn K (Ad_E3 K) (.ref (Ad_E3 K)) = some true) ∧ ((mroT K (Ad_E3 K)) = .ref (Ad_CE K) :: (mroT K (Ad_CE K))) ∧ (PySem.W.subIn K (.ref (Ad_E3 K)) (.type "ValueError") = some true) ∧ (PySem.W.subIn K (.ref (Ad_E3 K)) (.type "BaseException") = some true) ∧ (PySem.W.findIn K (.ref (Ad_E3 K)) "word" = some none) ∧ (PySem.W.findIn K (.ref (Ad_E3 K)) "index" = some none)
instance (K : PySem.W.Frag) : Decidable (Fx29 K) := by unfold Fx29; infer_instance
def fn0 : FnDY := ⟨Ad_f_is_name, "is_name", "is_name", defArgs s_is_name, defBody s_is_name, defScope s_is_name⟩
def fn1 : FnDY := ⟨Ad_f_is_integer, "is_integer", "is_integer", defArgs s_is_integer, defBody s_is_integer, defScope s_is_integer⟩
def fn2 : FnDY := ⟨Ad_f_rises, "rises", "rises", defArgs s_rises, defBody s_rises, defScope s_rises⟩
def fn3 : FnDY := ⟨Ad_f_check_facts, "check_facts", "check_facts", defArgs s_check_facts, defBody s_check_facts, defScope s_check_facts⟩
def fn4 : FnDY := ⟨Ad_f_nested, "nested", "nested", defArgs s_nested, defBody s_nested, defScope s_nested⟩
def fn5 : FnDY := ⟨Ad_f_check_rules, "check_rules", "check_rules", defArgs s_check_rules, defBody s_check_rules, defScope s_check_rules⟩
def fn6 : FnDY := ⟨Ad_f_check_part, "check_part", "check_part", defArgs s_check_part, defBody s_check_part, defScope s_check_part⟩
def fn7 : FnDY := ⟨Ad_f_merged, "merged", "merged", defArgs s_merged, defBody s_merged, defScope s_merged⟩
def fn8 : FnDY := ⟨Ad_f_numbers_of_name, "numbers_of_name", "numbers_of_name", defArgs s_numbers_of_name, defBody s_numbers_of_name, defScope s_numbers_of_name⟩
def fn9 : FnDY := ⟨Ad_f_numbers_of_rules, "numbers_of_rules", "numbers_of_rules", defArgs s_numbers_of_rules, defBody s_numbers_of_rules, defScope s_numbers_of_rules⟩
def fn10 : FnDY := ⟨Ad_f_checksum, "checksum", "checksum", defArgs s_checksum, defBody s_checksum, defScope s_checksum⟩
def fn11 : FnDY := ⟨Ad_f_encode_book, "encode_book", "encode_book", defArgs s_encode_book, defBody s_encode_book, defScope s_encode_book⟩
def fn12 : FnDY := ⟨Ad_f_decode_book, "decode_book", "decode_book", defArgs s_decode_book, defBody s_decode_book, defScope s_decode_book⟩
def fn13 : FnDY := ⟨Ad_f__law_mix, "_law_mix", "_law_mix", defArgs s__law_mix, defBody s__law_mix, defScope s__law_mix⟩
def fn14 : FnDY := ⟨Ad_f__law_next, "_law_next", "_law_next", defArgs s__law_next, defBody s__law_next, defScope s__law_next⟩
def fn15 : FnDY := ⟨Ad_f__law_alike, "_law_alike", "_law_alike", defArgs s__law_alike, defBody s__law_alike, defScope s__law_alike⟩
def fn16 : FnDY := ⟨Ad_f__law_facts, "_law_facts", "_law_facts", defArgs s__law_facts, defBody s__law_facts, defScope s__law_facts⟩
def fn17 : FnDY := ⟨Ad_f__law_sides, "_law_sides", "_law_sides", defArgs s__law_sides, defBody s__law_sides, defScope s__law_sides⟩
def fn18 : FnDY := ⟨Ad_f__law_rule, "_law_rule", "_law_rule", defArgs s__law_rule, defBody s__law_rule, defScope s__law_rule⟩
def fn19 : FnDY := ⟨Ad_f__law_drawn, "_law_drawn", "_law_drawn", defArgs s__law_drawn, defBody s__law_drawn, defScope s__law_drawn⟩
def fn20 : FnDY := ⟨Ad_f__law_made, "_law_made", "_law_made", defArgs s__law_made, defBody s__law_made, defScope s__law_made⟩
def fn21 : FnDY := ⟨Ad_f__law_book, "_law_book", "_law_book", defArgs s__law_book, defBody s__law_book, defScope s__law_book⟩
def fn22 : FnDY := ⟨Ad_f__law_told, "_law_told", "_law_told", defArgs s__law_told, defBody s__law_told, defScope s__law_told⟩
def fn23 : FnDY := ⟨Ad_f__law_seen, "_law_seen", "_law_seen", defArgs s__law_seen, defBody s__law_seen, defScope s__law_seen⟩
def fn24 : FnDY := ⟨Ad_f__law_name_code, "_law_name_code", "_law_name_code", defArgs s__law_name_code, defBody s__law_name_code, defScope s__law_name_code⟩
def fn25 : FnDY := ⟨Ad_f__law_rules_code, "_law_rules_code", "_law_rules_code", defArgs s__law_rules_code, defBody s__law_rules_code, defScope s__law_rules_code⟩
def fn26 : FnDY := ⟨Ad_f__law_code, "_law_code", "_law_code", defArgs s__law_code, defBody s__law_code, defScope s__law_code⟩
def fn27 : FnDY := ⟨Ad_f__law_checked, "_law_checked", "_law_checked", defArgs s__law_checked, defBody s__law_checked, defScope s__law_checked⟩
def fn28 : FnDY := ⟨Ad_f_law, "law", "law", defArgs s_law, defBody s_law, defScope s_law⟩
def fn29 : FnDY := ⟨Ad_f_mi, "__init__", "Condition.__init__", defArgs s_Condition___init__, defBody s_Condition___init__, defScope s_Condition___init__⟩
def fn30 : FnDY := ⟨Ad_f_mh, "holding", "Condition.holding", defArgs s_Condition_holding, defBody s_Condition_holding, defScope s_Condition_holding⟩
def fn31 : FnDY := ⟨Ad_f_mf, "failing", "Condition.failing", defArgs s_Condition_failing, defBody s_Condition_failing, defScope s_Condition_failing⟩
def fn32 : FnDY := ⟨Ad_f_mn, "names", "Condition.names", defArgs s_Condition_names, defBody s_Condition_names, defScope s_Condition_names⟩
def fn33 : FnDY := ⟨Ad_f_ri, "__init__", "Rule.__init__", defArgs s_Rule___init__, defBody s_Rule___init__, defScope s_Rule___init__⟩
def fn34 : FnDY := ⟨Ad_f_rn, "name", "Rule.name", defArgs s_Rule_name, defBody s_Rule_name, defScope s_Rule_name⟩
def fn35 : FnDY := ⟨Ad_f_rc, "condition", "Rule.condition", defArgs s_Rule_condition, defBody s_Rule_condition, defScope s_Rule_condition⟩
def fn36 : FnDY := ⟨Ad_f_rr, "ruling", "Rule.ruling", defArgs s_Rule_ruling, defBody s_Rule_ruling, defScope s_Rule_ruling⟩
def fn37 : FnDY := ⟨Ad_f_re, "exceptions", "Rule.exceptions", defArgs s_Rule_exceptions, defBody s_Rule_exceptions, defScope s_Rule_exceptions⟩
def fn38 : FnDY := ⟨Ad_f_rd, "depth", "Rule.depth", defArgs s_Rule_depth, defBody s_Rule_depth, defScope s_Rule_depth⟩
def fn39 : FnDY := ⟨Ad_f_bi, "__init__", "Book.__init__", defArgs s_Book___init__, defBody s_Book___init__, defScope s_Book___init__⟩
def fn40 : FnDY := ⟨Ad_f_bf, "facts", "Book.facts", defArgs s_Book_facts, defBody s_Book_facts, defScope s_Book_facts⟩
def fn41 : FnDY := ⟨Ad_f_bs, "rules", "Book.rules", defArgs s_Book_rules, defBody s_Book_rules, defScope s_Book_rules⟩
def fn42 : FnDY := ⟨Ad_f_br, "ruling", "Book.ruling", defArgs s_Book_ruling, defBody s_Book_ruling, defScope s_Book_ruling⟩
def fn43 : FnDY := ⟨Ad_f_qi, "__init__", "Reader.__init__", defArgs s_Reader___init__, defBody s_Reader___init__, defScope s_Reader___init__⟩
def fn44 : FnDY := ⟨Ad_f_qt, "take", "Reader.take", defArgs s_Reader_take, defBody s_Reader_take, defScope s_Reader_take⟩
def fn45 : FnDY := ⟨Ad_f_qn, "take_name", "Reader.take_name", defArgs s_Reader_take_name, defBody s_Reader_take_name, defScope s_Reader_take_name⟩
def fn46 : FnDY := ⟨Ad_f_qf, "take_facts", "Reader.take_facts", defArgs s_Reader_take_facts, defBody s_Reader_take_facts, defScope s_Reader_take_facts⟩
def fn47 : FnDY := ⟨Ad_f_qs, "take_rules", "Reader.take_rules", defArgs s_Reader_take_rules, defBody s_Reader_take_rules, defScope s_Reader_take_rules⟩
def fn48 : FnDY := ⟨Ad_f_qr, "take_rule", "Reader.take_rule", defArgs s_Reader_take_rule, defBody s_Reader_take_rule, defScope s_Reader_take_rule⟩
def fn49 : FnDY := ⟨Ad_f_qp, "take_part", "Reader.take_part", defArgs s_Reader_take_part, defBody s_Reader_take_part, defScope s_Reader_take_part⟩
def fn50 : FnDY := ⟨Ad_fIi0, (nf_InvalidFacts 0 0).name, (nf_InvalidFacts 0 0).qual, (nf_InvalidFacts 0 0).params, (nf_InvalidFacts 0 0).body, (nf_InvalidFacts 0 0).scope⟩
def fn51 : FnDY := ⟨Ad_fIi1, (nf_InvalidCondition 0 0).name, (nf_InvalidCondition 0 0).qual, (nf_InvalidCondition 0 0).params, (nf_InvalidCondition 0 0).body, (nf_InvalidCondition 0 0).scope⟩
def fn52 : FnDY := ⟨Ad_fIi2, (nf_InvalidRule 0 0).name, (nf_InvalidRule 0 0).qual, (nf_InvalidRule 0 0).params, (nf_InvalidRule 0 0).body, (nf_InvalidRule 0 0).scope⟩
def fn53 : FnDY := ⟨Ad_fIi3, (nf_InvalidBook 0 0).name, (nf_InvalidBook 0 0).qual, (nf_InvalidBook 0 0).params, (nf_InvalidBook 0 0).body, (nf_InvalidBook 0 0).scope⟩
def ex_0 (K : PySem.W.Frag) : Bool := ([fun K => decide (Fx0 K), fun K => decide (Fx1 K), fun K => decide (Fx2 K), fun K => decide (Fx3 K), fun K => decide (Fx4 K), fun K => decide (Fx5 K)] : List (PySem.W.Frag → Bool)).all fun f => f K
def fn_0 : List FnDY := [fn0, fn1, fn2, fn3, fn4, fn5, fn6, fn7, fn8, fn9, fn10]
def tf_0 : List (PySem.W.Frag → Addr) := []
def ex_1 (K : PySem.W.Frag) : Bool := ([fun K => decide (Fx6 K), fun K => decide (Fx7 K), fun K => decide (Fx8 K), fun K => decide (Fx9 K), fun K => decide (Fx10 K), fun K => decide (Fx11 K)] : List (PySem.W.Frag → Bool)).all fun f => f K
def fn_1 : List FnDY := [fn11, fn12, fn13, fn14, fn15, fn16, fn17, fn18, fn19, fn20, fn21]
def tf_1 : List (PySem.W.Frag → Addr) := []
def ex_2 (K : PySem.W.Frag) : Bool := ([fun K => decide (Fx12 K), fun K => decide (Fx13 K), fun K => decide (Fx14 K), fun K => decide (Fx15 K), fun K => decide (Fx16 K), fun K => decide (Fx17 K)] : List (PySem.W.Frag → Bool)).all fun f => f K
def fn_2 : List FnDY := [fn22, fn23, fn24, fn25, fn26, fn27, fn28, fn29, fn30, fn31, fn32]
def tf_2 : List (PySem.W.Frag → Addr) := []
def ex_3 (K : PySem.W.Frag) : Bool := ([fun K => decide (Fx18 K), fun K => decide (Fx19 K), fun K => decide (Fx20 K), fun K => decide (Fx21 K), fun K => decide (Fx22 K), fun K => decide (Fx23 K)] : List (PySem.W.Frag → Bool)).all fun f => f K
def fn_3 : List FnDY := [fn33, fn34, fn35, fn36, fn37, fn38, fn39, fn40, fn41, fn42, fn43]
def tf_3 : List (PySem.W.Frag → Addr) := []
def ex_4 (K : PySem.W.Frag) : Bool := ([fun K => decide (Fx24 K), fun K => decide (Fx25 K), fun K => decide (Fx26 K), fun K => decide (Fx27 K), fun K => decide (Fx28 K), fun K => decide (Fx29 K)] : List (PySem.W.Frag → Bool)).all fun f => f K
def fn_4 : List FnDY := [fn44, fn45, fn46, fn47, fn48, fn49, fn50, fn51, fn52, fn53]
def tf_4 : List (PySem.W.Frag → Addr) := []
abbrev fnL : List FnDY := ((((fn_0 ++ fn_1) ++ fn_2) ++ fn_3) ++ fn_4)
abbrev tfL : List (PySem.W.Frag → Addr) := ((((tf_0 ++ tf_1) ++ tf_2) ++ tf_3) ++ tf_4)
abbrev exB : PySem.W.Frag → Bool := (fun K => (fun K => (fun K => (fun K => ex_0 K && ex_1 K) K && ex_2 K) K && ex_3 K) K && ex_4 K)
theorem mem_at {α : Type} {l : List α} {i : Nat} {a : α} (h : l[i]? = some a) : a ∈ l := List.mem_of_getElem? h
theorem all_at {K : PySem.W.Frag} {L : List (PySem.W.Frag → Bool)} (h : (L.all fun f => f K) = true) (i : Nat) {f : PySem.W.Frag → Bool} (e : L[i]? = some f) : f K = true := List.all_eq_true.mp h f (List.mem_of_getElem? e)
theorem more_0 {h : Heap} {K : PySem.W.Frag} (S : SaysY fnL tfL exB h K) : ex_0 K = true := (ba (ba (ba (ba S.more).1).1).1).1
theorem more_1 {h : Heap} {K : PySem.W.Frag} (S : SaysY fnL tfL exB h K) : ex_1 K = true := (ba (ba (ba (ba S.more).1).1).1).2
theorem more_2 {h : Heap} {K : PySem.W.Frag} (S : SaysY fnL tfL exB h K) : ex_2 K = true := (ba (ba (ba S.more).1).1).2
theorem more_3 {h : Heap} {K : PySem.W.Frag} (S : SaysY fnL tfL exB h K) : ex_3 K = true := (ba (ba S.more).1).2
theorem more_4 {h : Heap} {K : PySem.W.Frag} (S : SaysY fnL tfL exB h K) : ex_4 K = true := (ba S.more).2
theorem gx0 {h : Heap} {K : PySem.W.Frag} (S : SaysY fnL tfL exB h K) : Fx0 K := of_decide_eq_true (all_at (more_0 S) 0 rfl)
theorem gx1 {h : Heap} {K : PySem.W.Frag} (S : SaysY fnL tfL exB h K) : Fx1 K := of_decide_eq_true (all_at (more_0 S) 1 rfl)
theorem gx2 {h : Heap} {K : PySem.W.Frag} (S : SaysY fnL tfL exB h K) : Fx2 K := of_decide_eq_true (all_at (more_0 S) 2 rfl)
theorem gx3 {h : Heap} {K : PySem.W.Frag} (S : SaysY fnL tfL exB h K) : Fx3 K := of_decide_eq_true (all_at (more_0 S) 3 rfl)
theorem gx4 {h : Heap} {K : PySem.W.Frag} (S : SaysY fnL tfL exB h K) : Fx4 K := of_decide_eq_true (all_at (more_0 S) 4 rfl)
theorem gx5 {h : Heap} {K : PySem.W.Frag} (S : SaysY fnL tfL exB h K) : Fx5 K := of_decide_eq_true (all_at (more_0 S) 5 rfl)
theorem gx6 {h : Heap} {K : PySem.W.Frag} (S : SaysY fnL tfL exB h K) : Fx6 K := of_decide_eq_true (all_at (more_1 S) 0 rfl)
theorem gx7 {h : Heap} {K : PySem.W.Frag} (S : SaysY fnL tfL exB h K) : Fx7 K := of_decide_eq_true (all_at (more_1 S) 1 rfl)
theorem gx8 {h : Heap} {K : PySem.W.Frag} (S : SaysY fnL tfL exB h K) : Fx8 K := of_decide_eq_true (all_at (more_1 S) 2 rfl)
theorem gx9 {h : Heap} {K : PySem.W.Frag} (S : SaysY fnL tfL exB h K) : Fx9 K := of_decide_eq_true (all_at (more_1 S) 3 rfl)
theorem gx10 {h : Heap} {K : PySem.W.Frag} (S : SaysY fnL tfL exB h K) : Fx10 K := of_decide_eq_true (all_at (more_1 S) 4 rfl)
theorem gx11 {h : Heap} {K : PySem.W.Frag} (S : SaysY fnL tfL exB h K) : Fx11 K := of_decide_eq_true (all_at (more_1 S) 5 rfl)
theorem gx12 {h : Heap} {K : PySem.W.Frag} (S : SaysY fnL tfL exB h K) : Fx12 K := of_decide_eq_true (all_at (more_2 S) 0 rfl)
theorem gx13 {h : Heap} {K : PySem.W.Frag} (S : SaysY fnL tfL exB h K) : Fx13 K := of_decide_eq_true (all_at (more_2 S) 1 rfl)
theorem gx14 {h : Heap} {K : PySem.W.Frag} (S : SaysY fnL tfL exB h K) : Fx14 K := of_decide_eq_true (all_at (more_2 S) 2 rfl)
theorem gx15 {h : Heap} {K : PySem.W.Frag} (S : SaysY fnL tfL exB h K) : Fx15 K := of_decide_eq_true (all_at (more_2 S) 3 rfl)
theorem gx16 {h : Heap} {K : PySem.W.Frag} (S : SaysY fnL tfL exB h K) : Fx16 K := of_decide_eq_true (all_at (more_2 S) 4 rfl)
theorem gx17 {h : Heap} {K : PySem.W.Frag} (S : SaysY fnL tfL exB h K) : Fx17 K := of_decide_eq_true (all_at (more_2 S) 5 rfl)
theorem gx18 {h : Heap} {K : PySem.W.Frag} (S : SaysY fnL tfL exB h K) : Fx18 K := of_decide_eq_true (all_at (more_3 S) 0 rfl)
theorem gx19 {h : Heap} {K : PySem.W.Frag} (S : SaysY fnL tfL exB h K) : Fx19 K := of_decide_eq_true (all_at (more_3 S) 1 rfl)
theorem gx20 {h : Heap} {K : PySem.W.Frag} (S : SaysY fnL tfL exB h K) : Fx20 K := of_decide_eq_true (all_at (more_3 S) 2 rfl)
theorem gx21 {h : Heap} {K : PySem.W.Frag} (S : SaysY fnL tfL exB h K) : Fx21 K := of_decide_eq_true (all_at (more_3 S) 3 rfl)
theorem gx22 {h : Heap} {K : PySem.W.Frag} (S : SaysY fnL tfL exB h K) : Fx22 K := of_decide_eq_true (all_at (more_3 S) 4 rfl)
theorem gx23 {h : Heap} {K : PySem.W.Frag} (S : SaysY fnL tfL exB h K) : Fx23 K := of_decide_eq_true (all_at (more_3 S) 5 rfl)
theorem gx24 {h : Heap} {K : PySem.W.Frag} (S : SaysY fnL tfL exB h K) : Fx24 K := of_decide_eq_true (all_at (more_4 S) 0 rfl)
theorem gx25 {h : Heap} {K : PySem.W.Frag} (S : SaysY fnL tfL exB h K) : Fx25 K := of_decide_eq_true (all_at (more_4 S) 1 rfl)
theorem gx26 {h : Heap} {K : PySem.W.Frag} (S : SaysY fnL tfL exB h K) : Fx26 K := of_decide_eq_true (all_at (more_4 S) 2 rfl)
theorem gx27 {h : Heap} {K : PySem.W.Frag} (S : SaysY fnL tfL exB h K) : Fx27 K := of_decide_eq_true (all_at (more_4 S) 3 rfl)
theorem gx28 {h : Heap} {K : PySem.W.Frag} (S : SaysY fnL tfL exB h K) : Fx28 K := of_decide_eq_true (all_at (more_4 S) 4 rfl)
theorem gx29 {h : Heap} {K : PySem.W.Frag} (S : SaysY fnL tfL exB h K) : Fx29 K := of_decide_eq_true (all_at (more_4 S) 5 rfl)
theorem all_y {w : World} {K : PySem.W.Frag} {h : Heap} {mg : Str → Option Value} {fa : Addr} (X : K.In h) (G : h.Ns mainGlobals mg) (hfa : mg "law" = some (.ref fa)) (S : SaysY fnL tfL exB h K) : LamX.LawAtS theLaw w K CX0 32 63 "_law_script" mg fa h := by
  obtain ⟨_, _, _, _, _, _, _, _, l_is_name, y_l_is_name⟩ := fn_ok (S.fn 0 rfl) (gx0 S).2.1
  obtain ⟨_, _, _, _, _, _, _, _, l_is_integer, y_l_is_integer⟩ := fn_ok (S.fn 1 rfl) (gx0 S).2.2.2.2.1
  obtain ⟨_, _, _, _, _, _, _, _, l_rises, y_l_rises⟩ := fn_ok (S.fn 2 rfl) (gx0 S).2.2.2.2.2.2.2.1
  obtain ⟨_, _, _, _, _, _, _, _, l_check_facts, y_l_check_facts⟩ := fn_ok (S.fn 3 rfl) (gx0 S).2.2.2.2.2.2.2.2.2.2.1
  obtain ⟨_, _, _, _, _, _, _, _, l_nested, y_l_nested⟩ := fn_ok (S.fn 4 rfl) (gx1 S).2.1
  obtain ⟨_, _, _, _, _, _, _, _, l_check_rules, y_l_check_rules⟩ := fn_ok (S.fn 5 rfl) (gx1 S).2.2.2.2.1
  obtain ⟨_, _, _, _, _, _, _, _, l_check_part, y_l_check_part⟩ := fn_ok (S.fn 6 rfl) (gx1 S).2.2.2.2.2.2.2.1
  obtain ⟨_, _, _, _, _, _, _, _, l_merged, y_l_merged⟩ := fn_ok (S.fn 7 rfl) (gx1 S).2.2.2.2.2.2.2.2.2.2.1
  obtain ⟨_, _, _, _, _, _, _, _, l_numbers_of_name, y_l_numbers_of_name⟩ := fn_ok (S.fn 8 rfl) (gx2 S).2.1
  obtain ⟨_, _, _, _, _, _, _, _, l_numbers_of_rules, y_l_numbers_of_rules⟩ := fn_ok (S.fn 9 rfl) (gx2 S).2.2.2.2.1
  obtain ⟨_, _, _, _, _, _, _, _, l_checksum, y_l_checksum⟩ := fn_ok (S.fn 10 rfl) (gx2 S).2.2.2.2.2.2.2.1
  obtain ⟨_, _, _, _, _, _, _, _, l_encode_book, y_l_encode_book⟩ := fn_ok (S.fn 11 rfl) (gx2 S).2.2.2.2.2.2.2.2.2.2.1
  obtain ⟨_, _, _, _, _, _, _, _, l_decode_book, y_l_decode_book⟩ := fn_ok (S.fn 12 rfl) (gx3 S).2.1
  obtain ⟨_, _, _, _, _, _, _, _, l__law_mix, y_l__law_mix⟩ := fn_ok (S.fn 13 rfl) (gx3 S).2.2.2.2.1
  obtain ⟨_, _, _, _, _, _, _, _, l__law_next, y_l__law_next⟩ := fn_ok (S.fn 14 rfl) (gx3 S).2.2.2.2.2.2.2.1
  obtain ⟨_, _, _, _, _, _, _, _, l__law_alike, y_l__law_alike⟩ := fn_ok (S.fn 15 rfl) (gx3 S).2.2.2.2.2.2.2.2.2.2.1
  obtain ⟨_, _, _, _, _, _, _, _, l__law_facts, y_l__law_facts⟩ := fn_ok (S.fn 16 rfl) (gx4 S).2.1
  obtain ⟨_, _, _, _, _, _, _, _, l__law_sides, y_l__law_sides⟩ := fn_ok (S.fn 17 rfl) (gx4 S).2.2.2.2.1
  obtain ⟨_, _, _, _, _, _, _, _, l__law_rule, y_l__law_rule⟩ := fn_ok (S.fn 18 rfl) (gx4 S).2.2.2.2.2.2.2.1
  obtain ⟨_, _, _, _, _, _, _, _, l__law_drawn, y_l__law_drawn⟩ := fn_ok (S.fn 19 rfl) (gx4 S).2.2.2.2.2.2.2.2.2.2.1
  obtain ⟨_, _, _, _, _, _, _, _, l__law_made, y_l__law_made⟩ := fn_ok (S.fn 20 rfl) (gx5 S).2.1
  obtain ⟨_, _, _, _, _, _, _, _, l__law_book, y_l__law_book⟩ := fn_ok (S.fn 21 rfl) (gx5 S).2.2.2.2.1
  obtain ⟨_, _, _, _, _, _, _, _, l__law_told, y_l__law_told⟩ := fn_ok (S.fn 22 rfl) (gx5 S).2.2.2.2.2.2.2.1
  obtain ⟨_, _, _, _, _, _, _, _, l__law_seen, y_l__law_seen⟩ := fn_ok (S.fn 23 rfl) (gx5 S).2.2.2.2.2.2.2.2.2.2.1
  obtain ⟨_, _, _, _, _, _, _, _, l__law_name_code, y_l__law_name_code⟩ := fn_ok (S.fn 24 rfl) (gx6 S).2.1
  obtain ⟨_, _, _, _, _, _, _, _, l__law_rules_code, y_l__law_rules_code⟩ := fn_ok (S.fn 25 rfl) (gx6 S).2.2.2.2.1
  obtain ⟨_, _, _, _, _, _, _, _, l__law_code, y_l__law_code⟩ := fn_ok (S.fn 26 rfl) (gx6 S).2.2.2.2.2.2.2.1
  obtain ⟨_, _, _, _, _, _, _, _, l__law_checked, y_l__law_checked⟩ := fn_ok (S.fn 27 rfl) (gx6 S).2.2.2.2.2.2.2.2.2.2.1
  obtain ⟨_, _, _, _, _, _, _, _, l_law, y_l_law⟩ := fn_ok (S.fn 28 rfl) (gx7 S).2.1
  obtain ⟨_, pr_mh⟩ := rec_is (gx8 S).2.2.2.2.2.2.1
  obtain ⟨_, pr_mf⟩ := rec_is (gx8 S).2.2.2.2.2.2.2.2.2.2.1
  obtain ⟨_, pr_mn⟩ := rec_is (gx9 S).2.2.1
  obtain ⟨_, pr_rn⟩ := rec_is (gx10 S).2.2.2.2.2.2.2.2.2.1
  obtain ⟨_, pr_rc⟩ := rec_is (gx11 S).2.1
  obtain ⟨_, pr_rr⟩ := rec_is (gx11 S).2.2.2.2.2.1
  obtain ⟨_, pr_re⟩ := rec_is (gx11 S).2.2.2.2.2.2.2.2.2.1
  obtain ⟨_, pr_rd⟩ := rec_is (gx12 S).2.1
  obtain ⟨_, pr_bf⟩ := rec_is (gx13 S).2.2.2.2.2.2.1
  obtain ⟨_, pr_bs⟩ := rec_is (gx13 S).2.2.2.2.2.2.2.2.2.2.1
  obtain ⟨_, pr_br⟩ := rec_is (gx14 S).2.2.1
  obtain ⟨_, _, _, _, _, _, _, _, l_mi, y_l_mi⟩ := fn_ok (S.fn 29 rfl) (gx16 S).2.2.2.2.2.2.2.2.2.1
  obtain ⟨_, _, _, _, _, _, _, _, l_mh, y_l_mh⟩ := fn_ok (S.fn 30 rfl) (gx16 S).2.2.2.2.2.2.2.2.2.2.2
  obtain ⟨_, _, _, _, _, _, _, _, l_mf, y_l_mf⟩ := fn_ok (S.fn 31 rfl) (gx17 S).2.1
  obtain ⟨_, _, _, _, _, _, _, _, l_mn, y_l_mn⟩ := fn_ok (S.fn 32 rfl) (gx17 S).2.2.2.1
  obtain ⟨_, _, _, _, _, _, _, _, l_ri, y_l_ri⟩ := fn_ok (S.fn 33 rfl) (gx17 S).2.2.2.2.2.1
  obtain ⟨_, _, _, _, _, _, _, _, l_rn, y_l_rn⟩ := fn_ok (S.fn 34 rfl) (gx17 S).2.2.2.2.2.2.2.1
  obtain ⟨_, _, _, _, _, _, _, _, l_rc, y_l_rc⟩ := fn_ok (S.fn 35 rfl) (gx17 S).2.2.2.2.2.2.2.2.2.1
  obtain ⟨_, _, _, _, _, _, _, _, l_rr, y_l_rr⟩ := fn_ok (S.fn 36 rfl) (gx17 S).2.2.2.2.2.2.2.2.2.2.2
  obtain ⟨_, _, _, _, _, _, _, _, l_re, y_l_re⟩ := fn_ok (S.fn 37 rfl) (gx18 S).2.1
  obtain ⟨_, _, _, _, _, _, _, _, l_rd, y_l_rd⟩ := fn_ok (S.fn 38 rfl) (gx18 S).2.2.2.1
  obtain ⟨_, _, _, _, _, _, _, _, l_bi, y_l_bi⟩ := fn_ok (S.fn 39 rfl) (gx18 S).2.2.2.2.2.1
  obtain ⟨_, _, _, _, _, _, _, _, l_bf, y_l_bf⟩ := fn_ok (S.fn 40 rfl) (gx18 S).2.2.2.2.2.2.2.1
  obtain ⟨_, _, _, _, _, _, _, _, l_bs, y_l_bs⟩ := fn_ok (S.fn 41 rfl) (gx18 S).2.2.2.2.2.2.2.2.2.1
  obtain ⟨_, _, _, _, _, _, _, _, l_br, y_l_br⟩ := fn_ok (S.fn 42 rfl) (gx18 S).2.2.2.2.2.2.2.2.2.2.2
  obtain ⟨_, _, _, _, _, _, _, _, l_qi, y_l_qi⟩ := fn_ok (S.fn 43 rfl) (gx19 S).2.1
  obtain ⟨_, _, _, _, _, _, _, _, l_qt, y_l_qt⟩ := fn_ok (S.fn 44 rfl) (gx19 S).2.2.2.1
  obtain ⟨_, _, _, _, _, _, _, _, l_qn, y_l_qn⟩ := fn_ok (S.fn 45 rfl) (gx19 S).2.2.2.2.2.1
  obtain ⟨_, _, _, _, _, _, _, _, l_qf, y_l_qf⟩ := fn_ok (S.fn 46 rfl) (gx19 S).2.2.2.2.2.2.2.1
  obtain ⟨_, _, _, _, _, _, _, _, l_qs, y_l_qs⟩ := fn_ok (S.fn 47 rfl) (gx19 S).2.2.2.2.2.2.2.2.2.1
  obtain ⟨_, _, _, _, _, _, _, _, l_qr, y_l_qr⟩ := fn_ok (S.fn 48 rfl) (gx19 S).2.2.2.2.2.2.2.2.2.2.2
  obtain ⟨_, _, _, _, _, _, _, _, l_qp, y_l_qp⟩ := fn_ok (S.fn 49 rfl) (gx20 S).2.1
  obtain ⟨_, m_LETTERS⟩ := str_is (gx21 S).2.2.2.2.2.2.2.2.2.2.2
  obtain ⟨_, m_LONGEST_NAME⟩ := int_is (gx22 S).1
  obtain ⟨_, m_MOST_FACTS⟩ := int_is (gx22 S).2.1
  obtain ⟨_, m_MOST_NAMES⟩ := int_is (gx22 S).2.2.1
  obtain ⟨_, m_MOST_AROUND⟩ := int_is (gx22 S).2.2.2.1
  obtain ⟨_, m_MOST_RULES⟩ := int_is (gx22 S).2.2.2.2.1
  obtain ⟨_, m_MOST_OUTERMOST⟩ := int_is (gx22 S).2.2.2.2.2.1
  obtain ⟨_, m_FIRST_NUMBER⟩ := int_is (gx22 S).2.2.2.2.2.2.1
  obtain ⟨_, m_CHECKSUM_BEGIN⟩ := int_is (gx22 S).2.2.2.2.2.2.2.1
  obtain ⟨_, m_CHECKSUM_FACTOR⟩ := int_is (gx22 S).2.2.2.2.2.2.2.2.1
  obtain ⟨_, m_CHECKSUM_RANGE⟩ := int_is (gx22 S).2.2.2.2.2.2.2.2.2.1
  obtain ⟨_, _, _, _, _, _, _, _, _, _, _, _, _, _, x_E⟩ := exc_is (gx24 S).2.2.2.2.1
  obtain ⟨_, _, _, _, _, _, _, _, _, _, _, _, _, _, i0_x⟩ := exc_is (gx24 S).2.2.2.2.2.2.2.2.1
  obtain ⟨_, _, _, _, _, _, _, _, i0_lI, y_i0_lI⟩ := fn_okC (S.fn 50 rfl) (gx25 S).2.2.2.1
  obtain ⟨_, _, _, i0_ce⟩ := cell_is (gx25 S).2.2.2.2.1
  obtain ⟨_, _, _, _, _, _, i0_co, i0_fi, i0_fe⟩ := file_is (gx25 S).2.2.2.2.2.1
  obtain ⟨_, _, _, _, _, _, _, _, _, _, _, _, _, _, i1_x⟩ := exc_is (gx25 S).2.2.2.2.2.2.2.2.2.2.2
  obtain ⟨_, _, _, _, _, _, _, _, i1_lI, y_i1_lI⟩ := fn_okC (S.fn 51 rfl) (gx26 S).2.2.2.2.2.2.1
  obtain ⟨_, _, _, i1_ce⟩ := cell_is (gx26 S).2.2.2.2.2.2.2.1
  obtain ⟨_, _, _, _, _, _, i1_co, i1_fi, i1_fe⟩ := file_is (gx26 S).2.2.2.2.2.2.2.2.1
  obtain ⟨_, _, _, _, _, _, _, _, _, _, _, _, _, _, i2_x⟩ := exc_is (gx27 S).2.2.2.1
  obtain ⟨_, _, _, _, _, _, _, _, i2_lI, y_i2_lI⟩ := fn_okC (S.fn 52 rfl) (gx27 S).2.2.2.2.2.2.2.2.2.2.1
  obtain ⟨_, _, _, i2_ce⟩ := cell_is (gx27 S).2.2.2.2.2.2.2.2.2.2.2
  obtain ⟨_, _, _, _, _, _, i2_co, i2_fi, i2_fe⟩ := file_is (gx28 S).1
  obtain ⟨_, _, _, _, _, _, _, _, _, _, _, _, _, _, i3_x⟩ := exc_is (gx28 S).2.2.2.2.2.2.1
  obtain ⟨_, _, _, _, _, _, _, _, i3_lI, y_i3_lI⟩ := fn_okC (S.fn 53 rfl) (gx29 S).2.1
  obtain ⟨_, _, _, i3_ce⟩ := cell_is (gx29 S).2.2.1
  obtain ⟨_, _, _, _, _, _, i3_co, i3_fi, i3_fe⟩ := file_is (gx29 S).2.2.2.1
  exact all_mk (l := theLaw) (P := theRow.prog) (celi0 := (Ad_celi0 K)) (codi0 := (Ad_codi0 K)) (celi1 := (Ad_celi1 K)) (codi1 := (Ad_codi1 K)) (celi2 := (Ad_celi2 K)) (codi2 := (Ad_codi2 K)) (celi3 := (Ad_celi3 K)) (codi3 := (Ad_codi3 K))  rfl X G hfa (gx0 S).1 l_is_name y_l_is_name (gx0 S).2.2.1 (gx0 S).2.2.2.1 l_is_integer y_l_is_integer (gx0 S).2.2.2.2.2.1 (gx0 S).2.2.2.2.2.2.1 l_rises y_l_rises (gx0 S).2.2.2.2.2.2.2.2.1 (gx0 S).2.2.2.2.2.2.2.2.2.1 l_check_facts y_l_check_facts (gx0 S).2.2.2.2.2.2.2.2.2.2.2 (gx1 S).1 l_nested y_l_nested (gx1 S).2.2.1 (gx1 S).2.2.2.1 l_check_rules y_l_check_rules (gx1 S).2.2.2.2.2.1 (gx1 S).2.2.2.2.2.2.1 l_check_part y_l_check_part (gx1 S).2.2.2.2.2.2.2.2.1 (gx1 S).2.2.2.2.2.2.2.2.2.1 l_merged y_l_merged (gx1 S).2.2.2.2.2.2.2.2.2.2.2 (gx2 S).1 l_numbers_of_name y_l_numbers_of_name (gx2 S).2.2.1 (gx2 S).2.2.2.1 l_numbers_of_rules y_l_numbers_of_rules (gx2 S).2.2.2.2.2.1 (gx2 S).2.2.2.2.2.2.1 l_checksum y_l_checksum (gx2 S).2.2.2.2.2.2.2.2.1 (gx2 S).2.2.2.2.2.2.2.2.2.1 l_encode_book y_l_encode_book (gx2 S).2.2.2.2.2.2.2.2.2.2.2 (gx3 S).1 l_decode_book y_l_decode_book (gx3 S).2.2.1 (gx3 S).2.2.2.1 l__law_mix y_l__law_mix (gx3 S).2.2.2.2.2.1 (gx3 S).2.2.2.2.2.2.1 l__law_next y_l__law_next (gx3 S).2.2.2.2.2.2.2.2.1 (gx3 S).2.2.2.2.2.2.2.2.2.1 l__law_alike y_l__law_alike (gx3 S).2.2.2.2.2.2.2.2.2.2.2 (gx4 S).1 l__law_facts y_l__law_facts (gx4 S).2.2.1 (gx4 S).2.2.2.1 l__law_sides y_l__law_sides (gx4 S).2.2.2.2.2.1 (gx4 S).2.2.2.2.2.2.1 l__law_rule y_l__law_rule (gx4 S).2.2.2.2.2.2.2.2.1 (gx4 S).2.2.2.2.2.2.2.2.2.1 l__law_drawn y_l__law_drawn (gx4 S).2.2.2.2.2.2.2.2.2.2.2 (gx5 S).1 l__law_made y_l__law_made (gx5 S).2.2.1 (gx5 S).2.2.2.1 l__law_book y_l__law_book (gx5 S).2.2.2.2.2.1 (gx5 S).2.2.2.2.2.2.1 l__law_told y_l__law_told (gx5 S).2.2.2.2.2.2.2.2.1 (gx5 S).2.2.2.2.2.2.2.2.2.1 l__law_seen y_l__law_seen (gx5 S).2.2.2.2.2.2.2.2.2.2.2 (gx6 S).1 l__law_name_code y_l__law_name_code (gx6 S).2.2.1 (gx6 S).2.2.2.1 l__law_rules_code y_l__law_rules_code (gx6 S).2.2.2.2.2.1 (gx6 S).2.2.2.2.2.2.1 l__law_code y_l__law_code (gx6 S).2.2.2.2.2.2.2.2.1 (gx6 S).2.2.2.2.2.2.2.2.2.1 l__law_checked y_l__law_checked (gx6 S).2.2.2.2.2.2.2.2.2.2.2 (gx7 S).1 l_law y_l_law (gx7 S).2.2.1 (gx7 S).2.2.2.1 (gx7 S).2.2.2.2.1 (gx7 S).2.2.2.2.2.1 (gx7 S).2.2.2.2.2.2.1 (gx7 S).2.2.2.2.2.2.2.1 (gx7 S).2.2.2.2.2.2.2.2.1 (gx7 S).2.2.2.2.2.2.2.2.2.1 (gx7 S).2.2.2.2.2.2.2.2.2.2.1 (gx7 S).2.2.2.2.2.2.2.2.2.2.2 (gx8 S).1 (gx8 S).2.1 (gx8 S).2.2.1 (gx8 S).2.2.2.1 (gx8 S).2.2.2.2.1 (gx8 S).2.2.2.2.2.1 pr_mh (gx8 S).2.2.2.2.2.2.2.1 (gx8 S).2.2.2.2.2.2.2.2.1 (gx8 S).2.2.2.2.2.2.2.2.2.1 pr_mf (gx8 S).2.2.2.2.2.2.2.2.2.2.2 (gx9 S).1 (gx9 S).2.1 pr_mn (gx9 S).2.2.2.1 (gx9 S).2.2.2.2.1 (gx9 S).2.2.2.2.2.1 (gx9 S).2.2.2.2.2.2.1 (gx9 S).2.2.2.2.2.2.2.1 (gx9 S).2.2.2.2.2.2.2.2.1 (gx9 S).2.2.2.2.2.2.2.2.2.1 (gx9 S).2.2.2.2.2.2.2.2.2.2.1 (gx9 S).2.2.2.2.2.2.2.2.2.2.2 (gx10 S).1 (gx10 S).2.1 (gx10 S).2.2.1 (gx10 S).2.2.2.1 (gx10 S).2.2.2.2.1 (gx10 S).2.2.2.2.2.1 (gx10 S).2.2.2.2.2.2.1 (gx10 S).2.2.2.2.2.2.2.1 (gx10 S).2.2.2.2.2.2.2.2.1 pr_rn (gx10 S).2.2.2.2.2.2.2.2.2.2.1 (gx10 S).2.2.2.2.2.2.2.2.2.2.2 (gx11 S).1 pr_rc (gx11 S).2.2.1 (gx11 S).2.2.2.1 (gx11 S).2.2.2.2.1 pr_rr (gx11 S).2.2.2.2.2.2.1 (gx11 S).2.2.2.2.2.2.2.1 (gx11 S).2.2.2.2.2.2.2.2.1 pr_re (gx11 S).2.2.2.2.2.2.2.2.2.2.1 (gx11 S).2.2.2.2.2.2.2.2.2.2.2 (gx12 S).1 pr_rd (gx12 S).2.2.1 (gx12 S).2.2.2.1 (gx12 S).2.2.2.2.1 (gx12 S).2.2.2.2.2.1 (gx12 S).2.2.2.2.2.2.1 (gx12 S).2.2.2.2.2.2.2.1 (gx12 S).2.2.2.2.2.2.2.2.1 (gx12 S).2.2.2.2.2.2.2.2.2.1 (gx12 S).2.2.2.2.2.2.2.2.2.2.1 (gx12 S).2.2.2.2.2.2.2.2.2.2.2 (gx13 S).1 (gx13 S).2.1 (gx13 S).2.2.1 (gx13 S).2.2.2.1 (gx13 S).2.2.2.2.1 (gx13 S).2.2.2.2.2.1 pr_bf (gx13 S).2.2.2.2.2.2.2.1 (gx13 S).2.2.2.2.2.2.2.2.1 (gx13 S).2.2.2.2.2.2.2.2.2.1 pr_bs (gx13 S).2.2.2.2.2.2.2.2.2.2.2 (gx14 S).1 (gx14 S).2.1 pr_br (gx14 S).2.2.2.1 (gx14 S).2.2.2.2.1 (gx14 S).2.2.2.2.2.1 (gx14 S).2.2.2.2.2.2.1 (gx14 S).2.2.2.2.2.2.2.1 (gx14 S).2.2.2.2.2.2.2.2.1 (gx14 S).2.2.2.2.2.2.2.2.2.1 (gx14 S).2.2.2.2.2.2.2.2.2.2.1 (gx14 S).2.2.2.2.2.2.2.2.2.2.2 (gx15 S).1 (gx15 S).2.1 (gx15 S).2.2.1 (gx15 S).2.2.2.1 (gx15 S).2.2.2.2.1 (gx15 S).2.2.2.2.2.1 (gx15 S).2.2.2.2.2.2.1 (gx15 S).2.2.2.2.2.2.2.1 (gx15 S).2.2.2.2.2.2.2.2.1 (gx15 S).2.2.2.2.2.2.2.2.2.1 (gx15 S).2.2.2.2.2.2.2.2.2.2.1 (gx15 S).2.2.2.2.2.2.2.2.2.2.2 (gx16 S).1 (gx16 S).2.1 (gx16 S).2.2.1 (gx16 S).2.2.2.1 (gx16 S).2.2.2.2.1 (gx16 S).2.2.2.2.2.1 (gx16 S).2.2.2.2.2.2.1 (gx16 S).2.2.2.2.2.2.2.1 (gx16 S).2.2.2.2.2.2.2.2.1 l_mi y_l_mi (gx16 S).2.2.2.2.2.2.2.2.2.2.1 l_mh y_l_mh (gx17 S).1 l_mf y_l_mf (gx17 S).2.2.1 l_mn y_l_mn (gx17 S).2.2.2.2.1 l_ri y_l_ri (gx17 S).2.2.2.2.2.2.1 l_rn y_l_rn (gx17 S).2.2.2.2.2.2.2.2.1 l_rc y_l_rc (gx17 S).2.2.2.2.2.2.2.2.2.2.1 l_rr y_l_rr (gx18 S).1 l_re y_l_re (gx18 S).2.2.1 l_rd y_l_rd (gx18 S).2.2.2.2.1 l_bi y_l_bi (gx18 S).2.2.2.2.2.2.1 l_bf y_l_bf (gx18 S).2.2.2.2.2.2.2.2.1 l_bs y_l_bs (gx18 S).2.2.2.2.2.2.2.2.2.2.1 l_br y_l_br (gx19 S).1 l_qi y_l_qi (gx19 S).2.2.1 l_qt y_l_qt (gx19 S).2.2.2.2.1 l_qn y_l_qn (gx19 S).2.2.2.2.2.2.1 l_qf y_l_qf (gx19 S).2.2.2.2.2.2.2.2.1 l_qs y_l_qs (gx19 S).2.2.2.2.2.2.2.2.2.2.1 l_qr y_l_qr (gx20 S).1 l_qp y_l_qp (gx20 S).2.2.1 (gx20 S).2.2.2.1 (gx20 S).2.2.2.2.1 (gx20 S).2.2.2.2.2.1 (gx20 S).2.2.2.2.2.2.1 (gx20 S).2.2.2.2.2.2.2.1 (gx20 S).2.2.2.2.2.2.2.2.1 (gx20 S).2.2.2.2.2.2.2.2.2.1 (gx20 S).2.2.2.2.2.2.2.2.2.2.1 (gx20 S).2.2.2.2.2.2.2.2.2.2.2 (gx21 S).1 (gx21 S).2.1 (gx21 S).2.2.1 (gx21 S).2.2.2.1 (gx21 S).2.2.2.2.1 (gx21 S).2.2.2.2.2.1 (gx21 S).2.2.2.2.2.2.1 (gx21 S).2.2.2.2.2.2.2.1 (gx21 S).2.2.2.2.2.2.2.2.1 (gx21 S).2.2.2.2.2.2.2.2.2.1 (gx21 S).2.2.2.2.2.2.2.2.2.2.1 m_LETTERS m_LONGEST_NAME m_MOST_FACTS m_MOST_NAMES m_MOST_AROUND m_MOST_RULES m_MOST_OUTERMOST m_FIRST_NUMBER m_CHECKSUM_BEGIN m_CHECKSUM_FACTOR m_CHECKSUM_RANGE (gx22 S).2.2.2.2.2.2.2.2.2.2.1 (gx22 S).2.2.2.2.2.2.2.2.2.2.2 (gx23 S).1 (gx23 S).2.1 (gx23 S).2.2.1 (gx23 S).2.2.2.1 (gx23 S).2.2.2.2.1 (gx23 S).2.2.2.2.2.1 (gx23 S).2.2.2.2.2.2.1 (gx23 S).2.2.2.2.2.2.2.1 (gx23 S).2.2.2.2.2.2.2.2.1 (gx23 S).2.2.2.2.2.2.2.2.2.1 (gx23 S).2.2.2.2.2.2.2.2.2.2.1 (gx23 S).2.2.2.2.2.2.2.2.2.2.2 (gx24 S).1 (gx24 S).2.1 (gx24 S).2.2.1 (gx24 S).2.2.2.1 x_E (gx24 S).2.2.2.2.2.1 (gx24 S).2.2.2.2.2.2.1 (gx24 S).2.2.2.2.2.2.2.1 i0_x (gx24 S).2.2.2.2.2.2.2.2.2.1 (gx24 S).2.2.2.2.2.2.2.2.2.2.1 (gx24 S).2.2.2.2.2.2.2.2.2.2.2 (gx25 S).1 (gx25 S).2.1 (gx25 S).2.2.1 i0_lI y_i0_lI i0_ce i0_co i0_fi i0_fe (gx25 S).2.2.2.2.2.2.1 (gx25 S).2.2.2.2.2.2.2.1 (gx25 S).2.2.2.2.2.2.2.2.1 (gx25 S).2.2.2.2.2.2.2.2.2.1 (gx25 S).2.2.2.2.2.2.2.2.2.2.1 i1_x (gx26 S).1 (gx26 S).2.1 (gx26 S).2.2.1 (gx26 S).2.2.2.1 (gx26 S).2.2.2.2.1 (gx26 S).2.2.2.2.2.1 i1_lI y_i1_lI i1_ce i1_co i1_fi i1_fe (gx26 S).2.2.2.2.2.2.2.2.2.1 (gx26 S).2.2.2.2.2.2.2.2.2.2.1 (gx26 S).2.2.2.2.2.2.2.2.2.2.2 (gx27 S).1 (gx27 S).2.1 (gx27 S).2.2.1 i2_x (gx27 S).2.2.2.2.1 (gx27 S).2.2.2.2.2.1 (gx27 S).2.2.2.2.2.2.1 (gx27 S).2.2.2.2.2.2.2.1 (gx27 S).2.2.2.2.2.2.2.2.1 (gx27 S).2.2.2.2.2.2.2.2.2.1 i2_lI y_i2_lI i2_ce i2_co i2_fi i2_fe (gx28 S).2.1 (gx28 S).2.2.1 (gx28 S).2.2.2.1 (gx28 S).2.2.2.2.1 (gx28 S).2.2.2.2.2.1 i3_x (gx28 S).2.2.2.2.2.2.2.1 (gx28 S).2.2.2.2.2.2.2.2.1 (gx28 S).2.2.2.2.2.2.2.2.2.1 (gx28 S).2.2.2.2.2.2.2.2.2.2.1 (gx28 S).2.2.2.2.2.2.2.2.2.2.2 (gx29 S).1 i3_lI y_i3_lI i3_ce i3_co i3_fi i3_fe (gx29 S).2.2.2.2.1 (gx29 S).2.2.2.2.2.1 (gx29 S).2.2.2.2.2.2.1 (gx29 S).2.2.2.2.2.2.2.1 (gx29 S).2.2.2.2.2.2.2.2.1 (gx29 S).2.2.2.2.2.2.2.2.2 (by kernel_rfl)
def nameOf (s : Stmt) : List Str := match s with
  | .FunctionDef n .. => [n]
  | .ClassDef n .. => [n]
  | .Assign [.Name n _] _ _ => [n]
  | _ => []
def lawI : Nat := theRow.prog.main.body.length - 1
def names : List Str := (theRow.prog.main.body.take lawI).flatMap nameOf
def asL : List Addr := [3, 2, 31, 53, 74, 95, 107, 128, 149, 161, 182, 305, 409, 502, 604, 0, 6, 30, 52, 73, 94, 106, 127, 148, 160, 181, 304, 408, 501, 603, 19, 21, 48, 50, 69, 71, 90, 92, 123, 125] ++ [144, 146, 177, 179, 187, 189, 194, 196, 201, 203, 208, 210, 215, 217, 222, 224, 229, 231, 234, 236, 246, 248, 255, 263, 271, 279, 287, 293, 295, 300, 302, 319, 321, 328, 336, 344, 350, 358, 364, 366] ++ [369, 371, 376, 378, 383, 385, 390, 392, 397, 399, 404, 406, 418, 420, 423, 425, 430, 432, 444, 446, 453, 461, 469, 473, 475, 480, 482, 485, 487, 492, 494, 497, 499, 511, 513, 516, 518, 523, 525, 528] ++ [530, 533, 535, 540, 542, 547, 549, 561, 563, 568, 570, 573, 575, 580, 582, 585, 587, 592, 594, 599, 601, 613, 615, 620, 622, 625, 627, 632, 634, 639, 641, 646, 648, 653, 655, 660, 662, 667, 669, 674] ++ [676, 681, 683, 686, 688, 691, 693, 698, 700, 705, 707, 712, 714, 38, 59, 80, 113, 134, 167, 20, 32, 49, 70, 91, 124, 145, 178, 188, 195, 202, 209, 216, 223, 230, 235, 247, 254, 256, 262, 264] ++ [270, 272, 278, 280, 286, 288, 294, 301, 306, 307, 320, 327, 329, 335, 337, 343, 345, 349, 351, 357, 359, 365, 370, 377, 384, 391, 398, 405, 410, 411, 419, 424, 431, 445, 452, 454, 460, 462, 468, 470] ++ [474, 481, 486, 493, 498, 503, 504, 512, 517, 524, 529, 534, 541, 548, 562, 569, 574, 581, 586, 593, 600, 605, 606, 614, 621, 626, 633, 640, 647, 654, 661, 668, 675, 682, 687, 692, 699, 706, 713, 4]
abbrev hk : PySem.W.Hook := hookY asL fnL tfL exB
def ob (s : PySem.W.SharedT) : AlY := obsY asL fnL tfL exB (HandSHeadRun.getT s)
theorem ob_eq (s : PySem.W.SharedT) : ob s = hk.obs s.abs := obsY_eq (HandSHeadRun.getT_eq s)
theorem run_0 (w : World) : HandSHeadRun.RunEq theRow (PySem.W.view theRow.prog [lawI]) (hookY asL fn_0 tf_0 ex_0) (fun s => obsY asL fn_0 tf_0 ex_0 (HandSHeadRun.getT s)) 9000 names w := by
  intro os
  kernel_rfl
theorem run_1 (w : World) : HandSHeadRun.RunEq theRow (PySem.W.view theRow.prog [lawI]) (hookY asL fn_1 tf_1 ex_1) (fun s => obsY asL fn_1 tf_1 ex_1 (HandSHeadRun.getT s)) 9000 names w := by
  intro os
  kernel_rfl
theorem run_2 (w : World) : HandSHeadRun.RunEq theRow (PySem.W.view theRow.prog [lawI]) (hookY asL fn_2 tf_2 ex_2) (fun s => obsY asL fn_2 tf_2 ex_2 (HandSHeadRun.getT s)) 9000 names w := by
  intro os
  kernel_rfl
theorem run_3 (w : World) : HandSHeadRun.RunEq theRow (PySem.W.view theRow.prog [lawI]) (hookY asL fn_3 tf_3 ex_3) (fun s => obsY asL fn_3 tf_3 ex_3 (HandSHeadRun.getT s)) 9000 names w := by
  intro os
  kernel_rfl
theorem run_4 (w : World) : HandSHeadRun.RunEq theRow (PySem.W.view theRow.prog [lawI]) (hookY asL fn_4 tf_4 ex_4) (fun s => obsY asL fn_4 tf_4 ex_4 (HandSHeadRun.getT s)) 9000 names w := by
  intro os
  kernel_rfl
theorem run (w : World) : HandSHeadRun.RunEq theRow (PySem.W.view theRow.prog [lawI]) hk ob 9000 names w := run_join (run_join (run_join (run_join (run_0 w) (run_1 w)) (run_2 w)) (run_3 w)) (run_4 w)
end Sc
open PySem PySem.W PySem.Calls PyProof.Rows
theorem PySem.Challenge.cw_smallcourt_k59_whole_books_encoded_holds : PySem.Challenge.rw_smallcourt_k59_whole_books_encoded.Holds := by
  w_on; o_law
  refine HandSHeadRun.head_any (r := Sc.theRow) (q := view Sc.theRow.prog [Sc.lawI]) (H := Sc.hk) (ob := Sc.ob) (M := 9000) (loose := Sc.names) (d := HandSHeadRun.topDef Sc.theRow.prog Sc.lawI) (kwd := []) Sc.ob_eq (by kernel_rfl) (fun s => by kernel_rfl) Sc.run (by kernel_rfl) (by kernel_rfl) (by kernel_rfl) (by rfl) (by first | assumption | decide +kernel) (by decide +kernel) ⟨rfl, rfl, rfl, rfl, rfl, by decide +kernel⟩ ?hw ?hc
  case hw => w_witness2
  case hc =>
    refine LamX.walk_ofTsE (l := Sc.theLaw) (n := 63) (k := 32) (CX := fun _ => L2.CX0) (x := "_law_script") rfl (by decide) (by kernel_rfl) ⟨rfl, by decide, by decide⟩ ?F (fun _ _ _ _ _ z => z)
    intro w mg fa h Y G hmg0
    obtain ⟨K, KX, c⟩ := Y
    have hmg : mg ("law" : PySem.Str) = some (.ref fa) := by
      have e : (HandSHeadRun.topDef Sc.theRow.prog Sc.lawI).name = ("law" : PySem.Str) := by kernel_rfl
      rw [← e]
      exact hmg0
    exact ⟨K, KX, Sc.all_y KX G hmg c⟩
