import PyProof.Rows.All
import Wide.All
import OpenK.AllK
import Wide.FinOn
import KE.GoesMore
import HandS.Iter
import KE.KExcSuper
import HandS.Nested
import HandS.ExcInit
import HandS.FStr
import HandS.ForMost
import HandS.ForExc
import HandS.EndTab
import HandS.IsInst
import HandS.SetFor
import HandS.ExcIs
import HandS.ExcField
import HandS.TupAny
import HandS.Wide
import HandS.WideBits
import HandS.Walk
import HandS.Deep
import KE.KExcIs
import HandS.ReCall
import HandS.Strs
import PySem.Challenge.RW_smallcourt_k51_whole_orders_found_out
import HandS.Property
import HandS.NamedTupGet
import HandS.More
import HandS.SlotsOwn
import KE.KOpsOwn
import KE.KCallOwn
import HandS.WordsExc
import OpenK.KMeth
import HandS.Style
import PyProof.EqKinds
import PyProof.NeKinds
import HandS.Head2
import HandS.Head3
import HandS.HeadHook4
import HandS.HeadWalk
set_option Elab.async false
set_option linter.all false
set_option maxRecDepth 100000
set_option maxHeartbeats 4000000
namespace Sc
open PySem PySem.Spec PyProof.Rows L2 NdefX
def topS (i : Nat) : Stmt := PySem.Challenge.pw_smallcourt_k51_whole_orders_found_out.main.body.getD i (.Pass ⟨0, 0, 0, 0⟩)
abbrev s_is_name : Stmt := topS 16
abbrev s_rises : Stmt := topS 18
abbrev s__law_mix : Stmt := topS 49
abbrev s__law_next : Stmt := topS 50
abbrev s__law_facts : Stmt := topS 53
abbrev s__law_alike : Stmt := topS 52
abbrev s_check_part : Stmt := topS 39
abbrev s_merged : Stmt := topS 40
abbrev s_Condition___init__ : Stmt := (inClass (topS 38) 0)
abbrev s_Condition_holding : Stmt := (inClass (topS 38) 1)
abbrev s_Condition_failing : Stmt := (inClass (topS 38) 2)
abbrev s_Condition_names : Stmt := (inClass (topS 38) 3)
abbrev s_Condition___len__ : Stmt := (inClass (topS 38) 5)
abbrev s_Condition___call__ : Stmt := (inClass (topS 38) 4)
abbrev s_Condition_within : Stmt := (inClass (topS 38) 8)
abbrev s_Condition___eq__ : Stmt := (inClass (topS 38) 7)
abbrev s_Condition___and__ : Stmt := (inClass (topS 38) 6)
abbrev s_nested : Stmt := topS 33
abbrev s_Rule___init__ : Stmt := (inClass (topS 31) 0)
abbrev s_Rule_name : Stmt := (inClass (topS 31) 1)
abbrev s_Rule_condition : Stmt := (inClass (topS 31) 2)
abbrev s_Rule_ruling : Stmt := (inClass (topS 31) 3)
abbrev s_Rule_exceptions : Stmt := (inClass (topS 31) 4)
abbrev s_Rule_depth : Stmt := (inClass (topS 31) 5)
abbrev s_check_rules : Stmt := topS 34
abbrev s_check_facts : Stmt := topS 21
abbrev s_check_case : Stmt := topS 22
abbrev s_Book___init__ : Stmt := (inClass (topS 32) 0)
abbrev s_Book_facts : Stmt := (inClass (topS 32) 1)
abbrev s_Book_rules : Stmt := (inClass (topS 32) 2)
abbrev s_Book_ruling : Stmt := (inClass (topS 32) 3)
abbrev s_up_to_first_met : Stmt := topS 25
abbrev s_steps : Stmt := topS 24
abbrev s_looked_into : Stmt := topS 26
abbrev s_Book___call__ : Stmt := (inClass (topS 32) 12)
abbrev s__law_sides : Stmt := topS 54
abbrev s__law_rule : Stmt := topS 55
abbrev s__law_drawn : Stmt := topS 56
abbrev s__law_made : Stmt := topS 57
abbrev s__law_book : Stmt := topS 58
abbrev s__law_two : Stmt := topS 51
abbrev s__law_case : Stmt := topS 59
abbrev s__law_way : Stmt := topS 60
abbrev s__law_ruled : Stmt := topS 61
abbrev s_orders_of : Stmt := topS 44
abbrev s__law_orders : Stmt := topS 63
abbrev s_ruling_within : Stmt := topS 45
abbrev s_ruling_by : Stmt := topS 46
abbrev s_check_word : Stmt := topS 17
abbrev s_check_left : Stmt := topS 47
abbrev s_OrderWatcher___init__ : Stmt := (inClass (topS 43) 0)
abbrev s_OrderWatcher_order_count : Stmt := (inClass (topS 43) 1)
abbrev s_OrderWatcher_first_order : Stmt := (inClass (topS 43) 2)
abbrev s_OrderWatcher_records : Stmt := (inClass (topS 43) 3)
abbrev s_OrderWatcher_see : Stmt := (inClass (topS 43) 4)
abbrev s_OrderWatcher_sure : Stmt := (inClass (topS 43) 5)
abbrev s__law_word : Stmt := topS 62
abbrev s_law : Stmt := topS 64
abbrev nf_InvalidFacts (cc c : Addr) : NF := ⟨"__init__", "InvalidFacts.__init__", defArgs (inClass (topS 3) 0), defBody (inClass (topS 3) 0), defScope (inClass (topS 3) 0), [(("__class__" : Str), cc)], c⟩
abbrev nf_InvalidCase (cc c : Addr) : NF := ⟨"__init__", "InvalidCase.__init__", defArgs (inClass (topS 4) 0), defBody (inClass (topS 4) 0), defScope (inClass (topS 4) 0), [(("__class__" : Str), cc)], c⟩
abbrev nf_InvalidCondition (cc c : Addr) : NF := ⟨"__init__", "InvalidCondition.__init__", defArgs (inClass (topS 5) 0), defBody (inClass (topS 5) 0), defScope (inClass (topS 5) 0), [(("__class__" : Str), cc)], c⟩
abbrev nf_InvalidRule (cc c : Addr) : NF := ⟨"__init__", "InvalidRule.__init__", defArgs (inClass (topS 7) 0), defBody (inClass (topS 7) 0), defScope (inClass (topS 7) 0), [(("__class__" : Str), cc)], c⟩
abbrev nf_InvalidBook (cc c : Addr) : NF := ⟨"__init__", "InvalidBook.__init__", defArgs (inClass (topS 8) 0), defBody (inClass (topS 8) 0), defScope (inClass (topS 8) 0), [(("__class__" : Str), cc)], c⟩
def letters : Str := "abcdefghijklmnopqrstuvwxyz"
end Sc
namespace HeadY
open PySem PySem.Spec PyProof.Rows L2 He
/-! ### addresses -/
def recF (K : PySem.W.Frag) (p : Addr) : Addr := match PySem.W.recIn K p "property" with
  | some (.ref g :: _) => g
  | _ => 0
def codA (K : PySem.W.Frag) (f : Addr) : Addr := match K.lookup f with
  | some ⟨_, _, .func fd, _⟩ => (match fd.code with
    | .ref c => c
    | _ => 0)
  | _ => 0
def cloA (K : PySem.W.Frag) (f : Addr) : Addr := match K.lookup f with
  | some ⟨_, _, .func fd, _⟩ => (match fd.closure with
    | (_, c) :: _ => c
    | _ => 0)
  | _ => 0
def mroT (K : PySem.W.Frag) (C : Addr) : List Value := match K.lookup C with
  | some ⟨_, _, .cls cd, _⟩ => cd.mro.tail
  | _ => []
/-! ### functions -/
abbrev FnY : Type := Option (Str × Str × Arguments × FuncBody × Scope)
def fnY (K : PySem.W.Frag) (a : Addr) : FnY := match K.lookup a with
  | some ⟨_, _, .func fd, _⟩ => some (fd.name, fd.qualname, fd.params, fd.body, fd.scope)
  | _ => none
structure FnDY where
  at_ : PySem.W.Frag → Addr
  name : Str
  qual : Str
  params : Arguments
  body : List Stmt
  scope : Scope
def FnDY.val (d : FnDY) : FnY := some (d.name, d.qual, d.params, .stmts d.body, d.scope)
def fnB (K : PySem.W.Frag) (a : Addr) (q : Str) : Bool := match K.lookup a with
  | some ⟨_, _, .func fd, _⟩ => PySem.W.codeIn K (.ref (codA K a)) q && (decide (fd.code = .ref (codA K a)) && (decide (fd.globals = mainGlobals) && (fd.closure.isEmpty && (decide (fd.defaults = .none) && decide (fd.builtins = builtinsNs)))))
  | _ => false
def fnBC (K : PySem.W.Frag) (a : Addr) (q : Str) : Bool := match K.lookup a with
  | some ⟨_, _, .func fd, _⟩ => PySem.W.codeIn K (.ref (codA K a)) q && (decide (fd.code = .ref (codA K a)) && (decide (fd.globals = mainGlobals) && (decide (fd.closure = [(("__class__" : Str), cloA K a)]) && (decide (fd.defaults = .none) && decide (fd.builtins = builtinsNs)))))
  | _ => false
theorem fn_ok {K : PySem.W.Frag} {a : Addr} {n q : Str} {ps : Arguments} {b : List Stmt} {sc : Scope} (e : fnY K a = some (n, q, ps, .stmts b, sc)) (c : fnB K a q = true) :
    ∃ oc od kV dc pm an ct sl, K.lookup a = some ⟨oc, od, .func (PySem.W.fnOf n q ps b sc .none kV dc pm an (.ref (codA K a)) ct), sl⟩ ∧ PySem.W.codeIn K (.ref (codA K a)) q = true := by
  unfold fnB at c
  unfold fnY at e
  cases z : K.lookup a with
  | none => rw [z] at c; cases c
  | some o =>
    obtain ⟨oc, od, dt, sl⟩ := o
    rw [z] at c e
    cases dt with
    | func fd =>
      obtain ⟨n1, n2, n3, n4, n5, n6, n7, n8, n9, n10, n11, n12, n13, n14, n15⟩ := fd
      have e2 : (some (n1, n2, n3, n4, n5) : FnY) = some (n, q, ps, .stmts b, sc) := e
      simp only [Option.some.injEq, Prod.mk.injEq] at e2
      obtain ⟨h1, h2, h3, h4, h5⟩ := e2
      obtain ⟨c1, c⟩ := ba c
      obtain ⟨c2, c⟩ := ba c
      obtain ⟨c3, c⟩ := ba c
      obtain ⟨c4, c⟩ := ba c
      obtain ⟨c5, c6⟩ := ba c
      have c2 : n13 = _ := of_decide_eq_true c2
      have c3 : n6 = _ := of_decide_eq_true c3
      have c4 : n7 = [] := List.isEmpty_iff.mp c4
      have c5 : n8 = _ := of_decide_eq_true c5
      have c6 : n15 = _ := of_decide_eq_true c6
      exact ⟨oc, od, n9, n10, n11, n12, n14, sl, by rw [h1, h2, h3, h4, h5, c2, c3, c4, c5, c6], c1⟩
    | _ => cases c
theorem fn_okC {K : PySem.W.Frag} {a : Addr} {n q : Str} {ps : Arguments} {b : List Stmt} {sc : Scope} (e : fnY K a = some (n, q, ps, .stmts b, sc)) (c : fnBC K a q = true) :
    ∃ oc od kV dc pm an ct sl, K.lookup a = some ⟨oc, od, .func (PySem.W.fnX n q ps b sc [(("__class__" : Str), cloA K a)] .none kV dc pm an (.ref (codA K a)) ct), sl⟩ ∧ PySem.W.codeIn K (.ref (codA K a)) q = true := by
  unfold fnBC at c
  unfold fnY at e
  cases z : K.lookup a with
  | none => rw [z] at c; cases c
  | some o =>
    obtain ⟨oc, od, dt, sl⟩ := o
    rw [z] at c e
    cases dt with
    | func fd =>
      obtain ⟨n1, n2, n3, n4, n5, n6, n7, n8, n9, n10, n11, n12, n13, n14, n15⟩ := fd
      have e2 : (some (n1, n2, n3, n4, n5) : FnY) = some (n, q, ps, .stmts b, sc) := e
      simp only [Option.some.injEq, Prod.mk.injEq] at e2
      obtain ⟨h1, h2, h3, h4, h5⟩ := e2
      obtain ⟨c1, c⟩ := ba c
      obtain ⟨c2, c⟩ := ba c
      obtain ⟨c3, c⟩ := ba c
      obtain ⟨c4, c⟩ := ba c
      obtain ⟨c5, c6⟩ := ba c
      have c2 : n13 = _ := of_decide_eq_true c2
      have c3 : n6 = _ := of_decide_eq_true c3
      have c4 : n7 = _ := of_decide_eq_true c4
      have c5 : n8 = _ := of_decide_eq_true c5
      have c6 : n15 = _ := of_decide_eq_true c6
      exact ⟨oc, od, n9, n10, n11, n12, n14, sl, by rw [h1, h2, h3, h4, h5, c2, c3, c4, c5, c6], c1⟩
    | _ => cases c
/-! ### shapes -/
def intB (K : PySem.W.Frag) (x : Str) (i : Int) : Bool := match PySem.W.nsIn K mainGlobals x with
  | some (some (.int j _)) => decide (j = i)
  | _ => false
theorem int_is {K : PySem.W.Frag} {x : Str} {i : Int} (c : intB K x i = true) : ∃ t, PySem.W.nsIn K mainGlobals x = some (some (.int i t)) := by
  unfold intB at c
  split at c
  · rename_i j t e
    exact ⟨t, by rw [e, of_decide_eq_true c]⟩
  · cases c
def strB (K : PySem.W.Frag) (x s : Str) : Bool := match PySem.W.nsIn K mainGlobals x with
  | some (some (.str j _)) => decide (j = s)
  | _ => false
theorem str_is {K : PySem.W.Frag} {x s : Str} (c : strB K x s = true) : ∃ t, PySem.W.nsIn K mainGlobals x = some (some (.str s t)) := by
  unfold strB at c
  split at c
  · rename_i j t e
    exact ⟨t, by rw [e, of_decide_eq_true c]⟩
  · cases c
def recB (K : PySem.W.Frag) (p : Addr) : Bool := match PySem.W.recIn K p "property" with
  | some (.ref g :: _) => decide (g = recF K p)
  | _ => false
theorem rec_is {K : PySem.W.Frag} {p : Addr} (c : recB K p = true) : ∃ rs, PySem.W.recIn K p "property" = some (.ref (recF K p) :: rs) := by
  unfold recB at c
  split at c
  · rename_i g rs e
    exact ⟨rs, by rw [e, of_decide_eq_true c]⟩
  · cases c
theorem some_is {α : Type} {o : Option α} (c : o.isSome = true) : ∃ x, o = some x := Option.isSome_iff_exists.mp c
def sixB (id : String) : List (Option Value) → Bool
  | [_, _, _, _, some (.builtin b), _] => decide (b = id)
  | _ => false
theorem six_is {id : String} {l : List (Option Value)} (c : sixB id l = true) : ∃ x0 x1 x2 x3 x5, l = [x0, x1, x2, x3, some (.builtin id), x5] := by
  unfold sixB at c
  split at c
  · have c := of_decide_eq_true c
    exact ⟨_, _, _, _, _, by rw [c]⟩
  · cases c
def excB (K : PySem.W.Frag) (C : Addr) (id : String) : Bool := match K.lookup C with
  | some ⟨.type t, _, .cls cd, sl⟩ => decide (t = "type") && (decide (cd.mro = .ref C :: mroT K C) && (cd.hasDict && (!cd.hasDel && sixB id sl.toList)))
  | _ => false
theorem exc_is {K : PySem.W.Frag} {C : Addr} {id : String} (c : excB K C id = true) :
    ∃ nm q N bs sn su ab col dd x0 x1 x2 x3 x5, K.lookup C = some (excClassObj nm q C N bs (mroT K C) true sn su ab col dd x0 x1 x2 x3 x5 id) := by
  unfold excB at c
  cases z : K.lookup C with
  | none => rw [z] at c; cases c
  | some o =>
    obtain ⟨oc, od, dt, ⟨sl⟩⟩ := o
    rw [z] at c
    cases oc with
    | type t =>
      cases dt with
      | cls cd =>
        obtain ⟨n1, n2, n3, n4, n5, n6, n7, n8, n9, n10, n11⟩ := cd
        obtain ⟨c1, c⟩ := ba c
        obtain ⟨c2, c⟩ := ba c
        obtain ⟨c3, c⟩ := ba c
        obtain ⟨c4, c5⟩ := ba c
        have c1 : t = _ := of_decide_eq_true c1
        have c2 : n3 = _ := of_decide_eq_true c2
        have c3 : n6 = true := c3
        have c4 : n11 = false := by
          cases n11 with
          | false => rfl
          | true => cases c4
        obtain ⟨x0, x1, x2, x3, x5, c5⟩ := six_is (l := sl) c5
        exact ⟨n1, n5, n4, n2, n7, n8, n9, n10, od, x0, x1, x2, x3, x5, by rw [c1, c2, c3, c4, c5]⟩
      | _ => cases c
    | _ => cases dt <;> cases c
def cellB (K : PySem.W.Frag) (c E : Addr) : Bool := match K.lookup c with
  | some ⟨_, _, .cell (some (.ref a)), _⟩ => decide (a = E)
  | _ => false
theorem cell_is {K : PySem.W.Frag} {c E : Addr} (e : cellB K c E = true) : ∃ cl cd sl, K.lookup c = some ⟨cl, cd, .cell (some (.ref E)), sl⟩ := by
  unfold cellB at e
  split at e
  · rename_i a _ z
    exact ⟨_, _, _, by rw [z, of_decide_eq_true e]⟩
  · cases e
def fileB (K : PySem.W.Frag) (c : Addr) (f : Str) : Bool := match K.lookup c with
  | some ⟨_, _, .fields vs, _⟩ => (match (vs[2]? : Option Value) with
    | some (.str x _) => f == x
    | _ => false)
  | _ => false
theorem file_is {K : PySem.W.Frag} {c : Addr} {f : Str} (e : fileB K c f = true) : ∃ cl cd vs sl x t, K.lookup c = some ⟨cl, cd, .fields vs, sl⟩ ∧ vs[2]? = some (.str x t) ∧ (f == x) = true := by
  unfold fileB at e
  split at e
  · rename_i vs _ z
    split at e
    · rename_i x t y
      exact ⟨_, _, _, _, x, t, z, y, e⟩
    · cases e
  · cases e
def strsB : List Value → List Str → Bool
  | [], [] => true
  | .str x _ :: r, s :: ss => decide (x = s) && strsB r ss
  | _, _ => false
theorem strs_is : ∀ {l : List Value} {ss : List Str}, strsB l ss = true → ∃ us : List Tok, us.length = ss.length ∧ l = List.zipWith Value.str ss us
  | [], [], _ => ⟨[], rfl, rfl⟩
  | [], s :: ss, h => by cases h
  | v :: r, [], h => by cases v <;> cases h
  | v :: r, s :: ss, h => by
    cases v with
    | str x t =>
      obtain ⟨h1, h2⟩ := ba h
      obtain ⟨us, e1, e2⟩ := strs_is h2
      refine ⟨t :: us, by simp [e1], ?_⟩
      have h1 : x = s := of_decide_eq_true h1
      rw [h1, e2]
      rfl
    | _ => cases h
def tupB (K : PySem.W.Frag) (a : Addr) (ss : List Str) : Bool := match K.lookup a with
  | some ⟨.type c, _, .seq its _, _⟩ => decide (c = "tuple") && strsB its.toList ss
  | _ => false
theorem tup_is {K : PySem.W.Frag} {a : Addr} {ss : List Str} (e : tupB K a ss = true) : ∃ od n sl, ∃ us : List Tok, us.length = ss.length ∧ K.lookup a = some ⟨.type "tuple", od, .seq ⟨List.zipWith Value.str ss us⟩ n, sl⟩ := by
  unfold tupB at e
  cases z : K.lookup a with
  | none => rw [z] at e; cases e
  | some o =>
    obtain ⟨oc, od, dt, sl⟩ := o
    rw [z] at e
    cases oc with
    | type c =>
      cases dt with
      | seq its n =>
        obtain ⟨⟨its⟩⟩ : Nonempty { x : Array Value // x = its } := ⟨⟨its, rfl⟩⟩
        obtain ⟨e1, e2⟩ := ba e
        obtain ⟨us, h1, h2⟩ := strs_is e2
        have e1 : c = "tuple" := of_decide_eq_true e1
        refine ⟨od, n, sl, us, h1, ?_⟩
        rw [e1, ← h2]
      | _ => cases e
    | _ => cases dt <;> cases e
theorem len1 {α : Type} {us : List α} (h : us.length = 1) : ∃ a, us = [a] := by
  match us, h with
  | [a], _ => exact ⟨a, rfl⟩
theorem len2 {α : Type} {us : List α} (h : us.length = 2) : ∃ a b, us = [a, b] := by
  match us, h with
  | [a, b], _ => exact ⟨a, b, rfl⟩
theorem len3 {α : Type} {us : List α} (h : us.length = 3) : ∃ a b c, us = [a, b, c] := by
  match us, h with
  | [a, b, c], _ => exact ⟨a, b, c, rfl⟩
theorem len4 {α : Type} {us : List α} (h : us.length = 4) : ∃ a b c d, us = [a, b, c, d] := by
  match us, h with
  | [a, b, c, d], _ => exact ⟨a, b, c, d, rfl⟩
theorem len5 {α : Type} {us : List α} (h : us.length = 5) : ∃ a b c d e, us = [a, b, c, d, e] := by
  match us, h with
  | [a, b, c, d, e], _ => exact ⟨a, b, c, d, e, rfl⟩
theorem tbl_is {K : PySem.W.Frag} {c T : Addr} (e : PySem.W.codeHdIn K c T = true) : ∃ o, K.lookup c = some o ∧ PySem.W.codeHdIn [(c, o)] c T = true := by
  cases z : K.lookup c with
  | none =>
    unfold PySem.W.codeHdIn at e
    rw [z] at e
    cases e
  | some o =>
    refine ⟨o, rfl, ?_⟩
    unfold PySem.W.codeHdIn at e ⊢
    have q : ([(c, o)] : PySem.W.Frag).lookup c = some o := by simp [List.lookup]
    rw [q]
    rw [z] at e
    exact e
/-! ### the Hook -/
abbrev AlY : Type := List FnY × Bool
structure SaysY (fn : List FnDY) (tf : List (PySem.W.Frag → Addr)) (ex : PySem.W.Frag → Bool) (h : Heap) (K : PySem.W.Frag) : Prop where
  fns : fn.map (fun d => fnY K (d.at_ K)) = fn.map FnDY.val
  more : ex K = true
  hd : ∀ p ∈ tf, PySem.W.codeHdIn K (p K) (tabOf K (p K)) = true
  out : ∀ p ∈ tf, K.lookup (tabOf K (p K)) = none
  empty : ∀ p ∈ tf, h.get? (tabOf K (p K)) = some { cls := .none, data := .fields #[] }
def tabsY (g : Addr → Option Obj) (tf : List (PySem.W.Frag → Addr)) (K : PySem.W.Frag) : Bool := tf.all fun p => PySem.W.codeHdIn K (p K) (tabOf K (p K)) && (match g (tabOf K (p K)) with
  | some o => emptyTab o
  | none => false)
def obsY (as : List Addr) (fn : List FnDY) (tf : List (PySem.W.Frag → Addr)) (ex : PySem.W.Frag → Bool) (g : Addr → Option Obj) : AlY :=
  (fun K : PySem.W.Frag => (fn.map (fun d => fnY K (d.at_ K)), ex K && tabsY g tf K)) (frT g as)
def valY (fn : List FnDY) : AlY := (fn.map FnDY.val, true)
theorem saysY_of {as : List Addr} {fn : List FnDY} {tf : List (PySem.W.Frag → Addr)} {ex : PySem.W.Frag → Bool} {h : Heap} (e : obsY as fn tf ex h.get? = valY fn) : SaysY fn tf ex h (frT h.get? as) := by
  have e1 : fn.map (fun d => fnY (frT h.get? as) (d.at_ (frT h.get? as))) = fn.map FnDY.val := congrArg (fun z : AlY => z.1) e
  have e2 : (ex (frT h.get? as) && tabsY h.get? tf (frT h.get? as)) = true := congrArg (fun z : AlY => z.2) e
  obtain ⟨h1, h2⟩ := ba e2
  have key : ∀ p ∈ tf, PySem.W.codeHdIn (frT h.get? as) (p (frT h.get? as)) (tabOf (frT h.get? as) (p (frT h.get? as))) = true ∧ ∃ o, h.get? (tabOf (frT h.get? as) (p (frT h.get? as))) = some o ∧ emptyTab o = true := fun p hp => by
    obtain ⟨h3, h4⟩ := ba (List.all_eq_true.mp h2 p hp)
    refine ⟨h3, ?_⟩
    split at h4
    · rename_i o q
      exact ⟨o, q, h4⟩
    · cases h4
  exact ⟨e1, h1, fun p hp => (key p hp).1, fun p hp => by
    obtain ⟨_, o, q, z⟩ := key p hp
    exact frT_none q z, fun p hp => by
    obtain ⟨_, o, q, z⟩ := key p hp
    rw [q, emptyTab_eq z]⟩
def hookY (as : List Addr) (fn : List FnDY) (tf : List (PySem.W.Frag → Addr)) (ex : PySem.W.Frag → Bool) : PySem.W.Hook where
  α := AlY
  obs := fun s => obsY as fn tf ex s.heap.get?
  val := fun _ => valY fn
  says := fun _ h => ∃ K : PySem.W.Frag, K.In h ∧ SaysY fn tf ex h K
  of := fun _ _ e => ⟨_, frT_in, saysY_of e⟩
  keeps := fun _ _ _ ⟨K, hK, c⟩ k => ⟨K, PySem.W.Frag.In.keeps hK k, ⟨c.fns, c.more, c.hd, c.out, fun p hp => k _ _ (c.empty p hp)⟩⟩
theorem obsY_eq {as : List Addr} {fn : List FnDY} {tf : List (PySem.W.Frag → Addr)} {ex : PySem.W.Frag → Bool} {g : Addr → Option Obj} {s : Shared} (h : ∀ a, g a = s.heap.get? a) : obsY as fn tf ex g = (hookY as fn tf ex).obs s := by
  have e : g = s.heap.get? := funext h
  rw [e] <;> rfl
theorem map_join {α β γ δ ε : Type} {X : Option α} {a : α → β} {b : α → γ} {c : α → δ} {d : α → ε} {x : β} {y : γ} {z : δ} {u : ε} (h1 : X.map (fun s => (a s, b s, c s)) = some (x, y, z)) (h2 : X.map (fun s => (a s, b s, d s)) = some (x, y, u)) : ∃ s, X = some s ∧ a s = x ∧ b s = y ∧ c s = z ∧ d s = u := by
  cases X with
  | none => cases h1
  | some s =>
    have e1 : (a s, b s, c s) = (x, y, z) := Option.some.inj h1
    have e2 : (a s, b s, d s) = (x, y, u) := Option.some.inj h2
    simp only [Prod.mk.injEq] at e1 e2
    exact ⟨s, rfl, e1.1, e1.2.1, e1.2.2, e2.2.2⟩
/-- two runs, two parts of what is looked at -/
theorem run_join {r : PySem.W.OpenRow} {q : Program} {M : Nat} {loose : List Str} {w : World} {as : List Addr} {fn1 fn2 : List FnDY} {tf1 tf2 : List (PySem.W.Frag → Addr)} {ex1 ex2 : PySem.W.Frag → Bool}
    (h1 : HandSHeadRun.RunEq r q (hookY as fn1 tf1 ex1) (fun s => obsY as fn1 tf1 ex1 (HandSHeadRun.getT s)) M loose w) (h2 : HandSHeadRun.RunEq r q (hookY as fn2 tf2 ex2) (fun s => obsY as fn2 tf2 ex2 (HandSHeadRun.getT s)) M loose w) :
    HandSHeadRun.RunEq r q (hookY as (fn1 ++ fn2) (tf1 ++ tf2) (fun K => ex1 K && ex2 K)) (fun s => obsY as (fn1 ++ fn2) (tf1 ++ tf2) (fun K => ex1 K && ex2 K) (HandSHeadRun.getT s)) M loose w := by
  intro os
  obtain ⟨s, e, e1, e2, e3, e4⟩ := map_join (h1 os) (h2 os)
  rw [e]
  have e3 : obsY as fn1 tf1 ex1 (HandSHeadRun.getT s) = valY fn1 := e3
  have e4 : obsY as fn2 tf2 ex2 (HandSHeadRun.getT s) = valY fn2 := e4
  have a1 : fn1.map (fun d => fnY (frT (HandSHeadRun.getT s) as) (d.at_ (frT (HandSHeadRun.getT s) as))) = fn1.map FnDY.val := congrArg (fun z : AlY => z.1) e3
  have a2 : (ex1 (frT (HandSHeadRun.getT s) as) && tabsY (HandSHeadRun.getT s) tf1 (frT (HandSHeadRun.getT s) as)) = true := congrArg (fun z : AlY => z.2) e3
  have b1 : fn2.map (fun d => fnY (frT (HandSHeadRun.getT s) as) (d.at_ (frT (HandSHeadRun.getT s) as))) = fn2.map FnDY.val := congrArg (fun z : AlY => z.1) e4
  have b2 : (ex2 (frT (HandSHeadRun.getT s) as) && tabsY (HandSHeadRun.getT s) tf2 (frT (HandSHeadRun.getT s) as)) = true := congrArg (fun z : AlY => z.2) e4
  obtain ⟨a2, a3⟩ := ba a2
  obtain ⟨b2, b3⟩ := ba b2
  have c : obsY as (fn1 ++ fn2) (tf1 ++ tf2) (fun K => ex1 K && ex2 K) (HandSHeadRun.getT s) = valY (fn1 ++ fn2) := by
    show ((fn1 ++ fn2).map (fun d => fnY (frT (HandSHeadRun.getT s) as) (d.at_ (frT (HandSHeadRun.getT s) as))), (ex1 (frT (HandSHeadRun.getT s) as) && ex2 (frT (HandSHeadRun.getT s) as)) && tabsY (HandSHeadRun.getT s) (tf1 ++ tf2) (frT (HandSHeadRun.getT s) as)) = ((fn1 ++ fn2).map FnDY.val, true)
    have t : tabsY (HandSHeadRun.getT s) (tf1 ++ tf2) (frT (HandSHeadRun.getT s) as) = true := by
      unfold tabsY at a3 b3 ⊢
      rw [List.all_append, a3, b3] <;> rfl
    rw [List.map_append, List.map_append, a1, b1, a2, b2, t] <;> rfl
  show some (_, _, _) = some (_, _, _)
  rw [e1, e2]
  exact congrArg (fun z => some (true, PySem.W.openGood q loose, z)) c
/-- the same of a text with imports -/
theorem run_joinI {r : PySem.W.OpenRow} {q : Program} {M : Nat} {loose : List Str} {w : World} {as : List Addr} {fn1 fn2 : List FnDY} {tf1 tf2 : List (PySem.W.Frag → Addr)} {ex1 ex2 : PySem.W.Frag → Bool}
    (h1 : HandSHeadRun.RunEqI r q (hookY as fn1 tf1 ex1) (fun s => obsY as fn1 tf1 ex1 (HandSHeadRun.getT s)) M loose w) (h2 : HandSHeadRun.RunEqI r q (hookY as fn2 tf2 ex2) (fun s => obsY as fn2 tf2 ex2 (HandSHeadRun.getT s)) M loose w) :
    HandSHeadRun.RunEqI r q (hookY as (fn1 ++ fn2) (tf1 ++ tf2) (fun K => ex1 K && ex2 K)) (fun s => obsY as (fn1 ++ fn2) (tf1 ++ tf2) (fun K => ex1 K && ex2 K) (HandSHeadRun.getT s)) M loose w := by
  unfold HandSHeadRun.RunEqI at h1 h2 ⊢
  obtain ⟨⟨s0, s⟩, e, e1, e2, e3, e4⟩ := map_join h1 h2
  rw [e]
  have e3 : obsY as fn1 tf1 ex1 (HandSHeadRun.getT s) = valY fn1 := e3
  have e4 : obsY as fn2 tf2 ex2 (HandSHeadRun.getT s) = valY fn2 := e4
  have a1 : fn1.map (fun d => fnY (frT (HandSHeadRun.getT s) as) (d.at_ (frT (HandSHeadRun.getT s) as))) = fn1.map FnDY.val := congrArg (fun z : AlY => z.1) e3
  have a2 : (ex1 (frT (HandSHeadRun.getT s) as) && tabsY (HandSHeadRun.getT s) tf1 (frT (HandSHeadRun.getT s) as)) = true := congrArg (fun z : AlY => z.2) e3
  have b1 : fn2.map (fun d => fnY (frT (HandSHeadRun.getT s) as) (d.at_ (frT (HandSHeadRun.getT s) as))) = fn2.map FnDY.val := congrArg (fun z : AlY => z.1) e4
  have b2 : (ex2 (frT (HandSHeadRun.getT s) as) && tabsY (HandSHeadRun.getT s) tf2 (frT (HandSHeadRun.getT s) as)) = true := congrArg (fun z : AlY => z.2) e4
  obtain ⟨a2, a3⟩ := ba a2
  obtain ⟨b2, b3⟩ := ba b2
  have c : obsY as (fn1 ++ fn2) (tf1 ++ tf2) (fun K => ex1 K && ex2 K) (HandSHeadRun.getT s) = valY (fn1 ++ fn2) := by
    show ((fn1 ++ fn2).map (fun d => fnY (frT (HandSHeadRun.getT s) as) (d.at_ (frT (HandSHeadRun.getT s) as))), (ex1 (frT (HandSHeadRun.getT s) as) && ex2 (frT (HandSHeadRun.getT s) as)) && tabsY (HandSHeadRun.getT s) (tf1 ++ tf2) (frT (HandSHeadRun.getT s) as)) = ((fn1 ++ fn2).map FnDY.val, true)
    have t : tabsY (HandSHeadRun.getT s) (tf1 ++ tf2) (frT (HandSHeadRun.getT s) as) = true := by
      unfold tabsY at a3 b3 ⊢
      rw [List.all_append, a3, b3] <;> rfl
    rw [List.map_append, List.map_append, a1, b1, a2, b2, t] <;> rfl
  show some (_, _, _) = some (_, _, _)
  rw [e1, e2]
  exact congrArg (fun z => some (true, PySem.W.openGood q loose, z)) c
theorem SaysY.fn {fn : List FnDY} {tf : List (PySem.W.Frag → Addr)} {ex : PySem.W.Frag → Bool} {h : Heap} {K : PySem.W.Frag} (c : SaysY fn tf ex h K) (i : Nat) {d : FnDY} (e : fn[i]? = some d) : fnY K (d.at_ K) = some (d.name, d.qual, d.params, .stmts d.body, d.scope) := by
  have e2 : (fn.map fun d => fnY K (d.at_ K))[i]? = (fn.map FnDY.val)[i]? := by rw [c.fns]
  rw [List.getElem?_map, List.getElem?_map, e] at e2
  exact Option.some.inj e2
end HeadY
namespace Sc
open PySem PySem.Spec PyProof.Rows L2 HeadY He
abbrev theLaw : PySem.W.OpenLaw := PySem.Challenge.rw_smallcourt_k51_whole_orders_found_out
abbrev theRow : PySem.W.OpenRow := PySem.W.OpenLaw.row PySem.Challenge.rw_smallcourt_k51_whole_orders_found_out
def theFile : Str := theRow.prog.main.file
def Ad_f_is_name (K : PySem.W.Frag) : Addr := ga K "is_name"
def Ad_f_rises (K : PySem.W.Frag) : Addr := ga K "rises"
def Ad_f_check_facts (K : PySem.W.Frag) : Addr := ga K "check_facts"
def Ad_f_check_case (K : PySem.W.Frag) : Addr := ga K "check_case"
def Ad_f_check_word (K : PySem.W.Frag) : Addr := ga K "check_word"
def Ad_f_check_left (K : PySem.W.Frag) : Addr := ga K "check_left"
def Ad_f_nested (K : PySem.W.Frag) : Addr := ga K "nested"
def Ad_f_check_rules (K : PySem.W.Frag) : Addr := ga K "check_rules"
def Ad_f_check_part (K : PySem.W.Frag) : Addr := ga K "check_part"
def Ad_f_merged (K : PySem.W.Frag) : Addr := ga K "merged"
def Ad_f_steps (K : PySem.W.Frag) : Addr := ga K "steps"
def Ad_f_up_to_first_met (K : PySem.W.Frag) : Addr := ga K "up_to_first_met"
def Ad_f_looked_into (K : PySem.W.Frag) : Addr := ga K "looked_into"
def Ad_f_orders_of (K : PySem.W.Frag) : Addr := ga K "orders_of"
def Ad_f_ruling_within (K : PySem.W.Frag) : Addr := ga K "ruling_within"
def Ad_f_ruling_by (K : PySem.W.Frag) : Addr := ga K "ruling_by"
def Ad_f__law_mix (K : PySem.W.Frag) : Addr := ga K "_law_mix"
def Ad_f__law_next (K : PySem.W.Frag) : Addr := ga K "_law_next"
def Ad_f__law_two (K : PySem.W.Frag) : Addr := ga K "_law_two"
def Ad_f__law_alike (K : PySem.W.Frag) : Addr := ga K "_law_alike"
def Ad_f__law_facts (K : PySem.W.Frag) : Addr := ga K "_law_facts"
def Ad_f__law_sides (K : PySem.W.Frag) : Addr := ga K "_law_sides"
def Ad_f__law_rule (K : PySem.W.Frag) : Addr := ga K "_law_rule"
def Ad_f__law_drawn (K : PySem.W.Frag) : Addr := ga K "_law_drawn"
def Ad_f__law_made (K : PySem.W.Frag) : Addr := ga K "_law_made"
def Ad_f__law_book (K : PySem.W.Frag) : Addr := ga K "_law_book"
def Ad_f__law_case (K : PySem.W.Frag) : Addr := ga K "_law_case"
def Ad_f__law_way (K : PySem.W.Frag) : Addr := ga K "_law_way"
def Ad_f__law_ruled (K : PySem.W.Frag) : Addr := ga K "_law_ruled"
def Ad_f__law_word (K : PySem.W.Frag) : Addr := ga K "_law_word"
def Ad_f__law_orders (K : PySem.W.Frag) : Addr := ga K "_law_orders"
def Ad_f_law (K : PySem.W.Frag) : Addr := ga K "law"
def Ad_CO (K : PySem.W.Frag) : Addr := ga K "Condition"
def Ad_RO (K : PySem.W.Frag) : Addr := ga K "Rule"
def Ad_BO (K : PySem.W.Frag) : Addr := ga K "Book"
def Ad_OW (K : PySem.W.Frag) : Addr := ga K "OrderWatcher"
def Ad_CE (K : PySem.W.Frag) : Addr := ga K "CourtError"
def Ad_E0 (K : PySem.W.Frag) : Addr := ga K "Contradiction"
def Ad_E1 (K : PySem.W.Frag) : Addr := ga K "InvalidCase"
def Ad_E2 (K : PySem.W.Frag) : Addr := ga K "InvalidRuling"
def Ad_E3 (K : PySem.W.Frag) : Addr := ga K "TooMany"
def Ad_E4 (K : PySem.W.Frag) : Addr := ga K "UnknownRule"
def Ad_E5 (K : PySem.W.Frag) : Addr := ga K "InvalidFacts"
def Ad_E6 (K : PySem.W.Frag) : Addr := ga K "InvalidCondition"
def Ad_E7 (K : PySem.W.Frag) : Addr := ga K "InvalidRule"
def Ad_E8 (K : PySem.W.Frag) : Addr := ga K "InvalidBook"
def Ad_f_mi (K : PySem.W.Frag) : Addr := ma K (Ad_CO K) "__init__"
def Ad_pp_mh (K : PySem.W.Frag) : Addr := ma K (Ad_CO K) "holding"
def Ad_pp_mf (K : PySem.W.Frag) : Addr := ma K (Ad_CO K) "failing"
def Ad_pp_mn (K : PySem.W.Frag) : Addr := ma K (Ad_CO K) "names"
def Ad_f_ri (K : PySem.W.Frag) : Addr := ma K (Ad_RO K) "__init__"
def Ad_pp_rn (K : PySem.W.Frag) : Addr := ma K (Ad_RO K) "name"
def Ad_pp_rc (K : PySem.W.Frag) : Addr := ma K (Ad_RO K) "condition"
def Ad_pp_rr (K : PySem.W.Frag) : Addr := ma K (Ad_RO K) "ruling"
def Ad_pp_re (K : PySem.W.Frag) : Addr := ma K (Ad_RO K) "exceptions"
def Ad_pp_rd (K : PySem.W.Frag) : Addr := ma K (Ad_RO K) "depth"
def Ad_f_bi (K : PySem.W.Frag) : Addr := ma K (Ad_BO K) "__init__"
def Ad_pp_bf (K : PySem.W.Frag) : Addr := ma K (Ad_BO K) "facts"
def Ad_pp_bs (K : PySem.W.Frag) : Addr := ma K (Ad_BO K) "rules"
def Ad_pp_br (K : PySem.W.Frag) : Addr := ma K (Ad_BO K) "ruling"
def Ad_f_oi (K : PySem.W.Frag) : Addr := ma K (Ad_OW K) "__init__"
def Ad_pp_oc (K : PySem.W.Frag) : Addr := ma K (Ad_OW K) "order_count"
def Ad_pp_of (K : PySem.W.Frag) : Addr := ma K (Ad_OW K) "first_order"
def Ad_pp_or (K : PySem.W.Frag) : Addr := ma K (Ad_OW K) "records"
def Ad_f_mc (K : PySem.W.Frag) : Addr := ma K (Ad_CO K) "__call__"
def Ad_f_os (K : PySem.W.Frag) : Addr := ma K (Ad_OW K) "see"
def Ad_f_ou (K : PySem.W.Frag) : Addr := ma K (Ad_OW K) "sure"
def Ad_fIi1 (K : PySem.W.Frag) : Addr := ma K (Ad_E1 K) "__init__"
def Ad_fIi5 (K : PySem.W.Frag) : Addr := ma K (Ad_E5 K) "__init__"
def Ad_fIi6 (K : PySem.W.Frag) : Addr := ma K (Ad_E6 K) "__init__"
def Ad_fIi7 (K : PySem.W.Frag) : Addr := ma K (Ad_E7 K) "__init__"
def Ad_fIi8 (K : PySem.W.Frag) : Addr := ma K (Ad_E8 K) "__init__"
def Ad_f_mh (K : PySem.W.Frag) : Addr := recF K (Ad_pp_mh K)
def Ad_f_mf (K : PySem.W.Frag) : Addr := recF K (Ad_pp_mf K)
def Ad_f_mn (K : PySem.W.Frag) : Addr := recF K (Ad_pp_mn K)
def Ad_f_rn (K : PySem.W.Frag) : Addr := recF K (Ad_pp_rn K)
def Ad_f_rc (K : PySem.W.Frag) : Addr := recF K (Ad_pp_rc K)
def Ad_f_rr (K : PySem.W.Frag) : Addr := recF K (Ad_pp_rr K)
def Ad_f_re (K : PySem.W.Frag) : Addr := recF K (Ad_pp_re K)
def Ad_f_rd (K : PySem.W.Frag) : Addr := recF K (Ad_pp_rd K)
def Ad_f_bf (K : PySem.W.Frag) : Addr := recF K (Ad_pp_bf K)
def Ad_f_bs (K : PySem.W.Frag) : Addr := recF K (Ad_pp_bs K)
def Ad_f_br (K : PySem.W.Frag) : Addr := recF K (Ad_pp_br K)
def Ad_f_oc (K : PySem.W.Frag) : Addr := recF K (Ad_pp_oc K)
def Ad_f_of (K : PySem.W.Frag) : Addr := recF K (Ad_pp_of K)
def Ad_f_or (K : PySem.W.Frag) : Addr := recF K (Ad_pp_or K)
def Ad_cc_law (K : PySem.W.Frag) : Addr := codA K (Ad_f_law K)
def Ad_celi1 (K : PySem.W.Frag) : Addr := cloA K (Ad_fIi1 K)
def Ad_codi1 (K : PySem.W.Frag) : Addr := codA K (Ad_fIi1 K)
def Ad_celi5 (K : PySem.W.Frag) : Addr := cloA K (Ad_fIi5 K)
def Ad_codi5 (K : PySem.W.Frag) : Addr := codA K (Ad_fIi5 K)
def Ad_celi6 (K : PySem.W.Frag) : Addr := cloA K (Ad_fIi6 K)
def Ad_codi6 (K : PySem.W.Frag) : Addr := codA K (Ad_fIi6 K)
def Ad_celi7 (K : PySem.W.Frag) : Addr := cloA K (Ad_fIi7 K)
def Ad_codi7 (K : PySem.W.Frag) : Addr := codA K (Ad_fIi7 K)
def Ad_celi8 (K : PySem.W.Frag) : Addr := cloA K (Ad_fIi8 K)
def Ad_codi8 (K : PySem.W.Frag) : Addr := codA K (Ad_fIi8 K)
def Ad_Tb0 (K : PySem.W.Frag) : Addr := tabOf K (Ad_cc_law K)
def Fx0 (K : PySem.W.Frag) : Prop := (PySem.W.nsIn K mainGlobals "is_name" = some (some (.ref (Ad_f_is_name K)))) ∧ (fnB K (Ad_f_is_name K) "is_name" = true) ∧ (PySem.W.keepIn K (.ref (Ad_f_is_name K)) = true) ∧ (PySem.W.nsIn K mainGlobals "rises" = some (some (.ref (Ad_f_rises K)))) ∧ (fnB K (Ad_f_rises K) "rises" = true) ∧ (PySem.W.keepIn K (.ref (Ad_f_rises K)) = true) ∧ (PySem.W.nsIn K mainGlobals "check_facts" = some (some (.ref (Ad_f_check_facts K)))) ∧ (fnB K (Ad_f_check_facts K) "check_facts" = true) ∧ (PySem.W.keepIn K (.ref (Ad_f_check_facts K)) = true) ∧ (PySem.W.nsIn K mainGlobals "check_case" = some (some (.ref (Ad_f_check_case K)))) ∧ (fnB K (Ad_f_check_case K) "check_case" = true) ∧ (PySem.W.keepIn K (.ref (Ad_f_check_case K)) = true)
instance (K : PySem.W.Frag) : Decidable (Fx0 K) := by unfold Fx0; infer_instance
def Fx1 (K : PySem.W.Frag) : Prop := (PySem.W.nsIn K mainGlobals "check_word" = some (some (.ref (Ad_f_check_word K)))) ∧ (fnB K (Ad_f_check_word K) "check_word" = true) ∧ (PySem.W.keepIn K (.ref (Ad_f_check_word K)) = true) ∧ (PySem.W.nsIn K mainGlobals "check_left" = some (some (.ref (Ad_f_check_left K)))) ∧ (fnB K (Ad_f_check_left K) "check_left" = true) ∧ (PySem.W.keepIn K (.ref (Ad_f_check_left K)) = true) ∧ (PySem.W.nsIn K mainGlobals "nested" = some (some (.ref (Ad_f_nested K)))) ∧ (fnB K (Ad_f_nested K) "nested" = true) ∧ (PySem.W.keepIn K (.ref (Ad_f_nested K)) = true) ∧ (PySem.W.nsIn K mainGlobals "check_rules" = some (some (.ref (Ad_f_check_rules K)))) ∧ (fnB K (Ad_f_check_rules K) "check_rules" = true) ∧ (PySem.W.keepIn K (.ref (Ad_f_check_rules K)) = true)
instance (K : PySem.W.Frag) : Decidable (Fx1 K) := by unfold Fx1; infer_instance
def Fx2 (K : PySem.W.Frag) : Prop := (PySem.W.nsIn K mainGlobals "check_part" = some (some (.ref (Ad_f_check_part K)))) ∧ (fnB K (Ad_f_check_part K) "check_part" = true) ∧ (PySem.W.keepIn K (.ref (Ad_f_check_part K)) = true) ∧ (PySem.W.nsIn K mainGlobals "merged" = some (some (.ref (Ad_f_merged K)))) ∧ (fnB K (Ad_f_merged K) "merged" = true) ∧ (PySem.W.keepIn K (.ref (Ad_f_merged K)) = true) ∧ (PySem.W.nsIn K mainGlobals "steps" = some (some (.ref (Ad_f_steps K)))) ∧ (fnB K (Ad_f_steps K) "steps" = true) ∧ (PySem.W.keepIn K (.ref (Ad_f_steps K)) = true) ∧ (PySem.W.nsIn K mainGlobals "up_to_first_met" = some (some (.ref (Ad_f_up_to_first_met K)))) ∧ (fnB K (Ad_f_up_to_first_met K) "up_to_first_met" = true) ∧ (PySem.W.keepIn K (.ref (Ad_f_up_to_first_met K)) = true)
instance (K : PySem.W.Frag) : Decidable (Fx2 K) := by unfold Fx2; infer_instance
def Fx3 (K : PySem.W.Frag) : Prop := (PySem.W.nsIn K mainGlobals "looked_into" = some (some (.ref (Ad_f_looked_into K)))) ∧ (fnB K (Ad_f_looked_into K) "looked_into" = true) ∧ (PySem.W.keepIn K (.ref (Ad_f_looked_into K)) = true) ∧ (PySem.W.nsIn K mainGlobals "orders_of" = some (some (.ref (Ad_f_orders_of K)))) ∧ (fnB K (Ad_f_orders_of K) "orders_of" = true) ∧ (PySem.W.keepIn K (.ref (Ad_f_orders_of K)) = true) ∧ (PySem.W.nsIn K mainGlobals "ruling_within" = some (some (.ref (Ad_f_ruling_within K)))) ∧ (fnB K (Ad_f_ruling_within K) "ruling_within" = true) ∧ (PySem.W.keepIn K (.ref (Ad_f_ruling_within K)) = true) ∧ (PySem.W.nsIn K mainGlobals "ruling_by" = some (some (.ref (Ad_f_ruling_by K)))) ∧ (fnB K (Ad_f_ruling_by K) "ruling_by" = true) ∧ (PySem.W.keepIn K (.ref (Ad_f_ruling_by K)) = true)
instance (K : PySem.W.Frag) : Decidable (Fx3 K) := by unfold Fx3; infer_instance
def Fx4 (K : PySem.W.Frag) : Prop := (PySem.W.nsIn K mainGlobals "_law_mix" = some (some (.ref (Ad_f__law_mix K)))) ∧ (fnB K (Ad_f__law_mix K) "_law_mix" = true) ∧ (PySem.W.keepIn K (.ref (Ad_f__law_mix K)) = true) ∧ (PySem.W.nsIn K mainGlobals "_law_next" = some (some (.ref (Ad_f__law_next K)))) ∧ (fnB K (Ad_f__law_next K) "_law_next" = true) ∧ (PySem.W.keepIn K (.ref (Ad_f__law_next K)) = true) ∧ (PySem.W.nsIn K mainGlobals "_law_two" = some (some (.ref (Ad_f__law_two K)))) ∧ (fnB K (Ad_f__law_two K) "_law_two" = true) ∧ (PySem.W.keepIn K (.ref (Ad_f__law_two K)) = true) ∧ (PySem.W.nsIn K mainGlobals "_law_alike" = some (some (.ref (Ad_f__law_alike K)))) ∧ (fnB K (Ad_f__law_alike K) "_law_alike" = true) ∧ (PySem.W.keepIn K (.ref (Ad_f__law_alike K)) = true)
instance (K : PySem.W.Frag) : Decidable (Fx4 K) := by unfold Fx4; infer_instance
def Fx5 (K : PySem.W.Frag) : Prop := (PySem.W.nsIn K mainGlobals "_law_facts" = some (some (.ref (Ad_f__law_facts K)))) ∧ (fnB K (Ad_f__law_facts K) "_law_facts" = true) ∧ (PySem.W.keepIn K (.ref (Ad_f__law_facts K)) = true) ∧ (PySem.W.nsIn K mainGlobals "_law_sides" = some (some (.ref (Ad_f__law_sides K)))) ∧ (fnB K (Ad_f__law_sides K) "_law_sides" = true) ∧ (PySem.W.keepIn K (.ref (Ad_f__law_sides K)) = true) ∧ (PySem.W.nsIn K mainGlobals "_law_rule" = some (some (.ref (Ad_f__law_rule K)))) ∧ (fnB K (Ad_f__law_rule K) "_law_rule" = true) ∧ (PySem.W.keepIn K (.ref (Ad_f__law_rule K)) = true) ∧ (PySem.W.nsIn K mainGlobals "_law_drawn" = some (some (.ref (Ad_f__law_drawn K)))) ∧ (fnB K (Ad_f__law_drawn K) "_law_drawn" = true) ∧ (PySem.W.keepIn K (.ref (Ad_f__law_drawn K)) = true)
instance (K : PySem.W.Frag) : Decidable (Fx5 K) := by unfold Fx5; infer_instance
def Fx6 (K : PySem.W.Frag) : Prop := (PySem.W.nsIn K mainGlobals "_law_made" = some (some (.ref (Ad_f__law_made K)))) ∧ (fnB K (Ad_f__law_made K) "_law_made" = true) ∧ (PySem.W.keepIn K (.ref (Ad_f__law_made K)) = true) ∧ (PySem.W.nsIn K mainGlobals "_law_book" = some (some (.ref (Ad_f__law_book K)))) ∧ (fnB K (Ad_f__law_book K) "_law_book" = true) ∧ (PySem.W.keepIn K (.ref (Ad_f__law_book K)) = true) ∧ (PySem.W.nsIn K mainGlobals "_law_case" = some (some (.ref (Ad_f__law_case K)))) ∧ (fnB K (Ad_f__law_case K) "_law_case" = true) ∧ (PySem.W.keepIn K (.ref (Ad_f__law_case K)) = true) ∧ (PySem.W.nsIn K mainGlobals "_law_way" = some (some (.ref (Ad_f__law_way K)))) ∧ (fnB K (Ad_f__law_way K) "_law_way" = true) ∧ (PySem.W.keepIn K (.ref (Ad_f__law_way K)) = true)
instance (K : PySem.W.Frag) : Decidable (Fx6 K) := by unfold Fx6; infer_instance
def Fx7 (K : PySem.W.Frag) : Prop := (PySem.W.nsIn K mainGlobals "_law_ruled" = some (some (.ref (Ad_f__law_ruled K)))) ∧ (fnB K (Ad_f__law_ruled K) "_law_ruled" = true) ∧ (PySem.W.keepIn K (.ref (Ad_f__law_ruled K)) = true) ∧ (PySem.W.nsIn K mainGlobals "_law_word" = some (some (.ref (Ad_f__law_word K)))) ∧ (fnB K (Ad_f__law_word K) "_law_word" = true) ∧ (PySem.W.keepIn K (.ref (Ad_f__law_word K)) = true) ∧ (PySem.W.nsIn K mainGlobals "_law_orders" = some (some (.ref (Ad_f__law_orders K)))) ∧ (fnB K (Ad_f__law_orders K) "_law_orders" = true) ∧ (PySem.W.keepIn K (.ref (Ad_f__law_orders K)) = true) ∧ (PySem.W.nsIn K mainGlobals "law" = some (some (.ref (Ad_f_law K)))) ∧ (fnB K (Ad_f_law K) "law" = true) ∧ (PySem.W.keepIn K (.ref (Ad_f_law K)) = true)
instance (K : PySem.W.Frag) : Decidable (Fx7 K) := by unfold Fx7; infer_instance
def Fx8 (K : PySem.W.Frag) : Prop := (PySem.W.nsIn K mainGlobals "Condition" = some (some (.ref (Ad_CO K)))) ∧ (PySem.W.makesIn K (Ad_CO K) = true) ∧ (PySem.W.findIn K (.ref (Ad_CO K)) "__init__" = some (some (.ref (Ad_f_mi K)))) ∧ (PySem.W.isFn K (.ref (Ad_f_mi K)) = true) ∧ (PySem.W.keepIn K (.ref (Ad_CO K)) = true) ∧ (PySem.W.plainGet K (Ad_CO K) Str.empty = true) ∧ (PySem.W.hasDictIn K (Ad_CO K) = true) ∧ (PySem.W.plainOver K (Ad_CO K) = true) ∧ (PySem.W.findIn K (.ref (Ad_CO K)) "__setattr__" = some (some (.builtin "object.__setattr__"))) ∧ (PySem.W.findIn K (.ref (Ad_CO K)) "_holding" = some none) ∧ (PySem.W.findIn K (.ref (Ad_CO K)) "_failing" = some none) ∧ (PySem.W.findIn K (.ref (Ad_CO K)) "_names" = some none)
instance (K : PySem.W.Frag) : Decidable (Fx8 K) := by unfold Fx8; infer_instance
def Fx9 (K : PySem.W.Frag) : Prop := (PySem.W.findIn K (.ref (Ad_CO K)) "holding" = some (some (.ref (Ad_pp_mh K)))) ∧ (PySem.W.specialIn K (.ref (Ad_pp_mh K)) "__get__" = some (some (.builtin "property.__get__"))) ∧ (PySem.W.takesIn K (.ref (Ad_pp_mh K)) = some true) ∧ (recB K (Ad_pp_mh K) = true) ∧ (PySem.W.findIn K (.ref (Ad_CO K)) "failing" = some (some (.ref (Ad_pp_mf K)))) ∧ (PySem.W.specialIn K (.ref (Ad_pp_mf K)) "__get__" = some (some (.builtin "property.__get__"))) ∧ (PySem.W.takesIn K (.ref (Ad_pp_mf K)) = some true) ∧ (recB K (Ad_pp_mf K) = true) ∧ (PySem.W.findIn K (.ref (Ad_CO K)) "names" = some (some (.ref (Ad_pp_mn K)))) ∧ (PySem.W.specialIn K (.ref (Ad_pp_mn K)) "__get__" = some (some (.builtin "property.__get__"))) ∧ (PySem.W.takesIn K (.ref (Ad_pp_mn K)) = some true) ∧ (recB K (Ad_pp_mn K) = true)
instance (K : PySem.W.Frag) : Decidable (Fx9 K) := by unfold Fx9; infer_instance
def Fx10 (K : PySem.W.Frag) : Prop := (PySem.W.nsIn K mainGlobals "Rule" = some (some (.ref (Ad_RO K)))) ∧ (PySem.W.makesIn K (Ad_RO K) = true) ∧ (PySem.W.findIn K (.ref (Ad_RO K)) "__init__" = some (some (.ref (Ad_f_ri K)))) ∧ (PySem.W.isFn K (.ref (Ad_f_ri K)) = true) ∧ (PySem.W.keepIn K (.ref (Ad_RO K)) = true) ∧ (PySem.W.plainGet K (Ad_RO K) Str.empty = true) ∧ (PySem.W.hasDictIn K (Ad_RO K) = true) ∧ (PySem.W.plainOver K (Ad_RO K) = true) ∧ (PySem.W.findIn K (.ref (Ad_RO K)) "__setattr__" = some (some (.builtin "object.__setattr__"))) ∧ (PySem.W.findIn K (.ref (Ad_RO K)) "_name" = some none) ∧ (PySem.W.findIn K (.ref (Ad_RO K)) "_condition" = some none) ∧ (PySem.W.findIn K (.ref (Ad_RO K)) "_ruling" = some none)
instance (K : PySem.W.Frag) : Decidable (Fx10 K) := by unfold Fx10; infer_instance
def Fx11 (K : PySem.W.Frag) : Prop := (PySem.W.findIn K (.ref (Ad_RO K)) "_exceptions" = some none) ∧ (PySem.W.findIn K (.ref (Ad_RO K)) "_depth" = some none) ∧ (PySem.W.findIn K (.ref (Ad_RO K)) "_inside" = some none) ∧ (PySem.W.findIn K (.ref (Ad_RO K)) "name" = some (some (.ref (Ad_pp_rn K)))) ∧ (PySem.W.specialIn K (.ref (Ad_pp_rn K)) "__get__" = some (some (.builtin "property.__get__"))) ∧ (PySem.W.takesIn K (.ref (Ad_pp_rn K)) = some true) ∧ (recB K (Ad_pp_rn K) = true) ∧ (PySem.W.findIn K (.ref (Ad_RO K)) "condition" = some (some (.ref (Ad_pp_rc K)))) ∧ (PySem.W.specialIn K (.ref (Ad_pp_rc K)) "__get__" = some (some (.builtin "property.__get__"))) ∧ (PySem.W.takesIn K (.ref (Ad_pp_rc K)) = some true) ∧ (recB K (Ad_pp_rc K) = true) ∧ (PySem.W.findIn K (.ref (Ad_RO K)) "ruling" = some (some (.ref (Ad_pp_rr K))))
instance (K : PySem.W.Frag) : Decidable (Fx11 K) := by unfold Fx11; infer_instance
def Fx12 (K : PySem.W.Frag) : Prop := (PySem.W.specialIn K (.ref (Ad_pp_rr K)) "__get__" = some (some (.builtin "property.__get__"))) ∧ (PySem.W.takesIn K (.ref (Ad_pp_rr K)) = some true) ∧ (recB K (Ad_pp_rr K) = true) ∧ (PySem.W.findIn K (.ref (Ad_RO K)) "exceptions" = some (some (.ref (Ad_pp_re K)))) ∧ (PySem.W.specialIn K (.ref (Ad_pp_re K)) "__get__" = some (some (.builtin "property.__get__"))) ∧ (PySem.W.takesIn K (.ref (Ad_pp_re K)) = some true) ∧ (recB K (Ad_pp_re K) = true) ∧ (PySem.W.findIn K (.ref (Ad_RO K)) "depth" = some (some (.ref (Ad_pp_rd K)))) ∧ (PySem.W.specialIn K (.ref (Ad_pp_rd K)) "__get__" = some (some (.builtin "property.__get__"))) ∧ (PySem.W.takesIn K (.ref (Ad_pp_rd K)) = some true) ∧ (recB K (Ad_pp_rd K) = true) ∧ (PySem.W.nsIn K mainGlobals "Book" = some (some (.ref (Ad_BO K))))
instance (K : PySem.W.Frag) : Decidable (Fx12 K) := by unfold Fx12; infer_instance
def Fx13 (K : PySem.W.Frag) : Prop := (PySem.W.makesIn K (Ad_BO K) = true) ∧ (PySem.W.findIn K (.ref (Ad_BO K)) "__init__" = some (some (.ref (Ad_f_bi K)))) ∧ (PySem.W.isFn K (.ref (Ad_f_bi K)) = true) ∧ (PySem.W.keepIn K (.ref (Ad_BO K)) = true) ∧ (PySem.W.plainGet K (Ad_BO K) Str.empty = true) ∧ (PySem.W.hasDictIn K (Ad_BO K) = true) ∧ (PySem.W.plainOver K (Ad_BO K) = true) ∧ (PySem.W.findIn K (.ref (Ad_BO K)) "__setattr__" = some (some (.builtin "object.__setattr__"))) ∧ (PySem.W.findIn K (.ref (Ad_BO K)) "_facts" = some none) ∧ (PySem.W.findIn K (.ref (Ad_BO K)) "_rules" = some none) ∧ (PySem.W.findIn K (.ref (Ad_BO K)) "_ruling" = some none) ∧ (PySem.W.findIn K (.ref (Ad_BO K)) "_numbered" = some none)
instance (K : PySem.W.Frag) : Decidable (Fx13 K) := by unfold Fx13; infer_instance
def Fx14 (K : PySem.W.Frag) : Prop := (PySem.W.findIn K (.ref (Ad_BO K)) "facts" = some (some (.ref (Ad_pp_bf K)))) ∧ (PySem.W.specialIn K (.ref (Ad_pp_bf K)) "__get__" = some (some (.builtin "property.__get__"))) ∧ (PySem.W.takesIn K (.ref (Ad_pp_bf K)) = some true) ∧ (recB K (Ad_pp_bf K) = true) ∧ (PySem.W.findIn K (.ref (Ad_BO K)) "rules" = some (some (.ref (Ad_pp_bs K)))) ∧ (PySem.W.specialIn K (.ref (Ad_pp_bs K)) "__get__" = some (some (.builtin "property.__get__"))) ∧ (PySem.W.takesIn K (.ref (Ad_pp_bs K)) = some true) ∧ (recB K (Ad_pp_bs K) = true) ∧ (PySem.W.findIn K (.ref (Ad_BO K)) "ruling" = some (some (.ref (Ad_pp_br K)))) ∧ (PySem.W.specialIn K (.ref (Ad_pp_br K)) "__get__" = some (some (.builtin "property.__get__"))) ∧ (PySem.W.takesIn K (.ref (Ad_pp_br K)) = some true) ∧ (recB K (Ad_pp_br K) = true)
instance (K : PySem.W.Frag) : Decidable (Fx14 K) := by unfold Fx14; infer_instance
def Fx15 (K : PySem.W.Frag) : Prop := (PySem.W.nsIn K mainGlobals "OrderWatcher" = some (some (.ref (Ad_OW K)))) ∧ (PySem.W.makesIn K (Ad_OW K) = true) ∧ (PySem.W.findIn K (.ref (Ad_OW K)) "__init__" = some (some (.ref (Ad_f_oi K)))) ∧ (PySem.W.isFn K (.ref (Ad_f_oi K)) = true) ∧ (PySem.W.keepIn K (.ref (Ad_OW K)) = true) ∧ (PySem.W.plainGet K (Ad_OW K) Str.empty = true) ∧ (PySem.W.hasDictIn K (Ad_OW K) = true) ∧ (PySem.W.plainOver K (Ad_OW K) = true) ∧ (PySem.W.findIn K (.ref (Ad_OW K)) "__setattr__" = some (some (.builtin "object.__setattr__"))) ∧ (PySem.W.findIn K (.ref (Ad_OW K)) "_book" = some none) ∧ (PySem.W.findIn K (.ref (Ad_OW K)) "_left" = some none) ∧ (PySem.W.findIn K (.ref (Ad_OW K)) "_seen" = some none)
instance (K : PySem.W.Frag) : Decidable (Fx15 K) := by unfold Fx15; infer_instance
def Fx16 (K : PySem.W.Frag) : Prop := (PySem.W.findIn K (.ref (Ad_OW K)) "order_count" = some (some (.ref (Ad_pp_oc K)))) ∧ (PySem.W.specialIn K (.ref (Ad_pp_oc K)) "__get__" = some (some (.builtin "property.__get__"))) ∧ (PySem.W.takesIn K (.ref (Ad_pp_oc K)) = some true) ∧ (recB K (Ad_pp_oc K) = true) ∧ (PySem.W.findIn K (.ref (Ad_OW K)) "first_order" = some (some (.ref (Ad_pp_of K)))) ∧ (PySem.W.specialIn K (.ref (Ad_pp_of K)) "__get__" = some (some (.builtin "property.__get__"))) ∧ (PySem.W.takesIn K (.ref (Ad_pp_of K)) = some true) ∧ (recB K (Ad_pp_of K) = true) ∧ (PySem.W.findIn K (.ref (Ad_OW K)) "records" = some (some (.ref (Ad_pp_or K)))) ∧ (PySem.W.specialIn K (.ref (Ad_pp_or K)) "__get__" = some (some (.builtin "property.__get__"))) ∧ (PySem.W.takesIn K (.ref (Ad_pp_or K)) = some true) ∧ (recB K (Ad_pp_or K) = true)
instance (K : PySem.W.Frag) : Decidable (Fx16 K) := by unfold Fx16; infer_instance
def Fx17 (K : PySem.W.Frag) : Prop := (PySem.W.findIn K (.ref (Ad_CO K)) "__call__" = some (some (.ref (Ad_f_mc K)))) ∧ (PySem.W.isFn K (.ref (Ad_f_mc K)) = true) ∧ (PySem.W.fnIn K (Ad_f_mc K) = true) ∧ (PySem.W.findIn K (.ref (Ad_OW K)) "see" = some (some (.ref (Ad_f_os K)))) ∧ (PySem.W.isFn K (.ref (Ad_f_os K)) = true) ∧ (PySem.W.findIn K (.ref (Ad_OW K)) "sure" = some (some (.ref (Ad_f_ou K)))) ∧ (PySem.W.isFn K (.ref (Ad_f_ou K)) = true) ∧ (fnB K (Ad_f_mi K) "Condition.__init__" = true) ∧ (PySem.W.keepIn K (.ref (Ad_f_mi K)) = true) ∧ (fnB K (Ad_f_mh K) "Condition.holding" = true) ∧ (PySem.W.keepIn K (.ref (Ad_f_mh K)) = true) ∧ (fnB K (Ad_f_mf K) "Condition.failing" = true)
instance (K : PySem.W.Frag) : Decidable (Fx17 K) := by unfold Fx17; infer_instance
def Fx18 (K : PySem.W.Frag) : Prop := (PySem.W.keepIn K (.ref (Ad_f_mf K)) = true) ∧ (fnB K (Ad_f_mn K) "Condition.names" = true) ∧ (PySem.W.keepIn K (.ref (Ad_f_mn K)) = true) ∧ (fnB K (Ad_f_ri K) "Rule.__init__" = true) ∧ (PySem.W.keepIn K (.ref (Ad_f_ri K)) = true) ∧ (fnB K (Ad_f_rn K) "Rule.name" = true) ∧ (PySem.W.keepIn K (.ref (Ad_f_rn K)) = true) ∧ (fnB K (Ad_f_rc K) "Rule.condition" = true) ∧ (PySem.W.keepIn K (.ref (Ad_f_rc K)) = true) ∧ (fnB K (Ad_f_rr K) "Rule.ruling" = true) ∧ (PySem.W.keepIn K (.ref (Ad_f_rr K)) = true) ∧ (fnB K (Ad_f_re K) "Rule.exceptions" = true)
instance (K : PySem.W.Frag) : Decidable (Fx18 K) := by unfold Fx18; infer_instance
def Fx19 (K : PySem.W.Frag) : Prop := (PySem.W.keepIn K (.ref (Ad_f_re K)) = true) ∧ (fnB K (Ad_f_rd K) "Rule.depth" = true) ∧ (PySem.W.keepIn K (.ref (Ad_f_rd K)) = true) ∧ (fnB K (Ad_f_bi K) "Book.__init__" = true) ∧ (PySem.W.keepIn K (.ref (Ad_f_bi K)) = true) ∧ (fnB K (Ad_f_bf K) "Book.facts" = true) ∧ (PySem.W.keepIn K (.ref (Ad_f_bf K)) = true) ∧ (fnB K (Ad_f_bs K) "Book.rules" = true) ∧ (PySem.W.keepIn K (.ref (Ad_f_bs K)) = true) ∧ (fnB K (Ad_f_br K) "Book.ruling" = true) ∧ (PySem.W.keepIn K (.ref (Ad_f_br K)) = true) ∧ (fnB K (Ad_f_oi K) "OrderWatcher.__init__" = true)
instance (K : PySem.W.Frag) : Decidable (Fx19 K) := by unfold Fx19; infer_instance
def Fx20 (K : PySem.W.Frag) : Prop := (PySem.W.keepIn K (.ref (Ad_f_oi K)) = true) ∧ (fnB K (Ad_f_oc K) "OrderWatcher.order_count" = true) ∧ (PySem.W.keepIn K (.ref (Ad_f_oc K)) = true) ∧ (fnB K (Ad_f_of K) "OrderWatcher.first_order" = true) ∧ (PySem.W.keepIn K (.ref (Ad_f_of K)) = true) ∧ (fnB K (Ad_f_or K) "OrderWatcher.records" = true) ∧ (PySem.W.keepIn K (.ref (Ad_f_or K)) = true) ∧ (fnB K (Ad_f_mc K) "Condition.__call__" = true) ∧ (PySem.W.keepIn K (.ref (Ad_f_mc K)) = true) ∧ (fnB K (Ad_f_os K) "OrderWatcher.see" = true) ∧ (PySem.W.keepIn K (.ref (Ad_f_os K)) = true) ∧ (fnB K (Ad_f_ou K) "OrderWatcher.sure" = true)
instance (K : PySem.W.Frag) : Decidable (Fx20 K) := by unfold Fx20; infer_instance
def Fx21 (K : PySem.W.Frag) : Prop := (PySem.W.keepIn K (.ref (Ad_f_ou K)) = true) ∧ (PySem.W.nsIn K mainGlobals "isinstance" = some none) ∧ (PySem.W.nsIn K mainGlobals "len" = some none) ∧ (PySem.W.nsIn K mainGlobals "all" = some none) ∧ (PySem.W.nsIn K mainGlobals "any" = some none) ∧ (PySem.W.nsIn K mainGlobals "sum" = some none) ∧ (PySem.W.nsIn K mainGlobals "max" = some none) ∧ (PySem.W.nsIn K mainGlobals "min" = some none) ∧ (PySem.W.nsIn K mainGlobals "int" = some none) ∧ (PySem.W.nsIn K mainGlobals "str" = some none) ∧ (PySem.W.nsIn K mainGlobals "bool" = some none) ∧ (PySem.W.nsIn K mainGlobals "list" = some none)
instance (K : PySem.W.Frag) : Decidable (Fx21 K) := by unfold Fx21; infer_instance
def Fx22 (K : PySem.W.Frag) : Prop := (PySem.W.nsIn K mainGlobals "tuple" = some none) ∧ (PySem.W.nsIn K mainGlobals "dict" = some none) ∧ (PySem.W.nsIn K mainGlobals "range" = some none) ∧ (PySem.W.nsIn K mainGlobals "enumerate" = some none) ∧ (PySem.W.nsIn K mainGlobals "sorted" = some none) ∧ (PySem.W.nsIn K mainGlobals "reversed" = some none) ∧ (PySem.W.nsIn K mainGlobals "zip" = some none) ∧ (PySem.W.nsIn K mainGlobals "set" = some none) ∧ (PySem.W.nsIn K mainGlobals "ValueError" = some none) ∧ (strB K "LETTERS" letters = true) ∧ (intB K "LONGEST_NAME" 8 = true) ∧ (intB K "MOST_FACTS" 60 = true)
instance (K : PySem.W.Frag) : Decidable (Fx22 K) := by unfold Fx22; infer_instance
def Fx23 (K : PySem.W.Frag) : Prop := (intB K "MOST_NAMES" 8 = true) ∧ (intB K "MOST_AROUND" 5 = true) ∧ (intB K "MOST_RULES" 60 = true) ∧ (intB K "MOST_OUTERMOST" 40 = true) ∧ (intB K "MOST_ORDERED" 6 = true) ∧ (PySem.W.nsIn K mainGlobals "CourtError" = some (some (.ref (Ad_CE K)))) ∧ (PySem.W.nsIn K mainGlobals "Contradiction" = some (some (.ref (Ad_E0 K)))) ∧ (PySem.W.nsIn K mainGlobals "InvalidCase" = some (some (.ref (Ad_E1 K)))) ∧ (PySem.W.nsIn K mainGlobals "InvalidRuling" = some (some (.ref (Ad_E2 K)))) ∧ (PySem.W.nsIn K mainGlobals "TooMany" = some (some (.ref (Ad_E3 K)))) ∧ (PySem.W.nsIn K mainGlobals "UnknownRule" = some (some (.ref (Ad_E4 K)))) ∧ (PySem.W.nsIn K mainGlobals "InvalidFacts" = some (some (.ref (Ad_E5 K))))
instance (K : PySem.W.Frag) : Decidable (Fx23 K) := by unfold Fx23; infer_instance
def Fx24 (K : PySem.W.Frag) : Prop := (PySem.W.nsIn K mainGlobals "InvalidCondition" = some (some (.ref (Ad_E6 K)))) ∧ (PySem.W.nsIn K mainGlobals "InvalidRule" = some (some (.ref (Ad_E7 K)))) ∧ (PySem.W.nsIn K mainGlobals "InvalidBook" = some (some (.ref (Ad_E8 K)))) ∧ (PySem.W.subIn K (.ref (Ad_CE K)) (.type "BaseException") = some true) ∧ (PySem.W.isClsIn K (Ad_CE K) = true) ∧ (PySem.W.typeIn K (.ref (Ad_CE K)) = some (.type "type")) ∧ (PySem.W.isClsIn K (Ad_E0 K) = true) ∧ (PySem.W.typeIn K (.ref (Ad_E0 K)) = some (.type "type")) ∧ (PySem.W.isClsIn K (Ad_E1 K) = true) ∧ (PySem.W.typeIn K (.ref (Ad_E1 K)) = some (.type "type")) ∧ (PySem.W.isClsIn K (Ad_E2 K) = true) ∧ (PySem.W.typeIn K (.ref (Ad_E2 K)) = some (.type "type"))
instance (K : PySem.W.Frag) : Decidable (Fx24 K) := by unfold Fx24; infer_instance
def Fx25 (K : PySem.W.Frag) : Prop := (PySem.W.isClsIn K (Ad_E3 K) = true) ∧ (PySem.W.typeIn K (.ref (Ad_E3 K)) = some (.type "type")) ∧ (PySem.W.isClsIn K (Ad_E4 K) = true) ∧ (PySem.W.typeIn K (.ref (Ad_E4 K)) = some (.type "type")) ∧ (PySem.W.isClsIn K (Ad_E5 K) = true) ∧ (PySem.W.typeIn K (.ref (Ad_E5 K)) = some (.type "type")) ∧ (PySem.W.isClsIn K (Ad_E6 K) = true) ∧ (PySem.W.typeIn K (.ref (Ad_E6 K)) = some (.type "type")) ∧ (PySem.W.isClsIn K (Ad_E7 K) = true) ∧ (PySem.W.typeIn K (.ref (Ad_E7 K)) = some (.type "type")) ∧ (PySem.W.isClsIn K (Ad_E8 K) = true) ∧ (PySem.W.typeIn K (.ref (Ad_E8 K)) = some (.type "type"))
instance (K : PySem.W.Frag) : Decidable (Fx25 K) := by unfold Fx25; infer_instance
def Fx26 (K : PySem.W.Frag) : Prop := (PySem.W.isClsIn K (Ad_E0 K) = true) ∧ (PySem.W.findIn K (.ref (Ad_E0 K)) "__getattribute__" = some (some (.builtin "BaseException.__getattribute__"))) ∧ (PySem.W.findIn K (.ref (Ad_E0 K)) "__getattr__" = some none) ∧ (PySem.W.subIn K (.ref (Ad_E0 K)) (.type "BaseException") = some true) ∧ (PySem.W.findIn K (.ref (Ad_E0 K)) "__class__" = some (some (.builtin "object.__class__"))) ∧ (PySem.W.mroIn K (Ad_E0 K) (.type "object") = some true) ∧ (PySem.W.hasDictIn K (Ad_E0 K) = true) ∧ (PySem.W.subIn K (.ref (Ad_E0 K)) (.ref (Ad_CE K)) = some true) ∧ (PySem.W.subIn K (.ref (Ad_E0 K)) (.type "ValueError") = some true) ∧ (PySem.W.subIn K (.ref (Ad_E0 K)) (.ref (Ad_E0 K)) = some true) ∧ (PySem.W.subIn K (.ref (Ad_E0 K)) (.ref (Ad_E1 K)) = some false) ∧ (PySem.W.subIn K (.ref (Ad_E0 K)) (.ref (Ad_E2 K)) = some false)
instance (K : PySem.W.Frag) : Decidable (Fx26 K) := by unfold Fx26; infer_instance
def Fx27 (K : PySem.W.Frag) : Prop := (PySem.W.subIn K (.ref (Ad_E0 K)) (.ref (Ad_E3 K)) = some false) ∧ (PySem.W.subIn K (.ref (Ad_E0 K)) (.ref (Ad_E4 K)) = some false) ∧ (PySem.W.subIn K (.ref (Ad_E0 K)) (.ref (Ad_E5 K)) = some false) ∧ (PySem.W.subIn K (.ref (Ad_E0 K)) (.ref (Ad_E6 K)) = some false) ∧ (PySem.W.subIn K (.ref (Ad_E0 K)) (.ref (Ad_E7 K)) = some false) ∧ (PySem.W.subIn K (.ref (Ad_E0 K)) (.ref (Ad_E8 K)) = some false) ∧ (PySem.W.findIn K (.ref (Ad_E0 K)) "index" = some none) ∧ (PySem.W.findIn K (.ref (Ad_E0 K)) "part" = some none) ∧ (PySem.W.findIn K (.ref (Ad_E0 K)) "word" = some none) ∧ (PySem.W.findIn K (.ref (Ad_E0 K)) "fact" = some none) ∧ (PySem.W.specialIn K (.builtin "object.__class__") "__get__" = some (some (.builtin "getset_descriptor.__get__"))) ∧ (PySem.W.takesIn K (.builtin "object.__class__") = some true)
instance (K : PySem.W.Frag) : Decidable (Fx27 K) := by unfold Fx27; infer_instance
def Fx28 (K : PySem.W.Frag) : Prop := (excB K (Ad_CE K) "ValueError.__new__" = true) ∧ (PySem.W.findIn K (.ref (Ad_CE K)) "__init__" = some (some (.builtin "ValueError.__init__"))) ∧ (PySem.W.nsIn K mainGlobals "super" = some none) ∧ (PySem.W.nsIn K cStatics "thirdparty.any" = some none) ∧ (excB K (Ad_E1 K) "ValueError.__new__" = true) ∧ (HandSPX.refsVE (mroT K (Ad_E1 K)) = true) ∧ (PySem.W.findIn K (.ref (Ad_E1 K)) "__setattr__" = some (some (.builtin "object.__setattr__"))) ∧ (PySem.W.typeIn K (.ref (Ad_E1 K)) = some (.type "type")) ∧ (PySem.W.keepIn K (.ref (Ad_E1 K)) = true) ∧ (PySem.W.findIn K (.ref (Ad_E1 K)) "__init__" = some (some (.ref (Ad_fIi1 K)))) ∧ (PySem.W.typeIn K (.ref (Ad_fIi1 K)) = some (.type "function")) ∧ (fnBC K (Ad_fIi1 K) "InvalidCase.__init__" = true)
instance (K : PySem.W.Frag) : Decidable (Fx28 K) := by unfold Fx28; infer_instance
def Fx29 (K : PySem.W.Frag) : Prop := (cellB K (Ad_celi1 K) (Ad_E1 K) = true) ∧ (fileB K (Ad_codi1 K) theFile = true) ∧ (PySem.W.mroIn K (Ad_E1 K) (.ref (Ad_E1 K)) = some true) ∧ ((mroT K (Ad_E1 K)) = .ref (Ad_CE K) :: (mroT K (Ad_CE K))) ∧ (PySem.W.subIn K (.ref (Ad_E1 K)) (.type "ValueError") = some true) ∧ (PySem.W.subIn K (.ref (Ad_E1 K)) (.type "BaseException") = some true) ∧ (PySem.W.findIn K (.ref (Ad_E1 K)) "index" = some none) ∧ (excB K (Ad_E5 K) "ValueError.__new__" = true) ∧ (HandSPX.refsVE (mroT K (Ad_E5 K)) = true) ∧ (PySem.W.findIn K (.ref (Ad_E5 K)) "__setattr__" = some (some (.builtin "object.__setattr__"))) ∧ (PySem.W.typeIn K (.ref (Ad_E5 K)) = some (.type "type")) ∧ (PySem.W.keepIn K (.ref (Ad_E5 K)) = true)
instance (K : PySem.W.Frag) : Decidable (Fx29 K) := by unfold Fx29; infer_instance
def Fx30 (K : PySem.W.Frag) : Prop := (PySem.W.findIn K (.ref (Ad_E5 K)) "__init__" = some (some (.ref (Ad_fIi5 K)))) ∧ (PySem.W.typeIn K (.ref (Ad_fIi5 K)) = some (.type "function")) ∧ (fnBC K (Ad_fIi5 K) "InvalidFacts.__init__" = true) ∧ (cellB K (Ad_celi5 K) (Ad_E5 K) = true) ∧ (fileB K (Ad_codi5 K) theFile = true) ∧ (PySem.W.mroIn K (Ad_E5 K) (.ref (Ad_E5 K)) = some true) ∧ ((mroT K (Ad_E5 K)) = .ref (Ad_CE K) :: (mroT K (Ad_CE K))) ∧ (PySem.W.subIn K (.ref (Ad_E5 K)) (.type "ValueError") = some true) ∧ (PySem.W.subIn K (.ref (Ad_E5 K)) (.type "BaseException") = some true) ∧ (PySem.W.findIn K (.ref (Ad_E5 K)) "index" = some none) ∧ (excB K (Ad_E6 K) "ValueError.__new__" = true) ∧ (HandSPX.refsVE (mroT K (Ad_E6 K)) = true)
instance (K : PySem.W.Frag) : Decidable (Fx30 K) := by unfold Fx30; infer_instance
def Fx31 (K : PySem.W.Frag) : Prop := (PySem.W.findIn K (.ref (Ad_E6 K)) "__setattr__" = some (some (.builtin "object.__setattr__"))) ∧ (PySem.W.typeIn K (.ref (Ad_E6 K)) = some (.type "type")) ∧ (PySem.W.keepIn K (.ref (Ad_E6 K)) = true) ∧ (PySem.W.findIn K (.ref (Ad_E6 K)) "__init__" = some (some (.ref (Ad_fIi6 K)))) ∧ (PySem.W.typeIn K (.ref (Ad_fIi6 K)) = some (.type "function")) ∧ (fnBC K (Ad_fIi6 K) "InvalidCondition.__init__" = true) ∧ (cellB K (Ad_celi6 K) (Ad_E6 K) = true) ∧ (fileB K (Ad_codi6 K) theFile = true) ∧ (PySem.W.mroIn K (Ad_E6 K) (.ref (Ad_E6 K)) = some true) ∧ ((mroT K (Ad_E6 K)) = .ref (Ad_CE K) :: (mroT K (Ad_CE K))) ∧ (PySem.W.subIn K (.ref (Ad_E6 K)) (.type "ValueError") = some true) ∧ (PySem.W.subIn K (.ref (Ad_E6 K)) (.type "BaseException") = some true)
instance (K : PySem.W.Frag) : Decidable (Fx31 K) := by unfold Fx31; infer_instance
def Fx32 (K : PySem.W.Frag) : Prop := (PySem.W.findIn K (.ref (Ad_E6 K)) "part" = some none) ∧ (PySem.W.findIn K (.ref (Ad_E6 K)) "index" = some none) ∧ (excB K (Ad_E7 K) "ValueError.__new__" = true) ∧ (HandSPX.refsVE (mroT K (Ad_E7 K)) = true) ∧ (PySem.W.findIn K (.ref (Ad_E7 K)) "__setattr__" = some (some (.builtin "object.__setattr__"))) ∧ (PySem.W.typeIn K (.ref (Ad_E7 K)) = some (.type "type")) ∧ (PySem.W.keepIn K (.ref (Ad_E7 K)) = true) ∧ (PySem.W.findIn K (.ref (Ad_E7 K)) "__init__" = some (some (.ref (Ad_fIi7 K)))) ∧ (PySem.W.typeIn K (.ref (Ad_fIi7 K)) = some (.type "function")) ∧ (fnBC K (Ad_fIi7 K) "InvalidRule.__init__" = true) ∧ (cellB K (Ad_celi7 K) (Ad_E7 K) = true) ∧ (fileB K (Ad_codi7 K) theFile = true)
instance (K : PySem.W.Frag) : Decidable (Fx32 K) := by unfold Fx32; infer_instance
def Fx33 (K : PySem.W.Frag) : Prop := (PySem.W.mroIn K (Ad_E7 K) (.ref (Ad_E7 K)) = some true) ∧ ((mroT K (Ad_E7 K)) = .ref (Ad_CE K) :: (mroT K (Ad_CE K))) ∧ (PySem.W.subIn K (.ref (Ad_E7 K)) (.type "ValueError") = some true) ∧ (PySem.W.subIn K (.ref (Ad_E7 K)) (.type "BaseException") = some true) ∧ (PySem.W.findIn K (.ref (Ad_E7 K)) "part" = some none) ∧ (excB K (Ad_E8 K) "ValueError.__new__" = true) ∧ (HandSPX.refsVE (mroT K (Ad_E8 K)) = true) ∧ (PySem.W.findIn K (.ref (Ad_E8 K)) "__setattr__" = some (some (.builtin "object.__setattr__"))) ∧ (PySem.W.typeIn K (.ref (Ad_E8 K)) = some (.type "type")) ∧ (PySem.W.keepIn K (.ref (Ad_E8 K)) = true) ∧ (PySem.W.findIn K (.ref (Ad_E8 K)) "__init__" = some (some (.ref (Ad_fIi8 K)))) ∧ (PySem.W.typeIn K (.ref (Ad_fIi8 K)) = some (.type "function"))
instance (K : PySem.W.Frag) : Decidable (Fx33 K) := by unfold Fx33; infer_instance
def Fx34 (K : PySem.W.Frag) : Prop := (fnBC K (Ad_fIi8 K) "InvalidBook.__init__" = true) ∧ (cellB K (Ad_celi8 K) (Ad_E8 K) = true) ∧ (fileB K (Ad_codi8 K) theFile = true) ∧ (PySem.W.mroIn K (Ad_E8 K) (.ref (Ad_E8 K)) = some true) ∧ ((mroT K (Ad_E8 K)) = .ref (Ad_CE K) :: (mroT K (Ad_CE K))) ∧ (PySem.W.subIn K (.ref (Ad_E8 K)) (.type "ValueError") = some true) ∧ (PySem.W.subIn K (.ref (Ad_E8 K)) (.type "BaseException") = some true) ∧ (PySem.W.findIn K (.ref (Ad_E8 K)) "word" = some none) ∧ (PySem.W.findIn K (.ref (Ad_E8 K)) "index" = some none) ∧ (PySem.W.excIn K (Ad_E0 K) [.type "ValueError", .type "Exception", .type "BaseException", .type "object"] "ValueError.__new__" = true) ∧ (PySem.W.keepIn K (.ref (Ad_E0 K)) = true) ∧ (PySem.W.subIn K (.ref (Ad_E0 K)) (.type "BaseException") = some true)
instance (K : PySem.W.Frag) : Decidable (Fx34 K) := by unfold Fx34; infer_instance
def Fx35 (K : PySem.W.Frag) : Prop := (PySem.W.typeIn K (.ref (Ad_E0 K)) = some (.type "type")) ∧ (PySem.W.excIn K (Ad_E2 K) [.type "ValueError", .type "Exception", .type "BaseException", .type "object"] "ValueError.__new__" = true) ∧ (PySem.W.keepIn K (.ref (Ad_E2 K)) = true) ∧ (PySem.W.subIn K (.ref (Ad_E2 K)) (.type "BaseException") = some true) ∧ (PySem.W.typeIn K (.ref (Ad_E2 K)) = some (.type "type"))
instance (K : PySem.W.Frag) : Decidable (Fx35 K) := by unfold Fx35; infer_instance
def fn0 : FnDY := ⟨Ad_f_is_name, "is_name", "is_name", defArgs s_is_name, defBody s_is_name, defScope s_is_name⟩
def fn1 : FnDY := ⟨Ad_f_rises, "rises", "rises", defArgs s_rises, defBody s_rises, defScope s_rises⟩
def fn2 : FnDY := ⟨Ad_f_check_facts, "check_facts", "check_facts", defArgs s_check_facts, defBody s_check_facts, defScope s_check_facts⟩
def fn3 : FnDY := ⟨Ad_f_check_case, "check_case", "check_case", defArgs s_check_case, defBody s_check_case, defScope s_check_case⟩
def fn4 : FnDY := ⟨Ad_f_check_word, "check_word", "check_word", defArgs s_check_word, defBody s_check_word, defScope s_check_word⟩
def fn5 : FnDY := ⟨Ad_f_check_left, "check_left", "check_left", defArgs s_check_left, defBody s_check_left, defScope s_check_left⟩
def fn6 : FnDY := ⟨Ad_f_nested, "nested", "nested", defArgs s_nested, defBody s_nested, defScope s_nested⟩
def fn7 : FnDY := ⟨Ad_f_check_rules, "check_rules", "check_rules", defArgs s_check_rules, defBody s_check_rules, defScope s_check_rules⟩
def fn8 : FnDY := ⟨Ad_f_check_part, "check_part", "check_part", defArgs s_check_part, defBody s_check_part, defScope s_check_part⟩
def fn9 : FnDY := ⟨Ad_f_merged, "merged", "merged", defArgs s_merged, defBody s_merged, defScope s_merged⟩
def fn10 : FnDY := ⟨Ad_f_steps, "steps", "steps", defArgs s_steps, defBody s_steps, defScope s_steps⟩
def fn11 : FnDY := ⟨Ad_f_up_to_first_met, "up_to_first_met", "up_to_first_met", defArgs s_up_to_first_met, defBody s_up_to_first_met, defScope s_up_to_first_met⟩
def fn12 : FnDY := ⟨Ad_f_looked_into, "looked_into", "looked_into", defArgs s_looked_into, defBody s_looked_into, defScope s_looked_into⟩
def fn13 : FnDY := ⟨Ad_f_orders_of, "orders_of", "orders_of", defArgs s_orders_of, defBody s_orders_of, defScope s_orders_of⟩
def fn14 : FnDY := ⟨Ad_f_ruling_within, "ruling_within", "ruling_within", defArgs s_ruling_within, defBody s_ruling_within, defScope s_ruling_within⟩
def fn15 : FnDY := ⟨Ad_f_ruling_by, "ruling_by", "ruling_by", defArgs s_ruling_by, defBody s_ruling_by, defScope s_ruling_by⟩
def fn16 : FnDY := ⟨Ad_f__law_mix, "_law_mix", "_law_mix", defArgs s__law_mix, defBody s__law_mix, defScope s__law_mix⟩
def fn17 : FnDY := ⟨Ad_f__law_next, "_law_next", "_law_next", defArgs s__law_next, defBody s__law_next, defScope s__law_next⟩
def fn18 : FnDY := ⟨Ad_f__law_two, "_law_two", "_law_two", defArgs s__law_two, defBody s__law_two, defScope s__law_two⟩
def fn19 : FnDY := ⟨Ad_f__law_alike, "_law_alike", "_law_alike", defArgs s__law_alike, defBody s__law_alike, defScope s__law_alike⟩
def fn20 : FnDY := ⟨Ad_f__law_facts, "_law_facts", "_law_facts", defArgs s__law_facts, defBody s__law_facts, defScope s__law_facts⟩
def fn21 : FnDY := ⟨Ad_f__law_sides, "_law_sides", "_law_sides", defArgs s__law_sides, defBody s__law_sides, defScope s__law_sides⟩
def fn22 : FnDY := ⟨Ad_f__law_rule, "_law_rule", "_law_rule", defArgs s__law_rule, defBody s__law_rule, defScope s__law_rule⟩
def fn23 : FnDY := ⟨Ad_f__law_drawn, "_law_drawn", "_law_drawn", defArgs s__law_drawn, defBody s__law_drawn, defScope s__law_drawn⟩
def fn24 : FnDY := ⟨Ad_f__law_made, "_law_made", "_law_made", defArgs s__law_made, defBody s__law_made, defScope s__law_made⟩
def fn25 : FnDY := ⟨Ad_f__law_book, "_law_book", "_law_book", defArgs s__law_book, defBody s__law_book, defScope s__law_book⟩
def fn26 : FnDY := ⟨Ad_f__law_case, "_law_case", "_law_case", defArgs s__law_case, defBody s__law_case, defScope s__law_case⟩
def fn27 : FnDY := ⟨Ad_f__law_way, "_law_way", "_law_way", defArgs s__law_way, defBody s__law_way, defScope s__law_way⟩
def fn28 : FnDY := ⟨Ad_f__law_ruled, "_law_ruled", "_law_ruled", defArgs s__law_ruled, defBody s__law_ruled, defScope s__law_ruled⟩
def fn29 : FnDY := ⟨Ad_f__law_word, "_law_word", "_law_word", defArgs s__law_word, defBody s__law_word, defScope s__law_word⟩
def fn30 : FnDY := ⟨Ad_f__law_orders, "_law_orders", "_law_orders", defArgs s__law_orders, defBody s__law_orders, defScope s__law_orders⟩
def fn31 : FnDY := ⟨Ad_f_law, "law", "law", defArgs s_law, defBody s_law, defScope s_law⟩
def fn32 : FnDY := ⟨Ad_f_mi, "__init__", "Condition.__init__", defArgs s_Condition___init__, defBody s_Condition___init__, defScope s_Condition___init__⟩
def fn33 : FnDY := ⟨Ad_f_mh, "holding", "Condition.holding", defArgs s_Condition_holding, defBody s_Condition_holding, defScope s_Condition_holding⟩
def fn34 : FnDY := ⟨Ad_f_mf, "failing", "Condition.failing", defArgs s_Condition_failing, defBody s_Condition_failing, defScope s_Condition_failing⟩
def fn35 : FnDY := ⟨Ad_f_mn, "names", "Condition.names", defArgs s_Condition_names, defBody s_Condition_names, defScope s_Condition_names⟩
def fn36 : FnDY := ⟨Ad_f_ri, "__init__", "Rule.__init__", defArgs s_Rule___init__, defBody s_Rule___init__, defScope s_Rule___init__⟩
def fn37 : FnDY := ⟨Ad_f_rn, "name", "Rule.name", defArgs s_Rule_name, defBody s_Rule_name, defScope s_Rule_name⟩
def fn38 : FnDY := ⟨Ad_f_rc, "condition", "Rule.condition", defArgs s_Rule_condition, defBody s_Rule_condition, defScope s_Rule_condition⟩
def fn39 : FnDY := ⟨Ad_f_rr, "ruling", "Rule.ruling", defArgs s_Rule_ruling, defBody s_Rule_ruling, defScope s_Rule_ruling⟩
def fn40 : FnDY := ⟨Ad_f_re, "exceptions", "Rule.exceptions", defArgs s_Rule_exceptions, defBody s_Rule_exceptions, defScope s_Rule_exceptions⟩
def fn41 : FnDY := ⟨Ad_f_rd, "depth", "Rule.depth", defArgs s_Rule_depth, defBody s_Rule_depth, defScope s_Rule_depth⟩
def fn42 : FnDY := ⟨Ad_f_bi, "__init__", "Book.__init__", defArgs s_Book___init__, defBody s_Book___init__, defScope s_Book___init__⟩
def fn43 : FnDY := ⟨Ad_f_bf, "facts", "Book.facts", defArgs s_Book_facts, defBody s_Book_facts, defScope s_Book_facts⟩
def fn44 : FnDY := ⟨Ad_f_bs, "rules", "Book.rules", defArgs s_Book_rules, defBody s_Book_rules, defScope s_Book_rules⟩
def fn45 : FnDY := ⟨Ad_f_br, "ruling", "Book.ruling", defArgs s_Book_ruling, defBody s_Book_ruling, defScope s_Book_ruling⟩
def fn46 : FnDY := ⟨Ad_f_oi, "__init__", "OrderWatcher.__init__", defArgs s_OrderWatcher___init__, defBody s_OrderWatcher___init__, defScope s_OrderWatcher___init__⟩
def fn47 : FnDY := ⟨Ad_f_oc, "order_count", "OrderWatcher.order_count", defArgs s_OrderWatcher_order_count, defBody s_OrderWatcher_order_count, defScope s_OrderWatcher_order_count⟩
def fn48 : FnDY := ⟨Ad_f_of, "first_order", "OrderWatcher.first_order", defArgs s_OrderWatcher_first_order, defBody s_OrderWatcher_first_order, defScope s_OrderWatcher_first_order⟩
def fn49 : FnDY := ⟨Ad_f_or, "records", "OrderWatcher.records", defArgs s_OrderWatcher_records, defBody s_OrderWatcher_records, defScope s_OrderWatcher_records⟩
def fn50 : FnDY := ⟨Ad_f_mc, "__call__", "Condition.__call__", defArgs s_Condition___call__, defBody s_Condition___call__, defScope s_Condition___call__⟩
def fn51 : FnDY := ⟨Ad_f_os, "see", "OrderWatcher.see", defArgs s_OrderWatcher_see, defBody s_OrderWatcher_see, defScope s_OrderWatcher_see⟩
def fn52 : FnDY := ⟨Ad_f_ou, "sure", "OrderWatcher.sure", defArgs s_OrderWatcher_sure, defBody s_OrderWatcher_sure, defScope s_OrderWatcher_sure⟩
def fn53 : FnDY := ⟨Ad_fIi1, (nf_InvalidCase 0 0).name, (nf_InvalidCase 0 0).qual, (nf_InvalidCase 0 0).params, (nf_InvalidCase 0 0).body, (nf_InvalidCase 0 0).scope⟩
def fn54 : FnDY := ⟨Ad_fIi5, (nf_InvalidFacts 0 0).name, (nf_InvalidFacts 0 0).qual, (nf_InvalidFacts 0 0).params, (nf_InvalidFacts 0 0).body, (nf_InvalidFacts 0 0).scope⟩
def fn55 : FnDY := ⟨Ad_fIi6, (nf_InvalidCondition 0 0).name, (nf_InvalidCondition 0 0).qual, (nf_InvalidCondition 0 0).params, (nf_InvalidCondition 0 0).body, (nf_InvalidCondition 0 0).scope⟩
def fn56 : FnDY := ⟨Ad_fIi7, (nf_InvalidRule 0 0).name, (nf_InvalidRule 0 0).qual, (nf_InvalidRule 0 0).params, (nf_InvalidRule 0 0).body, (nf_InvalidRule 0 0).scope⟩
def fn57 : FnDY := ⟨Ad_fIi8, (nf_InvalidBook 0 0).name, (nf_InvalidBook 0 0).qual, (nf_InvalidBook 0 0).params, (nf_InvalidBook 0 0).body, (nf_InvalidBook 0 0).scope⟩
def ex_0 (K : PySem.W.Frag) : Bool := ([fun K => decide (Fx0 K), fun K => decide (Fx1 K), fun K => decide (Fx2 K), fun K => decide (Fx3 K), fun K => decide (Fx4 K), fun K => decide (Fx5 K), fun K => decide (Fx6 K), fun K => decide (Fx7 K)] : List (PySem.W.Frag → Bool)).all fun f => f K
def fn_0 : List FnDY := [fn0, fn1, fn2, fn3, fn4, fn5, fn6, fn7, fn8, fn9, fn10, fn11]
def tf_0 : List (PySem.W.Frag → Addr) := [Ad_cc_law]
def ex_1 (K : PySem.W.Frag) : Bool := ([fun K => decide (Fx8 K), fun K => decide (Fx9 K), fun K => decide (Fx10 K), fun K => decide (Fx11 K), fun K => decide (Fx12 K), fun K => decide (Fx13 K), fun K => decide (Fx14 K), fun K => decide (Fx15 K)] : List (PySem.W.Frag → Bool)).all fun f => f K
def fn_1 : List FnDY := [fn12, fn13, fn14, fn15, fn16, fn17, fn18, fn19, fn20, fn21, fn22, fn23]
def tf_1 : List (PySem.W.Frag → Addr) := []
def ex_2 (K : PySem.W.Frag) : Bool := ([fun K => decide (Fx16 K), fun K => decide (Fx17 K), fun K => decide (Fx18 K), fun K => decide (Fx19 K), fun K => decide (Fx20 K), fun K => decide (Fx21 K), fun K => decide (Fx22 K), fun K => decide (Fx23 K)] : List (PySem.W.Frag → Bool)).all fun f => f K
def fn_2 : List FnDY := [fn24, fn25, fn26, fn27, fn28, fn29, fn30, fn31, fn32, fn33, fn34, fn35]
def tf_2 : List (PySem.W.Frag → Addr) := []
def ex_3 (K : PySem.W.Frag) : Bool := ([fun K => decide (Fx24 K), fun K => decide (Fx25 K), fun K => decide (Fx26 K), fun K => decide (Fx27 K), fun K => decide (Fx28 K), fun K => decide (Fx29 K), fun K => decide (Fx30 K), fun K => decide (Fx31 K)] : List (PySem.W.Frag → Bool)).all fun f => f K
def fn_3 : List FnDY := [fn36, fn37, fn38, fn39, fn40, fn41, fn42, fn43, fn44, fn45, fn46, fn47]
def tf_3 : List (PySem.W.Frag → Addr) := []
def ex_4 (K : PySem.W.Frag) : Bool := ([fun K => decide (Fx32 K), fun K => decide (Fx33 K), fun K => decide (Fx34 K), fun K => decide (Fx35 K)] : List (PySem.W.Frag → Bool)).all fun f => f K
def fn_4 : List FnDY := [fn48, fn49, fn50, fn51, fn52, fn53, fn54, fn55, fn56, fn57]
def tf_4 : List (PySem.W.Frag → Addr) := []
abbrev fnL : List FnDY := ((((fn_0 ++ fn_1) ++ fn_2) ++ fn_3) ++ fn_4)
abbrev tfL : List (PySem.W.Frag → Addr) := ((((tf_0 ++ tf_1) ++ tf_2) ++ tf_3) ++ tf_4)
abbrev exB : PySem.W.Frag → Bool := (fun K => (fun K => (fun K => (fun K => ex_0 K && ex_1 K) K && ex_2 K) K && ex_3 K) K && ex_4 K)
theorem mem_at {α : Type} {l : List α} {i : Nat} {a : α} (h : l[i]? = some a) : a ∈ l := List.mem_of_getElem? h
theorem all_at {K : PySem.W.Frag} {L : List (PySem.W.Frag → Bool)} (h : (L.all fun f => f K) = true) (i : Nat) {f : PySem.W.Frag → Bool} (e : L[i]? = some f) : f K = true := List.all_eq_true.mp h f (List.mem_of_getElem? e)
theorem more_0 {h : Heap} {K : PySem.W.Frag} (S : SaysY fnL tfL exB h K) : ex_0 K = true := (ba (ba (ba (ba S.more).1).1).1).1
theorem more_1 {h : Heap} {K : PySem.W.Frag} (S : SaysY fnL tfL exB h K) : ex_1 K = true := (ba (ba (ba (ba S.more).1).1).1).2
theorem more_2 {h : Heap} {K : PySem.W.Frag} (S : SaysY fnL tfL exB h K) : ex_2 K = true := (ba (ba (ba S.more).1).1).2
theorem more_3 {h : Heap} {K : PySem.W.Frag} (S : SaysY fnL tfL exB h K) : ex_3 K = true := (ba (ba S.more).1).2
theorem more_4 {h : Heap} {K : PySem.W.Frag} (S : SaysY fnL tfL exB h K) : ex_4 K = true := (ba S.more).2
theorem gx0 {h : Heap} {K : PySem.W.Frag} (S : SaysY fnL tfL exB h K) : Fx0 K := of_decide_eq_true (all_at (more_0 S) 0 rfl)
theorem gx1 {h : Heap} {K : PySem.W.Frag} (S : SaysY fnL tfL exB h K) : Fx1 K := of_decide_eq_true (all_at (more_0 S) 1 rfl)
theorem gx2 {h : Heap} {K : PySem.W.Frag} (S : SaysY fnL tfL exB h K) : Fx2 K := of_decide_eq_true (all_at (more_0 S) 2 rfl)
theorem gx3 {h : Heap} {K : PySem.W.Frag} (S : SaysY fnL tfL exB h K) : Fx3 K := of_decide_eq_true (all_at (more_0 S) 3 rfl)
theorem gx4 {h : Heap} {K : PySem.W.Frag} (S : SaysY fnL tfL exB h K) : Fx4 K := of_decide_eq_true (all_at (more_0 S) 4 rfl)
theorem gx5 {h : Heap} {K : PySem.W.Frag} (S : SaysY fnL tfL exB h K) : Fx5 K := of_decide_eq_true (all_at (more_0 S) 5 rfl)
theorem gx6 {h : Heap} {K : PySem.W.Frag} (S : SaysY fnL tfL exB h K) : Fx6 K := of_decide_eq_true (all_at (more_0 S) 6 rfl)
theorem gx7 {h : Heap} {K : PySem.W.Frag} (S : SaysY fnL tfL exB h K) : Fx7 K := of_decide_eq_true (all_at (more_0 S) 7 rfl)
theorem gx8 {h : Heap} {K : PySem.W.Frag} (S : SaysY fnL tfL exB h K) : Fx8 K := of_decide_eq_true (all_at (more_1 S) 0 rfl)
theorem gx9 {h : Heap} {K : PySem.W.Frag} (S : SaysY fnL tfL exB h K) : Fx9 K := of_decide_eq_true (all_at (more_1 S) 1 rfl)
theorem gx10 {h : Heap} {K : PySem.W.Frag} (S : SaysY fnL tfL exB h K) : Fx10 K := of_decide_eq_true (all_at (more_1 S) 2 rfl)
theorem gx11 {h : Heap} {K : PySem.W.Frag} (S : SaysY fnL tfL exB h K) : Fx11 K := of_decide_eq_true (all_at (more_1 S) 3 rfl)
theorem gx12 {h : Heap} {K : PySem.W.Frag} (S : SaysY fnL tfL exB h K) : Fx12 K := of_decide_eq_true (all_at (more_1 S) 4 rfl)
theorem gx13 {h : Heap} {K : PySem.W.Frag} (S : SaysY fnL tfL exB h K) : Fx13 K := of_decide_eq_true (all_at (more_1 S) 5 rfl)
theorem gx14 {h : Heap} {K : PySem.W.Frag} (S : SaysY fnL tfL exB h K) : Fx14 K := of_decide_eq_true (all_at (more_1 S) 6 rfl)
theorem gx15 {h : Heap} {K : PySem.W.Frag} (S : SaysY fnL tfL exB h K) : Fx15 K := of_decide_eq_true (all_at (more_1 S) 7 rfl)
theorem gx16 {h : Heap} {K : PySem.W.Frag} (S : SaysY fnL tfL exB h K) : Fx16 K := of_decide_eq_true (all_at (more_2 S) 0 rfl)
theorem gx17 {h : Heap} {K : PySem.W.Frag} (S : SaysY fnL tfL exB h K) : Fx17 K := of_decide_eq_true (all_at (more_2 S) 1 rfl)
theorem gx18 {h : Heap} {K : PySem.W.Frag} (S : SaysY fnL tfL exB h K) : Fx18 K := of_decide_eq_true (all_at (more_2 S) 2 rfl)
theorem gx19 {h : Heap} {K : PySem.W.Frag} (S : SaysY fnL tfL exB h K) : Fx19 K := of_decide_eq_true (all_at (more_2 S) 3 rfl)
theorem gx20 {h : Heap} {K : PySem.W.Frag} (S : SaysY fnL tfL exB h K) : Fx20 K := of_decide_eq_true (all_at (more_2 S) 4 rfl)
theorem gx21 {h : Heap} {K : PySem.W.Frag} (S : SaysY fnL tfL exB h K) : Fx21 K := of_decide_eq_true (all_at (more_2 S) 5 rfl)
theorem gx22 {h : Heap} {K : PySem.W.Frag} (S : SaysY fnL tfL exB h K) : Fx22 K := of_decide_eq_true (all_at (more_2 S) 6 rfl)
theorem gx23 {h : Heap} {K : PySem.W.Frag} (S : SaysY fnL tfL exB h K) : Fx23 K := of_decide_eq_true (all_at (more_2 S) 7 rfl)
theorem gx24 {h : Heap} {K : PySem.W.Frag} (S : SaysY fnL tfL exB h K) : Fx24 K := of_decide_eq_true (all_at (more_3 S) 0 rfl)
theorem gx25 {h : Heap} {K : PySem.W.Frag} (S : SaysY fnL tfL exB h K) : Fx25 K := of_decide_eq_true (all_at (more_3 S) 1 rfl)
theorem gx26 {h : Heap} {K : PySem.W.Frag} (S : SaysY fnL tfL exB h K) : Fx26 K := of_decide_eq_true (all_at (more_3 S) 2 rfl)
theorem gx27 {h : Heap} {K : PySem.W.Frag} (S : SaysY fnL tfL exB h K) : Fx27 K := of_decide_eq_true (all_at (more_3 S) 3 rfl)
theorem gx28 {h : Heap} {K : PySem.W.Frag} (S : SaysY fnL tfL exB h K) : Fx28 K := of_decide_eq_true (all_at (more_3 S) 4 rfl)
theorem gx29 {h : Heap} {K : PySem.W.Frag} (S : SaysY fnL tfL exB h K) : Fx29 K := of_decide_eq_true (all_at (more_3 S) 5 rfl)
theorem gx30 {h : Heap} {K : PySem.W.Frag} (S : SaysY fnL tfL exB h K) : Fx30 K := of_decide_eq_true (all_at (more_3 S) 6 rfl)
theorem gx31 {h : Heap} {K : PySem.W.Frag} (S : SaysY fnL tfL exB h K) : Fx31 K := of_decide_eq_true (all_at (more_3 S) 7 rfl)
theorem gx32 {h : Heap} {K : PySem.W.Frag} (S : SaysY fnL tfL exB h K) : Fx32 K := of_decide_eq_true (all_at (more_4 S) 0 rfl)
theorem gx33 {h : Heap} {K : PySem.W.Frag} (S : SaysY fnL tfL exB h K) : Fx33 K := of_decide_eq_true (all_at (more_4 S) 1 rfl)
theorem gx34 {h : Heap} {K : PySem.W.Frag} (S : SaysY fnL tfL exB h K) : Fx34 K := of_decide_eq_true (all_at (more_4 S) 2 rfl)
theorem gx35 {h : Heap} {K : PySem.W.Frag} (S : SaysY fnL tfL exB h K) : Fx35 K := of_decide_eq_true (all_at (more_4 S) 3 rfl)
def nameOf (s : Stmt) : List Str := match s with
  | .FunctionDef n .. => [n]
  | .ClassDef n .. => [n]
  | .Assign [.Name n _] _ _ => [n]
  | _ => []
def lawI : Nat := theRow.prog.main.body.length - 1
def names : List Str := (theRow.prog.main.body.take lawI).flatMap nameOf
def asL : List Addr := [3, 2, 31, 53, 74, 95, 107, 128, 149, 161, 173, 185, 197, 320, 424, 517, 582, 0, 6, 30, 52, 73, 94, 106, 127, 148, 160, 172, 184, 196, 319, 423, 516, 581, 19, 21, 48, 50, 69, 71] ++ [90, 92, 123, 125, 144, 146, 202, 204, 209, 211, 216, 218, 223, 225, 230, 232, 237, 239, 244, 246, 249, 251, 261, 263, 270, 278, 286, 294, 302, 308, 310, 315, 317, 334, 336, 343, 351, 359, 365, 373] ++ [379, 381, 384, 386, 391, 393, 398, 400, 405, 407, 412, 414, 419, 421, 433, 435, 438, 440, 445, 447, 459, 461, 468, 476, 484, 488, 490, 495, 497, 500, 502, 507, 509, 512, 514, 526, 528, 531, 533, 545] ++ [547, 554, 560, 568, 572, 574, 577, 579, 589, 591, 596, 598, 601, 603, 608, 610, 615, 617, 622, 624, 629, 631, 634, 636, 641, 643, 648, 650, 655, 657, 662, 664, 669, 671, 676, 678, 683, 685, 688, 690] ++ [695, 697, 702, 704, 707, 709, 712, 714, 38, 59, 80, 113, 134, 20, 32, 49, 70, 91, 124, 145, 203, 210, 217, 224, 231, 238, 245, 250, 262, 269, 271, 277, 279, 285, 287, 293, 295, 301, 303, 309] ++ [316, 321, 322, 335, 342, 344, 350, 352, 358, 360, 364, 366, 372, 374, 380, 385, 392, 399, 406, 413, 420, 425, 426, 434, 439, 446, 460, 467, 469, 475, 477, 483, 485, 489, 496, 501, 508, 513, 518, 519] ++ [527, 532, 546, 553, 555, 559, 561, 567, 569, 573, 578, 583, 584, 590, 597, 602, 609, 616, 623, 630, 635, 642, 649, 656, 663, 670, 677, 684, 689, 696, 703, 708, 713, 4]
abbrev hk : PySem.W.Hook := hookY asL fnL tfL exB
def ob (s : PySem.W.SharedT) : AlY := obsY asL fnL tfL exB (HandSHeadRun.getT s)
theorem ob_eq (s : PySem.W.SharedT) : ob s = hk.obs s.abs := obsY_eq (HandSHeadRun.getT_eq s)
theorem run_0 (w : World) : HandSHeadRun.RunEq theRow (PySem.W.view theRow.prog [lawI]) (hookY asL fn_0 tf_0 ex_0) (fun s => obsY asL fn_0 tf_0 ex_0 (HandSHeadRun.getT s)) 9000 names w := by
  intro os
  kernel_rfl
theorem run_1 (w : World) : HandSHeadRun.RunEq theRow (PySem.W.view theRow.prog [lawI]) (hookY asL fn_1 tf_1 ex_1) (fun s => obsY asL fn_1 tf_1 ex_1 (HandSHeadRun.getT s)) 9000 names w := by
  intro os
  kernel_rfl
theorem run_2 (w : World) : HandSHeadRun.RunEq theRow (PySem.W.view theRow.prog [lawI]) (hookY asL fn_2 tf_2 ex_2) (fun s => obsY asL fn_2 tf_2 ex_2 (HandSHeadRun.getT s)) 9000 names w := by
  intro os
  kernel_rfl
theorem run_3 (w : World) : HandSHeadRun.RunEq theRow (PySem.W.view theRow.prog [lawI]) (hookY asL fn_3 tf_3 ex_3) (fun s => obsY asL fn_3 tf_3 ex_3 (HandSHeadRun.getT s)) 9000 names w := by
  intro os
  kernel_rfl
theorem run_4 (w : World) : HandSHeadRun.RunEq theRow (PySem.W.view theRow.prog [lawI]) (hookY asL fn_4 tf_4 ex_4) (fun s => obsY asL fn_4 tf_4 ex_4 (HandSHeadRun.getT s)) 9000 names w := by
  intro os
  kernel_rfl
theorem run (w : World) : HandSHeadRun.RunEq theRow (PySem.W.view theRow.prog [lawI]) hk ob 9000 names w := run_join (run_join (run_join (run_join (run_0 w) (run_1 w)) (run_2 w)) (run_3 w)) (run_4 w)
end Sc
namespace Sc
open PySem PySem.Spec PySem.Calls PyProof.Rows L2
/-! ### enumerate(tuple) -/
theorem enumT_new (l : Addr) (items : Array Value) (n : Nat) (dct : Option Addr) (sl : Array (Option Value)) :
    Meets (Builtin.«enumerate.__new__» ⟨[.type "enumerate", .ref l], []⟩) (fun _ R s =>
      s.heap.get? l = some { cls := .type "tuple", dict := dct, data := .seq items n, slots := sl } ∧
      R (.ok (.ret (.ref (s.heap.objs.size + 1)))) { s with heap := (s.heap.push { cls := .type "tuple_iterator", data := .fields #[.ref l, .int 0 0] }).push { cls := .type "enumerate", data := .fields #[.none, .bool false, .ref s.heap.objs.size, rawInt 0, .none, .none] } }) :=
  .of_wp fun prog w A R s h => by
    obtain ⟨hp, g, d, tk, os⟩ := s
    obtain ⟨hl, hR⟩ := h
    have hsub := sub_enumerate
    have hT : Heap.IsTuple hp l items := ⟨_, hl, rfl, n, rfl⟩
    have hz : (hp.push { cls := .type "tuple_iterator", data := .fields #[.ref l, .int 0 0] }).objs.size = hp.objs.size + 1 := Heap.size_push ..
    rw [← hz] at hR
    have it1 : ∀ {A' : Around} {E : Value → Shared → Prop} {Q : Value → Shared → Prop}, Q (.ref hp.objs.size) ⟨hp.push { cls := .type "tuple_iterator", data := .fields #[.ref l, .int 0 0] }, g, d, tk, os⟩ →
        wpAny (model prog w) A' (pyIter (.ref l)) Q E ⟨hp, g, d, tk, os⟩ := fun q => wpAny_pyIter_tuple (s := ⟨hp, g, d, tk, os⟩) hT q
    wp_walk using AutoSeq1.wpAny_loadPart' hl, it1
    refine wpAny_stack_any fun st => wpAny_pure ?_
    split
    · rename_i c _ _ _ _ _
      cases (c == Value.type "enumerate") <;>
      · wp_walk using AutoSeq1.wpAny_loadPart' hl, it1
        exact ⟨_, rfl, hR⟩
    · wp_walk using AutoSeq1.wpAny_loadPart' hl, it1
      exact ⟨_, rfl, hR⟩
section
variable {prog : Program} {w : World} {A : Around} {E : Value → Shared → Prop} {s : Shared}
theorem enumT_call {l : Addr} {items : Array Value} {Q : Value → Shared → Prop} (hL : s.heap.IsTuple l items)
    (h : ∀ h', IsEnum h' (s.heap.objs.size + 1) s.heap.objs.size 0 .none → h'.IsTupleIter s.heap.objs.size l 0 → (∀ b o, s.heap.get? b = some o → h'.get? b = some o) →
      Q (.ref (s.heap.objs.size + 1)) { s with heap := h' }) : wpAny (model prog w) A (call (.type "enumerate") [.ref l]) Q E s := by
  obtain ⟨⟨c, dct, dt, sl⟩, hl, hc, n, hd⟩ := hL
  dsimp only at hc hd
  subst hc hd
  refine callType_new F.called_enumerate (by decide) (F.typeCall_enumerate_1 _) (F.newCall_enumerate_1 _) (fun obj => F.args_object_init_2 obj _) F.entry_enumerate_new (enumT_new l items n dct sl) ⟨hl, ?_⟩
  have hz : (s.heap.push { cls := .type "tuple_iterator", data := .fields #[.ref l, .int 0 0] }).objs.size = s.heap.objs.size + 1 := Heap.size_push ..
  have he := Heap.get?_push_size (s.heap.push { cls := .type "tuple_iterator", data := .fields #[.ref l, .int 0 0] })
    (o := { cls := .type "enumerate", data := .fields #[.none, .bool false, .ref s.heap.objs.size, rawInt 0, .none, .none] }) rfl
  rw [hz] at he
  exact ⟨⟨_, he, rfl⟩, h _ he ⟨_, Heap.get?_push_of_some _ (Heap.get?_push_size _ rfl), rfl, rfl⟩ fun b o x => Heap.get?_push_of_some _ (Heap.get?_push_of_some _ x)⟩
end
/-- the tuple at a, each item in a new pair -/
def IteT (K : PySem.W.Frag) (a : Addr) : It where
  go := fun i H => ∃ (xs : List V) (x : V), SqT K H a xs ∧ xs[i]? = some x
  yld := fun i H v H' => ∃ T x, v = .ref T ∧ H T = none ∧ H' = upd H T (.tup [.int (i : Nat), x]) ∧ ∀ xs, SqT K H a xs → xs[i]? = some x
  stop := fun i H => ∃ xs : List V, SqT K H a xs ∧ xs.length ≤ i
theorem enumT_turn {P : Program} {w : World} {K : PySem.W.Frag} {elts : List Expr} {kk : Nat} {tpos : Pos} (a e it : Addr) :
    Turn P w K (.Tuple elts kk tpos) (IteT K a) [e, it] e (fun i h => (∃ old, IsEnum h e it ((i : Nat) : Int) old) ∧ h.IsTupleIter it a i ∧ e ≠ it) where
  mem := List.mem_cons_self
  obj := fun i h st b hb => by
    obtain ⟨⟨old, he⟩, ⟨o, ho, hc, hd⟩, _⟩ := st
    rcases List.mem_cons.mp hb with rfl | hb
    · exact ⟨_, he, fun v q => nomatch q⟩
    · rcases List.mem_cons.mp hb with rfl | hb
      · exact ⟨o, ho, fun v q => by rw [hd] at q; cases q⟩
      · cases hb
  keep := fun i h h' st k => by
    obtain ⟨⟨old, he⟩, hi, hne⟩ := st
    exact ⟨⟨old, k e (by simp) _ he⟩, hi.at fun o q => k it (by simp) o q, hne⟩
  item := by
    intro X hP hw hK hc i pins s σ H E I hf st hg
    subst hP hw hK
    obtain ⟨⟨old, he⟩, hit, hne⟩ := st
    obtain ⟨xs, x, hq, hx⟩ := hg
    obtain ⟨its, rv, p, hz⟩ := I.tuple hq
    obtain ⟨u, hu, ru⟩ := rv.get hx
    have hel : e < s.heap.objs.size := Heap.lt_size he
    have hil : it < s.heap.objs.size := by obtain ⟨_, q, _⟩ := hit; exact Heap.lt_size q
    have p' : s.heap.IsTuple a its.toArray := p
    have hae : a ≠ e := fun z => by
      obtain ⟨o, ho, hcl, n, hd⟩ := p'
      rw [z, he] at ho
      cases ho
      cases hd
    have hai : a ≠ it := fun z => by
      obtain ⟨o, ho, hcl, n, hd⟩ := p'
      obtain ⟨o2, ho2, hcl2, hd2⟩ := hit
      rw [z, ho2] at ho
      cases ho
      rw [hd2] at hd
      cases hd
    have hlt : i < its.toArray.size := by
      rw [List.size_toArray]
      exact (List.getElem?_eq_some_iff.mp hu).1
    refine wpAny_pyNext_enum_itemD (Draws.tuple (A := X.A.in1) (I.ok.hd hc) it a hai its.toArray) he ⟨hit, p'⟩ hlt hne (by simp [hne, hae.symm]) fun y h' tk hy ho st' hT hsz hk => ?_
    obtain ⟨hit', hp'⟩ := st'
    have ey : y = u := by
      have z : its.toArray[i]? = some u := by simpa using hu
      rw [hy] at z
      exact Option.some.inj z
    subst ey
    refine ⟨_, rfl, wpAny_letOwnedTupleGo_enum (s := { s with heap := h', toks := tk + 1 }) ho fun h'' he' sb => ?_⟩
    have hT2 : h''.get? s.heap.objs.size = some { cls := .type "tuple", data := .seq #[.int i tk, y] } := (sb.2 _ (Nat.ne_of_gt hel)).trans hT
    have new : ObjOk X.prog X.w (upd H s.heap.objs.size (.tup [.int (i : Nat), x])) h'' s.heap.objs.size (.tup [.int (i : Nat), x]) :=
      ⟨by show 2 ≤ sizeLine; decide, [.int i tk, y], .cons ⟨_, rfl⟩ (.cons ru .nil), ⟨_, hT2, rfl, _, rfl⟩⟩
    have I1 : Inv X pins σ (upd H s.heap.objs.size (.tup [.int (i : Nat), x])) { s with heap := h'', toks := tk + 1 } :=
      I.turnedNew (ch := [e, it]) (fun b ob hb q => (sb.2 b (fun z => hb (by simp [z]))).trans (hk b ob (fun z => hb (by simp [z])) (fun z => hb (by simp [z])) q)) hf (Nat.le_refl _) new
    refine ⟨.ref s.heap.objs.size, _, I1, rfl, ⟨_, x, rfl, I.hok.fresh (Nat.le_refl _), rfl, fun ys hy => by rw [I.tuple_inj hy hq]; exact hx⟩, ⟨⟨y, ?_⟩, hit'.at fun o q => (sb.2 it (Ne.symm hne)).trans q, hne⟩, fun b hb => ?_⟩
    · have e1 : ((i + 1 : Nat) : Int) = (i : Int) + 1 := by omega
      rw [e1]
      exact he'
    · have hb' : b < s.heap.objs.size := by
        rcases List.mem_cons.mp hb with rfl | hb
        · exact hel
        · rcases List.mem_cons.mp hb with rfl | hb
          · exact hil
          · cases hb
      rw [upd_ne (Nat.ne_of_lt hb')]
      exact (hf b hb).1
  done := by
    intro X hP hw hK hc i pins s σ H E I hf st hg
    subst hP hw hK
    obtain ⟨⟨old, he⟩, hit, hne⟩ := st
    obtain ⟨xs, hq, hx⟩ := hg
    obtain ⟨its, rv, p, hz⟩ := I.tuple hq
    obtain ⟨f0, f1, f2, f3, f4, f5⟩ := hf it (by simp)
    have hl := rv.length
    have p' : s.heap.IsTuple a its.toArray := p
    have hai : a ≠ it := fun z => by
      obtain ⟨o, ho, hcl, n, hd⟩ := p'
      obtain ⟨o2, ho2, hcl2, hd2⟩ := hit
      rw [z, ho2] at ho
      cases ho
      rw [hd2] at hd
      cases hd
    have D : Draws X.prog X.w X.A.in1 it [it, a] i (fun _ _ => True) (fun j h => h.IsTupleIter it a j ∧ h.IsTuple a its.toArray ∧ j = i) :=
      { live := fun _ _ st => let ⟨o, ho, _⟩ := st.1; ⟨o, ho⟩
        frame := fun _ _ _ st hk => ⟨st.1.at fun o e => hk it (by simp) o e, st.2.1.at fun o e => hk a (by simp) o e, st.2.2⟩
        item := fun j s Q E hj stj hQ => absurd hj (by rw [stj.2.2]; exact Nat.lt_irrefl i)
        done := fun s Q E stj hE => wpAny_nextOf_tuple_end (I.ok.hd hc) stj.1 stj.2.1 (by simp; omega) hE }
    exact wpAny_pyNext_enum_endD D he ⟨hit, p', rfl⟩ fun h' eb => ⟨rfl, I.turned (t' := s.toks) (fun b o hb q => eb b o hb q) f0 f1 f3 f4 f5⟩
  self := fun A i s Q E st h => by
    obtain ⟨⟨_, he⟩, _⟩ := st
    exact wpAny_pyIter_enum he h
def iEnumT (K : PySem.W.Frag) (ta : TA) : TI := fun σ H R => ta σ H fun vs H1 => ∃ a xs, vs = [.ref a] ∧ SqT K H1 a xs ∧ R (IteT K a) H1
theorem pi_enumT {X : Cx} {e : Expr} {ta : TA} {p pos tpos : Pos} {elts : List Expr} {kk : Nat} (hg : Gl X "enumerate") (hm : X.mg "enumerate" = none) (ha : PA X [e] ta) (hs : starEach [e] X.env = [(false, eval e X.env)] := by rfl) :
    PI X (.Tuple elts kk tpos) (.Call (.Name "enumerate" p) [e] [] pos) (iEnumT X.K ta) := by
  refine ⟨fun pins s σ H R I h => ?_⟩
  refine Call_ (ld_blt I hg hm boot_enumerate (PyProof.Rows.callWith_type1 (thn (ha.run pos pins s σ H _ I h) fun us s1 ⟨vs, H1, I1, r1, a, xs, ex, hq, q⟩ => ?_) hs rfl))
  subst ex
  cases r1 with
  | cons r rr =>
    cases rr
    cases r
    obtain ⟨its, rv, p', hz⟩ := I1.tuple hq
    refine enumT_call (show s1.heap.IsTuple a its.toArray from p') fun h' he hit hk => wpAny_pyIter_enum he ?_
    have I2 : Inv X pins σ H1 { s1 with heap := h' } := I1.kept (t' := s1.toks) hk
    refine ⟨s1.heap.objs.size + 1, [s1.heap.objs.size + 1, s1.heap.objs.size], _, _, H1, rfl, I2, enumT_turn a (s1.heap.objs.size + 1) s1.heap.objs.size, ⟨⟨.none, he⟩, hit, Nat.succ_ne_self _⟩, fun b hb => ?_, q⟩
    have hle : s1.heap.objs.size ≤ b := by
      rcases List.mem_cons.mp hb with rfl | hb
      · exact Nat.le_succ _
      · rcases List.mem_cons.mp hb with rfl | hb
        · exact Nat.le_refl _
        · cases hb
    exact I1.fpOk hle (I1.hok.fresh hle)
end Sc
namespace Sc
open PySem PySem.Spec PySem.Calls PyProof.Rows L2 NdefX
/-! ### super().__init__(..) in an own error's __init__ -/
/-- what the written part tells for super() in the __init__ of the class at C: cc its cell, cda the code object of __init__ -/
structure SupC (prog : Program) (K : PySem.W.Frag) (mg : Str → Option Value) (C cc cda : Addr) : Prop where
  cell : ∃ cl cld csl, K.lookup cc = some ⟨cl, cld, .cell (some (.ref C)), csl⟩
  code : ∃ ccl cdd vs ccs file tf, K.lookup cda = some ⟨ccl, cdd, .fields vs, ccs⟩ ∧ vs[2]? = some (.str file tf) ∧ ((prog.main.file : Str) == file) = true
  sub : PySem.W.mroIn K C (.ref C) = some true
  noS : mg "super" = none
  opq : PySem.W.nsIn K cStatics "thirdparty.any" = some none
  up : PySem.W.ks_superIn K C C "__init__" = some (some (.builtin "ValueError.__init__"))
  isB : PySem.W.subIn K (.ref C) (.type "ValueError") = some true
  top : (prog.main.scope.names.lookup ("super" : Str)).isSome = false
section
variable {X : Cx} {pins : List (Addr × Obj)} {σ : L2.St} {H : Hp} {s : Shared} {a C cc cda f : Addr}
theorem sup_bound {u : Addr} {us : List Value} {A : Around} {E : Value → Shared → Prop} {Q : Value → Shared → Prop} (T : OexC X.K C) (I : Inv X pins σ H s) (e : H a = some (exo a C none)) (hu : s.heap.get? u = some (PySem.W.kxs_mw "ValueError.__init__" a)) (hl : us.length ≤ sizeLine)
    (h : ∀ s', Inv X pins σ H s' → Q .none s') : wpAny (model X.prog X.w) A (call (.ref u) us) Q E s := by
  obtain ⟨nm, q, N, bs, bm, sn, sub, ab, col, dd, k0, k1, k2, k3, k5, hC, hbm⟩ := T.cls
  obtain ⟨t1, ho⟩ := exo_at I.hok e
  have hC' := I.kIn _ _ hC
  obtain ⟨hp, g, d, tk, os⟩ := s
  refine wpAny_call (codeAny_of_tree ?_)
  show wpAny _ A.in1 (callAny (.ref u) ⟨us, []⟩) _ _ _
  simp only [callAny]
  refine wpAny_bind (wpAny_load hu ?_)
  have b1 : (Value.type "method-wrapper" == Value.type "method" || Value.type "method-wrapper" == Value.type "builtin_function_or_method" || Value.type "method-wrapper" == Value.type "method-wrapper") = true := by decide
  simp only [PySem.W.kxs_mw, b1, if_true]
  refine PySem.W.KFB.if_so (by decide) (wpAny_bind (PySem.W.check_bound_init PySem.F.excBase_ValueError.toExcCallFacts hC' ho rfl (wpAny_bind (wpAny_pure (wpAny_pure ?_)))))
  refine ⟨plainId_quiet PySem.F.excBase_ValueError.init.plain _, codeAny_builtin PySem.F.excBase_ValueError.initEntry ?_⟩
  refine PySem.W.exc_init_tree (cls := .ref C) (t0 := t1) (dv := none) (c2 := .none) (c3 := .none) (b4 := .bool false) ho hl fun h' k hx _ => ?_
  have J := I.write (t' := tk) (x := a) (e := a) (o := exo a C none) (by rw [e]; exact True.intro) (.inl rfl) k ⟨_, hx⟩ (exo_ok hx)
  have eu : upd H a (exo a C none) = H := funext fun b => by
    by_cases hb : b = a
    · rw [hb, upd_same, e]
    · rw [upd_ne hb]
  rw [eu] at J
  exact h _ J
theorem at_super {pl : Sem Bool} {body : List Stmt} {e : Expr} {es : List Expr} {ta : TA} {D : Ends} {p0 p1 p2 p3 p4 : Pos} {fd : FuncData} {ar : Arg} {oc : Value} {od : Option Addr} {osl : Array (Option Value)}
    (T : OexC X.K C) (S : SupC X.prog X.K X.mg C cc cda) (hks : X.env.kindOf "super" = some .globalImplicit) (hkc : X.env.kindOf "__class__" = some .free) (hcl : X.env.cells.lookup ("__class__" : Str) = some cc)
    (hfu : X.env.func = some f) (hco : X.env.code = .ref cda) (lk : X.K.lookup f = some ⟨oc, od, .func fd, osl⟩) (hp : (fd.params.posonlyargs ++ fd.params.args).head? = some ar) (hN0 : X.N[0]? = some ar.arg) (hka : X.env.kindOf ar.arg = some .local)
    (hA : PA X (e :: es) ta) (I : Inv X pins σ H s) (hσ : σ[0]? = some (some (.ref a))) (ha : H a = some (exo a C none)) (q : ta σ H fun vs H1 => vs.length ≤ 1000 ∧ H1 a = some (exo a C none) ∧ D.nx σ H1)
    (he : starEach (e :: es) X.env = (false, eval e X.env) :: starEach es X.env := by rfl) (hpl : (backTo p3 (starEach es X.env)).any (·.1) = false := by rfl) (hi : interactive X.env = false := by rfl)
    (hev : eval (.Call (.Attribute (.Call (.Name "super" p0) [] [] p1) "__init__" p2) (e :: es) [] p3) X.env = (do
      let ov ← attributeBase (.Call (.Name "super" p0) [] [] p1) "__init__" X.env (eval (.Call (.Name "super" p0) [] [] p1) X.env)
      standAt p2.atName
      let (g, first) ← holding [ov] (getMethod ov "__init__" pl)
      callWith p3 g first (backTo p3 (starEach (e :: es) X.env)) []) := by rfl) (hsw : swapsWith (.Call (.Attribute (.Call (.Name "super" p0) [] [] p1) "__init__" p2) (e :: es) [] p3) none p4.line X.env = pure false := by rfl) :
    PySem.wpAt (model X.prog X.w) X.A (.func body X.env) (exec (.Expr (.Call (.Attribute (.Call (.Name "super" p0) [] [] p1) "__init__" p2) (e :: es) [] p3) p4) X.env) (SP X pins D) X.xe s := by
  obtain ⟨cl, cld, csl, hcell⟩ := S.cell
  obtain ⟨ccl, cdd, vs, ccs, file, tf, hcode, hvs, hfile⟩ := S.code
  have KX := I.kIn
  refine ks_wpAt_Expr_any (ks_wpAt_MethodCall (pl := pl) ?_ hev) hi hsw
  refine ks_wpAt_super_base hks hkc (by decide) hfu (KX _ _ lk) rfl hp hco (KX _ _ hcode) rfl hvs hfile S.top ?_
  obtain ⟨mb, b1, b2⟩ := I.mod.blt
  refine PySem.W.ks_loadName_global I.ok.kind hks (Calls.loadGlobal_builtin (v := .type "super") (by rw [I.ok.glob]; exact I.mod.glob.keeps I.bk) S.noS (by rw [I.ok.blt]; exact b1.keeps I.bk) ((b2 _ (by decide +kernel)).trans (by decide +kernel)) ⟨rfl, ?_⟩)
  refine wpAny_loadName_free I.ok.kind hkc hcl ⟨_, KX _ _ hcell, rfl⟩ ?_
  obtain ⟨m, hn, hloc⟩ := I.loc
  obtain ⟨u, ru, hlook⟩ := hloc 0 ar.arg (.ref a) hN0 hσ (.inl hka)
  obtain rfl : u = Value.ref a := ru
  have hm : m ar.arg = some (.ref a) := by
    rcases hlook with ⟨_, z⟩ | ⟨z, _⟩
    · exact z
    · rcases z with z | z <;> rw [show X.env.kindOf ar.arg = _ from hka] at z <;> cases z
  refine wpAny_loadName_local I.ok.kind hka hn hm ?_
  obtain ⟨nm, qn, N, bs, bm, sn, sub, ab, col, dd, k0, k1, k2, k3, k5, hC, hbm⟩ := T.cls
  have hcls : PySem.W.clsIn X.K C = some { name := nm, bases := bs, mro := .ref C :: bm, ns := N, qualname := qn, hasDict := true, slotNames := sn, subclasses := sub, abstract := ab, collection := col, hasDel := false } := by unfold PySem.W.clsIn; rw [hC] <;> rfl
  obtain ⟨t1, ho⟩ := exo_at I.hok ha
  have hC' := KX _ _ hC
  have ex := S.up
  unfold PySem.W.ks_superIn at ex
  rw [hcls] at ex
  obtain ⟨hp', g, d, tk, os⟩ := s
  refine ks_wpAny_isType_cls hC' rfl ⟨rfl, ?_⟩
  refine ks_wpAny_call_super hC' rfl ho rfl (fun c z => nomatch z) (PySem.W.looks_mroIn KX S.sub) (fun h' e1 k => ?_)
  have I1 : Inv X pins σ H ⟨h', g, d, tk, os⟩ := I.kept (t' := tk) k
  have IA : PySem.W.InstAt h' a { cls := .ref C, dict := none, data := .fields #[.ref t1, .none, .none, .none, .bool false, .none] } C none := ⟨k _ _ ho, rfl, rfl, trivial⟩
  have hIs : PySem.W.Looks (model X.prog X.w) h' (isInstance (.ref a) (.type "ValueError")) true := IA.type.andThen (PySem.W.looks_subIn I1.kIn S.isB)
  refine PySem.W.kxs_getMethod PySem.W.kxs_ValueError e1 (PySem.W.looks_opaque I1.kIn S.opq) (l₀ := .ref C :: bm) (fun A Q E s k q => wpAny_bind ((PySem.W.looks_clsIn I1.kIn hcls) A _ E s k (wpAny_pure q))) rfl I1.kIn ex hIs (PySem.W.ks_ne I1.kIn IA hcls) (by decide) ?_
  have I2 : Inv X pins σ H ⟨h'.push (PySem.W.kxs_mw "ValueError.__init__" a), g, d, tk + 1, os⟩ := I1.kept (t' := tk + 1) fun b o z => Heap.get?_push_of_some _ z
  have hu : (h'.push (PySem.W.kxs_mw "ValueError.__init__" a)).get? h'.objs.size = some (PySem.W.kxs_mw "ValueError.__init__" a) := Heap.get?_push_at rfl rfl
  have hun : H h'.objs.size = none := I1.hok.fresh (Nat.le_refl _)
  have hunf : h'.objs.size ∉ X.fs ∧ h'.objs.size ≠ X.env.locals := ⟨I1.nofs (Nat.le_refl _), fun z => Nat.lt_irrefl _ (by have := I1.lt; rw [← z] at this; exact this)⟩
  have I3 : Inv X ((h'.objs.size, PySem.W.kxs_mw "ValueError.__init__" a) :: pins) σ H ⟨h'.push (PySem.W.kxs_mw "ValueError.__init__" a), g, d, tk + 1, os⟩ := I2.pins_of fun p hp => by
    rcases List.mem_cons.mp hp with rfl | hp
    · exact ⟨hu, hun, hunf.2, hunf.1, fun v z => nomatch z⟩
    · exact I2.pin p (List.mem_append_right _ hp)
  rw [he]
  refine PySem.W.kxs_callWith (i := "ValueError.__init__") (x := a) (first := []) (by show (false || (backTo p3 (starEach es X.env)).any (·.1)) = false; rw [hpl]; rfl) (evalArgs_plain ?_)
  show wpAny _ _ (spliced (backTo p3 ((false, eval e X.env) :: starEach es X.env))) _ _ _
  rw [← he]
  refine thn (hA.run p3 _ _ σ H _ I3 q) fun us s1 ⟨vs, H1, I4, r1, hl, e4, q4⟩ => ?_
  have I5 : Inv X pins σ H1 s1 := I4.pins_of fun p hp => I4.pin p (List.mem_append_right _ (.tail _ hp))
  have hu4 := (I4.pin _ (List.mem_append_right _ List.mem_cons_self)).1
  refine ⟨hu4, ?_⟩
  refine sup_bound T I5 e4 hu4 (by show us.length ≤ sizeLine; rw [← Paired.length r1, sizeLine_eq]; omega) fun s' J => ?_
  exact ⟨σ, H1, J, q4⟩
end
/-! ### the __init__ as a def -/
/-- the reading of a body that begins with super().__init__(e ..) -/
def tInit (C : Addr) (ta : TA) (tr : TS) : TS := fun D σ H => ∃ a : Addr, σ[0]? = some (some (.ref a)) ∧ H a = some (exo a C none) ∧ ta σ H fun vs H1 => vs.length ≤ 1000 ∧ H1 a = some (exo a C none) ∧ tr D σ H1
section
variable {P : Program} {w : World} {K : PySem.W.Frag} {mg : Str → Option Value} {base : Heap} {N ps : List Str} {F : NF} {f C cc : Addr} {k : Nat} {sp : Sp} {kV doc pm ct oc : Value} {an od : Option Addr} {osl : Array (Option Value)}
/-- the def's data as it stands -/
abbrev supFd (F : NF) (kV doc pm : Value) (an : Option Addr) (ct : Value) : FuncData := PySem.W.fnX F.name F.qual F.params F.body F.scope F.cl .none kV doc pm an (.ref F.c) ct
theorem fn_sup {e : Expr} {es : List Expr} {rest : List Stmt} {ar : Arg} {p0 p1 p2 p3 p4 : Pos} (lk : K.lookup f = some ⟨oc, od, .func (supFd F kV doc pm an ct), osl⟩) (hcd : PySem.W.codeIn K (.ref F.c) F.qual = true) (hcl : F.cl = [(("__class__" : Str), cc)])
    (SC : NScope N ps ["__class__"] F.scope) (T : OexC K C) (S : SupC P K mg C cc F.c) (len : ∀ vs H Q E, sp vs H Q E → vs.length = ps.length)
    (hbd : F.body = .Expr (.Call (.Attribute (.Call (.Name "super" p0) [] [] p1) "__init__" p2) (e :: es) [] p3) p4 :: rest)
    (hp : (F.params.posonlyargs ++ F.params.args).head? = some ar) (hN0 : N[0]? = some ar.arg) (hka : F.scope.names.lookup ar.arg = some .local) (hks : F.scope.names.lookup ("super" : Str) = some .globalImplicit)
    (hbody : ∀ (A : Around) (outer : List Env) (s : Shared) (H : Hp) (vs : List V) (Q : VK) (E : XK), Room k (A.deeper (envF F f s.heap.objs.size)) → sp vs H Q E →
      ∃ ta tr, PA (ncx CX0 P w K mg base N F f A outer s H E) (e :: es) ta ∧ PSs (ncx CX0 P w K mg base N F f A outer s H E) rest tr ∧ tInit C ta tr { nx := fun _ H' => Q .non H', rt := Q } (startF N vs [none]) H)
    (hev : ∀ L, ∃ pl, eval (.Call (.Attribute (.Call (.Name "super" p0) [] [] p1) "__init__" p2) (e :: es) [] p3) (envF F f L) = (do
      let ov ← attributeBase (.Call (.Name "super" p0) [] [] p1) "__init__" (envF F f L) (eval (.Call (.Name "super" p0) [] [] p1) (envF F f L))
      standAt p2.atName
      let (g, first) ← holding [ov] (getMethod ov "__init__" pl)
      callWith p3 g first (backTo p3 (starEach (e :: es) (envF F f L))) []))
    (hsw : ∀ L, swapsWith (.Call (.Attribute (.Call (.Name "super" p0) [] [] p1) "__init__" p2) (e :: es) [] p3) none p4.line (envF F f L) = pure false) (he : ∀ L, starEach (e :: es) (envF F f L) = (false, eval e (envF F f L)) :: starEach es (envF F f L))
    (hpl : ∀ L, (backTo p3 (starEach es (envF F f L))).any (·.1) = false) (hi : ∀ L, interactive (envF F f L) = false) :
    FnOk P w K mg base CX0 (k + 1) f (supFd F kV doc pm an ct) ps sp := by
  refine ⟨len, fun A outer s H args us vs Q E hr e0 hb r hsp => ?_⟩
  have hl := len _ _ _ _ hsp
  have KX : K.In s.heap := e0.mod.kin.keeps fun b o e => (e0.bs b o e).1
  have lim : s.heap.NoLimit := e0.mod.nolimit.keeps fun b o e => (e0.bs b o e).1
  obtain ⟨cl, cld, csl, hcell⟩ := S.cell
  have hcH : H cc = none := by
    have z := e0.mod.kin _ _ hcell
    exact (e0.bs _ _ z).2
  have CA : CellsAt F.cl ["__class__"] [none] s.heap H := by
    rw [hcl]
    refine ⟨rfl, fun y c h => ?_, fun x y c h1 h2 => ?_, fun i y h => ?_⟩
    · have q : y = ("__class__" : Str) ∧ c = cc := by
        simp only [List.lookup] at h
        split at h
        · rename_i z; exact ⟨by simpa using z, (Option.some.inj h).symm⟩
        · cases h
      rw [q.2]
      exact ⟨hcH, some (.ref C), ⟨_, KX _ _ hcell, rfl⟩⟩
    · have q : ∀ z, List.lookup z [(("__class__" : Str), cc)] = some c → z = ("__class__" : Str) := fun z h => by
        simp only [List.lookup] at h
        split at h
        · rename_i z; simpa using z
        · cases h
      rw [q x h1, q y h2]
    · cases i with
      | zero =>
        have q : y = ("__class__" : Str) := (Option.some.inj h).symm
        subst q
        exact ⟨cc, by simp [List.lookup], fun v z => by cases z⟩
      | succ i => simp at h
  refine ks_codeAny_call_defAt (fd := supFd F kV doc pm an ct) (body := F.body) (binds := ps.zip us) hr.depth (KX _ _ lk) rfl lim (PySem.W.codeRec_of KX hcd) rfl hb SC.nocell (fun ⟨n, _⟩ hy => SC.par n (List.of_mem_zip hy).1) (fun h₁ hns kp => ?_) SC.co SC.gen SC.kind
  obtain ⟨ta, tr, hta, htr, a, hσ, ha, q⟩ := hbody A outer s H vs Q E (hr.deeper _) hsp
  have I : Inv (ncx CX0 P w K mg base N F f A outer s H E) [] (startF N vs [none]) H { s with heap := h₁, toks := s.toks + (ps.zip us).length } := inv_startN SC hr.hd e0 hl r CA hns kp
  obtain ⟨pl, hev⟩ := hev s.heap.objs.size
  have fin : ∀ {s' : Shared} {σ' : L2.St} {H' : Hp} {v : V} {u : Value}, Inv (ncx CX0 P w K mg base N F f A outer s H E) [] σ' H' s' → L2.RelV v u → Q v H' → CE outer P w H s Q u s' :=
    fun {s' σ' H' v u} J rv q => ⟨v, H', J.os, J.bare, J.base, J.hok, rv, q⟩
  rw [hbd]
  refine ks_wpAt_execs_cons (ks_wpAt_mono (at_super (X := ncx CX0 P w K mg base N F f A outer s H E) (D := { nx := fun σ' H' => tr { nx := fun _ H' => Q .non H', rt := Q } σ' H', rt := fun _ _ => False }) (pl := pl) (f := f) (ar := ar) (fd := supFd F kV doc pm an ct) T S hks (SC.frk _ List.mem_cons_self) (by show F.cl.lookup _ = _; rw [hcl]; simp [List.lookup]) rfl rfl lk hp hN0 hka hta I hσ ha q (he _) (hpl _) (hi _) hev (hsw _)) (fun fl s' hs => ?_) fun _ _ z => z)
  cases fl with
  | ret u =>
    obtain ⟨_, _, _, _, _, z⟩ := hs
    exact z.elim
  | brk =>
    obtain ⟨_, _, _, z⟩ := hs
    exact z.elim
  | cont =>
    obtain ⟨_, _, _, z⟩ := hs
    exact z.elim
  | next =>
    obtain ⟨σ', H', J, z⟩ := hs
    refine PySem.wpAt_of_wpAny (wpAny_mono (htr.run [] s' σ' H' _ J z) (fun fl2 s2 h2 => ?_) fun _ _ y => y)
    cases fl2 with
    | ret u =>
      obtain ⟨v, σ2, H2, J2, rv, q2⟩ := h2
      exact fin J2 rv q2
    | next =>
      obtain ⟨σ2, H2, J2, q2⟩ := h2
      exact fin (v := V.non) (u := Value.none) J2 rfl q2
    | brk =>
      obtain ⟨_, _, _, q2⟩ := h2
      exact q2.elim
    | cont =>
      obtain ⟨_, _, _, q2⟩ := h2
      exact q2.elim
end
end Sc
namespace Sc
open PySem PySem.Spec PyProof.Rows L2
/-- the built-ins are not hidden -/
structure Blt (mg : Str → Option Value) : Prop where
  b_isinstance : mg "isinstance" = none
  b_len : mg "len" = none
  b_all : mg "all" = none
  b_any : mg "any" = none
  b_sum : mg "sum" = none
  b_max : mg "max" = none
  b_min : mg "min" = none
  b_int : mg "int" = none
  b_str : mg "str" = none
  b_bool : mg "bool" = none
  b_list : mg "list" = none
  b_tuple : mg "tuple" = none
  b_dict : mg "dict" = none
  b_range : mg "range" = none
  b_enumerate : mg "enumerate" = none
  b_sorted : mg "sorted" = none
  b_reversed : mg "reversed" = none
  b_zip : mg "zip" = none
  b_set : mg "set" = none
  b_ValueError : mg "ValueError" = none
/-- a def as its callers see it -/
structure Cal (P : Program) (w : World) (K : PySem.W.Frag) (mg : Str → Option Value) (base : Heap) (CX : CXT) (k : Nat) (x : Str) (ps : List Str) (sp : Sp) : Prop where
  ex : ∃ (f : Addr) (fd : FuncData), FnOk P w K mg base CX k f fd ps sp ∧ mg x = some (.ref f) ∧ PySem.W.keepIn K (.ref f) = true ∧ Binds K fd ps []
section
variable {X : Cx} {k : Nat} {x : Str} {ps : List Str} {sp : Sp} {e : Expr} {es : List Expr} {t : TA} {p pos : Pos}
theorem pe_cal (C : Cal X.prog X.w X.K X.mg X.base CX0 k x ps sp) (hr : Room k X.A) (ha : PA X (e :: es) t) (hg : Gl X x := by rfl) (hdb : (x == ("__debug__" : Str)) = false := by decide)
    (he : starEach (e :: es) X.env = (false, eval e X.env) :: starEach es X.env := by rfl) (hpl : (backTo pos (starEach es X.env)).any (·.1) = false := by rfl) : PE X (.Call (.Name x p) (e :: es) [] pos) (tCall sp [] E0 t) := by
  obtain ⟨f, fd, F, hm, hk, hb⟩ := C.ex
  exact pe_call F hr hg hm hk hb .nil pass0 ha hdb he hpl
/-- a def that may raise, where it does not -/
theorem pe_calN (C : Cal X.prog X.w X.K X.mg X.base (L2.CX X.prog X.w) k x ps sp) (hr : Room k X.A) (ha : PA X (e :: es) t) (hg : Gl X x := by rfl) (hdb : (x == ("__debug__" : Str)) = false := by decide)
    (he : starEach (e :: es) X.env = (false, eval e X.env) :: starEach es X.env := by rfl) (hpl : (backTo pos (starEach es X.env)).any (·.1) = false := by rfl) : PE X (.Call (.Name x p) (e :: es) [] pos) (tCall sp [] E0 t) := by
  obtain ⟨f, fd, F, hm, hk, hb⟩ := C.ex
  exact pe_call F hr hg hm hk hb .nil passL ha hdb he hpl
/-- a def that may raise -/
theorem pe_calX {W : WX} (C : Cal X.prog X.w X.K X.mg X.base (L2.CX X.prog X.w) k x ps sp) (hr : Room k X.A) (tk : Takes X W) (ha : PA X (e :: es) t) (hg : Gl X x := by rfl) (hdb : (x == ("__debug__" : Str)) = false := by decide)
    (he : starEach (e :: es) X.env = (false, eval e X.env) :: starEach es X.env := by rfl) (hpl : (backTo pos (starEach es X.env)).any (·.1) = false := by rfl) : PE X (.Call (.Name x p) (e :: es) [] pos) (tCallS sp (WE W) t) := by
  obtain ⟨f, fd, F, hm, hk, hb⟩ := C.ex
  exact pe_callS F hr hg hm hk hb (fun σ => passAt tk σ) ha hdb he hpl
end
/-! ### a reading that does not lean on the state within which it is asked -/
theorem pe_.re {X : Cx} {e : Expr} {t t' : TE} (h : PE X e t) (q : t = t') : PE X e t' := q ▸ h
theorem pts_.re {X : Cx} {es : List Expr} {t t' : TT} (h : PTs X es t) (q : t = t') : PTs X es t' := q ▸ h
theorem pss_.re {X : Cx} {sts : List Stmt} {t t' : TS} (h : PSs X sts t) (q : t = t') : PSs X sts t' := q ▸ h
/-- a value's truth -/
def tTru (K : PySem.W.Frag) (ta : TE) : TT := fun σ H Q => ta σ H fun x H' => ∃ k, TruV K x H' k ∧ Q k H'
theorem pt_tru {X : Cx} {a : Expr} {ta : TE} (ha : PE X a ta) (he : ∀ whole, isTrue a X.env whole = (do let v ← whole; standAt a.pos; holding [v] (truthy v))) : PT X a (tTru X.K ta) := pt_truth ha he
/-! ### lists -/
theorem take_more {α : Type} {l : List α} {i : Nat} {x : α} (h : l[i]? = some x) : l.take (i + 1) = l.take i ++ [x] := by
  rw [List.take_add_one, h]
  rfl
/-! ### heaps -/
theorem _root_.L2.Same.put {H H' : Hp} {p : Addr} {o : HO} (s : Same H H') (n : H p = none) : Same H (upd H' p o) := fun b x e => by
  rw [upd_ne (ne_of_none e n)]
  exact s b x e
theorem _root_.L2.Same.put' {H H' : Hp} {p : Addr} {o : HO} (s : Same H H') (n : H' p = none) : Same H (upd H' p o) := s.put (s.free n)
theorem _root_.L2.Same.tup {K : PySem.W.Frag} {H H' : Hp} {a : Addr} {xs : List V} (e : Same H H') (h : SqT K H a xs) : SqT K H' a xs := by
  rcases h with (h | ⟨o, h⟩) | h
  · exact .inl (.inl (e _ _ h))
  · exact .inl (.inr ⟨o, e _ _ h⟩)
  · exact .inr h
theorem sqT_new {K : PySem.W.Frag} {H : Hp} {p : Addr} {xs : List V} : SqT K (upd H p (.tup xs)) p xs := .inl (.inl upd_same)
theorem sqL_new {K : PySem.W.Frag} {H : Hp} {p : Addr} {xs : List V} : SqL K (upd H p (.lst xs)) p xs := .inl (.inl upd_same)
theorem sqT_of {K : PySem.W.Frag} {H : Hp} {p : Addr} {xs : List V} (h : H p = some (.tup xs)) : SqT K H p xs := .inl (.inl h)
theorem sqL_of {K : PySem.W.Frag} {H : Hp} {p : Addr} {xs : List V} (h : H p = some (.lst xs)) : SqL K H p xs := .inl (.inl h)
/-- a comprehension's list grows -/
theorem grow {H1 H4 : Hp} {D : Addr} {acc : Nat → List V} {i : Nat} {y : V} (nD : H1 D = none) (s : Same H1 H4) (e : H4 D = some (.lst (acc i))) (l : (acc i).length < sizeLine) (n : acc (i + 1) = acc i ++ [y]) :
    ∃ a, H4 D = some (.lst a) ∧ a.length < sizeLine ∧ (Same H1 (upd H4 D (.lst (a ++ [y]))) ∧ (upd H4 D (.lst (a ++ [y]))) D = some (.lst (acc (i + 1)))) :=
  ⟨acc i, e, l, s.put nD, by rw [upd_same, n]⟩
theorem bcase {b : Bool} {A B : Prop} (h1 : b = true → A) (h2 : b = false → B) : if b = true then A else B := by
  cases b with
  | true => exact iteT (h1 rfl)
  | false => exact iteF (h2 rfl)
/-- isinstance(x, T), T a built-in class -/
def rIsT (K : PySem.W.Frag) (T : String) : List V → Hp → VK → Prop := fun xs H Q => ∃ (x : V) (t : String) (b : Bool), xs = [x, .ty T] ∧ TyOf K H x (.type t) ∧ kitB t T = some b ∧ Q (.bl b) H
theorem call_isT {X : Cx} (T : String) : CallR X (.builtin "isinstance") (rIsT X.K T) := by
  intro pins s σ H xs us Q I r h
  obtain ⟨x, t, b, ex, ht, hb, q⟩ := h
  exact call_isi pins s σ H xs us Q I r ⟨_, _, _, _, _, ex, .ty _, .base ht, kit_ty hb, q⟩
/-- a comprehension without a test -/
theorem yes_ {σ : L2.St} {H : Hp} {A : Hp → Prop} {B : Hp → Prop} (h : A H) : tYes σ H fun b H3 => if b = true then A H3 else B H3 := by
  show (if true = true then A H else B H)
  rw [if_pos rfl]
  exact h
/-- as many slots as names -/
theorem takes_len {X : Cx} {W : WX} (tk : Takes X W) : Takes X (fun cls d σ H => σ.length = X.N.length → W cls d σ H) := fun u s' ⟨a, B, sI, pins, σ, H, cls, d, e, I, nb, up, sky, na, os, ag, w⟩ =>
  tk u s' ⟨a, B, sI, pins, σ, H, cls, d, e, I, nb, up, sky, na, os, ag, w I.len⟩
/-! ### walks -/
theorem walk_enumT {K : PySem.W.Frag} {a : Addr} {xs : List V} : Walk (IteT K a) xs.length (fun H => SqT K H a xs) (YPair (fun i => some (.int (i : Nat))) (fun i => xs[i]?)) := by
  refine ⟨fun i _ hi q => ⟨xs, xs[i], q, by simp [hi]⟩, fun _ q => ⟨xs, q, Nat.le_refl _⟩, fun i H v H' _ q y => ?_⟩
  obtain ⟨T, x, h1, h2, h3, h4⟩ := y
  exact ⟨T, .int (i : Nat), x, h1, h2, h3, rfl, h4 xs q⟩
/-! ### list.count of truth values -/
section
variable {X : Cx}
theorem countP_eqU {x : V} : ∀ {xs : List V} {us : List Value}, Vals xs us → xs.all flatV = true → us.countP (eqU x) = xs.countP fun y => eqV y x
  | _, _, .nil, _ => rfl
  | y :: xs, u :: us, .cons r t, f => by
    rw [List.all_cons, Bool.and_eq_true] at f
    rw [List.countP_cons, List.countP_cons, eqU_of r f.1, countP_eqU t f.2]
def rCount (K : PySem.W.Frag) : V → List V → Hp → VK → Prop := fun x xs H Q => ∃ (p : Addr) (ys : List V) (y : V), x = .ref p ∧ xs = [y] ∧ SqL K H p ys ∧ flatV y = true ∧ ys.all flatV = true ∧ Q (.int (ys.countP (fun z => eqV z y) : Nat)) H
theorem mt_lcountB : MtR X "list.count" (rCount X.K) := by
  intro pins s σ H x xs v us Q I rx rxs h
  obtain ⟨p, ys, y, rfl, rfl, hs, fy, fys, q⟩ := h
  cases rx
  cases rxs with
  | cons ry rt =>
    rename_i uy ut
    cases rt
    obtain ⟨its, rv, ⟨⟨cls, dd, data, sl⟩, n, ho, hc, hdn, hd⟩, hlen⟩ := I.list hs
    simp only at hc hd
    subst hc hd
    refine call_meets PySem.F.slot_list_count ⟨_, ho, rfl⟩ PySem.F.entry_list_count (PySem.F.args_list_count_2 _ _)
      (SeqAt.list_countAt p its.toArray n dd sl uy (eqU y)) ⟨ho, fun u' hu' => mem_eqAt ry fy rv fys u' (by simpa using hu'), ?_⟩
    have ec : its.toArray.toList.countP (eqU y) = ys.countP fun z => eqV z y := countP_eqU rv fys
    refine ⟨.int (ys.countP (fun z => eqV z y) : Nat), H, I.tok _, ⟨s.toks, ?_⟩, q⟩
    show Value.int ((its.toArray.toList.countP (eqU y) : Nat) : Int) s.toks = Value.int ((ys.countP (fun z => eqV z y) : Nat) : Int) s.toks
    rw [ec]
end
/-! ### the caught error, whatever it bears -/
/-- an own class of errors, as isinstance and the reading of a field ask for it -/
structure ErrC (K : PySem.W.Frag) (D : Addr) : Prop where
  cl : (PySem.W.clsIn K D).isSome = true
  ga : PySem.W.findIn K (.ref D) "__getattribute__" = some (some (.builtin "BaseException.__getattribute__"))
  gt : PySem.W.findIn K (.ref D) "__getattr__" = some none
  be : PySem.W.subIn K (.ref D) (.type "BaseException") = some true
  kc : PySem.W.findIn K (.ref D) "__class__" = some (some (.builtin "object.__class__"))
  sg : PySem.W.specialIn K (.builtin "object.__class__") "__get__" = some (some (.builtin "getset_descriptor.__get__"))
  tk : PySem.W.takesIn K (.builtin "object.__class__") = some true
  ob : PySem.W.mroIn K D (.type "object") = some true
  hd : PySem.W.hasDictIn K D = true
def errB (K : PySem.W.Frag) (D : Addr) : Bool :=
  (PySem.W.clsIn K D).isSome && (decide (PySem.W.findIn K (.ref D) "__getattribute__" = some (some (.builtin "BaseException.__getattribute__"))) && (decide (PySem.W.findIn K (.ref D) "__getattr__" = some none) &&
  (decide (PySem.W.subIn K (.ref D) (.type "BaseException") = some true) && (decide (PySem.W.findIn K (.ref D) "__class__" = some (some (.builtin "object.__class__"))) &&
  (decide (PySem.W.specialIn K (.builtin "object.__class__") "__get__" = some (some (.builtin "getset_descriptor.__get__"))) && (decide (PySem.W.takesIn K (.builtin "object.__class__") = some true) &&
  (decide (PySem.W.mroIn K D (.type "object") = some true) && PySem.W.hasDictIn K D)))))))
theorem errC_of {K : PySem.W.Frag} {D : Addr} (h : errB K D = true) : ErrC K D := by
  unfold errB at h
  simp only [Bool.and_eq_true, decide_eq_true_eq] at h
  obtain ⟨h1, h2, h3, h4, h5, h6, h7, h8, h9⟩ := h
  exact ⟨h1, h2, h3, h4, h5, h6, h7, h8, h9⟩
section
variable {X : Cx} {a : Addr} {cls : Value} {oe : Obj} {pn : List (Addr × Obj)} {d : Option Addr}
theorem err_inst {D : Addr} {h : Heap} (hz : Zc (.ref D) d oe) (hf : ∃ vs, oe.data = .fields vs) (hget : h.get? a = some oe) (hd : ∀ dd, d = some dd → ∃ od, h.get? dd = some od) : ∃ od, PySem.W.InstAt h a oe D od := by
  obtain ⟨oc, odd, oda, osl⟩ := oe
  obtain ⟨h1, h2⟩ := hz
  obtain ⟨vs, hv⟩ := hf
  dsimp only at h1 h2 hv
  subst h1 h2 hv
  cases odd with
  | none => exact ⟨none, hget, rfl, rfl, trivial⟩
  | some dd =>
    obtain ⟨od, ho⟩ := hd dd rfl
    exact ⟨some od, hget, rfl, rfl, ho⟩
/-- its dict stands, where it has one -/
def XdOk (d : Option Addr) (H : Hp) : Prop := ∀ dd, d = some dd → ∃ fs, H dd = some (.xd fs)
def rIsG (K : PySem.W.Frag) (a : Addr) (cls : Value) (d : Option Addr) : List V → Hp → VK → Prop := fun xs H Q =>
  ∃ (D : Addr) (c : V) (cv : Value) (b : Bool), cls = .ref D ∧ ErrC K D ∧ XdOk d H ∧ xs = [.ref a, c] ∧ (∀ u, RelV c u → u = cv) ∧ PySem.W.kitOne K (.ref D) cv = some b ∧ Q (.bl b) H
theorem call_isG (hz : Zc cls d oe) (hf : ∃ vs, oe.data = .fields vs) : CallR (X.suite a ((a, oe) :: pn)) (.builtin "isinstance") (rIsG X.K a cls d) := by
  intro pins s σ H xs us Q I r h
  obtain ⟨D, c, cv, b, ec, C, hx, rfl, hcv, e, q⟩ := h
  subst ec
  obtain ⟨u1, u2, rfl, r1, r2⟩ := vals2 r
  obtain rfl : u1 = Value.ref a := r1
  have e2 := hcv _ r2
  subst e2
  obtain ⟨hget, _⟩ := I.pin (a, oe) (List.mem_append_left _ List.mem_cons_self)
  obtain ⟨od, J⟩ := err_inst (h := s.heap) hz hf hget fun dd ed => by
    obtain ⟨fs, e⟩ := hx dd ed
    obtain ⟨mA, ⟨o, _, _, ho, _⟩, _⟩ := (show ObjOk X.prog X.w H s.heap dd (.xd fs) from I.hok dd _ e)
    exact ⟨o, ho⟩
  exact PySem.W.kia_one (PySem.W.kitx_exc C.cl C.ga C.gt C.be C.kc C.sg C.tk C.ob) I.kIn J e (fun z => nomatch z) fun tk => ⟨.bl b, H, I.kept (t' := tk) fun _ _ z => z, rfl, q⟩
/-- e.n, e the error that the suite holds -/
def tXg (K : PySem.W.Frag) (a : Addr) (cls : Value) (d : Option Addr) (n : Str) (te : TE) : TE := fun σ H Q => te σ H fun x H1 => x = .ref a ∧ ∃ (D dd : Addr) (fs : List (Str × V)) (v : V), cls = .ref D ∧ ErrC K D ∧ PySem.W.findIn K (.ref D) n = some none ∧ d = some dd ∧ H1 dd = some (.xd fs) ∧ fs.lookup n = some v ∧ Q v H1
theorem pe_xg {e : Expr} {te : TE} {pos : Pos} {n : Str} (hz : Zc cls d oe) (hf : ∃ vs, oe.data = .fields vs) (he : PE (X.suite a ((a, oe) :: pn)) e te) (hb : attributeBase e n X.env (eval e X.env) = eval e X.env := by rfl) :
    PE (X.suite a ((a, oe) :: pn)) (.Attribute e n pos) (tXg X.K a cls d n te) := by
  refine ⟨fun pins s σ H Q I h => attr_of hb (thn (he.run pins s σ H _ I h) fun u s1 hh => ?_)⟩
  obtain ⟨x, H1, I1, rx, ex, D, dd, fs, v, ec, C, hno, ed, ea, l, q⟩ := hh
  subst ex ec ed
  obtain rfl : u = Value.ref a := rx
  obtain ⟨ha, _⟩ := I1.pin (a, oe) (List.mem_append_left _ List.mem_cons_self)
  obtain ⟨vs, hd⟩ := hf
  obtain ⟨mA, hns, hr⟩ := (show ObjOk X.prog X.w H1 s1.heap dd (.xd fs) from I1.hok dd _ ea)
  obtain ⟨od, ho, hl⟩ := lookIn_ns hns
  obtain ⟨u, hu, ru⟩ := RelO.some_of (v := v) (o := mA n) (by rw [← l]; exact hr n)
  have J : PySem.W.InstAt s1.heap a oe D (some od) := ⟨ha, hz.1, by unfold PySem.W.notCls; rw [hd] <;> rfl, by rw [hz.2]; exact ho⟩
  exact HandSPX.exc_get I1.kIn J C.ga C.gt C.be (PySem.W.findObj_own C.hd hno rfl (by rw [hl, hu])) (handed_of ru) ⟨v, H1, I1.tok _, ru, q⟩
end
end Sc
/-! tuples whose object is known: their display, their sum, where a thing stands in them -/
namespace Sc
open PySem PySem.Spec PyProof.Rows L2
def tupO (o : Obj) : Prop := o.cls = .type "tuple" ∧ o.dict = none
/-- a tuple display, with its object -/
def tTupF (t : TA) : TE := fun σ H Q => t σ H fun xs H1 => xs.length ≤ sizeLine ∧ ∀ p o, H1 p = none → tupO o → Q (.ref p) (upd H1 p (.frz o (.tup xs)))
section
variable {X : Cx}
theorem pe_tupF {es : List Expr} {t : TA} {pos : Pos} {x1} (h : PA X es t) : PE X (.Tuple es x1 pos) (tTupF t) := by
  refine ⟨fun pins s σ H Q I hq => ?_⟩
  refine wpAny_Tuple_spliced (thn (h.run pos pins s σ H _ I hq) fun us s1 ⟨xs, H1, I1, r, z, q⟩ => ⟨by rw [← r.length]; exact z, ?_⟩)
  have hf : H1 s1.heap.objs.size = none := I1.hok.fresh (Nat.le_refl _)
  refine ⟨.ref s1.heap.objs.size, upd H1 s1.heap.objs.size (.frz { cls := .type "tuple", data := .seq us.toArray } (.tup xs)), I1.laid (t' := s1.toks) (fun b u e => Heap.get?_push_of_some _ e) (Nat.le_refl _) ?_, rfl, q _ _ hf ⟨rfl, rfl⟩⟩
  exact ⟨Heap.get?_push_size _ rfl, z, us, r, ⟨_, Heap.get?_push_size _ rfl, rfl, _, rfl⟩⟩
/-- a + b, where neither is empty, with the object -/
def rCatF (K : PySem.W.Frag) : R2 := fun x y H Q => ∃ a b xs ys, x = .ref a ∧ y = .ref b ∧ SqT K H a xs ∧ SqT K H b ys ∧ xs.length + ys.length ≤ sizeLine ∧
  (xs = [] → Q (.ref b) H) ∧ (xs ≠ [] → ys ≠ [] ∧ ∀ p o, H p = none → tupO o → Q (.ref p) (upd H p (.frz o (.tup (xs ++ ys)))))
theorem op_catF : OpR X (binaryOp .Add) (rCatF X.K) := by
  intro pins s σ H x y v u Q I rx ry h
  obtain ⟨a, b, xs, ys, rfl, rfl, ha, hb, hz, q0, q2⟩ := h
  cases rx
  cases ry
  obtain ⟨its, r1, p1, _⟩ := I.tuple ha
  obtain ⟨its2, r2, p2, _⟩ := I.tuple hb
  by_cases hx : xs = []
  · subst hx
    cases r1
    exact cat_tup0 p1 p2 ⟨.ref b, H, I, rfl, q0 rfl⟩
  · obtain ⟨hy, q2⟩ := q2 hx
    refine HT.cat_tup p1 p2 (fun z => hx (r1.nil_iff.mp z)) (fun z => absurd (r2.nil_iff.mp z) hy) (fun z => ?_) (by rw [← r1.length, ← r2.length]; exact hz)
    refine ⟨.ref s.heap.objs.size, _, I.laid (t' := s.toks) (o := .frz { cls := .type "tuple", data := .seq (its ++ its2).toArray } (.tup (xs ++ ys))) (fun b ob q => Heap.get?_push_of_some _ q) (Nat.le_refl _) ?_, rfl, q2 _ _ (I.hok.fresh (Nat.le_refl _)) ⟨rfl, rfl⟩⟩
    exact ⟨Heap.get?_push_size _ rfl, by rw [List.length_append]; exact hz, _, r1.append r2, IsTup.new _ _⟩
/-- a tuple whose object is known -/
def isTup (x : V) (H : Hp) : Prop := ∃ (p : Addr) (o : Obj) (xs : List V), x = .ref p ∧ H p = some (.frz o (.tup xs)) ∧ tupO o
theorem tyok_tup : TyOk X "tuple" isTup := by
  rintro pins σ H s x v I r ⟨p, o, xs, rfl, h, hc, hd⟩
  have z := I.hok p _ h
  cases r
  obtain ⟨g, _⟩ := z
  exact ⟨⟨o, g, hc⟩, fun a e => by cases e; exact ⟨o, g, hd⟩⟩
def rTIndex (K : PySem.W.Frag) : V → List V → Hp → VK → Prop := fun x xs H Q => ∃ (a : Addr) (ys : List V) (y : V) (j : Nat) (z : V), x = V.ref a ∧ xs = [y] ∧ SqT K H a ys ∧ flatV y = true ∧ ys.all flatV = true ∧ ys[j]? = some z ∧ eqV z y = true ∧ (∀ (m : Nat) (z' : V), m < j → ys[m]? = some z' → eqV z' y = false) ∧ Q (.int (j : Nat)) H
theorem mt_tindex : MtR X "tuple.index" (rTIndex X.K) := by
  intro pins s σ H x xs v us Q I rx rxs h
  obtain ⟨a, ys, y, j, z, rfl, rfl, hs, fy, fys, hz, hzj, hno, q⟩ := h
  cases rx
  cases rxs with
  | cons ry rt =>
    rename_i uy ut
    cases rt
    obtain ⟨its, rv, ⟨⟨cls, dd, data, sl⟩, ho, hc, n, hd⟩, hlen⟩ := I.tuple hs
    simp only at hc hd
    subst hc hd
    obtain ⟨u, hu, ru⟩ := rv.get hz
    obtain ⟨hjl, hje⟩ := List.getElem?_eq_some_iff.mp hu
    have hvl := rv.length
    have hj : j < its.toArray.size := by simpa using hjl
    have hsl := sizeLine_eq
    refine call_meets PySem.F.slot_tuple_index ⟨_, ho, rfl⟩ PySem.F.entry_tuple_index (PySem.F.args_tuple_index_2 _ _)
      (TI.tuple_indexAt a its.toArray n dd sl uy (eqU y) j hj ?_ ?_) ⟨ho, fun u' hu' => mem_eqAt ry fy rv fys u' (by simpa using hu'), ?_⟩
    · have e1 : its.toArray[j] = u := by simpa using hje
      rw [e1, eqU_of ru (flat_at fys hz)]
      exact hzj
    · intro m hm hmj
      have hml : m < its.length := by simpa using hm
      have hmy : m < ys.length := by omega
      have hy' : ys[m]? = some ys[m] := List.getElem?_eq_getElem hmy
      obtain ⟨u2, hu2, ru2⟩ := rv.get hy'
      obtain ⟨_, hme⟩ := List.getElem?_eq_some_iff.mp hu2
      have e1 : its.toArray[m] = u2 := by simpa using hme
      rw [e1, eqU_of ru2 (flat_at fys hy')]
      exact hno m _ hmj hy'
    · exact ⟨.int (j : Nat), H, I.tok _, ⟨_, rfl⟩, q⟩
end
end Sc
namespace Sc
open PySem PySem.Spec PyProof.Rows L2 NdefX
/-! ### own errors with fields, made and raised -/
/-- what an f-string takes -/
def FOk : V → Prop
  | .int i => i.natAbs.log2 < 1920
  | .str z => z.length ≤ 1000000
  | _ => False
theorem fmt_at {y : V} {R : Str → Prop} (ok : FOk y) (q : ∀ z : Str, z.length ≤ 1000000 → R z) : (∃ z : Str, y = .str z ∧ z.length ≤ sizeLine ∧ R z) ∨ ∃ i : Int, y = .int i ∧ i.natAbs.log2 < 1920 ∧ R (toString i) := by
  cases y with
  | str z => exact .inl ⟨z, rfl, Nat.le_trans ok (by rw [sizeLine_eq]; decide), q z ok⟩
  | int i =>
    refine .inr ⟨i, rfl, ok, q _ ?_⟩
    have e : (PySem.Str.ofString (toString i)).length ≤ 1921 := int_text_len_1921 ok
    exact Nat.le_trans e (by decide)
  | _ => exact ok.elim
theorem fok_nat {i : Nat} (hi : i ≤ 1000) : FOk (.int (i : Nat)) := by
  show (i : Int).natAbs.log2 < 1920
  have e1 : (i : Int).natAbs = i := rfl
  rw [e1]
  by_cases h0 : i = 0
  · subst h0
    decide
  · have := (Nat.log2_lt h0 (k := 10)).mpr (Nat.lt_of_le_of_lt hi (by decide))
    omega
theorem app_len {a b : Str} : (a ++ b).length = a.length + b.length := by
  show (a.cps ++ b.cps).size = a.cps.size + b.cps.size
  exact Array.size_append
/-- a rule of arguments, its reading made monotone -/
theorem pa_mono {X : Cx} {es : List Expr} {ta : TA} (h : PA X es ta) : PA X es (fun σ H Q => ∃ R, ta σ H R ∧ ∀ vs H1, R vs H1 → Q vs H1) := by
  refine ⟨fun pos pins s σ H Q I ⟨R, q, k⟩ => wpAny_mono (h.run pos pins s σ H R I q) (fun us s1 ⟨vs, H1, J, r, z⟩ => ⟨vs, H1, J, r, k vs H1 z⟩) fun _ _ z => z⟩
/-- the promise of an __init__ that keeps its fields fs, in their order -/
def sp_init1 (C : Addr) (f : Str) : Sp := fun vs H Q _ => ∃ (a : Addr) (y : V), vs = [.ref a, y] ∧ H a = some (exo a C none) ∧ FOk y ∧ ∀ dx, H dx = none → dx ≠ a → Q .non (upd (upd H dx (exd dx [(f, y)])) a (exo a C (some dx)))
def sp_init2 (C : Addr) (f g : Str) : Sp := fun vs H Q _ => ∃ (a : Addr) (y z : V), vs = [.ref a, y, z] ∧ H a = some (exo a C none) ∧ FOk y ∧ FOk z ∧
  ∀ dx, H dx = none → dx ≠ a → Q .non (upd (upd (upd H dx (exd dx [(f, y)])) a (exo a C (some dx))) dx (exd dx [(g, z), (f, y)]))
/-- the class x at C, its __init__ keeping sp -/
structure ErrMk (P : Program) (w : World) (K : PySem.W.Frag) (mg : Str → Option Value) (base : Heap) (x : Str) (C : Addr) (ps : List Str) (sp : Sp) : Prop where
  ex : ∃ (fI : Addr) (fd : FuncData), OexC K C ∧ PySem.W.findIn K (.ref C) "__init__" = some (some (.ref fI)) ∧ PySem.W.typeIn K (.ref fI) = some (.type "function") ∧ FnOk P w K mg base CX0 1 fI fd ps sp ∧ Binds K fd ps [] ∧ mg x = some (.ref C)
theorem let_go {H : Hp} {a d : Addr} {o o' u : HO} (n : H a = none) (ne : d ≠ a) : upd (del (upd (upd H d u) a o) a) d o' = upd H d o' := by
  funext b
  by_cases hd : b = d
  · rw [hd, upd_same, upd_same]
  · rw [upd_ne hd, upd_ne hd]
    by_cases ha : b = a
    · rw [ha, del_same, n]
    · rw [del_ne ha, upd_ne ha, upd_ne hd]
section
variable {X : Cx} {x f g : Str} {C : Addr} {ps : List Str} {e e2 : Expr} {te te2 : TE} {p pos : Pos}
/-- x(e): an error whose own dict, new, holds the field -/
def tErr1 (C : Addr) (f : Str) (te : TE) : L2.St → Hp → XK → Prop := fun σ H Q => te σ H fun y H1 => FOk y ∧ ∀ d, H1 d = none → Q (.ref C) (some d) (upd H1 d (.xd [(f, y)]))
theorem pmk_err1 (M : ErrMk X.prog X.w X.K X.mg X.base x C ps (sp_init1 C f)) (hr : Room 2 X.A) (he : PE X e te) (hg : Gl X x := by rfl) (hdb : (x == ("__debug__" : Str)) = false := by decide)
    (hs : starEach [e] X.env = (false, eval e X.env) :: starEach [] X.env := by rfl) : PMk X (.Call (.Name x p) [e] [] pos) (tErr1 C f te) := by
  obtain ⟨fI, fd, T, iC, tI, F, hb, hm⟩ := M.ex
  intro pins s σ H Q I h
  refine pmk_oex (CX := CX0) T iC tI F hr hb .nil (fun _ _ _ _ _ _ _ z => z.elim) hg hm (pa_mono (pa_cons he pa_nil hs)) hdb hs rfl pins s σ H Q I ?_
  refine ⟨fun vs H1 => match vs with
    | [y] => FOk y ∧ ∀ d, H1 d = none → Q (.ref C) (some d) (upd H1 d (.xd [(f, y)]))
    | _ => False, h, fun vs H1 r => ?_⟩
  match vs, r with
  | [y], ⟨ok, q⟩ =>
    refine ⟨by simp, fun a na => ⟨a, y, rfl, upd_same, ok, fun dx nd ne => ⟨rfl, dx, _, upd_same, by rw [upd_ne ne, upd_same], ?_, ?_⟩⟩⟩
    · rw [upd_ne ne] at nd
      exact nd
    · rw [upd_ne ne] at nd
      have e1 : upd (upd (upd H1 a (exo a C none)) dx (exd dx [(f, y)])) a (exo a C (some dx)) = upd (upd H1 dx (exd dx [(f, y)])) a (exo a C (some dx)) := by
        funext b
        by_cases ha : b = a
        · rw [ha, upd_same, upd_same]
        · rw [upd_ne ha, upd_ne ha]
          by_cases hb : b = dx
          · rw [hb, upd_same, upd_same]
          · rw [upd_ne hb, upd_ne hb, upd_ne ha]
      rw [e1, let_go na ne]
      exact q dx nd
/-- x(e, e2): two fields -/
def tErr2 (C : Addr) (f g : Str) (te te2 : TE) : L2.St → Hp → XK → Prop := fun σ H Q => te σ H fun y H0 => te2 σ H0 fun z H1 => (FOk y ∧ FOk z) ∧ ∀ d, H1 d = none → Q (.ref C) (some d) (upd H1 d (.xd [(g, z), (f, y)]))
theorem pmk_err2 (M : ErrMk X.prog X.w X.K X.mg X.base x C ps (sp_init2 C f g)) (hr : Room 2 X.A) (he : PE X e te) (he2 : PE X e2 te2) (hg : Gl X x := by rfl) (hdb : (x == ("__debug__" : Str)) = false := by decide)
    (hs : starEach [e, e2] X.env = (false, eval e X.env) :: starEach [e2] X.env := by rfl) (hs2 : starEach [e2] X.env = (false, eval e2 X.env) :: starEach [] X.env := by rfl) (hpl : (backTo pos (starEach [e2] X.env)).any (·.1) = false := by rfl) :
    PMk X (.Call (.Name x p) [e, e2] [] pos) (tErr2 C f g te te2) := by
  obtain ⟨fI, fd, T, iC, tI, F, hb, hm⟩ := M.ex
  intro pins s σ H Q I h
  refine pmk_oex (CX := CX0) T iC tI F hr hb .nil (fun _ _ _ _ _ _ _ z => z.elim) hg hm (pa_mono (pa_cons he (pa_cons he2 pa_nil hs2) hs)) hdb hs hpl pins s σ H Q I ?_
  refine ⟨fun vs H1 => match vs with
    | [y, z] => (FOk y ∧ FOk z) ∧ ∀ d, H1 d = none → Q (.ref C) (some d) (upd H1 d (.xd [(g, z), (f, y)]))
    | _ => False, h, fun vs H1 r => ?_⟩
  match vs, r with
  | [y, z], ⟨⟨ok, ok2⟩, q⟩ =>
    refine ⟨by simp, fun a na => ⟨a, y, z, rfl, upd_same, ok, ok2, fun dx nd ne => ⟨rfl, dx, _, by rw [upd_ne ne.symm, upd_same], upd_same, ?_, ?_⟩⟩⟩
    · rw [upd_ne ne] at nd
      exact nd
    · rw [upd_ne ne] at nd
      have e1 : upd (del (upd (upd (upd (upd H1 a (exo a C none)) dx (exd dx [(f, y)])) a (exo a C (some dx))) dx (exd dx [(g, z), (f, y)])) a) dx (.xd [(g, z), (f, y)]) = upd H1 dx (.xd [(g, z), (f, y)]) := by
        funext b
        by_cases hb : b = dx
        · rw [hb, upd_same, upd_same]
        · rw [upd_ne hb, upd_ne hb]
          by_cases ha : b = a
          · rw [ha, del_same, na]
          · rw [del_ne ha, upd_ne hb, upd_ne ha, upd_ne hb, upd_ne ha]
      rw [e1]
      exact q dx nd
/-- the class x at C, without an __init__ of its own -/
structure ErrMk0 (K : PySem.W.Frag) (mg : Str → Option Value) (x : Str) (C : Addr) : Prop where
  q : PySem.W.excIn K C [.type "ValueError", .type "Exception", .type "BaseException", .type "object"] "ValueError.__new__" = true
  g : mg x = some (.ref C)
  k : PySem.W.keepIn K (.ref C) = true
  b : PySem.W.subIn K (.ref C) (.type "BaseException") = some true
  t : PySem.W.typeIn K (.ref C) = some (.type "type")
theorem pmk_err0 {m : Str} {j : Nat} {p2 : Pos} (M : ErrMk0 X.K X.mg x C) (hg : Gl X x := by rfl) (hdb : (x == ("__debug__" : Str)) = false := by decide) :
    PMk X (.Call (.Name x p) [.Constant (.str m) j p2] [] pos) (fun _ H Q => Q (.ref C) none H) := pmk_own PySem.F.excBase_ValueError M.q M.g M.k (raises_own M.b M.t) hg hdb
end
end Sc
namespace Sc
open PySem PySem.Spec PyProof.Rows L2 NdefX
section
variable {P : Program} {w : World} {K : PySem.W.Frag} {mg : Str → Option Value} {base : Heap}
theorem sc_init_InvalidFacts : NScope ["self", "index", "__class__"] ["self", "index"] ["__class__"] (defScope (inClass (topS 3) 0)) := nscope_by (by decide +kernel)
theorem ok_init_InvalidFacts {fI C cc c : Addr} {oc kV doc pm ct : Value} {od an : Option Addr} {osl : Array (Option Value)} (lk : K.lookup fI = some ⟨oc, od, .func (supFd (nf_InvalidFacts cc c) kV doc pm an ct), osl⟩)
    (hcd : PySem.W.codeIn K (.ref c) "InvalidFacts.__init__" = true) (T : OexC K C) (S : SupC P K mg C cc c) (n0 : PySem.W.findIn K (.ref C) "index" = some none) : FnOk P w K mg base CX0 1 fI (supFd (nf_InvalidFacts cc c) kV doc pm an ct) ["self", "index"] (sp_init1 C "index") := by
  refine fn_sup (N := ["self", "index", "__class__"]) (ps := ["self", "index"]) lk hcd rfl sc_init_InvalidFacts T S (fun vs H Q E h => ?_) rfl rfl rfl rfl rfl (fun A outer s H vs Q E hr h => ?_) (fun L => ⟨_, rfl⟩) (fun L => rfl) (fun L => rfl) (fun L => rfl) (fun L => rfl)
  · obtain ⟨a, y0, rfl, ha, ok0, q⟩ := h
    rfl
  · obtain ⟨a, y0, rfl, ha, ok0, q⟩ := h
    refine ⟨_, _, pa_cons (pe_joined (PJ.cons pe_str (PJ.cons (pe_fmt (pv 1)) PJ.nil))) pa_nil, pss_one (ps_ost (pv 0) (pv 1)), a, rfl, ha, ?_⟩
    refine ⟨_, rfl, (by rw [sizeLine_eq]; simp only [app_len]; have e0 : Str.empty.length = 0 := rfl; have e1 : (("wrong fact at index " : Str)).length = 20 := (by decide +kernel); omega), ⟨y0, rfl, fmt_at ok0 fun z0 hz0 => ⟨_, rfl, (by rw [sizeLine_eq]; simp only [app_len]; have e0 : Str.empty.length = 0 := rfl; have e1 : (("wrong fact at index " : Str)).length = 20 := (by decide +kernel); omega), ⟨by simp, ha, y0, rfl, .ref a, rfl, a, C, rfl, T, n0, .inl ⟨ha, fun dx nd ne => q dx nd ne⟩⟩⟩⟩⟩

theorem sc_init_InvalidCase : NScope ["self", "index", "__class__"] ["self", "index"] ["__class__"] (defScope (inClass (topS 4) 0)) := nscope_by (by decide +kernel)
theorem ok_init_InvalidCase {fI C cc c : Addr} {oc kV doc pm ct : Value} {od an : Option Addr} {osl : Array (Option Value)} (lk : K.lookup fI = some ⟨oc, od, .func (supFd (nf_InvalidCase cc c) kV doc pm an ct), osl⟩)
    (hcd : PySem.W.codeIn K (.ref c) "InvalidCase.__init__" = true) (T : OexC K C) (S : SupC P K mg C cc c) (n0 : PySem.W.findIn K (.ref C) "index" = some none) : FnOk P w K mg base CX0 1 fI (supFd (nf_InvalidCase cc c) kV doc pm an ct) ["self", "index"] (sp_init1 C "index") := by
  refine fn_sup (N := ["self", "index", "__class__"]) (ps := ["self", "index"]) lk hcd rfl sc_init_InvalidCase T S (fun vs H Q E h => ?_) rfl rfl rfl rfl rfl (fun A outer s H vs Q E hr h => ?_) (fun L => ⟨_, rfl⟩) (fun L => rfl) (fun L => rfl) (fun L => rfl) (fun L => rfl)
  · obtain ⟨a, y0, rfl, ha, ok0, q⟩ := h
    rfl
  · obtain ⟨a, y0, rfl, ha, ok0, q⟩ := h
    refine ⟨_, _, pa_cons (pe_joined (PJ.cons pe_str (PJ.cons (pe_fmt (pv 1)) PJ.nil))) pa_nil, pss_one (ps_ost (pv 0) (pv 1)), a, rfl, ha, ?_⟩
    refine ⟨_, rfl, (by rw [sizeLine_eq]; simp only [app_len]; have e0 : Str.empty.length = 0 := rfl; have e1 : (("wrong name in the case at index " : Str)).length = 32 := (by decide +kernel); omega), ⟨y0, rfl, fmt_at ok0 fun z0 hz0 => ⟨_, rfl, (by rw [sizeLine_eq]; simp only [app_len]; have e0 : Str.empty.length = 0 := rfl; have e1 : (("wrong name in the case at index " : Str)).length = 32 := (by decide +kernel); omega), ⟨by simp, ha, y0, rfl, .ref a, rfl, a, C, rfl, T, n0, .inl ⟨ha, fun dx nd ne => q dx nd ne⟩⟩⟩⟩⟩

theorem sc_init_InvalidCondition : NScope ["self", "part", "index", "__class__"] ["self", "part", "index"] ["__class__"] (defScope (inClass (topS 5) 0)) := nscope_by (by decide +kernel)
theorem ok_init_InvalidCondition {fI C cc c : Addr} {oc kV doc pm ct : Value} {od an : Option Addr} {osl : Array (Option Value)} (lk : K.lookup fI = some ⟨oc, od, .func (supFd (nf_InvalidCondition cc c) kV doc pm an ct), osl⟩)
    (hcd : PySem.W.codeIn K (.ref c) "InvalidCondition.__init__" = true) (T : OexC K C) (S : SupC P K mg C cc c) (n0 : PySem.W.findIn K (.ref C) "part" = some none) (n1 : PySem.W.findIn K (.ref C) "index" = some none) : FnOk P w K mg base CX0 1 fI (supFd (nf_InvalidCondition cc c) kV doc pm an ct) ["self", "part", "index"] (sp_init2 C "part" "index") := by
  refine fn_sup (N := ["self", "part", "index", "__class__"]) (ps := ["self", "part", "index"]) lk hcd rfl sc_init_InvalidCondition T S (fun vs H Q E h => ?_) rfl rfl rfl rfl rfl (fun A outer s H vs Q E hr h => ?_) (fun L => ⟨_, rfl⟩) (fun L => rfl) (fun L => rfl) (fun L => rfl) (fun L => rfl)
  · obtain ⟨a, y0, y1, rfl, ha, ok0, ok1, q⟩ := h
    rfl
  · obtain ⟨a, y0, y1, rfl, ha, ok0, ok1, q⟩ := h
    refine ⟨_, _, pa_cons (pe_joined (PJ.cons pe_str (PJ.cons (pe_fmt (pv 1)) (PJ.cons pe_str (PJ.cons (pe_fmt (pv 2)) PJ.nil))))) pa_nil, pss_cons (ps_ost (pv 0) (pv 1)) (pss_one (ps_ost (pv 0) (pv 2))), a, rfl, ha, ?_⟩
    refine ⟨_, rfl, (by rw [sizeLine_eq]; simp only [app_len]; have e0 : Str.empty.length = 0 := rfl; have e1 : (("wrong name in part " : Str)).length = 19 := (by decide +kernel); have e2 : ((" of the condition at index " : Str)).length = 27 := (by decide +kernel); omega), ⟨y0, rfl, fmt_at ok0 fun z0 hz0 => ⟨_, rfl, (by rw [sizeLine_eq]; simp only [app_len]; have e0 : Str.empty.length = 0 := rfl; have e1 : (("wrong name in part " : Str)).length = 19 := (by decide +kernel); have e2 : ((" of the condition at index " : Str)).length = 27 := (by decide +kernel); omega), ⟨_, rfl, (by rw [sizeLine_eq]; simp only [app_len]; have e0 : Str.empty.length = 0 := rfl; have e1 : (("wrong name in part " : Str)).length = 19 := (by decide +kernel); have e2 : ((" of the condition at index " : Str)).length = 27 := (by decide +kernel); omega), ⟨y1, rfl, fmt_at ok1 fun z1 hz1 => ⟨_, rfl, (by rw [sizeLine_eq]; simp only [app_len]; have e0 : Str.empty.length = 0 := rfl; have e1 : (("wrong name in part " : Str)).length = 19 := (by decide +kernel); have e2 : ((" of the condition at index " : Str)).length = 27 := (by decide +kernel); omega), ⟨by simp, ha, y0, rfl, .ref a, rfl, a, C, rfl, T, n0, .inl ⟨ha, fun dx nd ne => ⟨y1, rfl, .ref a, rfl, a, C, rfl, T, n1, .inr ⟨dx, _, upd_same, by rw [upd_ne ne, upd_same], by simp, q dx nd ne⟩⟩⟩⟩⟩⟩⟩⟩⟩⟩

theorem sc_init_InvalidRule : NScope ["self", "part", "__class__"] ["self", "part"] ["__class__"] (defScope (inClass (topS 7) 0)) := nscope_by (by decide +kernel)
theorem ok_init_InvalidRule {fI C cc c : Addr} {oc kV doc pm ct : Value} {od an : Option Addr} {osl : Array (Option Value)} (lk : K.lookup fI = some ⟨oc, od, .func (supFd (nf_InvalidRule cc c) kV doc pm an ct), osl⟩)
    (hcd : PySem.W.codeIn K (.ref c) "InvalidRule.__init__" = true) (T : OexC K C) (S : SupC P K mg C cc c) (n0 : PySem.W.findIn K (.ref C) "part" = some none) : FnOk P w K mg base CX0 1 fI (supFd (nf_InvalidRule cc c) kV doc pm an ct) ["self", "part"] (sp_init1 C "part") := by
  refine fn_sup (N := ["self", "part", "__class__"]) (ps := ["self", "part"]) lk hcd rfl sc_init_InvalidRule T S (fun vs H Q E h => ?_) rfl rfl rfl rfl rfl (fun A outer s H vs Q E hr h => ?_) (fun L => ⟨_, rfl⟩) (fun L => rfl) (fun L => rfl) (fun L => rfl) (fun L => rfl)
  · obtain ⟨a, y0, rfl, ha, ok0, q⟩ := h
    rfl
  · obtain ⟨a, y0, rfl, ha, ok0, q⟩ := h
    refine ⟨_, _, pa_cons (pe_joined (PJ.cons pe_str (PJ.cons (pe_fmt (pv 1)) (PJ.cons pe_str PJ.nil)))) pa_nil, pss_one (ps_ost (pv 0) (pv 1)), a, rfl, ha, ?_⟩
    refine ⟨_, rfl, (by rw [sizeLine_eq]; simp only [app_len]; have e0 : Str.empty.length = 0 := rfl; have e1 : (("wrong " : Str)).length = 6 := (by decide +kernel); have e2 : ((" of a rule" : Str)).length = 10 := (by decide +kernel); omega), ⟨y0, rfl, fmt_at ok0 fun z0 hz0 => ⟨_, rfl, (by rw [sizeLine_eq]; simp only [app_len]; have e0 : Str.empty.length = 0 := rfl; have e1 : (("wrong " : Str)).length = 6 := (by decide +kernel); have e2 : ((" of a rule" : Str)).length = 10 := (by decide +kernel); omega), ⟨_, rfl, (by rw [sizeLine_eq]; simp only [app_len]; have e0 : Str.empty.length = 0 := rfl; have e1 : (("wrong " : Str)).length = 6 := (by decide +kernel); have e2 : ((" of a rule" : Str)).length = 10 := (by decide +kernel); omega), ⟨by simp, ha, y0, rfl, .ref a, rfl, a, C, rfl, T, n0, .inl ⟨ha, fun dx nd ne => q dx nd ne⟩⟩⟩⟩⟩⟩

theorem sc_init_InvalidBook : NScope ["self", "word", "index", "__class__"] ["self", "word", "index"] ["__class__"] (defScope (inClass (topS 8) 0)) := nscope_by (by decide +kernel)
theorem ok_init_InvalidBook {fI C cc c : Addr} {oc kV doc pm ct : Value} {od an : Option Addr} {osl : Array (Option Value)} (lk : K.lookup fI = some ⟨oc, od, .func (supFd (nf_InvalidBook cc c) kV doc pm an ct), osl⟩)
    (hcd : PySem.W.codeIn K (.ref c) "InvalidBook.__init__" = true) (T : OexC K C) (S : SupC P K mg C cc c) (n0 : PySem.W.findIn K (.ref C) "word" = some none) (n1 : PySem.W.findIn K (.ref C) "index" = some none) : FnOk P w K mg base CX0 1 fI (supFd (nf_InvalidBook cc c) kV doc pm an ct) ["self", "word", "index"] (sp_init2 C "word" "index") := by
  refine fn_sup (N := ["self", "word", "index", "__class__"]) (ps := ["self", "word", "index"]) lk hcd rfl sc_init_InvalidBook T S (fun vs H Q E h => ?_) rfl rfl rfl rfl rfl (fun A outer s H vs Q E hr h => ?_) (fun L => ⟨_, rfl⟩) (fun L => rfl) (fun L => rfl) (fun L => rfl) (fun L => rfl)
  · obtain ⟨a, y0, y1, rfl, ha, ok0, ok1, q⟩ := h
    rfl
  · obtain ⟨a, y0, y1, rfl, ha, ok0, ok1, q⟩ := h
    refine ⟨_, _, pa_cons (pe_joined (PJ.cons pe_str (PJ.cons (pe_fmt (pv 1)) (PJ.cons pe_str (PJ.cons (pe_fmt (pv 2)) PJ.nil))))) pa_nil, pss_cons (ps_ost (pv 0) (pv 1)) (pss_one (ps_ost (pv 0) (pv 2))), a, rfl, ha, ?_⟩
    refine ⟨_, rfl, (by rw [sizeLine_eq]; simp only [app_len]; have e0 : Str.empty.length = 0 := rfl; have e1 : (("wrong book by " : Str)).length = 14 := (by decide +kernel); have e2 : ((" at index " : Str)).length = 10 := (by decide +kernel); omega), ⟨y0, rfl, fmt_at ok0 fun z0 hz0 => ⟨_, rfl, (by rw [sizeLine_eq]; simp only [app_len]; have e0 : Str.empty.length = 0 := rfl; have e1 : (("wrong book by " : Str)).length = 14 := (by decide +kernel); have e2 : ((" at index " : Str)).length = 10 := (by decide +kernel); omega), ⟨_, rfl, (by rw [sizeLine_eq]; simp only [app_len]; have e0 : Str.empty.length = 0 := rfl; have e1 : (("wrong book by " : Str)).length = 14 := (by decide +kernel); have e2 : ((" at index " : Str)).length = 10 := (by decide +kernel); omega), ⟨y1, rfl, fmt_at ok1 fun z1 hz1 => ⟨_, rfl, (by rw [sizeLine_eq]; simp only [app_len]; have e0 : Str.empty.length = 0 := rfl; have e1 : (("wrong book by " : Str)).length = 14 := (by decide +kernel); have e2 : ((" at index " : Str)).length = 10 := (by decide +kernel); omega), ⟨by simp, ha, y0, rfl, .ref a, rfl, a, C, rfl, T, n0, .inl ⟨ha, fun dx nd ne => ⟨y1, rfl, .ref a, rfl, a, C, rfl, T, n1, .inr ⟨dx, _, upd_same, by rw [upd_ne ne, upd_same], by simp, q dx nd ne⟩⟩⟩⟩⟩⟩⟩⟩⟩⟩

end
end Sc
namespace Sc
open PySem PySem.Spec PyProof.Rows L2
/-! ### names -/
theorem sc_is_name : FnScope ["value", "letter"] ["value"] (defScope s_is_name) := ⟨rfl, rfl, rfl, by decide +kernel, rfl, by decide +kernel, by decide +kernel⟩
theorem sc_rises : FnScope ["names", "index"] ["names", "index"] (defScope s_rises) := ⟨rfl, rfl, rfl, by decide +kernel, rfl, by decide +kernel, by decide +kernel⟩
def isLetters (x : Str) : Bool := x.cps.toList.all fun c => decide (c ∈ letters.cps.toList)
def isName (x : Str) : Bool := decide (1 ≤ x.length) && (decide (x.length ≤ 8) && isLetters x)
def isLetterV (c : Nat) : V := .bl (decide (c ∈ letters.cps.toList))
structure GNames (mg : Str → Option Value) : Prop where
  m_LETTERS : ∃ t, mg "LETTERS" = some (.str letters t)
  m_LONGEST : ∃ t, mg "LONGEST_NAME" = some (.int 8 t)
section
variable {P : Program} {w : World} {K : PySem.W.Frag} {mg : Str → Option Value} {base : Heap}
def sp_is_name : Sp := fun vs H Q _ => ∃ x : Str, vs = [.str x] ∧ x.length ≤ sizeLine ∧ ∀ H', Same H H' → Q (.bl (isName x)) H'
theorem ok_is_name {f : Addr} {fd : FuncData} (F : Fun K "is_name" "is_name" s_is_name f fd) (B : Blt mg) (G : GNames mg) : FnOk P w K mg base CX0 1 f fd ["value"] sp_is_name := by
  obtain ⟨⟨t1, mL⟩, ⟨t2, mN⟩⟩ := G
  refine F.ok sc_is_name (fun vs H Q E h => by obtain ⟨x, rfl, _⟩ := h; rfl) (fun cdv A outer s H vs Q E hr h => ?_)
  obtain ⟨x, rfl, hx, q⟩ := h
  refine ⟨_, (pss_cons (ps_if (PW.pt (pw_or (pt_not (pt_val (pe_callB (call_isT "str") (by rfl) B.b_isinstance PyProof.Rows.boot_isinstance (pa_cons (pv 0) (pa_cons (pe_bltn (v := .ty "str") (by rfl) B.b_str PyProof.Rows.boot_str rfl) pa_nil))))) (pw_or1 (pt_not (pt_chain op_le op_le pe_int (pe_callB call_len_str (by rfl) B.b_len PySem.boot_len (pa_cons (pv 0) pa_nil)) (pe_glob (v := .int 8) rfl mN ⟨_, rfl⟩)))))) (pss_one (ps_ret pe_bl)) pss_nil)
      (pss_one (ps_ret (pe_callB (cr_all rfl) (by rfl) B.b_all PyProof.Rows.boot_all (pa_cons (pe_lc (own := [("letter", 1)]) (g := gName 1) (tt := tYes) rfl sc_is_name.nd (pi_str (pv 0)) (blkOk_by (own := [("letter", 1)]) (N := ["value", "letter"]) (sc := defScope s_is_name) (by decide +kernel)) (fun _ _ _ _ _ => (pg_name (i := 1) sc_is_name.nd rfl (Or.inl rfl))) (fun _ _ _ _ _ => pts_nil) (fun _ _ _ _ _ => (pe_.re (pe_cmpR op_in_sign (pv 1) (pe_glob (v := .str "abcdefghijklmnopqrstuvwxyz") rfl mL ⟨_, rfl⟩) rfl) (by first | (dsimp only [Cx.blk]; done) | exact rfl)))) pa_nil))))), ?_⟩
  refine ⟨.str x, rfl, _, "str", true, rfl, .str _, by decide +kernel, _, rfl, iteF ?_⟩
  refine ⟨.str x, rfl, x, rfl, hx, 1, x.length, rfl, rfl, _, rfl, bcase (fun h1 => ?_) (fun h1 => ?_)⟩
  · refine ⟨_, _, rfl, rfl, _, rfl, ?_⟩
    have h1 : 1 ≤ x.length := by have := of_decide_eq_true h1; omega
    by_cases h2 : x.length ≤ 8
    · have e2 : decide ((x.length : Int) ≤ 8) = true := decide_eq_true (by omega)
      rw [e2]
      refine iteF ?_
      refine ⟨.str x, rfl, x, rfl, fun D nD => lc_it walk_str (fun i H' => Same H H' ∧ H' D = some (.lst ((x.cps.toList.take i).map isLetterV))) ⟨(Same.refl H).put nD, upd_same⟩ (fun _ _ _ _ => trivial) ?_ ?_⟩
      · rintro i y H2 H3 hi ⟨s, e⟩ ⟨rfl, c, hc, rfl⟩
        refine ⟨rfl, yes_ ⟨_, rfl, c, letters, rfl, rfl, grow (acc := fun i => .map isLetterV (x.cps.toList.take i)) nD s e ?_ ?_⟩⟩
        · rw [List.length_map, List.length_take]
          exact small1000 (by have : x.cps.toList.length = x.length := rfl; omega)
        · show List.map _ _ = _
          rw [take_more (x := c) (by rw [Array.getElem?_toList]; exact hc), List.map_append]
          rfl
      · rintro H2 ⟨s, e⟩
        have el : x.cps.toList.take x.cps.size = x.cps.toList := List.take_of_length_le (by rw [Array.length_toList]; exact Nat.le_refl _)
        rw [el] at e
        refine ⟨D, x.cps.toList.map fun c => decide (c ∈ letters.cps.toList), rfl, sqL_of (by rw [e, List.map_map]; rfl), ?_⟩
        have ea : isName x = (x.cps.toList.map fun c => decide (c ∈ letters.cps.toList)).all id := by
          unfold isName isLetters
          rw [decide_eq_true h1, decide_eq_true h2, Bool.true_and, Bool.true_and, List.all_map]
          rfl
        rw [← ea]
        exact q H2 s
    · have e2 : decide ((x.length : Int) ≤ 8) = false := decide_eq_false (by omega)
      rw [e2]
      refine iteT ?_
      have e : isName x = false := by unfold isName; rw [decide_eq_false h2, Bool.false_and, Bool.and_false]
      rw [← e]
      exact q H (Same.refl H)
  · have h1 : ¬ 1 ≤ x.length := by have := of_decide_eq_false h1; omega
    refine ⟨_, rfl, iteT ?_⟩
    have e : isName x = false := by unfold isName; rw [decide_eq_false h1, Bool.false_and]
    rw [← e]
    exact q H (Same.refl H)
/-- does the i-th name come behind the one before it -/
def risesAt (xs : List Str) (i : Nat) : Bool := decide (i = 0) || match xs[i - 1]?, xs[i]? with
  | some a, some b => decide (a.cps.toList < b.cps.toList)
  | _, _ => false
def sp_rises (K : PySem.W.Frag) : Sp := fun vs H Q _ => ∃ (a : Addr) (xs : List Str) (i : Nat), vs = [.ref a, .int i] ∧ SqT K H a (xs.map V.str) ∧ i < xs.length ∧ Q (.bl (risesAt xs i)) H
theorem ok_rises {f : Addr} {fd : FuncData} (F : Fun K "rises" "rises" s_rises f fd) : FnOk P w K mg base CX0 1 f fd ["names", "index"] (sp_rises K) := by
  refine F.ok sc_rises (fun vs H Q E h => by obtain ⟨a, xs, i, rfl, _⟩ := h; rfl) (fun cdv A outer s H vs Q E hr h => ?_)
  obtain ⟨a, xs, i, rfl, hS, hi, q⟩ := h
  refine ⟨_, (pss_one (ps_ret (pe_or (pe_cmpR op_eq (pv 1) pe_int (nomark _)) (pe_one (pe_cmpR op_lt_str (pe_ix ix_tup (pv 0) (pe_op op_sub (pv 1) pe_int) (fun _ _ => rfl)) (pe_ix ix_tup (pv 0) (pv 1) (fun _ _ => rfl)) (nomark _)))))), ?_⟩
  refine ⟨_, rfl, rfl, _, rfl, bcase (fun e => ?_) (fun e => ?_)⟩
  · have e0 : i = 0 := by have := V.int.inj (of_decide_eq_true e); omega
    have er : risesAt xs i = true := by unfold risesAt; rw [decide_eq_true e0, Bool.true_or]
    rw [er] at q
    exact q
  · have e0 : i ≠ 0 := fun z => by subst z; exact Bool.noConfusion (e.symm.trans (decide_eq_true rfl))
    have h1 : i - 1 < xs.length := by omega
    have g1 : (xs.map V.str)[i - 1]? = some (.str xs[i - 1]) := by rw [List.getElem?_map, List.getElem?_eq_getElem h1]; rfl
    have g2 : (xs.map V.str)[i]? = some (.str xs[i]) := by rw [List.getElem?_map, List.getElem?_eq_getElem hi]; rfl
    refine ⟨.ref a, rfl, .int i, rfl, i, 1, rfl, rfl, a, _, _, _, rfl, rfl, hS, at_of (j := i - 1) (by omega) g1, .ref a, rfl, .int i, rfl, a, _, _, _, rfl, rfl, hS, at_of rfl g2, xs[i - 1], xs[i], rfl, rfl, ?_⟩
    have er : risesAt xs i = decide (xs[i - 1].cps.toList < xs[i].cps.toList) := by
      unfold risesAt
      rw [decide_eq_false e0, Bool.false_or, List.getElem?_eq_getElem h1, List.getElem?_eq_getElem hi]
    rw [← er]
    exact q
end
end Sc
namespace Sc
open PySem PySem.Spec PyProof.Rows L2
/-! ### the law's draws -/
theorem sc__law_mix : FnScope ["_law_script", "_law_seed", "_law_state", "_law_cell"] ["_law_script", "_law_seed"] (defScope s__law_mix) := ⟨rfl, rfl, rfl, by decide +kernel, rfl, by decide +kernel, by decide +kernel⟩
theorem sc__law_next : FnScope ["_law_h", "_law_limit", "_law_cell"] ["_law_h", "_law_limit"] (defScope s__law_next) := ⟨rfl, rfl, rfl, by decide +kernel, rfl, by decide +kernel, by decide +kernel⟩
theorem sc__law_facts : FnScope ["_law_h", "_law_most", "_law_some", "_law_many"] ["_law_h", "_law_most"] (defScope s__law_facts) := ⟨rfl, rfl, rfl, by decide +kernel, rfl, by decide +kernel, by decide +kernel⟩
theorem sc__law_alike : FnScope ["_law_found", "_law_due", "_law_k"] ["_law_found", "_law_due"] (defScope s__law_alike) := ⟨rfl, rfl, rfl, by decide +kernel, rfl, by decide +kernel, by decide +kernel⟩
def twelve : List Str := ["age", "bad", "cold", "dear", "early", "first", "good", "hot", "idle", "just", "keen", "late"]
/-- the state of the draws: a list at a, its cells at l -/
def RS (H : Hp) (a l : Addr) : Prop := ∃ (st k : Int) (ns : List Int), H a = some (.lst [.int st, .ref l, .int k]) ∧ H l = some (.lst (ns.map V.int)) ∧ 0 ≤ st ∧ st < 2147483647 ∧ ns.length ≤ 63 ∧ ∀ z ∈ ns, Builtin.Int.intBits z ≤ 1048576
/-- all but the draws' state stands -/
structure Kp (a l : Addr) (H H' : Hp) : Prop where
  old : RS H a l
  new : RS H' a l
  keep : ∀ b o, b ≠ a → b ≠ l → H b = some o → H' b = some o
section
variable {P : Program} {w : World} {K : PySem.W.Frag} {mg : Str → Option Value} {base : Heap} {a l : Addr} {H H' H'' : Hp}
theorem RS.ne (r : RS H a l) : a ≠ l := fun z => by
  obtain ⟨st, k, ns, h1, h2, _⟩ := r
  subst z
  rw [h1] at h2
  have e := HO.lst.inj (Option.some.inj h2)
  match ns, e with
  | [x, y, z], e => cases (List.cons.inj (List.cons.inj e).2).1
theorem RS.same (r : RS H a l) (s : Same H H') : RS H' a l := by
  obtain ⟨st, k, ns, h1, h2, q⟩ := r
  exact ⟨st, k, ns, s _ _ h1, s _ _ h2, q⟩
theorem Kp.refl (r : RS H a l) : Kp a l H H := ⟨r, r, fun _ _ _ _ e => e⟩
theorem Kp.trans (k : Kp a l H H') (k' : Kp a l H' H'') : Kp a l H H'' := ⟨k.old, k'.new, fun b o n1 n2 e => k'.keep b o n1 n2 (k.keep b o n1 n2 e)⟩
theorem Kp.of (r : RS H a l) (s : Same H H') : Kp a l H H' := ⟨r, r.same s, fun b o _ _ e => s b o e⟩
theorem Kp.same (k : Kp a l H H') (s : Same H' H'') : Kp a l H H'' := k.trans (.of k.new s)
theorem RS.no {b : Addr} (r : RS H a l) (e : H b = none) : b ≠ a ∧ b ≠ l := by
  obtain ⟨st, k, ns, h1, h2, _⟩ := r
  exact ⟨fun z => (by rw [z, h1] at e; cases e), fun z => (by rw [z, h2] at e; cases e)⟩
theorem RS.not {b : Addr} {o : HO} (r : RS H a l) (e : H b = some o) (n : ∀ xs, o ≠ .lst xs) : b ≠ a ∧ b ≠ l := by
  obtain ⟨st, k, ns, h1, h2, _⟩ := r
  exact ⟨fun z => (by rw [z, h1] at e; exact n _ (Option.some.inj e).symm), fun z => (by rw [z, h2] at e; exact n _ (Option.some.inj e).symm)⟩
theorem Kp.free {b : Addr} (k : Kp a l H H') (e : H' b = none) : H b = none := by
  cases q : H b with
  | none => rfl
  | some o =>
    obtain ⟨n1, n2⟩ := k.new.no e
    rw [k.keep b o n1 n2 q] at e
    cases e
theorem Kp.put {p : Addr} {o : HO} (k : Kp a l H H') (n : H' p = none) : Kp a l H (upd H' p o) := k.same ((Same.refl H').put n)
theorem Kp.put0 {p : Addr} {o : HO} (k : Kp a l H H') (n : H p = none) : Kp a l H (upd H' p o) := by
  obtain ⟨n1, n2⟩ := k.old.no n
  obtain ⟨st, x, ns, h1, h2, q⟩ := k.new
  exact ⟨k.old, ⟨st, x, ns, by rw [upd_ne n1.symm]; exact h1, by rw [upd_ne n2.symm]; exact h2, q⟩, fun b o m1 m2 e => by rw [upd_ne (ne_of_none e n)]; exact k.keep b o m1 m2 e⟩
theorem ixN_of {n j : Nat} (hj : j < n) : ixN n (j : Int) = some j := by
  unfold ixN
  rw [if_pos (by omega), if_pos (by omega)]
  rfl
theorem Kp.obj {b : Addr} {o : HO} (k : Kp a l H H') (e : H b = some o) (n : ∀ xs, o ≠ .lst xs) : H' b = some o := by
  obtain ⟨n1, n2⟩ := k.old.not e n
  exact k.keep b o n1 n2 e
theorem Kp.tup {b : Addr} {xs : List V} (k : Kp a l H H') (h : SqT K H b xs) : SqT K H' b xs := by
  rcases h with (h | ⟨o, h⟩) | h
  · exact .inl (.inl (k.obj h fun _ z => nomatch z))
  · exact .inl (.inr ⟨o, k.obj h fun _ z => nomatch z⟩)
  · exact .inr h
theorem bits_div {x n : Int} (h0 : 0 ≤ x) (hn : 0 < n) : Builtin.Int.intBits (x / n) ≤ Builtin.Int.intBits x := by
  have h1 : 0 ≤ x / n := Int.ediv_nonneg h0 (Int.le_of_lt hn)
  have h2 : x / n ≤ x := Int.ediv_le_self n h0
  unfold Builtin.Int.intBits
  by_cases e : x / n = 0
  · rw [e]
    exact Nat.zero_le _
  · have e2 : x ≠ 0 := fun z => by rw [z, Int.zero_ediv] at e; exact e rfl
    rw [if_neg (by simpa using e), if_neg (by simpa using e2)]
    have e3 : (x / n).natAbs.log2 ≤ x.natAbs.log2 := (Nat.le_log2 (by omega)).mpr (Nat.le_trans (Nat.log2_self_le (by omega)) (by omega))
    omega
theorem small_bits {x : Int} {k : Nat} (h : x.natAbs < 2 ^ k) : Builtin.Int.intBits x ≤ k := by
  unfold Builtin.Int.intBits
  split
  · exact Nat.zero_le k
  · rename_i e
    have e : x ≠ 0 := by simpa using e
    have := (Nat.log2_lt (n := x.natAbs) (by omega)).mpr h
    omega
def sp_mix (K : PySem.W.Frag) : Sp := fun vs H Q _ => ∃ (s : Addr) (ns : List Int) (z : Int), vs = [.ref s, .int z] ∧ SqL K H s (ns.map V.int) ∧ ns.length ≤ 63 ∧ (∀ z ∈ ns, Builtin.Int.intBits z ≤ 1048576) ∧ 0 ≤ z ∧ z < 2147483647 ∧
  ∀ H' a l, Same H H' → RS H' a l → Q (.ref a) H'
theorem ok_mix {f : Addr} {fd : FuncData} (F : Fun K "_law_mix" "_law_mix" s__law_mix f fd) (B : Blt mg) : FnOk P w K mg base CX0 1 f fd ["_law_script", "_law_seed"] (sp_mix K) := by
  refine F.ok sc__law_mix (fun vs H Q E h => by obtain ⟨s, ns, z, rfl, _⟩ := h; rfl) (fun cdv A outer s H vs Q E hr h => ?_)
  obtain ⟨s, ns, z, rfl, hS, hl, hb, z0, z1, q⟩ := h
  refine ⟨_, (pss_cons (ps_set (i := 2) sc__law_mix.nd rfl (Or.inl rfl) (pv 1))
      (pss_cons (ps_for PassesOwn.never rfl (pi_list (pv 0)) (pg_name (i := 3) sc__law_mix.nd rfl (Or.inl rfl)) (pss_one (ps_set (i := 2) sc__law_mix.nd rfl (Or.inl rfl) (pe_op op_mod (pe_callTy call_int1 (by rfl) B.b_int PyProof.Rows.boot_int (pa_cons (pe_op op_add (pe_op op_add (pe_op op_mul (pv 2) pe_int) (pe_op op_mod (pe_callTy call_int1 (by rfl) B.b_int PyProof.Rows.boot_int (pa_cons (pv 3) pa_nil)) pe_int)) pe_int) pa_nil)) pe_int))))
      (pss_one (ps_ret (pe_lst (pa_cons (pv 2) (pa_cons (pe_callTy call_list_of (by rfl) B.b_list PyProof.Rows.boot_list (pa_cons (pv 0) pa_nil)) (pa_cons pe_int pa_nil)))))))), ?_⟩
  refine ⟨_, rfl, .ref s, rfl, s, rfl, ⟨_, hS⟩, for_it walk_list (fun i σ H' => ∃ (st : Int) (y : Option V), σ = [some (.ref s), some (.int z), some (.int st), y] ∧ H' = H ∧ 0 ≤ st ∧ st < 2147483647)
    ⟨z, none, rfl, rfl, z0, z1⟩ (fun i σ H' _ ⟨_, _, _, e, _⟩ => by rw [e]; exact hS) ?_ ?_⟩
  · rintro i x σ H2 H3 hi ⟨st, y, rfl, rfl, h0, h1⟩ ⟨rfl, hx⟩
    obtain ⟨c, hc, rfl⟩ : ∃ c, ns[i]? = some c ∧ x = V.int c := by
      rw [List.getElem?_map] at hx
      cases e : ns[i]? with
      | none => rw [e] at hx; cases hx
      | some c => rw [e] at hx; exact ⟨c, rfl, (Option.some.inj hx).symm⟩
    refine ⟨_, rfl, st, 48271, rfl, rfl, .inl ⟨by omega, by omega⟩, _, rfl, .inl ⟨c, rfl, c, 2147483629, rfl, rfl, (show (0 : Int) < 2147483629 by decide), _, _, rfl, rfl, _, _, rfl, rfl, .inl ⟨_, rfl, _, 2147483647, rfl, rfl, (show (0 : Int) < 2147483647 by decide), ?_⟩⟩⟩
    exact ⟨_, _, rfl, rfl, Int.emod_nonneg _ (by decide), Int.emod_lt_of_pos _ (by decide)⟩
  · rintro σ H2 ⟨st, y, rfl, rfl, h0, h1⟩
    refine ⟨_, rfl, .ref s, rfl, s, _, rfl, .inl hS, fun l nl => ⟨(by show 3 ≤ sizeLine; decide), fun a na => q _ a l ?_ ⟨st, 0, ns, upd_same, ?_, h0, h1, hl, hb⟩⟩⟩
    · exact ((Same.refl _).put nl).put' na
    · rw [upd_ne (ne_of_none upd_same na), upd_same]
def sp_next : Sp := fun vs H Q _ => ∃ (a l : Addr) (n : Int), vs = [.ref a, .int n] ∧ RS H a l ∧ 0 < n ∧ n.natAbs.log2 < 9000 ∧ ∀ H' r, Kp a l H H' → 0 ≤ r → r < n → Q (.int r) H'
theorem ok_next {f : Addr} {fd : FuncData} (F : Fun K "_law_next" "_law_next" s__law_next f fd) (B : Blt mg) : FnOk P w K mg base CX0 1 f fd ["_law_h", "_law_limit"] sp_next := by
  refine F.ok sc__law_next (fun vs H Q E h => by obtain ⟨a, l, n, rfl, _⟩ := h; rfl) (fun cdv A outer s H vs Q E hr h => ?_)
  obtain ⟨a, l, n, rfl, hR, n0, n9, q⟩ := h
  refine ⟨_, (pss_cons (ps_set (i := 2) sc__law_next.nd rfl (Or.inl rfl) (pe_ix ix_list (pe_op op_cat (pe_ix ix_list (pv 0) pe_int (fun _ _ => rfl)) (pe_lst (pa_cons pe_int pa_nil))) (pe_op op_mod (pe_callTy call_int1 (by rfl) B.b_int PyProof.Rows.boot_int (pa_cons (pe_ix ix_list (pv 0) pe_int (fun _ _ => rfl)) pa_nil)) (pe_callB (call_max2 rfl) (by rfl) B.b_max PyProof.Rows.boot_max (pa_cons pe_int (pa_cons (pe_callB call_len_seq (by rfl) B.b_len PySem.boot_len (pa_cons (pe_ix ix_list (pv 0) pe_int (fun _ _ => rfl)) pa_nil)) pa_nil)))) (fun _ _ => rfl)))
      (pss_cons (ps_if (pt_cmpR op_ge (pv 2) (pe_op op_pow pe_int pe_int) (nomark _)) (pss_cons (ps_asg (pe_op op_fdivW (pv 2) (pv 1)) (pg_sub (pe_ix ix_list (pv 0) pe_int (fun _ _ => rfl)) (pe_op op_mod (pe_callTy call_int1 (by rfl) B.b_int PyProof.Rows.boot_int (pa_cons (pe_ix ix_list (pv 0) pe_int (fun _ _ => rfl)) pa_nil)) (pe_callB call_len_seq (by rfl) B.b_len PySem.boot_len (pa_cons (pe_ix ix_list (pv 0) pe_int (fun _ _ => rfl)) pa_nil))) set_list))
      (pss_one (ps_ret (pe_op op_mod (pe_callTy call_int1 (by rfl) B.b_int PyProof.Rows.boot_int (pa_cons (pv 2) pa_nil)) (pv 1))))) pss_nil)
      (pss_cons (ps_asg (pe_op op_mod (pe_callTy call_int1 (by rfl) B.b_int PyProof.Rows.boot_int (pa_cons (pe_op op_add (pe_op op_add (pe_op op_mul (pe_ix ix_list (pv 0) pe_int (fun _ _ => rfl)) pe_int) (pe_op op_mulX (pv 2) pe_int)) pe_int) pa_nil)) pe_int) (pg_sub (pv 0) pe_int set_list))
      (pss_cons (ps_asg (pe_op op_add (pe_ix ix_list (pv 0) pe_int (fun _ _ => rfl)) pe_int) (pg_sub (pv 0) pe_int set_list))
      (pss_one (ps_ret (pe_op op_mod (pe_callTy call_int1 (by rfl) B.b_int PyProof.Rows.boot_int (pa_cons (pe_op op_fdiv (pe_ix ix_list (pv 0) pe_int (fun _ _ => rfl)) pe_int) pa_nil)) (pv 1)))))))), ?_⟩
  obtain ⟨st, k, ns, ha, hl, s0, s1, hlen, hb⟩ := id hR
  have nal := hR.ne
  have hm0 : 0 < (if ((ns.map V.int).length : Int) > 1 then ((ns.map V.int).length : Int) else 1) := by
    split <;> omega
  have hmx : (if ((ns.map V.int).length : Int) > 1 then ((ns.map V.int).length : Int) else 1) ≤ ns.length + 1 := by
    rw [List.length_map]
    split <;> omega
  have hcell : ∃ (j : Nat) (c : Int), k % (if ((ns.map V.int).length : Int) > 1 then ((ns.map V.int).length : Int) else 1) = j ∧ (ns.map V.int ++ [V.int 0])[j]? = some (.int c) ∧ (10 ^ 18 ≤ c → j < ns.length ∧ ns[j]? = some c ∧ k % (ns.length : Int) = j) ∧ Builtin.Int.intBits c ≤ 1048576 := by
    have r0 := Int.emod_nonneg k (Int.ne_of_gt hm0)
    have r1 := Int.emod_lt_of_pos k hm0
    obtain ⟨j, ej⟩ := Int.eq_ofNat_of_zero_le r0
    have ej : k % (if ((ns.map V.int).length : Int) > 1 then ((ns.map V.int).length : Int) else 1) = (j : Int) := ej
    by_cases hj : j < ns.length
    · refine ⟨j, ns[j], ej, ?_, fun _ => ⟨hj, List.getElem?_eq_getElem hj, ?_⟩, hb _ (List.getElem_mem hj)⟩
      · rw [List.getElem?_append_left (by rw [List.length_map]; exact hj), List.getElem?_map, List.getElem?_eq_getElem hj]
        rfl
      · rw [← ej, List.length_map]
        by_cases h1 : (ns.length : Int) > 1
        · rw [if_pos h1]
        · rw [if_neg h1]
          have e1 : (ns.length : Int) = 1 := by omega
          rw [e1]
    · have ejn : j = ns.length := by omega
      refine ⟨j, 0, ej, ?_, fun z => absurd z (by decide), by decide⟩
      rw [List.getElem?_append_right (by rw [List.length_map]; omega), List.length_map, ejn, Nat.sub_self]
      rfl
  obtain ⟨j, c, ej, gc, big, hc⟩ := hcell
  refine ⟨.ref a, rfl, a, _, 1, .ref l, rfl, rfl, sqL_of ha, atI_nat (j := 1) rfl, (by show 1 ≤ sizeLine; decide), fun p np => ?_⟩
  have npa := ne_of_none ha np
  have npl := ne_of_none hl np
  refine ⟨l, p, ns.map V.int, [.int 0], rfl, rfl, by rw [upd_ne npl]; exact hl, upd_same, by rw [List.length_map, sizeLine_eq]; show ns.length + 1 ≤ _; omega, fun p2 np2 => ?_⟩
  have np2' : H p2 = none := by
    cases e : H p2 with
    | none => rfl
    | some o => rw [upd_ne (ne_of_none e np)] at np2; rw [e] at np2; cases np2
  have s2 : Same H (upd (upd H p (.lst [.int 0])) p2 (.lst (ns.map V.int ++ [.int 0]))) := ((Same.refl H).put np).put np2'
  generalize hH2 : upd (upd H p (.lst [.int 0])) p2 (.lst (ns.map V.int ++ [.int 0])) = H2 at s2
  have hp2 : H2 p2 = some (.lst (ns.map V.int ++ [.int 0])) := by rw [← hH2, upd_same]
  have ha2 := s2 _ _ ha
  have hl2 := s2 _ _ hl
  refine ⟨.ref a, rfl, a, _, 2, .int k, rfl, rfl, sqL_of ha2, atI_nat (j := 2) rfl, .inl ⟨k, rfl, ?_⟩⟩
  refine ⟨.ref a, rfl, a, _, 1, .ref l, rfl, rfl, sqL_of ha2, atI_nat (j := 1) rfl, l, _, rfl, .inl (sqL_of hl2), 1, _, rfl, ?_⟩
  refine ⟨k, _, rfl, rfl, hm0, p2, _, _, .int c, rfl, rfl, sqL_of hp2, at_of ej gc, ?_⟩
  refine ⟨.int c, rfl, 10, 18, rfl, rfl, ⟨by decide, by decide, by decide⟩, c, 10 ^ 18, rfl, rfl, _, rfl, bcase (fun c1 => ?_) (fun c1 => ?_)⟩
  · have c1 : (10 : Int) ^ 18 ≤ c := of_decide_eq_true c1
    obtain ⟨hj, gj, ej2⟩ := big c1
    have hlp : 0 < (ns.length : Int) := by omega
    refine ⟨_, rfl, .int n, rfl, c, n, rfl, rfl, ⟨n0, n9⟩, .ref a, rfl, a, _, 1, .ref l, rfl, rfl, sqL_of ha2, atI_nat (j := 1) rfl, .ref a, rfl, a, _, 2, .int k, rfl, rfl, sqL_of ha2, atI_nat (j := 2) rfl, .inl ⟨k, rfl, ?_⟩⟩
    refine ⟨.ref a, rfl, a, _, 1, .ref l, rfl, rfl, sqL_of ha2, atI_nat (j := 1) rfl, l, _, rfl, .inl (sqL_of hl2), k, _, rfl, rfl, by rw [List.length_map]; exact hlp, l, _, _, j, rfl, rfl, hl2, ?_, ?_⟩
    · rw [List.length_map, ej2]
      unfold ixN
      rw [if_pos (by omega), if_pos (by omega)]
      rfl
    · refine ⟨.int c, rfl, .inl ⟨c, rfl, .int n, rfl, c, n, rfl, rfl, n0, q _ _ ⟨hR, ?_, fun b o n1 n2 e => ?_⟩ (Int.emod_nonneg _ (Int.ne_of_gt n0)) (Int.emod_lt_of_pos _ n0)⟩⟩
      · refine ⟨st, k, ns.set j (c / n), by rw [upd_ne nal]; exact ha2, by rw [upd_same, List.map_set], s0, s1, by rw [List.length_set]; exact hlen, fun z hz => ?_⟩
        rcases List.mem_or_eq_of_mem_set hz with h | h
        · exact hb z h
        · rw [h]
          exact Nat.le_trans (bits_div (by omega) n0) hc
      · rw [upd_ne n2]
        exact s2 b o e
  · refine ⟨.ref a, rfl, a, _, 0, .int st, rfl, rfl, sqL_of ha2, atI_nat (j := 0) rfl, st, 48271, rfl, rfl, .inl ⟨by omega, by omega⟩, .int c, rfl, c, 69621, rfl, rfl, ?_, _, _, rfl, rfl, _, 11, rfl, rfl, .inl ⟨_, rfl, _, 2147483647, rfl, rfl, (show (0 : Int) < 2147483647 by decide), .ref a, rfl, ?_⟩⟩
    · show (Builtin.Int.intBits c : Int) + (Builtin.Int.intBits 69621 : Int) ≤ 134217728
      have e1 : Builtin.Int.intBits 69621 ≤ 20 := small_bits (by decide)
      omega
    have z0 : 0 ≤ (st * 48271 + c * 69621 + 11) % 2147483647 := Int.emod_nonneg _ (by decide)
    have z1 : (st * 48271 + c * 69621 + 11) % 2147483647 < 2147483647 := Int.emod_lt_of_pos _ (by decide)
    refine ⟨a, _, 0, 0, rfl, rfl, ha2, rfl, ?_⟩
    refine ⟨.ref a, rfl, a, _, 2, .int k, rfl, rfl, sqL_of upd_same, atI_nat (j := 2) rfl, k, 1, rfl, rfl, .ref a, rfl, a, _, 2, 2, rfl, rfl, upd_same, rfl, ?_⟩
    refine ⟨.ref a, rfl, a, _, 0, .int ((st * 48271 + c * 69621 + 11) % 2147483647), rfl, rfl, sqL_of upd_same, atI_nat (j := 0) rfl, _, 7, rfl, rfl, ⟨by decide, by decide⟩, .inl ⟨_, rfl, .int n, rfl, _, n, rfl, rfl, n0, q _ _ ⟨hR, ?_, fun b o n1 n2 e => ?_⟩ (Int.emod_nonneg _ (Int.ne_of_gt n0)) (Int.emod_lt_of_pos _ n0)⟩⟩
    · exact ⟨_, k + 1, ns, upd_same, by rw [upd_ne nal.symm, upd_ne nal.symm]; exact hl2, z0, z1, hlen, hb⟩
    · rw [upd_ne n1, upd_ne n1]
      exact s2 b o e
theorem map_eraseIdx {α β : Type} {f : α → β} : ∀ (xs : List α) (j : Nat), (xs.map f).eraseIdx j = (xs.eraseIdx j).map f
  | [], _ => rfl
  | _ :: _, 0 => rfl
  | x :: r, j + 1 => by
    show f x :: (r.map f).eraseIdx j = f x :: (r.eraseIdx j).map f
    rw [map_eraseIdx r j]
/-- what stands at a value, read as data, at most n lists or tuples deep -/
inductive AD (H : Hp) : Nat → V → PyData → Prop where
  | non (n : Nat) : AD H n .non .none
  | bl (n : Nat) (b : Bool) : AD H n (.bl b) (.bool b)
  | int (n : Nat) (i : Int) : AD H n (.int i) (.int i)
  | str (n : Nat) (x : Str) : AD H n (.str x) (.str x)
  | lst {n : Nat} {a : Addr} {xs : List V} {ds : List PyData} (e : H a = some (.lst xs)) (l : xs.length = ds.length) (z : xs.length ≤ 1000000) (all : ∀ (i : Nat) (x : V) (d : PyData), xs[i]? = some x → ds[i]? = some d → AD H n x d) : AD H (n + 1) (.ref a) (.list ds)
  | tup {n : Nat} {a : Addr} {xs : List V} {ds : List PyData} (e : H a = some (.tup xs)) (l : xs.length = ds.length) (z : xs.length ≤ 1000000) (all : ∀ (i : Nat) (x : V) (d : PyData), xs[i]? = some x → ds[i]? = some d → AD H n x d) : AD H (n + 1) (.ref a) (.tuple ds)
theorem AD.same {n : Nat} {x : V} {d : PyData} (s : Same H H') (h : AD H n x d) : AD H' n x d := by
  induction h with
  | non n => exact .non n
  | bl n b => exact .bl n b
  | int n i => exact .int n i
  | str n x => exact .str n x
  | lst e l z all ih => exact .lst (s _ _ e) l z ih
  | tup e l z all ih => exact .tup (s _ _ e) l z ih
def sp_alike (n : Nat) : Sp := fun vs H Q _ => ∃ (x y : V) (d : PyData), vs = [x, y] ∧ AD H n x d ∧ AD H n y d ∧ ∀ H', Same H H' → Q (.bl true) H'
/-- the answer where no list or tuple stands -/
theorem ok_alike0 {f : Addr} {fd : FuncData} (F : Fun K "_law_alike" "_law_alike" s__law_alike f fd) (B : Blt mg) : FnOk P w K mg base CX0 1 f fd ["_law_found", "_law_due"] (sp_alike 0) := by
  refine F.ok sc__law_alike (fun vs H Q E h => by obtain ⟨x, y, d, rfl, _⟩ := h; rfl) (fun cdv A outer s H vs Q E hr h => ?_)
  obtain ⟨x, y, d, rfl, hx, hy, q⟩ := h
  refine ⟨_, (pss_cons (ps_if (pt_val (pe_callB (call_isT "dict") (by rfl) B.b_isinstance PyProof.Rows.boot_isinstance (pa_cons (pv 1) (pa_cons (pe_bltn (v := .ty "dict") (by rfl) B.b_dict (by decide +kernel) rfl) pa_nil)))) pss_never pss_nil)
      (pss_cons (ps_if (pt_val (pe_callB call_isiT (by rfl) B.b_isinstance PyProof.Rows.boot_isinstance (pa_cons (pv 1) (pa_cons (pe_tup (pa_cons (pe_bltn (v := .ty "tuple") (by rfl) B.b_tuple PyProof.Rows.boot_tuple rfl) (pa_cons (pe_bltn (v := .ty "list") (by rfl) B.b_list PyProof.Rows.boot_list rfl) pa_nil))) pa_nil)))) pss_never pss_nil)
      (pss_cons (ps_if (PW.pt (pw_or (pt_cmpR op_isN (pv 1) pe_non (nomark _)) (pw_or1 (pt_val (pe_callB (call_isT "str") (by rfl) B.b_isinstance PyProof.Rows.boot_isinstance (pa_cons (pv 1) (pa_cons (pe_bltn (v := .ty "str") (by rfl) B.b_str PyProof.Rows.boot_str rfl) pa_nil))))))) (pss_one (ps_ret (pe_and (pe_cmpR op_eq (pv 0) (pv 1) (nomark _)) (pe_one (pe_cmpR op_eq (pe_callB (call_isT "str") (by rfl) B.b_isinstance PyProof.Rows.boot_isinstance (pa_cons (pv 0) (pa_cons (pe_bltn (v := .ty "str") (by rfl) B.b_str PyProof.Rows.boot_str rfl) pa_nil))) (pe_callB (call_isT "str") (by rfl) B.b_isinstance PyProof.Rows.boot_isinstance (pa_cons (pv 1) (pa_cons (pe_bltn (v := .ty "str") (by rfl) B.b_str PyProof.Rows.boot_str rfl) pa_nil))) (nomark _)))))) pss_nil)
      (pss_one (ps_ret (pe_and (pe_callB (call_isT "int") (by rfl) B.b_isinstance PyProof.Rows.boot_isinstance (pa_cons (pv 0) (pa_cons (pe_bltn (v := .ty "int") (by rfl) B.b_int PyProof.Rows.boot_int rfl) pa_nil))) (pe_and (pe_cmpR op_eq (pe_callB (call_isT "bool") (by rfl) B.b_isinstance PyProof.Rows.boot_isinstance (pa_cons (pv 0) (pa_cons (pe_bltn (v := .ty "bool") (by rfl) B.b_bool PyProof.Rows.boot_bool rfl) pa_nil))) (pe_callB (call_isT "bool") (by rfl) B.b_isinstance PyProof.Rows.boot_isinstance (pa_cons (pv 1) (pa_cons (pe_bltn (v := .ty "bool") (by rfl) B.b_bool PyProof.Rows.boot_bool rfl) pa_nil))) (nomark _)) (pe_one (pe_cmpR op_eq (pv 0) (pv 1) (nomark _)))))))))), ?_⟩
  cases hx with
  | non _ =>
    cases hy
    refine ⟨_, rfl, _, "NoneType", false, rfl, .non, by decide +kernel, false, rfl, iteF ?_⟩
    refine ⟨_, rfl, (by show 2 ≤ sizeLine; decide), fun tp ntp => ⟨_, tp, _, .type "NoneType", [.type "tuple", .type "list"], false, rfl, upd_same, .cons (.ty _) (.cons (.ty _) .nil), .base (.non), kitAny_cons (b := false) (kit_ty (by decide +kernel)) (fun _ => kitAny_cons (b := false) (kit_ty (by decide +kernel)) (fun _ => kitAny_nil) (fun z => nomatch z)) (fun z => nomatch z), false, rfl, iteF ?_⟩⟩
    have s1 : Same H (upd H tp (.tup [.ty "tuple", .ty "list"])) := (Same.refl H).put ntp
    refine ⟨_, rfl, rfl, true, rfl, iteT (iteT ?_)⟩
    refine ⟨_, rfl, _, rfl, rfl, decide (V.non = V.non), rfl, ?_⟩
    rw [decide_eq_true rfl]
    refine iteT ?_
    refine ⟨_, rfl, _, "NoneType", false, rfl, .non, by decide +kernel, _, rfl, _, "NoneType", false, rfl, .non, by decide +kernel, rfl, ?_⟩
    exact q _ s1
  | bl _ b =>
    cases hy
    refine ⟨_, rfl, _, "bool", false, rfl, .bl b, by decide +kernel, false, rfl, iteF ?_⟩
    refine ⟨_, rfl, (by show 2 ≤ sizeLine; decide), fun tp ntp => ⟨_, tp, _, .type "bool", [.type "tuple", .type "list"], false, rfl, upd_same, .cons (.ty _) (.cons (.ty _) .nil), .base (.bl b), kitAny_cons (b := false) (kit_ty (by decide +kernel)) (fun _ => kitAny_cons (b := false) (kit_ty (by decide +kernel)) (fun _ => kitAny_nil) (fun z => nomatch z)) (fun z => nomatch z), false, rfl, iteF ?_⟩⟩
    have s1 : Same H (upd H tp (.tup [.ty "tuple", .ty "list"])) := (Same.refl H).put ntp
    refine ⟨_, rfl, rfl, false, rfl, iteF ⟨_, rfl, _, "bool", false, rfl, .bl b, by decide +kernel, false, rfl, iteF ?_⟩⟩
    refine ⟨_, rfl, _, "bool", true, rfl, .bl b, by decide +kernel, true, rfl, iteT ?_⟩
    refine ⟨_, rfl, _, "bool", true, rfl, .bl b, by decide +kernel, _, rfl, _, "bool", true, rfl, .bl b, by decide +kernel, rfl, true, rfl, iteT ?_⟩
    refine ⟨_, rfl, _, rfl, rfl, ?_⟩
    rw [decide_eq_true rfl]
    exact q _ s1
  | int _ i =>
    cases hy
    refine ⟨_, rfl, _, "int", false, rfl, .int i, by decide +kernel, false, rfl, iteF ?_⟩
    refine ⟨_, rfl, (by show 2 ≤ sizeLine; decide), fun tp ntp => ⟨_, tp, _, .type "int", [.type "tuple", .type "list"], false, rfl, upd_same, .cons (.ty _) (.cons (.ty _) .nil), .base (.int i), kitAny_cons (b := false) (kit_ty (by decide +kernel)) (fun _ => kitAny_cons (b := false) (kit_ty (by decide +kernel)) (fun _ => kitAny_nil) (fun z => nomatch z)) (fun z => nomatch z), false, rfl, iteF ?_⟩⟩
    have s1 : Same H (upd H tp (.tup [.ty "tuple", .ty "list"])) := (Same.refl H).put ntp
    refine ⟨_, rfl, rfl, false, rfl, iteF ⟨_, rfl, _, "int", false, rfl, .int i, by decide +kernel, false, rfl, iteF ?_⟩⟩
    refine ⟨_, rfl, _, "int", true, rfl, .int i, by decide +kernel, true, rfl, iteT ?_⟩
    refine ⟨_, rfl, _, "int", false, rfl, .int i, by decide +kernel, _, rfl, _, "int", false, rfl, .int i, by decide +kernel, rfl, true, rfl, iteT ?_⟩
    refine ⟨_, rfl, _, rfl, rfl, ?_⟩
    rw [decide_eq_true rfl]
    exact q _ s1
  | str _ x =>
    cases hy
    refine ⟨_, rfl, _, "str", false, rfl, .str x, by decide +kernel, false, rfl, iteF ?_⟩
    refine ⟨_, rfl, (by show 2 ≤ sizeLine; decide), fun tp ntp => ⟨_, tp, _, .type "str", [.type "tuple", .type "list"], false, rfl, upd_same, .cons (.ty _) (.cons (.ty _) .nil), .base (.str x), kitAny_cons (b := false) (kit_ty (by decide +kernel)) (fun _ => kitAny_cons (b := false) (kit_ty (by decide +kernel)) (fun _ => kitAny_nil) (fun z => nomatch z)) (fun z => nomatch z), false, rfl, iteF ?_⟩⟩
    have s1 : Same H (upd H tp (.tup [.ty "tuple", .ty "list"])) := (Same.refl H).put ntp
    refine ⟨_, rfl, rfl, false, rfl, iteF ⟨_, rfl, _, "str", true, rfl, .str x, by decide +kernel, true, rfl, iteT ?_⟩⟩
    refine ⟨_, rfl, _, rfl, rfl, decide (V.str x = V.str x), rfl, ?_⟩
    rw [decide_eq_true rfl]
    refine iteT ?_
    refine ⟨_, rfl, _, "str", true, rfl, .str x, by decide +kernel, _, rfl, _, "str", true, rfl, .str x, by decide +kernel, rfl, ?_⟩
    exact q _ s1
theorem ok_alike {n : Nat} {f : Addr} {fd : FuncData} (F : Fun K "_law_alike" "_law_alike" s__law_alike f fd) (B : Blt mg) (c__law_alike : Cal P w K mg base CX0 (n + 1) "_law_alike" ["_law_found", "_law_due"] (sp_alike n)) : FnOk P w K mg base CX0 (n + 2) f fd ["_law_found", "_law_due"] (sp_alike (n + 1)) := by
  refine F.ok sc__law_alike (fun vs H Q E h => by obtain ⟨x, y, d, rfl, _⟩ := h; rfl) (fun cdv A outer s H vs Q E hr h => ?_)
  obtain ⟨x, y, d, rfl, hx, hy, q⟩ := h
  refine ⟨_, (pss_cons (ps_if (pt_val (pe_callB (call_isT "dict") (by rfl) B.b_isinstance PyProof.Rows.boot_isinstance (pa_cons (pv 1) (pa_cons (pe_bltn (v := .ty "dict") (by rfl) B.b_dict (by decide +kernel) rfl) pa_nil)))) pss_never pss_nil)
      (pss_cons (ps_if (pt_val (pe_callB call_isiT (by rfl) B.b_isinstance PyProof.Rows.boot_isinstance (pa_cons (pv 1) (pa_cons (pe_tup (pa_cons (pe_bltn (v := .ty "tuple") (by rfl) B.b_tuple PyProof.Rows.boot_tuple rfl) (pa_cons (pe_bltn (v := .ty "list") (by rfl) B.b_list PyProof.Rows.boot_list rfl) pa_nil))) pa_nil)))) (pss_cons (ps_if (PW.pt (pw_or (pt_not (pt_val (pe_callB call_isiT (by rfl) B.b_isinstance PyProof.Rows.boot_isinstance (pa_cons (pv 0) (pa_cons (pe_tup (pa_cons (pe_bltn (v := .ty "tuple") (by rfl) B.b_tuple PyProof.Rows.boot_tuple rfl) (pa_cons (pe_bltn (v := .ty "list") (by rfl) B.b_list PyProof.Rows.boot_list rfl) pa_nil))) pa_nil))))) (pw_or1 (pt_cmpR op_ne (pe_callB (call_isT "list") (by rfl) B.b_isinstance PyProof.Rows.boot_isinstance (pa_cons (pv 0) (pa_cons (pe_bltn (v := .ty "list") (by rfl) B.b_list PyProof.Rows.boot_list rfl) pa_nil))) (pe_callB (call_isT "list") (by rfl) B.b_isinstance PyProof.Rows.boot_isinstance (pa_cons (pv 1) (pa_cons (pe_bltn (v := .ty "list") (by rfl) B.b_list PyProof.Rows.boot_list rfl) pa_nil))) (nomark _))))) (pss_one (ps_ret pe_bl)) pss_nil)
      (pss_cons (ps_if (pt_cmpR op_ne (pe_callB call_len_seq (by rfl) B.b_len PySem.boot_len (pa_cons (pv 0) pa_nil)) (pe_callB call_len_seq (by rfl) B.b_len PySem.boot_len (pa_cons (pv 1) pa_nil)) (nomark _)) (pss_one (ps_ret pe_bl)) pss_nil)
      (pss_one (ps_ret (pe_cmpR (op_eqD hr.units) (pe_lc (own := [("_law_k", 2)]) (g := gName 2) rfl sc__law_alike.nd (pi_range1 (by rfl) B.b_range (pa_cons (pe_callB call_len_seq (by rfl) B.b_len PySem.boot_len (pa_cons (pv 1) pa_nil)) pa_nil)) (blkOk_by (own := [("_law_k", 2)]) (N := ["_law_found", "_law_due", "_law_k"]) (sc := defScope s__law_alike) (by decide +kernel)) (fun _ _ _ _ _ => (pg_name (i := 2) sc__law_alike.nd rfl (Or.inl rfl))) (fun _ _ _ _ _ => (pts_.re (pts_one (pt_not (pt_val (pe_cal c__law_alike hr (pa_cons (pe_ix ix_seq (pv 0) (pv 2) (fun _ _ => rfl)) (pa_cons (pe_ix ix_seq (pv 1) (pv 2) (fun _ _ => rfl)) pa_nil)))))) (by first | (dsimp only [Cx.blk]; done) | exact rfl))) (fun _ _ _ _ _ => (pe_.re (pv 2) (by first | (dsimp only [Cx.blk]; done) | exact rfl)))) (pe_lst pa_nil) (nomark _)))))) pss_nil)
      (pss_cons (ps_if (PW.pt (pw_or (pt_cmpR op_isN (pv 1) pe_non (nomark _)) (pw_or1 (pt_val (pe_callB (call_isT "str") (by rfl) B.b_isinstance PyProof.Rows.boot_isinstance (pa_cons (pv 1) (pa_cons (pe_bltn (v := .ty "str") (by rfl) B.b_str PyProof.Rows.boot_str rfl) pa_nil))))))) (pss_one (ps_ret (pe_and (pe_cmpR op_eq (pv 0) (pv 1) (nomark _)) (pe_one (pe_cmpR op_eq (pe_callB (call_isT "str") (by rfl) B.b_isinstance PyProof.Rows.boot_isinstance (pa_cons (pv 0) (pa_cons (pe_bltn (v := .ty "str") (by rfl) B.b_str PyProof.Rows.boot_str rfl) pa_nil))) (pe_callB (call_isT "str") (by rfl) B.b_isinstance PyProof.Rows.boot_isinstance (pa_cons (pv 1) (pa_cons (pe_bltn (v := .ty "str") (by rfl) B.b_str PyProof.Rows.boot_str rfl) pa_nil))) (nomark _)))))) pss_nil)
      (pss_one (ps_ret (pe_and (pe_callB (call_isT "int") (by rfl) B.b_isinstance PyProof.Rows.boot_isinstance (pa_cons (pv 0) (pa_cons (pe_bltn (v := .ty "int") (by rfl) B.b_int PyProof.Rows.boot_int rfl) pa_nil))) (pe_and (pe_cmpR op_eq (pe_callB (call_isT "bool") (by rfl) B.b_isinstance PyProof.Rows.boot_isinstance (pa_cons (pv 0) (pa_cons (pe_bltn (v := .ty "bool") (by rfl) B.b_bool PyProof.Rows.boot_bool rfl) pa_nil))) (pe_callB (call_isT "bool") (by rfl) B.b_isinstance PyProof.Rows.boot_isinstance (pa_cons (pv 1) (pa_cons (pe_bltn (v := .ty "bool") (by rfl) B.b_bool PyProof.Rows.boot_bool rfl) pa_nil))) (nomark _)) (pe_one (pe_cmpR op_eq (pv 0) (pv 1) (nomark _)))))))))), ?_⟩
  cases hx with
  | non _ =>
    cases hy
    refine ⟨_, rfl, _, "NoneType", false, rfl, .non, by decide +kernel, false, rfl, iteF ?_⟩
    refine ⟨_, rfl, (by show 2 ≤ sizeLine; decide), fun tp ntp => ⟨_, tp, _, .type "NoneType", [.type "tuple", .type "list"], false, rfl, upd_same, .cons (.ty _) (.cons (.ty _) .nil), .base (.non), kitAny_cons (b := false) (kit_ty (by decide +kernel)) (fun _ => kitAny_cons (b := false) (kit_ty (by decide +kernel)) (fun _ => kitAny_nil) (fun z => nomatch z)) (fun z => nomatch z), false, rfl, iteF ?_⟩⟩
    have s1 : Same H (upd H tp (.tup [.ty "tuple", .ty "list"])) := (Same.refl H).put ntp
    refine ⟨_, rfl, rfl, true, rfl, iteT (iteT ?_)⟩
    refine ⟨_, rfl, _, rfl, rfl, decide (V.non = V.non), rfl, ?_⟩
    rw [decide_eq_true rfl]
    refine iteT ?_
    refine ⟨_, rfl, _, "NoneType", false, rfl, .non, by decide +kernel, _, rfl, _, "NoneType", false, rfl, .non, by decide +kernel, rfl, ?_⟩
    exact q _ s1
  | bl _ b =>
    cases hy
    refine ⟨_, rfl, _, "bool", false, rfl, .bl b, by decide +kernel, false, rfl, iteF ?_⟩
    refine ⟨_, rfl, (by show 2 ≤ sizeLine; decide), fun tp ntp => ⟨_, tp, _, .type "bool", [.type "tuple", .type "list"], false, rfl, upd_same, .cons (.ty _) (.cons (.ty _) .nil), .base (.bl b), kitAny_cons (b := false) (kit_ty (by decide +kernel)) (fun _ => kitAny_cons (b := false) (kit_ty (by decide +kernel)) (fun _ => kitAny_nil) (fun z => nomatch z)) (fun z => nomatch z), false, rfl, iteF ?_⟩⟩
    have s1 : Same H (upd H tp (.tup [.ty "tuple", .ty "list"])) := (Same.refl H).put ntp
    refine ⟨_, rfl, rfl, false, rfl, iteF ⟨_, rfl, _, "bool", false, rfl, .bl b, by decide +kernel, false, rfl, iteF ?_⟩⟩
    refine ⟨_, rfl, _, "bool", true, rfl, .bl b, by decide +kernel, true, rfl, iteT ?_⟩
    refine ⟨_, rfl, _, "bool", true, rfl, .bl b, by decide +kernel, _, rfl, _, "bool", true, rfl, .bl b, by decide +kernel, rfl, true, rfl, iteT ?_⟩
    refine ⟨_, rfl, _, rfl, rfl, ?_⟩
    rw [decide_eq_true rfl]
    exact q _ s1
  | int _ i =>
    cases hy
    refine ⟨_, rfl, _, "int", false, rfl, .int i, by decide +kernel, false, rfl, iteF ?_⟩
    refine ⟨_, rfl, (by show 2 ≤ sizeLine; decide), fun tp ntp => ⟨_, tp, _, .type "int", [.type "tuple", .type "list"], false, rfl, upd_same, .cons (.ty _) (.cons (.ty _) .nil), .base (.int i), kitAny_cons (b := false) (kit_ty (by decide +kernel)) (fun _ => kitAny_cons (b := false) (kit_ty (by decide +kernel)) (fun _ => kitAny_nil) (fun z => nomatch z)) (fun z => nomatch z), false, rfl, iteF ?_⟩⟩
    have s1 : Same H (upd H tp (.tup [.ty "tuple", .ty "list"])) := (Same.refl H).put ntp
    refine ⟨_, rfl, rfl, false, rfl, iteF ⟨_, rfl, _, "int", false, rfl, .int i, by decide +kernel, false, rfl, iteF ?_⟩⟩
    refine ⟨_, rfl, _, "int", true, rfl, .int i, by decide +kernel, true, rfl, iteT ?_⟩
    refine ⟨_, rfl, _, "int", false, rfl, .int i, by decide +kernel, _, rfl, _, "int", false, rfl, .int i, by decide +kernel, rfl, true, rfl, iteT ?_⟩
    refine ⟨_, rfl, _, rfl, rfl, ?_⟩
    rw [decide_eq_true rfl]
    exact q _ s1
  | str _ x =>
    cases hy
    refine ⟨_, rfl, _, "str", false, rfl, .str x, by decide +kernel, false, rfl, iteF ?_⟩
    refine ⟨_, rfl, (by show 2 ≤ sizeLine; decide), fun tp ntp => ⟨_, tp, _, .type "str", [.type "tuple", .type "list"], false, rfl, upd_same, .cons (.ty _) (.cons (.ty _) .nil), .base (.str x), kitAny_cons (b := false) (kit_ty (by decide +kernel)) (fun _ => kitAny_cons (b := false) (kit_ty (by decide +kernel)) (fun _ => kitAny_nil) (fun z => nomatch z)) (fun z => nomatch z), false, rfl, iteF ?_⟩⟩
    have s1 : Same H (upd H tp (.tup [.ty "tuple", .ty "list"])) := (Same.refl H).put ntp
    refine ⟨_, rfl, rfl, false, rfl, iteF ⟨_, rfl, _, "str", true, rfl, .str x, by decide +kernel, true, rfl, iteT ?_⟩⟩
    refine ⟨_, rfl, _, rfl, rfl, decide (V.str x = V.str x), rfl, ?_⟩
    rw [decide_eq_true rfl]
    refine iteT ?_
    refine ⟨_, rfl, _, "str", true, rfl, .str x, by decide +kernel, _, rfl, _, "str", true, rfl, .str x, by decide +kernel, rfl, ?_⟩
    exact q _ s1
  | lst e l z all =>
    rename_i p xs ds
    cases hy with
    | lst e2 l2 z2 all2 =>
      rename_i q0 ys
      refine ⟨_, rfl, _, "list", false, rfl, .lst e2, by decide +kernel, false, rfl, iteF ?_⟩
      refine ⟨_, rfl, (by show 2 ≤ sizeLine; decide), fun tp ntp => ?_⟩
      have s1 : Same H (upd H tp (.tup [.ty "tuple", .ty "list"])) := (Same.refl H).put ntp
      refine ⟨_, tp, _, .type "list", [.type "tuple", .type "list"], true, rfl, upd_same, .cons (.ty _) (.cons (.ty _) .nil), .base (.lst (s1 _ _ e2)), kitAny_cons (b := false) (kit_ty (by decide +kernel)) (fun _ => kitAny_cons (b := true) (kit_ty (by decide +kernel)) (fun z => nomatch z) (fun _ => rfl)) (fun z => nomatch z), true, rfl, iteT ?_⟩
      refine ⟨_, rfl, (by show 2 ≤ sizeLine; decide), fun tp2 ntp2 => ?_⟩
      have s2 := s1.put' (o := .tup [.ty "tuple", .ty "list"]) ntp2
      refine ⟨_, tp2, _, .type "list", [.type "tuple", .type "list"], true, rfl, upd_same, .cons (.ty _) (.cons (.ty _) .nil), .base (.lst (s2 _ _ e)), kitAny_cons (b := false) (kit_ty (by decide +kernel)) (fun _ => kitAny_cons (b := true) (kit_ty (by decide +kernel)) (fun z => nomatch z) (fun _ => rfl)) (fun z => nomatch z), true, rfl, iteF ?_⟩
      refine ⟨_, rfl, _, "list", true, rfl, .lst (s2 _ _ e), by decide +kernel, _, rfl, _, "list", true, rfl, .lst (s2 _ _ e2), by decide +kernel, rfl, _, rfl, iteF ?_⟩
      refine ⟨_, rfl, p, _, rfl, .inl (sqL_of (s2 _ _ e)), _, rfl, q0, _, rfl, .inl (sqL_of (s2 _ _ e2)), rfl, _, rfl, ?_⟩
      have el : ((xs.length : Nat) : Int) = (ys.length : Nat) := by rw [l, l2]
      rw [el, decide_eq_true rfl]
      refine iteF ?_
      refine ⟨_, rfl, q0, _, rfl, .inl (sqL_of (s2 _ _ e2)), _, rfl, by omega, by omega, fun D nD => lc_it walk_range (fun i H' => Same H H' ∧ H' D = some (.lst [])) ⟨s2.put' nD, upd_same⟩ (fun _ _ _ _ => trivial) ?_ ?_⟩
      · rintro i y H2 H3 hi ⟨s3, e3⟩ ⟨rfl, hy⟩
        have hy : y = V.int (i : Nat) := by
          rw [hy]
          show V.int (0 + (i : Nat)) = _
          rw [Int.zero_add]
        subst hy
        have hi : i < ys.length := by simpa using hi
        have hix : i < xs.length := by omega
        have hid : i < ds.length := by omega
        refine ⟨rfl, _, rfl, _, rfl, .inl ⟨_, _, (i : Nat), _, rfl, rfl, sqL_of (s3 _ _ e), atI_nat (List.getElem?_eq_getElem hix), ?_⟩⟩
        refine ⟨_, rfl, _, rfl, .inl ⟨_, _, (i : Nat), _, rfl, rfl, sqL_of (s3 _ _ e2), atI_nat (List.getElem?_eq_getElem hi), ?_⟩⟩
        refine ⟨_, _, ds[i], rfl, (all i _ _ (List.getElem?_eq_getElem hix) (List.getElem?_eq_getElem hid)).same s3, (all2 i _ _ (List.getElem?_eq_getElem hi) (List.getElem?_eq_getElem hid)).same s3, fun H4 s4 => ⟨true, rfl, iteF ⟨s3.trans s4, s4 _ _ e3⟩⟩⟩
      · rintro H2 ⟨s3, e3⟩
        refine ⟨Nat.zero_le _, fun p2 np2 => ⟨.list [], .list [], .lst (sqL_of (by rw [upd_ne (ne_of_none e3 np2)]; exact e3)) .nil, .lst sqL_new .nil, rfl, rfl, q _ (s3.put' np2)⟩⟩
  | tup e l z all =>
    rename_i p xs ds
    cases hy with
    | tup e2 l2 z2 all2 =>
      rename_i q0 ys
      refine ⟨_, rfl, _, "tuple", false, rfl, .tup e2, by decide +kernel, false, rfl, iteF ?_⟩
      refine ⟨_, rfl, (by show 2 ≤ sizeLine; decide), fun tp ntp => ?_⟩
      have s1 : Same H (upd H tp (.tup [.ty "tuple", .ty "list"])) := (Same.refl H).put ntp
      refine ⟨_, tp, _, .type "tuple", [.type "tuple", .type "list"], true, rfl, upd_same, .cons (.ty _) (.cons (.ty _) .nil), .base (.tup (s1 _ _ e2)), kitAny_cons (b := true) (kit_ty (by decide +kernel)) (fun z => nomatch z) (fun _ => rfl), true, rfl, iteT ?_⟩
      refine ⟨_, rfl, (by show 2 ≤ sizeLine; decide), fun tp2 ntp2 => ?_⟩
      have s2 := s1.put' (o := .tup [.ty "tuple", .ty "list"]) ntp2
      refine ⟨_, tp2, _, .type "tuple", [.type "tuple", .type "list"], true, rfl, upd_same, .cons (.ty _) (.cons (.ty _) .nil), .base (.tup (s2 _ _ e)), kitAny_cons (b := true) (kit_ty (by decide +kernel)) (fun z => nomatch z) (fun _ => rfl), true, rfl, iteF ?_⟩
      refine ⟨_, rfl, _, "tuple", false, rfl, .tup (s2 _ _ e), by decide +kernel, _, rfl, _, "tuple", false, rfl, .tup (s2 _ _ e2), by decide +kernel, rfl, _, rfl, iteF ?_⟩
      refine ⟨_, rfl, p, _, rfl, .inr (sqT_of (s2 _ _ e)), _, rfl, q0, _, rfl, .inr (sqT_of (s2 _ _ e2)), rfl, _, rfl, ?_⟩
      have el : ((xs.length : Nat) : Int) = (ys.length : Nat) := by rw [l, l2]
      rw [el, decide_eq_true rfl]
      refine iteF ?_
      refine ⟨_, rfl, q0, _, rfl, .inr (sqT_of (s2 _ _ e2)), _, rfl, by omega, by omega, fun D nD => lc_it walk_range (fun i H' => Same H H' ∧ H' D = some (.lst [])) ⟨s2.put' nD, upd_same⟩ (fun _ _ _ _ => trivial) ?_ ?_⟩
      · rintro i y H2 H3 hi ⟨s3, e3⟩ ⟨rfl, hy⟩
        have hy : y = V.int (i : Nat) := by
          rw [hy]
          show V.int (0 + (i : Nat)) = _
          rw [Int.zero_add]
        subst hy
        have hi : i < ys.length := by simpa using hi
        have hix : i < xs.length := by omega
        have hid : i < ds.length := by omega
        refine ⟨rfl, _, rfl, _, rfl, .inr (.inl ⟨_, _, (i : Nat), _, rfl, rfl, sqT_of (s3 _ _ e), atI_nat (List.getElem?_eq_getElem hix), ?_⟩)⟩
        refine ⟨_, rfl, _, rfl, .inr (.inl ⟨_, _, (i : Nat), _, rfl, rfl, sqT_of (s3 _ _ e2), atI_nat (List.getElem?_eq_getElem hi), ?_⟩)⟩
        refine ⟨_, _, ds[i], rfl, (all i _ _ (List.getElem?_eq_getElem hix) (List.getElem?_eq_getElem hid)).same s3, (all2 i _ _ (List.getElem?_eq_getElem hi) (List.getElem?_eq_getElem hid)).same s3, fun H4 s4 => ⟨true, rfl, iteF ⟨s3.trans s4, s4 _ _ e3⟩⟩⟩
      · rintro H2 ⟨s3, e3⟩
        refine ⟨Nat.zero_le _, fun p2 np2 => ⟨.list [], .list [], .lst (sqL_of (by rw [upd_ne (ne_of_none e3 np2)]; exact e3)) .nil, .lst sqL_new .nil, rfl, rfl, q _ (s3.put' np2)⟩⟩
end
end Sc
namespace Sc
open PySem PySem.Spec PyProof.Rows L2
theorem strAt_inj {xs : List Str} {i : Nat} {x : Str} {v : V} (hx : xs[i]? = some x) (h : (xs.map V.str)[i]? = some v) : V.str x = v := by
  rw [List.getElem?_map, hx] at h
  exact Option.some.inj h
theorem find_none {n : Nat} {p : Nat → Bool} (h : ∀ j, j < n → p j = false) : (List.range n).find? p = none := by
  rw [List.find?_eq_none]
  intro j hj
  rw [h j (List.mem_range.mp hj)]
  exact Bool.false_ne_true
theorem find_at {n i : Nat} {p : Nat → Bool} (hi : i < n) (hp : p i = true) (h : ∀ j, j < i → p j = false) : (List.range n).find? p = some i := by
  rw [List.find?_range_eq_some]
  exact ⟨hp, List.mem_range.mpr hi, fun j hj => by rw [h j hj]; rfl⟩
/-- names that texts of a program may have -/
def Txts (xs : List Str) : Prop := ∀ x ∈ xs, x.length ≤ 1000
def errIx (C : Addr) (i : Nat) (H : Hp) (E : XK) : Prop := ∀ H' d, Same H H' → H' d = none → E (.ref C) (some d) (upd H' d (.xd [(("index" : Str), .int i)]))
theorem flat_strs : ∀ xs : List Str, (xs.map V.str).all flatV = true
  | [] => rfl
  | _ :: r => flat_strs r
theorem inV_str {x : Str} : ∀ xs : List Str, inV (.str x) (xs.map V.str) = decide (x ∈ xs)
  | [] => rfl
  | y :: r => by
    show (eqV (.str y) (.str x) || inV (.str x) (r.map V.str)) = _
    rw [inV_str r]
    show ((y == x) || _) = _
    by_cases h : y = x
    · subst h
      simp
    · have e : (y == x) = false := by simpa using h
      rw [e, Bool.false_or]
      simp [List.mem_cons, show ¬ x = y from fun z => h z.symm]
end Sc
namespace Sc
open PySem PySem.Spec PyProof.Rows L2
/-! ### conditions -/
theorem sc_check_part : FnScope ["part", "names", "before", "index", "name", "wrong"] ["part", "names", "before"] (defScope s_check_part) := ⟨rfl, rfl, rfl, by decide +kernel, rfl, by decide +kernel, by decide +kernel⟩
theorem sc_merged : FnScope ["names", "others", "name"] ["names", "others"] (defScope s_merged) := ⟨rfl, rfl, rfl, by decide +kernel, rfl, by decide +kernel, by decide +kernel⟩
theorem filter1 {α : Type} (p : α → Bool) (y : α) : List.filter p [y] = if p y = true then [y] else [] := by cases h : p y <;> simp [List.filter, h]
section
variable {P : Program} {w : World} {K : PySem.W.Frag} {mg : Str → Option Value} {base : Heap} {CC : Addr}
/-- the i-th name of a part is wrong; ys the part ahead of it -/
def wrongAt (xs ys : List Str) (i : Nat) : Bool := match xs[i]? with
  | some x => (!isName x || !risesAt xs i) || (decide (8 ≤ ys.length + i) || decide (x ∈ ys))
  | none => false
def firstWrong (xs ys : List Str) : Option Nat := (List.range xs.length).find? (wrongAt xs ys)
def errPI (C : Addr) (part : Int) (i : Nat) (H : Hp) (E : XK) : Prop := ∀ H' d, Same H H' → H' d = none → E (.ref C) (some d) (upd H' d (.xd [(("index" : Str), .int i), (("part" : Str), .int part)]))
def sp_check_part (K : PySem.W.Frag) (C : Addr) : Sp := fun vs H Q E => ∃ (part : Nat) (a b : Addr) (xs ys : List Str), vs = [.int part, .ref a, .ref b] ∧ part ≤ 1 ∧ SqT K H a (xs.map V.str) ∧ SqT K H b (ys.map V.str) ∧ Txts xs ∧ xs.length ≤ 1000 ∧ ys.length ≤ 1000 ∧
  (firstWrong xs ys = none → ∀ H', Same H H' → Q .non H') ∧ (∀ i, firstWrong xs ys = some i → errPI C part i H E)
theorem ok_check_part {f : Addr} {fd : FuncData} (F : Fun K "check_part" "check_part" s_check_part f fd) (B : Blt mg) (mM : ∃ t, mg "MOST_NAMES" = some (.int 8 t))
    (e_InvalidCondition : ErrMk P w K mg base "InvalidCondition" CC ["self", "part", "index"] (sp_init2 CC "part" "index")) (c_is_name : Cal P w K mg base CX0 1 "is_name" ["value"] sp_is_name) (c_rises : Cal P w K mg base CX0 1 "rises" ["names", "index"] (sp_rises K)) :
    FnOk P w K mg base (L2.CX P w) 3 f fd ["part", "names", "before"] (sp_check_part K CC) := by
  obtain ⟨t1, mM⟩ := mM
  refine F.okX sc_check_part (fun vs H Q E h => by obtain ⟨part, a, b, xs, ys, rfl, _⟩ := h; rfl) (fun cdv A outer s H vs Q E hr h => ?_)
  obtain ⟨part, a, b, xs, ys, rfl, hp, hS, hY, hT, hl, hly, q, e⟩ := h
  refine ⟨_, (pss_one (ps_for (passes_of rfl) rfl (pi_enumT (by rfl) B.b_enumerate (pa_cons (pv 1) pa_nil)) (pg_tup (by rfl) (pgs_cons (pg_name (i := 3) sc_check_part.nd rfl (Or.inl rfl)) (pgs_cons (pg_name (i := 4) sc_check_part.nd rfl (Or.inl rfl)) pgs_nil))) (pss_cons (ps_set (i := 5) sc_check_part.nd rfl (Or.inl rfl) (pe_or (pe_not (pe_cal c_is_name (hr.mono (by decide)) (pa_cons (pv 4) pa_nil))) (pe_one (pe_not (pe_cal c_rises (hr.mono (by decide)) (pa_cons (pv 1) (pa_cons (pv 3) pa_nil)))))))
      (pss_one (ps_if (PW.pt (pw_or (pt_val (pv 5)) (pw_or (pt_cmpR op_ge (pe_op op_add (pe_callB call_len_seq (by rfl) B.b_len PySem.boot_len (pa_cons (pv 2) pa_nil)) (pv 3)) (pe_glob (v := .int 8) rfl mM ⟨_, rfl⟩) (nomark _)) (pw_or1 (pt_cmpR op_in_seq (pv 4) (pv 2) rfl))))) (pss_one (ps_raise rfl (takes_of rfl rfl rfl rfl) (pmk_err2 e_InvalidCondition (hr.mono (by decide)) (pv 0) (pv 3)))) pss_nil))))), ?_⟩
  refine ⟨.ref a, rfl, a, _, rfl, hS, for_it walk_enumT (fun i σ H' => ∃ y1 y2 y3, σ = [some (.int part), some (.ref a), some (.ref b), y1, y2, y3] ∧ Same H H' ∧ ∀ j, j < i → wrongAt xs ys j = false)
    ⟨none, none, none, rfl, Same.refl H, fun j hj => absurd hj (Nat.not_lt_zero j)⟩ (fun i σ H' _ ⟨_, _, _, _, s, _⟩ => s.tup hS) ?_ ?_⟩
  · rintro i x σ H2 H3 hi ⟨y1, y2, y3, rfl, s, hb⟩ ⟨T, v1, v2, rfl, nT, rfl, h1, h2⟩
    obtain rfl : V.int (i : Nat) = v1 := Option.some.inj h1
    rw [List.length_map] at hi
    have hx : xs[i]? = some xs[i] := List.getElem?_eq_getElem hi
    obtain rfl : V.str xs[i] = v2 := strAt_inj hx h2
    have s3 : Same H (upd H2 T (.tup [.int (i : Nat), .str xs[i]])) := s.put' nT
    have rz : ∀ {H' : Hp}, wrongAt xs ys i = true → Same H H' → ∀ d, H' d = none → E (.ref CC) (some d) (upd H' d (.xd [(("index" : Str), .int (i : Nat)), (("part" : Str), .int part)])) := fun {H'} hp sH d nd => e i (find_at hi hp hb) H' d sH nd
    refine ⟨T, [.int (i : Nat), .str xs[i]], rfl, sqT_new, rfl, _, _, rfl, _, _, rfl, rfl, ?_⟩
    have ew : wrongAt xs ys i = ((!isName xs[i] || !risesAt xs i) || (decide (8 ≤ ys.length + i) || decide (xs[i] ∈ ys))) := by unfold wrongAt; rw [hx]
    have fk : FOk (.int part) ∧ FOk (.int (i : Nat)) := ⟨fok_nat (by omega), fok_nat (by omega)⟩
    refine ⟨_, rfl, xs[i], rfl, Nat.le_trans (hT _ (List.getElem_mem hi)) (by rw [sizeLine_eq]; decide), fun H4 s4 => ⟨_, rfl, _, rfl, bcase (fun c1 => ?_) (fun c1 => ?_)⟩⟩
    · exact ⟨_, rfl, _, rfl, iteT (iteT ⟨_, rfl, _, rfl, fk, rz (by rw [ew, c1, Bool.true_or, Bool.true_or]) (s3.trans s4)⟩)⟩
    · have s5 := s3.trans s4
      rw [c1, Bool.false_or] at ew
      refine ⟨.ref a, rfl, .int i, rfl, a, xs, i, rfl, s5.tup hS, hi, _, rfl, ?_⟩
      refine ⟨_, rfl, _, rfl, bcase (fun c2 => ?_) (fun c2 => ?_)⟩
      · exact iteT ⟨_, rfl, _, rfl, fk, rz (by rw [ew, c2, Bool.true_or]) s5⟩
      · rw [c2, Bool.false_or] at ew
        refine ⟨.ref b, rfl, b, _, rfl, .inr (s5.tup hY), .int i, rfl, _, i, rfl, rfl, _, 8, rfl, rfl, _, rfl, ?_⟩
        rw [List.length_map]
        by_cases h8 : 8 ≤ ys.length + i
        · rw [decide_eq_true (show (8 : Int) ≤ (ys.length : Int) + (i : Int) by omega)]
          exact iteT (iteT ⟨_, rfl, _, rfl, fk, rz (by rw [ew, decide_eq_true h8, Bool.true_or]) s5⟩)
        · rw [decide_eq_false (show ¬ (8 : Int) ≤ (ys.length : Int) + (i : Int) by omega)]
          rw [decide_eq_false h8, Bool.false_or] at ew
          refine iteF ⟨.str xs[i], rfl, .ref b, rfl, b, _, rfl, .inr (s5.tup hY), rfl, flat_strs ys, _, rfl, bcase (fun c3 => ?_) (fun c3 => ?_)⟩
          · have c3 : decide (xs[i] ∈ ys) = true := by rw [← inV_str]; exact c3
            exact ⟨_, rfl, _, rfl, fk, rz (by rw [ew, c3]) s5⟩
          · have c3 : decide (xs[i] ∈ ys) = false := by rw [← inV_str]; exact c3
            refine ⟨_, _, _, rfl, s5, fun j hj => ?_⟩
            by_cases hj2 : j < i
            · exact hb j hj2
            · have ej : j = i := by omega
              subst ej
              rw [ew, c3]
  · rintro σ H2 ⟨y1, y2, y3, rfl, s, hb⟩
    rw [List.length_map] at hb
    exact q (find_none hb) H2 s
def sp_merged (K : PySem.W.Frag) : Sp := fun vs H Q _ => ∃ (a b : Addr) (xs ys : List Str), vs = [.ref a, .ref b] ∧ SqT K H a (xs.map V.str) ∧ SqT K H b (ys.map V.str) ∧ xs.length + ys.length < 64 ∧
  ∀ H' p (zs : List Str), Same H H' → H' p = some (.tup (zs.map V.str)) → zs.Perm (xs ++ ys.filter fun y => !decide (y ∈ xs)) → sortedS zs = true → Q (.ref p) H'
theorem ok_merged {f : Addr} {fd : FuncData} (F : Fun K "merged" "merged" s_merged f fd) (B : Blt mg) : FnOk P w K mg base CX0 1 f fd ["names", "others"] (sp_merged K) := by
  refine F.ok sc_merged (fun vs H Q E h => by obtain ⟨a, b, xs, ys, rfl, _⟩ := h; rfl) (fun cdv A outer s H vs Q E hr h => ?_)
  obtain ⟨a, b, xs, ys, rfl, hS, hY, hl, q⟩ := h
  refine ⟨_, (pss_one (ps_ret (pe_callTy call_tuple_of (by rfl) B.b_tuple PyProof.Rows.boot_tuple (pa_cons (pe_callB cr_sortedS (by rfl) B.b_sorted (by decide +kernel) (pa_cons (pe_op op_cat (pe_callTy call_list_of (by rfl) B.b_list PyProof.Rows.boot_list (pa_cons (pv 0) pa_nil)) (pe_lc (own := [("name", 2)]) (g := gName 2) rfl sc_merged.nd (pi_tup (pv 1)) (blkOk_by (own := [("name", 2)]) (N := ["names", "others", "name"]) (sc := defScope s_merged) (by decide +kernel)) (fun _ _ _ _ _ => (pg_name (i := 2) sc_merged.nd rfl (Or.inl rfl))) (fun _ _ _ _ _ => (pts_.re (pts_one (pt_cmpR op_notIn_seq (pv 2) (pv 0) rfl)) (by first | (dsimp only [Cx.blk]; done) | exact rfl))) (fun _ _ _ _ _ => (pe_.re (pv 2) (by first | (dsimp only [Cx.blk]; done) | exact rfl))))) pa_nil)) pa_nil)))), ?_⟩
  have big : ∀ {m : Nat}, m ≤ 1000 → m ≤ sizeLine := fun {m} h => by rw [sizeLine_eq]; omega
  refine ⟨.ref a, rfl, a, _, rfl, .inr hS, fun l nl => ?_⟩
  have s1 := (Same.refl H).put (o := .lst (xs.map V.str)) nl
  have e1 : (upd H l (.lst (xs.map V.str))) l = some (.lst (xs.map V.str)) := upd_same
  generalize upd H l (.lst (xs.map V.str)) = H1 at s1 e1 ⊢
  refine ⟨.ref b, rfl, b, rfl, ⟨_, s1.tup hY⟩, fun D nD => lc_it walk_tup (fun i H' => Same H1 H' ∧ H' D = some (.lst (((ys.take i).filter fun y => !decide (y ∈ xs)).map V.str))) ⟨(Same.refl H1).put nD, upd_same⟩ (fun _ _ _ h => (s1.trans h.1).tup hY) ?_ ?_⟩
  · rintro i y H2 H3 hi ⟨s, e⟩ ⟨rfl, hy⟩
    rw [List.length_map] at hi
    have hx : ys[i]? = some ys[i] := List.getElem?_eq_getElem hi
    obtain rfl : V.str ys[i] = y := strAt_inj hx hy
    refine ⟨rfl, .str ys[i], rfl, .ref a, rfl, a, _, rfl, .inr ((s1.trans s).tup hS), rfl, flat_strs xs, _, rfl, bcase (fun c1 => ?_) (fun c1 => ?_)⟩
    · have c1 : (!decide (ys[i] ∈ xs)) = true := by rw [← inV_str]; exact c1
      refine ⟨_, rfl, grow (acc := fun i => ((ys.take i).filter fun y => !decide (y ∈ xs)).map V.str) nD s e ?_ ?_⟩
      · rw [List.length_map]
        refine small1000 (Nat.le_trans (List.length_filter_le _ _) ?_)
        rw [List.length_take]
        omega
      · show List.map V.str _ = _
        rw [take_more hx, List.filter_append, List.map_append, filter1, if_pos c1]
        rfl
    · have c1 : (!decide (ys[i] ∈ xs)) = false := by rw [← inV_str]; exact c1
      refine ⟨s, ?_⟩
      rw [take_more hx, List.filter_append, filter1, if_neg (by rw [c1]; exact Bool.false_ne_true), List.append_nil]
      exact e
  · rintro H2 ⟨s, e⟩
    rw [List.length_map, List.take_length] at e
    have hfl := List.length_filter_le (fun y => !decide (y ∈ xs)) ys
    refine ⟨l, D, _, _, rfl, rfl, s _ _ e1, e, big (by rw [List.length_map, List.length_map]; omega), fun p np => ?_⟩
    have s2 := (s1.trans s).put' (o := .lst (xs.map V.str ++ (ys.filter fun y => !decide (y ∈ xs)).map V.str)) np
    refine ⟨p, xs ++ ys.filter fun y => !decide (y ∈ xs), rfl, ?_, ?_, fun zs p2 hp hs np2 => ?_⟩
    · rw [List.map_append]
      exact sqL_new
    · rw [List.length_append]
      omega
    · refine ⟨p2, _, rfl, .inl ⟨sqL_new, fun p3 np3 => q _ p3 zs ((s2.put' np2).put' np3) upd_same hp hs⟩⟩
end
end Sc
namespace Sc
open PySem PySem.Spec PyProof.Rows L2
/-! ### an object Condition -/
theorem sc_Condition___init__ : FnScope ["self", "holding", "failing"] ["self", "holding", "failing"] (defScope s_Condition___init__) := ⟨rfl, rfl, rfl, by decide +kernel, rfl, by decide +kernel, by decide +kernel⟩
section
variable {P : Program} {w : World} {K : PySem.W.Frag} {mg : Str → Option Value} {base : Heap} {CC C : Addr}
theorem wrongs_none {xs ys : List Str} (h : firstWrong xs ys = none) (i : Nat) (hi : i < xs.length) : ((!isName xs[i] || !risesAt xs i) = false ∧ ¬ 8 ≤ ys.length + i) ∧ ¬ xs[i] ∈ ys := by
  unfold firstWrong at h
  rw [List.find?_eq_none] at h
  have h := (Bool.not_eq_true _).mp (h i (List.mem_range.mpr hi))
  unfold wrongAt at h
  rw [List.getElem?_eq_getElem hi] at h
  dsimp only at h
  rw [Bool.or_eq_false_iff, Bool.or_eq_false_iff (x := decide _)] at h
  exact ⟨⟨h.1, of_decide_eq_false h.2.1⟩, of_decide_eq_false h.2.2⟩
theorem fw_len {xs ys : List Str} (h : firstWrong xs ys = none) : xs.length = 0 ∨ ys.length + xs.length ≤ 8 := by
  by_cases e : xs.length = 0
  · exact .inl e
  · have := (wrongs_none h (xs.length - 1) (by omega)).1.2
    exact .inr (by omega)
theorem fw_out {xs ys : List Str} (h : firstWrong xs ys = none) : ∀ x ∈ xs, ¬ x ∈ ys := by
  intro x hx
  obtain ⟨i, hi, rfl⟩ := List.getElem_of_mem hx
  exact (wrongs_none h i hi).2
theorem filter_out {xs ys : List Str} (h : ∀ x ∈ xs, ¬ x ∈ ys) : xs.filter (fun x => !decide (x ∈ ys)) = xs := by
  rw [List.filter_eq_self]
  intro x hx
  rw [decide_eq_false (h x hx)]
  rfl
/-- all but the object at x stands -/
def SameX (x : Addr) (H H' : Hp) : Prop := ∀ b o, b ≠ x → H b = some o → H' b = some o
/-- the fields of a condition -/
def condF (a b n : Addr) : List (Str × V) := putF "_names" (.ref n) (putF "_failing" (.ref b) (putF "_holding" (.ref a) []))
def sp_cond_init (K : PySem.W.Frag) (C CC : Addr) : Sp := fun vs H Q E => ∃ (x dx a b : Addr) (xs ys : List Str), vs = [.ref x, .ref a, .ref b] ∧ H x = some (.ins C dx []) ∧ SqT K H a (xs.map V.str) ∧ SqT K H b (ys.map V.str) ∧ Txts xs ∧ Txts ys ∧ xs.length ≤ 1000 ∧ ys.length ≤ 1000 ∧
  (∀ i, firstWrong xs [] = some i → errPI CC ((0 : Nat) : Int) i H E) ∧ (firstWrong xs [] = none → (∀ i, firstWrong ys xs = some i → errPI CC ((1 : Nat) : Int) i H E) ∧
  (firstWrong ys xs = none → ∀ H' n zs, SameX x H H' → H' x = some (.ins C dx (condF a b n)) → H' n = some (.tup (zs.map V.str)) → zs.Perm (xs ++ ys) → sortedS zs = true → Q .non H'))
theorem sqT_upd {H : Hp} {x dx a' : Addr} {fs : List (Str × V)} {o : HO} {vs : List V} (hx : H x = some (.ins C dx fs)) (h : SqT K H a' vs) : SqT K (upd H x o) a' vs := by
  rcases h with (h | ⟨ob, h⟩) | h
  · have ne : a' ≠ x := fun e => by rw [e, hx] at h; cases h
    exact .inl (.inl (by rw [upd_ne ne]; exact h))
  · have ne : a' ≠ x := fun e => by rw [e, hx] at h; cases h
    exact .inl (.inr ⟨ob, by rw [upd_ne ne]; exact h⟩)
  · exact .inr h
theorem putF_len (f : Str) (v : V) : ∀ fs : List (Str × V), (putF f v fs).length ≤ fs.length + 1
  | [] => Nat.le_refl 1
  | (g, x) :: r => by
    unfold putF
    split
    · exact Nat.le_succ _
    · show (putF f v r).length + 1 ≤ r.length + 1 + 1
      exact Nat.succ_le_succ (putF_len f v r)
theorem ok_cond_init {f : Addr} {fd : FuncData} (F : Fun K "__init__" "Condition.__init__" s_Condition___init__ f fd) (B : Blt mg) (T : Cls K C) (n1 : NoAttr K C "_holding") (n2 : NoAttr K C "_failing") (n3 : NoAttr K C "_names")
    (c_check_part : Cal P w K mg base (L2.CX P w) 3 "check_part" ["part", "names", "before"] (sp_check_part K CC)) (c_merged : Cal P w K mg base CX0 1 "merged" ["names", "others"] (sp_merged K)) :
    FnOk P w K mg base (L2.CX P w) 4 f fd ["self", "holding", "failing"] (sp_cond_init K C CC) := by
  refine F.okX sc_Condition___init__ (fun vs H Q E h => by obtain ⟨x, dx, a, b, xs, ys, rfl, _⟩ := h; rfl) (fun cdv A outer s H vs Q E hr h => ?_)
  obtain ⟨x, dx, a, b, xs, ys, rfl, hx, hA, hB, tA, tB, lA, lB, e0, q⟩ := h
  refine ⟨_, (pss_cons (ps_expr (pe_calX c_check_part (hr.mono (by decide)) (takes_of rfl rfl rfl rfl) (pa_cons pe_int (pa_cons (pv 1) (pa_cons (pe_tup pa_nil) pa_nil)))))
      (pss_cons (ps_expr (pe_calX c_check_part (hr.mono (by decide)) (takes_of rfl rfl rfl rfl) (pa_cons pe_int (pa_cons (pv 2) (pa_cons (pv 1) pa_nil)))))
      (pss_cons (ps_fld (pv 0) (pv 1) rfl)
      (pss_cons (ps_fld (pv 0) (pv 2) rfl)
      (pss_one (ps_fld (pv 0) (pe_cal c_merged (hr.mono (by decide)) (pa_cons (pv 1) (pa_cons (pv 2) pa_nil))) rfl)))))), ?_⟩
  refine ⟨.ref a, rfl, Nat.zero_le _, fun t nt => ⟨0, a, t, xs, [], rfl, by decide, ((Same.refl H).put nt).tup hA, sqT_new, tA, lA, by decide, fun e1 H1 s1 => ?_, fun i ei H' d sH nd => e0 i ei H' d (((Same.refl H).put nt).trans sH) nd⟩⟩
  obtain ⟨e1', q⟩ := q e1
  have s1 := ((Same.refl H).put nt).trans s1
  refine ⟨.ref b, rfl, .ref a, rfl, 1, b, a, ys, xs, rfl, by decide, s1.tup hB, s1.tup hA, tB, lB, lA, fun e2 H2 s2 => ?_, fun i ei H' d sH nd => e1' i ei H' d (s1.trans sH) nd⟩
  have s2 := s1.trans s2
  have q := q e2
  have hlen : xs.length + ys.length < 64 := by
    have h1 := fw_len e1
    have h2 := fw_len e2
    simp only [List.length_nil] at h1
    omega
  have hx2 := s2 _ _ hx
  refine ⟨.ref a, rfl, .ref x, rfl, x, C, dx, [], rfl, hx2, T, n1, by decide, ?_⟩
  refine ⟨.ref b, rfl, .ref x, rfl, x, C, dx, _, rfl, upd_same, T, n2, Nat.lt_of_le_of_lt (putF_len _ _ _) (by decide), ?_⟩
  refine ⟨.ref a, rfl, .ref b, rfl, a, b, xs, ys, rfl, ?_, ?_, hlen, fun H' p zs sH ep hperm hsort => ?_⟩
  · exact sqT_upd upd_same (sqT_upd hx2 (s2.tup hA))
  · exact sqT_upd upd_same (sqT_upd hx2 (s2.tup hB))
  · rw [filter_out (fw_out e2)] at hperm
    refine ⟨.ref x, rfl, x, C, dx, _, rfl, sH _ _ upd_same, T, n3, Nat.lt_of_le_of_lt (putF_len _ _ _) (Nat.lt_of_le_of_lt (Nat.succ_le_succ (putF_len _ _ _)) (by decide)), q _ p zs (fun b' o ne hb => ?_) upd_same ?_ hperm hsort⟩
    · rw [upd_ne ne]
      refine sH _ _ ?_
      rw [upd_ne ne, upd_ne ne]
      exact s2 _ _ hb
    · have ne : p ≠ x := fun e => by
        have h2 := sH _ _ (upd_same (H := upd H2 x (.ins C dx (putF "_holding" (.ref a) []))) (a := x) (o := .ins C dx (putF "_failing" (.ref b) (putF "_holding" (.ref a) []))))
        rw [e, h2] at ep
        cases ep
      rw [upd_ne ne]
      exact ep
end
end Sc
namespace Sc
open PySem PySem.Spec PyProof.Rows L2
/-- len(o), o an object whose class has its own __len__ -/
def rLenO (C : Addr) (sp : Sp) : List V → Hp → VK → Prop := fun xs H Q => ∃ (a dx : Addr) (fs : List (Str × V)), xs = [.ref a] ∧ H a = some (.ins C dx fs) ∧ sp [.ref a] H (fun v H' => ∃ n : Nat, v = .int n ∧ n < 2 ^ 62 ∧ Q (.int n) H') (fun _ _ _ => False)
theorem call_lenO {X : Cx} {C g : Addr} {k : Nat} {fd : FuncData} {ps : List Str} {sp : Sp} (at_ : PySem.W.findIn X.K (.ref C) "__len__" = some (some (.ref g))) (ty : PySem.W.typeIn X.K (.ref g) = some (.type "function"))
    (F : FnOk X.prog X.w X.K X.mg X.base CX0 k g fd ps sp) (hr : Room (k + 1) X.A) (hb : Binds X.K fd ps []) : CallR X (.builtin "len") (rLenO C sp) := by
  intro pins s σ H xs us Q I r h
  obtain ⟨a, dx, fs, rfl, ea, h⟩ := h
  obtain ⟨u, rfl, ru⟩ := vals1 r
  obtain rfl : u = Value.ref a := ru
  obtain ⟨mA, O, _⟩ := ins_get I.hok ea
  obtain ⟨od, J, _⟩ := ObjM.look O
  have hl : ([Value.ref a] ++ ([] : List Value)).length = ps.length := F.len _ _ _ _ h
  refine Calls.call_function_entry kind_len plain_len entry_len (args_len1 (.ref a)) ?_
  unfold Builtin.len
  rw [show oneArg "len" { pos := [Value.ref a] } = pure (.ref a) from rfl, pure_bind]
  refine wpAny_bind (PySem.W.special_fn I.kIn J at_ ty (wpAny_call (codeAny_mono (F.run X.A.in1 X.stack s H ⟨[.ref a], []⟩ [.ref a] [.ref a] _ _ (Room.in1 hr) (Env0.in1 I.env0) (hb s [.ref a] I.kIn hl) (Paired.cons rfl .nil) h) fun res s' hq => ?_)))
  cases res with
  | error e => exact hq.elim
  | ok fl =>
    cases fl with
    | ret v =>
      obtain ⟨y, H', I', ry, n, rfl, hn, q⟩ := I.after hq
      obtain ⟨t, rfl⟩ := ry
      dsimp only
      have e62 : (2 : Nat) ^ 62 < 2 ^ 63 := by decide
      refine wpAny_bind (wpAny_holding (wpAny_pure (wpAny_bind (wpAny_letGo ?_))))
      have h1 : ¬ (n : Int) < 0 := by omega
      have h2 : ¬ (n : Int) ≥ 2 ^ 63 := by
        have : (n : Int) < 2 ^ 62 := by exact_mod_cast hn
        omega
      rw [if_neg h1, if_neg h2]
      exact wpAny_bind (wpAny_mkInt (wpAny_pure ⟨_, rfl, .int n, H', I'.tok _, ⟨_, rfl⟩, q⟩))
    | next => exact hq.elim
    | brk => exact hq.elim
    | cont => exact hq.elim
end Sc
namespace Sc
open PySem PySem.Spec PyProof.Rows L2
section
variable {P : Program} {w : World} {K : PySem.W.Frag} {mg : Str → Option Value} {base : Heap} {a l : Addr} {H H' H'' : Hp}
theorem wk_ss {X : Cx} {st : List Stmt} {t : TS} (t' : TS) (h : PSs X st t) (w : ∀ D σ H, t' D σ H → t D σ H) : PSs X st t' := ⟨fun pins s σ H D I x => h.run pins s σ H D I (w D σ H x)⟩
/-- a class whose objects a def of its own makes -/
structure Mkr (P : Program) (w : World) (K : PySem.W.Frag) (mg : Str → Option Value) (base : Heap) (k : Nat) (x : Str) (C : Addr) (ps : List Str) (sp : Sp) : Prop where
  ex : ∃ (f : Addr) (fd : FuncData), Mk K C f ∧ FnOk P w K mg base (L2.CX P w) k f fd ps sp ∧ mg x = some (.ref C) ∧ Binds K fd ps []
section
variable {X : Cx} {k : Nat} {x : Str} {C : Addr} {ps : List Str} {sp : Sp} {e : Expr} {es : List Expr} {t : TA} {p pos : Pos}
theorem pe_mkN (M : Mkr X.prog X.w X.K X.mg X.base k x C ps sp) (hr : Room (k + 1) X.A) (ha : PA X (e :: es) t) (hg : Gl X x := by rfl) (hdb : (x == ("__debug__" : Str)) = false := by decide)
    (he : starEach (e :: es) X.env = (false, eval e X.env) :: starEach es X.env := by rfl) (hpl : (backTo pos (starEach es X.env)).any (·.1) = false := by rfl) : PE X (.Call (.Name x p) (e :: es) [] pos) (tMake C sp [] E0 t) := by
  obtain ⟨f, fd, hk, F, hm, hb⟩ := M.ex
  exact pe_make hk F hr hg hm hb .nil passL ha hdb he hpl
theorem pe_mkX {E : XK} (M : Mkr X.prog X.w X.K X.mg X.base k x C ps sp) (hr : Room (k + 1) X.A) (tk : Takes X (fun cls d _ H => E cls d H)) (ha : PA X (e :: es) t) (hg : Gl X x := by rfl) (hdb : (x == ("__debug__" : Str)) = false := by decide)
    (he : starEach (e :: es) X.env = (false, eval e X.env) :: starEach es X.env := by rfl) (hpl : (backTo pos (starEach es X.env)).any (·.1) = false := by rfl) : PE X (.Call (.Name x p) (e :: es) [] pos) (tMake C sp [] E t) := by
  obtain ⟨f, fd, hk, F, hm, hb⟩ := M.ex
  exact pe_make hk F hr hg hm hb .nil (fun pins σ H s e s' I h => passAt tk σ pins H s e s' I h) ha hdb he hpl
end
def sp_prop (C : Addr) (n : Str) : Sp := fun vs H Q _ => ∃ (x dx : Addr) (fs : List (Str × V)) (v : V), vs = [.ref x] ∧ H x = some (.ins C dx fs) ∧ fs.lookup n = some v ∧ Q v H
def sp_len (K : PySem.W.Frag) (C : Addr) : Sp := fun vs H Q _ => ∃ (x dx n : Addr) (fs : List (Str × V)) (zs : List V), vs = [.ref x] ∧ H x = some (.ins C dx fs) ∧ fs.lookup ("_names" : Str) = some (.ref n) ∧ SqT K H n zs ∧ Q (.int zs.length) H
structure CondC (P : Program) (w : World) (K : PySem.W.Frag) (mg : Str → Option Value) (base : Heap) (C p1 g1 p2 g2 p3 g3 g4 : Addr) (fd1 fd2 fd3 fd4 : FuncData) : Prop where
  cls : Cls K C
  p_holding : PropOf K C "holding" p1 g1 ∧ FnOk P w K mg base CX0 1 g1 fd1 ["self"] (sp_prop C "_holding") ∧ Binds K fd1 ["self"] []
  p_failing : PropOf K C "failing" p2 g2 ∧ FnOk P w K mg base CX0 1 g2 fd2 ["self"] (sp_prop C "_failing") ∧ Binds K fd2 ["self"] []
  p_names : PropOf K C "names" p3 g3 ∧ FnOk P w K mg base CX0 1 g3 fd3 ["self"] (sp_prop C "_names") ∧ Binds K fd3 ["self"] []
  lenAt : PySem.W.findIn K (.ref C) "__len__" = some (some (.ref g4))
  lenTy : PySem.W.typeIn K (.ref g4) = some (.type "function")
  lenF : FnOk P w K mg base CX0 1 g4 fd4 ["self"] (sp_len K C)
  lenB : Binds K fd4 ["self"] []
end
end Sc
namespace Sc
open PySem PySem.Spec PyProof.Rows L2
theorem sc_Condition_holding : FnScope ["self"] ["self"] (defScope s_Condition_holding) := ⟨rfl, rfl, rfl, by decide +kernel, rfl, by decide +kernel, by decide +kernel⟩
theorem sc_Condition_failing : FnScope ["self"] ["self"] (defScope s_Condition_failing) := ⟨rfl, rfl, rfl, by decide +kernel, rfl, by decide +kernel, by decide +kernel⟩
theorem sc_Condition_names : FnScope ["self"] ["self"] (defScope s_Condition_names) := ⟨rfl, rfl, rfl, by decide +kernel, rfl, by decide +kernel, by decide +kernel⟩
theorem sc_Condition___len__ : FnScope ["self"] ["self"] (defScope s_Condition___len__) := ⟨rfl, rfl, rfl, by decide +kernel, rfl, by decide +kernel, by decide +kernel⟩
section
variable {P : Program} {w : World} {K : PySem.W.Frag} {mg : Str → Option Value} {base : Heap} {C : Addr}
theorem ok_holding {f : Addr} {fd : FuncData} (F : Fun K "holding" "Condition.holding" s_Condition_holding f fd) (T : Cls K C) (n : NoAttr K C "_holding") : FnOk P w K mg base CX0 1 f fd ["self"] (sp_prop C "_holding") := by
  refine F.ok sc_Condition_holding (fun vs H Q E h => by obtain ⟨x, dx, fs, v, rfl, _⟩ := h; rfl) (fun cdv A outer s H vs Q E hr h => ?_)
  obtain ⟨x, dx, fs, v, rfl, hx, hl, q⟩ := h
  exact ⟨_, (pss_one (ps_ret (pe_fld (pv 0) rfl))), ⟨_, rfl, x, C, dx, fs, v, rfl, hx, T, n, hl, q⟩⟩
theorem ok_failing {f : Addr} {fd : FuncData} (F : Fun K "failing" "Condition.failing" s_Condition_failing f fd) (T : Cls K C) (n : NoAttr K C "_failing") : FnOk P w K mg base CX0 1 f fd ["self"] (sp_prop C "_failing") := by
  refine F.ok sc_Condition_failing (fun vs H Q E h => by obtain ⟨x, dx, fs, v, rfl, _⟩ := h; rfl) (fun cdv A outer s H vs Q E hr h => ?_)
  obtain ⟨x, dx, fs, v, rfl, hx, hl, q⟩ := h
  exact ⟨_, (pss_one (ps_ret (pe_fld (pv 0) rfl))), ⟨_, rfl, x, C, dx, fs, v, rfl, hx, T, n, hl, q⟩⟩
theorem ok_cnames {f : Addr} {fd : FuncData} (F : Fun K "names" "Condition.names" s_Condition_names f fd) (T : Cls K C) (n : NoAttr K C "_names") : FnOk P w K mg base CX0 1 f fd ["self"] (sp_prop C "_names") := by
  refine F.ok sc_Condition_names (fun vs H Q E h => by obtain ⟨x, dx, fs, v, rfl, _⟩ := h; rfl) (fun cdv A outer s H vs Q E hr h => ?_)
  obtain ⟨x, dx, fs, v, rfl, hx, hl, q⟩ := h
  exact ⟨_, (pss_one (ps_ret (pe_fld (pv 0) rfl))), ⟨_, rfl, x, C, dx, fs, v, rfl, hx, T, n, hl, q⟩⟩
theorem ok_clen {f : Addr} {fd : FuncData} (F : Fun K "__len__" "Condition.__len__" s_Condition___len__ f fd) (B : Blt mg) (T : Cls K C) (n : NoAttr K C "_names") : FnOk P w K mg base CX0 1 f fd ["self"] (sp_len K C) := by
  refine F.ok sc_Condition___len__ (fun vs H Q E h => by obtain ⟨x, dx, m, fs, zs, rfl, _⟩ := h; rfl) (fun cdv A outer s H vs Q E hr h => ?_)
  obtain ⟨x, dx, m, fs, zs, rfl, hx, hl, hz, q⟩ := h
  exact ⟨_, (pss_one (ps_ret (pe_callB call_len_seq (by rfl) B.b_len PySem.boot_len (pa_cons (pe_fld (pv 0) rfl) pa_nil)))), ⟨_, rfl, x, C, dx, fs, _, rfl, hx, T, n, hl, m, _, rfl, .inr hz, q⟩⟩
end
end Sc
namespace Sc
open PySem PySem.Spec PyProof.Rows L2
def SLe (a b : Str) : Prop := a.cps.toList ≤ b.cps.toList
theorem rising_pw : ∀ (x : Str) (r : List Str), risingS x r = true → (∀ y ∈ r, SLe x y) ∧ r.Pairwise SLe
  | _, [], _ => ⟨(fun _ h => nomatch h), List.Pairwise.nil⟩
  | x, y :: r, h => by
    have h : (!ltCps y.cps.toList x.cps.toList && risingS y r) = true := h
    rw [Bool.and_eq_true, ltCps_eq] at h
    obtain ⟨h1, h2⟩ := h
    obtain ⟨i1, i2⟩ := rising_pw y r h2
    have hxy : SLe x y := by
      have h1 : ¬ y.cps.toList < x.cps.toList := by simpa using h1
      exact h1
    refine ⟨fun z hz => ?_, List.pairwise_cons.mpr ⟨i1, i2⟩⟩
    rcases List.mem_cons.mp hz with rfl | h
    · exact hxy
    · exact List.le_trans hxy (i1 z h)
theorem sorted_pw : ∀ {r : List Str}, sortedS r = true → r.Pairwise SLe
  | [], _ => .nil
  | x :: r, h => List.pairwise_cons.mpr (rising_pw x r h)
theorem str_ext {a b : Str} (h : a.cps.toList = b.cps.toList) : a = b := by
  obtain ⟨x⟩ := a
  obtain ⟨y⟩ := b
  congr 1
  exact Array.toList_inj.mp h
theorem sorted_uniq {a b : List Str} (p : a.Perm b) (sa : sortedS a = true) (sb : sortedS b = true) : a = b :=
  List.Perm.eq_of_pairwise (le := SLe) (fun x y _ _ h1 h2 => str_ext (List.le_antisymm h1 h2)) (sorted_pw sa) (sorted_pw sb) p
end Sc
namespace OwnX
open PySem PySem.Spec PyProof.Rows PySem.W
section
variable {prog : Program} {w : World} {M : Model} {A : Around} {E : Value → Shared → Prop} {s : Shared} {K : Frag} {x C L f : Addr} {h₀ : Heap} {m : Str → Option Value} {ox : Obj} {od : Option Obj}
/-- x op b, both of the class at C -/
theorem bin_same {op : Operator} {b : Value} {Q : Value → Shared → Prop} (X : K.In s.heap) (I : InstAt s.heap x ox C od) (hb : Looks (model prog w) s.heap (typeOf b) (.ref C)) (hc : selfFirst K C = true)
    (hs : findIn K (.ref C) (PySem.dunder op.info.2) = some (some (.ref f))) (hf : isFn K (.ref f) = true)
    (h : wpAny (model prog w) A (call (.ref f) [.ref x, b]) (PySem.W.CmpBack Q) E s) : wpAny (model prog w) A (binaryOp op (.ref x) b) Q E s := by
  obtain ⟨cd, rest, hcd, hm⟩ := ksp_first hc
  rcases hi : op.info with ⟨sym, nm'⟩
  rw [hi] at hs
  dsimp only at hs
  have one := ksp_try X I hs hf h
  obtain ⟨hh, g, d, tt, os⟩ := s
  have L1 : Looks (model prog w) hh (typeOf (.ref x)) (.ref C) := I.type
  have L3 : Looks (model prog w) hh (fillsNumberSlot (.ref C) nm') true := fills_K X hcd hm hs
  simp only [binaryOp, hi]
  refine wpAny_holding (wpAny_bind ?_)
  unfold binaryOp1
  refine wpAny_bind (L1.at (wpAny_bind (hb.at (wpAny_bind (L3.at ?_)))))
  have e : (Value.ref C == Value.ref C) = true := beq_self_eq_true _
  simp only [e, if_true]
  ksp_lk
  refine wpAny_mono one (fun r s' hr' => ?_) fun _ _ e => e
  obtain ⟨v, rfl, hq⟩ := hr'
  ksp_lk
  exact hq
theorem ifBound_ne {args : List Value} {Q : Option Value → Shared → Prop} (X : K.In s.heap) (I : InstAt s.heap x ox C od) (hs : findIn K (.ref C) "__ne__" = some (some (.builtin "object.__ne__")))
    (h : wpAny M A (call (.builtin "object.__ne__") (.ref x :: args)) (fun v => Q (some v)) E s) : wpAny M A (callSpecialIfBound? (.ref x) "__ne__" args) Q E s := by
  simp only [callSpecialIfBound?, bindSpecialIfBound?]
  refine wpAny_holding (wpAny_bind (wpAny_bind (wpAny_bind (I.type.here ((looks_findIn X hs).here ?_)))))
  refine wpAny_bind (wpAny_askSetting (wpAny_ite ?_))
  have fin : wpAny M A (call (.builtin "object.__ne__") ([.ref x] ++ args) >>= fun v => pure (some v)) Q E s := wpAny_bind (wpAny_mono h (fun v s' h' => wpAny_pure h') fun _ _ h' => h')
  split
  · exact wpAny_bind (wpAny_of_eq (F.cmp_object.ne.bind _) (wpAny_pure (by exact fin)))
  · exact wpAny_tryCatch (wpAny_bind (wpAny_of_eq (F.cmp_object.ne.bind _) (wpAny_pure (by exact fin))))
theorem entry_ne {b : Value} {Q : Fin → Shared → Prop} (X : K.In s.heap) (I : InstAt s.heap x ox C od) (hs : findIn K (.ref C) "__eq__" = some (some (.ref f))) (hf : isFn K (.ref f) = true) (hu : A.units < cLine)
    (h : wpAny (model prog w) A (call (.ref f) [.ref x, b]) (fun v s' => ∃ b, v = .bool b ∧ Q (.done (.ret (.bool (!b)))) s') E s) : wpAny (model prog w) A (Builtin.«object.__ne__» ⟨[.ref x, b], []⟩) Q E s := by
  unfold Builtin.«object.__ne__»
  repeat (first
    | with_reducible refine wpAny_cRoomFor hu ?_
    | (refine wpAny_bind (m := callSpecialIfBound? (.ref x) (Str.ofString "__eq__") [b])
        (ifBound_K X I hs hf (wpAny_mono h (fun r s' hr => by
          obtain ⟨b, rfl, hq⟩ := hr
          repeat (first | exact hq | exact wpAny_pure hq | exact wpAny_truthy_bool hq | (refine wpAny_bind (m := truthy (.bool _)) (wpAny_truthy_bool ?_)) | wp_step)) fun _ _ e => e)))
    | wp_step)
theorem try_ne {b : Value} {Q : Option Value → Shared → Prop} (X : K.In s.heap) (I : InstAt s.heap x ox C od) (hm : mroIn K C (.type "object") = some true) (hn : findIn K (.ref C) "__ne__" = some (some (.builtin "object.__ne__")))
    (hs : findIn K (.ref C) "__eq__" = some (some (.ref f))) (hf : isFn K (.ref f) = true) (hu : A.units + 1 < cLine)
    (h : wpAny (model prog w) A.in1 (call (.ref f) [.ref x, b]) (fun v s' => ∃ b, v = .bool b ∧ Q (some (.bool (!b))) s') E s) : wpAny (model prog w) A (tryCompare (.ref x) "__ne__" b) Q E s := by
  unfold tryCompare
  refine wpAny_bind (ifBound_ne X I hn (wpAny_call (codeAny_call_builtin F.cmp_object.ne.plain F.cmpEntry_ne (check_slot F.cmpKind_ne F.cmpSplit_ne (I.type.andThen (looks_mroIn X hm)) (F.cmpArgs_ne _ _)
    (entry_ne (A := A.in1) X I hs hf hu (wpAny_mono h (fun v s' hv => ?_) fun _ _ e => e))))))
  obtain ⟨b, rfl, hq⟩ := hv
  first | exact ⟨b, rfl, wpAny_pure hq⟩ | exact ⟨b, rfl, wpAny_pure (wpAny_pure hq)⟩ | exact ⟨b, rfl, hq⟩
theorem ne_K {b tb : Value} {Q : Value → Shared → Prop} (hu : A.units + 1 < cLine) (X : K.In s.heap) (I : InstAt s.heap x ox C od) (hb : Looks (model prog w) s.heap (typeOf b) tb) (hnf : notFirst K C tb = true)
    (hm : mroIn K C (.type "object") = some true) (hn : findIn K (.ref C) "__ne__" = some (some (.builtin "object.__ne__"))) (hs : findIn K (.ref C) "__eq__" = some (some (.ref f))) (hf : isFn K (.ref f) = true)
    (h : wpAny (model prog w) A.in1 (call (.ref f) [.ref x, b]) (fun v s' => ∃ b, v = .bool b ∧ Q (.bool (!b)) s') E s) : wpAny (model prog w) A (richCompare .NotEq (.ref x) b) Q E s := by
  have one : wpAny (model prog w) A (tryCompare (.ref x) "__ne__" b) (fun r s' => ∃ v, r = some v ∧ Q v s') E s := try_ne X I hm hn hs hf hu (wpAny_mono h (fun v s' ⟨b, e, q⟩ => ⟨b, e, _, rfl, q⟩) fun _ _ e => e)
  unfold richCompare
  simp only [oneThing_ref]
  refine wpAny_holding (wpAny_bind (wpAny_cRoomFor (Nat.lt_of_succ_lt hu) ?_))
  rw [cmpInfo_NotEq]
  dsimp only
  refine wpAny_bind (I.type.here (wpAny_bind (hb.here ?_)))
  split
  · rename_i q
    have e : subIn K tb (.ref C) = some false := by
      rcases Bool.or_eq_true_iff.mp hnf with e | e
      · rw [beq_iff_eq.mp e] at q; simp at q
      · exact beq_iff_eq.mp e
    refine wpAny_bind ((looks_subIn X e).here ?_)
    simp only [Bool.false_eq_true, if_false]
    refine wpAny_bind (wpAny_mono one (fun r s' z => ?_) fun _ _ e => e)
    obtain ⟨v, rfl, hq⟩ := z
    exact wpAny_pure hq
  · refine wpAny_bind (wpAny_pure ?_)
    simp only [Bool.false_eq_true, if_false]
    refine wpAny_bind (wpAny_mono one (fun r s' z => ?_) fun _ _ e => e)
    obtain ⟨v, rfl, hq⟩ := z
    exact wpAny_pure hq
end
end OwnX
namespace Sc
open PySem PySem.Spec PyProof.Rows L2
/-- a value's type, as comparisons ask for it -/
inductive TyR (K : PySem.W.Frag) (H : Hp) : V → Value → Prop where
  | non : TyR K H .non (.type "NoneType")
  | int (i : Int) : TyR K H (.int i) (.type "int")
  | str (x : Str) : TyR K H (.str x) (.type "str")
  | lst {a : Addr} {xs : List V} (e : SqL K H a xs) : TyR K H (.ref a) (.type "list")
  | tup {a : Addr} {xs : List V} (e : SqT K H a xs) : TyR K H (.ref a) (.type "tuple")
  | ins {a C dx : Addr} {fs : List (Str × V)} (e : H a = some (.ins C dx fs)) : TyR K H (.ref a) (.ref C)
section
variable {X : Cx} {CX : CXT} {C g : Addr} {k : Nat} {fd : FuncData} {ps : List Str} {sp : Sp} {E : XK}
theorem TyR.looks {pins : List (Addr × Obj)} {σ : L2.St} {H : Hp} {s : Shared} {y : V} {t u : Value} (I : Inv X pins σ H s) (h : TyR X.K H y t) (r : RelV y u) {prog : Program} {w : World} : PySem.W.Looks (model prog w) s.heap (typeOf u) t := by
  cases h with
  | non => cases r; exact PySem.W.Looks.of_pure rfl
  | int i => obtain ⟨t, rfl⟩ := r; exact PySem.W.Looks.of_pure rfl
  | str i => obtain ⟨t, rfl⟩ := r; exact PySem.W.Looks.of_pure rfl
  | lst e =>
    cases r
    obtain ⟨its, _, ⟨o, n, ho, hc, _⟩, _⟩ := I.list e
    exact fun A Q E s k q => wpAny_typeOf_ref (k _ _ ho) (by rw [hc]; exact q)
  | tup e =>
    cases r
    obtain ⟨its, _, ⟨o, ho, hc, _⟩, _⟩ := I.tuple e
    exact fun A Q E s k q => wpAny_typeOf_ref (k _ _ ho) (by rw [hc]; exact q)
  | ins e =>
    cases r
    obtain ⟨mA, O, _⟩ := ins_get I.hok e
    obtain ⟨od, J, _⟩ := O.look
    exact J.type
/-- x == y, x of the class at C with its own __eq__ at g -/
def rEqO (K : PySem.W.Frag) (C : Addr) (sp : Sp) (E : XK) : R2 := fun x y H Q => ∃ (a dx : Addr) (fs : List (Str × V)) (tb : Value), x = .ref a ∧ H a = some (.ins C dx fs) ∧ TyR K H y tb ∧ PySem.W.notFirst K C tb = true ∧ sp [x, y] H Q E
theorem op_eqO (hs : PySem.W.findIn X.K (.ref C) "__eq__" = some (some (.ref g))) (hf : PySem.W.isFn X.K (.ref g) = true) (F : FnOk X.prog X.w X.K X.mg X.base CX k g fd ps sp) (hr : Room k X.A) (hb : Binds X.K fd ps []) (hx : Passes CX X E) : OpR X (compareOp .Eq) (rEqO X.K C sp E) := by
  intro pins s σ H x y v u Q I rx ry h
  obtain ⟨a, dx, fs, tb, rfl, ha, hy, hn, q⟩ := h
  cases (show v = Value.ref a from rx)
  obtain ⟨mA, O, _⟩ := ins_get I.hok ha
  obtain ⟨od, J, _⟩ := O.look
  obtain ⟨m, hF⟩ := I.fr
  show wpAny _ _ (richCompare .Eq _ _) _ _ _
  refine PySem.W.cmp_K (op := .Eq) (tb := tb) hr.units0 hF I.ok.mod.kin J (hy.looks I ry) hn hs hf ?_
  refine wpAny_mono (run_fn (us := [.ref a, u]) (vs := [.ref a, y]) (dvs := []) F hr hb .nil hx I (.cons rfl (.cons ry .nil)) q) (fun w s' z => ?_) fun _ _ x => x
  obtain ⟨z', H', I', rz, qz⟩ := z
  exact SlX.cmpback rz ⟨z', H', I', rz, qz⟩
/-- x != y by the same -/
def rNeO (K : PySem.W.Frag) (C : Addr) (sp : Sp) (E : XK) : R2 := fun x y H Q => ∃ (a dx : Addr) (fs : List (Str × V)) (tb : Value), x = .ref a ∧ H a = some (.ins C dx fs) ∧ TyR K H y tb ∧ PySem.W.notFirst K C tb = true ∧ sp [x, y] H (fun v H' => ∃ b, v = .bl b ∧ Q (.bl (!b)) H') E
theorem op_neO (hm : PySem.W.mroIn X.K C (.type "object") = some true) (hne : PySem.W.findIn X.K (.ref C) "__ne__" = some (some (.builtin "object.__ne__"))) (hs : PySem.W.findIn X.K (.ref C) "__eq__" = some (some (.ref g))) (hf : PySem.W.isFn X.K (.ref g) = true)
    (F : FnOk X.prog X.w X.K X.mg X.base CX k g fd ps sp) (hr : Room (k + 1) X.A) (hb : Binds X.K fd ps []) (hx : Passes CX X E) : OpR X (compareOp .NotEq) (rNeO X.K C sp E) := by
  intro pins s σ H x y v u Q I rx ry h
  obtain ⟨a, dx, fs, tb, rfl, ha, hy, hn, q⟩ := h
  cases (show v = Value.ref a from rx)
  obtain ⟨mA, O, _⟩ := ins_get I.hok ha
  obtain ⟨od, J, _⟩ := O.look
  show wpAny _ _ (richCompare .NotEq _ _) _ _ _
  have hu : X.A.units + 1 < cLine := by have := hr.un; omega
  refine OwnX.ne_K hu I.kIn J (hy.looks I ry) hn hm hne hs hf ?_
  have hl : ([Value.ref a, u] ++ ([] : List Value)).length = ps.length := F.len _ _ _ _ q
  refine wpAny_call (codeAny_mono (F.run X.A.in1 X.stack s H ⟨[.ref a, u], []⟩ [.ref a, u] [.ref a, y] _ _ hr.in1 I.env0.in1 (hb s [.ref a, u] I.kIn hl) (.cons rfl (.cons ry .nil)) q) fun r s' hq => ?_)
  cases r with
  | error e => exact hx pins σ H s e s' I hq
  | ok fl =>
    cases fl with
    | ret w =>
      obtain ⟨v, H', I', rv, b, rfl, qz⟩ := I.after hq
      cases rv
      exact ⟨b, rfl, .bl (!b), H', I', rfl, qz⟩
    | next => exact hq.elim
    | brk => exact hq.elim
    | cont => exact hq.elim
/-- x op y, both of the class at C, whose own method for op is at g -/
def rBinO (C : Addr) (sp : Sp) (E : XK) : R2 := fun x y H Q => ∃ (a dx : Addr) (fs : List (Str × V)) (b dy : Addr) (gs : List (Str × V)), x = .ref a ∧ y = .ref b ∧ H a = some (.ins C dx fs) ∧ H b = some (.ins C dy gs) ∧ sp [x, y] H Q E
theorem op_binO {op : Operator} (hc : PySem.W.selfFirst X.K C = true) (hs : PySem.W.findIn X.K (.ref C) (PySem.dunder op.info.2) = some (some (.ref g))) (hf : PySem.W.isFn X.K (.ref g) = true)
    (F : FnOk X.prog X.w X.K X.mg X.base CX k g fd ps sp) (hr : Room k X.A) (hb : Binds X.K fd ps []) (hx : Passes CX X E) : OpR X (binaryOp op) (rBinO C sp E) := by
  intro pins s σ H x y v u Q I rx ry h
  obtain ⟨a, dx, fs, b, dy, gs, rfl, rfl, ha, hy, q⟩ := h
  cases (show v = Value.ref a from rx)
  cases (show u = Value.ref b from ry)
  obtain ⟨mA, O, _⟩ := ins_get I.hok ha
  obtain ⟨od, J, _⟩ := O.look
  obtain ⟨mA', O', _⟩ := ins_get I.hok hy
  obtain ⟨od', J', _⟩ := O'.look
  refine OwnX.bin_same I.kIn J J'.type hc hs hf ?_
  refine wpAny_mono (run_fn (us := [.ref a, .ref b]) (vs := [.ref a, .ref b]) (dvs := []) F hr hb .nil hx I (.cons rfl (.cons rfl .nil)) q) (fun w s' z => ?_) fun _ _ x => x
  obtain ⟨z', H', I', rz, qz⟩ := z
  exact SlX.cmpback rz ⟨z', H', I', rz, qz⟩
end
end Sc
namespace Sc
open PySem PySem.Spec PyProof.Rows L2
/-- texts that can be compared and are not long -/
def Fine (x : Str) : Prop := x.length ≤ 1000 ∧ (PyData.str x).canLay0 = true
def Fines (xs : List Str) : Prop := ∀ x ∈ xs, Fine x
section
variable {P : Program} {w : World} {K : PySem.W.Frag} {mg : Str → Option Value} {base : Heap} {a l : Addr} {H H' H'' : Hp}
theorem Fines.txts {xs : List Str} (h : Fines xs) : Txts xs := fun x hx => (h x hx).1
theorem dps (K : PySem.W.Frag) (H : Hp) : ∀ xs : List Str, DpAll K H (xs.map V.str) (xs.map PyData.str)
  | [] => .nil
  | x :: r => .cons (.str x) (dps K H r)
theorem strs_lay : ∀ {xs : List Str}, Fines xs → PyData.canLayAll0 (xs.map PyData.str) = true
  | [], _ => rfl
  | x :: r, h => by
    show ((PyData.str x).canLay0 && PyData.canLayAll0 (r.map PyData.str)) = true
    rw [(h x List.mem_cons_self).2, strs_lay fun y hy => h y (List.mem_cons_of_mem x hy)]
    rfl
theorem strs_depth : ∀ xs : List Str, PyData.depthAll (xs.map PyData.str) = 0
  | [] => rfl
  | x :: r => by
    show max (PyData.str x).depth (PyData.depthAll (r.map PyData.str)) = 0
    rw [strs_depth r]
    rfl
theorem shT {xs : List Str} (h : Fines xs) : SeqAt.shaped (.tuple (xs.map PyData.str)) = true := by
  unfold SeqAt.shaped
  have e1 : (PyData.tuple (xs.map PyData.str)).canLay0 = true := strs_lay h
  have e2 : (PyData.tuple (xs.map PyData.str)).depth = 1 := by show PyData.depthAll (xs.map PyData.str) + 1 = 1; rw [strs_depth]
  rw [e1, e2]
  rfl
theorem shL {xs : List Str} (h : Fines xs) : SeqAt.shaped (.list (xs.map PyData.str)) = true := by
  unfold SeqAt.shaped
  have e1 : (PyData.list (xs.map PyData.str)).canLay0 = true := strs_lay h
  have e2 : (PyData.list (xs.map PyData.str)).depth = 1 := by show PyData.depthAll (xs.map PyData.str) + 1 = 1; rw [strs_depth]
  rw [e1, e2]
  rfl
theorem eqvA_nil : ∀ xs : List Str, PyData.eqvAll (xs.map PyData.str) [] = decide (xs = [])
  | [] => rfl
  | _ :: _ => rfl
theorem eqvA : ∀ xs ys : List Str, PyData.eqvAll (xs.map PyData.str) (ys.map PyData.str) = decide (xs = ys)
  | [], [] => rfl
  | [], _ :: _ => rfl
  | _ :: _, [] => rfl
  | x :: r, y :: t => by
    show ((x == y) && PyData.eqvAll (r.map PyData.str) (t.map PyData.str)) = _
    rw [eqvA r t]
    by_cases h : x = y
    · subst h
      simp
    · have e : (x == y) = false := by simpa using h
      rw [e, Bool.false_and, decide_eq_false fun z => h (List.cons.inj z).1]
def chr1 (c : Nat) : Str := ⟨#[c]⟩
def oddL (x : Str) (i : Nat) : List Str := ((x.cps.toList.take i).filter fun c => !decide (c ∈ letters.cps.toList)).map chr1
theorem oddL_len {x : Str} {i : Nat} : (oddL x i).length ≤ x.length := by
  unfold oddL
  rw [List.length_map]
  exact Nat.le_trans (List.length_filter_le _ _) (by rw [List.length_take]; exact Nat.min_le_right _ _)
theorem oddL_fine {x : Str} {i : Nat} (h : Fine x) : Fines (oddL x i) := by
  intro y hy
  unfold oddL at hy
  obtain ⟨c, hc, rfl⟩ := List.mem_map.mp hy
  have hc := List.mem_of_mem_take (List.mem_filter.mp hc).1
  refine ⟨(show 1 ≤ 1000 by decide), ?_⟩
  have h2 : PyData.strOk x = true := h.2
  show PyData.strOk (chr1 c) = true
  unfold PyData.strOk at h2 ⊢
  rw [Array.all_eq_true'] at h2
  have h3 := h2 c (by rw [← Array.mem_toList_iff]; exact hc)
  rw [Array.all_eq_true']
  intro y hy
  have ey : y = c := by
    have hy : y ∈ (#[c] : Array Nat) := hy
    simpa using hy
  subst ey
  exact h3
theorem oddL_nil {x : Str} : decide (oddL x x.length = []) = isLetters x := by
  have el : x.cps.toList.take x.length = x.cps.toList := List.take_of_length_le (by rw [Array.length_toList]; exact Nat.le_refl _)
  unfold oddL isLetters
  rw [el]
  cases h : x.cps.toList.all fun c => decide (c ∈ letters.cps.toList) with
  | true =>
    rw [List.all_eq_true] at h
    have e : (x.cps.toList.filter fun c => !decide (c ∈ letters.cps.toList)) = [] := by
      rw [List.filter_eq_nil_iff]
      intro c hc z
      rw [h c hc] at z
      cases z
    rw [e]
    rfl
  | false =>
    rw [decide_eq_false]
    intro z
    have z := List.map_eq_nil_iff.mp z
    rw [List.filter_eq_nil_iff] at z
    rw [List.all_eq_false] at h
    obtain ⟨c, hc, hn⟩ := h
    exact z c hc (by cases e : decide (c ∈ letters.cps.toList) with | true => exact absurd e hn | false => rfl)
theorem risesAt_eq {xs : List Str} {i : Nat} (hi : i < xs.length) (h0 : i ≠ 0) (h1 : i - 1 < xs.length) : risesAt xs i = decide (xs[i - 1].cps.toList < xs[i].cps.toList) := by
  unfold risesAt
  rw [decide_eq_false h0, Bool.false_or, List.getElem?_eq_getElem h1, List.getElem?_eq_getElem hi]
theorem risesAt_0 {xs : List Str} : risesAt xs 0 = true := rfl
theorem strG {xs : List Str} {i : Nat} (hi : i < xs.length) : (xs.map V.str)[i]? = some (.str xs[i]) := by rw [List.getElem?_map, List.getElem?_eq_getElem hi]; rfl
theorem small_lim {z : Int} (h0 : 0 ≤ z) (h1 : z ≤ 1000) : z.natAbs.log2 < 9000 := by
  by_cases e : z.natAbs = 0
  · rw [e]; decide
  · exact (Nat.log2_lt e).mpr (Nat.lt_of_le_of_lt (show z.natAbs ≤ 2 ^ 10 by omega) (Nat.pow_lt_pow_right (by decide) (by decide)))
end
end Sc
namespace Sc
open PySem PySem.Spec PyProof.Rows L2
/-! ### what a condition does -/
theorem sc_Condition___call__ : FnScope ["self", "case", "held", "name"] ["self", "case"] (defScope s_Condition___call__) := ⟨rfl, rfl, rfl, by decide +kernel, rfl, by decide +kernel, by decide +kernel⟩
/-- the texts in their order -/
def srt (l : List Str) : List Str := l.mergeSort fun a b => decide (a.cps.toList ≤ b.cps.toList)
theorem srt_perm (l : List Str) : (srt l).Perm l := List.mergeSort_perm _ _
theorem rising_of : ∀ (x : Str) (r : List Str), (∀ y ∈ r, SLe x y) → r.Pairwise SLe → risingS x r = true
  | _, [], _, _ => rfl
  | x, y :: r, h1, h2 => by
    have h2 := List.pairwise_cons.mp h2
    show (!ltCps y.cps.toList x.cps.toList && risingS y r) = true
    rw [Bool.and_eq_true, ltCps_eq]
    refine ⟨?_, rising_of y r h2.1 h2.2⟩
    have h3 : x.cps.toList ≤ y.cps.toList := h1 y List.mem_cons_self
    rw [decide_eq_false (show ¬ y.cps.toList < x.cps.toList from fun z => List.not_lt.mpr h3 z)]
    rfl
theorem sorted_of : ∀ {r : List Str}, r.Pairwise SLe → sortedS r = true
  | [], _ => rfl
  | x :: r, h => rising_of x r (List.pairwise_cons.mp h).1 (List.pairwise_cons.mp h).2
theorem srt_sorted (l : List Str) : sortedS (srt l) = true := by
  refine sorted_of ((List.pairwise_mergeSort (le := fun a b : Str => decide (a.cps.toList ≤ b.cps.toList)) (fun a b c h1 h2 => ?_) (fun a b => ?_) l).imp fun h => of_decide_eq_true h)
  · exact decide_eq_true (List.le_trans (of_decide_eq_true h1) (of_decide_eq_true h2))
  · rw [Bool.or_eq_true]
    rcases List.le_total a.cps.toList b.cps.toList with h | h
    · exact .inl (decide_eq_true h)
    · exact .inr (decide_eq_true h)
/-- an object Condition -/
structure CondAt (K : PySem.W.Frag) (C : Addr) (H : Hp) (o : Addr) (hs fs : List Str) : Prop where
  at_ : ∃ (dx a b n : Addr) (zs : List Str), H o = some (.ins C dx (condF a b n)) ∧ SqT K H a (hs.map V.str) ∧ SqT K H b (fs.map V.str) ∧ H n = some (.tup (zs.map V.str)) ∧ zs = srt (hs ++ fs)
theorem CondAt.same {K : PySem.W.Frag} {C : Addr} {H H' : Hp} {o : Addr} {hs fs : List Str} (h : CondAt K C H o hs fs) (s : Same H H') : CondAt K C H' o hs fs := by
  obtain ⟨dx, a, b, n, zs, h1, h2, h3, h4, h5⟩ := h.at_
  exact ⟨dx, a, b, n, zs, s _ _ h1, s.tup h2, s.tup h3, s _ _ h4, h5⟩
def meets (hs fs case : List Str) : Bool := (hs.all fun x => decide (x ∈ case)) && !(fs.any fun x => decide (x ∈ case))
section
variable {P : Program} {w : World} {K : PySem.W.Frag} {mg : Str → Option Value} {base : Heap} {CC C : Addr}
/-- [name in case for name in xs]: the truths -/
theorem inAll {H1 : Hp} {D c : Addr} {xs cs : List Str} {W : Nat} {X : Cx} {σ : L2.St} : True := trivial
def sp_ccall (K : PySem.W.Frag) (C : Addr) : Sp := fun vs H Q _ => ∃ (o c : Addr) (hs fs cs : List Str), vs = [.ref o, .ref c] ∧ CondAt K C H o hs fs ∧ SqT K H c (cs.map V.str) ∧ hs.length ≤ 1000 ∧ fs.length ≤ 1000 ∧ ∀ H', Same H H' → Q (.bl (meets hs fs cs)) H'
theorem ok_ccall {f : Addr} {fd : FuncData} (F : Fun K "__call__" "Condition.__call__" s_Condition___call__ f fd) (B : Blt mg) (T : Cls K C) (n1 : NoAttr K C "_holding") (n2 : NoAttr K C "_failing") : FnOk P w K mg base CX0 1 f fd ["self", "case"] (sp_ccall K C) := by
  refine F.ok sc_Condition___call__ (fun vs H Q E h => by obtain ⟨o, c, hs, fs, cs, rfl, _⟩ := h; rfl) (fun cdv A outer s H vs Q E hr h => ?_)
  obtain ⟨o, c, hs, fs, cs, rfl, hC, hc, l1, l2, q⟩ := h
  obtain ⟨dx, a, b, n, zs, ho, ha, hb, _⟩ := hC.at_
  refine ⟨_, (pss_cons (ps_set (i := 2) sc_Condition___call__.nd rfl (Or.inl rfl) (pe_callB (cr_all rfl) (by rfl) B.b_all PyProof.Rows.boot_all (pa_cons (pe_lc (own := [("name", 3)]) (g := gName 3) (tt := tYes) rfl sc_Condition___call__.nd (pi_tup (pe_fld (pv 0) rfl)) (blkOk_by (own := [("name", 3)]) (N := ["self", "case", "held", "name"]) (sc := defScope s_Condition___call__) (by decide +kernel)) (fun _ _ _ _ _ => (pg_name (i := 3) sc_Condition___call__.nd rfl (Or.inl rfl))) (fun _ _ _ _ _ => pts_nil) (fun _ _ _ _ _ => (pe_.re (pe_cmpR op_in_seq (pv 3) (pv 1) rfl) (by first | (dsimp only [Cx.blk]; done) | exact rfl)))) pa_nil)))
      (pss_one (ps_ret (pe_and (pv 2) (pe_one (pe_not (pe_callB (cr_any rfl) (by rfl) B.b_any (by decide +kernel) (pa_cons (pe_lc (own := [("name", 3)]) (g := gName 3) (tt := tYes) rfl sc_Condition___call__.nd (pi_tup (pe_fld (pv 0) rfl)) (blkOk_by (own := [("name", 3)]) (N := ["self", "case", "held", "name"]) (sc := defScope s_Condition___call__) (by decide +kernel)) (fun _ _ _ _ _ => (pg_name (i := 3) sc_Condition___call__.nd rfl (Or.inl rfl))) (fun _ _ _ _ _ => pts_nil) (fun _ _ _ _ _ => (pe_.re (pe_cmpR op_in_seq (pv 3) (pv 1) rfl) (by first | (dsimp only [Cx.blk]; done) | exact rfl)))) pa_nil)))))))), ?_⟩
  refine ⟨_, rfl, o, C, dx, _, .ref a, rfl, ho, T, n1, rfl, a, rfl, ⟨_, ha⟩, fun D nD => lc_it walk_tup (fun i H' => Same H H' ∧ H' D = some (.lst ((hs.take i).map fun x => V.bl (decide (x ∈ cs))))) ⟨(Same.refl H).put nD, upd_same⟩ (fun _ _ _ h => h.1.tup ha) ?_ ?_⟩
  · rintro i y H2 H3 hi ⟨s, e⟩ ⟨rfl, hy⟩
    rw [List.length_map] at hi
    have hx : hs[i]? = some hs[i] := List.getElem?_eq_getElem hi
    obtain rfl : V.str hs[i] = y := strAt_inj hx hy
    refine ⟨rfl, yes_ ⟨_, rfl, _, rfl, c, _, rfl, .inr (s.tup hc), rfl, flat_strs cs, grow (acc := fun i => (hs.take i).map fun x => V.bl (decide (x ∈ cs))) nD s e ?_ ?_⟩⟩
    · rw [List.length_map, List.length_take]
      exact small1000 (by omega)
    · show List.map _ _ = _
      rw [take_more hx, List.map_append]
      simp only [List.map_cons, List.map_nil, inV_str]
      rfl
  · rintro H2 ⟨s, e⟩
    rw [List.length_map, List.take_length] at e
    refine ⟨D, hs.map fun x => decide (x ∈ cs), rfl, sqL_of (by rw [e, List.map_map]; rfl), ?_⟩
    refine ⟨_, rfl, _, rfl, bcase (fun c1 => ?_) (fun c1 => ?_)⟩
    · refine ⟨_, rfl, o, C, dx, _, .ref b, rfl, s _ _ ho, T, n2, rfl, b, rfl, ⟨_, s.tup hb⟩, fun D2 nD2 => lc_it walk_tup (fun i H' => Same H2 H' ∧ H' D2 = some (.lst ((fs.take i).map fun x => V.bl (decide (x ∈ cs))))) ⟨(Same.refl H2).put nD2, upd_same⟩ (fun _ _ _ h => (s.trans h.1).tup hb) ?_ ?_⟩
      · rintro i y H4 H3 hi ⟨s2, e2⟩ ⟨rfl, hy⟩
        rw [List.length_map] at hi
        have hx : fs[i]? = some fs[i] := List.getElem?_eq_getElem hi
        obtain rfl : V.str fs[i] = y := strAt_inj hx hy
        refine ⟨rfl, yes_ ⟨_, rfl, _, rfl, c, _, rfl, .inr ((s.trans s2).tup hc), rfl, flat_strs cs, grow (acc := fun i => (fs.take i).map fun x => V.bl (decide (x ∈ cs))) nD2 s2 e2 ?_ ?_⟩⟩
        · rw [List.length_map, List.length_take]
          exact small1000 (by omega)
        · show List.map _ _ = _
          rw [take_more hx, List.map_append]
          simp only [List.map_cons, List.map_nil, inV_str]
          rfl
      · rintro H4 ⟨s2, e2⟩
        rw [List.length_map, List.take_length] at e2
        refine ⟨D2, fs.map fun x => decide (x ∈ cs), rfl, sqL_of (by rw [e2, List.map_map]; rfl), ?_⟩
        refine ⟨_, rfl, ?_⟩
        have em : meets hs fs cs = !((fs.map fun x => decide (x ∈ cs)).any id) := by
          unfold meets
          rw [List.any_map]
          have c1 : (hs.all fun x => decide (x ∈ cs)) = true := by rw [List.all_map] at c1; exact c1
          rw [c1, Bool.true_and]
          rfl
        rw [← em]
        exact q H4 (s.trans s2)
    · have em : meets hs fs cs = false := by
        unfold meets
        have c1 : (hs.all fun x => decide (x ∈ cs)) = false := by rw [List.all_map] at c1; exact c1
        rw [c1, Bool.false_and]
      rw [← em]
      exact q H2 s
/-! ### within -/
theorem sc_Condition_within : FnScope ["self", "other", "held", "name"] ["self", "other"] (defScope s_Condition_within) := ⟨rfl, rfl, rfl, by decide +kernel, rfl, by decide +kernel, by decide +kernel⟩
def withinC (hs fs gs ks : List Str) : Bool := (gs.all fun x => decide (x ∈ hs)) && (ks.all fun x => decide (x ∈ fs))
def sp_within (K : PySem.W.Frag) (C : Addr) : Sp := fun vs H Q _ => ∃ (o o2 : Addr) (hs fs gs ks : List Str), vs = [.ref o, .ref o2] ∧ CondAt K C H o hs fs ∧ CondAt K C H o2 gs ks ∧ gs.length ≤ 1000 ∧ ks.length ≤ 1000 ∧ ∀ H', Same H H' → Q (.bl (withinC hs fs gs ks)) H'
/-- the getters -/
abbrev PropC (P : Program) (w : World) (K : PySem.W.Frag) (mg : Str → Option Value) (base : Heap) (C p g : Addr) (fd : FuncData) (n f : Str) : Prop := PropOf K C n p g ∧ FnOk P w K mg base CX0 1 g fd ["self"] (sp_prop C f) ∧ Binds K fd ["self"] []
theorem ok_within {f p1' g1 p2' g2 : Addr} {fd fd1 fd2 : FuncData} (F : Fun K "within" "Condition.within" s_Condition_within f fd) (B : Blt mg) (T : Cls K C) (n1 : NoAttr K C "_holding") (n2 : NoAttr K C "_failing")
    (p1 : PropC P w K mg base C p1' g1 fd1 "holding" "_holding") (p2 : PropC P w K mg base C p2' g2 fd2 "failing" "_failing") : FnOk P w K mg base CX0 3 f fd ["self", "other"] (sp_within K C) := by
  refine F.ok sc_Condition_within (fun vs H Q E h => by obtain ⟨o, c, hs, fs, gs, ks, rfl, _⟩ := h; rfl) (fun cdv A outer s H vs Q E hr h => ?_)
  obtain ⟨o, o2, hs, fs, gs, ks, rfl, hC, hD, l1, l2, q⟩ := h
  obtain ⟨dx, a, b, n, zs, ho, ha, hb, _⟩ := hC.at_
  obtain ⟨dx2, a2, b2, n2', zs2, ho2, ha2, hb2, _⟩ := hD.at_
  have lk1 : (condF a2 b2 n2').lookup ("_holding" : Str) = some (.ref a2) := rfl
  have lk2 : (condF a2 b2 n2').lookup ("_failing" : Str) = some (.ref b2) := rfl
  refine ⟨_, (pss_cons (ps_set (i := 2) sc_Condition_within.nd rfl (Or.inl rfl) (pe_callB (cr_all rfl) (by rfl) B.b_all PyProof.Rows.boot_all (pa_cons (pe_lc (own := [("name", 3)]) (g := gName 3) (tt := tYes) rfl sc_Condition_within.nd (pi_tup (pe_prop (pv 1) T p1.1 p1.2.1 (hr.mono (by decide)) p1.2.2 .nil pass0 rfl)) (blkOk_by (own := [("name", 3)]) (N := ["self", "other", "held", "name"]) (sc := defScope s_Condition_within) (by decide +kernel)) (fun _ _ _ _ _ => (pg_name (i := 3) sc_Condition_within.nd rfl (Or.inl rfl))) (fun _ _ _ _ _ => pts_nil) (fun _ _ _ _ _ => (pe_.re (pe_cmpR op_in_seq (pv 3) (pe_fld (pv 0) rfl) rfl) (by first | (dsimp only [Cx.blk]; done) | exact rfl)))) pa_nil)))
      (pss_one (ps_ret (pe_and (pv 2) (pe_one (pe_callB (cr_all rfl) (by rfl) B.b_all PyProof.Rows.boot_all (pa_cons (pe_lc (own := [("name", 3)]) (g := gName 3) (tt := tYes) rfl sc_Condition_within.nd (pi_tup (pe_prop (pv 1) T p2.1 p2.2.1 (hr.mono (by decide)) p2.2.2 .nil pass0 rfl)) (blkOk_by (own := [("name", 3)]) (N := ["self", "other", "held", "name"]) (sc := defScope s_Condition_within) (by decide +kernel)) (fun _ _ _ _ _ => (pg_name (i := 3) sc_Condition_within.nd rfl (Or.inl rfl))) (fun _ _ _ _ _ => pts_nil) (fun _ _ _ _ _ => (pe_.re (pe_cmpR op_in_seq (pv 3) (pe_fld (pv 0) rfl) rfl) (by first | (dsimp only [Cx.blk]; done) | exact rfl)))) pa_nil))))))), ?_⟩
  refine ⟨_, rfl, o2, dx2, _, rfl, ho2, ⟨o2, dx2, _, _, rfl, ho2, lk1, ?_⟩⟩
  refine ⟨a2, rfl, ⟨_, ha2⟩, fun D nD => lc_it walk_tup (fun i H' => Same H H' ∧ H' D = some (.lst ((gs.take i).map fun x => V.bl (decide (x ∈ hs))))) ⟨(Same.refl H).put nD, upd_same⟩ (fun _ _ _ h => h.1.tup ha2) ?_ ?_⟩
  · rintro i y H2 H3 hi ⟨s, e⟩ ⟨rfl, hy⟩
    rw [List.length_map] at hi
    have hx : gs[i]? = some gs[i] := List.getElem?_eq_getElem hi
    obtain rfl : V.str gs[i] = y := strAt_inj hx hy
    refine ⟨rfl, yes_ ⟨_, rfl, _, rfl, o, C, dx, _, .ref a, rfl, s _ _ ho, T, n1, rfl, a, _, rfl, .inr (s.tup ha), rfl, flat_strs hs, grow (acc := fun i => (gs.take i).map fun x => V.bl (decide (x ∈ hs))) nD s e ?_ ?_⟩⟩
    · rw [List.length_map, List.length_take]
      exact small1000 (by omega)
    · show List.map _ _ = _
      rw [take_more hx, List.map_append]
      simp only [List.map_cons, List.map_nil, inV_str]
      rfl
  · rintro H2 ⟨s, e⟩
    rw [List.length_map, List.take_length] at e
    refine ⟨D, gs.map fun x => decide (x ∈ hs), rfl, sqL_of (by rw [e, List.map_map]; rfl), ?_⟩
    refine ⟨_, rfl, _, rfl, bcase (fun c1 => ?_) (fun c1 => ?_)⟩
    · refine ⟨_, rfl, o2, dx2, _, rfl, s _ _ ho2, ⟨o2, dx2, _, _, rfl, s _ _ ho2, lk2, ?_⟩⟩
      refine ⟨b2, rfl, ⟨_, s.tup hb2⟩, fun D2 nD2 => lc_it walk_tup (fun i H' => Same H2 H' ∧ H' D2 = some (.lst ((ks.take i).map fun x => V.bl (decide (x ∈ fs))))) ⟨(Same.refl H2).put nD2, upd_same⟩ (fun _ _ _ h => (s.trans h.1).tup hb2) ?_ ?_⟩
      · rintro i y H4 H3 hi ⟨s2, e2⟩ ⟨rfl, hy⟩
        rw [List.length_map] at hi
        have hx : ks[i]? = some ks[i] := List.getElem?_eq_getElem hi
        obtain rfl : V.str ks[i] = y := strAt_inj hx hy
        have s3 := s.trans s2
        refine ⟨rfl, yes_ ⟨_, rfl, _, rfl, o, C, dx, _, .ref b, rfl, s3 _ _ ho, T, n2, rfl, b, _, rfl, .inr (s3.tup hb), rfl, flat_strs fs, grow (acc := fun i => (ks.take i).map fun x => V.bl (decide (x ∈ fs))) nD2 s2 e2 ?_ ?_⟩⟩
        · rw [List.length_map, List.length_take]
          exact small1000 (by omega)
        · show List.map _ _ = _
          rw [take_more hx, List.map_append]
          simp only [List.map_cons, List.map_nil, inV_str]
          rfl
      · rintro H4 ⟨s2, e2⟩
        rw [List.length_map, List.take_length] at e2
        refine ⟨D2, ks.map fun x => decide (x ∈ fs), rfl, sqL_of (by rw [e2, List.map_map]; rfl), ?_⟩
        have em : withinC hs fs gs ks = (ks.map fun x => decide (x ∈ fs)).all id := by
          unfold withinC
          have c1 : (gs.all fun x => decide (x ∈ hs)) = true := by rw [List.all_map] at c1; exact c1
          rw [c1, Bool.true_and, List.all_map]
          rfl
        rw [← em]
        exact q H4 (s.trans s2)
    · have em : withinC hs fs gs ks = false := by
        unfold withinC
        have c1 : (gs.all fun x => decide (x ∈ hs)) = false := by rw [List.all_map] at c1; exact c1
        rw [c1, Bool.false_and]
      rw [← em]
      exact q H2 s
/-! ### == -/
theorem sc_Condition___eq__ : FnScope ["self", "other"] ["self", "other"] (defScope s_Condition___eq__) := ⟨rfl, rfl, rfl, by decide +kernel, rfl, by decide +kernel, by decide +kernel⟩
theorem dp_strs {H : Hp} {a : Addr} {xs : List Str} (h : SqT K H a (xs.map V.str)) : Dp K H (.ref a) (.tuple (xs.map PyData.str)) := .tup h (dps K H xs)
/-- what isinstance asks of the class at C -/
structure IsiC (K : PySem.W.Frag) (C : Addr) : Prop where
  ca : PySem.W.findIn K (.ref C) "__class__" = some (some (.builtin "object.__class__"))
  cn : PySem.W.specialIn K (.builtin "object.__class__") "__get__" = some (some (.builtin "getset_descriptor.__get__"))
  ct : PySem.W.takesIn K (.builtin "object.__class__") = some true
  cm : PySem.W.mroIn K C (.type "object") = some true
  me : PySem.W.kitOne K (.ref C) (.ref C) = some true
def sp_ceq (K : PySem.W.Frag) (C : Addr) : Sp := fun vs H Q _ => ∃ (o : Addr) (y : V) (hs fs : List Str), vs = [.ref o, y] ∧ CondAt K C H o hs fs ∧ Fines hs ∧ Fines fs ∧
  ((∃ (o2 : Addr) (gs ks : List Str), y = .ref o2 ∧ CondAt K C H o2 gs ks ∧ Fines gs ∧ Fines ks ∧ Q (.bl (decide (hs = gs) && decide (fs = ks))) H) ∨ (∃ t : Value, TyOf K H y t ∧ PySem.W.kitOne K t (.ref C) = some false ∧ Q (.bl false) H))
theorem ok_ceq {f : Addr} {fd : FuncData} (F : Fun K "__eq__" "Condition.__eq__" s_Condition___eq__ f fd) (B : Blt mg) (T : Cls K C) (n1 : NoAttr K C "_holding") (n2 : NoAttr K C "_failing") (mC : mg "Condition" = some (.ref C)) (I : IsiC K C) : FnOk P w K mg base CX0 1 f fd ["self", "other"] (sp_ceq K C) := by
  refine F.ok sc_Condition___eq__ (fun vs H Q E h => by obtain ⟨o, y, hs, fs, rfl, _⟩ := h; rfl) (fun cdv A outer s H vs Q E hr h => ?_)
  obtain ⟨o, y, hs, fs, rfl, hC, f1, f2, q⟩ := h
  obtain ⟨dx, a, b, n, zs, ho, ha, hb, _⟩ := hC.at_
  refine ⟨_, (pss_one (ps_ret (pe_and (pe_callB call_isi (by rfl) B.b_isinstance PyProof.Rows.boot_isinstance (pa_cons (pv 1) (pa_cons (pe_glob (v := .ref _) rfl mC rfl) pa_nil))) (pe_and (pe_cmpR (op_eqD hr.units) (pe_fld (pv 0) rfl) (pe_fld (pv 1) rfl) (nomark _)) (pe_one (pe_cmpR (op_eqD hr.units) (pe_fld (pv 0) rfl) (pe_fld (pv 1) rfl) (nomark _))))))), ?_⟩
  rcases q with ⟨o2, gs, ks, rfl, hD, f3, f4, q⟩ | ⟨t, ht, hk, q⟩
  · obtain ⟨dx2, a2, b2, n2', zs2, ho2, ha2, hb2, _⟩ := hD.at_
    refine ⟨_, rfl, _, _, _, _, _, rfl, .own _, .base (.ins ho2 T I.ca I.cn I.ct I.cm), I.me, _, rfl, iteT ?_⟩
    refine ⟨_, rfl, o, C, dx, _, .ref a, rfl, ho, T, n1, rfl, _, rfl, o2, C, dx2, _, .ref a2, rfl, ho2, T, n1, rfl, _, _, dp_strs ha, dp_strs ha2, shT f1, shT f3, _, rfl, ?_⟩
    have e1 : (PyData.tuple (hs.map PyData.str)).eqv (.tuple (gs.map PyData.str)) = decide (hs = gs) := eqvA hs gs
    rw [e1]
    by_cases c1 : hs = gs
    · rw [decide_eq_true c1]
      rw [decide_eq_true c1, Bool.true_and] at q
      refine iteT ⟨_, rfl, o, C, dx, _, .ref b, rfl, ho, T, n2, rfl, _, rfl, o2, C, dx2, _, .ref b2, rfl, ho2, T, n2, rfl, _, _, dp_strs hb, dp_strs hb2, shT f2, shT f4, ?_⟩
      have e2 : (PyData.tuple (fs.map PyData.str)).eqv (.tuple (ks.map PyData.str)) = decide (fs = ks) := eqvA fs ks
      rw [e2]
      exact q
    · rw [decide_eq_false c1]
      rw [decide_eq_false c1, Bool.false_and] at q
      exact iteF q
  · exact ⟨_, rfl, _, _, _, _, _, rfl, .own _, .base ht, hk, _, rfl, iteF q⟩
/-! ### & -/
theorem sc_Condition___and__ : FnScope ["self", "other", "holding", "failing", "name"] ["self", "other"] (defScope s_Condition___and__) := ⟨rfl, rfl, rfl, by decide +kernel, rfl, by decide +kernel, by decide +kernel⟩
def mrg (xs ys : List Str) : List Str := srt (xs ++ ys.filter fun y => !decide (y ∈ xs))
theorem mrg_txts {xs ys : List Str} (h1 : Txts xs) (h2 : Txts ys) : Txts (mrg xs ys) := fun x hx => by
  have hx := (srt_perm _).mem_iff.mp hx
  rcases List.mem_append.mp hx with h | h
  · exact h1 x h
  · exact h2 x (List.mem_filter.mp h).1
theorem mrg_len {xs ys : List Str} : (mrg xs ys).length ≤ xs.length + ys.length := by
  unfold mrg
  rw [(srt_perm _).length_eq, List.length_append]
  have := List.length_filter_le (fun y => !decide (y ∈ xs)) ys
  omega
theorem srt_uniq {zs l : List Str} (p : zs.Perm l) (s : sortedS zs = true) : zs = srt l := sorted_uniq (p.trans (srt_perm l).symm) s (srt_sorted l)
/-- a name of the one is in the other -/
def meetN (xs ys : List Str) : Bool := xs.any fun x => decide (x ∈ ys)
def sp_cand (K : PySem.W.Frag) (C CC CN : Addr) : Sp := fun vs H Q E => ∃ (o o2 : Addr) (hs fs gs ks : List Str), vs = [.ref o, .ref o2] ∧ CondAt K C H o hs fs ∧ CondAt K C H o2 gs ks ∧ Txts hs ∧ Txts fs ∧ Txts gs ∧ Txts ks ∧ hs.length + gs.length < 64 ∧ fs.length + ks.length < 64 ∧
  (meetN (mrg hs gs) (mrg fs ks) = true → ∀ H', Same H H' → E (.ref CN) none H') ∧ (meetN (mrg hs gs) (mrg fs ks) = false →
    (∀ i, firstWrong (mrg hs gs) [] = some i → errPI CC ((0 : Nat) : Int) i H E) ∧ (firstWrong (mrg hs gs) [] = none → (∀ i, firstWrong (mrg fs ks) (mrg hs gs) = some i → errPI CC ((1 : Nat) : Int) i H E) ∧
    (firstWrong (mrg fs ks) (mrg hs gs) = none → ∀ H' o3, Same H H' → H o3 = none → CondAt K C H' o3 (mrg hs gs) (mrg fs ks) → Q (.ref o3) H')))
theorem ok_cand {f p1' g1 p2' g2 CN : Addr} {fd fd1 fd2 : FuncData} (F : Fun K "__and__" "Condition.__and__" s_Condition___and__ f fd) (B : Blt mg) (T : Cls K C) (n1 : NoAttr K C "_holding") (n2 : NoAttr K C "_failing")
    (p1 : PropC P w K mg base C p1' g1 fd1 "holding" "_holding") (p2 : PropC P w K mg base C p2' g2 fd2 "failing" "_failing") (e_NeverMet : ErrMk0 K mg "NeverMet" CN)
    (c_merged : Cal P w K mg base CX0 1 "merged" ["names", "others"] (sp_merged K)) (k_Condition : Mkr P w K mg base 4 "Condition" C ["self", "holding", "failing"] (sp_cond_init K C CC)) : FnOk P w K mg base (L2.CX P w) 6 f fd ["self", "other"] (sp_cand K C CC CN) := by
  refine F.okX sc_Condition___and__ (fun vs H Q E h => by obtain ⟨o, o2, hs, fs, gs, ks, rfl, _⟩ := h; rfl) (fun cdv A outer s H vs Q E hr h => ?_)
  obtain ⟨o, o2, hs, fs, gs, ks, rfl, hC, hD, t1, t2, t3, t4, l1, l2, qE, q⟩ := h
  obtain ⟨dx, a, b, n, zs, ho, ha, hb, _⟩ := hC.at_
  obtain ⟨dx2, a2, b2, n2', zs2, ho2, ha2, hb2, _⟩ := hD.at_
  have lk1 : (condF a2 b2 n2').lookup ("_holding" : Str) = some (.ref a2) := rfl
  have lk2 : (condF a2 b2 n2').lookup ("_failing" : Str) = some (.ref b2) := rfl
  refine ⟨_, (pss_cons (ps_set (i := 2) sc_Condition___and__.nd rfl (Or.inl rfl) (pe_cal c_merged (hr.mono (by decide)) (pa_cons (pe_fld (pv 0) rfl) (pa_cons (pe_prop (pv 1) T p1.1 p1.2.1 (hr.mono (by decide)) p1.2.2 .nil pass0 rfl) pa_nil))))
      (pss_cons (ps_set (i := 3) sc_Condition___and__.nd rfl (Or.inr rfl) (pe_cal c_merged (hr.mono (by decide)) (pa_cons (pe_fld (pv 0) rfl) (pa_cons (pe_prop (pv 1) T p2.1 p2.2.1 (hr.mono (by decide)) p2.2.2 .nil pass0 rfl) pa_nil))))
      (pss_cons (ps_if (pt_val (pe_callB (cr_any rfl) (by rfl) B.b_any (by decide +kernel) (pa_cons (pe_lc (own := [("name", 4)]) (g := gName 4) (tt := tYes) rfl sc_Condition___and__.nd (pi_tup (pv 2)) (blkOk_by (own := [("name", 4)]) (N := ["self", "other", "holding", "failing", "name"]) (sc := defScope s_Condition___and__) (by decide +kernel)) (fun _ _ _ _ _ => (pg_name (i := 4) sc_Condition___and__.nd rfl (Or.inl rfl))) (fun _ _ _ _ _ => pts_nil) (fun _ _ _ _ _ => (pe_.re (pe_cmpR op_in_seq (pv 4) (pv 3) rfl) (by first | (dsimp only [Cx.blk]; done) | exact rfl)))) pa_nil))) (pss_one (ps_raise rfl (takes_of rfl rfl rfl rfl) (pmk_err0 e_NeverMet))) pss_nil)
      (pss_one (ps_ret (pe_mkX k_Condition (hr.mono (by decide)) (takes_of rfl rfl rfl rfl) (pa_cons (pv 2) (pa_cons (pv 3) pa_nil)))))))), ?_⟩
  refine ⟨_, rfl, o, C, dx, _, .ref a, rfl, ho, T, n1, rfl, _, rfl, o2, dx2, _, rfl, ho2, ⟨o2, dx2, _, _, rfl, ho2, lk1, ?_⟩⟩
  refine ⟨a, a2, hs, gs, rfl, ha, ha2, l1, fun H1 hA za s1 eA pA sA => ?_⟩
  obtain rfl : za = mrg hs gs := srt_uniq pA sA
  refine ⟨_, rfl, o, C, dx, _, .ref b, rfl, s1 _ _ ho, T, n2, rfl, _, rfl, o2, dx2, _, rfl, s1 _ _ ho2, ⟨o2, dx2, _, _, rfl, s1 _ _ ho2, lk2, ?_⟩⟩
  refine ⟨b, b2, fs, ks, rfl, s1.tup hb, s1.tup hb2, l2, fun H2 hB zb s2 eB pB sB => ?_⟩
  obtain rfl : zb = mrg fs ks := srt_uniq pB sB
  have s12 := s1.trans s2
  have eA2 := s2 _ _ eA
  refine ⟨_, rfl, hA, rfl, ⟨_, sqT_of eA2⟩, fun D nD => lc_it walk_tup (fun i H' => Same H2 H' ∧ H' D = some (.lst (((mrg hs gs).take i).map fun x => V.bl (decide (x ∈ mrg fs ks))))) ⟨(Same.refl H2).put nD, upd_same⟩ (fun _ _ _ h => h.1.tup (sqT_of eA2)) ?_ ?_⟩
  · rintro i y H4 H3 hi ⟨s, e⟩ ⟨rfl, hy⟩
    rw [List.length_map] at hi
    have hx : (mrg hs gs)[i]? = some (mrg hs gs)[i] := List.getElem?_eq_getElem hi
    obtain rfl : V.str (mrg hs gs)[i] = y := strAt_inj hx hy
    refine ⟨rfl, yes_ ⟨_, rfl, _, rfl, hB, _, rfl, .inr (sqT_of (s _ _ eB)), rfl, flat_strs _, grow (acc := fun i => ((mrg hs gs).take i).map fun x => V.bl (decide (x ∈ mrg fs ks))) nD s e ?_ ?_⟩⟩
    · rw [List.length_map, List.length_take]
      have := mrg_len (xs := hs) (ys := gs)
      exact small1000 (by omega)
    · show List.map _ _ = _
      rw [take_more hx, List.map_append]
      simp only [List.map_cons, List.map_nil, inV_str]
      rfl
  · rintro H4 ⟨s, e⟩
    rw [List.length_map, List.take_length] at e
    refine ⟨D, (mrg hs gs).map fun x => decide (x ∈ mrg fs ks), rfl, sqL_of (by rw [e, List.map_map]; rfl), ?_⟩
    have em : ((mrg hs gs).map fun x => decide (x ∈ mrg fs ks)).any id = meetN (mrg hs gs) (mrg fs ks) := by
      rw [List.any_map]
      rfl
    rw [em]
    refine ⟨_, rfl, bcase (fun c1 => ?_) (fun c1 => ?_)⟩
    · exact qE c1 H4 (s12.trans s)
    · obtain ⟨q0, q⟩ := q c1
      have s4 := s12.trans s
      have eA4 := s _ _ eA2
      have eB4 := s _ _ eB
      refine ⟨_, rfl, _, rfl, fun o3 dx3 nx ndx nex => ?_⟩
      have s5 : Same H4 (upd (upd H4 dx3 (.own o3)) o3 (.ins C dx3 [])) := ((Same.refl H4).put ndx).put nx
      have m1 := mrg_len (xs := hs) (ys := gs)
      have m2 := mrg_len (xs := fs) (ys := ks)
      refine ⟨o3, dx3, hA, hB, _, _, rfl, upd_same, sqT_of (s5 _ _ eA4), sqT_of (s5 _ _ eB4), mrg_txts t1 t3, mrg_txts t2 t4, by omega, by omega, fun i ei H' d sH nd => q0 i ei H' d ((s4.trans s5).trans sH) nd, fun en => ?_⟩
      obtain ⟨q1, q⟩ := q en
      refine ⟨fun i ei H' d sH nd => q1 i ei H' d ((s4.trans s5).trans sH) nd, fun en2 H' n3 zs3 sX hx hn hperm hsort => ⟨rfl, ?_⟩⟩
      have sS : Same H4 H' := fun b' o' h => sX b' o' (fun e => by rw [e, nx] at h; cases h) (s5 _ _ h)
      exact q en2 H' o3 (s4.trans sS) (s4.free nx) ⟨dx3, hA, hB, n3, zs3, hx, sqT_of (sS _ _ eA4), sqT_of (sS _ _ eB4), hn, srt_uniq hperm hsort⟩
end
end Sc
namespace Sc
open PySem PySem.Spec PyProof.Rows L2
/-- o(e, ..), o an object whose class has its own __call__; the arguments leave it as it is -/
def tCallO (C : Addr) (sp : Sp) (E : XK) (te : TE) (t : TA) : TE := fun σ H Q => te σ H fun x H1 => ∃ (a : Addr), x = .ref a ∧
  t σ H1 fun vs H2 => (∃ (dx : Addr) (fs : List (Str × V)), H2 a = some (.ins C dx fs)) ∧ sp (.ref a :: vs) H2 Q E
theorem callWith_o {M : Model} {A : Around} {E : Value → Shared → Prop} {s : Shared} {pos : Pos} {x C : Addr} {first : List Value} {Q : Value → Shared → Prop} {args : List (Bool × Sem Value)} (hplain : args.any (·.1) = false)
    (h : wpAny M A (evalArgs (.ref x) true args []) (fun a s₁ => (∃ ox od, PySem.W.InstAt s₁.heap x ox C od ∧ ox.data = Data.plain) ∧ wpAny M A (call (.ref x) (first ++ a.pos) a.kw) Q E s₁) E s) : wpAny M A (callWith pos (.ref x) first args []) Q E s := by
  unfold callWith
  refine wpAny_bind (wpAny_holding (wpAny_mono h (fun a s₁ h₁ => wpAny_bind (wpAny_standAt ?_)) (fun _ _ z => z)))
  obtain ⟨⟨ox, od, J, hd⟩, h₂⟩ := h₁
  have L := PySem.W.kco_keeper (M := M) J hd
  simp only [hplain, List.any_nil, Bool.or_false]
  exact wpAny_bind (PySem.W.Looks.here L (wpAny_bind (wpAny_mono (wpAny_operateT h₂) (fun r s₂ hr => wpAny_bind (wpAny_holding (wpAny_point (wpAny_pure hr)))) (fun _ _ z => z))))
theorem pe_callO {X : Cx} {CX : CXT} {C g : Addr} {k : Nat} {fd : FuncData} {ps : List Str} {sp : Sp} {E : XK} {te : TE} {t : TA} {x : Str} {e : Expr} {es : List Expr} {p pos : Pos}
    (at_ : PySem.W.findIn X.K (.ref C) "__call__" = some (some (.ref g))) (fn : PySem.W.isFn X.K (.ref g) = true) (fi : PySem.W.fnIn X.K g = true)
    (F : FnOk X.prog X.w X.K X.mg X.base CX k g fd ps sp) (hr : Room k X.A) (hb : Binds X.K fd ps []) (hx : Passes CX X E) (ho : PE X (.Name x p) te) (ha : PA X (e :: es) t)
    (he : starEach (e :: es) X.env = (false, eval e X.env) :: starEach es X.env := by rfl) (hpl : (backTo pos (starEach es X.env)).any (·.1) = false := by rfl) :
    PE X (.Call (.Name x p) (e :: es) [] pos) (tCallO C sp E te t) := by
  refine ⟨fun pins s σ H Q I h => wpAny_Call_NameR (thn (ho.run pins s σ H _ I h) fun u s1 hh => ?_)⟩
  obtain ⟨y, H1, I1, ry, a, rfl, h⟩ := hh
  obtain rfl : u = Value.ref a := ry
  have hr0 := ha.run pos pins s1 σ H1 _ I1 h
  have eb : backTo pos (starEach (e :: es) X.env) = (false, eval e X.env) :: backTo pos (starEach es X.env) := by rw [he]; rfl
  rw [eb] at hr0 ⊢
  refine callWith_o (C := C) (by rw [List.any_cons, hpl]; rfl) (Calls.evalArgs_plain (thn hr0 fun us s2 hh => ?_))
  obtain ⟨vs, H2, I2, rv, ⟨dx, fs, ea⟩, hq⟩ := hh
  obtain ⟨mA, O, _⟩ := ins_get I2.hok ea
  obtain ⟨od, J, _⟩ := ObjM.look O
  have hl : (Value.ref a :: us).length = ps.length := by
    have := F.len _ _ _ _ hq
    rw [← this, List.length_cons, List.length_cons, Vals.length rv]
  refine ⟨⟨_, _, J, rfl⟩, wpAny_call (PySem.W.kco_code I2.kIn J rfl at_ fn fi (codeAny_mono (F.run X.A X.stack s2 H2 ⟨.ref a :: us, []⟩ (.ref a :: us) (.ref a :: vs) Q E hr I2.env0 ?_ (Paired.cons rfl rv) hq) fun res s' hcr => ?_))⟩
  · have := hb s2 (.ref a :: us) I2.kIn (by rw [List.append_nil]; exact hl)
    rw [List.append_nil] at this
    exact this
  · cases res with
    | error er => exact hx pins σ H2 s2 er s' I2 hcr
    | ok fl =>
      cases fl with
      | ret v => exact I2.after hcr
      | next => exact hcr.elim
      | brk => exact hcr.elim
      | cont => exact hcr.elim
end Sc
namespace Sc
open PySem PySem.Spec PyProof.Rows L2
/-- the class Condition as its users see it -/
structure CondX (P : Program) (w : World) (K : PySem.W.Frag) (mg : Str → Option Value) (base : Heap) (C CC CN : Addr) : Prop where
  cls : Cls K C
  isi : IsiC K C
  holding : ∃ p g fd, PropC P w K mg base C p g fd "holding" "_holding"
  failing : ∃ p g fd, PropC P w K mg base C p g fd "failing" "_failing"
  names : ∃ p g fd, PropC P w K mg base C p g fd "names" "_names"
  call : ∃ g fd, PySem.W.findIn K (.ref C) "__call__" = some (some (.ref g)) ∧ PySem.W.isFn K (.ref g) = true ∧ PySem.W.fnIn K g = true ∧ FnOk P w K mg base CX0 1 g fd ["self", "case"] (sp_ccall K C) ∧ Binds K fd ["self", "case"] []
  eq : ∃ g fd, PySem.W.findIn K (.ref C) "__eq__" = some (some (.ref g)) ∧ PySem.W.isFn K (.ref g) = true ∧ FnOk P w K mg base CX0 1 g fd ["self", "other"] (sp_ceq K C) ∧ Binds K fd ["self", "other"] []
  ne : PySem.W.findIn K (.ref C) "__ne__" = some (some (.builtin "object.__ne__"))
  and_ : PySem.W.selfFirst K C = true ∧ ∃ g fd, PySem.W.findIn K (.ref C) "__and__" = some (some (.ref g)) ∧ PySem.W.isFn K (.ref g) = true ∧ FnOk P w K mg base (L2.CX P w) 6 g fd ["self", "other"] (sp_cand K C CC CN) ∧ Binds K fd ["self", "other"] []
  within_ : ∃ g fd, Meth K C "within" g ∧ FnOk P w K mg base CX0 3 g fd ["self", "other"] (sp_within K C) ∧ Binds K fd ["self", "other"] []
section
variable {X : Cx} {C CC CN : Addr} {e o : Expr} {es : List Expr} {ta te : TE} {t : TA} {x : Str} {p pos apos : Pos} {E : XK}
theorem pe_cprop {f n : Str} (M : ∃ p g fd, PropC X.prog X.w X.K X.mg X.base C p g fd n f) (c : Cls X.K C) (hr : Room 2 X.A) (he : PE X e ta) (hab : attributeBase e n X.env (eval e X.env) = eval e X.env := by rfl) : PE X (.Attribute e n pos) (tProp C (sp_prop C f) [] E0 ta) := by
  obtain ⟨p, g, fd, h1, h2, h3⟩ := M
  exact pe_prop he c h1 h2 hr h3 .nil pass0 hab
theorem pe_cc (M : CondX X.prog X.w X.K X.mg X.base C CC CN) (hr : Room 1 X.A) (ho : PE X (.Name x p) te) (ha : PA X (e :: es) t)
    (he : starEach (e :: es) X.env = (false, eval e X.env) :: starEach es X.env := by rfl) (hpl : (backTo pos (starEach es X.env)).any (·.1) = false := by rfl) : PE X (.Call (.Name x p) (e :: es) [] pos) (tCallO C (sp_ccall X.K C) E0 te t) := by
  obtain ⟨g, fd, h1, h2, h3, F, hb⟩ := M.call
  exact pe_callO h1 h2 h3 F hr hb pass0 ho ha he hpl
theorem op_ceq (M : CondX X.prog X.w X.K X.mg X.base C CC CN) (hr : Room 1 X.A) : OpR X (compareOp .Eq) (rEqO X.K C (sp_ceq X.K C) E0) := by
  obtain ⟨g, fd, h1, h2, F, hb⟩ := M.eq
  exact op_eqO h1 h2 F hr hb pass0
theorem op_cne (M : CondX X.prog X.w X.K X.mg X.base C CC CN) (hr : Room 2 X.A) : OpR X (compareOp .NotEq) (rNeO X.K C (sp_ceq X.K C) E0) := by
  obtain ⟨g, fd, h1, h2, F, hb⟩ := M.eq
  exact op_neO M.isi.cm M.ne h1 h2 F hr hb pass0
theorem op_candN (M : CondX X.prog X.w X.K X.mg X.base C CC CN) (hr : Room 6 X.A) : OpR X (binaryOp .BitAnd) (rBinO C (sp_cand X.K C CC CN) E0) := by
  obtain ⟨h0, g, fd, h1, h2, F, hb⟩ := M.and_
  exact op_binO h0 h1 h2 F hr hb passL
theorem op_candX (M : CondX X.prog X.w X.K X.mg X.base C CC CN) (hr : Room 6 X.A) (tk : Takes X (fun cls d _ H => E cls d H)) : OpR X (binaryOp .BitAnd) (rBinO C (sp_cand X.K C CC CN) E) := by
  obtain ⟨h0, g, fd, h1, h2, F, hb⟩ := M.and_
  exact op_binO h0 h1 h2 F hr hb (fun pins σ H s e s' I h => passAt tk σ pins H s e s' I h)
theorem pe_cwithin {pl : Sem Bool} (M : CondX X.prog X.w X.K X.mg X.base C CC CN) (hr : Room 3 X.A) (he : PE X o ta) (ha : PA X (e :: es) t)
    (hst : starEach (e :: es) X.env = (false, eval e X.env) :: starEach es X.env := by rfl) (hpl : (backTo pos (starEach es X.env)).any (·.1) = false := by rfl)
    (ht : eval (.Call (.Attribute o "within" apos) (e :: es) [] pos) X.env = (do
      let ov ← eval o X.env
      standAt apos.atName
      let (f, first) ← holding [ov] (getMethod ov "within" pl)
      callWith pos f first (backTo pos (starEach (e :: es) X.env)) (backToKw pos (keywordEach [] X.env))) := by rfl) : PE X (.Call (.Attribute o "within" apos) (e :: es) [] pos) (tMeth C "within" (sp_within X.K C) [] E0 ta t) := by
  obtain ⟨g, fd, h1, F, hb⟩ := M.within_
  exact pe_meth he M.cls h1 F hr hb .nil pass0 ha hst hpl ht
end
end Sc
namespace Sc
open PySem PySem.Spec PyProof.Rows L2
theorem wk_ps {X : Cx} {st : Stmt} {t : TS} (t' : TS) (h : PS X st t) (w : ∀ D σ H, t' D σ H → t D σ H) : PS X st t' := ⟨fun pins s σ H D I x => h.run pins s σ H D I (w D σ H x)⟩
/-! ### rules as data -/
inductive All2 {α β : Type} (R : α → β → Prop) : List α → List β → Prop where
  | nil : All2 R [] []
  | cons {a : α} {b : β} {as : List α} {bs : List β} (h : R a b) (t : All2 R as bs) : All2 R (a :: as) (b :: bs)
namespace All2
variable {α β : Type} {R S : α → β → Prop} {as as' : List α} {bs bs' : List β}
theorem len (h : All2 R as bs) : as.length = bs.length := by
  induction h with
  | nil => rfl
  | cons _ _ ih => rw [List.length_cons, List.length_cons, ih]
theorem mono (h : All2 R as bs) (f : ∀ a b, R a b → S a b) : All2 S as bs := by
  induction h with
  | nil => exact .nil
  | cons h _ ih => exact .cons (f _ _ h) ih
theorem monoM (h : All2 R as bs) (f : ∀ a b, b ∈ bs → R a b → S a b) : All2 S as bs := by
  induction h with
  | nil => exact .nil
  | cons h _ ih => exact .cons (f _ _ List.mem_cons_self h) (ih fun a b m => f a b (List.mem_cons_of_mem _ m))
theorem app (h : All2 R as bs) (k : All2 R as' bs') : All2 R (as ++ as') (bs ++ bs') := by
  induction h with
  | nil => exact k
  | cons h _ ih => exact .cons h ih
theorem one {a : α} {b : β} (h : R a b) : All2 R [a] [b] := .cons h .nil
theorem snoc {a : α} {b : β} (h : All2 R as bs) (r : R a b) : All2 R (as ++ [a]) (bs ++ [b]) := h.app (one r)
theorem get (h : All2 R as bs) : ∀ {i : Nat} {a : α}, as[i]? = some a → ∃ b, bs[i]? = some b ∧ R a b := by
  induction h with
  | nil => intro i a e; cases i <;> cases e
  | cons h _ ih =>
    intro i a e
    cases i with
    | zero => cases e; exact ⟨_, rfl, h⟩
    | succ i => exact ih e
theorem get' (h : All2 R as bs) : ∀ {i : Nat} {b : β}, bs[i]? = some b → ∃ a, as[i]? = some a ∧ R a b := by
  induction h with
  | nil => intro i a e; cases i <;> cases e
  | cons h _ ih =>
    intro i a e
    cases i with
    | zero => cases e; exact ⟨_, rfl, h⟩
    | succ i => exact ih e
theorem at' (h : All2 R as bs) {i : Nat} (hi : i < bs.length) : ∃ a, as[i]? = some a ∧ R a bs[i] := h.get' (List.getElem?_eq_getElem hi)
end All2
/-- a row of rules, each with its exceptions -/
inductive RF where
  | nil : RF
  | cons (nm : Str) (hs fs : List Str) (rl : Str) (exc rest : RF) : RF
structure Nd where
  nm : Str
  hs : List Str
  fs : List Str
  rl : Str
  exc : RF
namespace RF
def nodes : RF → List Nd
  | .nil => []
  | .cons nm hs fs rl exc rest => ⟨nm, hs, fs, rl, exc⟩ :: rest.nodes
def dep : RF → Nat
  | .nil => 0
  | .cons _ _ _ _ exc rest => max (exc.dep + 1) rest.dep
def size : RF → Nat
  | .nil => 0
  | .cons _ _ _ _ exc rest => exc.size + 1 + rest.size
/-- all rules by their numbers, and within how many they stand -/
def pre : RF → Nat → List (Nd × Nat)
  | .nil, _ => []
  | .cons nm hs fs rl exc rest, k => (⟨nm, hs, fs, rl, exc⟩, k) :: (exc.pre (k + 1) ++ rest.pre k)
def ofNodes : List Nd → RF
  | [] => .nil
  | n :: r => .cons n.nm n.hs n.fs n.rl n.exc (ofNodes r)
theorem nodes_of : ∀ ns : List Nd, (ofNodes ns).nodes = ns
  | [] => rfl
  | n :: r => by show n :: (ofNodes r).nodes = n :: r; rw [nodes_of r]
theorem of_nodes : ∀ f : RF, ofNodes f.nodes = f
  | .nil => rfl
  | .cons nm hs fs rl exc rest => by show RF.cons nm hs fs rl exc (ofNodes rest.nodes) = _; rw [of_nodes rest]
theorem pre_nodes : ∀ (f : RF) (k : Nat), f.pre k = f.nodes.flatMap fun n => (n, k) :: n.exc.pre (k + 1)
  | .nil, _ => rfl
  | .cons nm hs fs rl exc rest, k => by
    show (_, k) :: (exc.pre (k + 1) ++ rest.pre k) = _
    rw [pre_nodes rest k]
    rfl
theorem pre_len : ∀ (f : RF) (k : Nat), (f.pre k).length = f.size
  | .nil, _ => rfl
  | .cons nm hs fs rl exc rest, k => by
    show ((_, k) :: (exc.pre (k + 1) ++ rest.pre k)).length = exc.size + 1 + rest.size
    rw [List.length_cons, List.length_append, pre_len exc, pre_len rest]
    omega
theorem dep_nil : ∀ f : RF, f.dep = 0 → f = .nil
  | .nil, _ => rfl
  | .cons _ _ _ _ exc rest, h => by
    have h : max (exc.dep + 1) rest.dep = 0 := h
    omega
theorem dep_mem : ∀ (f : RF) (n : Nd), n ∈ f.nodes → n.exc.dep + 1 ≤ f.dep
  | .nil, n, h => nomatch h
  | .cons nm hs fs rl exc rest, n, h => by
    show _ ≤ max (exc.dep + 1) rest.dep
    rcases List.mem_cons.mp h with rfl | h
    · exact Nat.le_max_left _ _
    · exact Nat.le_trans (dep_mem rest n h) (Nat.le_max_right _ _)
theorem dep_le : ∀ (f : RF) (d : Nat), (∀ n ∈ f.nodes, n.exc.dep + 1 ≤ d) → f.dep ≤ d
  | .nil, d, _ => Nat.zero_le d
  | .cons nm hs fs rl exc rest, d, h => by
    show max (exc.dep + 1) rest.dep ≤ d
    exact Nat.max_le.mpr ⟨h _ List.mem_cons_self, dep_le rest d fun n m => h n (List.mem_cons_of_mem _ m)⟩
theorem size_mem : ∀ (f : RF) (n : Nd), n ∈ f.nodes → n.exc.size + 1 ≤ f.size
  | .nil, n, h => nomatch h
  | .cons nm hs fs rl exc rest, n, h => by
    show _ ≤ exc.size + 1 + rest.size
    rcases List.mem_cons.mp h with rfl | h
    · show exc.size + 1 ≤ _
      omega
    · have := size_mem rest n h
      omega
theorem nodes_le : ∀ f : RF, f.nodes.length ≤ f.size
  | .nil => Nat.le_refl 0
  | .cons nm hs fs rl exc rest => by
    show rest.nodes.length + 1 ≤ exc.size + 1 + rest.size
    have := nodes_le rest
    omega
/-- the names of all rules, by their numbers -/
def names (f : RF) : List Str := (f.pre 0).map fun p => p.1.nm
theorem pre_names : ∀ (f : RF) (k : Nat), (f.pre k).map (fun p => p.1.nm) = f.names
  | .nil, _ => rfl
  | .cons nm hs fs rl exc rest, k => by
    unfold names
    show nm :: ((exc.pre (k + 1) ++ rest.pre k).map fun p => p.1.nm) = nm :: ((exc.pre (0 + 1) ++ rest.pre 0).map fun p => p.1.nm)
    rw [List.map_append, List.map_append, pre_names exc, pre_names exc, pre_names rest, pre_names rest]
/-- the first rules of a row, with their exceptions, by their numbers -/
def preL (ns : List Nd) (k : Nat) : List (Nd × Nat) := ns.flatMap fun n => (n, k) :: n.exc.pre (k + 1)
theorem preL_more {f : RF} {i k : Nat} {n : Nd} (h : f.nodes[i]? = some n) : preL (f.nodes.take (i + 1)) k = preL (f.nodes.take i) k ++ ((n, k) :: n.exc.pre (k + 1)) := by
  unfold preL
  rw [take_more h, List.flatMap_append]
  simp
theorem preL_all {f : RF} {k : Nat} : preL (f.nodes.take f.nodes.length) k = f.pre k := by
  rw [List.take_length, pre_nodes]
  rfl
theorem preL_len {f : RF} {i k : Nat} : (preL (f.nodes.take i) k).length ≤ f.size := by
  have e : preL f.nodes k = preL (f.nodes.take i) k ++ preL (f.nodes.drop i) k := by
    unfold preL
    rw [← List.flatMap_append, List.take_append_drop]
  have e2 : (preL f.nodes k).length = f.size := by
    rw [← pre_len f k, pre_nodes]
    rfl
  rw [← e2, e, List.length_append]
  exact Nat.le_add_right _ _
end RF
/-! ### where they stand -/
/-- an object that is made, to its last field -/
def DoneF (fs : List (Str × V)) : Bool := (fs.lookup ("_inside" : Str)).isSome || ((fs.lookup ("_names" : Str)).isSome || (fs.lookup ("_numbered" : Str)).isSome)
/-- what steps that change only lists of the law's own, or an object that is being made, leave as it is -/
def Stays (N : Addr → Prop) (b : Addr) (o : HO) : Prop := (∀ xs, o = .lst xs → N b) ∧ (∀ C dx fs, o = .ins C dx fs → DoneF fs = true) ∧ ∀ ps, o ≠ .tbl ps
def Keeps (N : Addr → Prop) (H H' : Hp) : Prop := ∀ b o, Stays N b o → H b = some o → H' b = some o
section
variable {K : PySem.W.Frag} {C R : Addr} {N : Addr → Prop} {H H' H'' : Hp}
theorem _root_.L2.Same.keeps (s : Same H H') : Keeps N H H' := fun b o _ e => s b o e
theorem Keeps.trans (h : Keeps N H H') (k : Keeps N H' H'') : Keeps N H H'' := fun b o st e => k b o st (h b o st e)
theorem Kp.keeps {a l : Addr} (k : Kp a l H H') (na : ¬ N a) (nl : ¬ N l) : Keeps N H H' := fun b o st e => by
  by_cases z : ∃ xs, o = .lst xs
  · obtain ⟨xs, rfl⟩ := z
    have := st.1 xs rfl
    exact k.keep b _ (fun z => na (z ▸ this)) (fun z => nl (z ▸ this)) e
  · exact k.obj e fun xs z2 => z ⟨xs, z2⟩
theorem SameX.keeps {x dx : Addr} {fs : List (Str × V)} (s : SameX x H H') (e : H x = some (.ins R dx fs)) (n : DoneF fs = false := by rfl) : Keeps N H H' := fun b o st h => s b o (fun z => by rw [z, e] at h; exact Bool.noConfusion (n.symm.trans (st.2.1 R dx fs (Option.some.inj h).symm))) h
/-- an object that is being made changes -/
theorem keeps_make {x dx : Addr} {fs : List (Str × V)} {o : HO} (e : H x = some (.ins R dx fs)) (n : DoneF fs = false := by rfl) : Keeps N H (upd H x o) := SameX.keeps (fun b o' ne h => by rw [upd_ne ne]; exact h) e n
theorem stays_tup {b : Addr} {xs : List V} : Stays N b (.tup xs) := ⟨(fun _ z => nomatch z), (fun _ _ _ z => nomatch z), (fun _ z => nomatch z)⟩
theorem stays_ins {b C dx : Addr} {fs : List (Str × V)} (h : DoneF fs = true := by rfl) : Stays N b (.ins C dx fs) := ⟨(fun _ z => nomatch z), (fun _ _ _ z => by cases z; exact h), (fun _ z => nomatch z)⟩
theorem stays_lst {b : Addr} {xs : List V} (h : N b) : Stays N b (.lst xs) := ⟨(fun _ _ => h), (fun _ _ _ z => nomatch z), (fun _ z => nomatch z)⟩
theorem Keeps.tup {b : Addr} {xs : List V} (k : Keeps N H H') (h : SqT K H b xs) : SqT K H' b xs := by
  rcases h with (h | ⟨o, h⟩) | h
  · exact .inl (.inl (k _ _ stays_tup h))
  · exact .inl (.inr ⟨o, k _ _ ⟨(fun _ z => nomatch z), (fun _ _ _ z => nomatch z), (fun _ z => nomatch z)⟩ h⟩)
  · exact .inr h
theorem CondAt.keeps {o : Addr} {hs fs : List Str} (h : CondAt K C H o hs fs) (k : Keeps N H H') : CondAt K C H' o hs fs := by
  obtain ⟨dx, a, b, n, zs, h1, h2, h3, h4, h5⟩ := h.at_
  exact ⟨dx, a, b, n, zs, k _ _ stays_ins h1, k.tup h2, k.tup h3, k _ _ stays_tup h4, h5⟩
/-- the fields of a rule -/
def ruleF (nm : Str) (c : Addr) (rl : Str) (p : Addr) (d : Int) (l : Addr) : List (Str × V) :=
  putF "_inside" (.ref l) (putF "_depth" (.int d) (putF "_exceptions" (.ref p) (putF "_ruling" (.str rl) (putF "_condition" (.ref c) (putF "_name" (.str nm) [])))))
def ForAt (K : PySem.W.Frag) (C R : Addr) (N : Addr → Prop) (H : Hp) : RF → List V → Prop
  | .nil, vs => vs = []
  | .cons nm hs fs rl exc rest, vs => ∃ (o dx c p l : Addr) (ws vs' : List V), vs = .ref o :: vs' ∧ H o = some (.ins R dx (ruleF nm c rl p ((exc.dep + 1 : Nat) : Int) l)) ∧ CondAt K C H c hs fs ∧ SqT K H p ws ∧ (N l ∧ H l = some (.lst ((nm :: exc.names).map V.str))) ∧
      ForAt K C R N H exc ws ∧ ForAt K C R N H rest vs'
def NdAt (K : PySem.W.Frag) (C R : Addr) (N : Addr → Prop) (H : Hp) (o : Addr) (n : Nd) : Prop := ∃ (dx c p l : Addr) (ws : List V), H o = some (.ins R dx (ruleF n.nm c n.rl p ((n.exc.dep + 1 : Nat) : Int) l)) ∧ CondAt K C H c n.hs n.fs ∧ SqT K H p ws ∧ (N l ∧ H l = some (.lst ((n.nm :: n.exc.names).map V.str))) ∧ ForAt K C R N H n.exc ws
def RefAt (K : PySem.W.Frag) (C R : Addr) (N : Addr → Prop) (H : Hp) (v : V) (n : Nd) : Prop := ∃ o, v = .ref o ∧ NdAt K C R N H o n
theorem stays_rule {b : Addr} {dx c p l : Addr} {nm rl : Str} {d : Int} : Stays N b (.ins R dx (ruleF nm c rl p d l)) := stays_ins
theorem ForAt.keeps (k : Keeps N H H') : ∀ {f : RF} {vs : List V}, ForAt K C R N H f vs → ForAt K C R N H' f vs
  | .nil, _, h => h
  | .cons nm hs fs rl exc rest, vs, h => by
    obtain ⟨o, dx, c, p, l, ws, vs', e, h1, h2, h3, ⟨h4, h5⟩, h6, h7⟩ := h
    exact ⟨o, dx, c, p, l, ws, vs', e, k _ _ stays_rule h1, h2.keeps k, k.tup h3, ⟨h4, k _ _ (stays_lst h4) h5⟩, ForAt.keeps k h6, ForAt.keeps k h7⟩
theorem NdAt.keeps {o : Addr} {n : Nd} (h : NdAt K C R N H o n) (k : Keeps N H H') : NdAt K C R N H' o n := by
  obtain ⟨dx, c, p, l, ws, h1, h2, h3, ⟨h4, h5⟩, h6⟩ := h
  exact ⟨dx, c, p, l, ws, k _ _ stays_rule h1, h2.keeps k, k.tup h3, ⟨h4, k _ _ (stays_lst h4) h5⟩, h6.keeps k⟩
theorem RefAt.keeps {v : V} {n : Nd} (h : RefAt K C R N H v n) (k : Keeps N H H') : RefAt K C R N H' v n := by
  obtain ⟨o, e, h⟩ := h
  exact ⟨o, e, h.keeps k⟩
theorem ForAt.all : ∀ {f : RF} {vs : List V}, ForAt K C R N H f vs → All2 (RefAt K C R N H) vs f.nodes
  | .nil, _, h => by
    obtain rfl : _ = [] := h
    exact .nil
  | .cons nm hs fs rl exc rest, vs, h => by
    obtain ⟨o, dx, c, p, l, ws, vs', rfl, h1, h2, h3, h4, h6, h7⟩ := h
    exact .cons ⟨o, rfl, dx, c, p, l, ws, h1, h2, h3, h4, h6⟩ h7.all
theorem ForAt.of : ∀ {f : RF} {vs : List V}, All2 (RefAt K C R N H) vs f.nodes → ForAt K C R N H f vs
  | .nil, _, h => by
    cases h
    rfl
  | .cons nm hs fs rl exc rest, vs, h => by
    cases h with
    | cons h t =>
      obtain ⟨o, rfl, dx, c, p, l, ws, h1, h2, h3, h4, h6⟩ := h
      exact ⟨o, dx, c, p, l, ws, _, rfl, h1, h2, h3, h4, h6, ForAt.of t⟩
theorem ForAt.len {f : RF} {vs : List V} (h : ForAt K C R N H f vs) : vs.length = f.nodes.length := h.all.len
theorem ForAt.re {M : Addr → Prop} (g : ∀ b xs, N b → H b = some (.lst xs) → M b) : ∀ {f : RF} {vs : List V}, ForAt K C R N H f vs → ForAt K C R M H f vs
  | .nil, _, h => h
  | .cons nm hs fs rl exc rest, vs, h => by
    obtain ⟨o, dx, c, p, l, ws, vs', e, h1, h2, h3, ⟨h4, h5⟩, h6, h7⟩ := h
    exact ⟨o, dx, c, p, l, ws, vs', e, h1, h2, h3, ⟨g _ _ h4 h5, h5⟩, ForAt.re g h6, ForAt.re g h7⟩
theorem NdAt.re {M : Addr → Prop} (g : ∀ b xs, N b → H b = some (.lst xs) → M b) {o : Addr} {n : Nd} (h : NdAt K C R N H o n) : NdAt K C R M H o n := by
  obtain ⟨dx, c, p, l, ws, h1, h2, h3, ⟨h4, h5⟩, h6⟩ := h
  exact ⟨dx, c, p, l, ws, h1, h2, h3, ⟨g _ _ h4 h5, h5⟩, h6.re g⟩
/-- the addresses of N that are in use -/
def Used (N : Addr → Prop) (H : Hp) (b : Addr) : Prop := N b ∧ H b ≠ none
theorem ForAt.used {f : RF} {vs : List V} (h : ForAt K C R N H f vs) : ForAt K C R (Used N H) H f vs := h.re fun b xs n e => ⟨n, by rw [e]; exact fun z => nomatch z⟩
theorem used_not {D : Addr} (n : H D = none) : ¬ Used N H D := fun h => h.2 n
theorem SameX.keeps' {D : Addr} (s : SameX D H H') (n : ¬ N D) (z : ∀ o, H D = some o → ∃ xs, o = .lst xs) : Keeps N H H' := fun b o st h => s b o (fun e => by
  subst e
  obtain ⟨xs, rfl⟩ := z o h
  exact n (st.1 xs rfl)) h
/-- a list of one's own changes -/
theorem keeps_own {D : Addr} {xs : List V} {o : HO} (e : H D = some (.lst xs)) (n : ¬ N D) : Keeps N H (upd H D o) := SameX.keeps' (fun b o' ne h => by rw [upd_ne ne]; exact h) n fun o' h => by rw [e] at h; exact ⟨xs, (Option.some.inj h).symm⟩
/-- a list of tuples (rule, number of rules around) -/
def PairAt (K : PySem.W.Frag) (C R : Addr) (N : Addr → Prop) (H : Hp) (v : V) (n : Nd × Nat) : Prop := ∃ (t o : Addr), v = .ref t ∧ H t = some (.tup [.ref o, .int (n.2 : Nat)]) ∧ NdAt K C R N H o n.1
theorem PairAt.keeps {v : V} {n : Nd × Nat} (h : PairAt K C R N H v n) (k : Keeps N H H') : PairAt K C R N H' v n := by
  obtain ⟨t, o, e, h1, h2⟩ := h
  exact ⟨t, o, e, k _ _ stays_tup h1, h2.keeps k⟩
theorem PairAt.re {M : Addr → Prop} (g : ∀ b xs, N b → H b = some (.lst xs) → M b) {v : V} {n : Nd × Nat} (h : PairAt K C R N H v n) : PairAt K C R M H v n := by
  obtain ⟨t, o, e, h1, h2⟩ := h
  exact ⟨t, o, e, h1, h2.re g⟩
abbrev PreAt (K : PySem.W.Frag) (C R : Addr) (N : Addr → Prop) (H : Hp) (us : List V) (ps : List (Nd × Nat)) : Prop := All2 (PairAt K C R N H) us ps
theorem PreAt.keeps {us : List V} {ps : List (Nd × Nat)} (h : PreAt K C R N H us ps) (k : Keeps N H H') : PreAt K C R N H' us ps := h.mono fun _ _ x => x.keeps k
/-! ### the law's rows: tuples -/
def RowsAt (K : PySem.W.Frag) (H : Hp) : RF → List V → Prop
  | .nil, vs => vs = []
  | .cons nm hs fs rl exc rest, vs => ∃ (o w b p : Addr) (ws vs' : List V), vs = .ref o :: vs' ∧ SqT K H o [.str nm, .ref w, .ref b, .str rl, .ref p] ∧ SqT K H w (hs.map V.str) ∧ SqT K H b (fs.map V.str) ∧ SqT K H p ws ∧ RowsAt K H exc ws ∧ RowsAt K H rest vs'
def RowAt (K : PySem.W.Frag) (H : Hp) (v : V) (n : Nd) : Prop := ∃ (o w b p : Addr) (ws : List V), v = .ref o ∧ SqT K H o [.str n.nm, .ref w, .ref b, .str n.rl, .ref p] ∧ SqT K H w (n.hs.map V.str) ∧ SqT K H b (n.fs.map V.str) ∧ SqT K H p ws ∧ RowsAt K H n.exc ws
theorem RowsAt.keeps (k : Keeps N H H') : ∀ {f : RF} {vs : List V}, RowsAt K H f vs → RowsAt K H' f vs
  | .nil, _, h => h
  | .cons nm hs fs rl exc rest, vs, h => by
    obtain ⟨o, w, b, p, ws, vs', e, h1, h2, h3, h4, h6, h7⟩ := h
    exact ⟨o, w, b, p, ws, vs', e, k.tup h1, k.tup h2, k.tup h3, k.tup h4, RowsAt.keeps k h6, RowsAt.keeps k h7⟩
theorem RowAt.keeps {v : V} {n : Nd} (h : RowAt K H v n) (k : Keeps N H H') : RowAt K H' v n := by
  obtain ⟨o, w, b, p, ws, e, h1, h2, h3, h4, h6⟩ := h
  exact ⟨o, w, b, p, ws, e, k.tup h1, k.tup h2, k.tup h3, k.tup h4, h6.keeps k⟩
theorem RowsAt.all : ∀ {f : RF} {vs : List V}, RowsAt K H f vs → All2 (RowAt K H) vs f.nodes
  | .nil, _, h => by
    obtain rfl : _ = [] := h
    exact .nil
  | .cons nm hs fs rl exc rest, vs, h => by
    obtain ⟨o, w, b, p, ws, vs', rfl, h1, h2, h3, h4, h6, h7⟩ := h
    exact .cons ⟨o, w, b, p, ws, rfl, h1, h2, h3, h4, h6⟩ h7.all
theorem RowsAt.of : ∀ {f : RF} {vs : List V}, All2 (RowAt K H) vs f.nodes → RowsAt K H f vs
  | .nil, _, h => by
    cases h
    rfl
  | .cons nm hs fs rl exc rest, vs, h => by
    cases h with
    | cons h t =>
      obtain ⟨o, w, b, p, ws, rfl, h1, h2, h3, h4, h6⟩ := h
      exact ⟨o, w, b, p, ws, _, rfl, h1, h2, h3, h4, h6, RowsAt.of t⟩
theorem RowsAt.len {f : RF} {vs : List V} (h : RowsAt K H f vs) : vs.length = f.nodes.length := h.all.len
end
end Sc
namespace Sc
open PySem PySem.Spec PyProof.Rows L2
/-! ### rules -/
/-- a getter as its users see it -/
abbrev PropX (P : Program) (w : World) (K : PySem.W.Frag) (mg : Str → Option Value) (base : Heap) (C : Addr) (n f : Str) : Prop := ∃ p g fd, PropC P w K mg base C p g fd n f
/-- the class Rule as its users see it -/
structure RuleX (P : Program) (w : World) (K : PySem.W.Frag) (mg : Str → Option Value) (base : Heap) (R : Addr) : Prop where
  cls : Cls K R
  name : PropX P w K mg base R "name" "_name"
  condition : PropX P w K mg base R "condition" "_condition"
  ruling : PropX P w K mg base R "ruling" "_ruling"
  exceptions : PropX P w K mg base R "exceptions" "_exceptions"
  depth : PropX P w K mg base R "depth" "_depth"
/-- the getters of a condition -/
structure CondG (P : Program) (w : World) (K : PySem.W.Frag) (mg : Str → Option Value) (base : Heap) (C : Addr) : Prop where
  cls : Cls K C
  holding : PropX P w K mg base C "holding" "_holding"
  failing : PropX P w K mg base C "failing" "_failing"
  names : PropX P w K mg base C "names" "_names"
def Below (S : Nat → Sp) : Nat → Sp
  | 0 => fun _ _ _ _ => False
  | d + 1 => S d
theorem sc_nested : FnScope ["rules", "around", "found", "rule"] ["rules", "around"] (defScope s_nested) := ⟨rfl, rfl, rfl, by decide +kernel, rfl, by decide +kernel, by decide +kernel⟩
section
variable {P : Program} {w : World} {K : PySem.W.Frag} {mg : Str → Option Value} {base : Heap} {C R : Addr}
theorem FnOk.never {CX : CXT} {k : Nat} {f : Addr} {fd : FuncData} {ps : List Str} : FnOk P w K mg base CX k f fd ps (fun _ _ _ _ => False) := ⟨fun _ _ _ _ h => h.elim, fun _ _ _ _ _ _ _ _ _ _ _ _ _ h => h.elim⟩
def sp_nested (K : PySem.W.Frag) (C R : Addr) (d : Nat) : Sp := fun vs H Q _ => ∃ (N : Addr → Prop) (p : Addr) (k : Nat) (ws : List V) (f : RF), vs = [.ref p, .int (k : Nat)] ∧ SqT K H p ws ∧ ForAt K C R N H f ws ∧ f.dep ≤ d ∧ f.size ≤ 900 ∧
  ∀ H' D us, Same H H' → H D = none → H' D = some (.lst us) → PreAt K C R N H' us (f.pre k) → Q (.ref D) H'
theorem ok_nested {d : Nat} {f : Addr} {fd : FuncData} (F : Fun K "nested" "nested" s_nested f fd) (kR : RuleX P w K mg base R) (c_nested : Cal P w K mg base CX0 (d + 2) "nested" ["rules", "around"] (Below (sp_nested K C R) d)) :
    FnOk P w K mg base CX0 (d + 3) f fd ["rules", "around"] (sp_nested K C R d) := by
  refine F.ok sc_nested (fun vs H Q E h => by obtain ⟨N, p, k, ws, f, rfl, _⟩ := h; rfl) (fun cdv A outer s H vs Q E hr h => ?_)
  obtain ⟨N, p, k, ws, f, rfl, hP, hF, hd, hz, q⟩ := h
  have hA := hF.used.all
  have hln := hA.len
  have hlz := RF.nodes_le f
  refine ⟨_, (pss_cons (ps_set (i := 2) sc_nested.nd rfl (Or.inl rfl) (pe_lst pa_nil))
      (pss_cons (ps_for PassesOwn.never rfl (pi_tup (pv 0)) (pg_name (i := 3) sc_nested.nd rfl (Or.inl rfl)) (pss_cons (ps_expr (pe_bm PySem.F.plainAttrs_list PySem.F.slot_list_append PySem.F.type_list_append mt_append (pv 2) (pa_cons (pe_tup (pa_cons (pv 3) (pa_cons (pv 1) pa_nil))) pa_nil)))
      (pss_one (ps_expr (pe_bm PySem.F.plainAttrs_list PySem.F.slot_list_extend PySem.F.type_list_extend mt_extend (pv 2) (pa_cons (pe_cal c_nested hr (pa_cons (pe_cprop kR.exceptions kR.cls (hr.mono (by omega)) (pv 3)) (pa_cons (pe_op op_add (pv 1) pe_int) pa_nil))) pa_nil))))))
      (pss_one (ps_ret (pv 2))))), ?_⟩
  refine ⟨Nat.zero_le _, fun D nD => ⟨_, rfl, p, rfl, ⟨_, ((Same.refl H).put nD).tup hP⟩, for_it walk_tup (fun i σ H' => ∃ us y, σ = [some (.ref p), some (.int (k : Nat)), some (.ref D), y] ∧ Same H H' ∧ H' D = some (.lst us) ∧ PreAt K C R (Used N H) H' us (RF.preL (f.nodes.take i) k))
    ⟨[], none, rfl, (Same.refl H).put nD, upd_same, .nil⟩ (fun _ _ _ _ ⟨_, _, _, s, _⟩ => s.tup hP) ?_ ?_⟩⟩
  · rintro i y σ H3 H2 hi ⟨us, y', rfl, s, e, hu⟩ ⟨rfl, hy⟩
    have nU := used_not (N := N) nD
    obtain ⟨n, hn, o, rfl, hN⟩ := hA.get hy
    have hmem : n ∈ f.nodes := List.mem_of_getElem? hn
    have hdm := RF.dep_mem f n hmem
    have hsm := RF.size_mem f n hmem
    obtain ⟨d, rfl⟩ : ∃ d', d = d' + 1 := ⟨d - 1, by omega⟩
    have hul := hu.len
    have hpl := RF.preL_len (f := f) (i := i) (k := k)
    have hpl2 := RF.preL_len (f := f) (i := i + 1) (k := k)
    rw [RF.preL_more hn, List.length_append, List.length_cons, RF.pre_len] at hpl2
    refine ⟨_, rfl, .inl ⟨rfl, _, sqL_of e⟩, _, rfl, _, rfl, (by show 2 ≤ sizeLine; decide), fun t nt => ?_⟩
    have s3 := s.put' (o := .tup [.ref o, .int (k : Nat)]) nt
    have e3 : (upd H2 t (.tup [.ref o, .int (k : Nat)])) D = some (.lst us) := by rw [upd_ne (ne_of_none e nt)]; exact e
    have t3 : (upd H2 t (.tup [.ref o, .int (k : Nat)])) t = some (.tup [.ref o, .int (k : Nat)]) := upd_same
    have s23 : Same H2 (upd H2 t (.tup [.ref o, .int (k : Nat)])) := (Same.refl H2).put nt
    have hu3 := hu.keeps s23.keeps
    clear s23
    generalize upd H2 t (.tup [.ref o, .int (k : Nat)]) = H3 at s3 e3 t3 hu3 ⊢
    refine ⟨D, _, _, rfl, rfl, e3, small1000 (by omega), ?_⟩
    have s4 : Same H (upd H3 D (.lst (us ++ [.ref t]))) := s3.put nD
    have e4 : (upd H3 D (.lst (us ++ [.ref t]))) D = some (.lst (us ++ [.ref t])) := upd_same
    have tD : t ≠ D := fun z => by rw [z, e3] at t3; cases t3
    have hu4 : PreAt K C R (Used N H) (upd H3 D (.lst (us ++ [.ref t]))) (us ++ [.ref t]) (RF.preL (f.nodes.take i) k ++ [(n, k)]) :=
      (hu3.keeps (keeps_own e3 nU)).snoc ⟨t, o, rfl, by rw [upd_ne tD]; exact t3, hN.keeps s4.keeps⟩
    generalize upd H3 D (.lst (us ++ [.ref t])) = H4 at s4 e4 hu4 ⊢
    obtain ⟨dx, c, pe, l, ws', ho, hc, hpe, hl, hfe⟩ := hN
    refine ⟨_, rfl, .inl ⟨rfl, _, sqL_of e4⟩, _, rfl, o, dx, _, rfl, s4 _ _ ho, ⟨o, dx, _, _, rfl, s4 _ _ ho, rfl, ?_⟩⟩
    refine ⟨_, rfl, k, 1, rfl, rfl, ?_⟩
    refine ⟨_, pe, k + 1, ws', n.exc, rfl, s4.tup hpe, hfe.keeps s4.keeps, by omega, by omega, fun H5 D5 us5 s5 n5 e5 hu5 => ?_⟩
    have s45 := s4.trans s5
    have e45 := s5 _ _ e4
    refine ⟨D, D5, _, _, rfl, rfl, e45, e5, ?_, ?_⟩
    · have := hu5.len
      rw [RF.pre_len] at this
      have h4 := hu4.len
      rw [List.length_append (bs := [(n, k)]), List.length_singleton] at h4
      exact Nat.le_of_lt (small1000 (by omega))
    refine ⟨_, _, rfl, s45.put nD, upd_same, ?_⟩
    rw [RF.preL_more hn]
    have h1 := (hu4.keeps s5.keeps).app hu5
    have h2 := PreAt.keeps h1 (keeps_own (o := .lst (us ++ [.ref t] ++ us5)) e45 nU)
    rw [show RF.preL (f.nodes.take i) k ++ [(n, k)] ++ n.exc.pre (k + 1) = RF.preL (f.nodes.take i) k ++ ((n, k) :: n.exc.pre (k + 1)) by simp] at h2
    exact h2
  · rintro σ H2 ⟨us, y, rfl, s, e, hu⟩
    rw [hln, RF.preL_all] at hu
    exact ⟨_, rfl, q H2 D us s nD e (hu.mono fun _ _ x => x.re fun b xs h _ => h.1)⟩
end
end Sc
namespace Sc
open PySem PySem.Spec PyProof.Rows L2
/-! ### an object Rule -/
theorem sc_Rule___init__ : FnScope ["self", "name", "condition", "ruling", "exceptions", "rule", "_"] ["self", "name", "condition", "ruling", "exceptions"] (defScope s_Rule___init__) := ⟨rfl, rfl, rfl, by decide +kernel, rfl, by decide +kernel, by decide +kernel⟩
theorem sc_Rule_name : FnScope ["self"] ["self"] (defScope s_Rule_name) := ⟨rfl, rfl, rfl, by decide +kernel, rfl, by decide +kernel, by decide +kernel⟩
theorem sc_Rule_condition : FnScope ["self"] ["self"] (defScope s_Rule_condition) := ⟨rfl, rfl, rfl, by decide +kernel, rfl, by decide +kernel, by decide +kernel⟩
theorem sc_Rule_ruling : FnScope ["self"] ["self"] (defScope s_Rule_ruling) := ⟨rfl, rfl, rfl, by decide +kernel, rfl, by decide +kernel, by decide +kernel⟩
theorem sc_Rule_exceptions : FnScope ["self"] ["self"] (defScope s_Rule_exceptions) := ⟨rfl, rfl, rfl, by decide +kernel, rfl, by decide +kernel, by decide +kernel⟩
theorem sc_Rule_depth : FnScope ["self"] ["self"] (defScope s_Rule_depth) := ⟨rfl, rfl, rfl, by decide +kernel, rfl, by decide +kernel, by decide +kernel⟩
section
variable {P : Program} {w : World} {K : PySem.W.Frag} {mg : Str → Option Value} {base : Heap} {C R CR : Addr}
theorem ok_Rule_name {f : Addr} {fd : FuncData} (F : Fun K "name" "Rule.name" s_Rule_name f fd) (T : Cls K R) (n : NoAttr K R "_name") : FnOk P w K mg base CX0 1 f fd ["self"] (sp_prop R "_name") := by
  refine F.ok sc_Rule_name (fun vs H Q E h => by obtain ⟨x, dx, fs, v, rfl, _⟩ := h; rfl) (fun cdv A outer s H vs Q E hr h => ?_)
  obtain ⟨x, dx, fs, v, rfl, hx, hl, q⟩ := h
  exact ⟨_, (pss_one (ps_ret (pe_fld (pv 0) rfl))), ⟨_, rfl, x, R, dx, fs, v, rfl, hx, T, n, hl, q⟩⟩
theorem ok_Rule_condition {f : Addr} {fd : FuncData} (F : Fun K "condition" "Rule.condition" s_Rule_condition f fd) (T : Cls K R) (n : NoAttr K R "_condition") : FnOk P w K mg base CX0 1 f fd ["self"] (sp_prop R "_condition") := by
  refine F.ok sc_Rule_condition (fun vs H Q E h => by obtain ⟨x, dx, fs, v, rfl, _⟩ := h; rfl) (fun cdv A outer s H vs Q E hr h => ?_)
  obtain ⟨x, dx, fs, v, rfl, hx, hl, q⟩ := h
  exact ⟨_, (pss_one (ps_ret (pe_fld (pv 0) rfl))), ⟨_, rfl, x, R, dx, fs, v, rfl, hx, T, n, hl, q⟩⟩
theorem ok_Rule_ruling {f : Addr} {fd : FuncData} (F : Fun K "ruling" "Rule.ruling" s_Rule_ruling f fd) (T : Cls K R) (n : NoAttr K R "_ruling") : FnOk P w K mg base CX0 1 f fd ["self"] (sp_prop R "_ruling") := by
  refine F.ok sc_Rule_ruling (fun vs H Q E h => by obtain ⟨x, dx, fs, v, rfl, _⟩ := h; rfl) (fun cdv A outer s H vs Q E hr h => ?_)
  obtain ⟨x, dx, fs, v, rfl, hx, hl, q⟩ := h
  exact ⟨_, (pss_one (ps_ret (pe_fld (pv 0) rfl))), ⟨_, rfl, x, R, dx, fs, v, rfl, hx, T, n, hl, q⟩⟩
theorem ok_Rule_exceptions {f : Addr} {fd : FuncData} (F : Fun K "exceptions" "Rule.exceptions" s_Rule_exceptions f fd) (T : Cls K R) (n : NoAttr K R "_exceptions") : FnOk P w K mg base CX0 1 f fd ["self"] (sp_prop R "_exceptions") := by
  refine F.ok sc_Rule_exceptions (fun vs H Q E h => by obtain ⟨x, dx, fs, v, rfl, _⟩ := h; rfl) (fun cdv A outer s H vs Q E hr h => ?_)
  obtain ⟨x, dx, fs, v, rfl, hx, hl, q⟩ := h
  exact ⟨_, (pss_one (ps_ret (pe_fld (pv 0) rfl))), ⟨_, rfl, x, R, dx, fs, v, rfl, hx, T, n, hl, q⟩⟩
theorem ok_Rule_depth {f : Addr} {fd : FuncData} (F : Fun K "depth" "Rule.depth" s_Rule_depth f fd) (T : Cls K R) (n : NoAttr K R "_depth") : FnOk P w K mg base CX0 1 f fd ["self"] (sp_prop R "_depth") := by
  refine F.ok sc_Rule_depth (fun vs H Q E h => by obtain ⟨x, dx, fs, v, rfl, _⟩ := h; rfl) (fun cdv A outer s H vs Q E hr h => ?_)
  obtain ⟨x, dx, fs, v, rfl, hx, hl, q⟩ := h
  exact ⟨_, (pss_one (ps_ret (pe_fld (pv 0) rfl))), ⟨_, rfl, x, R, dx, fs, v, rfl, hx, T, n, hl, q⟩⟩
theorem putF_le {f : Str} {v : V} {fs : List (Str × V)} {n : Nat} (h : fs.length ≤ n) : (putF f v fs).length ≤ n + 1 := Nat.le_trans (putF_len f v fs) (Nat.succ_le_succ h)
theorem SameX.refl {x : Addr} {H : Hp} : SameX x H H := fun _ _ _ e => e
theorem SameX.put {x : Addr} {H H' : Hp} {o : HO} (s : SameX x H H') : SameX x H (upd H' x o) := fun b o' ne e => by rw [upd_ne ne]; exact s b o' ne e
theorem SameX.same {x : Addr} {H H' H'' : Hp} (s : SameX x H H') (k : Same H' H'') : SameX x H H'' := fun b o ne e => k _ _ (s b o ne e)
theorem SameX.of {x : Addr} {H H' : Hp} (k : Same H H') : SameX x H H' := fun b o _ e => k _ _ e
theorem SameX.free {x l : Addr} {H H' : Hp} (s : SameX x H H') (ne : l ≠ x) (n : H' l = none) : H l = none := by
  cases e : H l with
  | none => rfl
  | some o => rw [s l o ne e] at n; cases n
theorem dep_is {f : RF} {m : Int} (hm : m ∈ (0 : Int) :: f.nodes.map fun n => ((n.exc.dep + 1 : Nat) : Int)) (hle : ∀ y, y ∈ ((0 : Int) :: f.nodes.map fun n => ((n.exc.dep + 1 : Nat) : Int)) → y ≤ m) : m = (f.dep : Nat) := by
  have h0 := hle 0 List.mem_cons_self
  obtain ⟨k, rfl⟩ := Int.eq_ofNat_of_zero_le h0
  have h1 : f.dep ≤ k := RF.dep_le f k fun n hn => by
    have := hle _ (List.mem_cons_of_mem _ (List.mem_map.mpr ⟨n, hn, rfl⟩))
    omega
  have h2 : k ≤ f.dep := by
    rcases List.mem_cons.mp hm with h | h
    · omega
    · obtain ⟨n, hn, e⟩ := List.mem_map.mp h
      have := RF.dep_mem f n hn
      omega
  omega
def errPt (C : Addr) (w : Str) (H : Hp) (E : XK) : Prop := ∀ H' d, Same H H' → H' d = none → E (.ref C) (some d) (upd H' d (.xd [(("part" : Str), .str w)]))
def sp_rule_init (K : PySem.W.Frag) (C R CR : Addr) : Sp := fun vs H Q E => ∃ (N : Addr → Prop) (x dx c p : Addr) (nm rl : Str) (ws : List V) (exc : RF), vs = [.ref x, .str nm, .ref c, .str rl, .ref p] ∧ H x = some (.ins R dx []) ∧ SqT K H p ws ∧ ForAt K C R N H exc ws ∧ nm.length ≤ 1000 ∧ rl.length ≤ 1000 ∧ exc.dep ≤ 12 ∧ exc.size ≤ 900 ∧
  (isName nm = false → errPt CR "name" H E) ∧ (isName nm = true → (isName rl = false → errPt CR "ruling" H E) ∧ (isName rl = true →
    ∀ H' l, SameX x H H' → H' x = some (.ins R dx (ruleF nm c rl p ((exc.dep + 1 : Nat) : Int) l)) → l ≠ x → H l = none → H' l = some (.lst ((nm :: exc.names).map V.str)) → Q .non H'))
theorem ok_rule_init {f : Addr} {fd : FuncData} (F : Fun K "__init__" "Rule.__init__" s_Rule___init__ f fd) (B : Blt mg) (T : Cls K R) (n1 : NoAttr K R "_name") (n2 : NoAttr K R "_condition") (n3 : NoAttr K R "_ruling") (n4 : NoAttr K R "_exceptions") (n5 : NoAttr K R "_depth") (n6 : NoAttr K R "_inside")
    (kR : RuleX P w K mg base R) (e_InvalidRule : ErrMk P w K mg base "InvalidRule" CR ["self", "part"] (sp_init1 CR "part")) (c_is_name : Cal P w K mg base CX0 1 "is_name" ["value"] sp_is_name) (c_nested : Cal P w K mg base CX0 15 "nested" ["rules", "around"] (sp_nested K C R 12)) :
    FnOk P w K mg base (L2.CX P w) 16 f fd ["self", "name", "condition", "ruling", "exceptions"] (sp_rule_init K C R CR) := by
  refine F.okX sc_Rule___init__ (fun vs H Q E h => by obtain ⟨N, x, dx, c, p, nm, rl, ws, exc, rfl, _⟩ := h; rfl) (fun cdv A outer s H vs Q E hr h => ?_)
  obtain ⟨N, x, dx, c, p, nm, rl, ws, exc, rfl, hx, hP, hF, ln, lr, hd, hz, e1, q⟩ := h
  refine ⟨_, (pss_cons (ps_if (pt_not (pt_val (pe_cal c_is_name (hr.mono (by decide)) (pa_cons (pv 1) pa_nil)))) (pss_one (ps_raise rfl (takes_of rfl rfl rfl rfl) (pmk_err1 e_InvalidRule (hr.mono (by decide)) pe_str))) pss_nil)
      (pss_cons (ps_if (pt_not (pt_val (pe_cal c_is_name (hr.mono (by decide)) (pa_cons (pv 3) pa_nil)))) (pss_one (ps_raise rfl (takes_of rfl rfl rfl rfl) (pmk_err1 e_InvalidRule (hr.mono (by decide)) pe_str))) pss_nil)
      (pss_cons (ps_fld (pv 0) (pv 1) rfl)
      (pss_cons (ps_fld (pv 0) (pv 2) rfl)
      (pss_cons (ps_fld (pv 0) (pv 3) rfl)
      (pss_cons (ps_fld (pv 0) (pv 4) rfl)
      (pss_cons (ps_fld (pv 0) (pe_op op_add pe_int (pe_callB (cr_max rfl) (by rfl) B.b_max PyProof.Rows.boot_max (pa_cons (pe_op op_cat (pe_lst (pa_cons pe_int pa_nil)) (pe_lc (own := [("rule", 5)]) (g := gName 5) (tt := tYes) rfl sc_Rule___init__.nd (pi_tup (pv 4)) (blkOk_by (own := [("rule", 5)]) (N := ["self", "name", "condition", "ruling", "exceptions", "rule", "_"]) (sc := defScope s_Rule___init__) (by decide +kernel)) (fun _ _ _ _ _ => (pg_name (i := 5) sc_Rule___init__.nd rfl (Or.inl rfl))) (fun _ _ _ _ _ => pts_nil) (fun _ _ _ _ _ => (pe_.re (pe_cprop kR.depth kR.cls (hr.mono (by decide)) (pv 5)) (by first | (dsimp only [Cx.blk]; done) | exact rfl))))) pa_nil))) rfl)
      (pss_one (ps_fld (pv 0) (pe_op op_cat (pe_lst (pa_cons (pv 1) pa_nil)) (pe_lc (own := [("rule", 5), ("_", 6)]) (g := gTup K 2 (gCons (gName 5) (gCons (gName 6) gNil))) (tt := tYes) rfl sc_Rule___init__.nd (pi_list (pe_cal c_nested (hr.mono (by decide)) (pa_cons (pv 4) (pa_cons pe_int pa_nil)))) (blkOk_by (own := [("rule", 5), ("_", 6)]) (N := ["self", "name", "condition", "ruling", "exceptions", "rule", "_"]) (sc := defScope s_Rule___init__) (by decide +kernel)) (fun _ _ _ _ _ => (pg_tup (by rfl) (pgs_cons (pg_name (i := 5) sc_Rule___init__.nd rfl (Or.inl rfl)) (pgs_cons (pg_name (i := 6) sc_Rule___init__.nd rfl (Or.inl rfl)) pgs_nil)))) (fun _ _ _ _ _ => pts_nil) (fun _ _ _ _ _ => (pe_.re (pe_cprop kR.name kR.cls (hr.mono (by decide)) (pv 5)) (by first | (dsimp only [Cx.blk]; done) | exact rfl))))) rfl))))))))), ?_⟩
  have big : ∀ {m : Nat}, m ≤ 1000 → m ≤ sizeLine := fun {m} h => by rw [sizeLine_eq]; omega
  have fkp : ∀ wd : Str, wd.length ≤ 1000 → FOk (.str wd) := fun wd h => Nat.le_trans h (by decide)
  refine ⟨_, rfl, nm, rfl, big ln, fun H1 s1 => ⟨_, rfl, bcase (fun c1 => ?_) (fun c1 => ?_)⟩⟩
  · exact ⟨fkp "name" (by decide), fun d nd => e1 ((Bool.not_eq_true' _).mp c1) H1 d s1 nd⟩
  obtain ⟨e2, q⟩ := q ((Bool.not_eq_false' _).mp c1)
  refine ⟨_, rfl, rl, rfl, big lr, fun H2 s2 => ⟨_, rfl, bcase (fun c2 => ?_) (fun c2 => ?_)⟩⟩
  · exact ⟨fkp "ruling" (by decide), fun d nd => e2 ((Bool.not_eq_true' _).mp c2) H2 d (s1.trans s2) nd⟩
  have q := q ((Bool.not_eq_false' _).mp c2)
  have s12 := s1.trans s2
  have hx2 := s12 _ _ hx
  refine ⟨_, rfl, _, rfl, x, R, dx, _, rfl, hx2, T, n1, by decide, ?_⟩
  refine ⟨_, rfl, _, rfl, x, R, dx, _, rfl, upd_same, T, n2, Nat.lt_of_le_of_lt (putF_le (Nat.zero_le 0)) (by decide), ?_⟩
  refine ⟨_, rfl, _, rfl, x, R, dx, _, rfl, upd_same, T, n3, Nat.lt_of_le_of_lt (putF_le (putF_le (Nat.zero_le 0))) (by decide), ?_⟩
  refine ⟨_, rfl, _, rfl, x, R, dx, _, rfl, upd_same, T, n4, Nat.lt_of_le_of_lt (putF_le (putF_le (putF_le (Nat.zero_le 0)))) (by decide), ?_⟩
  have sx : SameX x H (upd (upd (upd (upd H2 x (.ins R dx (putF "_name" (.str nm) []))) x (.ins R dx (putF "_condition" (.ref c) (putF "_name" (.str nm) [])))) x (.ins R dx (putF "_ruling" (.str rl) (putF "_condition" (.ref c) (putF "_name" (.str nm) []))))) x (.ins R dx (putF "_exceptions" (.ref p) (putF "_ruling" (.str rl) (putF "_condition" (.ref c) (putF "_name" (.str nm) [])))))) := ((((SameX.of s12).put).put).put).put
  have hx6 : (upd (upd (upd (upd H2 x (.ins R dx (putF "_name" (.str nm) []))) x (.ins R dx (putF "_condition" (.ref c) (putF "_name" (.str nm) [])))) x (.ins R dx (putF "_ruling" (.str rl) (putF "_condition" (.ref c) (putF "_name" (.str nm) []))))) x (.ins R dx (putF "_exceptions" (.ref p) (putF "_ruling" (.str rl) (putF "_condition" (.ref c) (putF "_name" (.str nm) [])))))) x = some (.ins R dx (putF "_exceptions" (.ref p) (putF "_ruling" (.str rl) (putF "_condition" (.ref c) (putF "_name" (.str nm) []))))) := upd_same
  generalize upd (upd (upd (upd H2 x (.ins R dx (putF "_name" (.str nm) []))) x (.ins R dx (putF "_condition" (.ref c) (putF "_name" (.str nm) [])))) x (.ins R dx (putF "_ruling" (.str rl) (putF "_condition" (.ref c) (putF "_name" (.str nm) []))))) x (.ins R dx (putF "_exceptions" (.ref p) (putF "_ruling" (.str rl) (putF "_condition" (.ref c) (putF "_name" (.str nm) []))))) = H6 at sx hx6 ⊢
  have k6 : Keeps N H H6 := sx.keeps hx
  have hP6 := k6.tup hP
  have hF6 := hF.keeps k6
  have hA6 := hF6.all
  have hln := hA6.len
  have hlz := RF.nodes_le exc
  refine ⟨(by show 1 ≤ sizeLine; decide), fun l0 nl0 => ?_⟩
  have s0 : Same H6 (upd H6 l0 (.lst [.int 0])) := (Same.refl H6).put nl0
  have el0 : (upd H6 l0 (.lst [.int 0])) l0 = some (.lst [.int 0]) := upd_same
  generalize upd H6 l0 (.lst [.int 0]) = H7 at s0 el0 ⊢
  refine ⟨_, rfl, p, rfl, ⟨_, s0.tup hP6⟩, fun D nD => lc_it walk_tup (fun i H' => Same H7 H' ∧ H' D = some (.lst ((exc.nodes.take i).map fun n => V.int ((n.exc.dep + 1 : Nat) : Int)))) ⟨(Same.refl H7).put nD, upd_same⟩ (fun _ _ _ h => (s0.trans h.1).tup hP6) ?_ ?_⟩
  · rintro i y H8 H9 hi ⟨s, e⟩ ⟨rfl, hy⟩
    obtain ⟨n, hn, o, rfl, hN⟩ := hA6.get hy
    obtain ⟨dx', c', p', l', ws', ho, _⟩ := hN
    have ho := s _ _ (s0 _ _ ho)
    refine ⟨rfl, yes_ ⟨_, rfl, o, dx', _, rfl, ho, o, dx', _, _, rfl, ho, rfl, grow (acc := fun i => (exc.nodes.take i).map fun n => V.int ((n.exc.dep + 1 : Nat) : Int)) nD s e ?_ ?_⟩⟩
    · rw [List.length_map, List.length_take]
      exact small1000 (by omega)
    · show List.map _ _ = _
      rw [take_more hn, List.map_append]
      rfl
  rintro H8 ⟨s8, e8⟩
  rw [hln, List.take_length] at e8
  have el8 := s8 _ _ el0
  refine ⟨l0, D, _, _, rfl, rfl, el8, e8, ?_, fun l2 nl2 => ?_⟩
  · rw [List.length_map]
    exact big (by show 1 + _ ≤ _; omega)
  have s9 : Same H8 (upd H8 l2 (.lst ([V.int 0] ++ exc.nodes.map fun n => V.int ((n.exc.dep + 1 : Nat) : Int)))) := (Same.refl H8).put nl2
  have e9 : (upd H8 l2 (.lst ([V.int 0] ++ exc.nodes.map fun n => V.int ((n.exc.dep + 1 : Nat) : Int)))) l2 = some (.lst ([V.int 0] ++ exc.nodes.map fun n => V.int ((n.exc.dep + 1 : Nat) : Int))) := upd_same
  generalize upd H8 l2 (.lst ([V.int 0] ++ exc.nodes.map fun n => V.int ((n.exc.dep + 1 : Nat) : Int))) = H9 at s9 e9 ⊢
  refine ⟨l2, (0 : Int) :: exc.nodes.map (fun n => ((n.exc.dep + 1 : Nat) : Int)), rfl, sqL_of (by rw [e9, List.map_cons, List.map_map]; rfl), Nat.succ_pos _, fun m hm hle => ?_⟩
  obtain rfl := dep_is hm hle
  have s69 := (s0.trans s8).trans s9
  have hx9 := s69 _ _ hx6
  refine ⟨1, _, rfl, rfl, _, rfl, x, R, dx, _, rfl, hx9, T, n5, Nat.lt_of_le_of_lt (putF_le (putF_le (putF_le (putF_le (Nat.zero_le 0))))) (by decide), ?_⟩
  have sx10 : SameX x H (upd H9 x (.ins R dx (putF "_depth" (.int (1 + (exc.dep : Int))) (putF "_exceptions" (.ref p) (putF "_ruling" (.str rl) (putF "_condition" (.ref c) (putF "_name" (.str nm) []))))))) := (sx.same s69).put
  have hx10 : (upd H9 x (.ins R dx (putF "_depth" (.int (1 + (exc.dep : Int))) (putF "_exceptions" (.ref p) (putF "_ruling" (.str rl) (putF "_condition" (.ref c) (putF "_name" (.str nm) []))))))) x = some (.ins R dx (putF "_depth" (.int (1 + (exc.dep : Int))) (putF "_exceptions" (.ref p) (putF "_ruling" (.str rl) (putF "_condition" (.ref c) (putF "_name" (.str nm) [])))))) := upd_same
  generalize upd H9 x (.ins R dx (putF "_depth" (.int (1 + (exc.dep : Int))) (putF "_exceptions" (.ref p) (putF "_ruling" (.str rl) (putF "_condition" (.ref c) (putF "_name" (.str nm) [])))))) = H10 at sx10 hx10 ⊢
  rw [show 1 + (exc.dep : Int) = ((exc.dep + 1 : Nat) : Int) by omega] at hx10
  have k10 : Keeps N H H10 := sx10.keeps hx
  refine ⟨_, rfl, (by show 1 ≤ sizeLine; decide), fun l1 nl1 => ?_⟩
  have s11 : Same H10 (upd H10 l1 (.lst [.str nm])) := (Same.refl H10).put nl1
  have e11 : (upd H10 l1 (.lst [.str nm])) l1 = some (.lst [.str nm]) := upd_same
  generalize upd H10 l1 (.lst [.str nm]) = H11 at s11 e11 ⊢
  refine ⟨_, rfl, N, p, 1, ws, exc, rfl, s11.tup (k10.tup hP), (hF.keeps k10).keeps s11.keeps, hd, hz, fun H12 D3 us s12' nD3 eD3 hu => ?_⟩
  have hul := hu.len
  rw [RF.pre_len] at hul
  refine ⟨D3, rfl, ⟨_, sqL_of eD3⟩, fun D4 nD4 => lc_it walk_list (fun i H' => Same H12 H' ∧ H' D4 = some (.lst (((exc.pre 1).take i).map fun q => V.str q.1.nm))) ⟨(Same.refl H12).put nD4, upd_same⟩ (fun _ _ _ h => sqL_of (h.1 _ _ eD3)) ?_ ?_⟩
  · rintro i y H13 H14 hi ⟨s, e⟩ ⟨rfl, hy⟩
    obtain ⟨⟨n, k⟩, hq, t, o, rfl, ht, hN⟩ := hu.get hy
    obtain ⟨dx', c', p', l', ws', ho, _⟩ := hN
    have ho := s _ _ ho
    have ht := s _ _ ht
    refine ⟨t, [.ref o, .int (k : Nat)], rfl, sqT_of ht, rfl, _, _, rfl, _, _, rfl, rfl, rfl, yes_ ⟨_, rfl, o, dx', _, rfl, ho, o, dx', _, _, rfl, ho, rfl, grow (acc := fun i => ((exc.pre 1).take i).map fun q => V.str q.1.nm) nD4 s e ?_ ?_⟩⟩
    · rw [List.length_map, List.length_take, RF.pre_len]
      exact small1000 (by omega)
    · show List.map _ _ = _
      rw [take_more hq, List.map_append]
      rfl
  rintro H13 ⟨s13, e13⟩
  rw [hu.len, List.take_length] at e13
  have e13 : H13 D4 = some (.lst (exc.names.map V.str)) := by rw [e13, ← RF.pre_names exc 1, List.map_map]; rfl
  have s1013 := (s11.trans s12').trans s13
  refine ⟨l1, D4, _, _, rfl, rfl, s13 _ _ (s12' _ _ e11), e13, ?_, fun l2' nl2' => ?_⟩
  · rw [List.length_map, ← RF.pre_names exc 1, List.length_map, RF.pre_len]
    exact big (by show 1 + _ ≤ _; omega)
  have s14 : Same H13 (upd H13 l2' (.lst ([V.str nm] ++ exc.names.map V.str))) := (Same.refl H13).put nl2'
  have e14 : (upd H13 l2' (.lst ([V.str nm] ++ exc.names.map V.str))) l2' = some (.lst ((nm :: exc.names).map V.str)) := upd_same
  generalize upd H13 l2' (.lst ([V.str nm] ++ exc.names.map V.str)) = H14 at s14 e14 ⊢
  have s1014 := s1013.trans s14
  have hx14 := s1014 _ _ hx10
  have ne : l2' ≠ x := fun z => by rw [z, hx14] at e14; cases e14
  refine ⟨_, rfl, x, R, dx, _, rfl, hx14, T, n6, Nat.lt_of_le_of_lt (putF_le (putF_le (putF_le (putF_le (putF_le (Nat.zero_le 0)))))) (by decide), ?_⟩
  exact q _ l2' (sx10.same s1014).put upd_same ne (sx10.free ne (s1013.free nl2')) (by rw [upd_ne ne]; exact e14)
end
end Sc
namespace Sc
open PySem PySem.Spec PyProof.Rows L2
theorem sc_check_rules : FnScope ["facts", "rules", "names", "outermost", "index", "rule", "around", "name"] ["facts", "rules"] (defScope s_check_rules) := ⟨rfl, rfl, rfl, by decide +kernel, rfl, by decide +kernel, by decide +kernel⟩
/-- the word for a rule of a book that is wrong: met the names ahead of it, out how many are outermost -/
def faultAt (facts met : List Str) (out i : Nat) (n : Nd) (k : Nat) : Option Str :=
  if n.nm ∈ met then some "name" else if ((srt (n.hs ++ n.fs)).any fun x => !decide (x ∈ facts)) = true then some "condition" else if 5 < k then some "depth" else if i = 60 ∨ 40 < out then some "many" else none
def outNext (out k : Nat) : Nat := if k = 0 then out + 1 else out
def firstFault (facts : List Str) : List (Nd × Nat) → List Str → Nat → Nat → Option (Str × Nat)
  | [], _, _, _ => none
  | (n, k) :: r, met, out, i => match faultAt facts met (outNext out k) i n k with
    | some w => some (w, i)
    | none => firstFault facts r (met ++ [n.nm]) (outNext out k) (i + 1)
/-- the error that tells a word and an index -/
def errWI (C : Addr) (w : Str) (i : Int) (H : Hp) (E : XK) : Prop := ∀ H' d, Same H H' → H' d = none → E (.ref C) (some d) (upd H' d (.xd [(("index" : Str), .int i), (("word" : Str), .str w)]))
/-- parts that are no longer than those of a condition -/
def RF.Fit (f : RF) : Prop := ∀ q ∈ f.pre 0, q.1.hs.length + q.1.fs.length ≤ 100
section
variable {P : Program} {w : World} {K : PySem.W.Frag} {mg : Str → Option Value} {base : Heap} {C R CB : Addr}
theorem set_same' {σ : L2.St} {i : Nat} {v : Option V} (h : σ[i]? = some v) : σ.set i v = σ := by
  apply List.ext_getElem?
  intro j
  rw [List.getElem?_set]
  split
  · rename_i e
    subst e
    split
    · exact h.symm
    · rename_i c
      rw [List.getElem?_eq_none (by omega)] at h
      cases h
  · rfl
/-- if around == 0: outermost = outermost + 1 -/
def tOut (i j : Nat) : TS := fun D σ H => ∃ (out k : Nat), σ[i]? = some (some (.int (out : Nat))) ∧ σ[j]? = some (some (.int (k : Nat))) ∧ D.nx (σ.set i (some (.int (outNext out k : Nat)))) H
def sp_check_rules (K : PySem.W.Frag) (C R CB : Addr) : Sp := fun vs H Q E => ∃ (N : Addr → Prop) (a p : Addr) (xs : List Str) (ws : List V) (f : RF), vs = [.ref a, .ref p] ∧ SqT K H a (xs.map V.str) ∧ SqT K H p ws ∧ ForAt K C R N H f ws ∧ f.dep ≤ 12 ∧ f.size ≤ 900 ∧ f.Fit ∧
  (firstFault xs (f.pre 0) [] 0 0 = none → ∀ H', Same H H' → Q .non H') ∧ (∀ wd i, firstFault xs (f.pre 0) [] 0 0 = some (wd, i) → wd.length ≤ 1000 → errWI CB wd i H E)
theorem drop_at {α : Type} {l : List α} {i : Nat} {x : α} (h : l[i]? = some x) : l.drop i = x :: l.drop (i + 1) := by
  have hi : i < l.length := by
    by_cases c : i < l.length
    · exact c
    · rw [List.getElem?_eq_none (by omega)] at h; cases h
  rw [List.drop_eq_getElem_cons hi]
  rw [List.getElem?_eq_getElem hi] at h
  rw [Option.some.inj h]
theorem ok_check_rules {f : Addr} {fd : FuncData} {t1 t2 t3 : Tok} (F : Fun K "check_rules" "check_rules" s_check_rules f fd) (B : Blt mg) (kR : RuleX P w K mg base R) (kK : CondG P w K mg base C) (m_MOST_AROUND : mg "MOST_AROUND" = some (.int 5 t1)) (m_MOST_RULES : mg "MOST_RULES" = some (.int 60 t2)) (m_MOST_OUTERMOST : mg "MOST_OUTERMOST" = some (.int 40 t3))
    (e_InvalidBook : ErrMk P w K mg base "InvalidBook" CB ["self", "word", "index"] (sp_init2 CB "word" "index")) (c_nested : Cal P w K mg base CX0 15 "nested" ["rules", "around"] (sp_nested K C R 12)) :
    FnOk P w K mg base (L2.CX P w) 16 f fd ["facts", "rules"] (sp_check_rules K C R CB) := by
  refine F.okX sc_check_rules (fun vs H Q E h => by obtain ⟨N, a, p, xs, ws, f, rfl, _⟩ := h; rfl) (fun cdv A outer s H vs Q E hr h => ?_)
  obtain ⟨N, a, p, xs, ws, f, rfl, hA, hP, hF, hd, hz, hfit, q, er⟩ := h
  refine ⟨_, (pss_cons (ps_set (i := 2) sc_check_rules.nd rfl (Or.inl rfl) (pe_lst pa_nil))
      (pss_cons (ps_set (i := 3) sc_check_rules.nd rfl (Or.inl rfl) pe_int)
      (pss_one (ps_for (passes_of rfl) rfl (pi_enum (by rfl) B.b_enumerate (pa_cons (pe_cal c_nested (hr.mono (by decide)) (pa_cons (pv 1) (pa_cons pe_int pa_nil))) pa_nil)) (pg_tup (by rfl) (pgs_cons (pg_name (i := 4) sc_check_rules.nd rfl (Or.inl rfl)) (pgs_cons (pg_tup (by rfl) (pgs_cons (pg_name (i := 5) sc_check_rules.nd rfl (Or.inl rfl)) (pgs_cons (pg_name (i := 6) sc_check_rules.nd rfl (Or.inl rfl)) pgs_nil))) pgs_nil))) (pss_cons (wk_ps (tOut 3 6) (ps_if (pt_cmpR op_eq (pv 6) pe_int (nomark _)) (pss_one (ps_set (i := 3) sc_check_rules.nd rfl (Or.inl rfl) (pe_op op_add (pv 3) pe_int))) pss_nil) ?wo)
      (pss_cons (ps_if (pt_cmpR op_in_seq (pe_cprop kR.name kR.cls (hr.mono (by decide)) (pv 5)) (pv 2) rfl) (pss_one (ps_raise rfl (takes_of rfl rfl rfl rfl) (pmk_err2 e_InvalidBook (hr.mono (by decide)) pe_str (pv 4)))) pss_nil)
      (pss_cons (ps_if (pt_val (pe_callB (cr_any rfl) (by rfl) B.b_any (by decide +kernel) (pa_cons (pe_lc (own := [("name", 7)]) (g := gName 7) (tt := tYes) rfl sc_check_rules.nd (pi_tup (pe_cprop kK.names kK.cls (hr.mono (by decide)) (pe_cprop kR.condition kR.cls (hr.mono (by decide)) (pv 5)))) (blkOk_by (own := [("name", 7)]) (N := ["facts", "rules", "names", "outermost", "index", "rule", "around", "name"]) (sc := defScope s_check_rules) (by decide +kernel)) (fun _ _ _ _ _ => (pg_name (i := 7) sc_check_rules.nd rfl (Or.inl rfl))) (fun _ _ _ _ _ => pts_nil) (fun _ _ _ _ _ => (pe_.re (pe_cmpR op_notIn_seq (pv 7) (pv 0) rfl) (by first | (dsimp only [Cx.blk]; done) | exact rfl)))) pa_nil))) (pss_one (ps_raise rfl (takes_of rfl rfl rfl rfl) (pmk_err2 e_InvalidBook (hr.mono (by decide)) pe_str (pv 4)))) pss_nil)
      (pss_cons (ps_if (pt_cmpR op_gt (pv 6) (pe_glob (v := .int 5) rfl m_MOST_AROUND ⟨_, rfl⟩) (nomark _)) (pss_one (ps_raise rfl (takes_of rfl rfl rfl rfl) (pmk_err2 e_InvalidBook (hr.mono (by decide)) pe_str (pv 4)))) pss_nil)
      (pss_cons (ps_if (PW.pt (pw_or (pt_cmpR op_eq (pv 4) (pe_glob (v := .int 60) rfl m_MOST_RULES ⟨_, rfl⟩) (nomark _)) (pw_or1 (pt_cmpR op_gt (pv 3) (pe_glob (v := .int 40) rfl m_MOST_OUTERMOST ⟨_, rfl⟩) (nomark _))))) (pss_one (ps_raise rfl (takes_of rfl rfl rfl rfl) (pmk_err2 e_InvalidBook (hr.mono (by decide)) pe_str (pv 4)))) pss_nil)
      (pss_one (ps_expr (pe_bm PySem.F.plainAttrs_list PySem.F.slot_list_append PySem.F.type_list_append mt_append (pv 2) (pa_cons (pe_cprop kR.name kR.cls (hr.mono (by decide)) (pv 5)) pa_nil))))))))))))), ?_⟩
  case wo =>
    rintro D σ H1 ⟨out, k, h3, h6, q⟩
    refine ⟨_, h6, rfl, _, rfl, bcase (fun c => ?_) (fun c => ?_)⟩
    · have c : k = 0 := by have := V.int.inj (of_decide_eq_true c); omega
      subst c
      exact ⟨_, h3, out, 1, rfl, rfl, q⟩
    · have c : k ≠ 0 := fun z => by subst z; exact Bool.noConfusion (c.symm.trans (decide_eq_true rfl))
      unfold outNext at q
      rw [if_neg c, set_same' h3] at q
      exact q
  refine ⟨Nat.zero_le _, fun NL nNL => ?_⟩
  have s0 : Same H (upd H NL (.lst [])) := (Same.refl H).put nNL
  have e0 : (upd H NL (.lst [])) NL = some (.lst ([].map V.str)) := upd_same
  generalize upd H NL (.lst []) = H0 at s0 e0 ⊢
  refine ⟨_, rfl, Used N H, p, 0, ws, f, rfl, s0.tup hP, hF.used.keeps s0.keeps, hd, hz, fun H1 D us s1 nD e1 hu1 => ?_⟩
  have hul := hu1.len
  rw [RF.pre_len] at hul
  refine ⟨D, _, rfl, sqL_of e1, for_it walk_enum (fun i σ H' => ∃ (met : List Str) (out : Nat) (y4 y5 y6 y7 : Option V), σ = [some (.ref a), some (.ref p), some (.ref NL), some (.int (out : Nat)), y4, y5, y6, y7] ∧ Same H H' ∧ H' D = some (.lst us) ∧ PreAt K C R (Used N H) H' us (f.pre 0) ∧ H' NL = some (.lst (met.map V.str)) ∧ met.length = i ∧
      firstFault xs (f.pre 0) [] 0 0 = firstFault xs ((f.pre 0).drop i) met out i)
    ⟨[], 0, none, none, none, none, rfl, s0.trans s1, e1, hu1, s1 _ _ e0, rfl, rfl⟩ (fun _ _ _ _ ⟨_, _, _, _, _, _, _, _, e, _⟩ => sqL_of e) ?_ ?_⟩
  · rintro i x σ H2 H3 hi ⟨met, out, y4, y5, y6, y7, rfl, s, eD, hu, eN, hm, hff⟩ ⟨T, v1, v2, rfl, nT, rfl, h1, h2⟩
    obtain rfl : V.int (i : Nat) = v1 := Option.some.inj h1
    obtain ⟨⟨n, k⟩, hq, t, o, rfl, ht, hN⟩ := hu.get h2
    have hfitq := hfit _ (List.mem_of_getElem? hq)
    rw [drop_at hq] at hff
    dsimp only at ht hN hfitq
    have s23 : Same H2 (upd H2 T (.tup [.int (i : Nat), .ref t])) := (Same.refl H2).put nT
    have s3 := s.trans s23
    have eD3 := s23 _ _ eD
    have eN3 := s23 _ _ eN
    have ht3 := s23 _ _ ht
    have hN3 := hN.keeps s23.keeps
    have hu3 := hu.keeps s23.keeps
    have eT3 : (upd H2 T (.tup [.int (i : Nat), .ref t])) T = some (.tup [.int (i : Nat), .ref t]) := upd_same
    clear s23
    generalize upd H2 T (.tup [.int (i : Nat), .ref t]) = H3 at s3 eD3 eN3 ht3 hN3 hu3 eT3 ⊢
    refine ⟨T, [.int (i : Nat), .ref t], rfl, sqT_of eT3, rfl, _, _, rfl, _, _, rfl, t, [.ref o, .int (k : Nat)], rfl, sqT_of ht3, rfl, _, _, rfl, _, _, rfl, rfl, rfl, ?_⟩
    refine ⟨out, k, rfl, rfl, ?_⟩
    obtain ⟨dx, c, pe, l, ws', ho, hc, hpe, hl, hfe⟩ := hN3
    have hi9 : i ≤ 1000 := by omega
    have fkw : ∀ wd : Str, wd.length ≤ 1000 → FOk (.str wd) ∧ FOk (.int (i : Nat)) := fun wd h => ⟨Nat.le_trans h (by decide), fok_nat hi9⟩
    have rz : ∀ {wd : Str} {H' : Hp}, faultAt xs met (outNext out k) i n k = some wd → wd.length ≤ 1000 → Same H H' → ∀ d, H' d = none → E (.ref CB) (some d) (upd H' d (.xd [(("index" : Str), .int (i : Nat)), (("word" : Str), .str wd)])) := fun {wd H'} hf hw sH d nd => er wd i (by rw [hff]; unfold firstFault; rw [hf]) hw H' d sH nd
    refine ⟨_, rfl, o, dx, _, rfl, ho, o, dx, _, _, rfl, ho, rfl, _, rfl, NL, _, rfl, .inl (sqL_of eN3), rfl, flat_strs met, _, rfl, bcase (fun c1 => ?_) (fun c1 => ?_)⟩
    · have c1 : decide (n.nm ∈ met) = true := by rw [← inV_str]; exact c1
      exact ⟨_, rfl, fkw "name" (by decide), rz (by unfold faultAt; rw [if_pos (of_decide_eq_true c1)]) (by decide) s3⟩
    have c1 : decide (n.nm ∈ met) = false := by rw [← inV_str]; exact c1
    have f1 : faultAt xs met (outNext out k) i n k = if ((srt (n.hs ++ n.fs)).any fun x => !decide (x ∈ xs)) = true then some (Str.ofString "condition") else if 5 < k then some (Str.ofString "depth") else if i = 60 ∨ 40 < outNext out k then some (Str.ofString "many") else none := by
      unfold faultAt
      rw [if_neg (of_decide_eq_false c1)]
    obtain ⟨dxc, ca, cb, cn, zs, hco, hca, hcb, hcn, hzs⟩ := hc.at_
    have hzl : zs.length ≤ 100 := by
      rw [hzs, (srt_perm _).length_eq, List.length_append]
      exact hfitq
    refine ⟨_, rfl, o, dx, _, rfl, ho, o, dx, _, _, rfl, ho, rfl, c, dxc, _, rfl, hco, c, dxc, _, _, rfl, hco, rfl, cn, rfl, ⟨_, sqT_of hcn⟩, fun D2 nD2 => lc_it walk_tup (fun j H' => Same H3 H' ∧ H' D2 = some (.lst ((zs.take j).map fun x => V.bl (!decide (x ∈ xs))))) ⟨(Same.refl H3).put nD2, upd_same⟩ (fun _ _ _ h => h.1.tup (sqT_of hcn)) ?_ ?_⟩
    · rintro j y H4 H5 hj ⟨s4, e4⟩ ⟨rfl, hy⟩
      rw [List.length_map] at hj
      have hx : zs[j]? = some zs[j] := List.getElem?_eq_getElem hj
      obtain rfl : V.str zs[j] = y := strAt_inj hx hy
      refine ⟨rfl, yes_ ⟨_, rfl, _, rfl, a, _, rfl, .inr ((s3.trans s4).tup hA), rfl, flat_strs _, grow (acc := fun j => (zs.take j).map fun x => V.bl (!decide (x ∈ xs))) nD2 s4 e4 ?_ ?_⟩⟩
      · rw [List.length_map, List.length_take]
        exact small1000 (by omega)
      · show List.map _ _ = _
        rw [take_more hx, List.map_append]
        simp only [List.map_cons, List.map_nil, inV_str]
        rfl
    rintro H4 ⟨s4, e4⟩
    rw [List.length_map, List.take_length] at e4
    refine ⟨D2, zs.map fun x => !decide (x ∈ xs), rfl, sqL_of (by rw [e4, List.map_map]; rfl), ?_⟩
    have em : (zs.map fun x => !decide (x ∈ xs)).any id = (srt (n.hs ++ n.fs)).any fun x => !decide (x ∈ xs) := by
      rw [List.any_map, hzs]
      rfl
    rw [em]
    have s5 := s3.trans s4
    refine ⟨_, rfl, bcase (fun c2 => ?_) (fun c2 => ?_)⟩
    · exact ⟨_, rfl, fkw "condition" (by decide), rz (by rw [f1, if_pos c2]) (by decide) s5⟩
    have f2 : faultAt xs met (outNext out k) i n k = if 5 < k then some (Str.ofString "depth") else if i = 60 ∨ 40 < outNext out k then some (Str.ofString "many") else none := by
      rw [f1, if_neg (by rw [c2]; exact Bool.false_ne_true)]
    refine ⟨_, rfl, k, 5, rfl, rfl, _, rfl, bcase (fun c3 => ?_) (fun c3 => ?_)⟩
    · have c3 : 5 < k := by have := of_decide_eq_true c3; omega
      exact ⟨_, rfl, fkw "depth" (by decide), rz (by rw [f2, if_pos c3]) (by decide) s5⟩
    have c3 : ¬ 5 < k := by have := of_decide_eq_false c3; omega
    rw [if_neg c3] at f2
    refine ⟨_, rfl, rfl, _, rfl, bcase (fun c4 => ?_) (fun c4 => ?_)⟩
    · have e60 : i = 60 := by have := V.int.inj (of_decide_eq_true c4); omega
      exact iteT ⟨_, rfl, fkw "many" (by decide), rz (by rw [f2, if_pos (.inl e60)]) (by decide) s5⟩
    have n60 : i ≠ 60 := fun z => by subst z; exact Bool.noConfusion (c4.symm.trans (decide_eq_true rfl))
    refine ⟨_, rfl, outNext out k, 40, rfl, rfl, _, rfl, bcase (fun c5 => ?_) (fun c5 => ?_)⟩
    · have c5 : 40 < outNext out k := by have := of_decide_eq_true c5; omega
      exact ⟨_, rfl, fkw "many" (by decide), rz (by rw [f2, if_pos (.inr c5)]) (by decide) s5⟩
    have c5 : ¬ 40 < outNext out k := by have := of_decide_eq_false c5; omega
    rw [if_neg (fun z => z.elim n60 c5)] at f2
    have eN5 := s4 _ _ eN3
    have ho5 := s4 _ _ ho
    refine ⟨_, rfl, .inl ⟨rfl, _, sqL_of eN5⟩, _, rfl, o, dx, _, rfl, ho5, o, dx, _, _, rfl, ho5, rfl, NL, _, _, rfl, rfl, eN5, ?_, ?_⟩
    · rw [List.length_map]
      exact small1000 (by omega)
    have nDL : D ≠ NL := fun z => by rw [z, e0] at nD; cases nD
    refine ⟨met ++ [n.nm], outNext out k, _, _, _, _, rfl, s5.put nNL, by rw [upd_ne nDL]; exact s4 _ _ eD3, (hu3.keeps s4.keeps).keeps (keeps_own eN5 (used_not nNL)), by rw [upd_same, List.map_append]; rfl, by rw [List.length_append, List.length_singleton, hm], ?_⟩
    rw [hff]
    show (match faultAt xs met (outNext out k) i n k with | some w => some (w, i) | none => _) = _
    rw [f2]
  · rintro σ H2 ⟨met, out, y4, y5, y6, y7, rfl, s, eD, hu, eN, hm, hff⟩
    have hl : us.length = (f.pre 0).length := hu1.len
    rw [hl, List.drop_length] at hff
    exact q hff H2 s
end
end Sc
namespace Sc
open PySem PySem.Spec PyProof.Rows L2
/-! ### facts -/
theorem sc_check_facts : FnScope ["facts", "index", "name"] ["facts"] (defScope s_check_facts) := ⟨rfl, rfl, rfl, by decide +kernel, rfl, by decide +kernel, by decide +kernel⟩
theorem sc_check_case : FnScope ["facts", "case", "index", "name"] ["facts", "case"] (defScope s_check_case) := ⟨rfl, rfl, rfl, by decide +kernel, rfl, by decide +kernel, by decide +kernel⟩
/-- the i-th fact is wrong -/
def badAt (xs : List Str) (i : Nat) : Bool := decide (i = 60) || ((match xs[i]? with | some x => !isName x | none => false) || !risesAt xs i)
def firstBad (xs : List Str) : Option Nat := if xs = [] then some 0 else (List.range xs.length).find? (badAt xs)
section
variable {P : Program} {w : World} {K : PySem.W.Frag} {mg : Str → Option Value} {base : Heap} {CF CC CN : Addr}
def sp_check_facts (K : PySem.W.Frag) (C : Addr) : Sp := fun vs H Q E => ∃ (a : Addr) (xs : List Str), vs = [.ref a] ∧ SqT K H a (xs.map V.str) ∧ Txts xs ∧ xs.length ≤ 1000 ∧
  (firstBad xs = none → ∀ H', Same H H' → Q .non H') ∧ (∀ i, firstBad xs = some i → errIx C i H E)
theorem ok_check_facts {f : Addr} {fd : FuncData} (F : Fun K "check_facts" "check_facts" s_check_facts f fd) (B : Blt mg) (mM : ∃ t, mg "MOST_FACTS" = some (.int 60 t))
    (e_InvalidFacts : ErrMk P w K mg base "InvalidFacts" CF ["self", "index"] (sp_init1 CF "index")) (c_is_name : Cal P w K mg base CX0 1 "is_name" ["value"] sp_is_name) (c_rises : Cal P w K mg base CX0 1 "rises" ["names", "index"] (sp_rises K)) :
    FnOk P w K mg base (L2.CX P w) 3 f fd ["facts"] (sp_check_facts K CF) := by
  obtain ⟨t1, mM⟩ := mM
  refine F.okX sc_check_facts (fun vs H Q E h => by obtain ⟨a, xs, rfl, _⟩ := h; rfl) (fun cdv A outer s H vs Q E hr h => ?_)
  obtain ⟨a, xs, rfl, hS, hT, hl, q, e⟩ := h
  refine ⟨_, (pss_cons (ps_if (pt_not (pt_tru (pv 0) (by intro _; rfl))) (pss_one (ps_raise rfl (takes_of rfl rfl rfl rfl) (pmk_err1 e_InvalidFacts (hr.mono (by decide)) pe_int))) pss_nil)
      (pss_one (ps_for (passes_of rfl) rfl (pi_enumT (by rfl) B.b_enumerate (pa_cons (pv 0) pa_nil)) (pg_tup (by rfl) (pgs_cons (pg_name (i := 1) sc_check_facts.nd rfl (Or.inl rfl)) (pgs_cons (pg_name (i := 2) sc_check_facts.nd rfl (Or.inl rfl)) pgs_nil))) (pss_one (ps_if (PW.pt (pw_or (pt_cmpR op_eq (pv 1) (pe_glob (v := .int 60) rfl mM ⟨_, rfl⟩) (nomark _)) (pw_or (pt_not (pt_val (pe_cal c_is_name (hr.mono (by decide)) (pa_cons (pv 2) pa_nil)))) (pw_or1 (pt_not (pt_val (pe_cal c_rises (hr.mono (by decide)) (pa_cons (pv 0) (pa_cons (pv 1) pa_nil))))))))) (pss_one (ps_raise rfl (takes_of rfl rfl rfl rfl) (pmk_err1 e_InvalidFacts (hr.mono (by decide)) (pv 1)))) pss_nil))))), ?_⟩
  refine ⟨.ref a, rfl, _, .inr (.inl ⟨_, hS, rfl⟩), bcase (fun e0 => ?_) (fun e0 => ?_)⟩
  · have ex : xs = [] := by
      cases xs with
      | nil => rfl
      | cons x r => exact Bool.noConfusion (show false = true from e0)
    exact ⟨fok_nat (i := 0) (by decide), fun d nd => e 0 (by unfold firstBad; rw [if_pos ex]) H d (Same.refl H) nd⟩
  · have ex : xs ≠ [] := fun z => by
      subst z
      exact Bool.noConfusion (show true = false from e0)
    have rz : ∀ {i : Nat} {H' : Hp}, i < xs.length → (∀ j, j < i → badAt xs j = false) → badAt xs i = true → Same H H' → ∀ d, H' d = none → E (.ref CF) (some d) (upd H' d (.xd [(("index" : Str), .int (i : Nat))])) :=
      fun {i H'} hi hb hp s d nd => e i (by unfold firstBad; rw [if_neg ex]; exact find_at hi hp hb) H' d s nd
    refine ⟨.ref a, rfl, a, _, rfl, hS, for_it walk_enumT (fun i σ H' => ∃ y1 y2, σ = [some (.ref a), y1, y2] ∧ Same H H' ∧ ∀ j, j < i → badAt xs j = false)
      ⟨none, none, rfl, Same.refl H, fun j hj => absurd hj (Nat.not_lt_zero j)⟩ (fun i σ H' _ ⟨_, _, _, s, _⟩ => s.tup hS) ?_ ?_⟩
    · rintro i x σ H2 H3 hi ⟨y1, y2, rfl, s, hb⟩ ⟨T, v1, v2, rfl, nT, rfl, h1, h2⟩
      obtain rfl : V.int (i : Nat) = v1 := Option.some.inj h1
      rw [List.length_map] at hi
      have hx : xs[i]? = some xs[i] := List.getElem?_eq_getElem hi
      obtain rfl : V.str xs[i] = v2 := strAt_inj hx h2
      have s3 : Same H (upd H2 T (.tup [.int (i : Nat), .str xs[i]])) := s.put' nT
      have rz := fun {H' : Hp} (hp : badAt xs i = true) (sH : Same H H') => rz hi hb hp sH
      refine ⟨T, [.int (i : Nat), .str xs[i]], rfl, sqT_new, rfl, _, _, rfl, _, _, rfl, rfl, ?_⟩
      refine ⟨_, rfl, rfl, _, rfl, bcase (fun c1 => ?_) (fun c1 => ?_)⟩
      · have e60 : i = 60 := by have := V.int.inj (of_decide_eq_true c1); omega
        refine iteT ⟨_, rfl, fok_nat (by omega), rz (by unfold badAt; rw [decide_eq_true e60, Bool.true_or]) s3⟩
      · have n60 : i ≠ 60 := fun z => by subst z; exact Bool.noConfusion (c1.symm.trans (decide_eq_true rfl))
        refine ⟨_, rfl, xs[i], rfl, Nat.le_trans (hT _ (List.getElem_mem hi)) (by rw [sizeLine_eq]; decide), fun H4 s4 => ⟨_, rfl, bcase (fun c2 => ?_) (fun c2 => ?_)⟩⟩
        · refine iteT ⟨_, rfl, fok_nat (by omega), rz (by unfold badAt; rw [hx, decide_eq_false n60, Bool.false_or]; show (!isName xs[i] || _) = true; rw [c2, Bool.true_or]) (s3.trans s4)⟩
        · refine ⟨.ref a, rfl, _, rfl, a, xs, i, rfl, (s3.trans s4).tup hS, hi, _, rfl, bcase (fun c3 => ?_) (fun c3 => ?_)⟩
          · exact ⟨_, rfl, fok_nat (by omega), rz (by unfold badAt; rw [hx, c3, Bool.or_true, Bool.or_true]) (s3.trans s4)⟩
          · refine ⟨_, _, rfl, s3.trans s4, fun j hj => ?_⟩
            by_cases hj2 : j < i
            · exact hb j hj2
            · have ej : j = i := by omega
              subst ej
              unfold badAt
              rw [hx, decide_eq_false n60, c3, Bool.or_false, Bool.false_or]
              exact c2
    · rintro σ H2 ⟨y1, y2, rfl, s, hb⟩
      rw [List.length_map] at hb
      exact q (by unfold firstBad; rw [if_neg ex]; exact find_none hb) H2 s
/-- the i-th name of a case is wrong -/
def outAt (facts cs : List Str) (i : Nat) : Bool := (match cs[i]? with | some x => !decide (x ∈ facts) | none => false) || !risesAt cs i
def firstOut (facts cs : List Str) : Option Nat := (List.range cs.length).find? (outAt facts cs)
def sp_check_case (K : PySem.W.Frag) (C : Addr) : Sp := fun vs H Q E => ∃ (a b : Addr) (xs cs : List Str), vs = [.ref a, .ref b] ∧ SqT K H a (xs.map V.str) ∧ SqT K H b (cs.map V.str) ∧ cs.length ≤ 1000 ∧
  (firstOut xs cs = none → ∀ H', Same H H' → Q .non H') ∧ (∀ i, firstOut xs cs = some i → errIx C i H E)
theorem ok_check_case {f : Addr} {fd : FuncData} (F : Fun K "check_case" "check_case" s_check_case f fd) (B : Blt mg)
    (e_InvalidCase : ErrMk P w K mg base "InvalidCase" CC ["self", "index"] (sp_init1 CC "index")) (c_rises : Cal P w K mg base CX0 1 "rises" ["names", "index"] (sp_rises K)) :
    FnOk P w K mg base (L2.CX P w) 3 f fd ["facts", "case"] (sp_check_case K CC) := by
  refine F.okX sc_check_case (fun vs H Q E h => by obtain ⟨a, b, xs, cs, rfl, _⟩ := h; rfl) (fun cdv A outer s H vs Q E hr h => ?_)
  obtain ⟨a, b, xs, cs, rfl, hS, hC, hl, q, e⟩ := h
  refine ⟨_, (pss_one (ps_for (passes_of rfl) rfl (pi_enumT (by rfl) B.b_enumerate (pa_cons (pv 1) pa_nil)) (pg_tup (by rfl) (pgs_cons (pg_name (i := 2) sc_check_case.nd rfl (Or.inl rfl)) (pgs_cons (pg_name (i := 3) sc_check_case.nd rfl (Or.inl rfl)) pgs_nil))) (pss_one (ps_if (PW.pt (pw_or (pt_cmpR op_notIn_seq (pv 3) (pv 0) rfl) (pw_or1 (pt_not (pt_val (pe_cal c_rises (hr.mono (by decide)) (pa_cons (pv 1) (pa_cons (pv 2) pa_nil)))))))) (pss_one (ps_raise rfl (takes_of rfl rfl rfl rfl) (pmk_err1 e_InvalidCase (hr.mono (by decide)) (pv 2)))) pss_nil)))), ?_⟩
  refine ⟨.ref b, rfl, b, _, rfl, hC, for_it walk_enumT (fun i σ H' => ∃ y1 y2, σ = [some (.ref a), some (.ref b), y1, y2] ∧ Same H H' ∧ ∀ j, j < i → outAt xs cs j = false)
    ⟨none, none, rfl, Same.refl H, fun j hj => absurd hj (Nat.not_lt_zero j)⟩ (fun i σ H' _ ⟨_, _, _, s, _⟩ => s.tup hC) ?_ ?_⟩
  · rintro i x σ H2 H3 hi ⟨y1, y2, rfl, s, hb⟩ ⟨T, v1, v2, rfl, nT, rfl, h1, h2⟩
    obtain rfl : V.int (i : Nat) = v1 := Option.some.inj h1
    rw [List.length_map] at hi
    have hx : cs[i]? = some cs[i] := List.getElem?_eq_getElem hi
    obtain rfl : V.str cs[i] = v2 := strAt_inj hx h2
    have s3 : Same H (upd H2 T (.tup [.int (i : Nat), .str cs[i]])) := s.put' nT
    have rz : ∀ {H' : Hp}, outAt xs cs i = true → Same H H' → ∀ d, H' d = none → E (.ref CC) (some d) (upd H' d (.xd [(("index" : Str), .int (i : Nat))])) := fun {H'} hp sH d nd => e i (find_at hi hp hb) H' d sH nd
    refine ⟨T, [.int (i : Nat), .str cs[i]], rfl, sqT_new, rfl, _, _, rfl, _, _, rfl, rfl, ?_⟩
    refine ⟨.str cs[i], rfl, .ref a, rfl, a, _, rfl, .inr (s3.tup hS), rfl, flat_strs xs, _, rfl, bcase (fun c1 => ?_) (fun c1 => ?_)⟩
    · have c1 : (!decide (cs[i] ∈ xs)) = true := by rw [← inV_str]; exact c1
      exact iteT ⟨_, rfl, fok_nat (by omega), rz (by unfold outAt; rw [hx]; show (!decide (cs[i] ∈ xs) || _) = true; rw [c1, Bool.true_or]) s3⟩
    · have c1 : (!decide (cs[i] ∈ xs)) = false := by rw [← inV_str]; exact c1
      refine ⟨.ref b, rfl, _, rfl, b, cs, i, rfl, s3.tup hC, hi, _, rfl, bcase (fun c3 => ?_) (fun c3 => ?_)⟩
      · exact ⟨_, rfl, fok_nat (by omega), rz (by unfold outAt; rw [hx, c3, Bool.or_true]) s3⟩
      · refine ⟨_, _, rfl, s3, fun j hj => ?_⟩
        by_cases hj2 : j < i
        · exact hb j hj2
        · have ej : j = i := by omega
          subst ej
          unfold outAt
          rw [hx, c3, Bool.or_false]
          exact c1
  · rintro σ H2 ⟨y1, y2, rfl, s, hb⟩
    rw [List.length_map] at hb
    exact q (find_none hb) H2 s
end
end Sc
namespace Sc
open PySem PySem.Spec PyProof.Rows L2
/-! ### an object Book -/
theorem sc_Book___init__ : FnScope ["self", "facts", "rules", "ruling", "rule", "_"] ["self", "facts", "rules", "ruling"] (defScope s_Book___init__) := ⟨rfl, rfl, rfl, by decide +kernel, rfl, by decide +kernel, by decide +kernel⟩
theorem sc_Book_facts : FnScope ["self"] ["self"] (defScope s_Book_facts) := ⟨rfl, rfl, rfl, by decide +kernel, rfl, by decide +kernel, by decide +kernel⟩
theorem sc_Book_rules : FnScope ["self"] ["self"] (defScope s_Book_rules) := ⟨rfl, rfl, rfl, by decide +kernel, rfl, by decide +kernel, by decide +kernel⟩
theorem sc_Book_ruling : FnScope ["self"] ["self"] (defScope s_Book_ruling) := ⟨rfl, rfl, rfl, by decide +kernel, rfl, by decide +kernel, by decide +kernel⟩
section
variable {P : Program} {w : World} {K : PySem.W.Frag} {mg : Str → Option Value} {base : Heap} {C R B CF CB : Addr}
theorem ok_Book_facts {f : Addr} {fd : FuncData} (F : Fun K "facts" "Book.facts" s_Book_facts f fd) (T : Cls K B) (n : NoAttr K B "_facts") : FnOk P w K mg base CX0 1 f fd ["self"] (sp_prop B "_facts") := by
  refine F.ok sc_Book_facts (fun vs H Q E h => by obtain ⟨x, dx, fs, v, rfl, _⟩ := h; rfl) (fun cdv A outer s H vs Q E hr h => ?_)
  obtain ⟨x, dx, fs, v, rfl, hx, hl, q⟩ := h
  exact ⟨_, (pss_one (ps_ret (pe_fld (pv 0) rfl))), ⟨_, rfl, x, B, dx, fs, v, rfl, hx, T, n, hl, q⟩⟩
theorem ok_Book_rules {f : Addr} {fd : FuncData} (F : Fun K "rules" "Book.rules" s_Book_rules f fd) (T : Cls K B) (n : NoAttr K B "_rules") : FnOk P w K mg base CX0 1 f fd ["self"] (sp_prop B "_rules") := by
  refine F.ok sc_Book_rules (fun vs H Q E h => by obtain ⟨x, dx, fs, v, rfl, _⟩ := h; rfl) (fun cdv A outer s H vs Q E hr h => ?_)
  obtain ⟨x, dx, fs, v, rfl, hx, hl, q⟩ := h
  exact ⟨_, (pss_one (ps_ret (pe_fld (pv 0) rfl))), ⟨_, rfl, x, B, dx, fs, v, rfl, hx, T, n, hl, q⟩⟩
theorem ok_Book_ruling {f : Addr} {fd : FuncData} (F : Fun K "ruling" "Book.ruling" s_Book_ruling f fd) (T : Cls K B) (n : NoAttr K B "_ruling") : FnOk P w K mg base CX0 1 f fd ["self"] (sp_prop B "_ruling") := by
  refine F.ok sc_Book_ruling (fun vs H Q E h => by obtain ⟨x, dx, fs, v, rfl, _⟩ := h; rfl) (fun cdv A outer s H vs Q E hr h => ?_)
  obtain ⟨x, dx, fs, v, rfl, hx, hl, q⟩ := h
  exact ⟨_, (pss_one (ps_ret (pe_fld (pv 0) rfl))), ⟨_, rfl, x, B, dx, fs, v, rfl, hx, T, n, hl, q⟩⟩
/-- the fields of a book -/
def bookF (a p : Addr) (rl : Str) (l : Addr) : List (Str × V) := putF "_numbered" (.ref l) (putF "_ruling" (.str rl) (putF "_rules" (.ref p) (putF "_facts" (.ref a) [])))
def BookAt (K : PySem.W.Frag) (C R B : Addr) (N : Addr → Prop) (H : Hp) (o : Addr) (xs : List Str) (f : RF) (rl : Str) : Prop := ∃ (dx a p l : Addr) (ws us : List V), H o = some (.ins B dx (bookF a p rl l)) ∧ SqT K H a (xs.map V.str) ∧ SqT K H p ws ∧ ForAt K C R N H f ws ∧ (N l ∧ H l = some (.lst us)) ∧ All2 (RefAt K C R N H) us ((f.pre 0).map fun q => q.1)
theorem BookAt.keeps {N : Addr → Prop} {H H' : Hp} {o : Addr} {xs : List Str} {f : RF} {rl : Str} (h : BookAt K C R B N H o xs f rl) (k : Keeps N H H') : BookAt K C R B N H' o xs f rl := by
  obtain ⟨dx, a, p, l, ws, us, h1, h2, h3, h4, ⟨h5, h6⟩, h7⟩ := h
  exact ⟨dx, a, p, l, ws, us, k _ _ stays_ins h1, k.tup h2, k.tup h3, h4.keeps k, ⟨h5, k _ _ (stays_lst h5) h6⟩, h7.mono fun _ _ x => x.keeps k⟩
def sp_book_init (K : PySem.W.Frag) (C R B CF CB : Addr) : Sp := fun vs H Q E => ∃ (N : Addr → Prop) (x dx a p : Addr) (xs : List Str) (rl : Str) (ws : List V) (f : RF), vs = [.ref x, .ref a, .ref p, .str rl] ∧ H x = some (.ins B dx []) ∧ SqT K H a (xs.map V.str) ∧ Txts xs ∧ xs.length ≤ 1000 ∧ SqT K H p ws ∧ ForAt K C R N H f ws ∧ f.dep ≤ 12 ∧ f.size ≤ 900 ∧ f.Fit ∧ rl.length ≤ 1000 ∧
  (∀ i, firstBad xs = some i → errIx CF i H E) ∧ (firstBad xs = none → (∀ wd i, firstFault xs (f.pre 0) [] 0 0 = some (wd, i) → wd.length ≤ 1000 → errWI CB wd (i : Nat) H E) ∧ (firstFault xs (f.pre 0) [] 0 0 = none →
    (isName rl = false → errWI CB "ruling" (-1) H E) ∧ (isName rl = true → ∀ H' l us, SameX x H H' → H' x = some (.ins B dx (bookF a p rl l)) → l ≠ x → H l = none → H' l = some (.lst us) → All2 (RefAt K C R N H') us ((f.pre 0).map fun q => q.1) → Q .non H')))
theorem ok_book_init {f : Addr} {fd : FuncData} (F : Fun K "__init__" "Book.__init__" s_Book___init__ f fd) (Bl : Blt mg) (T : Cls K B) (n1 : NoAttr K B "_facts") (n2 : NoAttr K B "_rules") (n3 : NoAttr K B "_ruling") (n4 : NoAttr K B "_numbered")
    (e_InvalidBook : ErrMk P w K mg base "InvalidBook" CB ["self", "word", "index"] (sp_init2 CB "word" "index")) (c_is_name : Cal P w K mg base CX0 1 "is_name" ["value"] sp_is_name) (c_nested : Cal P w K mg base CX0 15 "nested" ["rules", "around"] (sp_nested K C R 12))
    (c_check_facts : Cal P w K mg base (L2.CX P w) 3 "check_facts" ["facts"] (sp_check_facts K CF)) (c_check_rules : Cal P w K mg base (L2.CX P w) 16 "check_rules" ["facts", "rules"] (sp_check_rules K C R CB)) :
    FnOk P w K mg base (L2.CX P w) 17 f fd ["self", "facts", "rules", "ruling"] (sp_book_init K C R B CF CB) := by
  refine F.okX sc_Book___init__ (fun vs H Q E h => by obtain ⟨N, x, dx, a, p, xs, rl, ws, f, rfl, _⟩ := h; rfl) (fun cdv A outer s H vs Q E hr h => ?_)
  obtain ⟨N, x, dx, a, p, xs, rl, ws, f, rfl, hx, hA, tA, lA, hP, hF, hd, hz, hfit, lr, e1, q⟩ := h
  refine ⟨_, (pss_cons (ps_expr (pe_calX c_check_facts (hr.mono (by decide)) (takes_of rfl rfl rfl rfl) (pa_cons (pv 1) pa_nil)))
      (pss_cons (ps_expr (pe_calX c_check_rules (hr.mono (by decide)) (takes_of rfl rfl rfl rfl) (pa_cons (pv 1) (pa_cons (pv 2) pa_nil))))
      (pss_cons (ps_if (pt_not (pt_val (pe_cal c_is_name (hr.mono (by decide)) (pa_cons (pv 3) pa_nil)))) (pss_one (ps_raise rfl (takes_of rfl rfl rfl rfl) (pmk_err2 e_InvalidBook (hr.mono (by decide)) pe_str (pe_un un_neg pe_int)))) pss_nil)
      (pss_cons (ps_fld (pv 0) (pv 1) rfl)
      (pss_cons (ps_fld (pv 0) (pv 2) rfl)
      (pss_cons (ps_fld (pv 0) (pv 3) rfl)
      (pss_one (ps_fld (pv 0) (pe_lc (own := [("rule", 4), ("_", 5)]) (g := gTup K 2 (gCons (gName 4) (gCons (gName 5) gNil))) (tt := tYes) rfl sc_Book___init__.nd (pi_list (pe_cal c_nested (hr.mono (by decide)) (pa_cons (pv 2) (pa_cons pe_int pa_nil)))) (blkOk_by (own := [("rule", 4), ("_", 5)]) (N := ["self", "facts", "rules", "ruling", "rule", "_"]) (sc := defScope s_Book___init__) (by decide +kernel)) (fun _ _ _ _ _ => (pg_tup (by rfl) (pgs_cons (pg_name (i := 4) sc_Book___init__.nd rfl (Or.inl rfl)) (pgs_cons (pg_name (i := 5) sc_Book___init__.nd rfl (Or.inl rfl)) pgs_nil)))) (fun _ _ _ _ _ => pts_nil) (fun _ _ _ _ _ => (pe_.re (pv 4) (by first | (dsimp only [Cx.blk]; done) | exact rfl)))) rfl)))))))), ?_⟩
  have big : ∀ {m : Nat}, m ≤ 1000 → m ≤ sizeLine := fun {m} h => by rw [sizeLine_eq]; omega
  refine ⟨_, rfl, a, xs, rfl, hA, tA, lA, fun z1 H1 s1 => ?_, e1⟩
  obtain ⟨e2, q⟩ := q z1
  refine ⟨_, rfl, _, rfl, N, a, p, xs, ws, f, rfl, s1.tup hA, s1.tup hP, hF.keeps s1.keeps, hd, hz, hfit, fun z2 H2 s2 => ?_, fun wd i ei hw H' d sH nd => e2 wd i ei hw H' d (s1.trans sH) nd⟩
  obtain ⟨e3, q⟩ := q z2
  have s12 := s1.trans s2
  refine ⟨_, rfl, rl, rfl, big lr, fun H3 s3 => ⟨_, rfl, bcase (fun c1 => ?_) (fun c1 => ?_)⟩⟩
  · exact ⟨1, rfl, ⟨Nat.le_trans (show (Str.ofString "ruling").length ≤ 1000 by decide) (by decide), (show (-1 : Int).natAbs.log2 < 1920 by decide)⟩, fun d nd => e3 ((Bool.not_eq_true' _).mp c1) H3 d (s12.trans s3) nd⟩
  have q := q ((Bool.not_eq_false' _).mp c1)
  have s13 := s12.trans s3
  have hx3 := s13 _ _ hx
  refine ⟨_, rfl, _, rfl, x, B, dx, _, rfl, hx3, T, n1, by decide, ?_⟩
  refine ⟨_, rfl, _, rfl, x, B, dx, _, rfl, upd_same, T, n2, Nat.lt_of_le_of_lt (putF_le (Nat.zero_le 0)) (by decide), ?_⟩
  refine ⟨_, rfl, _, rfl, x, B, dx, _, rfl, upd_same, T, n3, Nat.lt_of_le_of_lt (putF_le (putF_le (Nat.zero_le 0))) (by decide), ?_⟩
  have sx : SameX x H (upd (upd (upd H3 x (.ins B dx (putF "_facts" (.ref a) []))) x (.ins B dx (putF "_rules" (.ref p) (putF "_facts" (.ref a) [])))) x (.ins B dx (putF "_ruling" (.str rl) (putF "_rules" (.ref p) (putF "_facts" (.ref a) []))))) := (((SameX.of s13).put).put).put
  have hx6 : (upd (upd (upd H3 x (.ins B dx (putF "_facts" (.ref a) []))) x (.ins B dx (putF "_rules" (.ref p) (putF "_facts" (.ref a) [])))) x (.ins B dx (putF "_ruling" (.str rl) (putF "_rules" (.ref p) (putF "_facts" (.ref a) []))))) x = some (.ins B dx (putF "_ruling" (.str rl) (putF "_rules" (.ref p) (putF "_facts" (.ref a) [])))) := upd_same
  generalize upd (upd (upd H3 x (.ins B dx (putF "_facts" (.ref a) []))) x (.ins B dx (putF "_rules" (.ref p) (putF "_facts" (.ref a) [])))) x (.ins B dx (putF "_ruling" (.str rl) (putF "_rules" (.ref p) (putF "_facts" (.ref a) [])))) = H6 at sx hx6 ⊢
  have k6 : Keeps N H H6 := sx.keeps hx
  refine ⟨_, rfl, N, p, 0, ws, f, rfl, k6.tup hP, hF.keeps k6, hd, hz, fun H7 D us s7 nD eD hu => ?_⟩
  have hul := hu.len
  rw [RF.pre_len] at hul
  refine ⟨D, rfl, ⟨_, sqL_of eD⟩, fun D2 nD2 => lc_it walk_list (fun i H' => Same H7 H' ∧ ∃ rs, H' D2 = some (.lst rs) ∧ All2 (RefAt K C R N H7) rs (((f.pre 0).take i).map fun q => q.1)) ⟨(Same.refl H7).put nD2, [], upd_same, .nil⟩ (fun _ _ _ h => sqL_of (h.1 _ _ eD)) ?_ ?_⟩
  · rintro i y H8 H9 hi ⟨s, rs, e, hr2⟩ ⟨rfl, hy⟩
    obtain ⟨⟨n, k⟩, hq, t, o, rfl, ht, hN⟩ := hu.get hy
    have ht := s _ _ ht
    have hrl := hr2.len
    rw [List.length_map, List.length_take, RF.pre_len] at hrl
    refine ⟨t, [.ref o, .int (k : Nat)], rfl, sqT_of ht, rfl, _, _, rfl, _, _, rfl, rfl, rfl, yes_ ⟨_, rfl, rs, e, small1000 (by omega), s.put nD2, _, upd_same, ?_⟩⟩
    rw [take_more hq, List.map_append]
    exact hr2.snoc ⟨o, rfl, hN⟩
  rintro H8 ⟨s8, rs, e8, hr2⟩
  rw [hu.len, List.take_length] at hr2
  have s68 := s7.trans s8
  have hx8 := s68 _ _ hx6
  have ne : D2 ≠ x := fun z => by rw [z, hx8] at e8; cases e8
  refine ⟨_, rfl, x, B, dx, _, rfl, hx8, T, n4, Nat.lt_of_le_of_lt (putF_le (putF_le (putF_le (Nat.zero_le 0)))) (by decide), ?_⟩
  have kk : Keeps N H7 (upd H8 x (.ins B dx (putF "_numbered" (.ref D2) (putF "_ruling" (.str rl) (putF "_rules" (.ref p) (putF "_facts" (.ref a) [])))))) := Keeps.trans s8.keeps (keeps_make hx8)
  exact q _ D2 rs (sx.same s68).put upd_same ne (sx.free ne (s7.free nD2)) (by rw [upd_ne ne]; exact e8) (hr2.mono fun _ _ x => x.keeps kk)
end
end Sc
namespace Sc
open PySem PySem.Spec PyProof.Rows L2
structure BookX (P : Program) (w : World) (K : PySem.W.Frag) (mg : Str → Option Value) (base : Heap) (B : Addr) : Prop where
  cls : Cls K B
  facts : PropX P w K mg base B "facts" "_facts"
  rules : PropX P w K mg base B "rules" "_rules"
  ruling : PropX P w K mg base B "ruling" "_ruling"
end Sc
namespace Sc
open PySem PySem.Spec PyProof.Rows L2
section
variable {X : Cx} {CX : CXT} {k : Nat} {C g : Addr} {fd : FuncData} {ps : List Str} {sp : Sp} {E : XK}
/-- x in o, o of the class at C with its own __contains__ at g -/
def rInO (C : Addr) (sp : Sp) (E : XK) (neg : Bool) : R2 := fun x y H Q => ∃ (a dx : Addr) (fs : List (Str × V)), y = .ref a ∧ H a = some (.ins C dx fs) ∧ sp [y, x] H (fun v H' => ∃ b, v = .bl b ∧ Q (.bl (if neg then !b else b)) H') E
theorem op_inO (hs : PySem.W.findIn X.K (.ref C) "__contains__" = some (some (.ref g))) (hf : PySem.W.isFn X.K (.ref g) = true) (F : FnOk X.prog X.w X.K X.mg X.base CX k g fd ps sp) (hr : Room k X.A) (hb : Binds X.K fd ps []) (hx : Passes CX X E) : OpR X (compareOp .In) (rInO C sp E false) := by
  intro pins s σ H x y v u Q I rx ry h
  obtain ⟨a, dx, fs, rfl, ha, q⟩ := h
  cases (show u = Value.ref a from ry)
  obtain ⟨mA, O, _⟩ := ins_get I.hok ha
  obtain ⟨od, J, _⟩ := O.look
  obtain ⟨m, hF⟩ := I.fr
  refine PySem.W.in_K hF I.ok.mod.kin J hs hf ?_
  refine wpAny_mono (run_fn (us := [.ref a, v]) (vs := [.ref a, x]) (dvs := []) F hr hb .nil hx I (.cons rfl (.cons rx .nil)) q) (fun w s' z => ?_) fun _ _ x => x
  obtain ⟨z', H', I', rz, b, rfl, qz⟩ := z
  cases rz
  exact wpAny_pure ⟨.bl b, H', I', rfl, qz⟩
theorem op_ninO (hs : PySem.W.findIn X.K (.ref C) "__contains__" = some (some (.ref g))) (hf : PySem.W.isFn X.K (.ref g) = true) (F : FnOk X.prog X.w X.K X.mg X.base CX k g fd ps sp) (hr : Room k X.A) (hb : Binds X.K fd ps []) (hx : Passes CX X E) : OpR X (compareOp .NotIn) (rInO C sp E true) := by
  intro pins s σ H x y v u Q I rx ry h
  obtain ⟨a, dx, fs, rfl, ha, q⟩ := h
  cases (show u = Value.ref a from ry)
  obtain ⟨mA, O, _⟩ := ins_get I.hok ha
  obtain ⟨od, J, _⟩ := O.look
  obtain ⟨m, hF⟩ := I.fr
  refine PySem.W.notIn_K hF I.ok.mod.kin J hs hf ?_
  refine wpAny_mono (run_fn (us := [.ref a, v]) (vs := [.ref a, x]) (dvs := []) F hr hb .nil hx I (.cons rfl (.cons rx .nil)) q) (fun w s' z => ?_) fun _ _ x => x
  obtain ⟨z', H', I', rz, b, rfl, qz⟩ := z
  cases rz
  exact wpAny_pure ⟨.bl (!b), H', I', rfl, qz⟩
/-- o[k], o of the class at C with its own __getitem__ at g -/
def rIxO (C : Addr) (sp : Sp) (E : XK) : R2 := fun x y H Q => ∃ (a dx : Addr) (fs : List (Str × V)), x = .ref a ∧ H a = some (.ins C dx fs) ∧ sp [x, y] H Q E
theorem pe_ixO {a b : Expr} {pos : Pos} {ta tb : TE} (hs : PySem.W.findIn X.K (.ref C) "__getitem__" = some (some (.ref g))) (hfn : PySem.W.fnIn X.K g = true) (hf : PySem.W.isFn X.K (.ref g) = true) (F : FnOk X.prog X.w X.K X.mg X.base CX k g fd ps sp) (hr : Room (k + 1) X.A) (hbd : Binds X.K fd ps []) (hx : Passes CX X E)
    (ha : PE X a ta) (hb : PE X b tb) (hsl : ∀ v u, subscripted b true v u = runValue (.builtin "lifetime.subscript" ⟨[v, u], []⟩)) : PE X (.Subscript a b pos) (tOp (rIxO C sp E) ta tb) := by
  refine ⟨fun pins s σ H Q I h => ?_⟩
  refine Subscript_ (binT ha hb I h fun v u s2 x y H2 I2 rx ry q => ?_)
  obtain ⟨o, dx, fs, rfl, ho, q⟩ := q
  cases (show v = Value.ref o from rx)
  obtain ⟨mA, O, _⟩ := ins_get I2.hok ho
  obtain ⟨od, J, _⟩ := O.look
  obtain ⟨m, hF⟩ := I2.fr
  refine PySem.W.sub_K hF I2.ok.mod.kin J hs hfn hf ?_ (hsl _ _)
  have hl : ([Value.ref o, u] ++ ([] : List Value)).length = ps.length := F.len _ _ _ _ q
  refine wpAny_call (codeAny_mono (F.run X.A.in1 X.stack s2 H2 ⟨[.ref o, u], []⟩ [.ref o, u] [.ref o, y] _ _ hr.in1 I2.env0.in1 (hbd s2 [.ref o, u] I2.kIn hl) (.cons rfl (.cons ry .nil)) q) fun r s' hq => ?_)
  cases r with
  | error e => exact hx pins σ H2 s2 e s' I2 hq
  | ok fl =>
    cases fl with
    | ret w =>
      obtain ⟨v, H', I', rv, qz⟩ := I2.after hq
      exact ⟨v, H', I', rv, qz⟩
    | next => exact hq.elim
    | brk => exact hq.elim
    | cont => exact hq.elim
/-- o op x, o of the class at C with its own method, x a text -/
def rBinS (C : Addr) (sp : Sp) (E : XK) : R2 := fun x y H Q => ∃ (a dx : Addr) (fs : List (Str × V)) (z : Str), x = .ref a ∧ y = .str z ∧ H a = some (.ins C dx fs) ∧ sp [x, y] H Q E
theorem op_binS {op : Operator} {fo ro rc : Option Value} (hc : PySem.W.selfFirst X.K C = true) (hs : PySem.W.findIn X.K (.ref C) (PySem.dunder op.info.2) = some (some (.ref g))) (hf : PySem.W.isFn X.K (.ref g) = true)
    (hR : PySem.W.findIn X.K (.ref C) (dunderR op.info.2) = some rc) (hp : rc = none ∨ ∃ g : Addr, rc = some (.ref g)) (h1 : PySem.W.findIn X.K (.type "str") (PySem.dunder op.info.2) = some fo) (h2 : PySem.W.findIn X.K (.type "str") (dunderR op.info.2) = some ro)
    (hsub : PySem.W.subIn X.K (.type "str") (.ref C) = some false) (F : FnOk X.prog X.w X.K X.mg X.base CX k g fd ps sp) (hr : Room k X.A) (hb : Binds X.K fd ps []) (hx : Passes CX X E) : OpR X (binaryOp op) (rBinS C sp E) := by
  intro pins s σ H x y v u Q I rx ry h
  obtain ⟨a, dx, fs, z, rfl, rfl, ha, q⟩ := h
  cases (show v = Value.ref a from rx)
  obtain ⟨t, rfl⟩ := (show ∃ t, u = Value.str z t from ry)
  obtain ⟨mA, O, _⟩ := ins_get I.hok ha
  obtain ⟨od, J, _⟩ := O.look
  obtain ⟨m, hF⟩ := I.fr
  refine PySem.W.ksp_binT (T := "str") hF I.ok.mod.kin J rfl hc hs hf hR hp h1 h2 hsub ?_
  refine wpAny_mono (run_fn (us := [.ref a, .str z t]) (vs := [.ref a, .str z]) (dvs := []) F hr hb .nil hx I (.cons rfl (.cons ⟨t, rfl⟩ .nil)) q) (fun w s' z => ?_) fun _ _ x => x
  obtain ⟨z', H', I', rz, qz⟩ := z
  exact SlX.cmpback rz ⟨z', H', I', rz, qz⟩
end
end Sc
namespace Sc
open PySem PySem.Spec PyProof.Rows L2
/-- a def that keeps two promises keeps either -/
theorem _root_.L2.FnOk.either {P : Program} {w : World} {K : PySem.W.Frag} {mg : Str → Option Value} {base : Heap} {CX : CXT} {k : Nat} {f : Addr} {fd : FuncData} {ps : List Str} {sp sp' : Sp} (F : FnOk P w K mg base CX k f fd ps sp) (G : FnOk P w K mg base CX k f fd ps sp') :
    FnOk P w K mg base CX k f fd ps (fun vs H Q E => sp vs H Q E ∨ sp' vs H Q E) :=
  ⟨fun vs H Q E h => h.elim (F.len vs H Q E) (G.len vs H Q E), fun A outer s H args us vs Q E hr e b v h => h.elim (F.run A outer s H args us vs Q E hr e b v) (G.run A outer s H args us vs Q E hr e b v)⟩
section
variable {X : Cx}
theorem op_or {f : Value → Value → Sem Value} {r r' : R2} (h : OpR X f r) (h' : OpR X f r') : OpR X f (fun x y H Q => r x y H Q ∨ r' x y H Q) :=
  fun pins s σ H x y v u Q I rx ry q => q.elim (h pins s σ H x y v u Q I rx ry) (h' pins s σ H x y v u Q I rx ry)
/-- a tuple in a tuple of texts: no -/
def rInNo (K : PySem.W.Frag) (neg : Bool) : R2 := fun x y H Q => ∃ (a p : Addr) (ys : List V) (xs : List Str), x = .ref a ∧ y = .ref p ∧ SqT K H a ys ∧ SqT K H p (xs.map V.str) ∧ Q (.bl neg) H
theorem any_no : ∀ xs : List Value, xs.any (fun _ => false) = false
  | [] => rfl
  | _ :: r => by rw [List.any_cons, any_no r]; rfl
theorem strs_of : ∀ {xs : List Str} {us : List Value}, Vals (xs.map V.str) us → ∀ w ∈ us, ∃ z t, w = Value.str z t
  | [], _, .nil => fun w hw => by cases hw
  | x :: r, u :: us, .cons h t => fun w hw => by
    obtain ⟨tk, rfl⟩ := (show ∃ tk, u = Value.str x tk from h)
    rcases List.mem_cons.mp hw with rfl | hw
    · exact ⟨_, _, rfl⟩
    · exact strs_of t w hw
theorem op_in_no (hu : X.A.units + 64 < cLine) : OpR X (compareOp .In) (rInNo X.K false) := by
  intro pins s σ H x y v u Q I rx ry h
  obtain ⟨a, p, ys, xs, rfl, rfl, ha, hp, q⟩ := h
  cases rx
  cases ry
  obtain ⟨its, r, pl, hz⟩ := I.tuple hp
  obtain ⟨its2, r2, pl2, _⟩ := I.tuple ha
  refine SeqAt.in_tupleAt (fun _ => false) pl (fun w hw => ?_) ⟨.bl _, H, I, rfl, ?_⟩
  · obtain ⟨z, t, rfl⟩ := strs_of r w (by simpa using hw)
    exact SeqAt.EqAt.str_tuple z t pl2 (by show X.A.units + 1 < cLine; omega)
  · rw [show its.toArray.any (fun _ => false) = its.any (fun _ => false) by simp, any_no]
    exact q
theorem op_nin_no (hu : X.A.units + 64 < cLine) : OpR X (compareOp .NotIn) (rInNo X.K true) := by
  intro pins s σ H x y v u Q I rx ry h
  obtain ⟨a, p, ys, xs, rfl, rfl, ha, hp, q⟩ := h
  cases rx
  cases ry
  obtain ⟨its, r, pl, hz⟩ := I.tuple hp
  obtain ⟨its2, r2, pl2, _⟩ := I.tuple ha
  refine SeqAt.notIn_tupleAt (fun _ => false) pl (fun w hw => ?_) ⟨.bl _, H, I, rfl, ?_⟩
  · obtain ⟨z, t, rfl⟩ := strs_of r w (by simpa using hw)
    exact SeqAt.EqAt.str_tuple z t pl2 (by show X.A.units + 1 < cLine; omega)
  · rw [show its.toArray.any (fun _ => false) = its.any (fun _ => false) by simp, any_no]
    exact q
end
end Sc
namespace Sc
open PySem PySem.Spec PyProof.Rows L2
/-- a method that the class at C has of its own, as the operators find it -/
structure MethO (P : Program) (w : World) (K : PySem.W.Frag) (mg : Str → Option Value) (base : Heap) (CX : CXT) (k : Nat) (C : Addr) (n : Str) (ps : List Str) (sp : Sp) : Prop where
  ex : ∃ (g : Addr) (fd : FuncData), PySem.W.findIn K (.ref C) n = some (some (.ref g)) ∧ PySem.W.isFn K (.ref g) = true ∧ PySem.W.fnIn K g = true ∧ FnOk P w K mg base CX k g fd ps sp ∧ Binds K fd ps []
/-- what an operator against a text asks of the class besides -/
structure BinT (K : PySem.W.Frag) (C : Addr) (op : Operator) : Prop where
  first : PySem.W.selfFirst K C = true
  right : ∃ rc, PySem.W.findIn K (.ref C) (dunderR op.info.2) = some rc ∧ (rc = none ∨ ∃ g : Addr, rc = some (.ref g))
  t1 : ∃ fo, PySem.W.findIn K (.type "str") (PySem.dunder op.info.2) = some fo
  t2 : ∃ ro, PySem.W.findIn K (.type "str") (dunderR op.info.2) = some ro
  sub : PySem.W.subIn K (.type "str") (.ref C) = some false
section
variable {X : Cx} {k : Nat} {C : Addr} {ps : List Str} {sp : Sp} {E : XK}
theorem op_inM (M : MethO X.prog X.w X.K X.mg X.base CX0 k C "__contains__" ps sp) (hr : Room k X.A) : OpR X (compareOp .In) (rInO C sp E0 false) := by
  obtain ⟨g, fd, h1, h2, _, F, hb⟩ := M.ex
  exact op_inO h1 h2 F hr hb pass0
theorem op_ninM (M : MethO X.prog X.w X.K X.mg X.base CX0 k C "__contains__" ps sp) (hr : Room k X.A) : OpR X (compareOp .NotIn) (rInO C sp E0 true) := by
  obtain ⟨g, fd, h1, h2, _, F, hb⟩ := M.ex
  exact op_ninO h1 h2 F hr hb pass0
theorem pe_ixM {a b : Expr} {pos : Pos} {ta tb : TE} (M : MethO X.prog X.w X.K X.mg X.base (L2.CX X.prog X.w) k C "__getitem__" ps sp) (hr : Room (k + 1) X.A) (tk : Takes X (fun cls d _ H => E cls d H)) (ha : PE X a ta) (hb : PE X b tb)
    (hsl : ∀ v u, subscripted b true v u = runValue (.builtin "lifetime.subscript" ⟨[v, u], []⟩)) : PE X (.Subscript a b pos) (tOp (rIxO C sp E) ta tb) := by
  obtain ⟨g, fd, h1, h2, h3, F, hbd⟩ := M.ex
  exact pe_ixO h1 h3 h2 F hr hbd (fun pins σ H s e s' I h => passAt tk σ pins H s e s' I h) ha hb hsl
theorem op_subM {op : Operator} {n : Str} (M : MethO X.prog X.w X.K X.mg X.base (L2.CX X.prog X.w) k C n ps sp) (T : BinT X.K C op) (en : n = PySem.dunder op.info.2) (hr : Room k X.A) (tk : Takes X (fun cls d _ H => E cls d H)) : OpR X (binaryOp op) (rBinS C sp E) := by
  subst en
  obtain ⟨g, fd, h1, h2, h3, F, hbd⟩ := M.ex
  obtain ⟨rc, r1, r2⟩ := T.right
  obtain ⟨fo, f1⟩ := T.t1
  obtain ⟨ro, f2⟩ := T.t2
  exact op_binS T.first h1 h2 r1 r2 f1 f2 T.sub F hr hbd (fun pins σ H s e s' I h => passAt tk σ pins H s e s' I h)
end
end Sc
namespace Sc
open PySem PySem.Spec PyProof.Rows L2
/-! ### xs[i] += e -/
def rGetL (K : PySem.W.Frag) : V → V → Hp → VK → Prop := fun x y H Q => ∃ (p : Addr) (xs : List V) (i : Nat) (v : V), x = .ref p ∧ y = .int i ∧ SqL K H p xs ∧ xs[i]? = some v ∧ Q v H
theorem get_list {X : Cx} : PGet X (rGetL X.K) := by
  intro pins s σ H x y v u Q I rx ry h
  obtain ⟨p, xs, i, z, rfl, rfl, hq, he, q⟩ := h
  cases rx
  obtain ⟨t, rfl⟩ := ry
  obtain ⟨its, r, pl, hz⟩ := I.list hq
  obtain ⟨w, ew, rw'⟩ := r.get he
  have hl := r.length
  have hn := line63
  have hi : i < its.length := by
    by_cases c : i < its.length
    · exact c
    · rw [List.getElem?_eq_none (by omega)] at ew; cases ew
  exact wpAny_getItem_list pl.isList (by omega) (by omega) (by simpa using ew) ⟨z, H, I, rw', q⟩
/-! ### rows of rules, longer and shorter -/
namespace RF
/-- something of all rules -/
def every (p : Nd → Prop) : RF → Prop
  | .nil => True
  | .cons nm hs fs rl exc rest => p ⟨nm, hs, fs, rl, exc⟩ ∧ exc.every p ∧ rest.every p
theorem every_nodes {p : Nd → Prop} : ∀ {f : RF}, f.every p ↔ ∀ n ∈ f.nodes, p n ∧ n.exc.every p
  | .nil => ⟨(fun _ _ h => nomatch h), fun _ => trivial⟩
  | .cons nm hs fs rl exc rest => by
    constructor
    · rintro ⟨h1, h2, h3⟩ n hn
      rcases List.mem_cons.mp hn with rfl | hn
      · exact ⟨h1, h2⟩
      · exact every_nodes.mp h3 n hn
    · intro h
      exact ⟨(h _ List.mem_cons_self).1, (h _ List.mem_cons_self).2, every_nodes.mpr fun n hn => h n (List.mem_cons_of_mem _ hn)⟩
theorem every_pre {p : Nd → Prop} : ∀ {f : RF} {k : Nat}, f.every p → ∀ q ∈ f.pre k, p q.1
  | .nil, k, _, q, h => nomatch h
  | .cons nm hs fs rl exc rest, k, h, q, hq => by
    rcases List.mem_cons.mp hq with rfl | hq
    · exact h.1
    rcases List.mem_append.mp hq with hq | hq
    · exact every_pre h.2.1 q hq
    · exact every_pre h.2.2 q hq
theorem every_mono {p r : Nd → Prop} (g : ∀ n, p n → r n) : ∀ {f : RF}, f.every p → f.every r
  | .nil, _ => trivial
  | .cons nm hs fs rl exc rest, h => ⟨g _ h.1, every_mono g h.2.1, every_mono g h.2.2⟩
def snoc : RF → Nd → RF
  | .nil, n => .cons n.nm n.hs n.fs n.rl n.exc .nil
  | .cons nm hs fs rl exc rest, n => .cons nm hs fs rl exc (rest.snoc n)
theorem snoc_nodes : ∀ (f : RF) (n : Nd), (f.snoc n).nodes = f.nodes ++ [n]
  | .nil, n => rfl
  | .cons nm hs fs rl exc rest, n => by show _ :: (rest.snoc n).nodes = _; rw [snoc_nodes rest n]; rfl
theorem snoc_size : ∀ (f : RF) (n : Nd), (f.snoc n).size = f.size + (n.exc.size + 1)
  | .nil, n => by show n.exc.size + 1 + 0 = 0 + _; omega
  | .cons nm hs fs rl exc rest, n => by show exc.size + 1 + (rest.snoc n).size = exc.size + 1 + rest.size + _; rw [snoc_size rest n]; omega
theorem snoc_dep : ∀ (f : RF) (n : Nd), (f.snoc n).dep = max f.dep (n.exc.dep + 1)
  | .nil, n => by show max (n.exc.dep + 1) 0 = max 0 _; omega
  | .cons nm hs fs rl exc rest, n => by show max (exc.dep + 1) (rest.snoc n).dep = max (max (exc.dep + 1) rest.dep) _; rw [snoc_dep rest n]; omega
theorem snoc_pre : ∀ (f : RF) (n : Nd) (k : Nat), (f.snoc n).pre k = f.pre k ++ ((n, k) :: n.exc.pre (k + 1))
  | .nil, n, k => by show (_, k) :: (n.exc.pre (k + 1) ++ []) = [] ++ _; rw [List.append_nil]; rfl
  | .cons nm hs fs rl exc rest, n, k => by show (_, k) :: (exc.pre (k + 1) ++ (rest.snoc n).pre k) = (_, k) :: (exc.pre (k + 1) ++ rest.pre k) ++ _; rw [snoc_pre rest n k]; simp
theorem snoc_names (f : RF) (n : Nd) : (f.snoc n).names = f.names ++ n.nm :: n.exc.names := by
  rw [← pre_names (f.snoc n) 0, snoc_pre, List.map_append, pre_names, List.map_cons, pre_names]
theorem snoc_every {p : Nd → Prop} {f : RF} {n : Nd} (h : f.every p) (h1 : p n) (h2 : n.exc.every p) : (f.snoc n).every p := every_nodes.mpr fun m hm => by
  rw [snoc_nodes] at hm
  rcases List.mem_append.mp hm with hm | hm
  · exact every_nodes.mp h m hm
  · rw [List.mem_singleton.mp hm]
    exact ⟨h1, h2⟩
end RF
theorem rows_snoc {K : PySem.W.Frag} {H : Hp} {f : RF} {vs : List V} {v : V} {n : Nd} (h : RowsAt K H f vs) (r : RowAt K H v n) : RowsAt K H (f.snoc n) (vs ++ [v]) := RowsAt.of (by rw [RF.snoc_nodes]; exact h.all.snoc r)
/-! ### all but the draws' state and a counter stands -/
structure Kc (a l c : Addr) (H H' : Hp) : Prop where
  old : RS H a l
  new : RS H' a l
  keep : ∀ b o, b ≠ a → b ≠ l → b ≠ c → H b = some o → H' b = some o
abbrev NoL : Addr → Prop := fun _ => False
section
variable {K : PySem.W.Frag} {a l c : Addr} {H H' H'' : Hp}
theorem Kp.kc (k : Kp a l H H') : Kc a l c H H' := ⟨k.old, k.new, fun b o n1 n2 _ e => k.keep b o n1 n2 e⟩
theorem Kc.trans (k : Kc a l c H H') (k' : Kc a l c H' H'') : Kc a l c H H'' := ⟨k.old, k'.new, fun b o n1 n2 n3 e => k'.keep b o n1 n2 n3 (k.keep b o n1 n2 n3 e)⟩
theorem Kc.of (r : RS H a l) (s : Same H H') : Kc a l c H H' := ⟨r, r.same s, fun b o _ _ _ e => s b o e⟩
theorem Kc.same (k : Kc a l c H H') (s : Same H' H'') : Kc a l c H H'' := k.trans (.of k.new s)
theorem Kc.put0 {p : Addr} {o : HO} (k : Kc a l c H H') (n : H p = none) : Kc a l c H (upd H' p o) := by
  obtain ⟨n1, n2⟩ := k.old.no n
  obtain ⟨st, x, ns, h1, h2, q⟩ := k.new
  exact ⟨k.old, ⟨st, x, ns, by rw [upd_ne n1.symm]; exact h1, by rw [upd_ne n2.symm]; exact h2, q⟩, fun b o m1 m2 m3 e => by rw [upd_ne (ne_of_none e n)]; exact k.keep b o m1 m2 m3 e⟩
/-- the counter changes -/
theorem Kc.count {o : HO} (k : Kc a l c H H') (n1 : c ≠ a) (n2 : c ≠ l) : Kc a l c H (upd H' c o) := by
  obtain ⟨st, x, ns, h1, h2, q⟩ := k.new
  exact ⟨k.old, ⟨st, x, ns, by rw [upd_ne n1.symm]; exact h1, by rw [upd_ne n2.symm]; exact h2, q⟩, fun b o m1 m2 m3 e => by rw [upd_ne m3]; exact k.keep b o m1 m2 m3 e⟩
theorem Kc.keeps {xs : List V} (k : Kc a l c H H') (e : H c = some (.lst xs)) : Keeps NoL H H' := fun b o st h => by
  obtain ⟨sd, x, ns, h1, h2, q⟩ := k.old
  have nl : ∀ zs, o ≠ .lst zs := fun zs z => st.1 zs z
  exact k.keep b o (fun z => by rw [z, h1] at h; exact nl _ (Option.some.inj h).symm) (fun z => by rw [z, h2] at h; exact nl _ (Option.some.inj h).symm) (fun z => by rw [z, e] at h; exact nl _ (Option.some.inj h).symm) h
theorem Kp.keepsN (k : Kp a l H H') : Keeps NoL H H' := k.keeps id id
theorem Kc.free {b : Addr} {xs : List V} (k : Kc a l c H H') (ec : H' c = some (.lst xs)) (e : H' b = none) : H b = none := by
  cases q : H b with
  | none => rfl
  | some o =>
    obtain ⟨n1, n2⟩ := k.new.no e
    rw [k.keep b o n1 n2 (fun z => by rw [z, ec] at e; cases e) q] at e
    cases e
end
/-! ### drawn rules -/
def fourR : List Str := ["pay", "warn", "free", "none"]
/-- the name of the i-th drawn rule -/
def rn (i : Nat) : Str := Str.ofString "r" ++ (⟨#[letters.cps.toList.getD i 0]⟩ : Str)
def rnames (c n : Nat) : List Str := (List.range' c n).map rn
theorem rnames_app {c n m : Nat} : rnames c n ++ rnames (c + n) m = rnames c (n + m) := by
  unfold rnames
  rw [← List.map_append, List.range'_append_1]
theorem rnames_one {c m : Nat} : rn c :: rnames (c + 1) m = rnames c (m + 1) := rfl
theorem rn_name : ∀ i, i < 24 → isName (rn i) = true := by decide +kernel
theorem four_name : ∀ x ∈ fourR, isName x = true := by decide +kernel
end Sc
namespace Sc
open PySem PySem.Spec PyProof.Rows L2
/-! ### slices of tuples -/
section
variable {K : PySem.W.Frag} {H : Hp}
theorem sl_any {b : Addr} {vs : List V} {lo hi : Option Int} {Q : VK} (hS : SqT K H b vs) (q : ∀ p H', Same H H' → SqT K H' p (cutV vs lo hi) → Q (.ref p) H') : rSlA K (.ref b) lo hi H Q :=
  ⟨b, vs, rfl, hS, fun c => q b H (Same.refl H) (by
    have e : cutV vs lo hi = vs := by
      unfold cutV
      rw [c.1, c.2, List.drop_zero, Nat.sub_zero, List.take_length]
    rw [e]
    exact hS), fun _ p np => q p _ ((Same.refl H).put np) sqT_new⟩
theorem cat_any {b c : Addr} {xs ys : List V} {Q : VK} (hA : SqT K H b xs) (hB : SqT K H c ys) (hl : xs.length + ys.length ≤ sizeLine) (q : ∀ p H', Same H H' → SqT K H' p (xs ++ ys) → Q (.ref p) H') : rCatA K (.ref b) (.ref c) H Q :=
  ⟨b, c, xs, ys, rfl, rfl, hA, hB, hl, fun e => q c H (Same.refl H) (by rw [e]; exact hB), fun _ e => q b H (Same.refl H) (by rw [e, List.append_nil]; exact hA), fun _ _ p np => q p _ ((Same.refl H).put np) sqT_new⟩
theorem sIx_nat (n d k : Nat) : HT.sIx n d (some (k : Int)) = min k n := by
  unfold HT.sIx
  first
    | (simp; done)
    | (simp; omega)
    | (split <;> omega)
theorem cut_to (vs : List V) (m : Nat) : cutV vs none (some (m : Int)) = vs.take m := by
  unfold cutV
  rw [sIx_nat]
  show (vs.drop 0).take (min m vs.length - 0) = _
  rw [List.drop_zero, Nat.sub_zero]
  by_cases h : m ≤ vs.length
  · rw [Nat.min_eq_left h]
  · rw [Nat.min_eq_right (by omega), List.take_length, List.take_of_length_le (by omega)]
theorem cut_from (vs : List V) (k : Nat) : cutV vs (some (k : Int)) none = vs.drop k := by
  unfold cutV
  rw [sIx_nat]
  show (vs.drop (min k vs.length)).take (vs.length - min k vs.length) = _
  by_cases h : k ≤ vs.length
  · rw [Nat.min_eq_left h, List.take_of_length_le (by rw [List.length_drop]; exact Nat.le_refl _)]
  · rw [Nat.min_eq_right (by omega), List.drop_length, List.drop_of_length_le (by omega)]
    exact List.take_nil
theorem cut_part (vs : List V) (k m : Nat) : cutV vs (some (k : Int)) (some (m : Int)) = (vs.drop k).take (m - k) := by
  unfold cutV
  rw [sIx_nat, sIx_nat]
  by_cases h : k ≤ vs.length
  · rw [Nat.min_eq_left h]
    by_cases h2 : m ≤ vs.length
    · rw [Nat.min_eq_left h2]
    · rw [Nat.min_eq_right (by omega), List.take_of_length_le (by rw [List.length_drop]; exact Nat.le_refl _), List.take_of_length_le (by rw [List.length_drop]; omega)]
  · rw [Nat.min_eq_right (show vs.length ≤ k by omega), List.drop_length, List.drop_of_length_le (show vs.length ≤ k by omega), List.take_nil, List.take_nil]
end
end Sc
namespace Sc
open PySem
/-! ### parts of a text -/
def stAt (b : List Stmt) (i : Nat) : Stmt := b.getD i (.Pass ⟨0, 0, 0, 0⟩)
def forB : Stmt → List Stmt
  | .For _ _ b _ _ => b
  | _ => []
def whileB : Stmt → List Stmt
  | .While _ b _ _ => b
  | _ => []
def ifB : Stmt → List Stmt
  | .If _ b _ _ => b
  | _ => []
def ifE : Stmt → List Stmt
  | .If _ _ b _ => b
  | _ => []
end Sc
namespace Sc
open PySem PySem.Spec PyProof.Rows L2
namespace RF
def app (f g : RF) : RF := ofNodes (f.nodes ++ g.nodes)
theorem app_nodes (f g : RF) : (f.app g).nodes = f.nodes ++ g.nodes := nodes_of _
theorem of_size : ∀ ns ms : List Nd, (ofNodes (ns ++ ms)).size = (ofNodes ns).size + (ofNodes ms).size
  | [], ms => by show (ofNodes ms).size = 0 + _; omega
  | n :: r, ms => by
    show n.exc.size + 1 + (ofNodes (r ++ ms)).size = n.exc.size + 1 + (ofNodes r).size + _
    rw [of_size r ms]
    omega
theorem app_size (f g : RF) : (f.app g).size = f.size + g.size := by
  unfold app
  rw [of_size, of_nodes, of_nodes]
theorem app_dep {f g : RF} {d : Nat} (h : f.dep ≤ d) (k : g.dep ≤ d) : (f.app g).dep ≤ d := dep_le _ d fun n hn => by
  rw [app_nodes] at hn
  rcases List.mem_append.mp hn with hn | hn
  · exact Nat.le_trans (dep_mem f n hn) h
  · exact Nat.le_trans (dep_mem g n hn) k
theorem app_every {p : Nd → Prop} {f g : RF} (h : f.every p) (k : g.every p) : (f.app g).every p := every_nodes.mpr fun n hn => by
  rw [app_nodes] at hn
  rcases List.mem_append.mp hn with hn | hn
  · exact every_nodes.mp h n hn
  · exact every_nodes.mp k n hn
/-- the first rules, the others -/
def head (f : RF) (i : Nat) : RF := ofNodes (f.nodes.take i)
def rest (f : RF) (i : Nat) : RF := ofNodes (f.nodes.drop i)
theorem head_nodes (f : RF) (i : Nat) : (f.head i).nodes = f.nodes.take i := nodes_of _
theorem rest_nodes (f : RF) (i : Nat) : (f.rest i).nodes = f.nodes.drop i := nodes_of _
theorem head_rest (f : RF) (i : Nat) : (f.head i).app (f.rest i) = f := by
  unfold app
  rw [head_nodes, rest_nodes, List.take_append_drop, of_nodes]
theorem cut_size (f : RF) (i : Nat) : (f.head i).size + (f.rest i).size = f.size := by rw [← app_size, head_rest]
theorem head_dep (f : RF) (i : Nat) : (f.head i).dep ≤ f.dep := dep_le _ _ fun n hn => dep_mem f n (List.mem_of_mem_take (by rw [head_nodes] at hn; exact hn))
theorem rest_dep (f : RF) (i : Nat) : (f.rest i).dep ≤ f.dep := dep_le _ _ fun n hn => dep_mem f n (List.mem_of_mem_drop (by rw [rest_nodes] at hn; exact hn))
theorem head_every {p : Nd → Prop} {f : RF} (h : f.every p) (i : Nat) : (f.head i).every p := every_nodes.mpr fun n hn => every_nodes.mp h n (List.mem_of_mem_take (by rw [head_nodes] at hn; exact hn))
theorem rest_every {p : Nd → Prop} {f : RF} (h : f.every p) (i : Nat) : (f.rest i).every p := every_nodes.mpr fun n hn => every_nodes.mp h n (List.mem_of_mem_drop (by rw [rest_nodes] at hn; exact hn))
/-- a row of one rule -/
def only (n : Nd) : RF := .cons n.nm n.hs n.fs n.rl n.exc .nil
theorem only_size (n : Nd) : (only n).size = n.exc.size + 1 := rfl
theorem only_dep (n : Nd) : (only n).dep = n.exc.dep + 1 := Nat.max_zero _
theorem only_every {p : Nd → Prop} {n : Nd} (h : p n) (k : n.exc.every p) : (only n).every p := ⟨h, k, trivial⟩
end RF
namespace All2
variable {α β : Type} {R : α → β → Prop}
theorem take {as : List α} {bs : List β} (h : All2 R as bs) : ∀ i, All2 R (as.take i) (bs.take i) := by
  induction h with
  | nil => intro i; rw [List.take_nil, List.take_nil]; exact .nil
  | cons h _ ih =>
    intro i
    cases i with
    | zero => exact .nil
    | succ i => exact .cons h (ih i)
theorem drop {as : List α} {bs : List β} (h : All2 R as bs) : ∀ i, All2 R (as.drop i) (bs.drop i) := by
  induction h with
  | nil => intro i; rw [List.drop_nil, List.drop_nil]; exact .nil
  | cons h t ih =>
    intro i
    cases i with
    | zero => exact .cons h t
    | succ i => exact ih i
end All2
section
variable {K : PySem.W.Frag} {H : Hp} {f g : RF} {vs us : List V} {v : V} {n : Nd}
theorem rows_app (h : RowsAt K H f vs) (k : RowsAt K H g us) : RowsAt K H (f.app g) (vs ++ us) := RowsAt.of (by rw [RF.app_nodes]; exact h.all.app k.all)
theorem rows_head (h : RowsAt K H f vs) (i : Nat) : RowsAt K H (f.head i) (vs.take i) := RowsAt.of (by rw [RF.head_nodes]; exact h.all.take i)
theorem rows_rest (h : RowsAt K H f vs) (i : Nat) : RowsAt K H (f.rest i) (vs.drop i) := RowsAt.of (by rw [RF.rest_nodes]; exact h.all.drop i)
theorem rows_only (h : RowAt K H v n) : RowsAt K H (.only n) [v] := RowsAt.of (.one h)
theorem cut_last (vs : List V) : cutV vs (some (-1)) none = vs.drop (vs.length - 1) := by
  unfold cutV
  have e1 : HT.sIx vs.length 0 (some (-1)) = vs.length - 1 := by
    unfold HT.sIx
    dsimp only
    rw [if_pos (by decide)]
    omega
  have e2 : HT.sIx vs.length vs.length none = vs.length := rfl
  rw [e1, e2, List.take_of_length_le]
  rw [List.length_drop]
  exact Nat.le_refl _
end
end Sc
namespace Sc
open PySem
/-! ### cases by their numbers -/
def caseOf : List Str → Nat → List Str
  | [], _ => []
  | x :: r, n => (if n % 2 = 1 then [x] else []) ++ caseOf r (n / 2)
def bitN (n k : Nat) : Bool := decide (n / 2 ^ k % 2 = 1)
theorem bitN_succ {n k : Nat} : bitN n (k + 1) = bitN (n / 2) k := by
  unfold bitN
  rw [Nat.pow_succ, Nat.mul_comm, ← Nat.div_div_eq_div_mul]
theorem caseOf_more : ∀ (fs : List Str) (n i : Nat) (x : Str), fs[i]? = some x → caseOf (fs.take (i + 1)) n = caseOf (fs.take i) n ++ (if bitN n i = true then [x] else [])
  | y :: r, n, 0, x, h => by
    have h : y = x := Option.some.inj h
    subst h
    show (if n % 2 = 1 then [y] else []) ++ caseOf [] (n / 2) = [] ++ _
    unfold bitN caseOf
    rw [Nat.pow_zero, Nat.div_one, List.append_nil, List.nil_append]
    by_cases c : n % 2 = 1
    · rw [if_pos c, if_pos (decide_eq_true c)]
    · rw [if_neg c, if_neg (by rw [decide_eq_false c]; exact Bool.false_ne_true)]
  | y :: r, n, i + 1, x, h => by
    have h : r[i]? = some x := h
    show (if n % 2 = 1 then [y] else []) ++ caseOf (r.take (i + 1)) (n / 2) = ((if n % 2 = 1 then [y] else []) ++ caseOf (r.take i) (n / 2)) ++ _
    rw [caseOf_more r (n / 2) i x h, List.append_assoc, bitN_succ]
theorem caseOf_sub : ∀ (fs : List Str) (n : Nat), List.Sublist (caseOf fs n) fs
  | [], _ => .slnil
  | x :: r, n => by
    unfold caseOf
    by_cases c : n % 2 = 1
    · rw [if_pos c]
      exact (caseOf_sub r _).cons₂ x
    · rw [if_neg c]
      exact (caseOf_sub r _).cons x
/-- each choice of the facts is a case -/
theorem caseOf_all (p : Str → Bool) : ∀ fs : List Str, ∃ n, n < 2 ^ fs.length ∧ caseOf fs n = fs.filter p
  | [] => ⟨0, by decide, rfl⟩
  | x :: r => by
    obtain ⟨n, h1, h2⟩ := caseOf_all p r
    cases c : p x with
    | true =>
      refine ⟨2 * n + 1, by rw [List.length_cons, Nat.pow_succ]; omega, ?_⟩
      unfold caseOf
      rw [if_pos (by omega), show (2 * n + 1) / 2 = n by omega, h2, List.filter_cons, if_pos c]
      rfl
    | false =>
      refine ⟨2 * n, by rw [List.length_cons, Nat.pow_succ]; omega, ?_⟩
      unfold caseOf
      rw [if_neg (by omega), show (2 * n) / 2 = n by omega, h2, List.filter_cons, if_neg (by rw [c]; exact Bool.false_ne_true)]
      rfl
end Sc
namespace Sc
open PySem PySem.Spec PyProof.Rows L2
/-! ### rising rows of the twelve facts -/
def SLt (a b : Str) : Prop := a.cps.toList < b.cps.toList
instance (a b : Str) : Decidable (SLt a b) := inferInstanceAs (Decidable (a.cps.toList < b.cps.toList))
structure Good (xs : List Str) : Prop where
  up : xs.Pairwise SLt
  mem : ∀ x ∈ xs, x ∈ twelve
theorem twelve_up : twelve.Pairwise SLt := by decide +kernel
theorem twelve_name : ∀ x ∈ twelve, isName x = true := by decide +kernel
theorem twelve_good : Good twelve := ⟨twelve_up, fun _ h => h⟩
theorem Good.sub {xs ys : List Str} (h : Good ys) (s : List.Sublist xs ys) : Good xs := ⟨h.up.sublist s, fun x hx => h.mem x (s.subset hx)⟩
theorem Good.nodup {xs : List Str} (h : Good xs) : xs.Nodup := h.up.imp fun {a b} hl e => by subst e; exact List.lt_irrefl _ hl
theorem Good.fines {xs : List Str} (h : Good xs) (tf : Fines twelve) : Fines xs := fun x hx => tf x (h.mem x hx)
theorem Good.le {xs : List Str} (h : Good xs) : xs.Pairwise SLe := h.up.imp fun hl => List.le_of_lt hl
theorem good_nil : Good [] := ⟨.nil, fun _ h => nomatch h⟩
theorem Good.srt {xs : List Str} (h : Good xs) : srt xs = xs := sorted_uniq (srt_perm xs) (srt_sorted xs) (sorted_of h.le)
theorem lt_of {a b : Str} (h : SLe a b) (n : a ≠ b) : SLt a b := by
  by_cases c : a.cps.toList < b.cps.toList
  · exact c
  · exact absurd (str_ext (List.le_antisymm h (List.not_lt.mp c))) n
theorem srt_good {xs : List Str} (nd : xs.Nodup) (m : ∀ x ∈ xs, x ∈ twelve) : Good (srt xs) := by
  have nd2 : (Sc.srt xs).Nodup := (srt_perm xs).nodup_iff.mpr nd
  refine ⟨?_, fun x hx => m x ((srt_perm xs).mem_iff.mp hx)⟩
  exact ((sorted_pw (srt_sorted xs)).and nd2).imp fun h => lt_of h.1 h.2
theorem mem_mrg {xs ys : List Str} {x : Str} : x ∈ mrg xs ys ↔ x ∈ xs ∨ x ∈ ys := by
  unfold mrg
  rw [(srt_perm _).mem_iff, List.mem_append, List.mem_filter]
  constructor
  · rintro (h | h)
    · exact .inl h
    · exact .inr h.1
  · rintro (h | h)
    · exact .inl h
    · by_cases c : x ∈ xs
      · exact .inl c
      · exact .inr ⟨h, by rw [decide_eq_false c]; rfl⟩
theorem Good.mrg {xs ys : List Str} (h : Good xs) (k : Good ys) : Good (mrg xs ys) := by
  refine srt_good ?_ fun x hx => ?_
  · rw [List.nodup_append]
    refine ⟨h.nodup, (List.filter_sublist).nodup k.nodup, fun a ha b hb e => ?_⟩
    subst e
    have := (List.mem_filter.mp hb).2
    rw [decide_eq_true ha] at this
    cases this
  · rcases List.mem_append.mp hx with h1 | h1
    · exact h.mem x h1
    · exact k.mem x (List.mem_filter.mp h1).1
/-- a good row is told by its members -/
theorem Good.ext {xs ys : List Str} (h : Good xs) (k : Good ys) (e : ∀ x, x ∈ xs ↔ x ∈ ys) : xs = ys := by
  have p : xs.Perm ys := (List.perm_ext_iff_of_nodup h.nodup k.nodup).mpr e
  exact sorted_uniq p (sorted_of h.le) (sorted_of k.le)
theorem rises_pw {xs : List Str} (h : xs.Pairwise SLt) {i : Nat} (hi : i < xs.length) : risesAt xs i = true := by
  by_cases h0 : i = 0
  · subst h0
    rfl
  · rw [risesAt_eq hi h0 (by omega)]
    exact decide_eq_true (List.pairwise_iff_getElem.mp h (i - 1) i (by omega) hi (by omega))
theorem Good.none {xs ys : List Str} (h : Good xs) (l : ys.length + xs.length ≤ 8) (d : ∀ x ∈ xs, ¬ x ∈ ys) : firstWrong xs ys = none := by
  unfold firstWrong
  rw [List.find?_eq_none]
  intro i hi
  have hi := List.mem_range.mp hi
  unfold wrongAt
  rw [List.getElem?_eq_getElem hi]
  dsimp only
  rw [twelve_name _ (h.mem _ (List.getElem_mem hi)), rises_pw h.up hi, decide_eq_false (show ¬ 8 ≤ ys.length + i by omega), decide_eq_false (d _ (List.getElem_mem hi))]
  exact Bool.false_ne_true
/-! ### two conditions over the same cases -/
theorem meets_iff {hs fs cs : List Str} : meets hs fs cs = true ↔ (∀ x ∈ hs, x ∈ cs) ∧ ∀ x ∈ fs, ¬ x ∈ cs := by
  unfold meets
  rw [Bool.and_eq_true, List.all_eq_true, Bool.not_eq_true', List.any_eq_false]
  constructor
  · rintro ⟨h1, h2⟩
    exact ⟨fun x hx => of_decide_eq_true (h1 x hx), fun x hx hc => h2 x hx (decide_eq_true hc)⟩
  · rintro ⟨h1, h2⟩
    exact ⟨fun x hx => decide_eq_true (h1 x hx), fun x hx hc => h2 x hx (of_decide_eq_true hc)⟩
theorem meets_mrg {hs fs gs ks cs : List Str} : meets (mrg hs gs) (mrg fs ks) cs = (meets hs fs cs && meets gs ks cs) := by
  rw [Bool.eq_iff_iff, Bool.and_eq_true, meets_iff, meets_iff, meets_iff]
  constructor
  · rintro ⟨h1, h2⟩
    exact ⟨⟨fun x hx => h1 x (mem_mrg.mpr (.inl hx)), fun x hx => h2 x (mem_mrg.mpr (.inl hx))⟩, fun x hx => h1 x (mem_mrg.mpr (.inr hx)), fun x hx => h2 x (mem_mrg.mpr (.inr hx))⟩
  · rintro ⟨⟨h1, h2⟩, h3, h4⟩
    refine ⟨fun x hx => ?_, fun x hx => ?_⟩
    · rcases mem_mrg.mp hx with h | h
      · exact h1 x h
      · exact h3 x h
    · rcases mem_mrg.mp hx with h | h
      · exact h2 x h
      · exact h4 x h
/-- a case that meets the joined condition: what must hold, and no more -/
theorem met_case {fs ws bs : List Str} (s1 : ∀ x ∈ ws, x ∈ fs) (d : ∀ x ∈ ws, ¬ x ∈ bs) : meets ws bs (fs.filter fun x => decide (x ∈ ws)) = true := by
  rw [meets_iff]
  refine ⟨fun x hx => List.mem_filter.mpr ⟨s1 x hx, decide_eq_true hx⟩, fun x hx hc => ?_⟩
  exact d x (of_decide_eq_true (List.mem_filter.mp hc).2) hx
theorem both_iff {fs hs ks gs ls : List Str} (h1 : ∀ x ∈ hs, x ∈ fs) (h2 : ∀ x ∈ gs, x ∈ fs) :
    (∃ n, n < 2 ^ fs.length ∧ (meets hs ks (caseOf fs n) && meets gs ls (caseOf fs n)) = true) ↔ meetN (mrg hs gs) (mrg ks ls) = false := by
  constructor
  · rintro ⟨n, _, h⟩
    rw [← meets_mrg, meets_iff] at h
    unfold meetN
    rw [List.any_eq_false]
    intro x hx hc
    exact h.2 x (of_decide_eq_true hc) (h.1 x hx)
  · intro h
    obtain ⟨n, hn, e⟩ := caseOf_all (fun x => decide (x ∈ mrg hs gs)) fs
    refine ⟨n, hn, ?_⟩
    rw [← meets_mrg, e]
    refine met_case (fun x hx => ?_) (fun x hx hc => ?_)
    · rcases mem_mrg.mp hx with h' | h'
      · exact h1 x h'
      · exact h2 x h'
    · unfold meetN at h
      rw [List.any_eq_false] at h
      exact h x hx (decide_eq_true hc)
theorem within_iff {fs hs ks gs ls : List Str} (h1 : ∀ x ∈ hs, x ∈ fs) (h2 : ∀ x ∈ ls, x ∈ fs) (d : ∀ x ∈ hs, ¬ x ∈ ks) :
    withinC hs ks gs ls = true ↔ ∀ n, n < 2 ^ fs.length → (meets hs ks (caseOf fs n) && !meets gs ls (caseOf fs n)) = false := by
  unfold withinC
  rw [Bool.and_eq_true, List.all_eq_true, List.all_eq_true]
  constructor
  · rintro ⟨q1, q2⟩ n _
    cases c : meets hs ks (caseOf fs n) with
    | false => rfl
    | true =>
      have c := meets_iff.mp c
      have : meets gs ls (caseOf fs n) = true := meets_iff.mpr ⟨fun x hx => c.1 x (of_decide_eq_true (q1 x hx)), fun x hx => c.2 x (of_decide_eq_true (q2 x hx))⟩
      rw [this]
      rfl
  · intro q
    constructor
    · intro x hx
      obtain ⟨n, hn, e⟩ := caseOf_all (fun x => decide (x ∈ hs)) fs
      have h := q n hn
      rw [e, met_case h1 d, Bool.true_and] at h
      have h : meets gs ls (fs.filter fun x => decide (x ∈ hs)) = true := by
        cases c : meets gs ls (fs.filter fun x => decide (x ∈ hs)) with
        | true => rfl
        | false => rw [c] at h; cases h
      exact (List.mem_filter.mp ((meets_iff.mp h).1 x hx)).2
    · intro x hx
      obtain ⟨n, hn, e⟩ := caseOf_all (fun x => !decide (x ∈ ks)) fs
      have h := q n hn
      have m : meets hs ks (fs.filter fun x => !decide (x ∈ ks)) = true := by
        rw [meets_iff]
        refine ⟨fun y hy => List.mem_filter.mpr ⟨h1 y hy, by rw [decide_eq_false (d y hy)]; rfl⟩, fun y hy hc => ?_⟩
        have := (List.mem_filter.mp hc).2
        rw [decide_eq_true hy] at this
        cases this
      rw [e, m, Bool.true_and] at h
      have h : meets gs ls (fs.filter fun x => !decide (x ∈ ks)) = true := by
        cases c : meets gs ls (fs.filter fun x => !decide (x ∈ ks)) with
        | true => rfl
        | false => rw [c] at h; cases h
      refine decide_eq_true (Classical.byContradiction fun nk => ?_)
      exact (meets_iff.mp h).2 x hx (List.mem_filter.mpr ⟨h2 x hx, by rw [decide_eq_false nk]; rfl⟩)
end Sc
namespace Sc
open PySem PySem.Spec PyProof.Rows L2
/-! ### rules of right parts -/
structure NdOk (n : Nd) : Prop where
  nm : isName n.nm = true
  rl : isName n.rl = true
  c1 : firstWrong n.hs [] = none
  c2 : firstWrong n.fs n.hs = none
theorem name_len {x : Str} (h : isName x = true) : x.length ≤ 8 := by
  unfold isName at h
  rw [Bool.and_eq_true, Bool.and_eq_true] at h
  exact of_decide_eq_true h.2.1
theorem fw_names {xs ys : List Str} (h : firstWrong xs ys = none) : ∀ x ∈ xs, isName x = true := by
  intro x hx
  obtain ⟨i, hi, rfl⟩ := List.getElem_of_mem hx
  have := (wrongs_none h i hi).1.1
  rw [Bool.or_eq_false_iff] at this
  exact (Bool.not_eq_false' _).mp this.1
theorem fw_txts {xs ys : List Str} (h : firstWrong xs ys = none) : Txts xs := fun x hx => Nat.le_trans (name_len (fw_names h x hx)) (by decide)
theorem NdOk.len {n : Nd} (h : NdOk n) : n.hs.length ≤ 8 ∧ n.fs.length ≤ 8 := by
  have h1 := fw_len h.c1
  have h2 := fw_len h.c2
  simp only [List.length_nil] at h1
  omega
theorem fit_of {f : RF} (h : f.every NdOk) : f.Fit := fun q hq => by
  have := (RF.every_pre h q hq).len
  omega
theorem name_fine {x : Str} (h : isName x = true) : Fine x := by
  refine ⟨Nat.le_trans (name_len h) (by decide), ?_⟩
  unfold isName isLetters at h
  rw [Bool.and_eq_true, Bool.and_eq_true, List.all_eq_true] at h
  have hL : PyData.strOk letters = true := by decide +kernel
  show PyData.strOk x = true
  unfold PyData.strOk at hL ⊢
  rw [Array.all_eq_true'] at hL ⊢
  intro c hc
  exact hL c (by rw [← Array.mem_toList_iff]; exact of_decide_eq_true (h.2.2 c (by rw [Array.mem_toList_iff]; exact hc)))
theorem fw_fines {xs ys : List Str} (h : firstWrong xs ys = none) : Fines xs := fun x hx => name_fine (fw_names h x hx)
/-- names in their order -/
structure Right (xs : List Str) : Prop where
  up : xs.Pairwise SLt
  nm : ∀ x ∈ xs, isName x = true
theorem Right.sub {xs ys : List Str} (h : Right ys) (s : List.Sublist xs ys) : Right xs := ⟨h.up.sublist s, fun x hx => h.nm x (s.subset hx)⟩
theorem Right.nodup {xs : List Str} (h : Right xs) : xs.Nodup := h.up.imp fun {a b} hl e => by subst e; exact List.lt_irrefl _ hl
theorem Right.fines {xs : List Str} (h : Right xs) : Fines xs := fun x hx => name_fine (h.nm x hx)
theorem Right.none {xs ys : List Str} (h : Right xs) (l : ys.length + xs.length ≤ 8) (d : ∀ x ∈ xs, ¬ x ∈ ys) : firstWrong xs ys = none := by
  unfold firstWrong
  rw [List.find?_eq_none]
  intro i hi
  have hi := List.mem_range.mp hi
  unfold wrongAt
  rw [List.getElem?_eq_getElem hi]
  dsimp only
  rw [h.nm _ (List.getElem_mem hi), rises_pw h.up hi, decide_eq_false (show ¬ 8 ≤ ys.length + i by omega), decide_eq_false (d _ (List.getElem_mem hi))]
  exact Bool.false_ne_true
theorem Right.bad {xs : List Str} (g : Right xs) (h0 : xs ≠ []) (h1 : xs.length ≤ 60) : firstBad xs = Option.none := by
  unfold firstBad
  rw [if_neg h0, List.find?_eq_none]
  intro i hi
  have hi := List.mem_range.mp hi
  unfold badAt
  rw [List.getElem?_eq_getElem hi]
  dsimp only
  rw [g.nm _ (List.getElem_mem hi), rises_pw g.up hi, decide_eq_false (show ¬ i = 60 by omega)]
  exact Bool.false_ne_true
/-- a row of distinct names, sorted -/
theorem right_of {xs zs : List Str} (p : zs.Perm xs) (s : sortedS zs = true) (nd : xs.Nodup) (nm : ∀ x ∈ xs, isName x = true) : Right zs :=
  ⟨((sorted_pw s).and (p.nodup_iff.mpr nd)).imp fun h => lt_of h.1 h.2, fun x hx => nm x (p.mem_iff.mp hx)⟩
end Sc
namespace Sc
open PySem PySem.Spec PyProof.Rows L2
/-! ### how rules are read -/
theorem sc_up_to_first_met : FnScope ["rules", "case", "looked", "rule", "condition", "met"] ["rules", "case"] (defScope s_up_to_first_met) := ⟨rfl, rfl, rfl, by decide +kernel, rfl, by decide +kernel, by decide +kernel⟩
theorem sc_steps : FnScope ["rules", "case", "looked", "rule", "met"] ["rules", "case"] (defScope s_steps) := ⟨rfl, rfl, rfl, by decide +kernel, rfl, by decide +kernel, by decide +kernel⟩
theorem sc_looked_into : FnScope ["rules", "case", "rule", "met"] ["rules", "case"] (defScope s_looked_into) := ⟨rfl, rfl, rfl, by decide +kernel, rfl, by decide +kernel, by decide +kernel⟩
/-- is a rule met -/
abbrev Nd.met (cs : List Str) (n : Nd) : Bool := meets n.hs n.fs cs
def uptoL (cs : List Str) : List Nd → List (Nd × Bool)
  | [] => []
  | n :: r => if n.met cs = true then [(n, true)] else (n, false) :: uptoL cs r
theorem uptoL_end {cs : List Str} : ∀ {l : List Nd}, (∀ n ∈ l, n.met cs = false) → uptoL cs l = l.map fun n => (n, false)
  | [], _ => rfl
  | n :: r, h => by
    show (if n.met cs = true then _ else _) = _
    rw [if_neg (by rw [h n List.mem_cons_self]; exact Bool.false_ne_true), uptoL_end fun m hm => h m (List.mem_cons_of_mem _ hm)]
    rfl
theorem uptoL_hit {cs : List Str} : ∀ {l : List Nd} {i : Nat} {n : Nd}, l[i]? = some n → n.met cs = true → (∀ m ∈ l.take i, m.met cs = false) → uptoL cs l = ((l.take i).map fun n => (n, false)) ++ [(n, true)]
  | m :: r, 0, n, hi, hm, _ => by
    cases hi
    show (if _ then _ else _) = _
    rw [if_pos hm]
    rfl
  | m :: r, i + 1, n, hi, hm, h => by
    show (if m.met cs = true then _ else _) = _
    rw [if_neg (by rw [h m (by rw [List.take_succ_cons]; exact List.mem_cons_self)]; exact Bool.false_ne_true), uptoL_hit (l := r) (i := i) (by simpa using hi) hm fun x hx => h x (by rw [List.take_succ_cons]; exact List.mem_cons_of_mem _ hx)]
    rw [List.take_succ_cons]
    rfl
theorem uptoL_len {cs : List Str} : ∀ l : List Nd, (uptoL cs l).length ≤ l.length
  | [] => Nat.le_refl _
  | n :: r => by
    show (if n.met cs = true then _ else _ : List (Nd × Bool)).length ≤ _
    split
    · show 1 ≤ r.length + 1; omega
    · show (uptoL cs r).length + 1 ≤ r.length + 1; have := uptoL_len (cs := cs) r; omega
theorem uptoL_mem {cs : List Str} : ∀ {l : List Nd} {q : Nd × Bool}, q ∈ uptoL cs l → q.1 ∈ l
  | n :: r, q, h => by
    have h : q ∈ (if n.met cs = true then [(n, true)] else (n, false) :: uptoL cs r) := h
    split at h
    · rw [List.mem_singleton.mp h]; exact List.mem_cons_self
    · rcases List.mem_cons.mp h with rfl | h
      · exact List.mem_cons_self
      · exact List.mem_cons_of_mem _ (uptoL_mem h)
theorem uptoL_ne {cs : List Str} : ∀ {l : List Nd}, l ≠ [] → uptoL cs l ≠ []
  | [], h => absurd rfl h
  | n :: r, _ => by
    show (if n.met cs = true then _ else _ : List (Nd × Bool)) ≠ []
    split <;> exact List.cons_ne_nil _ _
namespace RF
/-- the rules beside each other that are looked at -/
def upto (cs : List Str) (f : RF) : List (Nd × Bool) := uptoL cs f.nodes
/-- all rules that are looked at -/
def steps (cs : List Str) : RF → List (Nd × Bool)
  | .nil => []
  | .cons nm hs fs rl exc rest => if meets hs fs cs = true then (⟨nm, hs, fs, rl, exc⟩, true) :: exc.steps cs else (⟨nm, hs, fs, rl, exc⟩, false) :: rest.steps cs
/-- the rules that are looked into -/
def way (cs : List Str) : RF → List Nd
  | .nil => []
  | .cons nm hs fs rl exc rest => if meets hs fs cs = true then ⟨nm, hs, fs, rl, exc⟩ :: exc.way cs else rest.way cs
/-- the rules behind those that are looked at -/
def next (cs : List Str) (f : RF) : RF := match (f.upto cs).getLast? with
  | some (n, true) => n.exc
  | _ => .nil
theorem steps_upto (cs : List Str) : ∀ f : RF, f.steps cs = f.upto cs ++ (f.next cs).steps cs
  | .nil => rfl
  | .cons nm hs fs rl exc rest => by
    have ih := steps_upto cs rest
    unfold next upto at ih ⊢
    show (if meets hs fs cs = true then _ else _) = (if meets hs fs cs = true then _ else _ : List (Nd × Bool)) ++ _
    have e : uptoL cs (RF.cons nm hs fs rl exc rest).nodes = if meets hs fs cs = true then [(⟨nm, hs, fs, rl, exc⟩, true)] else (⟨nm, hs, fs, rl, exc⟩, false) :: uptoL cs rest.nodes := rfl
    rw [e]
    by_cases h : meets hs fs cs = true
    · rw [if_pos h, if_pos h]
      rfl
    · rw [if_neg h, if_neg h, ih, List.cons_append]
      cases h2 : uptoL cs rest.nodes with
      | nil => rfl
      | cons q r => rw [List.getLast?_cons_cons]
theorem next_of {cs : List Str} {f : RF} {qs : List (Nd × Bool)} {q : Nd × Bool} (h : f.upto cs = qs ++ [q]) : f.next cs = if q.2 = true then q.1.exc else .nil := by
  unfold next
  rw [h, List.getLast?_concat]
  obtain ⟨n, b⟩ := q
  cases b <;> rfl
theorem dep_pos : ∀ {f : RF}, f ≠ .nil → 1 ≤ f.dep
  | .nil, h => absurd rfl h
  | .cons nm hs fs rl exc rest, _ => by
    show 1 ≤ max (exc.dep + 1) rest.dep
    omega
theorem nodes_ne : ∀ {f : RF}, f ≠ .nil → f.nodes ≠ []
  | .nil, h => absurd rfl h
  | .cons nm hs fs rl exc rest, _ => List.cons_ne_nil _ _
theorem steps_way (cs : List Str) : ∀ f : RF, ((f.steps cs).filter fun q => q.2).map (fun q => q.1) = f.way cs
  | .nil => rfl
  | .cons nm hs fs rl exc rest => by
    have h1 := steps_way cs exc
    have h2 := steps_way cs rest
    unfold steps way
    by_cases h : meets hs fs cs = true
    · rw [if_pos h, if_pos h, List.filter_cons_of_pos rfl, List.map_cons, h1]
    · rw [if_neg h, if_neg h, List.filter_cons_of_neg Bool.false_ne_true, h2]
theorem steps_size (cs : List Str) : ∀ f : RF, (f.steps cs).length ≤ f.size
  | .nil => Nat.le_refl _
  | .cons nm hs fs rl exc rest => by
    have h1 := steps_size cs exc
    have h2 := steps_size cs rest
    unfold steps
    show _ ≤ exc.size + 1 + rest.size
    split
    · rw [List.length_cons]; omega
    · rw [List.length_cons]; omega
theorem way_dep (cs : List Str) : ∀ f : RF, (f.way cs).length ≤ f.dep
  | .nil => Nat.le_refl _
  | .cons nm hs fs rl exc rest => by
    have h1 := way_dep cs exc
    have h2 := way_dep cs rest
    unfold way
    show _ ≤ max (exc.dep + 1) rest.dep
    split
    · rw [List.length_cons]; omega
    · omega
theorem way_every {p : Nd → Prop} (cs : List Str) : ∀ {f : RF}, f.every p → ∀ n ∈ f.way cs, p n
  | .nil, _, n, h => nomatch h
  | .cons nm hs fs rl exc rest, hp, n, h => by
    unfold way at h
    split at h
    · rcases List.mem_cons.mp h with rfl | h
      · exact hp.1
      · exact way_every cs hp.2.1 n h
    · exact way_every cs hp.2.2 n h
end RF
section
variable {P : Program} {w : World} {K : PySem.W.Frag} {mg : Str → Option Value} {base : Heap} {C R : Addr}
/-- the class Condition, with its call -/
structure CondW (P : Program) (w : World) (K : PySem.W.Frag) (mg : Str → Option Value) (base : Heap) (C : Addr) : Prop extends CondG P w K mg base C where
  call : MethO P w K mg base CX0 1 C "__call__" ["self", "case"] (sp_ccall K C)
theorem pe_cK {X : Cx} {C : Addr} {te : TE} {t : TA} {x : Str} {e : Expr} {es : List Expr} {p pos : Pos} (M : CondW X.prog X.w X.K X.mg X.base C) (hr : Room 1 X.A) (ho : PE X (.Name x p) te) (ha : PA X (e :: es) t)
    (he : starEach (e :: es) X.env = (false, eval e X.env) :: starEach es X.env := by rfl) (hpl : (backTo pos (starEach es X.env)).any (·.1) = false := by rfl) : PE X (.Call (.Name x p) (e :: es) [] pos) (tCallO C (sp_ccall X.K C) E0 te t) := by
  obtain ⟨g, fd, h1, h2, h3, F, hb⟩ := M.call.ex
  exact pe_callO h1 h2 h3 F hr hb pass0 ho ha he hpl
/-- a rule, and whether it is met, in a tuple -/
def StepAt (K : PySem.W.Frag) (C R : Addr) (N : Addr → Prop) (H : Hp) (v : V) (q : Nd × Bool) : Prop := ∃ t o, v = .ref t ∧ H t = some (.tup [.ref o, .bl q.2]) ∧ NdAt K C R N H o q.1
theorem StepAt.keeps {N : Addr → Prop} {H H' : Hp} {v : V} {q : Nd × Bool} (h : StepAt K C R N H v q) (k : Keeps N H H') : StepAt K C R N H' v q := by
  obtain ⟨t, o, e, h1, h2⟩ := h
  exact ⟨t, o, e, k _ _ stays_tup h1, h2.keeps k⟩
theorem StepAt.re {N M : Addr → Prop} {H : Hp} (g : ∀ b xs, N b → H b = some (.lst xs) → M b) {v : V} {q : Nd × Bool} (h : StepAt K C R N H v q) : StepAt K C R M H v q := by
  obtain ⟨t, o, e, h1, h2⟩ := h
  exact ⟨t, o, e, h1, h2.re g⟩
def sp_upto (K : PySem.W.Frag) (C R : Addr) : Sp := fun vs H Q _ => ∃ (N : Addr → Prop) (p c : Addr) (cs : List Str) (ws : List V) (f : RF), vs = [.ref p, .ref c] ∧ SqT K H p ws ∧ ForAt K C R N H f ws ∧ SqT K H c (cs.map V.str) ∧ f.size ≤ 900 ∧ f.every NdOk ∧
  ∀ H' D us, Same H H' → H' D = some (.lst us) → All2 (StepAt K C R N H') us (f.upto cs) → Q (.ref D) H'
theorem ok_upto {f : Addr} {fd : FuncData} (F : Fun K "up_to_first_met" "up_to_first_met" s_up_to_first_met f fd) (Bl : Blt mg) (kR : RuleX P w K mg base R) (kK : CondW P w K mg base C) :
    FnOk P w K mg base CX0 6 f fd ["rules", "case"] (sp_upto K C R) := by
  refine F.ok sc_up_to_first_met (fun vs H Q E h => by obtain ⟨N, p, c, cs, ws, f, rfl, _⟩ := h; rfl) (fun cdv A outer s H vs Q E hr h => ?_)
  obtain ⟨N, p, c, cs, ws, f, rfl, hP, hF, hC, hz, hev, q⟩ := h
  refine ⟨_, (pss_cons (ps_set (i := 2) sc_up_to_first_met.nd rfl (Or.inl rfl) (pe_lst pa_nil))
      (pss_cons (ps_for PassesOwn.never rfl (pi_tup (pv 0)) (pg_name (i := 3) sc_up_to_first_met.nd rfl (Or.inl rfl)) (pss_cons (ps_set (i := 4) sc_up_to_first_met.nd rfl (Or.inl rfl) (pe_cprop kR.condition kR.cls (hr.mono (by decide)) (pv 3)))
      (pss_cons (ps_set (i := 5) sc_up_to_first_met.nd rfl (Or.inl rfl) (pe_cK kK (hr.mono (by decide)) (pv 4) (pa_cons (pv 1) pa_nil)))
      (pss_cons (ps_expr (pe_bm PySem.F.plainAttrs_list PySem.F.slot_list_append PySem.F.type_list_append mt_append (pv 2) (pa_cons (pe_tup (pa_cons (pv 3) (pa_cons (pv 5) pa_nil))) pa_nil)))
      (pss_one (ps_if (pt_val (pv 5)) (pss_one ps_break) pss_nil))))))
      (pss_one (ps_ret (pv 2))))), ?_⟩
  have hA := hF.used.all
  have hln := hA.len
  have hlz := RF.nodes_le f
  refine ⟨Nat.zero_le _, fun D nD => ⟨_, rfl, p, rfl, ⟨_, ((Same.refl H).put nD).tup hP⟩, for_it walk_tup (fun i σ H' => ∃ (us : List V) (y3 y4 y5 : Option V), σ = [some (.ref p), some (.ref c), some (.ref D), y3, y4, y5] ∧ Same H H' ∧ H' D = some (.lst us) ∧ All2 (StepAt K C R (Used N H) H') us ((f.nodes.take i).map fun n => (n, false)) ∧ ∀ m ∈ f.nodes.take i, m.met cs = false)
    ⟨[], none, none, none, rfl, (Same.refl H).put nD, upd_same, .nil, fun m hm => nomatch hm⟩ (fun _ _ _ _ ⟨_, _, _, _, _, s, _⟩ => s.tup hP) ?_ ?_⟩⟩
  · rintro i y σ H3 H2 hi ⟨us, y3, y4, y5, rfl, s, e, hu, hno⟩ ⟨rfl, hy⟩
    have nU := used_not (N := N) nD
    obtain ⟨n, hn, o, rfl, hN⟩ := hA.get hy
    have hmem : n ∈ f.nodes := List.mem_of_getElem? hn
    obtain ⟨hok, hne⟩ := RF.every_nodes.mp hev n hmem
    have hlen := hok.len
    have hul := hu.len
    rw [List.length_map, List.length_take] at hul
    have hN2 := hN.keeps (N := Used N H) s.keeps
    obtain ⟨dx, k, pe, l, ws', ho, hc, hpe, hl, hfe⟩ := id hN2
    obtain ⟨dxk, hk⟩ : ∃ (dxk : Addr) (fk : _), H2 k = some (.ins C dxk fk) := by obtain ⟨dxk, _, _, _, _, hk, _⟩ := id hc; exact ⟨_, _, hk⟩
    obtain ⟨fk, hk⟩ := hk
    refine ⟨_, rfl, o, dx, _, rfl, ho, ⟨o, dx, _, _, rfl, ho, rfl, ?_⟩⟩
    refine ⟨_, rfl, k, rfl, _, rfl, ⟨dxk, _, hk⟩, k, c, n.hs, n.fs, cs, rfl, hc, s.tup hC, by omega, by omega, fun H4 s4 => ?_⟩
    have s04 := s.trans s4
    refine ⟨_, rfl, .inl ⟨rfl, _, sqL_of (s4 _ _ e)⟩, _, rfl, _, rfl, (by show 2 ≤ sizeLine; decide), fun t nt => ?_⟩
    have s5 : Same H4 (upd H4 t (.tup [.ref o, .bl (n.met cs)])) := (Same.refl H4).put nt
    have t5 : (upd H4 t (.tup [.ref o, .bl (n.met cs)])) t = some (.tup [.ref o, .bl (n.met cs)]) := upd_same
    generalize upd H4 t (.tup [.ref o, .bl (n.met cs)]) = H5 at s5 t5 ⊢
    have s45 := s4.trans s5
    have e5 := s45 _ _ e
    refine ⟨D, _, _, rfl, rfl, e5, small1000 (by omega), ?_⟩
    have s06 : Same H (upd H5 D (.lst (us ++ [.ref t]))) := (s.trans s45).put nD
    have e6 : (upd H5 D (.lst (us ++ [.ref t]))) D = some (.lst (us ++ [.ref t])) := upd_same
    have tD : t ≠ D := fun z => by rw [z, e5] at t5; cases t5
    have hu6 : All2 (StepAt K C R (Used N H) (upd H5 D (.lst (us ++ [.ref t])))) (us ++ [.ref t]) (((f.nodes.take i).map fun n => (n, false)) ++ [(n, n.met cs)]) :=
      (hu.mono fun _ _ x => (x.keeps s45.keeps).keeps (keeps_own e5 nU)).snoc ⟨t, o, rfl, by rw [upd_ne tD]; exact t5, (hN2.keeps s45.keeps).keeps (keeps_own e5 nU)⟩
    generalize upd H5 D (.lst (us ++ [.ref t])) = H6 at s06 e6 hu6 ⊢
    refine ⟨_, rfl, _, rfl, bcase (fun c1 => ?_) (fun c1 => ?_)⟩
    · refine ⟨_, rfl, q H6 D _ s06 e6 ?_⟩
      unfold RF.upto
      rw [uptoL_hit hn c1 hno]
      have c1 : n.met cs = true := c1
      rw [c1] at hu6
      exact hu6.mono fun _ _ x => x.re fun b xs h _ => h.1
    · have c1 : n.met cs = false := c1
      rw [c1] at hu6
      refine ⟨_, _, _, _, rfl, s06, e6, ?_, ?_⟩
      · rw [take_more hn, List.map_append]
        exact hu6
      · rw [take_more hn]
        intro m hm
        rcases List.mem_append.mp hm with hm | hm
        · exact hno m hm
        · rw [List.mem_singleton.mp hm]; exact c1
  · rintro σ H2 ⟨us, y3, y4, y5, rfl, s, e, hu, hno⟩
    rw [hln, List.take_length] at hu hno
    refine ⟨_, rfl, q H2 D us s e ?_⟩
    unfold RF.upto
    rw [uptoL_end hno]
    exact hu.mono fun _ _ x => x.re fun b xs h _ => h.1
def sp_steps (K : PySem.W.Frag) (C R : Addr) : Sp := fun vs H Q _ => ∃ (N : Addr → Prop) (p c : Addr) (cs : List Str) (ws : List V) (f : RF), vs = [.ref p, .ref c] ∧ SqT K H p ws ∧ ForAt K C R N H f ws ∧ SqT K H c (cs.map V.str) ∧ f.size ≤ 900 ∧ f.every NdOk ∧
  ∀ H' D us, Same H H' → H' D = some (.lst us) → All2 (StepAt K C R N H') us (f.steps cs) → Q (.ref D) H'
theorem ok_steps {f : Addr} {fd : FuncData} (F : Fun K "steps" "steps" s_steps f fd) (Bl : Blt mg) (kR : RuleX P w K mg base R) (c_up_to_first_met : Cal P w K mg base CX0 6 "up_to_first_met" ["rules", "case"] (sp_upto K C R)) :
    FnOk P w K mg base CX0 8 f fd ["rules", "case"] (sp_steps K C R) := by
  refine F.ok sc_steps (fun vs H Q E h => by obtain ⟨N, p, c, cs, ws, f, rfl, _⟩ := h; rfl) (fun cdv A outer s H vs Q E hr h => ?_)
  obtain ⟨N, p, c, cs, ws, f, rfl, hP, hF, hC, hz, hev, q⟩ := h
  refine ⟨_, (pss_cons (ps_set (i := 2) sc_steps.nd rfl (Or.inl rfl) (pe_lst pa_nil))
      (pss_cons (ps_while PassesOwn.never (pt_tru (pv 0) (by intro _; rfl)) (pss_cons (ps_expr (pe_bm PySem.F.plainAttrs_list PySem.F.slot_list_extend PySem.F.type_list_extend mt_extend (pv 2) (pa_cons (pe_cal c_up_to_first_met (hr.mono (by decide)) (pa_cons (pv 0) (pa_cons (pv 1) pa_nil))) pa_nil)))
      (pss_cons (ps_asg (pe_ix ix_list (pv 2) (pe_un un_neg pe_int) (fun _ _ => rfl)) (pg_tup (by rfl) (pgs_cons (pg_name (i := 3) sc_steps.nd rfl (Or.inl rfl)) (pgs_cons (pg_name (i := 4) sc_steps.nd rfl (Or.inl rfl)) pgs_nil))))
      (pss_one (ps_set (i := 0) sc_steps.nd rfl (Or.inl rfl) (pe_ifExp (pt_val (pv 4)) (pe_cprop kR.exceptions kR.cls (hr.mono (by decide)) (pv 3)) (pe_tup pa_nil)))))))
      (pss_one (ps_ret (pv 2))))), ?_⟩
  have hmax := RF.steps_size cs f
  refine ⟨Nat.zero_le _, fun D nD => ⟨fun k σ H' => ∃ (g : RF) (p' : Addr) (ws us : List V) (acc : List (Nd × Bool)) (y3 y4 : Option V), k = g.dep ∧ σ = [some (.ref p'), some (.ref c), some (.ref D), y3, y4] ∧ Same H H' ∧ SqT K H' p' ws ∧ ForAt K C R (Used N H) H' g ws ∧ H' D = some (.lst us) ∧ All2 (StepAt K C R (Used N H) H') us acc ∧ f.steps cs = acc ++ g.steps cs ∧ g.size ≤ f.size ∧ g.every NdOk,
    ⟨_, f, p, ws, [], [], none, none, rfl, rfl, (Same.refl H).put nD, ((Same.refl H).put nD).tup hP, hF.used.keeps ((Same.refl H).put nD).keeps, upd_same, .nil, rfl, Nat.le_refl _, hev⟩, ?_⟩⟩
  have nU := used_not (N := N) nD
  rintro k σ H1 ⟨g, p', ws, us, acc, y3, y4, rfl, rfl, s, hP', hG, e, hu, hst, hsz, hgev⟩
  have hgl := hG.all.len
  refine ⟨_, rfl, _, .inr (.inl ⟨_, hP', rfl⟩), bcase (fun c1 => ?_) (fun c1 => ?_)⟩
  · have hg : g ≠ .nil := fun z => by
      subst z
      have hG : ws = [] := hG
      rw [hG] at c1
      cases c1
    have hne := uptoL_ne (cs := cs) (RF.nodes_ne hg)
    obtain ⟨qs, q', hq⟩ : ∃ qs q', g.upto cs = qs ++ [q'] := (List.eq_nil_or_concat (g.upto cs)).elim (fun z => absurd z hne) fun ⟨a, b, e⟩ => ⟨a, b, by rw [e, List.concat_eq_append]⟩
    have hmem : q'.1 ∈ g.nodes := uptoL_mem (cs := cs) (by show q' ∈ g.upto cs; rw [hq]; exact List.mem_append_right _ (List.mem_singleton.mpr rfl))
    have hdm := RF.dep_mem g q'.1 hmem
    have hsm := RF.size_mem g q'.1 hmem
    have hnx := RF.next_of hq
    have hsu := RF.steps_upto cs g
    have hslen : acc.length + (g.upto cs).length + ((g.next cs).steps cs).length = (f.steps cs).length := by rw [hst, hsu, List.length_append, List.length_append]; omega
    have hul := hu.len
    refine ⟨fun σ' H' => ∃ (g' : RF) (p2 : Addr) (ws2 us2 : List V) (acc2 : List (Nd × Bool)) (z3 z4 : Option V), g'.dep < g.dep ∧ σ' = [some (.ref p2), some (.ref c), some (.ref D), z3, z4] ∧ Same H H' ∧ SqT K H' p2 ws2 ∧ ForAt K C R (Used N H) H' g' ws2 ∧ H' D = some (.lst us2) ∧ All2 (StepAt K C R (Used N H) H') us2 acc2 ∧ f.steps cs = acc2 ++ g'.steps cs ∧ g'.size ≤ f.size ∧ g'.every NdOk,
      fun σ' H' ⟨g', p2, ws2, us2, acc2, z3, z4, lt, x⟩ => ⟨_, lt, g', p2, ws2, us2, acc2, z3, z4, rfl, x⟩, ?_⟩
    refine ⟨_, rfl, .inl ⟨rfl, _, sqL_of e⟩, _, rfl, _, rfl, Used N H, p', c, cs, ws, g, rfl, hP', hG, s.tup hC, by omega, hgev, fun H2 D2 us2 s2 e2 hu2 => ?_⟩
    have eD := s2 _ _ e
    have hul2 := hu2.len
    refine ⟨D, D2, _, _, rfl, rfl, eD, e2, by rw [sizeLine_eq]; omega, ?_⟩
    have s12 := s.trans s2
    have hk : Keeps (Used N H) H2 (upd H2 D (.lst (us ++ us2))) := keeps_own eD nU
    have s13 : Same H (upd H2 D (.lst (us ++ us2))) := s12.put nD
    have e3 : (upd H2 D (.lst (us ++ us2))) D = some (.lst (us ++ us2)) := upd_same
    have hu3 : All2 (StepAt K C R (Used N H) (upd H2 D (.lst (us ++ us2)))) (us ++ us2) (acc ++ g.upto cs) := (hu.mono fun _ _ x => (x.keeps s2.keeps).keeps hk).app (hu2.mono fun _ _ x => x.keeps hk)
    generalize upd H2 D (.lst (us ++ us2)) = H3 at s13 e3 hu3 ⊢
    rw [hq, List.length_append, List.length_singleton] at hul2
    obtain ⟨vs, v, hv⟩ : ∃ vs v, us2 = vs ++ [v] := (List.eq_nil_or_concat us2).elim (fun z => by rw [z] at hul2; cases hul2) fun ⟨a, b, e⟩ => ⟨a, b, by rw [e, List.concat_eq_append]⟩
    subst hv
    rw [List.length_append, List.length_singleton] at hul2
    have hlast : StepAt K C R (Used N H) H3 v q' := by
      have h1 : (us ++ (vs ++ [v]))[us.length + vs.length]? = some v := by rw [← List.append_assoc, ← List.length_append, List.getElem?_concat_length]
      obtain ⟨q2, h2, h3⟩ := hu3.get h1
      have h4 : (acc ++ g.upto cs)[us.length + vs.length]? = some q' := by rw [hq, ← List.append_assoc, show us.length + vs.length = (acc ++ qs).length by rw [List.length_append]; omega, List.getElem?_concat_length]
      rw [h4] at h2
      cases h2
      exact h3
    obtain ⟨t, o, rfl, ht, hN⟩ := hlast
    refine ⟨_, rfl, 1, rfl, D, _, _, _, rfl, rfl, sqL_of e3, (by rw [← List.append_assoc]; exact atI_last _ _), ?_⟩
    refine ⟨t, [.ref o, .bl q'.2], rfl, sqT_of ht, rfl, _, _, rfl, _, _, rfl, rfl, ?_⟩
    obtain ⟨dx, k', pe, l, ws', ho, hc, hpe, hl, hfe⟩ := id hN
    obtain ⟨hok', hne'⟩ := RF.every_nodes.mp hgev _ hmem
    refine ⟨_, rfl, _, rfl, bcase (fun c2 => ?_) (fun c2 => ?_)⟩
    · have c2 : q'.2 = true := c2
      rw [if_pos c2] at hnx
      refine ⟨_, rfl, o, dx, _, rfl, ho, ⟨o, dx, _, _, rfl, ho, rfl, ?_⟩⟩
      refine ⟨q'.1.exc, pe, ws', _, acc ++ g.upto cs, _, _, by omega, rfl, s13, hpe, hfe, e3, hu3, ?_, by omega, hne'⟩
      rw [hst, hsu, hnx, List.append_assoc]
    · have c2 : q'.2 = false := c2
      rw [if_neg (by rw [c2]; exact Bool.false_ne_true)] at hnx
      refine ⟨Nat.zero_le _, fun t0 n0 => ?_⟩
      have s4 : Same H3 (upd H3 t0 (.tup [])) := (Same.refl H3).put n0
      refine ⟨.nil, t0, [], _, acc ++ g.upto cs, _, _, RF.dep_pos hg, rfl, s13.trans s4, sqT_new, rfl, s4 _ _ e3, hu3.mono fun _ _ x => x.keeps s4.keeps, ?_, Nat.zero_le _, trivial⟩
      rw [hst, hsu, hnx, List.append_assoc]
  · have hg : g = .nil := by
      cases g with
      | nil => rfl
      | cons nm hs fs rl exc rest => 
        obtain ⟨o, dx, c', p2, l2, ws1, vs', rfl, _⟩ := hG
        cases c1
    subst hg
    have hst : f.steps cs = acc := by rw [hst]; exact List.append_nil _
    refine ⟨_, rfl, q H1 D us s e ?_⟩
    rw [hst]
    exact hu.mono fun _ _ x => x.re fun b xs h _ => h.1
def sp_looked (K : PySem.W.Frag) (C R : Addr) : Sp := fun vs H Q _ => ∃ (N : Addr → Prop) (p c : Addr) (cs : List Str) (ws : List V) (f : RF), vs = [.ref p, .ref c] ∧ SqT K H p ws ∧ ForAt K C R N H f ws ∧ SqT K H c (cs.map V.str) ∧ f.size ≤ 900 ∧ f.every NdOk ∧
  ∀ H' D us, Same H H' → H' D = some (.lst us) → All2 (RefAt K C R N H') us (f.way cs) → Q (.ref D) H'
def into (qs : List (Nd × Bool)) : List Nd := (qs.filter fun q => q.2).map fun q => q.1
theorem ok_looked {f : Addr} {fd : FuncData} (F : Fun K "looked_into" "looked_into" s_looked_into f fd) (Bl : Blt mg) (c_steps : Cal P w K mg base CX0 8 "steps" ["rules", "case"] (sp_steps K C R)) :
    FnOk P w K mg base CX0 9 f fd ["rules", "case"] (sp_looked K C R) := by
  refine F.ok sc_looked_into (fun vs H Q E h => by obtain ⟨N, p, c, cs, ws, f, rfl, _⟩ := h; rfl) (fun cdv A outer s H vs Q E hr h => ?_)
  obtain ⟨N, p, c, cs, ws, f, rfl, hP, hF, hC, hz, hev, q⟩ := h
  refine ⟨_, (pss_one (ps_ret (pe_lc (own := [("rule", 2), ("met", 3)]) (g := gTup K 2 (gCons (gName 2) (gCons (gName 3) gNil))) rfl sc_looked_into.nd (pi_list (pe_cal c_steps (hr.mono (by decide)) (pa_cons (pv 0) (pa_cons (pv 1) pa_nil)))) (blkOk_by (own := [("rule", 2), ("met", 3)]) (N := ["rules", "case", "rule", "met"]) (sc := defScope s_looked_into) (by decide +kernel)) (fun _ _ _ _ _ => (pg_tup (by rfl) (pgs_cons (pg_name (i := 2) sc_looked_into.nd rfl (Or.inl rfl)) (pgs_cons (pg_name (i := 3) sc_looked_into.nd rfl (Or.inl rfl)) pgs_nil)))) (fun _ _ _ _ _ => (pts_.re (pts_one (pt_val (pv 3))) (by first | (dsimp only [Cx.blk]; done) | exact rfl))) (fun _ _ _ _ _ => (pe_.re (pv 2) (by first | (dsimp only [Cx.blk]; done) | exact rfl)))))), ?_⟩
  have hmax := RF.steps_size cs f
  refine ⟨_, rfl, _, rfl, N, p, c, cs, ws, f, rfl, hP, hF, hC, hz, hev, fun H1 D us s1 eD hu => ?_⟩
  have hul := hu.len
  refine ⟨D, rfl, ⟨_, sqL_of eD⟩, fun D2 nD2 => lc_it walk_list (fun i H' => Same H1 H' ∧ ∃ rs, H' D2 = some (.lst rs) ∧ All2 (RefAt K C R N H1) rs (into ((f.steps cs).take i))) ⟨(Same.refl H1).put nD2, [], upd_same, .nil⟩ (fun _ _ _ h => sqL_of (h.1 _ _ eD)) ?_ ?_⟩
  · rintro i y H3 H2 hi ⟨s, rs, e, hr2⟩ ⟨rfl, hy⟩
    obtain ⟨⟨n, b⟩, hq, t, o, rfl, ht, hN⟩ := hu.get hy
    have ht := s _ _ ht
    have hrl := hr2.len
    have hil : (into ((f.steps cs).take i)).length ≤ 900 := by
      unfold into
      rw [List.length_map]
      exact Nat.le_trans (List.length_filter_le _ _) (by rw [List.length_take]; omega)
    refine ⟨t, [.ref o, .bl b], rfl, sqT_of ht, rfl, _, _, rfl, _, _, rfl, rfl, ?_⟩
    refine ⟨rfl, _, rfl, _, rfl, bcase (fun c1 => ?_) (fun c1 => ?_)⟩
    · have c1 : b = true := c1
      subst c1
      refine ⟨_, rfl, rs, e, small1000 (by omega), s.put nD2, _, upd_same, ?_⟩
      rw [take_more hq]
      unfold into at hr2 ⊢
      rw [List.filter_append, List.map_append]
      exact hr2.snoc ⟨o, rfl, hN⟩
    · have c1 : b = false := c1
      subst c1
      refine ⟨s, _, e, ?_⟩
      rw [take_more hq]
      unfold into at hr2 ⊢
      rw [List.filter_append, show List.filter (fun q : Nd × Bool => q.2) [(n, false)] = [] from rfl, List.append_nil]
      exact hr2
  rintro H2 ⟨s, rs, e, hr2⟩
  rw [hu.len, List.take_length] at hr2
  unfold into at hr2
  rw [RF.steps_way] at hr2
  exact q H2 D2 rs (s1.trans s) e (hr2.mono fun _ _ x => x.keeps s.keeps)
end
end Sc
namespace Sc
open PySem PySem.Spec PyProof.Rows L2
/-! ### the case with a number -/
def bitAt (n : Int) (j : Nat) : Bool := Builtin.bitAnd (n / 2 ^ j) 1 != 0
def namesL (facts : List Str) (n : Int) (i : Nat) : List Str := (List.range i).filterMap fun j => if bitAt n j = true then facts[j]? else none
def namesOf (facts : List Str) (n : Int) : List Str := namesL facts n facts.length
theorem namesL_more {facts : List Str} {n : Int} {i : Nat} {x : Str} (h : bitAt n i = true) (hx : facts[i]? = some x) : namesL facts n (i + 1) = namesL facts n i ++ [x] := by
  unfold namesL
  rw [List.range_succ, List.filterMap_append]
  simp [h, hx]
theorem namesL_same {facts : List Str} {n : Int} {i : Nat} (h : bitAt n i = false) : namesL facts n (i + 1) = namesL facts n i := by
  unfold namesL
  rw [List.range_succ, List.filterMap_append]
  simp [h]
theorem namesL_len {facts : List Str} {n : Int} {i : Nat} : (namesL facts n i).length ≤ i := by
  unfold namesL
  exact Nat.le_trans (List.length_filterMap_le _ _) (by rw [List.length_range]; exact Nat.le_refl i)
theorem bit_mod (n : Int) (j : Nat) : bitAt n j = decide (n / 2 ^ j % 2 = 1) := by
  unfold bitAt
  have e : Builtin.bitAnd (n / 2 ^ j) 1 = n / 2 ^ j % 2 := bitAnd_m1 (n / 2 ^ j)
  rw [e]
  rcases Int.emod_two_eq (n / 2 ^ j) with h | h <;> rw [h] <;> rfl
theorem fm_sub {facts : List Str} {n : Int} : ∀ k i, List.Sublist ((List.range' i k).filterMap fun j => if bitAt n j = true then facts[j]? else none) (facts.drop i)
  | 0, i => List.nil_sublist _
  | k + 1, i => by
    have ih := fm_sub (facts := facts) (n := n) k (i + 1)
    rw [List.range'_succ, List.filterMap_cons]
    by_cases hi : i < facts.length
    · rw [List.drop_eq_getElem_cons hi]
      by_cases b : bitAt n i = true
      · rw [if_pos b, List.getElem?_eq_getElem hi]
        exact ih.cons₂ _
      · rw [if_neg b]
        exact ih.cons _
    · have e : (if bitAt n i = true then facts[i]? else none) = none := by
        split
        · exact List.getElem?_eq_none (by omega)
        · rfl
      rw [e]
      rw [List.drop_eq_nil_of_le (by omega)] at ih ⊢
      exact ih
theorem names_sub (facts : List Str) (n : Int) : List.Sublist (namesOf facts n) facts := by
  unfold namesOf namesL
  rw [List.range_eq_range']
  exact fm_sub (facts := facts) (n := n) facts.length 0
theorem out_sub {xs cs ns : List Str} (s : List.Sublist ns cs) (m : ∀ x ∈ cs, x ∈ xs) (u : cs.Pairwise SLt) : firstOut xs ns = none := by
  unfold firstOut
  rw [List.find?_eq_none]
  intro i hi
  have hi := List.mem_range.mp hi
  unfold outAt
  rw [List.getElem?_eq_getElem hi, rises_pw (u.sublist s) hi]
  have : ns[i] ∈ xs := m _ (s.subset (List.getElem_mem hi))
  simp [this]
end Sc
namespace Sc
open PySem PySem.Spec PyProof.Rows L2
theorem sc_Book___call__ : FnScope ["self", "case", "way"] ["self", "case"] (defScope s_Book___call__) := ⟨rfl, rfl, rfl, by decide +kernel, rfl, by decide +kernel, by decide +kernel⟩
/-- the ruling of a case -/
def RF.ruled (cs : List Str) (f : RF) (rl : Str) : Str := match (f.way cs).getLast? with
  | some n => n.rl
  | none => rl
section
variable {P : Program} {w : World} {K : PySem.W.Frag} {mg : Str → Option Value} {base : Heap} {C R B CC : Addr}
def sp_bcall (K : PySem.W.Frag) (C R B CC : Addr) : Sp := fun vs H Q E => ∃ (N : Addr → Prop) (o c : Addr) (xs : List Str) (f : RF) (rl : Str) (cs : List Str), vs = [.ref o, .ref c] ∧ BookAt K C R B N H o xs f rl ∧ f.size ≤ 900 ∧ f.every NdOk ∧ SqT K H c (cs.map V.str) ∧ cs.length ≤ 1000 ∧
  (∀ i, firstOut xs cs = some i → errIx CC i H E) ∧ (firstOut xs cs = none → ∀ H', Same H H' → Q (.str (f.ruled cs rl)) H')
theorem ok_bcall {f : Addr} {fd : FuncData} (F : Fun K "__call__" "Book.__call__" s_Book___call__ f fd) (Bl : Blt mg) (T : Cls K B) (n1 : NoAttr K B "_facts") (n2 : NoAttr K B "_rules") (n3 : NoAttr K B "_ruling") (kR : RuleX P w K mg base R)
    (c_check_case : Cal P w K mg base (L2.CX P w) 3 "check_case" ["facts", "case"] (sp_check_case K CC)) (c_looked_into : Cal P w K mg base CX0 9 "looked_into" ["rules", "case"] (sp_looked K C R)) :
    FnOk P w K mg base (L2.CX P w) 11 f fd ["self", "case"] (sp_bcall K C R B CC) := by
  refine F.okX sc_Book___call__ (fun vs H Q E h => by obtain ⟨N, o, c, xs, f, rl, cs, rfl, _⟩ := h; rfl) (fun cdv A outer s H vs Q E hr h => ?_)
  obtain ⟨N, o, c, xs, f, rl, cs, rfl, ⟨dx, a, p, l, ws, us, ho, hS, hP, hF, hl, hus⟩, hz, hev, hC, hcl, hbad, hok⟩ := h
  refine ⟨_, (pss_cons (ps_expr (pe_calX c_check_case (hr.mono (by decide)) (takes_of rfl rfl rfl rfl) (pa_cons (pe_fld (pv 0) rfl) (pa_cons (pv 1) pa_nil))))
      (pss_cons (ps_set (i := 2) sc_Book___call__.nd rfl (Or.inl rfl) (pe_cal c_looked_into (hr.mono (by decide)) (pa_cons (pe_fld (pv 0) rfl) (pa_cons (pv 1) pa_nil))))
      (pss_one (ps_ret (pe_ifExp (pt_tru (pv 2) (by intro _; rfl)) (pe_cprop kR.ruling kR.cls (hr.mono (by decide)) (pe_ix ix_list (pv 2) (pe_un un_neg pe_int) (fun _ _ => rfl))) (pe_fld (pv 0) rfl)))))), ?_⟩
  refine ⟨_, rfl, o, B, dx, _, _, rfl, ho, T, n1, rfl, _, rfl, a, c, xs, cs, rfl, hS, hC, hcl, fun hn H1 s1 => ?_, fun i hi => hbad i hi⟩
  have ho1 := s1 _ _ ho
  refine ⟨_, rfl, o, B, dx, _, _, rfl, ho1, T, n2, rfl, _, rfl, N, p, c, cs, ws, f, rfl, s1.tup hP, hF.keeps s1.keeps, s1.tup hC, hz, hev, fun H2 D us2 s2 e2 hu2 => ?_⟩
  have ho2 := s2 _ _ ho1
  refine ⟨_, rfl, _, .inl ⟨_, sqL_of e2, rfl⟩, bcase (fun c1 => ?_) (fun c1 => ?_)⟩
  · obtain ⟨ns, n, hq⟩ : ∃ ns n, f.way cs = ns ++ [n] := (List.eq_nil_or_concat (f.way cs)).elim (fun z => by
      rw [z] at hu2
      cases hu2
      cases c1) fun ⟨a, b, e⟩ => ⟨a, b, by rw [e, List.concat_eq_append]⟩
    have hr0 := hok hn H2 (s1.trans s2)
    unfold RF.ruled at hr0
    rw [hq, List.getLast?_concat] at hr0
    rw [hq] at hu2
    have hul2 := hu2.len
    rw [List.length_append, List.length_singleton] at hul2
    obtain ⟨vs, v, hv⟩ : ∃ vs v, us2 = vs ++ [v] := (List.eq_nil_or_concat us2).elim (fun z => by rw [z] at hul2; cases hul2) fun ⟨a, b, e⟩ => ⟨a, b, by rw [e, List.concat_eq_append]⟩
    subst hv
    rw [List.length_append, List.length_singleton] at hul2
    obtain ⟨q2, h2, o2, rfl, dx2, k2, pe2, l2, ws2, ho3, _⟩ := hu2.get (show (vs ++ [v])[vs.length]? = some v from List.getElem?_concat_length)
    rw [show vs.length = ns.length by omega, List.getElem?_concat_length] at h2
    cases h2
    refine ⟨_, rfl, 1, rfl, D, _, _, _, rfl, rfl, sqL_of e2, atI_last _ _, ?_⟩
    exact ⟨o2, dx2, _, rfl, ho3, o2, dx2, _, _, rfl, ho3, rfl, hr0⟩
  · have hw : f.way cs = [] := by
      cases hw : f.way cs with
      | nil => rfl
      | cons n r =>
        rw [hw] at hu2
        cases hu2
        cases c1
    have hr0 := hok hn H2 (s1.trans s2)
    unfold RF.ruled at hr0
    rw [hw] at hr0
    exact ⟨_, rfl, o, B, dx, _, _, rfl, ho2, T, n3, rfl, hr0⟩
end
end Sc
namespace Sc
open PySem PySem.Spec PyProof.Rows L2
/-! ### the draws of the laws from k31 on -/
theorem sc__law_sides : FnScope ["_law_h", "_law_facts_here", "_law_most", "_law_rest", "_law_holding", "_law_failing", "_law_k", "_law_one"] ["_law_h", "_law_facts_here", "_law_most"] (defScope s__law_sides) := ⟨rfl, rfl, rfl, by decide +kernel, rfl, by decide +kernel, by decide +kernel⟩
def ten : List Str := ["crew", "debt", "fog", "gate", "late", "mail", "noon", "paid", "rain", "warm"]
theorem ten_right : Right ten := ⟨by decide +kernel, by decide +kernel⟩
section
variable {P : Program} {w : World} {K : PySem.W.Frag} {mg : Str → Option Value} {base : Heap}
def sp_facts : Sp := fun vs H Q _ => ∃ (a l : Addr) (m : Nat), vs = [.ref a, .int (m : Nat)] ∧ RS H a l ∧ 1 ≤ m ∧ m ≤ 10 ∧ ∀ H' p fs, Kp a l H H' → H' p = some (.tup (fs.map V.str)) → H p = none → List.Sublist fs ten → 1 ≤ fs.length → fs.length ≤ m → Q (.ref p) H'
theorem ok_facts {f : Addr} {fd : FuncData} (F : Fun K "_law_facts" "_law_facts" s__law_facts f fd) (B : Blt mg) (c__law_next : Cal P w K mg base CX0 1 "_law_next" ["_law_h", "_law_limit"] sp_next) : FnOk P w K mg base CX0 2 f fd ["_law_h", "_law_most"] sp_facts := by
  refine F.ok sc__law_facts (fun vs H Q E h => by obtain ⟨a, l, c, rfl, _⟩ := h; rfl) (fun cdv A outer s H vs Q E hr h => ?_)
  obtain ⟨a, l, c, rfl, hR, c0, c1, q⟩ := h
  refine ⟨_, (pss_cons (ps_set (i := 2) sc__law_facts.nd rfl (Or.inl rfl) (pe_lst (pa_cons pe_str (pa_cons pe_str (pa_cons pe_str (pa_cons pe_str (pa_cons pe_str (pa_cons pe_str (pa_cons pe_str (pa_cons pe_str (pa_cons pe_str (pa_cons pe_str pa_nil))))))))))))
      (pss_cons (ps_set (i := 3) sc__law_facts.nd rfl (Or.inl rfl) (pe_op op_add pe_int (pe_cal c__law_next (hr.mono (by decide)) (pa_cons (pv 0) (pa_cons (pv 1) pa_nil)))))
      (pss_cons (ps_while PassesOwn.never (pt_cmpR op_gt (pe_callB call_len_seq (by rfl) B.b_len PySem.boot_len (pa_cons (pv 2) pa_nil)) (pv 3) (nomark _)) (pss_one (ps_expr (pe_bm PySem.F.plainAttrs_list PySem.F.slot_list_pop PySem.F.type_list_pop mt_popAt (pv 2) (pa_cons (pe_cal c__law_next (hr.mono (by decide)) (pa_cons (pv 0) (pa_cons (pe_callB call_len_seq (by rfl) B.b_len PySem.boot_len (pa_cons (pv 2) pa_nil)) pa_nil))) pa_nil)))))
      (pss_one (ps_ret (pe_callTy call_tuple_of (by rfl) B.b_tuple PyProof.Rows.boot_tuple (pa_cons (pv 2) pa_nil))))))), ?_⟩
  refine ⟨(by show 10 ≤ sizeLine; decide), fun p np => ?_⟩
  obtain ⟨npa, npl⟩ := hR.no np
  have k0 := (Kp.refl hR).put (o := .lst (ten.map V.str)) np
  have e0 : (upd H p (.lst (ten.map V.str))) p = some (.lst (ten.map V.str)) := upd_same
  refine ⟨_, rfl, _, rfl, a, l, _, rfl, k0.new, by omega, small_lim (by omega) (by omega), fun H1 r k1 r0 r1 => ⟨1, r, rfl, rfl, ?_⟩⟩
  obtain ⟨m, rfl⟩ := Int.eq_ofNat_of_zero_le r0
  refine ⟨fun k σ H' => ∃ zs : List Str, k = zs.length ∧ σ = [some (.ref a), some (.int (c : Nat)), some (.ref p), some (.int (1 + (m : Nat)))] ∧ Kp a l H H' ∧ H' p = some (.lst (zs.map V.str)) ∧ List.Sublist zs ten ∧ m + 1 ≤ zs.length,
    ⟨_, ten, rfl, rfl, k0.trans k1, k1.keep p _ npa npl e0, List.Sublist.refl _, (by show m + 1 ≤ 10; omega)⟩, ?_⟩
  rintro k σ H1 ⟨zs, rfl, rfl, k1, e1, sb, hc⟩
  have hz : zs.length ≤ 10 := sb.length_le
  refine ⟨.ref p, rfl, p, _, rfl, .inl (sqL_of e1), _, rfl, _, _, rfl, rfl, _, rfl, bcase (fun t1 => ?_) (fun t1 => ?_)⟩
  · have t1 : 1 + (m : Int) < ((zs.map V.str).length : Int) := of_decide_eq_true t1
    rw [List.length_map] at t1
    refine ⟨fun σ' H' => ∃ zs' : List Str, zs'.length < zs.length ∧ (σ' = [some (.ref a), some (.int (c : Nat)), some (.ref p), some (.int (1 + (m : Nat)))] ∧ Kp a l H H' ∧ H' p = some (.lst (zs'.map V.str)) ∧ List.Sublist zs' ten ∧ m + 1 ≤ zs'.length),
      fun σ' H' ⟨zs', lt, x⟩ => ⟨_, lt, zs', rfl, x⟩, ?_⟩
    refine ⟨.ref p, rfl, .inl ⟨rfl, _, sqL_of e1⟩, .ref a, rfl, .ref p, rfl, p, _, rfl, .inl (sqL_of e1), a, l, _, rfl, k1.new, by rw [List.length_map]; omega, ?_, fun H2 r k2 r0 r1 => ?_⟩
    · rw [List.length_map]
      exact Nat.lt_of_le_of_lt (Nat.log2_le_self _) (by show zs.length < 9000; omega)
    · have e2 : H2 p = some (.lst (zs.map V.str)) := k2.keep p _ npa npl e1
      rw [List.length_map] at r1
      obtain ⟨j, rfl⟩ := Int.eq_ofNat_of_zero_le r0
      have hj : j < zs.length := by omega
      have hj' : j < (zs.map V.str).length := by rw [List.length_map]; exact hj
      refine ⟨p, _, _, j, _, rfl, rfl, e2, by omega, by omega, (ixN_seq (ixN_of hj')).1, List.getElem?_eq_getElem hj', zs.eraseIdx j, ?_, rfl, (k1.trans k2).put0 np, ?_, (List.eraseIdx_sublist zs j).trans sb, ?_⟩
      · rw [List.length_eraseIdx_of_lt hj]
        omega
      · rw [upd_same, map_eraseIdx]
      · rw [List.length_eraseIdx_of_lt hj]
        omega
  · have t1 : ¬ 1 + (m : Int) < ((zs.map V.str).length : Int) := of_decide_eq_false t1
    rw [List.length_map] at t1
    refine ⟨.ref p, rfl, p, _, rfl, .inl ⟨sqL_of e1, fun t nt => q _ t zs (k1.put nt) upd_same (k1.free nt) sb (by omega) (by omega)⟩⟩
/-- the parts of a drawn condition -/
structure Side (fs hs gs : List Str) (m : Nat) : Prop where
  r1 : Right hs
  r2 : Right gs
  s1 : ∀ x ∈ hs, x ∈ fs
  s2 : ∀ x ∈ gs, x ∈ fs
  dj : ∀ x ∈ gs, ¬ x ∈ hs
  le : hs.length + gs.length ≤ m
theorem erase_perm {α : Type} : ∀ {zs : List α} {j : Nat} (h : j < zs.length), (zs[j] :: zs.eraseIdx j).Perm zs
  | z :: r, 0, _ => List.Perm.refl _
  | z :: r, j + 1, h => by
    have hj : j < r.length := by simpa using h
    have ih := erase_perm hj
    show (r[j] :: z :: r.eraseIdx j).Perm (z :: r)
    exact (List.Perm.swap _ _ _).trans (ih.cons z)
def sp_sides (K : PySem.W.Frag) : Sp := fun vs H Q _ => ∃ (a l fp : Addr) (fs : List Str) (m : Nat), vs = [.ref a, .ref fp, .int (m : Nat)] ∧ RS H a l ∧ SqT K H fp (fs.map V.str) ∧ fs.length ≤ 60 ∧ Right fs ∧ m ≤ 8 ∧
  ∀ H' p pw pb hs gs, Kp a l H H' → H' p = some (.tup [.ref pw, .ref pb]) → H' pw = some (.tup (hs.map V.str)) → H' pb = some (.tup (gs.map V.str)) → Side fs hs gs m → Q (.ref p) H'
theorem ok_sides {f : Addr} {fd : FuncData} (F : Fun K "_law_sides" "_law_sides" s__law_sides f fd) (B : Blt mg) (c__law_next : Cal P w K mg base CX0 1 "_law_next" ["_law_h", "_law_limit"] sp_next) : FnOk P w K mg base CX0 2 f fd ["_law_h", "_law_facts_here", "_law_most"] (sp_sides K) := by
  refine F.ok sc__law_sides (fun vs H Q E h => by obtain ⟨a, l, fp, fs, m, rfl, _⟩ := h; rfl) (fun cdv A outer s H vs Q E hr h => ?_)
  obtain ⟨a, l, fp, fs, m, rfl, R, hS, hl, hfs, hm, q⟩ := h
  refine ⟨_, (pss_cons (ps_par3 (i := 3) (j := 4) (l := 5) rfl sc__law_sides.nd rfl rfl rfl (by decide) (by decide) (by decide) rfl rfl rfl (pa_cons (pe_callTy call_list_of (by rfl) B.b_list PyProof.Rows.boot_list (pa_cons (pv 1) pa_nil)) (pa_cons (pe_lst pa_nil) (pa_cons (pe_lst pa_nil) pa_nil))) rfl)
      (pss_cons (ps_for PassesOwn.never rfl (pi_range1 (by rfl) B.b_range (pa_cons (pe_cal c__law_next (hr.mono (by decide)) (pa_cons (pv 0) (pa_cons (pe_op op_add (pe_callB (call_min2 rfl) (by rfl) B.b_min (by decide +kernel) (pa_cons (pv 2) (pa_cons (pe_callB call_len_seq (by rfl) B.b_len PySem.boot_len (pa_cons (pv 1) pa_nil)) pa_nil))) pe_int) pa_nil))) pa_nil)) (pg_name (i := 6) sc__law_sides.nd rfl (Or.inl rfl)) (pss_cons (ps_set (i := 7) sc__law_sides.nd rfl (Or.inl rfl) (pe_bm PySem.F.plainAttrs_list PySem.F.slot_list_pop PySem.F.type_list_pop mt_popAt (pv 3) (pa_cons (pe_cal c__law_next (hr.mono (by decide)) (pa_cons (pv 0) (pa_cons (pe_callB call_len_seq (by rfl) B.b_len PySem.boot_len (pa_cons (pv 3) pa_nil)) pa_nil))) pa_nil)))
      (pss_one (ps_if (pt_cmpR op_gt (pe_cal c__law_next (hr.mono (by decide)) (pa_cons (pv 0) (pa_cons pe_int pa_nil))) pe_int (nomark _)) (pss_one (ps_expr (pe_bm PySem.F.plainAttrs_list PySem.F.slot_list_append PySem.F.type_list_append mt_append (pv 4) (pa_cons (pv 7) pa_nil)))) (pss_one (ps_expr (pe_bm PySem.F.plainAttrs_list PySem.F.slot_list_append PySem.F.type_list_append mt_append (pv 5) (pa_cons (pv 7) pa_nil))))))))
      (pss_one (ps_ret (pe_tup (pa_cons (pe_callTy call_tuple_of (by rfl) B.b_tuple PyProof.Rows.boot_tuple (pa_cons (pe_callB cr_sortedS (by rfl) B.b_sorted (by decide +kernel) (pa_cons (pv 4) pa_nil)) pa_nil)) (pa_cons (pe_callTy call_tuple_of (by rfl) B.b_tuple PyProof.Rows.boot_tuple (pa_cons (pe_callB cr_sortedS (by rfl) B.b_sorted (by decide +kernel) (pa_cons (pv 5) pa_nil)) pa_nil)) pa_nil))))))), ?_⟩
  refine ⟨_, rfl, fp, _, rfl, .inr hS, fun lr nr => ⟨Nat.zero_le _, fun lw nw => ⟨Nat.zero_le _, fun lb nb => ⟨_, _, _, rfl, ?_⟩⟩⟩⟩
  have s1 : Same H (upd H lr (.lst (fs.map V.str))) := (Same.refl H).put nr
  have s2 : Same H (upd (upd H lr (.lst (fs.map V.str))) lw (.lst [])) := s1.put' nw
  have s3 : Same H (upd (upd (upd H lr (.lst (fs.map V.str))) lw (.lst [])) lb (.lst [])) := s2.put' nb
  have wr : lr ≠ lw := ne_of_none upd_same nw
  have wb : lw ≠ lb := ne_of_none upd_same nb
  have rb : lr ≠ lb := ne_of_none (show _ = some (HO.lst (fs.map V.str)) by rw [upd_ne wr]; exact upd_same) nb
  have er : (upd (upd (upd H lr (.lst (fs.map V.str))) lw (.lst [])) lb (.lst [])) lr = some (.lst (fs.map V.str)) := by rw [upd_ne rb, upd_ne wr]; exact upd_same
  have ew : (upd (upd (upd H lr (.lst (fs.map V.str))) lw (.lst [])) lb (.lst [])) lw = some (.lst (([] : List Str).map V.str)) := by rw [upd_ne wb]; exact upd_same
  have eb : (upd (upd (upd H lr (.lst (fs.map V.str))) lw (.lst [])) lb (.lst [])) lb = some (.lst (([] : List Str).map V.str)) := upd_same
  have fw : H lw = none := s1.free nw
  have fb : H lb = none := s2.free nb
  generalize upd (upd (upd H lr (.lst (fs.map V.str))) lw (.lst [])) lb (.lst []) = H0 at s3 er ew eb ⊢
  obtain ⟨ra, rl⟩ := R.no nr
  obtain ⟨wa, wl⟩ := R.no fw
  obtain ⟨ba, bl⟩ := R.no fb
  have k0 := Kp.of R s3
  have hmn : (if (fs.length : Int) < m then (fs.length : Int) else m) = ((min fs.length m : Nat) : Int) := by split <;> omega
  refine ⟨_, rfl, _, rfl, _, rfl, fp, _, rfl, .inr (k0.tup hS), _, _, rfl, _, 1, rfl, rfl, ?_⟩
  rw [List.length_map, hmn]
  refine ⟨a, l, _, rfl, k0.new, by omega, small_lim (by omega) (by omega), fun H1 r k1 r0 r1 => ?_⟩
  obtain ⟨n, rfl⟩ := Int.eq_ofNat_of_zero_le r0
  have hn : n ≤ min fs.length m := by omega
  have hnd := hfs.nodup
  refine ⟨_, rfl, by omega, by omega, for_it walk_range (fun i σ H' => ∃ (rest ws bs : List Str) (y6 y7 : Option V), σ = [some (.ref a), some (.ref fp), some (.int (m : Nat)), some (.ref lr), some (.ref lw), some (.ref lb), y6, y7] ∧ Kp a l H H' ∧ H' lr = some (.lst (rest.map V.str)) ∧ H' lw = some (.lst (ws.map V.str)) ∧ H' lb = some (.lst (bs.map V.str)) ∧
      (rest ++ (ws ++ bs)).Perm fs ∧ ws.length + bs.length = i)
    ⟨fs, [], [], none, none, rfl, k0.trans k1, k1.keep _ _ ra rl er, k1.keep _ _ wa wl ew, k1.keep _ _ ba bl eb, by rw [List.append_nil, List.append_nil], rfl⟩ (fun _ _ _ _ _ => trivial) ?_ ?_⟩
  · rintro i y σ H3 H2 hi ⟨rest, ws, bs, y6, y7, rfl, k, er, ew, eb, hp, hlen⟩ ⟨rfl, hy⟩
    have hi : i < n := hi
    have hpl := hp.length_eq
    rw [List.length_append, List.length_append] at hpl
    refine ⟨_, rfl, .inl ⟨rfl, _, sqL_of er⟩, _, rfl, _, rfl, lr, _, rfl, .inl (sqL_of er), a, l, _, rfl, k.new, by rw [List.length_map]; omega, small_lim (by omega) (by rw [List.length_map]; omega), fun H4 r4 k4 r40 r41 => ?_⟩
    rw [List.length_map] at r41
    obtain ⟨j, rfl⟩ := Int.eq_ofNat_of_zero_le r40
    have hj : j < rest.length := by omega
    have hj' : j < (rest.map V.str).length := by rw [List.length_map]; exact hj
    have er4 := k4.keep _ _ ra rl er
    have ew4 := k4.keep _ _ wa wl ew
    have eb4 := k4.keep _ _ ba bl eb
    refine ⟨lr, _, _, j, _, rfl, rfl, er4, by omega, by omega, (ixN_seq (ixN_of hj')).1, List.getElem?_eq_getElem hj', ?_⟩
    rw [List.getElem_map]
    have k5 : Kp a l H (upd H4 lr (.lst ((rest.eraseIdx j).map V.str))) := (k.trans k4).put0 nr
    have er5 : (upd H4 lr (.lst ((rest.eraseIdx j).map V.str))) lr = some (.lst ((rest.eraseIdx j).map V.str)) := upd_same
    have ew5 : (upd H4 lr (.lst ((rest.eraseIdx j).map V.str))) lw = some (.lst (ws.map V.str)) := by rw [upd_ne wr.symm]; exact ew4
    have eb5 : (upd H4 lr (.lst ((rest.eraseIdx j).map V.str))) lb = some (.lst (bs.map V.str)) := by rw [upd_ne rb.symm]; exact eb4
    have hpe := erase_perm hj
    rw [map_eraseIdx]
    generalize upd H4 lr (.lst ((rest.eraseIdx j).map V.str)) = H5 at k5 er5 ew5 eb5 ⊢
    refine ⟨_, rfl, a, l, 3, rfl, k5.new, by decide, small_lim (by decide) (by decide), fun H6 r6 k6 r60 r61 => ⟨r6, 0, rfl, rfl, _, rfl, ?_⟩⟩
    have kk := k5.trans k6
    have er6 := k6.keep _ _ ra rl er5
    have ew6 := k6.keep _ _ wa wl ew5
    have eb6 := k6.keep _ _ ba bl eb5
    refine bcase (fun c1 => ?_) (fun c1 => ?_)
    · refine ⟨_, rfl, .inl ⟨rfl, _, sqL_of ew6⟩, _, rfl, lw, _, _, rfl, rfl, ew6, by rw [List.length_map]; exact small1000 (by omega), ?_⟩
      refine ⟨rest.eraseIdx j, ws ++ [rest[j]], bs, _, _, rfl, kk.put0 fw, by rw [upd_ne wr]; exact er6, by rw [upd_same, List.map_append]; rfl, by rw [upd_ne wb.symm]; exact eb6, ?_, by rw [List.length_append, List.length_singleton]; omega⟩
      refine List.Perm.trans ?_ hp
      refine List.Perm.trans ?_ (hpe.append_right (ws ++ bs))
      show (rest.eraseIdx j ++ ((ws ++ [rest[j]]) ++ bs)).Perm (rest[j] :: (rest.eraseIdx j ++ (ws ++ bs)))
      rw [List.append_assoc, ← List.append_assoc]
      have h1 : ((rest.eraseIdx j ++ ws) ++ ([rest[j]] ++ bs)).Perm (rest[j] :: ((rest.eraseIdx j ++ ws) ++ bs)) := List.perm_middle
      rw [List.append_assoc (rest.eraseIdx j) ws bs] at h1
      exact h1
    · refine ⟨_, rfl, .inl ⟨rfl, _, sqL_of eb6⟩, _, rfl, lb, _, _, rfl, rfl, eb6, by rw [List.length_map]; exact small1000 (by omega), ?_⟩
      refine ⟨rest.eraseIdx j, ws, bs ++ [rest[j]], _, _, rfl, kk.put0 fb, by rw [upd_ne rb]; exact er6, by rw [upd_ne wb]; exact ew6, by rw [upd_same, List.map_append]; rfl, ?_, by rw [List.length_append, List.length_singleton]; omega⟩
      refine List.Perm.trans ?_ hp
      refine List.Perm.trans ?_ (hpe.append_right (ws ++ bs))
      show (rest.eraseIdx j ++ (ws ++ (bs ++ [rest[j]]))).Perm (rest[j] :: (rest.eraseIdx j ++ (ws ++ bs)))
      rw [← List.append_assoc, ← List.append_assoc, ← List.append_assoc]
      exact List.perm_append_singleton _ _
  · rintro σ H2 ⟨rest, ws, bs, y6, y7, rfl, k, er, ew, eb, hp, hlen⟩
    have hlen : ws.length + bs.length = n := hlen
    have hsub : (ws ++ bs).Perm (ws ++ bs) := List.Perm.refl _
    have hnd2 : (rest ++ (ws ++ bs)).Nodup := hp.nodup_iff.mpr hnd
    have hin : ∀ x ∈ ws ++ bs, x ∈ fs := fun x hx => hp.mem_iff.mp (List.mem_append_right _ hx)
    have nd3 : (ws ++ bs).Nodup := (List.nodup_append.mp hnd2).2.1
    have ndw := (List.nodup_append.mp nd3).1
    have ndb := (List.nodup_append.mp nd3).2.1
    refine ⟨_, rfl, lw, ws, rfl, sqL_of ew, by omega, fun zs p hz1 hz2 np => ?_⟩
    have s4 : Same H2 (upd H2 p (.lst (zs.map V.str))) := (Same.refl H2).put np
    have e4 : (upd H2 p (.lst (zs.map V.str))) p = some (.lst (zs.map V.str)) := upd_same
    generalize upd H2 p (.lst (zs.map V.str)) = H3 at s4 e4 ⊢
    refine ⟨p, _, rfl, .inl ⟨sqL_of e4, fun t nt => ?_⟩⟩
    have s5 : Same H3 (upd H3 t (.tup (zs.map V.str))) := (Same.refl H3).put nt
    have e5 : (upd H3 t (.tup (zs.map V.str))) t = some (.tup (zs.map V.str)) := upd_same
    generalize upd H3 t (.tup (zs.map V.str)) = H4 at s5 e5 ⊢
    have s25 := s4.trans s5
    refine ⟨_, rfl, lb, bs, rfl, sqL_of (s25 _ _ eb), by omega, fun zs2 p2 hy1 hy2 np2 => ?_⟩
    have s6 : Same H4 (upd H4 p2 (.lst (zs2.map V.str))) := (Same.refl H4).put np2
    have e6 : (upd H4 p2 (.lst (zs2.map V.str))) p2 = some (.lst (zs2.map V.str)) := upd_same
    generalize upd H4 p2 (.lst (zs2.map V.str)) = H5 at s6 e6 ⊢
    refine ⟨p2, _, rfl, .inl ⟨sqL_of e6, fun t2 nt2 => ?_⟩⟩
    have s7 : Same H5 (upd H5 t2 (.tup (zs2.map V.str))) := (Same.refl H5).put nt2
    have e7 : (upd H5 t2 (.tup (zs2.map V.str))) t2 = some (.tup (zs2.map V.str)) := upd_same
    generalize upd H5 t2 (.tup (zs2.map V.str)) = H6 at s7 e7 ⊢
    refine ⟨(by show 2 ≤ sizeLine; decide), fun t3 nt3 => ?_⟩
    have s8 : Same H6 (upd H6 t3 (.tup [.ref t, .ref t2])) := (Same.refl H6).put nt3
    have s47 := (s6.trans s7).trans s8
    refine q _ t3 t t2 zs zs2 (k.same (s25.trans s47)) upd_same (s47 _ _ e5) (s8 _ _ e7) ⟨right_of hz1 hz2 ndw fun x hx => hfs.nm x (hin x (List.mem_append_left _ hx)), right_of hy1 hy2 ndb fun x hx => hfs.nm x (hin x (List.mem_append_right _ hx)), fun x hx => hin x (List.mem_append_left _ (hz1.mem_iff.mp hx)), fun x hx => hin x (List.mem_append_right _ (hy1.mem_iff.mp hx)), fun x hx hw => (List.nodup_append.mp nd3).2.2 x (hz1.mem_iff.mp hw) x (hy1.mem_iff.mp hx) rfl, ?_⟩
    rw [hz1.length_eq, hy1.length_eq]
    omega
end
end Sc
namespace Sc
open PySem PySem.Spec PyProof.Rows L2
theorem sc__law_rule : FnScope ["_law_h", "_law_facts_here", "_law_names", "_law_deep", "_law_name", "_law_sides_here", "_law_ruling", "_law_inner", "_law_k"] ["_law_h", "_law_facts_here", "_law_names", "_law_deep"] (defScope s__law_rule) := ⟨rfl, rfl, rfl, by decide +kernel, rfl, by decide +kernel, by decide +kernel⟩
theorem sc__law_drawn : FnScope ["_law_h", "_law_facts_here", "_law_most", "_law_names", "_law_rules", "_law_k"] ["_law_h", "_law_facts_here", "_law_most"] (defScope s__law_drawn) := ⟨rfl, rfl, rfl, by decide +kernel, rfl, by decide +kernel, by decide +kernel⟩
def three : List Str := ["fine", "free", "warn"]
theorem three_name : ∀ x ∈ three, isName x = true := by decide +kernel
theorem pe_wk {X : Cx} {e : Expr} {t : TE} (t' : TE) (h : PE X e t) (w : ∀ σ H Q, t' σ H Q → t σ H Q) : PE X e t' := ⟨fun pins s σ H Q I x => h.run pins s σ H Q I (w σ H Q x)⟩
/-- a drawn rule of such facts -/
structure N2 (fs : List Str) (n : Nd) : Prop where
  ok : NdOk n
  s1 : ∀ x ∈ n.hs, x ∈ fs
  s2 : ∀ x ∈ n.fs, x ∈ fs
/-- next(3) if deep > 0 else 0 -/
def tCount : TE := fun σ H Q => ∃ (a l : Addr) (deep : Nat), σ[0]? = some (some (.ref a)) ∧ σ[3]? = some (some (.int (deep : Nat))) ∧ RS H a l ∧ ∀ H' (n : Nat), Kp a l H H' → n ≤ 2 → (n = 0 ∨ 0 < deep) → Q (.int (n : Nat)) H'
section
variable {P : Program} {w : World} {K : PySem.W.Frag} {mg : Str → Option Value} {base : Heap}
def sp_rule2 (K : PySem.W.Frag) (d : Nat) : Sp := fun vs H Q _ => ∃ (a l fp nl : Addr) (fs : List Str) (x : Str) (ns : List Str) (deep : Nat), vs = [.ref a, .ref fp, .ref nl, .int (deep : Nat)] ∧ RS H a l ∧ SqT K H fp (fs.map V.str) ∧ Right fs ∧ fs.length ≤ 60 ∧ H nl = some (.lst ((x :: ns).map V.str)) ∧ nl ≠ a ∧ nl ≠ l ∧
  (∀ y ∈ x :: ns, isName y = true) ∧ ns.length ≤ 20 ∧ deep ≤ d ∧
  ∀ H' v n ns', Kc a l nl H H' → RowAt K H' v n → N2 fs n → n.exc.every (N2 fs) → n.nm :: (n.exc.names ++ ns') = x :: ns → H' nl = some (.lst (ns'.map V.str)) → n.exc.dep ≤ deep → Q v H'
theorem ok_rule2 {d : Nat} {f : Addr} {fd : FuncData} (F : Fun K "_law_rule" "_law_rule" s__law_rule f fd) (B : Blt mg) (c__law_next : Cal P w K mg base CX0 1 "_law_next" ["_law_h", "_law_limit"] sp_next) (c__law_sides : Cal P w K mg base CX0 2 "_law_sides" ["_law_h", "_law_facts_here", "_law_most"] (sp_sides K))
    (c__law_rule : Cal P w K mg base CX0 (d + 2) "_law_rule" ["_law_h", "_law_facts_here", "_law_names", "_law_deep"] (Below (sp_rule2 K) d)) : FnOk P w K mg base CX0 (d + 3) f fd ["_law_h", "_law_facts_here", "_law_names", "_law_deep"] (sp_rule2 K d) := by
  refine F.ok sc__law_rule (fun vs H Q E h => by obtain ⟨a, l, fp, nl, fs, x, ns, deep, rfl, _⟩ := h; rfl) (fun cdv A outer s H vs Q E hr h => ?_)
  obtain ⟨a, l, fp, nl, fs, x, ns, deep, rfl, R, hS, hfs, hfl, en, na, nl', hnm, hnl, hd, q⟩ := h
  refine ⟨_, (pss_cons (ps_par (i := 4) (j := 5) rfl sc__law_rule.nd rfl rfl (by decide) rfl rfl (pa_cons (pe_bm PySem.F.plainAttrs_list PySem.F.slot_list_pop PySem.F.type_list_pop mt_popAt (pv 2) (pa_cons pe_int pa_nil)) (pa_cons (pe_cal c__law_sides (hr.mono (by omega)) (pa_cons (pv 0) (pa_cons (pv 1) (pa_cons pe_int pa_nil)))) pa_nil)) rfl)
      (pss_cons (ps_par (i := 6) (j := 7) rfl sc__law_rule.nd rfl rfl (by decide) rfl rfl (pa_cons (pe_ix ix_list (pe_lst (pa_cons pe_str (pa_cons pe_str (pa_cons pe_str pa_nil)))) (pe_cal c__law_next (hr.mono (by omega)) (pa_cons (pv 0) (pa_cons pe_int pa_nil))) (fun _ _ => rfl)) (pa_cons (pe_lst pa_nil) pa_nil)) rfl)
      (pss_cons (ps_for PassesOwn.never rfl (pi_range1 (by rfl) B.b_range (pa_cons (pe_wk (tCount) (pe_ifExp (pt_cmpR op_gt (pv 3) pe_int (nomark _)) (pe_cal c__law_next (hr.mono (by omega)) (pa_cons (pv 0) (pa_cons pe_int pa_nil))) pe_int) ?we) pa_nil)) (pg_name (i := 8) sc__law_rule.nd rfl (Or.inl rfl)) (pss_one (ps_if (pt_cmpR (op_neD hr.units) (pv 2) (pe_lst pa_nil) (nomark _)) (pss_one (ps_expr (pe_bm PySem.F.plainAttrs_list PySem.F.slot_list_append PySem.F.type_list_append mt_append (pv 7) (pa_cons (pe_cal c__law_rule hr (pa_cons (pv 0) (pa_cons (pv 1) (pa_cons (pv 2) (pa_cons (pe_op op_sub (pv 3) pe_int) pa_nil))))) pa_nil)))) pss_nil)))
      (pss_one (ps_ret (pe_tup (pa_cons (pv 4) (pa_cons (pe_ix ix_tup (pv 5) pe_int (fun _ _ => rfl)) (pa_cons (pe_ix ix_tup (pv 5) pe_int (fun _ _ => rfl)) (pa_cons (pv 6) (pa_cons (pe_callTy call_tuple_of (by rfl) B.b_tuple PyProof.Rows.boot_tuple (pa_cons (pv 7) pa_nil)) pa_nil))))))))))), ?_⟩
  case we =>
    rintro σ H1 Q1 ⟨a, l, deep, g0, g3, R, q⟩
    refine ⟨_, g3, deep, 0, rfl, rfl, _, rfl, bcase (fun c1 => ?_) (fun c1 => ?_)⟩
    · have c1 : 0 < deep := by have := of_decide_eq_true c1; omega
      refine ⟨_, g0, a, l, 3, rfl, R, by decide, small_lim (by decide) (by decide), fun H2 r k r0 r1 => ?_⟩
      obtain ⟨m, rfl⟩ := Int.eq_ofNat_of_zero_le r0
      exact q H2 m k (by omega) (.inr c1)
    · exact q H1 0 (Kp.refl R) (by decide) (.inl rfl)
  have hix : 0 < ((x :: ns).map V.str).length := by rw [List.length_map, List.length_cons]; omega
  refine ⟨_, rfl, .inl ⟨rfl, _, sqL_of en⟩, nl, _, _, 0, .str x, rfl, rfl, en, by omega, by decide, (ixN_seq (ixN_of hix)).1, rfl, ?_⟩
  have k1 : Kc a l nl H (upd H nl (.lst (ns.map V.str))) := (Kc.of R (Same.refl H)).count na nl'
  have en1 : (upd H nl (.lst (ns.map V.str))) nl = some (.lst (ns.map V.str)) := upd_same
  rw [show ((x :: ns).map V.str).eraseIdx 0 = ns.map V.str from rfl]
  generalize upd H nl (.lst (ns.map V.str)) = H1 at k1 en1 ⊢
  refine ⟨_, rfl, _, rfl, a, l, fp, fs, 2, rfl, k1.new, (k1.keeps en).tup hS, hfl, hfs, by decide, fun H2 p pw pb hs gs k2 ep epw epb sd => ⟨_, _, rfl, ?_⟩⟩
  have kc2 := k1.trans (Kp.kc k2)
  have en2 := k2.keep _ _ na nl' en1
  refine ⟨(by show 3 ≤ sizeLine; decide), fun lp nlp => ?_⟩
  have s3 : Same H2 (upd H2 lp (.lst (three.map V.str))) := (Same.refl H2).put nlp
  have elp : (upd H2 lp (.lst (three.map V.str))) lp = some (.lst (three.map V.str)) := upd_same
  obtain ⟨la, ll⟩ := kc2.new.no nlp
  have R3 := kc2.new.same s3
  refine ⟨_, rfl, a, l, 3, rfl, R3, by decide, small_lim (by decide) (by decide), fun H4 r4 k4 r40 r41 => ?_⟩
  obtain ⟨j, rfl⟩ := Int.eq_ofNat_of_zero_le r40
  have hj : j < three.length := by show j < 3; omega
  have elp4 := k4.keep _ _ la ll elp
  refine ⟨lp, _, _, .str three[j], rfl, rfl, sqL_of elp4, atI_nat (j := j) (by rw [List.getElem?_map, List.getElem?_eq_getElem hj]; rfl), ?_⟩
  have hrl : three[j] ∈ three := List.getElem_mem hj
  generalize three[j] = rl at hrl ⊢
  refine ⟨Nat.zero_le _, fun li ni => ⟨_, _, rfl, ?_⟩⟩
  have kp24 : Keeps NoL H2 H4 := s3.keeps.trans k4.keepsN
  have kc4 := (kc2.same s3).trans (Kp.kc k4)
  have en4 := k4.keep _ _ na nl' (s3 _ _ en2)
  obtain ⟨ia, il⟩ := kc4.new.no ni
  have inl : li ≠ nl := fun z => by rw [z, en4] at ni; cases ni
  have s5 : Same H4 (upd H4 li (.lst [])) := (Same.refl H4).put ni
  have ei5 : (upd H4 li (.lst [])) li = some (.lst []) := upd_same
  have fi : H li = none := kc4.free en4 ni
  have kc5 := kc4.same s5
  have en5 := s5 _ _ en4
  have kp25 : Keeps NoL H2 (upd H4 li (.lst [])) := kp24.trans s5.keeps
  generalize upd H4 li (.lst []) = H5 at s5 ei5 kc5 en5 kp25 ⊢
  refine ⟨a, l, deep, rfl, rfl, kc5.new, fun H6 n6 k6 hn6 hdn => ?_⟩
  have hxn := hnm x List.mem_cons_self
  refine ⟨_, rfl, by omega, by omega, for_it walk_range (fun i σ H' => ∃ (g : RF) (us : List V) (ns' : List Str) (y8 : Option V), σ = [some (.ref a), some (.ref fp), some (.ref nl), some (.int (deep : Nat)), some (.str x), some (.ref p), some (.str rl), some (.ref li), y8] ∧ Kc a l nl H H' ∧ Keeps NoL H2 H' ∧ H' li = some (.lst us) ∧ RowsAt K H' g us ∧ g.every (N2 fs) ∧
      g.names ++ ns' = ns ∧ H' nl = some (.lst (ns'.map V.str)) ∧ g.dep ≤ deep)
    ⟨.nil, [], ns, none, rfl, kc5.trans (Kp.kc k6), kp25.trans k6.keepsN, k6.keep _ _ ia il ei5, rfl, trivial, rfl, k6.keep _ _ na nl' en5, Nat.zero_le _⟩ (fun _ _ _ _ _ => trivial) ?_ ?_⟩
  · rintro i y σ H8 H7 hi ⟨g, us, ns', y8, rfl, kc, kp, ei, hg, hev, hnn, en, hdp⟩ ⟨rfl, hy⟩
    have hi : i < n6 := hi
    have hd0 : 0 < deep := by omega
    have hsub : ∀ y ∈ ns', isName y = true := fun y hy => hnm y (List.mem_cons_of_mem _ (by rw [← hnn]; exact List.mem_append_right _ hy))
    have hln : g.names.length + ns'.length = ns.length := by rw [← List.length_append, hnn]
    refine ⟨_, rfl, Nat.zero_le _, fun te nte => ⟨.list (ns'.map PyData.str), .list [], .lst (sqL_of (by rw [upd_ne (ne_of_none en nte)]; exact en)) (dps K _ _), .lst sqL_new .nil, shL (fun z hz => name_fine (hsub z hz)), rfl, _, rfl, ?_⟩⟩
    have ed : (PyData.list (ns'.map PyData.str)).eqv (.list []) = decide (ns' = []) := eqvA_nil _
    rw [ed]
    have s9 : Same H7 (upd H7 te (.lst [])) := (Same.refl H7).put nte
    have en9 := s9 _ _ en
    have ei9 := s9 _ _ ei
    have kc9 := kc.same s9
    have kp9 : Keeps NoL H2 (upd H7 te (.lst [])) := kp.trans s9.keeps
    have hg9 := hg.keeps (N := NoL) s9.keeps
    generalize upd H7 te (.lst []) = H9 at s9 en9 ei9 kc9 kp9 hg9 ⊢
    refine bcase (fun c1 => ?_) (fun c1 => ?_)
    · have c1 : ns' ≠ [] := of_decide_eq_false ((Bool.not_eq_true' _).mp c1)
      obtain ⟨x', r', rfl⟩ := List.exists_cons_of_ne_nil c1
      obtain ⟨d, rfl⟩ : ∃ d', d = d' + 1 := ⟨d - 1, by omega⟩
      refine ⟨_, rfl, .inl ⟨rfl, _, sqL_of ei9⟩, _, rfl, _, rfl, _, rfl, _, rfl, deep, 1, rfl, rfl, ?_⟩
      rw [List.length_cons] at hln
      refine ⟨a, l, fp, nl, fs, x', r', deep - 1, (by show [V.ref a, V.ref fp, V.ref nl, V.int ((deep : Int) - 1)] = _; rw [show (deep : Int) - 1 = ((deep - 1 : Nat) : Int) by omega]), kc9.new, (kc9.keeps (show H nl = some (.lst ((x :: ns).map V.str)) by assumption)).tup hS, hfs, hfl, en9, na, nl', hsub, by omega, by omega, fun H10 v n ns2 k10 hrow hN hNe hnn2 en10 hdn2 => ?_⟩
      have ei10 := k10.keep _ _ ia il inl ei9
      have kk10 : Keeps NoL H9 H10 := k10.keeps en9
      refine ⟨li, _, _, rfl, rfl, ei10, ?_, ?_⟩
      · have := hg.len
        have h2 := RF.nodes_le g
        have h3 : g.names.length = g.size := by unfold RF.names; rw [List.length_map, RF.pre_len]
        exact small1000 (by omega)
      have kw : Keeps NoL H10 (upd H10 li (.lst (us ++ [v]))) := keeps_own ei10 id
      refine ⟨g.snoc n, us ++ [v], ns2, _, rfl, (kc9.trans k10).put0 fi, (kp9.trans kk10).trans kw, upd_same, rows_snoc ((hg9.keeps kk10).keeps kw) (hrow.keeps kw), RF.snoc_every hev hN hNe, ?_, by rw [upd_ne inl.symm]; exact en10, ?_⟩
      · rw [RF.snoc_names, ← hnn, ← hnn2, List.append_assoc]
        rfl
      · rw [RF.snoc_dep]
        omega
    · exact ⟨g, us, ns', _, rfl, kc9, kp9, ei9, hg9, hev, hnn, en9, hdp⟩
  · rintro σ H7 ⟨g, us, ns', y8, rfl, kc, kp, ei, hg, hev, hnn, en, hdp⟩
    have ep7 : SqT K H7 p [.ref pw, .ref pb] := kp.tup (sqT_of ep)
    refine ⟨_, rfl, _, rfl, p, _, 0, _, rfl, rfl, ep7, atI_nat (j := 0) rfl, _, rfl, p, _, 1, _, rfl, rfl, ep7, atI_nat (j := 1) rfl, _, rfl, _, rfl, li, _, rfl, .inl ⟨sqL_of ei, fun t nt => ?_⟩⟩
    have s8 : Same H7 (upd H7 t (.tup us)) := (Same.refl H7).put nt
    have e8 : (upd H7 t (.tup us)) t = some (.tup us) := upd_same
    generalize upd H7 t (.tup us) = H8 at s8 e8 ⊢
    refine ⟨(by show 5 ≤ sizeLine; decide), fun t2 nt2 => ?_⟩
    have s9 : Same H8 (upd H8 t2 (.tup [.str x, .ref pw, .ref pb, .str rl, .ref t])) := (Same.refl H8).put nt2
    have e9 : (upd H8 t2 (.tup [.str x, .ref pw, .ref pb, .str rl, .ref t])) t2 = some (.tup [.str x, .ref pw, .ref pb, .str rl, .ref t]) := upd_same
    have s79 := s8.trans s9
    have kp9 : Keeps NoL H2 _ := kp.trans s79.keeps
    have h8 := sd.le
    refine q _ (.ref t2) ⟨x, hs, gs, rl, g⟩ ns' (kc.same s79) ⟨t2, pw, pb, t, us, rfl, sqT_of e9, kp9.tup (sqT_of epw), kp9.tup (sqT_of epb), sqT_of (s9 _ _ e8), hg.keeps (N := NoL) s79.keeps⟩ ⟨⟨hxn, three_name _ hrl, sd.r1.none (by show 0 + hs.length ≤ 8; omega) (fun _ _ h => nomatch h), sd.r2.none (by show hs.length + gs.length ≤ 8; omega) sd.dj⟩, sd.s1, sd.s2⟩ hev ?_ (s79 _ _ en) hdp
    show x :: (g.names ++ ns') = x :: ns
    rw [hnn]
theorem Kc.kp {H H' : Hp} {a l c : Addr} (k : Kc a l c H H') (n : H c = none) : Kp a l H H' := ⟨k.old, k.new, fun b o m1 m2 e => k.keep b o m1 m2 (ne_of_none e n) e⟩
/-- the names that rules are drawn from -/
def names12 : List Str := ["hue", "ox", "ab", "ivy", "tar", "bay", "elm", "sun", "cat", "zed", "kin", "rye"]
theorem names12_name : ∀ x ∈ names12, isName x = true := by decide +kernel
theorem names12_nodup : names12.Nodup := by decide +kernel
/-- a drawn book -/
structure Drawn2 (K : PySem.W.Frag) (H : Hp) (p fp : Addr) (fs : List Str) (f : RF) (rl : Str) : Prop where
  at_ : ∃ (pr : Addr) (ws : List V), H p = some (.tup [.ref fp, .ref pr, .str rl]) ∧ SqT K H pr ws ∧ RowsAt K H f ws
  ev : f.every (N2 fs)
  nm : ∃ k ns, f.names ++ ns = names12.drop k
  dp : f.dep ≤ 3
  rl : rl ∈ three
def sp_drawn (K : PySem.W.Frag) : Sp := fun vs H Q _ => ∃ (a l fp : Addr) (fs : List Str) (m : Nat), vs = [.ref a, .ref fp, .int (m : Nat)] ∧ RS H a l ∧ SqT K H fp (fs.map V.str) ∧ Right fs ∧ fs.length ≤ 60 ∧ m ≤ 20 ∧
  ∀ H' p f rl, Kp a l H H' → Drawn2 K H' p fp fs f rl → f.nodes.length ≤ m → Q (.ref p) H'
theorem ok_drawn {f : Addr} {fd : FuncData} (F : Fun K "_law_drawn" "_law_drawn" s__law_drawn f fd) (B : Blt mg) (c__law_next : Cal P w K mg base CX0 1 "_law_next" ["_law_h", "_law_limit"] sp_next)
    (c__law_rule : Cal P w K mg base CX0 5 "_law_rule" ["_law_h", "_law_facts_here", "_law_names", "_law_deep"] (sp_rule2 K 2)) : FnOk P w K mg base CX0 6 f fd ["_law_h", "_law_facts_here", "_law_most"] (sp_drawn K) := by
  refine F.ok sc__law_drawn (fun vs H Q E h => by obtain ⟨a, l, fp, fs, m, rfl, _⟩ := h; rfl) (fun cdv A outer s H vs Q E hr h => ?_)
  obtain ⟨a, l, fp, fs, m, rfl, R, hS, hfs, hfl, hm, q⟩ := h
  refine ⟨_, (pss_cons (ps_par (i := 3) (j := 4) rfl sc__law_drawn.nd rfl rfl (by decide) rfl rfl (pa_cons (pe_lst (pa_cons pe_str (pa_cons pe_str (pa_cons pe_str (pa_cons pe_str (pa_cons pe_str (pa_cons pe_str (pa_cons pe_str (pa_cons pe_str (pa_cons pe_str (pa_cons pe_str (pa_cons pe_str (pa_cons pe_str pa_nil))))))))))))) (pa_cons (pe_lst pa_nil) pa_nil)) rfl)
      (pss_cons (ps_set (i := 3) sc__law_drawn.nd rfl (Or.inl rfl) (pe_slice sl_list (pv 3) (po_some (pe_cal c__law_next (hr.mono (by decide)) (pa_cons (pv 0) (pa_cons pe_int pa_nil)))) po_none))
      (pss_cons (ps_for PassesOwn.never rfl (pi_range1 (by rfl) B.b_range (pa_cons (pe_cal c__law_next (hr.mono (by decide)) (pa_cons (pv 0) (pa_cons (pe_op op_add (pv 2) pe_int) pa_nil))) pa_nil)) (pg_name (i := 5) sc__law_drawn.nd rfl (Or.inl rfl)) (pss_one (ps_if (pt_cmpR (op_neD hr.units) (pv 3) (pe_lst pa_nil) (nomark _)) (pss_one (ps_expr (pe_bm PySem.F.plainAttrs_list PySem.F.slot_list_append PySem.F.type_list_append mt_append (pv 4) (pa_cons (pe_cal c__law_rule (hr.mono (by decide)) (pa_cons (pv 0) (pa_cons (pv 1) (pa_cons (pv 3) (pa_cons pe_int pa_nil))))) pa_nil)))) pss_nil)))
      (pss_one (ps_ret (pe_tup (pa_cons (pv 1) (pa_cons (pe_callTy call_tuple_of (by rfl) B.b_tuple PyProof.Rows.boot_tuple (pa_cons (pv 4) pa_nil)) (pa_cons (pe_ix ix_list (pe_lst (pa_cons pe_str (pa_cons pe_str (pa_cons pe_str pa_nil)))) (pe_cal c__law_next (hr.mono (by decide)) (pa_cons (pv 0) (pa_cons pe_int pa_nil))) (fun _ _ => rfl)) pa_nil))))))))), ?_⟩
  refine ⟨(by show 12 ≤ sizeLine; decide), fun l0 n0 => ⟨Nat.zero_le _, fun li ni => ⟨_, _, rfl, ?_⟩⟩⟩
  have s1 : Same H (upd H l0 (.lst (names12.map V.str))) := (Same.refl H).put n0
  have s2 : Same H (upd (upd H l0 (.lst (names12.map V.str))) li (.lst [])) := s1.put' ni
  have i0 : l0 ≠ li := ne_of_none upd_same ni
  have e0 : (upd (upd H l0 (.lst (names12.map V.str))) li (.lst [])) l0 = some (.lst (names12.map V.str)) := by rw [upd_ne i0]; exact upd_same
  have ei : (upd (upd H l0 (.lst (names12.map V.str))) li (.lst [])) li = some (.lst []) := upd_same
  have fi : H li = none := s1.free ni
  obtain ⟨ia, il⟩ := R.no fi
  obtain ⟨za, zl⟩ := R.no n0
  have R2 := R.same s2
  refine ⟨_, rfl, _, rfl, a, l, 4, rfl, R2, by decide, small_lim (by decide) (by decide), fun H3 r k3 r0 r1 => ?_⟩
  obtain ⟨k, rfl⟩ := Int.eq_ofNat_of_zero_le r0
  have e03 : H3 l0 = some (.lst (names12.map V.str)) := k3.keep _ _ za zl e0
  have ei3 : H3 li = some (.lst []) := k3.keep _ _ ia il ei
  have k03 : Kp a l H H3 := (Kp.of R s2).trans k3
  refine ⟨_, rfl, ?_⟩
  dsimp only [tNoPart]
  refine ⟨l0, _, rfl, sqL_of e03, fun nl nnl => ?_⟩
  rw [cut_from, ← List.map_drop]
  have s4 : Same H3 (upd H3 nl (.lst ((names12.drop k).map V.str))) := (Same.refl H3).put nnl
  have en4 : (upd H3 nl (.lst ((names12.drop k).map V.str))) nl = some (.lst ((names12.drop k).map V.str)) := upd_same
  have ei4 := s4 _ _ ei3
  have fn : H nl = none := k03.free nnl
  have inl : li ≠ nl := fun z => by rw [z, nnl] at ei3; cases ei3
  have k04 := k03.same s4
  generalize upd H3 nl (.lst ((names12.drop k).map V.str)) = H4 at s4 en4 ei4 k04 ⊢
  obtain ⟨na, nl'⟩ := R.no fn
  refine ⟨_, rfl, _, rfl, m, 1, rfl, rfl, a, l, _, rfl, k04.new, by omega, small_lim (by omega) (by omega), fun H5 r5 k5 r50 r51 => ?_⟩
  obtain ⟨n5, rfl⟩ := Int.eq_ofNat_of_zero_le r50
  have hdl : (names12.drop k).length ≤ 12 := by rw [List.length_drop]; exact Nat.sub_le _ _
  have hdn : ∀ y ∈ names12.drop k, isName y = true := fun y hy => names12_name y (List.mem_of_mem_drop hy)
  refine ⟨_, rfl, by omega, by omega, for_it walk_range (fun i σ H' => ∃ (g : RF) (us : List V) (ns' : List Str) (y5 : Option V), σ = [some (.ref a), some (.ref fp), some (.int (m : Nat)), some (.ref nl), some (.ref li), y5] ∧ Kc a l nl H H' ∧ H' li = some (.lst us) ∧ RowsAt K H' g us ∧ g.every (N2 fs) ∧
      g.names ++ ns' = names12.drop k ∧ H' nl = some (.lst (ns'.map V.str)) ∧ g.dep ≤ 3 ∧ g.nodes.length ≤ i)
    ⟨.nil, [], _, none, rfl, Kp.kc (k04.trans k5), k5.keep _ _ ia il ei4, rfl, trivial, rfl, k5.keep _ _ na nl' en4, Nat.zero_le _, Nat.le_refl _⟩ (fun _ _ _ _ _ => trivial) ?_ ?_⟩
  · rintro i y σ H8 H7 hi ⟨g, us, ns', y5, rfl, kc, ei, hg, hev, hnn, en, hdp, hgl⟩ ⟨rfl, hy⟩
    have hsub : ∀ y ∈ ns', isName y = true := fun y hy => hdn y (by rw [← hnn]; exact List.mem_append_right _ hy)
    have hln : g.names.length + ns'.length = (names12.drop k).length := by rw [← List.length_append, hnn]
    refine ⟨_, rfl, Nat.zero_le _, fun te nte => ⟨.list (ns'.map PyData.str), .list [], .lst (sqL_of (by rw [upd_ne (ne_of_none en nte)]; exact en)) (dps K _ _), .lst sqL_new .nil, shL (fun z hz => name_fine (hsub z hz)), rfl, _, rfl, ?_⟩⟩
    have ed : (PyData.list (ns'.map PyData.str)).eqv (.list []) = decide (ns' = []) := eqvA_nil _
    rw [ed]
    have s9 : Same H7 (upd H7 te (.lst [])) := (Same.refl H7).put nte
    have en9 := s9 _ _ en
    have ei9 := s9 _ _ ei
    have kc9 := kc.same s9
    have hg9 := hg.keeps (N := NoL) s9.keeps
    generalize upd H7 te (.lst []) = H9 at s9 en9 ei9 kc9 hg9 ⊢
    refine bcase (fun c1 => ?_) (fun c1 => ?_)
    · have c1 : ns' ≠ [] := of_decide_eq_false ((Bool.not_eq_true' _).mp c1)
      obtain ⟨x', r', rfl⟩ := List.exists_cons_of_ne_nil c1
      refine ⟨_, rfl, .inl ⟨rfl, _, sqL_of ei9⟩, _, rfl, _, rfl, _, rfl, ?_⟩
      rw [List.length_cons] at hln
      refine ⟨a, l, fp, nl, fs, x', r', 2, rfl, kc9.new, ((kc9.kp fn).tup hS), hfs, hfl, en9, na, nl', hsub, by omega, by decide, fun H10 v n ns2 k10 hrow hN hNe hnn2 en10 hdn2 => ?_⟩
      have ei10 := k10.keep _ _ ia il inl ei9
      have kk10 : Keeps NoL H9 H10 := k10.keeps en9
      refine ⟨li, _, _, rfl, rfl, ei10, ?_, ?_⟩
      · have := hg.len
        have h2 := RF.nodes_le g
        have h3 : g.names.length = g.size := by unfold RF.names; rw [List.length_map, RF.pre_len]
        exact small1000 (by omega)
      have kw : Keeps NoL H10 (upd H10 li (.lst (us ++ [v]))) := keeps_own ei10 id
      refine ⟨g.snoc n, us ++ [v], ns2, _, rfl, (kc9.trans k10).put0 fi, upd_same, rows_snoc ((hg9.keeps kk10).keeps kw) (hrow.keeps kw), RF.snoc_every hev hN hNe, ?_, by rw [upd_ne inl.symm]; exact en10, ?_, by rw [RF.snoc_nodes, List.length_append, List.length_singleton]; omega⟩
      · rw [RF.snoc_names, ← hnn, ← hnn2, List.append_assoc]
        rfl
      · rw [RF.snoc_dep]
        omega
    · exact ⟨g, us, ns', _, rfl, kc9, ei9, hg9, hev, hnn, en9, hdp, Nat.le_succ_of_le hgl⟩
  · rintro σ H7 ⟨g, us, ns', y5, rfl, kc, ei, hg, hev, hnn, en, hdp, hgl⟩
    have hgl : g.nodes.length ≤ n5 := hgl
    refine ⟨_, rfl, _, rfl, li, _, rfl, .inl ⟨sqL_of ei, fun t nt => ?_⟩⟩
    have s8 : Same H7 (upd H7 t (.tup us)) := (Same.refl H7).put nt
    have e8 : (upd H7 t (.tup us)) t = some (.tup us) := upd_same
    have kc8 := kc.same s8
    have hg8 := hg.keeps (N := NoL) s8.keeps
    have en8 := s8 _ _ en
    generalize upd H7 t (.tup us) = H8 at s8 e8 kc8 hg8 en8 ⊢
    refine ⟨(by show 3 ≤ sizeLine; decide), fun lp nlp => ?_⟩
    have s9 : Same H8 (upd H8 lp (.lst (three.map V.str))) := (Same.refl H8).put nlp
    have elp : (upd H8 lp (.lst (three.map V.str))) lp = some (.lst (three.map V.str)) := upd_same
    obtain ⟨la, ll⟩ := kc8.new.no nlp
    have kc9 := kc8.same s9
    refine ⟨_, rfl, a, l, 3, rfl, kc9.new, by decide, small_lim (by decide) (by decide), fun H10 r10 k10 r100 r101 => ?_⟩
    obtain ⟨j, rfl⟩ := Int.eq_ofNat_of_zero_le r100
    have hj : j < three.length := by show j < 3; omega
    have elp10 := k10.keep _ _ la ll elp
    refine ⟨lp, _, _, .str three[j], rfl, rfl, sqL_of elp10, atI_nat (j := j) (by rw [List.getElem?_map, List.getElem?_eq_getElem hj]; rfl), ?_⟩
    have hrl : three[j] ∈ three := List.getElem_mem hj
    generalize three[j] = rl at hrl ⊢
    refine ⟨(by show 3 ≤ sizeLine; decide), fun t2 nt2 => ?_⟩
    have kk : Keeps NoL H8 H10 := s9.keeps.trans k10.keepsN
    have s11 : Same H10 (upd H10 t2 (.tup [.ref fp, .ref t, .str rl])) := (Same.refl H10).put nt2
    refine q _ t2 g rl ((((kc9.trans (Kp.kc k10)).kp fn)).same s11) ⟨⟨t, us, upd_same, s11.tup (kk.tup (sqT_of e8)), (hg8.keeps kk).keeps (N := NoL) s11.keeps⟩, hev, ⟨k, ns', hnn⟩, hdp, hrl⟩ (by omega)
end
end Sc
namespace Sc
open PySem PySem.Spec PyProof.Rows L2
theorem sc__law_made : FnScope ["_law_rules", "_law_found", "_law_name", "_law_holding", "_law_failing", "_law_ruling", "_law_inner"] ["_law_rules"] (defScope s__law_made) := ⟨rfl, rfl, rfl, by decide +kernel, rfl, by decide +kernel, by decide +kernel⟩
theorem sc__law_book : FnScope ["_law_drawn_here"] ["_law_drawn_here"] (defScope s__law_book) := ⟨rfl, rfl, rfl, by decide +kernel, rfl, by decide +kernel, by decide +kernel⟩
section
variable {P : Program} {w : World} {K : PySem.W.Frag} {mg : Str → Option Value} {base : Heap} {C R B CC CR CF CB : Addr}
def sp_made (K : PySem.W.Frag) (C R : Addr) (d : Nat) : Sp := fun vs H Q _ => ∃ (N : Addr → Prop) (p : Addr) (ws : List V) (f : RF), vs = [.ref p] ∧ SqT K H p ws ∧ RowsAt K H f ws ∧ (∀ l, H l = none → N l) ∧ f.dep ≤ d ∧ d ≤ 12 ∧ f.size ≤ 900 ∧ f.every NdOk ∧
  ∀ H' p' us, Same H H' → SqT K H' p' us → ForAt K C R N H' f us → Q (.ref p') H'
theorem ok_made {d : Nat} {f : Addr} {fd : FuncData} (F : Fun K "_law_made" "_law_made" s__law_made f fd) (B : Blt mg) (k_Condition : Mkr P w K mg base 4 "Condition" C ["self", "holding", "failing"] (sp_cond_init K C CC)) (k_Rule : Mkr P w K mg base 16 "Rule" R ["self", "name", "condition", "ruling", "exceptions"] (sp_rule_init K C R CR))
    (c__law_made : Cal P w K mg base CX0 (d + 17) "_law_made" ["_law_rules"] (Below (sp_made K C R) d)) :
    FnOk P w K mg base CX0 (d + 18) f fd ["_law_rules"] (sp_made K C R d) := by
  refine F.ok sc__law_made (fun vs H Q E h => by obtain ⟨N, p, ws, f, rfl, _⟩ := h; rfl) (fun cdv A outer s H vs Q E hr h => ?_)
  obtain ⟨N, p, ws, f, rfl, hP, hX, hN, hd, hd12, hz, hev, q⟩ := h
  refine ⟨_, (pss_cons (ps_set (i := 1) sc__law_made.nd rfl (Or.inl rfl) (pe_lst pa_nil))
      (pss_cons (ps_for PassesOwn.never rfl (pi_tup (pv 0)) (pg_tup (by rfl) (pgs_cons (pg_name (i := 2) sc__law_made.nd rfl (Or.inl rfl)) (pgs_cons (pg_name (i := 3) sc__law_made.nd rfl (Or.inl rfl)) (pgs_cons (pg_name (i := 4) sc__law_made.nd rfl (Or.inl rfl)) (pgs_cons (pg_name (i := 5) sc__law_made.nd rfl (Or.inl rfl)) (pgs_cons (pg_name (i := 6) sc__law_made.nd rfl (Or.inl rfl)) pgs_nil)))))) (pss_one (ps_expr (pe_bm PySem.F.plainAttrs_list PySem.F.slot_list_append PySem.F.type_list_append mt_append (pv 1) (pa_cons (pe_mkN k_Rule (hr.mono (by omega)) (pa_cons (pv 2) (pa_cons (pe_mkN k_Condition (hr.mono (by omega)) (pa_cons (pv 3) (pa_cons (pv 4) pa_nil))) (pa_cons (pv 5) (pa_cons (pe_cal c__law_made hr (pa_cons (pv 6) pa_nil)) pa_nil))))) pa_nil)))))
      (pss_one (ps_ret (pe_callTy call_tuple_of (by rfl) B.b_tuple PyProof.Rows.boot_tuple (pa_cons (pv 1) pa_nil)))))), ?_⟩
  have hA := hX.all
  have hln := hA.len
  have hlz := RF.nodes_le f
  refine ⟨Nat.zero_le _, fun D nD => ?_⟩
  have s0 : Same H (upd H D (.lst [])) := (Same.refl H).put nD
  have e0 : (upd H D (.lst [])) D = some (.lst []) := upd_same
  generalize upd H D (.lst []) = H0 at s0 e0 ⊢
  refine ⟨_, rfl, p, rfl, ⟨_, s0.tup hP⟩, for_it walk_tup (fun i σ H' => ∃ (rs : List V) (y2 y3 y4 y5 y6 : Option V), σ = [some (.ref p), some (.ref D), y2, y3, y4, y5, y6] ∧ Same H H' ∧ H' D = some (.lst rs) ∧ All2 (RefAt K C R (fun l => N l ∧ l ≠ D) H') rs (f.nodes.take i))
    ⟨[], none, none, none, none, none, rfl, s0, e0, .nil⟩ (fun _ _ _ _ ⟨_, _, _, _, _, _, _, s, _⟩ => s.tup hP) ?_ ?_⟩
  · rintro i y σ H4 H3 hi ⟨rs, y2, y3, y4, y5, y6, rfl, s, e, hrs⟩ ⟨rfl, hy⟩
    obtain ⟨n, hn, hrow⟩ := hA.get hy
    have hmem : n ∈ f.nodes := List.mem_of_getElem? hn
    have hdm := RF.dep_mem _ n hmem
    have hsm := RF.size_mem _ n hmem
    obtain ⟨hok, hne⟩ := RF.every_nodes.mp hev n hmem
    obtain ⟨d, rfl⟩ : ∃ d', d = d' + 1 := ⟨d - 1, by omega⟩
    have hrl := hrs.len
    rw [List.length_take] at hrl
    obtain ⟨o, wa, ba, pa, ws', rfl, hO, hW, hB, hPe, hXe⟩ := hrow.keeps (N := NoL) s.keeps
    refine ⟨o, _, rfl, hO, rfl, _, _, rfl, _, _, rfl, _, _, rfl, _, _, rfl, _, _, rfl, rfl, ?_⟩
    refine ⟨_, rfl, .inl ⟨rfl, _, sqL_of e⟩, _, rfl, _, rfl, _, rfl, fun c dxc nc ndc nec => ?_⟩
    have s1 : Same H3 (upd (upd H3 dxc (.own c)) c (.ins C dxc [])) := ((Same.refl H3).put ndc).put nc
    have hlen := hok.len
    refine ⟨c, dxc, wa, ba, n.hs, n.fs, rfl, upd_same, s1.tup hW, s1.tup hB, fw_txts hok.c1, fw_txts hok.c2, by omega, by omega, (fun i e => by rw [hok.c1] at e; cases e), fun _ => ⟨(fun i e => by rw [hok.c2] at e; cases e), fun _ H5 nn zs sX hc hnn hperm hsort => ⟨rfl, ?_⟩⟩⟩
    have s2 : Same H3 H5 := fun b' o' h => sX b' o' (fun e => by rw [e, nc] at h; cases h) (s1 _ _ h)
    have hcond : CondAt K C H5 c n.hs n.fs := ⟨dxc, wa, ba, nn, zs, hc, s2.tup hW, s2.tup hB, hnn, srt_uniq hperm hsort⟩
    have s05 := s.trans s2
    have e5 := s2 _ _ e
    refine ⟨_, rfl, _, rfl, fun l => N l ∧ l ≠ D, pa, ws', n.exc, rfl, s2.tup hPe, hXe.keeps (N := NoL) s2.keeps, fun l nl => ⟨hN l (s05.free nl), (fun z => by rw [z, e5] at nl; cases nl)⟩, by omega, by omega, by omega, hne, fun H6 t us s6 ht hF => ?_⟩
    have e6 := s6 _ _ e5
    intro x dx nx ndx nex
    have s7 : Same H6 (upd (upd H6 dx (.own x)) x (.ins R dx [])) := ((Same.refl H6).put ndx).put nx
    have l1 := name_len hok.nm
    have l2 := name_len hok.rl
    refine ⟨fun l => N l ∧ l ≠ D, x, dx, c, t, n.nm, n.rl, us, n.exc, rfl, upd_same, s7.tup ht, hF.keeps s7.keeps, by omega, by omega, by omega, by omega, (fun e => by rw [hok.nm] at e; cases e), fun _ => ⟨(fun e => by rw [hok.rl] at e; cases e), fun _ H8 l sX8 hx8 nelx nl el => ⟨rfl, ?_⟩⟩⟩
    have s8 : Same H6 H8 := fun b' o' h => sX8 b' o' (fun e => by rw [e, nx] at h; cases h) (s7 _ _ h)
    have s38 := (s2.trans s6).trans s8
    have s08 := s.trans s38
    have e8 := s8 _ _ e6
    have fl : H6 l = none := s7.free nl
    have hnd : NdAt K C R (fun l => N l ∧ l ≠ D) H8 x n := ⟨dx, c, t, l, us, hx8, (hcond.same s6).same s8, s8.tup ht, ⟨⟨hN l ((s05.trans s6).free fl), (fun z => by rw [z, e6] at fl; cases fl)⟩, el⟩, hF.keeps s8.keeps⟩
    refine ⟨D, _, _, rfl, rfl, e8, small1000 (by omega), ?_⟩
    have kk : Keeps (fun l => N l ∧ l ≠ D) H8 (upd H8 D (.lst (rs ++ [.ref x]))) := keeps_own e8 fun z => z.2 rfl
    refine ⟨rs ++ [.ref x], _, _, _, _, _, rfl, s08.put nD, upd_same, ?_⟩
    rw [take_more hn]
    exact (hrs.mono fun _ _ x => (x.keeps s38.keeps).keeps kk).snoc ⟨x, rfl, hnd.keeps kk⟩
  · rintro σ H3 ⟨rs, y2, y3, y4, y5, y6, rfl, s, e, hrs⟩
    rw [hln, List.take_length] at hrs
    refine ⟨_, rfl, D, _, rfl, .inl ⟨sqL_of e, fun t nt => ?_⟩⟩
    have s4 : Same H3 (upd H3 t (.tup rs)) := (Same.refl H3).put nt
    exact q _ t rs (s.trans s4) sqT_new (ForAt.of (hrs.mono fun _ _ ⟨o, e, x⟩ => ⟨o, e, (x.re fun b xs h _ => h.1).keeps s4.keeps⟩))
def sp_book2 (K : PySem.W.Frag) (C R B : Addr) : Sp := fun vs H Q _ => ∃ (N : Addr → Prop) (p fp pr : Addr) (xs : List Str) (last : Str) (ws : List V) (f : RF), vs = [.ref p] ∧ SqT K H p [.ref fp, .ref pr, .str last] ∧ SqT K H fp (xs.map V.str) ∧ Txts xs ∧ xs.length ≤ 1000 ∧ SqT K H pr ws ∧ RowsAt K H f ws ∧ (∀ l, H l = none → N l) ∧ f.every NdOk ∧ f.dep ≤ 12 ∧ f.size ≤ 900 ∧
  firstBad xs = none ∧ firstFault xs (f.pre 0) [] 0 0 = none ∧ isName last = true ∧ ∀ H' o, Same H H' → BookAt K C R B N H' o xs f last → Q (.ref o) H'
theorem ok_book2 {f : Addr} {fd : FuncData} (F : Fun K "_law_book" "_law_book" s__law_book f fd) (Bl : Blt mg) (k_Book : Mkr P w K mg base 17 "Book" B ["self", "facts", "rules", "ruling"] (sp_book_init K C R B CF CB))
    (c__law_made : Cal P w K mg base CX0 30 "_law_made" ["_law_rules"] (sp_made K C R 12)) :
    FnOk P w K mg base CX0 31 f fd ["_law_drawn_here"] (sp_book2 K C R B) := by
  refine F.ok sc__law_book (fun vs H Q E h => by obtain ⟨N, p, fp, pr, xs, last, ws, f, rfl, _⟩ := h; rfl) (fun cdv A outer s H vs Q E hr h => ?_)
  obtain ⟨N, p, fp, pr, xs, last, ws, f, rfl, hO, hS, tS, lS, hP, hX, hN, hev, hd, hz, hb, hff, hlast, q⟩ := h
  refine ⟨_, (pss_one (ps_ret (pe_mkN k_Book (hr.mono (by decide)) (pa_cons (pe_ix ix_tup (pv 0) pe_int (fun _ _ => rfl)) (pa_cons (pe_cal c__law_made (hr.mono (by decide)) (pa_cons (pe_ix ix_tup (pv 0) pe_int (fun _ _ => rfl)) pa_nil)) (pa_cons (pe_ix ix_tup (pv 0) pe_int (fun _ _ => rfl)) pa_nil)))))), ?_⟩
  refine ⟨_, rfl, p, _, 0, _, rfl, rfl, hO, atI_nat (j := 0) rfl, _, rfl, p, _, 1, _, rfl, rfl, hO, atI_nat (j := 1) rfl, N, pr, ws, f, rfl, hP, hX, hN, hd, by decide, hz, hev, fun H4 t us s4 ht hF => ?_⟩
  refine ⟨_, rfl, p, _, 2, _, rfl, rfl, s4.tup hO, atI_nat (j := 2) rfl, fun x dx nx ndx nex => ?_⟩
  have s5 : Same H4 (upd (upd H4 dx (.own x)) x (.ins B dx [])) := ((Same.refl H4).put ndx).put nx
  have s05 := s4.trans s5
  have ll := name_len hlast
  refine ⟨N, x, dx, fp, t, xs, last, us, f, rfl, upd_same, s05.tup hS, tS, lS, s5.tup ht, hF.keeps s5.keeps, hd, hz, fit_of hev, by omega, (fun i ei => by rw [hb] at ei; cases ei), fun _ => ⟨(fun wd i ei => by rw [hff] at ei; cases ei), fun _ => ⟨(fun z => by rw [hlast] at z; cases z), fun _ H6 l us2 sX6 hx6 nelx nl el hus => ⟨rfl, ?_⟩⟩⟩⟩
  have s6 : Same H4 H6 := fun b' o' h => sX6 b' o' (fun e => by rw [e, nx] at h; cases h) (s5 _ _ h)
  have s06 := s4.trans s6
  exact q H6 x s06 ⟨dx, fp, t, l, us, us2, hx6, s06.tup hS, s6.tup ht, hF.keeps s6.keeps, ⟨hN l (s4.free (s5.free nl)), el⟩, hus⟩
end
end Sc
namespace Sc
open PySem PySem.Spec PyProof.Rows L2
section
variable {K : PySem.W.Frag} {H : Hp}
/-! ### rows as data -/
def RF.dats : RF → List PyData
  | .nil => []
  | .cons nm hs fs rl exc rest => .tuple [.str nm, .tuple (hs.map PyData.str), .tuple (fs.map PyData.str), .str rl, .tuple exc.dats] :: rest.dats
theorem dp_rows : ∀ {f : RF} {vs : List V}, RowsAt K H f vs → DpAll K H vs f.dats
  | .nil, _, h => by
    obtain rfl : _ = [] := h
    exact .nil
  | .cons nm hs fs rl exc rest, vs, h => by
    obtain ⟨o, w, b, p, ws, vs', rfl, h1, h2, h3, h4, h6, h7⟩ := h
    exact .cons (.tup h1 (.cons (.str _) (.cons (.tup h2 (dps K H hs)) (.cons (.tup h3 (dps K H fs)) (.cons (.str _) (.cons (.tup h4 (dp_rows h6)) .nil)))))) (dp_rows h7)
theorem lay_rows : ∀ {f : RF}, f.every NdOk → PyData.canLayAll0 f.dats = true
  | .nil, _ => rfl
  | .cons nm hs fs rl exc rest, h => by
    obtain ⟨h1, h2, h3⟩ := h
    show (((PyData.str nm).canLay0 && (PyData.canLayAll0 (hs.map PyData.str) && (PyData.canLayAll0 (fs.map PyData.str) && ((PyData.str rl).canLay0 && (PyData.canLayAll0 exc.dats && true))))) && PyData.canLayAll0 rest.dats) = true
    rw [(name_fine h1.nm).2, strs_lay (fw_fines h1.c1), strs_lay (fw_fines h1.c2), (name_fine h1.rl).2, lay_rows h2, lay_rows h3]
    rfl
theorem dep_rows : ∀ f : RF, PyData.depthAll f.dats ≤ 2 * f.dep
  | .nil => Nat.le_refl 0
  | .cons nm hs fs rl exc rest => by
    have h1 := dep_rows exc
    have h2 := dep_rows rest
    show max ((max (PyData.str nm).depth (max (PyData.depthAll (hs.map PyData.str) + 1) (max (PyData.depthAll (fs.map PyData.str) + 1) (max (PyData.str rl).depth (max (PyData.depthAll exc.dats + 1) 0))))) + 1) (PyData.depthAll rest.dats) ≤ 2 * max (exc.dep + 1) rest.dep
    rw [strs_depth, strs_depth]
    have e1 : (PyData.str nm).depth = 0 := rfl
    have e2 : (PyData.str rl).depth = 0 := rfl
    omega
theorem sh_rows {f : RF} (h : f.every NdOk) (d : f.dep ≤ 12) : SeqAt.shaped (.tuple f.dats) = true := by
  unfold SeqAt.shaped
  have e1 : (PyData.tuple f.dats).canLay0 = true := lay_rows h
  have e2 : (PyData.tuple f.dats).depth ≤ 64 := by
    have := dep_rows f
    show PyData.depthAll f.dats + 1 ≤ 64
    omega
  rw [e1, decide_eq_true e2]
  rfl
end
namespace RF
def ofL : List Nd → RF
  | [] => .nil
  | n :: r => .cons n.nm n.hs n.fs n.rl n.exc (ofL r)
theorem ofL_nodes : ∀ ns : List Nd, (ofL ns).nodes = ns
  | [] => rfl
  | n :: r => by show n :: (ofL r).nodes = _; rw [ofL_nodes r]
theorem ofL_every {p : Nd → Prop} : ∀ {ns : List Nd}, (∀ n ∈ ns, p n ∧ n.exc.every p) → (ofL ns).every p
  | [], _ => trivial
  | n :: r, h => ⟨(h n List.mem_cons_self).1, (h n List.mem_cons_self).2, ofL_every fun m hm => h m (List.mem_cons_of_mem _ hm)⟩
theorem ofL_dep {d : Nat} : ∀ {ns : List Nd}, (∀ n ∈ ns, n.exc.dep + 1 ≤ d) → (ofL ns).dep ≤ d
  | [], _ => Nat.zero_le _
  | n :: r, h => by
    have h1 := h n List.mem_cons_self
    have h2 := ofL_dep (ns := r) fun m hm => h m (List.mem_cons_of_mem _ hm)
    show max (n.exc.dep + 1) (ofL r).dep ≤ d
    omega
end RF
theorem sh_rowsL {f : RF} (h : f.every NdOk) (d : f.dep ≤ 12) : SeqAt.shaped (.list f.dats) = true := by
  unfold SeqAt.shaped
  have e1 : (PyData.list f.dats).canLay0 = true := lay_rows h
  have e2 : (PyData.list f.dats).depth ≤ 64 := by
    have := dep_rows f
    show PyData.depthAll f.dats + 1 ≤ 64
    omega
  rw [e1, decide_eq_true e2]
  rfl
theorem dats_nil {f : RF} : (PyData.list f.dats).eqv (.list []) = decide (f.nodes = []) := by
  cases f with
  | nil => rfl
  | cons nm hs fs rl exc rest => exact (decide_eq_false (List.cons_ne_nil _ _)).symm
end Sc
namespace Sc
open PySem PySem.Spec PyProof.Rows L2
theorem sc__law_two : FnScope ["_law_count", "_law_found", "_law_k"] ["_law_count"] (defScope s__law_two) := ⟨rfl, rfl, rfl, by decide +kernel, rfl, by decide +kernel, by decide +kernel⟩
theorem sc__law_case : FnScope ["_law_facts_here", "_law_number", "_law_found", "_law_fact"] ["_law_facts_here", "_law_number"] (defScope s__law_case) := ⟨rfl, rfl, rfl, by decide +kernel, rfl, by decide +kernel, by decide +kernel⟩
theorem sc__law_way : FnScope ["_law_rules", "_law_case_here", "_law_rule_here", "_law_met", "_law_one"] ["_law_rules", "_law_case_here"] (defScope s__law_way) := ⟨rfl, rfl, rfl, by decide +kernel, rfl, by decide +kernel, by decide +kernel⟩
theorem sc__law_ruled : FnScope ["_law_drawn_here", "_law_case_here", "_law_path"] ["_law_drawn_here", "_law_case_here"] (defScope s__law_ruled) := ⟨rfl, rfl, rfl, by decide +kernel, rfl, by decide +kernel, by decide +kernel⟩
namespace RF
theorem way_cons {cs : List Str} {nm : Str} {hs fs : List Str} {rl : Str} {exc rest : RF} : (RF.cons nm hs fs rl exc rest).way cs = if meets hs fs cs = true then ⟨nm, hs, fs, rl, exc⟩ :: exc.way cs else rest.way cs := rfl
theorem way_no {cs : List Str} : ∀ {f : RF}, (∀ m ∈ f.nodes, m.met cs = false) → f.way cs = []
  | .nil, _ => rfl
  | .cons nm hs fs rl exc rest, h => by
    have h1 : meets hs fs cs = false := h ⟨nm, hs, fs, rl, exc⟩ List.mem_cons_self
    rw [way_cons, h1, if_neg Bool.false_ne_true]
    exact way_no fun m hm => h m (List.mem_cons_of_mem _ hm)
theorem way_hit {cs : List Str} : ∀ {f : RF} {i : Nat} {n : Nd}, f.nodes[i]? = some n → n.met cs = true → (∀ m ∈ f.nodes.take i, m.met cs = false) → f.way cs = n :: n.exc.way cs
  | .cons nm hs fs rl exc rest, 0, n, hi, hm, _ => by
    cases hi
    rw [way_cons, if_pos (show meets hs fs cs = true from hm)]
  | .cons nm hs fs rl exc rest, i + 1, n, hi, hm, h => by
    have h1 : meets hs fs cs = false := h ⟨nm, hs, fs, rl, exc⟩ List.mem_cons_self
    rw [way_cons, h1, if_neg Bool.false_ne_true]
    exact way_hit (f := rest) (i := i) hi hm fun m hx => h m (List.mem_cons_of_mem _ hx)
theorem way_all {p : Nd → Prop} (cs : List Str) : ∀ {f : RF}, f.every p → ∀ n ∈ f.way cs, p n ∧ n.exc.every p
  | .nil, _, n, h => nomatch h
  | .cons nm hs fs rl exc rest, hp, n, h => by
    rw [way_cons] at h
    split at h
    · rcases List.mem_cons.mp h with rfl | h
      · exact ⟨hp.1, hp.2.1⟩
      · exact way_all cs hp.2.1 n h
    · exact way_all cs hp.2.2 n h
theorem way_deps (cs : List Str) : ∀ {f : RF}, ∀ n ∈ f.way cs, n.exc.dep + 1 ≤ f.dep
  | .nil, n, h => nomatch h
  | .cons nm hs fs rl exc rest, n, h => by
    rw [way_cons] at h
    show _ ≤ max (exc.dep + 1) rest.dep
    split at h
    · rcases List.mem_cons.mp h with rfl | h
      · show exc.dep + 1 ≤ _; omega
      · have := way_deps cs (f := exc) n h; omega
    · have := way_deps cs (f := rest) n h; omega
end RF
theorem met_eq {n : Nd} {cs : List Str} : n.met cs = (decide ((n.hs.filter fun x => decide (x ∈ cs)).length = n.hs.length) && decide ((n.fs.filter fun x => decide (x ∈ cs)) = [])) := by
  unfold Nd.met meets
  congr 1
  · rw [Bool.eq_iff_iff, decide_eq_true_iff, List.length_filter_eq_length_iff, List.all_eq_true]
  · rw [Bool.eq_iff_iff, decide_eq_true_iff, List.filter_eq_nil_iff, Bool.not_eq_true', List.any_eq_false]
section
variable {P : Program} {w : World} {K : PySem.W.Frag} {mg : Str → Option Value} {base : Heap}
def sp_two : Sp := fun vs H Q _ => ∃ n : Nat, vs = [.int (n : Nat)] ∧ n ≤ 60 ∧ Q (.int ((2 ^ n : Nat) : Int)) H
theorem ok_two {f : Addr} {fd : FuncData} (F : Fun K "_law_two" "_law_two" s__law_two f fd) (B : Blt mg) : FnOk P w K mg base CX0 1 f fd ["_law_count"] sp_two := by
  refine F.ok sc__law_two (fun vs H Q E h => by obtain ⟨n, rfl, _⟩ := h; rfl) (fun cdv A outer s H vs Q E hr h => ?_)
  obtain ⟨n, rfl, hn, q⟩ := h
  refine ⟨_, (pss_cons (ps_set (i := 1) sc__law_two.nd rfl (Or.inl rfl) pe_int)
      (pss_cons (ps_for PassesOwn.never rfl (pi_range1 (by rfl) B.b_range (pa_cons (pv 0) pa_nil)) (pg_name (i := 2) sc__law_two.nd rfl (Or.inl rfl)) (pss_one (ps_set (i := 1) sc__law_two.nd rfl (Or.inl rfl) (pe_op op_mul (pv 1) pe_int))))
      (pss_one (ps_ret (pv 1))))), ?_⟩
  refine ⟨_, rfl, _, rfl, by omega, by omega, for_it walk_range (fun i σ H' => ∃ y, σ = [some (.int (n : Nat)), some (.int ((2 ^ i : Nat) : Int)), y] ∧ H' = H) ⟨none, rfl, rfl⟩ (fun _ _ _ _ _ => trivial) ?_ ?_⟩
  · rintro i x σ H1 H2 hi ⟨y, rfl, rfl⟩ ⟨rfl, hy⟩
    refine ⟨_, rfl, _, 2, rfl, rfl, .inr ⟨by decide, by decide⟩, ?_⟩
    refine ⟨some x, ?_, rfl⟩
    show [some (V.int (n : Nat)), some (V.int (((2 ^ i : Nat) : Int) * 2)), some x] = _
    rw [show ((2 ^ i : Nat) : Int) * 2 = ((2 ^ (i + 1) : Nat) : Int) by rw [Nat.pow_succ]; omega]
  · rintro σ H1 ⟨y, rfl, rfl⟩
    exact ⟨_, rfl, by simpa using q⟩
def sp_lcase (K : PySem.W.Frag) : Sp := fun vs H Q _ => ∃ (a : Addr) (xs : List Str) (n : Nat), vs = [.ref a, .int (n : Nat)] ∧ SqT K H a (xs.map V.str) ∧ xs.length ≤ 60 ∧ n < 2 ^ 62 ∧
  ∀ H' p, Same H H' → H' p = some (.tup ((namesOf xs (n : Nat)).map V.str)) → Q (.ref p) H'
theorem ok_lcase {f : Addr} {fd : FuncData} (F : Fun K "_law_case" "_law_case" s__law_case f fd) (B : Blt mg) : FnOk P w K mg base CX0 1 f fd ["_law_facts_here", "_law_number"] (sp_lcase K) := by
  refine F.ok sc__law_case (fun vs H Q E h => by obtain ⟨a, xs, n, rfl, _⟩ := h; rfl) (fun cdv A outer s H vs Q E hr h => ?_)
  obtain ⟨a, xs, n, rfl, hS, hl, hn, q⟩ := h
  refine ⟨_, (pss_cons (ps_set (i := 2) sc__law_case.nd rfl (Or.inl rfl) (pe_lst pa_nil))
      (pss_cons (ps_for PassesOwn.never rfl (pi_tup (pv 0)) (pg_name (i := 3) sc__law_case.nd rfl (Or.inl rfl)) (pss_cons (ps_if (pt_cmpR op_eq (pe_op op_mod (pe_callTy call_int1 (by rfl) B.b_int PyProof.Rows.boot_int (pa_cons (pv 1) pa_nil)) pe_int) pe_int (nomark _)) (pss_one (ps_expr (pe_bm PySem.F.plainAttrs_list PySem.F.slot_list_append PySem.F.type_list_append mt_append (pv 2) (pa_cons (pv 3) pa_nil)))) pss_nil)
      (pss_one (ps_set (i := 1) sc__law_case.nd rfl (Or.inl rfl) (pe_op op_fdiv (pv 1) pe_int)))))
      (pss_one (ps_ret (pe_callTy call_tuple_of (by rfl) B.b_tuple PyProof.Rows.boot_tuple (pa_cons (pv 2) pa_nil)))))), ?_⟩
  refine ⟨Nat.zero_le _, fun D nD => ⟨_, rfl, ?_⟩⟩
  refine ⟨a, rfl, ⟨_, ((Same.refl H).put nD).tup hS⟩, for_it walk_tup (fun i σ H' => ∃ y, σ = [some (.ref a), some (.int ((n / 2 ^ i : Nat) : Int)), some (.ref D), y] ∧ Same H H' ∧ H' D = some (.lst ((namesL xs (n : Nat) i).map V.str)))
    ⟨none, by rw [show n / 2 ^ 0 = n from Nat.div_one n]; rfl, (Same.refl H).put nD, upd_same⟩ (fun _ _ _ _ ⟨_, _, s, _⟩ => s.tup hS) ?_ ?_⟩
  · rintro i y σ H3 H2 hi ⟨y3, rfl, s, e⟩ ⟨rfl, hy⟩
    rw [List.length_map] at hi
    have hx : xs[i]? = some xs[i] := List.getElem?_eq_getElem hi
    obtain rfl : V.str xs[i] = y := strAt_inj hx hy
    have hbit : bitAt (n : Nat) i = decide ((((n / 2 ^ i : Nat) : Int)) % 2 = 1) := by
      rw [bit_mod]
      congr 2
    have hdiv : (((n / 2 ^ i : Nat) : Int)) / 2 = ((n / 2 ^ (i + 1) : Nat) : Int) := by
      rw [Nat.pow_succ, ← Nat.div_div_eq_div_mul]
      omega
    have hst : [some (V.ref a), some (V.int ((((n / 2 ^ i : Nat) : Int)) / 2)), some (V.ref D), some (V.str xs[i])] = [some (V.ref a), some (V.int ((n / 2 ^ (i + 1) : Nat) : Int)), some (V.ref D), some (V.str xs[i])] := by rw [hdiv]
    have hnl := namesL_len (facts := xs) (n := (n : Nat)) (i := i)
    refine ⟨_, rfl, .inl ⟨_, rfl, _, 2, rfl, rfl, (show (0 : Int) < 2 by decide), rfl, _, rfl, bcase (fun c1 => ?_) (fun c1 => ?_)⟩⟩
    · have c1 : bitAt (n : Nat) i = true := by
        rw [hbit]
        have h := V.int.inj (of_decide_eq_true c1)
        exact decide_eq_true h
      refine ⟨_, rfl, .inl ⟨rfl, _, sqL_of e⟩, _, rfl, D, _, _, rfl, rfl, e, small1000 (by rw [List.length_map]; omega), ?_⟩
      refine ⟨_, rfl, _, 2, rfl, rfl, ⟨by decide, by decide⟩, some (.str xs[i]), hst, s.put nD, ?_⟩
      rw [upd_same, namesL_more c1 hx, List.map_append]
      rfl
    · have c1 : bitAt (n : Nat) i = false := by
        rw [hbit]
        exact decide_eq_false fun z => of_decide_eq_false c1 (congrArg V.int z)
      refine ⟨_, rfl, _, 2, rfl, rfl, ⟨by decide, by decide⟩, some (.str xs[i]), hst, s, ?_⟩
      rw [namesL_same c1]
      exact e
  · rintro σ H2 ⟨y3, rfl, s, e⟩
    rw [List.length_map] at e
    exact ⟨_, rfl, D, _, rfl, .inl ⟨sqL_of e, fun p np => q _ p (s.put' np) upd_same⟩⟩
def sp_lway (K : PySem.W.Frag) (d : Nat) : Sp := fun vs H Q _ => ∃ (p c : Addr) (cs : List Str) (ws : List V) (f : RF), vs = [.ref p, .ref c] ∧ SqT K H p ws ∧ RowsAt K H f ws ∧ SqT K H c (cs.map V.str) ∧ f.dep ≤ d ∧ d ≤ 12 ∧ f.size ≤ 900 ∧ f.every NdOk ∧
  ∀ H' D us, Same H H' → H D = none → H' D = some (.lst us) → All2 (RowAt K H') us (f.way cs) → Q (.ref D) H'
theorem ok_lway {d : Nat} {f : Addr} {fd : FuncData} (F : Fun K "_law_way" "_law_way" s__law_way f fd) (B : Blt mg) (c__law_way : Cal P w K mg base CX0 (d + 1) "_law_way" ["_law_rules", "_law_case_here"] (Below (sp_lway K) d)) :
    FnOk P w K mg base CX0 (d + 2) f fd ["_law_rules", "_law_case_here"] (sp_lway K d) := by
  refine F.ok sc__law_way (fun vs H Q E h => by obtain ⟨p, c, cs, ws, f, rfl, _⟩ := h; rfl) (fun cdv A outer s H vs Q E hr h => ?_)
  obtain ⟨p, c, cs, ws, f, rfl, hP, hX, hC, hd, hd12, hz, hev, q⟩ := h
  refine ⟨_, (pss_cons (ps_for PassesOwn.never rfl (pi_tup (pv 0)) (pg_name (i := 2) sc__law_way.nd rfl (Or.inl rfl)) (pss_cons (ps_setLc (i := 3) (own := [("_law_one", 4)]) (g := gName 4) rfl sc__law_way.nd rfl rfl (sw_true rfl rfl rfl (by decide +kernel)) (pi_tup (pe_ix ix_tup (pv 2) pe_int (fun _ _ => rfl))) (blkOk_by (own := [("_law_one", 4)]) (N := ["_law_rules", "_law_case_here", "_law_rule_here", "_law_met", "_law_one"]) (sc := defScope s__law_way) (by decide +kernel)) (fun _ _ _ _ _ => (pg_name (i := 4) sc__law_way.nd rfl (Or.inl rfl))) (fun _ _ _ _ _ => (pts_.re (pts_one (pt_cmpR op_in_seq (pv 4) (pv 1) rfl)) (by first | (dsimp only [Cx.blk]; done) | exact rfl))) (fun _ _ _ _ _ => (pe_.re (pv 4) (by first | (dsimp only [Cx.blk]; done) | exact rfl))))
      (pss_one (ps_if (PW.pt (pw_and (pt_cmpR op_eq (pe_callB call_len_seq (by rfl) B.b_len PySem.boot_len (pa_cons (pv 3) pa_nil)) (pe_callB call_len_seq (by rfl) B.b_len PySem.boot_len (pa_cons (pe_ix ix_tup (pv 2) pe_int (fun _ _ => rfl)) pa_nil)) (nomark _)) (pw_and1 (pt_cmpR (op_eqD hr.units) (pe_lc (own := [("_law_one", 4)]) (g := gName 4) rfl sc__law_way.nd (pi_tup (pe_ix ix_tup (pv 2) pe_int (fun _ _ => rfl))) (blkOk_by (own := [("_law_one", 4)]) (N := ["_law_rules", "_law_case_here", "_law_rule_here", "_law_met", "_law_one"]) (sc := defScope s__law_way) (by decide +kernel)) (fun _ _ _ _ _ => (pg_name (i := 4) sc__law_way.nd rfl (Or.inl rfl))) (fun _ _ _ _ _ => (pts_.re (pts_one (pt_cmpR op_in_seq (pv 4) (pv 1) rfl)) (by first | (dsimp only [Cx.blk]; done) | exact rfl))) (fun _ _ _ _ _ => (pe_.re (pv 4) (by first | (dsimp only [Cx.blk]; done) | exact rfl)))) (pe_lst pa_nil) (nomark _))))) (pss_one (ps_ret (pe_op op_cat (pe_lst (pa_cons (pv 2) pa_nil)) (pe_cal c__law_way hr (pa_cons (pe_ix ix_tup (pv 2) pe_int (fun _ _ => rfl)) (pa_cons (pv 1) pa_nil)))))) pss_nil))))
      (pss_one (ps_ret (pe_lst pa_nil)))), ?_⟩
  have hA := hX.all
  have hln := hA.len
  refine ⟨_, rfl, p, rfl, ⟨_, hP⟩, for_it walk_tup (fun i σ H' => ∃ y2 y3 y4, σ = [some (.ref p), some (.ref c), y2, y3, y4] ∧ Same H H' ∧ ∀ m ∈ f.nodes.take i, m.met cs = false)
    ⟨none, none, none, rfl, Same.refl H, fun m hm => nomatch hm⟩ (fun _ _ _ _ ⟨_, _, _, _, s, _⟩ => s.tup hP) ?_ ?_⟩
  · rintro i y σ H3 H2 hi ⟨y2, y3, y4, rfl, s, hno⟩ ⟨rfl, hy⟩
    obtain ⟨n, hn, hrow⟩ := hA.get hy
    have hmem : n ∈ f.nodes := List.mem_of_getElem? hn
    have hdm := RF.dep_mem f n hmem
    have hsm := RF.size_mem f n hmem
    obtain ⟨hok, hne⟩ := RF.every_nodes.mp hev n hmem
    obtain ⟨d, rfl⟩ : ∃ d', d = d' + 1 := ⟨d - 1, by omega⟩
    have hrow2 := hrow.keeps (N := NoL) s.keeps
    obtain ⟨o, wa, ba, pa, ws', rfl, hO, hW, hB, hPe, hXe⟩ := id hrow2
    have hlen := hok.len
    refine ⟨_, rfl, o, _, 1, _, rfl, rfl, hO, atI_nat (j := 1) rfl, wa, rfl, ⟨_, hW⟩, fun D nD => lc_it walk_tup (fun j H' => Same H2 H' ∧ H' D = some (.lst (((n.hs.take j).filter fun x => decide (x ∈ cs)).map V.str))) ⟨(Same.refl H2).put nD, upd_same⟩ (fun _ _ _ h => h.1.tup hW) ?_ ?_⟩
    · rintro j y H5 H6 hj ⟨s5, e5⟩ ⟨rfl, hy5⟩
      rw [List.getElem?_map] at hy5
      obtain ⟨x, hx, rfl⟩ := Option.map_eq_some_iff.mp hy5
      refine ⟨rfl, _, rfl, _, rfl, c, _, rfl, .inr ((s.trans s5).tup hC), rfl, flat_strs _, _, rfl, bcase (fun c2 => ?_) (fun c2 => ?_)⟩
      · have c2 : decide (x ∈ cs) = true := by rw [← inV_str]; exact c2
        refine ⟨_, rfl, grow (acc := fun j => ((n.hs.take j).filter fun x => decide (x ∈ cs)).map V.str) nD s5 e5 (by rw [List.length_map]; exact small1000 (Nat.le_trans (List.length_filter_le _ _) (by rw [List.length_take]; omega))) ?_⟩
        show List.map _ _ = List.map _ _ ++ _
        rw [take_more hx, List.filter_append, List.map_append, show List.filter (fun x => decide (x ∈ cs)) [x] = [x] from List.filter_cons_of_pos (p := fun x => decide (x ∈ cs)) c2]
        rfl
      · have c2 : decide (x ∈ cs) = false := by rw [← inV_str]; exact c2
        refine ⟨s5, ?_⟩
        rw [take_more hx, List.filter_append, show List.filter (fun x => decide (x ∈ cs)) [x] = [] from List.filter_cons_of_neg (p := fun x => decide (x ∈ cs)) (by rw [c2]; exact Bool.false_ne_true), List.append_nil]
        exact e5
    rintro H4 ⟨s4, e4⟩
    rw [List.length_map, List.take_length] at e4
    have hW4 := s4.tup hW
    have hO4 := s4.tup hO
    have hB4 := s4.tup hB
    have s04 := s.trans s4
    refine ⟨_, rfl, D, _, rfl, .inl (sqL_of e4), _, rfl, o, _, 1, _, rfl, rfl, hO4, atI_nat (j := 1) rfl, wa, _, rfl, .inr hW4, rfl, _, rfl, bcase (fun c1 => ?_) (fun c1 => ?_)⟩
    rotate_left
    · have c1 : n.met cs = false := by
        rw [met_eq, decide_eq_false, Bool.false_and]
        intro z
        refine of_decide_eq_false c1 ?_
        rw [List.length_map, List.length_map, z]
      refine iteF ⟨_, _, _, rfl, s04, ?_⟩
      rw [take_more hn]
      intro m hm
      rcases List.mem_append.mp hm with hm | hm
      · exact hno m hm
      · rw [List.mem_singleton.mp hm]; exact c1
    have h1 : (n.hs.filter fun x => decide (x ∈ cs)).length = n.hs.length := by
      have h := V.int.inj (of_decide_eq_true c1)
      rw [List.length_map, List.length_map] at h
      omega
    refine ⟨_, rfl, o, _, 2, _, rfl, rfl, hO4, atI_nat (j := 2) rfl, ba, rfl, ⟨_, hB4⟩, fun D2 nD2 => lc_it walk_tup (fun j H' => Same H4 H' ∧ H' D2 = some (.lst (((n.fs.take j).filter fun x => decide (x ∈ cs)).map V.str))) ⟨(Same.refl H4).put nD2, upd_same⟩ (fun _ _ _ h => h.1.tup hB4) ?_ ?_⟩
    · rintro j y H5 H6 hj ⟨s5, e5⟩ ⟨rfl, hy5⟩
      rw [List.getElem?_map] at hy5
      obtain ⟨x, hx, rfl⟩ := Option.map_eq_some_iff.mp hy5
      refine ⟨rfl, _, rfl, _, rfl, c, _, rfl, .inr ((s04.trans s5).tup hC), rfl, flat_strs _, _, rfl, bcase (fun c2 => ?_) (fun c2 => ?_)⟩
      · have c2 : decide (x ∈ cs) = true := by rw [← inV_str]; exact c2
        refine ⟨_, rfl, grow (acc := fun j => ((n.fs.take j).filter fun x => decide (x ∈ cs)).map V.str) nD2 s5 e5 (by rw [List.length_map]; exact small1000 (Nat.le_trans (List.length_filter_le _ _) (by rw [List.length_take]; omega))) ?_⟩
        show List.map _ _ = List.map _ _ ++ _
        rw [take_more hx, List.filter_append, List.map_append, show List.filter (fun x => decide (x ∈ cs)) [x] = [x] from List.filter_cons_of_pos (p := fun x => decide (x ∈ cs)) c2]
        rfl
      · have c2 : decide (x ∈ cs) = false := by rw [← inV_str]; exact c2
        refine ⟨s5, ?_⟩
        rw [take_more hx, List.filter_append, show List.filter (fun x => decide (x ∈ cs)) [x] = [] from List.filter_cons_of_neg (p := fun x => decide (x ∈ cs)) (by rw [c2]; exact Bool.false_ne_true), List.append_nil]
        exact e5
    rintro H5 ⟨s5, e5⟩
    rw [List.length_map, List.take_length] at e5
    generalize hzs : (n.fs.filter fun x => decide (x ∈ cs)) = zs at e5
    have hzf : Fines zs := fun x hx => by
      rw [← hzs] at hx
      exact name_fine (fw_names hok.c2 x (List.mem_filter.mp hx).1)
    refine ⟨Nat.zero_le _, fun te nte => ⟨.list (zs.map PyData.str), .list [], .lst (sqL_of (by rw [upd_ne (ne_of_none e5 nte)]; exact e5)) (dps K _ _), .lst sqL_new .nil, shL hzf, rfl, _, rfl, ?_⟩⟩
    have ed : (PyData.list (zs.map PyData.str)).eqv (.list []) = decide (zs = []) := eqvA_nil _
    rw [ed]
    have s6 : Same H5 (upd H5 te (.lst [])) := (Same.refl H5).put nte
    have s06 := (s04.trans s5).trans s6
    have s26 := (s4.trans s5).trans s6
    generalize upd H5 te (.lst []) = H6 at s6 s06 s26 ⊢
    refine bcase (fun c2 => ?_) (fun c2 => ?_)
    · have hm : n.met cs = true := by
        rw [met_eq, h1, decide_eq_true rfl, hzs, c2]
        rfl
      have hO6 := s26.tup hO
      refine ⟨_, rfl, (by show 1 ≤ sizeLine; decide), fun l1 n1 => ?_⟩
      have s7 : Same H6 (upd H6 l1 (.lst [.ref o])) := (Same.refl H6).put n1
      have m7 : (upd H6 l1 (.lst [.ref o])) l1 = some (.lst [.ref o]) := upd_same
      generalize upd H6 l1 (.lst [.ref o]) = H7 at s7 m7 ⊢
      have s27 := s26.trans s7
      refine ⟨_, rfl, o, _, 4, _, rfl, rfl, s7.tup hO6, atI_nat (j := 4) rfl, _, rfl, pa, c, cs, ws', n.exc, rfl, s27.tup hPe, hXe.keeps (N := NoL) s27.keeps, (s06.trans s7).tup hC, by omega, by omega, by omega, hne, fun H8 D8 us s8 _ eD8 hu => ?_⟩
      have hul := hu.len
      have hwd := RF.way_dep cs n.exc
      refine ⟨l1, D8, _, _, rfl, rfl, s8 _ _ m7, eD8, by rw [sizeLine_eq]; show 1 + us.length ≤ _; omega, fun l9 n9 => ?_⟩
      have s9 : Same H8 (upd H8 l9 (.lst ([.ref o] ++ us))) := (Same.refl H8).put n9
      refine q _ l9 _ (((s06.trans s7).trans s8).trans s9) (((s06.trans s7).trans s8).free n9) upd_same ?_
      rw [RF.way_hit hn hm hno]
      exact .cons (hrow2.keeps (N := NoL) ((s27.trans s8).trans s9).keeps) (hu.mono fun _ _ x => x.keeps (N := NoL) s9.keeps)
    · have hm : n.met cs = false := by
        rw [met_eq, hzs, c2, Bool.and_false]
      refine ⟨_, _, _, rfl, s06, ?_⟩
      rw [take_more hn]
      intro m hm'
      rcases List.mem_append.mp hm' with hm' | hm'
      · exact hno m hm'
      · rw [List.mem_singleton.mp hm']; exact hm
  · rintro σ H2 ⟨y2, y3, y4, rfl, s, hno⟩
    rw [hln, List.take_length] at hno
    refine ⟨Nat.zero_le _, fun D nD => q _ D [] (s.put' nD) (s.free nD) upd_same ?_⟩
    rw [RF.way_no hno]
    exact .nil
/-- the rule that decides -/
def RF.decid (cs : List Str) (f : RF) : Option Str := (f.way cs).getLast?.map fun n => n.nm
def optS : Option Str → V
  | some x => .str x
  | none => .non
def sp_ruled (K : PySem.W.Frag) : Sp := fun vs H Q _ => ∃ (p fp pr c : Addr) (ws : List V) (f : RF) (rl : Str) (cs : List Str), vs = [.ref p, .ref c] ∧ SqT K H p [.ref fp, .ref pr, .str rl] ∧ SqT K H pr ws ∧ RowsAt K H f ws ∧ SqT K H c (cs.map V.str) ∧ f.dep ≤ 12 ∧ f.size ≤ 900 ∧ f.every NdOk ∧
  ∀ H' t, Same H H' → H' t = some (.tup [.str (f.ruled cs rl), optS (f.decid cs)]) → Q (.ref t) H'
theorem ok_ruled {f : Addr} {fd : FuncData} (F : Fun K "_law_ruled" "_law_ruled" s__law_ruled f fd) (B : Blt mg) (c__law_way : Cal P w K mg base CX0 14 "_law_way" ["_law_rules", "_law_case_here"] (sp_lway K 12)) :
    FnOk P w K mg base CX0 15 f fd ["_law_drawn_here", "_law_case_here"] (sp_ruled K) := by
  refine F.ok sc__law_ruled (fun vs H Q E h => by obtain ⟨p, fp, pr, c, ws, f, rl, cs, rfl, _⟩ := h; rfl) (fun cdv A outer s H vs Q E hr h => ?_)
  obtain ⟨p, fp, pr, c, ws, f, rl, cs, rfl, hO, hP, hX, hC, hd, hz, hev, q⟩ := h
  refine ⟨_, (pss_cons (ps_set (i := 2) sc__law_ruled.nd rfl (Or.inl rfl) (pe_cal c__law_way (hr.mono (by decide)) (pa_cons (pe_ix ix_tup (pv 0) pe_int (fun _ _ => rfl)) (pa_cons (pv 1) pa_nil))))
      (pss_one (ps_ret (pe_ifExp (pt_cmpR (op_neD hr.units) (pv 2) (pe_lst pa_nil) (nomark _)) (pe_tup (pa_cons (pe_ix ix_tup (pe_ix ix_list (pv 2) (pe_un un_neg pe_int) (fun _ _ => rfl)) pe_int (fun _ _ => rfl)) (pa_cons (pe_ix ix_tup (pe_ix ix_list (pv 2) (pe_un un_neg pe_int) (fun _ _ => rfl)) pe_int (fun _ _ => rfl)) pa_nil))) (pe_tup (pa_cons (pe_ix ix_tup (pv 0) pe_int (fun _ _ => rfl)) (pa_cons pe_non pa_nil))))))), ?_⟩
  refine ⟨_, rfl, p, _, 1, _, rfl, rfl, hO, atI_nat (j := 1) rfl, _, rfl, pr, c, cs, ws, f, rfl, hP, hX, hC, hd, by decide, hz, hev, fun H1 D us s1 _ eD hu => ?_⟩
  have hwe : ∀ n ∈ f.way cs, NdOk n ∧ n.exc.every NdOk := RF.way_all cs hev
  have hwd : ∀ n ∈ f.way cs, n.exc.dep + 1 ≤ 12 := fun n hn => Nat.le_trans (RF.way_deps cs n hn) hd
  have hu2 : RowsAt K H1 (RF.ofL (f.way cs)) us := RowsAt.of (by rw [RF.ofL_nodes]; exact hu)
  refine ⟨_, rfl, Nat.zero_le _, fun te nte => ?_⟩
  have s2 : Same H1 (upd H1 te (.lst [])) := (Same.refl H1).put nte
  have e2 := s2 _ _ eD
  refine ⟨.list (RF.ofL (f.way cs)).dats, .list [], .lst (sqL_of e2) (dp_rows (hu2.keeps (N := NoL) s2.keeps)), .lst sqL_new .nil, sh_rowsL (RF.ofL_every hwe) (RF.ofL_dep hwd), rfl, _, rfl, ?_⟩
  rw [dats_nil, RF.ofL_nodes]
  have s12 := s1.trans s2
  have hu3 := hu.mono fun _ _ x => x.keeps (N := NoL) s2.keeps
  generalize upd H1 te (.lst []) = H2 at s2 e2 s12 hu3 ⊢
  unfold RF.ruled RF.decid at q
  refine bcase (fun c1 => ?_) (fun c1 => ?_)
  · have hne : f.way cs ≠ [] := of_decide_eq_false ((Bool.not_eq_true' _).mp c1)
    obtain ⟨ns, n, hq⟩ : ∃ ns n, f.way cs = ns ++ [n] := (List.eq_nil_or_concat (f.way cs)).elim (fun z => absurd z hne) fun ⟨a, b, e⟩ => ⟨a, b, by rw [e, List.concat_eq_append]⟩
    rw [hq, List.getLast?_concat] at q
    rw [hq] at hu3
    have hul2 := hu3.len
    rw [List.length_append, List.length_singleton] at hul2
    obtain ⟨vs, v, hv⟩ : ∃ vs v, us = vs ++ [v] := (List.eq_nil_or_concat us).elim (fun z => by rw [z] at hul2; cases hul2) fun ⟨a, b, e⟩ => ⟨a, b, by rw [e, List.concat_eq_append]⟩
    subst hv
    rw [List.length_append, List.length_singleton] at hul2
    obtain ⟨q2, h2, o, wa, ba, pa, ws', rfl, hO2, _⟩ := hu3.get (show (vs ++ [v])[vs.length]? = some v from List.getElem?_concat_length)
    rw [show vs.length = ns.length by omega, List.getElem?_concat_length] at h2
    cases h2
    refine ⟨_, rfl, 1, rfl, D, _, _, _, rfl, rfl, sqL_of e2, atI_last _ _, o, _, 3, _, rfl, rfl, hO2, atI_nat (j := 3) rfl, _, rfl, 1, rfl, D, _, _, _, rfl, rfl, sqL_of e2, atI_last _ _, o, _, 0, _, rfl, rfl, hO2, atI_nat (j := 0) rfl, (by show 2 ≤ sizeLine; decide), fun t nt => q _ t (s12.put' nt) upd_same⟩
  · have hno : f.way cs = [] := of_decide_eq_true ((Bool.not_eq_false' _).mp c1)
    rw [hno] at q
    exact ⟨_, rfl, p, _, 2, _, rfl, rfl, s12.tup hO, atI_nat (j := 2) rfl, (by show 2 ≤ sizeLine; decide), fun t nt => q _ t (s12.put' nt) upd_same⟩
end
end Sc
namespace Sc
open PySem PySem.Spec PyProof.Rows L2
theorem sc_orders_of : FnScope ["count", "orders", "_", "order", "place"] ["count"] (defScope s_orders_of) := ⟨rfl, rfl, rfl, by decide +kernel, rfl, by decide +kernel, by decide +kernel⟩
theorem sc__law_orders : FnScope ["_law_many", "_law_found", "_law_k", "_law_more", "_law_order", "_law_number"] ["_law_many"] (defScope s__law_orders) := ⟨rfl, rfl, rfl, by decide +kernel, rfl, by decide +kernel, by decide +kernel⟩
theorem sc_ruling_within : FnScope ["rule", "case", "way"] ["rule", "case"] (defScope s_ruling_within) := ⟨rfl, rfl, rfl, by decide +kernel, rfl, by decide +kernel, by decide +kernel⟩
theorem sc_ruling_by : FnScope ["order", "told", "otherwise", "found", "place"] ["order", "told", "otherwise"] (defScope s_ruling_by) := ⟨rfl, rfl, rfl, by decide +kernel, rfl, by decide +kernel, by decide +kernel⟩
/-- a walk within a walk -/
theorem lc2_it {J : It} {n : Nat} {G : Hp → Prop} {Y : Nat → Hp → V → Hp → Prop} (w : Walk J n G Y) {g : TG} {tt : TT} {te : TE} {vs : List Nat} {σ : L2.St} {H4 : Hp} {D : Addr} {Nx : Hp → Prop} (Pv : Nat → Hp → Prop) (h0 : Pv 0 H4) (hG : ∀ i H, i ≤ n → Pv i H → G H)
    (hs : ∀ i x H H', i < n → Pv i H → Y i H x H' → g x (wipe σ vs) H' fun σ3 H5 => wipe σ3 vs = wipe σ vs ∧ tt σ3 H5 fun b H6 =>
      if b = true then te σ3 H6 fun y H7 => ∃ acc, H7 D = some (.lst acc) ∧ acc.length < sizeLine ∧ Pv (i + 1) (upd H7 D (.lst (acc ++ [y]))) else Pv (i + 1) H6) (hd : ∀ H, Pv n H → Nx H) :
    ∃ W1 : Nat → Nat → Hp → Prop, (∃ m, W1 0 m H4) ∧ ∀ j k H, W1 j k H → (J.stop j H ∧ Nx H) ∨ (J.go j H ∧ ∃ Nx1 : Hp → Prop, (∀ H', Nx1 H' → ∃ k', k' < k ∧ W1 (j + 1) k' H') ∧ ∀ x H', J.yld j H x H' → g x (wipe σ vs) H' fun σ3 H5 => wipe σ3 vs = wipe σ vs ∧ tt σ3 H5 fun b H6 =>
      if b = true then te σ3 H6 fun y H7 => ∃ acc, H7 D = some (.lst acc) ∧ acc.length < sizeLine ∧ Nx1 (upd H7 D (.lst (acc ++ [y]))) else Nx1 H6) := by
  refine ⟨fun i m H => m = n - i ∧ i ≤ n ∧ Pv i H, ⟨n, by simp, Nat.zero_le _, h0⟩, ?_⟩
  rintro i m H ⟨rfl, hi, p⟩
  have q := hG i H hi p
  by_cases hlt : i < n
  · exact .inr ⟨w.goes i H hlt q, Pv (i + 1), fun H' p' => ⟨n - (i + 1), by omega, rfl, hlt, p'⟩, fun x H' y => hs i x H H' hlt p (w.yields i H x H' hlt q y)⟩
  · have e : i = n := by omega
    subst e
    exact .inl ⟨w.stops H q, hd H p⟩
theorem lc2_o {J : It} {n : Nat} {G : Hp → Prop} {Y : Nat → Hp → V → Hp → Prop} (w : Walk J n G Y) {g : TG} {tt : TT} {bd : L2.St → Hp → (Hp → Prop) → Prop} {vs : List Nat} {σ : L2.St} {H1 : Hp} {D : Addr} {Qd : Hp → Prop} (Pv : Nat → Hp → Prop) (h0 : Pv 0 (upd H1 D (.lst []))) (hG : ∀ i H, i ≤ n → Pv i H → G H)
    (hs : ∀ i x H H', i < n → Pv i H → Y i H x H' → g x (wipe σ vs) H' fun σ2 H2 => wipe σ2 vs = wipe σ vs ∧ tt σ2 H2 fun b H3 => if b = true then bd σ2 H3 (Pv (i + 1)) else Pv (i + 1) H3) (hd : ∀ H, Pv n H → Qd H) :
    ∃ W : Nat → Nat → Hp → Prop, (∃ m, W 0 m (upd H1 D (.lst []))) ∧ ∀ i m H, W i m H → (J.stop i H ∧ Qd H) ∨ (J.go i H ∧ ∃ Nx : Hp → Prop, (∀ H', Nx H' → ∃ m', m' < m ∧ W (i + 1) m' H') ∧ ∀ x H', J.yld i H x H' → g x (wipe σ vs) H' fun σ2 H2 => wipe σ2 vs = wipe σ vs ∧ tt σ2 H2 fun b H3 => if b = true then bd σ2 H3 Nx else Nx H3) := by
  refine ⟨fun i m H => m = n - i ∧ i ≤ n ∧ Pv i H, ⟨n, by simp, Nat.zero_le _, h0⟩, ?_⟩
  rintro i m H ⟨rfl, hi, p⟩
  have q := hG i H hi p
  by_cases hlt : i < n
  · exact .inr ⟨w.goes i H hlt q, Pv (i + 1), fun H' p' => ⟨n - (i + 1), by omega, rfl, hlt, p'⟩, fun x H' y => hs i x H H' hlt p (w.yields i H x H' hlt q y)⟩
  · have e : i = n := by omega
    subst e
    exact .inl ⟨w.stops H q, hd H p⟩
/-- an order's tuple -/
def OrdAt (H : Hp) (v : V) (o : List Nat) : Prop := ∃ (t : Addr) (ob : Obj), v = .ref t ∧ H t = some (.frz ob (.tup (o.map fun k => V.int (k : Nat)))) ∧ tupO ob
theorem OrdAt.keeps {N : Addr → Prop} {H H' : Hp} {v : V} {o : List Nat} (k : Keeps N H H') (h : OrdAt H v o) : OrdAt H' v o := by
  obtain ⟨t, ob, e, h1, h2⟩ := h
  exact ⟨t, ob, e, k _ _ ⟨(fun _ z => nomatch z), (fun _ _ _ z => nomatch z), (fun _ z => nomatch z)⟩ h1, h2⟩
/-- the places that an order lacks, each set behind it -/
def ordX (n : Nat) (o : List Nat) (j : Nat) : List (List Nat) := ((List.range j).filter fun p => decide (¬ p ∈ o)).map fun p => o ++ [p]
/-- the orders of so many -/
def ordN (n : Nat) : Nat → List (List Nat)
  | 0 => [[]]
  | k + 1 => (ordN n k).flatMap fun o => ordX n o n
theorem ordX_more {n : Nat} {o : List Nat} {j : Nat} : ordX n o (j + 1) = ordX n o j ++ if j ∈ o then [] else [o ++ [j]] := by
  unfold ordX
  rw [List.range_succ, List.filter_append, List.map_append]
  congr 1
  by_cases h : j ∈ o
  · rw [if_pos h]; simp [h]
  · rw [if_neg h]; simp [h]
theorem inV_ints {m : Nat} : ∀ o : List Nat, inV (.int (m : Nat)) (o.map fun k => V.int (k : Nat)) = decide (m ∈ o)
  | [] => rfl
  | k :: r => by
    have ih := inV_ints (m := m) r
    show ((((k : Nat) : Int) == ((m : Nat) : Int)) || inV _ _) = _
    rw [ih, Bool.eq_iff_iff, Bool.or_eq_true, beq_iff_eq, decide_eq_true_iff, decide_eq_true_iff, List.mem_cons]
    constructor
    · rintro (h | h)
      · exact .inl (by omega)
      · exact .inr h
    · rintro (h | h)
      · exact .inl (by omega)
      · exact .inr h
theorem flat_ints (o : List Nat) : (o.map fun k => V.int (k : Nat)).all flatV = true := by
  rw [List.all_eq_true]
  intro v hv
  obtain ⟨k, _, rfl⟩ := List.mem_map.mp hv
  rfl
/-- how the orders stand -/
theorem ord_all {n : Nat} : ∀ {k : Nat}, k ≤ n → ∀ o ∈ ordN n k, o.length = k ∧ o.Nodup ∧ ∀ p ∈ o, p < n
  | 0, _, o, h => by rw [List.mem_singleton.mp h]; exact ⟨rfl, .nil, fun _ h => nomatch h⟩
  | k + 1, hk, o, h => by
    obtain ⟨o0, h0, h1⟩ := List.mem_flatMap.mp h
    obtain ⟨p, hp, rfl⟩ := List.mem_map.mp h1
    obtain ⟨hp1, hp2⟩ := List.mem_filter.mp hp
    obtain ⟨a, b, c⟩ := ord_all (k := k) (by omega) o0 h0
    have hp2 : ¬ p ∈ o0 := of_decide_eq_true hp2
    refine ⟨by rw [List.length_append, a]; rfl, List.nodup_append.mpr ⟨b, List.nodup_cons.mpr ⟨(fun h => nomatch h), List.nodup_nil⟩, ?_⟩, fun q hq => ?_⟩
    · intro x hx y hy e
      rw [List.mem_singleton.mp hy] at e
      exact hp2 (e ▸ hx)
    · rcases List.mem_append.mp hq with hq | hq
      · exact c q hq
      · rw [List.mem_singleton.mp hq]; exact List.mem_range.mp hp1
theorem flat_len (n : Nat) : ∀ L : List (List Nat), (L.flatMap fun o => ordX n o n).length ≤ L.length * n
  | [] => Nat.zero_le _
  | o :: r => by
    have ih := flat_len n r
    rw [List.flatMap_cons, List.length_append, List.length_cons, Nat.succ_mul]
    have : (ordX n o n).length ≤ n := by
      unfold ordX
      rw [List.length_map]
      have := List.length_filter_le (fun p => decide (¬ p ∈ o)) (List.range n)
      rw [List.length_range] at this
      exact this
    omega
theorem ord_len (n : Nat) : ∀ k : Nat, (ordN n k).length ≤ n ^ k
  | 0 => Nat.le_refl _
  | k + 1 => by
    have h := flat_len n (ordN n k)
    have ih := Nat.mul_le_mul_right n (ord_len n k)
    rw [Nat.pow_succ]
    exact Nat.le_trans h ih
section
variable {P : Program} {w : World} {K : PySem.W.Frag} {mg : Str → Option Value} {base : Heap} {C R B : Addr}
def sp_orders (K : PySem.W.Frag) : Sp := fun vs H Q _ => ∃ (n : Nat), vs = [.int (n : Nat)] ∧ n ≤ 6 ∧ ∀ H' D us, Same H H' → H' D = some (.lst us) → All2 (OrdAt H') us (ordN n n) → Q (.ref D) H'
theorem ok_orders {f : Addr} {fd : FuncData} (F : Fun K "orders_of" "orders_of" s_orders_of f fd) (Bl : Blt mg) : FnOk P w K mg base CX0 1 f fd ["count"] (sp_orders K) := by
  refine F.ok sc_orders_of (fun vs H Q E h => by obtain ⟨n, rfl, _⟩ := h; rfl) (fun cdv A outer s H vs Q E hr h => ?_)
  obtain ⟨n, rfl, hn, q⟩ := h
  refine ⟨_, (pss_cons (ps_set (i := 1) sc_orders_of.nd rfl (Or.inl rfl) (pe_lst (pa_cons (pe_tupF pa_nil) pa_nil)))
      (pss_cons (ps_for PassesOwn.never rfl (pi_range1 (by rfl) Bl.b_range (pa_cons (pv 0) pa_nil)) (pg_name (i := 2) sc_orders_of.nd rfl (Or.inl rfl)) (pss_one (ps_setLc2 (i := 1) (own := [("order", 3), ("place", 4)]) (g := gName 3) (g1 := gName 4) (tt := tYes) (vs1 := [4]) rfl sc_orders_of.nd rfl rfl (sw_true rfl rfl rfl (by decide +kernel)) (pi_list (pv 1)) (blkOk_by (own := [("order", 3), ("place", 4)]) (N := ["count", "orders", "_", "order", "place"]) (sc := defScope s_orders_of) (by decide +kernel)) (by decide) (fun _ _ _ _ _ => (pg_name (i := 3) sc_orders_of.nd rfl (Or.inl rfl))) (fun _ _ _ _ _ => pts_nil) (fun _ _ _ _ _ => (pi_range1 (by rfl) Bl.b_range (pa_cons (pv 0) pa_nil))) (fun _ _ _ _ _ => (pg_name (i := 4) sc_orders_of.nd rfl (Or.inl rfl))) (fun _ _ _ _ _ => (pts_.re (pts_one (pt_cmpR op_notIn_seq (pv 4) (pv 3) rfl)) (by first | (dsimp only [Cx.blk]; done) | exact rfl))) (fun _ _ _ _ _ => (pe_.re (pe_op op_catF (pv 3) (pe_tupF (pa_cons (pv 4) pa_nil))) (by first | (dsimp only [Cx.blk]; done) | exact rfl))))))
      (pss_one (ps_ret (pv 1))))), ?_⟩
  refine ⟨Nat.zero_le _, fun te ob nte hob => ⟨(by show 1 ≤ sizeLine; decide), fun D nD => ?_⟩⟩
  have s1 : Same H (upd H te (.frz ob (.tup []))) := (Same.refl H).put nte
  have m1 : (upd H te (.frz ob (.tup []))) te = some (.frz ob (.tup [])) := upd_same
  generalize upd H te (.frz ob (.tup [])) = H1 at s1 m1 nD ⊢
  have s2 : Same H1 (upd H1 D (.lst [.ref te])) := (Same.refl H1).put nD
  have e2 : (upd H1 D (.lst [.ref te])) D = some (.lst [.ref te]) := upd_same
  generalize upd H1 D (.lst [.ref te]) = H2 at s2 e2 ⊢
  have s02 := s1.trans s2
  refine ⟨_, rfl, _, rfl, by omega, by omega, for_it walk_range (fun k σ H' => ∃ (D' : Addr) (us : List V) (y2 y3 y4 : Option V), σ = [some (.int (n : Nat)), some (.ref D'), y2, y3, y4] ∧ Same H2 H' ∧ H' D' = some (.lst us) ∧ All2 (OrdAt H') us (ordN n k)) ⟨D, _, _, _, _, rfl, Same.refl _, e2, .cons ⟨te, ob, rfl, s2 _ _ m1, hob⟩ .nil⟩ (fun _ _ _ _ _ => trivial) ?_ ?_⟩
  · rintro k v σ Ha0 Ha hk ⟨D', us, y2, y3, y4, rfl, sa, ea, hus⟩ ⟨rfl, hv⟩
    have hk : k < n := by
      have hk : k < ((n : Nat) : Int).toNat := hk
      omega
    have hul := hus.len
    have hlen := ord_len n k
    have hpw : n ^ k * n ≤ 46656 := by
      have h1 : n ^ (k + 1) ≤ 6 ^ (k + 1) := Nat.pow_le_pow_left (by omega) _
      have h2 : 6 ^ (k + 1) ≤ 6 ^ 6 := Nat.pow_le_pow_right (by decide) (by omega)
      have h3 : (6 : Nat) ^ 6 = 46656 := by decide
      rw [Nat.pow_succ] at h1
      omega
    refine ⟨_, rfl, D', rfl, ⟨_, sqL_of ea⟩, fun D2 nD2 => lc2_o walk_list (fun i H' => Same Ha H' ∧ ∃ ws, H' D2 = some (.lst ws) ∧ All2 (OrdAt H') ws (((ordN n k).take i).flatMap fun o => ordX n o n)) ⟨(Same.refl Ha).put nD2, [], upd_same, .nil⟩ (fun _ _ _ h => sqL_of (h.1 _ _ ea)) ?_ ?_⟩
    · rintro i v Hb0 Hb hi ⟨sb, ws, eb, hws⟩ ⟨rfl, hv2⟩
      obtain ⟨o, hoi, t, ot, rfl, hto, hot⟩ := hus.get hv2
      have htb := sb _ _ hto
      obtain ⟨ho1, ho2, ho3⟩ := ord_all (n := n) (k := k) (by omega) o (List.mem_of_getElem? hoi)
      have hwl := hws.len
      have hfl := flat_len n ((ordN n k).take i)
      rw [List.length_take] at hfl
      have hi2 : i < us.length := hi
      have hmul : min i (ordN n k).length * n ≤ 46656 := Nat.le_trans (Nat.mul_le_mul_right n (Nat.le_trans (Nat.min_le_right _ _) hlen)) hpw
      refine ⟨rfl, yes_ ⟨_, rfl, _, rfl, by omega, by omega, lc2_it walk_range (fun j H' => Same Ha H' ∧ ∃ ws, H' D2 = some (.lst ws) ∧ All2 (OrdAt H') ws (((ordN n k).take i).flatMap (fun o => ordX n o n) ++ ordX n o j)) ⟨sb, ws, eb, by rw [show ordX n o 0 = [] from rfl, List.append_nil]; exact hws⟩ (fun _ _ _ _ => trivial) ?_ ?_⟩⟩
      · rintro j v Hc0 Hc hj ⟨sc, ws2, ec, hws2⟩ ⟨rfl, hv3⟩
        have hj : j < n := by
          have hj : j < ((n : Nat) : Int).toNat := hj
          omega
        obtain rfl : v = V.int (j : Nat) := by rw [hv3]; show V.int (0 + (j : Nat)) = _; rw [Int.zero_add]
        have htc := sc _ _ hto
        have hwl2 := hws2.len
        have hxl : (ordX n o j).length ≤ n := by
          unfold ordX
          rw [List.length_map]
          have := List.length_filter_le (fun p => decide (¬ p ∈ o)) (List.range j)
          rw [List.length_range] at this
          omega
        rw [List.length_append] at hwl2
        refine ⟨rfl, _, rfl, _, rfl, t, _, rfl, .inr (.inl (.inr ⟨_, htc⟩)), rfl, flat_ints o, _, rfl, ?_⟩
        rw [if_pos rfl, inV_ints]
        have hmore := ordX_more (n := n) (o := o) (j := j)
        by_cases c1 : j ∈ o
        · rw [decide_eq_true c1]
          rw [if_pos c1, List.append_nil] at hmore
          refine iteF ⟨sc, ws2, ec, ?_⟩
          rw [hmore]
          exact hws2
        · rw [decide_eq_false c1]
          rw [if_neg c1] at hmore
          refine iteT ⟨_, rfl, _, rfl, (by show 1 ≤ sizeLine; decide), fun tq oq nq hoq => ?_⟩
          have sq : Same Hc (upd Hc tq (.frz oq (.tup [.int (j : Nat)]))) := (Same.refl Hc).put nq
          have mq : (upd Hc tq (.frz oq (.tup [.int (j : Nat)]))) tq = some (.frz oq (.tup [.int (j : Nat)])) := upd_same
          generalize upd Hc tq (.frz oq (.tup [.int (j : Nat)])) = Hd at sq mq ⊢
          have fin : ∀ (p : Addr) (op : Obj) (He : Hp), Same Hd He → He p = some (.frz op (.tup ((o ++ [j]).map fun k => V.int (k : Nat)))) → tupO op → ∃ acc, He D2 = some (.lst acc) ∧ acc.length < sizeLine ∧ Same Ha (upd He D2 (.lst (acc ++ [.ref p]))) ∧ ∃ ws, (upd He D2 (.lst (acc ++ [.ref p]))) D2 = some (.lst ws) ∧ All2 (OrdAt (upd He D2 (.lst (acc ++ [.ref p])))) ws (((ordN n k).take i).flatMap (fun o => ordX n o n) ++ ordX n o (j + 1)) := fun p op He se ep hop => by
            have sce := sq.trans se
            refine ⟨ws2, sce _ _ ec, by rw [sizeLine_eq]; omega, (sc.trans sce).put nD2, ws2 ++ [.ref p], upd_same, ?_⟩
            have kd : Keeps NoL He (upd He D2 (.lst (ws2 ++ [.ref p]))) := keeps_own (sce _ _ ec) id
            rw [hmore, ← List.append_assoc]
            have hrow : OrdAt He (.ref p) (o ++ [j]) := ⟨p, op, rfl, ep, hop⟩
            exact ((hws2.mono fun _ _ z => z.keeps (N := NoL) sce.keeps).snoc hrow).mono fun _ _ z => z.keeps kd
          refine ⟨t, tq, _, _, rfl, rfl, .inl (.inr ⟨_, sq _ _ htc⟩), .inl (.inr ⟨_, mq⟩), (by rw [List.length_map, ho1, sizeLine_eq]; show k + 1 ≤ _; omega), fun z => ?_, fun z => ⟨(fun z => nomatch z), fun p op np hop => ?_⟩⟩
          · have ho0 : o = [] := List.map_eq_nil_iff.mp z
            refine fin tq oq Hd (Same.refl _) ?_ hoq
            rw [mq, ho0]
            rfl
          · refine fin p op _ ((Same.refl Hd).put np) ?_ hop
            rw [upd_same, List.map_append]
            rfl
      · rintro Hc ⟨sc, ws2, ec, hws2⟩
        refine ⟨sc, ws2, ec, ?_⟩
        rw [take_more hoi, List.flatMap_append]
        have h : All2 (OrdAt Hc) ws2 (((ordN n k).take i).flatMap (fun o => ordX n o n) ++ ordX n o (((n : Nat) : Int).toNat)) := hws2
        rw [Int.toNat_natCast] at h
        rw [show ([o] : List (List Nat)).flatMap (fun o => ordX n o n) = ordX n o n by simp]
        exact h
    · rintro Hb ⟨sb, ws, eb, hws⟩
      rw [hul, List.take_length] at hws
      exact ⟨D2, ws, _, _, _, rfl, sa.trans sb, eb, hws⟩
  · rintro σ Ha ⟨D', us, y2, y3, y4, rfl, sa, ea, hus⟩
    rw [Int.toNat_natCast] at hus
    exact ⟨_, rfl, q Ha D' us (s02.trans sa) ea hus⟩
end
end Sc
namespace Sc
open PySem PySem.Spec PyProof.Rows L2
theorem all2_append {α β : Type} {r : α → β → Prop} : ∀ {xs xs' : List α} {ys ys' : List β}, All2 r xs ys → All2 r xs' ys' → All2 r (xs ++ xs') (ys ++ ys')
  | _, _, _, _, .nil, h => h
  | _, _, _, _, .cons h t, h2 => .cons h (all2_append t h2)
/-- the ruling of a rule and all within it -/
def rwN (cs : List Str) (n : Nd) : Option Str := ((RF.ofNodes [n]).way cs).getLast?.map fun m => m.rl
/-- the first ruling told -/
def byN (told : List (Option Str)) (rl : Str) (o : List Nat) : Str := ((o.filterMap fun k => (told[k]?).join).head?).getD rl
def fndN (told : List (Option Str)) (o : List Nat) : List Str := o.filterMap fun k => (told[k]?).join
section
variable {P : Program} {w : World} {K : PySem.W.Frag} {mg : Str → Option Value} {base : Heap} {C R B : Addr}
def sp_lorders (K : PySem.W.Frag) : Sp := fun vs H Q _ => ∃ (n : Nat), vs = [.int (n : Nat)] ∧ n ≤ 6 ∧ ∀ H' D us, Same H H' → H' D = some (.lst us) → All2 (OrdAt H') us (ordN n n) → Q (.ref D) H'
theorem ok_lorders {f : Addr} {fd : FuncData} (F : Fun K "_law_orders" "_law_orders" s__law_orders f fd) (Bl : Blt mg) : FnOk P w K mg base CX0 1 f fd ["_law_many"] (sp_lorders K) := by
  refine F.ok sc__law_orders (fun vs H Q E h => by obtain ⟨n, rfl, _⟩ := h; rfl) (fun cdv A outer s H vs Q E hr h => ?_)
  obtain ⟨n, rfl, hn, q⟩ := h
  refine ⟨_, (pss_cons (ps_set (i := 1) sc__law_orders.nd rfl (Or.inl rfl) (pe_lst (pa_cons (pe_tupF pa_nil) pa_nil)))
      (pss_cons (ps_for PassesOwn.never rfl (pi_range1 (by rfl) Bl.b_range (pa_cons (pv 0) pa_nil)) (pg_name (i := 2) sc__law_orders.nd rfl (Or.inl rfl)) (pss_cons (ps_set (i := 3) sc__law_orders.nd rfl (Or.inl rfl) (pe_lst pa_nil))
      (pss_cons (ps_for PassesOwn.never rfl (pi_list (pv 1)) (pg_name (i := 4) sc__law_orders.nd rfl (Or.inr rfl)) (pss_one (ps_set (i := 3) sc__law_orders.nd rfl (Or.inl rfl) (pe_op op_cat (pv 3) (pe_lc (own := [("_law_number", 5)]) (g := gName 5) rfl sc__law_orders.nd (pi_range1 (by rfl) Bl.b_range (pa_cons (pv 0) pa_nil)) (blkOk_by (own := [("_law_number", 5)]) (N := ["_law_many", "_law_found", "_law_k", "_law_more", "_law_order", "_law_number"]) (sc := defScope s__law_orders) (by decide +kernel)) (fun _ _ _ _ _ => (pg_name (i := 5) sc__law_orders.nd rfl (Or.inl rfl))) (fun _ _ _ _ _ => (pts_.re (pts_one (pt_cmpR op_notIn_seq (pv 5) (pv 4) rfl)) (by first | (dsimp only [Cx.blk]; done) | exact rfl))) (fun _ _ _ _ _ => (pe_.re (pe_op op_catF (pv 4) (pe_tupF (pa_cons (pv 5) pa_nil))) (by first | (dsimp only [Cx.blk]; done) | exact rfl))))))))
      (pss_one (ps_set (i := 1) sc__law_orders.nd rfl (Or.inl rfl) (pv 3))))))
      (pss_one (ps_ret (pv 1))))), ?_⟩
  refine ⟨Nat.zero_le _, fun te ob nte hob => ⟨(by show 1 ≤ sizeLine; decide), fun D nD => ?_⟩⟩
  have s1 : Same H (upd H te (.frz ob (.tup []))) := (Same.refl H).put nte
  have m1 : (upd H te (.frz ob (.tup []))) te = some (.frz ob (.tup [])) := upd_same
  generalize upd H te (.frz ob (.tup [])) = H1 at s1 m1 nD ⊢
  have s2 : Same H1 (upd H1 D (.lst [.ref te])) := (Same.refl H1).put nD
  have e2 : (upd H1 D (.lst [.ref te])) D = some (.lst [.ref te]) := upd_same
  generalize upd H1 D (.lst [.ref te]) = H2 at s2 e2 ⊢
  have s02 := s1.trans s2
  refine ⟨_, rfl, _, rfl, by omega, by omega, for_it walk_range (fun k σ H' => ∃ (D' : Addr) (us : List V) (y2 y3 y4 y5 : Option V), σ = [some (.int (n : Nat)), some (.ref D'), y2, y3, y4, y5] ∧ Same H2 H' ∧ H' D' = some (.lst us) ∧ All2 (OrdAt H') us (ordN n k)) ⟨D, _, _, _, _, _, rfl, Same.refl _, e2, .cons ⟨te, ob, rfl, s2 _ _ m1, hob⟩ .nil⟩ (fun _ _ _ _ _ => trivial) ?_ ?_⟩
  · rintro k v σ Ha0 Ha hk ⟨D', us, y2, y3, y4, y5, rfl, sa, ea, hus⟩ ⟨rfl, hv⟩
    have hk : k < n := by
      have hk : k < ((n : Nat) : Int).toNat := hk
      omega
    have hul := hus.len
    have hlen := ord_len n k
    have hpw : n ^ k * n ≤ 46656 := by
      have h1 : n ^ (k + 1) ≤ 6 ^ (k + 1) := Nat.pow_le_pow_left (by omega) _
      have h2 : 6 ^ (k + 1) ≤ 6 ^ 6 := Nat.pow_le_pow_right (by decide) (by omega)
      have h3 : (6 : Nat) ^ 6 = 46656 := by decide
      rw [Nat.pow_succ] at h1
      omega
    refine ⟨Nat.zero_le _, fun D2 nD2 => ?_⟩
    have sb0 : Same Ha (upd Ha D2 (.lst [])) := (Same.refl Ha).put nD2
    have eb0 : (upd Ha D2 (.lst [])) D2 = some (.lst []) := upd_same
    generalize upd Ha D2 (.lst []) = Hb0 at sb0 eb0 ⊢
    refine ⟨_, rfl, D', rfl, ⟨_, sqL_of (sb0 _ _ ea)⟩, for_it walk_list (fun i σ H' => ∃ (D3 : Addr) (ws : List V) (y2 y4 y5 : Option V), σ = [some (.int (n : Nat)), some (.ref D'), y2, some (.ref D3), y4, y5] ∧ Same Ha H' ∧ H' D3 = some (.lst ws) ∧ All2 (OrdAt H') ws (((ordN n k).take i).flatMap fun o => ordX n o n)) ⟨D2, [], _, _, _, rfl, sb0, eb0, .nil⟩ (fun _ _ _ _ ⟨_, _, _, _, _, _, s, _⟩ => sqL_of (s _ _ ea)) ?_ ?_⟩
    · rintro i v σ Hb' Hb hi ⟨D3, ws, y2, y4, y5, rfl, sb, eb, hws⟩ ⟨rfl, hv2⟩
      obtain ⟨o, hoi, t, ot, rfl, hto, hot⟩ := hus.get hv2
      obtain ⟨ho1, ho2, ho3⟩ := ord_all (n := n) (k := k) (by omega) o (List.mem_of_getElem? hoi)
      have hwl := hws.len
      have hfl := flat_len n ((ordN n k).take i)
      rw [List.length_take] at hfl
      have hmul : min i (ordN n k).length * n ≤ 46656 := Nat.le_trans (Nat.mul_le_mul_right n (Nat.le_trans (Nat.min_le_right _ _) hlen)) hpw
      have hxl : ∀ j, j ≤ n → (ordX n o j).length ≤ n := fun j hj => by
        unfold ordX
        rw [List.length_map]
        have := List.length_filter_le (fun p => decide (¬ p ∈ o)) (List.range j)
        rw [List.length_range] at this
        omega
      refine ⟨_, rfl, _, rfl, _, rfl, by omega, by omega, fun D4 nD4 => lc_it walk_range (fun j H' => Same Hb H' ∧ ∃ xs, H' D4 = some (.lst xs) ∧ All2 (OrdAt H') xs (ordX n o j)) ⟨(Same.refl Hb).put nD4, [], upd_same, .nil⟩ (fun _ _ _ _ => trivial) ?_ ?_⟩
      · rintro j v Hc0 Hc hj ⟨sc, xs, ec, hxs⟩ ⟨rfl, hv3⟩
        have hj : j < n := by
          have hj : j < ((n : Nat) : Int).toNat := hj
          omega
        obtain rfl : v = V.int (j : Nat) := by rw [hv3]; show V.int (0 + (j : Nat)) = _; rw [Int.zero_add]
        have htc := (sb.trans sc) _ _ hto
        have hxl2 := hxs.len
        have hxl3 := hxl j (by omega)
        refine ⟨rfl, _, rfl, _, rfl, t, _, rfl, .inr (.inl (.inr ⟨_, htc⟩)), rfl, flat_ints o, _, rfl, ?_⟩
        rw [if_pos rfl, inV_ints]
        have hmore := ordX_more (n := n) (o := o) (j := j)
        by_cases c1 : j ∈ o
        · rw [decide_eq_true c1]
          rw [if_pos c1, List.append_nil] at hmore
          refine iteF ⟨sc, xs, ec, ?_⟩
          rw [hmore]
          exact hxs
        · rw [decide_eq_false c1]
          rw [if_neg c1] at hmore
          refine iteT ⟨_, rfl, _, rfl, (by show 1 ≤ sizeLine; decide), fun tq oq nq hoq => ?_⟩
          have sq : Same Hc (upd Hc tq (.frz oq (.tup [.int (j : Nat)]))) := (Same.refl Hc).put nq
          have mq : (upd Hc tq (.frz oq (.tup [.int (j : Nat)]))) tq = some (.frz oq (.tup [.int (j : Nat)])) := upd_same
          generalize upd Hc tq (.frz oq (.tup [.int (j : Nat)])) = Hd at sq mq ⊢
          have fin : ∀ (p : Addr) (op : Obj) (He : Hp), Same Hd He → He p = some (.frz op (.tup ((o ++ [j]).map fun k => V.int (k : Nat)))) → tupO op → ∃ acc, He D4 = some (.lst acc) ∧ acc.length < sizeLine ∧ Same Hb (upd He D4 (.lst (acc ++ [.ref p]))) ∧ ∃ xs, (upd He D4 (.lst (acc ++ [.ref p]))) D4 = some (.lst xs) ∧ All2 (OrdAt (upd He D4 (.lst (acc ++ [.ref p])))) xs (ordX n o (j + 1)) := fun p op He se ep hop => by
            have sce := sq.trans se
            refine ⟨xs, sce _ _ ec, by rw [sizeLine_eq]; omega, (sc.trans sce).put nD4, xs ++ [.ref p], upd_same, ?_⟩
            have kd : Keeps NoL He (upd He D4 (.lst (xs ++ [.ref p]))) := keeps_own (sce _ _ ec) id
            rw [hmore]
            have hrow : OrdAt He (.ref p) (o ++ [j]) := ⟨p, op, rfl, ep, hop⟩
            exact ((hxs.mono fun _ _ z => z.keeps (N := NoL) sce.keeps).snoc hrow).mono fun _ _ z => z.keeps kd
          refine ⟨t, tq, _, _, rfl, rfl, .inl (.inr ⟨_, sq _ _ htc⟩), .inl (.inr ⟨_, mq⟩), (by rw [List.length_map, ho1, sizeLine_eq]; show k + 1 ≤ _; omega), fun z => ?_, fun z => ⟨(fun z => nomatch z), fun p op np hop => ?_⟩⟩
          · have ho0 : o = [] := List.map_eq_nil_iff.mp z
            refine fin tq oq Hd (Same.refl _) ?_ hoq
            rw [mq, ho0]
            rfl
          · refine fin p op _ ((Same.refl Hd).put np) ?_ hop
            rw [upd_same, List.map_append]
            rfl
      · rintro Hc ⟨sc, xs, ec, hxs⟩
        have hxs : All2 (OrdAt Hc) xs (ordX n o n) := hxs
        have hxl2 := hxs.len
        have hxl3 := hxl n (Nat.le_refl _)
        refine ⟨D3, D4, _, _, rfl, rfl, sc _ _ eb, ec, by rw [sizeLine_eq]; omega, fun D5 nD5 => ?_⟩
        have sd : Same Hc (upd Hc D5 (.lst (ws ++ xs))) := (Same.refl Hc).put nD5
        refine ⟨D5, ws ++ xs, _, _, _, rfl, (sb.trans sc).trans sd, upd_same, ?_⟩
        rw [take_more hoi, List.flatMap_append, show ([o] : List (List Nat)).flatMap (fun o => ordX n o n) = ordX n o n by simp]
        exact all2_append (hws.mono fun _ _ z => z.keeps (N := NoL) (sc.trans sd).keeps) (hxs.mono fun _ _ z => z.keeps (N := NoL) sd.keeps)
    · rintro σ Hb ⟨D3, ws, y2, y4, y5, rfl, sb, eb, hws⟩
      rw [hul, List.take_length] at hws
      exact ⟨_, rfl, D3, ws, _, _, _, _, rfl, sa.trans sb, eb, hws⟩
  · rintro σ Ha ⟨D', us, y2, y3, y4, y5, rfl, sa, ea, hus⟩
    rw [Int.toNat_natCast] at hus
    exact ⟨_, rfl, q Ha D' us (s02.trans sa) ea hus⟩
def sp_rwithinO (K : PySem.W.Frag) (C R : Addr) : Sp := fun vs H Q _ => ∃ (N : Addr → Prop) (v : V) (c : Addr) (n : Nd) (cs : List Str), vs = [v, .ref c] ∧ RefAt K C R N H v n ∧ SqT K H c (cs.map V.str) ∧ NdOk n ∧ n.exc.every NdOk ∧ n.exc.size ≤ 800 ∧ ∀ H', Same H H' → Q (optS (rwN cs n)) H'
theorem ok_rwithinO {f : Addr} {fd : FuncData} (F : Fun K "ruling_within" "ruling_within" s_ruling_within f fd) (Bl : Blt mg) (kR : RuleX P w K mg base R) (c_looked_into : Cal P w K mg base CX0 9 "looked_into" ["rules", "case"] (sp_looked K C R)) : FnOk P w K mg base CX0 10 f fd ["rule", "case"] (sp_rwithinO K C R) := by
  refine F.ok sc_ruling_within (fun vs H Q E h => by obtain ⟨N, v, c, n, cs, rfl, _⟩ := h; rfl) (fun cdv A outer s H vs Q E hr h => ?_)
  obtain ⟨N, v, c, n, cs, rfl, hN, hC, hok, hev, hz, q⟩ := h
  refine ⟨_, (pss_cons (ps_set (i := 2) sc_ruling_within.nd rfl (Or.inl rfl) (pe_cal c_looked_into (hr.mono (by decide)) (pa_cons (pe_tup (pa_cons (pv 0) pa_nil)) (pa_cons (pv 1) pa_nil))))
      (pss_one (ps_ret (pe_ifExp (pt_tru (pv 2) (by intro _; rfl)) (pe_cprop kR.ruling kR.cls (hr.mono (by decide)) (pe_ix ix_list (pv 2) (pe_un un_neg pe_int) (fun _ _ => rfl))) pe_non)))), ?_⟩
  refine ⟨_, rfl, (by show 1 ≤ sizeLine; decide), fun t nt => ?_⟩
  have s1 := (Same.refl H).put (o := .tup [v]) nt
  refine ⟨_, rfl, N, t, c, cs, [v], RF.ofNodes [n], rfl, sqT_of upd_same, ForAt.of (f := RF.ofNodes [n]) (.cons (hN.keeps s1.keeps) .nil), s1.tup hC, by show n.exc.size + 1 + 0 ≤ 900; omega, ⟨hok, hev, trivial⟩, fun H2 D us s2 eD hu => ?_⟩
  have q := fun H' (s : Same H2 H') => q H' ((s1.trans s2).trans s)
  unfold rwN at q
  refine ⟨_, rfl, _, .inl ⟨_, sqL_of eD, rfl⟩, bcase (fun c1 => ?_) (fun c1 => ?_)⟩
  · obtain ⟨ns, m, hq⟩ : ∃ ns m, (RF.ofNodes [n]).way cs = ns ++ [m] := (List.eq_nil_or_concat ((RF.ofNodes [n]).way cs)).elim (fun z => by
      rw [z] at hu
      cases hu
      cases c1) fun ⟨a, b, e⟩ => ⟨a, b, by rw [e, List.concat_eq_append]⟩
    rw [hq, List.getLast?_concat] at q
    rw [hq] at hu
    have hul2 := hu.len
    rw [List.length_append, List.length_singleton] at hul2
    obtain ⟨vs, v2, hv⟩ : ∃ vs v, us = vs ++ [v] := (List.eq_nil_or_concat us).elim (fun z => by rw [z] at hul2; cases hul2) fun ⟨a, b, e⟩ => ⟨a, b, by rw [e, List.concat_eq_append]⟩
    subst hv
    rw [List.length_append, List.length_singleton] at hul2
    obtain ⟨q2, h2, o2, rfl, dx2, k2, pe2, l2, ws2, ho3, _⟩ := hu.get (show (vs ++ [v2])[vs.length]? = some v2 from List.getElem?_concat_length)
    rw [show vs.length = ns.length by omega, List.getElem?_concat_length] at h2
    cases h2
    refine ⟨_, rfl, 1, rfl, D, _, _, _, rfl, rfl, sqL_of eD, atI_last _ _, ?_⟩
    exact ⟨o2, dx2, _, rfl, ho3, o2, dx2, _, _, rfl, ho3, rfl, q H2 (Same.refl _)⟩
  · have hw : (RF.ofNodes [n]).way cs = [] := by
      cases hw : (RF.ofNodes [n]).way cs with
      | nil => rfl
      | cons n r =>
        rw [hw] at hu
        cases hu
        cases c1
    rw [hw] at q
    exact q H2 (Same.refl _)
def sp_rby (K : PySem.W.Frag) : Sp := fun vs H Q _ => ∃ (D : Addr) (v : V) (o : List Nat) (told : List (Option Str)) (rl : Str), vs = [v, .ref D, .str rl] ∧ OrdAt H v o ∧ H D = some (.lst (told.map optS)) ∧ (∀ k ∈ o, k < told.length) ∧ o.length ≤ 100 ∧ ∀ H', Same H H' → Q (.str (byN told rl o)) H'
theorem ok_rby {f : Addr} {fd : FuncData} (F : Fun K "ruling_by" "ruling_by" s_ruling_by f fd) (Bl : Blt mg) : FnOk P w K mg base CX0 1 f fd ["order", "told", "otherwise"] (sp_rby K) := by
  refine F.ok sc_ruling_by (fun vs H Q E h => by obtain ⟨D, v, o, told, rl, rfl, _⟩ := h; rfl) (fun cdv A outer s H vs Q E hr h => ?_)
  obtain ⟨D, v, o, told, rl, rfl, ⟨t, ot, rfl, ht, hot⟩, eD, hk, hol, q⟩ := h
  refine ⟨_, (pss_cons (ps_setLc (i := 3) (own := [("place", 4)]) (g := gName 4) rfl sc_ruling_by.nd rfl rfl (sw_true rfl rfl rfl (by decide +kernel)) (pi_tup (pv 0)) (blkOk_by (own := [("place", 4)]) (N := ["order", "told", "otherwise", "found", "place"]) (sc := defScope s_ruling_by) (by decide +kernel)) (fun _ _ _ _ _ => (pg_name (i := 4) sc_ruling_by.nd rfl (Or.inl rfl))) (fun _ _ _ _ _ => (pts_.re (pts_one (pt_cmpR op_notN (pe_ix ix_list (pv 1) (pv 4) (fun _ _ => rfl)) pe_non (nomark _))) (by first | (dsimp only [Cx.blk]; done) | exact rfl))) (fun _ _ _ _ _ => (pe_.re (pe_ix ix_list (pv 1) (pv 4) (fun _ _ => rfl)) (by first | (dsimp only [Cx.blk]; done) | exact rfl))))
      (pss_one (ps_ret (pe_ifExp (pt_tru (pv 3) (by intro _; rfl)) (pe_ix ix_list (pv 3) pe_int (fun _ _ => rfl)) (pv 2))))), ?_⟩
  refine ⟨_, rfl, t, rfl, ⟨_, .inl (.inr ⟨_, ht⟩)⟩, fun D2 nD2 => lc_it walk_tup (fun i H' => Same H H' ∧ H' D2 = some (.lst ((fndN told (o.take i)).map V.str))) ⟨(Same.refl H).put nD2, upd_same⟩ (fun _ _ _ h => .inl (.inr ⟨_, h.1 _ _ ht⟩)) ?_ ?_⟩
  · rintro i v Ha0 Ha hi ⟨sa, ea⟩ ⟨rfl, hv⟩
    rw [List.getElem?_map] at hv
    obtain ⟨k, hki, rfl⟩ := Option.map_eq_some_iff.mp hv
    have hkl := hk k (List.mem_of_getElem? hki)
    have htk : told[k]? = some told[k] := List.getElem?_eq_getElem hkl
    have hat : atI (told.map optS) ((k : Nat) : Int) = some (optS told[k]) := atI_nat (by rw [List.getElem?_map, htk]; rfl)
    have hn : fndN told (o.take (i + 1)) = fndN told (o.take i) ++ (match told[k] with | some x => [x] | none => []) := by
      unfold fndN
      rw [take_more hki, List.filterMap_append]
      congr 1
      rw [List.filterMap_cons, htk]
      cases told[k] <;> rfl
    refine ⟨rfl, _, rfl, _, rfl, D, _, _, _, rfl, rfl, sqL_of (sa _ _ eD), hat, rfl, _, rfl, ?_⟩
    cases e : told[k] with
    | none =>
      rw [e] at hn
      rw [decide_eq_true (show optS none = V.non from rfl)]
      refine iteF ⟨sa, ?_⟩
      rw [hn, List.append_nil]
      exact ea
    | some x =>
      rw [e] at hn hat
      rw [decide_eq_false (show ¬ optS (some x) = V.non from fun z => by cases z)]
      refine iteT ⟨_, rfl, _, rfl, D, _, _, _, rfl, rfl, sqL_of (sa _ _ eD), hat, _, ea, ?_, sa.put nD2, ?_⟩
      · rw [List.length_map, sizeLine_eq]
        unfold fndN
        have := List.length_filterMap_le (fun k => (told[k]?).join) (o.take i)
        rw [List.length_take] at this
        omega
      · rw [upd_same, hn, List.map_append]
        rfl
  rintro Ha ⟨sa, ea⟩
  rw [List.length_map, List.take_length] at ea
  have q := q Ha sa
  have eb : byN told rl o = ((fndN told o).head?).getD rl := rfl
  rw [eb] at q
  generalize fndN told o = fs at ea q
  refine ⟨_, rfl, _, .inl ⟨_, sqL_of ea, rfl⟩, ?_⟩
  cases fs with
  | nil => exact iteF ⟨_, rfl, q⟩
  | cons x r => exact iteT ⟨_, rfl, D2, _, 0, _, rfl, rfl, sqL_of ea, atI_nat (j := 0) rfl, q⟩
end
end Sc
namespace Sc
open PySem PySem.Spec PyProof.Rows L2
theorem sc_check_word : FnScope ["ruling"] ["ruling"] (defScope s_check_word) := ⟨rfl, rfl, rfl, by decide +kernel, rfl, by decide +kernel, by decide +kernel⟩
theorem sc_check_left : FnScope ["left"] ["left"] (defScope s_check_left) := ⟨rfl, rfl, rfl, by decide +kernel, rfl, by decide +kernel, by decide +kernel⟩
theorem sc_OrderWatcher___init__ : FnScope ["self", "book"] ["self", "book"] (defScope s_OrderWatcher___init__) := ⟨rfl, rfl, rfl, by decide +kernel, rfl, by decide +kernel, by decide +kernel⟩
theorem sc_OrderWatcher_order_count : FnScope ["self"] ["self"] (defScope s_OrderWatcher_order_count) := ⟨rfl, rfl, rfl, by decide +kernel, rfl, by decide +kernel, by decide +kernel⟩
theorem sc_OrderWatcher_first_order : FnScope ["self", "place"] ["self"] (defScope s_OrderWatcher_first_order) := ⟨rfl, rfl, rfl, by decide +kernel, rfl, by decide +kernel, by decide +kernel⟩
theorem sc_OrderWatcher_records : FnScope ["self"] ["self"] (defScope s_OrderWatcher_records) := ⟨rfl, rfl, rfl, by decide +kernel, rfl, by decide +kernel, by decide +kernel⟩
/-- making an object whose init raises nothing -/
structure Mkr0 (P : Program) (w : World) (K : PySem.W.Frag) (mg : Str → Option Value) (base : Heap) (k : Nat) (x : Str) (C : Addr) (ps : List Str) (sp : Sp) : Prop where
  ex : ∃ (f : Addr) (fd : FuncData), Mk K C f ∧ FnOk P w K mg base CX0 k f fd ps sp ∧ mg x = some (.ref C) ∧ Binds K fd ps []
/-- a property of a class that is worked out -/
def PropM (P : Program) (w : World) (K : PySem.W.Frag) (mg : Str → Option Value) (base : Heap) (C : Addr) (n : Str) (k : Nat) (sp : Sp) : Prop := ∃ p g fd, PropOf K C n p g ∧ FnOk P w K mg base CX0 k g fd ["self"] sp ∧ Binds K fd ["self"] []
/-- a method of a class, no property -/
structure MethR (P : Program) (w : World) (K : PySem.W.Frag) (mg : Str → Option Value) (base : Heap) (k : Nat) (C : Addr) (m : Str) (ps : List Str) (sp : Sp) : Prop where
  ex : ∃ (g : Addr) (fd : FuncData), Meth K C m g ∧ FnOk P w K mg base CX0 k g fd ps sp ∧ Binds K fd ps []
/-- a method that may raise -/
structure MethX (P : Program) (w : World) (K : PySem.W.Frag) (mg : Str → Option Value) (base : Heap) (k : Nat) (C : Addr) (m : Str) (ps : List Str) (sp : Sp) : Prop where
  ex : ∃ (g : Addr) (fd : FuncData), Meth K C m g ∧ FnOk P w K mg base (L2.CX P w) k g fd ps sp ∧ Binds K fd ps []
section
variable {X : Cx} {k : Nat} {x m n : Str} {C : Addr} {ps : List Str} {sp : Sp} {e o : Expr} {es : List Expr} {ta : TE} {t : TA} {p pos apos : Pos}
theorem pe_mk0 (M : Mkr0 X.prog X.w X.K X.mg X.base k x C ps sp) (hr : Room (k + 1) X.A) (ha : PA X (e :: es) t) (hg : Gl X x := by rfl) (hdb : (x == ("__debug__" : Str)) = false := by decide)
    (he : starEach (e :: es) X.env = (false, eval e X.env) :: starEach es X.env := by rfl) (hpl : (backTo pos (starEach es X.env)).any (·.1) = false := by rfl) : PE X (.Call (.Name x p) (e :: es) [] pos) (tMake C sp [] E0 t) := by
  obtain ⟨f, fd, hk, F, hm, hb⟩ := M.ex
  exact pe_make hk F hr hg hm hb .nil pass0 ha hdb he hpl
theorem pe_propM (M : PropM X.prog X.w X.K X.mg X.base C n k sp) (hr : Room (k + 1) X.A) (c : Cls X.K C) (he : PE X e ta) (hab : attributeBase e n X.env (eval e X.env) = eval e X.env := by rfl) : PE X (.Attribute e n pos) (tProp C sp [] E0 ta) := by
  obtain ⟨p, g, fd, h1, h2, h3⟩ := M
  exact pe_prop he c h1 h2 hr h3 .nil pass0 hab
theorem pe_me {pl : Sem Bool} (T : Cls X.K C) (M : MethR X.prog X.w X.K X.mg X.base k C m ps sp) (hr : Room k X.A) (he : PE X o ta) (ha : PA X (e :: es) t)
    (hst : starEach (e :: es) X.env = (false, eval e X.env) :: starEach es X.env := by rfl) (hpl : (backTo pos (starEach es X.env)).any (·.1) = false := by rfl)
    (ht : eval (.Call (.Attribute o m apos) (e :: es) [] pos) X.env = (do
      let ov ← eval o X.env
      standAt apos.atName
      let (f, first) ← holding [ov] (getMethod ov m pl)
      callWith pos f first (backTo pos (starEach (e :: es) X.env)) (backToKw pos (keywordEach [] X.env))) := by rfl) : PE X (.Call (.Attribute o m apos) (e :: es) [] pos) (tMeth C m sp [] E0 ta t) := by
  obtain ⟨g, fd, h1, F, hb⟩ := M.ex
  exact pe_meth he T h1 F hr hb .nil pass0 ha hst hpl ht
theorem pe_me0 {pl : Sem Bool} (T : Cls X.K C) (M : MethR X.prog X.w X.K X.mg X.base k C m ps sp) (hr : Room k X.A) (he : PE X o ta)
    (ht : eval (.Call (.Attribute o m apos) [] [] pos) X.env = (do
      let ov ← eval o X.env
      standAt apos.atName
      let (f, first) ← holding [ov] (getMethod ov m pl)
      callWith pos f first (backTo pos (starEach [] X.env)) (backToKw pos (keywordEach [] X.env))) := by rfl) : PE X (.Call (.Attribute o m apos) [] [] pos) (tMeth C m sp [] E0 ta tNil) := by
  obtain ⟨g, fd, h1, F, hb⟩ := M.ex
  exact pe_meth0 he T h1 F hr hb .nil pass0 ht
theorem pe_meX {pl : Sem Bool} {E : XK} (T : Cls X.K C) (M : MethX X.prog X.w X.K X.mg X.base k C m ps sp) (hr : Room k X.A) (tk : Takes X (fun cls d _ H => E cls d H)) (he : PE X o ta) (ha : PA X (e :: es) t)
    (hst : starEach (e :: es) X.env = (false, eval e X.env) :: starEach es X.env := by rfl) (hpl : (backTo pos (starEach es X.env)).any (·.1) = false := by rfl)
    (ht : eval (.Call (.Attribute o m apos) (e :: es) [] pos) X.env = (do
      let ov ← eval o X.env
      standAt apos.atName
      let (f, first) ← holding [ov] (getMethod ov m pl)
      callWith pos f first (backTo pos (starEach (e :: es) X.env)) (backToKw pos (keywordEach [] X.env))) := by rfl) : PE X (.Call (.Attribute o m apos) (e :: es) [] pos) (tMeth C m sp [] E ta t) := by
  obtain ⟨g, fd, h1, F, hb⟩ := M.ex
  exact pe_meth he T h1 F hr hb .nil (passes_call tk fun _ _ _ _ h => h) ha hst hpl ht
theorem pe_meN {pl : Sem Bool} (T : Cls X.K C) (M : MethX X.prog X.w X.K X.mg X.base k C m ps sp) (hr : Room k X.A) (he : PE X o ta) (ha : PA X (e :: es) t)
    (hst : starEach (e :: es) X.env = (false, eval e X.env) :: starEach es X.env := by rfl) (hpl : (backTo pos (starEach es X.env)).any (·.1) = false := by rfl)
    (ht : eval (.Call (.Attribute o m apos) (e :: es) [] pos) X.env = (do
      let ov ← eval o X.env
      standAt apos.atName
      let (f, first) ← holding [ov] (getMethod ov m pl)
      callWith pos f first (backTo pos (starEach (e :: es) X.env)) (backToKw pos (keywordEach [] X.env))) := by rfl) : PE X (.Call (.Attribute o m apos) (e :: es) [] pos) (tMeth C m sp [] E0 ta t) := by
  obtain ⟨g, fd, h1, F, hb⟩ := M.ex
  exact pe_meth he T h1 F hr hb .nil passL ha hst hpl ht
end
/-! ### a watcher of orders -/
def owF (b L S : Addr) : List (Str × V) := putF "_seen" (.ref S) (putF "_left" (.ref L) (putF "_book" (.ref b) []))
def RecAt (H : Hp) (v : V) (q : List Str × Str) : Prop := ∃ t c : Addr, v = .ref t ∧ H t = some (.tup [.ref c, .str q.2]) ∧ H c = some (.tup (q.1.map V.str)) ∧ q.1.length ≤ 1000
theorem RecAt.keeps {N : Addr → Prop} {H H' : Hp} {v : V} {q : List Str × Str} (k : Keeps N H H') (h : RecAt H v q) : RecAt H' v q := by
  obtain ⟨t, c, e, h1, h2, h3⟩ := h
  exact ⟨t, c, e, k _ _ stays_tup h1, k _ _ stays_tup h2, h3⟩
section
variable {P : Program} {w : World} {K : PySem.W.Frag} {mg : Str → Option Value} {base : Heap} {C R B OW CC CR CT : Addr}
structure WatAt (K : PySem.W.Frag) (C R B OW : Addr) (N : Addr → Prop) (H : Hp) (x S : Addr) (xs : List Str) (f : RF) (rl : Str) (os : List (List Nat)) (recs : List (List Str × Str)) : Prop where
  at_ : ∃ (dx b L : Addr) (us vs : List V), H x = some (.ins OW dx (owF b L S)) ∧ BookAt K C R B (fun l => N l ∧ l ≠ S) H b xs f rl ∧ (H L = some (.lst us) ∧ L ≠ S) ∧ All2 (OrdAt H) us os ∧ H S = some (.lst vs) ∧ All2 (RecAt H) vs recs
theorem WatAt.same {N : Addr → Prop} {H H' : Hp} {x S : Addr} {xs : List Str} {f : RF} {rl : Str} {os : List (List Nat)} {recs : List (List Str × Str)} (s : Same H H') (h : WatAt K C R B OW N H x S xs f rl os recs) : WatAt K C R B OW N H' x S xs f rl os recs := by
  obtain ⟨dx, b, L, us, vs, h1, h2, ⟨h3, h3'⟩, h4, h5, h6⟩ := h.at_
  exact ⟨dx, b, L, us, vs, s _ _ h1, h2.keeps s.keeps, ⟨s _ _ h3, h3'⟩, h4.mono fun _ _ z => z.keeps (N := NoL) s.keeps, s _ _ h5, h6.mono fun _ _ z => z.keeps (N := NoL) s.keeps⟩
theorem BookAt.re {N M : Addr → Prop} {H : Hp} {o : Addr} {xs : List Str} {f : RF} {rl : Str} (g : ∀ b xs, N b → H b = some (.lst xs) → M b) (h : BookAt K C R B N H o xs f rl) : BookAt K C R B M H o xs f rl := by
  obtain ⟨dx, a, p, l, ws, us, h1, h2, h3, h4, ⟨h5, h6⟩, h7⟩ := h
  exact ⟨dx, a, p, l, ws, us, h1, h2, h3, h4.re g, ⟨g _ _ h5 h6, h6⟩, h7.mono fun _ _ ⟨o, e, x⟩ => ⟨o, e, x.re g⟩⟩
def sp_cword (CR : Addr) : Sp := fun vs H Q E => ∃ x : Str, vs = [.str x] ∧ x.length ≤ 1000 ∧ (isName x = true → ∀ H', Same H H' → Q .non H') ∧ (isName x = false → ∀ H', Same H H' → E (.ref CR) none H')
theorem ok_cword {f : Addr} {fd : FuncData} (F : Fun K "check_word" "check_word" s_check_word f fd) (B : Blt mg) (e_InvalidRuling : ErrMk0 K mg "InvalidRuling" CR) (c_is_name : Cal P w K mg base CX0 1 "is_name" ["value"] sp_is_name) : FnOk P w K mg base (L2.CX P w) 2 f fd ["ruling"] (sp_cword CR) := by
  refine F.okX sc_check_word (fun vs H Q E h => by obtain ⟨x, rfl, _⟩ := h; rfl) (fun cdv A outer s H vs Q E hr h => ?_)
  obtain ⟨x, rfl, hxl, q, qe⟩ := h
  refine ⟨_, (pss_one (ps_if (pt_not (pt_val (pe_cal c_is_name (hr.mono (by decide)) (pa_cons (pv 0) pa_nil)))) (pss_one (ps_raise rfl (takes_of rfl rfl rfl rfl) (pmk_err0 e_InvalidRuling))) pss_nil)), ?_⟩
  refine ⟨_, rfl, x, rfl, by rw [sizeLine_eq]; omega, fun H1 s1 => ⟨_, rfl, ?_⟩⟩
  cases hx : isName x
  · exact iteT (qe hx _ s1)
  · exact iteF (q hx _ s1)
def sp_cleft (CT : Addr) : Sp := fun vs H Q E => ∃ (D : Addr) (us : List V), vs = [.ref D] ∧ H D = some (.lst us) ∧ (us ≠ [] → Q .non H) ∧ (us = [] → E (.ref CT) none H)
theorem ok_cleft {f : Addr} {fd : FuncData} (F : Fun K "check_left" "check_left" s_check_left f fd) (e_Contradiction : ErrMk0 K mg "Contradiction" CT) : FnOk P w K mg base (L2.CX P w) 1 f fd ["left"] (sp_cleft CT) := by
  refine F.okX sc_check_left (fun vs H Q E h => by obtain ⟨D, us, rfl, _⟩ := h; rfl) (fun cdv A outer s H vs Q E hr h => ?_)
  obtain ⟨D, us, rfl, eD, q, qe⟩ := h
  refine ⟨_, (pss_one (ps_if (pt_not (pt_tru (pv 0) (by intro _; rfl))) (pss_one (ps_raise rfl (takes_of rfl rfl rfl rfl) (pmk_err0 e_Contradiction))) pss_nil)), ?_⟩
  refine ⟨_, rfl, _, .inl ⟨_, sqL_of eD, rfl⟩, ?_⟩
  cases us with
  | nil => exact iteT (qe rfl)
  | cons u us => exact iteF (q (by simp))
def sp_owInit (K : PySem.W.Frag) (C R B OW : Addr) : Sp := fun vs H Q _ => ∃ (N : Addr → Prop) (x dx b : Addr) (xs : List Str) (f : RF) (rl : Str), vs = [.ref x, .ref b] ∧ H x = some (.ins OW dx []) ∧ BookAt K C R B N H b xs f rl ∧ f.nodes.length ≤ 6 ∧
  ∀ H' S, SameX x H H' → H S = none → WatAt K C R B OW N H' x S xs f rl (ordN f.nodes.length f.nodes.length) [] → Q .non H'
theorem ok_owInit {f : Addr} {fd : FuncData} {t1 : Tok} (F : Fun K "__init__" "OrderWatcher.__init__" s_OrderWatcher___init__ f fd) (Bl : Blt mg) (T : Cls K OW) (n1 : NoAttr K OW "_book") (n2 : NoAttr K OW "_left") (n3 : NoAttr K OW "_seen") (kB : BookX P w K mg base B) (m_MOST_ORDERED : mg "MOST_ORDERED" = some (.int 6 t1)) (c_orders_of : Cal P w K mg base CX0 1 "orders_of" ["count"] (sp_orders K)) : FnOk P w K mg base CX0 3 f fd ["self", "book"] (sp_owInit K C R B OW) := by
  refine F.ok sc_OrderWatcher___init__ (fun vs H Q E h => by obtain ⟨N, x, dx, b, xs, f, rl, rfl, _⟩ := h; rfl) (fun cdv A outer s H vs Q E hr h => ?_)
  obtain ⟨N, x, dx, b, xs, f, rl, rfl, hx, hB, hn6, q⟩ := h
  obtain ⟨dx', a, p, l, rs, us, ho, hS, hP, hF, hl, hus⟩ := id hB
  have hrl : rs.length = f.nodes.length := hF.len
  refine ⟨_, (pss_cons (ps_if (pt_cmpR op_gt (pe_callB call_len_seq (by rfl) Bl.b_len PySem.boot_len (pa_cons (pe_cprop kB.rules kB.cls (hr.mono (by decide)) (pv 1)) pa_nil)) (pe_glob (v := .int 6) rfl m_MOST_ORDERED ⟨_, rfl⟩) (nomark _)) pss_never pss_nil)
      (pss_cons (ps_fld (pv 0) (pv 1) rfl)
      (pss_cons (ps_fld (pv 0) (pe_cal c_orders_of (hr.mono (by decide)) (pa_cons (pe_callB call_len_seq (by rfl) Bl.b_len PySem.boot_len (pa_cons (pe_cprop kB.rules kB.cls (hr.mono (by decide)) (pv 1)) pa_nil)) pa_nil)) rfl)
      (pss_one (ps_fld (pv 0) (pe_lst pa_nil) rfl))))), ?_⟩
  refine ⟨_, rfl, b, dx', _, rfl, ho, b, dx', _, _, rfl, ho, rfl, _, _, rfl, .inr hP, _, _, rfl, rfl, _, rfl, ?_⟩
  rw [hrl, decide_eq_false (by omega)]
  refine iteF ⟨_, rfl, _, rfl, x, OW, dx, _, rfl, hx, T, n1, (by show 0 < 1000; decide), ?_⟩
  have x1 : SameX x H (upd H x (.ins OW dx (putF "_book" (.ref b) []))) := fun b' ob n e => by rw [upd_ne n]; exact e
  have hx1 : (upd H x (.ins OW dx (putF "_book" (.ref b) []))) x = some (.ins OW dx (putF "_book" (.ref b) [])) := upd_same
  have kk1 : Keeps NoL H (upd H x (.ins OW dx (putF "_book" (.ref b) []))) := SameX.keeps x1 hx rfl
  generalize upd H x (.ins OW dx (putF "_book" (.ref b) [])) = H1 at x1 hx1 kk1 ⊢
  have nb : b ≠ x := fun z => by rw [z, hx] at ho; cases ho
  have ho1 := x1 _ _ nb ho
  refine ⟨_, rfl, b, dx', _, rfl, ho1, b, dx', _, _, rfl, ho1, rfl, _, _, rfl, .inr (kk1.tup hP), f.nodes.length, by rw [hrl]; rfl, hn6, fun H2 L us2 s2 eL hus2 => ?_⟩
  refine ⟨_, rfl, x, OW, dx, _, rfl, s2 _ _ hx1, T, n2, (by show 1 < 1000; decide), ?_⟩
  have hx2 := s2 _ _ hx1
  have x3 : SameX x H2 (upd H2 x (.ins OW dx (putF "_left" (.ref L) (putF "_book" (.ref b) [])))) := fun b' ob n e => by rw [upd_ne n]; exact e
  have hx3 : (upd H2 x (.ins OW dx (putF "_left" (.ref L) (putF "_book" (.ref b) [])))) x = some (.ins OW dx (putF "_left" (.ref L) (putF "_book" (.ref b) []))) := upd_same
  generalize upd H2 x (.ins OW dx (putF "_left" (.ref L) (putF "_book" (.ref b) []))) = H3 at x3 hx3 ⊢
  have nL : L ≠ x := fun z => by rw [z, hx2] at eL; cases eL
  refine ⟨(by show 0 ≤ sizeLine; decide), fun S nS => ⟨_, rfl, x, OW, dx, putF "_left" (.ref L) (putF "_book" (.ref b) []), rfl, ?_, T, n3, (by show 2 < 1000; decide), ?_⟩⟩
  · rw [upd_ne (ne_of_none hx3 nS)]; exact hx3
  have nSx : S ≠ x := fun z => by rw [z, hx3] at nS; cases nS
  have hS0 : H S = none := by
    cases e : H S with
    | none => rfl
    | some ob => rw [x3 _ _ nSx (s2 _ _ (x1 _ _ nSx e))] at nS; cases nS
  have x4 : SameX x H2 (upd (upd H3 S (.lst [])) x (.ins OW dx (owF b L S))) := fun b' ob n e => by rw [upd_ne n, upd_ne (ne_of_none (x3 _ _ n e) nS)]; exact x3 _ _ n e
  have kk : Keeps (fun l => N l ∧ l ≠ S) H (upd (upd H3 S (.lst [])) x (.ins OW dx (owF b L S))) := SameX.keeps (fun b' ob n e => x4 _ _ n (s2 _ _ (x1 _ _ n e))) hx rfl
  have kL : (upd (upd H3 S (.lst [])) x (.ins OW dx (owF b L S))) L = some (.lst us2) := x4 _ _ nL eL
  have k2 : Keeps NoL H2 (upd (upd H3 S (.lst [])) x (.ins OW dx (owF b L S))) := SameX.keeps x4 hx2 rfl
  refine q _ S (fun b' ob n e => x4 _ _ n (s2 _ _ (x1 _ _ n e))) hS0 ⟨dx, b, L, us2, [], upd_same, (hB.re fun l xs n e => ⟨n, fun z => by rw [z, hS0] at e; cases e⟩).keeps kk, ⟨kL, fun z => by subst z; rw [x3 _ _ nL eL] at nS; cases nS⟩, hus2.mono fun _ _ z => z.keeps k2, by rw [upd_ne nSx]; exact upd_same, .nil⟩
structure OrdOk (n : Nat) (os : List (List Nat)) : Prop where
  len : ∀ o ∈ os, o.length = n ∧ o.Nodup ∧ ∀ p ∈ o, p < n
  many : os.length ≤ 50000
def sp_owCount (K : PySem.W.Frag) (C R B OW : Addr) : Sp := fun vs H Q _ => ∃ (N : Addr → Prop) (x S : Addr) (xs : List Str) (f : RF) (rl : Str) (os : List (List Nat)) (recs : List (List Str × Str)), vs = [.ref x] ∧ WatAt K C R B OW N H x S xs f rl os recs ∧ Q (.int (os.length : Nat)) H
theorem ok_owCount {f : Addr} {fd : FuncData} (F : Fun K "order_count" "OrderWatcher.order_count" s_OrderWatcher_order_count f fd) (Bl : Blt mg) (T : Cls K OW) (n2 : NoAttr K OW "_left") : FnOk P w K mg base CX0 1 f fd ["self"] (sp_owCount K C R B OW) := by
  refine F.ok sc_OrderWatcher_order_count (fun vs H Q E h => by obtain ⟨N, x, S, xs, f, rl, os, recs, rfl, _⟩ := h; rfl) (fun cdv A outer s H vs Q E hr h => ?_)
  obtain ⟨N, x, S, xs, f, rl, os, recs, rfl, ⟨dx, b, L, us, vs, h1, h2, ⟨h3, h3'⟩, h4, h5, h6⟩, q⟩ := h
  refine ⟨_, (pss_one (ps_ret (pe_callB call_len_seq (by rfl) Bl.b_len PySem.boot_len (pa_cons (pe_fld (pv 0) rfl) pa_nil)))), ?_⟩
  refine ⟨_, rfl, x, OW, dx, _, _, rfl, h1, T, n2, rfl, L, us, rfl, .inl (sqL_of h3), ?_⟩
  rw [h4.len]
  exact q
/-- the names of the places of an order -/
def ordNm (f : RF) (o : List Nat) : List Str := o.map fun k => (f.nodes[k]?.map fun n => n.nm).getD ""
def sp_owFirst (K : PySem.W.Frag) (C R B OW : Addr) : Sp := fun vs H Q _ => ∃ (N : Addr → Prop) (x S : Addr) (xs : List Str) (f : RF) (rl : Str) (o : List Nat) (os : List (List Nat)) (recs : List (List Str × Str)), vs = [.ref x] ∧ WatAt K C R B OW N H x S xs f rl (o :: os) recs ∧ OrdOk f.nodes.length (o :: os) ∧ f.nodes.length ≤ 6 ∧ ∀ H' p, Same H H' → H' p = some (.tup ((ordNm f o).map V.str)) → Q (.ref p) H'
theorem ok_owFirst {f : Addr} {fd : FuncData} (F : Fun K "first_order" "OrderWatcher.first_order" s_OrderWatcher_first_order f fd) (Bl : Blt mg) (T : Cls K OW) (n1 : NoAttr K OW "_book") (n2 : NoAttr K OW "_left") (kB : BookX P w K mg base B) (kR : RuleX P w K mg base R) : FnOk P w K mg base CX0 3 f fd ["self"] (sp_owFirst K C R B OW) := by
  refine F.ok sc_OrderWatcher_first_order (fun vs H Q E h => by obtain ⟨N, x, S, xs, f, rl, o, os, recs, rfl, _⟩ := h; rfl) (fun cdv A outer s H vs Q E hr h => ?_)
  obtain ⟨N, x, S, xs, f, rl, o, os, recs, rfl, ⟨dx, b, L, us, vs, h1, h2, ⟨h3, h3'⟩, h4, h5, h6⟩, ho, hn6, q⟩ := h
  refine ⟨_, (pss_one (ps_ret (pe_callTy call_tuple_of (by rfl) Bl.b_tuple PyProof.Rows.boot_tuple (pa_cons (pe_lc (own := [("place", 1)]) (g := gName 1) (tt := tYes) rfl sc_OrderWatcher_first_order.nd (pi_tup (pe_ix ix_list (pe_fld (pv 0) rfl) pe_int (fun _ _ => rfl))) (blkOk_by (own := [("place", 1)]) (N := ["self", "place"]) (sc := defScope s_OrderWatcher_first_order) (by decide +kernel)) (fun _ _ _ _ _ => (pg_name (i := 1) sc_OrderWatcher_first_order.nd rfl (Or.inl rfl))) (fun _ _ _ _ _ => pts_nil) (fun _ _ _ _ _ => (pe_.re (pe_cprop kR.name kR.cls (hr.mono (by decide)) (pe_ix ix_tup (pe_cprop kB.rules kB.cls (hr.mono (by decide)) (pe_fld (pv 0) rfl)) (pv 1) (fun _ _ => rfl))) (by first | (dsimp only [Cx.blk]; done) | exact rfl)))) pa_nil)))), ?_⟩
  obtain ⟨v, us', rfl, ⟨t, ot, rfl, ht, hot⟩, h4⟩ : ∃ v us', us = v :: us' ∧ OrdAt H v o ∧ All2 (OrdAt H) us' os := by
    cases h4 with
    | cons a b => exact ⟨_, _, rfl, a, b⟩
  obtain ⟨dx', a, p, l, rs, us2, hbo, hS, hP, hF, hl, hus⟩ := id h2
  have hrl : rs.length = f.nodes.length := hF.len
  obtain ⟨hol, hnd, hop⟩ := ho.len _ (List.mem_cons_self)
  refine ⟨_, rfl, x, OW, dx, _, _, rfl, h1, T, n2, rfl, L, _, 0, _, rfl, rfl, sqL_of h3, atI_nat (j := 0) rfl, t, rfl, ⟨_, .inl (.inr ⟨_, ht⟩)⟩, fun D2 nD2 => lc_it walk_tup (fun i H' => Same H H' ∧ H' D2 = some (.lst ((ordNm f (o.take i)).map V.str))) ⟨(Same.refl H).put nD2, upd_same⟩ (fun _ _ _ h => .inl (.inr ⟨_, h.1 _ _ ht⟩)) ?_ ?_⟩
  · rintro i v Ha0 Ha hi ⟨sa, ea⟩ ⟨rfl, hv⟩
    rw [List.getElem?_map] at hv
    obtain ⟨k, hki, rfl⟩ := Option.map_eq_some_iff.mp hv
    have hkl := hop k (List.mem_of_getElem? hki)
    obtain ⟨nd, hnd⟩ : ∃ nd, f.nodes[k]? = some nd := ⟨_, List.getElem?_eq_getElem hkl⟩
    have hrk : rs[k]? = some rs[k] := List.getElem?_eq_getElem (by omega)
    obtain ⟨nd', hnd', hat⟩ := hF.all.get hrk
    rw [hnd] at hnd'
    cases hnd'
    obtain ⟨o3, e3, dx3, c3, p3, l3, ws3, ho3, _⟩ := hat
    rw [e3] at hrk
    have hn : ordNm f (o.take (i + 1)) = ordNm f (o.take i) ++ [nd.nm] := by
      unfold ordNm
      rw [take_more hki, List.map_append, List.map_cons, hnd]
      rfl
    refine ⟨rfl, yes_ ⟨_, rfl, x, OW, dx, _, _, rfl, sa _ _ h1, T, n1, rfl, b, dx', _, rfl, sa _ _ hbo, b, dx', _, _, rfl, sa _ _ hbo, rfl, _, rfl, p, _, _, _, rfl, rfl, sa.tup hP, atI_nat hrk, o3, dx3, _, rfl, sa _ _ ho3, o3, dx3, _, _, rfl, sa _ _ ho3, rfl, grow (acc := fun i => (ordNm f (o.take i)).map V.str) nD2 sa ea ?_ ?_⟩⟩
    · rw [List.length_map, sizeLine_eq]
      unfold ordNm
      rw [List.length_map, List.length_take]
      omega
    · rw [hn, List.map_append]
      rfl
  rintro Ha ⟨sa, ea⟩
  rw [List.length_map, List.take_length] at ea
  exact ⟨_, _, rfl, .inl ⟨sqL_of ea, fun p np => q _ _ (sa.trans ((Same.refl _).put np)) upd_same⟩⟩
def sp_owRecs (K : PySem.W.Frag) (C R B OW : Addr) : Sp := fun vs H Q _ => ∃ (N : Addr → Prop) (x S : Addr) (xs : List Str) (f : RF) (rl : Str) (os : List (List Nat)) (recs : List (List Str × Str)), vs = [.ref x] ∧ WatAt K C R B OW N H x S xs f rl os recs ∧ recs.length ≤ 900 ∧ ∀ H' D vs, Same H H' → H D = none → H' D = some (.lst vs) → All2 (RecAt H') vs recs → Q (.ref D) H'
theorem ok_owRecs {f : Addr} {fd : FuncData} (F : Fun K "records" "OrderWatcher.records" s_OrderWatcher_records f fd) (Bl : Blt mg) (T : Cls K OW) (n3 : NoAttr K OW "_seen") : FnOk P w K mg base CX0 1 f fd ["self"] (sp_owRecs K C R B OW) := by
  refine F.ok sc_OrderWatcher_records (fun vs H Q E h => by obtain ⟨N, x, S, xs, f, rl, os, recs, rfl, _⟩ := h; rfl) (fun cdv A outer s H vs Q E hr h => ?_)
  obtain ⟨N, x, S, xs, f, rl, os, recs, rfl, ⟨dx, b, L, us, vs, h1, h2, ⟨h3, h3'⟩, h4, h5, h6⟩, hrn, q⟩ := h
  refine ⟨_, (pss_one (ps_ret (pe_callTy call_list_of (by rfl) Bl.b_list PyProof.Rows.boot_list (pa_cons (pe_fld (pv 0) rfl) pa_nil)))), ?_⟩
  refine ⟨_, rfl, x, OW, dx, _, _, rfl, h1, T, n3, rfl, S, vs, rfl, .inl (sqL_of h5), fun D nD => ?_⟩
  have s1 : Same H (upd H D (.lst vs)) := (Same.refl H).put nD
  exact q _ D vs s1 nD upd_same (h6.mono fun _ _ z => z.keeps (N := NoL) s1.keeps)
end
end Sc
namespace Sc
open PySem PySem.Spec PyProof.Rows L2
theorem sc_OrderWatcher_see : FnScope ["self", "case", "ruling", "told", "left", "rule", "order"] ["self", "case", "ruling"] (defScope s_OrderWatcher_see) := ⟨rfl, rfl, rfl, by decide +kernel, rfl, by decide +kernel, by decide +kernel⟩
theorem sc_OrderWatcher_sure : FnScope ["self", "name", "other", "names", "first", "second", "rule", "order"] ["self", "name", "other"] (defScope s_OrderWatcher_sure) := ⟨rfl, rfl, rfl, by decide +kernel, rfl, by decide +kernel, by decide +kernel⟩
section
variable {P : Program} {w : World} {K : PySem.W.Frag} {mg : Str → Option Value} {base : Heap} {C R B OW CC CR CT : Addr}
/-- the orders that a ruling leaves -/
def leftO (told : List (Option Str)) (rl r : Str) (os : List (List Nat)) : List (List Nat) := os.filter fun o => decide (byN told rl o = r)
theorem owKeeps {M : Addr → Prop} {H H' : Hp} {x dx b L S : Addr} {vs : List V} (h1 : H x = some (.ins OW dx (owF b L S))) (h5 : H S = some (.lst vs)) (hM : ¬ M S) (fr : ∀ b' o, b' ≠ x → b' ≠ S → H b' = some o → H' b' = some o) : Keeps M H H' := fun b' o st e => by
  by_cases z1 : b' = x
  · subst z1
    rw [h1] at e
    cases e
    exact Bool.noConfusion ((rfl : DoneF (owF b L S) = false).symm.trans (st.2.1 _ _ _ rfl))
  by_cases z2 : b' = S
  · subst z2
    rw [h5] at e
    cases e
    exact absurd (st.1 _ rfl) hM
  exact fr _ _ z1 z2 e
def sp_owSee (K : PySem.W.Frag) (C R B OW CT : Addr) : Sp := fun vs H Q E => ∃ (N : Addr → Prop) (x S c : Addr) (xs : List Str) (f : RF) (rl : Str) (os : List (List Nat)) (recs : List (List Str × Str)) (cs : List Str) (r : Str), vs = [.ref x, .ref c, .str r] ∧ WatAt K C R B OW N H x S xs f rl os recs ∧ H c = some (.tup (cs.map V.str)) ∧ cs.length ≤ 1000 ∧ firstOut xs cs = none ∧ r.length ≤ 1000 ∧ isName r = true ∧ f.every NdOk ∧ f.size ≤ 800 ∧ f.nodes.length ≤ 6 ∧ recs.length ≤ 900 ∧ OrdOk f.nodes.length os ∧
  (leftO (f.nodes.map (rwN cs)) rl r os = [] → ∀ H', Same H H' → E (.ref CT) none H') ∧
  (leftO (f.nodes.map (rwN cs)) rl r os ≠ [] → ∀ H', (∀ b o, b ≠ x → b ≠ S → H b = some o → H' b = some o) → WatAt K C R B OW N H' x S xs f rl (leftO (f.nodes.map (rwN cs)) rl r os) (recs ++ [(cs, r)]) → Q (.int ((leftO (f.nodes.map (rwN cs)) rl r os).length : Nat)) H')
theorem ok_owSee {f : Addr} {fd : FuncData} (F : Fun K "see" "OrderWatcher.see" s_OrderWatcher_see f fd) (Bl : Blt mg) (T : Cls K OW) (n1 : NoAttr K OW "_book") (n2 : NoAttr K OW "_left") (n3 : NoAttr K OW "_seen") (kB : BookX P w K mg base B)
    (c_check_case : Cal P w K mg base (L2.CX P w) 3 "check_case" ["facts", "case"] (sp_check_case K CC)) (c_check_word : Cal P w K mg base (L2.CX P w) 2 "check_word" ["ruling"] (sp_cword CR)) (c_check_left : Cal P w K mg base (L2.CX P w) 1 "check_left" ["left"] (sp_cleft CT))
    (c_ruling_within : Cal P w K mg base CX0 10 "ruling_within" ["rule", "case"] (sp_rwithinO K C R)) (c_ruling_by : Cal P w K mg base CX0 1 "ruling_by" ["order", "told", "otherwise"] (sp_rby K)) : FnOk P w K mg base (L2.CX P w) 11 f fd ["self", "case", "ruling"] (sp_owSee K C R B OW CT) := by
  refine F.okX sc_OrderWatcher_see (fun vs H Q E h => by obtain ⟨N, x, S, c, xs, f, rl, os, recs, cs, r, rfl, _⟩ := h; rfl) (fun cdv A outer s H vs Q E hr h => ?_)
  obtain ⟨N, x, S, c, xs, f, rl, os, recs, cs, r, rfl, ⟨dx, b, L, us, vs, h1, h2, ⟨h3, h3'⟩, h4, h5, h6⟩, hc, hcl, hcc, hrL, hrn, hev, hz, hn6, hrecs, hos, qe, q⟩ := h
  obtain ⟨dx', a, p, l, rs, us2, hbo, hS, hP, hF, hl, hus⟩ := id h2
  have hrl : rs.length = f.nodes.length := hF.len
  refine ⟨_, (pss_cons (ps_expr (pe_calX c_check_case (hr.mono (by decide)) (takes_of rfl rfl rfl rfl) (pa_cons (pe_cprop kB.facts kB.cls (hr.mono (by decide)) (pe_fld (pv 0) rfl)) (pa_cons (pv 1) pa_nil))))
      (pss_cons (ps_expr (pe_calX c_check_word (hr.mono (by decide)) (takes_of rfl rfl rfl rfl) (pa_cons (pv 2) pa_nil)))
      (pss_cons (ps_set (i := 3) sc_OrderWatcher_see.nd rfl (Or.inr rfl) (pe_lc (own := [("rule", 5)]) (g := gName 5) (tt := tYes) rfl sc_OrderWatcher_see.nd (pi_tup (pe_cprop kB.rules kB.cls (hr.mono (by decide)) (pe_fld (pv 0) rfl))) (blkOk_by (own := [("rule", 5)]) (N := ["self", "case", "ruling", "told", "left", "rule", "order"]) (sc := defScope s_OrderWatcher_see) (by decide +kernel)) (fun _ _ _ _ _ => (pg_name (i := 5) sc_OrderWatcher_see.nd rfl (Or.inl rfl))) (fun _ _ _ _ _ => pts_nil) (fun _ _ _ _ _ => (pe_.re (pe_cal c_ruling_within (hr.mono (by decide)) (pa_cons (pv 5) (pa_cons (pv 1) pa_nil))) (by first | (dsimp only [Cx.blk]; done) | exact rfl)))))
      (pss_cons (ps_setLc (i := 4) (own := [("order", 6)]) (g := gName 6) rfl sc_OrderWatcher_see.nd rfl rfl (sw_true rfl rfl rfl (by decide +kernel)) (pi_list (pe_fld (pv 0) rfl)) (blkOk_by (own := [("order", 6)]) (N := ["self", "case", "ruling", "told", "left", "rule", "order"]) (sc := defScope s_OrderWatcher_see) (by decide +kernel)) (fun _ _ _ _ _ => (pg_name (i := 6) sc_OrderWatcher_see.nd rfl (Or.inl rfl))) (fun _ _ _ _ _ => (pts_.re (pts_one (pt_cmpR op_eq (pe_cal c_ruling_by (hr.mono (by decide)) (pa_cons (pv 6) (pa_cons (pv 3) (pa_cons (pe_cprop kB.ruling kB.cls (hr.mono (by decide)) (pe_fld (pv 0) rfl)) pa_nil)))) (pv 2) (nomark _))) (by first | (dsimp only [Cx.blk]; done) | exact rfl))) (fun _ _ _ _ _ => (pe_.re (pv 6) (by first | (dsimp only [Cx.blk]; done) | exact rfl))))
      (pss_cons (ps_expr (pe_calX c_check_left (hr.mono (by decide)) (takes_of rfl rfl rfl rfl) (pa_cons (pv 4) pa_nil)))
      (pss_cons (ps_fld (pv 0) (pv 4) rfl)
      (pss_cons (ps_expr (pe_bm PySem.F.plainAttrs_list PySem.F.slot_list_append PySem.F.type_list_append mt_append (pe_fld (pv 0) rfl) (pa_cons (pe_tup (pa_cons (pv 1) (pa_cons (pv 2) pa_nil))) pa_nil)))
      (pss_one (ps_ret (pe_callB call_len_seq (by rfl) Bl.b_len PySem.boot_len (pa_cons (pv 4) pa_nil))))))))))), ?_⟩
  refine ⟨_, rfl, x, OW, dx, _, _, rfl, h1, T, n1, rfl, b, dx', _, rfl, hbo, b, dx', _, _, rfl, hbo, rfl, _, rfl, a, c, xs, cs, rfl, hS, sqT_of hc, hcl, fun hn H1 s1 => ?_, fun i hi => by rw [hcc] at hi; cases hi⟩
  refine ⟨_, rfl, r, rfl, hrL, fun _ H2 s2 => ?_, fun z => by rw [hrn] at z; cases z⟩
  have s12 := s1.trans s2
  have h12 := s12 _ _ h1
  have hb2 := s12 _ _ hbo
  refine ⟨_, rfl, x, OW, dx, _, _, rfl, h12, T, n1, rfl, b, dx', _, rfl, hb2, b, dx', _, _, rfl, hb2, rfl, p, rfl, ⟨_, s12.tup hP⟩, fun D nD => lc_it walk_tup (fun i H' => Same H2 H' ∧ H' D = some (.lst (((f.nodes.take i).map (rwN cs)).map optS))) ⟨(Same.refl H2).put nD, upd_same⟩ (fun _ _ _ h => (s12.trans h.1).tup hP) ?_ ?_⟩
  · rintro i v Ha0 Ha hi ⟨sa, ea⟩ ⟨rfl, hv⟩
    obtain ⟨nd, hnd, hat⟩ := hF.all.get hv
    have hmem := List.mem_of_getElem? hnd
    have sx := s12.trans sa
    obtain ⟨hk1, hk2⟩ := RF.every_nodes.mp hev nd hmem
    have hsz := RF.size_mem f nd hmem
    refine ⟨rfl, yes_ ⟨_, rfl, _, rfl, _, v, c, nd, cs, rfl, hat.keeps sx.keeps, sx.tup (sqT_of hc), hk1, hk2, by omega, fun H4 s4 => grow (acc := fun i => ((f.nodes.take i).map (rwN cs)).map optS) nD (sa.trans s4) (s4 _ _ ea) ?_ ?_⟩⟩
    · rw [List.length_map, List.length_map, List.length_take, sizeLine_eq]
      omega
    · rw [take_more hnd, List.map_append, List.map_append]
      rfl
  rintro H3 ⟨s3, e3⟩
  rw [hrl, List.take_length] at e3
  have s13 := s12.trans s3
  generalize htd : f.nodes.map (rwN cs) = told at e3 q qe
  have htl : told.length = f.nodes.length := by rw [← htd, List.length_map]
  have h13 := s13 _ _ h1
  refine ⟨_, rfl, x, OW, dx, _, _, rfl, h13, T, n2, rfl, L, rfl, ⟨_, sqL_of (s13 _ _ h3)⟩, fun D2 nD2 => lc_it walk_list (fun i H' => Same H3 H' ∧ ∃ ws, H' D2 = some (.lst ws) ∧ All2 (OrdAt H') ws (leftO told rl r (os.take i))) ⟨(Same.refl H3).put nD2, [], upd_same, .nil⟩ (fun _ _ _ h => sqL_of ((s13.trans h.1) _ _ h3)) ?_ ?_⟩
  · rintro i v Ha0 Ha hi ⟨sa, ws, ea, hws⟩ ⟨rfl, hv⟩
    obtain ⟨o, hoi, hat⟩ := h4.get hv
    obtain ⟨ho1, ho2, ho3⟩ := hos.len o (List.mem_of_getElem? hoi)
    have sx := s13.trans sa
    have hba := sx _ _ hbo
    have hwl := hws.len
    have hfl : (leftO told rl r (os.take i)).length ≤ 50000 := by
      unfold leftO
      have h1 := List.length_filter_le (fun o => decide (byN told rl o = r)) (os.take i)
      have h2 := hos.many
      rw [List.length_take] at h1
      omega
    have hm : leftO told rl r (os.take (i + 1)) = leftO told rl r (os.take i) ++ if byN told rl o = r then [o] else [] := by
      unfold leftO
      rw [take_more hoi, List.filter_append]
      by_cases c1 : byN told rl o = r
      · rw [if_pos c1, List.filter_cons_of_pos (by simpa using c1), List.filter_nil]
      · rw [if_neg c1, List.filter_cons_of_neg (by simpa using c1), List.filter_nil]
    refine ⟨rfl, _, rfl, _, rfl, _, rfl, x, OW, dx, _, _, rfl, sx _ _ h1, T, n1, rfl, b, dx', _, rfl, hba, b, dx', _, _, rfl, hba, rfl, D, v, o, told, rl, rfl, hat.keeps (N := NoL) sx.keeps, sa _ _ e3, (fun k hk => by rw [htl]; exact ho3 k hk), by omega, fun H4 s4 => ⟨_, rfl, rfl, _, rfl, ?_⟩⟩
    have ea4 := s4 _ _ ea
    have sa4 := sa.trans s4
    have hws4 : All2 (OrdAt H4) ws _ := hws.mono fun _ _ z => z.keeps (N := NoL) s4.keeps
    have hat4 : OrdAt H4 v o := hat.keeps (N := NoL) (sx.trans s4).keeps
    refine bcase (fun c1 => ?_) (fun c1 => ?_)
    · rw [if_pos (V.str.inj (of_decide_eq_true c1))] at hm
      refine ⟨_, rfl, ws, ea4, by rw [sizeLine_eq]; omega, sa4.put nD2, ws ++ [v], upd_same, ?_⟩
      rw [hm]
      have kk : Keeps NoL H4 (upd H4 D2 (.lst (ws ++ [v]))) := SameX.keeps' (D := D2) (fun b o n e => by rw [upd_ne n]; exact e) (fun z => z) (fun o e => by rw [ea4] at e; cases e; exact ⟨_, rfl⟩)
      exact all2_append (hws4.mono fun _ _ z => z.keeps kk) (.cons (hat4.keeps kk) .nil)
    · rw [if_neg (fun z => of_decide_eq_false c1 (by rw [z])), List.append_nil] at hm
      exact ⟨sa4, ws, ea4, by rw [hm]; exact hws4⟩
  rintro H4 ⟨s4, ws, e4, hws⟩
  rw [h4.len, List.take_length] at hws
  have s14 := s13.trans s4
  have hwl := hws.len
  refine ⟨_, rfl, D2, ws, rfl, e4, fun hne => ?_, fun he => qe (by rw [he] at hwl; exact List.length_eq_zero_iff.mp hwl.symm) H4 s14⟩
  have q := q fun z => hne (by rw [z] at hwl; exact List.length_eq_zero_iff.mp hwl)
  have h14 := s14 _ _ h1
  refine ⟨_, rfl, _, rfl, x, OW, dx, _, rfl, h14, T, n2, (by show 3 < 1000; decide), ?_⟩
  have x5 : SameX x H4 (upd H4 x (.ins OW dx (owF b D2 S))) := fun b' ob n e => by rw [upd_ne n]; exact e
  have h15 : (upd H4 x (.ins OW dx (owF b D2 S))) x = some (.ins OW dx (owF b D2 S)) := upd_same
  have kS : S ≠ x := fun z => by rw [z, h1] at h5; cases h5
  show tSeq _ _ _ _ (upd H4 x (.ins OW dx (owF b D2 S)))
  generalize upd H4 x (.ins OW dx (owF b D2 S)) = H5 at x5 h15 ⊢
  have e5 := x5 _ _ kS (s14 _ _ h5)
  have hvl := h6.len
  refine ⟨_, rfl, x, OW, dx, _, _, rfl, h15, T, n3, rfl, (.inl ⟨rfl, vs, sqL_of e5⟩), _, rfl, _, rfl, (by show 2 ≤ sizeLine; decide), fun t nt => ⟨S, vs, _, rfl, rfl, (by rw [upd_ne (ne_of_none e5 nt)]; exact e5), (by rw [sizeLine_eq]; omega), ?_⟩⟩
  have nDS : D2 ≠ S := fun z => by subst z; rw [s13 _ _ h5] at nD2; cases nD2
  have nDx : D2 ≠ x := fun z => by subst z; rw [h13] at nD2; cases nD2
  have f6 : ∀ b' o, b' ≠ S → H5 b' = some o → (upd (upd H5 t (.tup [.ref c, .str r])) S (.lst (vs ++ [.ref t]))) b' = some o := fun b' o n e => by rw [upd_ne n, upd_ne (ne_of_none e nt)]; exact e
  have m6 : (upd (upd H5 t (.tup [.ref c, .str r])) S (.lst (vs ++ [.ref t]))) S = some (.lst (vs ++ [.ref t])) := upd_same
  have nt' : t ≠ S := fun z => by subst z; rw [e5] at nt; cases nt
  have t6 : (upd (upd H5 t (.tup [.ref c, .str r])) S (.lst (vs ++ [.ref t]))) t = some (.tup [.ref c, .str r]) := by rw [upd_ne nt', upd_same]
  generalize upd (upd H5 t (.tup [.ref c, .str r])) S (.lst (vs ++ [.ref t])) = H6 at f6 m6 t6 ⊢
  have fr : ∀ b' o, b' ≠ x → b' ≠ S → H b' = some o → H6 b' = some o := fun b' o n1 n2 e => f6 _ _ n2 (x5 _ _ n1 (s14 _ _ e))
  have fr4 : ∀ b' o, b' ≠ x → b' ≠ S → H4 b' = some o → H6 b' = some o := fun b' o n1 n2 e => f6 _ _ n2 (x5 _ _ n1 e)
  have kk : Keeps (fun l => N l ∧ l ≠ S) H H6 := owKeeps h1 h5 (fun z => z.2 rfl) fr
  have kn : Keeps NoL H H6 := owKeeps h1 h5 (fun z => z) fr
  have k4 : Keeps NoL H4 H6 := owKeeps h14 (s14 _ _ h5) (fun z => z) fr4
  have eD6 := fr4 _ _ nDx nDS e4
  have q := q H6 fr ⟨dx, b, D2, ws, vs ++ [.ref t], f6 _ _ (Ne.symm kS) h15, h2.keeps kk, ⟨eD6, nDS⟩, hws.mono fun _ _ z => z.keeps k4, m6, all2_append (h6.mono fun _ _ z => z.keeps kn) (.cons ⟨t, c, rfl, t6, kn _ _ stays_tup hc, hcl⟩ .nil)⟩
  refine ⟨_, rfl, _, _, rfl, .inl (sqL_of eD6), ?_⟩
  rw [hwl]
  exact q
theorem nodup_le : ∀ (n : Nat) (o : List Nat), o.Nodup → (∀ p ∈ o, p < n) → o.length ≤ n
  | 0, o, _, h => by
    cases o with
    | nil => exact Nat.le_refl _
    | cons a r => exact absurd (h a List.mem_cons_self) (Nat.not_lt_zero _)
  | n + 1, o, hn, h => by
    have h1 := nodup_le n (o.erase n) (hn.erase n) (fun p hp => by
      have h2 := (hn.mem_erase_iff).mp hp
      have h3 := h p h2.2
      omega)
    rw [List.length_erase] at h1
    split at h1 <;> omega
theorem in_ord {n i : Nat} {o : List Nat} (h1 : o.length = n) (h2 : o.Nodup) (h3 : ∀ p ∈ o, p < n) (hi : i < n) : i ∈ o := by
  by_cases c : i ∈ o
  · exact c
  · have := nodup_le n (i :: o) (List.nodup_cons.mpr ⟨c, h2⟩) (fun p hp => (List.mem_cons.mp hp).elim (fun e => e ▸ hi) (h3 p))
    rw [List.length_cons] at this
    omega
theorem eqV_int {a b : Int} : eqV (.int a) (.int b) = true ↔ a = b := by simp [eqV]
theorem idx_at {i : Nat} : ∀ {o : List Nat}, i ∈ o → o[o.idxOf i]? = some i
  | a :: r, h => by
    rw [List.idxOf_cons]
    by_cases c : a = i
    · subst c; simp
    · have h2 : i ∈ r := (List.mem_cons.mp h).elim (fun e => absurd e.symm c) id
      have : (a == i) = false := by simp [c]
      rw [this]
      exact idx_at h2
theorem ord_at {o : List Nat} {i : Nat} (h : i ∈ o) : (o.map fun k => V.int (k : Nat))[o.idxOf i]? = some (.int (i : Nat)) := by
  rw [List.getElem?_map, idx_at h]
  rfl
theorem ord_first {o : List Nat} {i : Nat} (hn : o.Nodup) (h : i ∈ o) : ∀ (m : Nat) (z' : V), m < o.idxOf i → (o.map fun k => V.int (k : Nat))[m]? = some z' → eqV z' (.int (i : Nat)) = false := fun m z' hm hz' => by
  rw [List.getElem?_map] at hz'
  obtain ⟨y, hy, rfl⟩ := Option.map_eq_some_iff.mp hz'
  cases e : eqV (.int (y : Nat)) (.int (i : Nat)) with
  | false => rfl
  | true =>
    have e := Int.ofNat.inj (eqV_int.mp e)
    subst e
    have := (List.getElem?_inj (List.getElem?_eq_some_iff.mp hy).1 hn).mp (hy.trans (idx_at h).symm)
    omega
def sp_owSure (K : PySem.W.Frag) (C R B OW : Addr) : Sp := fun vs H Q _ => ∃ (N : Addr → Prop) (x S : Addr) (xs : List Str) (f : RF) (rl : Str) (os : List (List Nat)) (recs : List (List Str × Str)) (a b : Str) (i j : Nat), vs = [.ref x, .str a, .str b] ∧ WatAt K C R B OW N H x S xs f rl os recs ∧ (f.nodes.map fun n => n.nm).Nodup ∧ (f.nodes.map fun n => n.nm)[i]? = some a ∧ (f.nodes.map fun n => n.nm)[j]? = some b ∧ f.nodes.length ≤ 6 ∧ OrdOk f.nodes.length os ∧ ∀ H', Same H H' → Q (.bl (os.all fun o => decide (o.idxOf i < o.idxOf j))) H'
theorem ok_owSure {f : Addr} {fd : FuncData} (F : Fun K "sure" "OrderWatcher.sure" s_OrderWatcher_sure f fd) (Bl : Blt mg) (T : Cls K OW) (n1 : NoAttr K OW "_book") (n2 : NoAttr K OW "_left") (kB : BookX P w K mg base B) (kR : RuleX P w K mg base R) : FnOk P w K mg base CX0 3 f fd ["self", "name", "other"] (sp_owSure K C R B OW) := by
  refine F.ok sc_OrderWatcher_sure (fun vs H Q E h => by obtain ⟨N, x, S, xs, f, rl, os, recs, a, b, i, j, rfl, _⟩ := h; rfl) (fun cdv A outer s H vs Q E hr h => ?_)
  obtain ⟨N, x, S, xs, f, rl, os, recs, na, nb, i, j, rfl, ⟨dx, b, L, us, vs, h1, h2, ⟨h3, h3'⟩, h4, h5, h6⟩, hnn, hi, hj, hn6, hos, q⟩ := h
  obtain ⟨dx', a, p, l, rs, us2, hbo, hS, hP, hF, hl, hus⟩ := id h2
  have hrl : rs.length = f.nodes.length := hF.len
  refine ⟨_, (pss_cons (ps_setLc (i := 3) (own := [("rule", 6)]) (g := gName 6) (tt := tYes) rfl sc_OrderWatcher_sure.nd rfl rfl (sw_true rfl rfl rfl (by decide +kernel)) (pi_tup (pe_cprop kB.rules kB.cls (hr.mono (by decide)) (pe_fld (pv 0) rfl))) (blkOk_by (own := [("rule", 6)]) (N := ["self", "name", "other", "names", "first", "second", "rule", "order"]) (sc := defScope s_OrderWatcher_sure) (by decide +kernel)) (fun _ _ _ _ _ => (pg_name (i := 6) sc_OrderWatcher_sure.nd rfl (Or.inl rfl))) (fun _ _ _ _ _ => pts_nil) (fun _ _ _ _ _ => (pe_.re (pe_cprop kR.name kR.cls (hr.mono (by decide)) (pv 6)) (by first | (dsimp only [Cx.blk]; done) | exact rfl))))
      (pss_cons (ps_if (PW.pt (pw_or (pt_cmpR op_notIn_seq (pv 1) (pv 3) rfl) (pw_or1 (pt_cmpR op_notIn_seq (pv 2) (pv 3) rfl)))) pss_never pss_nil)
      (pss_cons (ps_set (i := 4) sc_OrderWatcher_sure.nd rfl (Or.inr rfl) (pe_bm PySem.F.plainAttrs_list PySem.F.slot_list_index PySem.F.type_list_index mt_index (pv 3) (pa_cons (pv 1) pa_nil)))
      (pss_cons (ps_set (i := 5) sc_OrderWatcher_sure.nd rfl (Or.inr rfl) (pe_bm PySem.F.plainAttrs_list PySem.F.slot_list_index PySem.F.type_list_index mt_index (pv 3) (pa_cons (pv 2) pa_nil)))
      (pss_one (ps_ret (pe_callB (cr_all rfl) (by rfl) Bl.b_all PyProof.Rows.boot_all (pa_cons (pe_lc (own := [("order", 7)]) (g := gName 7) (tt := tYes) rfl sc_OrderWatcher_sure.nd (pi_list (pe_fld (pv 0) rfl)) (blkOk_by (own := [("order", 7)]) (N := ["self", "name", "other", "names", "first", "second", "rule", "order"]) (sc := defScope s_OrderWatcher_sure) (by decide +kernel)) (fun _ _ _ _ _ => (pg_name (i := 7) sc_OrderWatcher_sure.nd rfl (Or.inl rfl))) (fun _ _ _ _ _ => pts_nil) (fun _ _ _ _ _ => (pe_.re (pe_cmpR op_lt (pe_mG tyok_tup PySem.F.plainAttrs_tuple PySem.F.slot_tuple_index PySem.F.type_tuple_index mt_tindex (pv 7) (pa_cons (pv 4) pa_nil)) (pe_mG tyok_tup PySem.F.plainAttrs_tuple PySem.F.slot_tuple_index PySem.F.type_tuple_index mt_tindex (pv 7) (pa_cons (pv 5) pa_nil)) (nomark _)) (by first | (dsimp only [Cx.blk]; done) | exact rfl)))) pa_nil)))))))), ?_⟩
  refine ⟨_, rfl, x, OW, dx, _, _, rfl, h1, T, n1, rfl, b, dx', _, rfl, hbo, b, dx', _, _, rfl, hbo, rfl, p, rfl, ⟨_, hP⟩, fun D nD => lc_it walk_tup (fun i H' => Same H H' ∧ H' D = some (.lst (((f.nodes.take i).map fun n => n.nm).map V.str))) ⟨(Same.refl H).put nD, upd_same⟩ (fun _ _ _ h => h.1.tup hP) ?_ ?_⟩
  · rintro k v Ha0 Ha hi ⟨sa, ea⟩ ⟨rfl, hv⟩
    obtain ⟨nd, hnd, o3, rfl, dx3, c3, p3, l3, ws3, ho3, _⟩ := hF.all.get hv
    refine ⟨rfl, yes_ ⟨_, rfl, o3, dx3, _, rfl, sa _ _ ho3, o3, dx3, _, _, rfl, sa _ _ ho3, rfl, grow (acc := fun i => ((f.nodes.take i).map fun n => n.nm).map V.str) nD sa ea ?_ ?_⟩⟩
    · rw [List.length_map, List.length_map, List.length_take, sizeLine_eq]
      omega
    · rw [take_more hnd, List.map_append, List.map_append]
      rfl
  rintro H1 ⟨s1, e1⟩
  rw [hrl, List.take_length] at e1
  have hnl : (f.nodes.map fun n => n.nm).length = f.nodes.length := List.length_map _
  have hil : i < f.nodes.length := hnl ▸ (List.getElem?_eq_some_iff.mp hi).1
  have hjl : j < f.nodes.length := hnl ▸ (List.getElem?_eq_some_iff.mp hj).1
  generalize (f.nodes.map fun n => n.nm) = ns at e1 hi hj hnn hnl
  have hidx : ∀ (k : Nat) (z : Str), ns[k]? = some z → ∀ (m : Nat) (z' : V), m < k → (ns.map V.str)[m]? = some z' → eqV z' (.str z) = false := fun k z hk m z' hm hz' => by
    rw [List.getElem?_map] at hz'
    obtain ⟨y, hy, rfl⟩ := Option.map_eq_some_iff.mp hz'
    have : ¬ y = z := fun e => by
      subst e
      have := (List.getElem?_inj (List.getElem?_eq_some_iff.mp hy).1 hnn).mp (hy.trans hk.symm)
      omega
    simp [eqV, this]
  refine ⟨_, rfl, _, rfl, D, _, rfl, .inl (sqL_of e1), rfl, flat_strs _, ?_⟩
  rw [if_pos rfl, inV_str, decide_eq_true (List.mem_of_getElem? hi)]
  refine ⟨_, rfl, iteF ⟨_, rfl, _, rfl, D, _, rfl, .inl (sqL_of e1), rfl, flat_strs _, ?_⟩⟩
  rw [if_pos rfl, inV_str, decide_eq_true (List.mem_of_getElem? hj)]
  refine ⟨_, rfl, iteF ?_⟩
  refine ⟨_, rfl, .inl ⟨rfl, _, sqL_of e1⟩, _, rfl, D, _, _, i, .str na, rfl, rfl, sqL_of e1, rfl, flat_strs _, by rw [List.getElem?_map, hi]; rfl, by simp [eqV], hidx i na hi, ?_⟩
  refine ⟨_, rfl, .inl ⟨rfl, _, sqL_of e1⟩, _, rfl, D, _, _, j, .str nb, rfl, rfl, sqL_of e1, rfl, flat_strs _, by rw [List.getElem?_map, hj]; rfl, by simp [eqV], hidx j nb hj, ?_⟩
  have h11 := s1 _ _ h1
  have e3 := s1 _ _ h3
  refine ⟨_, rfl, x, OW, dx, _, _, rfl, h11, T, n2, rfl, L, rfl, ⟨_, sqL_of e3⟩, fun D2 nD2 => lc_it walk_list (fun k H' => Same H1 H' ∧ H' D2 = some (.lst (((os.take k).map fun o => decide (o.idxOf i < o.idxOf j)).map V.bl))) ⟨(Same.refl H1).put nD2, upd_same⟩ (fun _ _ _ h => sqL_of (h.1 _ _ e3)) ?_ ?_⟩
  · rintro k v Ha0 Ha hk ⟨sa, ea⟩ ⟨rfl, hv⟩
    obtain ⟨o, hoi, t, ot, rfl, ht, hot⟩ := h4.get hv
    obtain ⟨ho1, ho2, ho3⟩ := hos.len o (List.mem_of_getElem? hoi)
    have hta := (s1.trans sa) _ _ ht
    have hin := in_ord ho1 ho2 ho3 hil
    have hjn := in_ord ho1 ho2 ho3 hjl
    refine ⟨rfl, yes_ ⟨_, rfl, ⟨t, ot, _, rfl, hta, hot⟩, _, rfl, t, _, _, o.idxOf i, .int (i : Nat), rfl, rfl, .inl (.inr ⟨_, hta⟩), rfl, flat_ints o, ord_at hin, eqV_int.mpr rfl, ord_first ho2 hin, ?_⟩⟩
    refine ⟨_, rfl, ⟨t, ot, _, rfl, hta, hot⟩, _, rfl, t, _, _, o.idxOf j, .int (j : Nat), rfl, rfl, .inl (.inr ⟨_, hta⟩), rfl, flat_ints o, ord_at hjn, eqV_int.mpr rfl, ord_first ho2 hjn, _, _, rfl, rfl, ?_⟩
    dsimp only
    rw [show decide (((o.idxOf i : Nat) : Int) < ((o.idxOf j : Nat) : Int)) = decide (o.idxOf i < o.idxOf j) from by simp]
    refine grow (acc := fun k => ((os.take k).map fun o => decide (o.idxOf i < o.idxOf j)).map V.bl) nD2 sa ea ?_ ?_
    · have := hos.many
      rw [List.length_map, List.length_map, List.length_take, sizeLine_eq]
      omega
    · rw [take_more hoi, List.map_append, List.map_append]
      rfl
  rintro H2 ⟨s2, e2⟩
  rw [h4.len, List.take_length] at e2
  have q := q H2 (s1.trans s2)
  refine ⟨D2, _, rfl, sqL_of e2, ?_⟩
  rw [List.all_map]
  exact q
end
end Sc
namespace Sc
open PySem PySem.Spec PyProof.Rows L2 LamX
theorem sc__law_word : FnScope ["_law_work", "e", "_law_kinds", "_law_words"] ["_law_work"] (defScope s__law_word) := ⟨rfl, rfl, rfl, by decide +kernel, rfl, by decide +kernel, by decide +kernel⟩
structure GWord (mg : Str → Option Value) (cl : Nat → Addr) (CE : Addr) : Prop where
  m_CourtError : mg "CourtError" = some (.ref CE)
  m_Contradiction : mg "Contradiction" = some (.ref (cl 0))
  m_InvalidCase : mg "InvalidCase" = some (.ref (cl 1))
  m_InvalidRuling : mg "InvalidRuling" = some (.ref (cl 2))
  m_TooMany : mg "TooMany" = some (.ref (cl 3))
  m_UnknownRule : mg "UnknownRule" = some (.ref (cl 4))
/-- the class at D is the k-th -/
structure WordRow (K : PySem.W.Frag) (cl : Nat → Addr) (CE D : Addr) (k : Nat) : Prop where
  err : ErrC K D
  ex : PySem.W.exmOne K (.ref D) (.ref CE) = some true
  kit : ∀ i, i < 5 → PySem.W.kitOne K (.ref D) (.ref (cl i)) = some (decide (i = k))
/-- where the lambda of _law_word raises -/
abbrev EK (K : PySem.W.Frag) (cl : Nat → Addr) (CE : Addr) (Q : VK) : XK := fun cls d H1 => ∃ D : Addr, cls = .ref D ∧ WordRow K cl CE D 0 ∧ d = none ∧ ∀ H2, Same H1 H2 → Q (.str "Contradiction") H2
/-- _law_word -/
def TWord (K : PySem.W.Frag) (cl : Nat → Addr) (CE : Addr) : (XK → Hp → VK → Prop) → Hp → VK → Prop := fun tl H Q => tl (EK K cl CE Q) H Q
theorem fourS {σ : L2.St} (h : σ.length = 4) : ∃ x0 x1 x2 x3, σ = [x0, x1, x2, x3] := by
  match σ, h with
  | [a, b, c, d], _ => exact ⟨a, b, c, d, rfl⟩
theorem word_gives {X : Cx} {g : Addr} {cdg : Value} {q : Str} {cl : Nat → Addr} {CE : Addr} (B : Blt X.mg) (G : GWord X.mg cl CE) : GivesTo X ["_law_work", "e", "_law_kinds", "_law_words"] "_law_word" (defScope s__law_word) g cdg (defBody s__law_word) "_law_work" q (TWord X.K cl CE) := by
  intro f c' s H Q tl act hc h
  refine ⟨_, pss_one (ps_try_as (X := (cxOf C8.CX0 X.prog X.w X.K X.mg X.base ["_law_work", "e", "_law_kinds", "_law_words"] "_law_word" (defScope s__law_word) g cdg X.A X.stack s H C8.E0).nox) (i := 1) (c := .ref CE)
      (tb := fun W D σ H => ∃ Ech : XK, (∀ cls d σ' H', Ech cls d H' → σ'.length = 4 → W cls d σ' H') ∧ σ[0]? = some (some (.ref f)) ∧ H c' = some (CodeO c' q) ∧ tl Ech H fun v H1 => D.rt v H1)
      (Wout := fun _ _ _ _ => False) rfl rfl sc__law_word.nd rfl rfl ⟨rfl, by decide, .inl G.m_CourtError⟩ L2.takes0 (fun W pn xe tk _ => ?_)
      (fun a oe cls d pn hz hf => pss_.re (pss_cons (ps_set (i := 2) sc__law_word.nd rfl (Or.inl rfl) (pe_lst (pa_cons (pe_callB (call_isG hz hf) (by rfl) B.b_isinstance PyProof.Rows.boot_isinstance (pa_cons (pv 1) (pa_cons (pe_glob (v := .ref (cl 0)) rfl G.m_Contradiction rfl) pa_nil))) (pa_cons (pe_callB (call_isG hz hf) (by rfl) B.b_isinstance PyProof.Rows.boot_isinstance (pa_cons (pv 1) (pa_cons (pe_glob (v := .ref (cl 1)) rfl G.m_InvalidCase rfl) pa_nil))) (pa_cons (pe_callB (call_isG hz hf) (by rfl) B.b_isinstance PyProof.Rows.boot_isinstance (pa_cons (pv 1) (pa_cons (pe_glob (v := .ref (cl 2)) rfl G.m_InvalidRuling rfl) pa_nil))) pa_nil)))))
      (pss_cons (ps_set (i := 2) sc__law_word.nd rfl (Or.inl rfl) (pe_op op_cat (pv 2) (pe_lst (pa_cons (pe_callB (call_isG hz hf) (by rfl) B.b_isinstance PyProof.Rows.boot_isinstance (pa_cons (pv 1) (pa_cons (pe_glob (v := .ref (cl 3)) rfl G.m_TooMany rfl) pa_nil))) (pa_cons (pe_callB (call_isG hz hf) (by rfl) B.b_isinstance PyProof.Rows.boot_isinstance (pa_cons (pv 1) (pa_cons (pe_glob (v := .ref (cl 4)) rfl G.m_UnknownRule rfl) pa_nil))) (pa_cons pe_bl pa_nil))))))
      (pss_cons (ps_set (i := 3) sc__law_word.nd rfl (Or.inl rfl) (pe_lst (pa_cons pe_str (pa_cons pe_str (pa_cons pe_str (pa_cons pe_str (pa_cons pe_str (pa_cons pe_str pa_nil))))))))
      (pss_one (ps_ret (pe_ix ix_list (pv 3) (pe_bm PySem.F.plainAttrs_list PySem.F.slot_list_index PySem.F.type_list_index mt_index (pv 2) (pa_cons pe_bl pa_nil)) (fun _ _ => rfl))))))) (by first | (dsimp only [Cx.suite]; done) | exact rfl))), ?_⟩
  · refine ⟨fun pins s' σ H' D I h' => ?_⟩
    obtain ⟨Ech, hW, h1, h2, h3⟩ := h'
    exact (pss_one (ps_ret (act _ pn xe Ech _ _ (takes_len tk) fun cls d σ' H'' z e => hW cls d σ' H'' z e))).run pins s' σ H' D I ⟨h1, h2, h3⟩
  · refine ⟨_, fun cls d σ' H1 z hl => ?_, rfl, hc, h⟩
    obtain ⟨D, rfl, R, rfl, qq⟩ := z
    obtain ⟨x0, x1, x2, x3, rfl⟩ := fourS hl
    have xd : ∀ H, XdOk none H := fun H dd e => nomatch e
    refine ⟨true, R.ex, fun _ ea _ => ?_, fun z => nomatch z⟩
    refine ⟨_, rfl, D, _, _, _, rfl, R.err, xd _, rfl, (fun u r => r), R.kit 0 (by decide), _, rfl, D, _, _, _, rfl, R.err, xd _, rfl, (fun u r => r), R.kit 1 (by decide), _, rfl, D, _, _, _, rfl, R.err, xd _, rfl, (fun u r => r), R.kit 2 (by decide), (by show 3 ≤ sizeLine; rw [sizeLine_eq]; decide), fun L nL => ?_⟩
    have s2 : Same H1 (upd H1 L (.lst [.bl (decide (0 = 0)), .bl (decide (1 = 0)), .bl (decide (2 = 0))])) := (Same.refl H1).put nL
    have e2 : (upd H1 L (.lst [.bl (decide (0 = 0)), .bl (decide (1 = 0)), .bl (decide (2 = 0))])) L = some (.lst [.bl (decide (0 = 0)), .bl (decide (1 = 0)), .bl (decide (2 = 0))]) := upd_same
    generalize upd H1 L (.lst [.bl (decide (0 = 0)), .bl (decide (1 = 0)), .bl (decide (2 = 0))]) = H2 at s2 e2 ⊢
    refine ⟨_, rfl, _, rfl, D, _, _, _, rfl, R.err, xd _, rfl, (fun u r => r), R.kit 3 (by decide), _, rfl, D, _, _, _, rfl, R.err, xd _, rfl, (fun u r => r), R.kit 4 (by decide), (by show 3 ≤ sizeLine; rw [sizeLine_eq]; decide), fun L2 n2 => ?_⟩
    have s3 : Same H2 (upd H2 L2 (.lst [.bl (decide (3 = 0)), .bl (decide (4 = 0)), .bl true])) := (Same.refl H2).put n2
    have e3 : (upd H2 L2 (.lst [.bl (decide (3 = 0)), .bl (decide (4 = 0)), .bl true])) L2 = some (.lst [.bl (decide (3 = 0)), .bl (decide (4 = 0)), .bl true]) := upd_same
    generalize upd H2 L2 (.lst [.bl (decide (3 = 0)), .bl (decide (4 = 0)), .bl true]) = H3 at s3 e3 ⊢
    refine ⟨L, L2, _, _, rfl, rfl, s3 _ _ e2, e3, (by show 6 ≤ sizeLine; rw [sizeLine_eq]; decide), fun L4 n4 => ?_⟩
    show (tSeq _ _) _ _ (upd H3 L4 (.lst [.bl (decide (0 = 0)), .bl (decide (1 = 0)), .bl (decide (2 = 0)), .bl (decide (3 = 0)), .bl (decide (4 = 0)), .bl true]))
    have s4 : Same H3 (upd H3 L4 (.lst [.bl (decide (0 = 0)), .bl (decide (1 = 0)), .bl (decide (2 = 0)), .bl (decide (3 = 0)), .bl (decide (4 = 0)), .bl true])) := (Same.refl H3).put n4
    have e4 : (upd H3 L4 (.lst [.bl (decide (0 = 0)), .bl (decide (1 = 0)), .bl (decide (2 = 0)), .bl (decide (3 = 0)), .bl (decide (4 = 0)), .bl true])) L4 = some (.lst [.bl (decide (0 = 0)), .bl (decide (1 = 0)), .bl (decide (2 = 0)), .bl (decide (3 = 0)), .bl (decide (4 = 0)), .bl true]) := upd_same
    generalize upd H3 L4 (.lst [.bl (decide (0 = 0)), .bl (decide (1 = 0)), .bl (decide (2 = 0)), .bl (decide (3 = 0)), .bl (decide (4 = 0)), .bl true]) = H4 at s4 e4 ⊢
    refine ⟨(by show 6 ≤ sizeLine; rw [sizeLine_eq]; decide), fun L5 n5 => ?_⟩
    have s5 : Same H4 (upd H4 L5 (.lst [.str "Contradiction", .str "InvalidCase", .str "InvalidRuling", .str "TooMany", .str "UnknownRule", .str "another"])) := (Same.refl H4).put n5
    have e5 : (upd H4 L5 (.lst [.str "Contradiction", .str "InvalidCase", .str "InvalidRuling", .str "TooMany", .str "UnknownRule", .str "another"])) L5 = some (.lst [.str "Contradiction", .str "InvalidCase", .str "InvalidRuling", .str "TooMany", .str "UnknownRule", .str "another"]) := upd_same
    generalize upd H4 L5 (.lst [.str "Contradiction", .str "InvalidCase", .str "InvalidRuling", .str "TooMany", .str "UnknownRule", .str "another"]) = H5 at s5 e5 ⊢
    have e45 := s5 _ _ e4
    refine ⟨_, rfl, _, rfl, .inl ⟨rfl, _, sqL_of e45⟩, L4, _, .bl true, 0, .bl true, rfl, rfl, sqL_of e45, rfl, rfl, rfl, rfl, fun m z hm hz => absurd hm (Nat.not_lt_zero _), ?_⟩
    exact ⟨L5, _, _, _, rfl, rfl, sqL_of e5, atI_nat (j := 0) rfl, qq _ (((s2.trans s3).trans s4).trans s5)⟩
section
/-- _law_word(lambda: ..) -/
theorem pe_wordlam {X : Cx} {c PT : Addr} {k : Nat} {g : Addr} {fd : FuncData} {cl : Nat → Addr} {CE : Addr} {params : Arguments} {body : Expr} {scope : Scope} {t : XK → TE} {p lpos pos : Pos}
    (F : Fun X.K "_law_word" "_law_word" s__law_word g fd) (hm : X.mg "_law_word" = some (.ref g)) (hb : Binds X.K fd ["_law_work"] []) (B : Blt X.mg) (G : GWord X.mg cl CE) (TB : LamX.TabB X.base X.mg c PT) (hcode : X.env.code = .ref c)
    (hr : Room (k + 2) X.A) (L : LamX.LamS X.env.scope scope) (hdef : defaultsOf params X.env = ([], []))
    (hbind : ∀ (q : Str) (cl : List (Str × Addr)) (pm cv ctv : Value), bindArgs (PySem.W.kla_fn "<lambda>" q params body scope cl pm cv ctv) {} = pure [])
    (hbody : ∀ (A : Around) (outer : List Env) (s : Shared) (H : Hp) (E : XK) (f c' : Addr), Room k (A.deeper (LamX.lamEnv X scope s.heap.objs.size f c')) → PE (LamX.lamCx X A outer s H E scope f c') body (t E)) (hg : Gl X "_law_word" := by rfl) :
    PE X (.Call (.Name "_law_word" p) [.Lambda params body scope lpos] [] pos) (LamX.tLam [(PT, X.env.qual ++ "<lambda>")] (TWord X.K cl CE) t) := by
  obtain ⟨oc, od, kV, doc, pm, an, cdv, ct, osl, rfl, lk, hcd⟩ := F.ex
  exact LamX.pe_lamcall hg hm F.kp lk hcd hb sc__law_word rfl (Or.inl rfl) (word_gives B G) TB hcode (List.mem_singleton.mpr rfl) (fun p hp _ => by rw [List.mem_singleton.mp hp]) hr L hdef hbind hbody
end
end Sc
namespace Sc
open PySem PySem.Spec PyProof.Rows L2
section
variable {P : Program} {w : World} {K : PySem.W.Frag} {mg : Str → Option Value} {base : Heap}
/-- a def whose code is known -/
structure FunC (K : PySem.W.Frag) (x qual : Str) (st : Stmt) (f : Addr) (fd : FuncData) (c : Addr) : Prop where
  ex : ∃ (oc : Value) (od : Option Addr) (kV doc pm : Value) (an : Option Addr) (ct : Value) (osl : Array (Option Value)), fd = PySem.W.fnOf x qual (defArgs st) (defBody st) (defScope st) .none kV doc pm an (.ref c) ct ∧ K.lookup f = some ⟨oc, od, .func fd, osl⟩ ∧ PySem.W.codeIn K (.ref c) qual = true
  kp : PySem.W.keepIn K (.ref f) = true
theorem FunC.ok {x qual : Str} {st : Stmt} {f : Addr} {fd : FuncData} {c : Addr} {N ps : List Str} {k : Nat} {sp : Sp} (F : FunC K x qual st f fd c) (S : FnScope N ps (defScope st))
    (len : ∀ (vs : List V) (H : Hp) (Q : VK) (E : XK), sp vs H Q E → vs.length = ps.length)
    (hb : ∀ (A : Around) (outer : List Env) (s : Shared) (H : Hp) (vs : List V) (Q : VK) (E : XK), Room k (A.deeper (envOfC qual (defScope st) s.heap.objs.size f (.ref c))) → sp vs H Q E →
      ∃ t, PSs (cxOf CX0 P w K mg base N qual (defScope st) f (.ref c) A outer s H E).nox (defBody st) t ∧ t { nx := fun x H' => Q .non H', rt := Q } (L2.start N vs) H) : FnOk P w K mg base CX0 (k + 1) f fd ps sp := by
  obtain ⟨oc, od, kV, doc, pm, an, ct, osl, rfl, lk, hcd⟩ := F.ex
  exact fn_of lk hcd S len fun A outer s H vs Q E hr h => by
    obtain ⟨t, h1, h2⟩ := hb A outer s H vs Q E hr h
    exact ⟨t, PSs.nox h1, h2⟩
end
end Sc
namespace Sc
open PySem PySem.Spec PyProof.Rows L2
/-- a block within a block that uses no name from around -/
theorem blkOk_any {N : List Str} {sc sc' scope : Scope} {own : List (Str × Nat)} (h : BlkOk N sc scope own) (nf : (scope.names.all fun y => match y.2 with | .free => false | _ => true) = true) : BlkOk N sc' scope own :=
  ⟨h.kind, h.uniq, h.ix, fun y hy e => by
    have q := List.all_eq_true.mp nf y hy
    rw [e] at q
    exact Bool.noConfusion q, h.own⟩
/-! ### a list of whatever items against an empty one -/
def rNilE (neg : Bool) : R2 := fun x y H Q => ∃ (a b : Addr) (xs : List V), x = .ref a ∧ y = .ref b ∧ H a = some (.lst xs) ∧ H b = some (.lst []) ∧ Q (.bl (if neg then !xs.isEmpty else xs.isEmpty)) H
section
variable {X : Cx}
theorem op_neE (hu : X.A.units + 64 < cLine) : OpR X (compareOp .NotEq) (rNilE true) := by
  intro pins s σ H x y v u Q I rx ry h
  obtain ⟨a, b, xs, rfl, rfl, ha, hb, q⟩ := h
  cases rx
  cases ry
  obtain ⟨its, r, p1, _⟩ := I.list (.inl (.inl ha))
  obtain ⟨its2, r2, p2, _⟩ := I.list (.inl (.inl hb))
  have h1 := r.length
  have h2 := r2.length
  have z2 : its2 = [] := List.length_eq_zero_iff.mp (by rw [← h2]; rfl)
  subst z2
  cases xs with
  | nil =>
    have z1 : its = [] := List.length_eq_zero_iff.mp (by rw [← h1]; rfl)
    subst z1
    exact EqBoolInt.of_rcne (SeqAt.RcNeAt.lists (e := fun _ => true) p1.isList p2.isList rfl (by omega) (fun j hj _ => absurd hj (Nat.not_lt_zero j))) ⟨.bl _, H, I, rfl, q⟩
  | cons z r0 =>
    exact EqBoolInt.of_rcne (SeqAt.RcNeAt.lists_lengths p1.isList p2.isList (by
      have : its.length ≠ 0 := by rw [← h1, List.length_cons]; omega
      simpa using fun e => this (by rw [e]; rfl)) (by omega)) ⟨.bl _, H, I, rfl, q⟩
theorem op_eqE (hu : X.A.units + 64 < cLine) : OpR X (compareOp .Eq) (rNilE false) := by
  intro pins s σ H x y v u Q I rx ry h
  obtain ⟨a, b, xs, rfl, rfl, ha, hb, q⟩ := h
  cases rx
  cases ry
  obtain ⟨its, r, p1, _⟩ := I.list (.inl (.inl ha))
  obtain ⟨its2, r2, p2, _⟩ := I.list (.inl (.inl hb))
  have h1 := r.length
  have h2 := r2.length
  have z2 : its2 = [] := List.length_eq_zero_iff.mp (by rw [← h2]; rfl)
  subst z2
  cases xs with
  | nil =>
    have z1 : its = [] := List.length_eq_zero_iff.mp (by rw [← h1]; rfl)
    subst z1
    exact EqBoolInt.of_rc (SeqAt.RcAt.lists (e := fun _ => true) p1.isList p2.isList rfl (by omega) (fun j hj _ => absurd hj (Nat.not_lt_zero j))) ⟨.bl _, H, I, rfl, q⟩
  | cons z r0 =>
    exact EqBoolInt.of_rc (SeqAt.RcAt.lists_lengths p1.isList p2.isList (by
      have : its.length ≠ 0 := by rw [← h1, List.length_cons]; omega
      simpa using fun e => this (by rw [e]; rfl)) (by omega)) ⟨.bl _, H, I, rfl, q⟩
end
end Sc
namespace Sc
open PySem PySem.Spec PyProof.Rows L2
/-! ### what is right of a book, and stays so -/
structure Inv (xs : List Str) (f : RF) (rl : Str) (m : Nat) : Prop where
  ev : f.every (N2 xs)
  nd : f.names.Nodup
  dp : f.dep ≤ 6
  sz : f.size ≤ m
  rl : isName rl = true
theorem no_fault {xs : List Str} : ∀ {ps : List (Nd × Nat)} {met : List Str} {out i : Nat}, (∀ q ∈ ps, (∀ x ∈ q.1.hs, x ∈ xs) ∧ ∀ x ∈ q.1.fs, x ∈ xs) → (∀ q ∈ ps, q.2 ≤ 5) → (met ++ ps.map fun q => q.1.nm).Nodup → i + ps.length ≤ 60 → out + ps.length ≤ 40 → firstFault xs ps met out i = none
  | [], _, _, _, _, _, _, _, _ => rfl
  | (n, k) :: r, met, out, i, h1, h2, h3, h4, h5 => by
    have hs := h1 _ List.mem_cons_self
    have hk : k ≤ 5 := h2 _ List.mem_cons_self
    rw [List.length_cons] at h4 h5
    have hon : outNext out k ≤ out + 1 := by unfold outNext; split <;> omega
    have hm : ¬ n.nm ∈ met := fun z => (List.nodup_append.mp h3).2.2 _ z _ List.mem_cons_self rfl
    have f0 : faultAt xs met (outNext out k) i n k = none := by
      unfold faultAt
      rw [if_neg hm, if_neg, if_neg (by omega), if_neg (by omega)]
      rw [Bool.not_eq_true, List.any_eq_false]
      intro x hx
      have hx := (srt_perm _).mem_iff.mp hx
      rw [decide_eq_true (show x ∈ xs from (List.mem_append.mp hx).elim (hs.1 x) (hs.2 x))]
      decide
    unfold firstFault
    rw [f0]
    refine no_fault (fun q hq => h1 q (List.mem_cons_of_mem _ hq)) (fun q hq => h2 q (List.mem_cons_of_mem _ hq)) ?_ (by omega) (by omega)
    rw [List.append_assoc]
    exact h3
theorem names12_len {f : RF} {k : Nat} {ns : List Str} (e : f.names ++ ns = names12.drop k) : f.size ≤ 12 := by
  have h1 := congrArg List.length e
  rw [List.length_append, List.length_drop] at h1
  have h2 : names12.length = 12 := rfl
  have h3 : f.names.length = f.size := by rw [← RF.pre_names f 0, List.length_map, RF.pre_len]
  omega
theorem pre_dep : ∀ (f : RF) (k : Nat), ∀ q ∈ f.pre k, q.2 + 1 ≤ k + f.dep
  | .nil, _, q, h => nomatch h
  | .cons n hs fs rl exc rest, k, q, h => by
    show q.2 + 1 ≤ k + max (exc.dep + 1) rest.dep
    rcases List.mem_cons.mp h with rfl | h
    · show k + 1 ≤ _
      omega
    · rcases List.mem_append.mp h with h | h
      · have := pre_dep exc (k + 1) q h
        omega
      · have := pre_dep rest k q h
        omega
theorem Inv.ok {xs : List Str} {f : RF} {rl : Str} {m : Nat} (h : Inv xs f rl m) (hm : m ≤ 40) : firstFault xs (f.pre 0) [] 0 0 = none := by
  have hz := h.sz
  have hd := h.dp
  refine no_fault (fun q hq => ?_) (fun q hq => ?_) (by rw [List.nil_append, RF.pre_names]; exact h.nd) (by rw [RF.pre_len]; omega) (by rw [RF.pre_len]; omega)
  · have h := RF.every_pre h.ev q hq
    exact ⟨h.s1, h.s2⟩
  · have := pre_dep f 0 q hq
    omega
end Sc
/-! k51: what stands behind each step of the law -/
namespace Sc
open PySem PySem.Spec PyProof.Rows L2
abbrev qLam : Str := (Str.ofString "law" ++ Str.ofString ".<locals>.") ++ Str.ofString "<lambda>"
/-- a book with its outermost rules in another order -/
def pmF (f : RF) (o : List Nat) : RF := RF.ofNodes (o.filterMap fun k => f.nodes[k]?)
theorem names_cons {nm : Str} {hs fs : List Str} {rl : Str} {exc rest : RF} : (RF.cons nm hs fs rl exc rest).names = nm :: (exc.names ++ rest.names) := by
  show (((⟨nm, hs, fs, rl, exc⟩, 0) :: (exc.pre 1 ++ rest.pre 0)).map fun p : Nd × Nat => p.1.nm) = _
  rw [List.map_cons, List.map_append, RF.pre_names, RF.pre_names]
theorem nm_in : ∀ {f : RF} {n : Nd}, n ∈ f.nodes → n.nm ∈ f.names
  | .cons nm hs fs rl exc rest, n, h => by
    rw [names_cons]
    rcases List.mem_cons.mp h with rfl | h
    · exact List.mem_cons_self
    · exact List.mem_cons_of_mem _ (List.mem_append_right _ (nm_in h))
theorem range_in {n : Nat} : ∀ {k : Nat}, k ≤ n → List.range k ∈ ordN n k
  | 0, _ => List.mem_singleton.mpr rfl
  | k + 1, h => by
    have ih := range_in (n := n) (k := k) (by omega)
    refine List.mem_flatMap.mpr ⟨_, ih, ?_⟩
    unfold ordX
    refine List.mem_map.mpr ⟨k, List.mem_filter.mpr ⟨List.mem_range.mpr (by omega), by simp⟩, ?_⟩
    rw [List.range_succ]
theorem ordN_ne {n : Nat} : ordN n n ≠ [] := List.ne_nil_of_mem (range_in (Nat.le_refl n))
theorem te_cut {te : TE} {σ : L2.St} {H : Hp} {Q : VK} (G : V → Hp → Prop) (cont : ∀ v H', G v H' → Q v H') (now : ∀ Q' : VK, (∀ v H', G v H' → Q' v H') → te σ H Q') : te σ H Q := now Q cont
theorem ts_cut {ts : TS} {σ : L2.St} {H : Hp} {D : Ends} (G : L2.St → Hp → Prop) (cont : ∀ σ' H', G σ' H' → D.nx σ' H') (now : ∀ N : L2.St → Hp → Prop, (∀ σ' H', G σ' H' → N σ' H') → ts { D with nx := N } σ H) : ts D σ H := now D.nx cont
theorem seq_cut {ts tu : TS} {σ : L2.St} {H : Hp} {D : Ends} (G : L2.St → Hp → Prop) (cont : ∀ σ' H', G σ' H' → tu D σ' H') (now : ∀ N : L2.St → Hp → Prop, (∀ σ' H', G σ' H' → N σ' H') → ts { D with nx := N } σ H) : tSeq ts tu D σ H := now _ cont
theorem tw_cut {K : PySem.W.Frag} {cl : Nat → Addr} {CE : Addr} {tl : XK → Hp → VK → Prop} {H : Hp} {Q : VK} (G : V → Hp → Prop) (cont : ∀ v H', G v H' → Q v H') (now : ∀ Q' : VK, (∀ v H', G v H' → Q' v H') → TWord K cl CE tl H Q') : TWord K cl CE tl H Q := now Q cont
theorem all2_pm {α β : Type} {r : α → β → Prop} {ws : List α} {ns : List β} (h : All2 r ws ns) (d : α) : ∀ {o : List Nat}, (∀ j ∈ o, j < ns.length) → All2 r (o.map fun j => ws.getD j d) (o.filterMap fun j => ns[j]?)
  | [], _ => .nil
  | j :: o, ho => by
    have hj := ho j List.mem_cons_self
    have hwl := h.len
    have hw : ws[j]? = some ws[j] := List.getElem?_eq_getElem (by omega)
    obtain ⟨n, hn, hr⟩ := h.get hw
    rw [List.filterMap_cons_some (f := fun j => ns[j]?) hn, List.map_cons, List.getD_eq_getElem?_getD, hw]
    exact .cons hr (all2_pm h d fun k hk => ho k (List.mem_cons_of_mem _ hk))
theorem rwN_name {cs : List Str} {n : Nd} {r : Str} (h : NdOk n) (he : n.exc.every NdOk) (e : rwN cs n = some r) : isName r = true := by
  unfold rwN at e
  obtain ⟨m, hm, rfl⟩ := Option.map_eq_some_iff.mp e
  have := RF.way_all cs (p := NdOk) (f := RF.ofNodes [n]) ⟨h, he, trivial⟩ m (List.mem_of_getLast? hm)
  exact this.1.rl
theorem byN_name {f : RF} {cs : List Str} {rl : Str} (hev : f.every NdOk) (hr : isName rl = true) (o : List Nat) : isName (byN (f.nodes.map (rwN cs)) rl o) = true := by
  unfold byN
  cases h : (o.filterMap fun k => ((f.nodes.map (rwN cs))[k]?).join).head? with
  | none => exact hr
  | some r =>
    obtain ⟨k, _, hk⟩ := List.mem_filterMap.mp (List.mem_of_head? h)
    rw [List.getElem?_map] at hk
    cases hn : f.nodes[k]? with
    | none => rw [hn] at hk; cases hk
    | some n =>
      rw [hn] at hk
      obtain ⟨h1, h2⟩ := RF.every_nodes.mp hev n (List.mem_of_getElem? hn)
      exact rwN_name h1 h2 hk
theorem left_more {told : List (Option Str)} {rl r : Str} {os : List (List Nat)} {i : Nat} {o : List Nat} (h : os[i]? = some o) : leftO told rl r (os.take (i + 1)) = leftO told rl r (os.take i) ++ if byN told rl o = r then [o] else [] := by
  unfold leftO
  rw [take_more h, List.filter_append]
  by_cases c1 : byN told rl o = r
  · rw [if_pos c1, List.filter_cons_of_pos (by simpa using c1), List.filter_nil]
  · rw [if_neg c1, List.filter_cons_of_neg (by simpa using c1), List.filter_nil]
theorem big_lim {z : Int} (h0 : 0 ≤ z) (h : z ≤ 100000) : z.natAbs.log2 < 9000 := by
  obtain ⟨n, rfl⟩ : ∃ n : Nat, z = n := ⟨z.toNat, by omega⟩
  have h1 : ((n : Nat) : Int).natAbs = n := rfl
  rw [h1]
  by_cases h0 : n = 0
  · subst h0; decide
  · have := (Nat.log2_lt h0).mpr (show n < 2 ^ 17 by omega)
    omega
def fndD (os : List (List Nat)) : PyData := if os = [] then .str "Contradiction" else .int (os.length : Nat)
def recD (q : List Str × Str) : PyData := .tuple [.tuple (q.1.map PyData.str), .str q.2]
theorem ad_strs {H : Hp} {n : Nat} {p : Addr} {cs : List Str} (e : H p = some (.tup (cs.map V.str))) (hl : cs.length ≤ 1000) : AD H (n + 1) (.ref p) (.tuple (cs.map PyData.str)) := by
  refine .tup e (by rw [List.length_map, List.length_map]) (by rw [List.length_map]; omega) fun i x d hx hd => ?_
  rw [List.getElem?_map] at hx hd
  obtain ⟨z, hz, rfl⟩ := Option.map_eq_some_iff.mp hx
  rw [hz] at hd
  cases hd
  exact .str _ _
theorem ad_due {H : Hp} {a p r : Addr} {n : Nat} {nms : List Str} {vs : List V} {recs : List (List Str × Str)} (h1 : H a = some (.lst [.int (n : Nat), .ref p, .ref r])) (h2 : H p = some (.tup (nms.map V.str))) (h3 : H r = some (.lst vs)) (h4 : All2 (RecAt H) vs recs) (hl : recs.length ≤ 900) (hn : nms.length ≤ 1000) : AD H 6 (.ref a) (.list [.int (n : Nat), .tuple (nms.map PyData.str), .list (recs.map recD)]) := by
  have hr : AD H 5 (.ref r) (.list (recs.map recD)) := by
    refine .lst h3 (by rw [h4.len, List.length_map]) (by rw [h4.len]; omega) fun i x d hx hd => ?_
    obtain ⟨q, hq, t, c, rfl, ht, hc, hq1⟩ := h4.get hx
    rw [List.getElem?_map, hq] at hd
    cases hd
    refine .tup ht rfl (by show 2 ≤ 1000000; decide) fun i x d hx hd => ?_
    match i with
    | 0 => cases hx; cases hd; exact ad_strs hc hq1
    | 1 => cases hx; cases hd; exact .str _ _
    | i + 2 => cases hx
  refine .lst h1 rfl (by show 3 ≤ 1000000; decide) fun i x d hx hd => ?_
  match i with
  | 0 => cases hx; cases hd; exact .int _ _
  | 1 => cases hx; cases hd; exact ad_strs h2 hn
  | 2 => cases hx; cases hd; exact hr
  | i + 3 => cases hx
/-- an order holds one before another, or the other before the one -/
theorem sure_mean {n k r : Nat} {o : List Nat} {os : List (List Nat)} (h : OrdOk n (o :: os)) (hk : k < n) (hr : r < n) :
    ((o :: os).all fun q => decide (q.idxOf k < q.idxOf r)) = (!decide (k = r) && decide (((o :: os).filter fun q => decide (q.idxOf r < q.idxOf k)).length = 0)) := by
  by_cases c : k = r
  · subst c
    rw [decide_eq_true (rfl : k = k), List.all_cons, decide_eq_false (Nat.lt_irrefl _)]
    rfl
  · rw [decide_eq_false c, Bool.eq_iff_iff, List.all_eq_true]
    simp only [Bool.not_false, Bool.true_and, decide_eq_true_eq, List.length_eq_zero_iff, List.filter_eq_nil_iff]
    constructor
    · intro hall q hq
      have := hall q hq
      omega
    · intro hnone q hq
      have h1 := hnone q hq
      obtain ⟨h2, h3, h4⟩ := h.len q hq
      have h5 := idx_at (in_ord h2 h3 h4 hk)
      have h6 := idx_at (in_ord h2 h3 h4 hr)
      have h7 : q.idxOf k ≠ q.idxOf r := fun z => c (by rw [z, h6] at h5; exact (Option.some.inj h5).symm)
      omega
/-- what the call of see gives -/
def fndV (os : List (List Nat)) : V := if os = [] then .str "Contradiction" else .int (os.length : Nat)
theorem way_one {cs : List Str} {n : Nd} {ns : List Nd} : (RF.ofNodes (n :: ns)).way cs = if n.met cs = true then n :: n.exc.way cs else (RF.ofNodes ns).way cs := rfl
theorem ruled_by (f : RF) (cs : List Str) (rl : Str) : ∀ o : List Nat, (pmF f o).ruled cs rl = byN (f.nodes.map (rwN cs)) rl o
  | [] => rfl
  | k :: r => by
    have ih := ruled_by f cs rl r
    unfold pmF at ih ⊢
    unfold byN at ih ⊢
    cases h : f.nodes[k]? with
    | none =>
      have e1 : ((f.nodes.map (rwN cs))[k]?).join = none := by rw [List.getElem?_map, h]; rfl
      rw [List.filterMap_cons_none (f := fun k => f.nodes[k]?) h, List.filterMap_cons_none (f := fun k => ((f.nodes.map (rwN cs))[k]?).join) e1]
      exact ih
    | some n =>
      have e1 : ((f.nodes.map (rwN cs))[k]?).join = rwN cs n := by rw [List.getElem?_map, h]; rfl
      rw [List.filterMap_cons_some (f := fun k => f.nodes[k]?) h]
      unfold RF.ruled at ih ⊢
      rw [way_one]
      by_cases c : n.met cs = true
      · rw [if_pos c]
        have e2 : rwN cs n = ((n :: n.exc.way cs).getLast?).map fun m => m.rl := by
          unfold rwN
          rw [way_one, if_pos c]
        cases hl : (n :: n.exc.way cs).getLast? with
        | none => rw [List.getLast?_eq_none_iff] at hl; cases hl
        | some m =>
          rw [hl] at e2
          rw [List.filterMap_cons_some (f := fun k => ((f.nodes.map (rwN cs))[k]?).join) (e1.trans e2)]
          rfl
      · rw [if_neg c]
        have e2 : rwN cs n = none := by
          unfold rwN
          rw [way_one, if_neg c]
          rfl
        rw [List.filterMap_cons_none (f := fun k => ((f.nodes.map (rwN cs))[k]?).join) (e1.trans e2)]
        exact ih
theorem pm_mem {f : RF} {o : List Nat} {n : Nd} (h : n ∈ (pmF f o).nodes) : n ∈ f.nodes := by
  unfold pmF at h
  rw [RF.nodes_of] at h
  obtain ⟨k, _, hk⟩ := List.mem_filterMap.mp h
  exact List.mem_of_getElem? hk
theorem pm_every {f : RF} {o : List Nat} {p : Nd → Prop} (h : f.every p) : (pmF f o).every p := RF.every_nodes.mpr fun n hn => RF.every_nodes.mp h n (pm_mem hn)
theorem pm_dep {f : RF} {o : List Nat} : (pmF f o).dep ≤ f.dep := RF.dep_le _ _ fun n hn => RF.dep_mem _ _ (pm_mem hn)
theorem of_size_le (M : Nat) : ∀ ns : List Nd, (∀ n ∈ ns, n.exc.size + 1 ≤ M) → (RF.ofNodes ns).size ≤ ns.length * M
  | [], _ => Nat.zero_le _
  | n :: r, h => by
    have h1 := of_size_le M r fun m hm => h m (List.mem_cons_of_mem _ hm)
    have h2 := h n List.mem_cons_self
    rw [List.length_cons, Nat.add_one_mul]
    show n.exc.size + 1 + (RF.ofNodes r).size ≤ _
    omega
theorem pm_size {f : RF} {o : List Nat} : (pmF f o).size ≤ o.length * f.size := by
  refine Nat.le_trans (of_size_le f.size _ fun n hn => RF.size_mem f n ?_) (Nat.mul_le_mul_right _ (List.length_filterMap_le _ _))
  obtain ⟨k, _, hk⟩ := List.mem_filterMap.mp hn
  exact List.mem_of_getElem? hk
theorem ad_fnd {H : Hp} {n : Nat} {os : List (List Nat)} : AD H n (fndV os) (fndD os) := by
  unfold fndV fndD
  split
  · exact .str _ _
  · exact .int _ _
section
variable {K : PySem.W.Frag} {C R B OW PT a l x S p fp pr DN L' Rr : Addr} {xs : List Str} {f : RF} {rl : Str} {os : List (List Nat)} {recs : List (List Str × Str)} {H H' : Hp}
/-- the watcher's side -/
structure W51 (K : PySem.W.Frag) (C R B OW PT a l x S : Addr) (xs : List Str) (f : RF) (rl : Str) (os : List (List Nat)) (recs : List (List Str × Str)) (H : Hp) : Prop where
  rs : RS H a l
  tb : LamX.Tabs [(PT, qLam)] H
  wat : WatAt K C R B OW (fun b => b ≠ a ∧ b ≠ l) H x S xs f rl os recs
  nS : S ≠ a ∧ S ≠ l
  ne : os ≠ []
/-- the law's side -/
structure D51 (K : PySem.W.Frag) (a l S p fp pr DN L' Rr : Addr) (xs : List Str) (f : RF) (rl : Str) (os : List (List Nat)) (recs : List (List Str × Str)) (H : Hp) : Prop where
  ep : H p = some (.tup [.ref fp, .ref pr, .str rl])
  hS : SqT K H fp (xs.map V.str)
  hP : ∃ ws, SqT K H pr ws ∧ RowsAt K H f ws
  hN : H DN = some (.lst ((f.nodes.map fun n => n.nm).map V.str))
  nN : DN ≠ a ∧ DN ≠ l ∧ DN ≠ S
  hL : ∃ us, H L' = some (.lst us) ∧ All2 (OrdAt H) us os
  nL : L' ≠ a ∧ L' ≠ l ∧ L' ≠ S
  hR : ∃ vs, H Rr = some (.lst vs) ∧ All2 (RecAt H) vs recs
  nR : Rr ≠ a ∧ Rr ≠ l ∧ Rr ≠ S
/-- all but the draws' state and the tables of lambdas stands -/
def Fr (a l : Addr) (H H' : Hp) : Prop := ∀ b o, b ≠ a → b ≠ l → (∀ ps, o ≠ .tbl ps) → H b = some o → H' b = some o
theorem Fr.of (s : Same H H') : Fr a l H H' := fun b o _ _ _ e => s b o e
theorem Fr.kp (k : Kp a l H H') : Fr a l H H' := fun b o n1 n2 _ e => k.keep b o n1 n2 e
theorem Fr.ext (k : LamX.ExtN H H') : Fr a l H H' := fun b o _ _ n e => k b o e n
theorem Fr.keeps {M : Addr → Prop} (fr : Fr a l H H') (r : RS H a l) (m1 : ¬ M a) (m2 : ¬ M l) : Keeps M H H' := fun b o st e => by
  obtain ⟨s0, k0, ns, h1, h2, _⟩ := r
  refine fr b o (fun z => ?_) (fun z => ?_) st.2.2 e
  · subst z; rw [h1] at e; cases e; exact m1 (st.1 _ rfl)
  · subst z; rw [h2] at e; cases e; exact m2 (st.1 _ rfl)
theorem tabs_of {T : List (Addr × Str)} (t : LamX.Tabs T H) (fr : ∀ b o, (∀ xs, o ≠ .lst xs) → (∀ C dx fs, o ≠ .ins C dx fs) → H b = some o → H' b = some o) : LamX.Tabs T H' := fun p hp => by
  obtain ⟨ps, h1, h2, h3⟩ := t p hp
  refine ⟨ps, fr _ _ (fun _ z => nomatch z) (fun _ _ _ z => nomatch z) h1, h2, fun pos cv e => ?_⟩
  obtain ⟨c, e1, e2⟩ := h3 pos cv e
  exact ⟨c, e1, fr _ _ (fun _ z => by unfold LamX.CodeO at z; cases z) (fun _ _ _ z => by unfold LamX.CodeO at z; cases z) e2⟩
theorem RS.lsts (r : RS H a l) : (∃ xs, H a = some (.lst xs)) ∧ ∃ xs, H l = some (.lst xs) := by
  obtain ⟨st, k, ns, h1, h2, q⟩ := r
  exact ⟨⟨_, h1⟩, ⟨_, h2⟩⟩
theorem tabs_kp {T : List (Addr × Str)} (k : Kp a l H H') (t : LamX.Tabs T H) : LamX.Tabs T H' := tabs_of t fun b o n1 _ e => k.keep b o (fun z => by
  obtain ⟨⟨xs, h⟩, _⟩ := k.old.lsts
  subst z; rw [h] at e; cases e; exact n1 _ rfl) (fun z => by
  obtain ⟨_, ⟨xs, h⟩⟩ := k.old.lsts
  subst z; rw [h] at e; cases e; exact n1 _ rfl) e
theorem RS.ext (r : RS H a l) (e : LamX.ExtN H H') : RS H' a l := by
  obtain ⟨st, k, ns, h1, h2, q⟩ := r
  exact ⟨st, k, ns, e _ _ h1 (fun _ z => nomatch z), e _ _ h2 (fun _ z => nomatch z), q⟩
theorem ord_head {us : List V} {os : List (List Nat)} (h : All2 (OrdAt H) us os) (ne : os ≠ []) (r : RS H a l) {L : Addr} (e : H L = some (.lst us)) : L ≠ a ∧ L ≠ l := by
  obtain ⟨s0, k0, ns, h1, h2, _⟩ := r
  cases h with
  | nil => exact absurd rfl ne
  | cons h0 _ =>
    obtain ⟨t, ob, rfl, _⟩ := h0
    refine ⟨fun z => ?_, fun z => ?_⟩
    · subst z; rw [h1] at e; cases e
    · subst z
      rw [h2] at e
      cases ns with
      | nil => cases e
      | cons z r => cases e
theorem W51.fr (h : W51 K C R B OW PT a l x S xs f rl os recs H) (fr : Fr a l H H') (r : RS H' a l) (t : LamX.Tabs [(PT, qLam)] H') : W51 K C R B OW PT a l x S xs f rl os recs H' := by
  obtain ⟨rs, tb, ⟨dx, b, L, us, vs, h1, h2, ⟨h3, h3'⟩, h4, h5, h6⟩, nS, ne⟩ := h
  have kn : Keeps NoL H H' := fr.keeps rs (fun z => z) (fun z => z)
  obtain ⟨nL1, nL2⟩ := ord_head h4 ne rs h3
  have nx : x ≠ a ∧ x ≠ l := by
    obtain ⟨s0, k0, ns, e1, e2, _⟩ := rs
    exact ⟨fun z => (by rw [z, e1] at h1; cases h1), fun z => (by rw [z, e2] at h1; cases h1)⟩
  exact ⟨r, t, ⟨dx, b, L, us, vs, fr _ _ nx.1 nx.2 (fun _ z => nomatch z) h1, h2.keeps (fr.keeps rs (fun z => z.1.1 rfl) (fun z => z.1.2 rfl)), ⟨fr _ _ nL1 nL2 (fun _ z => nomatch z) h3, h3'⟩, h4.mono fun _ _ z => z.keeps kn, fr _ _ nS.1 nS.2 (fun _ z => nomatch z) h5, h6.mono fun _ _ z => z.keeps kn⟩, nS, ne⟩
/-- all but the draws' state, the tables and the watcher stands -/
def Fr2 (a l x S : Addr) (H H' : Hp) : Prop := ∀ b o, b ≠ a → b ≠ l → b ≠ x → b ≠ S → (∀ ps, o ≠ .tbl ps) → H b = some o → H' b = some o
theorem Fr.two (fr : Fr a l H H') : Fr2 a l x S H H' := fun b o n1 n2 _ _ n e => fr b o n1 n2 n e
theorem D51.fr (h : D51 K a l S p fp pr DN L' Rr xs f rl os recs H) (w : WatAt K C R B OW (fun b => b ≠ a ∧ b ≠ l) H x S xs f rl os' recs') (r : RS H a l) (fr : Fr2 a l x S H H') : D51 K a l S p fp pr DN L' Rr xs f rl os recs H' := by
  obtain ⟨dx, b, L, us0, vs0, h1, _, _, _, h5, _⟩ := w.at_
  obtain ⟨ep, hS, ⟨ws, hP, hX⟩, hN, nN, ⟨us, hL, hus⟩, nL, ⟨vs, hR, hvs⟩, nR⟩ := h
  obtain ⟨s0, k0, ns, e1, e2, _⟩ := r
  have kn : Keeps NoL H H' := fun b' o st e => by
    by_cases z1 : b' = x
    · subst z1
      rw [h1] at e
      cases e
      exact Bool.noConfusion ((rfl : DoneF (owF b L S) = false).symm.trans (st.2.1 _ _ _ rfl))
    refine fr b' o (fun z => ?_) (fun z => ?_) z1 (fun z => ?_) st.2.2 e
    · subst z; rw [e1] at e; cases e; exact st.1 _ rfl
    · subst z; rw [e2] at e; cases e; exact st.1 _ rfl
    · subst z; rw [h5] at e; cases e; exact st.1 _ rfl
  have nx : ∀ {D : Addr} {ys : List V}, H D = some (.lst ys) → D ≠ x := fun e z => by subst z; rw [h1] at e; cases e
  exact ⟨kn _ _ stays_tup ep, kn.tup hS, ⟨ws, kn.tup hP, hX.keeps kn⟩, fr _ _ nN.1 nN.2.1 (nx hN) nN.2.2 (fun _ z => nomatch z) hN, nN, ⟨us, fr _ _ nL.1 nL.2.1 (nx hL) nL.2.2 (fun _ z => nomatch z) hL, hus.mono fun _ _ z => z.keeps kn⟩, nL, ⟨vs, fr _ _ nR.1 nR.2.1 (nx hR) nR.2.2 (fun _ z => nomatch z) hR, hvs.mono fun _ _ z => z.keeps kn⟩, nR⟩
/-- both -/
structure S51 (K : PySem.W.Frag) (C R B OW PT a l x S p fp pr DN L' Rr : Addr) (xs : List Str) (f : RF) (rl : Str) (os : List (List Nat)) (recs : List (List Str × Str)) (H : Hp) : Prop where
  w : W51 K C R B OW PT a l x S xs f rl os recs H
  d : D51 K a l S p fp pr DN L' Rr xs f rl os recs H
theorem S51.fr (h : S51 K C R B OW PT a l x S p fp pr DN L' Rr xs f rl os recs H) (fr : Fr a l H H') (r : RS H' a l) (t : LamX.Tabs [(PT, qLam)] H') : S51 K C R B OW PT a l x S p fp pr DN L' Rr xs f rl os recs H' := ⟨h.w.fr fr r t, h.d.fr h.w.wat h.w.rs fr.two⟩
theorem S51.same (h : S51 K C R B OW PT a l x S p fp pr DN L' Rr xs f rl os recs H) (s : Same H H') : S51 K C R B OW PT a l x S p fp pr DN L' Rr xs f rl os recs H' := h.fr (Fr.of s) (h.w.rs.same s) (h.w.tb.ext s)
theorem S51.kp (h : S51 K C R B OW PT a l x S p fp pr DN L' Rr xs f rl os recs H) (k : Kp a l H H') : S51 K C R B OW PT a l x S p fp pr DN L' Rr xs f rl os recs H' := h.fr (Fr.kp k) k.new (tabs_kp k h.w.tb)
theorem S51.ext (h : S51 K C R B OW PT a l x S p fp pr DN L' Rr xs f rl os recs H) (e : LamX.ExtN H H') (t : LamX.Tabs [(PT, qLam)] H') : S51 K C R B OW PT a l x S p fp pr DN L' Rr xs f rl os recs H' := h.fr (Fr.ext e) (h.w.rs.ext e) t
/-- what the lambda's call of see leaves -/
theorem see_rs (r : RS H a l) (w : W51 K C R B OW PT a l x S xs f rl os recs H) (fr : ∀ b o, b ≠ x → b ≠ S → H b = some o → H' b = some o) : RS H' a l := by
  obtain ⟨dx, b, L, us, vs, h1, _⟩ := w.wat.at_
  obtain ⟨st, k, ns, e1, e2, q⟩ := r
  exact ⟨st, k, ns, fr _ _ (fun z => by rw [z, h1] at e1; cases e1) (Ne.symm w.nS.1) e1, fr _ _ (fun z => by rw [z, h1] at e2; cases e2) (Ne.symm w.nS.2) e2, q⟩
theorem see_tabs (w : W51 K C R B OW PT a l x S xs f rl os recs H) (fr : ∀ b o, b ≠ x → b ≠ S → H b = some o → H' b = some o) : LamX.Tabs [(PT, qLam)] H' := by
  obtain ⟨dx, b, L, us, vs, h1, _, _, _, h5, _⟩ := w.wat.at_
  exact tabs_of w.tb fun b o n1 n2 e => fr b o (fun z => by subst z; rw [h1] at e; cases e; exact n2 _ _ _ rfl) (fun z => by subst z; rw [h5] at e; cases e; exact n1 _ rfl) e
theorem nodes_nodup : ∀ {f : RF}, f.names.Nodup → (f.nodes.map fun n => n.nm).Nodup
  | .nil, _ => List.nodup_nil
  | .cons nm hs fs rl exc rest, h => by
    rw [names_cons] at h
    obtain ⟨h1, h2⟩ := List.nodup_cons.mp h
    have h3 := (List.nodup_append.mp h2)
    show (nm :: rest.nodes.map fun n => n.nm).Nodup
    refine List.nodup_cons.mpr ⟨fun z => h1 (List.mem_append_right _ ?_), nodes_nodup h3.2.1⟩
    obtain ⟨n, hn, e⟩ := List.mem_map.mp z
    rw [← e]
    exact nm_in hn
end
end Sc
namespace Sc
open PySem PySem.Spec PyProof.Rows L2
theorem sc_law : FnScope ["_law_script", "_law_h", "_law_lap", "_law_drawn_here", "_law_facts_here", "_law_rules", "_law_ruling", "_law_left", "_law_records", "_law_names", "_law_step", "_law_told", "_law_fewer", "_law_found", "_law_due", "_law_one", "_law_other", "_law_behind", "_law_case_here", "_law_watcher", "_law_what", "_law_rule_here", "_law_order", "_law_k", "_law_row"] ["_law_script"] (defScope s_law) := ⟨rfl, rfl, rfl, by decide +kernel, rfl, by decide +kernel, by decide +kernel⟩
section
variable {P : Program} {w : World} {K : PySem.W.Frag} {mg : Str → Option Value} {base : Heap}
def sp_law (K : PySem.W.Frag) (PT : Addr) : Sp := fun vs H Q _ => ∃ (s : Addr) (ns : List Int), vs = [.ref s] ∧ SqL K H s (ns.map V.int) ∧ ns.length ≤ 63 ∧ (∀ z ∈ ns, Builtin.Int.intBits z ≤ 1048576) ∧ H PT = some (.tbl #[]) ∧ ∀ H', Q (.bl true) H'
theorem ok_law {f : Addr} {fd : FuncData} {c PT : Addr} {g : Addr} {fdE : FuncData} {cl : Nat → Addr} {CE C R Bk OW CT : Addr} (F : FunC K "law" "law" s_law f fd c) (B : Blt mg) (G : GWord mg cl CE)
    (FE : Fun K "_law_word" "_law_word" s__law_word g fdE) (mE : mg "_law_word" = some (.ref g)) (bE : Binds K fdE ["_law_work"] []) (TB : LamX.TabB base mg c PT) (CLo : Cls K OW) (eT : WordRow K cl CE CT 0)
    (c__law_mix : Cal P w K mg base CX0 1 "_law_mix" ["_law_script", "_law_seed"] (sp_mix K)) (c__law_next : Cal P w K mg base CX0 1 "_law_next" ["_law_h", "_law_limit"] sp_next)
    (c__law_facts : Cal P w K mg base CX0 2 "_law_facts" ["_law_h", "_law_most"] sp_facts) (c__law_drawn : Cal P w K mg base CX0 6 "_law_drawn" ["_law_h", "_law_facts_here", "_law_most"] (sp_drawn K))
    (c__law_book : Cal P w K mg base CX0 31 "_law_book" ["_law_drawn_here"] (sp_book2 K C R Bk)) (c__law_two : Cal P w K mg base CX0 1 "_law_two" ["_law_count"] sp_two) (c__law_case : Cal P w K mg base CX0 1 "_law_case" ["_law_facts_here", "_law_number"] (sp_lcase K))
    (c__law_ruled : Cal P w K mg base CX0 15 "_law_ruled" ["_law_drawn_here", "_law_case_here"] (sp_ruled K)) (c__law_orders : Cal P w K mg base CX0 1 "_law_orders" ["_law_many"] (sp_lorders K)) (c__law_alike : Cal P w K mg base CX0 7 "_law_alike" ["_law_found", "_law_due"] (sp_alike 6))
    (k_OrderWatcher : Mkr0 P w K mg base 3 "OrderWatcher" OW ["self", "book"] (sp_owInit K C R Bk OW)) (mCount : PropM P w K mg base OW "order_count" 1 (sp_owCount K C R Bk OW)) (mFirst : PropM P w K mg base OW "first_order" 3 (sp_owFirst K C R Bk OW)) (mRecs : PropM P w K mg base OW "records" 1 (sp_owRecs K C R Bk OW))
    (mo_see : MethX P w K mg base 11 OW "see" ["self", "case", "ruling"] (sp_owSee K C R Bk OW CT)) (mo_sure : MethR P w K mg base 3 OW "sure" ["self", "name", "other"] (sp_owSure K C R Bk OW)) :
    FnOk P w K mg base CX0 38 f fd ["_law_script"] (sp_law K PT) := by
  refine F.ok sc_law (fun vs H Q E h => by obtain ⟨s, ns, rfl, _⟩ := h; rfl) (fun A outer s H vs Q E hr h => ?_)
  obtain ⟨s, ns, rfl, hS, hl, hb, hT, q⟩ := h
  refine ⟨_, (pss_cons (ps_set (i := 1) sc_law.nd rfl (Or.inl rfl) (pe_cal c__law_mix (hr.mono (by decide)) (pa_cons (pv 0) (pa_cons pe_int pa_nil))))
      (pss_cons (ps_for PassesOwn.never rfl (pi_range1 (by rfl) B.b_range (pa_cons pe_int pa_nil)) (pg_name (i := 2) sc_law.nd rfl (Or.inl rfl)) (pss_cons (ps_set (i := 3) sc_law.nd rfl (Or.inl rfl) (pe_cal c__law_drawn (hr.mono (by decide)) (pa_cons (pv 1) (pa_cons (pe_cal c__law_facts (hr.mono (by decide)) (pa_cons (pv 1) (pa_cons pe_int pa_nil))) (pa_cons pe_int pa_nil)))))
      (pss_cons (ps_asg (pv 3) (pg_tup (by rfl) (pgs_cons (pg_name (i := 4) sc_law.nd rfl (Or.inr rfl)) (pgs_cons (pg_name (i := 5) sc_law.nd rfl (Or.inr rfl)) (pgs_cons (pg_name (i := 6) sc_law.nd rfl (Or.inr rfl)) pgs_nil)))))
      (pss_cons (ps_set (i := 19) sc_law.nd rfl (Or.inr rfl) (pe_mk0 k_OrderWatcher (hr.mono (by decide)) (pa_cons (pe_cal c__law_book (hr.mono (by decide)) (pa_cons (pv 3) pa_nil)) pa_nil)))
      (pss_cons (ps_asg (pe_tup (pa_cons (pe_cal c__law_orders (hr.mono (by decide)) (pa_cons (pe_callB call_len_seq (by rfl) B.b_len PySem.boot_len (pa_cons (pv 5) pa_nil)) pa_nil)) (pa_cons (pe_lst pa_nil) pa_nil))) (pg_tup (by rfl) (pgs_cons (pg_name (i := 7) sc_law.nd rfl (Or.inr rfl)) (pgs_cons (pg_name (i := 8) sc_law.nd rfl (Or.inl rfl)) pgs_nil))))
      (pss_cons (ps_set (i := 9) sc_law.nd rfl (Or.inr rfl) (pe_lc (own := [("_law_rule_here", 21)]) (g := gName 21) (tt := tYes) rfl sc_law.nd (pi_tup (pv 5)) (blkOk_by (own := [("_law_rule_here", 21)]) (N := ["_law_script", "_law_h", "_law_lap", "_law_drawn_here", "_law_facts_here", "_law_rules", "_law_ruling", "_law_left", "_law_records", "_law_names", "_law_step", "_law_told", "_law_fewer", "_law_found", "_law_due", "_law_one", "_law_other", "_law_behind", "_law_case_here", "_law_watcher", "_law_what", "_law_rule_here", "_law_order", "_law_k", "_law_row"]) (sc := defScope s_law) (by decide +kernel)) (fun _ _ _ _ _ => (pg_name (i := 21) sc_law.nd rfl (Or.inl rfl))) (fun _ _ _ _ _ => pts_nil) (fun _ _ _ _ _ => (pe_.re (pe_ix ix_tup (pv 21) pe_int (fun _ _ => rfl)) (by first | (dsimp only [Cx.blk]; done) | exact rfl)))))
      (pss_one (ps_for PassesOwn.never rfl (pi_range1 (by rfl) B.b_range (pa_cons (pe_op op_add pe_int (pe_cal c__law_next (hr.mono (by decide)) (pa_cons (pv 1) (pa_cons pe_int pa_nil)))) pa_nil)) (pg_name (i := 10) sc_law.nd rfl (Or.inl rfl)) (pss_cons (ps_set (i := 18) sc_law.nd rfl (Or.inr rfl) (pe_cal c__law_case (hr.mono (by decide)) (pa_cons (pv 4) (pa_cons (pe_cal c__law_next (hr.mono (by decide)) (pa_cons (pv 1) (pa_cons (pe_cal c__law_two (hr.mono (by decide)) (pa_cons (pe_callB call_len_seq (by rfl) B.b_len PySem.boot_len (pa_cons (pv 4) pa_nil)) pa_nil)) pa_nil))) pa_nil))))
      (pss_cons (ps_set (i := 11) sc_law.nd rfl (Or.inr rfl) (pe_lc (own := [("_law_order", 22)]) (g := gName 22) (tt := tYes) rfl sc_law.nd (pi_list (pv 7)) (blkOk_by (own := [("_law_order", 22)]) (N := ["_law_script", "_law_h", "_law_lap", "_law_drawn_here", "_law_facts_here", "_law_rules", "_law_ruling", "_law_left", "_law_records", "_law_names", "_law_step", "_law_told", "_law_fewer", "_law_found", "_law_due", "_law_one", "_law_other", "_law_behind", "_law_case_here", "_law_watcher", "_law_what", "_law_rule_here", "_law_order", "_law_k", "_law_row"]) (sc := defScope s_law) (by decide +kernel)) (fun _ _ _ _ _ => (pg_name (i := 22) sc_law.nd rfl (Or.inl rfl))) (fun _ _ _ _ _ => pts_nil) (fun _ _ _ _ _ => (pe_.re (pe_ix ix_tup (pe_cal c__law_ruled (hr.mono (by decide)) (pa_cons (pe_tup (pa_cons (pv 4) (pa_cons (pe_callTy call_tuple_of (by rfl) B.b_tuple PyProof.Rows.boot_tuple (pa_cons (pe_lc (own := [("_law_k", 23)]) (g := gName 23) (tt := tYes) rfl sc_law.nd (pi_tup (pv 22)) (blkOk_by (own := [("_law_k", 23)]) (N := ["_law_script", "_law_h", "_law_lap", "_law_drawn_here", "_law_facts_here", "_law_rules", "_law_ruling", "_law_left", "_law_records", "_law_names", "_law_step", "_law_told", "_law_fewer", "_law_found", "_law_due", "_law_one", "_law_other", "_law_behind", "_law_case_here", "_law_watcher", "_law_what", "_law_rule_here", "_law_order", "_law_k", "_law_row"]) (by dsimp only [cxOf, Cx.nox, Cx.blk, compEnvC]; exact rfl)) (fun _ _ _ _ _ => (pg_name (i := 23) sc_law.nd rfl (Or.inl rfl))) (fun _ _ _ _ _ => pts_nil) (fun _ _ _ _ _ => (pe_.re (pe_ix ix_tup (pv 5) (pv 23) (fun _ _ => rfl)) (by first | (dsimp only [Cx.blk]; done) | exact rfl)))) pa_nil)) (pa_cons (pv 6) pa_nil)))) (pa_cons (pv 18) pa_nil))) pe_int (fun _ _ => rfl)) (by first | (dsimp only [Cx.blk]; done) | exact rfl)))))
      (pss_cons (ps_set (i := 20) sc_law.nd rfl (Or.inr rfl) (pe_ix ix_list (pe_op op_cat (pv 11) (pe_lst (pa_cons pe_str pa_nil))) (pe_cal c__law_next (hr.mono (by decide)) (pa_cons (pv 1) (pa_cons (pe_op op_add (pe_callB call_len_seq (by rfl) B.b_len PySem.boot_len (pa_cons (pv 11) pa_nil)) pe_int) pa_nil))) (fun _ _ => rfl)))
      (pss_cons (ps_setLc (i := 12) (own := [("_law_k", 23)]) (g := gName 23) rfl sc_law.nd rfl rfl (sw_true rfl rfl rfl (by decide +kernel)) (pi_range1 (by rfl) B.b_range (pa_cons (pe_callB call_len_seq (by rfl) B.b_len PySem.boot_len (pa_cons (pv 7) pa_nil)) pa_nil)) (blkOk_by (own := [("_law_k", 23)]) (N := ["_law_script", "_law_h", "_law_lap", "_law_drawn_here", "_law_facts_here", "_law_rules", "_law_ruling", "_law_left", "_law_records", "_law_names", "_law_step", "_law_told", "_law_fewer", "_law_found", "_law_due", "_law_one", "_law_other", "_law_behind", "_law_case_here", "_law_watcher", "_law_what", "_law_rule_here", "_law_order", "_law_k", "_law_row"]) (sc := defScope s_law) (by decide +kernel)) (fun _ _ _ _ _ => (pg_name (i := 23) sc_law.nd rfl (Or.inl rfl))) (fun _ _ _ _ _ => (pts_.re (pts_one (pt_cmpR op_eq (pe_ix ix_list (pv 11) (pv 23) (fun _ _ => rfl)) (pv 20) (nomark _))) (by first | (dsimp only [Cx.blk]; done) | exact rfl))) (fun _ _ _ _ _ => (pe_.re (pe_ix ix_list (pv 7) (pv 23) (fun _ _ => rfl)) (by first | (dsimp only [Cx.blk]; done) | exact rfl))))
      (pss_cons (ps_set (i := 13) sc_law.nd rfl (Or.inl rfl) (pe_wordlam FE mE bE B G TB rfl (hr.mono (by decide)) (LamX.lamS_by (show LamX.lamSB (defScope s_law) _ = true by decide +kernel)) rfl (fun _ _ _ _ _ => rfl) (fun A' outer' s' H' E' f' c' hr' => (pe_meX CLo mo_see hr' (takes_of rfl rfl rfl rfl) (pv 19) (pa_cons (pv 18) (pa_cons (pv 20) pa_nil))))))
      (pss_cons (ps_if (pt_not (pt_val (pe_cal c__law_alike (hr.mono (by decide)) (pa_cons (pv 13) (pa_cons (pe_ifExp (pt_cmpR (op_neE hr.units) (pv 12) (pe_lst pa_nil) (nomark _)) (pe_callB call_len_seq (by rfl) B.b_len PySem.boot_len (pa_cons (pv 12) pa_nil)) pe_str) pa_nil))))) (pss_one (ps_ret pe_bl)) pss_nil)
      (pss_cons (ps_if (pt_cmpR (op_neE hr.units) (pv 12) (pe_lst pa_nil) (nomark _)) (pss_one (ps_asg (pe_tup (pa_cons (pv 12) (pa_cons (pe_op op_cat (pv 8) (pe_lst (pa_cons (pe_tup (pa_cons (pv 18) (pa_cons (pv 20) pa_nil))) pa_nil))) pa_nil))) (pg_tup (by rfl) (pgs_cons (pg_name (i := 7) sc_law.nd rfl (Or.inr rfl)) (pgs_cons (pg_name (i := 8) sc_law.nd rfl (Or.inl rfl)) pgs_nil))))) pss_nil)
      (pss_cons (ps_set (i := 14) sc_law.nd rfl (Or.inl rfl) (pe_lst (pa_cons (pe_callB call_len_seq (by rfl) B.b_len PySem.boot_len (pa_cons (pv 7) pa_nil)) (pa_cons (pe_callTy call_tuple_of (by rfl) B.b_tuple PyProof.Rows.boot_tuple (pa_cons (pe_lc (own := [("_law_k", 23)]) (g := gName 23) (tt := tYes) rfl sc_law.nd (pi_tup (pe_ix ix_list (pv 7) pe_int (fun _ _ => rfl))) (blkOk_by (own := [("_law_k", 23)]) (N := ["_law_script", "_law_h", "_law_lap", "_law_drawn_here", "_law_facts_here", "_law_rules", "_law_ruling", "_law_left", "_law_records", "_law_names", "_law_step", "_law_told", "_law_fewer", "_law_found", "_law_due", "_law_one", "_law_other", "_law_behind", "_law_case_here", "_law_watcher", "_law_what", "_law_rule_here", "_law_order", "_law_k", "_law_row"]) (sc := defScope s_law) (by decide +kernel)) (fun _ _ _ _ _ => (pg_name (i := 23) sc_law.nd rfl (Or.inl rfl))) (fun _ _ _ _ _ => pts_nil) (fun _ _ _ _ _ => (pe_.re (pe_ix ix_list (pv 9) (pv 23) (fun _ _ => rfl)) (by first | (dsimp only [Cx.blk]; done) | exact rfl)))) pa_nil)) (pa_cons (pv 8) pa_nil)))))
      (pss_cons (ps_if (pt_not (pt_val (pe_cal c__law_alike (hr.mono (by decide)) (pa_cons (pe_lst (pa_cons (pe_propM mCount (hr.mono (by decide)) CLo (pv 19)) (pa_cons (pe_propM mFirst (hr.mono (by decide)) CLo (pv 19)) (pa_cons (pe_propM mRecs (hr.mono (by decide)) CLo (pv 19)) pa_nil)))) (pa_cons (pv 14) pa_nil))))) (pss_one (ps_ret pe_bl)) pss_nil)
      (pss_one (ps_for PassesOwn.never rfl (pi_range1 (by rfl) B.b_range (pa_cons (pe_callB call_len_seq (by rfl) B.b_len PySem.boot_len (pa_cons (pv 9) pa_nil)) pa_nil)) (pg_name (i := 15) sc_law.nd rfl (Or.inr rfl)) (pss_cons (ps_set (i := 16) sc_law.nd rfl (Or.inr rfl) (pe_cal c__law_next (hr.mono (by decide)) (pa_cons (pv 1) (pa_cons (pe_callB call_len_seq (by rfl) B.b_len PySem.boot_len (pa_cons (pv 9) pa_nil)) pa_nil))))
      (pss_cons (ps_setLc (i := 17) (own := [("_law_row", 24)]) (g := gName 24) rfl sc_law.nd rfl rfl (sw_true rfl rfl rfl (by decide +kernel)) (pi_list (pv 7)) (blkOk_by (own := [("_law_row", 24)]) (N := ["_law_script", "_law_h", "_law_lap", "_law_drawn_here", "_law_facts_here", "_law_rules", "_law_ruling", "_law_left", "_law_records", "_law_names", "_law_step", "_law_told", "_law_fewer", "_law_found", "_law_due", "_law_one", "_law_other", "_law_behind", "_law_case_here", "_law_watcher", "_law_what", "_law_rule_here", "_law_order", "_law_k", "_law_row"]) (sc := defScope s_law) (by decide +kernel)) (fun _ _ _ _ _ => (pg_name (i := 24) sc_law.nd rfl (Or.inl rfl))) (fun _ _ _ _ _ => (pts_.re (pts_one (pt_cmpR op_gt (pe_mG tyok_tup PySem.F.plainAttrs_tuple PySem.F.slot_tuple_index PySem.F.type_tuple_index mt_tindex (pv 24) (pa_cons (pv 15) pa_nil)) (pe_mG tyok_tup PySem.F.plainAttrs_tuple PySem.F.slot_tuple_index PySem.F.type_tuple_index mt_tindex (pv 24) (pa_cons (pv 16) pa_nil)) (nomark _))) (by first | (dsimp only [Cx.blk]; done) | exact rfl))) (fun _ _ _ _ _ => (pe_.re (pv 24) (by first | (dsimp only [Cx.blk]; done) | exact rfl))))
      (pss_one (ps_if (pt_not (pt_val (pe_cal c__law_alike (hr.mono (by decide)) (pa_cons (pe_me CLo mo_sure (hr.mono (by decide)) (pv 19) (pa_cons (pe_ix ix_list (pv 9) (pv 15) (fun _ _ => rfl)) (pa_cons (pe_ix ix_list (pv 9) (pv 16) (fun _ _ => rfl)) pa_nil))) (pa_cons (pe_and (pe_cmpR op_ne (pv 15) (pv 16) (nomark _)) (pe_one (pe_cmpR (op_eqE hr.units) (pv 17) (pe_lst pa_nil) (nomark _)))) pa_nil))))) (pss_one (ps_ret pe_bl)) pss_nil)))))))))))))))))))))))
      (pss_one (ps_ret pe_bl)))), ?_⟩
  refine ⟨.ref s, rfl, s, ns, 55, rfl, hS, hl, hb, by decide, by decide, fun H1 a l s1 R1 => ?_⟩
  have Tb1 : LamX.Tabs [(PT, qLam)] H1 := by
    intro p hp
    rw [List.mem_singleton.mp hp]
    exact LamX.TabS.nil (s1 _ _ hT)
  refine ⟨2, rfl, by decide, by decide, for_it walk_range (fun i σ H' => ∃ (y0 y2 y3 y4 y5 y6 y7 y8 y9 y10 y11 y12 y13 y14 y15 y16 y17 y18 y19 y20 y21 y22 y23 y24 : Option V), σ = [y0, some (.ref a), y2, y3, y4, y5, y6, y7, y8, y9, y10, y11, y12, y13, y14, y15, y16, y17, y18, y19, y20, y21, y22, y23, y24] ∧ RS H' a l ∧ LamX.Tabs [(PT, qLam)] H') ⟨_, _, _, _, _, _, _, _, _, _, _, _, _, _, _, _, _, _, _, _, _, _, _, _, rfl, R1, Tb1⟩ (fun _ _ _ _ _ => trivial) ?_ ?_⟩
  · rintro i x0 σ H2 H3 hi ⟨y0, y2, y3, y4, y5, y6, y7, y8, y9, y10, y11, y12, y13, y14, y15, y16, y17, y18, y19, y20, y21, y22, y23, y24, rfl, RR, TT⟩ ⟨rfl, hy⟩
    refine ⟨_, rfl, _, rfl, a, l, 4, rfl, RR, by decide, by decide, fun H4 fp fs k4 efp nfp sub f1 f2 => ?_⟩
    have hright : Right fs := ten_right.sub sub
    refine ⟨a, l, fp, fs, 5, rfl, k4.new, sqT_of efp, hright, by omega, by decide, fun H5 p f rl k5 dr hn5 => ?_⟩
    obtain ⟨pr, ws, ep, hP, hX⟩ := dr.at_
    have TT5 : LamX.Tabs [(PT, qLam)] H5 := tabs_kp (k4.trans k5) TT
    have hS5 : SqT K H5 fp (fs.map V.str) := k5.keepsN.tup (sqT_of efp)
    have hnames := dr.nm
    have hsz : f.size ≤ 12 := by obtain ⟨k, ns, e⟩ := hnames; exact names12_len e
    have hdp := dr.dp
    have hfs0 : fs ≠ [] := fun z => by rw [z] at f1; exact absurd f1 (by decide)
    have hnod : f.names.Nodup := by
      obtain ⟨k, ns', e⟩ := hnames
      have h1 : (f.names ++ ns').Nodup := by rw [e]; exact names12_nodup.sublist (List.drop_sublist _ _)
      exact (List.nodup_append.mp h1).1
    have hrl := three_name _ dr.rl
    have hev : f.every NdOk := RF.every_mono (fun n h => h.ok) dr.ev
    have hbad := hright.bad hfs0 (by omega)
    have hi0 : Inv fs f rl 12 := ⟨dr.ev, hnod, by omega, hsz, hrl⟩
    have hff : firstFault fs (f.pre 0) [] 0 0 = none := hi0.ok (by omega)
    have hndn : (f.nodes.map fun n => n.nm).Nodup := nodes_nodup hnod
    have hwl : ws.length = f.nodes.length := hX.len
    have R5 := k5.new
    refine ⟨_, rfl, p, _, rfl, sqT_of ep, rfl, _, _, rfl, _, _, rfl, _, _, rfl, rfl, ?_⟩
    refine ⟨_, rfl, (fun b => b ≠ a ∧ b ≠ l), p, fp, pr, fs, rl, ws, f, rfl, sqT_of ep, hS5, hright.fines.txts, by omega, hP, hX, (fun b e => R5.no e), hev, by omega, by omega, hbad, hff, hrl, fun H6 ob s6 hB6 => ?_⟩
    intro x dx no ndx nox
    have s7 : Same H6 (upd (upd H6 dx (.own x)) x (.ins OW dx [])) := ((Same.refl H6).put ndx).put no
    have o7 : (upd (upd H6 dx (.own x)) x (.ins OW dx [])) x = some (.ins OW dx []) := upd_same
    generalize upd (upd H6 dx (.own x)) x (.ins OW dx []) = H7 at s7 o7 ⊢
    refine ⟨fun b => b ≠ a ∧ b ≠ l, x, dx, ob, fs, f, rl, rfl, o7, hB6.keeps s7.keeps, by omega, fun H8 S x8 nS hW8 => ⟨rfl, ?_⟩⟩
    have hx8 : ∃ dx' fs', H8 x = some (.ins OW dx' fs') := by
      obtain ⟨dx', b', L0, _, _, h, _⟩ := hW8.at_
      exact ⟨_, _, h⟩
    have hS8 : H8 S = some (.lst []) := by
      obtain ⟨_, _, _, _, vs0, _, _, _, _, h, h0⟩ := hW8.at_
      cases h0
      exact h
    obtain ⟨nSa, nSl⟩ := ((R5.same s6).same s7).no nS
    have s57 := s6.trans s7
    have k8 : Keeps NoL H7 H8 := SameX.keeps x8 o7 rfl
    have R8 : RS H8 a l := by
      obtain ⟨st, k, ns, e1, e2, qq⟩ := R5.same s57
      exact ⟨st, k, ns, x8 _ _ (fun z => by rw [z, o7] at e1; cases e1) e1, x8 _ _ (fun z => by rw [z, o7] at e2; cases e2) e2, qq⟩
    have T8 : LamX.Tabs [(PT, qLam)] H8 := tabs_of (TT5.ext s57) fun b o n1 n2 e => x8 b o (fun z => by subst z; rw [o7] at e; cases e; exact n2 _ _ _ rfl) e
    have W8 : W51 K C R Bk OW PT a l x S fs f rl (ordN f.nodes.length f.nodes.length) [] H8 := ⟨R8, T8, hW8, ⟨nSa, nSl⟩, ordN_ne⟩
    have ep8 := k8 _ _ stays_tup (s57 _ _ ep)
    have hS8' := k8.tup (s57.tup hS5)
    have hP8 := k8.tup (s57.tup hP)
    have hX8 := (hX.keeps (N := NoL) s57.keeps).keeps k8
    refine ⟨_, rfl, pr, _, rfl, .inr hP8, f.nodes.length, by rw [hwl]; rfl, by omega, fun H9 L' us9 s9 eL9 hus9 => ?_⟩
    refine ⟨Nat.zero_le _, fun Rr nR => ⟨(by show 2 ≤ sizeLine; decide), fun t nt => ?_⟩⟩
    have s10 : Same H9 (upd H9 Rr (.lst [])) := (Same.refl H9).put nR
    have e10 : (upd H9 Rr (.lst [])) Rr = some (.lst []) := upd_same
    have nRR := (R8.same s9).no nR
    have nRS : Rr ≠ S := fun z => by subst z; rw [s9 _ _ hS8] at nR; cases nR
    generalize upd H9 Rr (.lst []) = H10 at s10 e10 nt ⊢
    have s11 : Same H10 (upd H10 t (.tup [.ref L', .ref Rr])) := (Same.refl H10).put nt
    have e11 : (upd H10 t (.tup [.ref L', .ref Rr])) t = some (.tup [.ref L', .ref Rr]) := upd_same
    generalize upd H10 t (.tup [.ref L', .ref Rr]) = H11 at s11 e11 ⊢
    refine ⟨t, _, rfl, sqT_of e11, rfl, _, _, rfl, _, _, rfl, rfl, ?_⟩
    have s811 := (s9.trans s10).trans s11
    refine ⟨_, rfl, pr, rfl, ⟨_, s811.tup hP8⟩, fun DN nDN => lc_it walk_tup (fun i H' => Same H11 H' ∧ H' DN = some (.lst (((f.nodes.take i).map fun n => n.nm).map V.str))) ⟨(Same.refl H11).put nDN, upd_same⟩ (fun _ _ _ h => (s811.trans h.1).tup hP8) ?_ ?_⟩
    · rintro k v Ha0 Ha hk ⟨sa, ea⟩ ⟨rfl, hv⟩
      obtain ⟨nd, hnd, hat⟩ := hX8.all.get hv
      obtain ⟨t3, hs3, fs3, p3, ws3, rfl, h3t, _⟩ := hat.keeps (N := NoL) (s811.trans sa).keeps
      refine ⟨rfl, yes_ ⟨_, rfl, t3, _, 0, _, rfl, rfl, h3t, atI_nat (j := 0) rfl, grow (acc := fun i => ((f.nodes.take i).map fun n => n.nm).map V.str) nDN sa ea ?_ ?_⟩⟩
      · rw [List.length_map, List.length_map, List.length_take, sizeLine_eq]
        omega
      · rw [take_more hnd, List.map_append, List.map_append]
        rfl
    rintro H12 ⟨s12, e12⟩
    rw [hwl, List.take_length] at e12
    have nDN' := (R8.same s811).no nDN
    have nDS : DN ≠ S := fun z => by subst z; rw [s811 _ _ hS8] at nDN; cases nDN
    have s812 := s811.trans s12
    have hL12 := (s10.trans s11).trans s12
    have nL' := ord_head hus9 ordN_ne (R8.same s9) eL9
    have nLS : L' ≠ S := fun z => by
      subst z
      rw [s9 _ _ hS8] at eL9
      cases eL9
      exact ordN_ne (List.length_eq_zero_iff.mp hus9.len.symm)
    have S12 : S51 K C R Bk OW PT a l x S p fp pr DN L' Rr fs f rl (ordN f.nodes.length f.nodes.length) [] H12 := ⟨W8.fr (Fr.of s812) (R8.same s812) (T8.ext s812), ⟨s812 _ _ ep8, s812.tup hS8', ⟨ws, s812.tup hP8, hX8.keeps (N := NoL) s812.keeps⟩, e12, ⟨nDN'.1, nDN'.2, nDS⟩, ⟨us9, hL12 _ _ eL9, hus9.mono fun _ _ z => z.keeps (N := NoL) hL12.keeps⟩, ⟨nL'.1, nL'.2, nLS⟩, ⟨[], (s11.trans s12) _ _ e10, .nil⟩, ⟨nRR.1, nRR.2, nRS⟩⟩⟩
    have hos0 : OrdOk f.nodes.length (ordN f.nodes.length f.nodes.length) := ⟨fun o ho => ord_all (Nat.le_refl _) o ho, by
      have h1 := ord_len f.nodes.length f.nodes.length
      have h2 : f.nodes.length ^ f.nodes.length ≤ 5 ^ 5 := Nat.le_trans (Nat.pow_le_pow_left hn5 _) (Nat.pow_le_pow_right (by decide) hn5)
      have h3 : (5 : Nat) ^ 5 = 3125 := by decide
      omega⟩
    clear hX hP ep hS5 hnames dr hX8 hP8 hS8' ep8 k8 x8 W8 hB6 o7 ndx nox no
    refine ⟨_, rfl, a, l, 4, rfl, S12.w.rs, by decide, by decide, fun H13 rs13 k13 r0 r1 => ?_⟩
    obtain ⟨rn, rfl⟩ : ∃ j : Nat, rs13 = j := ⟨rs13.toNat, by omega⟩
    refine ⟨_, _, rfl, rfl, _, rfl, by omega, by omega, for_it walk_range (fun j σ H' => ∃ (L' Rr : Addr) (os : List (List Nat)) (recs : List (List Str × Str)) (y0 y2 y10 y11 y12 y13 y14 y15 y16 y17 y18 y20 y21 y22 y23 y24 : Option V), σ = [y0, some (.ref a), y2, some (.ref p), some (.ref fp), some (.ref pr), some (.str rl), some (.ref L'), some (.ref Rr), some (.ref DN), y10, y11, y12, y13, y14, y15, y16, y17, y18, some (.ref x), y20, y21, y22, y23, y24] ∧ S51 K C R Bk OW PT a l x S p fp pr DN L' Rr fs f rl os recs H' ∧ OrdOk f.nodes.length os ∧ recs.length ≤ j)
      ⟨L', Rr, _, _, _, _, _, _, _, _, _, _, _, _, _, _, _, _, _, _, rfl, S12.kp k13, hos0, Nat.le_refl _⟩ (fun _ _ _ _ _ => trivial) ?_ ?_⟩
    · clear S12 hos0
      rintro j v0 σ H14' H14 hj ⟨L', Rr, os, recs, y0, y2, y10, y11, y12, y13, y14, y15, y16, y17, y18, y20, y21, y22, y23, y24, rfl, SA, hos, hrl14⟩ ⟨rfl, hv⟩
      have hj : j < 4 := by
        have : j < ((1 : Int) + (rn : Int)).toNat := hj
        omega
      -- the case
      have hpow : 2 ^ fs.length ≤ 16 := Nat.le_trans (Nat.pow_le_pow_right (by decide) f2) (by decide)
      have hpos : 0 < 2 ^ fs.length := Nat.pow_pos (by decide)
      refine ⟨_, rfl, _, rfl, _, rfl, fp, _, rfl, .inr SA.d.hS, fs.length, by rw [List.length_map]; rfl, by omega, ?_⟩
      refine ⟨a, l, _, rfl, SA.w.rs, by omega, small_lim (by omega) (by omega), fun H15 m k15 m0 m1 => ?_⟩
      obtain ⟨m, rfl⟩ : ∃ j : Nat, m = j := ⟨m.toNat, by omega⟩
      have S15 := SA.kp k15
      refine ⟨fp, fs, m, rfl, S15.d.hS, by omega, by omega, fun H16 cp s16 ecp => ?_⟩
      have S16 := S15.same s16
      have hcs : firstOut fs (namesOf fs (m : Nat)) = none := out_sub (names_sub fs (m : Nat)) (fun x h => h) hright.up
      have hcsl : (namesOf fs (m : Nat)).length ≤ 1000 := by
        have := (names_sub fs (m : Nat)).length_le
        omega
      generalize namesOf fs (m : Nat) = cs at hcs hcsl ecp
      obtain ⟨told, htd⟩ : ∃ told, told = f.nodes.map (rwN cs) := ⟨_, rfl⟩
      obtain ⟨us, eL, hus⟩ := S16.d.hL
      obtain ⟨ws, hP, hX⟩ := S16.d.hP
      have hwl := hX.len
      have hul := hus.len
      -- what each order tells
      refine ⟨_, rfl, L', rfl, ⟨_, sqL_of eL⟩, fun DT nDT => lc_it walk_list (fun i H' => Same H16 H' ∧ H' DT = some (.lst (((os.take i).map fun o => byN told rl o).map V.str))) ⟨(Same.refl H16).put nDT, upd_same⟩ (fun _ _ _ h => sqL_of (h.1 _ _ eL)) ?_ ?_⟩
      · rintro k v Ha0 Ha hk ⟨sa, ea⟩ ⟨rfl, hv⟩
        obtain ⟨o, hoi, t, ot, rfl, ht, hot⟩ := hus.get hv
        obtain ⟨ho1, ho2, ho3⟩ := hos.len o (List.mem_of_getElem? hoi)
        have hta := sa _ _ ht
        refine ⟨rfl, yes_ ⟨_, rfl, _, rfl, t, rfl, ⟨_, .inl (.inr ⟨_, hta⟩)⟩, fun D2 nD2 => lc_it walk_tup (fun k H' => Same Ha H' ∧ H' D2 = some (.lst ((o.take k).map fun j => ws.getD j .non))) ⟨(Same.refl Ha).put nD2, upd_same⟩ (fun _ _ _ h => .inl (.inr ⟨_, h.1 _ _ hta⟩)) ?_ ?_⟩⟩
        · rintro k2 v Hb0 Hb hk2 ⟨sb, eb⟩ ⟨rfl, hv2⟩
          rw [List.getElem?_map] at hv2
          obtain ⟨q2, hq2, rfl⟩ := Option.map_eq_some_iff.mp hv2
          have hql := ho3 q2 (List.mem_of_getElem? hq2)
          have hwq : ws[q2]? = some ws[q2] := List.getElem?_eq_getElem (by omega)
          refine ⟨rfl, yes_ ⟨_, rfl, _, rfl, pr, _, _, _, rfl, rfl, (sa.trans sb).tup hP, atI_nat hwq, grow (acc := fun k => (o.take k).map fun j => ws.getD j .non) nD2 sb eb ?_ ?_⟩⟩
          · rw [List.length_map, List.length_take, sizeLine_eq]
            omega
          · rw [take_more hq2, List.map_append, List.map_cons, List.getD_eq_getElem?_getD, hwq]
            rfl
        rintro Hb ⟨sb, eb⟩
        rw [List.length_map, List.take_length] at eb
        refine ⟨D2, _, rfl, .inl ⟨sqL_of eb, fun tp ntp => ?_⟩⟩
        have sc : Same Hb (upd Hb tp (.tup (o.map fun j => ws.getD j .non))) := (Same.refl Hb).put ntp
        have ec : (upd Hb tp (.tup (o.map fun j => ws.getD j .non))) tp = some (.tup (o.map fun j => ws.getD j .non)) := upd_same
        generalize upd Hb tp (.tup (o.map fun j => ws.getD j .non)) = Hc at sc ec ⊢
        refine ⟨_, rfl, (by show 3 ≤ sizeLine; decide), fun tt ntt => ?_⟩
        have sd : Same Hc (upd Hc tt (.tup [.ref fp, .ref tp, .str rl])) := (Same.refl Hc).put ntt
        have ed : (upd Hc tt (.tup [.ref fp, .ref tp, .str rl])) tt = some (.tup [.ref fp, .ref tp, .str rl]) := upd_same
        generalize upd Hc tt (.tup [.ref fp, .ref tp, .str rl]) = Hd at sd ed ⊢
        have sab := ((sa.trans sb).trans sc).trans sd
        have hrows : RowsAt K Hd (pmF f o) (o.map fun j => ws.getD j .non) := RowsAt.of (by
          unfold pmF
          rw [RF.nodes_of]
          exact all2_pm ((hX.keeps (N := NoL) sab.keeps).all) .non ho3)
        have hpz : (pmF f o).size ≤ 900 := Nat.le_trans pm_size (Nat.le_trans (Nat.mul_le_mul (show o.length ≤ 5 by omega) hsz) (by decide))
        refine ⟨_, rfl, tt, fp, tp, cp, _, pmF f o, rl, cs, rfl, sqT_of ed, sqT_of (sd _ _ ec), hrows, sab.tup (sqT_of ecp), Nat.le_trans pm_dep (by omega), hpz, pm_every hev, fun He te se ee => ?_⟩
        refine ⟨te, _, 0, _, rfl, rfl, sqT_of ee, atI_nat (j := 0) rfl, ?_⟩
        have sae : Same Ha He := ((sb.trans sc).trans sd).trans se
        rw [ruled_by, ← htd]
        refine grow (acc := fun i => ((os.take i).map fun o => byN told rl o).map V.str) nDT (sa.trans sae) (sae _ _ ea) ?_ ?_
        · have := hos.many
          rw [List.length_map, List.length_map, List.length_take, sizeLine_eq]
          omega
        · rw [take_more hoi, List.map_append, List.map_append]
          rfl
      rintro H17 ⟨s17, e17⟩
      rw [hul, List.take_length] at e17
      have S17 := S16.same s17
      have nT := S16.w.rs.no nDT
      -- the ruling that is seen
      refine ⟨_, rfl, (by show 1 ≤ sizeLine; decide), fun Lf nLf => ?_⟩
      have s18 : Same H17 (upd H17 Lf (.lst [.str "fine"])) := (Same.refl H17).put nLf
      have e18 : (upd H17 Lf (.lst [.str "fine"])) Lf = some (.lst [.str "fine"]) := upd_same
      generalize upd H17 Lf (.lst [.str "fine"]) = H18 at s18 e18 ⊢
      have htl : ((os.map fun o => byN told rl o).map V.str).length = os.length := by rw [List.length_map, List.length_map]
      have hom := hos.many
      refine ⟨DT, Lf, _, _, rfl, rfl, s18 _ _ e17, e18, (by rw [htl, sizeLine_eq, List.length_singleton]; omega), fun Lc nLc => ?_⟩
      have nC := (S17.same s18).w.rs.no nLc
      have s19 : Same H18 (upd H18 Lc (.lst (((os.map fun o => byN told rl o).map V.str) ++ [.str "fine"]))) := (Same.refl H18).put nLc
      have e19 : (upd H18 Lc (.lst (((os.map fun o => byN told rl o).map V.str) ++ [.str "fine"]))) Lc = some (.lst (((os.map fun o => byN told rl o) ++ (["fine"] : List Str)).map V.str)) := by rw [upd_same, List.map_append]; rfl
      generalize upd H18 Lc (.lst (((os.map fun o => byN told rl o).map V.str) ++ [.str "fine"])) = H19 at s19 e19 ⊢
      have s79 := s18.trans s19
      have S19 := S17.same s79
      refine ⟨_, rfl, _, rfl, DT, _, rfl, .inl (sqL_of (s79 _ _ e17)), _, _, rfl, rfl, a, l, _, rfl, S19.w.rs, by rw [htl]; omega, big_lim (by rw [htl]; omega) (by rw [htl]; omega), fun H20 r k20 r0 r1 => ?_⟩
      obtain ⟨r, rfl⟩ : ∃ j : Nat, r = j := ⟨r.toNat, by omega⟩
      rw [htl] at r1
      have S20 := S19.kp k20
      have e20 := k20.keep _ _ nC.1 nC.2 e19
      have eT20 := k20.keep _ _ nT.1 nT.2 (s79 _ _ e17)
      obtain ⟨what, hwh⟩ : ∃ z, ((os.map fun o => byN told rl o) ++ (["fine"] : List Str))[r]? = some z := ⟨_, List.getElem?_eq_getElem (by rw [List.length_append, List.length_map, List.length_singleton]; omega)⟩
      have hwn : isName what = true := by
        rcases List.mem_append.mp (List.mem_of_getElem? hwh) with h | h
        · obtain ⟨o, _, rfl⟩ := List.mem_map.mp h
          rw [htd]
          exact byN_name hev hrl o
        · rw [List.mem_singleton.mp h]
          decide +kernel
      refine ⟨Lc, _, _, _, rfl, rfl, sqL_of e20, atI_nat (by rw [List.getElem?_map, hwh]; rfl), ?_⟩
      obtain ⟨us2, eL2, hus2⟩ := S20.d.hL
      have hul2 := hus2.len
      -- the orders that it leaves
      refine ⟨_, rfl, L', _, rfl, .inl (sqL_of eL2), _, rfl, by omega, by omega, fun DF nDF => lc_it walk_range (fun i H' => Same H20 H' ∧ ∃ ws, H' DF = some (.lst ws) ∧ All2 (OrdAt H') ws (leftO told rl what (os.take i))) ⟨(Same.refl H20).put nDF, [], upd_same, .nil⟩ (fun _ _ _ _ => trivial) ?_ ?_⟩
      · rintro i v Ha0 Ha hi ⟨sa, ws3, ea, hws⟩ ⟨rfl, hv⟩
        have hi : i < os.length := by
          have hi : i < ((us2.length : Nat) : Int).toNat := hi
          omega
        obtain rfl : v = V.int (i : Nat) := by rw [hv]; show V.int (0 + (i : Nat)) = _; rw [Int.zero_add]
        obtain ⟨o, hoi⟩ : ∃ o, os[i]? = some o := ⟨_, List.getElem?_eq_getElem hi⟩
        obtain ⟨u, hu, hat⟩ := hus2.at' (show i < os.length by omega)
        rw [(List.getElem?_eq_some_iff.mp hoi).2] at hat
        have hwl := hws.len
        have hfl : (leftO told rl what (os.take i)).length ≤ 50000 := by
          unfold leftO
          have h1 := List.length_filter_le (fun o => decide (byN told rl o = what)) (os.take i)
          rw [List.length_take] at h1
          omega
        have hm := left_more (told := told) (rl := rl) (r := what) hoi
        have hat4 : OrdAt Ha u o := hat.keeps (N := NoL) sa.keeps
        refine ⟨rfl, _, rfl, _, rfl, DT, _, _, _, rfl, rfl, sqL_of (sa _ _ eT20), atI_nat (j := i) (by rw [List.getElem?_map, List.getElem?_map, hoi]; rfl), _, rfl, rfl, _, rfl, ?_⟩
        refine bcase (fun c1 => ?_) (fun c1 => ?_)
        · rw [if_pos (V.str.inj (of_decide_eq_true c1))] at hm
          refine ⟨_, rfl, _, rfl, L', _, _, _, rfl, rfl, sqL_of (sa _ _ eL2), atI_nat hu, ws3, ea, by rw [sizeLine_eq]; omega, sa.put nDF, ws3 ++ [u], upd_same, ?_⟩
          rw [hm]
          have kk : Keeps NoL Ha (upd Ha DF (.lst (ws3 ++ [u]))) := keeps_own ea id
          exact all2_append (hws.mono fun _ _ z => z.keeps kk) (.cons (hat4.keeps kk) .nil)
        · rw [if_neg (fun z => of_decide_eq_false c1 (congrArg V.str z)), List.append_nil] at hm
          exact ⟨sa, ws3, ea, by rw [hm]; exact hws⟩
      rintro H21 ⟨s21, ws3, eF, hws3⟩
      have hws3 : All2 (OrdAt H21) ws3 (leftO told rl what os) := by
        have h : All2 (OrdAt H21) ws3 (leftO told rl what (os.take ((us2.length : Nat) : Int).toNat)) := hws3
        rw [List.take_of_length_le (by omega)] at h
        exact h
      have S21 := S20.same s21
      have nF := S20.w.rs.no nDF
      have ecp21 : H21 cp = some (.tup (cs.map V.str)) := s21 _ _ (k20.keepsN _ _ stays_tup ((s17.trans s79) _ _ ecp))
      have nFS : DF ≠ S := fun z => by
        obtain ⟨_, _, _, _, vs0, _, _, _, _, h5, _⟩ := S20.w.wat.at_
        subst z; rw [h5] at nDF; cases nDF
      obtain ⟨left, hleft⟩ : ∃ left, left = leftO told rl what os := ⟨_, rfl⟩
      rw [← hleft] at hws3
      have hlo : OrdOk f.nodes.length left := by
        rw [hleft]
        exact ⟨fun o ho => hos.len o (List.mem_filter.mp ho).1, by
          have h1 := List.length_filter_le (fun o => decide (byN told rl o = what)) os
          unfold leftO
          omega⟩
      -- the call of see
      refine ⟨S21.w.tb, fun H22 x22 t22 => ?_⟩
      have S22 := S21.ext x22 t22
      have ecp22 : H22 cp = some (.tup (cs.map V.str)) := x22 _ _ ecp21 (fun _ z => nomatch z)
      have eF22 : H22 DF = some (.lst ws3) := x22 _ _ eF (fun _ z => nomatch z)
      have hws22 : All2 (OrdAt H22) ws3 left := hws3.mono fun _ _ z => z.keeps (N := NoL) ((Fr.ext (a := a) (l := l) x22).keeps S21.w.rs (fun z => z) (fun z => z))
      refine tw_cut (fun v H' => v = fndV left ∧ W51 K C R Bk OW PT a l x S fs f rl (if left = [] then os else left) (if left = [] then recs else recs ++ [(cs, what)]) H' ∧ D51 K a l S p fp pr DN L' Rr fs f rl os recs H' ∧ H' DF = some (.lst ws3) ∧ All2 (OrdAt H') ws3 left ∧ H' cp = some (.tup (cs.map V.str))) ?_ ?_
      rotate_left
      · intro Q' hQ'
        obtain ⟨dx, b0, L0, us0, vs0, h1, _, _, _, h5, _⟩ := S22.w.wat.at_
        refine ⟨_, rfl, x, dx, _, rfl, h1, rfl, _, rfl, _, rfl, (fun b => b ≠ a ∧ b ≠ l), x, S, cp, fs, f, rl, os, recs, cs, what, rfl, S22.w.wat, ecp22, hcsl, hcs, (by have := name_len hwn; omega), hwn, hev, by omega, by omega, by omega, hos, fun he H' s' => ?_, fun hne H' fr hw => ?_⟩
        · have hl0 : left = [] := by rw [hleft, htd]; exact he
          refine ⟨CT, rfl, eT, rfl, fun H2 s2 => hQ' _ _ ?_⟩
          have ss := s'.trans s2
          have Sx := S22.same ss
          rw [if_pos hl0, if_pos hl0]
          exact ⟨(if_pos hl0).symm, Sx.w, Sx.d, ss _ _ eF22, hws22.mono fun _ _ z => z.keeps (N := NoL) ss.keeps, ss _ _ ecp22⟩
        · have el : leftO (f.nodes.map (rwN cs)) rl what os = left := by rw [hleft, htd]
          rw [el] at hw hne ⊢
          refine hQ' _ _ ?_
          rw [if_neg hne, if_neg hne]
          have kn : Keeps NoL H22 H' := owKeeps h1 h5 (fun z => z) fr
          exact ⟨(if_neg hne).symm, ⟨see_rs S22.w.rs S22.w fr, see_tabs S22.w fr, hw, S22.w.nS, hne⟩, S22.d.fr S22.w.wat S22.w.rs (fun b o _ _ n1 n2 _ e => fr b o n1 n2 e), fr _ _ (fun z => by rw [z, h1] at eF22; cases eF22) nFS eF22, hws22.mono fun _ _ z => z.keeps kn, kn _ _ stays_tup ecp22⟩
      rintro v H23 ⟨rfl, W23, D23, eF23, hws23, ecp23⟩
      have hwl3 := hws23.len
      -- what is found of it
      refine ⟨_, rfl, ?_⟩
      refine te_cut (fun v H' => v = fndV left ∧ Same H23 H') ?_ ?_
      rotate_left
      · intro Q' hQ'
        refine ⟨_, rfl, Nat.zero_le _, fun Lz nz => ⟨DF, Lz, ws3, rfl, rfl, ((Same.refl H23).put nz) _ _ eF23, upd_same, _, rfl, ?_⟩⟩
        have sz := (Same.refl H23).put (o := .lst []) nz
        rw [if_pos rfl]
        cases ws3 with
        | nil => exact iteF (hQ' _ _ ⟨by rw [List.length_eq_zero_iff.mp hwl3.symm]; rfl, sz⟩)
        | cons w0 wr =>
          have hn : left ≠ [] := fun z => by rw [z] at hwl3; cases hwl3
          refine iteT ⟨_, rfl, DF, _, rfl, .inl (sqL_of (sz _ _ eF23)), hQ' _ _ ⟨?_, sz⟩⟩
          unfold fndV
          rw [if_neg hn, hwl3]
      rintro v H24 ⟨rfl, s24⟩
      refine ⟨_, _, fndD left, rfl, ad_fnd, ad_fnd, fun H25 s25 => ⟨true, rfl, iteF ?_⟩⟩
      have s45 := s24.trans s25
      obtain ⟨os2, hos2⟩ : ∃ os2, os2 = if left = [] then os else left := ⟨_, rfl⟩
      obtain ⟨recs2, hrecs2⟩ : ∃ recs2, recs2 = if left = [] then recs else recs ++ [(cs, what)] := ⟨_, rfl⟩
      rw [← hos2, ← hrecs2] at W23
      have hok2 : OrdOk f.nodes.length os2 := by
        rw [hos2]
        split
        · exact hos
        · exact hlo
      have hrl2 : recs2.length ≤ j + 1 := by
        rw [hrecs2]
        split
        · omega
        · rw [List.length_append, List.length_singleton]; omega
      have W25 := W23.fr (Fr.of s45) (W23.rs.same s45) (W23.tb.ext s45)
      have D25 := D23.fr W23.wat W23.rs (Fr.two (Fr.of s45))
      have eF25 := s45 _ _ eF23
      have hws25 : All2 (OrdAt H25) ws3 left := hws23.mono fun _ _ z => z.keeps (N := NoL) s45.keeps
      have ecp25 := s45 _ _ ecp23
      dsimp only [tNext]
      refine seq_cut (fun σ' H' => ∃ (L2 R2 : Addr) (z11 z12 z13 z14 z18 z20 z23 : Option V), σ' = [y0, some (.ref a), y2, some (.ref p), some (.ref fp), some (.ref pr), some (.str rl), some (.ref L2), some (.ref R2), some (.ref DN), some v0, z11, z12, z13, z14, y15, y16, y17, z18, some (.ref x), z20, y21, y22, z23, y24] ∧ S51 K C R Bk OW PT a l x S p fp pr DN L2 R2 fs f rl os2 recs2 H') ?_ ?_
      rotate_left
      · intro N hN
        refine ⟨_, rfl, Nat.zero_le _, fun Lz nz => ⟨DF, Lz, ws3, rfl, rfl, ((Same.refl H25).put nz) _ _ eF25, upd_same, _, rfl, ?_⟩⟩
        have sz := (Same.refl H25).put (o := .lst []) nz
        rw [if_pos rfl]
        by_cases hl0 : left = []
        · have e3 : ws3 = [] := List.length_eq_zero_iff.mp (by rw [hwl3, hl0]; rfl)
          subst e3
          rw [if_pos hl0] at hos2 hrecs2
          subst hos2 hrecs2
          exact iteF (hN _ _ ⟨L', Rr, _, _, _, _, _, _, _, rfl, (S51.mk W25 D25).same sz⟩)
        · have hne3 : (!ws3.isEmpty) = true := by
            cases ws3 with
            | nil => exact absurd (List.length_eq_zero_iff.mp hwl3.symm) hl0
            | cons a b => rfl
          rw [if_neg hl0] at hos2 hrecs2
          subst hos2 hrecs2
          rw [hne3]
          have eF26 := sz _ _ eF25
          have hws26 := hws25.mono fun _ _ z => z.keeps (N := NoL) sz.keeps
          have ecp26 := sz _ _ ecp25
          have W26 := W25.fr (Fr.of sz) (W25.rs.same sz) (W25.tb.ext sz)
          have D26 := D25.fr W25.wat W25.rs (Fr.two (Fr.of sz))
          generalize upd H25 Lz (.lst []) = H26 at sz eF26 hws26 ecp26 W26 D26 ⊢
          obtain ⟨vs, eR, hvs⟩ := D26.hR
          have hvl := hvs.len
          have hSS : ∃ vs0, H26 S = some (.lst vs0) := by
            obtain ⟨_, _, _, _, vs0, _, _, _, _, h5, _⟩ := W26.wat.at_
            exact ⟨vs0, h5⟩
          obtain ⟨vs0, eS⟩ := hSS
          refine iteT ⟨_, rfl, _, rfl, _, rfl, _, rfl, (by show 2 ≤ sizeLine; decide), fun tq ntq => ⟨(by show 1 ≤ sizeLine; decide), fun Lq nLq => ?_⟩⟩
          have s27 : Same H26 (upd H26 tq (.tup [.ref cp, .str what])) := (Same.refl H26).put ntq
          have e27 : (upd H26 tq (.tup [.ref cp, .str what])) tq = some (.tup [.ref cp, .str what]) := upd_same
          generalize upd H26 tq (.tup [.ref cp, .str what]) = H27 at s27 e27 nLq ⊢
          have s28 : Same H27 (upd H27 Lq (.lst [.ref tq])) := (Same.refl H27).put nLq
          have e28 : (upd H27 Lq (.lst [.ref tq])) Lq = some (.lst [.ref tq]) := upd_same
          generalize upd H27 Lq (.lst [.ref tq]) = H28 at s28 e28 ⊢
          have s68 := s27.trans s28
          refine ⟨Rr, Lq, vs, [.ref tq], rfl, rfl, s68 _ _ eR, e28, (by rw [sizeLine_eq, List.length_singleton]; omega), fun Rn nRn => ⟨(by show 2 ≤ sizeLine; decide), fun tp ntp => ?_⟩⟩
          have s29 : Same H28 (upd H28 Rn (.lst (vs ++ [.ref tq]))) := (Same.refl H28).put nRn
          have e29 : (upd H28 Rn (.lst (vs ++ [.ref tq]))) Rn = some (.lst (vs ++ [.ref tq])) := upd_same
          have nRnS : Rn ≠ S := fun z => by subst z; rw [s68 _ _ eS] at nRn; cases nRn
          have nRal := (W26.rs.same s68).no nRn
          generalize upd H28 Rn (.lst (vs ++ [.ref tq])) = H29 at s29 e29 ntp ⊢
          have s30 : Same H29 (upd H29 tp (.tup [.ref DF, .ref Rn])) := (Same.refl H29).put ntp
          have e30 : (upd H29 tp (.tup [.ref DF, .ref Rn])) tp = some (.tup [.ref DF, .ref Rn]) := upd_same
          generalize upd H29 tp (.tup [.ref DF, .ref Rn]) = H30 at s30 e30 ⊢
          have s60 := (s68.trans s29).trans s30
          refine ⟨tp, _, rfl, sqT_of e30, rfl, _, _, rfl, _, _, rfl, rfl, ?_⟩
          have W30 := W26.fr (Fr.of s60) (W26.rs.same s60) (W26.tb.ext s60)
          have D30 := D26.fr W26.wat W26.rs (Fr.two (Fr.of s60))
          refine hN _ _ ⟨DF, Rn, _, _, _, _, _, _, _, rfl, W30, ⟨D30.ep, D30.hS, D30.hP, D30.hN, D30.nN, ⟨ws3, s60 _ _ eF26, hws26.mono fun _ _ z => z.keeps (N := NoL) s60.keeps⟩, ⟨nF.1, nF.2, nFS⟩, ⟨vs ++ [.ref tq], s30 _ _ e29, all2_append (hvs.mono fun _ _ z => z.keeps (N := NoL) s60.keeps) (.cons ⟨tq, cp, rfl, ((s28.trans s29).trans s30) _ _ e27, s60 _ _ ecp26, hcsl⟩ .nil)⟩, ⟨nRal.1, nRal.2, nRnS⟩⟩⟩
      rintro σ' H26 ⟨L2, R2, z11, z12, z13, z14, z18, z20, z23, rfl, SB⟩
      clear W23 D23 W25 D25 hws23 hws25 hws22 hws3 eF25 eF23 ecp25 ecp23 S22 S21 S20 S19 S17 S16 S15 SA
      obtain ⟨o, os3, rfl⟩ : ∃ o os3, os2 = o :: os3 := by
        cases os2 with
        | nil => exact absurd rfl SB.w.ne
        | cons o os3 => exact ⟨o, os3, rfl⟩
      obtain ⟨us4, eL4, hus4⟩ := SB.d.hL
      obtain ⟨vs4, eR4, hvs4⟩ := SB.d.hR
      have eN4 := SB.d.hN
      have hul4 := hus4.len
      have hvl4 := hvs4.len
      obtain ⟨u4, us5, rfl, ⟨t4, ot4, rfl, ht4, hot4⟩, hus5⟩ : ∃ u4 us5, us4 = u4 :: us5 ∧ OrdAt H26 u4 o ∧ All2 (OrdAt H26) us5 os3 := by
        cases hus4 with
        | cons a b => exact ⟨_, _, rfl, a, b⟩
      obtain ⟨ho1, ho2, ho3⟩ := hok2.len o List.mem_cons_self
      have hnl : (f.nodes.map fun n => n.nm).length = f.nodes.length := List.length_map _
      -- what is due
      refine ⟨_, rfl, L2, _, rfl, .inl (sqL_of eL4), _, rfl, L2, _, 0, _, rfl, rfl, sqL_of eL4, atI_nat (j := 0) rfl, t4, rfl, ⟨_, .inl (.inr ⟨_, ht4⟩)⟩, fun D2 nD2 => lc_it walk_tup (fun k H' => Same H26 H' ∧ H' D2 = some (.lst ((ordNm f (o.take k)).map V.str))) ⟨(Same.refl H26).put nD2, upd_same⟩ (fun _ _ _ h => .inl (.inr ⟨_, h.1 _ _ ht4⟩)) ?_ ?_⟩
      · rintro k v Ha0 Ha hk ⟨sa, ea⟩ ⟨rfl, hv⟩
        rw [List.getElem?_map] at hv
        obtain ⟨q2, hq2, rfl⟩ := Option.map_eq_some_iff.mp hv
        have hql := ho3 q2 (List.mem_of_getElem? hq2)
        obtain ⟨nd, hnd⟩ : ∃ nd, f.nodes[q2]? = some nd := ⟨_, List.getElem?_eq_getElem hql⟩
        have hn : ordNm f (o.take (k + 1)) = ordNm f (o.take k) ++ [nd.nm] := by
          unfold ordNm
          rw [take_more hq2, List.map_append, List.map_cons, hnd]
          rfl
        refine ⟨rfl, yes_ ⟨_, rfl, _, rfl, DN, _, _, _, rfl, rfl, sqL_of (sa _ _ eN4), atI_nat (j := q2) (by rw [List.getElem?_map, List.getElem?_map, hnd]; rfl), grow (acc := fun i => (ordNm f (o.take i)).map V.str) nD2 sa ea ?_ ?_⟩⟩
        · rw [List.length_map, sizeLine_eq]
          unfold ordNm
          rw [List.length_map, List.length_take]
          omega
        · rw [hn, List.map_append]
          rfl
      rintro H27 ⟨s27, e27⟩
      rw [List.length_map, List.take_length] at e27
      refine ⟨D2, _, rfl, .inl ⟨sqL_of e27, fun tp ntp => ?_⟩⟩
      have s28 : Same H27 (upd H27 tp (.tup ((ordNm f o).map V.str))) := (Same.refl H27).put ntp
      have e28 : (upd H27 tp (.tup ((ordNm f o).map V.str))) tp = some (.tup ((ordNm f o).map V.str)) := upd_same
      generalize upd H27 tp (.tup ((ordNm f o).map V.str)) = H28 at s28 e28 ⊢
      have s68 := s27.trans s28
      refine ⟨_, rfl, (by show 3 ≤ sizeLine; decide), fun Ld nLd => ?_⟩
      have s29 : Same H28 (upd H28 Ld (.lst [.int (((.ref t4 : V) :: us5).length : Nat), .ref tp, .ref R2])) := (Same.refl H28).put nLd
      have e29 : (upd H28 Ld (.lst [.int (((.ref t4 : V) :: us5).length : Nat), .ref tp, .ref R2])) Ld = some (.lst [.int (((.ref t4 : V) :: us5).length : Nat), .ref tp, .ref R2]) := upd_same
      generalize upd H28 Ld (.lst [.int (((.ref t4 : V) :: us5).length : Nat), .ref tp, .ref R2]) = H29 at s29 e29 ⊢
      have s69 := s68.trans s29
      have SC := SB.same s69
      have had : AD H29 6 (.ref Ld) (.list [.int ((o :: os3).length : Nat), .tuple ((ordNm f o).map PyData.str), .list (recs2.map recD)]) := ad_due (by rw [← hul4]; exact e29) (s29 _ _ e28) (s69 _ _ eR4) (hvs4.mono fun _ _ z => z.keeps (N := NoL) s69.keeps) (by omega) (by unfold ordNm; rw [List.length_map]; omega)
      obtain ⟨dx, b0, L0, us0, vs0, h1, _, _, _, h5, _⟩ := SC.w.wat.at_
      refine ⟨_, rfl, x, dx, _, rfl, h1, (fun b => b ≠ a ∧ b ≠ l), x, S, fs, f, rl, _, recs2, rfl, SC.w.wat, ?_⟩
      refine ⟨_, rfl, x, dx, _, rfl, h1, (fun b => b ≠ a ∧ b ≠ l), x, S, fs, f, rl, o, os3, recs2, rfl, SC.w.wat, hok2, by omega, fun H30 p1 s30 ep1 => ?_⟩
      have SD := SC.same s30
      refine ⟨_, rfl, x, dx, _, rfl, s30 _ _ h1, (fun b => b ≠ a ∧ b ≠ l), x, S, fs, f, rl, o :: os3, recs2, rfl, SD.w.wat, by omega, fun H31 R1 vs1 s31 nR1 eR1 hvs1 => ?_⟩
      have SE := SD.same s31
      refine ⟨(by show 3 ≤ sizeLine; decide), fun La nLa => ?_⟩
      have s32 : Same H31 (upd H31 La (.lst [.int ((o :: os3).length : Nat), .ref p1, .ref R1])) := (Same.refl H31).put nLa
      have e32 : (upd H31 La (.lst [.int ((o :: os3).length : Nat), .ref p1, .ref R1])) La = some (.lst [.int ((o :: os3).length : Nat), .ref p1, .ref R1]) := upd_same
      generalize upd H31 La (.lst [.int ((o :: os3).length : Nat), .ref p1, .ref R1]) = H32 at s32 e32 ⊢
      have s02 := (s30.trans s31).trans s32
      have SF := SE.same s32
      have had2 : AD H32 6 (.ref La) (.list [.int ((o :: os3).length : Nat), .tuple ((ordNm f o).map PyData.str), .list (recs2.map recD)]) := ad_due e32 ((s31.trans s32) _ _ ep1) (s32 _ _ eR1) (hvs1.mono fun _ _ z => z.keeps (N := NoL) s32.keeps) (by omega) (by unfold ordNm; rw [List.length_map]; omega)
      refine ⟨_, rfl, _, _, _, rfl, had2, had.same s02, fun H33 s33 => ⟨true, rfl, iteF ?_⟩⟩
      have SG := SF.same s33
      dsimp only [tNext]
      refine ⟨_, rfl, DN, _, rfl, .inl (sqL_of SG.d.hN), _, rfl, by omega, by rw [List.length_map, hnl]; omega, for_it walk_range (fun k σ H' => ∃ (z14 z15 z16 z17 z24 : Option V), σ = [y0, some (.ref a), y2, some (.ref p), some (.ref fp), some (.ref pr), some (.str rl), some (.ref L2), some (.ref R2), some (.ref DN), some v0, z11, z12, z13, z14, z15, z16, z17, z18, some (.ref x), z20, y21, y22, z23, z24] ∧ S51 K C R Bk OW PT a l x S p fp pr DN L2 R2 fs f rl (o :: os3) recs2 H')
        ⟨_, _, _, _, _, rfl, SG⟩ (fun _ _ _ _ _ => trivial) ?_ ?_⟩
      · clear SG SF SE SD SC SB
        rintro k v σ Ha0 Ha hk ⟨z14, z15, z16, z17, z24, rfl, SH⟩ ⟨rfl, hv⟩
        have hk : k < f.nodes.length := by
          have hk : k < (((List.map V.str (f.nodes.map fun n => n.nm)).length : Nat) : Int).toNat := hk
          rw [List.length_map, hnl] at hk
          omega
        obtain rfl : v = V.int (k : Nat) := by rw [hv]; show V.int (0 + (k : Nat)) = _; rw [Int.zero_add]
        have hN1 := SH.d.hN
        refine ⟨_, rfl, _, rfl, DN, _, rfl, .inl (sqL_of hN1), a, l, _, rfl, SH.w.rs, by rw [List.length_map, hnl]; omega, small_lim (by omega) (by rw [List.length_map, hnl]; omega), fun H35 r k35 r0 r1 => ?_⟩
        rw [List.length_map, hnl] at r1
        obtain ⟨r, rfl⟩ : ∃ j : Nat, r = j := ⟨r.toNat, by omega⟩
        have hrn : r < f.nodes.length := by omega
        have SI := SH.kp k35
        obtain ⟨us6, eL6, hus6⟩ := SI.d.hL
        have hul6 := hus6.len
        -- the orders that hold them the other way around
        refine ⟨_, rfl, L2, rfl, ⟨_, sqL_of eL6⟩, fun DB nDB => lc_it walk_list (fun i H' => Same H35 H' ∧ ∃ ws, H' DB = some (.lst ws) ∧ ws.length = (((o :: os3).take i).filter fun q => decide (q.idxOf r < q.idxOf k)).length) ⟨(Same.refl H35).put nDB, [], upd_same, rfl⟩ (fun _ _ _ h => sqL_of (h.1 _ _ eL6)) ?_ ?_⟩
        · rintro i v Ha0 Hb hi ⟨sa, ws6, ea, hwl6⟩ ⟨rfl, hv⟩
          obtain ⟨q, hqi, t, ot, rfl, ht, hot⟩ := hus6.get hv
          obtain ⟨hq1, hq2, hq3⟩ := hok2.len q (List.mem_of_getElem? hqi)
          have hta := sa _ _ ht
          have hin := in_ord hq1 hq2 hq3 hk
          have hjn := in_ord hq1 hq2 hq3 hrn
          have hle := List.length_filter_le (fun q => decide (q.idxOf r < q.idxOf k)) ((o :: os3).take i)
          have hom := hok2.many
          rw [List.length_take] at hle
          refine ⟨rfl, _, rfl, ⟨t, ot, _, rfl, hta, hot⟩, _, rfl, t, _, _, q.idxOf k, .int (k : Nat), rfl, rfl, .inl (.inr ⟨_, hta⟩), rfl, flat_ints q, ord_at hin, eqV_int.mpr rfl, ord_first hq2 hin, ?_⟩
          refine ⟨_, rfl, ⟨t, ot, _, rfl, hta, hot⟩, _, rfl, t, _, _, q.idxOf r, .int (r : Nat), rfl, rfl, .inl (.inr ⟨_, hta⟩), rfl, flat_ints q, ord_at hjn, eqV_int.mpr rfl, ord_first hq2 hjn, _, _, rfl, rfl, _, rfl, ?_⟩
          rw [show decide (((q.idxOf r : Nat) : Int) < ((q.idxOf k : Nat) : Int)) = decide (q.idxOf r < q.idxOf k) from by simp]
          refine bcase (fun c1 => ?_) (fun c1 => ?_)
          · refine ⟨_, rfl, ws6, ea, by rw [sizeLine_eq]; omega, sa.put nDB, ws6 ++ [.ref t], upd_same, ?_⟩
            rw [take_more hqi, List.filter_append, List.filter_cons_of_pos (p := fun q : List Nat => decide (q.idxOf r < q.idxOf k)) c1, List.length_append, List.length_append, hwl6]
            rfl
          · refine ⟨sa, ws6, ea, ?_⟩
            rw [take_more hqi, List.filter_append, List.filter_cons_of_neg (p := fun q : List Nat => decide (q.idxOf r < q.idxOf k)) (by rw [c1]; decide), List.filter_nil, List.append_nil, hwl6]
        rintro H36 ⟨s36, ws6, e36, hwl6⟩
        rw [hul6, List.take_length] at hwl6
        have SJ := SI.same s36
        have hN6 := SJ.d.hN
        obtain ⟨dx6, b6, L6, us7, vs7, h16, _, _, _, _, _⟩ := SJ.w.wat.at_
        obtain ⟨nk, hnk⟩ : ∃ z, (f.nodes.map fun n => n.nm)[k]? = some z := ⟨_, List.getElem?_eq_getElem (by rw [hnl]; exact hk)⟩
        obtain ⟨nr, hnr⟩ : ∃ z, (f.nodes.map fun n => n.nm)[r]? = some z := ⟨_, List.getElem?_eq_getElem (by rw [hnl]; exact hrn)⟩
        refine ⟨_, rfl, x, dx6, _, rfl, h16, rfl, _, rfl, _, rfl, DN, _, _, _, rfl, rfl, sqL_of hN6, atI_nat (by rw [List.getElem?_map, hnk]; rfl), _, rfl, _, rfl, DN, _, _, _, rfl, rfl, sqL_of hN6, atI_nat (by rw [List.getElem?_map, hnr]; rfl), ?_⟩
        refine ⟨(fun b => b ≠ a ∧ b ≠ l), x, S, fs, f, rl, o :: os3, recs2, nk, nr, k, r, rfl, SJ.w.wat, hndn, hnk, hnr, by omega, hok2, fun H37 s37 => ?_⟩
        have SK := SJ.same s37
        have hmean := sure_mean (k := k) (r := r) hok2 hk hrn
        refine te_cut (te := tAndV _ _) (fun v H' => v = .bl ((o :: os3).all fun q => decide (q.idxOf k < q.idxOf r)) ∧ Same H37 H') ?_ ?_
        rotate_left
        · intro Q' hQ'
          have e37 := s37 _ _ e36
          have ekr : decide (V.int (k : Nat) = V.int (r : Nat)) = decide (k = r) := by
            by_cases c : k = r
            · subst c; rw [decide_eq_true rfl, decide_eq_true rfl]
            · rw [decide_eq_false c, decide_eq_false fun z => c (by cases z; rfl)]
          refine ⟨_, rfl, _, rfl, rfl, _, rfl, ?_⟩
          rw [ekr]
          refine bcase (fun c1 => ?_) (fun c1 => hQ' _ _ ⟨by rw [hmean, c1]; rfl, Same.refl _⟩)
          refine ⟨_, rfl, Nat.zero_le _, fun Lz nz => ⟨DB, Lz, ws6, rfl, rfl, ((Same.refl H37).put nz) _ _ e37, upd_same, hQ' _ _ ⟨?_, (Same.refl H37).put nz⟩⟩⟩
          rw [hmean, c1, Bool.true_and, ← hwl6]
          cases ws6 with
          | nil => rfl
          | cons w0 wr => rfl
        rintro v H38 ⟨rfl, s38⟩
        refine ⟨_, _, .bool _, rfl, .bl _ _, .bl _ _, fun H39 s39 => ⟨true, rfl, iteF ⟨_, _, _, _, _, rfl, (SK.same s38).same s39⟩⟩⟩
      · rintro σ Ha ⟨z14, z15, z16, z17, z24, rfl, SH⟩
        exact ⟨L2, R2, _, _, _, _, _, _, _, _, _, _, _, _, _, _, _, _, _, _, rfl, SH, hok2, hrl2⟩
    · rintro σ Ha ⟨L', Rr, os, recs, y0, y2, y10, y11, y12, y13, y14, y15, y16, y17, y18, y20, y21, y22, y23, y24, rfl, SA, _⟩
      exact ⟨_, _, _, _, _, _, _, _, _, _, _, _, _, _, _, _, _, _, _, _, _, _, _, _, rfl, SA.w.rs, SA.w.tb⟩
  · rintro σ Ha ⟨y0, y2, y3, y4, y5, y6, y7, y8, y9, y10, y11, y12, y13, y14, y15, y16, y17, y18, y19, y20, y21, y22, y23, y24, rfl, _⟩
    exact q _
end
end Sc
namespace Sc
open PySem PySem.Spec PyProof.Rows L2
theorem four {K : PySem.W.Frag} {D : Value} (h1 : PySem.W.findIn K D "index" = some none) (h2 : PySem.W.findIn K D "part" = some none) (h3 : PySem.W.findIn K D "word" = some none) (h4 : PySem.W.findIn K D "fact" = some none) :
    ∀ n ∈ (["index", "part", "word", "fact"] : List Str), PySem.W.findIn K D n = some none := by
  intro n hn
  simp only [List.mem_cons, List.not_mem_nil, or_false] at hn
  rcases hn with rfl | rfl | rfl | rfl
  · exact h1
  · exact h2
  · exact h3
  · exact h4
theorem exm_by {K : PySem.W.Frag} {D C : Addr} (h1 : PySem.W.subIn K (.ref C) (.type "BaseException") = some true) (h2 : PySem.W.isClsIn K C = true) (h3 : PySem.W.typeIn K (.ref C) = some (.type "type")) (h4 : PySem.W.subIn K (.ref D) (.ref C) = some true) : PySem.W.exmOne K (.ref D) (.ref C) = some true := by
  have e1 : (PySem.W.subIn K (.ref C) (.type "BaseException") == some true) = true := by rw [h1] <;> rfl
  have e2 : ((PySem.W.clsIn K C).isSome && PySem.W.typeIn K (.ref C) == some (.type "type")) = true := by
    have h2' : (PySem.W.clsIn K C).isSome = true := h2
    rw [h2', h3] <;> rfl
  unfold PySem.W.exmOne PySem.W.kitCls
  rw [if_pos e1]
  dsimp only
  rw [if_pos e2]
  exact h4
theorem kit_by {K : PySem.W.Frag} {D C : Addr} {b : Bool} (h1 : PySem.W.subIn K (.ref D) (.ref D) = some true) (h2 : PySem.W.isClsIn K C = true) (h3 : PySem.W.typeIn K (.ref C) = some (.type "type")) (h4 : PySem.W.subIn K (.ref D) (.ref C) = some b) : PySem.W.kitOne K (.ref D) (.ref C) = some b := by
  have e2 : ((PySem.W.clsIn K C).isSome && PySem.W.typeIn K (.ref C) == some (.type "type")) = true := by
    have h2' : (PySem.W.clsIn K C).isSome = true := h2
    rw [h2', h3] <;> rfl
  unfold PySem.W.kitOne
  split
  · rename_i e
    have e := eq_of_beq e
    cases e
    exact h1.symm.trans h4
  · unfold PySem.W.kitCls
    dsimp only
    rw [if_pos e2]
    exact h4
theorem kit_ve {K : PySem.W.Frag} {D : Addr} (h : PySem.W.subIn K (.ref D) (.type "ValueError") = some true) : PySem.W.kitOne K (.ref D) (.type "ValueError") = some true := by
  unfold PySem.W.kitOne PySem.W.kitCls
  rw [if_neg (by intro z; cases eq_of_beq z)]
  dsimp only
  rw [if_pos (by decide +kernel)]
  exact h
theorem codeHd_by {K : PySem.W.Frag} {c T : Addr} {o : Obj} (lk : K.lookup c = some o) (h : PySem.W.codeHdIn [(c, o)] c T = true) : PySem.W.codeHdIn K c T = true := by
  unfold PySem.W.codeHdIn at h ⊢
  rw [lk]
  have e : ([(c, o)] : PySem.W.Frag).lookup c = some o := by simp [List.lookup]
  rw [e] at h
  exact h
theorem lookup_no {K : PySem.W.Frag} {a : Addr} (h : (K.map (·.1)).contains a = false) : K.lookup a = none := by
  induction K with
  | nil => rfl
  | cons p r ih =>
    rw [List.map_cons, List.contains_cons, Bool.or_eq_false_iff] at h
    obtain ⟨x, o⟩ := p
    rw [List.lookup_cons, h.1]
    exact ih h.2
theorem sup_by {K : PySem.W.Frag} {C CE : Addr} {z : Value} {nm q nm2 q2 : Str} {N N2 : Addr} {bs bm su bs2 bm2 su2 : List Value} {sn sn2 : List Str} {ab ab2 : Bool} {col col2 : Option Bool} {dd dd2 : Option Addr} {x0 x1 x2 x3 x5 y0 y1 y2 y3 y5 : Option Value}
    (xC : K.lookup C = some (excClassObj nm q C N bs bm true sn su ab col dd x0 x1 x2 x3 x5 "ValueError.__new__")) (xE : K.lookup CE = some (excClassObj nm2 q2 CE N2 bs2 bm2 true sn2 su2 ab2 col2 dd2 y0 y1 y2 y3 y5 "ValueError.__new__"))
    (e : bm = .ref CE :: bm2) (f : PySem.W.findIn K (.ref CE) "__init__" = some (some z)) : PySem.W.ks_superIn K C C "__init__" = some (some z) := by
  subst e
  unfold PySem.W.ks_superIn PySem.W.clsIn
  unfold PySem.W.findIn at f
  dsimp only at f
  rw [xC]
  rw [xE] at f
  simp only [excClassObj] at f ⊢
  simp
  exact f
/-- a def that calls itself: depth by depth -/
theorem rec_all {P : Program} {w : World} {K : PySem.W.Frag} {mg : Str → Option Value} {base : Heap} {S : Nat → Sp} {k : Nat} {x : Str} {f : Addr} {fd : FuncData} {ps : List Str} (step : ∀ d, Cal P w K mg base CX0 (d + k) x ps (Below S d) → FnOk P w K mg base CX0 (d + k + 1) f fd ps (S d))
    (hm : mg x = some (.ref f)) (kp : PySem.W.keepIn K (.ref f) = true) (b : Binds K fd ps []) : ∀ d, FnOk P w K mg base CX0 (d + k + 1) f fd ps (S d)
  | 0 => step 0 ⟨_, _, FnOk.never, hm, kp, b⟩
  | d + 1 => step (d + 1) ⟨_, _, (by have h := rec_all step hm kp b d; rw [show d + k + 1 = d + 1 + k by omega] at h; exact h), hm, kp, b⟩
theorem all_mk {Tb0 : Addr} {l : PySem.W.OpenLaw} {P : Program} {w : World} {K : PySem.W.Frag} {h : Heap} {mg : Str → Option Value} {fa : Addr} (eP : l.prog = P) (X : K.In h) (G : h.Ns mainGlobals mg) (hfa : mg "law" = some (.ref fa))
    {f_is_name : Addr} {oc_is_name kV_is_name dc_is_name pm_is_name cd_is_name ct_is_name : Value} {od_is_name an_is_name : Option Addr} {sl_is_name : Array (Option Value)}
    {f_rises : Addr} {oc_rises kV_rises dc_rises pm_rises cd_rises ct_rises : Value} {od_rises an_rises : Option Addr} {sl_rises : Array (Option Value)}
    {f_check_facts : Addr} {oc_check_facts kV_check_facts dc_check_facts pm_check_facts cd_check_facts ct_check_facts : Value} {od_check_facts an_check_facts : Option Addr} {sl_check_facts : Array (Option Value)}
    {f_check_case : Addr} {oc_check_case kV_check_case dc_check_case pm_check_case cd_check_case ct_check_case : Value} {od_check_case an_check_case : Option Addr} {sl_check_case : Array (Option Value)}
    {f_check_word : Addr} {oc_check_word kV_check_word dc_check_word pm_check_word cd_check_word ct_check_word : Value} {od_check_word an_check_word : Option Addr} {sl_check_word : Array (Option Value)}
    {f_check_left : Addr} {oc_check_left kV_check_left dc_check_left pm_check_left cd_check_left ct_check_left : Value} {od_check_left an_check_left : Option Addr} {sl_check_left : Array (Option Value)}
    {f_nested : Addr} {oc_nested kV_nested dc_nested pm_nested cd_nested ct_nested : Value} {od_nested an_nested : Option Addr} {sl_nested : Array (Option Value)}
    {f_check_rules : Addr} {oc_check_rules kV_check_rules dc_check_rules pm_check_rules cd_check_rules ct_check_rules : Value} {od_check_rules an_check_rules : Option Addr} {sl_check_rules : Array (Option Value)}
    {f_check_part : Addr} {oc_check_part kV_check_part dc_check_part pm_check_part cd_check_part ct_check_part : Value} {od_check_part an_check_part : Option Addr} {sl_check_part : Array (Option Value)}
    {f_merged : Addr} {oc_merged kV_merged dc_merged pm_merged cd_merged ct_merged : Value} {od_merged an_merged : Option Addr} {sl_merged : Array (Option Value)}
    {f_steps : Addr} {oc_steps kV_steps dc_steps pm_steps cd_steps ct_steps : Value} {od_steps an_steps : Option Addr} {sl_steps : Array (Option Value)}
    {f_up_to_first_met : Addr} {oc_up_to_first_met kV_up_to_first_met dc_up_to_first_met pm_up_to_first_met cd_up_to_first_met ct_up_to_first_met : Value} {od_up_to_first_met an_up_to_first_met : Option Addr} {sl_up_to_first_met : Array (Option Value)}
    {f_looked_into : Addr} {oc_looked_into kV_looked_into dc_looked_into pm_looked_into cd_looked_into ct_looked_into : Value} {od_looked_into an_looked_into : Option Addr} {sl_looked_into : Array (Option Value)}
    {f_orders_of : Addr} {oc_orders_of kV_orders_of dc_orders_of pm_orders_of cd_orders_of ct_orders_of : Value} {od_orders_of an_orders_of : Option Addr} {sl_orders_of : Array (Option Value)}
    {f_ruling_within : Addr} {oc_ruling_within kV_ruling_within dc_ruling_within pm_ruling_within cd_ruling_within ct_ruling_within : Value} {od_ruling_within an_ruling_within : Option Addr} {sl_ruling_within : Array (Option Value)}
    {f_ruling_by : Addr} {oc_ruling_by kV_ruling_by dc_ruling_by pm_ruling_by cd_ruling_by ct_ruling_by : Value} {od_ruling_by an_ruling_by : Option Addr} {sl_ruling_by : Array (Option Value)}
    {f__law_mix : Addr} {oc__law_mix kV__law_mix dc__law_mix pm__law_mix cd__law_mix ct__law_mix : Value} {od__law_mix an__law_mix : Option Addr} {sl__law_mix : Array (Option Value)}
    {f__law_next : Addr} {oc__law_next kV__law_next dc__law_next pm__law_next cd__law_next ct__law_next : Value} {od__law_next an__law_next : Option Addr} {sl__law_next : Array (Option Value)}
    {f__law_two : Addr} {oc__law_two kV__law_two dc__law_two pm__law_two cd__law_two ct__law_two : Value} {od__law_two an__law_two : Option Addr} {sl__law_two : Array (Option Value)}
    {f__law_alike : Addr} {oc__law_alike kV__law_alike dc__law_alike pm__law_alike cd__law_alike ct__law_alike : Value} {od__law_alike an__law_alike : Option Addr} {sl__law_alike : Array (Option Value)}
    {f__law_facts : Addr} {oc__law_facts kV__law_facts dc__law_facts pm__law_facts cd__law_facts ct__law_facts : Value} {od__law_facts an__law_facts : Option Addr} {sl__law_facts : Array (Option Value)}
    {f__law_sides : Addr} {oc__law_sides kV__law_sides dc__law_sides pm__law_sides cd__law_sides ct__law_sides : Value} {od__law_sides an__law_sides : Option Addr} {sl__law_sides : Array (Option Value)}
    {f__law_rule : Addr} {oc__law_rule kV__law_rule dc__law_rule pm__law_rule cd__law_rule ct__law_rule : Value} {od__law_rule an__law_rule : Option Addr} {sl__law_rule : Array (Option Value)}
    {f__law_drawn : Addr} {oc__law_drawn kV__law_drawn dc__law_drawn pm__law_drawn cd__law_drawn ct__law_drawn : Value} {od__law_drawn an__law_drawn : Option Addr} {sl__law_drawn : Array (Option Value)}
    {f__law_made : Addr} {oc__law_made kV__law_made dc__law_made pm__law_made cd__law_made ct__law_made : Value} {od__law_made an__law_made : Option Addr} {sl__law_made : Array (Option Value)}
    {f__law_book : Addr} {oc__law_book kV__law_book dc__law_book pm__law_book cd__law_book ct__law_book : Value} {od__law_book an__law_book : Option Addr} {sl__law_book : Array (Option Value)}
    {f__law_case : Addr} {oc__law_case kV__law_case dc__law_case pm__law_case cd__law_case ct__law_case : Value} {od__law_case an__law_case : Option Addr} {sl__law_case : Array (Option Value)}
    {f__law_way : Addr} {oc__law_way kV__law_way dc__law_way pm__law_way cd__law_way ct__law_way : Value} {od__law_way an__law_way : Option Addr} {sl__law_way : Array (Option Value)}
    {f__law_ruled : Addr} {oc__law_ruled kV__law_ruled dc__law_ruled pm__law_ruled cd__law_ruled ct__law_ruled : Value} {od__law_ruled an__law_ruled : Option Addr} {sl__law_ruled : Array (Option Value)}
    {f__law_word : Addr} {oc__law_word kV__law_word dc__law_word pm__law_word cd__law_word ct__law_word : Value} {od__law_word an__law_word : Option Addr} {sl__law_word : Array (Option Value)}
    {f__law_orders : Addr} {oc__law_orders kV__law_orders dc__law_orders pm__law_orders cd__law_orders ct__law_orders : Value} {od__law_orders an__law_orders : Option Addr} {sl__law_orders : Array (Option Value)}
    {f_law : Addr} {oc_law kV_law dc_law pm_law ct_law : Value} {od_law an_law : Option Addr} {sl_law : Array (Option Value)}
    {f_mi : Addr} {oc_mi kV_mi dc_mi pm_mi cd_mi ct_mi : Value} {od_mi an_mi : Option Addr} {sl_mi : Array (Option Value)}
    {f_mh : Addr} {oc_mh kV_mh dc_mh pm_mh cd_mh ct_mh : Value} {od_mh an_mh : Option Addr} {sl_mh : Array (Option Value)}
    {f_mf : Addr} {oc_mf kV_mf dc_mf pm_mf cd_mf ct_mf : Value} {od_mf an_mf : Option Addr} {sl_mf : Array (Option Value)}
    {f_mn : Addr} {oc_mn kV_mn dc_mn pm_mn cd_mn ct_mn : Value} {od_mn an_mn : Option Addr} {sl_mn : Array (Option Value)}
    {f_ri : Addr} {oc_ri kV_ri dc_ri pm_ri cd_ri ct_ri : Value} {od_ri an_ri : Option Addr} {sl_ri : Array (Option Value)}
    {f_rn : Addr} {oc_rn kV_rn dc_rn pm_rn cd_rn ct_rn : Value} {od_rn an_rn : Option Addr} {sl_rn : Array (Option Value)}
    {f_rc : Addr} {oc_rc kV_rc dc_rc pm_rc cd_rc ct_rc : Value} {od_rc an_rc : Option Addr} {sl_rc : Array (Option Value)}
    {f_rr : Addr} {oc_rr kV_rr dc_rr pm_rr cd_rr ct_rr : Value} {od_rr an_rr : Option Addr} {sl_rr : Array (Option Value)}
    {f_re : Addr} {oc_re kV_re dc_re pm_re cd_re ct_re : Value} {od_re an_re : Option Addr} {sl_re : Array (Option Value)}
    {f_rd : Addr} {oc_rd kV_rd dc_rd pm_rd cd_rd ct_rd : Value} {od_rd an_rd : Option Addr} {sl_rd : Array (Option Value)}
    {f_bi : Addr} {oc_bi kV_bi dc_bi pm_bi cd_bi ct_bi : Value} {od_bi an_bi : Option Addr} {sl_bi : Array (Option Value)}
    {f_bf : Addr} {oc_bf kV_bf dc_bf pm_bf cd_bf ct_bf : Value} {od_bf an_bf : Option Addr} {sl_bf : Array (Option Value)}
    {f_bs : Addr} {oc_bs kV_bs dc_bs pm_bs cd_bs ct_bs : Value} {od_bs an_bs : Option Addr} {sl_bs : Array (Option Value)}
    {f_br : Addr} {oc_br kV_br dc_br pm_br cd_br ct_br : Value} {od_br an_br : Option Addr} {sl_br : Array (Option Value)}
    {f_oi : Addr} {oc_oi kV_oi dc_oi pm_oi cd_oi ct_oi : Value} {od_oi an_oi : Option Addr} {sl_oi : Array (Option Value)}
    {f_oc : Addr} {oc_oc kV_oc dc_oc pm_oc cd_oc ct_oc : Value} {od_oc an_oc : Option Addr} {sl_oc : Array (Option Value)}
    {f_of : Addr} {oc_of kV_of dc_of pm_of cd_of ct_of : Value} {od_of an_of : Option Addr} {sl_of : Array (Option Value)}
    {f_or : Addr} {oc_or kV_or dc_or pm_or cd_or ct_or : Value} {od_or an_or : Option Addr} {sl_or : Array (Option Value)}
    {f_mc : Addr} {oc_mc kV_mc dc_mc pm_mc cd_mc ct_mc : Value} {od_mc an_mc : Option Addr} {sl_mc : Array (Option Value)}
    {f_os : Addr} {oc_os kV_os dc_os pm_os cd_os ct_os : Value} {od_os an_os : Option Addr} {sl_os : Array (Option Value)}
    {f_ou : Addr} {oc_ou kV_ou dc_ou pm_ou cd_ou ct_ou : Value} {od_ou an_ou : Option Addr} {sl_ou : Array (Option Value)}
    {CO : Addr}
    {pp_mh : Addr} {rs_mh : List Value}
    {pp_mf : Addr} {rs_mf : List Value}
    {pp_mn : Addr} {rs_mn : List Value}
    {RO : Addr}
    {pp_rn : Addr} {rs_rn : List Value}
    {pp_rc : Addr} {rs_rc : List Value}
    {pp_rr : Addr} {rs_rr : List Value}
    {pp_re : Addr} {rs_re : List Value}
    {pp_rd : Addr} {rs_rd : List Value}
    {BO : Addr}
    {pp_bf : Addr} {rs_bf : List Value}
    {pp_bs : Addr} {rs_bs : List Value}
    {pp_br : Addr} {rs_br : List Value}
    {OW : Addr}
    {pp_oc : Addr} {rs_oc : List Value}
    {pp_of : Addr} {rs_of : List Value}
    {pp_or : Addr} {rs_or : List Value}
    {cc_law : Addr} {ocl : Obj}
    {t_LETTERS : Tok}
    {t_LONGEST_NAME : Tok}
    {t_MOST_FACTS : Tok}
    {t_MOST_NAMES : Tok}
    {t_MOST_AROUND : Tok}
    {t_MOST_RULES : Tok}
    {t_MOST_OUTERMOST : Tok}
    {t_MOST_ORDERED : Tok}
    {CE : Addr}
    {E0 : Addr}
    {E1 : Addr}
    {E2 : Addr}
    {E3 : Addr}
    {E4 : Addr}
    {E5 : Addr}
    {E6 : Addr}
    {E7 : Addr}
    {E8 : Addr}
    {nmE qE : Str} {NE : Addr} {bsE bmE suE : List Value} {snE : List Str} {abE : Bool} {colE : Option Bool} {ddE : Option Addr} {x0E x1E x2E x3E x5E : Option Value}
    {nmi1 qi1 : Str} {Ni1 : Addr} {bsi1 bmi1 sui1 : List Value} {sni1 : List Str} {abi1 : Bool} {coli1 : Option Bool} {ddi1 odii1 anii1 ccddi1 cddi1 : Option Addr} {x0i1 x1i1 x2i1 x3i1 x5i1 : Option Value} {fIi1 celi1 codi1 : Addr} {ocii1 kVii1 dcii1 pmii1 ctii1 clci1 ccli1 : Value} {slii1 csli1 ccsi1 : Array (Option Value)} {vsi1 : Array Value} {fili1 : Str} {tfii1 : Tok}
    {nmi5 qi5 : Str} {Ni5 : Addr} {bsi5 bmi5 sui5 : List Value} {sni5 : List Str} {abi5 : Bool} {coli5 : Option Bool} {ddi5 odii5 anii5 ccddi5 cddi5 : Option Addr} {x0i5 x1i5 x2i5 x3i5 x5i5 : Option Value} {fIi5 celi5 codi5 : Addr} {ocii5 kVii5 dcii5 pmii5 ctii5 clci5 ccli5 : Value} {slii5 csli5 ccsi5 : Array (Option Value)} {vsi5 : Array Value} {fili5 : Str} {tfii5 : Tok}
    {nmi6 qi6 : Str} {Ni6 : Addr} {bsi6 bmi6 sui6 : List Value} {sni6 : List Str} {abi6 : Bool} {coli6 : Option Bool} {ddi6 odii6 anii6 ccddi6 cddi6 : Option Addr} {x0i6 x1i6 x2i6 x3i6 x5i6 : Option Value} {fIi6 celi6 codi6 : Addr} {ocii6 kVii6 dcii6 pmii6 ctii6 clci6 ccli6 : Value} {slii6 csli6 ccsi6 : Array (Option Value)} {vsi6 : Array Value} {fili6 : Str} {tfii6 : Tok}
    {nmi7 qi7 : Str} {Ni7 : Addr} {bsi7 bmi7 sui7 : List Value} {sni7 : List Str} {abi7 : Bool} {coli7 : Option Bool} {ddi7 odii7 anii7 ccddi7 cddi7 : Option Addr} {x0i7 x1i7 x2i7 x3i7 x5i7 : Option Value} {fIi7 celi7 codi7 : Addr} {ocii7 kVii7 dcii7 pmii7 ctii7 clci7 ccli7 : Value} {slii7 csli7 ccsi7 : Array (Option Value)} {vsi7 : Array Value} {fili7 : Str} {tfii7 : Tok}
    {nmi8 qi8 : Str} {Ni8 : Addr} {bsi8 bmi8 sui8 : List Value} {sni8 : List Str} {abi8 : Bool} {coli8 : Option Bool} {ddi8 odii8 anii8 ccddi8 cddi8 : Option Addr} {x0i8 x1i8 x2i8 x3i8 x5i8 : Option Value} {fIi8 celi8 codi8 : Addr} {ocii8 kVii8 dcii8 pmii8 ctii8 clci8 ccli8 : Value} {slii8 csli8 ccsi8 : Array (Option Value)} {vsi8 : Array Value} {fili8 : Str} {tfii8 : Tok}
    (a_is_name : PySem.W.nsIn K mainGlobals "is_name" = some (some (.ref f_is_name)))
    (l_is_name : K.lookup f_is_name = some ⟨oc_is_name, od_is_name, .func (PySem.W.fnOf "is_name" "is_name" (defArgs s_is_name) (defBody s_is_name) (defScope s_is_name) .none kV_is_name dc_is_name pm_is_name an_is_name cd_is_name ct_is_name), sl_is_name⟩)
    (c_is_name : PySem.W.codeIn K cd_is_name "is_name" = true)
    (k_is_name : PySem.W.keepIn K (.ref f_is_name) = true)
    (a_rises : PySem.W.nsIn K mainGlobals "rises" = some (some (.ref f_rises)))
    (l_rises : K.lookup f_rises = some ⟨oc_rises, od_rises, .func (PySem.W.fnOf "rises" "rises" (defArgs s_rises) (defBody s_rises) (defScope s_rises) .none kV_rises dc_rises pm_rises an_rises cd_rises ct_rises), sl_rises⟩)
    (c_rises : PySem.W.codeIn K cd_rises "rises" = true)
    (k_rises : PySem.W.keepIn K (.ref f_rises) = true)
    (a_check_facts : PySem.W.nsIn K mainGlobals "check_facts" = some (some (.ref f_check_facts)))
    (l_check_facts : K.lookup f_check_facts = some ⟨oc_check_facts, od_check_facts, .func (PySem.W.fnOf "check_facts" "check_facts" (defArgs s_check_facts) (defBody s_check_facts) (defScope s_check_facts) .none kV_check_facts dc_check_facts pm_check_facts an_check_facts cd_check_facts ct_check_facts), sl_check_facts⟩)
    (c_check_facts : PySem.W.codeIn K cd_check_facts "check_facts" = true)
    (k_check_facts : PySem.W.keepIn K (.ref f_check_facts) = true)
    (a_check_case : PySem.W.nsIn K mainGlobals "check_case" = some (some (.ref f_check_case)))
    (l_check_case : K.lookup f_check_case = some ⟨oc_check_case, od_check_case, .func (PySem.W.fnOf "check_case" "check_case" (defArgs s_check_case) (defBody s_check_case) (defScope s_check_case) .none kV_check_case dc_check_case pm_check_case an_check_case cd_check_case ct_check_case), sl_check_case⟩)
    (c_check_case : PySem.W.codeIn K cd_check_case "check_case" = true)
    (k_check_case : PySem.W.keepIn K (.ref f_check_case) = true)
    (a_check_word : PySem.W.nsIn K mainGlobals "check_word" = some (some (.ref f_check_word)))
    (l_check_word : K.lookup f_check_word = some ⟨oc_check_word, od_check_word, .func (PySem.W.fnOf "check_word" "check_word" (defArgs s_check_word) (defBody s_check_word) (defScope s_check_word) .none kV_check_word dc_check_word pm_check_word an_check_word cd_check_word ct_check_word), sl_check_word⟩)
    (c_check_word : PySem.W.codeIn K cd_check_word "check_word" = true)
    (k_check_word : PySem.W.keepIn K (.ref f_check_word) = true)
    (a_check_left : PySem.W.nsIn K mainGlobals "check_left" = some (some (.ref f_check_left)))
    (l_check_left : K.lookup f_check_left = some ⟨oc_check_left, od_check_left, .func (PySem.W.fnOf "check_left" "check_left" (defArgs s_check_left) (defBody s_check_left) (defScope s_check_left) .none kV_check_left dc_check_left pm_check_left an_check_left cd_check_left ct_check_left), sl_check_left⟩)
    (c_check_left : PySem.W.codeIn K cd_check_left "check_left" = true)
    (k_check_left : PySem.W.keepIn K (.ref f_check_left) = true)
    (a_nested : PySem.W.nsIn K mainGlobals "nested" = some (some (.ref f_nested)))
    (l_nested : K.lookup f_nested = some ⟨oc_nested, od_nested, .func (PySem.W.fnOf "nested" "nested" (defArgs s_nested) (defBody s_nested) (defScope s_nested) .none kV_nested dc_nested pm_nested an_nested cd_nested ct_nested), sl_nested⟩)
    (c_nested : PySem.W.codeIn K cd_nested "nested" = true)
    (k_nested : PySem.W.keepIn K (.ref f_nested) = true)
    (a_check_rules : PySem.W.nsIn K mainGlobals "check_rules" = some (some (.ref f_check_rules)))
    (l_check_rules : K.lookup f_check_rules = some ⟨oc_check_rules, od_check_rules, .func (PySem.W.fnOf "check_rules" "check_rules" (defArgs s_check_rules) (defBody s_check_rules) (defScope s_check_rules) .none kV_check_rules dc_check_rules pm_check_rules an_check_rules cd_check_rules ct_check_rules), sl_check_rules⟩)
    (c_check_rules : PySem.W.codeIn K cd_check_rules "check_rules" = true)
    (k_check_rules : PySem.W.keepIn K (.ref f_check_rules) = true)
    (a_check_part : PySem.W.nsIn K mainGlobals "check_part" = some (some (.ref f_check_part)))
    (l_check_part : K.lookup f_check_part = some ⟨oc_check_part, od_check_part, .func (PySem.W.fnOf "check_part" "check_part" (defArgs s_check_part) (defBody s_check_part) (defScope s_check_part) .none kV_check_part dc_check_part pm_check_part an_check_part cd_check_part ct_check_part), sl_check_part⟩)
    (c_check_part : PySem.W.codeIn K cd_check_part "check_part" = true)
    (k_check_part : PySem.W.keepIn K (.ref f_check_part) = true)
    (a_merged : PySem.W.nsIn K mainGlobals "merged" = some (some (.ref f_merged)))
    (l_merged : K.lookup f_merged = some ⟨oc_merged, od_merged, .func (PySem.W.fnOf "merged" "merged" (defArgs s_merged) (defBody s_merged) (defScope s_merged) .none kV_merged dc_merged pm_merged an_merged cd_merged ct_merged), sl_merged⟩)
    (c_merged : PySem.W.codeIn K cd_merged "merged" = true)
    (k_merged : PySem.W.keepIn K (.ref f_merged) = true)
    (a_steps : PySem.W.nsIn K mainGlobals "steps" = some (some (.ref f_steps)))
    (l_steps : K.lookup f_steps = some ⟨oc_steps, od_steps, .func (PySem.W.fnOf "steps" "steps" (defArgs s_steps) (defBody s_steps) (defScope s_steps) .none kV_steps dc_steps pm_steps an_steps cd_steps ct_steps), sl_steps⟩)
    (c_steps : PySem.W.codeIn K cd_steps "steps" = true)
    (k_steps : PySem.W.keepIn K (.ref f_steps) = true)
    (a_up_to_first_met : PySem.W.nsIn K mainGlobals "up_to_first_met" = some (some (.ref f_up_to_first_met)))
    (l_up_to_first_met : K.lookup f_up_to_first_met = some ⟨oc_up_to_first_met, od_up_to_first_met, .func (PySem.W.fnOf "up_to_first_met" "up_to_first_met" (defArgs s_up_to_first_met) (defBody s_up_to_first_met) (defScope s_up_to_first_met) .none kV_up_to_first_met dc_up_to_first_met pm_up_to_first_met an_up_to_first_met cd_up_to_first_met ct_up_to_first_met), sl_up_to_first_met⟩)
    (c_up_to_first_met : PySem.W.codeIn K cd_up_to_first_met "up_to_first_met" = true)
    (k_up_to_first_met : PySem.W.keepIn K (.ref f_up_to_first_met) = true)
    (a_looked_into : PySem.W.nsIn K mainGlobals "looked_into" = some (some (.ref f_looked_into)))
    (l_looked_into : K.lookup f_looked_into = some ⟨oc_looked_into, od_looked_into, .func (PySem.W.fnOf "looked_into" "looked_into" (defArgs s_looked_into) (defBody s_looked_into) (defScope s_looked_into) .none kV_looked_into dc_looked_into pm_looked_into an_looked_into cd_looked_into ct_looked_into), sl_looked_into⟩)
    (c_looked_into : PySem.W.codeIn K cd_looked_into "looked_into" = true)
    (k_looked_into : PySem.W.keepIn K (.ref f_looked_into) = true)
    (a_orders_of : PySem.W.nsIn K mainGlobals "orders_of" = some (some (.ref f_orders_of)))
    (l_orders_of : K.lookup f_orders_of = some ⟨oc_orders_of, od_orders_of, .func (PySem.W.fnOf "orders_of" "orders_of" (defArgs s_orders_of) (defBody s_orders_of) (defScope s_orders_of) .none kV_orders_of dc_orders_of pm_orders_of an_orders_of cd_orders_of ct_orders_of), sl_orders_of⟩)
    (c_orders_of : PySem.W.codeIn K cd_orders_of "orders_of" = true)
    (k_orders_of : PySem.W.keepIn K (.ref f_orders_of) = true)
    (a_ruling_within : PySem.W.nsIn K mainGlobals "ruling_within" = some (some (.ref f_ruling_within)))
    (l_ruling_within : K.lookup f_ruling_within = some ⟨oc_ruling_within, od_ruling_within, .func (PySem.W.fnOf "ruling_within" "ruling_within" (defArgs s_ruling_within) (defBody s_ruling_within) (defScope s_ruling_within) .none kV_ruling_within dc_ruling_within pm_ruling_within an_ruling_within cd_ruling_within ct_ruling_within), sl_ruling_within⟩)
    (c_ruling_within : PySem.W.codeIn K cd_ruling_within "ruling_within" = true)
    (k_ruling_within : PySem.W.keepIn K (.ref f_ruling_within) = true)
    (a_ruling_by : PySem.W.nsIn K mainGlobals "ruling_by" = some (some (.ref f_ruling_by)))
    (l_ruling_by : K.lookup f_ruling_by = some ⟨oc_ruling_by, od_ruling_by, .func (PySem.W.fnOf "ruling_by" "ruling_by" (defArgs s_ruling_by) (defBody s_ruling_by) (defScope s_ruling_by) .none kV_ruling_by dc_ruling_by pm_ruling_by an_ruling_by cd_ruling_by ct_ruling_by), sl_ruling_by⟩)
    (c_ruling_by : PySem.W.codeIn K cd_ruling_by "ruling_by" = true)
    (k_ruling_by : PySem.W.keepIn K (.ref f_ruling_by) = true)
    (a__law_mix : PySem.W.nsIn K mainGlobals "_law_mix" = some (some (.ref f__law_mix)))
    (l__law_mix : K.lookup f__law_mix = some ⟨oc__law_mix, od__law_mix, .func (PySem.W.fnOf "_law_mix" "_law_mix" (defArgs s__law_mix) (defBody s__law_mix) (defScope s__law_mix) .none kV__law_mix dc__law_mix pm__law_mix an__law_mix cd__law_mix ct__law_mix), sl__law_mix⟩)
    (c__law_mix : PySem.W.codeIn K cd__law_mix "_law_mix" = true)
    (k__law_mix : PySem.W.keepIn K (.ref f__law_mix) = true)
    (a__law_next : PySem.W.nsIn K mainGlobals "_law_next" = some (some (.ref f__law_next)))
    (l__law_next : K.lookup f__law_next = some ⟨oc__law_next, od__law_next, .func (PySem.W.fnOf "_law_next" "_law_next" (defArgs s__law_next) (defBody s__law_next) (defScope s__law_next) .none kV__law_next dc__law_next pm__law_next an__law_next cd__law_next ct__law_next), sl__law_next⟩)
    (c__law_next : PySem.W.codeIn K cd__law_next "_law_next" = true)
    (k__law_next : PySem.W.keepIn K (.ref f__law_next) = true)
    (a__law_two : PySem.W.nsIn K mainGlobals "_law_two" = some (some (.ref f__law_two)))
    (l__law_two : K.lookup f__law_two = some ⟨oc__law_two, od__law_two, .func (PySem.W.fnOf "_law_two" "_law_two" (defArgs s__law_two) (defBody s__law_two) (defScope s__law_two) .none kV__law_two dc__law_two pm__law_two an__law_two cd__law_two ct__law_two), sl__law_two⟩)
    (c__law_two : PySem.W.codeIn K cd__law_two "_law_two" = true)
    (k__law_two : PySem.W.keepIn K (.ref f__law_two) = true)
    (a__law_alike : PySem.W.nsIn K mainGlobals "_law_alike" = some (some (.ref f__law_alike)))
    (l__law_alike : K.lookup f__law_alike = some ⟨oc__law_alike, od__law_alike, .func (PySem.W.fnOf "_law_alike" "_law_alike" (defArgs s__law_alike) (defBody s__law_alike) (defScope s__law_alike) .none kV__law_alike dc__law_alike pm__law_alike an__law_alike cd__law_alike ct__law_alike), sl__law_alike⟩)
    (c__law_alike : PySem.W.codeIn K cd__law_alike "_law_alike" = true)
    (k__law_alike : PySem.W.keepIn K (.ref f__law_alike) = true)
    (a__law_facts : PySem.W.nsIn K mainGlobals "_law_facts" = some (some (.ref f__law_facts)))
    (l__law_facts : K.lookup f__law_facts = some ⟨oc__law_facts, od__law_facts, .func (PySem.W.fnOf "_law_facts" "_law_facts" (defArgs s__law_facts) (defBody s__law_facts) (defScope s__law_facts) .none kV__law_facts dc__law_facts pm__law_facts an__law_facts cd__law_facts ct__law_facts), sl__law_facts⟩)
    (c__law_facts : PySem.W.codeIn K cd__law_facts "_law_facts" = true)
    (k__law_facts : PySem.W.keepIn K (.ref f__law_facts) = true)
    (a__law_sides : PySem.W.nsIn K mainGlobals "_law_sides" = some (some (.ref f__law_sides)))
    (l__law_sides : K.lookup f__law_sides = some ⟨oc__law_sides, od__law_sides, .func (PySem.W.fnOf "_law_sides" "_law_sides" (defArgs s__law_sides) (defBody s__law_sides) (defScope s__law_sides) .none kV__law_sides dc__law_sides pm__law_sides an__law_sides cd__law_sides ct__law_sides), sl__law_sides⟩)
    (c__law_sides : PySem.W.codeIn K cd__law_sides "_law_sides" = true)
    (k__law_sides : PySem.W.keepIn K (.ref f__law_sides) = true)
    (a__law_rule : PySem.W.nsIn K mainGlobals "_law_rule" = some (some (.ref f__law_rule)))
    (l__law_rule : K.lookup f__law_rule = some ⟨oc__law_rule, od__law_rule, .func (PySem.W.fnOf "_law_rule" "_law_rule" (defArgs s__law_rule) (defBody s__law_rule) (defScope s__law_rule) .none kV__law_rule dc__law_rule pm__law_rule an__law_rule cd__law_rule ct__law_rule), sl__law_rule⟩)
    (c__law_rule : PySem.W.codeIn K cd__law_rule "_law_rule" = true)
    (k__law_rule : PySem.W.keepIn K (.ref f__law_rule) = true)
    (a__law_drawn : PySem.W.nsIn K mainGlobals "_law_drawn" = some (some (.ref f__law_drawn)))
    (l__law_drawn : K.lookup f__law_drawn = some ⟨oc__law_drawn, od__law_drawn, .func (PySem.W.fnOf "_law_drawn" "_law_drawn" (defArgs s__law_drawn) (defBody s__law_drawn) (defScope s__law_drawn) .none kV__law_drawn dc__law_drawn pm__law_drawn an__law_drawn cd__law_drawn ct__law_drawn), sl__law_drawn⟩)
    (c__law_drawn : PySem.W.codeIn K cd__law_drawn "_law_drawn" = true)
    (k__law_drawn : PySem.W.keepIn K (.ref f__law_drawn) = true)
    (a__law_made : PySem.W.nsIn K mainGlobals "_law_made" = some (some (.ref f__law_made)))
    (l__law_made : K.lookup f__law_made = some ⟨oc__law_made, od__law_made, .func (PySem.W.fnOf "_law_made" "_law_made" (defArgs s__law_made) (defBody s__law_made) (defScope s__law_made) .none kV__law_made dc__law_made pm__law_made an__law_made cd__law_made ct__law_made), sl__law_made⟩)
    (c__law_made : PySem.W.codeIn K cd__law_made "_law_made" = true)
    (k__law_made : PySem.W.keepIn K (.ref f__law_made) = true)
    (a__law_book : PySem.W.nsIn K mainGlobals "_law_book" = some (some (.ref f__law_book)))
    (l__law_book : K.lookup f__law_book = some ⟨oc__law_book, od__law_book, .func (PySem.W.fnOf "_law_book" "_law_book" (defArgs s__law_book) (defBody s__law_book) (defScope s__law_book) .none kV__law_book dc__law_book pm__law_book an__law_book cd__law_book ct__law_book), sl__law_book⟩)
    (c__law_book : PySem.W.codeIn K cd__law_book "_law_book" = true)
    (k__law_book : PySem.W.keepIn K (.ref f__law_book) = true)
    (a__law_case : PySem.W.nsIn K mainGlobals "_law_case" = some (some (.ref f__law_case)))
    (l__law_case : K.lookup f__law_case = some ⟨oc__law_case, od__law_case, .func (PySem.W.fnOf "_law_case" "_law_case" (defArgs s__law_case) (defBody s__law_case) (defScope s__law_case) .none kV__law_case dc__law_case pm__law_case an__law_case cd__law_case ct__law_case), sl__law_case⟩)
    (c__law_case : PySem.W.codeIn K cd__law_case "_law_case" = true)
    (k__law_case : PySem.W.keepIn K (.ref f__law_case) = true)
    (a__law_way : PySem.W.nsIn K mainGlobals "_law_way" = some (some (.ref f__law_way)))
    (l__law_way : K.lookup f__law_way = some ⟨oc__law_way, od__law_way, .func (PySem.W.fnOf "_law_way" "_law_way" (defArgs s__law_way) (defBody s__law_way) (defScope s__law_way) .none kV__law_way dc__law_way pm__law_way an__law_way cd__law_way ct__law_way), sl__law_way⟩)
    (c__law_way : PySem.W.codeIn K cd__law_way "_law_way" = true)
    (k__law_way : PySem.W.keepIn K (.ref f__law_way) = true)
    (a__law_ruled : PySem.W.nsIn K mainGlobals "_law_ruled" = some (some (.ref f__law_ruled)))
    (l__law_ruled : K.lookup f__law_ruled = some ⟨oc__law_ruled, od__law_ruled, .func (PySem.W.fnOf "_law_ruled" "_law_ruled" (defArgs s__law_ruled) (defBody s__law_ruled) (defScope s__law_ruled) .none kV__law_ruled dc__law_ruled pm__law_ruled an__law_ruled cd__law_ruled ct__law_ruled), sl__law_ruled⟩)
    (c__law_ruled : PySem.W.codeIn K cd__law_ruled "_law_ruled" = true)
    (k__law_ruled : PySem.W.keepIn K (.ref f__law_ruled) = true)
    (a__law_word : PySem.W.nsIn K mainGlobals "_law_word" = some (some (.ref f__law_word)))
    (l__law_word : K.lookup f__law_word = some ⟨oc__law_word, od__law_word, .func (PySem.W.fnOf "_law_word" "_law_word" (defArgs s__law_word) (defBody s__law_word) (defScope s__law_word) .none kV__law_word dc__law_word pm__law_word an__law_word cd__law_word ct__law_word), sl__law_word⟩)
    (c__law_word : PySem.W.codeIn K cd__law_word "_law_word" = true)
    (k__law_word : PySem.W.keepIn K (.ref f__law_word) = true)
    (a__law_orders : PySem.W.nsIn K mainGlobals "_law_orders" = some (some (.ref f__law_orders)))
    (l__law_orders : K.lookup f__law_orders = some ⟨oc__law_orders, od__law_orders, .func (PySem.W.fnOf "_law_orders" "_law_orders" (defArgs s__law_orders) (defBody s__law_orders) (defScope s__law_orders) .none kV__law_orders dc__law_orders pm__law_orders an__law_orders cd__law_orders ct__law_orders), sl__law_orders⟩)
    (c__law_orders : PySem.W.codeIn K cd__law_orders "_law_orders" = true)
    (k__law_orders : PySem.W.keepIn K (.ref f__law_orders) = true)
    (a_law : PySem.W.nsIn K mainGlobals "law" = some (some (.ref f_law)))
    (l_law : K.lookup f_law = some ⟨oc_law, od_law, .func (PySem.W.fnOf "law" "law" (defArgs s_law) (defBody s_law) (defScope s_law) .none kV_law dc_law pm_law an_law (.ref cc_law) ct_law), sl_law⟩)
    (c_law : PySem.W.codeIn K (.ref cc_law) "law" = true)
    (k_law : PySem.W.keepIn K (.ref f_law) = true)
    (co : PySem.W.nsIn K mainGlobals "Condition" = some (some (.ref CO)))
    (co_mk : PySem.W.makesIn K CO = true)
    (co_in : PySem.W.findIn K (.ref CO) "__init__" = some (some (.ref f_mi)))
    (co_fn : PySem.W.isFn K (.ref f_mi) = true)
    (co_kp : PySem.W.keepIn K (.ref CO) = true)
    (co_pg : PySem.W.plainGet K CO Str.empty = true)
    (co_hd : PySem.W.hasDictIn K CO = true)
    (co_po : PySem.W.plainOver K CO = true)
    (co_sa : PySem.W.findIn K (.ref CO) "__setattr__" = some (some (.builtin "object.__setattr__")))
    (co_n1 : PySem.W.findIn K (.ref CO) "_holding" = some none)
    (co_n2 : PySem.W.findIn K (.ref CO) "_failing" = some none)
    (co_n3 : PySem.W.findIn K (.ref CO) "_names" = some none)
    (pa_mh : PySem.W.findIn K (.ref CO) "holding" = some (some (.ref pp_mh)))
    (pg_mh : PySem.W.specialIn K (.ref pp_mh) "__get__" = some (some (.builtin "property.__get__")))
    (pt_mh : PySem.W.takesIn K (.ref pp_mh) = some true)
    (pr_mh : PySem.W.recIn K pp_mh "property" = some (.ref f_mh :: rs_mh))
    (pa_mf : PySem.W.findIn K (.ref CO) "failing" = some (some (.ref pp_mf)))
    (pg_mf : PySem.W.specialIn K (.ref pp_mf) "__get__" = some (some (.builtin "property.__get__")))
    (pt_mf : PySem.W.takesIn K (.ref pp_mf) = some true)
    (pr_mf : PySem.W.recIn K pp_mf "property" = some (.ref f_mf :: rs_mf))
    (pa_mn : PySem.W.findIn K (.ref CO) "names" = some (some (.ref pp_mn)))
    (pg_mn : PySem.W.specialIn K (.ref pp_mn) "__get__" = some (some (.builtin "property.__get__")))
    (pt_mn : PySem.W.takesIn K (.ref pp_mn) = some true)
    (pr_mn : PySem.W.recIn K pp_mn "property" = some (.ref f_mn :: rs_mn))
    (ro : PySem.W.nsIn K mainGlobals "Rule" = some (some (.ref RO)))
    (ro_mk : PySem.W.makesIn K RO = true)
    (ro_in : PySem.W.findIn K (.ref RO) "__init__" = some (some (.ref f_ri)))
    (ro_fn : PySem.W.isFn K (.ref f_ri) = true)
    (ro_kp : PySem.W.keepIn K (.ref RO) = true)
    (ro_pg : PySem.W.plainGet K RO Str.empty = true)
    (ro_hd : PySem.W.hasDictIn K RO = true)
    (ro_po : PySem.W.plainOver K RO = true)
    (ro_sa : PySem.W.findIn K (.ref RO) "__setattr__" = some (some (.builtin "object.__setattr__")))
    (ro_n1 : PySem.W.findIn K (.ref RO) "_name" = some none)
    (ro_n2 : PySem.W.findIn K (.ref RO) "_condition" = some none)
    (ro_n3 : PySem.W.findIn K (.ref RO) "_ruling" = some none)
    (ro_n4 : PySem.W.findIn K (.ref RO) "_exceptions" = some none)
    (ro_n5 : PySem.W.findIn K (.ref RO) "_depth" = some none)
    (ro_n6 : PySem.W.findIn K (.ref RO) "_inside" = some none)
    (pa_rn : PySem.W.findIn K (.ref RO) "name" = some (some (.ref pp_rn)))
    (pg_rn : PySem.W.specialIn K (.ref pp_rn) "__get__" = some (some (.builtin "property.__get__")))
    (pt_rn : PySem.W.takesIn K (.ref pp_rn) = some true)
    (pr_rn : PySem.W.recIn K pp_rn "property" = some (.ref f_rn :: rs_rn))
    (pa_rc : PySem.W.findIn K (.ref RO) "condition" = some (some (.ref pp_rc)))
    (pg_rc : PySem.W.specialIn K (.ref pp_rc) "__get__" = some (some (.builtin "property.__get__")))
    (pt_rc : PySem.W.takesIn K (.ref pp_rc) = some true)
    (pr_rc : PySem.W.recIn K pp_rc "property" = some (.ref f_rc :: rs_rc))
    (pa_rr : PySem.W.findIn K (.ref RO) "ruling" = some (some (.ref pp_rr)))
    (pg_rr : PySem.W.specialIn K (.ref pp_rr) "__get__" = some (some (.builtin "property.__get__")))
    (pt_rr : PySem.W.takesIn K (.ref pp_rr) = some true)
    (pr_rr : PySem.W.recIn K pp_rr "property" = some (.ref f_rr :: rs_rr))
    (pa_re : PySem.W.findIn K (.ref RO) "exceptions" = some (some (.ref pp_re)))
    (pg_re : PySem.W.specialIn K (.ref pp_re) "__get__" = some (some (.builtin "property.__get__")))
    (pt_re : PySem.W.takesIn K (.ref pp_re) = some true)
    (pr_re : PySem.W.recIn K pp_re "property" = some (.ref f_re :: rs_re))
    (pa_rd : PySem.W.findIn K (.ref RO) "depth" = some (some (.ref pp_rd)))
    (pg_rd : PySem.W.specialIn K (.ref pp_rd) "__get__" = some (some (.builtin "property.__get__")))
    (pt_rd : PySem.W.takesIn K (.ref pp_rd) = some true)
    (pr_rd : PySem.W.recIn K pp_rd "property" = some (.ref f_rd :: rs_rd))
    (bo : PySem.W.nsIn K mainGlobals "Book" = some (some (.ref BO)))
    (bo_mk : PySem.W.makesIn K BO = true)
    (bo_in : PySem.W.findIn K (.ref BO) "__init__" = some (some (.ref f_bi)))
    (bo_fn : PySem.W.isFn K (.ref f_bi) = true)
    (bo_kp : PySem.W.keepIn K (.ref BO) = true)
    (bo_pg : PySem.W.plainGet K BO Str.empty = true)
    (bo_hd : PySem.W.hasDictIn K BO = true)
    (bo_po : PySem.W.plainOver K BO = true)
    (bo_sa : PySem.W.findIn K (.ref BO) "__setattr__" = some (some (.builtin "object.__setattr__")))
    (bo_n1 : PySem.W.findIn K (.ref BO) "_facts" = some none)
    (bo_n2 : PySem.W.findIn K (.ref BO) "_rules" = some none)
    (bo_n3 : PySem.W.findIn K (.ref BO) "_ruling" = some none)
    (bo_n4 : PySem.W.findIn K (.ref BO) "_numbered" = some none)
    (pa_bf : PySem.W.findIn K (.ref BO) "facts" = some (some (.ref pp_bf)))
    (pg_bf : PySem.W.specialIn K (.ref pp_bf) "__get__" = some (some (.builtin "property.__get__")))
    (pt_bf : PySem.W.takesIn K (.ref pp_bf) = some true)
    (pr_bf : PySem.W.recIn K pp_bf "property" = some (.ref f_bf :: rs_bf))
    (pa_bs : PySem.W.findIn K (.ref BO) "rules" = some (some (.ref pp_bs)))
    (pg_bs : PySem.W.specialIn K (.ref pp_bs) "__get__" = some (some (.builtin "property.__get__")))
    (pt_bs : PySem.W.takesIn K (.ref pp_bs) = some true)
    (pr_bs : PySem.W.recIn K pp_bs "property" = some (.ref f_bs :: rs_bs))
    (pa_br : PySem.W.findIn K (.ref BO) "ruling" = some (some (.ref pp_br)))
    (pg_br : PySem.W.specialIn K (.ref pp_br) "__get__" = some (some (.builtin "property.__get__")))
    (pt_br : PySem.W.takesIn K (.ref pp_br) = some true)
    (pr_br : PySem.W.recIn K pp_br "property" = some (.ref f_br :: rs_br))
    (oo : PySem.W.nsIn K mainGlobals "OrderWatcher" = some (some (.ref OW)))
    (oo_mk : PySem.W.makesIn K OW = true)
    (oo_in : PySem.W.findIn K (.ref OW) "__init__" = some (some (.ref f_oi)))
    (oo_fn : PySem.W.isFn K (.ref f_oi) = true)
    (oo_kp : PySem.W.keepIn K (.ref OW) = true)
    (oo_pg : PySem.W.plainGet K OW Str.empty = true)
    (oo_hd : PySem.W.hasDictIn K OW = true)
    (oo_po : PySem.W.plainOver K OW = true)
    (oo_sa : PySem.W.findIn K (.ref OW) "__setattr__" = some (some (.builtin "object.__setattr__")))
    (oo_n1 : PySem.W.findIn K (.ref OW) "_book" = some none)
    (oo_n2 : PySem.W.findIn K (.ref OW) "_left" = some none)
    (oo_n3 : PySem.W.findIn K (.ref OW) "_seen" = some none)
    (pa_oc : PySem.W.findIn K (.ref OW) "order_count" = some (some (.ref pp_oc)))
    (pg_oc : PySem.W.specialIn K (.ref pp_oc) "__get__" = some (some (.builtin "property.__get__")))
    (pt_oc : PySem.W.takesIn K (.ref pp_oc) = some true)
    (pr_oc : PySem.W.recIn K pp_oc "property" = some (.ref f_oc :: rs_oc))
    (pa_of : PySem.W.findIn K (.ref OW) "first_order" = some (some (.ref pp_of)))
    (pg_of : PySem.W.specialIn K (.ref pp_of) "__get__" = some (some (.builtin "property.__get__")))
    (pt_of : PySem.W.takesIn K (.ref pp_of) = some true)
    (pr_of : PySem.W.recIn K pp_of "property" = some (.ref f_of :: rs_of))
    (pa_or : PySem.W.findIn K (.ref OW) "records" = some (some (.ref pp_or)))
    (pg_or : PySem.W.specialIn K (.ref pp_or) "__get__" = some (some (.builtin "property.__get__")))
    (pt_or : PySem.W.takesIn K (.ref pp_or) = some true)
    (pr_or : PySem.W.recIn K pp_or "property" = some (.ref f_or :: rs_or))
    (at_mc : PySem.W.findIn K (.ref CO) "__call__" = some (some (.ref f_mc)))
    (fn_mc : PySem.W.isFn K (.ref f_mc) = true)
    (fi_mc : PySem.W.fnIn K f_mc = true)
    (at_os : PySem.W.findIn K (.ref OW) "see" = some (some (.ref f_os)))
    (fn_os : PySem.W.isFn K (.ref f_os) = true)
    (at_ou : PySem.W.findIn K (.ref OW) "sure" = some (some (.ref f_ou)))
    (fn_ou : PySem.W.isFn K (.ref f_ou) = true)
    (l_mi : K.lookup f_mi = some ⟨oc_mi, od_mi, .func (PySem.W.fnOf "__init__" "Condition.__init__" (defArgs s_Condition___init__) (defBody s_Condition___init__) (defScope s_Condition___init__) .none kV_mi dc_mi pm_mi an_mi cd_mi ct_mi), sl_mi⟩)
    (c_mi : PySem.W.codeIn K cd_mi "Condition.__init__" = true)
    (k_mi : PySem.W.keepIn K (.ref f_mi) = true)
    (l_mh : K.lookup f_mh = some ⟨oc_mh, od_mh, .func (PySem.W.fnOf "holding" "Condition.holding" (defArgs s_Condition_holding) (defBody s_Condition_holding) (defScope s_Condition_holding) .none kV_mh dc_mh pm_mh an_mh cd_mh ct_mh), sl_mh⟩)
    (c_mh : PySem.W.codeIn K cd_mh "Condition.holding" = true)
    (k_mh : PySem.W.keepIn K (.ref f_mh) = true)
    (l_mf : K.lookup f_mf = some ⟨oc_mf, od_mf, .func (PySem.W.fnOf "failing" "Condition.failing" (defArgs s_Condition_failing) (defBody s_Condition_failing) (defScope s_Condition_failing) .none kV_mf dc_mf pm_mf an_mf cd_mf ct_mf), sl_mf⟩)
    (c_mf : PySem.W.codeIn K cd_mf "Condition.failing" = true)
    (k_mf : PySem.W.keepIn K (.ref f_mf) = true)
    (l_mn : K.lookup f_mn = some ⟨oc_mn, od_mn, .func (PySem.W.fnOf "names" "Condition.names" (defArgs s_Condition_names) (defBody s_Condition_names) (defScope s_Condition_names) .none kV_mn dc_mn pm_mn an_mn cd_mn ct_mn), sl_mn⟩)
    (c_mn : PySem.W.codeIn K cd_mn "Condition.names" = true)
    (k_mn : PySem.W.keepIn K (.ref f_mn) = true)
    (l_ri : K.lookup f_ri = some ⟨oc_ri, od_ri, .func (PySem.W.fnOf "__init__" "Rule.__init__" (defArgs s_Rule___init__) (defBody s_Rule___init__) (defScope s_Rule___init__) .none kV_ri dc_ri pm_ri an_ri cd_ri ct_ri), sl_ri⟩)
    (c_ri : PySem.W.codeIn K cd_ri "Rule.__init__" = true)
    (k_ri : PySem.W.keepIn K (.ref f_ri) = true)
    (l_rn : K.lookup f_rn = some ⟨oc_rn, od_rn, .func (PySem.W.fnOf "name" "Rule.name" (defArgs s_Rule_name) (defBody s_Rule_name) (defScope s_Rule_name) .none kV_rn dc_rn pm_rn an_rn cd_rn ct_rn), sl_rn⟩)
    (c_rn : PySem.W.codeIn K cd_rn "Rule.name" = true)
    (k_rn : PySem.W.keepIn K (.ref f_rn) = true)
    (l_rc : K.lookup f_rc = some ⟨oc_rc, od_rc, .func (PySem.W.fnOf "condition" "Rule.condition" (defArgs s_Rule_condition) (defBody s_Rule_condition) (defScope s_Rule_condition) .none kV_rc dc_rc pm_rc an_rc cd_rc ct_rc), sl_rc⟩)
    (c_rc : PySem.W.codeIn K cd_rc "Rule.condition" = true)
    (k_rc : PySem.W.keepIn K (.ref f_rc) = true)
    (l_rr : K.lookup f_rr = some ⟨oc_rr, od_rr, .func (PySem.W.fnOf "ruling" "Rule.ruling" (defArgs s_Rule_ruling) (defBody s_Rule_ruling) (defScope s_Rule_ruling) .none kV_rr dc_rr pm_rr an_rr cd_rr ct_rr), sl_rr⟩)
    (c_rr : PySem.W.codeIn K cd_rr "Rule.ruling" = true)
    (k_rr : PySem.W.keepIn K (.ref f_rr) = true)
    (l_re : K.lookup f_re = some ⟨oc_re, od_re, .func (PySem.W.fnOf "exceptions" "Rule.exceptions" (defArgs s_Rule_exceptions) (defBody s_Rule_exceptions) (defScope s_Rule_exceptions) .none kV_re dc_re pm_re an_re cd_re ct_re), sl_re⟩)
    (c_re : PySem.W.codeIn K cd_re "Rule.exceptions" = true)
    (k_re : PySem.W.keepIn K (.ref f_re) = true)
    (l_rd : K.lookup f_rd = some ⟨oc_rd, od_rd, .func (PySem.W.fnOf "depth" "Rule.depth" (defArgs s_Rule_depth) (defBody s_Rule_depth) (defScope s_Rule_depth) .none kV_rd dc_rd pm_rd an_rd cd_rd ct_rd), sl_rd⟩)
    (c_rd : PySem.W.codeIn K cd_rd "Rule.depth" = true)
    (k_rd : PySem.W.keepIn K (.ref f_rd) = true)
    (l_bi : K.lookup f_bi = some ⟨oc_bi, od_bi, .func (PySem.W.fnOf "__init__" "Book.__init__" (defArgs s_Book___init__) (defBody s_Book___init__) (defScope s_Book___init__) .none kV_bi dc_bi pm_bi an_bi cd_bi ct_bi), sl_bi⟩)
    (c_bi : PySem.W.codeIn K cd_bi "Book.__init__" = true)
    (k_bi : PySem.W.keepIn K (.ref f_bi) = true)
    (l_bf : K.lookup f_bf = some ⟨oc_bf, od_bf, .func (PySem.W.fnOf "facts" "Book.facts" (defArgs s_Book_facts) (defBody s_Book_facts) (defScope s_Book_facts) .none kV_bf dc_bf pm_bf an_bf cd_bf ct_bf), sl_bf⟩)
    (c_bf : PySem.W.codeIn K cd_bf "Book.facts" = true)
    (k_bf : PySem.W.keepIn K (.ref f_bf) = true)
    (l_bs : K.lookup f_bs = some ⟨oc_bs, od_bs, .func (PySem.W.fnOf "rules" "Book.rules" (defArgs s_Book_rules) (defBody s_Book_rules) (defScope s_Book_rules) .none kV_bs dc_bs pm_bs an_bs cd_bs ct_bs), sl_bs⟩)
    (c_bs : PySem.W.codeIn K cd_bs "Book.rules" = true)
    (k_bs : PySem.W.keepIn K (.ref f_bs) = true)
    (l_br : K.lookup f_br = some ⟨oc_br, od_br, .func (PySem.W.fnOf "ruling" "Book.ruling" (defArgs s_Book_ruling) (defBody s_Book_ruling) (defScope s_Book_ruling) .none kV_br dc_br pm_br an_br cd_br ct_br), sl_br⟩)
    (c_br : PySem.W.codeIn K cd_br "Book.ruling" = true)
    (k_br : PySem.W.keepIn K (.ref f_br) = true)
    (l_oi : K.lookup f_oi = some ⟨oc_oi, od_oi, .func (PySem.W.fnOf "__init__" "OrderWatcher.__init__" (defArgs s_OrderWatcher___init__) (defBody s_OrderWatcher___init__) (defScope s_OrderWatcher___init__) .none kV_oi dc_oi pm_oi an_oi cd_oi ct_oi), sl_oi⟩)
    (c_oi : PySem.W.codeIn K cd_oi "OrderWatcher.__init__" = true)
    (k_oi : PySem.W.keepIn K (.ref f_oi) = true)
    (l_oc : K.lookup f_oc = some ⟨oc_oc, od_oc, .func (PySem.W.fnOf "order_count" "OrderWatcher.order_count" (defArgs s_OrderWatcher_order_count) (defBody s_OrderWatcher_order_count) (defScope s_OrderWatcher_order_count) .none kV_oc dc_oc pm_oc an_oc cd_oc ct_oc), sl_oc⟩)
    (c_oc : PySem.W.codeIn K cd_oc "OrderWatcher.order_count" = true)
    (k_oc : PySem.W.keepIn K (.ref f_oc) = true)
    (l_of : K.lookup f_of = some ⟨oc_of, od_of, .func (PySem.W.fnOf "first_order" "OrderWatcher.first_order" (defArgs s_OrderWatcher_first_order) (defBody s_OrderWatcher_first_order) (defScope s_OrderWatcher_first_order) .none kV_of dc_of pm_of an_of cd_of ct_of), sl_of⟩)
    (c_of : PySem.W.codeIn K cd_of "OrderWatcher.first_order" = true)
    (k_of : PySem.W.keepIn K (.ref f_of) = true)
    (l_or : K.lookup f_or = some ⟨oc_or, od_or, .func (PySem.W.fnOf "records" "OrderWatcher.records" (defArgs s_OrderWatcher_records) (defBody s_OrderWatcher_records) (defScope s_OrderWatcher_records) .none kV_or dc_or pm_or an_or cd_or ct_or), sl_or⟩)
    (c_or : PySem.W.codeIn K cd_or "OrderWatcher.records" = true)
    (k_or : PySem.W.keepIn K (.ref f_or) = true)
    (l_mc : K.lookup f_mc = some ⟨oc_mc, od_mc, .func (PySem.W.fnOf "__call__" "Condition.__call__" (defArgs s_Condition___call__) (defBody s_Condition___call__) (defScope s_Condition___call__) .none kV_mc dc_mc pm_mc an_mc cd_mc ct_mc), sl_mc⟩)
    (c_mc : PySem.W.codeIn K cd_mc "Condition.__call__" = true)
    (k_mc : PySem.W.keepIn K (.ref f_mc) = true)
    (l_os : K.lookup f_os = some ⟨oc_os, od_os, .func (PySem.W.fnOf "see" "OrderWatcher.see" (defArgs s_OrderWatcher_see) (defBody s_OrderWatcher_see) (defScope s_OrderWatcher_see) .none kV_os dc_os pm_os an_os cd_os ct_os), sl_os⟩)
    (c_os : PySem.W.codeIn K cd_os "OrderWatcher.see" = true)
    (k_os : PySem.W.keepIn K (.ref f_os) = true)
    (l_ou : K.lookup f_ou = some ⟨oc_ou, od_ou, .func (PySem.W.fnOf "sure" "OrderWatcher.sure" (defArgs s_OrderWatcher_sure) (defBody s_OrderWatcher_sure) (defScope s_OrderWatcher_sure) .none kV_ou dc_ou pm_ou an_ou cd_ou ct_ou), sl_ou⟩)
    (c_ou : PySem.W.codeIn K cd_ou "OrderWatcher.sure" = true)
    (k_ou : PySem.W.keepIn K (.ref f_ou) = true)
    (b_isinstance : PySem.W.nsIn K mainGlobals "isinstance" = some none)
    (b_len : PySem.W.nsIn K mainGlobals "len" = some none)
    (b_all : PySem.W.nsIn K mainGlobals "all" = some none)
    (b_any : PySem.W.nsIn K mainGlobals "any" = some none)
    (b_sum : PySem.W.nsIn K mainGlobals "sum" = some none)
    (b_max : PySem.W.nsIn K mainGlobals "max" = some none)
    (b_min : PySem.W.nsIn K mainGlobals "min" = some none)
    (b_int : PySem.W.nsIn K mainGlobals "int" = some none)
    (b_str : PySem.W.nsIn K mainGlobals "str" = some none)
    (b_bool : PySem.W.nsIn K mainGlobals "bool" = some none)
    (b_list : PySem.W.nsIn K mainGlobals "list" = some none)
    (b_tuple : PySem.W.nsIn K mainGlobals "tuple" = some none)
    (b_dict : PySem.W.nsIn K mainGlobals "dict" = some none)
    (b_range : PySem.W.nsIn K mainGlobals "range" = some none)
    (b_enumerate : PySem.W.nsIn K mainGlobals "enumerate" = some none)
    (b_sorted : PySem.W.nsIn K mainGlobals "sorted" = some none)
    (b_reversed : PySem.W.nsIn K mainGlobals "reversed" = some none)
    (b_zip : PySem.W.nsIn K mainGlobals "zip" = some none)
    (b_set : PySem.W.nsIn K mainGlobals "set" = some none)
    (b_ValueError : PySem.W.nsIn K mainGlobals "ValueError" = some none)
    (m_LETTERS : PySem.W.nsIn K mainGlobals "LETTERS" = some (some (.str letters t_LETTERS)))
    (m_LONGEST_NAME : PySem.W.nsIn K mainGlobals "LONGEST_NAME" = some (some (.int 8 t_LONGEST_NAME)))
    (m_MOST_FACTS : PySem.W.nsIn K mainGlobals "MOST_FACTS" = some (some (.int 60 t_MOST_FACTS)))
    (m_MOST_NAMES : PySem.W.nsIn K mainGlobals "MOST_NAMES" = some (some (.int 8 t_MOST_NAMES)))
    (m_MOST_AROUND : PySem.W.nsIn K mainGlobals "MOST_AROUND" = some (some (.int 5 t_MOST_AROUND)))
    (m_MOST_RULES : PySem.W.nsIn K mainGlobals "MOST_RULES" = some (some (.int 60 t_MOST_RULES)))
    (m_MOST_OUTERMOST : PySem.W.nsIn K mainGlobals "MOST_OUTERMOST" = some (some (.int 40 t_MOST_OUTERMOST)))
    (m_MOST_ORDERED : PySem.W.nsIn K mainGlobals "MOST_ORDERED" = some (some (.int 6 t_MOST_ORDERED)))
    (m_CourtError : PySem.W.nsIn K mainGlobals "CourtError" = some (some (.ref CE)))
    (m_Contradiction : PySem.W.nsIn K mainGlobals "Contradiction" = some (some (.ref E0)))
    (m_InvalidCase : PySem.W.nsIn K mainGlobals "InvalidCase" = some (some (.ref E1)))
    (m_InvalidRuling : PySem.W.nsIn K mainGlobals "InvalidRuling" = some (some (.ref E2)))
    (m_TooMany : PySem.W.nsIn K mainGlobals "TooMany" = some (some (.ref E3)))
    (m_UnknownRule : PySem.W.nsIn K mainGlobals "UnknownRule" = some (some (.ref E4)))
    (m_InvalidFacts : PySem.W.nsIn K mainGlobals "InvalidFacts" = some (some (.ref E5)))
    (m_InvalidCondition : PySem.W.nsIn K mainGlobals "InvalidCondition" = some (some (.ref E6)))
    (m_InvalidRule : PySem.W.nsIn K mainGlobals "InvalidRule" = some (some (.ref E7)))
    (m_InvalidBook : PySem.W.nsIn K mainGlobals "InvalidBook" = some (some (.ref E8)))
    (CEbe : PySem.W.subIn K (.ref CE) (.type "BaseException") = some true)
    (CEcl : PySem.W.isClsIn K CE = true)
    (CEty : PySem.W.typeIn K (.ref CE) = some (.type "type"))
    (u_0 : PySem.W.isClsIn K E0 = true)
    (v_0 : PySem.W.typeIn K (.ref E0) = some (.type "type"))
    (u_1 : PySem.W.isClsIn K E1 = true)
    (v_1 : PySem.W.typeIn K (.ref E1) = some (.type "type"))
    (u_2 : PySem.W.isClsIn K E2 = true)
    (v_2 : PySem.W.typeIn K (.ref E2) = some (.type "type"))
    (u_3 : PySem.W.isClsIn K E3 = true)
    (v_3 : PySem.W.typeIn K (.ref E3) = some (.type "type"))
    (u_4 : PySem.W.isClsIn K E4 = true)
    (v_4 : PySem.W.typeIn K (.ref E4) = some (.type "type"))
    (u_5 : PySem.W.isClsIn K E5 = true)
    (v_5 : PySem.W.typeIn K (.ref E5) = some (.type "type"))
    (u_6 : PySem.W.isClsIn K E6 = true)
    (v_6 : PySem.W.typeIn K (.ref E6) = some (.type "type"))
    (u_7 : PySem.W.isClsIn K E7 = true)
    (v_7 : PySem.W.typeIn K (.ref E7) = some (.type "type"))
    (u_8 : PySem.W.isClsIn K E8 = true)
    (v_8 : PySem.W.typeIn K (.ref E8) = some (.type "type"))
    (r0_cl : PySem.W.isClsIn K E0 = true)
    (r0_ga : PySem.W.findIn K (.ref E0) "__getattribute__" = some (some (.builtin "BaseException.__getattribute__")))
    (r0_gt : PySem.W.findIn K (.ref E0) "__getattr__" = some none)
    (r0_be : PySem.W.subIn K (.ref E0) (.type "BaseException") = some true)
    (r0_kc : PySem.W.findIn K (.ref E0) "__class__" = some (some (.builtin "object.__class__")))
    (r0_ob : PySem.W.mroIn K E0 (.type "object") = some true)
    (r0_hd : PySem.W.hasDictIn K E0 = true)
    (r0_sC : PySem.W.subIn K (.ref E0) (.ref CE) = some true)
    (r0_ve : PySem.W.subIn K (.ref E0) (.type "ValueError") = some true)
    (r0_k0 : PySem.W.subIn K (.ref E0) (.ref E0) = some true)
    (r0_k1 : PySem.W.subIn K (.ref E0) (.ref E1) = some false)
    (r0_k2 : PySem.W.subIn K (.ref E0) (.ref E2) = some false)
    (r0_k3 : PySem.W.subIn K (.ref E0) (.ref E3) = some false)
    (r0_k4 : PySem.W.subIn K (.ref E0) (.ref E4) = some false)
    (r0_k5 : PySem.W.subIn K (.ref E0) (.ref E5) = some false)
    (r0_k6 : PySem.W.subIn K (.ref E0) (.ref E6) = some false)
    (r0_k7 : PySem.W.subIn K (.ref E0) (.ref E7) = some false)
    (r0_k8 : PySem.W.subIn K (.ref E0) (.ref E8) = some false)
    (r0_n_index : PySem.W.findIn K (.ref E0) "index" = some none)
    (r0_n_part : PySem.W.findIn K (.ref E0) "part" = some none)
    (r0_n_word : PySem.W.findIn K (.ref E0) "word" = some none)
    (r0_n_fact : PySem.W.findIn K (.ref E0) "fact" = some none)
    (sg : PySem.W.specialIn K (.builtin "object.__class__") "__get__" = some (some (.builtin "getset_descriptor.__get__")))
    (tk : PySem.W.takesIn K (.builtin "object.__class__") = some true)
    (x_E : K.lookup CE = some (excClassObj nmE qE CE NE bsE bmE true snE suE abE colE ddE x0E x1E x2E x3E x5E "ValueError.__new__"))
    (f_E : PySem.W.findIn K (.ref CE) "__init__" = some (some (.builtin "ValueError.__init__")))
    (noS : PySem.W.nsIn K mainGlobals "super" = some none)
    (opq : PySem.W.nsIn K cStatics "thirdparty.any" = some none)
    (i1_x : K.lookup E1 = some (excClassObj nmi1 qi1 E1 Ni1 bsi1 bmi1 true sni1 sui1 abi1 coli1 ddi1 x0i1 x1i1 x2i1 x3i1 x5i1 "ValueError.__new__"))
    (i1_rv : HandSPX.refsVE bmi1 = true)
    (i1_sa : PySem.W.findIn K (.ref E1) "__setattr__" = some (some (.builtin "object.__setattr__")))
    (i1_ty : PySem.W.typeIn K (.ref E1) = some (.type "type"))
    (i1_kC : PySem.W.keepIn K (.ref E1) = true)
    (i1_in : PySem.W.findIn K (.ref E1) "__init__" = some (some (.ref fIi1)))
    (i1_tI : PySem.W.typeIn K (.ref fIi1) = some (.type "function"))
    (i1_lI : K.lookup fIi1 = some ⟨ocii1, odii1, .func (supFd (nf_InvalidCase celi1 codi1) kVii1 dcii1 pmii1 anii1 ctii1), slii1⟩)
    (i1_cI : PySem.W.codeIn K (.ref codi1) "InvalidCase.__init__" = true)
    (i1_ce : K.lookup celi1 = some ⟨clci1, ccddi1, .cell (some (.ref E1)), csli1⟩)
    (i1_co : K.lookup codi1 = some ⟨ccli1, cddi1, .fields vsi1, ccsi1⟩)
    (i1_fi : vsi1[2]? = some (.str fili1 tfii1))
    (i1_fe : ((P.main.file : Str) == fili1) = true)
    (i1_sb : PySem.W.mroIn K E1 (.ref E1) = some true)
    (i1_bm : bmi1 = .ref CE :: bmE)
    (i1_vB : PySem.W.subIn K (.ref E1) (.type "ValueError") = some true)
    (i1_bE : PySem.W.subIn K (.ref E1) (.type "BaseException") = some true)
    (i1_f_index : PySem.W.findIn K (.ref E1) "index" = some none)
    (i5_x : K.lookup E5 = some (excClassObj nmi5 qi5 E5 Ni5 bsi5 bmi5 true sni5 sui5 abi5 coli5 ddi5 x0i5 x1i5 x2i5 x3i5 x5i5 "ValueError.__new__"))
    (i5_rv : HandSPX.refsVE bmi5 = true)
    (i5_sa : PySem.W.findIn K (.ref E5) "__setattr__" = some (some (.builtin "object.__setattr__")))
    (i5_ty : PySem.W.typeIn K (.ref E5) = some (.type "type"))
    (i5_kC : PySem.W.keepIn K (.ref E5) = true)
    (i5_in : PySem.W.findIn K (.ref E5) "__init__" = some (some (.ref fIi5)))
    (i5_tI : PySem.W.typeIn K (.ref fIi5) = some (.type "function"))
    (i5_lI : K.lookup fIi5 = some ⟨ocii5, odii5, .func (supFd (nf_InvalidFacts celi5 codi5) kVii5 dcii5 pmii5 anii5 ctii5), slii5⟩)
    (i5_cI : PySem.W.codeIn K (.ref codi5) "InvalidFacts.__init__" = true)
    (i5_ce : K.lookup celi5 = some ⟨clci5, ccddi5, .cell (some (.ref E5)), csli5⟩)
    (i5_co : K.lookup codi5 = some ⟨ccli5, cddi5, .fields vsi5, ccsi5⟩)
    (i5_fi : vsi5[2]? = some (.str fili5 tfii5))
    (i5_fe : ((P.main.file : Str) == fili5) = true)
    (i5_sb : PySem.W.mroIn K E5 (.ref E5) = some true)
    (i5_bm : bmi5 = .ref CE :: bmE)
    (i5_vB : PySem.W.subIn K (.ref E5) (.type "ValueError") = some true)
    (i5_bE : PySem.W.subIn K (.ref E5) (.type "BaseException") = some true)
    (i5_f_index : PySem.W.findIn K (.ref E5) "index" = some none)
    (i6_x : K.lookup E6 = some (excClassObj nmi6 qi6 E6 Ni6 bsi6 bmi6 true sni6 sui6 abi6 coli6 ddi6 x0i6 x1i6 x2i6 x3i6 x5i6 "ValueError.__new__"))
    (i6_rv : HandSPX.refsVE bmi6 = true)
    (i6_sa : PySem.W.findIn K (.ref E6) "__setattr__" = some (some (.builtin "object.__setattr__")))
    (i6_ty : PySem.W.typeIn K (.ref E6) = some (.type "type"))
    (i6_kC : PySem.W.keepIn K (.ref E6) = true)
    (i6_in : PySem.W.findIn K (.ref E6) "__init__" = some (some (.ref fIi6)))
    (i6_tI : PySem.W.typeIn K (.ref fIi6) = some (.type "function"))
    (i6_lI : K.lookup fIi6 = some ⟨ocii6, odii6, .func (supFd (nf_InvalidCondition celi6 codi6) kVii6 dcii6 pmii6 anii6 ctii6), slii6⟩)
    (i6_cI : PySem.W.codeIn K (.ref codi6) "InvalidCondition.__init__" = true)
    (i6_ce : K.lookup celi6 = some ⟨clci6, ccddi6, .cell (some (.ref E6)), csli6⟩)
    (i6_co : K.lookup codi6 = some ⟨ccli6, cddi6, .fields vsi6, ccsi6⟩)
    (i6_fi : vsi6[2]? = some (.str fili6 tfii6))
    (i6_fe : ((P.main.file : Str) == fili6) = true)
    (i6_sb : PySem.W.mroIn K E6 (.ref E6) = some true)
    (i6_bm : bmi6 = .ref CE :: bmE)
    (i6_vB : PySem.W.subIn K (.ref E6) (.type "ValueError") = some true)
    (i6_bE : PySem.W.subIn K (.ref E6) (.type "BaseException") = some true)
    (i6_f_part : PySem.W.findIn K (.ref E6) "part" = some none)
    (i6_f_index : PySem.W.findIn K (.ref E6) "index" = some none)
    (i7_x : K.lookup E7 = some (excClassObj nmi7 qi7 E7 Ni7 bsi7 bmi7 true sni7 sui7 abi7 coli7 ddi7 x0i7 x1i7 x2i7 x3i7 x5i7 "ValueError.__new__"))
    (i7_rv : HandSPX.refsVE bmi7 = true)
    (i7_sa : PySem.W.findIn K (.ref E7) "__setattr__" = some (some (.builtin "object.__setattr__")))
    (i7_ty : PySem.W.typeIn K (.ref E7) = some (.type "type"))
    (i7_kC : PySem.W.keepIn K (.ref E7) = true)
    (i7_in : PySem.W.findIn K (.ref E7) "__init__" = some (some (.ref fIi7)))
    (i7_tI : PySem.W.typeIn K (.ref fIi7) = some (.type "function"))
    (i7_lI : K.lookup fIi7 = some ⟨ocii7, odii7, .func (supFd (nf_InvalidRule celi7 codi7) kVii7 dcii7 pmii7 anii7 ctii7), slii7⟩)
    (i7_cI : PySem.W.codeIn K (.ref codi7) "InvalidRule.__init__" = true)
    (i7_ce : K.lookup celi7 = some ⟨clci7, ccddi7, .cell (some (.ref E7)), csli7⟩)
    (i7_co : K.lookup codi7 = some ⟨ccli7, cddi7, .fields vsi7, ccsi7⟩)
    (i7_fi : vsi7[2]? = some (.str fili7 tfii7))
    (i7_fe : ((P.main.file : Str) == fili7) = true)
    (i7_sb : PySem.W.mroIn K E7 (.ref E7) = some true)
    (i7_bm : bmi7 = .ref CE :: bmE)
    (i7_vB : PySem.W.subIn K (.ref E7) (.type "ValueError") = some true)
    (i7_bE : PySem.W.subIn K (.ref E7) (.type "BaseException") = some true)
    (i7_f_part : PySem.W.findIn K (.ref E7) "part" = some none)
    (i8_x : K.lookup E8 = some (excClassObj nmi8 qi8 E8 Ni8 bsi8 bmi8 true sni8 sui8 abi8 coli8 ddi8 x0i8 x1i8 x2i8 x3i8 x5i8 "ValueError.__new__"))
    (i8_rv : HandSPX.refsVE bmi8 = true)
    (i8_sa : PySem.W.findIn K (.ref E8) "__setattr__" = some (some (.builtin "object.__setattr__")))
    (i8_ty : PySem.W.typeIn K (.ref E8) = some (.type "type"))
    (i8_kC : PySem.W.keepIn K (.ref E8) = true)
    (i8_in : PySem.W.findIn K (.ref E8) "__init__" = some (some (.ref fIi8)))
    (i8_tI : PySem.W.typeIn K (.ref fIi8) = some (.type "function"))
    (i8_lI : K.lookup fIi8 = some ⟨ocii8, odii8, .func (supFd (nf_InvalidBook celi8 codi8) kVii8 dcii8 pmii8 anii8 ctii8), slii8⟩)
    (i8_cI : PySem.W.codeIn K (.ref codi8) "InvalidBook.__init__" = true)
    (i8_ce : K.lookup celi8 = some ⟨clci8, ccddi8, .cell (some (.ref E8)), csli8⟩)
    (i8_co : K.lookup codi8 = some ⟨ccli8, cddi8, .fields vsi8, ccsi8⟩)
    (i8_fi : vsi8[2]? = some (.str fili8 tfii8))
    (i8_fe : ((P.main.file : Str) == fili8) = true)
    (i8_sb : PySem.W.mroIn K E8 (.ref E8) = some true)
    (i8_bm : bmi8 = .ref CE :: bmE)
    (i8_vB : PySem.W.subIn K (.ref E8) (.type "ValueError") = some true)
    (i8_bE : PySem.W.subIn K (.ref E8) (.type "BaseException") = some true)
    (i8_f_word : PySem.W.findIn K (.ref E8) "word" = some none)
    (i8_f_index : PySem.W.findIn K (.ref E8) "index" = some none)
    (p0_q : PySem.W.excIn K E0 [.type "ValueError", .type "Exception", .type "BaseException", .type "object"] "ValueError.__new__" = true)
    (p0_k : PySem.W.keepIn K (.ref E0) = true)
    (p0_b : PySem.W.subIn K (.ref E0) (.type "BaseException") = some true)
    (p0_t : PySem.W.typeIn K (.ref E0) = some (.type "type"))
    (p2_q : PySem.W.excIn K E2 [.type "ValueError", .type "Exception", .type "BaseException", .type "object"] "ValueError.__new__" = true)
    (p2_k : PySem.W.keepIn K (.ref E2) = true)
    (p2_b : PySem.W.subIn K (.ref E2) (.type "BaseException") = some true)
    (p2_t : PySem.W.typeIn K (.ref E2) = some (.type "type"))
    (tbl : K.lookup cc_law = some ocl)
    (tb0 : PySem.W.codeHdIn [(cc_law, ocl)] cc_law Tb0 = true)
    (tb1 : h.get? Tb0 = some ⟨.none, none, .fields #[], #[]⟩)
    (tb2 : K.lookup Tb0 = none)
    (top0 : (P.main.scope.names.lookup ("super" : Str)).isSome = false) : LamX.LawAtS l w K CX0 38 63 "_law_script" mg fa h := by
  have e := hfa.symm.trans (PySem.W.mg_of X G a_law)
  cases e
  subst eP
  have B : Blt mg := ⟨PySem.W.mg_none_of X G b_isinstance, PySem.W.mg_none_of X G b_len, PySem.W.mg_none_of X G b_all, PySem.W.mg_none_of X G b_any, PySem.W.mg_none_of X G b_sum, PySem.W.mg_none_of X G b_max, PySem.W.mg_none_of X G b_min, PySem.W.mg_none_of X G b_int, PySem.W.mg_none_of X G b_str, PySem.W.mg_none_of X G b_bool, PySem.W.mg_none_of X G b_list, PySem.W.mg_none_of X G b_tuple, PySem.W.mg_none_of X G b_dict, PySem.W.mg_none_of X G b_range, PySem.W.mg_none_of X G b_enumerate, PySem.W.mg_none_of X G b_sorted, PySem.W.mg_none_of X G b_reversed, PySem.W.mg_none_of X G b_zip, PySem.W.mg_none_of X G b_set, PySem.W.mg_none_of X G b_ValueError⟩
  have F_is_name := fun_mk (st := s_is_name) l_is_name c_is_name k_is_name
  have b_is_name := F_is_name.binds (ps := ["value"]) fun _ _ _ _ _ _ us hl => match us, hl with | [_], _ => rfl
  have F_rises := fun_mk (st := s_rises) l_rises c_rises k_rises
  have b_rises := F_rises.binds (ps := ["names", "index"]) fun _ _ _ _ _ _ us hl => match us, hl with | [_, _], _ => rfl
  have F_check_facts := fun_mk (st := s_check_facts) l_check_facts c_check_facts k_check_facts
  have b_check_facts := F_check_facts.binds (ps := ["facts"]) fun _ _ _ _ _ _ us hl => match us, hl with | [_], _ => rfl
  have F_check_case := fun_mk (st := s_check_case) l_check_case c_check_case k_check_case
  have b_check_case := F_check_case.binds (ps := ["facts", "case"]) fun _ _ _ _ _ _ us hl => match us, hl with | [_, _], _ => rfl
  have F_check_word := fun_mk (st := s_check_word) l_check_word c_check_word k_check_word
  have b_check_word := F_check_word.binds (ps := ["ruling"]) fun _ _ _ _ _ _ us hl => match us, hl with | [_], _ => rfl
  have F_check_left := fun_mk (st := s_check_left) l_check_left c_check_left k_check_left
  have b_check_left := F_check_left.binds (ps := ["left"]) fun _ _ _ _ _ _ us hl => match us, hl with | [_], _ => rfl
  have F_nested := fun_mk (st := s_nested) l_nested c_nested k_nested
  have b_nested := F_nested.binds (ps := ["rules", "around"]) fun _ _ _ _ _ _ us hl => match us, hl with | [_, _], _ => rfl
  have F_check_rules := fun_mk (st := s_check_rules) l_check_rules c_check_rules k_check_rules
  have b_check_rules := F_check_rules.binds (ps := ["facts", "rules"]) fun _ _ _ _ _ _ us hl => match us, hl with | [_, _], _ => rfl
  have F_check_part := fun_mk (st := s_check_part) l_check_part c_check_part k_check_part
  have b_check_part := F_check_part.binds (ps := ["part", "names", "before"]) fun _ _ _ _ _ _ us hl => match us, hl with | [_, _, _], _ => rfl
  have F_merged := fun_mk (st := s_merged) l_merged c_merged k_merged
  have b_merged := F_merged.binds (ps := ["names", "others"]) fun _ _ _ _ _ _ us hl => match us, hl with | [_, _], _ => rfl
  have F_steps := fun_mk (st := s_steps) l_steps c_steps k_steps
  have b_steps := F_steps.binds (ps := ["rules", "case"]) fun _ _ _ _ _ _ us hl => match us, hl with | [_, _], _ => rfl
  have F_up_to_first_met := fun_mk (st := s_up_to_first_met) l_up_to_first_met c_up_to_first_met k_up_to_first_met
  have b_up_to_first_met := F_up_to_first_met.binds (ps := ["rules", "case"]) fun _ _ _ _ _ _ us hl => match us, hl with | [_, _], _ => rfl
  have F_looked_into := fun_mk (st := s_looked_into) l_looked_into c_looked_into k_looked_into
  have b_looked_into := F_looked_into.binds (ps := ["rules", "case"]) fun _ _ _ _ _ _ us hl => match us, hl with | [_, _], _ => rfl
  have F_orders_of := fun_mk (st := s_orders_of) l_orders_of c_orders_of k_orders_of
  have b_orders_of := F_orders_of.binds (ps := ["count"]) fun _ _ _ _ _ _ us hl => match us, hl with | [_], _ => rfl
  have F_ruling_within := fun_mk (st := s_ruling_within) l_ruling_within c_ruling_within k_ruling_within
  have b_ruling_within := F_ruling_within.binds (ps := ["rule", "case"]) fun _ _ _ _ _ _ us hl => match us, hl with | [_, _], _ => rfl
  have F_ruling_by := fun_mk (st := s_ruling_by) l_ruling_by c_ruling_by k_ruling_by
  have b_ruling_by := F_ruling_by.binds (ps := ["order", "told", "otherwise"]) fun _ _ _ _ _ _ us hl => match us, hl with | [_, _, _], _ => rfl
  have F__law_mix := fun_mk (st := s__law_mix) l__law_mix c__law_mix k__law_mix
  have b__law_mix := F__law_mix.binds (ps := ["_law_script", "_law_seed"]) fun _ _ _ _ _ _ us hl => match us, hl with | [_, _], _ => rfl
  have F__law_next := fun_mk (st := s__law_next) l__law_next c__law_next k__law_next
  have b__law_next := F__law_next.binds (ps := ["_law_h", "_law_limit"]) fun _ _ _ _ _ _ us hl => match us, hl with | [_, _], _ => rfl
  have F__law_two := fun_mk (st := s__law_two) l__law_two c__law_two k__law_two
  have b__law_two := F__law_two.binds (ps := ["_law_count"]) fun _ _ _ _ _ _ us hl => match us, hl with | [_], _ => rfl
  have F__law_alike := fun_mk (st := s__law_alike) l__law_alike c__law_alike k__law_alike
  have b__law_alike := F__law_alike.binds (ps := ["_law_found", "_law_due"]) fun _ _ _ _ _ _ us hl => match us, hl with | [_, _], _ => rfl
  have F__law_facts := fun_mk (st := s__law_facts) l__law_facts c__law_facts k__law_facts
  have b__law_facts := F__law_facts.binds (ps := ["_law_h", "_law_most"]) fun _ _ _ _ _ _ us hl => match us, hl with | [_, _], _ => rfl
  have F__law_sides := fun_mk (st := s__law_sides) l__law_sides c__law_sides k__law_sides
  have b__law_sides := F__law_sides.binds (ps := ["_law_h", "_law_facts_here", "_law_most"]) fun _ _ _ _ _ _ us hl => match us, hl with | [_, _, _], _ => rfl
  have F__law_rule := fun_mk (st := s__law_rule) l__law_rule c__law_rule k__law_rule
  have b__law_rule := F__law_rule.binds (ps := ["_law_h", "_law_facts_here", "_law_names", "_law_deep"]) fun _ _ _ _ _ _ us hl => match us, hl with | [_, _, _, _], _ => rfl
  have F__law_drawn := fun_mk (st := s__law_drawn) l__law_drawn c__law_drawn k__law_drawn
  have b__law_drawn := F__law_drawn.binds (ps := ["_law_h", "_law_facts_here", "_law_most"]) fun _ _ _ _ _ _ us hl => match us, hl with | [_, _, _], _ => rfl
  have F__law_made := fun_mk (st := s__law_made) l__law_made c__law_made k__law_made
  have b__law_made := F__law_made.binds (ps := ["_law_rules"]) fun _ _ _ _ _ _ us hl => match us, hl with | [_], _ => rfl
  have F__law_book := fun_mk (st := s__law_book) l__law_book c__law_book k__law_book
  have b__law_book := F__law_book.binds (ps := ["_law_drawn_here"]) fun _ _ _ _ _ _ us hl => match us, hl with | [_], _ => rfl
  have F__law_case := fun_mk (st := s__law_case) l__law_case c__law_case k__law_case
  have b__law_case := F__law_case.binds (ps := ["_law_facts_here", "_law_number"]) fun _ _ _ _ _ _ us hl => match us, hl with | [_, _], _ => rfl
  have F__law_way := fun_mk (st := s__law_way) l__law_way c__law_way k__law_way
  have b__law_way := F__law_way.binds (ps := ["_law_rules", "_law_case_here"]) fun _ _ _ _ _ _ us hl => match us, hl with | [_, _], _ => rfl
  have F__law_ruled := fun_mk (st := s__law_ruled) l__law_ruled c__law_ruled k__law_ruled
  have b__law_ruled := F__law_ruled.binds (ps := ["_law_drawn_here", "_law_case_here"]) fun _ _ _ _ _ _ us hl => match us, hl with | [_, _], _ => rfl
  have F__law_word := fun_mk (st := s__law_word) l__law_word c__law_word k__law_word
  have b__law_word := F__law_word.binds (ps := ["_law_work"]) fun _ _ _ _ _ _ us hl => match us, hl with | [_], _ => rfl
  have F__law_orders := fun_mk (st := s__law_orders) l__law_orders c__law_orders k__law_orders
  have b__law_orders := F__law_orders.binds (ps := ["_law_many"]) fun _ _ _ _ _ _ us hl => match us, hl with | [_], _ => rfl
  have ec_Contradiction : ErrC K E0 := ⟨r0_cl, r0_ga, r0_gt, r0_be, r0_kc, sg, tk, r0_ob, r0_hd⟩
  have ox_InvalidCase : OexC K E1 := ⟨⟨_, _, _, _, _, _, _, _, _, _, _, _, _, _, _, i1_x, i1_rv⟩, i1_sa, i1_bE, i1_ty, i1_kC⟩
  have sp_InvalidCase : SupC l.prog K mg E1 celi1 codi1 := ⟨⟨_, _, _, i1_ce⟩, ⟨_, _, _, _, _, _, i1_co, i1_fi, i1_fe⟩, i1_sb, PySem.W.mg_none_of X G noS, opq, sup_by i1_x x_E i1_bm f_E, i1_vB, top0⟩
  have ox_InvalidFacts : OexC K E5 := ⟨⟨_, _, _, _, _, _, _, _, _, _, _, _, _, _, _, i5_x, i5_rv⟩, i5_sa, i5_bE, i5_ty, i5_kC⟩
  have sp_InvalidFacts : SupC l.prog K mg E5 celi5 codi5 := ⟨⟨_, _, _, i5_ce⟩, ⟨_, _, _, _, _, _, i5_co, i5_fi, i5_fe⟩, i5_sb, PySem.W.mg_none_of X G noS, opq, sup_by i5_x x_E i5_bm f_E, i5_vB, top0⟩
  have ox_InvalidCondition : OexC K E6 := ⟨⟨_, _, _, _, _, _, _, _, _, _, _, _, _, _, _, i6_x, i6_rv⟩, i6_sa, i6_bE, i6_ty, i6_kC⟩
  have sp_InvalidCondition : SupC l.prog K mg E6 celi6 codi6 := ⟨⟨_, _, _, i6_ce⟩, ⟨_, _, _, _, _, _, i6_co, i6_fi, i6_fe⟩, i6_sb, PySem.W.mg_none_of X G noS, opq, sup_by i6_x x_E i6_bm f_E, i6_vB, top0⟩
  have ox_InvalidRule : OexC K E7 := ⟨⟨_, _, _, _, _, _, _, _, _, _, _, _, _, _, _, i7_x, i7_rv⟩, i7_sa, i7_bE, i7_ty, i7_kC⟩
  have sp_InvalidRule : SupC l.prog K mg E7 celi7 codi7 := ⟨⟨_, _, _, i7_ce⟩, ⟨_, _, _, _, _, _, i7_co, i7_fi, i7_fe⟩, i7_sb, PySem.W.mg_none_of X G noS, opq, sup_by i7_x x_E i7_bm f_E, i7_vB, top0⟩
  have ox_InvalidBook : OexC K E8 := ⟨⟨_, _, _, _, _, _, _, _, _, _, _, _, _, _, _, i8_x, i8_rv⟩, i8_sa, i8_bE, i8_ty, i8_kC⟩
  have sp_InvalidBook : SupC l.prog K mg E8 celi8 codi8 := ⟨⟨_, _, _, i8_ce⟩, ⟨_, _, _, _, _, _, i8_co, i8_fi, i8_fe⟩, i8_sb, PySem.W.mg_none_of X G noS, opq, sup_by i8_x x_E i8_bm f_E, i8_vB, top0⟩
  have F_mi := fun_mk (st := s_Condition___init__) l_mi c_mi k_mi
  have b_mi := F_mi.binds (ps := ["self", "holding", "failing"]) fun _ _ _ _ _ _ us hl => match us, hl with | [_, _, _], _ => rfl
  have F_mh := fun_mk (st := s_Condition_holding) l_mh c_mh k_mh
  have b_mh := F_mh.binds (ps := ["self"]) fun _ _ _ _ _ _ us hl => match us, hl with | [_], _ => rfl
  have F_mf := fun_mk (st := s_Condition_failing) l_mf c_mf k_mf
  have b_mf := F_mf.binds (ps := ["self"]) fun _ _ _ _ _ _ us hl => match us, hl with | [_], _ => rfl
  have F_mn := fun_mk (st := s_Condition_names) l_mn c_mn k_mn
  have b_mn := F_mn.binds (ps := ["self"]) fun _ _ _ _ _ _ us hl => match us, hl with | [_], _ => rfl
  have F_ri := fun_mk (st := s_Rule___init__) l_ri c_ri k_ri
  have b_ri := F_ri.binds (ps := ["self", "name", "condition", "ruling", "exceptions"]) fun _ _ _ _ _ _ us hl => match us, hl with | [_, _, _, _, _], _ => rfl
  have F_rn := fun_mk (st := s_Rule_name) l_rn c_rn k_rn
  have b_rn := F_rn.binds (ps := ["self"]) fun _ _ _ _ _ _ us hl => match us, hl with | [_], _ => rfl
  have F_rc := fun_mk (st := s_Rule_condition) l_rc c_rc k_rc
  have b_rc := F_rc.binds (ps := ["self"]) fun _ _ _ _ _ _ us hl => match us, hl with | [_], _ => rfl
  have F_rr := fun_mk (st := s_Rule_ruling) l_rr c_rr k_rr
  have b_rr := F_rr.binds (ps := ["self"]) fun _ _ _ _ _ _ us hl => match us, hl with | [_], _ => rfl
  have F_re := fun_mk (st := s_Rule_exceptions) l_re c_re k_re
  have b_re := F_re.binds (ps := ["self"]) fun _ _ _ _ _ _ us hl => match us, hl with | [_], _ => rfl
  have F_rd := fun_mk (st := s_Rule_depth) l_rd c_rd k_rd
  have b_rd := F_rd.binds (ps := ["self"]) fun _ _ _ _ _ _ us hl => match us, hl with | [_], _ => rfl
  have F_bi := fun_mk (st := s_Book___init__) l_bi c_bi k_bi
  have b_bi := F_bi.binds (ps := ["self", "facts", "rules", "ruling"]) fun _ _ _ _ _ _ us hl => match us, hl with | [_, _, _, _], _ => rfl
  have F_bf := fun_mk (st := s_Book_facts) l_bf c_bf k_bf
  have b_bf := F_bf.binds (ps := ["self"]) fun _ _ _ _ _ _ us hl => match us, hl with | [_], _ => rfl
  have F_bs := fun_mk (st := s_Book_rules) l_bs c_bs k_bs
  have b_bs := F_bs.binds (ps := ["self"]) fun _ _ _ _ _ _ us hl => match us, hl with | [_], _ => rfl
  have F_br := fun_mk (st := s_Book_ruling) l_br c_br k_br
  have b_br := F_br.binds (ps := ["self"]) fun _ _ _ _ _ _ us hl => match us, hl with | [_], _ => rfl
  have F_oi := fun_mk (st := s_OrderWatcher___init__) l_oi c_oi k_oi
  have b_oi := F_oi.binds (ps := ["self", "book"]) fun _ _ _ _ _ _ us hl => match us, hl with | [_, _], _ => rfl
  have F_oc := fun_mk (st := s_OrderWatcher_order_count) l_oc c_oc k_oc
  have b_oc := F_oc.binds (ps := ["self"]) fun _ _ _ _ _ _ us hl => match us, hl with | [_], _ => rfl
  have F_of := fun_mk (st := s_OrderWatcher_first_order) l_of c_of k_of
  have b_of := F_of.binds (ps := ["self"]) fun _ _ _ _ _ _ us hl => match us, hl with | [_], _ => rfl
  have F_or := fun_mk (st := s_OrderWatcher_records) l_or c_or k_or
  have b_or := F_or.binds (ps := ["self"]) fun _ _ _ _ _ _ us hl => match us, hl with | [_], _ => rfl
  have F_mc := fun_mk (st := s_Condition___call__) l_mc c_mc k_mc
  have b_mc := F_mc.binds (ps := ["self", "case"]) fun _ _ _ _ _ _ us hl => match us, hl with | [_, _], _ => rfl
  have F_os := fun_mk (st := s_OrderWatcher_see) l_os c_os k_os
  have b_os := F_os.binds (ps := ["self", "case", "ruling"]) fun _ _ _ _ _ _ us hl => match us, hl with | [_, _, _], _ => rfl
  have F_ou := fun_mk (st := s_OrderWatcher_sure) l_ou c_ou k_ou
  have b_ou := F_ou.binds (ps := ["self", "name", "other"]) fun _ _ _ _ _ _ us hl => match us, hl with | [_, _, _], _ => rfl
  have GN : GNames mg := ⟨⟨_, PySem.W.mg_of X G m_LETTERS⟩, ⟨_, PySem.W.mg_of X G m_LONGEST_NAME⟩⟩
  have CLc : Cls K CO := ⟨co_pg, co_hd, co_po, co_sa⟩
  have CLr : Cls K RO := ⟨ro_pg, ro_hd, ro_po, ro_sa⟩
  have CLb : Cls K BO := ⟨bo_pg, bo_hd, bo_po, bo_sa⟩
  have CLo : Cls K OW := ⟨oo_pg, oo_hd, oo_po, oo_sa⟩
  refine ⟨PySem.W.fnOf "law" "law" (defArgs s_law) (defBody s_law) (defScope s_law) .none kV_law dc_law pm_law an_law (.ref cc_law) ct_law, [(cc_law, Tb0)], sp_law K Tb0, fun p hp => by rw [List.mem_singleton.mp hp]; exact tb1, fun p hp => by rw [List.mem_singleton.mp hp]; exact tb2, fun p hp => by rw [List.mem_singleton.mp hp]; exact PySem.W.codeHd_of_K X (codeHd_by tbl tb0), ?_, ?_, ?_⟩
  · exact fun s u => .of_eq rfl
  · exact fun H a ns hl hb ht hS => ⟨a, ns, rfl, hS, hl, hb, ht _ (List.mem_singleton.mpr rfl), fun _ => rfl⟩
  · intro base KB NB TBs
    have e_InvalidCase : ErrMk l.prog w K mg base "InvalidCase" E1 ["self", "index"] (sp_init1 E1 "index") := ⟨_, _, ox_InvalidCase, i1_in, i1_tI, ok_init_InvalidCase i1_lI i1_cI ox_InvalidCase sp_InvalidCase i1_f_index, fun s us _ hl => match us, hl with | [_, _], _ => .of_eq rfl, PySem.W.mg_of X G m_InvalidCase⟩
    have e_InvalidFacts : ErrMk l.prog w K mg base "InvalidFacts" E5 ["self", "index"] (sp_init1 E5 "index") := ⟨_, _, ox_InvalidFacts, i5_in, i5_tI, ok_init_InvalidFacts i5_lI i5_cI ox_InvalidFacts sp_InvalidFacts i5_f_index, fun s us _ hl => match us, hl with | [_, _], _ => .of_eq rfl, PySem.W.mg_of X G m_InvalidFacts⟩
    have e_InvalidCondition : ErrMk l.prog w K mg base "InvalidCondition" E6 ["self", "part", "index"] (sp_init2 E6 "part" "index") := ⟨_, _, ox_InvalidCondition, i6_in, i6_tI, ok_init_InvalidCondition i6_lI i6_cI ox_InvalidCondition sp_InvalidCondition i6_f_part i6_f_index, fun s us _ hl => match us, hl with | [_, _, _], _ => .of_eq rfl, PySem.W.mg_of X G m_InvalidCondition⟩
    have e_InvalidRule : ErrMk l.prog w K mg base "InvalidRule" E7 ["self", "part"] (sp_init1 E7 "part") := ⟨_, _, ox_InvalidRule, i7_in, i7_tI, ok_init_InvalidRule i7_lI i7_cI ox_InvalidRule sp_InvalidRule i7_f_part, fun s us _ hl => match us, hl with | [_, _], _ => .of_eq rfl, PySem.W.mg_of X G m_InvalidRule⟩
    have e_InvalidBook : ErrMk l.prog w K mg base "InvalidBook" E8 ["self", "word", "index"] (sp_init2 E8 "word" "index") := ⟨_, _, ox_InvalidBook, i8_in, i8_tI, ok_init_InvalidBook i8_lI i8_cI ox_InvalidBook sp_InvalidBook i8_f_word i8_f_index, fun s us _ hl => match us, hl with | [_, _, _], _ => .of_eq rfl, PySem.W.mg_of X G m_InvalidBook⟩
    have e_Contradiction : ErrMk0 K mg "Contradiction" E0 := ⟨p0_q, PySem.W.mg_of X G m_Contradiction, p0_k, p0_b, p0_t⟩
    have e_InvalidRuling : ErrMk0 K mg "InvalidRuling" E2 := ⟨p2_q, PySem.W.mg_of X G m_InvalidRuling, p2_k, p2_b, p2_t⟩
    have c_is_name : Cal l.prog w K mg base CX0 1 "is_name" ["value"] (sp_is_name) := ⟨_, _, (ok_is_name F_is_name B GN), PySem.W.mg_of X G a_is_name, k_is_name, b_is_name⟩
    have c_rises : Cal l.prog w K mg base CX0 1 "rises" ["names", "index"] (sp_rises K) := ⟨_, _, (ok_rises F_rises ), PySem.W.mg_of X G a_rises, k_rises, b_rises⟩
    have c_check_facts : Cal l.prog w K mg base (L2.CX l.prog w) 3 "check_facts" ["facts"] (sp_check_facts K E5) := ⟨_, _, (ok_check_facts F_check_facts B ⟨_, PySem.W.mg_of X G m_MOST_FACTS⟩ e_InvalidFacts c_is_name c_rises), PySem.W.mg_of X G a_check_facts, k_check_facts, b_check_facts⟩
    have c_check_case : Cal l.prog w K mg base (L2.CX l.prog w) 3 "check_case" ["facts", "case"] (sp_check_case K E1) := ⟨_, _, (ok_check_case F_check_case B e_InvalidCase c_rises), PySem.W.mg_of X G a_check_case, k_check_case, b_check_case⟩
    have c_check_part : Cal l.prog w K mg base (L2.CX l.prog w) 3 "check_part" ["part", "names", "before"] (sp_check_part K E6) := ⟨_, _, (ok_check_part F_check_part B ⟨_, PySem.W.mg_of X G m_MOST_NAMES⟩ e_InvalidCondition c_is_name c_rises), PySem.W.mg_of X G a_check_part, k_check_part, b_check_part⟩
    have c_merged : Cal l.prog w K mg base CX0 1 "merged" ["names", "others"] (sp_merged K) := ⟨_, _, (ok_merged F_merged B), PySem.W.mg_of X G a_merged, k_merged, b_merged⟩
    have pc_mh : PropC l.prog w K mg base CO pp_mh f_mh _ "holding" "_holding" := ⟨⟨pa_mh, pg_mh, pt_mh, ⟨_, pr_mh⟩⟩, ok_holding F_mh CLc co_n1, b_mh⟩
    have pc_mf : PropC l.prog w K mg base CO pp_mf f_mf _ "failing" "_failing" := ⟨⟨pa_mf, pg_mf, pt_mf, ⟨_, pr_mf⟩⟩, ok_failing F_mf CLc co_n2, b_mf⟩
    have pc_mn : PropC l.prog w K mg base CO pp_mn f_mn _ "names" "_names" := ⟨⟨pa_mn, pg_mn, pt_mn, ⟨_, pr_mn⟩⟩, ok_cnames F_mn CLc co_n3, b_mn⟩
    have pc_rn : PropC l.prog w K mg base RO pp_rn f_rn _ "name" "_name" := ⟨⟨pa_rn, pg_rn, pt_rn, ⟨_, pr_rn⟩⟩, ok_Rule_name F_rn CLr ro_n1, b_rn⟩
    have pc_rc : PropC l.prog w K mg base RO pp_rc f_rc _ "condition" "_condition" := ⟨⟨pa_rc, pg_rc, pt_rc, ⟨_, pr_rc⟩⟩, ok_Rule_condition F_rc CLr ro_n2, b_rc⟩
    have pc_rr : PropC l.prog w K mg base RO pp_rr f_rr _ "ruling" "_ruling" := ⟨⟨pa_rr, pg_rr, pt_rr, ⟨_, pr_rr⟩⟩, ok_Rule_ruling F_rr CLr ro_n3, b_rr⟩
    have pc_re : PropC l.prog w K mg base RO pp_re f_re _ "exceptions" "_exceptions" := ⟨⟨pa_re, pg_re, pt_re, ⟨_, pr_re⟩⟩, ok_Rule_exceptions F_re CLr ro_n4, b_re⟩
    have pc_rd : PropC l.prog w K mg base RO pp_rd f_rd _ "depth" "_depth" := ⟨⟨pa_rd, pg_rd, pt_rd, ⟨_, pr_rd⟩⟩, ok_Rule_depth F_rd CLr ro_n5, b_rd⟩
    have pc_bf : PropC l.prog w K mg base BO pp_bf f_bf _ "facts" "_facts" := ⟨⟨pa_bf, pg_bf, pt_bf, ⟨_, pr_bf⟩⟩, ok_Book_facts F_bf CLb bo_n1, b_bf⟩
    have pc_bs : PropC l.prog w K mg base BO pp_bs f_bs _ "rules" "_rules" := ⟨⟨pa_bs, pg_bs, pt_bs, ⟨_, pr_bs⟩⟩, ok_Book_rules F_bs CLb bo_n2, b_bs⟩
    have pc_br : PropC l.prog w K mg base BO pp_br f_br _ "ruling" "_ruling" := ⟨⟨pa_br, pg_br, pt_br, ⟨_, pr_br⟩⟩, ok_Book_ruling F_br CLb bo_n3, b_br⟩
    have kK : CondG l.prog w K mg base CO := ⟨CLc, ⟨_, _, _, pc_mh⟩, ⟨_, _, _, pc_mf⟩, ⟨_, _, _, pc_mn⟩⟩
    have kR : RuleX l.prog w K mg base RO := ⟨CLr, ⟨_, _, _, pc_rn⟩, ⟨_, _, _, pc_rc⟩, ⟨_, _, _, pc_rr⟩, ⟨_, _, _, pc_re⟩, ⟨_, _, _, pc_rd⟩⟩
    have kBX : BookX l.prog w K mg base BO := ⟨CLb, ⟨_, _, _, pc_bf⟩, ⟨_, _, _, pc_bs⟩, ⟨_, _, _, pc_br⟩⟩
    have kW : CondW l.prog w K mg base CO := ⟨kK, ⟨_, _, at_mc, fn_mc, fi_mc, ok_ccall F_mc B CLc co_n1 co_n2, b_mc⟩⟩
    have c_up_to_first_met : Cal l.prog w K mg base CX0 6 "up_to_first_met" ["rules", "case"] (sp_upto K CO RO) := ⟨_, _, (ok_upto F_up_to_first_met B kR kW), PySem.W.mg_of X G a_up_to_first_met, k_up_to_first_met, b_up_to_first_met⟩
    have c_steps : Cal l.prog w K mg base CX0 8 "steps" ["rules", "case"] (sp_steps K CO RO) := ⟨_, _, (ok_steps F_steps B kR c_up_to_first_met), PySem.W.mg_of X G a_steps, k_steps, b_steps⟩
    have c_looked_into : Cal l.prog w K mg base CX0 9 "looked_into" ["rules", "case"] (sp_looked K CO RO) := ⟨_, _, (ok_looked F_looked_into B c_steps), PySem.W.mg_of X G a_looked_into, k_looked_into, b_looked_into⟩
    have c_nested : Cal l.prog w K mg base CX0 15 "nested" ["rules", "around"] (sp_nested K CO RO 12) := ⟨_, _, rec_all (S := sp_nested K CO RO) (k := 2) (fun d c => ok_nested F_nested kR c) (PySem.W.mg_of X G a_nested) k_nested b_nested 12, PySem.W.mg_of X G a_nested, k_nested, b_nested⟩
    have c_check_rules : Cal l.prog w K mg base (L2.CX l.prog w) 16 "check_rules" ["facts", "rules"] (sp_check_rules K CO RO E8) := ⟨_, _, (ok_check_rules F_check_rules B kR kK (PySem.W.mg_of X G m_MOST_AROUND) (PySem.W.mg_of X G m_MOST_RULES) (PySem.W.mg_of X G m_MOST_OUTERMOST) e_InvalidBook c_nested), PySem.W.mg_of X G a_check_rules, k_check_rules, b_check_rules⟩
    have kM : Mkr l.prog w K mg base 4 "Condition" CO ["self", "holding", "failing"] (sp_cond_init K CO E6) := ⟨_, _, ⟨co_mk, co_in, co_fn, co_kp⟩, ok_cond_init F_mi B CLc co_n1 co_n2 co_n3 c_check_part c_merged, PySem.W.mg_of X G co, b_mi⟩
    have kRM : Mkr l.prog w K mg base 16 "Rule" RO ["self", "name", "condition", "ruling", "exceptions"] (sp_rule_init K CO RO E7) := ⟨_, _, ⟨ro_mk, ro_in, ro_fn, ro_kp⟩, ok_rule_init F_ri B CLr ro_n1 ro_n2 ro_n3 ro_n4 ro_n5 ro_n6 kR e_InvalidRule c_is_name c_nested, PySem.W.mg_of X G ro, b_ri⟩
    have kBM : Mkr l.prog w K mg base 17 "Book" BO ["self", "facts", "rules", "ruling"] (sp_book_init K CO RO BO E5 E8) := ⟨_, _, ⟨bo_mk, bo_in, bo_fn, bo_kp⟩, ok_book_init F_bi B CLb bo_n1 bo_n2 bo_n3 bo_n4 e_InvalidBook c_is_name c_nested c_check_facts c_check_rules, PySem.W.mg_of X G bo, b_bi⟩
    have c__law_mix : Cal l.prog w K mg base CX0 1 "_law_mix" ["_law_script", "_law_seed"] (sp_mix K) := ⟨_, _, (ok_mix F__law_mix B), PySem.W.mg_of X G a__law_mix, k__law_mix, b__law_mix⟩
    have c__law_next : Cal l.prog w K mg base CX0 1 "_law_next" ["_law_h", "_law_limit"] (sp_next) := ⟨_, _, (ok_next F__law_next B), PySem.W.mg_of X G a__law_next, k__law_next, b__law_next⟩
    have c__law_facts : Cal l.prog w K mg base CX0 2 "_law_facts" ["_law_h", "_law_most"] (sp_facts) := ⟨_, _, (ok_facts F__law_facts B c__law_next), PySem.W.mg_of X G a__law_facts, k__law_facts, b__law_facts⟩
    have c__law_sides : Cal l.prog w K mg base CX0 2 "_law_sides" ["_law_h", "_law_facts_here", "_law_most"] (sp_sides K) := ⟨_, _, (ok_sides F__law_sides B c__law_next), PySem.W.mg_of X G a__law_sides, k__law_sides, b__law_sides⟩
    have c__law_rule : Cal l.prog w K mg base CX0 5 "_law_rule" ["_law_h", "_law_facts_here", "_law_names", "_law_deep"] (sp_rule2 K 2) := ⟨_, _, rec_all (S := sp_rule2 K) (k := 2) (fun d c => ok_rule2 F__law_rule B c__law_next c__law_sides c) (PySem.W.mg_of X G a__law_rule) k__law_rule b__law_rule 2, PySem.W.mg_of X G a__law_rule, k__law_rule, b__law_rule⟩
    have c__law_drawn : Cal l.prog w K mg base CX0 6 "_law_drawn" ["_law_h", "_law_facts_here", "_law_most"] (sp_drawn K) := ⟨_, _, (ok_drawn F__law_drawn B c__law_next c__law_rule), PySem.W.mg_of X G a__law_drawn, k__law_drawn, b__law_drawn⟩
    have c__law_made : Cal l.prog w K mg base CX0 30 "_law_made" ["_law_rules"] (sp_made K CO RO 12) := ⟨_, _, rec_all (S := sp_made K CO RO) (k := 17) (fun d c => ok_made F__law_made B kM kRM c) (PySem.W.mg_of X G a__law_made) k__law_made b__law_made 12, PySem.W.mg_of X G a__law_made, k__law_made, b__law_made⟩
    have c__law_book : Cal l.prog w K mg base CX0 31 "_law_book" ["_law_drawn_here"] (sp_book2 K CO RO BO) := ⟨_, _, (ok_book2 F__law_book B kBM c__law_made), PySem.W.mg_of X G a__law_book, k__law_book, b__law_book⟩
    have c_check_word : Cal l.prog w K mg base (L2.CX l.prog w) 2 "check_word" ["ruling"] (sp_cword E2) := ⟨_, _, (ok_cword F_check_word B e_InvalidRuling c_is_name), PySem.W.mg_of X G a_check_word, k_check_word, b_check_word⟩
    have c_check_left : Cal l.prog w K mg base (L2.CX l.prog w) 1 "check_left" ["left"] (sp_cleft E0) := ⟨_, _, (ok_cleft F_check_left e_Contradiction), PySem.W.mg_of X G a_check_left, k_check_left, b_check_left⟩
    have c_orders_of : Cal l.prog w K mg base CX0 1 "orders_of" ["count"] (sp_orders K) := ⟨_, _, (ok_orders F_orders_of B), PySem.W.mg_of X G a_orders_of, k_orders_of, b_orders_of⟩
    have c__law_orders : Cal l.prog w K mg base CX0 1 "_law_orders" ["_law_many"] (sp_lorders K) := ⟨_, _, (ok_lorders F__law_orders B), PySem.W.mg_of X G a__law_orders, k__law_orders, b__law_orders⟩
    have c_ruling_within : Cal l.prog w K mg base CX0 10 "ruling_within" ["rule", "case"] (sp_rwithinO K CO RO) := ⟨_, _, (ok_rwithinO F_ruling_within B kR c_looked_into), PySem.W.mg_of X G a_ruling_within, k_ruling_within, b_ruling_within⟩
    have c_ruling_by : Cal l.prog w K mg base CX0 1 "ruling_by" ["order", "told", "otherwise"] (sp_rby K) := ⟨_, _, (ok_rby F_ruling_by B), PySem.W.mg_of X G a_ruling_by, k_ruling_by, b_ruling_by⟩
    have c__law_two : Cal l.prog w K mg base CX0 1 "_law_two" ["_law_count"] (sp_two) := ⟨_, _, (ok_two F__law_two B), PySem.W.mg_of X G a__law_two, k__law_two, b__law_two⟩
    have c__law_case : Cal l.prog w K mg base CX0 1 "_law_case" ["_law_facts_here", "_law_number"] (sp_lcase K) := ⟨_, _, (ok_lcase F__law_case B), PySem.W.mg_of X G a__law_case, k__law_case, b__law_case⟩
    have c__law_way : Cal l.prog w K mg base CX0 14 "_law_way" ["_law_rules", "_law_case_here"] (sp_lway K 12) := ⟨_, _, rec_all (S := sp_lway K) (k := 1) (fun d c => ok_lway F__law_way B c) (PySem.W.mg_of X G a__law_way) k__law_way b__law_way 12, PySem.W.mg_of X G a__law_way, k__law_way, b__law_way⟩
    have c__law_ruled : Cal l.prog w K mg base CX0 15 "_law_ruled" ["_law_drawn_here", "_law_case_here"] (sp_ruled K) := ⟨_, _, (ok_ruled F__law_ruled B c__law_way), PySem.W.mg_of X G a__law_ruled, k__law_ruled, b__law_ruled⟩
    have c0 : Cal l.prog w K mg base CX0 1 "_law_alike" ["_law_found", "_law_due"] (sp_alike 0) := ⟨_, _, (ok_alike0 F__law_alike B), PySem.W.mg_of X G a__law_alike, k__law_alike, b__law_alike⟩
    have c1 : Cal l.prog w K mg base CX0 2 "_law_alike" ["_law_found", "_law_due"] (sp_alike 1) := ⟨_, _, (ok_alike F__law_alike B c0), PySem.W.mg_of X G a__law_alike, k__law_alike, b__law_alike⟩
    have c2 : Cal l.prog w K mg base CX0 3 "_law_alike" ["_law_found", "_law_due"] (sp_alike 2) := ⟨_, _, (ok_alike F__law_alike B c1), PySem.W.mg_of X G a__law_alike, k__law_alike, b__law_alike⟩
    have c3 : Cal l.prog w K mg base CX0 4 "_law_alike" ["_law_found", "_law_due"] (sp_alike 3) := ⟨_, _, (ok_alike F__law_alike B c2), PySem.W.mg_of X G a__law_alike, k__law_alike, b__law_alike⟩
    have c4 : Cal l.prog w K mg base CX0 5 "_law_alike" ["_law_found", "_law_due"] (sp_alike 4) := ⟨_, _, (ok_alike F__law_alike B c3), PySem.W.mg_of X G a__law_alike, k__law_alike, b__law_alike⟩
    have c5 : Cal l.prog w K mg base CX0 6 "_law_alike" ["_law_found", "_law_due"] (sp_alike 5) := ⟨_, _, (ok_alike F__law_alike B c4), PySem.W.mg_of X G a__law_alike, k__law_alike, b__law_alike⟩
    have c6 : Cal l.prog w K mg base CX0 7 "_law_alike" ["_law_found", "_law_due"] (sp_alike 6) := ⟨_, _, (ok_alike F__law_alike B c5), PySem.W.mg_of X G a__law_alike, k__law_alike, b__law_alike⟩
    have mCount : PropM l.prog w K mg base OW "order_count" 1 (sp_owCount K CO RO BO OW) := ⟨_, _, _, ⟨pa_oc, pg_oc, pt_oc, ⟨_, pr_oc⟩⟩, ok_owCount F_oc B CLo oo_n2, b_oc⟩
    have mFirst : PropM l.prog w K mg base OW "first_order" 3 (sp_owFirst K CO RO BO OW) := ⟨_, _, _, ⟨pa_of, pg_of, pt_of, ⟨_, pr_of⟩⟩, ok_owFirst F_of B CLo oo_n1 oo_n2 kBX kR, b_of⟩
    have mRecs : PropM l.prog w K mg base OW "records" 1 (sp_owRecs K CO RO BO OW) := ⟨_, _, _, ⟨pa_or, pg_or, pt_or, ⟨_, pr_or⟩⟩, ok_owRecs F_or B CLo oo_n3, b_or⟩
    have mo_see : MethX l.prog w K mg base 11 OW "see" ["self", "case", "ruling"] (sp_owSee K CO RO BO OW E0) := ⟨_, _, ⟨at_os, fn_os, k_os⟩, ok_owSee F_os B CLo oo_n1 oo_n2 oo_n3 kBX c_check_case c_check_word c_check_left c_ruling_within c_ruling_by, b_os⟩
    have mo_sure : MethR l.prog w K mg base 3 OW "sure" ["self", "name", "other"] (sp_owSure K CO RO BO OW) := ⟨_, _, ⟨at_ou, fn_ou, k_ou⟩, ok_owSure F_ou B CLo oo_n1 oo_n2 kBX kR, b_ou⟩
    have kOW : Mkr0 l.prog w K mg base 3 "OrderWatcher" OW ["self", "book"] (sp_owInit K CO RO BO OW) := ⟨_, _, ⟨oo_mk, oo_in, oo_fn, oo_kp⟩, ok_owInit F_oi B CLo oo_n1 oo_n2 oo_n3 kBX (PySem.W.mg_of X G m_MOST_ORDERED) c_orders_of, PySem.W.mg_of X G oo, b_oi⟩
    have GK : GWord mg (fun i => [E0, E1, E2, E3, E4].getD i E0) CE := ⟨PySem.W.mg_of X G m_CourtError, PySem.W.mg_of X G m_Contradiction, PySem.W.mg_of X G m_InvalidCase, PySem.W.mg_of X G m_InvalidRuling, PySem.W.mg_of X G m_TooMany, PySem.W.mg_of X G m_UnknownRule⟩
    have kr_0 : WordRow K (fun i => [E0, E1, E2, E3, E4].getD i E0) CE E0 0 := ⟨ec_Contradiction, exm_by CEbe CEcl CEty r0_sC, fun i hi => match i, hi with | 0, _ => kit_by r0_k0 u_0 v_0 r0_k0 | 1, _ => kit_by r0_k0 u_1 v_1 r0_k1 | 2, _ => kit_by r0_k0 u_2 v_2 r0_k2 | 3, _ => kit_by r0_k0 u_3 v_3 r0_k3 | 4, _ => kit_by r0_k0 u_4 v_4 r0_k4 | x + 5, h => absurd h (by omega)⟩
    exact ok_law ⟨⟨_, _, _, _, _, _, _, _, rfl, l_law, c_law⟩, k_law⟩ B GK F__law_word (PySem.W.mg_of X G a__law_word) b__law_word (TBs _ (List.mem_singleton.mpr rfl)) CLo kr_0 c__law_mix c__law_next c__law_facts c__law_drawn c__law_book c__law_two c__law_case c__law_ruled c__law_orders c6 kOW mCount mFirst mRecs mo_see mo_sure
end Sc
/-! the head's facts read by a Hook of one's own: functions by address, all else by one Bool -/
namespace Sc
open PySem PySem.Spec PyProof.Rows L2 HeadY He
theorem all_y {w : World} {K : PySem.W.Frag} {h : Heap} {mg : Str → Option Value} {fa : Addr} (X : K.In h) (G : h.Ns mainGlobals mg) (hfa : mg "law" = some (.ref fa)) (S : SaysY fnL tfL exB h K) : LamX.LawAtS theLaw w K CX0 38 63 "_law_script" mg fa h := by
  obtain ⟨_, _, _, _, _, _, _, _, l_is_name, y_l_is_name⟩ := fn_ok (S.fn 0 rfl) (gx0 S).2.1
  obtain ⟨_, _, _, _, _, _, _, _, l_rises, y_l_rises⟩ := fn_ok (S.fn 1 rfl) (gx0 S).2.2.2.2.1
  obtain ⟨_, _, _, _, _, _, _, _, l_check_facts, y_l_check_facts⟩ := fn_ok (S.fn 2 rfl) (gx0 S).2.2.2.2.2.2.2.1
  obtain ⟨_, _, _, _, _, _, _, _, l_check_case, y_l_check_case⟩ := fn_ok (S.fn 3 rfl) (gx0 S).2.2.2.2.2.2.2.2.2.2.1
  obtain ⟨_, _, _, _, _, _, _, _, l_check_word, y_l_check_word⟩ := fn_ok (S.fn 4 rfl) (gx1 S).2.1
  obtain ⟨_, _, _, _, _, _, _, _, l_check_left, y_l_check_left⟩ := fn_ok (S.fn 5 rfl) (gx1 S).2.2.2.2.1
  obtain ⟨_, _, _, _, _, _, _, _, l_nested, y_l_nested⟩ := fn_ok (S.fn 6 rfl) (gx1 S).2.2.2.2.2.2.2.1
  obtain ⟨_, _, _, _, _, _, _, _, l_check_rules, y_l_check_rules⟩ := fn_ok (S.fn 7 rfl) (gx1 S).2.2.2.2.2.2.2.2.2.2.1
  obtain ⟨_, _, _, _, _, _, _, _, l_check_part, y_l_check_part⟩ := fn_ok (S.fn 8 rfl) (gx2 S).2.1
  obtain ⟨_, _, _, _, _, _, _, _, l_merged, y_l_merged⟩ := fn_ok (S.fn 9 rfl) (gx2 S).2.2.2.2.1
  obtain ⟨_, _, _, _, _, _, _, _, l_steps, y_l_steps⟩ := fn_ok (S.fn 10 rfl) (gx2 S).2.2.2.2.2.2.2.1
  obtain ⟨_, _, _, _, _, _, _, _, l_up_to_first_met, y_l_up_to_first_met⟩ := fn_ok (S.fn 11 rfl) (gx2 S).2.2.2.2.2.2.2.2.2.2.1
  obtain ⟨_, _, _, _, _, _, _, _, l_looked_into, y_l_looked_into⟩ := fn_ok (S.fn 12 rfl) (gx3 S).2.1
  obtain ⟨_, _, _, _, _, _, _, _, l_orders_of, y_l_orders_of⟩ := fn_ok (S.fn 13 rfl) (gx3 S).2.2.2.2.1
  obtain ⟨_, _, _, _, _, _, _, _, l_ruling_within, y_l_ruling_within⟩ := fn_ok (S.fn 14 rfl) (gx3 S).2.2.2.2.2.2.2.1
  obtain ⟨_, _, _, _, _, _, _, _, l_ruling_by, y_l_ruling_by⟩ := fn_ok (S.fn 15 rfl) (gx3 S).2.2.2.2.2.2.2.2.2.2.1
  obtain ⟨_, _, _, _, _, _, _, _, l__law_mix, y_l__law_mix⟩ := fn_ok (S.fn 16 rfl) (gx4 S).2.1
  obtain ⟨_, _, _, _, _, _, _, _, l__law_next, y_l__law_next⟩ := fn_ok (S.fn 17 rfl) (gx4 S).2.2.2.2.1
  obtain ⟨_, _, _, _, _, _, _, _, l__law_two, y_l__law_two⟩ := fn_ok (S.fn 18 rfl) (gx4 S).2.2.2.2.2.2.2.1
  obtain ⟨_, _, _, _, _, _, _, _, l__law_alike, y_l__law_alike⟩ := fn_ok (S.fn 19 rfl) (gx4 S).2.2.2.2.2.2.2.2.2.2.1
  obtain ⟨_, _, _, _, _, _, _, _, l__law_facts, y_l__law_facts⟩ := fn_ok (S.fn 20 rfl) (gx5 S).2.1
  obtain ⟨_, _, _, _, _, _, _, _, l__law_sides, y_l__law_sides⟩ := fn_ok (S.fn 21 rfl) (gx5 S).2.2.2.2.1
  obtain ⟨_, _, _, _, _, _, _, _, l__law_rule, y_l__law_rule⟩ := fn_ok (S.fn 22 rfl) (gx5 S).2.2.2.2.2.2.2.1
  obtain ⟨_, _, _, _, _, _, _, _, l__law_drawn, y_l__law_drawn⟩ := fn_ok (S.fn 23 rfl) (gx5 S).2.2.2.2.2.2.2.2.2.2.1
  obtain ⟨_, _, _, _, _, _, _, _, l__law_made, y_l__law_made⟩ := fn_ok (S.fn 24 rfl) (gx6 S).2.1
  obtain ⟨_, _, _, _, _, _, _, _, l__law_book, y_l__law_book⟩ := fn_ok (S.fn 25 rfl) (gx6 S).2.2.2.2.1
  obtain ⟨_, _, _, _, _, _, _, _, l__law_case, y_l__law_case⟩ := fn_ok (S.fn 26 rfl) (gx6 S).2.2.2.2.2.2.2.1
  obtain ⟨_, _, _, _, _, _, _, _, l__law_way, y_l__law_way⟩ := fn_ok (S.fn 27 rfl) (gx6 S).2.2.2.2.2.2.2.2.2.2.1
  obtain ⟨_, _, _, _, _, _, _, _, l__law_ruled, y_l__law_ruled⟩ := fn_ok (S.fn 28 rfl) (gx7 S).2.1
  obtain ⟨_, _, _, _, _, _, _, _, l__law_word, y_l__law_word⟩ := fn_ok (S.fn 29 rfl) (gx7 S).2.2.2.2.1
  obtain ⟨_, _, _, _, _, _, _, _, l__law_orders, y_l__law_orders⟩ := fn_ok (S.fn 30 rfl) (gx7 S).2.2.2.2.2.2.2.1
  obtain ⟨_, _, _, _, _, _, _, _, l_law, y_l_law⟩ := fn_ok (S.fn 31 rfl) (gx7 S).2.2.2.2.2.2.2.2.2.2.1
  obtain ⟨_, pr_mh⟩ := rec_is (gx9 S).2.2.2.1
  obtain ⟨_, pr_mf⟩ := rec_is (gx9 S).2.2.2.2.2.2.2.1
  obtain ⟨_, pr_mn⟩ := rec_is (gx9 S).2.2.2.2.2.2.2.2.2.2.2
  obtain ⟨_, pr_rn⟩ := rec_is (gx11 S).2.2.2.2.2.2.1
  obtain ⟨_, pr_rc⟩ := rec_is (gx11 S).2.2.2.2.2.2.2.2.2.2.1
  obtain ⟨_, pr_rr⟩ := rec_is (gx12 S).2.2.1
  obtain ⟨_, pr_re⟩ := rec_is (gx12 S).2.2.2.2.2.2.1
  obtain ⟨_, pr_rd⟩ := rec_is (gx12 S).2.2.2.2.2.2.2.2.2.2.1
  obtain ⟨_, pr_bf⟩ := rec_is (gx14 S).2.2.2.1
  obtain ⟨_, pr_bs⟩ := rec_is (gx14 S).2.2.2.2.2.2.2.1
  obtain ⟨_, pr_br⟩ := rec_is (gx14 S).2.2.2.2.2.2.2.2.2.2.2
  obtain ⟨_, pr_oc⟩ := rec_is (gx16 S).2.2.2.1
  obtain ⟨_, pr_of⟩ := rec_is (gx16 S).2.2.2.2.2.2.2.1
  obtain ⟨_, pr_or⟩ := rec_is (gx16 S).2.2.2.2.2.2.2.2.2.2.2
  obtain ⟨_, _, _, _, _, _, _, _, l_mi, y_l_mi⟩ := fn_ok (S.fn 32 rfl) (gx17 S).2.2.2.2.2.2.2.1
  obtain ⟨_, _, _, _, _, _, _, _, l_mh, y_l_mh⟩ := fn_ok (S.fn 33 rfl) (gx17 S).2.2.2.2.2.2.2.2.2.1
  obtain ⟨_, _, _, _, _, _, _, _, l_mf, y_l_mf⟩ := fn_ok (S.fn 34 rfl) (gx17 S).2.2.2.2.2.2.2.2.2.2.2
  obtain ⟨_, _, _, _, _, _, _, _, l_mn, y_l_mn⟩ := fn_ok (S.fn 35 rfl) (gx18 S).2.1
  obtain ⟨_, _, _, _, _, _, _, _, l_ri, y_l_ri⟩ := fn_ok (S.fn 36 rfl) (gx18 S).2.2.2.1
  obtain ⟨_, _, _, _, _, _, _, _, l_rn, y_l_rn⟩ := fn_ok (S.fn 37 rfl) (gx18 S).2.2.2.2.2.1
  obtain ⟨_, _, _, _, _, _, _, _, l_rc, y_l_rc⟩ := fn_ok (S.fn 38 rfl) (gx18 S).2.2.2.2.2.2.2.1
  obtain ⟨_, _, _, _, _, _, _, _, l_rr, y_l_rr⟩ := fn_ok (S.fn 39 rfl) (gx18 S).2.2.2.2.2.2.2.2.2.1
  obtain ⟨_, _, _, _, _, _, _, _, l_re, y_l_re⟩ := fn_ok (S.fn 40 rfl) (gx18 S).2.2.2.2.2.2.2.2.2.2.2
  obtain ⟨_, _, _, _, _, _, _, _, l_rd, y_l_rd⟩ := fn_ok (S.fn 41 rfl) (gx19 S).2.1
  obtain ⟨_, _, _, _, _, _, _, _, l_bi, y_l_bi⟩ := fn_ok (S.fn 42 rfl) (gx19 S).2.2.2.1
  obtain ⟨_, _, _, _, _, _, _, _, l_bf, y_l_bf⟩ := fn_ok (S.fn 43 rfl) (gx19 S).2.2.2.2.2.1
  obtain ⟨_, _, _, _, _, _, _, _, l_bs, y_l_bs⟩ := fn_ok (S.fn 44 rfl) (gx19 S).2.2.2.2.2.2.2.1
  obtain ⟨_, _, _, _, _, _, _, _, l_br, y_l_br⟩ := fn_ok (S.fn 45 rfl) (gx19 S).2.2.2.2.2.2.2.2.2.1
  obtain ⟨_, _, _, _, _, _, _, _, l_oi, y_l_oi⟩ := fn_ok (S.fn 46 rfl) (gx19 S).2.2.2.2.2.2.2.2.2.2.2
  obtain ⟨_, _, _, _, _, _, _, _, l_oc, y_l_oc⟩ := fn_ok (S.fn 47 rfl) (gx20 S).2.1
  obtain ⟨_, _, _, _, _, _, _, _, l_of, y_l_of⟩ := fn_ok (S.fn 48 rfl) (gx20 S).2.2.2.1
  obtain ⟨_, _, _, _, _, _, _, _, l_or, y_l_or⟩ := fn_ok (S.fn 49 rfl) (gx20 S).2.2.2.2.2.1
  obtain ⟨_, _, _, _, _, _, _, _, l_mc, y_l_mc⟩ := fn_ok (S.fn 50 rfl) (gx20 S).2.2.2.2.2.2.2.1
  obtain ⟨_, _, _, _, _, _, _, _, l_os, y_l_os⟩ := fn_ok (S.fn 51 rfl) (gx20 S).2.2.2.2.2.2.2.2.2.1
  obtain ⟨_, _, _, _, _, _, _, _, l_ou, y_l_ou⟩ := fn_ok (S.fn 52 rfl) (gx20 S).2.2.2.2.2.2.2.2.2.2.2
  obtain ⟨_, m_LETTERS⟩ := str_is (gx22 S).2.2.2.2.2.2.2.2.2.1
  obtain ⟨_, m_LONGEST_NAME⟩ := int_is (gx22 S).2.2.2.2.2.2.2.2.2.2.1
  obtain ⟨_, m_MOST_FACTS⟩ := int_is (gx22 S).2.2.2.2.2.2.2.2.2.2.2
  obtain ⟨_, m_MOST_NAMES⟩ := int_is (gx23 S).1
  obtain ⟨_, m_MOST_AROUND⟩ := int_is (gx23 S).2.1
  obtain ⟨_, m_MOST_RULES⟩ := int_is (gx23 S).2.2.1
  obtain ⟨_, m_MOST_OUTERMOST⟩ := int_is (gx23 S).2.2.2.1
  obtain ⟨_, m_MOST_ORDERED⟩ := int_is (gx23 S).2.2.2.2.1
  obtain ⟨_, _, _, _, _, _, _, _, _, _, _, _, _, _, x_E⟩ := exc_is (gx28 S).1
  obtain ⟨_, _, _, _, _, _, _, _, _, _, _, _, _, _, i1_x⟩ := exc_is (gx28 S).2.2.2.2.1
  obtain ⟨_, _, _, _, _, _, _, _, i1_lI, y_i1_lI⟩ := fn_okC (S.fn 53 rfl) (gx28 S).2.2.2.2.2.2.2.2.2.2.2
  obtain ⟨_, _, _, i1_ce⟩ := cell_is (gx29 S).1
  obtain ⟨_, _, _, _, _, _, i1_co, i1_fi, i1_fe⟩ := file_is (gx29 S).2.1
  obtain ⟨_, _, _, _, _, _, _, _, _, _, _, _, _, _, i5_x⟩ := exc_is (gx29 S).2.2.2.2.2.2.2.1
  obtain ⟨_, _, _, _, _, _, _, _, i5_lI, y_i5_lI⟩ := fn_okC (S.fn 54 rfl) (gx30 S).2.2.1
  obtain ⟨_, _, _, i5_ce⟩ := cell_is (gx30 S).2.2.2.1
  obtain ⟨_, _, _, _, _, _, i5_co, i5_fi, i5_fe⟩ := file_is (gx30 S).2.2.2.2.1
  obtain ⟨_, _, _, _, _, _, _, _, _, _, _, _, _, _, i6_x⟩ := exc_is (gx30 S).2.2.2.2.2.2.2.2.2.2.1
  obtain ⟨_, _, _, _, _, _, _, _, i6_lI, y_i6_lI⟩ := fn_okC (S.fn 55 rfl) (gx31 S).2.2.2.2.2.1
  obtain ⟨_, _, _, i6_ce⟩ := cell_is (gx31 S).2.2.2.2.2.2.1
  obtain ⟨_, _, _, _, _, _, i6_co, i6_fi, i6_fe⟩ := file_is (gx31 S).2.2.2.2.2.2.2.1
  obtain ⟨_, _, _, _, _, _, _, _, _, _, _, _, _, _, i7_x⟩ := exc_is (gx32 S).2.2.1
  obtain ⟨_, _, _, _, _, _, _, _, i7_lI, y_i7_lI⟩ := fn_okC (S.fn 56 rfl) (gx32 S).2.2.2.2.2.2.2.2.2.1
  obtain ⟨_, _, _, i7_ce⟩ := cell_is (gx32 S).2.2.2.2.2.2.2.2.2.2.1
  obtain ⟨_, _, _, _, _, _, i7_co, i7_fi, i7_fe⟩ := file_is (gx32 S).2.2.2.2.2.2.2.2.2.2.2
  obtain ⟨_, _, _, _, _, _, _, _, _, _, _, _, _, _, i8_x⟩ := exc_is (gx33 S).2.2.2.2.2.1
  obtain ⟨_, _, _, _, _, _, _, _, i8_lI, y_i8_lI⟩ := fn_okC (S.fn 57 rfl) (gx34 S).1
  obtain ⟨_, _, _, i8_ce⟩ := cell_is (gx34 S).2.1
  obtain ⟨_, _, _, _, _, _, i8_co, i8_fi, i8_fe⟩ := file_is (gx34 S).2.2.1
  obtain ⟨_, tbl, z_tbl⟩ := tbl_is (S.hd _ (mem_at (i := 0) rfl))
  exact all_mk (l := theLaw) (P := theRow.prog) (celi1 := (Ad_celi1 K)) (codi1 := (Ad_codi1 K)) (celi5 := (Ad_celi5 K)) (codi5 := (Ad_codi5 K)) (celi6 := (Ad_celi6 K)) (codi6 := (Ad_codi6 K)) (celi7 := (Ad_celi7 K)) (codi7 := (Ad_codi7 K)) (celi8 := (Ad_celi8 K)) (codi8 := (Ad_codi8 K)) (Tb0 := (Ad_Tb0 K)) rfl X G hfa (gx0 S).1 l_is_name y_l_is_name (gx0 S).2.2.1 (gx0 S).2.2.2.1 l_rises y_l_rises (gx0 S).2.2.2.2.2.1 (gx0 S).2.2.2.2.2.2.1 l_check_facts y_l_check_facts (gx0 S).2.2.2.2.2.2.2.2.1 (gx0 S).2.2.2.2.2.2.2.2.2.1 l_check_case y_l_check_case (gx0 S).2.2.2.2.2.2.2.2.2.2.2 (gx1 S).1 l_check_word y_l_check_word (gx1 S).2.2.1 (gx1 S).2.2.2.1 l_check_left y_l_check_left (gx1 S).2.2.2.2.2.1 (gx1 S).2.2.2.2.2.2.1 l_nested y_l_nested (gx1 S).2.2.2.2.2.2.2.2.1 (gx1 S).2.2.2.2.2.2.2.2.2.1 l_check_rules y_l_check_rules (gx1 S).2.2.2.2.2.2.2.2.2.2.2 (gx2 S).1 l_check_part y_l_check_part (gx2 S).2.2.1 (gx2 S).2.2.2.1 l_merged y_l_merged (gx2 S).2.2.2.2.2.1 (gx2 S).2.2.2.2.2.2.1 l_steps y_l_steps (gx2 S).2.2.2.2.2.2.2.2.1 (gx2 S).2.2.2.2.2.2.2.2.2.1 l_up_to_first_met y_l_up_to_first_met (gx2 S).2.2.2.2.2.2.2.2.2.2.2 (gx3 S).1 l_looked_into y_l_looked_into (gx3 S).2.2.1 (gx3 S).2.2.2.1 l_orders_of y_l_orders_of (gx3 S).2.2.2.2.2.1 (gx3 S).2.2.2.2.2.2.1 l_ruling_within y_l_ruling_within (gx3 S).2.2.2.2.2.2.2.2.1 (gx3 S).2.2.2.2.2.2.2.2.2.1 l_ruling_by y_l_ruling_by (gx3 S).2.2.2.2.2.2.2.2.2.2.2 (gx4 S).1 l__law_mix y_l__law_mix (gx4 S).2.2.1 (gx4 S).2.2.2.1 l__law_next y_l__law_next (gx4 S).2.2.2.2.2.1 (gx4 S).2.2.2.2.2.2.1 l__law_two y_l__law_two (gx4 S).2.2.2.2.2.2.2.2.1 (gx4 S).2.2.2.2.2.2.2.2.2.1 l__law_alike y_l__law_alike (gx4 S).2.2.2.2.2.2.2.2.2.2.2 (gx5 S).1 l__law_facts y_l__law_facts (gx5 S).2.2.1 (gx5 S).2.2.2.1 l__law_sides y_l__law_sides (gx5 S).2.2.2.2.2.1 (gx5 S).2.2.2.2.2.2.1 l__law_rule y_l__law_rule (gx5 S).2.2.2.2.2.2.2.2.1 (gx5 S).2.2.2.2.2.2.2.2.2.1 l__law_drawn y_l__law_drawn (gx5 S).2.2.2.2.2.2.2.2.2.2.2 (gx6 S).1 l__law_made y_l__law_made (gx6 S).2.2.1 (gx6 S).2.2.2.1 l__law_book y_l__law_book (gx6 S).2.2.2.2.2.1 (gx6 S).2.2.2.2.2.2.1 l__law_case y_l__law_case (gx6 S).2.2.2.2.2.2.2.2.1 (gx6 S).2.2.2.2.2.2.2.2.2.1 l__law_way y_l__law_way (gx6 S).2.2.2.2.2.2.2.2.2.2.2 (gx7 S).1 l__law_ruled y_l__law_ruled (gx7 S).2.2.1 (gx7 S).2.2.2.1 l__law_word y_l__law_word (gx7 S).2.2.2.2.2.1 (gx7 S).2.2.2.2.2.2.1 l__law_orders y_l__law_orders (gx7 S).2.2.2.2.2.2.2.2.1 (gx7 S).2.2.2.2.2.2.2.2.2.1 l_law y_l_law (gx7 S).2.2.2.2.2.2.2.2.2.2.2 (gx8 S).1 (gx8 S).2.1 (gx8 S).2.2.1 (gx8 S).2.2.2.1 (gx8 S).2.2.2.2.1 (gx8 S).2.2.2.2.2.1 (gx8 S).2.2.2.2.2.2.1 (gx8 S).2.2.2.2.2.2.2.1 (gx8 S).2.2.2.2.2.2.2.2.1 (gx8 S).2.2.2.2.2.2.2.2.2.1 (gx8 S).2.2.2.2.2.2.2.2.2.2.1 (gx8 S).2.2.2.2.2.2.2.2.2.2.2 (gx9 S).1 (gx9 S).2.1 (gx9 S).2.2.1 pr_mh (gx9 S).2.2.2.2.1 (gx9 S).2.2.2.2.2.1 (gx9 S).2.2.2.2.2.2.1 pr_mf (gx9 S).2.2.2.2.2.2.2.2.1 (gx9 S).2.2.2.2.2.2.2.2.2.1 (gx9 S).2.2.2.2.2.2.2.2.2.2.1 pr_mn (gx10 S).1 (gx10 S).2.1 (gx10 S).2.2.1 (gx10 S).2.2.2.1 (gx10 S).2.2.2.2.1 (gx10 S).2.2.2.2.2.1 (gx10 S).2.2.2.2.2.2.1 (gx10 S).2.2.2.2.2.2.2.1 (gx10 S).2.2.2.2.2.2.2.2.1 (gx10 S).2.2.2.2.2.2.2.2.2.1 (gx10 S).2.2.2.2.2.2.2.2.2.2.1 (gx10 S).2.2.2.2.2.2.2.2.2.2.2 (gx11 S).1 (gx11 S).2.1 (gx11 S).2.2.1 (gx11 S).2.2.2.1 (gx11 S).2.2.2.2.1 (gx11 S).2.2.2.2.2.1 pr_rn (gx11 S).2.2.2.2.2.2.2.1 (gx11 S).2.2.2.2.2.2.2.2.1 (gx11 S).2.2.2.2.2.2.2.2.2.1 pr_rc (gx11 S).2.2.2.2.2.2.2.2.2.2.2 (gx12 S).1 (gx12 S).2.1 pr_rr (gx12 S).2.2.2.1 (gx12 S).2.2.2.2.1 (gx12 S).2.2.2.2.2.1 pr_re (gx12 S).2.2.2.2.2.2.2.1 (gx12 S).2.2.2.2.2.2.2.2.1 (gx12 S).2.2.2.2.2.2.2.2.2.1 pr_rd (gx12 S).2.2.2.2.2.2.2.2.2.2.2 (gx13 S).1 (gx13 S).2.1 (gx13 S).2.2.1 (gx13 S).2.2.2.1 (gx13 S).2.2.2.2.1 (gx13 S).2.2.2.2.2.1 (gx13 S).2.2.2.2.2.2.1 (gx13 S).2.2.2.2.2.2.2.1 (gx13 S).2.2.2.2.2.2.2.2.1 (gx13 S).2.2.2.2.2.2.2.2.2.1 (gx13 S).2.2.2.2.2.2.2.2.2.2.1 (gx13 S).2.2.2.2.2.2.2.2.2.2.2 (gx14 S).1 (gx14 S).2.1 (gx14 S).2.2.1 pr_bf (gx14 S).2.2.2.2.1 (gx14 S).2.2.2.2.2.1 (gx14 S).2.2.2.2.2.2.1 pr_bs (gx14 S).2.2.2.2.2.2.2.2.1 (gx14 S).2.2.2.2.2.2.2.2.2.1 (gx14 S).2.2.2.2.2.2.2.2.2.2.1 pr_br (gx15 S).1 (gx15 S).2.1 (gx15 S).2.2.1 (gx15 S).2.2.2.1 (gx15 S).2.2.2.2.1 (gx15 S).2.2.2.2.2.1 (gx15 S).2.2.2.2.2.2.1 (gx15 S).2.2.2.2.2.2.2.1 (gx15 S).2.2.2.2.2.2.2.2.1 (gx15 S).2.2.2.2.2.2.2.2.2.1 (gx15 S).2.2.2.2.2.2.2.2.2.2.1 (gx15 S).2.2.2.2.2.2.2.2.2.2.2 (gx16 S).1 (gx16 S).2.1 (gx16 S).2.2.1 pr_oc (gx16 S).2.2.2.2.1 (gx16 S).2.2.2.2.2.1 (gx16 S).2.2.2.2.2.2.1 pr_of (gx16 S).2.2.2.2.2.2.2.2.1 (gx16 S).2.2.2.2.2.2.2.2.2.1 (gx16 S).2.2.2.2.2.2.2.2.2.2.1 pr_or (gx17 S).1 (gx17 S).2.1 (gx17 S).2.2.1 (gx17 S).2.2.2.1 (gx17 S).2.2.2.2.1 (gx17 S).2.2.2.2.2.1 (gx17 S).2.2.2.2.2.2.1 l_mi y_l_mi (gx17 S).2.2.2.2.2.2.2.2.1 l_mh y_l_mh (gx17 S).2.2.2.2.2.2.2.2.2.2.1 l_mf y_l_mf (gx18 S).1 l_mn y_l_mn (gx18 S).2.2.1 l_ri y_l_ri (gx18 S).2.2.2.2.1 l_rn y_l_rn (gx18 S).2.2.2.2.2.2.1 l_rc y_l_rc (gx18 S).2.2.2.2.2.2.2.2.1 l_rr y_l_rr (gx18 S).2.2.2.2.2.2.2.2.2.2.1 l_re y_l_re (gx19 S).1 l_rd y_l_rd (gx19 S).2.2.1 l_bi y_l_bi (gx19 S).2.2.2.2.1 l_bf y_l_bf (gx19 S).2.2.2.2.2.2.1 l_bs y_l_bs (gx19 S).2.2.2.2.2.2.2.2.1 l_br y_l_br (gx19 S).2.2.2.2.2.2.2.2.2.2.1 l_oi y_l_oi (gx20 S).1 l_oc y_l_oc (gx20 S).2.2.1 l_of y_l_of (gx20 S).2.2.2.2.1 l_or y_l_or (gx20 S).2.2.2.2.2.2.1 l_mc y_l_mc (gx20 S).2.2.2.2.2.2.2.2.1 l_os y_l_os (gx20 S).2.2.2.2.2.2.2.2.2.2.1 l_ou y_l_ou (gx21 S).1 (gx21 S).2.1 (gx21 S).2.2.1 (gx21 S).2.2.2.1 (gx21 S).2.2.2.2.1 (gx21 S).2.2.2.2.2.1 (gx21 S).2.2.2.2.2.2.1 (gx21 S).2.2.2.2.2.2.2.1 (gx21 S).2.2.2.2.2.2.2.2.1 (gx21 S).2.2.2.2.2.2.2.2.2.1 (gx21 S).2.2.2.2.2.2.2.2.2.2.1 (gx21 S).2.2.2.2.2.2.2.2.2.2.2 (gx22 S).1 (gx22 S).2.1 (gx22 S).2.2.1 (gx22 S).2.2.2.1 (gx22 S).2.2.2.2.1 (gx22 S).2.2.2.2.2.1 (gx22 S).2.2.2.2.2.2.1 (gx22 S).2.2.2.2.2.2.2.1 (gx22 S).2.2.2.2.2.2.2.2.1 m_LETTERS m_LONGEST_NAME m_MOST_FACTS m_MOST_NAMES m_MOST_AROUND m_MOST_RULES m_MOST_OUTERMOST m_MOST_ORDERED (gx23 S).2.2.2.2.2.1 (gx23 S).2.2.2.2.2.2.1 (gx23 S).2.2.2.2.2.2.2.1 (gx23 S).2.2.2.2.2.2.2.2.1 (gx23 S).2.2.2.2.2.2.2.2.2.1 (gx23 S).2.2.2.2.2.2.2.2.2.2.1 (gx23 S).2.2.2.2.2.2.2.2.2.2.2 (gx24 S).1 (gx24 S).2.1 (gx24 S).2.2.1 (gx24 S).2.2.2.1 (gx24 S).2.2.2.2.1 (gx24 S).2.2.2.2.2.1 (gx24 S).2.2.2.2.2.2.1 (gx24 S).2.2.2.2.2.2.2.1 (gx24 S).2.2.2.2.2.2.2.2.1 (gx24 S).2.2.2.2.2.2.2.2.2.1 (gx24 S).2.2.2.2.2.2.2.2.2.2.1 (gx24 S).2.2.2.2.2.2.2.2.2.2.2 (gx25 S).1 (gx25 S).2.1 (gx25 S).2.2.1 (gx25 S).2.2.2.1 (gx25 S).2.2.2.2.1 (gx25 S).2.2.2.2.2.1 (gx25 S).2.2.2.2.2.2.1 (gx25 S).2.2.2.2.2.2.2.1 (gx25 S).2.2.2.2.2.2.2.2.1 (gx25 S).2.2.2.2.2.2.2.2.2.1 (gx25 S).2.2.2.2.2.2.2.2.2.2.1 (gx25 S).2.2.2.2.2.2.2.2.2.2.2 (gx26 S).1 (gx26 S).2.1 (gx26 S).2.2.1 (gx26 S).2.2.2.1 (gx26 S).2.2.2.2.1 (gx26 S).2.2.2.2.2.1 (gx26 S).2.2.2.2.2.2.1 (gx26 S).2.2.2.2.2.2.2.1 (gx26 S).2.2.2.2.2.2.2.2.1 (gx26 S).2.2.2.2.2.2.2.2.2.1 (gx26 S).2.2.2.2.2.2.2.2.2.2.1 (gx26 S).2.2.2.2.2.2.2.2.2.2.2 (gx27 S).1 (gx27 S).2.1 (gx27 S).2.2.1 (gx27 S).2.2.2.1 (gx27 S).2.2.2.2.1 (gx27 S).2.2.2.2.2.1 (gx27 S).2.2.2.2.2.2.1 (gx27 S).2.2.2.2.2.2.2.1 (gx27 S).2.2.2.2.2.2.2.2.1 (gx27 S).2.2.2.2.2.2.2.2.2.1 (gx27 S).2.2.2.2.2.2.2.2.2.2.1 (gx27 S).2.2.2.2.2.2.2.2.2.2.2 x_E (gx28 S).2.1 (gx28 S).2.2.1 (gx28 S).2.2.2.1 i1_x (gx28 S).2.2.2.2.2.1 (gx28 S).2.2.2.2.2.2.1 (gx28 S).2.2.2.2.2.2.2.1 (gx28 S).2.2.2.2.2.2.2.2.1 (gx28 S).2.2.2.2.2.2.2.2.2.1 (gx28 S).2.2.2.2.2.2.2.2.2.2.1 i1_lI y_i1_lI i1_ce i1_co i1_fi i1_fe (gx29 S).2.2.1 (gx29 S).2.2.2.1 (gx29 S).2.2.2.2.1 (gx29 S).2.2.2.2.2.1 (gx29 S).2.2.2.2.2.2.1 i5_x (gx29 S).2.2.2.2.2.2.2.2.1 (gx29 S).2.2.2.2.2.2.2.2.2.1 (gx29 S).2.2.2.2.2.2.2.2.2.2.1 (gx29 S).2.2.2.2.2.2.2.2.2.2.2 (gx30 S).1 (gx30 S).2.1 i5_lI y_i5_lI i5_ce i5_co i5_fi i5_fe (gx30 S).2.2.2.2.2.1 (gx30 S).2.2.2.2.2.2.1 (gx30 S).2.2.2.2.2.2.2.1 (gx30 S).2.2.2.2.2.2.2.2.1 (gx30 S).2.2.2.2.2.2.2.2.2.1 i6_x (gx30 S).2.2.2.2.2.2.2.2.2.2.2 (gx31 S).1 (gx31 S).2.1 (gx31 S).2.2.1 (gx31 S).2.2.2.1 (gx31 S).2.2.2.2.1 i6_lI y_i6_lI i6_ce i6_co i6_fi i6_fe (gx31 S).2.2.2.2.2.2.2.2.1 (gx31 S).2.2.2.2.2.2.2.2.2.1 (gx31 S).2.2.2.2.2.2.2.2.2.2.1 (gx31 S).2.2.2.2.2.2.2.2.2.2.2 (gx32 S).1 (gx32 S).2.1 i7_x (gx32 S).2.2.2.1 (gx32 S).2.2.2.2.1 (gx32 S).2.2.2.2.2.1 (gx32 S).2.2.2.2.2.2.1 (gx32 S).2.2.2.2.2.2.2.1 (gx32 S).2.2.2.2.2.2.2.2.1 i7_lI y_i7_lI i7_ce i7_co i7_fi i7_fe (gx33 S).1 (gx33 S).2.1 (gx33 S).2.2.1 (gx33 S).2.2.2.1 (gx33 S).2.2.2.2.1 i8_x (gx33 S).2.2.2.2.2.2.1 (gx33 S).2.2.2.2.2.2.2.1 (gx33 S).2.2.2.2.2.2.2.2.1 (gx33 S).2.2.2.2.2.2.2.2.2.1 (gx33 S).2.2.2.2.2.2.2.2.2.2.1 (gx33 S).2.2.2.2.2.2.2.2.2.2.2 i8_lI y_i8_lI i8_ce i8_co i8_fi i8_fe (gx34 S).2.2.2.1 (gx34 S).2.2.2.2.1 (gx34 S).2.2.2.2.2.1 (gx34 S).2.2.2.2.2.2.1 (gx34 S).2.2.2.2.2.2.2.1 (gx34 S).2.2.2.2.2.2.2.2.1 (gx34 S).2.2.2.2.2.2.2.2.2.1 (gx34 S).2.2.2.2.2.2.2.2.2.2.1 (gx34 S).2.2.2.2.2.2.2.2.2.2.2 (gx35 S).1 (gx35 S).2.1 (gx35 S).2.2.1 (gx35 S).2.2.2.1 (gx35 S).2.2.2.2 tbl z_tbl (S.empty _ (mem_at (i := 0) rfl)) (S.out _ (mem_at (i := 0) rfl)) (by kernel_rfl)
end Sc
open PySem PySem.W PySem.Calls PyProof.Rows
theorem PySem.Challenge.cw_smallcourt_k51_whole_orders_found_out_holds : PySem.Challenge.rw_smallcourt_k51_whole_orders_found_out.Holds := by
  w_on; o_law
  refine HandSHeadRun.head_any (r := Sc.theRow) (q := view Sc.theRow.prog [Sc.lawI]) (H := Sc.hk) (ob := Sc.ob) (M := 9000) (loose := Sc.names) (d := HandSHeadRun.topDef Sc.theRow.prog Sc.lawI) (kwd := []) Sc.ob_eq (by kernel_rfl) (fun s => by kernel_rfl) Sc.run (by kernel_rfl) (by kernel_rfl) (by kernel_rfl) (by rfl) (by first | assumption | decide +kernel) (by decide +kernel) ⟨rfl, rfl, rfl, rfl, rfl, by decide +kernel⟩ ?hw ?hc
  case hw => w_witness2
  case hc =>
    refine LamX.walk_ofTsE (l := Sc.theLaw) (n := 63) (k := 38) (CX := fun _ => L2.CX0) (x := "_law_script") rfl (by decide) (by kernel_rfl) ⟨rfl, by decide, by decide⟩ ?F (fun _ _ _ _ _ z => z)
    intro w mg fa h Y G hmg0
    obtain ⟨K, KX, c⟩ := Y
    have hmg : mg ("law" : PySem.Str) = some (.ref fa) := by
      have e : (HandSHeadRun.topDef Sc.theRow.prog Sc.lawI).name = ("law" : PySem.Str) := by kernel_rfl
      rw [← e]
      exact hmg0
    exact ⟨K, KX, Sc.all_y KX G hmg c⟩
