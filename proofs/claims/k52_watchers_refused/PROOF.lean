import PyProof.Rows.All
import Wide.All
import OpenK.AllK
import Wide.FinOn
import KE.GoesMore
import HandS.Iter
import KE.KExcSuper
import HandS.Nested
import HandS.ExcInit
import HandS.FStr
import HandS.ForMost
import HandS.ForExc
import HandS.EndTab
import HandS.IsInst
import HandS.SetFor
import HandS.ExcIs
import HandS.ExcField
import HandS.TupAny
import HandS.Wide
import HandS.WideBits
import HandS.Walk
import HandS.Deep
import KE.KExcIs
import HandS.ReCall
import HandS.Strs
import PySem.Challenge.RW_smallcourt_k52_watchers_refused
import HandS.Property
import HandS.NamedTupGet
import HandS.More
import HandS.SlotsOwn
import KE.KOpsOwn
import KE.KCallOwn
import HandS.WordsExc
import OpenK.KMeth
import HandS.List
import KE.SortData
import PyProof.AutoSeq1
import HandS.Set
import HandS.TupSets
import PyProof.Rows.SortShellAny
import HandS.Lambda
import KE.KDflt
import PyProof.EqKinds
import PyProof.NeKinds
import HandS.Head2
import HandS.Head3
import HandS.HeadHook4
import HandS.HeadWalk
set_option Elab.async false
set_option linter.all false
set_option maxRecDepth 100000
set_option maxHeartbeats 4000000
namespace Sc
open PySem PySem.Spec PyProof.Rows L2 NdefX
def topS (i : Nat) : Stmt := PySem.Challenge.pw_smallcourt_k52_watchers_refused.main.body.getD i (.Pass ⟨0, 0, 0, 0⟩)
abbrev s_is_name : Stmt := topS 18
abbrev s_rises : Stmt := topS 20
abbrev s__law_mix : Stmt := topS 72
abbrev s__law_next : Stmt := topS 73
abbrev s_check_part : Stmt := topS 46
abbrev s_merged : Stmt := topS 47
abbrev s_Condition___init__ : Stmt := (inClass (topS 45) 0)
abbrev s_Condition_holding : Stmt := (inClass (topS 45) 1)
abbrev s_Condition_failing : Stmt := (inClass (topS 45) 2)
abbrev s_Condition_names : Stmt := (inClass (topS 45) 3)
abbrev s_Condition___len__ : Stmt := (inClass (topS 45) 5)
abbrev s_Condition___call__ : Stmt := (inClass (topS 45) 4)
abbrev s_Condition_within : Stmt := (inClass (topS 45) 8)
abbrev s_Condition___eq__ : Stmt := (inClass (topS 45) 7)
abbrev s_Condition___and__ : Stmt := (inClass (topS 45) 6)
abbrev s_nested : Stmt := topS 35
abbrev s_Rule___init__ : Stmt := (inClass (topS 33) 0)
abbrev s_Rule_name : Stmt := (inClass (topS 33) 1)
abbrev s_Rule_condition : Stmt := (inClass (topS 33) 2)
abbrev s_Rule_ruling : Stmt := (inClass (topS 33) 3)
abbrev s_Rule_exceptions : Stmt := (inClass (topS 33) 4)
abbrev s_Rule_depth : Stmt := (inClass (topS 33) 5)
abbrev s_check_rules : Stmt := topS 36
abbrev s_check_facts : Stmt := topS 23
abbrev s_check_case : Stmt := topS 24
abbrev s_Book___init__ : Stmt := (inClass (topS 34) 0)
abbrev s_Book_facts : Stmt := (inClass (topS 34) 1)
abbrev s_Book_rules : Stmt := (inClass (topS 34) 2)
abbrev s_Book_ruling : Stmt := (inClass (topS 34) 3)
abbrev s_Book___contains__ : Stmt := (inClass (topS 34) 7)
abbrev s_Book___getitem__ : Stmt := (inClass (topS 34) 8)
abbrev s_path_to : Stmt := topS 39
abbrev s_next_beside : Stmt := topS 40
abbrev s_up_to_first_met : Stmt := topS 27
abbrev s_steps : Stmt := topS 26
abbrev s_looked_into : Stmt := topS 28
abbrev s_orders_of : Stmt := topS 67
abbrev s_ruling_within : Stmt := topS 68
abbrev s_ruling_by : Stmt := topS 69
abbrev s_Book___call__ : Stmt := (inClass (topS 34) 12)
abbrev s_way : Stmt := topS 60
abbrev s_decider : Stmt := topS 58
abbrev s_outcome : Stmt := topS 59
abbrev s_small_conditions : Stmt := topS 66
abbrev s_replaced : Stmt := topS 37
abbrev s_is_new : Stmt := topS 56
abbrev s_is_amendment : Stmt := topS 55
abbrev s_swapped : Stmt := topS 42
abbrev s_Book___sub__ : Stmt := (inClass (topS 34) 10)
abbrev s_amended_rule : Stmt := topS 54
abbrev s_amended_book : Stmt := topS 53
abbrev s_amended : Stmt := topS 52
abbrev s_check_word : Stmt := topS 19
abbrev s_check_left : Stmt := topS 70
abbrev s_ConditionWatcher___init__ : Stmt := (inClass (topS 64) 0)
abbrev s_ConditionWatcher_candidates : Stmt := (inClass (topS 64) 1)
abbrev s_ConditionWatcher_records : Stmt := (inClass (topS 64) 2)
abbrev s_ConditionWatcher__outcomes : Stmt := (inClass (topS 64) 7)
abbrev s_ConditionWatcher__accept : Stmt := (inClass (topS 64) 8)
abbrev s_ConditionWatcher_see : Stmt := (inClass (topS 64) 3)
abbrev s_ConditionWatcher_see_decider : Stmt := (inClass (topS 64) 4)
abbrev s_ConditionWatcher_possible : Stmt := (inClass (topS 64) 5)
abbrev s_OrderWatcher___init__ : Stmt := (inClass (topS 65) 0)
abbrev s_OrderWatcher_order_count : Stmt := (inClass (topS 65) 1)
abbrev s_OrderWatcher_records : Stmt := (inClass (topS 65) 3)
abbrev s_OrderWatcher_see : Stmt := (inClass (topS 65) 4)
abbrev s_OrderWatcher_sure : Stmt := (inClass (topS 65) 5)
abbrev s__law_word : Stmt := topS 74
abbrev s_law : Stmt := topS 75
abbrev nf_InvalidFacts (cc c : Addr) : NF := ⟨"__init__", "InvalidFacts.__init__", defArgs (inClass (topS 3) 0), defBody (inClass (topS 3) 0), defScope (inClass (topS 3) 0), [(("__class__" : Str), cc)], c⟩
abbrev nf_InvalidCase (cc c : Addr) : NF := ⟨"__init__", "InvalidCase.__init__", defArgs (inClass (topS 4) 0), defBody (inClass (topS 4) 0), defScope (inClass (topS 4) 0), [(("__class__" : Str), cc)], c⟩
abbrev nf_InvalidCondition (cc c : Addr) : NF := ⟨"__init__", "InvalidCondition.__init__", defArgs (inClass (topS 5) 0), defBody (inClass (topS 5) 0), defScope (inClass (topS 5) 0), [(("__class__" : Str), cc)], c⟩
abbrev nf_InvalidRule (cc c : Addr) : NF := ⟨"__init__", "InvalidRule.__init__", defArgs (inClass (topS 7) 0), defBody (inClass (topS 7) 0), defScope (inClass (topS 7) 0), [(("__class__" : Str), cc)], c⟩
abbrev nf_InvalidBook (cc c : Addr) : NF := ⟨"__init__", "InvalidBook.__init__", defArgs (inClass (topS 8) 0), defBody (inClass (topS 8) 0), defScope (inClass (topS 8) 0), [(("__class__" : Str), cc)], c⟩
def letters : Str := "abcdefghijklmnopqrstuvwxyz"
end Sc
namespace HeadY
open PySem PySem.Spec PyProof.Rows L2 He
/-! ### addresses -/
def recF (K : PySem.W.Frag) (p : Addr) : Addr := match PySem.W.recIn K p "property" with
  | some (.ref g :: _) => g
  | _ => 0
def codA (K : PySem.W.Frag) (f : Addr) : Addr := match K.lookup f with
  | some ⟨_, _, .func fd, _⟩ => (match fd.code with
    | .ref c => c
    | _ => 0)
  | _ => 0
def cloA (K : PySem.W.Frag) (f : Addr) : Addr := match K.lookup f with
  | some ⟨_, _, .func fd, _⟩ => (match fd.closure with
    | (_, c) :: _ => c
    | _ => 0)
  | _ => 0
def mroT (K : PySem.W.Frag) (C : Addr) : List Value := match K.lookup C with
  | some ⟨_, _, .cls cd, _⟩ => cd.mro.tail
  | _ => []
/-! ### functions -/
abbrev FnY : Type := Option (Str × Str × Arguments × FuncBody × Scope)
def fnY (K : PySem.W.Frag) (a : Addr) : FnY := match K.lookup a with
  | some ⟨_, _, .func fd, _⟩ => some (fd.name, fd.qualname, fd.params, fd.body, fd.scope)
  | _ => none
structure FnDY where
  at_ : PySem.W.Frag → Addr
  name : Str
  qual : Str
  params : Arguments
  body : List Stmt
  scope : Scope
def FnDY.val (d : FnDY) : FnY := some (d.name, d.qual, d.params, .stmts d.body, d.scope)
def fnB (K : PySem.W.Frag) (a : Addr) (q : Str) : Bool := match K.lookup a with
  | some ⟨_, _, .func fd, _⟩ => PySem.W.codeIn K (.ref (codA K a)) q && (decide (fd.code = .ref (codA K a)) && (decide (fd.globals = mainGlobals) && (fd.closure.isEmpty && (decide (fd.defaults = .none) && decide (fd.builtins = builtinsNs)))))
  | _ => false
def fnBC (K : PySem.W.Frag) (a : Addr) (q : Str) : Bool := match K.lookup a with
  | some ⟨_, _, .func fd, _⟩ => PySem.W.codeIn K (.ref (codA K a)) q && (decide (fd.code = .ref (codA K a)) && (decide (fd.globals = mainGlobals) && (decide (fd.closure = [(("__class__" : Str), cloA K a)]) && (decide (fd.defaults = .none) && decide (fd.builtins = builtinsNs)))))
  | _ => false
theorem fn_ok {K : PySem.W.Frag} {a : Addr} {n q : Str} {ps : Arguments} {b : List Stmt} {sc : Scope} (e : fnY K a = some (n, q, ps, .stmts b, sc)) (c : fnB K a q = true) :
    ∃ oc od kV dc pm an ct sl, K.lookup a = some ⟨oc, od, .func (PySem.W.fnOf n q ps b sc .none kV dc pm an (.ref (codA K a)) ct), sl⟩ ∧ PySem.W.codeIn K (.ref (codA K a)) q = true := by
  unfold fnB at c
  unfold fnY at e
  cases z : K.lookup a with
  | none => rw [z] at c; cases c
  | some o =>
    obtain ⟨oc, od, dt, sl⟩ := o
    rw [z] at c e
    cases dt with
    | func fd =>
      obtain ⟨n1, n2, n3, n4, n5, n6, n7, n8, n9, n10, n11, n12, n13, n14, n15⟩ := fd
      have e2 : (some (n1, n2, n3, n4, n5) : FnY) = some (n, q, ps, .stmts b, sc) := e
      simp only [Option.some.injEq, Prod.mk.injEq] at e2
      obtain ⟨h1, h2, h3, h4, h5⟩ := e2
      obtain ⟨c1, c⟩ := ba c
      obtain ⟨c2, c⟩ := ba c
      obtain ⟨c3, c⟩ := ba c
      obtain ⟨c4, c⟩ := ba c
      obtain ⟨c5, c6⟩ := ba c
      have c2 : n13 = _ := of_decide_eq_true c2
      have c3 : n6 = _ := of_decide_eq_true c3
      have c4 : n7 = [] := List.isEmpty_iff.mp c4
      have c5 : n8 = _ := of_decide_eq_true c5
      have c6 : n15 = _ := of_decide_eq_true c6
      exact ⟨oc, od, n9, n10, n11, n12, n14, sl, by rw [h1, h2, h3, h4, h5, c2, c3, c4, c5, c6], c1⟩
    | _ => cases c
theorem fn_okC {K : PySem.W.Frag} {a : Addr} {n q : Str} {ps : Arguments} {b : List Stmt} {sc : Scope} (e : fnY K a = some (n, q, ps, .stmts b, sc)) (c : fnBC K a q = true) :
    ∃ oc od kV dc pm an ct sl, K.lookup a = some ⟨oc, od, .func (PySem.W.fnX n q ps b sc [(("__class__" : Str), cloA K a)] .none kV dc pm an (.ref (codA K a)) ct), sl⟩ ∧ PySem.W.codeIn K (.ref (codA K a)) q = true := by
  unfold fnBC at c
  unfold fnY at e
  cases z : K.lookup a with
  | none => rw [z] at c; cases c
  | some o =>
    obtain ⟨oc, od, dt, sl⟩ := o
    rw [z] at c e
    cases dt with
    | func fd =>
      obtain ⟨n1, n2, n3, n4, n5, n6, n7, n8, n9, n10, n11, n12, n13, n14, n15⟩ := fd
      have e2 : (some (n1, n2, n3, n4, n5) : FnY) = some (n, q, ps, .stmts b, sc) := e
      simp only [Option.some.injEq, Prod.mk.injEq] at e2
      obtain ⟨h1, h2, h3, h4, h5⟩ := e2
      obtain ⟨c1, c⟩ := ba c
      obtain ⟨c2, c⟩ := ba c
      obtain ⟨c3, c⟩ := ba c
      obtain ⟨c4, c⟩ := ba c
      obtain ⟨c5, c6⟩ := ba c
      have c2 : n13 = _ := of_decide_eq_true c2
      have c3 : n6 = _ := of_decide_eq_true c3
      have c4 : n7 = _ := of_decide_eq_true c4
      have c5 : n8 = _ := of_decide_eq_true c5
      have c6 : n15 = _ := of_decide_eq_true c6
      exact ⟨oc, od, n9, n10, n11, n12, n14, sl, by rw [h1, h2, h3, h4, h5, c2, c3, c4, c5, c6], c1⟩
    | _ => cases c
/-! ### shapes -/
def intB (K : PySem.W.Frag) (x : Str) (i : Int) : Bool := match PySem.W.nsIn K mainGlobals x with
  | some (some (.int j _)) => decide (j = i)
  | _ => false
theorem int_is {K : PySem.W.Frag} {x : Str} {i : Int} (c : intB K x i = true) : ∃ t, PySem.W.nsIn K mainGlobals x = some (some (.int i t)) := by
  unfold intB at c
  split at c
  · rename_i j t e
    exact ⟨t, by rw [e, of_decide_eq_true c]⟩
  · cases c
def strB (K : PySem.W.Frag) (x s : Str) : Bool := match PySem.W.nsIn K mainGlobals x with
  | some (some (.str j _)) => decide (j = s)
  | _ => false
theorem str_is {K : PySem.W.Frag} {x s : Str} (c : strB K x s = true) : ∃ t, PySem.W.nsIn K mainGlobals x = some (some (.str s t)) := by
  unfold strB at c
  split at c
  · rename_i j t e
    exact ⟨t, by rw [e, of_decide_eq_true c]⟩
  · cases c
def recB (K : PySem.W.Frag) (p : Addr) : Bool := match PySem.W.recIn K p "property" with
  | some (.ref g :: _) => decide (g = recF K p)
  | _ => false
theorem rec_is {K : PySem.W.Frag} {p : Addr} (c : recB K p = true) : ∃ rs, PySem.W.recIn K p "property" = some (.ref (recF K p) :: rs) := by
  unfold recB at c
  split at c
  · rename_i g rs e
    exact ⟨rs, by rw [e, of_decide_eq_true c]⟩
  · cases c
theorem some_is {α : Type} {o : Option α} (c : o.isSome = true) : ∃ x, o = some x := Option.isSome_iff_exists.mp c
def sixB (id : String) : List (Option Value) → Bool
  | [_, _, _, _, some (.builtin b), _] => decide (b = id)
  | _ => false
theorem six_is {id : String} {l : List (Option Value)} (c : sixB id l = true) : ∃ x0 x1 x2 x3 x5, l = [x0, x1, x2, x3, some (.builtin id), x5] := by
  unfold sixB at c
  split at c
  · have c := of_decide_eq_true c
    exact ⟨_, _, _, _, _, by rw [c]⟩
  · cases c
def excB (K : PySem.W.Frag) (C : Addr) (id : String) : Bool := match K.lookup C with
  | some ⟨.type t, _, .cls cd, sl⟩ => decide (t = "type") && (decide (cd.mro = .ref C :: mroT K C) && (cd.hasDict && (!cd.hasDel && sixB id sl.toList)))
  | _ => false
theorem exc_is {K : PySem.W.Frag} {C : Addr} {id : String} (c : excB K C id = true) :
    ∃ nm q N bs sn su ab col dd x0 x1 x2 x3 x5, K.lookup C = some (excClassObj nm q C N bs (mroT K C) true sn su ab col dd x0 x1 x2 x3 x5 id) := by
  unfold excB at c
  cases z : K.lookup C with
  | none => rw [z] at c; cases c
  | some o =>
    obtain ⟨oc, od, dt, ⟨sl⟩⟩ := o
    rw [z] at c
    cases oc with
    | type t =>
      cases dt with
      | cls cd =>
        obtain ⟨n1, n2, n3, n4, n5, n6, n7, n8, n9, n10, n11⟩ := cd
        obtain ⟨c1, c⟩ := ba c
        obtain ⟨c2, c⟩ := ba c
        obtain ⟨c3, c⟩ := ba c
        obtain ⟨c4, c5⟩ := ba c
        have c1 : t = _ := of_decide_eq_true c1
        have c2 : n3 = _ := of_decide_eq_true c2
        have c3 : n6 = true := c3
        have c4 : n11 = false := by
          cases n11 with
          | false => rfl
          | true => cases c4
        obtain ⟨x0, x1, x2, x3, x5, c5⟩ := six_is (l := sl) c5
        exact ⟨n1, n5, n4, n2, n7, n8, n9, n10, od, x0, x1, x2, x3, x5, by rw [c1, c2, c3, c4, c5]⟩
      | _ => cases c
    | _ => cases dt <;> cases c
def cellB (K : PySem.W.Frag) (c E : Addr) : Bool := match K.lookup c with
  | some ⟨_, _, .cell (some (.ref a)), _⟩ => decide (a = E)
  | _ => false
theorem cell_is {K : PySem.W.Frag} {c E : Addr} (e : cellB K c E = true) : ∃ cl cd sl, K.lookup c = some ⟨cl, cd, .cell (some (.ref E)), sl⟩ := by
  unfold cellB at e
  split at e
  · rename_i a _ z
    exact ⟨_, _, _, by rw [z, of_decide_eq_true e]⟩
  · cases e
def fileB (K : PySem.W.Frag) (c : Addr) (f : Str) : Bool := match K.lookup c with
  | some ⟨_, _, .fields vs, _⟩ => (match (vs[2]? : Option Value) with
    | some (.str x _) => f == x
    | _ => false)
  | _ => false
theorem file_is {K : PySem.W.Frag} {c : Addr} {f : Str} (e : fileB K c f = true) : ∃ cl cd vs sl x t, K.lookup c = some ⟨cl, cd, .fields vs, sl⟩ ∧ vs[2]? = some (.str x t) ∧ (f == x) = true := by
  unfold fileB at e
  split at e
  · rename_i vs _ z
    split at e
    · rename_i x t y
      exact ⟨_, _, _, _, x, t, z, y, e⟩
    · cases e
  · cases e
def strsB : List Value → List Str → Bool
  | [], [] => true
  | .str x _ :: r, s :: ss => decide (x = s) && strsB r ss
  | _, _ => false
theorem strs_is : ∀ {l : List Value} {ss : List Str}, strsB l ss = true → ∃ us : List Tok, us.length = ss.length ∧ l = List.zipWith Value.str ss us
  | [], [], _ => ⟨[], rfl, rfl⟩
  | [], s :: ss, h => by cases h
  | v :: r, [], h => by cases v <;> cases h
  | v :: r, s :: ss, h => by
    cases v with
    | str x t =>
      obtain ⟨h1, h2⟩ := ba h
      obtain ⟨us, e1, e2⟩ := strs_is h2
      refine ⟨t :: us, by simp [e1], ?_⟩
      have h1 : x = s := of_decide_eq_true h1
      rw [h1, e2]
      rfl
    | _ => cases h
def tupB (K : PySem.W.Frag) (a : Addr) (ss : List Str) : Bool := match K.lookup a with
  | some ⟨.type c, _, .seq its _, _⟩ => decide (c = "tuple") && strsB its.toList ss
  | _ => false
theorem tup_is {K : PySem.W.Frag} {a : Addr} {ss : List Str} (e : tupB K a ss = true) : ∃ od n sl, ∃ us : List Tok, us.length = ss.length ∧ K.lookup a = some ⟨.type "tuple", od, .seq ⟨List.zipWith Value.str ss us⟩ n, sl⟩ := by
  unfold tupB at e
  cases z : K.lookup a with
  | none => rw [z] at e; cases e
  | some o =>
    obtain ⟨oc, od, dt, sl⟩ := o
    rw [z] at e
    cases oc with
    | type c =>
      cases dt with
      | seq its n =>
        obtain ⟨⟨its⟩⟩ : Nonempty { x : Array Value // x = its } := ⟨⟨its, rfl⟩⟩
        obtain ⟨e1, e2⟩ := ba e
        obtain ⟨us, h1, h2⟩ := strs_is e2
        have e1 : c = "tuple" := of_decide_eq_true e1
        refine ⟨od, n, sl, us, h1, ?_⟩
        rw [e1, ← h2]
      | _ => cases e
    | _ => cases dt <;> cases e
theorem len1 {α : Type} {us : List α} (h : us.length = 1) : ∃ a, us = [a] := by
  match us, h with
  | [a], _ => exact ⟨a, rfl⟩
theorem len2 {α : Type} {us : List α} (h : us.length = 2) : ∃ a b, us = [a, b] := by
  match us, h with
  | [a, b], _ => exact ⟨a, b, rfl⟩
theorem len3 {α : Type} {us : List α} (h : us.length = 3) : ∃ a b c, us = [a, b, c] := by
  match us, h with
  | [a, b, c], _ => exact ⟨a, b, c, rfl⟩
theorem len4 {α : Type} {us : List α} (h : us.length = 4) : ∃ a b c d, us = [a, b, c, d] := by
  match us, h with
  | [a, b, c, d], _ => exact ⟨a, b, c, d, rfl⟩
theorem len5 {α : Type} {us : List α} (h : us.length = 5) : ∃ a b c d e, us = [a, b, c, d, e] := by
  match us, h with
  | [a, b, c, d, e], _ => exact ⟨a, b, c, d, e, rfl⟩
theorem tbl_is {K : PySem.W.Frag} {c T : Addr} (e : PySem.W.codeHdIn K c T = true) : ∃ o, K.lookup c = some o ∧ PySem.W.codeHdIn [(c, o)] c T = true := by
  cases z : K.lookup c with
  | none =>
    unfold PySem.W.codeHdIn at e
    rw [z] at e
    cases e
  | some o =>
    refine ⟨o, rfl, ?_⟩
    unfold PySem.W.codeHdIn at e ⊢
    have q : ([(c, o)] : PySem.W.Frag).lookup c = some o := by simp [List.lookup]
    rw [q]
    rw [z] at e
    exact e
/-! ### the Hook -/
abbrev AlY : Type := List FnY × Bool
structure SaysY (fn : List FnDY) (tf : List (PySem.W.Frag → Addr)) (ex : PySem.W.Frag → Bool) (h : Heap) (K : PySem.W.Frag) : Prop where
  fns : fn.map (fun d => fnY K (d.at_ K)) = fn.map FnDY.val
  more : ex K = true
  hd : ∀ p ∈ tf, PySem.W.codeHdIn K (p K) (tabOf K (p K)) = true
  out : ∀ p ∈ tf, K.lookup (tabOf K (p K)) = none
  empty : ∀ p ∈ tf, h.get? (tabOf K (p K)) = some { cls := .none, data := .fields #[] }
def tabsY (g : Addr → Option Obj) (tf : List (PySem.W.Frag → Addr)) (K : PySem.W.Frag) : Bool := tf.all fun p => PySem.W.codeHdIn K (p K) (tabOf K (p K)) && (match g (tabOf K (p K)) with
  | some o => emptyTab o
  | none => false)
def obsY (as : List Addr) (fn : List FnDY) (tf : List (PySem.W.Frag → Addr)) (ex : PySem.W.Frag → Bool) (g : Addr → Option Obj) : AlY :=
  (fun K : PySem.W.Frag => (fn.map (fun d => fnY K (d.at_ K)), ex K && tabsY g tf K)) (frT g as)
def valY (fn : List FnDY) : AlY := (fn.map FnDY.val, true)
theorem saysY_of {as : List Addr} {fn : List FnDY} {tf : List (PySem.W.Frag → Addr)} {ex : PySem.W.Frag → Bool} {h : Heap} (e : obsY as fn tf ex h.get? = valY fn) : SaysY fn tf ex h (frT h.get? as) := by
  have e1 : fn.map (fun d => fnY (frT h.get? as) (d.at_ (frT h.get? as))) = fn.map FnDY.val := congrArg (fun z : AlY => z.1) e
  have e2 : (ex (frT h.get? as) && tabsY h.get? tf (frT h.get? as)) = true := congrArg (fun z : AlY => z.2) e
  obtain ⟨h1, h2⟩ := ba e2
  have key : ∀ p ∈ tf, PySem.W.codeHdIn (frT h.get? as) (p (frT h.get? as)) (tabOf (frT h.get? as) (p (frT h.get? as))) = true ∧ ∃ o, h.get? (tabOf (frT h.get? as) (p (frT h.get? as))) = some o ∧ emptyTab o = true := fun p hp => by
    obtain ⟨h3, h4⟩ := ba (List.all_eq_true.mp h2 p hp)
    refine ⟨h3, ?_⟩
    split at h4
    · rename_i o q
      exact ⟨o, q, h4⟩
    · cases h4
  exact ⟨e1, h1, fun p hp => (key p hp).1, fun p hp => by
    obtain ⟨_, o, q, z⟩ := key p hp
    exact frT_none q z, fun p hp => by
    obtain ⟨_, o, q, z⟩ := key p hp
    rw [q, emptyTab_eq z]⟩
def hookY (as : List Addr) (fn : List FnDY) (tf : List (PySem.W.Frag → Addr)) (ex : PySem.W.Frag → Bool) : PySem.W.Hook where
  α := AlY
  obs := fun s => obsY as fn tf ex s.heap.get?
  val := fun _ => valY fn
  says := fun _ h => ∃ K : PySem.W.Frag, K.In h ∧ SaysY fn tf ex h K
  of := fun _ _ e => ⟨_, frT_in, saysY_of e⟩
  keeps := fun _ _ _ ⟨K, hK, c⟩ k => ⟨K, PySem.W.Frag.In.keeps hK k, ⟨c.fns, c.more, c.hd, c.out, fun p hp => k _ _ (c.empty p hp)⟩⟩
theorem obsY_eq {as : List Addr} {fn : List FnDY} {tf : List (PySem.W.Frag → Addr)} {ex : PySem.W.Frag → Bool} {g : Addr → Option Obj} {s : Shared} (h : ∀ a, g a = s.heap.get? a) : obsY as fn tf ex g = (hookY as fn tf ex).obs s := by
  have e : g = s.heap.get? := funext h
  rw [e] <;> rfl
theorem map_join {α β γ δ ε : Type} {X : Option α} {a : α → β} {b : α → γ} {c : α → δ} {d : α → ε} {x : β} {y : γ} {z : δ} {u : ε} (h1 : X.map (fun s => (a s, b s, c s)) = some (x, y, z)) (h2 : X.map (fun s => (a s, b s, d s)) = some (x, y, u)) : ∃ s, X = some s ∧ a s = x ∧ b s = y ∧ c s = z ∧ d s = u := by
  cases X with
  | none => cases h1
  | some s =>
    have e1 : (a s, b s, c s) = (x, y, z) := Option.some.inj h1
    have e2 : (a s, b s, d s) = (x, y, u) := Option.some.inj h2
    simp only [Prod.mk.injEq] at e1 e2
    exact ⟨s, rfl, e1.1, e1.2.1, e1.2.2, e2.2.2⟩
/-- two runs, two parts of what is looked at -/
theorem run_join {r : PySem.W.OpenRow} {q : Program} {M : Nat} {loose : List Str} {w : World} {as : List Addr} {fn1 fn2 : List FnDY} {tf1 tf2 : List (PySem.W.Frag → Addr)} {ex1 ex2 : PySem.W.Frag → Bool}
    (h1 : HandSHeadRun.RunEq r q (hookY as fn1 tf1 ex1) (fun s => obsY as fn1 tf1 ex1 (HandSHeadRun.getT s)) M loose w) (h2 : HandSHeadRun.RunEq r q (hookY as fn2 tf2 ex2) (fun s => obsY as fn2 tf2 ex2 (HandSHeadRun.getT s)) M loose w) :
    HandSHeadRun.RunEq r q (hookY as (fn1 ++ fn2) (tf1 ++ tf2) (fun K => ex1 K && ex2 K)) (fun s => obsY as (fn1 ++ fn2) (tf1 ++ tf2) (fun K => ex1 K && ex2 K) (HandSHeadRun.getT s)) M loose w := by
  intro os
  obtain ⟨s, e, e1, e2, e3, e4⟩ := map_join (h1 os) (h2 os)
  rw [e]
  have e3 : obsY as fn1 tf1 ex1 (HandSHeadRun.getT s) = valY fn1 := e3
  have e4 : obsY as fn2 tf2 ex2 (HandSHeadRun.getT s) = valY fn2 := e4
  have a1 : fn1.map (fun d => fnY (frT (HandSHeadRun.getT s) as) (d.at_ (frT (HandSHeadRun.getT s) as))) = fn1.map FnDY.val := congrArg (fun z : AlY => z.1) e3
  have a2 : (ex1 (frT (HandSHeadRun.getT s) as) && tabsY (HandSHeadRun.getT s) tf1 (frT (HandSHeadRun.getT s) as)) = true := congrArg (fun z : AlY => z.2) e3
  have b1 : fn2.map (fun d => fnY (frT (HandSHeadRun.getT s) as) (d.at_ (frT (HandSHeadRun.getT s) as))) = fn2.map FnDY.val := congrArg (fun z : AlY => z.1) e4
  have b2 : (ex2 (frT (HandSHeadRun.getT s) as) && tabsY (HandSHeadRun.getT s) tf2 (frT (HandSHeadRun.getT s) as)) = true := congrArg (fun z : AlY => z.2) e4
  obtain ⟨a2, a3⟩ := ba a2
  obtain ⟨b2, b3⟩ := ba b2
  have c : obsY as (fn1 ++ fn2) (tf1 ++ tf2) (fun K => ex1 K && ex2 K) (HandSHeadRun.getT s) = valY (fn1 ++ fn2) := by
    show ((fn1 ++ fn2).map (fun d => fnY (frT (HandSHeadRun.getT s) as) (d.at_ (frT (HandSHeadRun.getT s) as))), (ex1 (frT (HandSHeadRun.getT s) as) && ex2 (frT (HandSHeadRun.getT s) as)) && tabsY (HandSHeadRun.getT s) (tf1 ++ tf2) (frT (HandSHeadRun.getT s) as)) = ((fn1 ++ fn2).map FnDY.val, true)
    have t : tabsY (HandSHeadRun.getT s) (tf1 ++ tf2) (frT (HandSHeadRun.getT s) as) = true := by
      unfold tabsY at a3 b3 ⊢
      rw [List.all_append, a3, b3] <;> rfl
    rw [List.map_append, List.map_append, a1, b1, a2, b2, t] <;> rfl
  show some (_, _, _) = some (_, _, _)
  rw [e1, e2]
  exact congrArg (fun z => some (true, PySem.W.openGood q loose, z)) c
/-- the same of a text with imports -/
theorem run_joinI {r : PySem.W.OpenRow} {q : Program} {M : Nat} {loose : List Str} {w : World} {as : List Addr} {fn1 fn2 : List FnDY} {tf1 tf2 : List (PySem.W.Frag → Addr)} {ex1 ex2 : PySem.W.Frag → Bool}
    (h1 : HandSHeadRun.RunEqI r q (hookY as fn1 tf1 ex1) (fun s => obsY as fn1 tf1 ex1 (HandSHeadRun.getT s)) M loose w) (h2 : HandSHeadRun.RunEqI r q (hookY as fn2 tf2 ex2) (fun s => obsY as fn2 tf2 ex2 (HandSHeadRun.getT s)) M loose w) :
    HandSHeadRun.RunEqI r q (hookY as (fn1 ++ fn2) (tf1 ++ tf2) (fun K => ex1 K && ex2 K)) (fun s => obsY as (fn1 ++ fn2) (tf1 ++ tf2) (fun K => ex1 K && ex2 K) (HandSHeadRun.getT s)) M loose w := by
  unfold HandSHeadRun.RunEqI at h1 h2 ⊢
  obtain ⟨⟨s0, s⟩, e, e1, e2, e3, e4⟩ := map_join h1 h2
  rw [e]
  have e3 : obsY as fn1 tf1 ex1 (HandSHeadRun.getT s) = valY fn1 := e3
  have e4 : obsY as fn2 tf2 ex2 (HandSHeadRun.getT s) = valY fn2 := e4
  have a1 : fn1.map (fun d => fnY (frT (HandSHeadRun.getT s) as) (d.at_ (frT (HandSHeadRun.getT s) as))) = fn1.map FnDY.val := congrArg (fun z : AlY => z.1) e3
  have a2 : (ex1 (frT (HandSHeadRun.getT s) as) && tabsY (HandSHeadRun.getT s) tf1 (frT (HandSHeadRun.getT s) as)) = true := congrArg (fun z : AlY => z.2) e3
  have b1 : fn2.map (fun d => fnY (frT (HandSHeadRun.getT s) as) (d.at_ (frT (HandSHeadRun.getT s) as))) = fn2.map FnDY.val := congrArg (fun z : AlY => z.1) e4
  have b2 : (ex2 (frT (HandSHeadRun.getT s) as) && tabsY (HandSHeadRun.getT s) tf2 (frT (HandSHeadRun.getT s) as)) = true := congrArg (fun z : AlY => z.2) e4
  obtain ⟨a2, a3⟩ := ba a2
  obtain ⟨b2, b3⟩ := ba b2
  have c : obsY as (fn1 ++ fn2) (tf1 ++ tf2) (fun K => ex1 K && ex2 K) (HandSHeadRun.getT s) = valY (fn1 ++ fn2) := by
    show ((fn1 ++ fn2).map (fun d => fnY (frT (HandSHeadRun.getT s) as) (d.at_ (frT (HandSHeadRun.getT s) as))), (ex1 (frT (HandSHeadRun.getT s) as) && ex2 (frT (HandSHeadRun.getT s) as)) && tabsY (HandSHeadRun.getT s) (tf1 ++ tf2) (frT (HandSHeadRun.getT s) as)) = ((fn1 ++ fn2).map FnDY.val, true)
    have t : tabsY (HandSHeadRun.getT s) (tf1 ++ tf2) (frT (HandSHeadRun.getT s) as) = true := by
      unfold tabsY at a3 b3 ⊢
      rw [List.all_append, a3, b3] <;> rfl
    rw [List.map_append, List.map_append, a1, b1, a2, b2, t] <;> rfl
  show some (_, _, _) = some (_, _, _)
  rw [e1, e2]
  exact congrArg (fun z => some (true, PySem.W.openGood q loose, z)) c
theorem SaysY.fn {fn : List FnDY} {tf : List (PySem.W.Frag → Addr)} {ex : PySem.W.Frag → Bool} {h : Heap} {K : PySem.W.Frag} (c : SaysY fn tf ex h K) (i : Nat) {d : FnDY} (e : fn[i]? = some d) : fnY K (d.at_ K) = some (d.name, d.qual, d.params, .stmts d.body, d.scope) := by
  have e2 : (fn.map fun d => fnY K (d.at_ K))[i]? = (fn.map FnDY.val)[i]? := by rw [c.fns]
  rw [List.getElem?_map, List.getElem?_map, e] at e2
  exact Option.some.inj e2
end HeadY
namespace Sc
open PySem PySem.Spec PyProof.Rows L2 HeadY He
abbrev theLaw : PySem.W.OpenLaw := PySem.Challenge.rw_smallcourt_k52_watchers_refused
abbrev theRow : PySem.W.OpenRow := PySem.W.OpenLaw.row PySem.Challenge.rw_smallcourt_k52_watchers_refused
def theFile : Str := theRow.prog.main.file
def Ad_f_is_name (K : PySem.W.Frag) : Addr := ga K "is_name"
def Ad_f_check_word (K : PySem.W.Frag) : Addr := ga K "check_word"
def Ad_f_rises (K : PySem.W.Frag) : Addr := ga K "rises"
def Ad_f_check_facts (K : PySem.W.Frag) : Addr := ga K "check_facts"
def Ad_f_check_case (K : PySem.W.Frag) : Addr := ga K "check_case"
def Ad_f_steps (K : PySem.W.Frag) : Addr := ga K "steps"
def Ad_f_up_to_first_met (K : PySem.W.Frag) : Addr := ga K "up_to_first_met"
def Ad_f_looked_into (K : PySem.W.Frag) : Addr := ga K "looked_into"
def Ad_f_nested (K : PySem.W.Frag) : Addr := ga K "nested"
def Ad_f_check_rules (K : PySem.W.Frag) : Addr := ga K "check_rules"
def Ad_f_replaced (K : PySem.W.Frag) : Addr := ga K "replaced"
def Ad_f_path_to (K : PySem.W.Frag) : Addr := ga K "path_to"
def Ad_f_next_beside (K : PySem.W.Frag) : Addr := ga K "next_beside"
def Ad_f_swapped (K : PySem.W.Frag) : Addr := ga K "swapped"
def Ad_f_check_part (K : PySem.W.Frag) : Addr := ga K "check_part"
def Ad_f_merged (K : PySem.W.Frag) : Addr := ga K "merged"
def Ad_f_amended (K : PySem.W.Frag) : Addr := ga K "amended"
def Ad_f_amended_book (K : PySem.W.Frag) : Addr := ga K "amended_book"
def Ad_f_amended_rule (K : PySem.W.Frag) : Addr := ga K "amended_rule"
def Ad_f_is_amendment (K : PySem.W.Frag) : Addr := ga K "is_amendment"
def Ad_f_is_new (K : PySem.W.Frag) : Addr := ga K "is_new"
def Ad_f_decider (K : PySem.W.Frag) : Addr := ga K "decider"
def Ad_f_outcome (K : PySem.W.Frag) : Addr := ga K "outcome"
def Ad_f_way (K : PySem.W.Frag) : Addr := ga K "way"
def Ad_f_small_conditions (K : PySem.W.Frag) : Addr := ga K "small_conditions"
def Ad_f_orders_of (K : PySem.W.Frag) : Addr := ga K "orders_of"
def Ad_f_check_left (K : PySem.W.Frag) : Addr := ga K "check_left"
def Ad_f__law_mix (K : PySem.W.Frag) : Addr := ga K "_law_mix"
def Ad_f__law_next (K : PySem.W.Frag) : Addr := ga K "_law_next"
def Ad_f__law_word (K : PySem.W.Frag) : Addr := ga K "_law_word"
def Ad_f_law (K : PySem.W.Frag) : Addr := ga K "law"
def Ad_CO (K : PySem.W.Frag) : Addr := ga K "Condition"
def Ad_RO (K : PySem.W.Frag) : Addr := ga K "Rule"
def Ad_BO (K : PySem.W.Frag) : Addr := ga K "Book"
def Ad_CW (K : PySem.W.Frag) : Addr := ga K "ConditionWatcher"
def Ad_OW (K : PySem.W.Frag) : Addr := ga K "OrderWatcher"
def Ad_w1A (K : PySem.W.Frag) : Addr := ga K "WORDS_WITH_NAME"
def Ad_w2A (K : PySem.W.Frag) : Addr := ga K "WORDS_WITH_MORE"
def Ad_w3A (K : PySem.W.Frag) : Addr := ga K "WORDS_FOR_BOOKS"
def Ad_CE (K : PySem.W.Frag) : Addr := ga K "CourtError"
def Ad_E0 (K : PySem.W.Frag) : Addr := ga K "Contradiction"
def Ad_E1 (K : PySem.W.Frag) : Addr := ga K "InvalidCase"
def Ad_E2 (K : PySem.W.Frag) : Addr := ga K "InvalidRuling"
def Ad_E3 (K : PySem.W.Frag) : Addr := ga K "TooMany"
def Ad_E4 (K : PySem.W.Frag) : Addr := ga K "UnknownRule"
def Ad_E5 (K : PySem.W.Frag) : Addr := ga K "NoNeighbor"
def Ad_E6 (K : PySem.W.Frag) : Addr := ga K "InvalidAmendment"
def Ad_E7 (K : PySem.W.Frag) : Addr := ga K "InvalidFacts"
def Ad_E8 (K : PySem.W.Frag) : Addr := ga K "InvalidCondition"
def Ad_E9 (K : PySem.W.Frag) : Addr := ga K "InvalidRule"
def Ad_E10 (K : PySem.W.Frag) : Addr := ga K "InvalidBook"
def Ad_f_mi (K : PySem.W.Frag) : Addr := ma K (Ad_CO K) "__init__"
def Ad_pp_mh (K : PySem.W.Frag) : Addr := ma K (Ad_CO K) "holding"
def Ad_pp_mf (K : PySem.W.Frag) : Addr := ma K (Ad_CO K) "failing"
def Ad_pp_mn (K : PySem.W.Frag) : Addr := ma K (Ad_CO K) "names"
def Ad_f_ri (K : PySem.W.Frag) : Addr := ma K (Ad_RO K) "__init__"
def Ad_pp_rn (K : PySem.W.Frag) : Addr := ma K (Ad_RO K) "name"
def Ad_pp_rc (K : PySem.W.Frag) : Addr := ma K (Ad_RO K) "condition"
def Ad_pp_rr (K : PySem.W.Frag) : Addr := ma K (Ad_RO K) "ruling"
def Ad_pp_re (K : PySem.W.Frag) : Addr := ma K (Ad_RO K) "exceptions"
def Ad_pp_rd (K : PySem.W.Frag) : Addr := ma K (Ad_RO K) "depth"
def Ad_f_bi (K : PySem.W.Frag) : Addr := ma K (Ad_BO K) "__init__"
def Ad_pp_bf (K : PySem.W.Frag) : Addr := ma K (Ad_BO K) "facts"
def Ad_pp_bs (K : PySem.W.Frag) : Addr := ma K (Ad_BO K) "rules"
def Ad_pp_br (K : PySem.W.Frag) : Addr := ma K (Ad_BO K) "ruling"
def Ad_f_wi (K : PySem.W.Frag) : Addr := ma K (Ad_CW K) "__init__"
def Ad_pp_wc (K : PySem.W.Frag) : Addr := ma K (Ad_CW K) "candidates"
def Ad_pp_wr (K : PySem.W.Frag) : Addr := ma K (Ad_CW K) "records"
def Ad_f_oi (K : PySem.W.Frag) : Addr := ma K (Ad_OW K) "__init__"
def Ad_pp_oc (K : PySem.W.Frag) : Addr := ma K (Ad_OW K) "order_count"
def Ad_pp_or (K : PySem.W.Frag) : Addr := ma K (Ad_OW K) "records"
def Ad_f_gc (K : PySem.W.Frag) : Addr := ma K (Ad_BO K) "__contains__"
def Ad_f_gi (K : PySem.W.Frag) : Addr := ma K (Ad_BO K) "__getitem__"
def Ad_f_gs (K : PySem.W.Frag) : Addr := ma K (Ad_BO K) "__sub__"
def Ad_f_bc (K : PySem.W.Frag) : Addr := ma K (Ad_BO K) "__call__"
def Ad_f_mc (K : PySem.W.Frag) : Addr := ma K (Ad_CO K) "__call__"
def Ad_f_wq (K : PySem.W.Frag) : Addr := ma K (Ad_CW K) "_outcomes"
def Ad_f_wa (K : PySem.W.Frag) : Addr := ma K (Ad_CW K) "_accept"
def Ad_f_ws (K : PySem.W.Frag) : Addr := ma K (Ad_CW K) "see"
def Ad_f_wd (K : PySem.W.Frag) : Addr := ma K (Ad_CW K) "see_decider"
def Ad_f_wp (K : PySem.W.Frag) : Addr := ma K (Ad_CW K) "possible"
def Ad_f_os (K : PySem.W.Frag) : Addr := ma K (Ad_OW K) "see"
def Ad_f_ou (K : PySem.W.Frag) : Addr := ma K (Ad_OW K) "sure"
def Ad_fIi1 (K : PySem.W.Frag) : Addr := ma K (Ad_E1 K) "__init__"
def Ad_fIi7 (K : PySem.W.Frag) : Addr := ma K (Ad_E7 K) "__init__"
def Ad_fIi8 (K : PySem.W.Frag) : Addr := ma K (Ad_E8 K) "__init__"
def Ad_fIi9 (K : PySem.W.Frag) : Addr := ma K (Ad_E9 K) "__init__"
def Ad_fIi10 (K : PySem.W.Frag) : Addr := ma K (Ad_E10 K) "__init__"
def Ad_f_mh (K : PySem.W.Frag) : Addr := recF K (Ad_pp_mh K)
def Ad_f_mf (K : PySem.W.Frag) : Addr := recF K (Ad_pp_mf K)
def Ad_f_mn (K : PySem.W.Frag) : Addr := recF K (Ad_pp_mn K)
def Ad_f_rn (K : PySem.W.Frag) : Addr := recF K (Ad_pp_rn K)
def Ad_f_rc (K : PySem.W.Frag) : Addr := recF K (Ad_pp_rc K)
def Ad_f_rr (K : PySem.W.Frag) : Addr := recF K (Ad_pp_rr K)
def Ad_f_re (K : PySem.W.Frag) : Addr := recF K (Ad_pp_re K)
def Ad_f_rd (K : PySem.W.Frag) : Addr := recF K (Ad_pp_rd K)
def Ad_f_bf (K : PySem.W.Frag) : Addr := recF K (Ad_pp_bf K)
def Ad_f_bs (K : PySem.W.Frag) : Addr := recF K (Ad_pp_bs K)
def Ad_f_br (K : PySem.W.Frag) : Addr := recF K (Ad_pp_br K)
def Ad_f_wc (K : PySem.W.Frag) : Addr := recF K (Ad_pp_wc K)
def Ad_f_wr (K : PySem.W.Frag) : Addr := recF K (Ad_pp_wr K)
def Ad_f_oc (K : PySem.W.Frag) : Addr := recF K (Ad_pp_oc K)
def Ad_f_or (K : PySem.W.Frag) : Addr := recF K (Ad_pp_or K)
def Ad_cc_law (K : PySem.W.Frag) : Addr := codA K (Ad_f_law K)
def Ad_celi1 (K : PySem.W.Frag) : Addr := cloA K (Ad_fIi1 K)
def Ad_codi1 (K : PySem.W.Frag) : Addr := codA K (Ad_fIi1 K)
def Ad_celi7 (K : PySem.W.Frag) : Addr := cloA K (Ad_fIi7 K)
def Ad_codi7 (K : PySem.W.Frag) : Addr := codA K (Ad_fIi7 K)
def Ad_celi8 (K : PySem.W.Frag) : Addr := cloA K (Ad_fIi8 K)
def Ad_codi8 (K : PySem.W.Frag) : Addr := codA K (Ad_fIi8 K)
def Ad_celi9 (K : PySem.W.Frag) : Addr := cloA K (Ad_fIi9 K)
def Ad_codi9 (K : PySem.W.Frag) : Addr := codA K (Ad_fIi9 K)
def Ad_celi10 (K : PySem.W.Frag) : Addr := cloA K (Ad_fIi10 K)
def Ad_codi10 (K : PySem.W.Frag) : Addr := codA K (Ad_fIi10 K)
def Ad_Tb0 (K : PySem.W.Frag) : Addr := tabOf K (Ad_cc_law K)
def Fx0 (K : PySem.W.Frag) : Prop := (PySem.W.nsIn K mainGlobals "is_name" = some (some (.ref (Ad_f_is_name K)))) ∧ (fnB K (Ad_f_is_name K) "is_name" = true) ∧ (PySem.W.keepIn K (.ref (Ad_f_is_name K)) = true) ∧ (PySem.W.nsIn K mainGlobals "check_word" = some (some (.ref (Ad_f_check_word K)))) ∧ (fnB K (Ad_f_check_word K) "check_word" = true) ∧ (PySem.W.keepIn K (.ref (Ad_f_check_word K)) = true) ∧ (PySem.W.nsIn K mainGlobals "rises" = some (some (.ref (Ad_f_rises K)))) ∧ (fnB K (Ad_f_rises K) "rises" = true) ∧ (PySem.W.keepIn K (.ref (Ad_f_rises K)) = true) ∧ (PySem.W.nsIn K mainGlobals "check_facts" = some (some (.ref (Ad_f_check_facts K)))) ∧ (fnB K (Ad_f_check_facts K) "check_facts" = true) ∧ (PySem.W.keepIn K (.ref (Ad_f_check_facts K)) = true)
instance (K : PySem.W.Frag) : Decidable (Fx0 K) := by unfold Fx0; infer_instance
def Fx1 (K : PySem.W.Frag) : Prop := (PySem.W.nsIn K mainGlobals "check_case" = some (some (.ref (Ad_f_check_case K)))) ∧ (fnB K (Ad_f_check_case K) "check_case" = true) ∧ (PySem.W.keepIn K (.ref (Ad_f_check_case K)) = true) ∧ (PySem.W.nsIn K mainGlobals "steps" = some (some (.ref (Ad_f_steps K)))) ∧ (fnB K (Ad_f_steps K) "steps" = true) ∧ (PySem.W.keepIn K (.ref (Ad_f_steps K)) = true) ∧ (PySem.W.nsIn K mainGlobals "up_to_first_met" = some (some (.ref (Ad_f_up_to_first_met K)))) ∧ (fnB K (Ad_f_up_to_first_met K) "up_to_first_met" = true) ∧ (PySem.W.keepIn K (.ref (Ad_f_up_to_first_met K)) = true) ∧ (PySem.W.nsIn K mainGlobals "looked_into" = some (some (.ref (Ad_f_looked_into K)))) ∧ (fnB K (Ad_f_looked_into K) "looked_into" = true) ∧ (PySem.W.keepIn K (.ref (Ad_f_looked_into K)) = true)
instance (K : PySem.W.Frag) : Decidable (Fx1 K) := by unfold Fx1; infer_instance
def Fx2 (K : PySem.W.Frag) : Prop := (PySem.W.nsIn K mainGlobals "nested" = some (some (.ref (Ad_f_nested K)))) ∧ (fnB K (Ad_f_nested K) "nested" = true) ∧ (PySem.W.keepIn K (.ref (Ad_f_nested K)) = true) ∧ (PySem.W.nsIn K mainGlobals "check_rules" = some (some (.ref (Ad_f_check_rules K)))) ∧ (fnB K (Ad_f_check_rules K) "check_rules" = true) ∧ (PySem.W.keepIn K (.ref (Ad_f_check_rules K)) = true) ∧ (PySem.W.nsIn K mainGlobals "replaced" = some (some (.ref (Ad_f_replaced K)))) ∧ (fnB K (Ad_f_replaced K) "replaced" = true) ∧ (PySem.W.keepIn K (.ref (Ad_f_replaced K)) = true) ∧ (PySem.W.nsIn K mainGlobals "path_to" = some (some (.ref (Ad_f_path_to K)))) ∧ (fnB K (Ad_f_path_to K) "path_to" = true) ∧ (PySem.W.keepIn K (.ref (Ad_f_path_to K)) = true)
instance (K : PySem.W.Frag) : Decidable (Fx2 K) := by unfold Fx2; infer_instance
def Fx3 (K : PySem.W.Frag) : Prop := (PySem.W.nsIn K mainGlobals "next_beside" = some (some (.ref (Ad_f_next_beside K)))) ∧ (fnB K (Ad_f_next_beside K) "next_beside" = true) ∧ (PySem.W.keepIn K (.ref (Ad_f_next_beside K)) = true) ∧ (PySem.W.nsIn K mainGlobals "swapped" = some (some (.ref (Ad_f_swapped K)))) ∧ (fnB K (Ad_f_swapped K) "swapped" = true) ∧ (PySem.W.keepIn K (.ref (Ad_f_swapped K)) = true) ∧ (PySem.W.nsIn K mainGlobals "check_part" = some (some (.ref (Ad_f_check_part K)))) ∧ (fnB K (Ad_f_check_part K) "check_part" = true) ∧ (PySem.W.keepIn K (.ref (Ad_f_check_part K)) = true) ∧ (PySem.W.nsIn K mainGlobals "merged" = some (some (.ref (Ad_f_merged K)))) ∧ (fnB K (Ad_f_merged K) "merged" = true) ∧ (PySem.W.keepIn K (.ref (Ad_f_merged K)) = true)
instance (K : PySem.W.Frag) : Decidable (Fx3 K) := by unfold Fx3; infer_instance
def Fx4 (K : PySem.W.Frag) : Prop := (PySem.W.nsIn K mainGlobals "amended" = some (some (.ref (Ad_f_amended K)))) ∧ (fnB K (Ad_f_amended K) "amended" = true) ∧ (PySem.W.keepIn K (.ref (Ad_f_amended K)) = true) ∧ (PySem.W.nsIn K mainGlobals "amended_book" = some (some (.ref (Ad_f_amended_book K)))) ∧ (fnB K (Ad_f_amended_book K) "amended_book" = true) ∧ (PySem.W.keepIn K (.ref (Ad_f_amended_book K)) = true) ∧ (PySem.W.nsIn K mainGlobals "amended_rule" = some (some (.ref (Ad_f_amended_rule K)))) ∧ (fnB K (Ad_f_amended_rule K) "amended_rule" = true) ∧ (PySem.W.keepIn K (.ref (Ad_f_amended_rule K)) = true) ∧ (PySem.W.nsIn K mainGlobals "is_amendment" = some (some (.ref (Ad_f_is_amendment K)))) ∧ (fnB K (Ad_f_is_amendment K) "is_amendment" = true) ∧ (PySem.W.keepIn K (.ref (Ad_f_is_amendment K)) = true)
instance (K : PySem.W.Frag) : Decidable (Fx4 K) := by unfold Fx4; infer_instance
def Fx5 (K : PySem.W.Frag) : Prop := (PySem.W.nsIn K mainGlobals "is_new" = some (some (.ref (Ad_f_is_new K)))) ∧ (fnB K (Ad_f_is_new K) "is_new" = true) ∧ (PySem.W.keepIn K (.ref (Ad_f_is_new K)) = true) ∧ (PySem.W.nsIn K mainGlobals "decider" = some (some (.ref (Ad_f_decider K)))) ∧ (fnB K (Ad_f_decider K) "decider" = true) ∧ (PySem.W.keepIn K (.ref (Ad_f_decider K)) = true) ∧ (PySem.W.nsIn K mainGlobals "outcome" = some (some (.ref (Ad_f_outcome K)))) ∧ (fnB K (Ad_f_outcome K) "outcome" = true) ∧ (PySem.W.keepIn K (.ref (Ad_f_outcome K)) = true) ∧ (PySem.W.nsIn K mainGlobals "way" = some (some (.ref (Ad_f_way K)))) ∧ (fnB K (Ad_f_way K) "way" = true) ∧ (PySem.W.keepIn K (.ref (Ad_f_way K)) = true)
instance (K : PySem.W.Frag) : Decidable (Fx5 K) := by unfold Fx5; infer_instance
def Fx6 (K : PySem.W.Frag) : Prop := (PySem.W.nsIn K mainGlobals "small_conditions" = some (some (.ref (Ad_f_small_conditions K)))) ∧ (fnB K (Ad_f_small_conditions K) "small_conditions" = true) ∧ (PySem.W.keepIn K (.ref (Ad_f_small_conditions K)) = true) ∧ (PySem.W.nsIn K mainGlobals "orders_of" = some (some (.ref (Ad_f_orders_of K)))) ∧ (fnB K (Ad_f_orders_of K) "orders_of" = true) ∧ (PySem.W.keepIn K (.ref (Ad_f_orders_of K)) = true) ∧ (PySem.W.nsIn K mainGlobals "check_left" = some (some (.ref (Ad_f_check_left K)))) ∧ (fnB K (Ad_f_check_left K) "check_left" = true) ∧ (PySem.W.keepIn K (.ref (Ad_f_check_left K)) = true) ∧ (PySem.W.nsIn K mainGlobals "_law_mix" = some (some (.ref (Ad_f__law_mix K)))) ∧ (fnB K (Ad_f__law_mix K) "_law_mix" = true) ∧ (PySem.W.keepIn K (.ref (Ad_f__law_mix K)) = true)
instance (K : PySem.W.Frag) : Decidable (Fx6 K) := by unfold Fx6; infer_instance
def Fx7 (K : PySem.W.Frag) : Prop := (PySem.W.nsIn K mainGlobals "_law_next" = some (some (.ref (Ad_f__law_next K)))) ∧ (fnB K (Ad_f__law_next K) "_law_next" = true) ∧ (PySem.W.keepIn K (.ref (Ad_f__law_next K)) = true) ∧ (PySem.W.nsIn K mainGlobals "_law_word" = some (some (.ref (Ad_f__law_word K)))) ∧ (fnB K (Ad_f__law_word K) "_law_word" = true) ∧ (PySem.W.keepIn K (.ref (Ad_f__law_word K)) = true) ∧ (PySem.W.nsIn K mainGlobals "law" = some (some (.ref (Ad_f_law K)))) ∧ (fnB K (Ad_f_law K) "law" = true) ∧ (PySem.W.keepIn K (.ref (Ad_f_law K)) = true) ∧ (PySem.W.nsIn K mainGlobals "Condition" = some (some (.ref (Ad_CO K)))) ∧ (PySem.W.makesIn K (Ad_CO K) = true) ∧ (PySem.W.findIn K (.ref (Ad_CO K)) "__init__" = some (some (.ref (Ad_f_mi K))))
instance (K : PySem.W.Frag) : Decidable (Fx7 K) := by unfold Fx7; infer_instance
def Fx8 (K : PySem.W.Frag) : Prop := (PySem.W.isFn K (.ref (Ad_f_mi K)) = true) ∧ (PySem.W.keepIn K (.ref (Ad_CO K)) = true) ∧ (PySem.W.plainGet K (Ad_CO K) Str.empty = true) ∧ (PySem.W.hasDictIn K (Ad_CO K) = true) ∧ (PySem.W.plainOver K (Ad_CO K) = true) ∧ (PySem.W.findIn K (.ref (Ad_CO K)) "__setattr__" = some (some (.builtin "object.__setattr__"))) ∧ (PySem.W.findIn K (.ref (Ad_CO K)) "_holding" = some none) ∧ (PySem.W.findIn K (.ref (Ad_CO K)) "_failing" = some none) ∧ (PySem.W.findIn K (.ref (Ad_CO K)) "_names" = some none) ∧ (PySem.W.findIn K (.ref (Ad_CO K)) "holding" = some (some (.ref (Ad_pp_mh K)))) ∧ (PySem.W.specialIn K (.ref (Ad_pp_mh K)) "__get__" = some (some (.builtin "property.__get__"))) ∧ (PySem.W.takesIn K (.ref (Ad_pp_mh K)) = some true)
instance (K : PySem.W.Frag) : Decidable (Fx8 K) := by unfold Fx8; infer_instance
def Fx9 (K : PySem.W.Frag) : Prop := (recB K (Ad_pp_mh K) = true) ∧ (PySem.W.findIn K (.ref (Ad_CO K)) "failing" = some (some (.ref (Ad_pp_mf K)))) ∧ (PySem.W.specialIn K (.ref (Ad_pp_mf K)) "__get__" = some (some (.builtin "property.__get__"))) ∧ (PySem.W.takesIn K (.ref (Ad_pp_mf K)) = some true) ∧ (recB K (Ad_pp_mf K) = true) ∧ (PySem.W.findIn K (.ref (Ad_CO K)) "names" = some (some (.ref (Ad_pp_mn K)))) ∧ (PySem.W.specialIn K (.ref (Ad_pp_mn K)) "__get__" = some (some (.builtin "property.__get__"))) ∧ (PySem.W.takesIn K (.ref (Ad_pp_mn K)) = some true) ∧ (recB K (Ad_pp_mn K) = true) ∧ (PySem.W.nsIn K mainGlobals "Rule" = some (some (.ref (Ad_RO K)))) ∧ (PySem.W.makesIn K (Ad_RO K) = true) ∧ (PySem.W.findIn K (.ref (Ad_RO K)) "__init__" = some (some (.ref (Ad_f_ri K))))
instance (K : PySem.W.Frag) : Decidable (Fx9 K) := by unfold Fx9; infer_instance
def Fx10 (K : PySem.W.Frag) : Prop := (PySem.W.isFn K (.ref (Ad_f_ri K)) = true) ∧ (PySem.W.keepIn K (.ref (Ad_RO K)) = true) ∧ (PySem.W.plainGet K (Ad_RO K) Str.empty = true) ∧ (PySem.W.hasDictIn K (Ad_RO K) = true) ∧ (PySem.W.plainOver K (Ad_RO K) = true) ∧ (PySem.W.findIn K (.ref (Ad_RO K)) "__setattr__" = some (some (.builtin "object.__setattr__"))) ∧ (PySem.W.findIn K (.ref (Ad_RO K)) "_name" = some none) ∧ (PySem.W.findIn K (.ref (Ad_RO K)) "_condition" = some none) ∧ (PySem.W.findIn K (.ref (Ad_RO K)) "_ruling" = some none) ∧ (PySem.W.findIn K (.ref (Ad_RO K)) "_exceptions" = some none) ∧ (PySem.W.findIn K (.ref (Ad_RO K)) "_depth" = some none) ∧ (PySem.W.findIn K (.ref (Ad_RO K)) "_inside" = some none)
instance (K : PySem.W.Frag) : Decidable (Fx10 K) := by unfold Fx10; infer_instance
def Fx11 (K : PySem.W.Frag) : Prop := (PySem.W.findIn K (.ref (Ad_RO K)) "name" = some (some (.ref (Ad_pp_rn K)))) ∧ (PySem.W.specialIn K (.ref (Ad_pp_rn K)) "__get__" = some (some (.builtin "property.__get__"))) ∧ (PySem.W.takesIn K (.ref (Ad_pp_rn K)) = some true) ∧ (recB K (Ad_pp_rn K) = true) ∧ (PySem.W.findIn K (.ref (Ad_RO K)) "condition" = some (some (.ref (Ad_pp_rc K)))) ∧ (PySem.W.specialIn K (.ref (Ad_pp_rc K)) "__get__" = some (some (.builtin "property.__get__"))) ∧ (PySem.W.takesIn K (.ref (Ad_pp_rc K)) = some true) ∧ (recB K (Ad_pp_rc K) = true) ∧ (PySem.W.findIn K (.ref (Ad_RO K)) "ruling" = some (some (.ref (Ad_pp_rr K)))) ∧ (PySem.W.specialIn K (.ref (Ad_pp_rr K)) "__get__" = some (some (.builtin "property.__get__"))) ∧ (PySem.W.takesIn K (.ref (Ad_pp_rr K)) = some true) ∧ (recB K (Ad_pp_rr K) = true)
instance (K : PySem.W.Frag) : Decidable (Fx11 K) := by unfold Fx11; infer_instance
def Fx12 (K : PySem.W.Frag) : Prop := (PySem.W.findIn K (.ref (Ad_RO K)) "exceptions" = some (some (.ref (Ad_pp_re K)))) ∧ (PySem.W.specialIn K (.ref (Ad_pp_re K)) "__get__" = some (some (.builtin "property.__get__"))) ∧ (PySem.W.takesIn K (.ref (Ad_pp_re K)) = some true) ∧ (recB K (Ad_pp_re K) = true) ∧ (PySem.W.findIn K (.ref (Ad_RO K)) "depth" = some (some (.ref (Ad_pp_rd K)))) ∧ (PySem.W.specialIn K (.ref (Ad_pp_rd K)) "__get__" = some (some (.builtin "property.__get__"))) ∧ (PySem.W.takesIn K (.ref (Ad_pp_rd K)) = some true) ∧ (recB K (Ad_pp_rd K) = true) ∧ (PySem.W.nsIn K mainGlobals "Book" = some (some (.ref (Ad_BO K)))) ∧ (PySem.W.makesIn K (Ad_BO K) = true) ∧ (PySem.W.findIn K (.ref (Ad_BO K)) "__init__" = some (some (.ref (Ad_f_bi K)))) ∧ (PySem.W.isFn K (.ref (Ad_f_bi K)) = true)
instance (K : PySem.W.Frag) : Decidable (Fx12 K) := by unfold Fx12; infer_instance
def Fx13 (K : PySem.W.Frag) : Prop := (PySem.W.keepIn K (.ref (Ad_BO K)) = true) ∧ (PySem.W.plainGet K (Ad_BO K) Str.empty = true) ∧ (PySem.W.hasDictIn K (Ad_BO K) = true) ∧ (PySem.W.plainOver K (Ad_BO K) = true) ∧ (PySem.W.findIn K (.ref (Ad_BO K)) "__setattr__" = some (some (.builtin "object.__setattr__"))) ∧ (PySem.W.findIn K (.ref (Ad_BO K)) "_facts" = some none) ∧ (PySem.W.findIn K (.ref (Ad_BO K)) "_rules" = some none) ∧ (PySem.W.findIn K (.ref (Ad_BO K)) "_ruling" = some none) ∧ (PySem.W.findIn K (.ref (Ad_BO K)) "_numbered" = some none) ∧ (PySem.W.findIn K (.ref (Ad_BO K)) "facts" = some (some (.ref (Ad_pp_bf K)))) ∧ (PySem.W.specialIn K (.ref (Ad_pp_bf K)) "__get__" = some (some (.builtin "property.__get__"))) ∧ (PySem.W.takesIn K (.ref (Ad_pp_bf K)) = some true)
instance (K : PySem.W.Frag) : Decidable (Fx13 K) := by unfold Fx13; infer_instance
def Fx14 (K : PySem.W.Frag) : Prop := (recB K (Ad_pp_bf K) = true) ∧ (PySem.W.findIn K (.ref (Ad_BO K)) "rules" = some (some (.ref (Ad_pp_bs K)))) ∧ (PySem.W.specialIn K (.ref (Ad_pp_bs K)) "__get__" = some (some (.builtin "property.__get__"))) ∧ (PySem.W.takesIn K (.ref (Ad_pp_bs K)) = some true) ∧ (recB K (Ad_pp_bs K) = true) ∧ (PySem.W.findIn K (.ref (Ad_BO K)) "ruling" = some (some (.ref (Ad_pp_br K)))) ∧ (PySem.W.specialIn K (.ref (Ad_pp_br K)) "__get__" = some (some (.builtin "property.__get__"))) ∧ (PySem.W.takesIn K (.ref (Ad_pp_br K)) = some true) ∧ (recB K (Ad_pp_br K) = true) ∧ (PySem.W.nsIn K mainGlobals "ConditionWatcher" = some (some (.ref (Ad_CW K)))) ∧ (PySem.W.makesIn K (Ad_CW K) = true) ∧ (PySem.W.findIn K (.ref (Ad_CW K)) "__init__" = some (some (.ref (Ad_f_wi K))))
instance (K : PySem.W.Frag) : Decidable (Fx14 K) := by unfold Fx14; infer_instance
def Fx15 (K : PySem.W.Frag) : Prop := (PySem.W.isFn K (.ref (Ad_f_wi K)) = true) ∧ (PySem.W.keepIn K (.ref (Ad_CW K)) = true) ∧ (PySem.W.plainGet K (Ad_CW K) Str.empty = true) ∧ (PySem.W.hasDictIn K (Ad_CW K) = true) ∧ (PySem.W.plainOver K (Ad_CW K) = true) ∧ (PySem.W.findIn K (.ref (Ad_CW K)) "__setattr__" = some (some (.builtin "object.__setattr__"))) ∧ (PySem.W.findIn K (.ref (Ad_CW K)) "_with_rule" = some none) ∧ (PySem.W.findIn K (.ref (Ad_CW K)) "_without_rule" = some none) ∧ (PySem.W.findIn K (.ref (Ad_CW K)) "_left" = some none) ∧ (PySem.W.findIn K (.ref (Ad_CW K)) "_seen" = some none) ∧ (PySem.W.findIn K (.ref (Ad_CW K)) "candidates" = some (some (.ref (Ad_pp_wc K)))) ∧ (PySem.W.specialIn K (.ref (Ad_pp_wc K)) "__get__" = some (some (.builtin "property.__get__")))
instance (K : PySem.W.Frag) : Decidable (Fx15 K) := by unfold Fx15; infer_instance
def Fx16 (K : PySem.W.Frag) : Prop := (PySem.W.takesIn K (.ref (Ad_pp_wc K)) = some true) ∧ (recB K (Ad_pp_wc K) = true) ∧ (PySem.W.findIn K (.ref (Ad_CW K)) "records" = some (some (.ref (Ad_pp_wr K)))) ∧ (PySem.W.specialIn K (.ref (Ad_pp_wr K)) "__get__" = some (some (.builtin "property.__get__"))) ∧ (PySem.W.takesIn K (.ref (Ad_pp_wr K)) = some true) ∧ (recB K (Ad_pp_wr K) = true) ∧ (PySem.W.nsIn K mainGlobals "OrderWatcher" = some (some (.ref (Ad_OW K)))) ∧ (PySem.W.makesIn K (Ad_OW K) = true) ∧ (PySem.W.findIn K (.ref (Ad_OW K)) "__init__" = some (some (.ref (Ad_f_oi K)))) ∧ (PySem.W.isFn K (.ref (Ad_f_oi K)) = true) ∧ (PySem.W.keepIn K (.ref (Ad_OW K)) = true) ∧ (PySem.W.plainGet K (Ad_OW K) Str.empty = true)
instance (K : PySem.W.Frag) : Decidable (Fx16 K) := by unfold Fx16; infer_instance
def Fx17 (K : PySem.W.Frag) : Prop := (PySem.W.hasDictIn K (Ad_OW K) = true) ∧ (PySem.W.plainOver K (Ad_OW K) = true) ∧ (PySem.W.findIn K (.ref (Ad_OW K)) "__setattr__" = some (some (.builtin "object.__setattr__"))) ∧ (PySem.W.findIn K (.ref (Ad_OW K)) "_book" = some none) ∧ (PySem.W.findIn K (.ref (Ad_OW K)) "_left" = some none) ∧ (PySem.W.findIn K (.ref (Ad_OW K)) "_seen" = some none) ∧ (PySem.W.findIn K (.ref (Ad_OW K)) "order_count" = some (some (.ref (Ad_pp_oc K)))) ∧ (PySem.W.specialIn K (.ref (Ad_pp_oc K)) "__get__" = some (some (.builtin "property.__get__"))) ∧ (PySem.W.takesIn K (.ref (Ad_pp_oc K)) = some true) ∧ (recB K (Ad_pp_oc K) = true) ∧ (PySem.W.findIn K (.ref (Ad_OW K)) "records" = some (some (.ref (Ad_pp_or K)))) ∧ (PySem.W.specialIn K (.ref (Ad_pp_or K)) "__get__" = some (some (.builtin "property.__get__")))
instance (K : PySem.W.Frag) : Decidable (Fx17 K) := by unfold Fx17; infer_instance
def Fx18 (K : PySem.W.Frag) : Prop := (PySem.W.takesIn K (.ref (Ad_pp_or K)) = some true) ∧ (recB K (Ad_pp_or K) = true) ∧ (PySem.W.findIn K (.ref (Ad_BO K)) "__contains__" = some (some (.ref (Ad_f_gc K)))) ∧ (PySem.W.isFn K (.ref (Ad_f_gc K)) = true) ∧ (PySem.W.findIn K (.ref (Ad_BO K)) "__getitem__" = some (some (.ref (Ad_f_gi K)))) ∧ (PySem.W.isFn K (.ref (Ad_f_gi K)) = true) ∧ (PySem.W.findIn K (.ref (Ad_BO K)) "__sub__" = some (some (.ref (Ad_f_gs K)))) ∧ (PySem.W.isFn K (.ref (Ad_f_gs K)) = true) ∧ (PySem.W.findIn K (.ref (Ad_BO K)) "__call__" = some (some (.ref (Ad_f_bc K)))) ∧ (PySem.W.isFn K (.ref (Ad_f_bc K)) = true) ∧ (PySem.W.fnIn K (Ad_f_bc K) = true) ∧ (PySem.W.findIn K (.ref (Ad_CO K)) "__call__" = some (some (.ref (Ad_f_mc K))))
instance (K : PySem.W.Frag) : Decidable (Fx18 K) := by unfold Fx18; infer_instance
def Fx19 (K : PySem.W.Frag) : Prop := (PySem.W.isFn K (.ref (Ad_f_mc K)) = true) ∧ (PySem.W.fnIn K (Ad_f_mc K) = true) ∧ (PySem.W.findIn K (.ref (Ad_CW K)) "_outcomes" = some (some (.ref (Ad_f_wq K)))) ∧ (PySem.W.isFn K (.ref (Ad_f_wq K)) = true) ∧ (PySem.W.findIn K (.ref (Ad_CW K)) "_accept" = some (some (.ref (Ad_f_wa K)))) ∧ (PySem.W.isFn K (.ref (Ad_f_wa K)) = true) ∧ (PySem.W.findIn K (.ref (Ad_CW K)) "see" = some (some (.ref (Ad_f_ws K)))) ∧ (PySem.W.isFn K (.ref (Ad_f_ws K)) = true) ∧ (PySem.W.findIn K (.ref (Ad_CW K)) "see_decider" = some (some (.ref (Ad_f_wd K)))) ∧ (PySem.W.isFn K (.ref (Ad_f_wd K)) = true) ∧ (PySem.W.findIn K (.ref (Ad_CW K)) "possible" = some (some (.ref (Ad_f_wp K)))) ∧ (PySem.W.isFn K (.ref (Ad_f_wp K)) = true)
instance (K : PySem.W.Frag) : Decidable (Fx19 K) := by unfold Fx19; infer_instance
def Fx20 (K : PySem.W.Frag) : Prop := (PySem.W.findIn K (.ref (Ad_OW K)) "see" = some (some (.ref (Ad_f_os K)))) ∧ (PySem.W.isFn K (.ref (Ad_f_os K)) = true) ∧ (PySem.W.findIn K (.ref (Ad_OW K)) "sure" = some (some (.ref (Ad_f_ou K)))) ∧ (PySem.W.isFn K (.ref (Ad_f_ou K)) = true) ∧ (PySem.W.findIn K (.ref (Ad_CO K)) "__class__" = some (some (.builtin "object.__class__"))) ∧ (PySem.W.mroIn K (Ad_CO K) (.type "object") = some true) ∧ (PySem.W.subIn K (.ref (Ad_CO K)) (.ref (Ad_CO K)) = some true) ∧ (PySem.W.isClsIn K (Ad_CO K) = true) ∧ (PySem.W.typeIn K (.ref (Ad_CO K)) = some (.type "type")) ∧ (PySem.W.subIn K (.ref (Ad_CO K)) (.ref (Ad_RO K)) = some false) ∧ (PySem.W.subIn K (.ref (Ad_CO K)) (.type "str") = some false) ∧ (PySem.W.subIn K (.type "str") (.ref (Ad_CO K)) = some false)
instance (K : PySem.W.Frag) : Decidable (Fx20 K) := by unfold Fx20; infer_instance
def Fx21 (K : PySem.W.Frag) : Prop := (PySem.W.subIn K (.type "NoneType") (.ref (Ad_CO K)) = some false) ∧ (PySem.W.subIn K (.type "int") (.ref (Ad_CO K)) = some false) ∧ (PySem.W.subIn K (.type "tuple") (.ref (Ad_CO K)) = some false) ∧ (PySem.W.findIn K (.ref (Ad_RO K)) "__class__" = some (some (.builtin "object.__class__"))) ∧ (PySem.W.mroIn K (Ad_RO K) (.type "object") = some true) ∧ (PySem.W.subIn K (.ref (Ad_RO K)) (.ref (Ad_RO K)) = some true) ∧ (PySem.W.isClsIn K (Ad_RO K) = true) ∧ (PySem.W.typeIn K (.ref (Ad_RO K)) = some (.type "type")) ∧ (PySem.W.subIn K (.ref (Ad_RO K)) (.ref (Ad_CO K)) = some false) ∧ (PySem.W.subIn K (.ref (Ad_RO K)) (.type "str") = some false) ∧ (PySem.W.subIn K (.type "str") (.ref (Ad_RO K)) = some false) ∧ (PySem.W.subIn K (.type "NoneType") (.ref (Ad_RO K)) = some false)
instance (K : PySem.W.Frag) : Decidable (Fx21 K) := by unfold Fx21; infer_instance
def Fx22 (K : PySem.W.Frag) : Prop := (PySem.W.subIn K (.type "int") (.ref (Ad_RO K)) = some false) ∧ (PySem.W.subIn K (.type "tuple") (.ref (Ad_RO K)) = some false) ∧ (PySem.W.subIn K (.type "str") (.ref (Ad_BO K)) = some false) ∧ (PySem.W.selfFirst K (Ad_BO K) = true) ∧ (PySem.W.findIn K (.ref (Ad_BO K)) "__rsub__" = some none) ∧ ((PySem.W.findIn K (.type "str") "__sub__").isSome = true) ∧ ((PySem.W.findIn K (.type "str") "__rsub__").isSome = true) ∧ (PySem.W.fnIn K (Ad_f_gc K) = true) ∧ (PySem.W.fnIn K (Ad_f_gi K) = true) ∧ (PySem.W.fnIn K (Ad_f_gs K) = true) ∧ (PySem.W.nsIn K mainGlobals "WORDS_WITH_NAME" = some (some (.ref (Ad_w1A K)))) ∧ (HeadY.tupB K (Ad_w1A K) ["strike", "swap"] = true)
instance (K : PySem.W.Frag) : Decidable (Fx22 K) := by unfold Fx22; infer_instance
def Fx23 (K : PySem.W.Frag) : Prop := (PySem.W.nsIn K mainGlobals "WORDS_WITH_MORE" = some (some (.ref (Ad_w2A K)))) ∧ (HeadY.tupB K (Ad_w2A K) ["add", "before", "ruling", "condition"] = true) ∧ (PySem.W.nsIn K mainGlobals "WORDS_FOR_BOOKS" = some (some (.ref (Ad_w3A K)))) ∧ (HeadY.tupB K (Ad_w3A K) ["add", "ruling"] = true) ∧ (fnB K (Ad_f_mi K) "Condition.__init__" = true) ∧ (PySem.W.keepIn K (.ref (Ad_f_mi K)) = true) ∧ (fnB K (Ad_f_mh K) "Condition.holding" = true) ∧ (PySem.W.keepIn K (.ref (Ad_f_mh K)) = true) ∧ (fnB K (Ad_f_mf K) "Condition.failing" = true) ∧ (PySem.W.keepIn K (.ref (Ad_f_mf K)) = true) ∧ (fnB K (Ad_f_mn K) "Condition.names" = true) ∧ (PySem.W.keepIn K (.ref (Ad_f_mn K)) = true)
instance (K : PySem.W.Frag) : Decidable (Fx23 K) := by unfold Fx23; infer_instance
def Fx24 (K : PySem.W.Frag) : Prop := (fnB K (Ad_f_ri K) "Rule.__init__" = true) ∧ (PySem.W.keepIn K (.ref (Ad_f_ri K)) = true) ∧ (fnB K (Ad_f_rn K) "Rule.name" = true) ∧ (PySem.W.keepIn K (.ref (Ad_f_rn K)) = true) ∧ (fnB K (Ad_f_rc K) "Rule.condition" = true) ∧ (PySem.W.keepIn K (.ref (Ad_f_rc K)) = true) ∧ (fnB K (Ad_f_rr K) "Rule.ruling" = true) ∧ (PySem.W.keepIn K (.ref (Ad_f_rr K)) = true) ∧ (fnB K (Ad_f_re K) "Rule.exceptions" = true) ∧ (PySem.W.keepIn K (.ref (Ad_f_re K)) = true) ∧ (fnB K (Ad_f_rd K) "Rule.depth" = true) ∧ (PySem.W.keepIn K (.ref (Ad_f_rd K)) = true)
instance (K : PySem.W.Frag) : Decidable (Fx24 K) := by unfold Fx24; infer_instance
def Fx25 (K : PySem.W.Frag) : Prop := (fnB K (Ad_f_bi K) "Book.__init__" = true) ∧ (PySem.W.keepIn K (.ref (Ad_f_bi K)) = true) ∧ (fnB K (Ad_f_bf K) "Book.facts" = true) ∧ (PySem.W.keepIn K (.ref (Ad_f_bf K)) = true) ∧ (fnB K (Ad_f_bs K) "Book.rules" = true) ∧ (PySem.W.keepIn K (.ref (Ad_f_bs K)) = true) ∧ (fnB K (Ad_f_br K) "Book.ruling" = true) ∧ (PySem.W.keepIn K (.ref (Ad_f_br K)) = true) ∧ (fnB K (Ad_f_wi K) "ConditionWatcher.__init__" = true) ∧ (PySem.W.keepIn K (.ref (Ad_f_wi K)) = true) ∧ (fnB K (Ad_f_wc K) "ConditionWatcher.candidates" = true) ∧ (PySem.W.keepIn K (.ref (Ad_f_wc K)) = true)
instance (K : PySem.W.Frag) : Decidable (Fx25 K) := by unfold Fx25; infer_instance
def Fx26 (K : PySem.W.Frag) : Prop := (fnB K (Ad_f_wr K) "ConditionWatcher.records" = true) ∧ (PySem.W.keepIn K (.ref (Ad_f_wr K)) = true) ∧ (fnB K (Ad_f_oi K) "OrderWatcher.__init__" = true) ∧ (PySem.W.keepIn K (.ref (Ad_f_oi K)) = true) ∧ (fnB K (Ad_f_oc K) "OrderWatcher.order_count" = true) ∧ (PySem.W.keepIn K (.ref (Ad_f_oc K)) = true) ∧ (fnB K (Ad_f_or K) "OrderWatcher.records" = true) ∧ (PySem.W.keepIn K (.ref (Ad_f_or K)) = true) ∧ (fnB K (Ad_f_gc K) "Book.__contains__" = true) ∧ (PySem.W.keepIn K (.ref (Ad_f_gc K)) = true) ∧ (fnB K (Ad_f_gi K) "Book.__getitem__" = true) ∧ (PySem.W.keepIn K (.ref (Ad_f_gi K)) = true)
instance (K : PySem.W.Frag) : Decidable (Fx26 K) := by unfold Fx26; infer_instance
def Fx27 (K : PySem.W.Frag) : Prop := (fnB K (Ad_f_gs K) "Book.__sub__" = true) ∧ (PySem.W.keepIn K (.ref (Ad_f_gs K)) = true) ∧ (fnB K (Ad_f_bc K) "Book.__call__" = true) ∧ (PySem.W.keepIn K (.ref (Ad_f_bc K)) = true) ∧ (fnB K (Ad_f_mc K) "Condition.__call__" = true) ∧ (PySem.W.keepIn K (.ref (Ad_f_mc K)) = true) ∧ (fnB K (Ad_f_wq K) "ConditionWatcher._outcomes" = true) ∧ (PySem.W.keepIn K (.ref (Ad_f_wq K)) = true) ∧ (fnB K (Ad_f_wa K) "ConditionWatcher._accept" = true) ∧ (PySem.W.keepIn K (.ref (Ad_f_wa K)) = true) ∧ (fnB K (Ad_f_ws K) "ConditionWatcher.see" = true) ∧ (PySem.W.keepIn K (.ref (Ad_f_ws K)) = true)
instance (K : PySem.W.Frag) : Decidable (Fx27 K) := by unfold Fx27; infer_instance
def Fx28 (K : PySem.W.Frag) : Prop := (fnB K (Ad_f_wd K) "ConditionWatcher.see_decider" = true) ∧ (PySem.W.keepIn K (.ref (Ad_f_wd K)) = true) ∧ (fnB K (Ad_f_wp K) "ConditionWatcher.possible" = true) ∧ (PySem.W.keepIn K (.ref (Ad_f_wp K)) = true) ∧ (fnB K (Ad_f_os K) "OrderWatcher.see" = true) ∧ (PySem.W.keepIn K (.ref (Ad_f_os K)) = true) ∧ (fnB K (Ad_f_ou K) "OrderWatcher.sure" = true) ∧ (PySem.W.keepIn K (.ref (Ad_f_ou K)) = true) ∧ (PySem.W.nsIn K mainGlobals "isinstance" = some none) ∧ (PySem.W.nsIn K mainGlobals "len" = some none) ∧ (PySem.W.nsIn K mainGlobals "all" = some none) ∧ (PySem.W.nsIn K mainGlobals "any" = some none)
instance (K : PySem.W.Frag) : Decidable (Fx28 K) := by unfold Fx28; infer_instance
def Fx29 (K : PySem.W.Frag) : Prop := (PySem.W.nsIn K mainGlobals "sum" = some none) ∧ (PySem.W.nsIn K mainGlobals "max" = some none) ∧ (PySem.W.nsIn K mainGlobals "min" = some none) ∧ (PySem.W.nsIn K mainGlobals "int" = some none) ∧ (PySem.W.nsIn K mainGlobals "str" = some none) ∧ (PySem.W.nsIn K mainGlobals "bool" = some none) ∧ (PySem.W.nsIn K mainGlobals "list" = some none) ∧ (PySem.W.nsIn K mainGlobals "tuple" = some none) ∧ (PySem.W.nsIn K mainGlobals "dict" = some none) ∧ (PySem.W.nsIn K mainGlobals "range" = some none) ∧ (PySem.W.nsIn K mainGlobals "enumerate" = some none) ∧ (PySem.W.nsIn K mainGlobals "sorted" = some none)
instance (K : PySem.W.Frag) : Decidable (Fx29 K) := by unfold Fx29; infer_instance
def Fx30 (K : PySem.W.Frag) : Prop := (PySem.W.nsIn K mainGlobals "reversed" = some none) ∧ (PySem.W.nsIn K mainGlobals "zip" = some none) ∧ (PySem.W.nsIn K mainGlobals "set" = some none) ∧ (PySem.W.nsIn K mainGlobals "ValueError" = some none) ∧ (strB K "LETTERS" letters = true) ∧ (intB K "LONGEST_NAME" 8 = true) ∧ (intB K "MOST_FACTS_facts" 60 = true) ∧ (intB K "MOST_NAMES" 8 = true) ∧ (intB K "MOST_AROUND" 5 = true) ∧ (intB K "MOST_RULES" 60 = true) ∧ (intB K "MOST_OUTERMOST" 40 = true) ∧ (intB K "MOST_ORDERED" 6 = true)
instance (K : PySem.W.Frag) : Decidable (Fx30 K) := by unfold Fx30; infer_instance
def Fx31 (K : PySem.W.Frag) : Prop := (intB K "MOST_FACTS_watchers" 10 = true) ∧ (PySem.W.nsIn K mainGlobals "CourtError" = some (some (.ref (Ad_CE K)))) ∧ (PySem.W.nsIn K mainGlobals "Contradiction" = some (some (.ref (Ad_E0 K)))) ∧ (PySem.W.nsIn K mainGlobals "InvalidCase" = some (some (.ref (Ad_E1 K)))) ∧ (PySem.W.nsIn K mainGlobals "InvalidRuling" = some (some (.ref (Ad_E2 K)))) ∧ (PySem.W.nsIn K mainGlobals "TooMany" = some (some (.ref (Ad_E3 K)))) ∧ (PySem.W.nsIn K mainGlobals "UnknownRule" = some (some (.ref (Ad_E4 K)))) ∧ (PySem.W.nsIn K mainGlobals "NoNeighbor" = some (some (.ref (Ad_E5 K)))) ∧ (PySem.W.nsIn K mainGlobals "InvalidAmendment" = some (some (.ref (Ad_E6 K)))) ∧ (PySem.W.nsIn K mainGlobals "InvalidFacts" = some (some (.ref (Ad_E7 K)))) ∧ (PySem.W.nsIn K mainGlobals "InvalidCondition" = some (some (.ref (Ad_E8 K)))) ∧ (PySem.W.nsIn K mainGlobals "InvalidRule" = some (some (.ref (Ad_E9 K))))
instance (K : PySem.W.Frag) : Decidable (Fx31 K) := by unfold Fx31; infer_instance
def Fx32 (K : PySem.W.Frag) : Prop := (PySem.W.nsIn K mainGlobals "InvalidBook" = some (some (.ref (Ad_E10 K)))) ∧ (PySem.W.subIn K (.ref (Ad_CE K)) (.type "BaseException") = some true) ∧ (PySem.W.isClsIn K (Ad_CE K) = true) ∧ (PySem.W.typeIn K (.ref (Ad_CE K)) = some (.type "type")) ∧ (PySem.W.isClsIn K (Ad_E0 K) = true) ∧ (PySem.W.typeIn K (.ref (Ad_E0 K)) = some (.type "type")) ∧ (PySem.W.isClsIn K (Ad_E1 K) = true) ∧ (PySem.W.typeIn K (.ref (Ad_E1 K)) = some (.type "type")) ∧ (PySem.W.isClsIn K (Ad_E2 K) = true) ∧ (PySem.W.typeIn K (.ref (Ad_E2 K)) = some (.type "type")) ∧ (PySem.W.isClsIn K (Ad_E3 K) = true) ∧ (PySem.W.typeIn K (.ref (Ad_E3 K)) = some (.type "type"))
instance (K : PySem.W.Frag) : Decidable (Fx32 K) := by unfold Fx32; infer_instance
def Fx33 (K : PySem.W.Frag) : Prop := (PySem.W.isClsIn K (Ad_E4 K) = true) ∧ (PySem.W.typeIn K (.ref (Ad_E4 K)) = some (.type "type")) ∧ (PySem.W.isClsIn K (Ad_E5 K) = true) ∧ (PySem.W.typeIn K (.ref (Ad_E5 K)) = some (.type "type")) ∧ (PySem.W.isClsIn K (Ad_E6 K) = true) ∧ (PySem.W.typeIn K (.ref (Ad_E6 K)) = some (.type "type")) ∧ (PySem.W.isClsIn K (Ad_E7 K) = true) ∧ (PySem.W.typeIn K (.ref (Ad_E7 K)) = some (.type "type")) ∧ (PySem.W.isClsIn K (Ad_E8 K) = true) ∧ (PySem.W.typeIn K (.ref (Ad_E8 K)) = some (.type "type")) ∧ (PySem.W.isClsIn K (Ad_E9 K) = true) ∧ (PySem.W.typeIn K (.ref (Ad_E9 K)) = some (.type "type"))
instance (K : PySem.W.Frag) : Decidable (Fx33 K) := by unfold Fx33; infer_instance
def Fx34 (K : PySem.W.Frag) : Prop := (PySem.W.isClsIn K (Ad_E10 K) = true) ∧ (PySem.W.typeIn K (.ref (Ad_E10 K)) = some (.type "type")) ∧ (PySem.W.isClsIn K (Ad_E0 K) = true) ∧ (PySem.W.findIn K (.ref (Ad_E0 K)) "__getattribute__" = some (some (.builtin "BaseException.__getattribute__"))) ∧ (PySem.W.findIn K (.ref (Ad_E0 K)) "__getattr__" = some none) ∧ (PySem.W.subIn K (.ref (Ad_E0 K)) (.type "BaseException") = some true) ∧ (PySem.W.findIn K (.ref (Ad_E0 K)) "__class__" = some (some (.builtin "object.__class__"))) ∧ (PySem.W.mroIn K (Ad_E0 K) (.type "object") = some true) ∧ (PySem.W.hasDictIn K (Ad_E0 K) = true) ∧ (PySem.W.subIn K (.ref (Ad_E0 K)) (.ref (Ad_CE K)) = some true) ∧ (PySem.W.subIn K (.ref (Ad_E0 K)) (.type "ValueError") = some true) ∧ (PySem.W.subIn K (.ref (Ad_E0 K)) (.ref (Ad_E0 K)) = some true)
instance (K : PySem.W.Frag) : Decidable (Fx34 K) := by unfold Fx34; infer_instance
def Fx35 (K : PySem.W.Frag) : Prop := (PySem.W.subIn K (.ref (Ad_E0 K)) (.ref (Ad_E1 K)) = some false) ∧ (PySem.W.subIn K (.ref (Ad_E0 K)) (.ref (Ad_E2 K)) = some false) ∧ (PySem.W.subIn K (.ref (Ad_E0 K)) (.ref (Ad_E3 K)) = some false) ∧ (PySem.W.subIn K (.ref (Ad_E0 K)) (.ref (Ad_E4 K)) = some false) ∧ (PySem.W.subIn K (.ref (Ad_E0 K)) (.ref (Ad_E5 K)) = some false) ∧ (PySem.W.subIn K (.ref (Ad_E0 K)) (.ref (Ad_E6 K)) = some false) ∧ (PySem.W.subIn K (.ref (Ad_E0 K)) (.ref (Ad_E7 K)) = some false) ∧ (PySem.W.subIn K (.ref (Ad_E0 K)) (.ref (Ad_E8 K)) = some false) ∧ (PySem.W.subIn K (.ref (Ad_E0 K)) (.ref (Ad_E9 K)) = some false) ∧ (PySem.W.subIn K (.ref (Ad_E0 K)) (.ref (Ad_E10 K)) = some false) ∧ (PySem.W.findIn K (.ref (Ad_E0 K)) "index" = some none) ∧ (PySem.W.findIn K (.ref (Ad_E0 K)) "part" = some none)
instance (K : PySem.W.Frag) : Decidable (Fx35 K) := by unfold Fx35; infer_instance
def Fx36 (K : PySem.W.Frag) : Prop := (PySem.W.findIn K (.ref (Ad_E0 K)) "word" = some none) ∧ (PySem.W.findIn K (.ref (Ad_E0 K)) "fact" = some none) ∧ (PySem.W.isClsIn K (Ad_E1 K) = true) ∧ (PySem.W.findIn K (.ref (Ad_E1 K)) "__getattribute__" = some (some (.builtin "BaseException.__getattribute__"))) ∧ (PySem.W.findIn K (.ref (Ad_E1 K)) "__getattr__" = some none) ∧ (PySem.W.subIn K (.ref (Ad_E1 K)) (.type "BaseException") = some true) ∧ (PySem.W.findIn K (.ref (Ad_E1 K)) "__class__" = some (some (.builtin "object.__class__"))) ∧ (PySem.W.mroIn K (Ad_E1 K) (.type "object") = some true) ∧ (PySem.W.hasDictIn K (Ad_E1 K) = true) ∧ (PySem.W.subIn K (.ref (Ad_E1 K)) (.ref (Ad_CE K)) = some true) ∧ (PySem.W.subIn K (.ref (Ad_E1 K)) (.type "ValueError") = some true) ∧ (PySem.W.subIn K (.ref (Ad_E1 K)) (.ref (Ad_E0 K)) = some false)
instance (K : PySem.W.Frag) : Decidable (Fx36 K) := by unfold Fx36; infer_instance
def Fx37 (K : PySem.W.Frag) : Prop := (PySem.W.subIn K (.ref (Ad_E1 K)) (.ref (Ad_E1 K)) = some true) ∧ (PySem.W.subIn K (.ref (Ad_E1 K)) (.ref (Ad_E2 K)) = some false) ∧ (PySem.W.subIn K (.ref (Ad_E1 K)) (.ref (Ad_E3 K)) = some false) ∧ (PySem.W.subIn K (.ref (Ad_E1 K)) (.ref (Ad_E4 K)) = some false) ∧ (PySem.W.subIn K (.ref (Ad_E1 K)) (.ref (Ad_E5 K)) = some false) ∧ (PySem.W.subIn K (.ref (Ad_E1 K)) (.ref (Ad_E6 K)) = some false) ∧ (PySem.W.subIn K (.ref (Ad_E1 K)) (.ref (Ad_E7 K)) = some false) ∧ (PySem.W.subIn K (.ref (Ad_E1 K)) (.ref (Ad_E8 K)) = some false) ∧ (PySem.W.subIn K (.ref (Ad_E1 K)) (.ref (Ad_E9 K)) = some false) ∧ (PySem.W.subIn K (.ref (Ad_E1 K)) (.ref (Ad_E10 K)) = some false) ∧ (PySem.W.findIn K (.ref (Ad_E1 K)) "index" = some none) ∧ (PySem.W.findIn K (.ref (Ad_E1 K)) "part" = some none)
instance (K : PySem.W.Frag) : Decidable (Fx37 K) := by unfold Fx37; infer_instance
def Fx38 (K : PySem.W.Frag) : Prop := (PySem.W.findIn K (.ref (Ad_E1 K)) "word" = some none) ∧ (PySem.W.findIn K (.ref (Ad_E1 K)) "fact" = some none) ∧ (PySem.W.isClsIn K (Ad_E2 K) = true) ∧ (PySem.W.findIn K (.ref (Ad_E2 K)) "__getattribute__" = some (some (.builtin "BaseException.__getattribute__"))) ∧ (PySem.W.findIn K (.ref (Ad_E2 K)) "__getattr__" = some none) ∧ (PySem.W.subIn K (.ref (Ad_E2 K)) (.type "BaseException") = some true) ∧ (PySem.W.findIn K (.ref (Ad_E2 K)) "__class__" = some (some (.builtin "object.__class__"))) ∧ (PySem.W.mroIn K (Ad_E2 K) (.type "object") = some true) ∧ (PySem.W.hasDictIn K (Ad_E2 K) = true) ∧ (PySem.W.subIn K (.ref (Ad_E2 K)) (.ref (Ad_CE K)) = some true) ∧ (PySem.W.subIn K (.ref (Ad_E2 K)) (.type "ValueError") = some true) ∧ (PySem.W.subIn K (.ref (Ad_E2 K)) (.ref (Ad_E0 K)) = some false)
instance (K : PySem.W.Frag) : Decidable (Fx38 K) := by unfold Fx38; infer_instance
def Fx39 (K : PySem.W.Frag) : Prop := (PySem.W.subIn K (.ref (Ad_E2 K)) (.ref (Ad_E1 K)) = some false) ∧ (PySem.W.subIn K (.ref (Ad_E2 K)) (.ref (Ad_E2 K)) = some true) ∧ (PySem.W.subIn K (.ref (Ad_E2 K)) (.ref (Ad_E3 K)) = some false) ∧ (PySem.W.subIn K (.ref (Ad_E2 K)) (.ref (Ad_E4 K)) = some false) ∧ (PySem.W.subIn K (.ref (Ad_E2 K)) (.ref (Ad_E5 K)) = some false) ∧ (PySem.W.subIn K (.ref (Ad_E2 K)) (.ref (Ad_E6 K)) = some false) ∧ (PySem.W.subIn K (.ref (Ad_E2 K)) (.ref (Ad_E7 K)) = some false) ∧ (PySem.W.subIn K (.ref (Ad_E2 K)) (.ref (Ad_E8 K)) = some false) ∧ (PySem.W.subIn K (.ref (Ad_E2 K)) (.ref (Ad_E9 K)) = some false) ∧ (PySem.W.subIn K (.ref (Ad_E2 K)) (.ref (Ad_E10 K)) = some false) ∧ (PySem.W.findIn K (.ref (Ad_E2 K)) "index" = some none) ∧ (PySem.W.findIn K (.ref (Ad_E2 K)) "part" = some none)
instance (K : PySem.W.Frag) : Decidable (Fx39 K) := by unfold Fx39; infer_instance
def Fx40 (K : PySem.W.Frag) : Prop := (PySem.W.findIn K (.ref (Ad_E2 K)) "word" = some none) ∧ (PySem.W.findIn K (.ref (Ad_E2 K)) "fact" = some none) ∧ (PySem.W.isClsIn K (Ad_E3 K) = true) ∧ (PySem.W.findIn K (.ref (Ad_E3 K)) "__getattribute__" = some (some (.builtin "BaseException.__getattribute__"))) ∧ (PySem.W.findIn K (.ref (Ad_E3 K)) "__getattr__" = some none) ∧ (PySem.W.subIn K (.ref (Ad_E3 K)) (.type "BaseException") = some true) ∧ (PySem.W.findIn K (.ref (Ad_E3 K)) "__class__" = some (some (.builtin "object.__class__"))) ∧ (PySem.W.mroIn K (Ad_E3 K) (.type "object") = some true) ∧ (PySem.W.hasDictIn K (Ad_E3 K) = true) ∧ (PySem.W.subIn K (.ref (Ad_E3 K)) (.ref (Ad_CE K)) = some true) ∧ (PySem.W.subIn K (.ref (Ad_E3 K)) (.type "ValueError") = some true) ∧ (PySem.W.subIn K (.ref (Ad_E3 K)) (.ref (Ad_E0 K)) = some false)
instance (K : PySem.W.Frag) : Decidable (Fx40 K) := by unfold Fx40; infer_instance
def Fx41 (K : PySem.W.Frag) : Prop := (PySem.W.subIn K (.ref (Ad_E3 K)) (.ref (Ad_E1 K)) = some false) ∧ (PySem.W.subIn K (.ref (Ad_E3 K)) (.ref (Ad_E2 K)) = some false) ∧ (PySem.W.subIn K (.ref (Ad_E3 K)) (.ref (Ad_E3 K)) = some true) ∧ (PySem.W.subIn K (.ref (Ad_E3 K)) (.ref (Ad_E4 K)) = some false) ∧ (PySem.W.subIn K (.ref (Ad_E3 K)) (.ref (Ad_E5 K)) = some false) ∧ (PySem.W.subIn K (.ref (Ad_E3 K)) (.ref (Ad_E6 K)) = some false) ∧ (PySem.W.subIn K (.ref (Ad_E3 K)) (.ref (Ad_E7 K)) = some false) ∧ (PySem.W.subIn K (.ref (Ad_E3 K)) (.ref (Ad_E8 K)) = some false) ∧ (PySem.W.subIn K (.ref (Ad_E3 K)) (.ref (Ad_E9 K)) = some false) ∧ (PySem.W.subIn K (.ref (Ad_E3 K)) (.ref (Ad_E10 K)) = some false) ∧ (PySem.W.findIn K (.ref (Ad_E3 K)) "index" = some none) ∧ (PySem.W.findIn K (.ref (Ad_E3 K)) "part" = some none)
instance (K : PySem.W.Frag) : Decidable (Fx41 K) := by unfold Fx41; infer_instance
def Fx42 (K : PySem.W.Frag) : Prop := (PySem.W.findIn K (.ref (Ad_E3 K)) "word" = some none) ∧ (PySem.W.findIn K (.ref (Ad_E3 K)) "fact" = some none) ∧ (PySem.W.isClsIn K (Ad_E4 K) = true) ∧ (PySem.W.findIn K (.ref (Ad_E4 K)) "__getattribute__" = some (some (.builtin "BaseException.__getattribute__"))) ∧ (PySem.W.findIn K (.ref (Ad_E4 K)) "__getattr__" = some none) ∧ (PySem.W.subIn K (.ref (Ad_E4 K)) (.type "BaseException") = some true) ∧ (PySem.W.findIn K (.ref (Ad_E4 K)) "__class__" = some (some (.builtin "object.__class__"))) ∧ (PySem.W.mroIn K (Ad_E4 K) (.type "object") = some true) ∧ (PySem.W.hasDictIn K (Ad_E4 K) = true) ∧ (PySem.W.subIn K (.ref (Ad_E4 K)) (.ref (Ad_CE K)) = some true) ∧ (PySem.W.subIn K (.ref (Ad_E4 K)) (.type "ValueError") = some true) ∧ (PySem.W.subIn K (.ref (Ad_E4 K)) (.ref (Ad_E0 K)) = some false)
instance (K : PySem.W.Frag) : Decidable (Fx42 K) := by unfold Fx42; infer_instance
def Fx43 (K : PySem.W.Frag) : Prop := (PySem.W.subIn K (.ref (Ad_E4 K)) (.ref (Ad_E1 K)) = some false) ∧ (PySem.W.subIn K (.ref (Ad_E4 K)) (.ref (Ad_E2 K)) = some false) ∧ (PySem.W.subIn K (.ref (Ad_E4 K)) (.ref (Ad_E3 K)) = some false) ∧ (PySem.W.subIn K (.ref (Ad_E4 K)) (.ref (Ad_E4 K)) = some true) ∧ (PySem.W.subIn K (.ref (Ad_E4 K)) (.ref (Ad_E5 K)) = some false) ∧ (PySem.W.subIn K (.ref (Ad_E4 K)) (.ref (Ad_E6 K)) = some false) ∧ (PySem.W.subIn K (.ref (Ad_E4 K)) (.ref (Ad_E7 K)) = some false) ∧ (PySem.W.subIn K (.ref (Ad_E4 K)) (.ref (Ad_E8 K)) = some false) ∧ (PySem.W.subIn K (.ref (Ad_E4 K)) (.ref (Ad_E9 K)) = some false) ∧ (PySem.W.subIn K (.ref (Ad_E4 K)) (.ref (Ad_E10 K)) = some false) ∧ (PySem.W.findIn K (.ref (Ad_E4 K)) "index" = some none) ∧ (PySem.W.findIn K (.ref (Ad_E4 K)) "part" = some none)
instance (K : PySem.W.Frag) : Decidable (Fx43 K) := by unfold Fx43; infer_instance
def Fx44 (K : PySem.W.Frag) : Prop := (PySem.W.findIn K (.ref (Ad_E4 K)) "word" = some none) ∧ (PySem.W.findIn K (.ref (Ad_E4 K)) "fact" = some none) ∧ (PySem.W.specialIn K (.builtin "object.__class__") "__get__" = some (some (.builtin "getset_descriptor.__get__"))) ∧ (PySem.W.takesIn K (.builtin "object.__class__") = some true) ∧ (excB K (Ad_CE K) "ValueError.__new__" = true) ∧ (PySem.W.findIn K (.ref (Ad_CE K)) "__init__" = some (some (.builtin "ValueError.__init__"))) ∧ (PySem.W.nsIn K mainGlobals "super" = some none) ∧ (PySem.W.nsIn K cStatics "thirdparty.any" = some none) ∧ (excB K (Ad_E1 K) "ValueError.__new__" = true) ∧ (HandSPX.refsVE (mroT K (Ad_E1 K)) = true) ∧ (PySem.W.findIn K (.ref (Ad_E1 K)) "__setattr__" = some (some (.builtin "object.__setattr__"))) ∧ (PySem.W.typeIn K (.ref (Ad_E1 K)) = some (.type "type"))
instance (K : PySem.W.Frag) : Decidable (Fx44 K) := by unfold Fx44; infer_instance
def Fx45 (K : PySem.W.Frag) : Prop := (PySem.W.keepIn K (.ref (Ad_E1 K)) = true) ∧ (PySem.W.findIn K (.ref (Ad_E1 K)) "__init__" = some (some (.ref (Ad_fIi1 K)))) ∧ (PySem.W.typeIn K (.ref (Ad_fIi1 K)) = some (.type "function")) ∧ (fnBC K (Ad_fIi1 K) "InvalidCase.__init__" = true) ∧ (cellB K (Ad_celi1 K) (Ad_E1 K) = true) ∧ (fileB K (Ad_codi1 K) theFile = true) ∧ (PySem.W.mroIn K (Ad_E1 K) (.ref (Ad_E1 K)) = some true) ∧ ((mroT K (Ad_E1 K)) = .ref (Ad_CE K) :: (mroT K (Ad_CE K))) ∧ (PySem.W.subIn K (.ref (Ad_E1 K)) (.type "ValueError") = some true) ∧ (PySem.W.subIn K (.ref (Ad_E1 K)) (.type "BaseException") = some true) ∧ (PySem.W.findIn K (.ref (Ad_E1 K)) "index" = some none) ∧ (excB K (Ad_E7 K) "ValueError.__new__" = true)
instance (K : PySem.W.Frag) : Decidable (Fx45 K) := by unfold Fx45; infer_instance
def Fx46 (K : PySem.W.Frag) : Prop := (HandSPX.refsVE (mroT K (Ad_E7 K)) = true) ∧ (PySem.W.findIn K (.ref (Ad_E7 K)) "__setattr__" = some (some (.builtin "object.__setattr__"))) ∧ (PySem.W.typeIn K (.ref (Ad_E7 K)) = some (.type "type")) ∧ (PySem.W.keepIn K (.ref (Ad_E7 K)) = true) ∧ (PySem.W.findIn K (.ref (Ad_E7 K)) "__init__" = some (some (.ref (Ad_fIi7 K)))) ∧ (PySem.W.typeIn K (.ref (Ad_fIi7 K)) = some (.type "function")) ∧ (fnBC K (Ad_fIi7 K) "InvalidFacts.__init__" = true) ∧ (cellB K (Ad_celi7 K) (Ad_E7 K) = true) ∧ (fileB K (Ad_codi7 K) theFile = true) ∧ (PySem.W.mroIn K (Ad_E7 K) (.ref (Ad_E7 K)) = some true) ∧ ((mroT K (Ad_E7 K)) = .ref (Ad_CE K) :: (mroT K (Ad_CE K))) ∧ (PySem.W.subIn K (.ref (Ad_E7 K)) (.type "ValueError") = some true)
instance (K : PySem.W.Frag) : Decidable (Fx46 K) := by unfold Fx46; infer_instance
def Fx47 (K : PySem.W.Frag) : Prop := (PySem.W.subIn K (.ref (Ad_E7 K)) (.type "BaseException") = some true) ∧ (PySem.W.findIn K (.ref (Ad_E7 K)) "index" = some none) ∧ (excB K (Ad_E8 K) "ValueError.__new__" = true) ∧ (HandSPX.refsVE (mroT K (Ad_E8 K)) = true) ∧ (PySem.W.findIn K (.ref (Ad_E8 K)) "__setattr__" = some (some (.builtin "object.__setattr__"))) ∧ (PySem.W.typeIn K (.ref (Ad_E8 K)) = some (.type "type")) ∧ (PySem.W.keepIn K (.ref (Ad_E8 K)) = true) ∧ (PySem.W.findIn K (.ref (Ad_E8 K)) "__init__" = some (some (.ref (Ad_fIi8 K)))) ∧ (PySem.W.typeIn K (.ref (Ad_fIi8 K)) = some (.type "function")) ∧ (fnBC K (Ad_fIi8 K) "InvalidCondition.__init__" = true) ∧ (cellB K (Ad_celi8 K) (Ad_E8 K) = true) ∧ (fileB K (Ad_codi8 K) theFile = true)
instance (K : PySem.W.Frag) : Decidable (Fx47 K) := by unfold Fx47; infer_instance
def Fx48 (K : PySem.W.Frag) : Prop := (PySem.W.mroIn K (Ad_E8 K) (.ref (Ad_E8 K)) = some true) ∧ ((mroT K (Ad_E8 K)) = .ref (Ad_CE K) :: (mroT K (Ad_CE K))) ∧ (PySem.W.subIn K (.ref (Ad_E8 K)) (.type "ValueError") = some true) ∧ (PySem.W.subIn K (.ref (Ad_E8 K)) (.type "BaseException") = some true) ∧ (PySem.W.findIn K (.ref (Ad_E8 K)) "part" = some none) ∧ (PySem.W.findIn K (.ref (Ad_E8 K)) "index" = some none) ∧ (excB K (Ad_E9 K) "ValueError.__new__" = true) ∧ (HandSPX.refsVE (mroT K (Ad_E9 K)) = true) ∧ (PySem.W.findIn K (.ref (Ad_E9 K)) "__setattr__" = some (some (.builtin "object.__setattr__"))) ∧ (PySem.W.typeIn K (.ref (Ad_E9 K)) = some (.type "type")) ∧ (PySem.W.keepIn K (.ref (Ad_E9 K)) = true) ∧ (PySem.W.findIn K (.ref (Ad_E9 K)) "__init__" = some (some (.ref (Ad_fIi9 K))))
instance (K : PySem.W.Frag) : Decidable (Fx48 K) := by unfold Fx48; infer_instance
def Fx49 (K : PySem.W.Frag) : Prop := (PySem.W.typeIn K (.ref (Ad_fIi9 K)) = some (.type "function")) ∧ (fnBC K (Ad_fIi9 K) "InvalidRule.__init__" = true) ∧ (cellB K (Ad_celi9 K) (Ad_E9 K) = true) ∧ (fileB K (Ad_codi9 K) theFile = true) ∧ (PySem.W.mroIn K (Ad_E9 K) (.ref (Ad_E9 K)) = some true) ∧ ((mroT K (Ad_E9 K)) = .ref (Ad_CE K) :: (mroT K (Ad_CE K))) ∧ (PySem.W.subIn K (.ref (Ad_E9 K)) (.type "ValueError") = some true) ∧ (PySem.W.subIn K (.ref (Ad_E9 K)) (.type "BaseException") = some true) ∧ (PySem.W.findIn K (.ref (Ad_E9 K)) "part" = some none) ∧ (excB K (Ad_E10 K) "ValueError.__new__" = true) ∧ (HandSPX.refsVE (mroT K (Ad_E10 K)) = true) ∧ (PySem.W.findIn K (.ref (Ad_E10 K)) "__setattr__" = some (some (.builtin "object.__setattr__")))
instance (K : PySem.W.Frag) : Decidable (Fx49 K) := by unfold Fx49; infer_instance
def Fx50 (K : PySem.W.Frag) : Prop := (PySem.W.typeIn K (.ref (Ad_E10 K)) = some (.type "type")) ∧ (PySem.W.keepIn K (.ref (Ad_E10 K)) = true) ∧ (PySem.W.findIn K (.ref (Ad_E10 K)) "__init__" = some (some (.ref (Ad_fIi10 K)))) ∧ (PySem.W.typeIn K (.ref (Ad_fIi10 K)) = some (.type "function")) ∧ (fnBC K (Ad_fIi10 K) "InvalidBook.__init__" = true) ∧ (cellB K (Ad_celi10 K) (Ad_E10 K) = true) ∧ (fileB K (Ad_codi10 K) theFile = true) ∧ (PySem.W.mroIn K (Ad_E10 K) (.ref (Ad_E10 K)) = some true) ∧ ((mroT K (Ad_E10 K)) = .ref (Ad_CE K) :: (mroT K (Ad_CE K))) ∧ (PySem.W.subIn K (.ref (Ad_E10 K)) (.type "ValueError") = some true) ∧ (PySem.W.subIn K (.ref (Ad_E10 K)) (.type "BaseException") = some true) ∧ (PySem.W.findIn K (.ref (Ad_E10 K)) "word" = some none)
instance (K : PySem.W.Frag) : Decidable (Fx50 K) := by unfold Fx50; infer_instance
def Fx51 (K : PySem.W.Frag) : Prop := (PySem.W.findIn K (.ref (Ad_E10 K)) "index" = some none) ∧ (PySem.W.excIn K (Ad_E0 K) [.type "ValueError", .type "Exception", .type "BaseException", .type "object"] "ValueError.__new__" = true) ∧ (PySem.W.keepIn K (.ref (Ad_E0 K)) = true) ∧ (PySem.W.subIn K (.ref (Ad_E0 K)) (.type "BaseException") = some true) ∧ (PySem.W.typeIn K (.ref (Ad_E0 K)) = some (.type "type")) ∧ (PySem.W.excIn K (Ad_E2 K) [.type "ValueError", .type "Exception", .type "BaseException", .type "object"] "ValueError.__new__" = true) ∧ (PySem.W.keepIn K (.ref (Ad_E2 K)) = true) ∧ (PySem.W.subIn K (.ref (Ad_E2 K)) (.type "BaseException") = some true) ∧ (PySem.W.typeIn K (.ref (Ad_E2 K)) = some (.type "type")) ∧ (PySem.W.excIn K (Ad_E3 K) [.type "ValueError", .type "Exception", .type "BaseException", .type "object"] "ValueError.__new__" = true) ∧ (PySem.W.keepIn K (.ref (Ad_E3 K)) = true) ∧ (PySem.W.subIn K (.ref (Ad_E3 K)) (.type "BaseException") = some true)
instance (K : PySem.W.Frag) : Decidable (Fx51 K) := by unfold Fx51; infer_instance
def Fx52 (K : PySem.W.Frag) : Prop := (PySem.W.typeIn K (.ref (Ad_E3 K)) = some (.type "type")) ∧ (PySem.W.excIn K (Ad_E4 K) [.type "ValueError", .type "Exception", .type "BaseException", .type "object"] "ValueError.__new__" = true) ∧ (PySem.W.keepIn K (.ref (Ad_E4 K)) = true) ∧ (PySem.W.subIn K (.ref (Ad_E4 K)) (.type "BaseException") = some true) ∧ (PySem.W.typeIn K (.ref (Ad_E4 K)) = some (.type "type")) ∧ (PySem.W.excIn K (Ad_E5 K) [.type "ValueError", .type "Exception", .type "BaseException", .type "object"] "ValueError.__new__" = true) ∧ (PySem.W.keepIn K (.ref (Ad_E5 K)) = true) ∧ (PySem.W.subIn K (.ref (Ad_E5 K)) (.type "BaseException") = some true) ∧ (PySem.W.typeIn K (.ref (Ad_E5 K)) = some (.type "type")) ∧ (PySem.W.excIn K (Ad_E6 K) [.type "ValueError", .type "Exception", .type "BaseException", .type "object"] "ValueError.__new__" = true) ∧ (PySem.W.keepIn K (.ref (Ad_E6 K)) = true) ∧ (PySem.W.subIn K (.ref (Ad_E6 K)) (.type "BaseException") = some true)
instance (K : PySem.W.Frag) : Decidable (Fx52 K) := by unfold Fx52; infer_instance
def Fx53 (K : PySem.W.Frag) : Prop := (PySem.W.typeIn K (.ref (Ad_E6 K)) = some (.type "type"))
instance (K : PySem.W.Frag) : Decidable (Fx53 K) := by unfold Fx53; infer_instance
def fn0 : FnDY := ⟨Ad_f_is_name, "is_name", "is_name", defArgs s_is_name, defBody s_is_name, defScope s_is_name⟩
def fn1 : FnDY := ⟨Ad_f_check_word, "check_word", "check_word", defArgs s_check_word, defBody s_check_word, defScope s_check_word⟩
def fn2 : FnDY := ⟨Ad_f_rises, "rises", "rises", defArgs s_rises, defBody s_rises, defScope s_rises⟩
def fn3 : FnDY := ⟨Ad_f_check_facts, "check_facts", "check_facts", defArgs s_check_facts, defBody s_check_facts, defScope s_check_facts⟩
def fn4 : FnDY := ⟨Ad_f_check_case, "check_case", "check_case", defArgs s_check_case, defBody s_check_case, defScope s_check_case⟩
def fn5 : FnDY := ⟨Ad_f_steps, "steps", "steps", defArgs s_steps, defBody s_steps, defScope s_steps⟩
def fn6 : FnDY := ⟨Ad_f_up_to_first_met, "up_to_first_met", "up_to_first_met", defArgs s_up_to_first_met, defBody s_up_to_first_met, defScope s_up_to_first_met⟩
def fn7 : FnDY := ⟨Ad_f_looked_into, "looked_into", "looked_into", defArgs s_looked_into, defBody s_looked_into, defScope s_looked_into⟩
def fn8 : FnDY := ⟨Ad_f_nested, "nested", "nested", defArgs s_nested, defBody s_nested, defScope s_nested⟩
def fn9 : FnDY := ⟨Ad_f_check_rules, "check_rules", "check_rules", defArgs s_check_rules, defBody s_check_rules, defScope s_check_rules⟩
def fn10 : FnDY := ⟨Ad_f_replaced, "replaced", "replaced", defArgs s_replaced, defBody s_replaced, defScope s_replaced⟩
def fn11 : FnDY := ⟨Ad_f_path_to, "path_to", "path_to", defArgs s_path_to, defBody s_path_to, defScope s_path_to⟩
def fn12 : FnDY := ⟨Ad_f_next_beside, "next_beside", "next_beside", defArgs s_next_beside, defBody s_next_beside, defScope s_next_beside⟩
def fn13 : FnDY := ⟨Ad_f_swapped, "swapped", "swapped", defArgs s_swapped, defBody s_swapped, defScope s_swapped⟩
def fn14 : FnDY := ⟨Ad_f_check_part, "check_part", "check_part", defArgs s_check_part, defBody s_check_part, defScope s_check_part⟩
def fn15 : FnDY := ⟨Ad_f_merged, "merged", "merged", defArgs s_merged, defBody s_merged, defScope s_merged⟩
def fn16 : FnDY := ⟨Ad_f_amended, "amended", "amended", defArgs s_amended, defBody s_amended, defScope s_amended⟩
def fn17 : FnDY := ⟨Ad_f_amended_book, "amended_book", "amended_book", defArgs s_amended_book, defBody s_amended_book, defScope s_amended_book⟩
def fn18 : FnDY := ⟨Ad_f_amended_rule, "amended_rule", "amended_rule", defArgs s_amended_rule, defBody s_amended_rule, defScope s_amended_rule⟩
def fn19 : FnDY := ⟨Ad_f_is_amendment, "is_amendment", "is_amendment", defArgs s_is_amendment, defBody s_is_amendment, defScope s_is_amendment⟩
def fn20 : FnDY := ⟨Ad_f_is_new, "is_new", "is_new", defArgs s_is_new, defBody s_is_new, defScope s_is_new⟩
def fn21 : FnDY := ⟨Ad_f_decider, "decider", "decider", defArgs s_decider, defBody s_decider, defScope s_decider⟩
def fn22 : FnDY := ⟨Ad_f_outcome, "outcome", "outcome", defArgs s_outcome, defBody s_outcome, defScope s_outcome⟩
def fn23 : FnDY := ⟨Ad_f_way, "way", "way", defArgs s_way, defBody s_way, defScope s_way⟩
def fn24 : FnDY := ⟨Ad_f_small_conditions, "small_conditions", "small_conditions", defArgs s_small_conditions, defBody s_small_conditions, defScope s_small_conditions⟩
def fn25 : FnDY := ⟨Ad_f_orders_of, "orders_of", "orders_of", defArgs s_orders_of, defBody s_orders_of, defScope s_orders_of⟩
def fn26 : FnDY := ⟨Ad_f_check_left, "check_left", "check_left", defArgs s_check_left, defBody s_check_left, defScope s_check_left⟩
def fn27 : FnDY := ⟨Ad_f__law_mix, "_law_mix", "_law_mix", defArgs s__law_mix, defBody s__law_mix, defScope s__law_mix⟩
def fn28 : FnDY := ⟨Ad_f__law_next, "_law_next", "_law_next", defArgs s__law_next, defBody s__law_next, defScope s__law_next⟩
def fn29 : FnDY := ⟨Ad_f__law_word, "_law_word", "_law_word", defArgs s__law_word, defBody s__law_word, defScope s__law_word⟩
def fn30 : FnDY := ⟨Ad_f_law, "law", "law", defArgs s_law, defBody s_law, defScope s_law⟩
def fn31 : FnDY := ⟨Ad_f_mi, "__init__", "Condition.__init__", defArgs s_Condition___init__, defBody s_Condition___init__, defScope s_Condition___init__⟩
def fn32 : FnDY := ⟨Ad_f_mh, "holding", "Condition.holding", defArgs s_Condition_holding, defBody s_Condition_holding, defScope s_Condition_holding⟩
def fn33 : FnDY := ⟨Ad_f_mf, "failing", "Condition.failing", defArgs s_Condition_failing, defBody s_Condition_failing, defScope s_Condition_failing⟩
def fn34 : FnDY := ⟨Ad_f_mn, "names", "Condition.names", defArgs s_Condition_names, defBody s_Condition_names, defScope s_Condition_names⟩
def fn35 : FnDY := ⟨Ad_f_ri, "__init__", "Rule.__init__", defArgs s_Rule___init__, defBody s_Rule___init__, defScope s_Rule___init__⟩
def fn36 : FnDY := ⟨Ad_f_rn, "name", "Rule.name", defArgs s_Rule_name, defBody s_Rule_name, defScope s_Rule_name⟩
def fn37 : FnDY := ⟨Ad_f_rc, "condition", "Rule.condition", defArgs s_Rule_condition, defBody s_Rule_condition, defScope s_Rule_condition⟩
def fn38 : FnDY := ⟨Ad_f_rr, "ruling", "Rule.ruling", defArgs s_Rule_ruling, defBody s_Rule_ruling, defScope s_Rule_ruling⟩
def fn39 : FnDY := ⟨Ad_f_re, "exceptions", "Rule.exceptions", defArgs s_Rule_exceptions, defBody s_Rule_exceptions, defScope s_Rule_exceptions⟩
def fn40 : FnDY := ⟨Ad_f_rd, "depth", "Rule.depth", defArgs s_Rule_depth, defBody s_Rule_depth, defScope s_Rule_depth⟩
def fn41 : FnDY := ⟨Ad_f_bi, "__init__", "Book.__init__", defArgs s_Book___init__, defBody s_Book___init__, defScope s_Book___init__⟩
def fn42 : FnDY := ⟨Ad_f_bf, "facts", "Book.facts", defArgs s_Book_facts, defBody s_Book_facts, defScope s_Book_facts⟩
def fn43 : FnDY := ⟨Ad_f_bs, "rules", "Book.rules", defArgs s_Book_rules, defBody s_Book_rules, defScope s_Book_rules⟩
def fn44 : FnDY := ⟨Ad_f_br, "ruling", "Book.ruling", defArgs s_Book_ruling, defBody s_Book_ruling, defScope s_Book_ruling⟩
def fn45 : FnDY := ⟨Ad_f_wi, "__init__", "ConditionWatcher.__init__", defArgs s_ConditionWatcher___init__, defBody s_ConditionWatcher___init__, defScope s_ConditionWatcher___init__⟩
def fn46 : FnDY := ⟨Ad_f_wc, "candidates", "ConditionWatcher.candidates", defArgs s_ConditionWatcher_candidates, defBody s_ConditionWatcher_candidates, defScope s_ConditionWatcher_candidates⟩
def fn47 : FnDY := ⟨Ad_f_wr, "records", "ConditionWatcher.records", defArgs s_ConditionWatcher_records, defBody s_ConditionWatcher_records, defScope s_ConditionWatcher_records⟩
def fn48 : FnDY := ⟨Ad_f_oi, "__init__", "OrderWatcher.__init__", defArgs s_OrderWatcher___init__, defBody s_OrderWatcher___init__, defScope s_OrderWatcher___init__⟩
def fn49 : FnDY := ⟨Ad_f_oc, "order_count", "OrderWatcher.order_count", defArgs s_OrderWatcher_order_count, defBody s_OrderWatcher_order_count, defScope s_OrderWatcher_order_count⟩
def fn50 : FnDY := ⟨Ad_f_or, "records", "OrderWatcher.records", defArgs s_OrderWatcher_records, defBody s_OrderWatcher_records, defScope s_OrderWatcher_records⟩
def fn51 : FnDY := ⟨Ad_f_gc, "__contains__", "Book.__contains__", defArgs s_Book___contains__, defBody s_Book___contains__, defScope s_Book___contains__⟩
def fn52 : FnDY := ⟨Ad_f_gi, "__getitem__", "Book.__getitem__", defArgs s_Book___getitem__, defBody s_Book___getitem__, defScope s_Book___getitem__⟩
def fn53 : FnDY := ⟨Ad_f_gs, "__sub__", "Book.__sub__", defArgs s_Book___sub__, defBody s_Book___sub__, defScope s_Book___sub__⟩
def fn54 : FnDY := ⟨Ad_f_bc, "__call__", "Book.__call__", defArgs s_Book___call__, defBody s_Book___call__, defScope s_Book___call__⟩
def fn55 : FnDY := ⟨Ad_f_mc, "__call__", "Condition.__call__", defArgs s_Condition___call__, defBody s_Condition___call__, defScope s_Condition___call__⟩
def fn56 : FnDY := ⟨Ad_f_wq, "_outcomes", "ConditionWatcher._outcomes", defArgs s_ConditionWatcher__outcomes, defBody s_ConditionWatcher__outcomes, defScope s_ConditionWatcher__outcomes⟩
def fn57 : FnDY := ⟨Ad_f_wa, "_accept", "ConditionWatcher._accept", defArgs s_ConditionWatcher__accept, defBody s_ConditionWatcher__accept, defScope s_ConditionWatcher__accept⟩
def fn58 : FnDY := ⟨Ad_f_ws, "see", "ConditionWatcher.see", defArgs s_ConditionWatcher_see, defBody s_ConditionWatcher_see, defScope s_ConditionWatcher_see⟩
def fn59 : FnDY := ⟨Ad_f_wd, "see_decider", "ConditionWatcher.see_decider", defArgs s_ConditionWatcher_see_decider, defBody s_ConditionWatcher_see_decider, defScope s_ConditionWatcher_see_decider⟩
def fn60 : FnDY := ⟨Ad_f_wp, "possible", "ConditionWatcher.possible", defArgs s_ConditionWatcher_possible, defBody s_ConditionWatcher_possible, defScope s_ConditionWatcher_possible⟩
def fn61 : FnDY := ⟨Ad_f_os, "see", "OrderWatcher.see", defArgs s_OrderWatcher_see, defBody s_OrderWatcher_see, defScope s_OrderWatcher_see⟩
def fn62 : FnDY := ⟨Ad_f_ou, "sure", "OrderWatcher.sure", defArgs s_OrderWatcher_sure, defBody s_OrderWatcher_sure, defScope s_OrderWatcher_sure⟩
def fn63 : FnDY := ⟨Ad_fIi1, (nf_InvalidCase 0 0).name, (nf_InvalidCase 0 0).qual, (nf_InvalidCase 0 0).params, (nf_InvalidCase 0 0).body, (nf_InvalidCase 0 0).scope⟩
def fn64 : FnDY := ⟨Ad_fIi7, (nf_InvalidFacts 0 0).name, (nf_InvalidFacts 0 0).qual, (nf_InvalidFacts 0 0).params, (nf_InvalidFacts 0 0).body, (nf_InvalidFacts 0 0).scope⟩
def fn65 : FnDY := ⟨Ad_fIi8, (nf_InvalidCondition 0 0).name, (nf_InvalidCondition 0 0).qual, (nf_InvalidCondition 0 0).params, (nf_InvalidCondition 0 0).body, (nf_InvalidCondition 0 0).scope⟩
def fn66 : FnDY := ⟨Ad_fIi9, (nf_InvalidRule 0 0).name, (nf_InvalidRule 0 0).qual, (nf_InvalidRule 0 0).params, (nf_InvalidRule 0 0).body, (nf_InvalidRule 0 0).scope⟩
def fn67 : FnDY := ⟨Ad_fIi10, (nf_InvalidBook 0 0).name, (nf_InvalidBook 0 0).qual, (nf_InvalidBook 0 0).params, (nf_InvalidBook 0 0).body, (nf_InvalidBook 0 0).scope⟩
def ex_0 (K : PySem.W.Frag) : Bool := ([fun K => decide (Fx0 K), fun K => decide (Fx1 K), fun K => decide (Fx2 K), fun K => decide (Fx3 K), fun K => decide (Fx4 K), fun K => decide (Fx5 K), fun K => decide (Fx6 K), fun K => decide (Fx7 K), fun K => decide (Fx8 K)] : List (PySem.W.Frag → Bool)).all fun f => f K
def fn_0 : List FnDY := [fn0, fn1, fn2, fn3, fn4, fn5, fn6, fn7, fn8, fn9, fn10, fn11]
def tf_0 : List (PySem.W.Frag → Addr) := [Ad_cc_law]
def ex_1 (K : PySem.W.Frag) : Bool := ([fun K => decide (Fx9 K), fun K => decide (Fx10 K), fun K => decide (Fx11 K), fun K => decide (Fx12 K), fun K => decide (Fx13 K), fun K => decide (Fx14 K), fun K => decide (Fx15 K), fun K => decide (Fx16 K), fun K => decide (Fx17 K)] : List (PySem.W.Frag → Bool)).all fun f => f K
def fn_1 : List FnDY := [fn12, fn13, fn14, fn15, fn16, fn17, fn18, fn19, fn20, fn21, fn22, fn23]
def tf_1 : List (PySem.W.Frag → Addr) := []
def ex_2 (K : PySem.W.Frag) : Bool := ([fun K => decide (Fx18 K), fun K => decide (Fx19 K), fun K => decide (Fx20 K), fun K => decide (Fx21 K), fun K => decide (Fx22 K), fun K => decide (Fx23 K), fun K => decide (Fx24 K), fun K => decide (Fx25 K), fun K => decide (Fx26 K)] : List (PySem.W.Frag → Bool)).all fun f => f K
def fn_2 : List FnDY := [fn24, fn25, fn26, fn27, fn28, fn29, fn30, fn31, fn32, fn33, fn34, fn35]
def tf_2 : List (PySem.W.Frag → Addr) := []
def ex_3 (K : PySem.W.Frag) : Bool := ([fun K => decide (Fx27 K), fun K => decide (Fx28 K), fun K => decide (Fx29 K), fun K => decide (Fx30 K), fun K => decide (Fx31 K), fun K => decide (Fx32 K), fun K => decide (Fx33 K), fun K => decide (Fx34 K), fun K => decide (Fx35 K)] : List (PySem.W.Frag → Bool)).all fun f => f K
def fn_3 : List FnDY := [fn36, fn37, fn38, fn39, fn40, fn41, fn42, fn43, fn44, fn45, fn46, fn47]
def tf_3 : List (PySem.W.Frag → Addr) := []
def ex_4 (K : PySem.W.Frag) : Bool := ([fun K => decide (Fx36 K), fun K => decide (Fx37 K), fun K => decide (Fx38 K), fun K => decide (Fx39 K), fun K => decide (Fx40 K), fun K => decide (Fx41 K), fun K => decide (Fx42 K), fun K => decide (Fx43 K), fun K => decide (Fx44 K)] : List (PySem.W.Frag → Bool)).all fun f => f K
def fn_4 : List FnDY := [fn48, fn49, fn50, fn51, fn52, fn53, fn54, fn55, fn56, fn57, fn58, fn59]
def tf_4 : List (PySem.W.Frag → Addr) := []
def ex_5 (K : PySem.W.Frag) : Bool := ([fun K => decide (Fx45 K), fun K => decide (Fx46 K), fun K => decide (Fx47 K), fun K => decide (Fx48 K), fun K => decide (Fx49 K), fun K => decide (Fx50 K), fun K => decide (Fx51 K), fun K => decide (Fx52 K), fun K => decide (Fx53 K)] : List (PySem.W.Frag → Bool)).all fun f => f K
def fn_5 : List FnDY := [fn60, fn61, fn62, fn63, fn64, fn65, fn66, fn67]
def tf_5 : List (PySem.W.Frag → Addr) := []
abbrev fnL : List FnDY := (((((fn_0 ++ fn_1) ++ fn_2) ++ fn_3) ++ fn_4) ++ fn_5)
abbrev tfL : List (PySem.W.Frag → Addr) := (((((tf_0 ++ tf_1) ++ tf_2) ++ tf_3) ++ tf_4) ++ tf_5)
abbrev exB : PySem.W.Frag → Bool := (fun K => (fun K => (fun K => (fun K => (fun K => ex_0 K && ex_1 K) K && ex_2 K) K && ex_3 K) K && ex_4 K) K && ex_5 K)
theorem mem_at {α : Type} {l : List α} {i : Nat} {a : α} (h : l[i]? = some a) : a ∈ l := List.mem_of_getElem? h
theorem all_at {K : PySem.W.Frag} {L : List (PySem.W.Frag → Bool)} (h : (L.all fun f => f K) = true) (i : Nat) {f : PySem.W.Frag → Bool} (e : L[i]? = some f) : f K = true := List.all_eq_true.mp h f (List.mem_of_getElem? e)
theorem more_0 {h : Heap} {K : PySem.W.Frag} (S : SaysY fnL tfL exB h K) : ex_0 K = true := (ba (ba (ba (ba (ba S.more).1).1).1).1).1
theorem more_1 {h : Heap} {K : PySem.W.Frag} (S : SaysY fnL tfL exB h K) : ex_1 K = true := (ba (ba (ba (ba (ba S.more).1).1).1).1).2
theorem more_2 {h : Heap} {K : PySem.W.Frag} (S : SaysY fnL tfL exB h K) : ex_2 K = true := (ba (ba (ba (ba S.more).1).1).1).2
theorem more_3 {h : Heap} {K : PySem.W.Frag} (S : SaysY fnL tfL exB h K) : ex_3 K = true := (ba (ba (ba S.more).1).1).2
theorem more_4 {h : Heap} {K : PySem.W.Frag} (S : SaysY fnL tfL exB h K) : ex_4 K = true := (ba (ba S.more).1).2
theorem more_5 {h : Heap} {K : PySem.W.Frag} (S : SaysY fnL tfL exB h K) : ex_5 K = true := (ba S.more).2
theorem gx0 {h : Heap} {K : PySem.W.Frag} (S : SaysY fnL tfL exB h K) : Fx0 K := of_decide_eq_true (all_at (more_0 S) 0 rfl)
theorem gx1 {h : Heap} {K : PySem.W.Frag} (S : SaysY fnL tfL exB h K) : Fx1 K := of_decide_eq_true (all_at (more_0 S) 1 rfl)
theorem gx2 {h : Heap} {K : PySem.W.Frag} (S : SaysY fnL tfL exB h K) : Fx2 K := of_decide_eq_true (all_at (more_0 S) 2 rfl)
theorem gx3 {h : Heap} {K : PySem.W.Frag} (S : SaysY fnL tfL exB h K) : Fx3 K := of_decide_eq_true (all_at (more_0 S) 3 rfl)
theorem gx4 {h : Heap} {K : PySem.W.Frag} (S : SaysY fnL tfL exB h K) : Fx4 K := of_decide_eq_true (all_at (more_0 S) 4 rfl)
theorem gx5 {h : Heap} {K : PySem.W.Frag} (S : SaysY fnL tfL exB h K) : Fx5 K := of_decide_eq_true (all_at (more_0 S) 5 rfl)
theorem gx6 {h : Heap} {K : PySem.W.Frag} (S : SaysY fnL tfL exB h K) : Fx6 K := of_decide_eq_true (all_at (more_0 S) 6 rfl)
theorem gx7 {h : Heap} {K : PySem.W.Frag} (S : SaysY fnL tfL exB h K) : Fx7 K := of_decide_eq_true (all_at (more_0 S) 7 rfl)
theorem gx8 {h : Heap} {K : PySem.W.Frag} (S : SaysY fnL tfL exB h K) : Fx8 K := of_decide_eq_true (all_at (more_0 S) 8 rfl)
theorem gx9 {h : Heap} {K : PySem.W.Frag} (S : SaysY fnL tfL exB h K) : Fx9 K := of_decide_eq_true (all_at (more_1 S) 0 rfl)
theorem gx10 {h : Heap} {K : PySem.W.Frag} (S : SaysY fnL tfL exB h K) : Fx10 K := of_decide_eq_true (all_at (more_1 S) 1 rfl)
theorem gx11 {h : Heap} {K : PySem.W.Frag} (S : SaysY fnL tfL exB h K) : Fx11 K := of_decide_eq_true (all_at (more_1 S) 2 rfl)
theorem gx12 {h : Heap} {K : PySem.W.Frag} (S : SaysY fnL tfL exB h K) : Fx12 K := of_decide_eq_true (all_at (more_1 S) 3 rfl)
theorem gx13 {h : Heap} {K : PySem.W.Frag} (S : SaysY fnL tfL exB h K) : Fx13 K := of_decide_eq_true (all_at (more_1 S) 4 rfl)
theorem gx14 {h : Heap} {K : PySem.W.Frag} (S : SaysY fnL tfL exB h K) : Fx14 K := of_decide_eq_true (all_at (more_1 S) 5 rfl)
theorem gx15 {h : Heap} {K : PySem.W.Frag} (S : SaysY fnL tfL exB h K) : Fx15 K := of_decide_eq_true (all_at (more_1 S) 6 rfl)
theorem gx16 {h : Heap} {K : PySem.W.Frag} (S : SaysY fnL tfL exB h K) : Fx16 K := of_decide_eq_true (all_at (more_1 S) 7 rfl)
theorem gx17 {h : Heap} {K : PySem.W.Frag} (S : SaysY fnL tfL exB h K) : Fx17 K := of_decide_eq_true (all_at (more_1 S) 8 rfl)
theorem gx18 {h : Heap} {K : PySem.W.Frag} (S : SaysY fnL tfL exB h K) : Fx18 K := of_decide_eq_true (all_at (more_2 S) 0 rfl)
theorem gx19 {h : Heap} {K : PySem.W.Frag} (S : SaysY fnL tfL exB h K) : Fx19 K := of_decide_eq_true (all_at (more_2 S) 1 rfl)
theorem gx20 {h : Heap} {K : PySem.W.Frag} (S : SaysY fnL tfL exB h K) : Fx20 K := of_decide_eq_true (all_at (more_2 S) 2 rfl)
theorem gx21 {h : Heap} {K : PySem.W.Frag} (S : SaysY fnL tfL exB h K) : Fx21 K := of_decide_eq_true (all_at (more_2 S) 3 rfl)
theorem gx22 {h : Heap} {K : PySem.W.Frag} (S : SaysY fnL tfL exB h K) : Fx22 K := of_decide_eq_true (all_at (more_2 S) 4 rfl)
theorem gx23 {h : Heap} {K : PySem.W.Frag} (S : SaysY fnL tfL exB h K) : Fx23 K := of_decide_eq_true (all_at (more_2 S) 5 rfl)
theorem gx24 {h : Heap} {K : PySem.W.Frag} (S : SaysY fnL tfL exB h K) : Fx24 K := of_decide_eq_true (all_at (more_2 S) 6 rfl)
theorem gx25 {h : Heap} {K : PySem.W.Frag} (S : SaysY fnL tfL exB h K) : Fx25 K := of_decide_eq_true (all_at (more_2 S) 7 rfl)
theorem gx26 {h : Heap} {K : PySem.W.Frag} (S : SaysY fnL tfL exB h K) : Fx26 K := of_decide_eq_true (all_at (more_2 S) 8 rfl)
theorem gx27 {h : Heap} {K : PySem.W.Frag} (S : SaysY fnL tfL exB h K) : Fx27 K := of_decide_eq_true (all_at (more_3 S) 0 rfl)
theorem gx28 {h : Heap} {K : PySem.W.Frag} (S : SaysY fnL tfL exB h K) : Fx28 K := of_decide_eq_true (all_at (more_3 S) 1 rfl)
theorem gx29 {h : Heap} {K : PySem.W.Frag} (S : SaysY fnL tfL exB h K) : Fx29 K := of_decide_eq_true (all_at (more_3 S) 2 rfl)
theorem gx30 {h : Heap} {K : PySem.W.Frag} (S : SaysY fnL tfL exB h K) : Fx30 K := of_decide_eq_true (all_at (more_3 S) 3 rfl)
theorem gx31 {h : Heap} {K : PySem.W.Frag} (S : SaysY fnL tfL exB h K) : Fx31 K := of_decide_eq_true (all_at (more_3 S) 4 rfl)
theorem gx32 {h : Heap} {K : PySem.W.Frag} (S : SaysY fnL tfL exB h K) : Fx32 K := of_decide_eq_true (all_at (more_3 S) 5 rfl)
theorem gx33 {h : Heap} {K : PySem.W.Frag} (S : SaysY fnL tfL exB h K) : Fx33 K := of_decide_eq_true (all_at (more_3 S) 6 rfl)
theorem gx34 {h : Heap} {K : PySem.W.Frag} (S : SaysY fnL tfL exB h K) : Fx34 K := of_decide_eq_true (all_at (more_3 S) 7 rfl)
theorem gx35 {h : Heap} {K : PySem.W.Frag} (S : SaysY fnL tfL exB h K) : Fx35 K := of_decide_eq_true (all_at (more_3 S) 8 rfl)
theorem gx36 {h : Heap} {K : PySem.W.Frag} (S : SaysY fnL tfL exB h K) : Fx36 K := of_decide_eq_true (all_at (more_4 S) 0 rfl)
theorem gx37 {h : Heap} {K : PySem.W.Frag} (S : SaysY fnL tfL exB h K) : Fx37 K := of_decide_eq_true (all_at (more_4 S) 1 rfl)
theorem gx38 {h : Heap} {K : PySem.W.Frag} (S : SaysY fnL tfL exB h K) : Fx38 K := of_decide_eq_true (all_at (more_4 S) 2 rfl)
theorem gx39 {h : Heap} {K : PySem.W.Frag} (S : SaysY fnL tfL exB h K) : Fx39 K := of_decide_eq_true (all_at (more_4 S) 3 rfl)
theorem gx40 {h : Heap} {K : PySem.W.Frag} (S : SaysY fnL tfL exB h K) : Fx40 K := of_decide_eq_true (all_at (more_4 S) 4 rfl)
theorem gx41 {h : Heap} {K : PySem.W.Frag} (S : SaysY fnL tfL exB h K) : Fx41 K := of_decide_eq_true (all_at (more_4 S) 5 rfl)
theorem gx42 {h : Heap} {K : PySem.W.Frag} (S : SaysY fnL tfL exB h K) : Fx42 K := of_decide_eq_true (all_at (more_4 S) 6 rfl)
theorem gx43 {h : Heap} {K : PySem.W.Frag} (S : SaysY fnL tfL exB h K) : Fx43 K := of_decide_eq_true (all_at (more_4 S) 7 rfl)
theorem gx44 {h : Heap} {K : PySem.W.Frag} (S : SaysY fnL tfL exB h K) : Fx44 K := of_decide_eq_true (all_at (more_4 S) 8 rfl)
theorem gx45 {h : Heap} {K : PySem.W.Frag} (S : SaysY fnL tfL exB h K) : Fx45 K := of_decide_eq_true (all_at (more_5 S) 0 rfl)
theorem gx46 {h : Heap} {K : PySem.W.Frag} (S : SaysY fnL tfL exB h K) : Fx46 K := of_decide_eq_true (all_at (more_5 S) 1 rfl)
theorem gx47 {h : Heap} {K : PySem.W.Frag} (S : SaysY fnL tfL exB h K) : Fx47 K := of_decide_eq_true (all_at (more_5 S) 2 rfl)
theorem gx48 {h : Heap} {K : PySem.W.Frag} (S : SaysY fnL tfL exB h K) : Fx48 K := of_decide_eq_true (all_at (more_5 S) 3 rfl)
theorem gx49 {h : Heap} {K : PySem.W.Frag} (S : SaysY fnL tfL exB h K) : Fx49 K := of_decide_eq_true (all_at (more_5 S) 4 rfl)
theorem gx50 {h : Heap} {K : PySem.W.Frag} (S : SaysY fnL tfL exB h K) : Fx50 K := of_decide_eq_true (all_at (more_5 S) 5 rfl)
theorem gx51 {h : Heap} {K : PySem.W.Frag} (S : SaysY fnL tfL exB h K) : Fx51 K := of_decide_eq_true (all_at (more_5 S) 6 rfl)
theorem gx52 {h : Heap} {K : PySem.W.Frag} (S : SaysY fnL tfL exB h K) : Fx52 K := of_decide_eq_true (all_at (more_5 S) 7 rfl)
theorem gx53 {h : Heap} {K : PySem.W.Frag} (S : SaysY fnL tfL exB h K) : Fx53 K := of_decide_eq_true (all_at (more_5 S) 8 rfl)
def nameOf (s : Stmt) : List Str := match s with
  | .FunctionDef n .. => [n]
  | .ClassDef n .. => [n]
  | .Assign [.Name n _] _ _ => [n]
  | _ => []
def lawI : Nat := theRow.prog.main.body.length - 1
def names : List Str := (theRow.prog.main.body.take lawI).flatMap nameOf
def asL : List Addr := [3, 2, 31, 53, 74, 95, 107, 128, 149, 161, 173, 185, 197, 209, 221, 344, 446, 558, 702, 757, 0, 6, 30, 52, 73, 94, 106, 127, 148, 160, 172, 184, 196, 208, 220, 343, 445, 557, 701, 756] ++ [575, 576, 577, 19, 21, 48, 50, 69, 71, 90, 92, 123, 125, 144, 146, 226, 228, 233, 235, 240, 242, 247, 249, 254, 256, 261, 263, 268, 270, 273, 275, 285, 287, 294, 302, 310, 318, 326, 332, 334] ++ [339, 341, 358, 360, 367, 375, 383, 389, 395, 401, 403, 406, 408, 413, 415, 420, 422, 427, 429, 434, 436, 441, 443, 455, 457, 460, 462, 467, 469, 474, 476, 479, 481, 486, 488, 500, 502, 509, 517, 525] ++ [529, 531, 536, 538, 541, 543, 548, 550, 553, 555, 567, 569, 572, 574, 582, 584, 589, 591, 596, 598, 603, 605, 610, 612, 617, 619, 624, 626, 629, 631, 643, 645, 652, 660, 666, 668, 673, 675, 678, 680] ++ [685, 687, 692, 694, 697, 699, 718, 720, 727, 735, 743, 747, 749, 752, 754, 764, 766, 769, 771, 776, 778, 781, 783, 788, 790, 795, 797, 802, 804, 809, 811, 814, 816, 38, 59, 80, 113, 134, 20, 32] ++ [49, 70, 91, 124, 145, 227, 234, 241, 248, 255, 262, 269, 274, 286, 293, 295, 301, 303, 309, 311, 317, 319, 325, 327, 333, 340, 345, 346, 359, 366, 368, 374, 376, 382, 384, 388, 390, 394, 396, 402] ++ [407, 414, 421, 428, 435, 442, 447, 448, 456, 461, 468, 475, 480, 487, 501, 508, 510, 516, 518, 524, 526, 530, 537, 542, 549, 554, 559, 560, 568, 573, 583, 590, 597, 604, 611, 618, 625, 630, 644, 651] ++ [653, 659, 661, 667, 674, 679, 686, 693, 698, 703, 704, 719, 726, 728, 734, 736, 742, 744, 748, 753, 758, 759, 765, 770, 777, 782, 789, 796, 803, 810, 815, 4]
abbrev hk : PySem.W.Hook := hookY asL fnL tfL exB
def ob (s : PySem.W.SharedT) : AlY := obsY asL fnL tfL exB (HandSHeadRun.getT s)
theorem ob_eq (s : PySem.W.SharedT) : ob s = hk.obs s.abs := obsY_eq (HandSHeadRun.getT_eq s)
theorem run_0 (w : World) : HandSHeadRun.RunEq theRow (PySem.W.view theRow.prog [lawI]) (hookY asL fn_0 tf_0 ex_0) (fun s => obsY asL fn_0 tf_0 ex_0 (HandSHeadRun.getT s)) 9000 names w := by
  intro os
  kernel_rfl
theorem run_1 (w : World) : HandSHeadRun.RunEq theRow (PySem.W.view theRow.prog [lawI]) (hookY asL fn_1 tf_1 ex_1) (fun s => obsY asL fn_1 tf_1 ex_1 (HandSHeadRun.getT s)) 9000 names w := by
  intro os
  kernel_rfl
theorem run_2 (w : World) : HandSHeadRun.RunEq theRow (PySem.W.view theRow.prog [lawI]) (hookY asL fn_2 tf_2 ex_2) (fun s => obsY asL fn_2 tf_2 ex_2 (HandSHeadRun.getT s)) 9000 names w := by
  intro os
  kernel_rfl
theorem run_3 (w : World) : HandSHeadRun.RunEq theRow (PySem.W.view theRow.prog [lawI]) (hookY asL fn_3 tf_3 ex_3) (fun s => obsY asL fn_3 tf_3 ex_3 (HandSHeadRun.getT s)) 9000 names w := by
  intro os
  kernel_rfl
theorem run_4 (w : World) : HandSHeadRun.RunEq theRow (PySem.W.view theRow.prog [lawI]) (hookY asL fn_4 tf_4 ex_4) (fun s => obsY asL fn_4 tf_4 ex_4 (HandSHeadRun.getT s)) 9000 names w := by
  intro os
  kernel_rfl
theorem run_5 (w : World) : HandSHeadRun.RunEq theRow (PySem.W.view theRow.prog [lawI]) (hookY asL fn_5 tf_5 ex_5) (fun s => obsY asL fn_5 tf_5 ex_5 (HandSHeadRun.getT s)) 9000 names w := by
  intro os
  kernel_rfl
theorem run (w : World) : HandSHeadRun.RunEq theRow (PySem.W.view theRow.prog [lawI]) hk ob 9000 names w := run_join (run_join (run_join (run_join (run_join (run_0 w) (run_1 w)) (run_2 w)) (run_3 w)) (run_4 w)) (run_5 w)
end Sc
namespace Sc
open PySem PySem.Spec PySem.Calls PyProof.Rows L2
/-! ### enumerate(tuple) -/
theorem enumT_new (l : Addr) (items : Array Value) (n : Nat) (dct : Option Addr) (sl : Array (Option Value)) :
    Meets (Builtin.«enumerate.__new__» ⟨[.type "enumerate", .ref l], []⟩) (fun _ R s =>
      s.heap.get? l = some { cls := .type "tuple", dict := dct, data := .seq items n, slots := sl } ∧
      R (.ok (.ret (.ref (s.heap.objs.size + 1)))) { s with heap := (s.heap.push { cls := .type "tuple_iterator", data := .fields #[.ref l, .int 0 0] }).push { cls := .type "enumerate", data := .fields #[.none, .bool false, .ref s.heap.objs.size, rawInt 0, .none, .none] } }) :=
  .of_wp fun prog w A R s h => by
    obtain ⟨hp, g, d, tk, os⟩ := s
    obtain ⟨hl, hR⟩ := h
    have hsub := sub_enumerate
    have hT : Heap.IsTuple hp l items := ⟨_, hl, rfl, n, rfl⟩
    have hz : (hp.push { cls := .type "tuple_iterator", data := .fields #[.ref l, .int 0 0] }).objs.size = hp.objs.size + 1 := Heap.size_push ..
    rw [← hz] at hR
    have it1 : ∀ {A' : Around} {E : Value → Shared → Prop} {Q : Value → Shared → Prop}, Q (.ref hp.objs.size) ⟨hp.push { cls := .type "tuple_iterator", data := .fields #[.ref l, .int 0 0] }, g, d, tk, os⟩ →
        wpAny (model prog w) A' (pyIter (.ref l)) Q E ⟨hp, g, d, tk, os⟩ := fun q => wpAny_pyIter_tuple (s := ⟨hp, g, d, tk, os⟩) hT q
    wp_walk using AutoSeq1.wpAny_loadPart' hl, it1
    refine wpAny_stack_any fun st => wpAny_pure ?_
    split
    · rename_i c _ _ _ _ _
      cases (c == Value.type "enumerate") <;>
      · wp_walk using AutoSeq1.wpAny_loadPart' hl, it1
        exact ⟨_, rfl, hR⟩
    · wp_walk using AutoSeq1.wpAny_loadPart' hl, it1
      exact ⟨_, rfl, hR⟩
section
variable {prog : Program} {w : World} {A : Around} {E : Value → Shared → Prop} {s : Shared}
theorem enumT_call {l : Addr} {items : Array Value} {Q : Value → Shared → Prop} (hL : s.heap.IsTuple l items)
    (h : ∀ h', IsEnum h' (s.heap.objs.size + 1) s.heap.objs.size 0 .none → h'.IsTupleIter s.heap.objs.size l 0 → (∀ b o, s.heap.get? b = some o → h'.get? b = some o) →
      Q (.ref (s.heap.objs.size + 1)) { s with heap := h' }) : wpAny (model prog w) A (call (.type "enumerate") [.ref l]) Q E s := by
  obtain ⟨⟨c, dct, dt, sl⟩, hl, hc, n, hd⟩ := hL
  dsimp only at hc hd
  subst hc hd
  refine callType_new F.called_enumerate (by decide) (F.typeCall_enumerate_1 _) (F.newCall_enumerate_1 _) (fun obj => F.args_object_init_2 obj _) F.entry_enumerate_new (enumT_new l items n dct sl) ⟨hl, ?_⟩
  have hz : (s.heap.push { cls := .type "tuple_iterator", data := .fields #[.ref l, .int 0 0] }).objs.size = s.heap.objs.size + 1 := Heap.size_push ..
  have he := Heap.get?_push_size (s.heap.push { cls := .type "tuple_iterator", data := .fields #[.ref l, .int 0 0] })
    (o := { cls := .type "enumerate", data := .fields #[.none, .bool false, .ref s.heap.objs.size, rawInt 0, .none, .none] }) rfl
  rw [hz] at he
  exact ⟨⟨_, he, rfl⟩, h _ he ⟨_, Heap.get?_push_of_some _ (Heap.get?_push_size _ rfl), rfl, rfl⟩ fun b o x => Heap.get?_push_of_some _ (Heap.get?_push_of_some _ x)⟩
end
/-- the tuple at a, each item in a new pair -/
def IteT (K : PySem.W.Frag) (a : Addr) : It where
  go := fun i H => ∃ (xs : List V) (x : V), SqT K H a xs ∧ xs[i]? = some x
  yld := fun i H v H' => ∃ T x, v = .ref T ∧ H T = none ∧ H' = upd H T (.tup [.int (i : Nat), x]) ∧ ∀ xs, SqT K H a xs → xs[i]? = some x
  stop := fun i H => ∃ xs : List V, SqT K H a xs ∧ xs.length ≤ i
theorem enumT_turn {P : Program} {w : World} {K : PySem.W.Frag} {elts : List Expr} {kk : Nat} {tpos : Pos} (a e it : Addr) :
    Turn P w K (.Tuple elts kk tpos) (IteT K a) [e, it] e (fun i h => (∃ old, IsEnum h e it ((i : Nat) : Int) old) ∧ h.IsTupleIter it a i ∧ e ≠ it) where
  mem := List.mem_cons_self
  obj := fun i h st b hb => by
    obtain ⟨⟨old, he⟩, ⟨o, ho, hc, hd⟩, _⟩ := st
    rcases List.mem_cons.mp hb with rfl | hb
    · exact ⟨_, he, fun v q => nomatch q⟩
    · rcases List.mem_cons.mp hb with rfl | hb
      · exact ⟨o, ho, fun v q => by rw [hd] at q; cases q⟩
      · cases hb
  keep := fun i h h' st k => by
    obtain ⟨⟨old, he⟩, hi, hne⟩ := st
    exact ⟨⟨old, k e (by simp) _ he⟩, hi.at fun o q => k it (by simp) o q, hne⟩
  item := by
    intro X hP hw hK hc i pins s σ H E I hf st hg
    subst hP hw hK
    obtain ⟨⟨old, he⟩, hit, hne⟩ := st
    obtain ⟨xs, x, hq, hx⟩ := hg
    obtain ⟨its, rv, p, hz⟩ := I.tuple hq
    obtain ⟨u, hu, ru⟩ := rv.get hx
    have hel : e < s.heap.objs.size := Heap.lt_size he
    have hil : it < s.heap.objs.size := by obtain ⟨_, q, _⟩ := hit; exact Heap.lt_size q
    have p' : s.heap.IsTuple a its.toArray := p
    have hae : a ≠ e := fun z => by
      obtain ⟨o, ho, hcl, n, hd⟩ := p'
      rw [z, he] at ho
      cases ho
      cases hd
    have hai : a ≠ it := fun z => by
      obtain ⟨o, ho, hcl, n, hd⟩ := p'
      obtain ⟨o2, ho2, hcl2, hd2⟩ := hit
      rw [z, ho2] at ho
      cases ho
      rw [hd2] at hd
      cases hd
    have hlt : i < its.toArray.size := by
      rw [List.size_toArray]
      exact (List.getElem?_eq_some_iff.mp hu).1
    refine wpAny_pyNext_enum_itemD (Draws.tuple (A := X.A.in1) (I.ok.hd hc) it a hai its.toArray) he ⟨hit, p'⟩ hlt hne (by simp [hne, hae.symm]) fun y h' tk hy ho st' hT hsz hk => ?_
    obtain ⟨hit', hp'⟩ := st'
    have ey : y = u := by
      have z : its.toArray[i]? = some u := by simpa using hu
      rw [hy] at z
      exact Option.some.inj z
    subst ey
    refine ⟨_, rfl, wpAny_letOwnedTupleGo_enum (s := { s with heap := h', toks := tk + 1 }) ho fun h'' he' sb => ?_⟩
    have hT2 : h''.get? s.heap.objs.size = some { cls := .type "tuple", data := .seq #[.int i tk, y] } := (sb.2 _ (Nat.ne_of_gt hel)).trans hT
    have new : ObjOk X.prog X.w (upd H s.heap.objs.size (.tup [.int (i : Nat), x])) h'' s.heap.objs.size (.tup [.int (i : Nat), x]) :=
      ⟨by show 2 ≤ sizeLine; decide, [.int i tk, y], .cons ⟨_, rfl⟩ (.cons ru .nil), ⟨_, hT2, rfl, _, rfl⟩⟩
    have I1 : Inv X pins σ (upd H s.heap.objs.size (.tup [.int (i : Nat), x])) { s with heap := h'', toks := tk + 1 } :=
      I.turnedNew (ch := [e, it]) (fun b ob hb q => (sb.2 b (fun z => hb (by simp [z]))).trans (hk b ob (fun z => hb (by simp [z])) (fun z => hb (by simp [z])) q)) hf (Nat.le_refl _) new
    refine ⟨.ref s.heap.objs.size, _, I1, rfl, ⟨_, x, rfl, I.hok.fresh (Nat.le_refl _), rfl, fun ys hy => by rw [I.tuple_inj hy hq]; exact hx⟩, ⟨⟨y, ?_⟩, hit'.at fun o q => (sb.2 it (Ne.symm hne)).trans q, hne⟩, fun b hb => ?_⟩
    · have e1 : ((i + 1 : Nat) : Int) = (i : Int) + 1 := by omega
      rw [e1]
      exact he'
    · have hb' : b < s.heap.objs.size := by
        rcases List.mem_cons.mp hb with rfl | hb
        · exact hel
        · rcases List.mem_cons.mp hb with rfl | hb
          · exact hil
          · cases hb
      rw [upd_ne (Nat.ne_of_lt hb')]
      exact (hf b hb).1
  done := by
    intro X hP hw hK hc i pins s σ H E I hf st hg
    subst hP hw hK
    obtain ⟨⟨old, he⟩, hit, hne⟩ := st
    obtain ⟨xs, hq, hx⟩ := hg
    obtain ⟨its, rv, p, hz⟩ := I.tuple hq
    obtain ⟨f0, f1, f2, f3, f4, f5⟩ := hf it (by simp)
    have hl := rv.length
    have p' : s.heap.IsTuple a its.toArray := p
    have hai : a ≠ it := fun z => by
      obtain ⟨o, ho, hcl, n, hd⟩ := p'
      obtain ⟨o2, ho2, hcl2, hd2⟩ := hit
      rw [z, ho2] at ho
      cases ho
      rw [hd2] at hd
      cases hd
    have D : Draws X.prog X.w X.A.in1 it [it, a] i (fun _ _ => True) (fun j h => h.IsTupleIter it a j ∧ h.IsTuple a its.toArray ∧ j = i) :=
      { live := fun _ _ st => let ⟨o, ho, _⟩ := st.1; ⟨o, ho⟩
        frame := fun _ _ _ st hk => ⟨st.1.at fun o e => hk it (by simp) o e, st.2.1.at fun o e => hk a (by simp) o e, st.2.2⟩
        item := fun j s Q E hj stj hQ => absurd hj (by rw [stj.2.2]; exact Nat.lt_irrefl i)
        done := fun s Q E stj hE => wpAny_nextOf_tuple_end (I.ok.hd hc) stj.1 stj.2.1 (by simp; omega) hE }
    exact wpAny_pyNext_enum_endD D he ⟨hit, p', rfl⟩ fun h' eb => ⟨rfl, I.turned (t' := s.toks) (fun b o hb q => eb b o hb q) f0 f1 f3 f4 f5⟩
  self := fun A i s Q E st h => by
    obtain ⟨⟨_, he⟩, _⟩ := st
    exact wpAny_pyIter_enum he h
def iEnumT (K : PySem.W.Frag) (ta : TA) : TI := fun σ H R => ta σ H fun vs H1 => ∃ a xs, vs = [.ref a] ∧ SqT K H1 a xs ∧ R (IteT K a) H1
theorem pi_enumT {X : Cx} {e : Expr} {ta : TA} {p pos tpos : Pos} {elts : List Expr} {kk : Nat} (hg : Gl X "enumerate") (hm : X.mg "enumerate" = none) (ha : PA X [e] ta) (hs : starEach [e] X.env = [(false, eval e X.env)] := by rfl) :
    PI X (.Tuple elts kk tpos) (.Call (.Name "enumerate" p) [e] [] pos) (iEnumT X.K ta) := by
  refine ⟨fun pins s σ H R I h => ?_⟩
  refine Call_ (ld_blt I hg hm boot_enumerate (PyProof.Rows.callWith_type1 (thn (ha.run pos pins s σ H _ I h) fun us s1 ⟨vs, H1, I1, r1, a, xs, ex, hq, q⟩ => ?_) hs rfl))
  subst ex
  cases r1 with
  | cons r rr =>
    cases rr
    cases r
    obtain ⟨its, rv, p', hz⟩ := I1.tuple hq
    refine enumT_call (show s1.heap.IsTuple a its.toArray from p') fun h' he hit hk => wpAny_pyIter_enum he ?_
    have I2 : Inv X pins σ H1 { s1 with heap := h' } := I1.kept (t' := s1.toks) hk
    refine ⟨s1.heap.objs.size + 1, [s1.heap.objs.size + 1, s1.heap.objs.size], _, _, H1, rfl, I2, enumT_turn a (s1.heap.objs.size + 1) s1.heap.objs.size, ⟨⟨.none, he⟩, hit, Nat.succ_ne_self _⟩, fun b hb => ?_, q⟩
    have hle : s1.heap.objs.size ≤ b := by
      rcases List.mem_cons.mp hb with rfl | hb
      · exact Nat.le_succ _
      · rcases List.mem_cons.mp hb with rfl | hb
        · exact Nat.le_refl _
        · cases hb
    exact I1.fpOk hle (I1.hok.fresh hle)
end Sc
namespace Sc
open PySem PySem.Spec PySem.Calls PyProof.Rows L2 NdefX
/-! ### super().__init__(..) in an own error's __init__ -/
/-- what the written part tells for super() in the __init__ of the class at C: cc its cell, cda the code object of __init__ -/
structure SupC (prog : Program) (K : PySem.W.Frag) (mg : Str → Option Value) (C cc cda : Addr) : Prop where
  cell : ∃ cl cld csl, K.lookup cc = some ⟨cl, cld, .cell (some (.ref C)), csl⟩
  code : ∃ ccl cdd vs ccs file tf, K.lookup cda = some ⟨ccl, cdd, .fields vs, ccs⟩ ∧ vs[2]? = some (.str file tf) ∧ ((prog.main.file : Str) == file) = true
  sub : PySem.W.mroIn K C (.ref C) = some true
  noS : mg "super" = none
  opq : PySem.W.nsIn K cStatics "thirdparty.any" = some none
  up : PySem.W.ks_superIn K C C "__init__" = some (some (.builtin "ValueError.__init__"))
  isB : PySem.W.subIn K (.ref C) (.type "ValueError") = some true
  top : (prog.main.scope.names.lookup ("super" : Str)).isSome = false
section
variable {X : Cx} {pins : List (Addr × Obj)} {σ : L2.St} {H : Hp} {s : Shared} {a C cc cda f : Addr}
theorem sup_bound {u : Addr} {us : List Value} {A : Around} {E : Value → Shared → Prop} {Q : Value → Shared → Prop} (T : OexC X.K C) (I : Inv X pins σ H s) (e : H a = some (exo a C none)) (hu : s.heap.get? u = some (PySem.W.kxs_mw "ValueError.__init__" a)) (hl : us.length ≤ sizeLine)
    (h : ∀ s', Inv X pins σ H s' → Q .none s') : wpAny (model X.prog X.w) A (call (.ref u) us) Q E s := by
  obtain ⟨nm, q, N, bs, bm, sn, sub, ab, col, dd, k0, k1, k2, k3, k5, hC, hbm⟩ := T.cls
  obtain ⟨t1, ho⟩ := exo_at I.hok e
  have hC' := I.kIn _ _ hC
  obtain ⟨hp, g, d, tk, os⟩ := s
  refine wpAny_call (codeAny_of_tree ?_)
  show wpAny _ A.in1 (callAny (.ref u) ⟨us, []⟩) _ _ _
  simp only [callAny]
  refine wpAny_bind (wpAny_load hu ?_)
  have b1 : (Value.type "method-wrapper" == Value.type "method" || Value.type "method-wrapper" == Value.type "builtin_function_or_method" || Value.type "method-wrapper" == Value.type "method-wrapper") = true := by decide
  simp only [PySem.W.kxs_mw, b1, if_true]
  refine PySem.W.KFB.if_so (by decide) (wpAny_bind (PySem.W.check_bound_init PySem.F.excBase_ValueError.toExcCallFacts hC' ho rfl (wpAny_bind (wpAny_pure (wpAny_pure ?_)))))
  refine ⟨plainId_quiet PySem.F.excBase_ValueError.init.plain _, codeAny_builtin PySem.F.excBase_ValueError.initEntry ?_⟩
  refine PySem.W.exc_init_tree (cls := .ref C) (t0 := t1) (dv := none) (c2 := .none) (c3 := .none) (b4 := .bool false) ho hl fun h' k hx _ => ?_
  have J := I.write (t' := tk) (x := a) (e := a) (o := exo a C none) (by rw [e]; exact True.intro) (.inl rfl) k ⟨_, hx⟩ (exo_ok hx)
  have eu : upd H a (exo a C none) = H := funext fun b => by
    by_cases hb : b = a
    · rw [hb, upd_same, e]
    · rw [upd_ne hb]
  rw [eu] at J
  exact h _ J
theorem at_super {pl : Sem Bool} {body : List Stmt} {e : Expr} {es : List Expr} {ta : TA} {D : Ends} {p0 p1 p2 p3 p4 : Pos} {fd : FuncData} {ar : Arg} {oc : Value} {od : Option Addr} {osl : Array (Option Value)}
    (T : OexC X.K C) (S : SupC X.prog X.K X.mg C cc cda) (hks : X.env.kindOf "super" = some .globalImplicit) (hkc : X.env.kindOf "__class__" = some .free) (hcl : X.env.cells.lookup ("__class__" : Str) = some cc)
    (hfu : X.env.func = some f) (hco : X.env.code = .ref cda) (lk : X.K.lookup f = some ⟨oc, od, .func fd, osl⟩) (hp : (fd.params.posonlyargs ++ fd.params.args).head? = some ar) (hN0 : X.N[0]? = some ar.arg) (hka : X.env.kindOf ar.arg = some .local)
    (hA : PA X (e :: es) ta) (I : Inv X pins σ H s) (hσ : σ[0]? = some (some (.ref a))) (ha : H a = some (exo a C none)) (q : ta σ H fun vs H1 => vs.length ≤ 1000 ∧ H1 a = some (exo a C none) ∧ D.nx σ H1)
    (he : starEach (e :: es) X.env = (false, eval e X.env) :: starEach es X.env := by rfl) (hpl : (backTo p3 (starEach es X.env)).any (·.1) = false := by rfl) (hi : interactive X.env = false := by rfl)
    (hev : eval (.Call (.Attribute (.Call (.Name "super" p0) [] [] p1) "__init__" p2) (e :: es) [] p3) X.env = (do
      let ov ← attributeBase (.Call (.Name "super" p0) [] [] p1) "__init__" X.env (eval (.Call (.Name "super" p0) [] [] p1) X.env)
      standAt p2.atName
      let (g, first) ← holding [ov] (getMethod ov "__init__" pl)
      callWith p3 g first (backTo p3 (starEach (e :: es) X.env)) []) := by rfl) (hsw : swapsWith (.Call (.Attribute (.Call (.Name "super" p0) [] [] p1) "__init__" p2) (e :: es) [] p3) none p4.line X.env = pure false := by rfl) :
    PySem.wpAt (model X.prog X.w) X.A (.func body X.env) (exec (.Expr (.Call (.Attribute (.Call (.Name "super" p0) [] [] p1) "__init__" p2) (e :: es) [] p3) p4) X.env) (SP X pins D) X.xe s := by
  obtain ⟨cl, cld, csl, hcell⟩ := S.cell
  obtain ⟨ccl, cdd, vs, ccs, file, tf, hcode, hvs, hfile⟩ := S.code
  have KX := I.kIn
  refine ks_wpAt_Expr_any (ks_wpAt_MethodCall (pl := pl) ?_ hev) hi hsw
  refine ks_wpAt_super_base hks hkc (by decide) hfu (KX _ _ lk) rfl hp hco (KX _ _ hcode) rfl hvs hfile S.top ?_
  obtain ⟨mb, b1, b2⟩ := I.mod.blt
  refine PySem.W.ks_loadName_global I.ok.kind hks (Calls.loadGlobal_builtin (v := .type "super") (by rw [I.ok.glob]; exact I.mod.glob.keeps I.bk) S.noS (by rw [I.ok.blt]; exact b1.keeps I.bk) ((b2 _ (by decide +kernel)).trans (by decide +kernel)) ⟨rfl, ?_⟩)
  refine wpAny_loadName_free I.ok.kind hkc hcl ⟨_, KX _ _ hcell, rfl⟩ ?_
  obtain ⟨m, hn, hloc⟩ := I.loc
  obtain ⟨u, ru, hlook⟩ := hloc 0 ar.arg (.ref a) hN0 hσ (.inl hka)
  obtain rfl : u = Value.ref a := ru
  have hm : m ar.arg = some (.ref a) := by
    rcases hlook with ⟨_, z⟩ | ⟨z, _⟩
    · exact z
    · rcases z with z | z <;> rw [show X.env.kindOf ar.arg = _ from hka] at z <;> cases z
  refine wpAny_loadName_local I.ok.kind hka hn hm ?_
  obtain ⟨nm, qn, N, bs, bm, sn, sub, ab, col, dd, k0, k1, k2, k3, k5, hC, hbm⟩ := T.cls
  have hcls : PySem.W.clsIn X.K C = some { name := nm, bases := bs, mro := .ref C :: bm, ns := N, qualname := qn, hasDict := true, slotNames := sn, subclasses := sub, abstract := ab, collection := col, hasDel := false } := by unfold PySem.W.clsIn; rw [hC] <;> rfl
  obtain ⟨t1, ho⟩ := exo_at I.hok ha
  have hC' := KX _ _ hC
  have ex := S.up
  unfold PySem.W.ks_superIn at ex
  rw [hcls] at ex
  obtain ⟨hp', g, d, tk, os⟩ := s
  refine ks_wpAny_isType_cls hC' rfl ⟨rfl, ?_⟩
  refine ks_wpAny_call_super hC' rfl ho rfl (fun c z => nomatch z) (PySem.W.looks_mroIn KX S.sub) (fun h' e1 k => ?_)
  have I1 : Inv X pins σ H ⟨h', g, d, tk, os⟩ := I.kept (t' := tk) k
  have IA : PySem.W.InstAt h' a { cls := .ref C, dict := none, data := .fields #[.ref t1, .none, .none, .none, .bool false, .none] } C none := ⟨k _ _ ho, rfl, rfl, trivial⟩
  have hIs : PySem.W.Looks (model X.prog X.w) h' (isInstance (.ref a) (.type "ValueError")) true := IA.type.andThen (PySem.W.looks_subIn I1.kIn S.isB)
  refine PySem.W.kxs_getMethod PySem.W.kxs_ValueError e1 (PySem.W.looks_opaque I1.kIn S.opq) (l₀ := .ref C :: bm) (fun A Q E s k q => wpAny_bind ((PySem.W.looks_clsIn I1.kIn hcls) A _ E s k (wpAny_pure q))) rfl I1.kIn ex hIs (PySem.W.ks_ne I1.kIn IA hcls) (by decide) ?_
  have I2 : Inv X pins σ H ⟨h'.push (PySem.W.kxs_mw "ValueError.__init__" a), g, d, tk + 1, os⟩ := I1.kept (t' := tk + 1) fun b o z => Heap.get?_push_of_some _ z
  have hu : (h'.push (PySem.W.kxs_mw "ValueError.__init__" a)).get? h'.objs.size = some (PySem.W.kxs_mw "ValueError.__init__" a) := Heap.get?_push_at rfl rfl
  have hun : H h'.objs.size = none := I1.hok.fresh (Nat.le_refl _)
  have hunf : h'.objs.size ∉ X.fs ∧ h'.objs.size ≠ X.env.locals := ⟨I1.nofs (Nat.le_refl _), fun z => Nat.lt_irrefl _ (by have := I1.lt; rw [← z] at this; exact this)⟩
  have I3 : Inv X ((h'.objs.size, PySem.W.kxs_mw "ValueError.__init__" a) :: pins) σ H ⟨h'.push (PySem.W.kxs_mw "ValueError.__init__" a), g, d, tk + 1, os⟩ := I2.pins_of fun p hp => by
    rcases List.mem_cons.mp hp with rfl | hp
    · exact ⟨hu, hun, hunf.2, hunf.1, fun v z => nomatch z⟩
    · exact I2.pin p (List.mem_append_right _ hp)
  rw [he]
  refine PySem.W.kxs_callWith (i := "ValueError.__init__") (x := a) (first := []) (by show (false || (backTo p3 (starEach es X.env)).any (·.1)) = false; rw [hpl]; rfl) (evalArgs_plain ?_)
  show wpAny _ _ (spliced (backTo p3 ((false, eval e X.env) :: starEach es X.env))) _ _ _
  rw [← he]
  refine thn (hA.run p3 _ _ σ H _ I3 q) fun us s1 ⟨vs, H1, I4, r1, hl, e4, q4⟩ => ?_
  have I5 : Inv X pins σ H1 s1 := I4.pins_of fun p hp => I4.pin p (List.mem_append_right _ (.tail _ hp))
  have hu4 := (I4.pin _ (List.mem_append_right _ List.mem_cons_self)).1
  refine ⟨hu4, ?_⟩
  refine sup_bound T I5 e4 hu4 (by show us.length ≤ sizeLine; rw [← Paired.length r1, sizeLine_eq]; omega) fun s' J => ?_
  exact ⟨σ, H1, J, q4⟩
end
/-! ### the __init__ as a def -/
/-- the reading of a body that begins with super().__init__(e ..) -/
def tInit (C : Addr) (ta : TA) (tr : TS) : TS := fun D σ H => ∃ a : Addr, σ[0]? = some (some (.ref a)) ∧ H a = some (exo a C none) ∧ ta σ H fun vs H1 => vs.length ≤ 1000 ∧ H1 a = some (exo a C none) ∧ tr D σ H1
section
variable {P : Program} {w : World} {K : PySem.W.Frag} {mg : Str → Option Value} {base : Heap} {N ps : List Str} {F : NF} {f C cc : Addr} {k : Nat} {sp : Sp} {kV doc pm ct oc : Value} {an od : Option Addr} {osl : Array (Option Value)}
/-- the def's data as it stands -/
abbrev supFd (F : NF) (kV doc pm : Value) (an : Option Addr) (ct : Value) : FuncData := PySem.W.fnX F.name F.qual F.params F.body F.scope F.cl .none kV doc pm an (.ref F.c) ct
theorem fn_sup {e : Expr} {es : List Expr} {rest : List Stmt} {ar : Arg} {p0 p1 p2 p3 p4 : Pos} (lk : K.lookup f = some ⟨oc, od, .func (supFd F kV doc pm an ct), osl⟩) (hcd : PySem.W.codeIn K (.ref F.c) F.qual = true) (hcl : F.cl = [(("__class__" : Str), cc)])
    (SC : NScope N ps ["__class__"] F.scope) (T : OexC K C) (S : SupC P K mg C cc F.c) (len : ∀ vs H Q E, sp vs H Q E → vs.length = ps.length)
    (hbd : F.body = .Expr (.Call (.Attribute (.Call (.Name "super" p0) [] [] p1) "__init__" p2) (e :: es) [] p3) p4 :: rest)
    (hp : (F.params.posonlyargs ++ F.params.args).head? = some ar) (hN0 : N[0]? = some ar.arg) (hka : F.scope.names.lookup ar.arg = some .local) (hks : F.scope.names.lookup ("super" : Str) = some .globalImplicit)
    (hbody : ∀ (A : Around) (outer : List Env) (s : Shared) (H : Hp) (vs : List V) (Q : VK) (E : XK), Room k (A.deeper (envF F f s.heap.objs.size)) → sp vs H Q E →
      ∃ ta tr, PA (ncx CX0 P w K mg base N F f A outer s H E) (e :: es) ta ∧ PSs (ncx CX0 P w K mg base N F f A outer s H E) rest tr ∧ tInit C ta tr { nx := fun _ H' => Q .non H', rt := Q } (startF N vs [none]) H)
    (hev : ∀ L, ∃ pl, eval (.Call (.Attribute (.Call (.Name "super" p0) [] [] p1) "__init__" p2) (e :: es) [] p3) (envF F f L) = (do
      let ov ← attributeBase (.Call (.Name "super" p0) [] [] p1) "__init__" (envF F f L) (eval (.Call (.Name "super" p0) [] [] p1) (envF F f L))
      standAt p2.atName
      let (g, first) ← holding [ov] (getMethod ov "__init__" pl)
      callWith p3 g first (backTo p3 (starEach (e :: es) (envF F f L))) []))
    (hsw : ∀ L, swapsWith (.Call (.Attribute (.Call (.Name "super" p0) [] [] p1) "__init__" p2) (e :: es) [] p3) none p4.line (envF F f L) = pure false) (he : ∀ L, starEach (e :: es) (envF F f L) = (false, eval e (envF F f L)) :: starEach es (envF F f L))
    (hpl : ∀ L, (backTo p3 (starEach es (envF F f L))).any (·.1) = false) (hi : ∀ L, interactive (envF F f L) = false) :
    FnOk P w K mg base CX0 (k + 1) f (supFd F kV doc pm an ct) ps sp := by
  refine ⟨len, fun A outer s H args us vs Q E hr e0 hb r hsp => ?_⟩
  have hl := len _ _ _ _ hsp
  have KX : K.In s.heap := e0.mod.kin.keeps fun b o e => (e0.bs b o e).1
  have lim : s.heap.NoLimit := e0.mod.nolimit.keeps fun b o e => (e0.bs b o e).1
  obtain ⟨cl, cld, csl, hcell⟩ := S.cell
  have hcH : H cc = none := by
    have z := e0.mod.kin _ _ hcell
    exact (e0.bs _ _ z).2
  have CA : CellsAt F.cl ["__class__"] [none] s.heap H := by
    rw [hcl]
    refine ⟨rfl, fun y c h => ?_, fun x y c h1 h2 => ?_, fun i y h => ?_⟩
    · have q : y = ("__class__" : Str) ∧ c = cc := by
        simp only [List.lookup] at h
        split at h
        · rename_i z; exact ⟨by simpa using z, (Option.some.inj h).symm⟩
        · cases h
      rw [q.2]
      exact ⟨hcH, some (.ref C), ⟨_, KX _ _ hcell, rfl⟩⟩
    · have q : ∀ z, List.lookup z [(("__class__" : Str), cc)] = some c → z = ("__class__" : Str) := fun z h => by
        simp only [List.lookup] at h
        split at h
        · rename_i z; simpa using z
        · cases h
      rw [q x h1, q y h2]
    · cases i with
      | zero =>
        have q : y = ("__class__" : Str) := (Option.some.inj h).symm
        subst q
        exact ⟨cc, by simp [List.lookup], fun v z => by cases z⟩
      | succ i => simp at h
  refine ks_codeAny_call_defAt (fd := supFd F kV doc pm an ct) (body := F.body) (binds := ps.zip us) hr.depth (KX _ _ lk) rfl lim (PySem.W.codeRec_of KX hcd) rfl hb SC.nocell (fun ⟨n, _⟩ hy => SC.par n (List.of_mem_zip hy).1) (fun h₁ hns kp => ?_) SC.co SC.gen SC.kind
  obtain ⟨ta, tr, hta, htr, a, hσ, ha, q⟩ := hbody A outer s H vs Q E (hr.deeper _) hsp
  have I : Inv (ncx CX0 P w K mg base N F f A outer s H E) [] (startF N vs [none]) H { s with heap := h₁, toks := s.toks + (ps.zip us).length } := inv_startN SC hr.hd e0 hl r CA hns kp
  obtain ⟨pl, hev⟩ := hev s.heap.objs.size
  have fin : ∀ {s' : Shared} {σ' : L2.St} {H' : Hp} {v : V} {u : Value}, Inv (ncx CX0 P w K mg base N F f A outer s H E) [] σ' H' s' → L2.RelV v u → Q v H' → CE outer P w H s Q u s' :=
    fun {s' σ' H' v u} J rv q => ⟨v, H', J.os, J.bare, J.base, J.hok, rv, q⟩
  rw [hbd]
  refine ks_wpAt_execs_cons (ks_wpAt_mono (at_super (X := ncx CX0 P w K mg base N F f A outer s H E) (D := { nx := fun σ' H' => tr { nx := fun _ H' => Q .non H', rt := Q } σ' H', rt := fun _ _ => False }) (pl := pl) (f := f) (ar := ar) (fd := supFd F kV doc pm an ct) T S hks (SC.frk _ List.mem_cons_self) (by show F.cl.lookup _ = _; rw [hcl]; simp [List.lookup]) rfl rfl lk hp hN0 hka hta I hσ ha q (he _) (hpl _) (hi _) hev (hsw _)) (fun fl s' hs => ?_) fun _ _ z => z)
  cases fl with
  | ret u =>
    obtain ⟨_, _, _, _, _, z⟩ := hs
    exact z.elim
  | brk =>
    obtain ⟨_, _, _, z⟩ := hs
    exact z.elim
  | cont =>
    obtain ⟨_, _, _, z⟩ := hs
    exact z.elim
  | next =>
    obtain ⟨σ', H', J, z⟩ := hs
    refine PySem.wpAt_of_wpAny (wpAny_mono (htr.run [] s' σ' H' _ J z) (fun fl2 s2 h2 => ?_) fun _ _ y => y)
    cases fl2 with
    | ret u =>
      obtain ⟨v, σ2, H2, J2, rv, q2⟩ := h2
      exact fin J2 rv q2
    | next =>
      obtain ⟨σ2, H2, J2, q2⟩ := h2
      exact fin (v := V.non) (u := Value.none) J2 rfl q2
    | brk =>
      obtain ⟨_, _, _, q2⟩ := h2
      exact q2.elim
    | cont =>
      obtain ⟨_, _, _, q2⟩ := h2
      exact q2.elim
end
end Sc
namespace Sc
open PySem PySem.Spec PyProof.Rows L2
/-- the built-ins are not hidden -/
structure Blt (mg : Str → Option Value) : Prop where
  b_isinstance : mg "isinstance" = none
  b_len : mg "len" = none
  b_all : mg "all" = none
  b_any : mg "any" = none
  b_sum : mg "sum" = none
  b_max : mg "max" = none
  b_min : mg "min" = none
  b_int : mg "int" = none
  b_str : mg "str" = none
  b_bool : mg "bool" = none
  b_list : mg "list" = none
  b_tuple : mg "tuple" = none
  b_dict : mg "dict" = none
  b_range : mg "range" = none
  b_enumerate : mg "enumerate" = none
  b_sorted : mg "sorted" = none
  b_reversed : mg "reversed" = none
  b_zip : mg "zip" = none
  b_set : mg "set" = none
  b_ValueError : mg "ValueError" = none
/-- a def as its callers see it -/
structure Cal (P : Program) (w : World) (K : PySem.W.Frag) (mg : Str → Option Value) (base : Heap) (CX : CXT) (k : Nat) (x : Str) (ps : List Str) (sp : Sp) : Prop where
  ex : ∃ (f : Addr) (fd : FuncData), FnOk P w K mg base CX k f fd ps sp ∧ mg x = some (.ref f) ∧ PySem.W.keepIn K (.ref f) = true ∧ Binds K fd ps []
section
variable {X : Cx} {k : Nat} {x : Str} {ps : List Str} {sp : Sp} {e : Expr} {es : List Expr} {t : TA} {p pos : Pos}
theorem pe_cal (C : Cal X.prog X.w X.K X.mg X.base CX0 k x ps sp) (hr : Room k X.A) (ha : PA X (e :: es) t) (hg : Gl X x := by rfl) (hdb : (x == ("__debug__" : Str)) = false := by decide)
    (he : starEach (e :: es) X.env = (false, eval e X.env) :: starEach es X.env := by rfl) (hpl : (backTo pos (starEach es X.env)).any (·.1) = false := by rfl) : PE X (.Call (.Name x p) (e :: es) [] pos) (tCall sp [] E0 t) := by
  obtain ⟨f, fd, F, hm, hk, hb⟩ := C.ex
  exact pe_call F hr hg hm hk hb .nil pass0 ha hdb he hpl
/-- a def that may raise, where it does not -/
theorem pe_calN (C : Cal X.prog X.w X.K X.mg X.base (L2.CX X.prog X.w) k x ps sp) (hr : Room k X.A) (ha : PA X (e :: es) t) (hg : Gl X x := by rfl) (hdb : (x == ("__debug__" : Str)) = false := by decide)
    (he : starEach (e :: es) X.env = (false, eval e X.env) :: starEach es X.env := by rfl) (hpl : (backTo pos (starEach es X.env)).any (·.1) = false := by rfl) : PE X (.Call (.Name x p) (e :: es) [] pos) (tCall sp [] E0 t) := by
  obtain ⟨f, fd, F, hm, hk, hb⟩ := C.ex
  exact pe_call F hr hg hm hk hb .nil passL ha hdb he hpl
/-- a def that may raise -/
theorem pe_calX {W : WX} (C : Cal X.prog X.w X.K X.mg X.base (L2.CX X.prog X.w) k x ps sp) (hr : Room k X.A) (tk : Takes X W) (ha : PA X (e :: es) t) (hg : Gl X x := by rfl) (hdb : (x == ("__debug__" : Str)) = false := by decide)
    (he : starEach (e :: es) X.env = (false, eval e X.env) :: starEach es X.env := by rfl) (hpl : (backTo pos (starEach es X.env)).any (·.1) = false := by rfl) : PE X (.Call (.Name x p) (e :: es) [] pos) (tCallS sp (WE W) t) := by
  obtain ⟨f, fd, F, hm, hk, hb⟩ := C.ex
  exact pe_callS F hr hg hm hk hb (fun σ => passAt tk σ) ha hdb he hpl
end
/-! ### a reading that does not lean on the state within which it is asked -/
theorem pe_.re {X : Cx} {e : Expr} {t t' : TE} (h : PE X e t) (q : t = t') : PE X e t' := q ▸ h
theorem pts_.re {X : Cx} {es : List Expr} {t t' : TT} (h : PTs X es t) (q : t = t') : PTs X es t' := q ▸ h
theorem pss_.re {X : Cx} {sts : List Stmt} {t t' : TS} (h : PSs X sts t) (q : t = t') : PSs X sts t' := q ▸ h
/-- a value's truth -/
def tTru (K : PySem.W.Frag) (ta : TE) : TT := fun σ H Q => ta σ H fun x H' => ∃ k, TruV K x H' k ∧ Q k H'
theorem pt_tru {X : Cx} {a : Expr} {ta : TE} (ha : PE X a ta) (he : ∀ whole, isTrue a X.env whole = (do let v ← whole; standAt a.pos; holding [v] (truthy v))) : PT X a (tTru X.K ta) := pt_truth ha he
/-! ### lists -/
theorem take_more {α : Type} {l : List α} {i : Nat} {x : α} (h : l[i]? = some x) : l.take (i + 1) = l.take i ++ [x] := by
  rw [List.take_add_one, h]
  rfl
/-! ### heaps -/
theorem _root_.L2.Same.put {H H' : Hp} {p : Addr} {o : HO} (s : Same H H') (n : H p = none) : Same H (upd H' p o) := fun b x e => by
  rw [upd_ne (ne_of_none e n)]
  exact s b x e
theorem _root_.L2.Same.put' {H H' : Hp} {p : Addr} {o : HO} (s : Same H H') (n : H' p = none) : Same H (upd H' p o) := s.put (s.free n)
theorem _root_.L2.Same.tup {K : PySem.W.Frag} {H H' : Hp} {a : Addr} {xs : List V} (e : Same H H') (h : SqT K H a xs) : SqT K H' a xs := by
  rcases h with (h | ⟨o, h⟩) | h
  · exact .inl (.inl (e _ _ h))
  · exact .inl (.inr ⟨o, e _ _ h⟩)
  · exact .inr h
theorem sqT_new {K : PySem.W.Frag} {H : Hp} {p : Addr} {xs : List V} : SqT K (upd H p (.tup xs)) p xs := .inl (.inl upd_same)
theorem sqL_new {K : PySem.W.Frag} {H : Hp} {p : Addr} {xs : List V} : SqL K (upd H p (.lst xs)) p xs := .inl (.inl upd_same)
theorem sqT_of {K : PySem.W.Frag} {H : Hp} {p : Addr} {xs : List V} (h : H p = some (.tup xs)) : SqT K H p xs := .inl (.inl h)
theorem sqL_of {K : PySem.W.Frag} {H : Hp} {p : Addr} {xs : List V} (h : H p = some (.lst xs)) : SqL K H p xs := .inl (.inl h)
/-- a comprehension's list grows -/
theorem grow {H1 H4 : Hp} {D : Addr} {acc : Nat → List V} {i : Nat} {y : V} (nD : H1 D = none) (s : Same H1 H4) (e : H4 D = some (.lst (acc i))) (l : (acc i).length < sizeLine) (n : acc (i + 1) = acc i ++ [y]) :
    ∃ a, H4 D = some (.lst a) ∧ a.length < sizeLine ∧ (Same H1 (upd H4 D (.lst (a ++ [y]))) ∧ (upd H4 D (.lst (a ++ [y]))) D = some (.lst (acc (i + 1)))) :=
  ⟨acc i, e, l, s.put nD, by rw [upd_same, n]⟩
theorem bcase {b : Bool} {A B : Prop} (h1 : b = true → A) (h2 : b = false → B) : if b = true then A else B := by
  cases b with
  | true => exact iteT (h1 rfl)
  | false => exact iteF (h2 rfl)
/-- isinstance(x, T), T a built-in class -/
def rIsT (K : PySem.W.Frag) (T : String) : List V → Hp → VK → Prop := fun xs H Q => ∃ (x : V) (t : String) (b : Bool), xs = [x, .ty T] ∧ TyOf K H x (.type t) ∧ kitB t T = some b ∧ Q (.bl b) H
theorem call_isT {X : Cx} (T : String) : CallR X (.builtin "isinstance") (rIsT X.K T) := by
  intro pins s σ H xs us Q I r h
  obtain ⟨x, t, b, ex, ht, hb, q⟩ := h
  exact call_isi pins s σ H xs us Q I r ⟨_, _, _, _, _, ex, .ty _, .base ht, kit_ty hb, q⟩
/-- a comprehension without a test -/
theorem yes_ {σ : L2.St} {H : Hp} {A : Hp → Prop} {B : Hp → Prop} (h : A H) : tYes σ H fun b H3 => if b = true then A H3 else B H3 := by
  show (if true = true then A H else B H)
  rw [if_pos rfl]
  exact h
/-- as many slots as names -/
theorem takes_len {X : Cx} {W : WX} (tk : Takes X W) : Takes X (fun cls d σ H => σ.length = X.N.length → W cls d σ H) := fun u s' ⟨a, B, sI, pins, σ, H, cls, d, e, I, nb, up, sky, na, os, ag, w⟩ =>
  tk u s' ⟨a, B, sI, pins, σ, H, cls, d, e, I, nb, up, sky, na, os, ag, w I.len⟩
/-! ### walks -/
theorem walk_enumT {K : PySem.W.Frag} {a : Addr} {xs : List V} : Walk (IteT K a) xs.length (fun H => SqT K H a xs) (YPair (fun i => some (.int (i : Nat))) (fun i => xs[i]?)) := by
  refine ⟨fun i _ hi q => ⟨xs, xs[i], q, by simp [hi]⟩, fun _ q => ⟨xs, q, Nat.le_refl _⟩, fun i H v H' _ q y => ?_⟩
  obtain ⟨T, x, h1, h2, h3, h4⟩ := y
  exact ⟨T, .int (i : Nat), x, h1, h2, h3, rfl, h4 xs q⟩
/-! ### list.count of truth values -/
section
variable {X : Cx}
theorem countP_eqU {x : V} : ∀ {xs : List V} {us : List Value}, Vals xs us → xs.all flatV = true → us.countP (eqU x) = xs.countP fun y => eqV y x
  | _, _, .nil, _ => rfl
  | y :: xs, u :: us, .cons r t, f => by
    rw [List.all_cons, Bool.and_eq_true] at f
    rw [List.countP_cons, List.countP_cons, eqU_of r f.1, countP_eqU t f.2]
def rCount (K : PySem.W.Frag) : V → List V → Hp → VK → Prop := fun x xs H Q => ∃ (p : Addr) (ys : List V) (y : V), x = .ref p ∧ xs = [y] ∧ SqL K H p ys ∧ flatV y = true ∧ ys.all flatV = true ∧ Q (.int (ys.countP (fun z => eqV z y) : Nat)) H
theorem mt_lcountB : MtR X "list.count" (rCount X.K) := by
  intro pins s σ H x xs v us Q I rx rxs h
  obtain ⟨p, ys, y, rfl, rfl, hs, fy, fys, q⟩ := h
  cases rx
  cases rxs with
  | cons ry rt =>
    rename_i uy ut
    cases rt
    obtain ⟨its, rv, ⟨⟨cls, dd, data, sl⟩, n, ho, hc, hdn, hd⟩, hlen⟩ := I.list hs
    simp only at hc hd
    subst hc hd
    refine call_meets PySem.F.slot_list_count ⟨_, ho, rfl⟩ PySem.F.entry_list_count (PySem.F.args_list_count_2 _ _)
      (SeqAt.list_countAt p its.toArray n dd sl uy (eqU y)) ⟨ho, fun u' hu' => mem_eqAt ry fy rv fys u' (by simpa using hu'), ?_⟩
    have ec : its.toArray.toList.countP (eqU y) = ys.countP fun z => eqV z y := countP_eqU rv fys
    refine ⟨.int (ys.countP (fun z => eqV z y) : Nat), H, I.tok _, ⟨s.toks, ?_⟩, q⟩
    show Value.int ((its.toArray.toList.countP (eqU y) : Nat) : Int) s.toks = Value.int ((ys.countP (fun z => eqV z y) : Nat) : Int) s.toks
    rw [ec]
end
/-! ### the caught error, whatever it bears -/
/-- an own class of errors, as isinstance and the reading of a field ask for it -/
structure ErrC (K : PySem.W.Frag) (D : Addr) : Prop where
  cl : (PySem.W.clsIn K D).isSome = true
  ga : PySem.W.findIn K (.ref D) "__getattribute__" = some (some (.builtin "BaseException.__getattribute__"))
  gt : PySem.W.findIn K (.ref D) "__getattr__" = some none
  be : PySem.W.subIn K (.ref D) (.type "BaseException") = some true
  kc : PySem.W.findIn K (.ref D) "__class__" = some (some (.builtin "object.__class__"))
  sg : PySem.W.specialIn K (.builtin "object.__class__") "__get__" = some (some (.builtin "getset_descriptor.__get__"))
  tk : PySem.W.takesIn K (.builtin "object.__class__") = some true
  ob : PySem.W.mroIn K D (.type "object") = some true
  hd : PySem.W.hasDictIn K D = true
def errB (K : PySem.W.Frag) (D : Addr) : Bool :=
  (PySem.W.clsIn K D).isSome && (decide (PySem.W.findIn K (.ref D) "__getattribute__" = some (some (.builtin "BaseException.__getattribute__"))) && (decide (PySem.W.findIn K (.ref D) "__getattr__" = some none) &&
  (decide (PySem.W.subIn K (.ref D) (.type "BaseException") = some true) && (decide (PySem.W.findIn K (.ref D) "__class__" = some (some (.builtin "object.__class__"))) &&
  (decide (PySem.W.specialIn K (.builtin "object.__class__") "__get__" = some (some (.builtin "getset_descriptor.__get__"))) && (decide (PySem.W.takesIn K (.builtin "object.__class__") = some true) &&
  (decide (PySem.W.mroIn K D (.type "object") = some true) && PySem.W.hasDictIn K D)))))))
theorem errC_of {K : PySem.W.Frag} {D : Addr} (h : errB K D = true) : ErrC K D := by
  unfold errB at h
  simp only [Bool.and_eq_true, decide_eq_true_eq] at h
  obtain ⟨h1, h2, h3, h4, h5, h6, h7, h8, h9⟩ := h
  exact ⟨h1, h2, h3, h4, h5, h6, h7, h8, h9⟩
section
variable {X : Cx} {a : Addr} {cls : Value} {oe : Obj} {pn : List (Addr × Obj)} {d : Option Addr}
theorem err_inst {D : Addr} {h : Heap} (hz : Zc (.ref D) d oe) (hf : ∃ vs, oe.data = .fields vs) (hget : h.get? a = some oe) (hd : ∀ dd, d = some dd → ∃ od, h.get? dd = some od) : ∃ od, PySem.W.InstAt h a oe D od := by
  obtain ⟨oc, odd, oda, osl⟩ := oe
  obtain ⟨h1, h2⟩ := hz
  obtain ⟨vs, hv⟩ := hf
  dsimp only at h1 h2 hv
  subst h1 h2 hv
  cases odd with
  | none => exact ⟨none, hget, rfl, rfl, trivial⟩
  | some dd =>
    obtain ⟨od, ho⟩ := hd dd rfl
    exact ⟨some od, hget, rfl, rfl, ho⟩
/-- its dict stands, where it has one -/
def XdOk (d : Option Addr) (H : Hp) : Prop := ∀ dd, d = some dd → ∃ fs, H dd = some (.xd fs)
def rIsG (K : PySem.W.Frag) (a : Addr) (cls : Value) (d : Option Addr) : List V → Hp → VK → Prop := fun xs H Q =>
  ∃ (D : Addr) (c : V) (cv : Value) (b : Bool), cls = .ref D ∧ ErrC K D ∧ XdOk d H ∧ xs = [.ref a, c] ∧ (∀ u, RelV c u → u = cv) ∧ PySem.W.kitOne K (.ref D) cv = some b ∧ Q (.bl b) H
theorem call_isG (hz : Zc cls d oe) (hf : ∃ vs, oe.data = .fields vs) : CallR (X.suite a ((a, oe) :: pn)) (.builtin "isinstance") (rIsG X.K a cls d) := by
  intro pins s σ H xs us Q I r h
  obtain ⟨D, c, cv, b, ec, C, hx, rfl, hcv, e, q⟩ := h
  subst ec
  obtain ⟨u1, u2, rfl, r1, r2⟩ := vals2 r
  obtain rfl : u1 = Value.ref a := r1
  have e2 := hcv _ r2
  subst e2
  obtain ⟨hget, _⟩ := I.pin (a, oe) (List.mem_append_left _ List.mem_cons_self)
  obtain ⟨od, J⟩ := err_inst (h := s.heap) hz hf hget fun dd ed => by
    obtain ⟨fs, e⟩ := hx dd ed
    obtain ⟨mA, ⟨o, _, _, ho, _⟩, _⟩ := (show ObjOk X.prog X.w H s.heap dd (.xd fs) from I.hok dd _ e)
    exact ⟨o, ho⟩
  exact PySem.W.kia_one (PySem.W.kitx_exc C.cl C.ga C.gt C.be C.kc C.sg C.tk C.ob) I.kIn J e (fun z => nomatch z) fun tk => ⟨.bl b, H, I.kept (t' := tk) fun _ _ z => z, rfl, q⟩
/-- e.n, e the error that the suite holds -/
def tXg (K : PySem.W.Frag) (a : Addr) (cls : Value) (d : Option Addr) (n : Str) (te : TE) : TE := fun σ H Q => te σ H fun x H1 => x = .ref a ∧ ∃ (D dd : Addr) (fs : List (Str × V)) (v : V), cls = .ref D ∧ ErrC K D ∧ PySem.W.findIn K (.ref D) n = some none ∧ d = some dd ∧ H1 dd = some (.xd fs) ∧ fs.lookup n = some v ∧ Q v H1
theorem pe_xg {e : Expr} {te : TE} {pos : Pos} {n : Str} (hz : Zc cls d oe) (hf : ∃ vs, oe.data = .fields vs) (he : PE (X.suite a ((a, oe) :: pn)) e te) (hb : attributeBase e n X.env (eval e X.env) = eval e X.env := by rfl) :
    PE (X.suite a ((a, oe) :: pn)) (.Attribute e n pos) (tXg X.K a cls d n te) := by
  refine ⟨fun pins s σ H Q I h => attr_of hb (thn (he.run pins s σ H _ I h) fun u s1 hh => ?_)⟩
  obtain ⟨x, H1, I1, rx, ex, D, dd, fs, v, ec, C, hno, ed, ea, l, q⟩ := hh
  subst ex ec ed
  obtain rfl : u = Value.ref a := rx
  obtain ⟨ha, _⟩ := I1.pin (a, oe) (List.mem_append_left _ List.mem_cons_self)
  obtain ⟨vs, hd⟩ := hf
  obtain ⟨mA, hns, hr⟩ := (show ObjOk X.prog X.w H1 s1.heap dd (.xd fs) from I1.hok dd _ ea)
  obtain ⟨od, ho, hl⟩ := lookIn_ns hns
  obtain ⟨u, hu, ru⟩ := RelO.some_of (v := v) (o := mA n) (by rw [← l]; exact hr n)
  have J : PySem.W.InstAt s1.heap a oe D (some od) := ⟨ha, hz.1, by unfold PySem.W.notCls; rw [hd] <;> rfl, by rw [hz.2]; exact ho⟩
  exact HandSPX.exc_get I1.kIn J C.ga C.gt C.be (PySem.W.findObj_own C.hd hno rfl (by rw [hl, hu])) (handed_of ru) ⟨v, H1, I1.tok _, ru, q⟩
end
end Sc
/-! tuples whose object is known: their display, their sum, where a thing stands in them -/
namespace Sc
open PySem PySem.Spec PyProof.Rows L2
def tupO (o : Obj) : Prop := o.cls = .type "tuple" ∧ o.dict = none
/-- a tuple display, with its object -/
def tTupF (t : TA) : TE := fun σ H Q => t σ H fun xs H1 => xs.length ≤ sizeLine ∧ ∀ p o, H1 p = none → tupO o → Q (.ref p) (upd H1 p (.frz o (.tup xs)))
section
variable {X : Cx}
theorem pe_tupF {es : List Expr} {t : TA} {pos : Pos} {x1} (h : PA X es t) : PE X (.Tuple es x1 pos) (tTupF t) := by
  refine ⟨fun pins s σ H Q I hq => ?_⟩
  refine wpAny_Tuple_spliced (thn (h.run pos pins s σ H _ I hq) fun us s1 ⟨xs, H1, I1, r, z, q⟩ => ⟨by rw [← r.length]; exact z, ?_⟩)
  have hf : H1 s1.heap.objs.size = none := I1.hok.fresh (Nat.le_refl _)
  refine ⟨.ref s1.heap.objs.size, upd H1 s1.heap.objs.size (.frz { cls := .type "tuple", data := .seq us.toArray } (.tup xs)), I1.laid (t' := s1.toks) (fun b u e => Heap.get?_push_of_some _ e) (Nat.le_refl _) ?_, rfl, q _ _ hf ⟨rfl, rfl⟩⟩
  exact ⟨Heap.get?_push_size _ rfl, z, us, r, ⟨_, Heap.get?_push_size _ rfl, rfl, _, rfl⟩⟩
/-- a + b, where neither is empty, with the object -/
def rCatF (K : PySem.W.Frag) : R2 := fun x y H Q => ∃ a b xs ys, x = .ref a ∧ y = .ref b ∧ SqT K H a xs ∧ SqT K H b ys ∧ xs.length + ys.length ≤ sizeLine ∧
  (xs = [] → Q (.ref b) H) ∧ (xs ≠ [] → ys ≠ [] ∧ ∀ p o, H p = none → tupO o → Q (.ref p) (upd H p (.frz o (.tup (xs ++ ys)))))
theorem op_catF : OpR X (binaryOp .Add) (rCatF X.K) := by
  intro pins s σ H x y v u Q I rx ry h
  obtain ⟨a, b, xs, ys, rfl, rfl, ha, hb, hz, q0, q2⟩ := h
  cases rx
  cases ry
  obtain ⟨its, r1, p1, _⟩ := I.tuple ha
  obtain ⟨its2, r2, p2, _⟩ := I.tuple hb
  by_cases hx : xs = []
  · subst hx
    cases r1
    exact cat_tup0 p1 p2 ⟨.ref b, H, I, rfl, q0 rfl⟩
  · obtain ⟨hy, q2⟩ := q2 hx
    refine HT.cat_tup p1 p2 (fun z => hx (r1.nil_iff.mp z)) (fun z => absurd (r2.nil_iff.mp z) hy) (fun z => ?_) (by rw [← r1.length, ← r2.length]; exact hz)
    refine ⟨.ref s.heap.objs.size, _, I.laid (t' := s.toks) (o := .frz { cls := .type "tuple", data := .seq (its ++ its2).toArray } (.tup (xs ++ ys))) (fun b ob q => Heap.get?_push_of_some _ q) (Nat.le_refl _) ?_, rfl, q2 _ _ (I.hok.fresh (Nat.le_refl _)) ⟨rfl, rfl⟩⟩
    exact ⟨Heap.get?_push_size _ rfl, by rw [List.length_append]; exact hz, _, r1.append r2, IsTup.new _ _⟩
/-- a tuple whose object is known -/
def isTup (x : V) (H : Hp) : Prop := ∃ (p : Addr) (o : Obj) (xs : List V), x = .ref p ∧ H p = some (.frz o (.tup xs)) ∧ tupO o
theorem tyok_tup : TyOk X "tuple" isTup := by
  rintro pins σ H s x v I r ⟨p, o, xs, rfl, h, hc, hd⟩
  have z := I.hok p _ h
  cases r
  obtain ⟨g, _⟩ := z
  exact ⟨⟨o, g, hc⟩, fun a e => by cases e; exact ⟨o, g, hd⟩⟩
def rTIndex (K : PySem.W.Frag) : V → List V → Hp → VK → Prop := fun x xs H Q => ∃ (a : Addr) (ys : List V) (y : V) (j : Nat) (z : V), x = V.ref a ∧ xs = [y] ∧ SqT K H a ys ∧ flatV y = true ∧ ys.all flatV = true ∧ ys[j]? = some z ∧ eqV z y = true ∧ (∀ (m : Nat) (z' : V), m < j → ys[m]? = some z' → eqV z' y = false) ∧ Q (.int (j : Nat)) H
theorem mt_tindex : MtR X "tuple.index" (rTIndex X.K) := by
  intro pins s σ H x xs v us Q I rx rxs h
  obtain ⟨a, ys, y, j, z, rfl, rfl, hs, fy, fys, hz, hzj, hno, q⟩ := h
  cases rx
  cases rxs with
  | cons ry rt =>
    rename_i uy ut
    cases rt
    obtain ⟨its, rv, ⟨⟨cls, dd, data, sl⟩, ho, hc, n, hd⟩, hlen⟩ := I.tuple hs
    simp only at hc hd
    subst hc hd
    obtain ⟨u, hu, ru⟩ := rv.get hz
    obtain ⟨hjl, hje⟩ := List.getElem?_eq_some_iff.mp hu
    have hvl := rv.length
    have hj : j < its.toArray.size := by simpa using hjl
    have hsl := sizeLine_eq
    refine call_meets PySem.F.slot_tuple_index ⟨_, ho, rfl⟩ PySem.F.entry_tuple_index (PySem.F.args_tuple_index_2 _ _)
      (TI.tuple_indexAt a its.toArray n dd sl uy (eqU y) j hj ?_ ?_) ⟨ho, fun u' hu' => mem_eqAt ry fy rv fys u' (by simpa using hu'), ?_⟩
    · have e1 : its.toArray[j] = u := by simpa using hje
      rw [e1, eqU_of ru (flat_at fys hz)]
      exact hzj
    · intro m hm hmj
      have hml : m < its.length := by simpa using hm
      have hmy : m < ys.length := by omega
      have hy' : ys[m]? = some ys[m] := List.getElem?_eq_getElem hmy
      obtain ⟨u2, hu2, ru2⟩ := rv.get hy'
      obtain ⟨_, hme⟩ := List.getElem?_eq_some_iff.mp hu2
      have e1 : its.toArray[m] = u2 := by simpa using hme
      rw [e1, eqU_of ru2 (flat_at fys hy')]
      exact hno m _ hmj hy'
    · exact ⟨.int (j : Nat), H, I.tok _, ⟨_, rfl⟩, q⟩
end
end Sc
namespace Sc
open PySem PySem.Spec PyProof.Rows L2 NdefX
/-! ### own errors with fields, made and raised -/
/-- what an f-string takes -/
def FOk : V → Prop
  | .int i => i.natAbs.log2 < 1920
  | .str z => z.length ≤ 1000000
  | _ => False
theorem fmt_at {y : V} {R : Str → Prop} (ok : FOk y) (q : ∀ z : Str, z.length ≤ 1000000 → R z) : (∃ z : Str, y = .str z ∧ z.length ≤ sizeLine ∧ R z) ∨ ∃ i : Int, y = .int i ∧ i.natAbs.log2 < 1920 ∧ R (toString i) := by
  cases y with
  | str z => exact .inl ⟨z, rfl, Nat.le_trans ok (by rw [sizeLine_eq]; decide), q z ok⟩
  | int i =>
    refine .inr ⟨i, rfl, ok, q _ ?_⟩
    have e : (PySem.Str.ofString (toString i)).length ≤ 1921 := int_text_len_1921 ok
    exact Nat.le_trans e (by decide)
  | _ => exact ok.elim
theorem fok_nat {i : Nat} (hi : i ≤ 1000) : FOk (.int (i : Nat)) := by
  show (i : Int).natAbs.log2 < 1920
  have e1 : (i : Int).natAbs = i := rfl
  rw [e1]
  by_cases h0 : i = 0
  · subst h0
    decide
  · have := (Nat.log2_lt h0 (k := 10)).mpr (Nat.lt_of_le_of_lt hi (by decide))
    omega
theorem app_len {a b : Str} : (a ++ b).length = a.length + b.length := by
  show (a.cps ++ b.cps).size = a.cps.size + b.cps.size
  exact Array.size_append
/-- a rule of arguments, its reading made monotone -/
theorem pa_mono {X : Cx} {es : List Expr} {ta : TA} (h : PA X es ta) : PA X es (fun σ H Q => ∃ R, ta σ H R ∧ ∀ vs H1, R vs H1 → Q vs H1) := by
  refine ⟨fun pos pins s σ H Q I ⟨R, q, k⟩ => wpAny_mono (h.run pos pins s σ H R I q) (fun us s1 ⟨vs, H1, J, r, z⟩ => ⟨vs, H1, J, r, k vs H1 z⟩) fun _ _ z => z⟩
/-- the promise of an __init__ that keeps its fields fs, in their order -/
def sp_init1 (C : Addr) (f : Str) : Sp := fun vs H Q _ => ∃ (a : Addr) (y : V), vs = [.ref a, y] ∧ H a = some (exo a C none) ∧ FOk y ∧ ∀ dx, H dx = none → dx ≠ a → Q .non (upd (upd H dx (exd dx [(f, y)])) a (exo a C (some dx)))
def sp_init2 (C : Addr) (f g : Str) : Sp := fun vs H Q _ => ∃ (a : Addr) (y z : V), vs = [.ref a, y, z] ∧ H a = some (exo a C none) ∧ FOk y ∧ FOk z ∧
  ∀ dx, H dx = none → dx ≠ a → Q .non (upd (upd (upd H dx (exd dx [(f, y)])) a (exo a C (some dx))) dx (exd dx [(g, z), (f, y)]))
/-- the class x at C, its __init__ keeping sp -/
structure ErrMk (P : Program) (w : World) (K : PySem.W.Frag) (mg : Str → Option Value) (base : Heap) (x : Str) (C : Addr) (ps : List Str) (sp : Sp) : Prop where
  ex : ∃ (fI : Addr) (fd : FuncData), OexC K C ∧ PySem.W.findIn K (.ref C) "__init__" = some (some (.ref fI)) ∧ PySem.W.typeIn K (.ref fI) = some (.type "function") ∧ FnOk P w K mg base CX0 1 fI fd ps sp ∧ Binds K fd ps [] ∧ mg x = some (.ref C)
theorem let_go {H : Hp} {a d : Addr} {o o' u : HO} (n : H a = none) (ne : d ≠ a) : upd (del (upd (upd H d u) a o) a) d o' = upd H d o' := by
  funext b
  by_cases hd : b = d
  · rw [hd, upd_same, upd_same]
  · rw [upd_ne hd, upd_ne hd]
    by_cases ha : b = a
    · rw [ha, del_same, n]
    · rw [del_ne ha, upd_ne ha, upd_ne hd]
section
variable {X : Cx} {x f g : Str} {C : Addr} {ps : List Str} {e e2 : Expr} {te te2 : TE} {p pos : Pos}
/-- x(e): an error whose own dict, new, holds the field -/
def tErr1 (C : Addr) (f : Str) (te : TE) : L2.St → Hp → XK → Prop := fun σ H Q => te σ H fun y H1 => FOk y ∧ ∀ d, H1 d = none → Q (.ref C) (some d) (upd H1 d (.xd [(f, y)]))
theorem pmk_err1 (M : ErrMk X.prog X.w X.K X.mg X.base x C ps (sp_init1 C f)) (hr : Room 2 X.A) (he : PE X e te) (hg : Gl X x := by rfl) (hdb : (x == ("__debug__" : Str)) = false := by decide)
    (hs : starEach [e] X.env = (false, eval e X.env) :: starEach [] X.env := by rfl) : PMk X (.Call (.Name x p) [e] [] pos) (tErr1 C f te) := by
  obtain ⟨fI, fd, T, iC, tI, F, hb, hm⟩ := M.ex
  intro pins s σ H Q I h
  refine pmk_oex (CX := CX0) T iC tI F hr hb .nil (fun _ _ _ _ _ _ _ z => z.elim) hg hm (pa_mono (pa_cons he pa_nil hs)) hdb hs rfl pins s σ H Q I ?_
  refine ⟨fun vs H1 => match vs with
    | [y] => FOk y ∧ ∀ d, H1 d = none → Q (.ref C) (some d) (upd H1 d (.xd [(f, y)]))
    | _ => False, h, fun vs H1 r => ?_⟩
  match vs, r with
  | [y], ⟨ok, q⟩ =>
    refine ⟨by simp, fun a na => ⟨a, y, rfl, upd_same, ok, fun dx nd ne => ⟨rfl, dx, _, upd_same, by rw [upd_ne ne, upd_same], ?_, ?_⟩⟩⟩
    · rw [upd_ne ne] at nd
      exact nd
    · rw [upd_ne ne] at nd
      have e1 : upd (upd (upd H1 a (exo a C none)) dx (exd dx [(f, y)])) a (exo a C (some dx)) = upd (upd H1 dx (exd dx [(f, y)])) a (exo a C (some dx)) := by
        funext b
        by_cases ha : b = a
        · rw [ha, upd_same, upd_same]
        · rw [upd_ne ha, upd_ne ha]
          by_cases hb : b = dx
          · rw [hb, upd_same, upd_same]
          · rw [upd_ne hb, upd_ne hb, upd_ne ha]
      rw [e1, let_go na ne]
      exact q dx nd
/-- x(e, e2): two fields -/
def tErr2 (C : Addr) (f g : Str) (te te2 : TE) : L2.St → Hp → XK → Prop := fun σ H Q => te σ H fun y H0 => te2 σ H0 fun z H1 => (FOk y ∧ FOk z) ∧ ∀ d, H1 d = none → Q (.ref C) (some d) (upd H1 d (.xd [(g, z), (f, y)]))
theorem pmk_err2 (M : ErrMk X.prog X.w X.K X.mg X.base x C ps (sp_init2 C f g)) (hr : Room 2 X.A) (he : PE X e te) (he2 : PE X e2 te2) (hg : Gl X x := by rfl) (hdb : (x == ("__debug__" : Str)) = false := by decide)
    (hs : starEach [e, e2] X.env = (false, eval e X.env) :: starEach [e2] X.env := by rfl) (hs2 : starEach [e2] X.env = (false, eval e2 X.env) :: starEach [] X.env := by rfl) (hpl : (backTo pos (starEach [e2] X.env)).any (·.1) = false := by rfl) :
    PMk X (.Call (.Name x p) [e, e2] [] pos) (tErr2 C f g te te2) := by
  obtain ⟨fI, fd, T, iC, tI, F, hb, hm⟩ := M.ex
  intro pins s σ H Q I h
  refine pmk_oex (CX := CX0) T iC tI F hr hb .nil (fun _ _ _ _ _ _ _ z => z.elim) hg hm (pa_mono (pa_cons he (pa_cons he2 pa_nil hs2) hs)) hdb hs hpl pins s σ H Q I ?_
  refine ⟨fun vs H1 => match vs with
    | [y, z] => (FOk y ∧ FOk z) ∧ ∀ d, H1 d = none → Q (.ref C) (some d) (upd H1 d (.xd [(g, z), (f, y)]))
    | _ => False, h, fun vs H1 r => ?_⟩
  match vs, r with
  | [y, z], ⟨⟨ok, ok2⟩, q⟩ =>
    refine ⟨by simp, fun a na => ⟨a, y, z, rfl, upd_same, ok, ok2, fun dx nd ne => ⟨rfl, dx, _, by rw [upd_ne ne.symm, upd_same], upd_same, ?_, ?_⟩⟩⟩
    · rw [upd_ne ne] at nd
      exact nd
    · rw [upd_ne ne] at nd
      have e1 : upd (del (upd (upd (upd (upd H1 a (exo a C none)) dx (exd dx [(f, y)])) a (exo a C (some dx))) dx (exd dx [(g, z), (f, y)])) a) dx (.xd [(g, z), (f, y)]) = upd H1 dx (.xd [(g, z), (f, y)]) := by
        funext b
        by_cases hb : b = dx
        · rw [hb, upd_same, upd_same]
        · rw [upd_ne hb, upd_ne hb]
          by_cases ha : b = a
          · rw [ha, del_same, na]
          · rw [del_ne ha, upd_ne hb, upd_ne ha, upd_ne hb, upd_ne ha]
      rw [e1]
      exact q dx nd
/-- the class x at C, without an __init__ of its own -/
structure ErrMk0 (K : PySem.W.Frag) (mg : Str → Option Value) (x : Str) (C : Addr) : Prop where
  q : PySem.W.excIn K C [.type "ValueError", .type "Exception", .type "BaseException", .type "object"] "ValueError.__new__" = true
  g : mg x = some (.ref C)
  k : PySem.W.keepIn K (.ref C) = true
  b : PySem.W.subIn K (.ref C) (.type "BaseException") = some true
  t : PySem.W.typeIn K (.ref C) = some (.type "type")
theorem pmk_err0 {m : Str} {j : Nat} {p2 : Pos} (M : ErrMk0 X.K X.mg x C) (hg : Gl X x := by rfl) (hdb : (x == ("__debug__" : Str)) = false := by decide) :
    PMk X (.Call (.Name x p) [.Constant (.str m) j p2] [] pos) (fun _ H Q => Q (.ref C) none H) := pmk_own PySem.F.excBase_ValueError M.q M.g M.k (raises_own M.b M.t) hg hdb
end
end Sc
namespace Sc
open PySem PySem.Spec PyProof.Rows L2 NdefX
section
variable {P : Program} {w : World} {K : PySem.W.Frag} {mg : Str → Option Value} {base : Heap}
theorem sc_init_InvalidFacts : NScope ["self", "index", "__class__"] ["self", "index"] ["__class__"] (defScope (inClass (topS 3) 0)) := nscope_by (by decide +kernel)
theorem ok_init_InvalidFacts {fI C cc c : Addr} {oc kV doc pm ct : Value} {od an : Option Addr} {osl : Array (Option Value)} (lk : K.lookup fI = some ⟨oc, od, .func (supFd (nf_InvalidFacts cc c) kV doc pm an ct), osl⟩)
    (hcd : PySem.W.codeIn K (.ref c) "InvalidFacts.__init__" = true) (T : OexC K C) (S : SupC P K mg C cc c) (n0 : PySem.W.findIn K (.ref C) "index" = some none) : FnOk P w K mg base CX0 1 fI (supFd (nf_InvalidFacts cc c) kV doc pm an ct) ["self", "index"] (sp_init1 C "index") := by
  refine fn_sup (N := ["self", "index", "__class__"]) (ps := ["self", "index"]) lk hcd rfl sc_init_InvalidFacts T S (fun vs H Q E h => ?_) rfl rfl rfl rfl rfl (fun A outer s H vs Q E hr h => ?_) (fun L => ⟨_, rfl⟩) (fun L => rfl) (fun L => rfl) (fun L => rfl) (fun L => rfl)
  · obtain ⟨a, y0, rfl, ha, ok0, q⟩ := h
    rfl
  · obtain ⟨a, y0, rfl, ha, ok0, q⟩ := h
    refine ⟨_, _, pa_cons (pe_joined (PJ.cons pe_str (PJ.cons (pe_fmt (pv 1)) PJ.nil))) pa_nil, pss_one (ps_ost (pv 0) (pv 1)), a, rfl, ha, ?_⟩
    refine ⟨_, rfl, (by rw [sizeLine_eq]; simp only [app_len]; have e0 : Str.empty.length = 0 := rfl; have e1 : (("wrong fact at index " : Str)).length = 20 := (by decide +kernel); omega), ⟨y0, rfl, fmt_at ok0 fun z0 hz0 => ⟨_, rfl, (by rw [sizeLine_eq]; simp only [app_len]; have e0 : Str.empty.length = 0 := rfl; have e1 : (("wrong fact at index " : Str)).length = 20 := (by decide +kernel); omega), ⟨by simp, ha, y0, rfl, .ref a, rfl, a, C, rfl, T, n0, .inl ⟨ha, fun dx nd ne => q dx nd ne⟩⟩⟩⟩⟩

theorem sc_init_InvalidCase : NScope ["self", "index", "__class__"] ["self", "index"] ["__class__"] (defScope (inClass (topS 4) 0)) := nscope_by (by decide +kernel)
theorem ok_init_InvalidCase {fI C cc c : Addr} {oc kV doc pm ct : Value} {od an : Option Addr} {osl : Array (Option Value)} (lk : K.lookup fI = some ⟨oc, od, .func (supFd (nf_InvalidCase cc c) kV doc pm an ct), osl⟩)
    (hcd : PySem.W.codeIn K (.ref c) "InvalidCase.__init__" = true) (T : OexC K C) (S : SupC P K mg C cc c) (n0 : PySem.W.findIn K (.ref C) "index" = some none) : FnOk P w K mg base CX0 1 fI (supFd (nf_InvalidCase cc c) kV doc pm an ct) ["self", "index"] (sp_init1 C "index") := by
  refine fn_sup (N := ["self", "index", "__class__"]) (ps := ["self", "index"]) lk hcd rfl sc_init_InvalidCase T S (fun vs H Q E h => ?_) rfl rfl rfl rfl rfl (fun A outer s H vs Q E hr h => ?_) (fun L => ⟨_, rfl⟩) (fun L => rfl) (fun L => rfl) (fun L => rfl) (fun L => rfl)
  · obtain ⟨a, y0, rfl, ha, ok0, q⟩ := h
    rfl
  · obtain ⟨a, y0, rfl, ha, ok0, q⟩ := h
    refine ⟨_, _, pa_cons (pe_joined (PJ.cons pe_str (PJ.cons (pe_fmt (pv 1)) PJ.nil))) pa_nil, pss_one (ps_ost (pv 0) (pv 1)), a, rfl, ha, ?_⟩
    refine ⟨_, rfl, (by rw [sizeLine_eq]; simp only [app_len]; have e0 : Str.empty.length = 0 := rfl; have e1 : (("wrong name in the case at index " : Str)).length = 32 := (by decide +kernel); omega), ⟨y0, rfl, fmt_at ok0 fun z0 hz0 => ⟨_, rfl, (by rw [sizeLine_eq]; simp only [app_len]; have e0 : Str.empty.length = 0 := rfl; have e1 : (("wrong name in the case at index " : Str)).length = 32 := (by decide +kernel); omega), ⟨by simp, ha, y0, rfl, .ref a, rfl, a, C, rfl, T, n0, .inl ⟨ha, fun dx nd ne => q dx nd ne⟩⟩⟩⟩⟩

theorem sc_init_InvalidCondition : NScope ["self", "part", "index", "__class__"] ["self", "part", "index"] ["__class__"] (defScope (inClass (topS 5) 0)) := nscope_by (by decide +kernel)
theorem ok_init_InvalidCondition {fI C cc c : Addr} {oc kV doc pm ct : Value} {od an : Option Addr} {osl : Array (Option Value)} (lk : K.lookup fI = some ⟨oc, od, .func (supFd (nf_InvalidCondition cc c) kV doc pm an ct), osl⟩)
    (hcd : PySem.W.codeIn K (.ref c) "InvalidCondition.__init__" = true) (T : OexC K C) (S : SupC P K mg C cc c) (n0 : PySem.W.findIn K (.ref C) "part" = some none) (n1 : PySem.W.findIn K (.ref C) "index" = some none) : FnOk P w K mg base CX0 1 fI (supFd (nf_InvalidCondition cc c) kV doc pm an ct) ["self", "part", "index"] (sp_init2 C "part" "index") := by
  refine fn_sup (N := ["self", "part", "index", "__class__"]) (ps := ["self", "part", "index"]) lk hcd rfl sc_init_InvalidCondition T S (fun vs H Q E h => ?_) rfl rfl rfl rfl rfl (fun A outer s H vs Q E hr h => ?_) (fun L => ⟨_, rfl⟩) (fun L => rfl) (fun L => rfl) (fun L => rfl) (fun L => rfl)
  · obtain ⟨a, y0, y1, rfl, ha, ok0, ok1, q⟩ := h
    rfl
  · obtain ⟨a, y0, y1, rfl, ha, ok0, ok1, q⟩ := h
    refine ⟨_, _, pa_cons (pe_joined (PJ.cons pe_str (PJ.cons (pe_fmt (pv 1)) (PJ.cons pe_str (PJ.cons (pe_fmt (pv 2)) PJ.nil))))) pa_nil, pss_cons (ps_ost (pv 0) (pv 1)) (pss_one (ps_ost (pv 0) (pv 2))), a, rfl, ha, ?_⟩
    refine ⟨_, rfl, (by rw [sizeLine_eq]; simp only [app_len]; have e0 : Str.empty.length = 0 := rfl; have e1 : (("wrong name in part " : Str)).length = 19 := (by decide +kernel); have e2 : ((" of the condition at index " : Str)).length = 27 := (by decide +kernel); omega), ⟨y0, rfl, fmt_at ok0 fun z0 hz0 => ⟨_, rfl, (by rw [sizeLine_eq]; simp only [app_len]; have e0 : Str.empty.length = 0 := rfl; have e1 : (("wrong name in part " : Str)).length = 19 := (by decide +kernel); have e2 : ((" of the condition at index " : Str)).length = 27 := (by decide +kernel); omega), ⟨_, rfl, (by rw [sizeLine_eq]; simp only [app_len]; have e0 : Str.empty.length = 0 := rfl; have e1 : (("wrong name in part " : Str)).length = 19 := (by decide +kernel); have e2 : ((" of the condition at index " : Str)).length = 27 := (by decide +kernel); omega), ⟨y1, rfl, fmt_at ok1 fun z1 hz1 => ⟨_, rfl, (by rw [sizeLine_eq]; simp only [app_len]; have e0 : Str.empty.length = 0 := rfl; have e1 : (("wrong name in part " : Str)).length = 19 := (by decide +kernel); have e2 : ((" of the condition at index " : Str)).length = 27 := (by decide +kernel); omega), ⟨by simp, ha, y0, rfl, .ref a, rfl, a, C, rfl, T, n0, .inl ⟨ha, fun dx nd ne => ⟨y1, rfl, .ref a, rfl, a, C, rfl, T, n1, .inr ⟨dx, _, upd_same, by rw [upd_ne ne, upd_same], by simp, q dx nd ne⟩⟩⟩⟩⟩⟩⟩⟩⟩⟩

theorem sc_init_InvalidRule : NScope ["self", "part", "__class__"] ["self", "part"] ["__class__"] (defScope (inClass (topS 7) 0)) := nscope_by (by decide +kernel)
theorem ok_init_InvalidRule {fI C cc c : Addr} {oc kV doc pm ct : Value} {od an : Option Addr} {osl : Array (Option Value)} (lk : K.lookup fI = some ⟨oc, od, .func (supFd (nf_InvalidRule cc c) kV doc pm an ct), osl⟩)
    (hcd : PySem.W.codeIn K (.ref c) "InvalidRule.__init__" = true) (T : OexC K C) (S : SupC P K mg C cc c) (n0 : PySem.W.findIn K (.ref C) "part" = some none) : FnOk P w K mg base CX0 1 fI (supFd (nf_InvalidRule cc c) kV doc pm an ct) ["self", "part"] (sp_init1 C "part") := by
  refine fn_sup (N := ["self", "part", "__class__"]) (ps := ["self", "part"]) lk hcd rfl sc_init_InvalidRule T S (fun vs H Q E h => ?_) rfl rfl rfl rfl rfl (fun A outer s H vs Q E hr h => ?_) (fun L => ⟨_, rfl⟩) (fun L => rfl) (fun L => rfl) (fun L => rfl) (fun L => rfl)
  · obtain ⟨a, y0, rfl, ha, ok0, q⟩ := h
    rfl
  · obtain ⟨a, y0, rfl, ha, ok0, q⟩ := h
    refine ⟨_, _, pa_cons (pe_joined (PJ.cons pe_str (PJ.cons (pe_fmt (pv 1)) (PJ.cons pe_str PJ.nil)))) pa_nil, pss_one (ps_ost (pv 0) (pv 1)), a, rfl, ha, ?_⟩
    refine ⟨_, rfl, (by rw [sizeLine_eq]; simp only [app_len]; have e0 : Str.empty.length = 0 := rfl; have e1 : (("wrong " : Str)).length = 6 := (by decide +kernel); have e2 : ((" of a rule" : Str)).length = 10 := (by decide +kernel); omega), ⟨y0, rfl, fmt_at ok0 fun z0 hz0 => ⟨_, rfl, (by rw [sizeLine_eq]; simp only [app_len]; have e0 : Str.empty.length = 0 := rfl; have e1 : (("wrong " : Str)).length = 6 := (by decide +kernel); have e2 : ((" of a rule" : Str)).length = 10 := (by decide +kernel); omega), ⟨_, rfl, (by rw [sizeLine_eq]; simp only [app_len]; have e0 : Str.empty.length = 0 := rfl; have e1 : (("wrong " : Str)).length = 6 := (by decide +kernel); have e2 : ((" of a rule" : Str)).length = 10 := (by decide +kernel); omega), ⟨by simp, ha, y0, rfl, .ref a, rfl, a, C, rfl, T, n0, .inl ⟨ha, fun dx nd ne => q dx nd ne⟩⟩⟩⟩⟩⟩

theorem sc_init_InvalidBook : NScope ["self", "word", "index", "__class__"] ["self", "word", "index"] ["__class__"] (defScope (inClass (topS 8) 0)) := nscope_by (by decide +kernel)
theorem ok_init_InvalidBook {fI C cc c : Addr} {oc kV doc pm ct : Value} {od an : Option Addr} {osl : Array (Option Value)} (lk : K.lookup fI = some ⟨oc, od, .func (supFd (nf_InvalidBook cc c) kV doc pm an ct), osl⟩)
    (hcd : PySem.W.codeIn K (.ref c) "InvalidBook.__init__" = true) (T : OexC K C) (S : SupC P K mg C cc c) (n0 : PySem.W.findIn K (.ref C) "word" = some none) (n1 : PySem.W.findIn K (.ref C) "index" = some none) : FnOk P w K mg base CX0 1 fI (supFd (nf_InvalidBook cc c) kV doc pm an ct) ["self", "word", "index"] (sp_init2 C "word" "index") := by
  refine fn_sup (N := ["self", "word", "index", "__class__"]) (ps := ["self", "word", "index"]) lk hcd rfl sc_init_InvalidBook T S (fun vs H Q E h => ?_) rfl rfl rfl rfl rfl (fun A outer s H vs Q E hr h => ?_) (fun L => ⟨_, rfl⟩) (fun L => rfl) (fun L => rfl) (fun L => rfl) (fun L => rfl)
  · obtain ⟨a, y0, y1, rfl, ha, ok0, ok1, q⟩ := h
    rfl
  · obtain ⟨a, y0, y1, rfl, ha, ok0, ok1, q⟩ := h
    refine ⟨_, _, pa_cons (pe_joined (PJ.cons pe_str (PJ.cons (pe_fmt (pv 1)) (PJ.cons pe_str (PJ.cons (pe_fmt (pv 2)) PJ.nil))))) pa_nil, pss_cons (ps_ost (pv 0) (pv 1)) (pss_one (ps_ost (pv 0) (pv 2))), a, rfl, ha, ?_⟩
    refine ⟨_, rfl, (by rw [sizeLine_eq]; simp only [app_len]; have e0 : Str.empty.length = 0 := rfl; have e1 : (("wrong book by " : Str)).length = 14 := (by decide +kernel); have e2 : ((" at index " : Str)).length = 10 := (by decide +kernel); omega), ⟨y0, rfl, fmt_at ok0 fun z0 hz0 => ⟨_, rfl, (by rw [sizeLine_eq]; simp only [app_len]; have e0 : Str.empty.length = 0 := rfl; have e1 : (("wrong book by " : Str)).length = 14 := (by decide +kernel); have e2 : ((" at index " : Str)).length = 10 := (by decide +kernel); omega), ⟨_, rfl, (by rw [sizeLine_eq]; simp only [app_len]; have e0 : Str.empty.length = 0 := rfl; have e1 : (("wrong book by " : Str)).length = 14 := (by decide +kernel); have e2 : ((" at index " : Str)).length = 10 := (by decide +kernel); omega), ⟨y1, rfl, fmt_at ok1 fun z1 hz1 => ⟨_, rfl, (by rw [sizeLine_eq]; simp only [app_len]; have e0 : Str.empty.length = 0 := rfl; have e1 : (("wrong book by " : Str)).length = 14 := (by decide +kernel); have e2 : ((" at index " : Str)).length = 10 := (by decide +kernel); omega), ⟨by simp, ha, y0, rfl, .ref a, rfl, a, C, rfl, T, n0, .inl ⟨ha, fun dx nd ne => ⟨y1, rfl, .ref a, rfl, a, C, rfl, T, n1, .inr ⟨dx, _, upd_same, by rw [upd_ne ne, upd_same], by simp, q dx nd ne⟩⟩⟩⟩⟩⟩⟩⟩⟩⟩

end
end Sc
namespace Sc
open PySem PySem.Spec PyProof.Rows L2
/-! ### names -/
theorem sc_is_name : FnScope ["value", "letter"] ["value"] (defScope s_is_name) := ⟨rfl, rfl, rfl, by decide +kernel, rfl, by decide +kernel, by decide +kernel⟩
theorem sc_rises : FnScope ["names", "index"] ["names", "index"] (defScope s_rises) := ⟨rfl, rfl, rfl, by decide +kernel, rfl, by decide +kernel, by decide +kernel⟩
def isLetters (x : Str) : Bool := x.cps.toList.all fun c => decide (c ∈ letters.cps.toList)
def isName (x : Str) : Bool := decide (1 ≤ x.length) && (decide (x.length ≤ 8) && isLetters x)
def isLetterV (c : Nat) : V := .bl (decide (c ∈ letters.cps.toList))
structure GNames (mg : Str → Option Value) : Prop where
  m_LETTERS : ∃ t, mg "LETTERS" = some (.str letters t)
  m_LONGEST : ∃ t, mg "LONGEST_NAME" = some (.int 8 t)
section
variable {P : Program} {w : World} {K : PySem.W.Frag} {mg : Str → Option Value} {base : Heap}
def sp_is_name : Sp := fun vs H Q _ => ∃ x : Str, vs = [.str x] ∧ x.length ≤ sizeLine ∧ ∀ H', Same H H' → Q (.bl (isName x)) H'
theorem ok_is_name {f : Addr} {fd : FuncData} (F : Fun K "is_name" "is_name" s_is_name f fd) (B : Blt mg) (G : GNames mg) : FnOk P w K mg base CX0 1 f fd ["value"] sp_is_name := by
  obtain ⟨⟨t1, mL⟩, ⟨t2, mN⟩⟩ := G
  refine F.ok sc_is_name (fun vs H Q E h => by obtain ⟨x, rfl, _⟩ := h; rfl) (fun cdv A outer s H vs Q E hr h => ?_)
  obtain ⟨x, rfl, hx, q⟩ := h
  refine ⟨_, (pss_cons (ps_if (PW.pt (pw_or (pt_not (pt_val (pe_callB (call_isT "str") (by rfl) B.b_isinstance PyProof.Rows.boot_isinstance (pa_cons (pv 0) (pa_cons (pe_bltn (v := .ty "str") (by rfl) B.b_str PyProof.Rows.boot_str rfl) pa_nil))))) (pw_or1 (pt_not (pt_chain op_le op_le pe_int (pe_callB call_len_str (by rfl) B.b_len PySem.boot_len (pa_cons (pv 0) pa_nil)) (pe_glob (v := .int 8) rfl mN ⟨_, rfl⟩)))))) (pss_one (ps_ret pe_bl)) pss_nil)
      (pss_one (ps_ret (pe_callB (cr_all rfl) (by rfl) B.b_all PyProof.Rows.boot_all (pa_cons (pe_lc (own := [("letter", 1)]) (g := gName 1) (tt := tYes) rfl sc_is_name.nd (pi_str (pv 0)) (blkOk_by (own := [("letter", 1)]) (N := ["value", "letter"]) (sc := defScope s_is_name) (by decide +kernel)) (fun _ _ _ _ _ => (pg_name (i := 1) sc_is_name.nd rfl (Or.inl rfl))) (fun _ _ _ _ _ => pts_nil) (fun _ _ _ _ _ => (pe_.re (pe_cmpR op_in_sign (pv 1) (pe_glob (v := .str "abcdefghijklmnopqrstuvwxyz") rfl mL ⟨_, rfl⟩) rfl) (by first | (dsimp only [Cx.blk]; done) | exact rfl)))) pa_nil))))), ?_⟩
  refine ⟨.str x, rfl, _, "str", true, rfl, .str _, by decide +kernel, _, rfl, iteF ?_⟩
  refine ⟨.str x, rfl, x, rfl, hx, 1, x.length, rfl, rfl, _, rfl, bcase (fun h1 => ?_) (fun h1 => ?_)⟩
  · refine ⟨_, _, rfl, rfl, _, rfl, ?_⟩
    have h1 : 1 ≤ x.length := by have := of_decide_eq_true h1; omega
    by_cases h2 : x.length ≤ 8
    · have e2 : decide ((x.length : Int) ≤ 8) = true := decide_eq_true (by omega)
      rw [e2]
      refine iteF ?_
      refine ⟨.str x, rfl, x, rfl, fun D nD => lc_it walk_str (fun i H' => Same H H' ∧ H' D = some (.lst ((x.cps.toList.take i).map isLetterV))) ⟨(Same.refl H).put nD, upd_same⟩ (fun _ _ _ _ => trivial) ?_ ?_⟩
      · rintro i y H2 H3 hi ⟨s, e⟩ ⟨rfl, c, hc, rfl⟩
        refine ⟨rfl, yes_ ⟨_, rfl, c, letters, rfl, rfl, grow (acc := fun i => .map isLetterV (x.cps.toList.take i)) nD s e ?_ ?_⟩⟩
        · rw [List.length_map, List.length_take]
          exact small1000 (by have : x.cps.toList.length = x.length := rfl; omega)
        · show List.map _ _ = _
          rw [take_more (x := c) (by rw [Array.getElem?_toList]; exact hc), List.map_append]
          rfl
      · rintro H2 ⟨s, e⟩
        have el : x.cps.toList.take x.cps.size = x.cps.toList := List.take_of_length_le (by rw [Array.length_toList]; exact Nat.le_refl _)
        rw [el] at e
        refine ⟨D, x.cps.toList.map fun c => decide (c ∈ letters.cps.toList), rfl, sqL_of (by rw [e, List.map_map]; rfl), ?_⟩
        have ea : isName x = (x.cps.toList.map fun c => decide (c ∈ letters.cps.toList)).all id := by
          unfold isName isLetters
          rw [decide_eq_true h1, decide_eq_true h2, Bool.true_and, Bool.true_and, List.all_map]
          rfl
        rw [← ea]
        exact q H2 s
    · have e2 : decide ((x.length : Int) ≤ 8) = false := decide_eq_false (by omega)
      rw [e2]
      refine iteT ?_
      have e : isName x = false := by unfold isName; rw [decide_eq_false h2, Bool.false_and, Bool.and_false]
      rw [← e]
      exact q H (Same.refl H)
  · have h1 : ¬ 1 ≤ x.length := by have := of_decide_eq_false h1; omega
    refine ⟨_, rfl, iteT ?_⟩
    have e : isName x = false := by unfold isName; rw [decide_eq_false h1, Bool.false_and]
    rw [← e]
    exact q H (Same.refl H)
/-- does the i-th name come behind the one before it -/
def risesAt (xs : List Str) (i : Nat) : Bool := decide (i = 0) || match xs[i - 1]?, xs[i]? with
  | some a, some b => decide (a.cps.toList < b.cps.toList)
  | _, _ => false
def sp_rises (K : PySem.W.Frag) : Sp := fun vs H Q _ => ∃ (a : Addr) (xs : List Str) (i : Nat), vs = [.ref a, .int i] ∧ SqT K H a (xs.map V.str) ∧ i < xs.length ∧ Q (.bl (risesAt xs i)) H
theorem ok_rises {f : Addr} {fd : FuncData} (F : Fun K "rises" "rises" s_rises f fd) : FnOk P w K mg base CX0 1 f fd ["names", "index"] (sp_rises K) := by
  refine F.ok sc_rises (fun vs H Q E h => by obtain ⟨a, xs, i, rfl, _⟩ := h; rfl) (fun cdv A outer s H vs Q E hr h => ?_)
  obtain ⟨a, xs, i, rfl, hS, hi, q⟩ := h
  refine ⟨_, (pss_one (ps_ret (pe_or (pe_cmpR op_eq (pv 1) pe_int (nomark _)) (pe_one (pe_cmpR op_lt_str (pe_ix ix_tup (pv 0) (pe_op op_sub (pv 1) pe_int) (fun _ _ => rfl)) (pe_ix ix_tup (pv 0) (pv 1) (fun _ _ => rfl)) (nomark _)))))), ?_⟩
  refine ⟨_, rfl, rfl, _, rfl, bcase (fun e => ?_) (fun e => ?_)⟩
  · have e0 : i = 0 := by have := V.int.inj (of_decide_eq_true e); omega
    have er : risesAt xs i = true := by unfold risesAt; rw [decide_eq_true e0, Bool.true_or]
    rw [er] at q
    exact q
  · have e0 : i ≠ 0 := fun z => by subst z; exact Bool.noConfusion (e.symm.trans (decide_eq_true rfl))
    have h1 : i - 1 < xs.length := by omega
    have g1 : (xs.map V.str)[i - 1]? = some (.str xs[i - 1]) := by rw [List.getElem?_map, List.getElem?_eq_getElem h1]; rfl
    have g2 : (xs.map V.str)[i]? = some (.str xs[i]) := by rw [List.getElem?_map, List.getElem?_eq_getElem hi]; rfl
    refine ⟨.ref a, rfl, .int i, rfl, i, 1, rfl, rfl, a, _, _, _, rfl, rfl, hS, at_of (j := i - 1) (by omega) g1, .ref a, rfl, .int i, rfl, a, _, _, _, rfl, rfl, hS, at_of rfl g2, xs[i - 1], xs[i], rfl, rfl, ?_⟩
    have er : risesAt xs i = decide (xs[i - 1].cps.toList < xs[i].cps.toList) := by
      unfold risesAt
      rw [decide_eq_false e0, Bool.false_or, List.getElem?_eq_getElem h1, List.getElem?_eq_getElem hi]
    rw [← er]
    exact q
end
end Sc
namespace Sc
open PySem PySem.Spec PyProof.Rows L2
/-! ### the law's draws -/
theorem sc__law_mix : FnScope ["_law_script", "_law_seed", "_law_state", "_law_cell"] ["_law_script", "_law_seed"] (defScope s__law_mix) := ⟨rfl, rfl, rfl, by decide +kernel, rfl, by decide +kernel, by decide +kernel⟩
theorem sc__law_next : FnScope ["_law_h", "_law_limit", "_law_cell"] ["_law_h", "_law_limit"] (defScope s__law_next) := ⟨rfl, rfl, rfl, by decide +kernel, rfl, by decide +kernel, by decide +kernel⟩
def twelve : List Str := ["age", "bad", "cold", "dear", "early", "first", "good", "hot", "idle", "just", "keen", "late"]
/-- the state of the draws: a list at a, its cells at l -/
def RS (H : Hp) (a l : Addr) : Prop := ∃ (st k : Int) (ns : List Int), H a = some (.lst [.int st, .ref l, .int k]) ∧ H l = some (.lst (ns.map V.int)) ∧ 0 ≤ st ∧ st < 2147483647 ∧ ns.length ≤ 63 ∧ ∀ z ∈ ns, Builtin.Int.intBits z ≤ 1048576
/-- all but the draws' state stands -/
structure Kp (a l : Addr) (H H' : Hp) : Prop where
  old : RS H a l
  new : RS H' a l
  keep : ∀ b o, b ≠ a → b ≠ l → H b = some o → H' b = some o
section
variable {P : Program} {w : World} {K : PySem.W.Frag} {mg : Str → Option Value} {base : Heap} {a l : Addr} {H H' H'' : Hp}
theorem RS.ne (r : RS H a l) : a ≠ l := fun z => by
  obtain ⟨st, k, ns, h1, h2, _⟩ := r
  subst z
  rw [h1] at h2
  have e := HO.lst.inj (Option.some.inj h2)
  match ns, e with
  | [x, y, z], e => cases (List.cons.inj (List.cons.inj e).2).1
theorem RS.same (r : RS H a l) (s : Same H H') : RS H' a l := by
  obtain ⟨st, k, ns, h1, h2, q⟩ := r
  exact ⟨st, k, ns, s _ _ h1, s _ _ h2, q⟩
theorem Kp.refl (r : RS H a l) : Kp a l H H := ⟨r, r, fun _ _ _ _ e => e⟩
theorem Kp.trans (k : Kp a l H H') (k' : Kp a l H' H'') : Kp a l H H'' := ⟨k.old, k'.new, fun b o n1 n2 e => k'.keep b o n1 n2 (k.keep b o n1 n2 e)⟩
theorem Kp.of (r : RS H a l) (s : Same H H') : Kp a l H H' := ⟨r, r.same s, fun b o _ _ e => s b o e⟩
theorem Kp.same (k : Kp a l H H') (s : Same H' H'') : Kp a l H H'' := k.trans (.of k.new s)
theorem RS.no {b : Addr} (r : RS H a l) (e : H b = none) : b ≠ a ∧ b ≠ l := by
  obtain ⟨st, k, ns, h1, h2, _⟩ := r
  exact ⟨fun z => (by rw [z, h1] at e; cases e), fun z => (by rw [z, h2] at e; cases e)⟩
theorem RS.not {b : Addr} {o : HO} (r : RS H a l) (e : H b = some o) (n : ∀ xs, o ≠ .lst xs) : b ≠ a ∧ b ≠ l := by
  obtain ⟨st, k, ns, h1, h2, _⟩ := r
  exact ⟨fun z => (by rw [z, h1] at e; exact n _ (Option.some.inj e).symm), fun z => (by rw [z, h2] at e; exact n _ (Option.some.inj e).symm)⟩
theorem Kp.free {b : Addr} (k : Kp a l H H') (e : H' b = none) : H b = none := by
  cases q : H b with
  | none => rfl
  | some o =>
    obtain ⟨n1, n2⟩ := k.new.no e
    rw [k.keep b o n1 n2 q] at e
    cases e
theorem Kp.put {p : Addr} {o : HO} (k : Kp a l H H') (n : H' p = none) : Kp a l H (upd H' p o) := k.same ((Same.refl H').put n)
theorem Kp.put0 {p : Addr} {o : HO} (k : Kp a l H H') (n : H p = none) : Kp a l H (upd H' p o) := by
  obtain ⟨n1, n2⟩ := k.old.no n
  obtain ⟨st, x, ns, h1, h2, q⟩ := k.new
  exact ⟨k.old, ⟨st, x, ns, by rw [upd_ne n1.symm]; exact h1, by rw [upd_ne n2.symm]; exact h2, q⟩, fun b o m1 m2 e => by rw [upd_ne (ne_of_none e n)]; exact k.keep b o m1 m2 e⟩
theorem ixN_of {n j : Nat} (hj : j < n) : ixN n (j : Int) = some j := by
  unfold ixN
  rw [if_pos (by omega), if_pos (by omega)]
  rfl
theorem Kp.obj {b : Addr} {o : HO} (k : Kp a l H H') (e : H b = some o) (n : ∀ xs, o ≠ .lst xs) : H' b = some o := by
  obtain ⟨n1, n2⟩ := k.old.not e n
  exact k.keep b o n1 n2 e
theorem Kp.tup {b : Addr} {xs : List V} (k : Kp a l H H') (h : SqT K H b xs) : SqT K H' b xs := by
  rcases h with (h | ⟨o, h⟩) | h
  · exact .inl (.inl (k.obj h fun _ z => nomatch z))
  · exact .inl (.inr ⟨o, k.obj h fun _ z => nomatch z⟩)
  · exact .inr h
theorem bits_div {x n : Int} (h0 : 0 ≤ x) (hn : 0 < n) : Builtin.Int.intBits (x / n) ≤ Builtin.Int.intBits x := by
  have h1 : 0 ≤ x / n := Int.ediv_nonneg h0 (Int.le_of_lt hn)
  have h2 : x / n ≤ x := Int.ediv_le_self n h0
  unfold Builtin.Int.intBits
  by_cases e : x / n = 0
  · rw [e]
    exact Nat.zero_le _
  · have e2 : x ≠ 0 := fun z => by rw [z, Int.zero_ediv] at e; exact e rfl
    rw [if_neg (by simpa using e), if_neg (by simpa using e2)]
    have e3 : (x / n).natAbs.log2 ≤ x.natAbs.log2 := (Nat.le_log2 (by omega)).mpr (Nat.le_trans (Nat.log2_self_le (by omega)) (by omega))
    omega
theorem small_bits {x : Int} {k : Nat} (h : x.natAbs < 2 ^ k) : Builtin.Int.intBits x ≤ k := by
  unfold Builtin.Int.intBits
  split
  · exact Nat.zero_le k
  · rename_i e
    have e : x ≠ 0 := by simpa using e
    have := (Nat.log2_lt (n := x.natAbs) (by omega)).mpr h
    omega
def sp_mix (K : PySem.W.Frag) : Sp := fun vs H Q _ => ∃ (s : Addr) (ns : List Int) (z : Int), vs = [.ref s, .int z] ∧ SqL K H s (ns.map V.int) ∧ ns.length ≤ 63 ∧ (∀ z ∈ ns, Builtin.Int.intBits z ≤ 1048576) ∧ 0 ≤ z ∧ z < 2147483647 ∧
  ∀ H' a l, Same H H' → RS H' a l → Q (.ref a) H'
theorem ok_mix {f : Addr} {fd : FuncData} (F : Fun K "_law_mix" "_law_mix" s__law_mix f fd) (B : Blt mg) : FnOk P w K mg base CX0 1 f fd ["_law_script", "_law_seed"] (sp_mix K) := by
  refine F.ok sc__law_mix (fun vs H Q E h => by obtain ⟨s, ns, z, rfl, _⟩ := h; rfl) (fun cdv A outer s H vs Q E hr h => ?_)
  obtain ⟨s, ns, z, rfl, hS, hl, hb, z0, z1, q⟩ := h
  refine ⟨_, (pss_cons (ps_set (i := 2) sc__law_mix.nd rfl (Or.inl rfl) (pv 1))
      (pss_cons (ps_for PassesOwn.never rfl (pi_list (pv 0)) (pg_name (i := 3) sc__law_mix.nd rfl (Or.inl rfl)) (pss_one (ps_set (i := 2) sc__law_mix.nd rfl (Or.inl rfl) (pe_op op_mod (pe_callTy call_int1 (by rfl) B.b_int PyProof.Rows.boot_int (pa_cons (pe_op op_add (pe_op op_add (pe_op op_mul (pv 2) pe_int) (pe_op op_mod (pe_callTy call_int1 (by rfl) B.b_int PyProof.Rows.boot_int (pa_cons (pv 3) pa_nil)) pe_int)) pe_int) pa_nil)) pe_int))))
      (pss_one (ps_ret (pe_lst (pa_cons (pv 2) (pa_cons (pe_callTy call_list_of (by rfl) B.b_list PyProof.Rows.boot_list (pa_cons (pv 0) pa_nil)) (pa_cons pe_int pa_nil)))))))), ?_⟩
  refine ⟨_, rfl, .ref s, rfl, s, rfl, ⟨_, hS⟩, for_it walk_list (fun i σ H' => ∃ (st : Int) (y : Option V), σ = [some (.ref s), some (.int z), some (.int st), y] ∧ H' = H ∧ 0 ≤ st ∧ st < 2147483647)
    ⟨z, none, rfl, rfl, z0, z1⟩ (fun i σ H' _ ⟨_, _, _, e, _⟩ => by rw [e]; exact hS) ?_ ?_⟩
  · rintro i x σ H2 H3 hi ⟨st, y, rfl, rfl, h0, h1⟩ ⟨rfl, hx⟩
    obtain ⟨c, hc, rfl⟩ : ∃ c, ns[i]? = some c ∧ x = V.int c := by
      rw [List.getElem?_map] at hx
      cases e : ns[i]? with
      | none => rw [e] at hx; cases hx
      | some c => rw [e] at hx; exact ⟨c, rfl, (Option.some.inj hx).symm⟩
    refine ⟨_, rfl, st, 48271, rfl, rfl, .inl ⟨by omega, by omega⟩, _, rfl, .inl ⟨c, rfl, c, 2147483629, rfl, rfl, (show (0 : Int) < 2147483629 by decide), _, _, rfl, rfl, _, _, rfl, rfl, .inl ⟨_, rfl, _, 2147483647, rfl, rfl, (show (0 : Int) < 2147483647 by decide), ?_⟩⟩⟩
    exact ⟨_, _, rfl, rfl, Int.emod_nonneg _ (by decide), Int.emod_lt_of_pos _ (by decide)⟩
  · rintro σ H2 ⟨st, y, rfl, rfl, h0, h1⟩
    refine ⟨_, rfl, .ref s, rfl, s, _, rfl, .inl hS, fun l nl => ⟨(by show 3 ≤ sizeLine; decide), fun a na => q _ a l ?_ ⟨st, 0, ns, upd_same, ?_, h0, h1, hl, hb⟩⟩⟩
    · exact ((Same.refl _).put nl).put' na
    · rw [upd_ne (ne_of_none upd_same na), upd_same]
def sp_next : Sp := fun vs H Q _ => ∃ (a l : Addr) (n : Int), vs = [.ref a, .int n] ∧ RS H a l ∧ 0 < n ∧ n.natAbs.log2 < 9000 ∧ ∀ H' r, Kp a l H H' → 0 ≤ r → r < n → Q (.int r) H'
theorem ok_next {f : Addr} {fd : FuncData} (F : Fun K "_law_next" "_law_next" s__law_next f fd) (B : Blt mg) : FnOk P w K mg base CX0 1 f fd ["_law_h", "_law_limit"] sp_next := by
  refine F.ok sc__law_next (fun vs H Q E h => by obtain ⟨a, l, n, rfl, _⟩ := h; rfl) (fun cdv A outer s H vs Q E hr h => ?_)
  obtain ⟨a, l, n, rfl, hR, n0, n9, q⟩ := h
  refine ⟨_, (pss_cons (ps_set (i := 2) sc__law_next.nd rfl (Or.inl rfl) (pe_ix ix_list (pe_op op_cat (pe_ix ix_list (pv 0) pe_int (fun _ _ => rfl)) (pe_lst (pa_cons pe_int pa_nil))) (pe_op op_mod (pe_callTy call_int1 (by rfl) B.b_int PyProof.Rows.boot_int (pa_cons (pe_ix ix_list (pv 0) pe_int (fun _ _ => rfl)) pa_nil)) (pe_callB (call_max2 rfl) (by rfl) B.b_max PyProof.Rows.boot_max (pa_cons pe_int (pa_cons (pe_callB call_len_seq (by rfl) B.b_len PySem.boot_len (pa_cons (pe_ix ix_list (pv 0) pe_int (fun _ _ => rfl)) pa_nil)) pa_nil)))) (fun _ _ => rfl)))
      (pss_cons (ps_if (pt_cmpR op_ge (pv 2) (pe_op op_pow pe_int pe_int) (nomark _)) (pss_cons (ps_asg (pe_op op_fdivW (pv 2) (pv 1)) (pg_sub (pe_ix ix_list (pv 0) pe_int (fun _ _ => rfl)) (pe_op op_mod (pe_callTy call_int1 (by rfl) B.b_int PyProof.Rows.boot_int (pa_cons (pe_ix ix_list (pv 0) pe_int (fun _ _ => rfl)) pa_nil)) (pe_callB call_len_seq (by rfl) B.b_len PySem.boot_len (pa_cons (pe_ix ix_list (pv 0) pe_int (fun _ _ => rfl)) pa_nil))) set_list))
      (pss_one (ps_ret (pe_op op_mod (pe_callTy call_int1 (by rfl) B.b_int PyProof.Rows.boot_int (pa_cons (pv 2) pa_nil)) (pv 1))))) pss_nil)
      (pss_cons (ps_asg (pe_op op_mod (pe_callTy call_int1 (by rfl) B.b_int PyProof.Rows.boot_int (pa_cons (pe_op op_add (pe_op op_add (pe_op op_mul (pe_ix ix_list (pv 0) pe_int (fun _ _ => rfl)) pe_int) (pe_op op_mulX (pv 2) pe_int)) pe_int) pa_nil)) pe_int) (pg_sub (pv 0) pe_int set_list))
      (pss_cons (ps_asg (pe_op op_add (pe_ix ix_list (pv 0) pe_int (fun _ _ => rfl)) pe_int) (pg_sub (pv 0) pe_int set_list))
      (pss_one (ps_ret (pe_op op_mod (pe_callTy call_int1 (by rfl) B.b_int PyProof.Rows.boot_int (pa_cons (pe_op op_fdiv (pe_ix ix_list (pv 0) pe_int (fun _ _ => rfl)) pe_int) pa_nil)) (pv 1)))))))), ?_⟩
  obtain ⟨st, k, ns, ha, hl, s0, s1, hlen, hb⟩ := id hR
  have nal := hR.ne
  have hm0 : 0 < (if ((ns.map V.int).length : Int) > 1 then ((ns.map V.int).length : Int) else 1) := by
    split <;> omega
  have hmx : (if ((ns.map V.int).length : Int) > 1 then ((ns.map V.int).length : Int) else 1) ≤ ns.length + 1 := by
    rw [List.length_map]
    split <;> omega
  have hcell : ∃ (j : Nat) (c : Int), k % (if ((ns.map V.int).length : Int) > 1 then ((ns.map V.int).length : Int) else 1) = j ∧ (ns.map V.int ++ [V.int 0])[j]? = some (.int c) ∧ (10 ^ 18 ≤ c → j < ns.length ∧ ns[j]? = some c ∧ k % (ns.length : Int) = j) ∧ Builtin.Int.intBits c ≤ 1048576 := by
    have r0 := Int.emod_nonneg k (Int.ne_of_gt hm0)
    have r1 := Int.emod_lt_of_pos k hm0
    obtain ⟨j, ej⟩ := Int.eq_ofNat_of_zero_le r0
    have ej : k % (if ((ns.map V.int).length : Int) > 1 then ((ns.map V.int).length : Int) else 1) = (j : Int) := ej
    by_cases hj : j < ns.length
    · refine ⟨j, ns[j], ej, ?_, fun _ => ⟨hj, List.getElem?_eq_getElem hj, ?_⟩, hb _ (List.getElem_mem hj)⟩
      · rw [List.getElem?_append_left (by rw [List.length_map]; exact hj), List.getElem?_map, List.getElem?_eq_getElem hj]
        rfl
      · rw [← ej, List.length_map]
        by_cases h1 : (ns.length : Int) > 1
        · rw [if_pos h1]
        · rw [if_neg h1]
          have e1 : (ns.length : Int) = 1 := by omega
          rw [e1]
    · have ejn : j = ns.length := by omega
      refine ⟨j, 0, ej, ?_, fun z => absurd z (by decide), by decide⟩
      rw [List.getElem?_append_right (by rw [List.length_map]; omega), List.length_map, ejn, Nat.sub_self]
      rfl
  obtain ⟨j, c, ej, gc, big, hc⟩ := hcell
  refine ⟨.ref a, rfl, a, _, 1, .ref l, rfl, rfl, sqL_of ha, atI_nat (j := 1) rfl, (by show 1 ≤ sizeLine; decide), fun p np => ?_⟩
  have npa := ne_of_none ha np
  have npl := ne_of_none hl np
  refine ⟨l, p, ns.map V.int, [.int 0], rfl, rfl, by rw [upd_ne npl]; exact hl, upd_same, by rw [List.length_map, sizeLine_eq]; show ns.length + 1 ≤ _; omega, fun p2 np2 => ?_⟩
  have np2' : H p2 = none := by
    cases e : H p2 with
    | none => rfl
    | some o => rw [upd_ne (ne_of_none e np)] at np2; rw [e] at np2; cases np2
  have s2 : Same H (upd (upd H p (.lst [.int 0])) p2 (.lst (ns.map V.int ++ [.int 0]))) := ((Same.refl H).put np).put np2'
  generalize hH2 : upd (upd H p (.lst [.int 0])) p2 (.lst (ns.map V.int ++ [.int 0])) = H2 at s2
  have hp2 : H2 p2 = some (.lst (ns.map V.int ++ [.int 0])) := by rw [← hH2, upd_same]
  have ha2 := s2 _ _ ha
  have hl2 := s2 _ _ hl
  refine ⟨.ref a, rfl, a, _, 2, .int k, rfl, rfl, sqL_of ha2, atI_nat (j := 2) rfl, .inl ⟨k, rfl, ?_⟩⟩
  refine ⟨.ref a, rfl, a, _, 1, .ref l, rfl, rfl, sqL_of ha2, atI_nat (j := 1) rfl, l, _, rfl, .inl (sqL_of hl2), 1, _, rfl, ?_⟩
  refine ⟨k, _, rfl, rfl, hm0, p2, _, _, .int c, rfl, rfl, sqL_of hp2, at_of ej gc, ?_⟩
  refine ⟨.int c, rfl, 10, 18, rfl, rfl, ⟨by decide, by decide, by decide⟩, c, 10 ^ 18, rfl, rfl, _, rfl, bcase (fun c1 => ?_) (fun c1 => ?_)⟩
  · have c1 : (10 : Int) ^ 18 ≤ c := of_decide_eq_true c1
    obtain ⟨hj, gj, ej2⟩ := big c1
    have hlp : 0 < (ns.length : Int) := by omega
    refine ⟨_, rfl, .int n, rfl, c, n, rfl, rfl, ⟨n0, n9⟩, .ref a, rfl, a, _, 1, .ref l, rfl, rfl, sqL_of ha2, atI_nat (j := 1) rfl, .ref a, rfl, a, _, 2, .int k, rfl, rfl, sqL_of ha2, atI_nat (j := 2) rfl, .inl ⟨k, rfl, ?_⟩⟩
    refine ⟨.ref a, rfl, a, _, 1, .ref l, rfl, rfl, sqL_of ha2, atI_nat (j := 1) rfl, l, _, rfl, .inl (sqL_of hl2), k, _, rfl, rfl, by rw [List.length_map]; exact hlp, l, _, _, j, rfl, rfl, hl2, ?_, ?_⟩
    · rw [List.length_map, ej2]
      unfold ixN
      rw [if_pos (by omega), if_pos (by omega)]
      rfl
    · refine ⟨.int c, rfl, .inl ⟨c, rfl, .int n, rfl, c, n, rfl, rfl, n0, q _ _ ⟨hR, ?_, fun b o n1 n2 e => ?_⟩ (Int.emod_nonneg _ (Int.ne_of_gt n0)) (Int.emod_lt_of_pos _ n0)⟩⟩
      · refine ⟨st, k, ns.set j (c / n), by rw [upd_ne nal]; exact ha2, by rw [upd_same, List.map_set], s0, s1, by rw [List.length_set]; exact hlen, fun z hz => ?_⟩
        rcases List.mem_or_eq_of_mem_set hz with h | h
        · exact hb z h
        · rw [h]
          exact Nat.le_trans (bits_div (by omega) n0) hc
      · rw [upd_ne n2]
        exact s2 b o e
  · refine ⟨.ref a, rfl, a, _, 0, .int st, rfl, rfl, sqL_of ha2, atI_nat (j := 0) rfl, st, 48271, rfl, rfl, .inl ⟨by omega, by omega⟩, .int c, rfl, c, 69621, rfl, rfl, ?_, _, _, rfl, rfl, _, 11, rfl, rfl, .inl ⟨_, rfl, _, 2147483647, rfl, rfl, (show (0 : Int) < 2147483647 by decide), .ref a, rfl, ?_⟩⟩
    · show (Builtin.Int.intBits c : Int) + (Builtin.Int.intBits 69621 : Int) ≤ 134217728
      have e1 : Builtin.Int.intBits 69621 ≤ 20 := small_bits (by decide)
      omega
    have z0 : 0 ≤ (st * 48271 + c * 69621 + 11) % 2147483647 := Int.emod_nonneg _ (by decide)
    have z1 : (st * 48271 + c * 69621 + 11) % 2147483647 < 2147483647 := Int.emod_lt_of_pos _ (by decide)
    refine ⟨a, _, 0, 0, rfl, rfl, ha2, rfl, ?_⟩
    refine ⟨.ref a, rfl, a, _, 2, .int k, rfl, rfl, sqL_of upd_same, atI_nat (j := 2) rfl, k, 1, rfl, rfl, .ref a, rfl, a, _, 2, 2, rfl, rfl, upd_same, rfl, ?_⟩
    refine ⟨.ref a, rfl, a, _, 0, .int ((st * 48271 + c * 69621 + 11) % 2147483647), rfl, rfl, sqL_of upd_same, atI_nat (j := 0) rfl, _, 7, rfl, rfl, ⟨by decide, by decide⟩, .inl ⟨_, rfl, .int n, rfl, _, n, rfl, rfl, n0, q _ _ ⟨hR, ?_, fun b o n1 n2 e => ?_⟩ (Int.emod_nonneg _ (Int.ne_of_gt n0)) (Int.emod_lt_of_pos _ n0)⟩⟩
    · exact ⟨_, k + 1, ns, upd_same, by rw [upd_ne nal.symm, upd_ne nal.symm]; exact hl2, z0, z1, hlen, hb⟩
    · rw [upd_ne n1, upd_ne n1]
      exact s2 b o e
theorem map_eraseIdx {α β : Type} {f : α → β} : ∀ (xs : List α) (j : Nat), (xs.map f).eraseIdx j = (xs.eraseIdx j).map f
  | [], _ => rfl
  | _ :: _, 0 => rfl
  | x :: r, j + 1 => by
    show f x :: (r.map f).eraseIdx j = f x :: (r.eraseIdx j).map f
    rw [map_eraseIdx r j]
/-- what stands at a value, read as data, at most n lists or tuples deep -/
inductive AD (H : Hp) : Nat → V → PyData → Prop where
  | non (n : Nat) : AD H n .non .none
  | bl (n : Nat) (b : Bool) : AD H n (.bl b) (.bool b)
  | int (n : Nat) (i : Int) : AD H n (.int i) (.int i)
  | str (n : Nat) (x : Str) : AD H n (.str x) (.str x)
  | lst {n : Nat} {a : Addr} {xs : List V} {ds : List PyData} (e : H a = some (.lst xs)) (l : xs.length = ds.length) (z : xs.length ≤ 1000000) (all : ∀ (i : Nat) (x : V) (d : PyData), xs[i]? = some x → ds[i]? = some d → AD H n x d) : AD H (n + 1) (.ref a) (.list ds)
  | tup {n : Nat} {a : Addr} {xs : List V} {ds : List PyData} (e : H a = some (.tup xs)) (l : xs.length = ds.length) (z : xs.length ≤ 1000000) (all : ∀ (i : Nat) (x : V) (d : PyData), xs[i]? = some x → ds[i]? = some d → AD H n x d) : AD H (n + 1) (.ref a) (.tuple ds)
theorem AD.same {n : Nat} {x : V} {d : PyData} (s : Same H H') (h : AD H n x d) : AD H' n x d := by
  induction h with
  | non n => exact .non n
  | bl n b => exact .bl n b
  | int n i => exact .int n i
  | str n x => exact .str n x
  | lst e l z all ih => exact .lst (s _ _ e) l z ih
  | tup e l z all ih => exact .tup (s _ _ e) l z ih
end
end Sc
namespace Sc
open PySem PySem.Spec PyProof.Rows L2
theorem strAt_inj {xs : List Str} {i : Nat} {x : Str} {v : V} (hx : xs[i]? = some x) (h : (xs.map V.str)[i]? = some v) : V.str x = v := by
  rw [List.getElem?_map, hx] at h
  exact Option.some.inj h
theorem find_none {n : Nat} {p : Nat → Bool} (h : ∀ j, j < n → p j = false) : (List.range n).find? p = none := by
  rw [List.find?_eq_none]
  intro j hj
  rw [h j (List.mem_range.mp hj)]
  exact Bool.false_ne_true
theorem find_at {n i : Nat} {p : Nat → Bool} (hi : i < n) (hp : p i = true) (h : ∀ j, j < i → p j = false) : (List.range n).find? p = some i := by
  rw [List.find?_range_eq_some]
  exact ⟨hp, List.mem_range.mpr hi, fun j hj => by rw [h j hj]; rfl⟩
/-- names that texts of a program may have -/
def Txts (xs : List Str) : Prop := ∀ x ∈ xs, x.length ≤ 1000
def errIx (C : Addr) (i : Nat) (H : Hp) (E : XK) : Prop := ∀ H' d, Same H H' → H' d = none → E (.ref C) (some d) (upd H' d (.xd [(("index" : Str), .int i)]))
theorem flat_strs : ∀ xs : List Str, (xs.map V.str).all flatV = true
  | [] => rfl
  | _ :: r => flat_strs r
theorem inV_str {x : Str} : ∀ xs : List Str, inV (.str x) (xs.map V.str) = decide (x ∈ xs)
  | [] => rfl
  | y :: r => by
    show (eqV (.str y) (.str x) || inV (.str x) (r.map V.str)) = _
    rw [inV_str r]
    show ((y == x) || _) = _
    by_cases h : y = x
    · subst h
      simp
    · have e : (y == x) = false := by simpa using h
      rw [e, Bool.false_or]
      simp [List.mem_cons, show ¬ x = y from fun z => h z.symm]
end Sc
namespace Sc
open PySem PySem.Spec PyProof.Rows L2
/-! ### conditions -/
theorem sc_check_part : FnScope ["part", "names", "before", "index", "name", "wrong"] ["part", "names", "before"] (defScope s_check_part) := ⟨rfl, rfl, rfl, by decide +kernel, rfl, by decide +kernel, by decide +kernel⟩
theorem sc_merged : FnScope ["names", "others", "name"] ["names", "others"] (defScope s_merged) := ⟨rfl, rfl, rfl, by decide +kernel, rfl, by decide +kernel, by decide +kernel⟩
theorem filter1 {α : Type} (p : α → Bool) (y : α) : List.filter p [y] = if p y = true then [y] else [] := by cases h : p y <;> simp [List.filter, h]
section
variable {P : Program} {w : World} {K : PySem.W.Frag} {mg : Str → Option Value} {base : Heap} {CC : Addr}
/-- the i-th name of a part is wrong; ys the part ahead of it -/
def wrongAt (xs ys : List Str) (i : Nat) : Bool := match xs[i]? with
  | some x => (!isName x || !risesAt xs i) || (decide (8 ≤ ys.length + i) || decide (x ∈ ys))
  | none => false
def firstWrong (xs ys : List Str) : Option Nat := (List.range xs.length).find? (wrongAt xs ys)
def errPI (C : Addr) (part : Int) (i : Nat) (H : Hp) (E : XK) : Prop := ∀ H' d, Same H H' → H' d = none → E (.ref C) (some d) (upd H' d (.xd [(("index" : Str), .int i), (("part" : Str), .int part)]))
def sp_check_part (K : PySem.W.Frag) (C : Addr) : Sp := fun vs H Q E => ∃ (part : Nat) (a b : Addr) (xs ys : List Str), vs = [.int part, .ref a, .ref b] ∧ part ≤ 1 ∧ SqT K H a (xs.map V.str) ∧ SqT K H b (ys.map V.str) ∧ Txts xs ∧ xs.length ≤ 1000 ∧ ys.length ≤ 1000 ∧
  (firstWrong xs ys = none → ∀ H', Same H H' → Q .non H') ∧ (∀ i, firstWrong xs ys = some i → errPI C part i H E)
theorem ok_check_part {f : Addr} {fd : FuncData} (F : Fun K "check_part" "check_part" s_check_part f fd) (B : Blt mg) (mM : ∃ t, mg "MOST_NAMES" = some (.int 8 t))
    (e_InvalidCondition : ErrMk P w K mg base "InvalidCondition" CC ["self", "part", "index"] (sp_init2 CC "part" "index")) (c_is_name : Cal P w K mg base CX0 1 "is_name" ["value"] sp_is_name) (c_rises : Cal P w K mg base CX0 1 "rises" ["names", "index"] (sp_rises K)) :
    FnOk P w K mg base (L2.CX P w) 3 f fd ["part", "names", "before"] (sp_check_part K CC) := by
  obtain ⟨t1, mM⟩ := mM
  refine F.okX sc_check_part (fun vs H Q E h => by obtain ⟨part, a, b, xs, ys, rfl, _⟩ := h; rfl) (fun cdv A outer s H vs Q E hr h => ?_)
  obtain ⟨part, a, b, xs, ys, rfl, hp, hS, hY, hT, hl, hly, q, e⟩ := h
  refine ⟨_, (pss_one (ps_for (passes_of rfl) rfl (pi_enumT (by rfl) B.b_enumerate (pa_cons (pv 1) pa_nil)) (pg_tup (by rfl) (pgs_cons (pg_name (i := 3) sc_check_part.nd rfl (Or.inl rfl)) (pgs_cons (pg_name (i := 4) sc_check_part.nd rfl (Or.inl rfl)) pgs_nil))) (pss_cons (ps_set (i := 5) sc_check_part.nd rfl (Or.inl rfl) (pe_or (pe_not (pe_cal c_is_name (hr.mono (by decide)) (pa_cons (pv 4) pa_nil))) (pe_one (pe_not (pe_cal c_rises (hr.mono (by decide)) (pa_cons (pv 1) (pa_cons (pv 3) pa_nil)))))))
      (pss_one (ps_if (PW.pt (pw_or (pt_val (pv 5)) (pw_or (pt_cmpR op_ge (pe_op op_add (pe_callB call_len_seq (by rfl) B.b_len PySem.boot_len (pa_cons (pv 2) pa_nil)) (pv 3)) (pe_glob (v := .int 8) rfl mM ⟨_, rfl⟩) (nomark _)) (pw_or1 (pt_cmpR op_in_seq (pv 4) (pv 2) rfl))))) (pss_one (ps_raise rfl (takes_of rfl rfl rfl rfl) (pmk_err2 e_InvalidCondition (hr.mono (by decide)) (pv 0) (pv 3)))) pss_nil))))), ?_⟩
  refine ⟨.ref a, rfl, a, _, rfl, hS, for_it walk_enumT (fun i σ H' => ∃ y1 y2 y3, σ = [some (.int part), some (.ref a), some (.ref b), y1, y2, y3] ∧ Same H H' ∧ ∀ j, j < i → wrongAt xs ys j = false)
    ⟨none, none, none, rfl, Same.refl H, fun j hj => absurd hj (Nat.not_lt_zero j)⟩ (fun i σ H' _ ⟨_, _, _, _, s, _⟩ => s.tup hS) ?_ ?_⟩
  · rintro i x σ H2 H3 hi ⟨y1, y2, y3, rfl, s, hb⟩ ⟨T, v1, v2, rfl, nT, rfl, h1, h2⟩
    obtain rfl : V.int (i : Nat) = v1 := Option.some.inj h1
    rw [List.length_map] at hi
    have hx : xs[i]? = some xs[i] := List.getElem?_eq_getElem hi
    obtain rfl : V.str xs[i] = v2 := strAt_inj hx h2
    have s3 : Same H (upd H2 T (.tup [.int (i : Nat), .str xs[i]])) := s.put' nT
    have rz : ∀ {H' : Hp}, wrongAt xs ys i = true → Same H H' → ∀ d, H' d = none → E (.ref CC) (some d) (upd H' d (.xd [(("index" : Str), .int (i : Nat)), (("part" : Str), .int part)])) := fun {H'} hp sH d nd => e i (find_at hi hp hb) H' d sH nd
    refine ⟨T, [.int (i : Nat), .str xs[i]], rfl, sqT_new, rfl, _, _, rfl, _, _, rfl, rfl, ?_⟩
    have ew : wrongAt xs ys i = ((!isName xs[i] || !risesAt xs i) || (decide (8 ≤ ys.length + i) || decide (xs[i] ∈ ys))) := by unfold wrongAt; rw [hx]
    have fk : FOk (.int part) ∧ FOk (.int (i : Nat)) := ⟨fok_nat (by omega), fok_nat (by omega)⟩
    refine ⟨_, rfl, xs[i], rfl, Nat.le_trans (hT _ (List.getElem_mem hi)) (by rw [sizeLine_eq]; decide), fun H4 s4 => ⟨_, rfl, _, rfl, bcase (fun c1 => ?_) (fun c1 => ?_)⟩⟩
    · exact ⟨_, rfl, _, rfl, iteT (iteT ⟨_, rfl, _, rfl, fk, rz (by rw [ew, c1, Bool.true_or, Bool.true_or]) (s3.trans s4)⟩)⟩
    · have s5 := s3.trans s4
      rw [c1, Bool.false_or] at ew
      refine ⟨.ref a, rfl, .int i, rfl, a, xs, i, rfl, s5.tup hS, hi, _, rfl, ?_⟩
      refine ⟨_, rfl, _, rfl, bcase (fun c2 => ?_) (fun c2 => ?_)⟩
      · exact iteT ⟨_, rfl, _, rfl, fk, rz (by rw [ew, c2, Bool.true_or]) s5⟩
      · rw [c2, Bool.false_or] at ew
        refine ⟨.ref b, rfl, b, _, rfl, .inr (s5.tup hY), .int i, rfl, _, i, rfl, rfl, _, 8, rfl, rfl, _, rfl, ?_⟩
        rw [List.length_map]
        by_cases h8 : 8 ≤ ys.length + i
        · rw [decide_eq_true (show (8 : Int) ≤ (ys.length : Int) + (i : Int) by omega)]
          exact iteT (iteT ⟨_, rfl, _, rfl, fk, rz (by rw [ew, decide_eq_true h8, Bool.true_or]) s5⟩)
        · rw [decide_eq_false (show ¬ (8 : Int) ≤ (ys.length : Int) + (i : Int) by omega)]
          rw [decide_eq_false h8, Bool.false_or] at ew
          refine iteF ⟨.str xs[i], rfl, .ref b, rfl, b, _, rfl, .inr (s5.tup hY), rfl, flat_strs ys, _, rfl, bcase (fun c3 => ?_) (fun c3 => ?_)⟩
          · have c3 : decide (xs[i] ∈ ys) = true := by rw [← inV_str]; exact c3
            exact ⟨_, rfl, _, rfl, fk, rz (by rw [ew, c3]) s5⟩
          · have c3 : decide (xs[i] ∈ ys) = false := by rw [← inV_str]; exact c3
            refine ⟨_, _, _, rfl, s5, fun j hj => ?_⟩
            by_cases hj2 : j < i
            · exact hb j hj2
            · have ej : j = i := by omega
              subst ej
              rw [ew, c3]
  · rintro σ H2 ⟨y1, y2, y3, rfl, s, hb⟩
    rw [List.length_map] at hb
    exact q (find_none hb) H2 s
def sp_merged (K : PySem.W.Frag) : Sp := fun vs H Q _ => ∃ (a b : Addr) (xs ys : List Str), vs = [.ref a, .ref b] ∧ SqT K H a (xs.map V.str) ∧ SqT K H b (ys.map V.str) ∧ xs.length + ys.length < 64 ∧
  ∀ H' p (zs : List Str), Same H H' → H' p = some (.tup (zs.map V.str)) → zs.Perm (xs ++ ys.filter fun y => !decide (y ∈ xs)) → sortedS zs = true → Q (.ref p) H'
theorem ok_merged {f : Addr} {fd : FuncData} (F : Fun K "merged" "merged" s_merged f fd) (B : Blt mg) : FnOk P w K mg base CX0 1 f fd ["names", "others"] (sp_merged K) := by
  refine F.ok sc_merged (fun vs H Q E h => by obtain ⟨a, b, xs, ys, rfl, _⟩ := h; rfl) (fun cdv A outer s H vs Q E hr h => ?_)
  obtain ⟨a, b, xs, ys, rfl, hS, hY, hl, q⟩ := h
  refine ⟨_, (pss_one (ps_ret (pe_callTy call_tuple_of (by rfl) B.b_tuple PyProof.Rows.boot_tuple (pa_cons (pe_callB cr_sortedS (by rfl) B.b_sorted (by decide +kernel) (pa_cons (pe_op op_cat (pe_callTy call_list_of (by rfl) B.b_list PyProof.Rows.boot_list (pa_cons (pv 0) pa_nil)) (pe_lc (own := [("name", 2)]) (g := gName 2) rfl sc_merged.nd (pi_tup (pv 1)) (blkOk_by (own := [("name", 2)]) (N := ["names", "others", "name"]) (sc := defScope s_merged) (by decide +kernel)) (fun _ _ _ _ _ => (pg_name (i := 2) sc_merged.nd rfl (Or.inl rfl))) (fun _ _ _ _ _ => (pts_.re (pts_one (pt_cmpR op_notIn_seq (pv 2) (pv 0) rfl)) (by first | (dsimp only [Cx.blk]; done) | exact rfl))) (fun _ _ _ _ _ => (pe_.re (pv 2) (by first | (dsimp only [Cx.blk]; done) | exact rfl))))) pa_nil)) pa_nil)))), ?_⟩
  have big : ∀ {m : Nat}, m ≤ 1000 → m ≤ sizeLine := fun {m} h => by rw [sizeLine_eq]; omega
  refine ⟨.ref a, rfl, a, _, rfl, .inr hS, fun l nl => ?_⟩
  have s1 := (Same.refl H).put (o := .lst (xs.map V.str)) nl
  have e1 : (upd H l (.lst (xs.map V.str))) l = some (.lst (xs.map V.str)) := upd_same
  generalize upd H l (.lst (xs.map V.str)) = H1 at s1 e1 ⊢
  refine ⟨.ref b, rfl, b, rfl, ⟨_, s1.tup hY⟩, fun D nD => lc_it walk_tup (fun i H' => Same H1 H' ∧ H' D = some (.lst (((ys.take i).filter fun y => !decide (y ∈ xs)).map V.str))) ⟨(Same.refl H1).put nD, upd_same⟩ (fun _ _ _ h => (s1.trans h.1).tup hY) ?_ ?_⟩
  · rintro i y H2 H3 hi ⟨s, e⟩ ⟨rfl, hy⟩
    rw [List.length_map] at hi
    have hx : ys[i]? = some ys[i] := List.getElem?_eq_getElem hi
    obtain rfl : V.str ys[i] = y := strAt_inj hx hy
    refine ⟨rfl, .str ys[i], rfl, .ref a, rfl, a, _, rfl, .inr ((s1.trans s).tup hS), rfl, flat_strs xs, _, rfl, bcase (fun c1 => ?_) (fun c1 => ?_)⟩
    · have c1 : (!decide (ys[i] ∈ xs)) = true := by rw [← inV_str]; exact c1
      refine ⟨_, rfl, grow (acc := fun i => ((ys.take i).filter fun y => !decide (y ∈ xs)).map V.str) nD s e ?_ ?_⟩
      · rw [List.length_map]
        refine small1000 (Nat.le_trans (List.length_filter_le _ _) ?_)
        rw [List.length_take]
        omega
      · show List.map V.str _ = _
        rw [take_more hx, List.filter_append, List.map_append, filter1, if_pos c1]
        rfl
    · have c1 : (!decide (ys[i] ∈ xs)) = false := by rw [← inV_str]; exact c1
      refine ⟨s, ?_⟩
      rw [take_more hx, List.filter_append, filter1, if_neg (by rw [c1]; exact Bool.false_ne_true), List.append_nil]
      exact e
  · rintro H2 ⟨s, e⟩
    rw [List.length_map, List.take_length] at e
    have hfl := List.length_filter_le (fun y => !decide (y ∈ xs)) ys
    refine ⟨l, D, _, _, rfl, rfl, s _ _ e1, e, big (by rw [List.length_map, List.length_map]; omega), fun p np => ?_⟩
    have s2 := (s1.trans s).put' (o := .lst (xs.map V.str ++ (ys.filter fun y => !decide (y ∈ xs)).map V.str)) np
    refine ⟨p, xs ++ ys.filter fun y => !decide (y ∈ xs), rfl, ?_, ?_, fun zs p2 hp hs np2 => ?_⟩
    · rw [List.map_append]
      exact sqL_new
    · rw [List.length_append]
      omega
    · refine ⟨p2, _, rfl, .inl ⟨sqL_new, fun p3 np3 => q _ p3 zs ((s2.put' np2).put' np3) upd_same hp hs⟩⟩
end
end Sc
namespace Sc
open PySem PySem.Spec PyProof.Rows L2
/-! ### an object Condition -/
theorem sc_Condition___init__ : FnScope ["self", "holding", "failing"] ["self", "holding", "failing"] (defScope s_Condition___init__) := ⟨rfl, rfl, rfl, by decide +kernel, rfl, by decide +kernel, by decide +kernel⟩
section
variable {P : Program} {w : World} {K : PySem.W.Frag} {mg : Str → Option Value} {base : Heap} {CC C : Addr}
theorem wrongs_none {xs ys : List Str} (h : firstWrong xs ys = none) (i : Nat) (hi : i < xs.length) : ((!isName xs[i] || !risesAt xs i) = false ∧ ¬ 8 ≤ ys.length + i) ∧ ¬ xs[i] ∈ ys := by
  unfold firstWrong at h
  rw [List.find?_eq_none] at h
  have h := (Bool.not_eq_true _).mp (h i (List.mem_range.mpr hi))
  unfold wrongAt at h
  rw [List.getElem?_eq_getElem hi] at h
  dsimp only at h
  rw [Bool.or_eq_false_iff, Bool.or_eq_false_iff (x := decide _)] at h
  exact ⟨⟨h.1, of_decide_eq_false h.2.1⟩, of_decide_eq_false h.2.2⟩
theorem fw_len {xs ys : List Str} (h : firstWrong xs ys = none) : xs.length = 0 ∨ ys.length + xs.length ≤ 8 := by
  by_cases e : xs.length = 0
  · exact .inl e
  · have := (wrongs_none h (xs.length - 1) (by omega)).1.2
    exact .inr (by omega)
theorem fw_out {xs ys : List Str} (h : firstWrong xs ys = none) : ∀ x ∈ xs, ¬ x ∈ ys := by
  intro x hx
  obtain ⟨i, hi, rfl⟩ := List.getElem_of_mem hx
  exact (wrongs_none h i hi).2
theorem filter_out {xs ys : List Str} (h : ∀ x ∈ xs, ¬ x ∈ ys) : xs.filter (fun x => !decide (x ∈ ys)) = xs := by
  rw [List.filter_eq_self]
  intro x hx
  rw [decide_eq_false (h x hx)]
  rfl
/-- all but the object at x stands -/
def SameX (x : Addr) (H H' : Hp) : Prop := ∀ b o, b ≠ x → H b = some o → H' b = some o
/-- the fields of a condition -/
def condF (a b n : Addr) : List (Str × V) := putF "_names" (.ref n) (putF "_failing" (.ref b) (putF "_holding" (.ref a) []))
def sp_cond_init (K : PySem.W.Frag) (C CC : Addr) : Sp := fun vs H Q E => ∃ (x dx a b : Addr) (xs ys : List Str), vs = [.ref x, .ref a, .ref b] ∧ H x = some (.ins C dx []) ∧ SqT K H a (xs.map V.str) ∧ SqT K H b (ys.map V.str) ∧ Txts xs ∧ Txts ys ∧ xs.length ≤ 1000 ∧ ys.length ≤ 1000 ∧
  (∀ i, firstWrong xs [] = some i → errPI CC ((0 : Nat) : Int) i H E) ∧ (firstWrong xs [] = none → (∀ i, firstWrong ys xs = some i → errPI CC ((1 : Nat) : Int) i H E) ∧
  (firstWrong ys xs = none → ∀ H' n zs, SameX x H H' → H' x = some (.ins C dx (condF a b n)) → H' n = some (.tup (zs.map V.str)) → zs.Perm (xs ++ ys) → sortedS zs = true → Q .non H'))
theorem sqT_upd {H : Hp} {x dx a' : Addr} {fs : List (Str × V)} {o : HO} {vs : List V} (hx : H x = some (.ins C dx fs)) (h : SqT K H a' vs) : SqT K (upd H x o) a' vs := by
  rcases h with (h | ⟨ob, h⟩) | h
  · have ne : a' ≠ x := fun e => by rw [e, hx] at h; cases h
    exact .inl (.inl (by rw [upd_ne ne]; exact h))
  · have ne : a' ≠ x := fun e => by rw [e, hx] at h; cases h
    exact .inl (.inr ⟨ob, by rw [upd_ne ne]; exact h⟩)
  · exact .inr h
theorem putF_len (f : Str) (v : V) : ∀ fs : List (Str × V), (putF f v fs).length ≤ fs.length + 1
  | [] => Nat.le_refl 1
  | (g, x) :: r => by
    unfold putF
    split
    · exact Nat.le_succ _
    · show (putF f v r).length + 1 ≤ r.length + 1 + 1
      exact Nat.succ_le_succ (putF_len f v r)
theorem ok_cond_init {f : Addr} {fd : FuncData} (F : Fun K "__init__" "Condition.__init__" s_Condition___init__ f fd) (B : Blt mg) (T : Cls K C) (n1 : NoAttr K C "_holding") (n2 : NoAttr K C "_failing") (n3 : NoAttr K C "_names")
    (c_check_part : Cal P w K mg base (L2.CX P w) 3 "check_part" ["part", "names", "before"] (sp_check_part K CC)) (c_merged : Cal P w K mg base CX0 1 "merged" ["names", "others"] (sp_merged K)) :
    FnOk P w K mg base (L2.CX P w) 4 f fd ["self", "holding", "failing"] (sp_cond_init K C CC) := by
  refine F.okX sc_Condition___init__ (fun vs H Q E h => by obtain ⟨x, dx, a, b, xs, ys, rfl, _⟩ := h; rfl) (fun cdv A outer s H vs Q E hr h => ?_)
  obtain ⟨x, dx, a, b, xs, ys, rfl, hx, hA, hB, tA, tB, lA, lB, e0, q⟩ := h
  refine ⟨_, (pss_cons (ps_expr (pe_calX c_check_part (hr.mono (by decide)) (takes_of rfl rfl rfl rfl) (pa_cons pe_int (pa_cons (pv 1) (pa_cons (pe_tup pa_nil) pa_nil)))))
      (pss_cons (ps_expr (pe_calX c_check_part (hr.mono (by decide)) (takes_of rfl rfl rfl rfl) (pa_cons pe_int (pa_cons (pv 2) (pa_cons (pv 1) pa_nil)))))
      (pss_cons (ps_fld (pv 0) (pv 1) rfl)
      (pss_cons (ps_fld (pv 0) (pv 2) rfl)
      (pss_one (ps_fld (pv 0) (pe_cal c_merged (hr.mono (by decide)) (pa_cons (pv 1) (pa_cons (pv 2) pa_nil))) rfl)))))), ?_⟩
  refine ⟨.ref a, rfl, Nat.zero_le _, fun t nt => ⟨0, a, t, xs, [], rfl, by decide, ((Same.refl H).put nt).tup hA, sqT_new, tA, lA, by decide, fun e1 H1 s1 => ?_, fun i ei H' d sH nd => e0 i ei H' d (((Same.refl H).put nt).trans sH) nd⟩⟩
  obtain ⟨e1', q⟩ := q e1
  have s1 := ((Same.refl H).put nt).trans s1
  refine ⟨.ref b, rfl, .ref a, rfl, 1, b, a, ys, xs, rfl, by decide, s1.tup hB, s1.tup hA, tB, lB, lA, fun e2 H2 s2 => ?_, fun i ei H' d sH nd => e1' i ei H' d (s1.trans sH) nd⟩
  have s2 := s1.trans s2
  have q := q e2
  have hlen : xs.length + ys.length < 64 := by
    have h1 := fw_len e1
    have h2 := fw_len e2
    simp only [List.length_nil] at h1
    omega
  have hx2 := s2 _ _ hx
  refine ⟨.ref a, rfl, .ref x, rfl, x, C, dx, [], rfl, hx2, T, n1, by decide, ?_⟩
  refine ⟨.ref b, rfl, .ref x, rfl, x, C, dx, _, rfl, upd_same, T, n2, Nat.lt_of_le_of_lt (putF_len _ _ _) (by decide), ?_⟩
  refine ⟨.ref a, rfl, .ref b, rfl, a, b, xs, ys, rfl, ?_, ?_, hlen, fun H' p zs sH ep hperm hsort => ?_⟩
  · exact sqT_upd upd_same (sqT_upd hx2 (s2.tup hA))
  · exact sqT_upd upd_same (sqT_upd hx2 (s2.tup hB))
  · rw [filter_out (fw_out e2)] at hperm
    refine ⟨.ref x, rfl, x, C, dx, _, rfl, sH _ _ upd_same, T, n3, Nat.lt_of_le_of_lt (putF_len _ _ _) (Nat.lt_of_le_of_lt (Nat.succ_le_succ (putF_len _ _ _)) (by decide)), q _ p zs (fun b' o ne hb => ?_) upd_same ?_ hperm hsort⟩
    · rw [upd_ne ne]
      refine sH _ _ ?_
      rw [upd_ne ne, upd_ne ne]
      exact s2 _ _ hb
    · have ne : p ≠ x := fun e => by
        have h2 := sH _ _ (upd_same (H := upd H2 x (.ins C dx (putF "_holding" (.ref a) []))) (a := x) (o := .ins C dx (putF "_failing" (.ref b) (putF "_holding" (.ref a) []))))
        rw [e, h2] at ep
        cases ep
      rw [upd_ne ne]
      exact ep
end
end Sc
namespace Sc
open PySem PySem.Spec PyProof.Rows L2
/-- len(o), o an object whose class has its own __len__ -/
def rLenO (C : Addr) (sp : Sp) : List V → Hp → VK → Prop := fun xs H Q => ∃ (a dx : Addr) (fs : List (Str × V)), xs = [.ref a] ∧ H a = some (.ins C dx fs) ∧ sp [.ref a] H (fun v H' => ∃ n : Nat, v = .int n ∧ n < 2 ^ 62 ∧ Q (.int n) H') (fun _ _ _ => False)
theorem call_lenO {X : Cx} {C g : Addr} {k : Nat} {fd : FuncData} {ps : List Str} {sp : Sp} (at_ : PySem.W.findIn X.K (.ref C) "__len__" = some (some (.ref g))) (ty : PySem.W.typeIn X.K (.ref g) = some (.type "function"))
    (F : FnOk X.prog X.w X.K X.mg X.base CX0 k g fd ps sp) (hr : Room (k + 1) X.A) (hb : Binds X.K fd ps []) : CallR X (.builtin "len") (rLenO C sp) := by
  intro pins s σ H xs us Q I r h
  obtain ⟨a, dx, fs, rfl, ea, h⟩ := h
  obtain ⟨u, rfl, ru⟩ := vals1 r
  obtain rfl : u = Value.ref a := ru
  obtain ⟨mA, O, _⟩ := ins_get I.hok ea
  obtain ⟨od, J, _⟩ := ObjM.look O
  have hl : ([Value.ref a] ++ ([] : List Value)).length = ps.length := F.len _ _ _ _ h
  refine Calls.call_function_entry kind_len plain_len entry_len (args_len1 (.ref a)) ?_
  unfold Builtin.len
  rw [show oneArg "len" { pos := [Value.ref a] } = pure (.ref a) from rfl, pure_bind]
  refine wpAny_bind (PySem.W.special_fn I.kIn J at_ ty (wpAny_call (codeAny_mono (F.run X.A.in1 X.stack s H ⟨[.ref a], []⟩ [.ref a] [.ref a] _ _ (Room.in1 hr) (Env0.in1 I.env0) (hb s [.ref a] I.kIn hl) (Paired.cons rfl .nil) h) fun res s' hq => ?_)))
  cases res with
  | error e => exact hq.elim
  | ok fl =>
    cases fl with
    | ret v =>
      obtain ⟨y, H', I', ry, n, rfl, hn, q⟩ := I.after hq
      obtain ⟨t, rfl⟩ := ry
      dsimp only
      have e62 : (2 : Nat) ^ 62 < 2 ^ 63 := by decide
      refine wpAny_bind (wpAny_holding (wpAny_pure (wpAny_bind (wpAny_letGo ?_))))
      have h1 : ¬ (n : Int) < 0 := by omega
      have h2 : ¬ (n : Int) ≥ 2 ^ 63 := by
        have : (n : Int) < 2 ^ 62 := by exact_mod_cast hn
        omega
      rw [if_neg h1, if_neg h2]
      exact wpAny_bind (wpAny_mkInt (wpAny_pure ⟨_, rfl, .int n, H', I'.tok _, ⟨_, rfl⟩, q⟩))
    | next => exact hq.elim
    | brk => exact hq.elim
    | cont => exact hq.elim
end Sc
namespace Sc
open PySem PySem.Spec PyProof.Rows L2
section
variable {P : Program} {w : World} {K : PySem.W.Frag} {mg : Str → Option Value} {base : Heap} {a l : Addr} {H H' H'' : Hp}
theorem wk_ss {X : Cx} {st : List Stmt} {t : TS} (t' : TS) (h : PSs X st t) (w : ∀ D σ H, t' D σ H → t D σ H) : PSs X st t' := ⟨fun pins s σ H D I x => h.run pins s σ H D I (w D σ H x)⟩
/-- a class whose objects a def of its own makes -/
structure Mkr (P : Program) (w : World) (K : PySem.W.Frag) (mg : Str → Option Value) (base : Heap) (k : Nat) (x : Str) (C : Addr) (ps : List Str) (sp : Sp) : Prop where
  ex : ∃ (f : Addr) (fd : FuncData), Mk K C f ∧ FnOk P w K mg base (L2.CX P w) k f fd ps sp ∧ mg x = some (.ref C) ∧ Binds K fd ps []
section
variable {X : Cx} {k : Nat} {x : Str} {C : Addr} {ps : List Str} {sp : Sp} {e : Expr} {es : List Expr} {t : TA} {p pos : Pos}
theorem pe_mkN (M : Mkr X.prog X.w X.K X.mg X.base k x C ps sp) (hr : Room (k + 1) X.A) (ha : PA X (e :: es) t) (hg : Gl X x := by rfl) (hdb : (x == ("__debug__" : Str)) = false := by decide)
    (he : starEach (e :: es) X.env = (false, eval e X.env) :: starEach es X.env := by rfl) (hpl : (backTo pos (starEach es X.env)).any (·.1) = false := by rfl) : PE X (.Call (.Name x p) (e :: es) [] pos) (tMake C sp [] E0 t) := by
  obtain ⟨f, fd, hk, F, hm, hb⟩ := M.ex
  exact pe_make hk F hr hg hm hb .nil passL ha hdb he hpl
theorem pe_mkX {E : XK} (M : Mkr X.prog X.w X.K X.mg X.base k x C ps sp) (hr : Room (k + 1) X.A) (tk : Takes X (fun cls d _ H => E cls d H)) (ha : PA X (e :: es) t) (hg : Gl X x := by rfl) (hdb : (x == ("__debug__" : Str)) = false := by decide)
    (he : starEach (e :: es) X.env = (false, eval e X.env) :: starEach es X.env := by rfl) (hpl : (backTo pos (starEach es X.env)).any (·.1) = false := by rfl) : PE X (.Call (.Name x p) (e :: es) [] pos) (tMake C sp [] E t) := by
  obtain ⟨f, fd, hk, F, hm, hb⟩ := M.ex
  exact pe_make hk F hr hg hm hb .nil (fun pins σ H s e s' I h => passAt tk σ pins H s e s' I h) ha hdb he hpl
end
def sp_prop (C : Addr) (n : Str) : Sp := fun vs H Q _ => ∃ (x dx : Addr) (fs : List (Str × V)) (v : V), vs = [.ref x] ∧ H x = some (.ins C dx fs) ∧ fs.lookup n = some v ∧ Q v H
def sp_len (K : PySem.W.Frag) (C : Addr) : Sp := fun vs H Q _ => ∃ (x dx n : Addr) (fs : List (Str × V)) (zs : List V), vs = [.ref x] ∧ H x = some (.ins C dx fs) ∧ fs.lookup ("_names" : Str) = some (.ref n) ∧ SqT K H n zs ∧ Q (.int zs.length) H
structure CondC (P : Program) (w : World) (K : PySem.W.Frag) (mg : Str → Option Value) (base : Heap) (C p1 g1 p2 g2 p3 g3 g4 : Addr) (fd1 fd2 fd3 fd4 : FuncData) : Prop where
  cls : Cls K C
  p_holding : PropOf K C "holding" p1 g1 ∧ FnOk P w K mg base CX0 1 g1 fd1 ["self"] (sp_prop C "_holding") ∧ Binds K fd1 ["self"] []
  p_failing : PropOf K C "failing" p2 g2 ∧ FnOk P w K mg base CX0 1 g2 fd2 ["self"] (sp_prop C "_failing") ∧ Binds K fd2 ["self"] []
  p_names : PropOf K C "names" p3 g3 ∧ FnOk P w K mg base CX0 1 g3 fd3 ["self"] (sp_prop C "_names") ∧ Binds K fd3 ["self"] []
  lenAt : PySem.W.findIn K (.ref C) "__len__" = some (some (.ref g4))
  lenTy : PySem.W.typeIn K (.ref g4) = some (.type "function")
  lenF : FnOk P w K mg base CX0 1 g4 fd4 ["self"] (sp_len K C)
  lenB : Binds K fd4 ["self"] []
end
end Sc
namespace Sc
open PySem PySem.Spec PyProof.Rows L2
theorem sc_Condition_holding : FnScope ["self"] ["self"] (defScope s_Condition_holding) := ⟨rfl, rfl, rfl, by decide +kernel, rfl, by decide +kernel, by decide +kernel⟩
theorem sc_Condition_failing : FnScope ["self"] ["self"] (defScope s_Condition_failing) := ⟨rfl, rfl, rfl, by decide +kernel, rfl, by decide +kernel, by decide +kernel⟩
theorem sc_Condition_names : FnScope ["self"] ["self"] (defScope s_Condition_names) := ⟨rfl, rfl, rfl, by decide +kernel, rfl, by decide +kernel, by decide +kernel⟩
theorem sc_Condition___len__ : FnScope ["self"] ["self"] (defScope s_Condition___len__) := ⟨rfl, rfl, rfl, by decide +kernel, rfl, by decide +kernel, by decide +kernel⟩
section
variable {P : Program} {w : World} {K : PySem.W.Frag} {mg : Str → Option Value} {base : Heap} {C : Addr}
theorem ok_holding {f : Addr} {fd : FuncData} (F : Fun K "holding" "Condition.holding" s_Condition_holding f fd) (T : Cls K C) (n : NoAttr K C "_holding") : FnOk P w K mg base CX0 1 f fd ["self"] (sp_prop C "_holding") := by
  refine F.ok sc_Condition_holding (fun vs H Q E h => by obtain ⟨x, dx, fs, v, rfl, _⟩ := h; rfl) (fun cdv A outer s H vs Q E hr h => ?_)
  obtain ⟨x, dx, fs, v, rfl, hx, hl, q⟩ := h
  exact ⟨_, (pss_one (ps_ret (pe_fld (pv 0) rfl))), ⟨_, rfl, x, C, dx, fs, v, rfl, hx, T, n, hl, q⟩⟩
theorem ok_failing {f : Addr} {fd : FuncData} (F : Fun K "failing" "Condition.failing" s_Condition_failing f fd) (T : Cls K C) (n : NoAttr K C "_failing") : FnOk P w K mg base CX0 1 f fd ["self"] (sp_prop C "_failing") := by
  refine F.ok sc_Condition_failing (fun vs H Q E h => by obtain ⟨x, dx, fs, v, rfl, _⟩ := h; rfl) (fun cdv A outer s H vs Q E hr h => ?_)
  obtain ⟨x, dx, fs, v, rfl, hx, hl, q⟩ := h
  exact ⟨_, (pss_one (ps_ret (pe_fld (pv 0) rfl))), ⟨_, rfl, x, C, dx, fs, v, rfl, hx, T, n, hl, q⟩⟩
theorem ok_cnames {f : Addr} {fd : FuncData} (F : Fun K "names" "Condition.names" s_Condition_names f fd) (T : Cls K C) (n : NoAttr K C "_names") : FnOk P w K mg base CX0 1 f fd ["self"] (sp_prop C "_names") := by
  refine F.ok sc_Condition_names (fun vs H Q E h => by obtain ⟨x, dx, fs, v, rfl, _⟩ := h; rfl) (fun cdv A outer s H vs Q E hr h => ?_)
  obtain ⟨x, dx, fs, v, rfl, hx, hl, q⟩ := h
  exact ⟨_, (pss_one (ps_ret (pe_fld (pv 0) rfl))), ⟨_, rfl, x, C, dx, fs, v, rfl, hx, T, n, hl, q⟩⟩
theorem ok_clen {f : Addr} {fd : FuncData} (F : Fun K "__len__" "Condition.__len__" s_Condition___len__ f fd) (B : Blt mg) (T : Cls K C) (n : NoAttr K C "_names") : FnOk P w K mg base CX0 1 f fd ["self"] (sp_len K C) := by
  refine F.ok sc_Condition___len__ (fun vs H Q E h => by obtain ⟨x, dx, m, fs, zs, rfl, _⟩ := h; rfl) (fun cdv A outer s H vs Q E hr h => ?_)
  obtain ⟨x, dx, m, fs, zs, rfl, hx, hl, hz, q⟩ := h
  exact ⟨_, (pss_one (ps_ret (pe_callB call_len_seq (by rfl) B.b_len PySem.boot_len (pa_cons (pe_fld (pv 0) rfl) pa_nil)))), ⟨_, rfl, x, C, dx, fs, _, rfl, hx, T, n, hl, m, _, rfl, .inr hz, q⟩⟩
end
end Sc
namespace Sc
open PySem PySem.Spec PyProof.Rows L2
def SLe (a b : Str) : Prop := a.cps.toList ≤ b.cps.toList
theorem rising_pw : ∀ (x : Str) (r : List Str), risingS x r = true → (∀ y ∈ r, SLe x y) ∧ r.Pairwise SLe
  | _, [], _ => ⟨(fun _ h => nomatch h), List.Pairwise.nil⟩
  | x, y :: r, h => by
    have h : (!ltCps y.cps.toList x.cps.toList && risingS y r) = true := h
    rw [Bool.and_eq_true, ltCps_eq] at h
    obtain ⟨h1, h2⟩ := h
    obtain ⟨i1, i2⟩ := rising_pw y r h2
    have hxy : SLe x y := by
      have h1 : ¬ y.cps.toList < x.cps.toList := by simpa using h1
      exact h1
    refine ⟨fun z hz => ?_, List.pairwise_cons.mpr ⟨i1, i2⟩⟩
    rcases List.mem_cons.mp hz with rfl | h
    · exact hxy
    · exact List.le_trans hxy (i1 z h)
theorem sorted_pw : ∀ {r : List Str}, sortedS r = true → r.Pairwise SLe
  | [], _ => .nil
  | x :: r, h => List.pairwise_cons.mpr (rising_pw x r h)
theorem str_ext {a b : Str} (h : a.cps.toList = b.cps.toList) : a = b := by
  obtain ⟨x⟩ := a
  obtain ⟨y⟩ := b
  congr 1
  exact Array.toList_inj.mp h
theorem sorted_uniq {a b : List Str} (p : a.Perm b) (sa : sortedS a = true) (sb : sortedS b = true) : a = b :=
  List.Perm.eq_of_pairwise (le := SLe) (fun x y _ _ h1 h2 => str_ext (List.le_antisymm h1 h2)) (sorted_pw sa) (sorted_pw sb) p
end Sc
namespace OwnX
open PySem PySem.Spec PyProof.Rows PySem.W
section
variable {prog : Program} {w : World} {M : Model} {A : Around} {E : Value → Shared → Prop} {s : Shared} {K : Frag} {x C L f : Addr} {h₀ : Heap} {m : Str → Option Value} {ox : Obj} {od : Option Obj}
/-- x op b, both of the class at C -/
theorem bin_same {op : Operator} {b : Value} {Q : Value → Shared → Prop} (X : K.In s.heap) (I : InstAt s.heap x ox C od) (hb : Looks (model prog w) s.heap (typeOf b) (.ref C)) (hc : selfFirst K C = true)
    (hs : findIn K (.ref C) (PySem.dunder op.info.2) = some (some (.ref f))) (hf : isFn K (.ref f) = true)
    (h : wpAny (model prog w) A (call (.ref f) [.ref x, b]) (PySem.W.CmpBack Q) E s) : wpAny (model prog w) A (binaryOp op (.ref x) b) Q E s := by
  obtain ⟨cd, rest, hcd, hm⟩ := ksp_first hc
  rcases hi : op.info with ⟨sym, nm'⟩
  rw [hi] at hs
  dsimp only at hs
  have one := ksp_try X I hs hf h
  obtain ⟨hh, g, d, tt, os⟩ := s
  have L1 : Looks (model prog w) hh (typeOf (.ref x)) (.ref C) := I.type
  have L3 : Looks (model prog w) hh (fillsNumberSlot (.ref C) nm') true := fills_K X hcd hm hs
  simp only [binaryOp, hi]
  refine wpAny_holding (wpAny_bind ?_)
  unfold binaryOp1
  refine wpAny_bind (L1.at (wpAny_bind (hb.at (wpAny_bind (L3.at ?_)))))
  have e : (Value.ref C == Value.ref C) = true := beq_self_eq_true _
  simp only [e, if_true]
  ksp_lk
  refine wpAny_mono one (fun r s' hr' => ?_) fun _ _ e => e
  obtain ⟨v, rfl, hq⟩ := hr'
  ksp_lk
  exact hq
theorem ifBound_ne {args : List Value} {Q : Option Value → Shared → Prop} (X : K.In s.heap) (I : InstAt s.heap x ox C od) (hs : findIn K (.ref C) "__ne__" = some (some (.builtin "object.__ne__")))
    (h : wpAny M A (call (.builtin "object.__ne__") (.ref x :: args)) (fun v => Q (some v)) E s) : wpAny M A (callSpecialIfBound? (.ref x) "__ne__" args) Q E s := by
  simp only [callSpecialIfBound?, bindSpecialIfBound?]
  refine wpAny_holding (wpAny_bind (wpAny_bind (wpAny_bind (I.type.here ((looks_findIn X hs).here ?_)))))
  refine wpAny_bind (wpAny_askSetting (wpAny_ite ?_))
  have fin : wpAny M A (call (.builtin "object.__ne__") ([.ref x] ++ args) >>= fun v => pure (some v)) Q E s := wpAny_bind (wpAny_mono h (fun v s' h' => wpAny_pure h') fun _ _ h' => h')
  split
  · exact wpAny_bind (wpAny_of_eq (F.cmp_object.ne.bind _) (wpAny_pure (by exact fin)))
  · exact wpAny_tryCatch (wpAny_bind (wpAny_of_eq (F.cmp_object.ne.bind _) (wpAny_pure (by exact fin))))
theorem entry_ne {b : Value} {Q : Fin → Shared → Prop} (X : K.In s.heap) (I : InstAt s.heap x ox C od) (hs : findIn K (.ref C) "__eq__" = some (some (.ref f))) (hf : isFn K (.ref f) = true) (hu : A.units < cLine)
    (h : wpAny (model prog w) A (call (.ref f) [.ref x, b]) (fun v s' => ∃ b, v = .bool b ∧ Q (.done (.ret (.bool (!b)))) s') E s) : wpAny (model prog w) A (Builtin.«object.__ne__» ⟨[.ref x, b], []⟩) Q E s := by
  unfold Builtin.«object.__ne__»
  repeat (first
    | with_reducible refine wpAny_cRoomFor hu ?_
    | (refine wpAny_bind (m := callSpecialIfBound? (.ref x) (Str.ofString "__eq__") [b])
        (ifBound_K X I hs hf (wpAny_mono h (fun r s' hr => by
          obtain ⟨b, rfl, hq⟩ := hr
          repeat (first | exact hq | exact wpAny_pure hq | exact wpAny_truthy_bool hq | (refine wpAny_bind (m := truthy (.bool _)) (wpAny_truthy_bool ?_)) | wp_step)) fun _ _ e => e)))
    | wp_step)
theorem try_ne {b : Value} {Q : Option Value → Shared → Prop} (X : K.In s.heap) (I : InstAt s.heap x ox C od) (hm : mroIn K C (.type "object") = some true) (hn : findIn K (.ref C) "__ne__" = some (some (.builtin "object.__ne__")))
    (hs : findIn K (.ref C) "__eq__" = some (some (.ref f))) (hf : isFn K (.ref f) = true) (hu : A.units + 1 < cLine)
    (h : wpAny (model prog w) A.in1 (call (.ref f) [.ref x, b]) (fun v s' => ∃ b, v = .bool b ∧ Q (some (.bool (!b))) s') E s) : wpAny (model prog w) A (tryCompare (.ref x) "__ne__" b) Q E s := by
  unfold tryCompare
  refine wpAny_bind (ifBound_ne X I hn (wpAny_call (codeAny_call_builtin F.cmp_object.ne.plain F.cmpEntry_ne (check_slot F.cmpKind_ne F.cmpSplit_ne (I.type.andThen (looks_mroIn X hm)) (F.cmpArgs_ne _ _)
    (entry_ne (A := A.in1) X I hs hf hu (wpAny_mono h (fun v s' hv => ?_) fun _ _ e => e))))))
  obtain ⟨b, rfl, hq⟩ := hv
  first | exact ⟨b, rfl, wpAny_pure hq⟩ | exact ⟨b, rfl, wpAny_pure (wpAny_pure hq)⟩ | exact ⟨b, rfl, hq⟩
theorem ne_K {b tb : Value} {Q : Value → Shared → Prop} (hu : A.units + 1 < cLine) (X : K.In s.heap) (I : InstAt s.heap x ox C od) (hb : Looks (model prog w) s.heap (typeOf b) tb) (hnf : notFirst K C tb = true)
    (hm : mroIn K C (.type "object") = some true) (hn : findIn K (.ref C) "__ne__" = some (some (.builtin "object.__ne__"))) (hs : findIn K (.ref C) "__eq__" = some (some (.ref f))) (hf : isFn K (.ref f) = true)
    (h : wpAny (model prog w) A.in1 (call (.ref f) [.ref x, b]) (fun v s' => ∃ b, v = .bool b ∧ Q (.bool (!b)) s') E s) : wpAny (model prog w) A (richCompare .NotEq (.ref x) b) Q E s := by
  have one : wpAny (model prog w) A (tryCompare (.ref x) "__ne__" b) (fun r s' => ∃ v, r = some v ∧ Q v s') E s := try_ne X I hm hn hs hf hu (wpAny_mono h (fun v s' ⟨b, e, q⟩ => ⟨b, e, _, rfl, q⟩) fun _ _ e => e)
  unfold richCompare
  simp only [oneThing_ref]
  refine wpAny_holding (wpAny_bind (wpAny_cRoomFor (Nat.lt_of_succ_lt hu) ?_))
  rw [cmpInfo_NotEq]
  dsimp only
  refine wpAny_bind (I.type.here (wpAny_bind (hb.here ?_)))
  split
  · rename_i q
    have e : subIn K tb (.ref C) = some false := by
      rcases Bool.or_eq_true_iff.mp hnf with e | e
      · rw [beq_iff_eq.mp e] at q; simp at q
      · exact beq_iff_eq.mp e
    refine wpAny_bind ((looks_subIn X e).here ?_)
    simp only [Bool.false_eq_true, if_false]
    refine wpAny_bind (wpAny_mono one (fun r s' z => ?_) fun _ _ e => e)
    obtain ⟨v, rfl, hq⟩ := z
    exact wpAny_pure hq
  · refine wpAny_bind (wpAny_pure ?_)
    simp only [Bool.false_eq_true, if_false]
    refine wpAny_bind (wpAny_mono one (fun r s' z => ?_) fun _ _ e => e)
    obtain ⟨v, rfl, hq⟩ := z
    exact wpAny_pure hq
end
end OwnX
namespace Sc
open PySem PySem.Spec PyProof.Rows L2
/-- a value's type, as comparisons ask for it -/
inductive TyR (K : PySem.W.Frag) (H : Hp) : V → Value → Prop where
  | non : TyR K H .non (.type "NoneType")
  | int (i : Int) : TyR K H (.int i) (.type "int")
  | str (x : Str) : TyR K H (.str x) (.type "str")
  | lst {a : Addr} {xs : List V} (e : SqL K H a xs) : TyR K H (.ref a) (.type "list")
  | tup {a : Addr} {xs : List V} (e : SqT K H a xs) : TyR K H (.ref a) (.type "tuple")
  | ins {a C dx : Addr} {fs : List (Str × V)} (e : H a = some (.ins C dx fs)) : TyR K H (.ref a) (.ref C)
section
variable {X : Cx} {CX : CXT} {C g : Addr} {k : Nat} {fd : FuncData} {ps : List Str} {sp : Sp} {E : XK}
theorem TyR.looks {pins : List (Addr × Obj)} {σ : L2.St} {H : Hp} {s : Shared} {y : V} {t u : Value} (I : Inv X pins σ H s) (h : TyR X.K H y t) (r : RelV y u) {prog : Program} {w : World} : PySem.W.Looks (model prog w) s.heap (typeOf u) t := by
  cases h with
  | non => cases r; exact PySem.W.Looks.of_pure rfl
  | int i => obtain ⟨t, rfl⟩ := r; exact PySem.W.Looks.of_pure rfl
  | str i => obtain ⟨t, rfl⟩ := r; exact PySem.W.Looks.of_pure rfl
  | lst e =>
    cases r
    obtain ⟨its, _, ⟨o, n, ho, hc, _⟩, _⟩ := I.list e
    exact fun A Q E s k q => wpAny_typeOf_ref (k _ _ ho) (by rw [hc]; exact q)
  | tup e =>
    cases r
    obtain ⟨its, _, ⟨o, ho, hc, _⟩, _⟩ := I.tuple e
    exact fun A Q E s k q => wpAny_typeOf_ref (k _ _ ho) (by rw [hc]; exact q)
  | ins e =>
    cases r
    obtain ⟨mA, O, _⟩ := ins_get I.hok e
    obtain ⟨od, J, _⟩ := O.look
    exact J.type
/-- x == y, x of the class at C with its own __eq__ at g -/
def rEqO (K : PySem.W.Frag) (C : Addr) (sp : Sp) (E : XK) : R2 := fun x y H Q => ∃ (a dx : Addr) (fs : List (Str × V)) (tb : Value), x = .ref a ∧ H a = some (.ins C dx fs) ∧ TyR K H y tb ∧ PySem.W.notFirst K C tb = true ∧ sp [x, y] H Q E
theorem op_eqO (hs : PySem.W.findIn X.K (.ref C) "__eq__" = some (some (.ref g))) (hf : PySem.W.isFn X.K (.ref g) = true) (F : FnOk X.prog X.w X.K X.mg X.base CX k g fd ps sp) (hr : Room k X.A) (hb : Binds X.K fd ps []) (hx : Passes CX X E) : OpR X (compareOp .Eq) (rEqO X.K C sp E) := by
  intro pins s σ H x y v u Q I rx ry h
  obtain ⟨a, dx, fs, tb, rfl, ha, hy, hn, q⟩ := h
  cases (show v = Value.ref a from rx)
  obtain ⟨mA, O, _⟩ := ins_get I.hok ha
  obtain ⟨od, J, _⟩ := O.look
  obtain ⟨m, hF⟩ := I.fr
  show wpAny _ _ (richCompare .Eq _ _) _ _ _
  refine PySem.W.cmp_K (op := .Eq) (tb := tb) hr.units0 hF I.ok.mod.kin J (hy.looks I ry) hn hs hf ?_
  refine wpAny_mono (run_fn (us := [.ref a, u]) (vs := [.ref a, y]) (dvs := []) F hr hb .nil hx I (.cons rfl (.cons ry .nil)) q) (fun w s' z => ?_) fun _ _ x => x
  obtain ⟨z', H', I', rz, qz⟩ := z
  exact SlX.cmpback rz ⟨z', H', I', rz, qz⟩
/-- x != y by the same -/
def rNeO (K : PySem.W.Frag) (C : Addr) (sp : Sp) (E : XK) : R2 := fun x y H Q => ∃ (a dx : Addr) (fs : List (Str × V)) (tb : Value), x = .ref a ∧ H a = some (.ins C dx fs) ∧ TyR K H y tb ∧ PySem.W.notFirst K C tb = true ∧ sp [x, y] H (fun v H' => ∃ b, v = .bl b ∧ Q (.bl (!b)) H') E
theorem op_neO (hm : PySem.W.mroIn X.K C (.type "object") = some true) (hne : PySem.W.findIn X.K (.ref C) "__ne__" = some (some (.builtin "object.__ne__"))) (hs : PySem.W.findIn X.K (.ref C) "__eq__" = some (some (.ref g))) (hf : PySem.W.isFn X.K (.ref g) = true)
    (F : FnOk X.prog X.w X.K X.mg X.base CX k g fd ps sp) (hr : Room (k + 1) X.A) (hb : Binds X.K fd ps []) (hx : Passes CX X E) : OpR X (compareOp .NotEq) (rNeO X.K C sp E) := by
  intro pins s σ H x y v u Q I rx ry h
  obtain ⟨a, dx, fs, tb, rfl, ha, hy, hn, q⟩ := h
  cases (show v = Value.ref a from rx)
  obtain ⟨mA, O, _⟩ := ins_get I.hok ha
  obtain ⟨od, J, _⟩ := O.look
  show wpAny _ _ (richCompare .NotEq _ _) _ _ _
  have hu : X.A.units + 1 < cLine := by have := hr.un; omega
  refine OwnX.ne_K hu I.kIn J (hy.looks I ry) hn hm hne hs hf ?_
  have hl : ([Value.ref a, u] ++ ([] : List Value)).length = ps.length := F.len _ _ _ _ q
  refine wpAny_call (codeAny_mono (F.run X.A.in1 X.stack s H ⟨[.ref a, u], []⟩ [.ref a, u] [.ref a, y] _ _ hr.in1 I.env0.in1 (hb s [.ref a, u] I.kIn hl) (.cons rfl (.cons ry .nil)) q) fun r s' hq => ?_)
  cases r with
  | error e => exact hx pins σ H s e s' I hq
  | ok fl =>
    cases fl with
    | ret w =>
      obtain ⟨v, H', I', rv, b, rfl, qz⟩ := I.after hq
      cases rv
      exact ⟨b, rfl, .bl (!b), H', I', rfl, qz⟩
    | next => exact hq.elim
    | brk => exact hq.elim
    | cont => exact hq.elim
/-- x op y, both of the class at C, whose own method for op is at g -/
def rBinO (C : Addr) (sp : Sp) (E : XK) : R2 := fun x y H Q => ∃ (a dx : Addr) (fs : List (Str × V)) (b dy : Addr) (gs : List (Str × V)), x = .ref a ∧ y = .ref b ∧ H a = some (.ins C dx fs) ∧ H b = some (.ins C dy gs) ∧ sp [x, y] H Q E
theorem op_binO {op : Operator} (hc : PySem.W.selfFirst X.K C = true) (hs : PySem.W.findIn X.K (.ref C) (PySem.dunder op.info.2) = some (some (.ref g))) (hf : PySem.W.isFn X.K (.ref g) = true)
    (F : FnOk X.prog X.w X.K X.mg X.base CX k g fd ps sp) (hr : Room k X.A) (hb : Binds X.K fd ps []) (hx : Passes CX X E) : OpR X (binaryOp op) (rBinO C sp E) := by
  intro pins s σ H x y v u Q I rx ry h
  obtain ⟨a, dx, fs, b, dy, gs, rfl, rfl, ha, hy, q⟩ := h
  cases (show v = Value.ref a from rx)
  cases (show u = Value.ref b from ry)
  obtain ⟨mA, O, _⟩ := ins_get I.hok ha
  obtain ⟨od, J, _⟩ := O.look
  obtain ⟨mA', O', _⟩ := ins_get I.hok hy
  obtain ⟨od', J', _⟩ := O'.look
  refine OwnX.bin_same I.kIn J J'.type hc hs hf ?_
  refine wpAny_mono (run_fn (us := [.ref a, .ref b]) (vs := [.ref a, .ref b]) (dvs := []) F hr hb .nil hx I (.cons rfl (.cons rfl .nil)) q) (fun w s' z => ?_) fun _ _ x => x
  obtain ⟨z', H', I', rz, qz⟩ := z
  exact SlX.cmpback rz ⟨z', H', I', rz, qz⟩
end
end Sc
namespace Sc
open PySem PySem.Spec PyProof.Rows L2
/-- texts that can be compared and are not long -/
def Fine (x : Str) : Prop := x.length ≤ 1000 ∧ (PyData.str x).canLay0 = true
def Fines (xs : List Str) : Prop := ∀ x ∈ xs, Fine x
section
variable {P : Program} {w : World} {K : PySem.W.Frag} {mg : Str → Option Value} {base : Heap} {a l : Addr} {H H' H'' : Hp}
theorem Fines.txts {xs : List Str} (h : Fines xs) : Txts xs := fun x hx => (h x hx).1
theorem dps (K : PySem.W.Frag) (H : Hp) : ∀ xs : List Str, DpAll K H (xs.map V.str) (xs.map PyData.str)
  | [] => .nil
  | x :: r => .cons (.str x) (dps K H r)
theorem strs_lay : ∀ {xs : List Str}, Fines xs → PyData.canLayAll0 (xs.map PyData.str) = true
  | [], _ => rfl
  | x :: r, h => by
    show ((PyData.str x).canLay0 && PyData.canLayAll0 (r.map PyData.str)) = true
    rw [(h x List.mem_cons_self).2, strs_lay fun y hy => h y (List.mem_cons_of_mem x hy)]
    rfl
theorem strs_depth : ∀ xs : List Str, PyData.depthAll (xs.map PyData.str) = 0
  | [] => rfl
  | x :: r => by
    show max (PyData.str x).depth (PyData.depthAll (r.map PyData.str)) = 0
    rw [strs_depth r]
    rfl
theorem shT {xs : List Str} (h : Fines xs) : SeqAt.shaped (.tuple (xs.map PyData.str)) = true := by
  unfold SeqAt.shaped
  have e1 : (PyData.tuple (xs.map PyData.str)).canLay0 = true := strs_lay h
  have e2 : (PyData.tuple (xs.map PyData.str)).depth = 1 := by show PyData.depthAll (xs.map PyData.str) + 1 = 1; rw [strs_depth]
  rw [e1, e2]
  rfl
theorem shL {xs : List Str} (h : Fines xs) : SeqAt.shaped (.list (xs.map PyData.str)) = true := by
  unfold SeqAt.shaped
  have e1 : (PyData.list (xs.map PyData.str)).canLay0 = true := strs_lay h
  have e2 : (PyData.list (xs.map PyData.str)).depth = 1 := by show PyData.depthAll (xs.map PyData.str) + 1 = 1; rw [strs_depth]
  rw [e1, e2]
  rfl
theorem eqvA_nil : ∀ xs : List Str, PyData.eqvAll (xs.map PyData.str) [] = decide (xs = [])
  | [] => rfl
  | _ :: _ => rfl
theorem eqvA : ∀ xs ys : List Str, PyData.eqvAll (xs.map PyData.str) (ys.map PyData.str) = decide (xs = ys)
  | [], [] => rfl
  | [], _ :: _ => rfl
  | _ :: _, [] => rfl
  | x :: r, y :: t => by
    show ((x == y) && PyData.eqvAll (r.map PyData.str) (t.map PyData.str)) = _
    rw [eqvA r t]
    by_cases h : x = y
    · subst h
      simp
    · have e : (x == y) = false := by simpa using h
      rw [e, Bool.false_and, decide_eq_false fun z => h (List.cons.inj z).1]
def chr1 (c : Nat) : Str := ⟨#[c]⟩
def oddL (x : Str) (i : Nat) : List Str := ((x.cps.toList.take i).filter fun c => !decide (c ∈ letters.cps.toList)).map chr1
theorem oddL_len {x : Str} {i : Nat} : (oddL x i).length ≤ x.length := by
  unfold oddL
  rw [List.length_map]
  exact Nat.le_trans (List.length_filter_le _ _) (by rw [List.length_take]; exact Nat.min_le_right _ _)
theorem oddL_fine {x : Str} {i : Nat} (h : Fine x) : Fines (oddL x i) := by
  intro y hy
  unfold oddL at hy
  obtain ⟨c, hc, rfl⟩ := List.mem_map.mp hy
  have hc := List.mem_of_mem_take (List.mem_filter.mp hc).1
  refine ⟨(show 1 ≤ 1000 by decide), ?_⟩
  have h2 : PyData.strOk x = true := h.2
  show PyData.strOk (chr1 c) = true
  unfold PyData.strOk at h2 ⊢
  rw [Array.all_eq_true'] at h2
  have h3 := h2 c (by rw [← Array.mem_toList_iff]; exact hc)
  rw [Array.all_eq_true']
  intro y hy
  have ey : y = c := by
    have hy : y ∈ (#[c] : Array Nat) := hy
    simpa using hy
  subst ey
  exact h3
theorem oddL_nil {x : Str} : decide (oddL x x.length = []) = isLetters x := by
  have el : x.cps.toList.take x.length = x.cps.toList := List.take_of_length_le (by rw [Array.length_toList]; exact Nat.le_refl _)
  unfold oddL isLetters
  rw [el]
  cases h : x.cps.toList.all fun c => decide (c ∈ letters.cps.toList) with
  | true =>
    rw [List.all_eq_true] at h
    have e : (x.cps.toList.filter fun c => !decide (c ∈ letters.cps.toList)) = [] := by
      rw [List.filter_eq_nil_iff]
      intro c hc z
      rw [h c hc] at z
      cases z
    rw [e]
    rfl
  | false =>
    rw [decide_eq_false]
    intro z
    have z := List.map_eq_nil_iff.mp z
    rw [List.filter_eq_nil_iff] at z
    rw [List.all_eq_false] at h
    obtain ⟨c, hc, hn⟩ := h
    exact z c hc (by cases e : decide (c ∈ letters.cps.toList) with | true => exact absurd e hn | false => rfl)
theorem risesAt_eq {xs : List Str} {i : Nat} (hi : i < xs.length) (h0 : i ≠ 0) (h1 : i - 1 < xs.length) : risesAt xs i = decide (xs[i - 1].cps.toList < xs[i].cps.toList) := by
  unfold risesAt
  rw [decide_eq_false h0, Bool.false_or, List.getElem?_eq_getElem h1, List.getElem?_eq_getElem hi]
theorem risesAt_0 {xs : List Str} : risesAt xs 0 = true := rfl
theorem strG {xs : List Str} {i : Nat} (hi : i < xs.length) : (xs.map V.str)[i]? = some (.str xs[i]) := by rw [List.getElem?_map, List.getElem?_eq_getElem hi]; rfl
theorem small_lim {z : Int} (h0 : 0 ≤ z) (h1 : z ≤ 1000) : z.natAbs.log2 < 9000 := by
  by_cases e : z.natAbs = 0
  · rw [e]; decide
  · exact (Nat.log2_lt e).mpr (Nat.lt_of_le_of_lt (show z.natAbs ≤ 2 ^ 10 by omega) (Nat.pow_lt_pow_right (by decide) (by decide)))
end
end Sc
namespace Sc
open PySem PySem.Spec PyProof.Rows L2
/-! ### what a condition does -/
theorem sc_Condition___call__ : FnScope ["self", "case", "held", "name"] ["self", "case"] (defScope s_Condition___call__) := ⟨rfl, rfl, rfl, by decide +kernel, rfl, by decide +kernel, by decide +kernel⟩
/-- the texts in their order -/
def srt (l : List Str) : List Str := l.mergeSort fun a b => decide (a.cps.toList ≤ b.cps.toList)
theorem srt_perm (l : List Str) : (srt l).Perm l := List.mergeSort_perm _ _
theorem rising_of : ∀ (x : Str) (r : List Str), (∀ y ∈ r, SLe x y) → r.Pairwise SLe → risingS x r = true
  | _, [], _, _ => rfl
  | x, y :: r, h1, h2 => by
    have h2 := List.pairwise_cons.mp h2
    show (!ltCps y.cps.toList x.cps.toList && risingS y r) = true
    rw [Bool.and_eq_true, ltCps_eq]
    refine ⟨?_, rising_of y r h2.1 h2.2⟩
    have h3 : x.cps.toList ≤ y.cps.toList := h1 y List.mem_cons_self
    rw [decide_eq_false (show ¬ y.cps.toList < x.cps.toList from fun z => List.not_lt.mpr h3 z)]
    rfl
theorem sorted_of : ∀ {r : List Str}, r.Pairwise SLe → sortedS r = true
  | [], _ => rfl
  | x :: r, h => rising_of x r (List.pairwise_cons.mp h).1 (List.pairwise_cons.mp h).2
theorem srt_sorted (l : List Str) : sortedS (srt l) = true := by
  refine sorted_of ((List.pairwise_mergeSort (le := fun a b : Str => decide (a.cps.toList ≤ b.cps.toList)) (fun a b c h1 h2 => ?_) (fun a b => ?_) l).imp fun h => of_decide_eq_true h)
  · exact decide_eq_true (List.le_trans (of_decide_eq_true h1) (of_decide_eq_true h2))
  · rw [Bool.or_eq_true]
    rcases List.le_total a.cps.toList b.cps.toList with h | h
    · exact .inl (decide_eq_true h)
    · exact .inr (decide_eq_true h)
/-- an object Condition -/
structure CondAt (K : PySem.W.Frag) (C : Addr) (H : Hp) (o : Addr) (hs fs : List Str) : Prop where
  at_ : ∃ (dx a b n : Addr) (zs : List Str), H o = some (.ins C dx (condF a b n)) ∧ SqT K H a (hs.map V.str) ∧ SqT K H b (fs.map V.str) ∧ H n = some (.tup (zs.map V.str)) ∧ zs = srt (hs ++ fs)
theorem CondAt.same {K : PySem.W.Frag} {C : Addr} {H H' : Hp} {o : Addr} {hs fs : List Str} (h : CondAt K C H o hs fs) (s : Same H H') : CondAt K C H' o hs fs := by
  obtain ⟨dx, a, b, n, zs, h1, h2, h3, h4, h5⟩ := h.at_
  exact ⟨dx, a, b, n, zs, s _ _ h1, s.tup h2, s.tup h3, s _ _ h4, h5⟩
def meets (hs fs case : List Str) : Bool := (hs.all fun x => decide (x ∈ case)) && !(fs.any fun x => decide (x ∈ case))
section
variable {P : Program} {w : World} {K : PySem.W.Frag} {mg : Str → Option Value} {base : Heap} {CC C : Addr}
/-- [name in case for name in xs]: the truths -/
theorem inAll {H1 : Hp} {D c : Addr} {xs cs : List Str} {W : Nat} {X : Cx} {σ : L2.St} : True := trivial
def sp_ccall (K : PySem.W.Frag) (C : Addr) : Sp := fun vs H Q _ => ∃ (o c : Addr) (hs fs cs : List Str), vs = [.ref o, .ref c] ∧ CondAt K C H o hs fs ∧ SqT K H c (cs.map V.str) ∧ hs.length ≤ 1000 ∧ fs.length ≤ 1000 ∧ ∀ H', Same H H' → Q (.bl (meets hs fs cs)) H'
theorem ok_ccall {f : Addr} {fd : FuncData} (F : Fun K "__call__" "Condition.__call__" s_Condition___call__ f fd) (B : Blt mg) (T : Cls K C) (n1 : NoAttr K C "_holding") (n2 : NoAttr K C "_failing") : FnOk P w K mg base CX0 1 f fd ["self", "case"] (sp_ccall K C) := by
  refine F.ok sc_Condition___call__ (fun vs H Q E h => by obtain ⟨o, c, hs, fs, cs, rfl, _⟩ := h; rfl) (fun cdv A outer s H vs Q E hr h => ?_)
  obtain ⟨o, c, hs, fs, cs, rfl, hC, hc, l1, l2, q⟩ := h
  obtain ⟨dx, a, b, n, zs, ho, ha, hb, _⟩ := hC.at_
  refine ⟨_, (pss_cons (ps_set (i := 2) sc_Condition___call__.nd rfl (Or.inl rfl) (pe_callB (cr_all rfl) (by rfl) B.b_all PyProof.Rows.boot_all (pa_cons (pe_lc (own := [("name", 3)]) (g := gName 3) (tt := tYes) rfl sc_Condition___call__.nd (pi_tup (pe_fld (pv 0) rfl)) (blkOk_by (own := [("name", 3)]) (N := ["self", "case", "held", "name"]) (sc := defScope s_Condition___call__) (by decide +kernel)) (fun _ _ _ _ _ => (pg_name (i := 3) sc_Condition___call__.nd rfl (Or.inl rfl))) (fun _ _ _ _ _ => pts_nil) (fun _ _ _ _ _ => (pe_.re (pe_cmpR op_in_seq (pv 3) (pv 1) rfl) (by first | (dsimp only [Cx.blk]; done) | exact rfl)))) pa_nil)))
      (pss_one (ps_ret (pe_and (pv 2) (pe_one (pe_not (pe_callB (cr_any rfl) (by rfl) B.b_any (by decide +kernel) (pa_cons (pe_lc (own := [("name", 3)]) (g := gName 3) (tt := tYes) rfl sc_Condition___call__.nd (pi_tup (pe_fld (pv 0) rfl)) (blkOk_by (own := [("name", 3)]) (N := ["self", "case", "held", "name"]) (sc := defScope s_Condition___call__) (by decide +kernel)) (fun _ _ _ _ _ => (pg_name (i := 3) sc_Condition___call__.nd rfl (Or.inl rfl))) (fun _ _ _ _ _ => pts_nil) (fun _ _ _ _ _ => (pe_.re (pe_cmpR op_in_seq (pv 3) (pv 1) rfl) (by first | (dsimp only [Cx.blk]; done) | exact rfl)))) pa_nil)))))))), ?_⟩
  refine ⟨_, rfl, o, C, dx, _, .ref a, rfl, ho, T, n1, rfl, a, rfl, ⟨_, ha⟩, fun D nD => lc_it walk_tup (fun i H' => Same H H' ∧ H' D = some (.lst ((hs.take i).map fun x => V.bl (decide (x ∈ cs))))) ⟨(Same.refl H).put nD, upd_same⟩ (fun _ _ _ h => h.1.tup ha) ?_ ?_⟩
  · rintro i y H2 H3 hi ⟨s, e⟩ ⟨rfl, hy⟩
    rw [List.length_map] at hi
    have hx : hs[i]? = some hs[i] := List.getElem?_eq_getElem hi
    obtain rfl : V.str hs[i] = y := strAt_inj hx hy
    refine ⟨rfl, yes_ ⟨_, rfl, _, rfl, c, _, rfl, .inr (s.tup hc), rfl, flat_strs cs, grow (acc := fun i => (hs.take i).map fun x => V.bl (decide (x ∈ cs))) nD s e ?_ ?_⟩⟩
    · rw [List.length_map, List.length_take]
      exact small1000 (by omega)
    · show List.map _ _ = _
      rw [take_more hx, List.map_append]
      simp only [List.map_cons, List.map_nil, inV_str]
      rfl
  · rintro H2 ⟨s, e⟩
    rw [List.length_map, List.take_length] at e
    refine ⟨D, hs.map fun x => decide (x ∈ cs), rfl, sqL_of (by rw [e, List.map_map]; rfl), ?_⟩
    refine ⟨_, rfl, _, rfl, bcase (fun c1 => ?_) (fun c1 => ?_)⟩
    · refine ⟨_, rfl, o, C, dx, _, .ref b, rfl, s _ _ ho, T, n2, rfl, b, rfl, ⟨_, s.tup hb⟩, fun D2 nD2 => lc_it walk_tup (fun i H' => Same H2 H' ∧ H' D2 = some (.lst ((fs.take i).map fun x => V.bl (decide (x ∈ cs))))) ⟨(Same.refl H2).put nD2, upd_same⟩ (fun _ _ _ h => (s.trans h.1).tup hb) ?_ ?_⟩
      · rintro i y H4 H3 hi ⟨s2, e2⟩ ⟨rfl, hy⟩
        rw [List.length_map] at hi
        have hx : fs[i]? = some fs[i] := List.getElem?_eq_getElem hi
        obtain rfl : V.str fs[i] = y := strAt_inj hx hy
        refine ⟨rfl, yes_ ⟨_, rfl, _, rfl, c, _, rfl, .inr ((s.trans s2).tup hc), rfl, flat_strs cs, grow (acc := fun i => (fs.take i).map fun x => V.bl (decide (x ∈ cs))) nD2 s2 e2 ?_ ?_⟩⟩
        · rw [List.length_map, List.length_take]
          exact small1000 (by omega)
        · show List.map _ _ = _
          rw [take_more hx, List.map_append]
          simp only [List.map_cons, List.map_nil, inV_str]
          rfl
      · rintro H4 ⟨s2, e2⟩
        rw [List.length_map, List.take_length] at e2
        refine ⟨D2, fs.map fun x => decide (x ∈ cs), rfl, sqL_of (by rw [e2, List.map_map]; rfl), ?_⟩
        refine ⟨_, rfl, ?_⟩
        have em : meets hs fs cs = !((fs.map fun x => decide (x ∈ cs)).any id) := by
          unfold meets
          rw [List.any_map]
          have c1 : (hs.all fun x => decide (x ∈ cs)) = true := by rw [List.all_map] at c1; exact c1
          rw [c1, Bool.true_and]
          rfl
        rw [← em]
        exact q H4 (s.trans s2)
    · have em : meets hs fs cs = false := by
        unfold meets
        have c1 : (hs.all fun x => decide (x ∈ cs)) = false := by rw [List.all_map] at c1; exact c1
        rw [c1, Bool.false_and]
      rw [← em]
      exact q H2 s
/-! ### within -/
theorem sc_Condition_within : FnScope ["self", "other", "held", "name"] ["self", "other"] (defScope s_Condition_within) := ⟨rfl, rfl, rfl, by decide +kernel, rfl, by decide +kernel, by decide +kernel⟩
def withinC (hs fs gs ks : List Str) : Bool := (gs.all fun x => decide (x ∈ hs)) && (ks.all fun x => decide (x ∈ fs))
def sp_within (K : PySem.W.Frag) (C : Addr) : Sp := fun vs H Q _ => ∃ (o o2 : Addr) (hs fs gs ks : List Str), vs = [.ref o, .ref o2] ∧ CondAt K C H o hs fs ∧ CondAt K C H o2 gs ks ∧ gs.length ≤ 1000 ∧ ks.length ≤ 1000 ∧ ∀ H', Same H H' → Q (.bl (withinC hs fs gs ks)) H'
/-- the getters -/
abbrev PropC (P : Program) (w : World) (K : PySem.W.Frag) (mg : Str → Option Value) (base : Heap) (C p g : Addr) (fd : FuncData) (n f : Str) : Prop := PropOf K C n p g ∧ FnOk P w K mg base CX0 1 g fd ["self"] (sp_prop C f) ∧ Binds K fd ["self"] []
theorem ok_within {f p1' g1 p2' g2 : Addr} {fd fd1 fd2 : FuncData} (F : Fun K "within" "Condition.within" s_Condition_within f fd) (B : Blt mg) (T : Cls K C) (n1 : NoAttr K C "_holding") (n2 : NoAttr K C "_failing")
    (p1 : PropC P w K mg base C p1' g1 fd1 "holding" "_holding") (p2 : PropC P w K mg base C p2' g2 fd2 "failing" "_failing") : FnOk P w K mg base CX0 3 f fd ["self", "other"] (sp_within K C) := by
  refine F.ok sc_Condition_within (fun vs H Q E h => by obtain ⟨o, c, hs, fs, gs, ks, rfl, _⟩ := h; rfl) (fun cdv A outer s H vs Q E hr h => ?_)
  obtain ⟨o, o2, hs, fs, gs, ks, rfl, hC, hD, l1, l2, q⟩ := h
  obtain ⟨dx, a, b, n, zs, ho, ha, hb, _⟩ := hC.at_
  obtain ⟨dx2, a2, b2, n2', zs2, ho2, ha2, hb2, _⟩ := hD.at_
  have lk1 : (condF a2 b2 n2').lookup ("_holding" : Str) = some (.ref a2) := rfl
  have lk2 : (condF a2 b2 n2').lookup ("_failing" : Str) = some (.ref b2) := rfl
  refine ⟨_, (pss_cons (ps_set (i := 2) sc_Condition_within.nd rfl (Or.inl rfl) (pe_callB (cr_all rfl) (by rfl) B.b_all PyProof.Rows.boot_all (pa_cons (pe_lc (own := [("name", 3)]) (g := gName 3) (tt := tYes) rfl sc_Condition_within.nd (pi_tup (pe_prop (pv 1) T p1.1 p1.2.1 (hr.mono (by decide)) p1.2.2 .nil pass0 rfl)) (blkOk_by (own := [("name", 3)]) (N := ["self", "other", "held", "name"]) (sc := defScope s_Condition_within) (by decide +kernel)) (fun _ _ _ _ _ => (pg_name (i := 3) sc_Condition_within.nd rfl (Or.inl rfl))) (fun _ _ _ _ _ => pts_nil) (fun _ _ _ _ _ => (pe_.re (pe_cmpR op_in_seq (pv 3) (pe_fld (pv 0) rfl) rfl) (by first | (dsimp only [Cx.blk]; done) | exact rfl)))) pa_nil)))
      (pss_one (ps_ret (pe_and (pv 2) (pe_one (pe_callB (cr_all rfl) (by rfl) B.b_all PyProof.Rows.boot_all (pa_cons (pe_lc (own := [("name", 3)]) (g := gName 3) (tt := tYes) rfl sc_Condition_within.nd (pi_tup (pe_prop (pv 1) T p2.1 p2.2.1 (hr.mono (by decide)) p2.2.2 .nil pass0 rfl)) (blkOk_by (own := [("name", 3)]) (N := ["self", "other", "held", "name"]) (sc := defScope s_Condition_within) (by decide +kernel)) (fun _ _ _ _ _ => (pg_name (i := 3) sc_Condition_within.nd rfl (Or.inl rfl))) (fun _ _ _ _ _ => pts_nil) (fun _ _ _ _ _ => (pe_.re (pe_cmpR op_in_seq (pv 3) (pe_fld (pv 0) rfl) rfl) (by first | (dsimp only [Cx.blk]; done) | exact rfl)))) pa_nil))))))), ?_⟩
  refine ⟨_, rfl, o2, dx2, _, rfl, ho2, ⟨o2, dx2, _, _, rfl, ho2, lk1, ?_⟩⟩
  refine ⟨a2, rfl, ⟨_, ha2⟩, fun D nD => lc_it walk_tup (fun i H' => Same H H' ∧ H' D = some (.lst ((gs.take i).map fun x => V.bl (decide (x ∈ hs))))) ⟨(Same.refl H).put nD, upd_same⟩ (fun _ _ _ h => h.1.tup ha2) ?_ ?_⟩
  · rintro i y H2 H3 hi ⟨s, e⟩ ⟨rfl, hy⟩
    rw [List.length_map] at hi
    have hx : gs[i]? = some gs[i] := List.getElem?_eq_getElem hi
    obtain rfl : V.str gs[i] = y := strAt_inj hx hy
    refine ⟨rfl, yes_ ⟨_, rfl, _, rfl, o, C, dx, _, .ref a, rfl, s _ _ ho, T, n1, rfl, a, _, rfl, .inr (s.tup ha), rfl, flat_strs hs, grow (acc := fun i => (gs.take i).map fun x => V.bl (decide (x ∈ hs))) nD s e ?_ ?_⟩⟩
    · rw [List.length_map, List.length_take]
      exact small1000 (by omega)
    · show List.map _ _ = _
      rw [take_more hx, List.map_append]
      simp only [List.map_cons, List.map_nil, inV_str]
      rfl
  · rintro H2 ⟨s, e⟩
    rw [List.length_map, List.take_length] at e
    refine ⟨D, gs.map fun x => decide (x ∈ hs), rfl, sqL_of (by rw [e, List.map_map]; rfl), ?_⟩
    refine ⟨_, rfl, _, rfl, bcase (fun c1 => ?_) (fun c1 => ?_)⟩
    · refine ⟨_, rfl, o2, dx2, _, rfl, s _ _ ho2, ⟨o2, dx2, _, _, rfl, s _ _ ho2, lk2, ?_⟩⟩
      refine ⟨b2, rfl, ⟨_, s.tup hb2⟩, fun D2 nD2 => lc_it walk_tup (fun i H' => Same H2 H' ∧ H' D2 = some (.lst ((ks.take i).map fun x => V.bl (decide (x ∈ fs))))) ⟨(Same.refl H2).put nD2, upd_same⟩ (fun _ _ _ h => (s.trans h.1).tup hb2) ?_ ?_⟩
      · rintro i y H4 H3 hi ⟨s2, e2⟩ ⟨rfl, hy⟩
        rw [List.length_map] at hi
        have hx : ks[i]? = some ks[i] := List.getElem?_eq_getElem hi
        obtain rfl : V.str ks[i] = y := strAt_inj hx hy
        have s3 := s.trans s2
        refine ⟨rfl, yes_ ⟨_, rfl, _, rfl, o, C, dx, _, .ref b, rfl, s3 _ _ ho, T, n2, rfl, b, _, rfl, .inr (s3.tup hb), rfl, flat_strs fs, grow (acc := fun i => (ks.take i).map fun x => V.bl (decide (x ∈ fs))) nD2 s2 e2 ?_ ?_⟩⟩
        · rw [List.length_map, List.length_take]
          exact small1000 (by omega)
        · show List.map _ _ = _
          rw [take_more hx, List.map_append]
          simp only [List.map_cons, List.map_nil, inV_str]
          rfl
      · rintro H4 ⟨s2, e2⟩
        rw [List.length_map, List.take_length] at e2
        refine ⟨D2, ks.map fun x => decide (x ∈ fs), rfl, sqL_of (by rw [e2, List.map_map]; rfl), ?_⟩
        have em : withinC hs fs gs ks = (ks.map fun x => decide (x ∈ fs)).all id := by
          unfold withinC
          have c1 : (gs.all fun x => decide (x ∈ hs)) = true := by rw [List.all_map] at c1; exact c1
          rw [c1, Bool.true_and, List.all_map]
          rfl
        rw [← em]
        exact q H4 (s.trans s2)
    · have em : withinC hs fs gs ks = false := by
        unfold withinC
        have c1 : (gs.all fun x => decide (x ∈ hs)) = false := by rw [List.all_map] at c1; exact c1
        rw [c1, Bool.false_and]
      rw [← em]
      exact q H2 s
/-! ### == -/
theorem sc_Condition___eq__ : FnScope ["self", "other"] ["self", "other"] (defScope s_Condition___eq__) := ⟨rfl, rfl, rfl, by decide +kernel, rfl, by decide +kernel, by decide +kernel⟩
theorem dp_strs {H : Hp} {a : Addr} {xs : List Str} (h : SqT K H a (xs.map V.str)) : Dp K H (.ref a) (.tuple (xs.map PyData.str)) := .tup h (dps K H xs)
/-- what isinstance asks of the class at C -/
structure IsiC (K : PySem.W.Frag) (C : Addr) : Prop where
  ca : PySem.W.findIn K (.ref C) "__class__" = some (some (.builtin "object.__class__"))
  cn : PySem.W.specialIn K (.builtin "object.__class__") "__get__" = some (some (.builtin "getset_descriptor.__get__"))
  ct : PySem.W.takesIn K (.builtin "object.__class__") = some true
  cm : PySem.W.mroIn K C (.type "object") = some true
  me : PySem.W.kitOne K (.ref C) (.ref C) = some true
def sp_ceq (K : PySem.W.Frag) (C : Addr) : Sp := fun vs H Q _ => ∃ (o : Addr) (y : V) (hs fs : List Str), vs = [.ref o, y] ∧ CondAt K C H o hs fs ∧ Fines hs ∧ Fines fs ∧
  ((∃ (o2 : Addr) (gs ks : List Str), y = .ref o2 ∧ CondAt K C H o2 gs ks ∧ Fines gs ∧ Fines ks ∧ Q (.bl (decide (hs = gs) && decide (fs = ks))) H) ∨ (∃ t : Value, TyOf K H y t ∧ PySem.W.kitOne K t (.ref C) = some false ∧ Q (.bl false) H))
theorem ok_ceq {f : Addr} {fd : FuncData} (F : Fun K "__eq__" "Condition.__eq__" s_Condition___eq__ f fd) (B : Blt mg) (T : Cls K C) (n1 : NoAttr K C "_holding") (n2 : NoAttr K C "_failing") (mC : mg "Condition" = some (.ref C)) (I : IsiC K C) : FnOk P w K mg base CX0 1 f fd ["self", "other"] (sp_ceq K C) := by
  refine F.ok sc_Condition___eq__ (fun vs H Q E h => by obtain ⟨o, y, hs, fs, rfl, _⟩ := h; rfl) (fun cdv A outer s H vs Q E hr h => ?_)
  obtain ⟨o, y, hs, fs, rfl, hC, f1, f2, q⟩ := h
  obtain ⟨dx, a, b, n, zs, ho, ha, hb, _⟩ := hC.at_
  refine ⟨_, (pss_one (ps_ret (pe_and (pe_callB call_isi (by rfl) B.b_isinstance PyProof.Rows.boot_isinstance (pa_cons (pv 1) (pa_cons (pe_glob (v := .ref _) rfl mC rfl) pa_nil))) (pe_and (pe_cmpR (op_eqD hr.units) (pe_fld (pv 0) rfl) (pe_fld (pv 1) rfl) (nomark _)) (pe_one (pe_cmpR (op_eqD hr.units) (pe_fld (pv 0) rfl) (pe_fld (pv 1) rfl) (nomark _))))))), ?_⟩
  rcases q with ⟨o2, gs, ks, rfl, hD, f3, f4, q⟩ | ⟨t, ht, hk, q⟩
  · obtain ⟨dx2, a2, b2, n2', zs2, ho2, ha2, hb2, _⟩ := hD.at_
    refine ⟨_, rfl, _, _, _, _, _, rfl, .own _, .base (.ins ho2 T I.ca I.cn I.ct I.cm), I.me, _, rfl, iteT ?_⟩
    refine ⟨_, rfl, o, C, dx, _, .ref a, rfl, ho, T, n1, rfl, _, rfl, o2, C, dx2, _, .ref a2, rfl, ho2, T, n1, rfl, _, _, dp_strs ha, dp_strs ha2, shT f1, shT f3, _, rfl, ?_⟩
    have e1 : (PyData.tuple (hs.map PyData.str)).eqv (.tuple (gs.map PyData.str)) = decide (hs = gs) := eqvA hs gs
    rw [e1]
    by_cases c1 : hs = gs
    · rw [decide_eq_true c1]
      rw [decide_eq_true c1, Bool.true_and] at q
      refine iteT ⟨_, rfl, o, C, dx, _, .ref b, rfl, ho, T, n2, rfl, _, rfl, o2, C, dx2, _, .ref b2, rfl, ho2, T, n2, rfl, _, _, dp_strs hb, dp_strs hb2, shT f2, shT f4, ?_⟩
      have e2 : (PyData.tuple (fs.map PyData.str)).eqv (.tuple (ks.map PyData.str)) = decide (fs = ks) := eqvA fs ks
      rw [e2]
      exact q
    · rw [decide_eq_false c1]
      rw [decide_eq_false c1, Bool.false_and] at q
      exact iteF q
  · exact ⟨_, rfl, _, _, _, _, _, rfl, .own _, .base ht, hk, _, rfl, iteF q⟩
/-! ### & -/
theorem sc_Condition___and__ : FnScope ["self", "other", "holding", "failing", "name"] ["self", "other"] (defScope s_Condition___and__) := ⟨rfl, rfl, rfl, by decide +kernel, rfl, by decide +kernel, by decide +kernel⟩
def mrg (xs ys : List Str) : List Str := srt (xs ++ ys.filter fun y => !decide (y ∈ xs))
theorem mrg_txts {xs ys : List Str} (h1 : Txts xs) (h2 : Txts ys) : Txts (mrg xs ys) := fun x hx => by
  have hx := (srt_perm _).mem_iff.mp hx
  rcases List.mem_append.mp hx with h | h
  · exact h1 x h
  · exact h2 x (List.mem_filter.mp h).1
theorem mrg_len {xs ys : List Str} : (mrg xs ys).length ≤ xs.length + ys.length := by
  unfold mrg
  rw [(srt_perm _).length_eq, List.length_append]
  have := List.length_filter_le (fun y => !decide (y ∈ xs)) ys
  omega
theorem srt_uniq {zs l : List Str} (p : zs.Perm l) (s : sortedS zs = true) : zs = srt l := sorted_uniq (p.trans (srt_perm l).symm) s (srt_sorted l)
/-- a name of the one is in the other -/
def meetN (xs ys : List Str) : Bool := xs.any fun x => decide (x ∈ ys)
def sp_cand (K : PySem.W.Frag) (C CC CN : Addr) : Sp := fun vs H Q E => ∃ (o o2 : Addr) (hs fs gs ks : List Str), vs = [.ref o, .ref o2] ∧ CondAt K C H o hs fs ∧ CondAt K C H o2 gs ks ∧ Txts hs ∧ Txts fs ∧ Txts gs ∧ Txts ks ∧ hs.length + gs.length < 64 ∧ fs.length + ks.length < 64 ∧
  (meetN (mrg hs gs) (mrg fs ks) = true → ∀ H', Same H H' → E (.ref CN) none H') ∧ (meetN (mrg hs gs) (mrg fs ks) = false →
    (∀ i, firstWrong (mrg hs gs) [] = some i → errPI CC ((0 : Nat) : Int) i H E) ∧ (firstWrong (mrg hs gs) [] = none → (∀ i, firstWrong (mrg fs ks) (mrg hs gs) = some i → errPI CC ((1 : Nat) : Int) i H E) ∧
    (firstWrong (mrg fs ks) (mrg hs gs) = none → ∀ H' o3, Same H H' → H o3 = none → CondAt K C H' o3 (mrg hs gs) (mrg fs ks) → Q (.ref o3) H')))
theorem ok_cand {f p1' g1 p2' g2 CN : Addr} {fd fd1 fd2 : FuncData} (F : Fun K "__and__" "Condition.__and__" s_Condition___and__ f fd) (B : Blt mg) (T : Cls K C) (n1 : NoAttr K C "_holding") (n2 : NoAttr K C "_failing")
    (p1 : PropC P w K mg base C p1' g1 fd1 "holding" "_holding") (p2 : PropC P w K mg base C p2' g2 fd2 "failing" "_failing") (e_NeverMet : ErrMk0 K mg "NeverMet" CN)
    (c_merged : Cal P w K mg base CX0 1 "merged" ["names", "others"] (sp_merged K)) (k_Condition : Mkr P w K mg base 4 "Condition" C ["self", "holding", "failing"] (sp_cond_init K C CC)) : FnOk P w K mg base (L2.CX P w) 6 f fd ["self", "other"] (sp_cand K C CC CN) := by
  refine F.okX sc_Condition___and__ (fun vs H Q E h => by obtain ⟨o, o2, hs, fs, gs, ks, rfl, _⟩ := h; rfl) (fun cdv A outer s H vs Q E hr h => ?_)
  obtain ⟨o, o2, hs, fs, gs, ks, rfl, hC, hD, t1, t2, t3, t4, l1, l2, qE, q⟩ := h
  obtain ⟨dx, a, b, n, zs, ho, ha, hb, _⟩ := hC.at_
  obtain ⟨dx2, a2, b2, n2', zs2, ho2, ha2, hb2, _⟩ := hD.at_
  have lk1 : (condF a2 b2 n2').lookup ("_holding" : Str) = some (.ref a2) := rfl
  have lk2 : (condF a2 b2 n2').lookup ("_failing" : Str) = some (.ref b2) := rfl
  refine ⟨_, (pss_cons (ps_set (i := 2) sc_Condition___and__.nd rfl (Or.inl rfl) (pe_cal c_merged (hr.mono (by decide)) (pa_cons (pe_fld (pv 0) rfl) (pa_cons (pe_prop (pv 1) T p1.1 p1.2.1 (hr.mono (by decide)) p1.2.2 .nil pass0 rfl) pa_nil))))
      (pss_cons (ps_set (i := 3) sc_Condition___and__.nd rfl (Or.inr rfl) (pe_cal c_merged (hr.mono (by decide)) (pa_cons (pe_fld (pv 0) rfl) (pa_cons (pe_prop (pv 1) T p2.1 p2.2.1 (hr.mono (by decide)) p2.2.2 .nil pass0 rfl) pa_nil))))
      (pss_cons (ps_if (pt_val (pe_callB (cr_any rfl) (by rfl) B.b_any (by decide +kernel) (pa_cons (pe_lc (own := [("name", 4)]) (g := gName 4) (tt := tYes) rfl sc_Condition___and__.nd (pi_tup (pv 2)) (blkOk_by (own := [("name", 4)]) (N := ["self", "other", "holding", "failing", "name"]) (sc := defScope s_Condition___and__) (by decide +kernel)) (fun _ _ _ _ _ => (pg_name (i := 4) sc_Condition___and__.nd rfl (Or.inl rfl))) (fun _ _ _ _ _ => pts_nil) (fun _ _ _ _ _ => (pe_.re (pe_cmpR op_in_seq (pv 4) (pv 3) rfl) (by first | (dsimp only [Cx.blk]; done) | exact rfl)))) pa_nil))) (pss_one (ps_raise rfl (takes_of rfl rfl rfl rfl) (pmk_err0 e_NeverMet))) pss_nil)
      (pss_one (ps_ret (pe_mkX k_Condition (hr.mono (by decide)) (takes_of rfl rfl rfl rfl) (pa_cons (pv 2) (pa_cons (pv 3) pa_nil)))))))), ?_⟩
  refine ⟨_, rfl, o, C, dx, _, .ref a, rfl, ho, T, n1, rfl, _, rfl, o2, dx2, _, rfl, ho2, ⟨o2, dx2, _, _, rfl, ho2, lk1, ?_⟩⟩
  refine ⟨a, a2, hs, gs, rfl, ha, ha2, l1, fun H1 hA za s1 eA pA sA => ?_⟩
  obtain rfl : za = mrg hs gs := srt_uniq pA sA
  refine ⟨_, rfl, o, C, dx, _, .ref b, rfl, s1 _ _ ho, T, n2, rfl, _, rfl, o2, dx2, _, rfl, s1 _ _ ho2, ⟨o2, dx2, _, _, rfl, s1 _ _ ho2, lk2, ?_⟩⟩
  refine ⟨b, b2, fs, ks, rfl, s1.tup hb, s1.tup hb2, l2, fun H2 hB zb s2 eB pB sB => ?_⟩
  obtain rfl : zb = mrg fs ks := srt_uniq pB sB
  have s12 := s1.trans s2
  have eA2 := s2 _ _ eA
  refine ⟨_, rfl, hA, rfl, ⟨_, sqT_of eA2⟩, fun D nD => lc_it walk_tup (fun i H' => Same H2 H' ∧ H' D = some (.lst (((mrg hs gs).take i).map fun x => V.bl (decide (x ∈ mrg fs ks))))) ⟨(Same.refl H2).put nD, upd_same⟩ (fun _ _ _ h => h.1.tup (sqT_of eA2)) ?_ ?_⟩
  · rintro i y H4 H3 hi ⟨s, e⟩ ⟨rfl, hy⟩
    rw [List.length_map] at hi
    have hx : (mrg hs gs)[i]? = some (mrg hs gs)[i] := List.getElem?_eq_getElem hi
    obtain rfl : V.str (mrg hs gs)[i] = y := strAt_inj hx hy
    refine ⟨rfl, yes_ ⟨_, rfl, _, rfl, hB, _, rfl, .inr (sqT_of (s _ _ eB)), rfl, flat_strs _, grow (acc := fun i => ((mrg hs gs).take i).map fun x => V.bl (decide (x ∈ mrg fs ks))) nD s e ?_ ?_⟩⟩
    · rw [List.length_map, List.length_take]
      have := mrg_len (xs := hs) (ys := gs)
      exact small1000 (by omega)
    · show List.map _ _ = _
      rw [take_more hx, List.map_append]
      simp only [List.map_cons, List.map_nil, inV_str]
      rfl
  · rintro H4 ⟨s, e⟩
    rw [List.length_map, List.take_length] at e
    refine ⟨D, (mrg hs gs).map fun x => decide (x ∈ mrg fs ks), rfl, sqL_of (by rw [e, List.map_map]; rfl), ?_⟩
    have em : ((mrg hs gs).map fun x => decide (x ∈ mrg fs ks)).any id = meetN (mrg hs gs) (mrg fs ks) := by
      rw [List.any_map]
      rfl
    rw [em]
    refine ⟨_, rfl, bcase (fun c1 => ?_) (fun c1 => ?_)⟩
    · exact qE c1 H4 (s12.trans s)
    · obtain ⟨q0, q⟩ := q c1
      have s4 := s12.trans s
      have eA4 := s _ _ eA2
      have eB4 := s _ _ eB
      refine ⟨_, rfl, _, rfl, fun o3 dx3 nx ndx nex => ?_⟩
      have s5 : Same H4 (upd (upd H4 dx3 (.own o3)) o3 (.ins C dx3 [])) := ((Same.refl H4).put ndx).put nx
      have m1 := mrg_len (xs := hs) (ys := gs)
      have m2 := mrg_len (xs := fs) (ys := ks)
      refine ⟨o3, dx3, hA, hB, _, _, rfl, upd_same, sqT_of (s5 _ _ eA4), sqT_of (s5 _ _ eB4), mrg_txts t1 t3, mrg_txts t2 t4, by omega, by omega, fun i ei H' d sH nd => q0 i ei H' d ((s4.trans s5).trans sH) nd, fun en => ?_⟩
      obtain ⟨q1, q⟩ := q en
      refine ⟨fun i ei H' d sH nd => q1 i ei H' d ((s4.trans s5).trans sH) nd, fun en2 H' n3 zs3 sX hx hn hperm hsort => ⟨rfl, ?_⟩⟩
      have sS : Same H4 H' := fun b' o' h => sX b' o' (fun e => by rw [e, nx] at h; cases h) (s5 _ _ h)
      exact q en2 H' o3 (s4.trans sS) (s4.free nx) ⟨dx3, hA, hB, n3, zs3, hx, sqT_of (sS _ _ eA4), sqT_of (sS _ _ eB4), hn, srt_uniq hperm hsort⟩
end
end Sc
namespace Sc
open PySem PySem.Spec PyProof.Rows L2
/-- o(e, ..), o an object whose class has its own __call__; the arguments leave it as it is -/
def tCallO (C : Addr) (sp : Sp) (E : XK) (te : TE) (t : TA) : TE := fun σ H Q => te σ H fun x H1 => ∃ (a : Addr), x = .ref a ∧
  t σ H1 fun vs H2 => (∃ (dx : Addr) (fs : List (Str × V)), H2 a = some (.ins C dx fs)) ∧ sp (.ref a :: vs) H2 Q E
theorem callWith_o {M : Model} {A : Around} {E : Value → Shared → Prop} {s : Shared} {pos : Pos} {x C : Addr} {first : List Value} {Q : Value → Shared → Prop} {args : List (Bool × Sem Value)} (hplain : args.any (·.1) = false)
    (h : wpAny M A (evalArgs (.ref x) true args []) (fun a s₁ => (∃ ox od, PySem.W.InstAt s₁.heap x ox C od ∧ ox.data = Data.plain) ∧ wpAny M A (call (.ref x) (first ++ a.pos) a.kw) Q E s₁) E s) : wpAny M A (callWith pos (.ref x) first args []) Q E s := by
  unfold callWith
  refine wpAny_bind (wpAny_holding (wpAny_mono h (fun a s₁ h₁ => wpAny_bind (wpAny_standAt ?_)) (fun _ _ z => z)))
  obtain ⟨⟨ox, od, J, hd⟩, h₂⟩ := h₁
  have L := PySem.W.kco_keeper (M := M) J hd
  simp only [hplain, List.any_nil, Bool.or_false]
  exact wpAny_bind (PySem.W.Looks.here L (wpAny_bind (wpAny_mono (wpAny_operateT h₂) (fun r s₂ hr => wpAny_bind (wpAny_holding (wpAny_point (wpAny_pure hr)))) (fun _ _ z => z))))
theorem pe_callO {X : Cx} {CX : CXT} {C g : Addr} {k : Nat} {fd : FuncData} {ps : List Str} {sp : Sp} {E : XK} {te : TE} {t : TA} {x : Str} {e : Expr} {es : List Expr} {p pos : Pos}
    (at_ : PySem.W.findIn X.K (.ref C) "__call__" = some (some (.ref g))) (fn : PySem.W.isFn X.K (.ref g) = true) (fi : PySem.W.fnIn X.K g = true)
    (F : FnOk X.prog X.w X.K X.mg X.base CX k g fd ps sp) (hr : Room k X.A) (hb : Binds X.K fd ps []) (hx : Passes CX X E) (ho : PE X (.Name x p) te) (ha : PA X (e :: es) t)
    (he : starEach (e :: es) X.env = (false, eval e X.env) :: starEach es X.env := by rfl) (hpl : (backTo pos (starEach es X.env)).any (·.1) = false := by rfl) :
    PE X (.Call (.Name x p) (e :: es) [] pos) (tCallO C sp E te t) := by
  refine ⟨fun pins s σ H Q I h => wpAny_Call_NameR (thn (ho.run pins s σ H _ I h) fun u s1 hh => ?_)⟩
  obtain ⟨y, H1, I1, ry, a, rfl, h⟩ := hh
  obtain rfl : u = Value.ref a := ry
  have hr0 := ha.run pos pins s1 σ H1 _ I1 h
  have eb : backTo pos (starEach (e :: es) X.env) = (false, eval e X.env) :: backTo pos (starEach es X.env) := by rw [he]; rfl
  rw [eb] at hr0 ⊢
  refine callWith_o (C := C) (by rw [List.any_cons, hpl]; rfl) (Calls.evalArgs_plain (thn hr0 fun us s2 hh => ?_))
  obtain ⟨vs, H2, I2, rv, ⟨dx, fs, ea⟩, hq⟩ := hh
  obtain ⟨mA, O, _⟩ := ins_get I2.hok ea
  obtain ⟨od, J, _⟩ := ObjM.look O
  have hl : (Value.ref a :: us).length = ps.length := by
    have := F.len _ _ _ _ hq
    rw [← this, List.length_cons, List.length_cons, Vals.length rv]
  refine ⟨⟨_, _, J, rfl⟩, wpAny_call (PySem.W.kco_code I2.kIn J rfl at_ fn fi (codeAny_mono (F.run X.A X.stack s2 H2 ⟨.ref a :: us, []⟩ (.ref a :: us) (.ref a :: vs) Q E hr I2.env0 ?_ (Paired.cons rfl rv) hq) fun res s' hcr => ?_))⟩
  · have := hb s2 (.ref a :: us) I2.kIn (by rw [List.append_nil]; exact hl)
    rw [List.append_nil] at this
    exact this
  · cases res with
    | error er => exact hx pins σ H2 s2 er s' I2 hcr
    | ok fl =>
      cases fl with
      | ret v => exact I2.after hcr
      | next => exact hcr.elim
      | brk => exact hcr.elim
      | cont => exact hcr.elim
end Sc
namespace Sc
open PySem PySem.Spec PyProof.Rows L2
/-- the class Condition as its users see it -/
structure CondX (P : Program) (w : World) (K : PySem.W.Frag) (mg : Str → Option Value) (base : Heap) (C CC CN : Addr) : Prop where
  cls : Cls K C
  isi : IsiC K C
  holding : ∃ p g fd, PropC P w K mg base C p g fd "holding" "_holding"
  failing : ∃ p g fd, PropC P w K mg base C p g fd "failing" "_failing"
  names : ∃ p g fd, PropC P w K mg base C p g fd "names" "_names"
  call : ∃ g fd, PySem.W.findIn K (.ref C) "__call__" = some (some (.ref g)) ∧ PySem.W.isFn K (.ref g) = true ∧ PySem.W.fnIn K g = true ∧ FnOk P w K mg base CX0 1 g fd ["self", "case"] (sp_ccall K C) ∧ Binds K fd ["self", "case"] []
  eq : ∃ g fd, PySem.W.findIn K (.ref C) "__eq__" = some (some (.ref g)) ∧ PySem.W.isFn K (.ref g) = true ∧ FnOk P w K mg base CX0 1 g fd ["self", "other"] (sp_ceq K C) ∧ Binds K fd ["self", "other"] []
  ne : PySem.W.findIn K (.ref C) "__ne__" = some (some (.builtin "object.__ne__"))
  and_ : PySem.W.selfFirst K C = true ∧ ∃ g fd, PySem.W.findIn K (.ref C) "__and__" = some (some (.ref g)) ∧ PySem.W.isFn K (.ref g) = true ∧ FnOk P w K mg base (L2.CX P w) 6 g fd ["self", "other"] (sp_cand K C CC CN) ∧ Binds K fd ["self", "other"] []
  within_ : ∃ g fd, Meth K C "within" g ∧ FnOk P w K mg base CX0 3 g fd ["self", "other"] (sp_within K C) ∧ Binds K fd ["self", "other"] []
section
variable {X : Cx} {C CC CN : Addr} {e o : Expr} {es : List Expr} {ta te : TE} {t : TA} {x : Str} {p pos apos : Pos} {E : XK}
theorem pe_cprop {f n : Str} (M : ∃ p g fd, PropC X.prog X.w X.K X.mg X.base C p g fd n f) (c : Cls X.K C) (hr : Room 2 X.A) (he : PE X e ta) (hab : attributeBase e n X.env (eval e X.env) = eval e X.env := by rfl) : PE X (.Attribute e n pos) (tProp C (sp_prop C f) [] E0 ta) := by
  obtain ⟨p, g, fd, h1, h2, h3⟩ := M
  exact pe_prop he c h1 h2 hr h3 .nil pass0 hab
theorem pe_cc (M : CondX X.prog X.w X.K X.mg X.base C CC CN) (hr : Room 1 X.A) (ho : PE X (.Name x p) te) (ha : PA X (e :: es) t)
    (he : starEach (e :: es) X.env = (false, eval e X.env) :: starEach es X.env := by rfl) (hpl : (backTo pos (starEach es X.env)).any (·.1) = false := by rfl) : PE X (.Call (.Name x p) (e :: es) [] pos) (tCallO C (sp_ccall X.K C) E0 te t) := by
  obtain ⟨g, fd, h1, h2, h3, F, hb⟩ := M.call
  exact pe_callO h1 h2 h3 F hr hb pass0 ho ha he hpl
theorem op_ceq (M : CondX X.prog X.w X.K X.mg X.base C CC CN) (hr : Room 1 X.A) : OpR X (compareOp .Eq) (rEqO X.K C (sp_ceq X.K C) E0) := by
  obtain ⟨g, fd, h1, h2, F, hb⟩ := M.eq
  exact op_eqO h1 h2 F hr hb pass0
theorem op_cne (M : CondX X.prog X.w X.K X.mg X.base C CC CN) (hr : Room 2 X.A) : OpR X (compareOp .NotEq) (rNeO X.K C (sp_ceq X.K C) E0) := by
  obtain ⟨g, fd, h1, h2, F, hb⟩ := M.eq
  exact op_neO M.isi.cm M.ne h1 h2 F hr hb pass0
theorem op_candN (M : CondX X.prog X.w X.K X.mg X.base C CC CN) (hr : Room 6 X.A) : OpR X (binaryOp .BitAnd) (rBinO C (sp_cand X.K C CC CN) E0) := by
  obtain ⟨h0, g, fd, h1, h2, F, hb⟩ := M.and_
  exact op_binO h0 h1 h2 F hr hb passL
theorem op_candX (M : CondX X.prog X.w X.K X.mg X.base C CC CN) (hr : Room 6 X.A) (tk : Takes X (fun cls d _ H => E cls d H)) : OpR X (binaryOp .BitAnd) (rBinO C (sp_cand X.K C CC CN) E) := by
  obtain ⟨h0, g, fd, h1, h2, F, hb⟩ := M.and_
  exact op_binO h0 h1 h2 F hr hb (fun pins σ H s e s' I h => passAt tk σ pins H s e s' I h)
theorem pe_cwithin {pl : Sem Bool} (M : CondX X.prog X.w X.K X.mg X.base C CC CN) (hr : Room 3 X.A) (he : PE X o ta) (ha : PA X (e :: es) t)
    (hst : starEach (e :: es) X.env = (false, eval e X.env) :: starEach es X.env := by rfl) (hpl : (backTo pos (starEach es X.env)).any (·.1) = false := by rfl)
    (ht : eval (.Call (.Attribute o "within" apos) (e :: es) [] pos) X.env = (do
      let ov ← eval o X.env
      standAt apos.atName
      let (f, first) ← holding [ov] (getMethod ov "within" pl)
      callWith pos f first (backTo pos (starEach (e :: es) X.env)) (backToKw pos (keywordEach [] X.env))) := by rfl) : PE X (.Call (.Attribute o "within" apos) (e :: es) [] pos) (tMeth C "within" (sp_within X.K C) [] E0 ta t) := by
  obtain ⟨g, fd, h1, F, hb⟩ := M.within_
  exact pe_meth he M.cls h1 F hr hb .nil pass0 ha hst hpl ht
end
end Sc
namespace Sc
open PySem PySem.Spec PyProof.Rows L2
theorem wk_ps {X : Cx} {st : Stmt} {t : TS} (t' : TS) (h : PS X st t) (w : ∀ D σ H, t' D σ H → t D σ H) : PS X st t' := ⟨fun pins s σ H D I x => h.run pins s σ H D I (w D σ H x)⟩
/-! ### rules as data -/
inductive All2 {α β : Type} (R : α → β → Prop) : List α → List β → Prop where
  | nil : All2 R [] []
  | cons {a : α} {b : β} {as : List α} {bs : List β} (h : R a b) (t : All2 R as bs) : All2 R (a :: as) (b :: bs)
namespace All2
variable {α β : Type} {R S : α → β → Prop} {as as' : List α} {bs bs' : List β}
theorem len (h : All2 R as bs) : as.length = bs.length := by
  induction h with
  | nil => rfl
  | cons _ _ ih => rw [List.length_cons, List.length_cons, ih]
theorem mono (h : All2 R as bs) (f : ∀ a b, R a b → S a b) : All2 S as bs := by
  induction h with
  | nil => exact .nil
  | cons h _ ih => exact .cons (f _ _ h) ih
theorem monoM (h : All2 R as bs) (f : ∀ a b, b ∈ bs → R a b → S a b) : All2 S as bs := by
  induction h with
  | nil => exact .nil
  | cons h _ ih => exact .cons (f _ _ List.mem_cons_self h) (ih fun a b m => f a b (List.mem_cons_of_mem _ m))
theorem app (h : All2 R as bs) (k : All2 R as' bs') : All2 R (as ++ as') (bs ++ bs') := by
  induction h with
  | nil => exact k
  | cons h _ ih => exact .cons h ih
theorem one {a : α} {b : β} (h : R a b) : All2 R [a] [b] := .cons h .nil
theorem snoc {a : α} {b : β} (h : All2 R as bs) (r : R a b) : All2 R (as ++ [a]) (bs ++ [b]) := h.app (one r)
theorem get (h : All2 R as bs) : ∀ {i : Nat} {a : α}, as[i]? = some a → ∃ b, bs[i]? = some b ∧ R a b := by
  induction h with
  | nil => intro i a e; cases i <;> cases e
  | cons h _ ih =>
    intro i a e
    cases i with
    | zero => cases e; exact ⟨_, rfl, h⟩
    | succ i => exact ih e
theorem get' (h : All2 R as bs) : ∀ {i : Nat} {b : β}, bs[i]? = some b → ∃ a, as[i]? = some a ∧ R a b := by
  induction h with
  | nil => intro i a e; cases i <;> cases e
  | cons h _ ih =>
    intro i a e
    cases i with
    | zero => cases e; exact ⟨_, rfl, h⟩
    | succ i => exact ih e
theorem at' (h : All2 R as bs) {i : Nat} (hi : i < bs.length) : ∃ a, as[i]? = some a ∧ R a bs[i] := h.get' (List.getElem?_eq_getElem hi)
end All2
/-- a row of rules, each with its exceptions -/
inductive RF where
  | nil : RF
  | cons (nm : Str) (hs fs : List Str) (rl : Str) (exc rest : RF) : RF
structure Nd where
  nm : Str
  hs : List Str
  fs : List Str
  rl : Str
  exc : RF
namespace RF
def nodes : RF → List Nd
  | .nil => []
  | .cons nm hs fs rl exc rest => ⟨nm, hs, fs, rl, exc⟩ :: rest.nodes
def dep : RF → Nat
  | .nil => 0
  | .cons _ _ _ _ exc rest => max (exc.dep + 1) rest.dep
def size : RF → Nat
  | .nil => 0
  | .cons _ _ _ _ exc rest => exc.size + 1 + rest.size
/-- all rules by their numbers, and within how many they stand -/
def pre : RF → Nat → List (Nd × Nat)
  | .nil, _ => []
  | .cons nm hs fs rl exc rest, k => (⟨nm, hs, fs, rl, exc⟩, k) :: (exc.pre (k + 1) ++ rest.pre k)
def ofNodes : List Nd → RF
  | [] => .nil
  | n :: r => .cons n.nm n.hs n.fs n.rl n.exc (ofNodes r)
theorem nodes_of : ∀ ns : List Nd, (ofNodes ns).nodes = ns
  | [] => rfl
  | n :: r => by show n :: (ofNodes r).nodes = n :: r; rw [nodes_of r]
theorem of_nodes : ∀ f : RF, ofNodes f.nodes = f
  | .nil => rfl
  | .cons nm hs fs rl exc rest => by show RF.cons nm hs fs rl exc (ofNodes rest.nodes) = _; rw [of_nodes rest]
theorem pre_nodes : ∀ (f : RF) (k : Nat), f.pre k = f.nodes.flatMap fun n => (n, k) :: n.exc.pre (k + 1)
  | .nil, _ => rfl
  | .cons nm hs fs rl exc rest, k => by
    show (_, k) :: (exc.pre (k + 1) ++ rest.pre k) = _
    rw [pre_nodes rest k]
    rfl
theorem pre_len : ∀ (f : RF) (k : Nat), (f.pre k).length = f.size
  | .nil, _ => rfl
  | .cons nm hs fs rl exc rest, k => by
    show ((_, k) :: (exc.pre (k + 1) ++ rest.pre k)).length = exc.size + 1 + rest.size
    rw [List.length_cons, List.length_append, pre_len exc, pre_len rest]
    omega
theorem dep_nil : ∀ f : RF, f.dep = 0 → f = .nil
  | .nil, _ => rfl
  | .cons _ _ _ _ exc rest, h => by
    have h : max (exc.dep + 1) rest.dep = 0 := h
    omega
theorem dep_mem : ∀ (f : RF) (n : Nd), n ∈ f.nodes → n.exc.dep + 1 ≤ f.dep
  | .nil, n, h => nomatch h
  | .cons nm hs fs rl exc rest, n, h => by
    show _ ≤ max (exc.dep + 1) rest.dep
    rcases List.mem_cons.mp h with rfl | h
    · exact Nat.le_max_left _ _
    · exact Nat.le_trans (dep_mem rest n h) (Nat.le_max_right _ _)
theorem dep_le : ∀ (f : RF) (d : Nat), (∀ n ∈ f.nodes, n.exc.dep + 1 ≤ d) → f.dep ≤ d
  | .nil, d, _ => Nat.zero_le d
  | .cons nm hs fs rl exc rest, d, h => by
    show max (exc.dep + 1) rest.dep ≤ d
    exact Nat.max_le.mpr ⟨h _ List.mem_cons_self, dep_le rest d fun n m => h n (List.mem_cons_of_mem _ m)⟩
theorem size_mem : ∀ (f : RF) (n : Nd), n ∈ f.nodes → n.exc.size + 1 ≤ f.size
  | .nil, n, h => nomatch h
  | .cons nm hs fs rl exc rest, n, h => by
    show _ ≤ exc.size + 1 + rest.size
    rcases List.mem_cons.mp h with rfl | h
    · show exc.size + 1 ≤ _
      omega
    · have := size_mem rest n h
      omega
theorem nodes_le : ∀ f : RF, f.nodes.length ≤ f.size
  | .nil => Nat.le_refl 0
  | .cons nm hs fs rl exc rest => by
    show rest.nodes.length + 1 ≤ exc.size + 1 + rest.size
    have := nodes_le rest
    omega
/-- the names of all rules, by their numbers -/
def names (f : RF) : List Str := (f.pre 0).map fun p => p.1.nm
theorem pre_names : ∀ (f : RF) (k : Nat), (f.pre k).map (fun p => p.1.nm) = f.names
  | .nil, _ => rfl
  | .cons nm hs fs rl exc rest, k => by
    unfold names
    show nm :: ((exc.pre (k + 1) ++ rest.pre k).map fun p => p.1.nm) = nm :: ((exc.pre (0 + 1) ++ rest.pre 0).map fun p => p.1.nm)
    rw [List.map_append, List.map_append, pre_names exc, pre_names exc, pre_names rest, pre_names rest]
/-- the first rules of a row, with their exceptions, by their numbers -/
def preL (ns : List Nd) (k : Nat) : List (Nd × Nat) := ns.flatMap fun n => (n, k) :: n.exc.pre (k + 1)
theorem preL_more {f : RF} {i k : Nat} {n : Nd} (h : f.nodes[i]? = some n) : preL (f.nodes.take (i + 1)) k = preL (f.nodes.take i) k ++ ((n, k) :: n.exc.pre (k + 1)) := by
  unfold preL
  rw [take_more h, List.flatMap_append]
  simp
theorem preL_all {f : RF} {k : Nat} : preL (f.nodes.take f.nodes.length) k = f.pre k := by
  rw [List.take_length, pre_nodes]
  rfl
theorem preL_len {f : RF} {i k : Nat} : (preL (f.nodes.take i) k).length ≤ f.size := by
  have e : preL f.nodes k = preL (f.nodes.take i) k ++ preL (f.nodes.drop i) k := by
    unfold preL
    rw [← List.flatMap_append, List.take_append_drop]
  have e2 : (preL f.nodes k).length = f.size := by
    rw [← pre_len f k, pre_nodes]
    rfl
  rw [← e2, e, List.length_append]
  exact Nat.le_add_right _ _
end RF
/-! ### where they stand -/
/-- an object that is made, to its last field -/
def DoneF (fs : List (Str × V)) : Bool := (fs.lookup ("_inside" : Str)).isSome || ((fs.lookup ("_names" : Str)).isSome || (fs.lookup ("_numbered" : Str)).isSome)
/-- what steps that change only lists of the law's own, or an object that is being made, leave as it is -/
def Stays (N : Addr → Prop) (b : Addr) (o : HO) : Prop := (∀ xs, o = .lst xs → N b) ∧ (∀ C dx fs, o = .ins C dx fs → DoneF fs = true) ∧ ∀ ps, o ≠ .tbl ps
def Keeps (N : Addr → Prop) (H H' : Hp) : Prop := ∀ b o, Stays N b o → H b = some o → H' b = some o
section
variable {K : PySem.W.Frag} {C R : Addr} {N : Addr → Prop} {H H' H'' : Hp}
theorem _root_.L2.Same.keeps (s : Same H H') : Keeps N H H' := fun b o _ e => s b o e
theorem Keeps.trans (h : Keeps N H H') (k : Keeps N H' H'') : Keeps N H H'' := fun b o st e => k b o st (h b o st e)
theorem Kp.keeps {a l : Addr} (k : Kp a l H H') (na : ¬ N a) (nl : ¬ N l) : Keeps N H H' := fun b o st e => by
  by_cases z : ∃ xs, o = .lst xs
  · obtain ⟨xs, rfl⟩ := z
    have := st.1 xs rfl
    exact k.keep b _ (fun z => na (z ▸ this)) (fun z => nl (z ▸ this)) e
  · exact k.obj e fun xs z2 => z ⟨xs, z2⟩
theorem SameX.keeps {x dx : Addr} {fs : List (Str × V)} (s : SameX x H H') (e : H x = some (.ins R dx fs)) (n : DoneF fs = false := by rfl) : Keeps N H H' := fun b o st h => s b o (fun z => by rw [z, e] at h; exact Bool.noConfusion (n.symm.trans (st.2.1 R dx fs (Option.some.inj h).symm))) h
/-- an object that is being made changes -/
theorem keeps_make {x dx : Addr} {fs : List (Str × V)} {o : HO} (e : H x = some (.ins R dx fs)) (n : DoneF fs = false := by rfl) : Keeps N H (upd H x o) := SameX.keeps (fun b o' ne h => by rw [upd_ne ne]; exact h) e n
theorem stays_tup {b : Addr} {xs : List V} : Stays N b (.tup xs) := ⟨(fun _ z => nomatch z), (fun _ _ _ z => nomatch z), (fun _ z => nomatch z)⟩
theorem stays_ins {b C dx : Addr} {fs : List (Str × V)} (h : DoneF fs = true := by rfl) : Stays N b (.ins C dx fs) := ⟨(fun _ z => nomatch z), (fun _ _ _ z => by cases z; exact h), (fun _ z => nomatch z)⟩
theorem stays_lst {b : Addr} {xs : List V} (h : N b) : Stays N b (.lst xs) := ⟨(fun _ _ => h), (fun _ _ _ z => nomatch z), (fun _ z => nomatch z)⟩
theorem Keeps.tup {b : Addr} {xs : List V} (k : Keeps N H H') (h : SqT K H b xs) : SqT K H' b xs := by
  rcases h with (h | ⟨o, h⟩) | h
  · exact .inl (.inl (k _ _ stays_tup h))
  · exact .inl (.inr ⟨o, k _ _ ⟨(fun _ z => nomatch z), (fun _ _ _ z => nomatch z), (fun _ z => nomatch z)⟩ h⟩)
  · exact .inr h
theorem CondAt.keeps {o : Addr} {hs fs : List Str} (h : CondAt K C H o hs fs) (k : Keeps N H H') : CondAt K C H' o hs fs := by
  obtain ⟨dx, a, b, n, zs, h1, h2, h3, h4, h5⟩ := h.at_
  exact ⟨dx, a, b, n, zs, k _ _ stays_ins h1, k.tup h2, k.tup h3, k _ _ stays_tup h4, h5⟩
/-- the fields of a rule -/
def ruleF (nm : Str) (c : Addr) (rl : Str) (p : Addr) (d : Int) (l : Addr) : List (Str × V) :=
  putF "_inside" (.ref l) (putF "_depth" (.int d) (putF "_exceptions" (.ref p) (putF "_ruling" (.str rl) (putF "_condition" (.ref c) (putF "_name" (.str nm) [])))))
def ForAt (K : PySem.W.Frag) (C R : Addr) (N : Addr → Prop) (H : Hp) : RF → List V → Prop
  | .nil, vs => vs = []
  | .cons nm hs fs rl exc rest, vs => ∃ (o dx c p l : Addr) (ws vs' : List V), vs = .ref o :: vs' ∧ H o = some (.ins R dx (ruleF nm c rl p ((exc.dep + 1 : Nat) : Int) l)) ∧ CondAt K C H c hs fs ∧ SqT K H p ws ∧ (N l ∧ H l = some (.lst ((nm :: exc.names).map V.str))) ∧
      ForAt K C R N H exc ws ∧ ForAt K C R N H rest vs'
def NdAt (K : PySem.W.Frag) (C R : Addr) (N : Addr → Prop) (H : Hp) (o : Addr) (n : Nd) : Prop := ∃ (dx c p l : Addr) (ws : List V), H o = some (.ins R dx (ruleF n.nm c n.rl p ((n.exc.dep + 1 : Nat) : Int) l)) ∧ CondAt K C H c n.hs n.fs ∧ SqT K H p ws ∧ (N l ∧ H l = some (.lst ((n.nm :: n.exc.names).map V.str))) ∧ ForAt K C R N H n.exc ws
def RefAt (K : PySem.W.Frag) (C R : Addr) (N : Addr → Prop) (H : Hp) (v : V) (n : Nd) : Prop := ∃ o, v = .ref o ∧ NdAt K C R N H o n
theorem stays_rule {b : Addr} {dx c p l : Addr} {nm rl : Str} {d : Int} : Stays N b (.ins R dx (ruleF nm c rl p d l)) := stays_ins
theorem ForAt.keeps (k : Keeps N H H') : ∀ {f : RF} {vs : List V}, ForAt K C R N H f vs → ForAt K C R N H' f vs
  | .nil, _, h => h
  | .cons nm hs fs rl exc rest, vs, h => by
    obtain ⟨o, dx, c, p, l, ws, vs', e, h1, h2, h3, ⟨h4, h5⟩, h6, h7⟩ := h
    exact ⟨o, dx, c, p, l, ws, vs', e, k _ _ stays_rule h1, h2.keeps k, k.tup h3, ⟨h4, k _ _ (stays_lst h4) h5⟩, ForAt.keeps k h6, ForAt.keeps k h7⟩
theorem NdAt.keeps {o : Addr} {n : Nd} (h : NdAt K C R N H o n) (k : Keeps N H H') : NdAt K C R N H' o n := by
  obtain ⟨dx, c, p, l, ws, h1, h2, h3, ⟨h4, h5⟩, h6⟩ := h
  exact ⟨dx, c, p, l, ws, k _ _ stays_rule h1, h2.keeps k, k.tup h3, ⟨h4, k _ _ (stays_lst h4) h5⟩, h6.keeps k⟩
theorem RefAt.keeps {v : V} {n : Nd} (h : RefAt K C R N H v n) (k : Keeps N H H') : RefAt K C R N H' v n := by
  obtain ⟨o, e, h⟩ := h
  exact ⟨o, e, h.keeps k⟩
theorem ForAt.all : ∀ {f : RF} {vs : List V}, ForAt K C R N H f vs → All2 (RefAt K C R N H) vs f.nodes
  | .nil, _, h => by
    obtain rfl : _ = [] := h
    exact .nil
  | .cons nm hs fs rl exc rest, vs, h => by
    obtain ⟨o, dx, c, p, l, ws, vs', rfl, h1, h2, h3, h4, h6, h7⟩ := h
    exact .cons ⟨o, rfl, dx, c, p, l, ws, h1, h2, h3, h4, h6⟩ h7.all
theorem ForAt.of : ∀ {f : RF} {vs : List V}, All2 (RefAt K C R N H) vs f.nodes → ForAt K C R N H f vs
  | .nil, _, h => by
    cases h
    rfl
  | .cons nm hs fs rl exc rest, vs, h => by
    cases h with
    | cons h t =>
      obtain ⟨o, rfl, dx, c, p, l, ws, h1, h2, h3, h4, h6⟩ := h
      exact ⟨o, dx, c, p, l, ws, _, rfl, h1, h2, h3, h4, h6, ForAt.of t⟩
theorem ForAt.len {f : RF} {vs : List V} (h : ForAt K C R N H f vs) : vs.length = f.nodes.length := h.all.len
theorem ForAt.re {M : Addr → Prop} (g : ∀ b xs, N b → H b = some (.lst xs) → M b) : ∀ {f : RF} {vs : List V}, ForAt K C R N H f vs → ForAt K C R M H f vs
  | .nil, _, h => h
  | .cons nm hs fs rl exc rest, vs, h => by
    obtain ⟨o, dx, c, p, l, ws, vs', e, h1, h2, h3, ⟨h4, h5⟩, h6, h7⟩ := h
    exact ⟨o, dx, c, p, l, ws, vs', e, h1, h2, h3, ⟨g _ _ h4 h5, h5⟩, ForAt.re g h6, ForAt.re g h7⟩
theorem NdAt.re {M : Addr → Prop} (g : ∀ b xs, N b → H b = some (.lst xs) → M b) {o : Addr} {n : Nd} (h : NdAt K C R N H o n) : NdAt K C R M H o n := by
  obtain ⟨dx, c, p, l, ws, h1, h2, h3, ⟨h4, h5⟩, h6⟩ := h
  exact ⟨dx, c, p, l, ws, h1, h2, h3, ⟨g _ _ h4 h5, h5⟩, h6.re g⟩
/-- the addresses of N that are in use -/
def Used (N : Addr → Prop) (H : Hp) (b : Addr) : Prop := N b ∧ H b ≠ none
theorem ForAt.used {f : RF} {vs : List V} (h : ForAt K C R N H f vs) : ForAt K C R (Used N H) H f vs := h.re fun b xs n e => ⟨n, by rw [e]; exact fun z => nomatch z⟩
theorem used_not {D : Addr} (n : H D = none) : ¬ Used N H D := fun h => h.2 n
theorem SameX.keeps' {D : Addr} (s : SameX D H H') (n : ¬ N D) (z : ∀ o, H D = some o → ∃ xs, o = .lst xs) : Keeps N H H' := fun b o st h => s b o (fun e => by
  subst e
  obtain ⟨xs, rfl⟩ := z o h
  exact n (st.1 xs rfl)) h
/-- a list of one's own changes -/
theorem keeps_own {D : Addr} {xs : List V} {o : HO} (e : H D = some (.lst xs)) (n : ¬ N D) : Keeps N H (upd H D o) := SameX.keeps' (fun b o' ne h => by rw [upd_ne ne]; exact h) n fun o' h => by rw [e] at h; exact ⟨xs, (Option.some.inj h).symm⟩
/-- a list of tuples (rule, number of rules around) -/
def PairAt (K : PySem.W.Frag) (C R : Addr) (N : Addr → Prop) (H : Hp) (v : V) (n : Nd × Nat) : Prop := ∃ (t o : Addr), v = .ref t ∧ H t = some (.tup [.ref o, .int (n.2 : Nat)]) ∧ NdAt K C R N H o n.1
theorem PairAt.keeps {v : V} {n : Nd × Nat} (h : PairAt K C R N H v n) (k : Keeps N H H') : PairAt K C R N H' v n := by
  obtain ⟨t, o, e, h1, h2⟩ := h
  exact ⟨t, o, e, k _ _ stays_tup h1, h2.keeps k⟩
theorem PairAt.re {M : Addr → Prop} (g : ∀ b xs, N b → H b = some (.lst xs) → M b) {v : V} {n : Nd × Nat} (h : PairAt K C R N H v n) : PairAt K C R M H v n := by
  obtain ⟨t, o, e, h1, h2⟩ := h
  exact ⟨t, o, e, h1, h2.re g⟩
abbrev PreAt (K : PySem.W.Frag) (C R : Addr) (N : Addr → Prop) (H : Hp) (us : List V) (ps : List (Nd × Nat)) : Prop := All2 (PairAt K C R N H) us ps
theorem PreAt.keeps {us : List V} {ps : List (Nd × Nat)} (h : PreAt K C R N H us ps) (k : Keeps N H H') : PreAt K C R N H' us ps := h.mono fun _ _ x => x.keeps k
/-! ### the law's rows: tuples -/
def RowsAt (K : PySem.W.Frag) (H : Hp) : RF → List V → Prop
  | .nil, vs => vs = []
  | .cons nm hs fs rl exc rest, vs => ∃ (o w b p : Addr) (ws vs' : List V), vs = .ref o :: vs' ∧ SqT K H o [.str nm, .ref w, .ref b, .str rl, .ref p] ∧ SqT K H w (hs.map V.str) ∧ SqT K H b (fs.map V.str) ∧ SqT K H p ws ∧ RowsAt K H exc ws ∧ RowsAt K H rest vs'
def RowAt (K : PySem.W.Frag) (H : Hp) (v : V) (n : Nd) : Prop := ∃ (o w b p : Addr) (ws : List V), v = .ref o ∧ SqT K H o [.str n.nm, .ref w, .ref b, .str n.rl, .ref p] ∧ SqT K H w (n.hs.map V.str) ∧ SqT K H b (n.fs.map V.str) ∧ SqT K H p ws ∧ RowsAt K H n.exc ws
theorem RowsAt.keeps (k : Keeps N H H') : ∀ {f : RF} {vs : List V}, RowsAt K H f vs → RowsAt K H' f vs
  | .nil, _, h => h
  | .cons nm hs fs rl exc rest, vs, h => by
    obtain ⟨o, w, b, p, ws, vs', e, h1, h2, h3, h4, h6, h7⟩ := h
    exact ⟨o, w, b, p, ws, vs', e, k.tup h1, k.tup h2, k.tup h3, k.tup h4, RowsAt.keeps k h6, RowsAt.keeps k h7⟩
theorem RowAt.keeps {v : V} {n : Nd} (h : RowAt K H v n) (k : Keeps N H H') : RowAt K H' v n := by
  obtain ⟨o, w, b, p, ws, e, h1, h2, h3, h4, h6⟩ := h
  exact ⟨o, w, b, p, ws, e, k.tup h1, k.tup h2, k.tup h3, k.tup h4, h6.keeps k⟩
theorem RowsAt.all : ∀ {f : RF} {vs : List V}, RowsAt K H f vs → All2 (RowAt K H) vs f.nodes
  | .nil, _, h => by
    obtain rfl : _ = [] := h
    exact .nil
  | .cons nm hs fs rl exc rest, vs, h => by
    obtain ⟨o, w, b, p, ws, vs', rfl, h1, h2, h3, h4, h6, h7⟩ := h
    exact .cons ⟨o, w, b, p, ws, rfl, h1, h2, h3, h4, h6⟩ h7.all
theorem RowsAt.of : ∀ {f : RF} {vs : List V}, All2 (RowAt K H) vs f.nodes → RowsAt K H f vs
  | .nil, _, h => by
    cases h
    rfl
  | .cons nm hs fs rl exc rest, vs, h => by
    cases h with
    | cons h t =>
      obtain ⟨o, w, b, p, ws, rfl, h1, h2, h3, h4, h6⟩ := h
      exact ⟨o, w, b, p, ws, _, rfl, h1, h2, h3, h4, h6, RowsAt.of t⟩
theorem RowsAt.len {f : RF} {vs : List V} (h : RowsAt K H f vs) : vs.length = f.nodes.length := h.all.len
end
end Sc
namespace Sc
open PySem PySem.Spec PyProof.Rows L2
/-! ### rules -/
/-- a getter as its users see it -/
abbrev PropX (P : Program) (w : World) (K : PySem.W.Frag) (mg : Str → Option Value) (base : Heap) (C : Addr) (n f : Str) : Prop := ∃ p g fd, PropC P w K mg base C p g fd n f
/-- the class Rule as its users see it -/
structure RuleX (P : Program) (w : World) (K : PySem.W.Frag) (mg : Str → Option Value) (base : Heap) (R : Addr) : Prop where
  cls : Cls K R
  name : PropX P w K mg base R "name" "_name"
  condition : PropX P w K mg base R "condition" "_condition"
  ruling : PropX P w K mg base R "ruling" "_ruling"
  exceptions : PropX P w K mg base R "exceptions" "_exceptions"
  depth : PropX P w K mg base R "depth" "_depth"
/-- the getters of a condition -/
structure CondG (P : Program) (w : World) (K : PySem.W.Frag) (mg : Str → Option Value) (base : Heap) (C : Addr) : Prop where
  cls : Cls K C
  holding : PropX P w K mg base C "holding" "_holding"
  failing : PropX P w K mg base C "failing" "_failing"
  names : PropX P w K mg base C "names" "_names"
def Below (S : Nat → Sp) : Nat → Sp
  | 0 => fun _ _ _ _ => False
  | d + 1 => S d
theorem sc_nested : FnScope ["rules", "around", "found", "rule"] ["rules", "around"] (defScope s_nested) := ⟨rfl, rfl, rfl, by decide +kernel, rfl, by decide +kernel, by decide +kernel⟩
section
variable {P : Program} {w : World} {K : PySem.W.Frag} {mg : Str → Option Value} {base : Heap} {C R : Addr}
theorem FnOk.never {CX : CXT} {k : Nat} {f : Addr} {fd : FuncData} {ps : List Str} : FnOk P w K mg base CX k f fd ps (fun _ _ _ _ => False) := ⟨fun _ _ _ _ h => h.elim, fun _ _ _ _ _ _ _ _ _ _ _ _ _ h => h.elim⟩
def sp_nested (K : PySem.W.Frag) (C R : Addr) (d : Nat) : Sp := fun vs H Q _ => ∃ (N : Addr → Prop) (p : Addr) (k : Nat) (ws : List V) (f : RF), vs = [.ref p, .int (k : Nat)] ∧ SqT K H p ws ∧ ForAt K C R N H f ws ∧ f.dep ≤ d ∧ f.size ≤ 900 ∧
  ∀ H' D us, Same H H' → H D = none → H' D = some (.lst us) → PreAt K C R N H' us (f.pre k) → Q (.ref D) H'
theorem ok_nested {d : Nat} {f : Addr} {fd : FuncData} (F : Fun K "nested" "nested" s_nested f fd) (kR : RuleX P w K mg base R) (c_nested : Cal P w K mg base CX0 (d + 2) "nested" ["rules", "around"] (Below (sp_nested K C R) d)) :
    FnOk P w K mg base CX0 (d + 3) f fd ["rules", "around"] (sp_nested K C R d) := by
  refine F.ok sc_nested (fun vs H Q E h => by obtain ⟨N, p, k, ws, f, rfl, _⟩ := h; rfl) (fun cdv A outer s H vs Q E hr h => ?_)
  obtain ⟨N, p, k, ws, f, rfl, hP, hF, hd, hz, q⟩ := h
  have hA := hF.used.all
  have hln := hA.len
  have hlz := RF.nodes_le f
  refine ⟨_, (pss_cons (ps_set (i := 2) sc_nested.nd rfl (Or.inl rfl) (pe_lst pa_nil))
      (pss_cons (ps_for PassesOwn.never rfl (pi_tup (pv 0)) (pg_name (i := 3) sc_nested.nd rfl (Or.inl rfl)) (pss_cons (ps_expr (pe_bm PySem.F.plainAttrs_list PySem.F.slot_list_append PySem.F.type_list_append mt_append (pv 2) (pa_cons (pe_tup (pa_cons (pv 3) (pa_cons (pv 1) pa_nil))) pa_nil)))
      (pss_one (ps_expr (pe_bm PySem.F.plainAttrs_list PySem.F.slot_list_extend PySem.F.type_list_extend mt_extend (pv 2) (pa_cons (pe_cal c_nested hr (pa_cons (pe_cprop kR.exceptions kR.cls (hr.mono (by omega)) (pv 3)) (pa_cons (pe_op op_add (pv 1) pe_int) pa_nil))) pa_nil))))))
      (pss_one (ps_ret (pv 2))))), ?_⟩
  refine ⟨Nat.zero_le _, fun D nD => ⟨_, rfl, p, rfl, ⟨_, ((Same.refl H).put nD).tup hP⟩, for_it walk_tup (fun i σ H' => ∃ us y, σ = [some (.ref p), some (.int (k : Nat)), some (.ref D), y] ∧ Same H H' ∧ H' D = some (.lst us) ∧ PreAt K C R (Used N H) H' us (RF.preL (f.nodes.take i) k))
    ⟨[], none, rfl, (Same.refl H).put nD, upd_same, .nil⟩ (fun _ _ _ _ ⟨_, _, _, s, _⟩ => s.tup hP) ?_ ?_⟩⟩
  · rintro i y σ H3 H2 hi ⟨us, y', rfl, s, e, hu⟩ ⟨rfl, hy⟩
    have nU := used_not (N := N) nD
    obtain ⟨n, hn, o, rfl, hN⟩ := hA.get hy
    have hmem : n ∈ f.nodes := List.mem_of_getElem? hn
    have hdm := RF.dep_mem f n hmem
    have hsm := RF.size_mem f n hmem
    obtain ⟨d, rfl⟩ : ∃ d', d = d' + 1 := ⟨d - 1, by omega⟩
    have hul := hu.len
    have hpl := RF.preL_len (f := f) (i := i) (k := k)
    have hpl2 := RF.preL_len (f := f) (i := i + 1) (k := k)
    rw [RF.preL_more hn, List.length_append, List.length_cons, RF.pre_len] at hpl2
    refine ⟨_, rfl, .inl ⟨rfl, _, sqL_of e⟩, _, rfl, _, rfl, (by show 2 ≤ sizeLine; decide), fun t nt => ?_⟩
    have s3 := s.put' (o := .tup [.ref o, .int (k : Nat)]) nt
    have e3 : (upd H2 t (.tup [.ref o, .int (k : Nat)])) D = some (.lst us) := by rw [upd_ne (ne_of_none e nt)]; exact e
    have t3 : (upd H2 t (.tup [.ref o, .int (k : Nat)])) t = some (.tup [.ref o, .int (k : Nat)]) := upd_same
    have s23 : Same H2 (upd H2 t (.tup [.ref o, .int (k : Nat)])) := (Same.refl H2).put nt
    have hu3 := hu.keeps s23.keeps
    clear s23
    generalize upd H2 t (.tup [.ref o, .int (k : Nat)]) = H3 at s3 e3 t3 hu3 ⊢
    refine ⟨D, _, _, rfl, rfl, e3, small1000 (by omega), ?_⟩
    have s4 : Same H (upd H3 D (.lst (us ++ [.ref t]))) := s3.put nD
    have e4 : (upd H3 D (.lst (us ++ [.ref t]))) D = some (.lst (us ++ [.ref t])) := upd_same
    have tD : t ≠ D := fun z => by rw [z, e3] at t3; cases t3
    have hu4 : PreAt K C R (Used N H) (upd H3 D (.lst (us ++ [.ref t]))) (us ++ [.ref t]) (RF.preL (f.nodes.take i) k ++ [(n, k)]) :=
      (hu3.keeps (keeps_own e3 nU)).snoc ⟨t, o, rfl, by rw [upd_ne tD]; exact t3, hN.keeps s4.keeps⟩
    generalize upd H3 D (.lst (us ++ [.ref t])) = H4 at s4 e4 hu4 ⊢
    obtain ⟨dx, c, pe, l, ws', ho, hc, hpe, hl, hfe⟩ := hN
    refine ⟨_, rfl, .inl ⟨rfl, _, sqL_of e4⟩, _, rfl, o, dx, _, rfl, s4 _ _ ho, ⟨o, dx, _, _, rfl, s4 _ _ ho, rfl, ?_⟩⟩
    refine ⟨_, rfl, k, 1, rfl, rfl, ?_⟩
    refine ⟨_, pe, k + 1, ws', n.exc, rfl, s4.tup hpe, hfe.keeps s4.keeps, by omega, by omega, fun H5 D5 us5 s5 n5 e5 hu5 => ?_⟩
    have s45 := s4.trans s5
    have e45 := s5 _ _ e4
    refine ⟨D, D5, _, _, rfl, rfl, e45, e5, ?_, ?_⟩
    · have := hu5.len
      rw [RF.pre_len] at this
      have h4 := hu4.len
      rw [List.length_append (bs := [(n, k)]), List.length_singleton] at h4
      exact Nat.le_of_lt (small1000 (by omega))
    refine ⟨_, _, rfl, s45.put nD, upd_same, ?_⟩
    rw [RF.preL_more hn]
    have h1 := (hu4.keeps s5.keeps).app hu5
    have h2 := PreAt.keeps h1 (keeps_own (o := .lst (us ++ [.ref t] ++ us5)) e45 nU)
    rw [show RF.preL (f.nodes.take i) k ++ [(n, k)] ++ n.exc.pre (k + 1) = RF.preL (f.nodes.take i) k ++ ((n, k) :: n.exc.pre (k + 1)) by simp] at h2
    exact h2
  · rintro σ H2 ⟨us, y, rfl, s, e, hu⟩
    rw [hln, RF.preL_all] at hu
    exact ⟨_, rfl, q H2 D us s nD e (hu.mono fun _ _ x => x.re fun b xs h _ => h.1)⟩
end
end Sc
namespace Sc
open PySem PySem.Spec PyProof.Rows L2
/-! ### an object Rule -/
theorem sc_Rule___init__ : FnScope ["self", "name", "condition", "ruling", "exceptions", "rule", "_"] ["self", "name", "condition", "ruling", "exceptions"] (defScope s_Rule___init__) := ⟨rfl, rfl, rfl, by decide +kernel, rfl, by decide +kernel, by decide +kernel⟩
theorem sc_Rule_name : FnScope ["self"] ["self"] (defScope s_Rule_name) := ⟨rfl, rfl, rfl, by decide +kernel, rfl, by decide +kernel, by decide +kernel⟩
theorem sc_Rule_condition : FnScope ["self"] ["self"] (defScope s_Rule_condition) := ⟨rfl, rfl, rfl, by decide +kernel, rfl, by decide +kernel, by decide +kernel⟩
theorem sc_Rule_ruling : FnScope ["self"] ["self"] (defScope s_Rule_ruling) := ⟨rfl, rfl, rfl, by decide +kernel, rfl, by decide +kernel, by decide +kernel⟩
theorem sc_Rule_exceptions : FnScope ["self"] ["self"] (defScope s_Rule_exceptions) := ⟨rfl, rfl, rfl, by decide +kernel, rfl, by decide +kernel, by decide +kernel⟩
theorem sc_Rule_depth : FnScope ["self"] ["self"] (defScope s_Rule_depth) := ⟨rfl, rfl, rfl, by decide +kernel, rfl, by decide +kernel, by decide +kernel⟩
section
variable {P : Program} {w : World} {K : PySem.W.Frag} {mg : Str → Option Value} {base : Heap} {C R CR : Addr}
theorem ok_Rule_name {f : Addr} {fd : FuncData} (F : Fun K "name" "Rule.name" s_Rule_name f fd) (T : Cls K R) (n : NoAttr K R "_name") : FnOk P w K mg base CX0 1 f fd ["self"] (sp_prop R "_name") := by
  refine F.ok sc_Rule_name (fun vs H Q E h => by obtain ⟨x, dx, fs, v, rfl, _⟩ := h; rfl) (fun cdv A outer s H vs Q E hr h => ?_)
  obtain ⟨x, dx, fs, v, rfl, hx, hl, q⟩ := h
  exact ⟨_, (pss_one (ps_ret (pe_fld (pv 0) rfl))), ⟨_, rfl, x, R, dx, fs, v, rfl, hx, T, n, hl, q⟩⟩
theorem ok_Rule_condition {f : Addr} {fd : FuncData} (F : Fun K "condition" "Rule.condition" s_Rule_condition f fd) (T : Cls K R) (n : NoAttr K R "_condition") : FnOk P w K mg base CX0 1 f fd ["self"] (sp_prop R "_condition") := by
  refine F.ok sc_Rule_condition (fun vs H Q E h => by obtain ⟨x, dx, fs, v, rfl, _⟩ := h; rfl) (fun cdv A outer s H vs Q E hr h => ?_)
  obtain ⟨x, dx, fs, v, rfl, hx, hl, q⟩ := h
  exact ⟨_, (pss_one (ps_ret (pe_fld (pv 0) rfl))), ⟨_, rfl, x, R, dx, fs, v, rfl, hx, T, n, hl, q⟩⟩
theorem ok_Rule_ruling {f : Addr} {fd : FuncData} (F : Fun K "ruling" "Rule.ruling" s_Rule_ruling f fd) (T : Cls K R) (n : NoAttr K R "_ruling") : FnOk P w K mg base CX0 1 f fd ["self"] (sp_prop R "_ruling") := by
  refine F.ok sc_Rule_ruling (fun vs H Q E h => by obtain ⟨x, dx, fs, v, rfl, _⟩ := h; rfl) (fun cdv A outer s H vs Q E hr h => ?_)
  obtain ⟨x, dx, fs, v, rfl, hx, hl, q⟩ := h
  exact ⟨_, (pss_one (ps_ret (pe_fld (pv 0) rfl))), ⟨_, rfl, x, R, dx, fs, v, rfl, hx, T, n, hl, q⟩⟩
theorem ok_Rule_exceptions {f : Addr} {fd : FuncData} (F : Fun K "exceptions" "Rule.exceptions" s_Rule_exceptions f fd) (T : Cls K R) (n : NoAttr K R "_exceptions") : FnOk P w K mg base CX0 1 f fd ["self"] (sp_prop R "_exceptions") := by
  refine F.ok sc_Rule_exceptions (fun vs H Q E h => by obtain ⟨x, dx, fs, v, rfl, _⟩ := h; rfl) (fun cdv A outer s H vs Q E hr h => ?_)
  obtain ⟨x, dx, fs, v, rfl, hx, hl, q⟩ := h
  exact ⟨_, (pss_one (ps_ret (pe_fld (pv 0) rfl))), ⟨_, rfl, x, R, dx, fs, v, rfl, hx, T, n, hl, q⟩⟩
theorem ok_Rule_depth {f : Addr} {fd : FuncData} (F : Fun K "depth" "Rule.depth" s_Rule_depth f fd) (T : Cls K R) (n : NoAttr K R "_depth") : FnOk P w K mg base CX0 1 f fd ["self"] (sp_prop R "_depth") := by
  refine F.ok sc_Rule_depth (fun vs H Q E h => by obtain ⟨x, dx, fs, v, rfl, _⟩ := h; rfl) (fun cdv A outer s H vs Q E hr h => ?_)
  obtain ⟨x, dx, fs, v, rfl, hx, hl, q⟩ := h
  exact ⟨_, (pss_one (ps_ret (pe_fld (pv 0) rfl))), ⟨_, rfl, x, R, dx, fs, v, rfl, hx, T, n, hl, q⟩⟩
theorem putF_le {f : Str} {v : V} {fs : List (Str × V)} {n : Nat} (h : fs.length ≤ n) : (putF f v fs).length ≤ n + 1 := Nat.le_trans (putF_len f v fs) (Nat.succ_le_succ h)
theorem SameX.refl {x : Addr} {H : Hp} : SameX x H H := fun _ _ _ e => e
theorem SameX.put {x : Addr} {H H' : Hp} {o : HO} (s : SameX x H H') : SameX x H (upd H' x o) := fun b o' ne e => by rw [upd_ne ne]; exact s b o' ne e
theorem SameX.same {x : Addr} {H H' H'' : Hp} (s : SameX x H H') (k : Same H' H'') : SameX x H H'' := fun b o ne e => k _ _ (s b o ne e)
theorem SameX.of {x : Addr} {H H' : Hp} (k : Same H H') : SameX x H H' := fun b o _ e => k _ _ e
theorem SameX.free {x l : Addr} {H H' : Hp} (s : SameX x H H') (ne : l ≠ x) (n : H' l = none) : H l = none := by
  cases e : H l with
  | none => rfl
  | some o => rw [s l o ne e] at n; cases n
theorem dep_is {f : RF} {m : Int} (hm : m ∈ (0 : Int) :: f.nodes.map fun n => ((n.exc.dep + 1 : Nat) : Int)) (hle : ∀ y, y ∈ ((0 : Int) :: f.nodes.map fun n => ((n.exc.dep + 1 : Nat) : Int)) → y ≤ m) : m = (f.dep : Nat) := by
  have h0 := hle 0 List.mem_cons_self
  obtain ⟨k, rfl⟩ := Int.eq_ofNat_of_zero_le h0
  have h1 : f.dep ≤ k := RF.dep_le f k fun n hn => by
    have := hle _ (List.mem_cons_of_mem _ (List.mem_map.mpr ⟨n, hn, rfl⟩))
    omega
  have h2 : k ≤ f.dep := by
    rcases List.mem_cons.mp hm with h | h
    · omega
    · obtain ⟨n, hn, e⟩ := List.mem_map.mp h
      have := RF.dep_mem f n hn
      omega
  omega
def errPt (C : Addr) (w : Str) (H : Hp) (E : XK) : Prop := ∀ H' d, Same H H' → H' d = none → E (.ref C) (some d) (upd H' d (.xd [(("part" : Str), .str w)]))
def sp_rule_init (K : PySem.W.Frag) (C R CR : Addr) : Sp := fun vs H Q E => ∃ (N : Addr → Prop) (x dx c p : Addr) (nm rl : Str) (ws : List V) (exc : RF), vs = [.ref x, .str nm, .ref c, .str rl, .ref p] ∧ H x = some (.ins R dx []) ∧ SqT K H p ws ∧ ForAt K C R N H exc ws ∧ nm.length ≤ 1000 ∧ rl.length ≤ 1000 ∧ exc.dep ≤ 12 ∧ exc.size ≤ 900 ∧
  (isName nm = false → errPt CR "name" H E) ∧ (isName nm = true → (isName rl = false → errPt CR "ruling" H E) ∧ (isName rl = true →
    ∀ H' l, SameX x H H' → H' x = some (.ins R dx (ruleF nm c rl p ((exc.dep + 1 : Nat) : Int) l)) → l ≠ x → H l = none → H' l = some (.lst ((nm :: exc.names).map V.str)) → Q .non H'))
theorem ok_rule_init {f : Addr} {fd : FuncData} (F : Fun K "__init__" "Rule.__init__" s_Rule___init__ f fd) (B : Blt mg) (T : Cls K R) (n1 : NoAttr K R "_name") (n2 : NoAttr K R "_condition") (n3 : NoAttr K R "_ruling") (n4 : NoAttr K R "_exceptions") (n5 : NoAttr K R "_depth") (n6 : NoAttr K R "_inside")
    (kR : RuleX P w K mg base R) (e_InvalidRule : ErrMk P w K mg base "InvalidRule" CR ["self", "part"] (sp_init1 CR "part")) (c_is_name : Cal P w K mg base CX0 1 "is_name" ["value"] sp_is_name) (c_nested : Cal P w K mg base CX0 15 "nested" ["rules", "around"] (sp_nested K C R 12)) :
    FnOk P w K mg base (L2.CX P w) 16 f fd ["self", "name", "condition", "ruling", "exceptions"] (sp_rule_init K C R CR) := by
  refine F.okX sc_Rule___init__ (fun vs H Q E h => by obtain ⟨N, x, dx, c, p, nm, rl, ws, exc, rfl, _⟩ := h; rfl) (fun cdv A outer s H vs Q E hr h => ?_)
  obtain ⟨N, x, dx, c, p, nm, rl, ws, exc, rfl, hx, hP, hF, ln, lr, hd, hz, e1, q⟩ := h
  refine ⟨_, (pss_cons (ps_if (pt_not (pt_val (pe_cal c_is_name (hr.mono (by decide)) (pa_cons (pv 1) pa_nil)))) (pss_one (ps_raise rfl (takes_of rfl rfl rfl rfl) (pmk_err1 e_InvalidRule (hr.mono (by decide)) pe_str))) pss_nil)
      (pss_cons (ps_if (pt_not (pt_val (pe_cal c_is_name (hr.mono (by decide)) (pa_cons (pv 3) pa_nil)))) (pss_one (ps_raise rfl (takes_of rfl rfl rfl rfl) (pmk_err1 e_InvalidRule (hr.mono (by decide)) pe_str))) pss_nil)
      (pss_cons (ps_fld (pv 0) (pv 1) rfl)
      (pss_cons (ps_fld (pv 0) (pv 2) rfl)
      (pss_cons (ps_fld (pv 0) (pv 3) rfl)
      (pss_cons (ps_fld (pv 0) (pv 4) rfl)
      (pss_cons (ps_fld (pv 0) (pe_op op_add pe_int (pe_callB (cr_max rfl) (by rfl) B.b_max PyProof.Rows.boot_max (pa_cons (pe_op op_cat (pe_lst (pa_cons pe_int pa_nil)) (pe_lc (own := [("rule", 5)]) (g := gName 5) (tt := tYes) rfl sc_Rule___init__.nd (pi_tup (pv 4)) (blkOk_by (own := [("rule", 5)]) (N := ["self", "name", "condition", "ruling", "exceptions", "rule", "_"]) (sc := defScope s_Rule___init__) (by decide +kernel)) (fun _ _ _ _ _ => (pg_name (i := 5) sc_Rule___init__.nd rfl (Or.inl rfl))) (fun _ _ _ _ _ => pts_nil) (fun _ _ _ _ _ => (pe_.re (pe_cprop kR.depth kR.cls (hr.mono (by decide)) (pv 5)) (by first | (dsimp only [Cx.blk]; done) | exact rfl))))) pa_nil))) rfl)
      (pss_one (ps_fld (pv 0) (pe_op op_cat (pe_lst (pa_cons (pv 1) pa_nil)) (pe_lc (own := [("rule", 5), ("_", 6)]) (g := gTup K 2 (gCons (gName 5) (gCons (gName 6) gNil))) (tt := tYes) rfl sc_Rule___init__.nd (pi_list (pe_cal c_nested (hr.mono (by decide)) (pa_cons (pv 4) (pa_cons pe_int pa_nil)))) (blkOk_by (own := [("rule", 5), ("_", 6)]) (N := ["self", "name", "condition", "ruling", "exceptions", "rule", "_"]) (sc := defScope s_Rule___init__) (by decide +kernel)) (fun _ _ _ _ _ => (pg_tup (by rfl) (pgs_cons (pg_name (i := 5) sc_Rule___init__.nd rfl (Or.inl rfl)) (pgs_cons (pg_name (i := 6) sc_Rule___init__.nd rfl (Or.inl rfl)) pgs_nil)))) (fun _ _ _ _ _ => pts_nil) (fun _ _ _ _ _ => (pe_.re (pe_cprop kR.name kR.cls (hr.mono (by decide)) (pv 5)) (by first | (dsimp only [Cx.blk]; done) | exact rfl))))) rfl))))))))), ?_⟩
  have big : ∀ {m : Nat}, m ≤ 1000 → m ≤ sizeLine := fun {m} h => by rw [sizeLine_eq]; omega
  have fkp : ∀ wd : Str, wd.length ≤ 1000 → FOk (.str wd) := fun wd h => Nat.le_trans h (by decide)
  refine ⟨_, rfl, nm, rfl, big ln, fun H1 s1 => ⟨_, rfl, bcase (fun c1 => ?_) (fun c1 => ?_)⟩⟩
  · exact ⟨fkp "name" (by decide), fun d nd => e1 ((Bool.not_eq_true' _).mp c1) H1 d s1 nd⟩
  obtain ⟨e2, q⟩ := q ((Bool.not_eq_false' _).mp c1)
  refine ⟨_, rfl, rl, rfl, big lr, fun H2 s2 => ⟨_, rfl, bcase (fun c2 => ?_) (fun c2 => ?_)⟩⟩
  · exact ⟨fkp "ruling" (by decide), fun d nd => e2 ((Bool.not_eq_true' _).mp c2) H2 d (s1.trans s2) nd⟩
  have q := q ((Bool.not_eq_false' _).mp c2)
  have s12 := s1.trans s2
  have hx2 := s12 _ _ hx
  refine ⟨_, rfl, _, rfl, x, R, dx, _, rfl, hx2, T, n1, by decide, ?_⟩
  refine ⟨_, rfl, _, rfl, x, R, dx, _, rfl, upd_same, T, n2, Nat.lt_of_le_of_lt (putF_le (Nat.zero_le 0)) (by decide), ?_⟩
  refine ⟨_, rfl, _, rfl, x, R, dx, _, rfl, upd_same, T, n3, Nat.lt_of_le_of_lt (putF_le (putF_le (Nat.zero_le 0))) (by decide), ?_⟩
  refine ⟨_, rfl, _, rfl, x, R, dx, _, rfl, upd_same, T, n4, Nat.lt_of_le_of_lt (putF_le (putF_le (putF_le (Nat.zero_le 0)))) (by decide), ?_⟩
  have sx : SameX x H (upd (upd (upd (upd H2 x (.ins R dx (putF "_name" (.str nm) []))) x (.ins R dx (putF "_condition" (.ref c) (putF "_name" (.str nm) [])))) x (.ins R dx (putF "_ruling" (.str rl) (putF "_condition" (.ref c) (putF "_name" (.str nm) []))))) x (.ins R dx (putF "_exceptions" (.ref p) (putF "_ruling" (.str rl) (putF "_condition" (.ref c) (putF "_name" (.str nm) [])))))) := ((((SameX.of s12).put).put).put).put
  have hx6 : (upd (upd (upd (upd H2 x (.ins R dx (putF "_name" (.str nm) []))) x (.ins R dx (putF "_condition" (.ref c) (putF "_name" (.str nm) [])))) x (.ins R dx (putF "_ruling" (.str rl) (putF "_condition" (.ref c) (putF "_name" (.str nm) []))))) x (.ins R dx (putF "_exceptions" (.ref p) (putF "_ruling" (.str rl) (putF "_condition" (.ref c) (putF "_name" (.str nm) [])))))) x = some (.ins R dx (putF "_exceptions" (.ref p) (putF "_ruling" (.str rl) (putF "_condition" (.ref c) (putF "_name" (.str nm) []))))) := upd_same
  generalize upd (upd (upd (upd H2 x (.ins R dx (putF "_name" (.str nm) []))) x (.ins R dx (putF "_condition" (.ref c) (putF "_name" (.str nm) [])))) x (.ins R dx (putF "_ruling" (.str rl) (putF "_condition" (.ref c) (putF "_name" (.str nm) []))))) x (.ins R dx (putF "_exceptions" (.ref p) (putF "_ruling" (.str rl) (putF "_condition" (.ref c) (putF "_name" (.str nm) []))))) = H6 at sx hx6 ⊢
  have k6 : Keeps N H H6 := sx.keeps hx
  have hP6 := k6.tup hP
  have hF6 := hF.keeps k6
  have hA6 := hF6.all
  have hln := hA6.len
  have hlz := RF.nodes_le exc
  refine ⟨(by show 1 ≤ sizeLine; decide), fun l0 nl0 => ?_⟩
  have s0 : Same H6 (upd H6 l0 (.lst [.int 0])) := (Same.refl H6).put nl0
  have el0 : (upd H6 l0 (.lst [.int 0])) l0 = some (.lst [.int 0]) := upd_same
  generalize upd H6 l0 (.lst [.int 0]) = H7 at s0 el0 ⊢
  refine ⟨_, rfl, p, rfl, ⟨_, s0.tup hP6⟩, fun D nD => lc_it walk_tup (fun i H' => Same H7 H' ∧ H' D = some (.lst ((exc.nodes.take i).map fun n => V.int ((n.exc.dep + 1 : Nat) : Int)))) ⟨(Same.refl H7).put nD, upd_same⟩ (fun _ _ _ h => (s0.trans h.1).tup hP6) ?_ ?_⟩
  · rintro i y H8 H9 hi ⟨s, e⟩ ⟨rfl, hy⟩
    obtain ⟨n, hn, o, rfl, hN⟩ := hA6.get hy
    obtain ⟨dx', c', p', l', ws', ho, _⟩ := hN
    have ho := s _ _ (s0 _ _ ho)
    refine ⟨rfl, yes_ ⟨_, rfl, o, dx', _, rfl, ho, o, dx', _, _, rfl, ho, rfl, grow (acc := fun i => (exc.nodes.take i).map fun n => V.int ((n.exc.dep + 1 : Nat) : Int)) nD s e ?_ ?_⟩⟩
    · rw [List.length_map, List.length_take]
      exact small1000 (by omega)
    · show List.map _ _ = _
      rw [take_more hn, List.map_append]
      rfl
  rintro H8 ⟨s8, e8⟩
  rw [hln, List.take_length] at e8
  have el8 := s8 _ _ el0
  refine ⟨l0, D, _, _, rfl, rfl, el8, e8, ?_, fun l2 nl2 => ?_⟩
  · rw [List.length_map]
    exact big (by show 1 + _ ≤ _; omega)
  have s9 : Same H8 (upd H8 l2 (.lst ([V.int 0] ++ exc.nodes.map fun n => V.int ((n.exc.dep + 1 : Nat) : Int)))) := (Same.refl H8).put nl2
  have e9 : (upd H8 l2 (.lst ([V.int 0] ++ exc.nodes.map fun n => V.int ((n.exc.dep + 1 : Nat) : Int)))) l2 = some (.lst ([V.int 0] ++ exc.nodes.map fun n => V.int ((n.exc.dep + 1 : Nat) : Int))) := upd_same
  generalize upd H8 l2 (.lst ([V.int 0] ++ exc.nodes.map fun n => V.int ((n.exc.dep + 1 : Nat) : Int))) = H9 at s9 e9 ⊢
  refine ⟨l2, (0 : Int) :: exc.nodes.map (fun n => ((n.exc.dep + 1 : Nat) : Int)), rfl, sqL_of (by rw [e9, List.map_cons, List.map_map]; rfl), Nat.succ_pos _, fun m hm hle => ?_⟩
  obtain rfl := dep_is hm hle
  have s69 := (s0.trans s8).trans s9
  have hx9 := s69 _ _ hx6
  refine ⟨1, _, rfl, rfl, _, rfl, x, R, dx, _, rfl, hx9, T, n5, Nat.lt_of_le_of_lt (putF_le (putF_le (putF_le (putF_le (Nat.zero_le 0))))) (by decide), ?_⟩
  have sx10 : SameX x H (upd H9 x (.ins R dx (putF "_depth" (.int (1 + (exc.dep : Int))) (putF "_exceptions" (.ref p) (putF "_ruling" (.str rl) (putF "_condition" (.ref c) (putF "_name" (.str nm) []))))))) := (sx.same s69).put
  have hx10 : (upd H9 x (.ins R dx (putF "_depth" (.int (1 + (exc.dep : Int))) (putF "_exceptions" (.ref p) (putF "_ruling" (.str rl) (putF "_condition" (.ref c) (putF "_name" (.str nm) []))))))) x = some (.ins R dx (putF "_depth" (.int (1 + (exc.dep : Int))) (putF "_exceptions" (.ref p) (putF "_ruling" (.str rl) (putF "_condition" (.ref c) (putF "_name" (.str nm) [])))))) := upd_same
  generalize upd H9 x (.ins R dx (putF "_depth" (.int (1 + (exc.dep : Int))) (putF "_exceptions" (.ref p) (putF "_ruling" (.str rl) (putF "_condition" (.ref c) (putF "_name" (.str nm) [])))))) = H10 at sx10 hx10 ⊢
  rw [show 1 + (exc.dep : Int) = ((exc.dep + 1 : Nat) : Int) by omega] at hx10
  have k10 : Keeps N H H10 := sx10.keeps hx
  refine ⟨_, rfl, (by show 1 ≤ sizeLine; decide), fun l1 nl1 => ?_⟩
  have s11 : Same H10 (upd H10 l1 (.lst [.str nm])) := (Same.refl H10).put nl1
  have e11 : (upd H10 l1 (.lst [.str nm])) l1 = some (.lst [.str nm]) := upd_same
  generalize upd H10 l1 (.lst [.str nm]) = H11 at s11 e11 ⊢
  refine ⟨_, rfl, N, p, 1, ws, exc, rfl, s11.tup (k10.tup hP), (hF.keeps k10).keeps s11.keeps, hd, hz, fun H12 D3 us s12' nD3 eD3 hu => ?_⟩
  have hul := hu.len
  rw [RF.pre_len] at hul
  refine ⟨D3, rfl, ⟨_, sqL_of eD3⟩, fun D4 nD4 => lc_it walk_list (fun i H' => Same H12 H' ∧ H' D4 = some (.lst (((exc.pre 1).take i).map fun q => V.str q.1.nm))) ⟨(Same.refl H12).put nD4, upd_same⟩ (fun _ _ _ h => sqL_of (h.1 _ _ eD3)) ?_ ?_⟩
  · rintro i y H13 H14 hi ⟨s, e⟩ ⟨rfl, hy⟩
    obtain ⟨⟨n, k⟩, hq, t, o, rfl, ht, hN⟩ := hu.get hy
    obtain ⟨dx', c', p', l', ws', ho, _⟩ := hN
    have ho := s _ _ ho
    have ht := s _ _ ht
    refine ⟨t, [.ref o, .int (k : Nat)], rfl, sqT_of ht, rfl, _, _, rfl, _, _, rfl, rfl, rfl, yes_ ⟨_, rfl, o, dx', _, rfl, ho, o, dx', _, _, rfl, ho, rfl, grow (acc := fun i => ((exc.pre 1).take i).map fun q => V.str q.1.nm) nD4 s e ?_ ?_⟩⟩
    · rw [List.length_map, List.length_take, RF.pre_len]
      exact small1000 (by omega)
    · show List.map _ _ = _
      rw [take_more hq, List.map_append]
      rfl
  rintro H13 ⟨s13, e13⟩
  rw [hu.len, List.take_length] at e13
  have e13 : H13 D4 = some (.lst (exc.names.map V.str)) := by rw [e13, ← RF.pre_names exc 1, List.map_map]; rfl
  have s1013 := (s11.trans s12').trans s13
  refine ⟨l1, D4, _, _, rfl, rfl, s13 _ _ (s12' _ _ e11), e13, ?_, fun l2' nl2' => ?_⟩
  · rw [List.length_map, ← RF.pre_names exc 1, List.length_map, RF.pre_len]
    exact big (by show 1 + _ ≤ _; omega)
  have s14 : Same H13 (upd H13 l2' (.lst ([V.str nm] ++ exc.names.map V.str))) := (Same.refl H13).put nl2'
  have e14 : (upd H13 l2' (.lst ([V.str nm] ++ exc.names.map V.str))) l2' = some (.lst ((nm :: exc.names).map V.str)) := upd_same
  generalize upd H13 l2' (.lst ([V.str nm] ++ exc.names.map V.str)) = H14 at s14 e14 ⊢
  have s1014 := s1013.trans s14
  have hx14 := s1014 _ _ hx10
  have ne : l2' ≠ x := fun z => by rw [z, hx14] at e14; cases e14
  refine ⟨_, rfl, x, R, dx, _, rfl, hx14, T, n6, Nat.lt_of_le_of_lt (putF_le (putF_le (putF_le (putF_le (putF_le (Nat.zero_le 0)))))) (by decide), ?_⟩
  exact q _ l2' (sx10.same s1014).put upd_same ne (sx10.free ne (s1013.free nl2')) (by rw [upd_ne ne]; exact e14)
end
end Sc
namespace Sc
open PySem PySem.Spec PyProof.Rows L2
theorem sc_check_rules : FnScope ["facts", "rules", "names", "outermost", "index", "rule", "around", "name"] ["facts", "rules"] (defScope s_check_rules) := ⟨rfl, rfl, rfl, by decide +kernel, rfl, by decide +kernel, by decide +kernel⟩
/-- the word for a rule of a book that is wrong: met the names ahead of it, out how many are outermost -/
def faultAt (facts met : List Str) (out i : Nat) (n : Nd) (k : Nat) : Option Str :=
  if n.nm ∈ met then some "name" else if ((srt (n.hs ++ n.fs)).any fun x => !decide (x ∈ facts)) = true then some "condition" else if 5 < k then some "depth" else if i = 60 ∨ 40 < out then some "many" else none
def outNext (out k : Nat) : Nat := if k = 0 then out + 1 else out
def firstFault (facts : List Str) : List (Nd × Nat) → List Str → Nat → Nat → Option (Str × Nat)
  | [], _, _, _ => none
  | (n, k) :: r, met, out, i => match faultAt facts met (outNext out k) i n k with
    | some w => some (w, i)
    | none => firstFault facts r (met ++ [n.nm]) (outNext out k) (i + 1)
/-- the error that tells a word and an index -/
def errWI (C : Addr) (w : Str) (i : Int) (H : Hp) (E : XK) : Prop := ∀ H' d, Same H H' → H' d = none → E (.ref C) (some d) (upd H' d (.xd [(("index" : Str), .int i), (("word" : Str), .str w)]))
/-- parts that are no longer than those of a condition -/
def RF.Fit (f : RF) : Prop := ∀ q ∈ f.pre 0, q.1.hs.length + q.1.fs.length ≤ 100
section
variable {P : Program} {w : World} {K : PySem.W.Frag} {mg : Str → Option Value} {base : Heap} {C R CB : Addr}
theorem set_same' {σ : L2.St} {i : Nat} {v : Option V} (h : σ[i]? = some v) : σ.set i v = σ := by
  apply List.ext_getElem?
  intro j
  rw [List.getElem?_set]
  split
  · rename_i e
    subst e
    split
    · exact h.symm
    · rename_i c
      rw [List.getElem?_eq_none (by omega)] at h
      cases h
  · rfl
/-- if around == 0: outermost = outermost + 1 -/
def tOut (i j : Nat) : TS := fun D σ H => ∃ (out k : Nat), σ[i]? = some (some (.int (out : Nat))) ∧ σ[j]? = some (some (.int (k : Nat))) ∧ D.nx (σ.set i (some (.int (outNext out k : Nat)))) H
def sp_check_rules (K : PySem.W.Frag) (C R CB : Addr) : Sp := fun vs H Q E => ∃ (N : Addr → Prop) (a p : Addr) (xs : List Str) (ws : List V) (f : RF), vs = [.ref a, .ref p] ∧ SqT K H a (xs.map V.str) ∧ SqT K H p ws ∧ ForAt K C R N H f ws ∧ f.dep ≤ 12 ∧ f.size ≤ 900 ∧ f.Fit ∧
  (firstFault xs (f.pre 0) [] 0 0 = none → ∀ H', Same H H' → Q .non H') ∧ (∀ wd i, firstFault xs (f.pre 0) [] 0 0 = some (wd, i) → wd.length ≤ 1000 → errWI CB wd i H E)
theorem drop_at {α : Type} {l : List α} {i : Nat} {x : α} (h : l[i]? = some x) : l.drop i = x :: l.drop (i + 1) := by
  have hi : i < l.length := by
    by_cases c : i < l.length
    · exact c
    · rw [List.getElem?_eq_none (by omega)] at h; cases h
  rw [List.drop_eq_getElem_cons hi]
  rw [List.getElem?_eq_getElem hi] at h
  rw [Option.some.inj h]
theorem ok_check_rules {f : Addr} {fd : FuncData} {t1 t2 t3 : Tok} (F : Fun K "check_rules" "check_rules" s_check_rules f fd) (B : Blt mg) (kR : RuleX P w K mg base R) (kK : CondG P w K mg base C) (m_MOST_AROUND : mg "MOST_AROUND" = some (.int 5 t1)) (m_MOST_RULES : mg "MOST_RULES" = some (.int 60 t2)) (m_MOST_OUTERMOST : mg "MOST_OUTERMOST" = some (.int 40 t3))
    (e_InvalidBook : ErrMk P w K mg base "InvalidBook" CB ["self", "word", "index"] (sp_init2 CB "word" "index")) (c_nested : Cal P w K mg base CX0 15 "nested" ["rules", "around"] (sp_nested K C R 12)) :
    FnOk P w K mg base (L2.CX P w) 16 f fd ["facts", "rules"] (sp_check_rules K C R CB) := by
  refine F.okX sc_check_rules (fun vs H Q E h => by obtain ⟨N, a, p, xs, ws, f, rfl, _⟩ := h; rfl) (fun cdv A outer s H vs Q E hr h => ?_)
  obtain ⟨N, a, p, xs, ws, f, rfl, hA, hP, hF, hd, hz, hfit, q, er⟩ := h
  refine ⟨_, (pss_cons (ps_set (i := 2) sc_check_rules.nd rfl (Or.inl rfl) (pe_lst pa_nil))
      (pss_cons (ps_set (i := 3) sc_check_rules.nd rfl (Or.inl rfl) pe_int)
      (pss_one (ps_for (passes_of rfl) rfl (pi_enum (by rfl) B.b_enumerate (pa_cons (pe_cal c_nested (hr.mono (by decide)) (pa_cons (pv 1) (pa_cons pe_int pa_nil))) pa_nil)) (pg_tup (by rfl) (pgs_cons (pg_name (i := 4) sc_check_rules.nd rfl (Or.inl rfl)) (pgs_cons (pg_tup (by rfl) (pgs_cons (pg_name (i := 5) sc_check_rules.nd rfl (Or.inl rfl)) (pgs_cons (pg_name (i := 6) sc_check_rules.nd rfl (Or.inl rfl)) pgs_nil))) pgs_nil))) (pss_cons (wk_ps (tOut 3 6) (ps_if (pt_cmpR op_eq (pv 6) pe_int (nomark _)) (pss_one (ps_set (i := 3) sc_check_rules.nd rfl (Or.inl rfl) (pe_op op_add (pv 3) pe_int))) pss_nil) ?wo)
      (pss_cons (ps_if (pt_cmpR op_in_seq (pe_cprop kR.name kR.cls (hr.mono (by decide)) (pv 5)) (pv 2) rfl) (pss_one (ps_raise rfl (takes_of rfl rfl rfl rfl) (pmk_err2 e_InvalidBook (hr.mono (by decide)) pe_str (pv 4)))) pss_nil)
      (pss_cons (ps_if (pt_val (pe_callB (cr_any rfl) (by rfl) B.b_any (by decide +kernel) (pa_cons (pe_lc (own := [("name", 7)]) (g := gName 7) (tt := tYes) rfl sc_check_rules.nd (pi_tup (pe_cprop kK.names kK.cls (hr.mono (by decide)) (pe_cprop kR.condition kR.cls (hr.mono (by decide)) (pv 5)))) (blkOk_by (own := [("name", 7)]) (N := ["facts", "rules", "names", "outermost", "index", "rule", "around", "name"]) (sc := defScope s_check_rules) (by decide +kernel)) (fun _ _ _ _ _ => (pg_name (i := 7) sc_check_rules.nd rfl (Or.inl rfl))) (fun _ _ _ _ _ => pts_nil) (fun _ _ _ _ _ => (pe_.re (pe_cmpR op_notIn_seq (pv 7) (pv 0) rfl) (by first | (dsimp only [Cx.blk]; done) | exact rfl)))) pa_nil))) (pss_one (ps_raise rfl (takes_of rfl rfl rfl rfl) (pmk_err2 e_InvalidBook (hr.mono (by decide)) pe_str (pv 4)))) pss_nil)
      (pss_cons (ps_if (pt_cmpR op_gt (pv 6) (pe_glob (v := .int 5) rfl m_MOST_AROUND ⟨_, rfl⟩) (nomark _)) (pss_one (ps_raise rfl (takes_of rfl rfl rfl rfl) (pmk_err2 e_InvalidBook (hr.mono (by decide)) pe_str (pv 4)))) pss_nil)
      (pss_cons (ps_if (PW.pt (pw_or (pt_cmpR op_eq (pv 4) (pe_glob (v := .int 60) rfl m_MOST_RULES ⟨_, rfl⟩) (nomark _)) (pw_or1 (pt_cmpR op_gt (pv 3) (pe_glob (v := .int 40) rfl m_MOST_OUTERMOST ⟨_, rfl⟩) (nomark _))))) (pss_one (ps_raise rfl (takes_of rfl rfl rfl rfl) (pmk_err2 e_InvalidBook (hr.mono (by decide)) pe_str (pv 4)))) pss_nil)
      (pss_one (ps_expr (pe_bm PySem.F.plainAttrs_list PySem.F.slot_list_append PySem.F.type_list_append mt_append (pv 2) (pa_cons (pe_cprop kR.name kR.cls (hr.mono (by decide)) (pv 5)) pa_nil))))))))))))), ?_⟩
  case wo =>
    rintro D σ H1 ⟨out, k, h3, h6, q⟩
    refine ⟨_, h6, rfl, _, rfl, bcase (fun c => ?_) (fun c => ?_)⟩
    · have c : k = 0 := by have := V.int.inj (of_decide_eq_true c); omega
      subst c
      exact ⟨_, h3, out, 1, rfl, rfl, q⟩
    · have c : k ≠ 0 := fun z => by subst z; exact Bool.noConfusion (c.symm.trans (decide_eq_true rfl))
      unfold outNext at q
      rw [if_neg c, set_same' h3] at q
      exact q
  refine ⟨Nat.zero_le _, fun NL nNL => ?_⟩
  have s0 : Same H (upd H NL (.lst [])) := (Same.refl H).put nNL
  have e0 : (upd H NL (.lst [])) NL = some (.lst ([].map V.str)) := upd_same
  generalize upd H NL (.lst []) = H0 at s0 e0 ⊢
  refine ⟨_, rfl, Used N H, p, 0, ws, f, rfl, s0.tup hP, hF.used.keeps s0.keeps, hd, hz, fun H1 D us s1 nD e1 hu1 => ?_⟩
  have hul := hu1.len
  rw [RF.pre_len] at hul
  refine ⟨D, _, rfl, sqL_of e1, for_it walk_enum (fun i σ H' => ∃ (met : List Str) (out : Nat) (y4 y5 y6 y7 : Option V), σ = [some (.ref a), some (.ref p), some (.ref NL), some (.int (out : Nat)), y4, y5, y6, y7] ∧ Same H H' ∧ H' D = some (.lst us) ∧ PreAt K C R (Used N H) H' us (f.pre 0) ∧ H' NL = some (.lst (met.map V.str)) ∧ met.length = i ∧
      firstFault xs (f.pre 0) [] 0 0 = firstFault xs ((f.pre 0).drop i) met out i)
    ⟨[], 0, none, none, none, none, rfl, s0.trans s1, e1, hu1, s1 _ _ e0, rfl, rfl⟩ (fun _ _ _ _ ⟨_, _, _, _, _, _, _, _, e, _⟩ => sqL_of e) ?_ ?_⟩
  · rintro i x σ H2 H3 hi ⟨met, out, y4, y5, y6, y7, rfl, s, eD, hu, eN, hm, hff⟩ ⟨T, v1, v2, rfl, nT, rfl, h1, h2⟩
    obtain rfl : V.int (i : Nat) = v1 := Option.some.inj h1
    obtain ⟨⟨n, k⟩, hq, t, o, rfl, ht, hN⟩ := hu.get h2
    have hfitq := hfit _ (List.mem_of_getElem? hq)
    rw [drop_at hq] at hff
    dsimp only at ht hN hfitq
    have s23 : Same H2 (upd H2 T (.tup [.int (i : Nat), .ref t])) := (Same.refl H2).put nT
    have s3 := s.trans s23
    have eD3 := s23 _ _ eD
    have eN3 := s23 _ _ eN
    have ht3 := s23 _ _ ht
    have hN3 := hN.keeps s23.keeps
    have hu3 := hu.keeps s23.keeps
    have eT3 : (upd H2 T (.tup [.int (i : Nat), .ref t])) T = some (.tup [.int (i : Nat), .ref t]) := upd_same
    clear s23
    generalize upd H2 T (.tup [.int (i : Nat), .ref t]) = H3 at s3 eD3 eN3 ht3 hN3 hu3 eT3 ⊢
    refine ⟨T, [.int (i : Nat), .ref t], rfl, sqT_of eT3, rfl, _, _, rfl, _, _, rfl, t, [.ref o, .int (k : Nat)], rfl, sqT_of ht3, rfl, _, _, rfl, _, _, rfl, rfl, rfl, ?_⟩
    refine ⟨out, k, rfl, rfl, ?_⟩
    obtain ⟨dx, c, pe, l, ws', ho, hc, hpe, hl, hfe⟩ := hN3
    have hi9 : i ≤ 1000 := by omega
    have fkw : ∀ wd : Str, wd.length ≤ 1000 → FOk (.str wd) ∧ FOk (.int (i : Nat)) := fun wd h => ⟨Nat.le_trans h (by decide), fok_nat hi9⟩
    have rz : ∀ {wd : Str} {H' : Hp}, faultAt xs met (outNext out k) i n k = some wd → wd.length ≤ 1000 → Same H H' → ∀ d, H' d = none → E (.ref CB) (some d) (upd H' d (.xd [(("index" : Str), .int (i : Nat)), (("word" : Str), .str wd)])) := fun {wd H'} hf hw sH d nd => er wd i (by rw [hff]; unfold firstFault; rw [hf]) hw H' d sH nd
    refine ⟨_, rfl, o, dx, _, rfl, ho, o, dx, _, _, rfl, ho, rfl, _, rfl, NL, _, rfl, .inl (sqL_of eN3), rfl, flat_strs met, _, rfl, bcase (fun c1 => ?_) (fun c1 => ?_)⟩
    · have c1 : decide (n.nm ∈ met) = true := by rw [← inV_str]; exact c1
      exact ⟨_, rfl, fkw "name" (by decide), rz (by unfold faultAt; rw [if_pos (of_decide_eq_true c1)]) (by decide) s3⟩
    have c1 : decide (n.nm ∈ met) = false := by rw [← inV_str]; exact c1
    have f1 : faultAt xs met (outNext out k) i n k = if ((srt (n.hs ++ n.fs)).any fun x => !decide (x ∈ xs)) = true then some (Str.ofString "condition") else if 5 < k then some (Str.ofString "depth") else if i = 60 ∨ 40 < outNext out k then some (Str.ofString "many") else none := by
      unfold faultAt
      rw [if_neg (of_decide_eq_false c1)]
    obtain ⟨dxc, ca, cb, cn, zs, hco, hca, hcb, hcn, hzs⟩ := hc.at_
    have hzl : zs.length ≤ 100 := by
      rw [hzs, (srt_perm _).length_eq, List.length_append]
      exact hfitq
    refine ⟨_, rfl, o, dx, _, rfl, ho, o, dx, _, _, rfl, ho, rfl, c, dxc, _, rfl, hco, c, dxc, _, _, rfl, hco, rfl, cn, rfl, ⟨_, sqT_of hcn⟩, fun D2 nD2 => lc_it walk_tup (fun j H' => Same H3 H' ∧ H' D2 = some (.lst ((zs.take j).map fun x => V.bl (!decide (x ∈ xs))))) ⟨(Same.refl H3).put nD2, upd_same⟩ (fun _ _ _ h => h.1.tup (sqT_of hcn)) ?_ ?_⟩
    · rintro j y H4 H5 hj ⟨s4, e4⟩ ⟨rfl, hy⟩
      rw [List.length_map] at hj
      have hx : zs[j]? = some zs[j] := List.getElem?_eq_getElem hj
      obtain rfl : V.str zs[j] = y := strAt_inj hx hy
      refine ⟨rfl, yes_ ⟨_, rfl, _, rfl, a, _, rfl, .inr ((s3.trans s4).tup hA), rfl, flat_strs _, grow (acc := fun j => (zs.take j).map fun x => V.bl (!decide (x ∈ xs))) nD2 s4 e4 ?_ ?_⟩⟩
      · rw [List.length_map, List.length_take]
        exact small1000 (by omega)
      · show List.map _ _ = _
        rw [take_more hx, List.map_append]
        simp only [List.map_cons, List.map_nil, inV_str]
        rfl
    rintro H4 ⟨s4, e4⟩
    rw [List.length_map, List.take_length] at e4
    refine ⟨D2, zs.map fun x => !decide (x ∈ xs), rfl, sqL_of (by rw [e4, List.map_map]; rfl), ?_⟩
    have em : (zs.map fun x => !decide (x ∈ xs)).any id = (srt (n.hs ++ n.fs)).any fun x => !decide (x ∈ xs) := by
      rw [List.any_map, hzs]
      rfl
    rw [em]
    have s5 := s3.trans s4
    refine ⟨_, rfl, bcase (fun c2 => ?_) (fun c2 => ?_)⟩
    · exact ⟨_, rfl, fkw "condition" (by decide), rz (by rw [f1, if_pos c2]) (by decide) s5⟩
    have f2 : faultAt xs met (outNext out k) i n k = if 5 < k then some (Str.ofString "depth") else if i = 60 ∨ 40 < outNext out k then some (Str.ofString "many") else none := by
      rw [f1, if_neg (by rw [c2]; exact Bool.false_ne_true)]
    refine ⟨_, rfl, k, 5, rfl, rfl, _, rfl, bcase (fun c3 => ?_) (fun c3 => ?_)⟩
    · have c3 : 5 < k := by have := of_decide_eq_true c3; omega
      exact ⟨_, rfl, fkw "depth" (by decide), rz (by rw [f2, if_pos c3]) (by decide) s5⟩
    have c3 : ¬ 5 < k := by have := of_decide_eq_false c3; omega
    rw [if_neg c3] at f2
    refine ⟨_, rfl, rfl, _, rfl, bcase (fun c4 => ?_) (fun c4 => ?_)⟩
    · have e60 : i = 60 := by have := V.int.inj (of_decide_eq_true c4); omega
      exact iteT ⟨_, rfl, fkw "many" (by decide), rz (by rw [f2, if_pos (.inl e60)]) (by decide) s5⟩
    have n60 : i ≠ 60 := fun z => by subst z; exact Bool.noConfusion (c4.symm.trans (decide_eq_true rfl))
    refine ⟨_, rfl, outNext out k, 40, rfl, rfl, _, rfl, bcase (fun c5 => ?_) (fun c5 => ?_)⟩
    · have c5 : 40 < outNext out k := by have := of_decide_eq_true c5; omega
      exact ⟨_, rfl, fkw "many" (by decide), rz (by rw [f2, if_pos (.inr c5)]) (by decide) s5⟩
    have c5 : ¬ 40 < outNext out k := by have := of_decide_eq_false c5; omega
    rw [if_neg (fun z => z.elim n60 c5)] at f2
    have eN5 := s4 _ _ eN3
    have ho5 := s4 _ _ ho
    refine ⟨_, rfl, .inl ⟨rfl, _, sqL_of eN5⟩, _, rfl, o, dx, _, rfl, ho5, o, dx, _, _, rfl, ho5, rfl, NL, _, _, rfl, rfl, eN5, ?_, ?_⟩
    · rw [List.length_map]
      exact small1000 (by omega)
    have nDL : D ≠ NL := fun z => by rw [z, e0] at nD; cases nD
    refine ⟨met ++ [n.nm], outNext out k, _, _, _, _, rfl, s5.put nNL, by rw [upd_ne nDL]; exact s4 _ _ eD3, (hu3.keeps s4.keeps).keeps (keeps_own eN5 (used_not nNL)), by rw [upd_same, List.map_append]; rfl, by rw [List.length_append, List.length_singleton, hm], ?_⟩
    rw [hff]
    show (match faultAt xs met (outNext out k) i n k with | some w => some (w, i) | none => _) = _
    rw [f2]
  · rintro σ H2 ⟨met, out, y4, y5, y6, y7, rfl, s, eD, hu, eN, hm, hff⟩
    have hl : us.length = (f.pre 0).length := hu1.len
    rw [hl, List.drop_length] at hff
    exact q hff H2 s
end
end Sc
namespace Sc
open PySem PySem.Spec PyProof.Rows L2
/-! ### facts -/
theorem sc_check_facts : FnScope ["facts", "index", "name"] ["facts"] (defScope s_check_facts) := ⟨rfl, rfl, rfl, by decide +kernel, rfl, by decide +kernel, by decide +kernel⟩
theorem sc_check_case : FnScope ["facts", "case", "index", "name"] ["facts", "case"] (defScope s_check_case) := ⟨rfl, rfl, rfl, by decide +kernel, rfl, by decide +kernel, by decide +kernel⟩
/-- the i-th fact is wrong -/
def badAt (xs : List Str) (i : Nat) : Bool := decide (i = 60) || ((match xs[i]? with | some x => !isName x | none => false) || !risesAt xs i)
def firstBad (xs : List Str) : Option Nat := if xs = [] then some 0 else (List.range xs.length).find? (badAt xs)
section
variable {P : Program} {w : World} {K : PySem.W.Frag} {mg : Str → Option Value} {base : Heap} {CF CC CN : Addr}
def sp_check_facts (K : PySem.W.Frag) (C : Addr) : Sp := fun vs H Q E => ∃ (a : Addr) (xs : List Str), vs = [.ref a] ∧ SqT K H a (xs.map V.str) ∧ Txts xs ∧ xs.length ≤ 1000 ∧
  (firstBad xs = none → ∀ H', Same H H' → Q .non H') ∧ (∀ i, firstBad xs = some i → errIx C i H E)
theorem ok_check_facts {f : Addr} {fd : FuncData} (F : Fun K "check_facts" "check_facts" s_check_facts f fd) (B : Blt mg) (mM : ∃ t, mg "MOST_FACTS_facts" = some (.int 60 t))
    (e_InvalidFacts : ErrMk P w K mg base "InvalidFacts" CF ["self", "index"] (sp_init1 CF "index")) (c_is_name : Cal P w K mg base CX0 1 "is_name" ["value"] sp_is_name) (c_rises : Cal P w K mg base CX0 1 "rises" ["names", "index"] (sp_rises K)) :
    FnOk P w K mg base (L2.CX P w) 3 f fd ["facts"] (sp_check_facts K CF) := by
  obtain ⟨t1, mM⟩ := mM
  refine F.okX sc_check_facts (fun vs H Q E h => by obtain ⟨a, xs, rfl, _⟩ := h; rfl) (fun cdv A outer s H vs Q E hr h => ?_)
  obtain ⟨a, xs, rfl, hS, hT, hl, q, e⟩ := h
  refine ⟨_, (pss_cons (ps_if (pt_not (pt_tru (pv 0) (by intro _; rfl))) (pss_one (ps_raise rfl (takes_of rfl rfl rfl rfl) (pmk_err1 e_InvalidFacts (hr.mono (by decide)) pe_int))) pss_nil)
      (pss_one (ps_for (passes_of rfl) rfl (pi_enumT (by rfl) B.b_enumerate (pa_cons (pv 0) pa_nil)) (pg_tup (by rfl) (pgs_cons (pg_name (i := 1) sc_check_facts.nd rfl (Or.inl rfl)) (pgs_cons (pg_name (i := 2) sc_check_facts.nd rfl (Or.inl rfl)) pgs_nil))) (pss_one (ps_if (PW.pt (pw_or (pt_cmpR op_eq (pv 1) (pe_glob (v := .int 60) rfl mM ⟨_, rfl⟩) (nomark _)) (pw_or (pt_not (pt_val (pe_cal c_is_name (hr.mono (by decide)) (pa_cons (pv 2) pa_nil)))) (pw_or1 (pt_not (pt_val (pe_cal c_rises (hr.mono (by decide)) (pa_cons (pv 0) (pa_cons (pv 1) pa_nil))))))))) (pss_one (ps_raise rfl (takes_of rfl rfl rfl rfl) (pmk_err1 e_InvalidFacts (hr.mono (by decide)) (pv 1)))) pss_nil))))), ?_⟩
  refine ⟨.ref a, rfl, _, .inr (.inl ⟨_, hS, rfl⟩), bcase (fun e0 => ?_) (fun e0 => ?_)⟩
  · have ex : xs = [] := by
      cases xs with
      | nil => rfl
      | cons x r => exact Bool.noConfusion (show false = true from e0)
    exact ⟨fok_nat (i := 0) (by decide), fun d nd => e 0 (by unfold firstBad; rw [if_pos ex]) H d (Same.refl H) nd⟩
  · have ex : xs ≠ [] := fun z => by
      subst z
      exact Bool.noConfusion (show true = false from e0)
    have rz : ∀ {i : Nat} {H' : Hp}, i < xs.length → (∀ j, j < i → badAt xs j = false) → badAt xs i = true → Same H H' → ∀ d, H' d = none → E (.ref CF) (some d) (upd H' d (.xd [(("index" : Str), .int (i : Nat))])) :=
      fun {i H'} hi hb hp s d nd => e i (by unfold firstBad; rw [if_neg ex]; exact find_at hi hp hb) H' d s nd
    refine ⟨.ref a, rfl, a, _, rfl, hS, for_it walk_enumT (fun i σ H' => ∃ y1 y2, σ = [some (.ref a), y1, y2] ∧ Same H H' ∧ ∀ j, j < i → badAt xs j = false)
      ⟨none, none, rfl, Same.refl H, fun j hj => absurd hj (Nat.not_lt_zero j)⟩ (fun i σ H' _ ⟨_, _, _, s, _⟩ => s.tup hS) ?_ ?_⟩
    · rintro i x σ H2 H3 hi ⟨y1, y2, rfl, s, hb⟩ ⟨T, v1, v2, rfl, nT, rfl, h1, h2⟩
      obtain rfl : V.int (i : Nat) = v1 := Option.some.inj h1
      rw [List.length_map] at hi
      have hx : xs[i]? = some xs[i] := List.getElem?_eq_getElem hi
      obtain rfl : V.str xs[i] = v2 := strAt_inj hx h2
      have s3 : Same H (upd H2 T (.tup [.int (i : Nat), .str xs[i]])) := s.put' nT
      have rz := fun {H' : Hp} (hp : badAt xs i = true) (sH : Same H H') => rz hi hb hp sH
      refine ⟨T, [.int (i : Nat), .str xs[i]], rfl, sqT_new, rfl, _, _, rfl, _, _, rfl, rfl, ?_⟩
      refine ⟨_, rfl, rfl, _, rfl, bcase (fun c1 => ?_) (fun c1 => ?_)⟩
      · have e60 : i = 60 := by have := V.int.inj (of_decide_eq_true c1); omega
        refine iteT ⟨_, rfl, fok_nat (by omega), rz (by unfold badAt; rw [decide_eq_true e60, Bool.true_or]) s3⟩
      · have n60 : i ≠ 60 := fun z => by subst z; exact Bool.noConfusion (c1.symm.trans (decide_eq_true rfl))
        refine ⟨_, rfl, xs[i], rfl, Nat.le_trans (hT _ (List.getElem_mem hi)) (by rw [sizeLine_eq]; decide), fun H4 s4 => ⟨_, rfl, bcase (fun c2 => ?_) (fun c2 => ?_)⟩⟩
        · refine iteT ⟨_, rfl, fok_nat (by omega), rz (by unfold badAt; rw [hx, decide_eq_false n60, Bool.false_or]; show (!isName xs[i] || _) = true; rw [c2, Bool.true_or]) (s3.trans s4)⟩
        · refine ⟨.ref a, rfl, _, rfl, a, xs, i, rfl, (s3.trans s4).tup hS, hi, _, rfl, bcase (fun c3 => ?_) (fun c3 => ?_)⟩
          · exact ⟨_, rfl, fok_nat (by omega), rz (by unfold badAt; rw [hx, c3, Bool.or_true, Bool.or_true]) (s3.trans s4)⟩
          · refine ⟨_, _, rfl, s3.trans s4, fun j hj => ?_⟩
            by_cases hj2 : j < i
            · exact hb j hj2
            · have ej : j = i := by omega
              subst ej
              unfold badAt
              rw [hx, decide_eq_false n60, c3, Bool.or_false, Bool.false_or]
              exact c2
    · rintro σ H2 ⟨y1, y2, rfl, s, hb⟩
      rw [List.length_map] at hb
      exact q (by unfold firstBad; rw [if_neg ex]; exact find_none hb) H2 s
/-- the i-th name of a case is wrong -/
def outAt (facts cs : List Str) (i : Nat) : Bool := (match cs[i]? with | some x => !decide (x ∈ facts) | none => false) || !risesAt cs i
def firstOut (facts cs : List Str) : Option Nat := (List.range cs.length).find? (outAt facts cs)
def sp_check_case (K : PySem.W.Frag) (C : Addr) : Sp := fun vs H Q E => ∃ (a b : Addr) (xs cs : List Str), vs = [.ref a, .ref b] ∧ SqT K H a (xs.map V.str) ∧ SqT K H b (cs.map V.str) ∧ cs.length ≤ 1000 ∧
  (firstOut xs cs = none → ∀ H', Same H H' → Q .non H') ∧ (∀ i, firstOut xs cs = some i → errIx C i H E)
theorem ok_check_case {f : Addr} {fd : FuncData} (F : Fun K "check_case" "check_case" s_check_case f fd) (B : Blt mg)
    (e_InvalidCase : ErrMk P w K mg base "InvalidCase" CC ["self", "index"] (sp_init1 CC "index")) (c_rises : Cal P w K mg base CX0 1 "rises" ["names", "index"] (sp_rises K)) :
    FnOk P w K mg base (L2.CX P w) 3 f fd ["facts", "case"] (sp_check_case K CC) := by
  refine F.okX sc_check_case (fun vs H Q E h => by obtain ⟨a, b, xs, cs, rfl, _⟩ := h; rfl) (fun cdv A outer s H vs Q E hr h => ?_)
  obtain ⟨a, b, xs, cs, rfl, hS, hC, hl, q, e⟩ := h
  refine ⟨_, (pss_one (ps_for (passes_of rfl) rfl (pi_enumT (by rfl) B.b_enumerate (pa_cons (pv 1) pa_nil)) (pg_tup (by rfl) (pgs_cons (pg_name (i := 2) sc_check_case.nd rfl (Or.inl rfl)) (pgs_cons (pg_name (i := 3) sc_check_case.nd rfl (Or.inl rfl)) pgs_nil))) (pss_one (ps_if (PW.pt (pw_or (pt_cmpR op_notIn_seq (pv 3) (pv 0) rfl) (pw_or1 (pt_not (pt_val (pe_cal c_rises (hr.mono (by decide)) (pa_cons (pv 1) (pa_cons (pv 2) pa_nil)))))))) (pss_one (ps_raise rfl (takes_of rfl rfl rfl rfl) (pmk_err1 e_InvalidCase (hr.mono (by decide)) (pv 2)))) pss_nil)))), ?_⟩
  refine ⟨.ref b, rfl, b, _, rfl, hC, for_it walk_enumT (fun i σ H' => ∃ y1 y2, σ = [some (.ref a), some (.ref b), y1, y2] ∧ Same H H' ∧ ∀ j, j < i → outAt xs cs j = false)
    ⟨none, none, rfl, Same.refl H, fun j hj => absurd hj (Nat.not_lt_zero j)⟩ (fun i σ H' _ ⟨_, _, _, s, _⟩ => s.tup hC) ?_ ?_⟩
  · rintro i x σ H2 H3 hi ⟨y1, y2, rfl, s, hb⟩ ⟨T, v1, v2, rfl, nT, rfl, h1, h2⟩
    obtain rfl : V.int (i : Nat) = v1 := Option.some.inj h1
    rw [List.length_map] at hi
    have hx : cs[i]? = some cs[i] := List.getElem?_eq_getElem hi
    obtain rfl : V.str cs[i] = v2 := strAt_inj hx h2
    have s3 : Same H (upd H2 T (.tup [.int (i : Nat), .str cs[i]])) := s.put' nT
    have rz : ∀ {H' : Hp}, outAt xs cs i = true → Same H H' → ∀ d, H' d = none → E (.ref CC) (some d) (upd H' d (.xd [(("index" : Str), .int (i : Nat))])) := fun {H'} hp sH d nd => e i (find_at hi hp hb) H' d sH nd
    refine ⟨T, [.int (i : Nat), .str cs[i]], rfl, sqT_new, rfl, _, _, rfl, _, _, rfl, rfl, ?_⟩
    refine ⟨.str cs[i], rfl, .ref a, rfl, a, _, rfl, .inr (s3.tup hS), rfl, flat_strs xs, _, rfl, bcase (fun c1 => ?_) (fun c1 => ?_)⟩
    · have c1 : (!decide (cs[i] ∈ xs)) = true := by rw [← inV_str]; exact c1
      exact iteT ⟨_, rfl, fok_nat (by omega), rz (by unfold outAt; rw [hx]; show (!decide (cs[i] ∈ xs) || _) = true; rw [c1, Bool.true_or]) s3⟩
    · have c1 : (!decide (cs[i] ∈ xs)) = false := by rw [← inV_str]; exact c1
      refine ⟨.ref b, rfl, _, rfl, b, cs, i, rfl, s3.tup hC, hi, _, rfl, bcase (fun c3 => ?_) (fun c3 => ?_)⟩
      · exact ⟨_, rfl, fok_nat (by omega), rz (by unfold outAt; rw [hx, c3, Bool.or_true]) s3⟩
      · refine ⟨_, _, rfl, s3, fun j hj => ?_⟩
        by_cases hj2 : j < i
        · exact hb j hj2
        · have ej : j = i := by omega
          subst ej
          unfold outAt
          rw [hx, c3, Bool.or_false]
          exact c1
  · rintro σ H2 ⟨y1, y2, rfl, s, hb⟩
    rw [List.length_map] at hb
    exact q (find_none hb) H2 s
end
end Sc
namespace Sc
open PySem PySem.Spec PyProof.Rows L2
/-! ### an object Book -/
theorem sc_Book___init__ : FnScope ["self", "facts", "rules", "ruling", "rule", "_"] ["self", "facts", "rules", "ruling"] (defScope s_Book___init__) := ⟨rfl, rfl, rfl, by decide +kernel, rfl, by decide +kernel, by decide +kernel⟩
theorem sc_Book_facts : FnScope ["self"] ["self"] (defScope s_Book_facts) := ⟨rfl, rfl, rfl, by decide +kernel, rfl, by decide +kernel, by decide +kernel⟩
theorem sc_Book_rules : FnScope ["self"] ["self"] (defScope s_Book_rules) := ⟨rfl, rfl, rfl, by decide +kernel, rfl, by decide +kernel, by decide +kernel⟩
theorem sc_Book_ruling : FnScope ["self"] ["self"] (defScope s_Book_ruling) := ⟨rfl, rfl, rfl, by decide +kernel, rfl, by decide +kernel, by decide +kernel⟩
section
variable {P : Program} {w : World} {K : PySem.W.Frag} {mg : Str → Option Value} {base : Heap} {C R B CF CB : Addr}
theorem ok_Book_facts {f : Addr} {fd : FuncData} (F : Fun K "facts" "Book.facts" s_Book_facts f fd) (T : Cls K B) (n : NoAttr K B "_facts") : FnOk P w K mg base CX0 1 f fd ["self"] (sp_prop B "_facts") := by
  refine F.ok sc_Book_facts (fun vs H Q E h => by obtain ⟨x, dx, fs, v, rfl, _⟩ := h; rfl) (fun cdv A outer s H vs Q E hr h => ?_)
  obtain ⟨x, dx, fs, v, rfl, hx, hl, q⟩ := h
  exact ⟨_, (pss_one (ps_ret (pe_fld (pv 0) rfl))), ⟨_, rfl, x, B, dx, fs, v, rfl, hx, T, n, hl, q⟩⟩
theorem ok_Book_rules {f : Addr} {fd : FuncData} (F : Fun K "rules" "Book.rules" s_Book_rules f fd) (T : Cls K B) (n : NoAttr K B "_rules") : FnOk P w K mg base CX0 1 f fd ["self"] (sp_prop B "_rules") := by
  refine F.ok sc_Book_rules (fun vs H Q E h => by obtain ⟨x, dx, fs, v, rfl, _⟩ := h; rfl) (fun cdv A outer s H vs Q E hr h => ?_)
  obtain ⟨x, dx, fs, v, rfl, hx, hl, q⟩ := h
  exact ⟨_, (pss_one (ps_ret (pe_fld (pv 0) rfl))), ⟨_, rfl, x, B, dx, fs, v, rfl, hx, T, n, hl, q⟩⟩
theorem ok_Book_ruling {f : Addr} {fd : FuncData} (F : Fun K "ruling" "Book.ruling" s_Book_ruling f fd) (T : Cls K B) (n : NoAttr K B "_ruling") : FnOk P w K mg base CX0 1 f fd ["self"] (sp_prop B "_ruling") := by
  refine F.ok sc_Book_ruling (fun vs H Q E h => by obtain ⟨x, dx, fs, v, rfl, _⟩ := h; rfl) (fun cdv A outer s H vs Q E hr h => ?_)
  obtain ⟨x, dx, fs, v, rfl, hx, hl, q⟩ := h
  exact ⟨_, (pss_one (ps_ret (pe_fld (pv 0) rfl))), ⟨_, rfl, x, B, dx, fs, v, rfl, hx, T, n, hl, q⟩⟩
/-- the fields of a book -/
def bookF (a p : Addr) (rl : Str) (l : Addr) : List (Str × V) := putF "_numbered" (.ref l) (putF "_ruling" (.str rl) (putF "_rules" (.ref p) (putF "_facts" (.ref a) [])))
def BookAt (K : PySem.W.Frag) (C R B : Addr) (N : Addr → Prop) (H : Hp) (o : Addr) (xs : List Str) (f : RF) (rl : Str) : Prop := ∃ (dx a p l : Addr) (ws us : List V), H o = some (.ins B dx (bookF a p rl l)) ∧ SqT K H a (xs.map V.str) ∧ SqT K H p ws ∧ ForAt K C R N H f ws ∧ (N l ∧ H l = some (.lst us)) ∧ All2 (RefAt K C R N H) us ((f.pre 0).map fun q => q.1)
theorem BookAt.keeps {N : Addr → Prop} {H H' : Hp} {o : Addr} {xs : List Str} {f : RF} {rl : Str} (h : BookAt K C R B N H o xs f rl) (k : Keeps N H H') : BookAt K C R B N H' o xs f rl := by
  obtain ⟨dx, a, p, l, ws, us, h1, h2, h3, h4, ⟨h5, h6⟩, h7⟩ := h
  exact ⟨dx, a, p, l, ws, us, k _ _ stays_ins h1, k.tup h2, k.tup h3, h4.keeps k, ⟨h5, k _ _ (stays_lst h5) h6⟩, h7.mono fun _ _ x => x.keeps k⟩
def sp_book_init (K : PySem.W.Frag) (C R B CF CB : Addr) : Sp := fun vs H Q E => ∃ (N : Addr → Prop) (x dx a p : Addr) (xs : List Str) (rl : Str) (ws : List V) (f : RF), vs = [.ref x, .ref a, .ref p, .str rl] ∧ H x = some (.ins B dx []) ∧ SqT K H a (xs.map V.str) ∧ Txts xs ∧ xs.length ≤ 1000 ∧ SqT K H p ws ∧ ForAt K C R N H f ws ∧ f.dep ≤ 12 ∧ f.size ≤ 900 ∧ f.Fit ∧ rl.length ≤ 1000 ∧
  (∀ i, firstBad xs = some i → errIx CF i H E) ∧ (firstBad xs = none → (∀ wd i, firstFault xs (f.pre 0) [] 0 0 = some (wd, i) → wd.length ≤ 1000 → errWI CB wd (i : Nat) H E) ∧ (firstFault xs (f.pre 0) [] 0 0 = none →
    (isName rl = false → errWI CB "ruling" (-1) H E) ∧ (isName rl = true → ∀ H' l us, SameX x H H' → H' x = some (.ins B dx (bookF a p rl l)) → l ≠ x → H l = none → H' l = some (.lst us) → All2 (RefAt K C R N H') us ((f.pre 0).map fun q => q.1) → Q .non H')))
theorem ok_book_init {f : Addr} {fd : FuncData} (F : Fun K "__init__" "Book.__init__" s_Book___init__ f fd) (Bl : Blt mg) (T : Cls K B) (n1 : NoAttr K B "_facts") (n2 : NoAttr K B "_rules") (n3 : NoAttr K B "_ruling") (n4 : NoAttr K B "_numbered")
    (e_InvalidBook : ErrMk P w K mg base "InvalidBook" CB ["self", "word", "index"] (sp_init2 CB "word" "index")) (c_is_name : Cal P w K mg base CX0 1 "is_name" ["value"] sp_is_name) (c_nested : Cal P w K mg base CX0 15 "nested" ["rules", "around"] (sp_nested K C R 12))
    (c_check_facts : Cal P w K mg base (L2.CX P w) 3 "check_facts" ["facts"] (sp_check_facts K CF)) (c_check_rules : Cal P w K mg base (L2.CX P w) 16 "check_rules" ["facts", "rules"] (sp_check_rules K C R CB)) :
    FnOk P w K mg base (L2.CX P w) 17 f fd ["self", "facts", "rules", "ruling"] (sp_book_init K C R B CF CB) := by
  refine F.okX sc_Book___init__ (fun vs H Q E h => by obtain ⟨N, x, dx, a, p, xs, rl, ws, f, rfl, _⟩ := h; rfl) (fun cdv A outer s H vs Q E hr h => ?_)
  obtain ⟨N, x, dx, a, p, xs, rl, ws, f, rfl, hx, hA, tA, lA, hP, hF, hd, hz, hfit, lr, e1, q⟩ := h
  refine ⟨_, (pss_cons (ps_expr (pe_calX c_check_facts (hr.mono (by decide)) (takes_of rfl rfl rfl rfl) (pa_cons (pv 1) pa_nil)))
      (pss_cons (ps_expr (pe_calX c_check_rules (hr.mono (by decide)) (takes_of rfl rfl rfl rfl) (pa_cons (pv 1) (pa_cons (pv 2) pa_nil))))
      (pss_cons (ps_if (pt_not (pt_val (pe_cal c_is_name (hr.mono (by decide)) (pa_cons (pv 3) pa_nil)))) (pss_one (ps_raise rfl (takes_of rfl rfl rfl rfl) (pmk_err2 e_InvalidBook (hr.mono (by decide)) pe_str (pe_un un_neg pe_int)))) pss_nil)
      (pss_cons (ps_fld (pv 0) (pv 1) rfl)
      (pss_cons (ps_fld (pv 0) (pv 2) rfl)
      (pss_cons (ps_fld (pv 0) (pv 3) rfl)
      (pss_one (ps_fld (pv 0) (pe_lc (own := [("rule", 4), ("_", 5)]) (g := gTup K 2 (gCons (gName 4) (gCons (gName 5) gNil))) (tt := tYes) rfl sc_Book___init__.nd (pi_list (pe_cal c_nested (hr.mono (by decide)) (pa_cons (pv 2) (pa_cons pe_int pa_nil)))) (blkOk_by (own := [("rule", 4), ("_", 5)]) (N := ["self", "facts", "rules", "ruling", "rule", "_"]) (sc := defScope s_Book___init__) (by decide +kernel)) (fun _ _ _ _ _ => (pg_tup (by rfl) (pgs_cons (pg_name (i := 4) sc_Book___init__.nd rfl (Or.inl rfl)) (pgs_cons (pg_name (i := 5) sc_Book___init__.nd rfl (Or.inl rfl)) pgs_nil)))) (fun _ _ _ _ _ => pts_nil) (fun _ _ _ _ _ => (pe_.re (pv 4) (by first | (dsimp only [Cx.blk]; done) | exact rfl)))) rfl)))))))), ?_⟩
  have big : ∀ {m : Nat}, m ≤ 1000 → m ≤ sizeLine := fun {m} h => by rw [sizeLine_eq]; omega
  refine ⟨_, rfl, a, xs, rfl, hA, tA, lA, fun z1 H1 s1 => ?_, e1⟩
  obtain ⟨e2, q⟩ := q z1
  refine ⟨_, rfl, _, rfl, N, a, p, xs, ws, f, rfl, s1.tup hA, s1.tup hP, hF.keeps s1.keeps, hd, hz, hfit, fun z2 H2 s2 => ?_, fun wd i ei hw H' d sH nd => e2 wd i ei hw H' d (s1.trans sH) nd⟩
  obtain ⟨e3, q⟩ := q z2
  have s12 := s1.trans s2
  refine ⟨_, rfl, rl, rfl, big lr, fun H3 s3 => ⟨_, rfl, bcase (fun c1 => ?_) (fun c1 => ?_)⟩⟩
  · exact ⟨1, rfl, ⟨Nat.le_trans (show (Str.ofString "ruling").length ≤ 1000 by decide) (by decide), (show (-1 : Int).natAbs.log2 < 1920 by decide)⟩, fun d nd => e3 ((Bool.not_eq_true' _).mp c1) H3 d (s12.trans s3) nd⟩
  have q := q ((Bool.not_eq_false' _).mp c1)
  have s13 := s12.trans s3
  have hx3 := s13 _ _ hx
  refine ⟨_, rfl, _, rfl, x, B, dx, _, rfl, hx3, T, n1, by decide, ?_⟩
  refine ⟨_, rfl, _, rfl, x, B, dx, _, rfl, upd_same, T, n2, Nat.lt_of_le_of_lt (putF_le (Nat.zero_le 0)) (by decide), ?_⟩
  refine ⟨_, rfl, _, rfl, x, B, dx, _, rfl, upd_same, T, n3, Nat.lt_of_le_of_lt (putF_le (putF_le (Nat.zero_le 0))) (by decide), ?_⟩
  have sx : SameX x H (upd (upd (upd H3 x (.ins B dx (putF "_facts" (.ref a) []))) x (.ins B dx (putF "_rules" (.ref p) (putF "_facts" (.ref a) [])))) x (.ins B dx (putF "_ruling" (.str rl) (putF "_rules" (.ref p) (putF "_facts" (.ref a) []))))) := (((SameX.of s13).put).put).put
  have hx6 : (upd (upd (upd H3 x (.ins B dx (putF "_facts" (.ref a) []))) x (.ins B dx (putF "_rules" (.ref p) (putF "_facts" (.ref a) [])))) x (.ins B dx (putF "_ruling" (.str rl) (putF "_rules" (.ref p) (putF "_facts" (.ref a) []))))) x = some (.ins B dx (putF "_ruling" (.str rl) (putF "_rules" (.ref p) (putF "_facts" (.ref a) [])))) := upd_same
  generalize upd (upd (upd H3 x (.ins B dx (putF "_facts" (.ref a) []))) x (.ins B dx (putF "_rules" (.ref p) (putF "_facts" (.ref a) [])))) x (.ins B dx (putF "_ruling" (.str rl) (putF "_rules" (.ref p) (putF "_facts" (.ref a) [])))) = H6 at sx hx6 ⊢
  have k6 : Keeps N H H6 := sx.keeps hx
  refine ⟨_, rfl, N, p, 0, ws, f, rfl, k6.tup hP, hF.keeps k6, hd, hz, fun H7 D us s7 nD eD hu => ?_⟩
  have hul := hu.len
  rw [RF.pre_len] at hul
  refine ⟨D, rfl, ⟨_, sqL_of eD⟩, fun D2 nD2 => lc_it walk_list (fun i H' => Same H7 H' ∧ ∃ rs, H' D2 = some (.lst rs) ∧ All2 (RefAt K C R N H7) rs (((f.pre 0).take i).map fun q => q.1)) ⟨(Same.refl H7).put nD2, [], upd_same, .nil⟩ (fun _ _ _ h => sqL_of (h.1 _ _ eD)) ?_ ?_⟩
  · rintro i y H8 H9 hi ⟨s, rs, e, hr2⟩ ⟨rfl, hy⟩
    obtain ⟨⟨n, k⟩, hq, t, o, rfl, ht, hN⟩ := hu.get hy
    have ht := s _ _ ht
    have hrl := hr2.len
    rw [List.length_map, List.length_take, RF.pre_len] at hrl
    refine ⟨t, [.ref o, .int (k : Nat)], rfl, sqT_of ht, rfl, _, _, rfl, _, _, rfl, rfl, rfl, yes_ ⟨_, rfl, rs, e, small1000 (by omega), s.put nD2, _, upd_same, ?_⟩⟩
    rw [take_more hq, List.map_append]
    exact hr2.snoc ⟨o, rfl, hN⟩
  rintro H8 ⟨s8, rs, e8, hr2⟩
  rw [hu.len, List.take_length] at hr2
  have s68 := s7.trans s8
  have hx8 := s68 _ _ hx6
  have ne : D2 ≠ x := fun z => by rw [z, hx8] at e8; cases e8
  refine ⟨_, rfl, x, B, dx, _, rfl, hx8, T, n4, Nat.lt_of_le_of_lt (putF_le (putF_le (putF_le (Nat.zero_le 0)))) (by decide), ?_⟩
  have kk : Keeps N H7 (upd H8 x (.ins B dx (putF "_numbered" (.ref D2) (putF "_ruling" (.str rl) (putF "_rules" (.ref p) (putF "_facts" (.ref a) [])))))) := Keeps.trans s8.keeps (keeps_make hx8)
  exact q _ D2 rs (sx.same s68).put upd_same ne (sx.free ne (s7.free nD2)) (by rw [upd_ne ne]; exact e8) (hr2.mono fun _ _ x => x.keeps kk)
end
end Sc
namespace Sc
open PySem PySem.Spec PyProof.Rows L2
/-! ### xs[i] += e -/
def rGetL (K : PySem.W.Frag) : V → V → Hp → VK → Prop := fun x y H Q => ∃ (p : Addr) (xs : List V) (i : Nat) (v : V), x = .ref p ∧ y = .int i ∧ SqL K H p xs ∧ xs[i]? = some v ∧ Q v H
theorem get_list {X : Cx} : PGet X (rGetL X.K) := by
  intro pins s σ H x y v u Q I rx ry h
  obtain ⟨p, xs, i, z, rfl, rfl, hq, he, q⟩ := h
  cases rx
  obtain ⟨t, rfl⟩ := ry
  obtain ⟨its, r, pl, hz⟩ := I.list hq
  obtain ⟨w, ew, rw'⟩ := r.get he
  have hl := r.length
  have hn := line63
  have hi : i < its.length := by
    by_cases c : i < its.length
    · exact c
    · rw [List.getElem?_eq_none (by omega)] at ew; cases ew
  exact wpAny_getItem_list pl.isList (by omega) (by omega) (by simpa using ew) ⟨z, H, I, rw', q⟩
/-! ### rows of rules, longer and shorter -/
namespace RF
/-- something of all rules -/
def every (p : Nd → Prop) : RF → Prop
  | .nil => True
  | .cons nm hs fs rl exc rest => p ⟨nm, hs, fs, rl, exc⟩ ∧ exc.every p ∧ rest.every p
theorem every_nodes {p : Nd → Prop} : ∀ {f : RF}, f.every p ↔ ∀ n ∈ f.nodes, p n ∧ n.exc.every p
  | .nil => ⟨(fun _ _ h => nomatch h), fun _ => trivial⟩
  | .cons nm hs fs rl exc rest => by
    constructor
    · rintro ⟨h1, h2, h3⟩ n hn
      rcases List.mem_cons.mp hn with rfl | hn
      · exact ⟨h1, h2⟩
      · exact every_nodes.mp h3 n hn
    · intro h
      exact ⟨(h _ List.mem_cons_self).1, (h _ List.mem_cons_self).2, every_nodes.mpr fun n hn => h n (List.mem_cons_of_mem _ hn)⟩
theorem every_pre {p : Nd → Prop} : ∀ {f : RF} {k : Nat}, f.every p → ∀ q ∈ f.pre k, p q.1
  | .nil, k, _, q, h => nomatch h
  | .cons nm hs fs rl exc rest, k, h, q, hq => by
    rcases List.mem_cons.mp hq with rfl | hq
    · exact h.1
    rcases List.mem_append.mp hq with hq | hq
    · exact every_pre h.2.1 q hq
    · exact every_pre h.2.2 q hq
theorem every_mono {p r : Nd → Prop} (g : ∀ n, p n → r n) : ∀ {f : RF}, f.every p → f.every r
  | .nil, _ => trivial
  | .cons nm hs fs rl exc rest, h => ⟨g _ h.1, every_mono g h.2.1, every_mono g h.2.2⟩
def snoc : RF → Nd → RF
  | .nil, n => .cons n.nm n.hs n.fs n.rl n.exc .nil
  | .cons nm hs fs rl exc rest, n => .cons nm hs fs rl exc (rest.snoc n)
theorem snoc_nodes : ∀ (f : RF) (n : Nd), (f.snoc n).nodes = f.nodes ++ [n]
  | .nil, n => rfl
  | .cons nm hs fs rl exc rest, n => by show _ :: (rest.snoc n).nodes = _; rw [snoc_nodes rest n]; rfl
theorem snoc_size : ∀ (f : RF) (n : Nd), (f.snoc n).size = f.size + (n.exc.size + 1)
  | .nil, n => by show n.exc.size + 1 + 0 = 0 + _; omega
  | .cons nm hs fs rl exc rest, n => by show exc.size + 1 + (rest.snoc n).size = exc.size + 1 + rest.size + _; rw [snoc_size rest n]; omega
theorem snoc_dep : ∀ (f : RF) (n : Nd), (f.snoc n).dep = max f.dep (n.exc.dep + 1)
  | .nil, n => by show max (n.exc.dep + 1) 0 = max 0 _; omega
  | .cons nm hs fs rl exc rest, n => by show max (exc.dep + 1) (rest.snoc n).dep = max (max (exc.dep + 1) rest.dep) _; rw [snoc_dep rest n]; omega
theorem snoc_pre : ∀ (f : RF) (n : Nd) (k : Nat), (f.snoc n).pre k = f.pre k ++ ((n, k) :: n.exc.pre (k + 1))
  | .nil, n, k => by show (_, k) :: (n.exc.pre (k + 1) ++ []) = [] ++ _; rw [List.append_nil]; rfl
  | .cons nm hs fs rl exc rest, n, k => by show (_, k) :: (exc.pre (k + 1) ++ (rest.snoc n).pre k) = (_, k) :: (exc.pre (k + 1) ++ rest.pre k) ++ _; rw [snoc_pre rest n k]; simp
theorem snoc_names (f : RF) (n : Nd) : (f.snoc n).names = f.names ++ n.nm :: n.exc.names := by
  rw [← pre_names (f.snoc n) 0, snoc_pre, List.map_append, pre_names, List.map_cons, pre_names]
theorem snoc_every {p : Nd → Prop} {f : RF} {n : Nd} (h : f.every p) (h1 : p n) (h2 : n.exc.every p) : (f.snoc n).every p := every_nodes.mpr fun m hm => by
  rw [snoc_nodes] at hm
  rcases List.mem_append.mp hm with hm | hm
  · exact every_nodes.mp h m hm
  · rw [List.mem_singleton.mp hm]
    exact ⟨h1, h2⟩
end RF
theorem rows_snoc {K : PySem.W.Frag} {H : Hp} {f : RF} {vs : List V} {v : V} {n : Nd} (h : RowsAt K H f vs) (r : RowAt K H v n) : RowsAt K H (f.snoc n) (vs ++ [v]) := RowsAt.of (by rw [RF.snoc_nodes]; exact h.all.snoc r)
/-! ### all but the draws' state and a counter stands -/
structure Kc (a l c : Addr) (H H' : Hp) : Prop where
  old : RS H a l
  new : RS H' a l
  keep : ∀ b o, b ≠ a → b ≠ l → b ≠ c → H b = some o → H' b = some o
abbrev NoL : Addr → Prop := fun _ => False
section
variable {K : PySem.W.Frag} {a l c : Addr} {H H' H'' : Hp}
theorem Kp.kc (k : Kp a l H H') : Kc a l c H H' := ⟨k.old, k.new, fun b o n1 n2 _ e => k.keep b o n1 n2 e⟩
theorem Kc.trans (k : Kc a l c H H') (k' : Kc a l c H' H'') : Kc a l c H H'' := ⟨k.old, k'.new, fun b o n1 n2 n3 e => k'.keep b o n1 n2 n3 (k.keep b o n1 n2 n3 e)⟩
theorem Kc.of (r : RS H a l) (s : Same H H') : Kc a l c H H' := ⟨r, r.same s, fun b o _ _ _ e => s b o e⟩
theorem Kc.same (k : Kc a l c H H') (s : Same H' H'') : Kc a l c H H'' := k.trans (.of k.new s)
theorem Kc.put0 {p : Addr} {o : HO} (k : Kc a l c H H') (n : H p = none) : Kc a l c H (upd H' p o) := by
  obtain ⟨n1, n2⟩ := k.old.no n
  obtain ⟨st, x, ns, h1, h2, q⟩ := k.new
  exact ⟨k.old, ⟨st, x, ns, by rw [upd_ne n1.symm]; exact h1, by rw [upd_ne n2.symm]; exact h2, q⟩, fun b o m1 m2 m3 e => by rw [upd_ne (ne_of_none e n)]; exact k.keep b o m1 m2 m3 e⟩
/-- the counter changes -/
theorem Kc.count {o : HO} (k : Kc a l c H H') (n1 : c ≠ a) (n2 : c ≠ l) : Kc a l c H (upd H' c o) := by
  obtain ⟨st, x, ns, h1, h2, q⟩ := k.new
  exact ⟨k.old, ⟨st, x, ns, by rw [upd_ne n1.symm]; exact h1, by rw [upd_ne n2.symm]; exact h2, q⟩, fun b o m1 m2 m3 e => by rw [upd_ne m3]; exact k.keep b o m1 m2 m3 e⟩
theorem Kc.keeps {xs : List V} (k : Kc a l c H H') (e : H c = some (.lst xs)) : Keeps NoL H H' := fun b o st h => by
  obtain ⟨sd, x, ns, h1, h2, q⟩ := k.old
  have nl : ∀ zs, o ≠ .lst zs := fun zs z => st.1 zs z
  exact k.keep b o (fun z => by rw [z, h1] at h; exact nl _ (Option.some.inj h).symm) (fun z => by rw [z, h2] at h; exact nl _ (Option.some.inj h).symm) (fun z => by rw [z, e] at h; exact nl _ (Option.some.inj h).symm) h
theorem Kp.keepsN (k : Kp a l H H') : Keeps NoL H H' := k.keeps id id
theorem Kc.free {b : Addr} {xs : List V} (k : Kc a l c H H') (ec : H' c = some (.lst xs)) (e : H' b = none) : H b = none := by
  cases q : H b with
  | none => rfl
  | some o =>
    obtain ⟨n1, n2⟩ := k.new.no e
    rw [k.keep b o n1 n2 (fun z => by rw [z, ec] at e; cases e) q] at e
    cases e
end
/-! ### drawn rules -/
def fourR : List Str := ["pay", "warn", "free", "none"]
/-- the name of the i-th drawn rule -/
def rn (i : Nat) : Str := Str.ofString "r" ++ (⟨#[letters.cps.toList.getD i 0]⟩ : Str)
def rnames (c n : Nat) : List Str := (List.range' c n).map rn
theorem rnames_app {c n m : Nat} : rnames c n ++ rnames (c + n) m = rnames c (n + m) := by
  unfold rnames
  rw [← List.map_append, List.range'_append_1]
theorem rnames_one {c m : Nat} : rn c :: rnames (c + 1) m = rnames c (m + 1) := rfl
theorem rn_name : ∀ i, i < 24 → isName (rn i) = true := by decide +kernel
theorem four_name : ∀ x ∈ fourR, isName x = true := by decide +kernel
end Sc
namespace Sc
open PySem PySem.Spec PyProof.Rows L2
/-! ### what a book is asked -/
theorem sc_Book___contains__ : FnScope ["self", "name", "rule"] ["self", "name"] (defScope s_Book___contains__) := ⟨rfl, rfl, rfl, by decide +kernel, rfl, by decide +kernel, by decide +kernel⟩
theorem sc_Book___getitem__ : FnScope ["self", "name", "rule"] ["self", "name"] (defScope s_Book___getitem__) := ⟨rfl, rfl, rfl, by decide +kernel, rfl, by decide +kernel, by decide +kernel⟩
theorem decV_str {a b : Str} : decide (V.str a = V.str b) = decide (a = b) := by
  rw [decide_eq_decide]
  exact ⟨V.str.inj, fun h => by rw [h]⟩
section
variable {P : Program} {w : World} {K : PySem.W.Frag} {mg : Str → Option Value} {base : Heap} {C R B CF CB CU : Addr}
def sp_contains (K : PySem.W.Frag) (C R B : Addr) : Sp := fun vs H Q _ => ∃ (N : Addr → Prop) (o : Addr) (xs : List Str) (f : RF) (rl nm : Str), vs = [.ref o, .str nm] ∧ BookAt K C R B N H o xs f rl ∧ f.size ≤ 900 ∧ ∀ H', Same H H' → Q (.bl (decide (nm ∈ f.names))) H'
theorem ok_contains {f : Addr} {fd : FuncData} (F : Fun K "__contains__" "Book.__contains__" s_Book___contains__ f fd) (Bl : Blt mg) (T : Cls K B) (n4 : NoAttr K B "_numbered") (kR : RuleX P w K mg base R) :
    FnOk P w K mg base CX0 3 f fd ["self", "name"] (sp_contains K C R B) := by
  refine F.ok sc_Book___contains__ (fun vs H Q E h => by obtain ⟨N, o, xs, f, rl, nm, rfl, _⟩ := h; rfl) (fun cdv A outer s H vs Q E hr h => ?_)
  obtain ⟨N, o, xs, f, rl, nm, rfl, ⟨dx, a, p, l, ws, us, ho, hS, hP, hF, ⟨nl, hl⟩, hus⟩, hz, q⟩ := h
  have hlen := hus.len
  rw [List.length_map, RF.pre_len] at hlen
  refine ⟨_, (pss_one (ps_ret (pe_callB (cr_any rfl) (by rfl) Bl.b_any (by decide +kernel) (pa_cons (pe_lc (own := [("rule", 2)]) (g := gName 2) (tt := tYes) rfl sc_Book___contains__.nd (pi_list (pe_fld (pv 0) rfl)) (blkOk_by (own := [("rule", 2)]) (N := ["self", "name", "rule"]) (sc := defScope s_Book___contains__) (by decide +kernel)) (fun _ _ _ _ _ => (pg_name (i := 2) sc_Book___contains__.nd rfl (Or.inl rfl))) (fun _ _ _ _ _ => pts_nil) (fun _ _ _ _ _ => (pe_.re (pe_cmpR op_eq (pe_cprop kR.name kR.cls (hr.mono (by decide)) (pv 2)) (pv 1) (nomark _)) (by first | (dsimp only [Cx.blk]; done) | exact rfl)))) pa_nil)))), ?_⟩
  refine ⟨_, rfl, o, B, dx, _, _, rfl, ho, T, n4, rfl, l, rfl, ⟨_, sqL_of hl⟩, fun D nD => lc_it walk_list (fun i H' => Same H H' ∧ H' D = some (.lst ((((f.pre 0).map fun q => q.1).take i).map fun n => V.bl (decide (n.nm = nm))))) ⟨(Same.refl H).put nD, upd_same⟩ (fun _ _ _ h => sqL_of (h.1 _ _ hl)) ?_ ?_⟩
  · rintro i y H2 H3 hi ⟨s, e⟩ ⟨rfl, hy⟩
    obtain ⟨n, hn, o', rfl, hN⟩ := hus.get hy
    obtain ⟨dx', c', pe', l', ws', ho', _⟩ := hN.keeps (N := N) s.keeps
    refine ⟨rfl, yes_ ⟨_, rfl, o', dx', _, rfl, ho', o', dx', _, _, rfl, ho', rfl, _, rfl, rfl, ?_⟩⟩
    refine grow (acc := fun i => (((f.pre 0).map fun q => q.1).take i).map fun n => V.bl (decide (n.nm = nm))) nD s e ?_ ?_
    · rw [List.length_map, List.length_take, List.length_map, RF.pre_len]
      exact small1000 (by omega)
    · show List.map _ _ = List.map _ _ ++ _
      rw [take_more hn, List.map_append, decV_str]
      rfl
  rintro H2 ⟨s, e⟩
  rw [hus.len, List.take_length] at e
  refine ⟨D, ((f.pre 0).map fun q => q.1).map fun n => decide (n.nm = nm), rfl, sqL_of (by rw [e]; simp only [List.map_map]; rfl), ?_⟩
  have h := q H2 s
  rw [show decide (nm ∈ f.names) = (((f.pre 0).map fun q => q.1).map fun n => decide (n.nm = nm)).any id by
    rw [List.any_map, List.any_map, Bool.eq_iff_iff, decide_eq_true_iff, List.any_eq_true]
    unfold RF.names
    rw [List.mem_map]
    exact ⟨fun ⟨q, hq, e⟩ => ⟨q, hq, decide_eq_true e⟩, fun ⟨q, hq, e⟩ => ⟨q, hq, of_decide_eq_true e⟩⟩] at h
  exact h
/-- the first rule of a name -/
def RF.find (f : RF) (nm : Str) : Option Nd := ((f.pre 0).map fun q => q.1).find? fun n => decide (n.nm = nm)
def sp_getitem (K : PySem.W.Frag) (C R B CU : Addr) : Sp := fun vs H Q E => ∃ (N : Addr → Prop) (o : Addr) (xs : List Str) (f : RF) (rl nm : Str), vs = [.ref o, .str nm] ∧ BookAt K C R B N H o xs f rl ∧ f.size ≤ 900 ∧
  (∀ n v, f.find nm = some n → RefAt K C R N H v n → Q v H) ∧ (f.find nm = none → ∀ H', Same H H' → E (.ref CU) none H')
theorem ok_getitem {f : Addr} {fd : FuncData} (F : Fun K "__getitem__" "Book.__getitem__" s_Book___getitem__ f fd) (Bl : Blt mg) (T : Cls K B) (n4 : NoAttr K B "_numbered") (kR : RuleX P w K mg base R) (e_UnknownRule : ErrMk0 K mg "UnknownRule" CU) :
    FnOk P w K mg base (L2.CX P w) 3 f fd ["self", "name"] (sp_getitem K C R B CU) := by
  refine F.okX sc_Book___getitem__ (fun vs H Q E h => by obtain ⟨N, o, xs, f, rl, nm, rfl, _⟩ := h; rfl) (fun cdv A outer s H vs Q E hr h => ?_)
  obtain ⟨N, o, xs, f, rl, nm, rfl, ⟨dx, a, p, l, ws, us, ho, hS, hP, hF, ⟨nl, hl⟩, hus⟩, hz, q, er⟩ := h
  have hlen := hus.len
  rw [List.length_map, RF.pre_len] at hlen
  refine ⟨_, (pss_cons (ps_for (passes_of rfl) rfl (pi_list (pe_fld (pv 0) rfl)) (pg_name (i := 2) sc_Book___getitem__.nd rfl (Or.inl rfl)) (pss_one (ps_if (pt_cmpR op_eq (pe_cprop kR.name kR.cls (hr.mono (by decide)) (pv 2)) (pv 1) (nomark _)) (pss_one (ps_ret (pv 2))) pss_nil)))
      (pss_one (ps_raise rfl (takes_of rfl rfl rfl rfl) (pmk_err0 e_UnknownRule)))), ?_⟩
  refine ⟨_, rfl, o, B, dx, _, _, rfl, ho, T, n4, rfl, l, rfl, ⟨_, sqL_of hl⟩, for_it walk_list (fun i σ H' => ∃ y, σ = [some (.ref o), some (.str nm), y] ∧ H' = H ∧ ∀ (j : Nat) (n : Nd), j < i → ((f.pre 0).map fun q => q.1)[j]? = some n → n.nm ≠ nm) ⟨none, rfl, rfl, fun j n hj => absurd hj (Nat.not_lt_zero j)⟩ (fun _ _ _ _ ⟨_, _, e, _⟩ => by rw [e]; exact sqL_of hl) ?_ ?_⟩
  · rintro i y σ H2 H3 hi ⟨y', rfl, rfl, hne⟩ ⟨rfl, hy⟩
    obtain ⟨n, hn, o', rfl, hN⟩ := hus.get hy
    have hR : RefAt K C R N _ (.ref o') n := ⟨o', rfl, hN⟩
    obtain ⟨dx', c', pe', l', ws', ho', _⟩ := hN
    refine ⟨_, rfl, o', dx', _, rfl, ho', o', dx', _, _, rfl, ho', rfl, _, rfl, rfl, _, rfl, bcase (fun c1 => ?_) (fun c1 => ?_)⟩
    · have c1 := V.str.inj (of_decide_eq_true c1)
      refine ⟨_, rfl, q n _ ?_ hR⟩
      unfold RF.find
      rw [List.find?_eq_some_iff_getElem]
      obtain ⟨hil, e⟩ := List.getElem?_eq_some_iff.mp hn
      refine ⟨decide_eq_true c1, i, hil, e, fun j hj => ?_⟩
      rw [decide_eq_false (hne j _ hj (List.getElem?_eq_getElem (by omega)))]
      rfl
    · have c1 : n.nm ≠ nm := fun z => of_decide_eq_false c1 (by rw [z])
      refine ⟨_, rfl, rfl, fun j m hj hm => ?_⟩
      by_cases hji : j < i
      · exact hne j m hji hm
      · have e : j = i := by omega
        subst e
        rw [hn] at hm
        cases hm
        exact c1
  · rintro σ H2 ⟨y', rfl, rfl, hne⟩
    refine er ?_ H2 (Same.refl H2)
    unfold RF.find
    rw [List.find?_eq_none]
    intro m hm
    obtain ⟨j, hj, e⟩ := List.getElem_of_mem hm
    rw [decide_eq_false (hne j m (by rw [hus.len]; exact hj) (by rw [List.getElem?_eq_getElem hj, e]))]
    exact Bool.false_ne_true
end
end Sc
namespace Sc
open PySem PySem.Spec PyProof.Rows L2
theorem sc_path_to : FnScope ["rules", "name", "rule", "inner"] ["rules", "name"] (defScope s_path_to) := ⟨rfl, rfl, rfl, by decide +kernel, rfl, by decide +kernel, by decide +kernel⟩
theorem sc_next_beside : FnScope ["book", "name", "path", "beside", "place", "rule"] ["book", "name"] (defScope s_next_beside) := ⟨rfl, rfl, rfl, by decide +kernel, rfl, by decide +kernel, by decide +kernel⟩
/-- the way to a rule -/
def RF.path (nm : Str) : RF → List Nd
  | .nil => []
  | .cons n hs fs rl exc rest => if n = nm then [⟨n, hs, fs, rl, exc⟩] else if RF.path nm exc = [] then RF.path nm rest else ⟨n, hs, fs, rl, exc⟩ :: RF.path nm exc
theorem RF.path_len : ∀ (f : RF) (nm : Str), (f.path nm).length ≤ f.size
  | .nil, _ => Nat.le_refl 0
  | .cons n hs fs rl exc rest, nm => by
    have h1 := RF.path_len exc nm
    have h2 := RF.path_len rest nm
    show (if n = nm then _ else if RF.path nm exc = [] then RF.path nm rest else _).length ≤ exc.size + 1 + rest.size
    split
    · show 1 ≤ _; omega
    · split
      · omega
      · rw [List.length_cons]; omega
/-- such a rule is not on the way -/
def Off (nm : Str) (n : Nd) : Prop := n.nm ≠ nm ∧ n.exc.path nm = []
theorem RF.path_none {nm : Str} : ∀ {f : RF}, (∀ n ∈ f.nodes, Off nm n) → f.path nm = []
  | .nil, _ => rfl
  | .cons n hs fs rl exc rest, h => by
    obtain ⟨h1, h2⟩ := h ⟨n, hs, fs, rl, exc⟩ List.mem_cons_self
    show (if n = nm then _ else if RF.path nm exc = [] then RF.path nm rest else _) = _
    rw [if_neg h1, if_pos h2]
    exact RF.path_none fun m hm => h m (List.mem_cons_of_mem _ hm)
theorem RF.path_at {nm : Str} : ∀ {f : RF} {i : Nat} {n : Nd}, f.nodes[i]? = some n → (∀ (j : Nat) (m : Nd), j < i → f.nodes[j]? = some m → Off nm m) → ¬ Off nm n → f.path nm = if n.nm = nm then [n] else n :: n.exc.path nm
  | .nil, i, n, h, _, _ => by cases i <;> cases h
  | .cons x hs fs rl exc rest, 0, n, h, _, no => by
    cases h
    show (if x = nm then _ else if RF.path nm exc = [] then _ else _) = (if x = nm then _ else _)
    by_cases e : x = nm
    · rw [if_pos e, if_pos e]
    · rw [if_neg e, if_neg e, if_neg fun z => no ⟨e, z⟩]
  | .cons x hs fs rl exc rest, i + 1, n, h, off, no => by
    obtain ⟨h1, h2⟩ := off 0 ⟨x, hs, fs, rl, exc⟩ (Nat.zero_lt_succ i) rfl
    show (if x = nm then _ else if RF.path nm exc = [] then RF.path nm rest else _) = _
    rw [if_neg h1, if_pos h2]
    exact RF.path_at (i := i) h (fun j m hj hm => off (j + 1) m (by omega) hm) no
section
variable {P : Program} {w : World} {K : PySem.W.Frag} {mg : Str → Option Value} {base : Heap} {C R B CF CB CU CN : Addr}
def sp_path (K : PySem.W.Frag) (C R : Addr) (d : Nat) : Sp := fun vs H Q _ => ∃ (N : Addr → Prop) (p : Addr) (nm : Str) (ws : List V) (f : RF), vs = [.ref p, .str nm] ∧ SqT K H p ws ∧ ForAt K C R N H f ws ∧ f.dep ≤ d ∧ f.size ≤ 900 ∧
  ∀ H' D us, Same H H' → H' D = some (.lst us) → All2 (RefAt K C R N H') us (f.path nm) → Q (.ref D) H'
theorem ok_path {d : Nat} {f : Addr} {fd : FuncData} (F : Fun K "path_to" "path_to" s_path_to f fd) (kR : RuleX P w K mg base R) (c_path_to : Cal P w K mg base CX0 (d + 2) "path_to" ["rules", "name"] (Below (sp_path K C R) d)) :
    FnOk P w K mg base CX0 (d + 3) f fd ["rules", "name"] (sp_path K C R d) := by
  refine F.ok sc_path_to (fun vs H Q E h => by obtain ⟨N, p, nm, ws, f, rfl, _⟩ := h; rfl) (fun cdv A outer s H vs Q E hr h => ?_)
  obtain ⟨N, p, nm, ws, f, rfl, hP, hF, hd, hz, q⟩ := h
  have hA := hF.all
  have hln := hA.len
  refine ⟨_, (pss_cons (ps_for PassesOwn.never rfl (pi_tup (pv 0)) (pg_name (i := 2) sc_path_to.nd rfl (Or.inl rfl)) (pss_cons (ps_if (pt_cmpR op_eq (pe_cprop kR.name kR.cls (hr.mono (by omega)) (pv 2)) (pv 1) (nomark _)) (pss_one (ps_ret (pe_lst (pa_cons (pv 2) pa_nil)))) pss_nil)
      (pss_cons (ps_set (i := 3) sc_path_to.nd rfl (Or.inl rfl) (pe_cal c_path_to hr (pa_cons (pe_cprop kR.exceptions kR.cls (hr.mono (by omega)) (pv 2)) (pa_cons (pv 1) pa_nil))))
      (pss_one (ps_if (pt_tru (pv 3) (by intro _; rfl)) (pss_one (ps_ret (pe_op op_cat (pe_lst (pa_cons (pv 2) pa_nil)) (pv 3)))) pss_nil)))))
      (pss_one (ps_ret (pe_lst pa_nil)))), ?_⟩
  refine ⟨_, rfl, p, rfl, ⟨_, hP⟩, for_it walk_tup (fun i σ H' => ∃ y2 y3, σ = [some (.ref p), some (.str nm), y2, y3] ∧ Same H H' ∧ ∀ (j : Nat) (m : Nd), j < i → f.nodes[j]? = some m → Off nm m)
    ⟨none, none, rfl, Same.refl H, fun j m hj => absurd hj (Nat.not_lt_zero j)⟩ (fun _ _ _ _ ⟨_, _, _, s, _⟩ => s.tup hP) ?_ ?_⟩
  · rintro i y σ H3 H2 hi ⟨y2, y3, rfl, s, hoff⟩ ⟨rfl, hy⟩
    obtain ⟨n, hn, o, rfl, hN⟩ := hA.get hy
    have hmem : n ∈ f.nodes := List.mem_of_getElem? hn
    have hdm := RF.dep_mem f n hmem
    have hsm := RF.size_mem f n hmem
    obtain ⟨d, rfl⟩ : ∃ d', d = d' + 1 := ⟨d - 1, by omega⟩
    have hR : RefAt K C R N _ (.ref o) n := ⟨o, rfl, hN.keeps (N := N) s.keeps⟩
    obtain ⟨dx', c', pe', l', ws', ho', hc', hpe', hle', hfe'⟩ := hN.keeps (N := N) s.keeps
    refine ⟨_, rfl, o, dx', _, rfl, ho', o, dx', _, _, rfl, ho', rfl, _, rfl, rfl, _, rfl, bcase (fun c1 => ?_) (fun c1 => ?_)⟩
    · have c1 : n.nm = nm := V.str.inj (of_decide_eq_true c1)
      refine ⟨_, rfl, (by show 1 ≤ sizeLine; decide), fun D nD => ?_⟩
      have s9 := (Same.refl _).put (o := .lst [.ref o]) nD
      refine q _ D [.ref o] (s.trans s9) upd_same ?_
      rw [RF.path_at hn hoff (fun z => z.1 c1), if_pos c1]
      exact .one (hR.keeps (N := N) s9.keeps)
    have c1 : n.nm ≠ nm := fun z => of_decide_eq_false c1 (by rw [z])
    refine ⟨_, rfl, o, dx', _, rfl, ho', o, dx', _, _, rfl, ho', rfl, _, rfl, N, pe', nm, ws', n.exc, rfl, hpe', hfe', by omega, by omega, fun H5 D us s5 eD hu => ?_⟩
    refine ⟨_, rfl, _, .inl ⟨_, sqL_of eD, rfl⟩, bcase (fun c2 => ?_) (fun c2 => ?_)⟩
    · have hne : n.exc.path nm ≠ [] := fun z => by
        rw [z] at hu
        cases hu
        cases c2
      refine ⟨_, rfl, (by show 1 ≤ sizeLine; decide), fun l6 n6 => ?_⟩
      have s6 := (Same.refl _).put (o := .lst [.ref o]) n6
      have hul := hu.len
      have hpl := RF.path_len n.exc nm
      refine ⟨_, rfl, l6, D, _, _, rfl, rfl, upd_same, s6 _ _ eD, by rw [sizeLine_eq]; show 1 + us.length ≤ _; omega, fun l7 n7 => ?_⟩
      have s7 := s6.put' (o := .lst ([V.ref o] ++ us)) n7
      have s57 := s5.trans s7
      refine q _ l7 _ (s.trans s57) upd_same ?_
      rw [RF.path_at hn hoff (fun z => hne z.2), if_neg c1]
      exact .cons (hR.keeps (N := N) s57.keeps) (hu.mono fun _ _ x => x.keeps (N := N) s7.keeps)
    · have he : n.exc.path nm = [] := by
        cases us with
        | nil => have := hu.len; exact List.length_eq_zero_iff.mp this.symm
        | cons x r => cases c2
      refine ⟨_, _, rfl, s.trans s5, fun j m hj hm => ?_⟩
      by_cases hji : j < i
      · exact hoff j m hji hm
      · have e : j = i := by omega
        subst e
        rw [hn] at hm
        cases hm
        exact ⟨c1, he⟩
  · rintro σ H2 ⟨y2, y3, rfl, s, hoff⟩
    refine ⟨Nat.zero_le _, fun D nD => ?_⟩
    have s9 := (Same.refl _).put (o := .lst []) nD
    refine q _ D [] (s.trans s9) upd_same ?_
    rw [RF.path_none fun n hn => ?_]
    · exact .nil
    · obtain ⟨j, hj, e⟩ := List.getElem_of_mem hn
      exact hoff j n (by rw [hln]; exact hj) (by rw [List.getElem?_eq_getElem hj, e])
end
end Sc
namespace Sc
open PySem PySem.Spec PyProof.Rows L2
/-- the class Book as its users see it -/
structure BookX (P : Program) (w : World) (K : PySem.W.Frag) (mg : Str → Option Value) (base : Heap) (B : Addr) : Prop where
  cls : Cls K B
  facts : PropX P w K mg base B "facts" "_facts"
  rules : PropX P w K mg base B "rules" "_rules"
  ruling : PropX P w K mg base B "ruling" "_ruling"
theorem RF.path_no {nm : Str} : ∀ {f : RF}, ¬ nm ∈ f.names → f.path nm = []
  | .nil, _ => rfl
  | .cons n hs fs rl exc rest, h => by
    rw [← RF.pre_names _ 0] at h
    have e : ((RF.cons n hs fs rl exc rest).pre 0).map (fun p => p.1.nm) = n :: (exc.names ++ rest.names) := by
      show n :: ((exc.pre 1 ++ rest.pre 0).map _) = _
      rw [List.map_append, RF.pre_names, RF.pre_names]
    rw [e] at h
    have h1 : ¬ n = nm := fun z => h (by rw [z]; exact List.mem_cons_self)
    show (if n = nm then _ else if RF.path nm exc = [] then RF.path nm rest else _) = _
    rw [if_neg h1, if_pos (RF.path_no fun z => h (List.mem_cons_of_mem _ (List.mem_append_left _ z)))]
    exact RF.path_no fun z => h (List.mem_cons_of_mem _ (List.mem_append_right _ z))
section
variable {P : Program} {w : World} {K : PySem.W.Frag} {mg : Str → Option Value} {base : Heap} {C R B CF CB CU CN : Addr}
def sp_beside_no (K : PySem.W.Frag) (C R B CU : Addr) : Sp := fun vs H Q E => ∃ (N : Addr → Prop) (o : Addr) (xs : List Str) (f : RF) (rl nm : Str), vs = [.ref o, .str nm] ∧ BookAt K C R B N H o xs f rl ∧ f.dep ≤ 12 ∧ f.size ≤ 900 ∧ ¬ nm ∈ f.names ∧ ∀ H', Same H H' → E (.ref CU) none H'
theorem ok_beside_no {f : Addr} {fd : FuncData} (F : Fun K "next_beside" "next_beside" s_next_beside f fd) (Bl : Blt mg) (kR : RuleX P w K mg base R) (kB : BookX P w K mg base B) (e_UnknownRule : ErrMk0 K mg "UnknownRule" CU) (e_NoNeighbor : ErrMk0 K mg "NoNeighbor" CN)
    (c_path_to : Cal P w K mg base CX0 15 "path_to" ["rules", "name"] (sp_path K C R 12)) : FnOk P w K mg base (L2.CX P w) 16 f fd ["book", "name"] (sp_beside_no K C R B CU) := by
  refine F.okX sc_next_beside (fun vs H Q E h => by obtain ⟨N, o, xs, f, rl, nm, rfl, _⟩ := h; rfl) (fun cdv A outer s H vs Q E hr h => ?_)
  obtain ⟨N, o, xs, f, rl, nm, rfl, ⟨dx, a, p, l, ws, us, ho, hS, hP, hF, ⟨nl, hl⟩, hus⟩, hd, hz, hno, er⟩ := h
  refine ⟨_, (pss_cons (ps_set (i := 2) sc_next_beside.nd rfl (Or.inl rfl) (pe_cal c_path_to (hr.mono (by decide)) (pa_cons (pe_cprop kB.rules kB.cls (hr.mono (by decide)) (pv 0)) (pa_cons (pv 1) pa_nil))))
      (pss_cons (ps_if (pt_not (pt_tru (pv 2) (by intro _; rfl))) (pss_one (ps_raise rfl (takes_of rfl rfl rfl rfl) (pmk_err0 e_UnknownRule))) pss_nil)
      (pss_cons (ps_set (i := 3) sc_next_beside.nd rfl (Or.inl rfl) (pe_ifExp (pt_cmpR op_gt (pe_callB call_len_seq (by rfl) Bl.b_len PySem.boot_len (pa_cons (pv 2) pa_nil)) pe_int (nomark _)) (pe_cprop kR.exceptions kR.cls (hr.mono (by decide)) (pe_ix ix_list (pv 2) (pe_un un_neg pe_int) (fun _ _ => rfl))) (pe_cprop kB.rules kB.cls (hr.mono (by decide)) (pv 0))))
      (pss_cons (ps_set (i := 4) sc_next_beside.nd rfl (Or.inl rfl) (pe_op op_add (pe_bm PySem.F.plainAttrs_list PySem.F.slot_list_index PySem.F.type_list_index mt_index (pe_lc (own := [("rule", 5)]) (g := gName 5) (tt := tYes) rfl sc_next_beside.nd (pi_tup (pv 3)) (blkOk_by (own := [("rule", 5)]) (N := ["book", "name", "path", "beside", "place", "rule"]) (sc := defScope s_next_beside) (by decide +kernel)) (fun _ _ _ _ _ => (pg_name (i := 5) sc_next_beside.nd rfl (Or.inl rfl))) (fun _ _ _ _ _ => pts_nil) (fun _ _ _ _ _ => (pe_.re (pe_cprop kR.name kR.cls (hr.mono (by decide)) (pv 5)) (by first | (dsimp only [Cx.blk]; done) | exact rfl)))) (pa_cons (pv 1) pa_nil)) pe_int))
      (pss_cons (ps_if (pt_cmpR op_eq (pv 4) (pe_callB call_len_seq (by rfl) Bl.b_len PySem.boot_len (pa_cons (pv 3) pa_nil)) (nomark _)) (pss_one (ps_raise rfl (takes_of rfl rfl rfl rfl) (pmk_err0 e_NoNeighbor))) pss_nil)
      (pss_one (ps_ret (pe_ix ix_tup (pv 3) (pv 4) (fun _ _ => rfl))))))))), ?_⟩
  refine ⟨_, rfl, o, dx, _, rfl, ho, o, dx, _, _, rfl, ho, rfl, _, rfl, N, p, nm, ws, f, rfl, hP, hF, hd, hz, fun H5 D us s5 eD hu => ?_⟩
  rw [RF.path_no hno] at hu
  cases hu
  exact ⟨_, rfl, _, .inl ⟨_, sqL_of eD, rfl⟩, iteT (er H5 s5)⟩
end
end Sc

namespace Sc
open PySem PySem.Spec PyProof.Rows L2
section
variable {X : Cx} {CX : CXT} {k : Nat} {C g : Addr} {fd : FuncData} {ps : List Str} {sp : Sp} {E : XK}
/-- x in o, o of the class at C with its own __contains__ at g -/
def rInO (C : Addr) (sp : Sp) (E : XK) (neg : Bool) : R2 := fun x y H Q => ∃ (a dx : Addr) (fs : List (Str × V)), y = .ref a ∧ H a = some (.ins C dx fs) ∧ sp [y, x] H (fun v H' => ∃ b, v = .bl b ∧ Q (.bl (if neg then !b else b)) H') E
theorem op_inO (hs : PySem.W.findIn X.K (.ref C) "__contains__" = some (some (.ref g))) (hf : PySem.W.isFn X.K (.ref g) = true) (F : FnOk X.prog X.w X.K X.mg X.base CX k g fd ps sp) (hr : Room k X.A) (hb : Binds X.K fd ps []) (hx : Passes CX X E) : OpR X (compareOp .In) (rInO C sp E false) := by
  intro pins s σ H x y v u Q I rx ry h
  obtain ⟨a, dx, fs, rfl, ha, q⟩ := h
  cases (show u = Value.ref a from ry)
  obtain ⟨mA, O, _⟩ := ins_get I.hok ha
  obtain ⟨od, J, _⟩ := O.look
  obtain ⟨m, hF⟩ := I.fr
  refine PySem.W.in_K hF I.ok.mod.kin J hs hf ?_
  refine wpAny_mono (run_fn (us := [.ref a, v]) (vs := [.ref a, x]) (dvs := []) F hr hb .nil hx I (.cons rfl (.cons rx .nil)) q) (fun w s' z => ?_) fun _ _ x => x
  obtain ⟨z', H', I', rz, b, rfl, qz⟩ := z
  cases rz
  exact wpAny_pure ⟨.bl b, H', I', rfl, qz⟩
theorem op_ninO (hs : PySem.W.findIn X.K (.ref C) "__contains__" = some (some (.ref g))) (hf : PySem.W.isFn X.K (.ref g) = true) (F : FnOk X.prog X.w X.K X.mg X.base CX k g fd ps sp) (hr : Room k X.A) (hb : Binds X.K fd ps []) (hx : Passes CX X E) : OpR X (compareOp .NotIn) (rInO C sp E true) := by
  intro pins s σ H x y v u Q I rx ry h
  obtain ⟨a, dx, fs, rfl, ha, q⟩ := h
  cases (show u = Value.ref a from ry)
  obtain ⟨mA, O, _⟩ := ins_get I.hok ha
  obtain ⟨od, J, _⟩ := O.look
  obtain ⟨m, hF⟩ := I.fr
  refine PySem.W.notIn_K hF I.ok.mod.kin J hs hf ?_
  refine wpAny_mono (run_fn (us := [.ref a, v]) (vs := [.ref a, x]) (dvs := []) F hr hb .nil hx I (.cons rfl (.cons rx .nil)) q) (fun w s' z => ?_) fun _ _ x => x
  obtain ⟨z', H', I', rz, b, rfl, qz⟩ := z
  cases rz
  exact wpAny_pure ⟨.bl (!b), H', I', rfl, qz⟩
/-- o[k], o of the class at C with its own __getitem__ at g -/
def rIxO (C : Addr) (sp : Sp) (E : XK) : R2 := fun x y H Q => ∃ (a dx : Addr) (fs : List (Str × V)), x = .ref a ∧ H a = some (.ins C dx fs) ∧ sp [x, y] H Q E
theorem pe_ixO {a b : Expr} {pos : Pos} {ta tb : TE} (hs : PySem.W.findIn X.K (.ref C) "__getitem__" = some (some (.ref g))) (hfn : PySem.W.fnIn X.K g = true) (hf : PySem.W.isFn X.K (.ref g) = true) (F : FnOk X.prog X.w X.K X.mg X.base CX k g fd ps sp) (hr : Room (k + 1) X.A) (hbd : Binds X.K fd ps []) (hx : Passes CX X E)
    (ha : PE X a ta) (hb : PE X b tb) (hsl : ∀ v u, subscripted b true v u = runValue (.builtin "lifetime.subscript" ⟨[v, u], []⟩)) : PE X (.Subscript a b pos) (tOp (rIxO C sp E) ta tb) := by
  refine ⟨fun pins s σ H Q I h => ?_⟩
  refine Subscript_ (binT ha hb I h fun v u s2 x y H2 I2 rx ry q => ?_)
  obtain ⟨o, dx, fs, rfl, ho, q⟩ := q
  cases (show v = Value.ref o from rx)
  obtain ⟨mA, O, _⟩ := ins_get I2.hok ho
  obtain ⟨od, J, _⟩ := O.look
  obtain ⟨m, hF⟩ := I2.fr
  refine PySem.W.sub_K hF I2.ok.mod.kin J hs hfn hf ?_ (hsl _ _)
  have hl : ([Value.ref o, u] ++ ([] : List Value)).length = ps.length := F.len _ _ _ _ q
  refine wpAny_call (codeAny_mono (F.run X.A.in1 X.stack s2 H2 ⟨[.ref o, u], []⟩ [.ref o, u] [.ref o, y] _ _ hr.in1 I2.env0.in1 (hbd s2 [.ref o, u] I2.kIn hl) (.cons rfl (.cons ry .nil)) q) fun r s' hq => ?_)
  cases r with
  | error e => exact hx pins σ H2 s2 e s' I2 hq
  | ok fl =>
    cases fl with
    | ret w =>
      obtain ⟨v, H', I', rv, qz⟩ := I2.after hq
      exact ⟨v, H', I', rv, qz⟩
    | next => exact hq.elim
    | brk => exact hq.elim
    | cont => exact hq.elim
/-- o op x, o of the class at C with its own method, x a text -/
def rBinS (C : Addr) (sp : Sp) (E : XK) : R2 := fun x y H Q => ∃ (a dx : Addr) (fs : List (Str × V)) (z : Str), x = .ref a ∧ y = .str z ∧ H a = some (.ins C dx fs) ∧ sp [x, y] H Q E
theorem op_binS {op : Operator} {fo ro rc : Option Value} (hc : PySem.W.selfFirst X.K C = true) (hs : PySem.W.findIn X.K (.ref C) (PySem.dunder op.info.2) = some (some (.ref g))) (hf : PySem.W.isFn X.K (.ref g) = true)
    (hR : PySem.W.findIn X.K (.ref C) (dunderR op.info.2) = some rc) (hp : rc = none ∨ ∃ g : Addr, rc = some (.ref g)) (h1 : PySem.W.findIn X.K (.type "str") (PySem.dunder op.info.2) = some fo) (h2 : PySem.W.findIn X.K (.type "str") (dunderR op.info.2) = some ro)
    (hsub : PySem.W.subIn X.K (.type "str") (.ref C) = some false) (F : FnOk X.prog X.w X.K X.mg X.base CX k g fd ps sp) (hr : Room k X.A) (hb : Binds X.K fd ps []) (hx : Passes CX X E) : OpR X (binaryOp op) (rBinS C sp E) := by
  intro pins s σ H x y v u Q I rx ry h
  obtain ⟨a, dx, fs, z, rfl, rfl, ha, q⟩ := h
  cases (show v = Value.ref a from rx)
  obtain ⟨t, rfl⟩ := (show ∃ t, u = Value.str z t from ry)
  obtain ⟨mA, O, _⟩ := ins_get I.hok ha
  obtain ⟨od, J, _⟩ := O.look
  obtain ⟨m, hF⟩ := I.fr
  refine PySem.W.ksp_binT (T := "str") hF I.ok.mod.kin J rfl hc hs hf hR hp h1 h2 hsub ?_
  refine wpAny_mono (run_fn (us := [.ref a, .str z t]) (vs := [.ref a, .str z]) (dvs := []) F hr hb .nil hx I (.cons rfl (.cons ⟨t, rfl⟩ .nil)) q) (fun w s' z => ?_) fun _ _ x => x
  obtain ⟨z', H', I', rz, qz⟩ := z
  exact SlX.cmpback rz ⟨z', H', I', rz, qz⟩
end
end Sc
namespace Sc
open PySem PySem.Spec PyProof.Rows L2
/-- a def that keeps two promises keeps either -/
theorem _root_.L2.FnOk.either {P : Program} {w : World} {K : PySem.W.Frag} {mg : Str → Option Value} {base : Heap} {CX : CXT} {k : Nat} {f : Addr} {fd : FuncData} {ps : List Str} {sp sp' : Sp} (F : FnOk P w K mg base CX k f fd ps sp) (G : FnOk P w K mg base CX k f fd ps sp') :
    FnOk P w K mg base CX k f fd ps (fun vs H Q E => sp vs H Q E ∨ sp' vs H Q E) :=
  ⟨fun vs H Q E h => h.elim (F.len vs H Q E) (G.len vs H Q E), fun A outer s H args us vs Q E hr e b v h => h.elim (F.run A outer s H args us vs Q E hr e b v) (G.run A outer s H args us vs Q E hr e b v)⟩
section
variable {X : Cx}
theorem op_or {f : Value → Value → Sem Value} {r r' : R2} (h : OpR X f r) (h' : OpR X f r') : OpR X f (fun x y H Q => r x y H Q ∨ r' x y H Q) :=
  fun pins s σ H x y v u Q I rx ry q => q.elim (h pins s σ H x y v u Q I rx ry) (h' pins s σ H x y v u Q I rx ry)
/-- a tuple in a tuple of texts: no -/
def rInNo (K : PySem.W.Frag) (neg : Bool) : R2 := fun x y H Q => ∃ (a p : Addr) (ys : List V) (xs : List Str), x = .ref a ∧ y = .ref p ∧ SqT K H a ys ∧ SqT K H p (xs.map V.str) ∧ Q (.bl neg) H
theorem any_no : ∀ xs : List Value, xs.any (fun _ => false) = false
  | [] => rfl
  | _ :: r => by rw [List.any_cons, any_no r]; rfl
theorem strs_of : ∀ {xs : List Str} {us : List Value}, Vals (xs.map V.str) us → ∀ w ∈ us, ∃ z t, w = Value.str z t
  | [], _, .nil => fun w hw => by cases hw
  | x :: r, u :: us, .cons h t => fun w hw => by
    obtain ⟨tk, rfl⟩ := (show ∃ tk, u = Value.str x tk from h)
    rcases List.mem_cons.mp hw with rfl | hw
    · exact ⟨_, _, rfl⟩
    · exact strs_of t w hw
theorem op_in_no (hu : X.A.units + 64 < cLine) : OpR X (compareOp .In) (rInNo X.K false) := by
  intro pins s σ H x y v u Q I rx ry h
  obtain ⟨a, p, ys, xs, rfl, rfl, ha, hp, q⟩ := h
  cases rx
  cases ry
  obtain ⟨its, r, pl, hz⟩ := I.tuple hp
  obtain ⟨its2, r2, pl2, _⟩ := I.tuple ha
  refine SeqAt.in_tupleAt (fun _ => false) pl (fun w hw => ?_) ⟨.bl _, H, I, rfl, ?_⟩
  · obtain ⟨z, t, rfl⟩ := strs_of r w (by simpa using hw)
    exact SeqAt.EqAt.str_tuple z t pl2 (by show X.A.units + 1 < cLine; omega)
  · rw [show its.toArray.any (fun _ => false) = its.any (fun _ => false) by simp, any_no]
    exact q
theorem op_nin_no (hu : X.A.units + 64 < cLine) : OpR X (compareOp .NotIn) (rInNo X.K true) := by
  intro pins s σ H x y v u Q I rx ry h
  obtain ⟨a, p, ys, xs, rfl, rfl, ha, hp, q⟩ := h
  cases rx
  cases ry
  obtain ⟨its, r, pl, hz⟩ := I.tuple hp
  obtain ⟨its2, r2, pl2, _⟩ := I.tuple ha
  refine SeqAt.notIn_tupleAt (fun _ => false) pl (fun w hw => ?_) ⟨.bl _, H, I, rfl, ?_⟩
  · obtain ⟨z, t, rfl⟩ := strs_of r w (by simpa using hw)
    exact SeqAt.EqAt.str_tuple z t pl2 (by show X.A.units + 1 < cLine; omega)
  · rw [show its.toArray.any (fun _ => false) = its.any (fun _ => false) by simp, any_no]
    exact q
end
end Sc
namespace Sc
open PySem PySem.Spec PyProof.Rows L2
/-- a method that the class at C has of its own, as the operators find it -/
structure MethO (P : Program) (w : World) (K : PySem.W.Frag) (mg : Str → Option Value) (base : Heap) (CX : CXT) (k : Nat) (C : Addr) (n : Str) (ps : List Str) (sp : Sp) : Prop where
  ex : ∃ (g : Addr) (fd : FuncData), PySem.W.findIn K (.ref C) n = some (some (.ref g)) ∧ PySem.W.isFn K (.ref g) = true ∧ PySem.W.fnIn K g = true ∧ FnOk P w K mg base CX k g fd ps sp ∧ Binds K fd ps []
/-- what an operator against a text asks of the class besides -/
structure BinT (K : PySem.W.Frag) (C : Addr) (op : Operator) : Prop where
  first : PySem.W.selfFirst K C = true
  right : ∃ rc, PySem.W.findIn K (.ref C) (dunderR op.info.2) = some rc ∧ (rc = none ∨ ∃ g : Addr, rc = some (.ref g))
  t1 : ∃ fo, PySem.W.findIn K (.type "str") (PySem.dunder op.info.2) = some fo
  t2 : ∃ ro, PySem.W.findIn K (.type "str") (dunderR op.info.2) = some ro
  sub : PySem.W.subIn K (.type "str") (.ref C) = some false
section
variable {X : Cx} {k : Nat} {C : Addr} {ps : List Str} {sp : Sp} {E : XK}
theorem op_inM (M : MethO X.prog X.w X.K X.mg X.base CX0 k C "__contains__" ps sp) (hr : Room k X.A) : OpR X (compareOp .In) (rInO C sp E0 false) := by
  obtain ⟨g, fd, h1, h2, _, F, hb⟩ := M.ex
  exact op_inO h1 h2 F hr hb pass0
theorem op_ninM (M : MethO X.prog X.w X.K X.mg X.base CX0 k C "__contains__" ps sp) (hr : Room k X.A) : OpR X (compareOp .NotIn) (rInO C sp E0 true) := by
  obtain ⟨g, fd, h1, h2, _, F, hb⟩ := M.ex
  exact op_ninO h1 h2 F hr hb pass0
theorem pe_ixM {a b : Expr} {pos : Pos} {ta tb : TE} (M : MethO X.prog X.w X.K X.mg X.base (L2.CX X.prog X.w) k C "__getitem__" ps sp) (hr : Room (k + 1) X.A) (tk : Takes X (fun cls d _ H => E cls d H)) (ha : PE X a ta) (hb : PE X b tb)
    (hsl : ∀ v u, subscripted b true v u = runValue (.builtin "lifetime.subscript" ⟨[v, u], []⟩)) : PE X (.Subscript a b pos) (tOp (rIxO C sp E) ta tb) := by
  obtain ⟨g, fd, h1, h2, h3, F, hbd⟩ := M.ex
  exact pe_ixO h1 h3 h2 F hr hbd (fun pins σ H s e s' I h => passAt tk σ pins H s e s' I h) ha hb hsl
theorem op_subM {op : Operator} {n : Str} (M : MethO X.prog X.w X.K X.mg X.base (L2.CX X.prog X.w) k C n ps sp) (T : BinT X.K C op) (en : n = PySem.dunder op.info.2) (hr : Room k X.A) (tk : Takes X (fun cls d _ H => E cls d H)) : OpR X (binaryOp op) (rBinS C sp E) := by
  subst en
  obtain ⟨g, fd, h1, h2, h3, F, hbd⟩ := M.ex
  obtain ⟨rc, r1, r2⟩ := T.right
  obtain ⟨fo, f1⟩ := T.t1
  obtain ⟨ro, f2⟩ := T.t2
  exact op_binS T.first h1 h2 r1 r2 f1 f2 T.sub F hr hbd (fun pins σ H s e s' I h => passAt tk σ pins H s e s' I h)
end
end Sc
namespace Sc
open PySem PySem.Spec PyProof.Rows L2
/-! ### slices of tuples -/
section
variable {K : PySem.W.Frag} {H : Hp}
theorem sl_any {b : Addr} {vs : List V} {lo hi : Option Int} {Q : VK} (hS : SqT K H b vs) (q : ∀ p H', Same H H' → SqT K H' p (cutV vs lo hi) → Q (.ref p) H') : rSlA K (.ref b) lo hi H Q :=
  ⟨b, vs, rfl, hS, fun c => q b H (Same.refl H) (by
    have e : cutV vs lo hi = vs := by
      unfold cutV
      rw [c.1, c.2, List.drop_zero, Nat.sub_zero, List.take_length]
    rw [e]
    exact hS), fun _ p np => q p _ ((Same.refl H).put np) sqT_new⟩
theorem cat_any {b c : Addr} {xs ys : List V} {Q : VK} (hA : SqT K H b xs) (hB : SqT K H c ys) (hl : xs.length + ys.length ≤ sizeLine) (q : ∀ p H', Same H H' → SqT K H' p (xs ++ ys) → Q (.ref p) H') : rCatA K (.ref b) (.ref c) H Q :=
  ⟨b, c, xs, ys, rfl, rfl, hA, hB, hl, fun e => q c H (Same.refl H) (by rw [e]; exact hB), fun _ e => q b H (Same.refl H) (by rw [e, List.append_nil]; exact hA), fun _ _ p np => q p _ ((Same.refl H).put np) sqT_new⟩
theorem sIx_nat (n d k : Nat) : HT.sIx n d (some (k : Int)) = min k n := by
  unfold HT.sIx
  first
    | (simp; done)
    | (simp; omega)
    | (split <;> omega)
theorem cut_to (vs : List V) (m : Nat) : cutV vs none (some (m : Int)) = vs.take m := by
  unfold cutV
  rw [sIx_nat]
  show (vs.drop 0).take (min m vs.length - 0) = _
  rw [List.drop_zero, Nat.sub_zero]
  by_cases h : m ≤ vs.length
  · rw [Nat.min_eq_left h]
  · rw [Nat.min_eq_right (by omega), List.take_length, List.take_of_length_le (by omega)]
theorem cut_from (vs : List V) (k : Nat) : cutV vs (some (k : Int)) none = vs.drop k := by
  unfold cutV
  rw [sIx_nat]
  show (vs.drop (min k vs.length)).take (vs.length - min k vs.length) = _
  by_cases h : k ≤ vs.length
  · rw [Nat.min_eq_left h, List.take_of_length_le (by rw [List.length_drop]; exact Nat.le_refl _)]
  · rw [Nat.min_eq_right (by omega), List.drop_length, List.drop_of_length_le (by omega)]
    exact List.take_nil
theorem cut_part (vs : List V) (k m : Nat) : cutV vs (some (k : Int)) (some (m : Int)) = (vs.drop k).take (m - k) := by
  unfold cutV
  rw [sIx_nat, sIx_nat]
  by_cases h : k ≤ vs.length
  · rw [Nat.min_eq_left h]
    by_cases h2 : m ≤ vs.length
    · rw [Nat.min_eq_left h2]
    · rw [Nat.min_eq_right (by omega), List.take_of_length_le (by rw [List.length_drop]; exact Nat.le_refl _), List.take_of_length_le (by rw [List.length_drop]; omega)]
  · rw [Nat.min_eq_right (show vs.length ≤ k by omega), List.drop_length, List.drop_of_length_le (show vs.length ≤ k by omega), List.take_nil, List.take_nil]
end
end Sc
namespace Sc
open PySem
/-! ### parts of a text -/
def stAt (b : List Stmt) (i : Nat) : Stmt := b.getD i (.Pass ⟨0, 0, 0, 0⟩)
def forB : Stmt → List Stmt
  | .For _ _ b _ _ => b
  | _ => []
def whileB : Stmt → List Stmt
  | .While _ b _ _ => b
  | _ => []
def ifB : Stmt → List Stmt
  | .If _ b _ _ => b
  | _ => []
def ifE : Stmt → List Stmt
  | .If _ _ b _ => b
  | _ => []
end Sc
namespace Sc
open PySem PySem.Spec PyProof.Rows L2
namespace RF
def app (f g : RF) : RF := ofNodes (f.nodes ++ g.nodes)
theorem app_nodes (f g : RF) : (f.app g).nodes = f.nodes ++ g.nodes := nodes_of _
theorem of_size : ∀ ns ms : List Nd, (ofNodes (ns ++ ms)).size = (ofNodes ns).size + (ofNodes ms).size
  | [], ms => by show (ofNodes ms).size = 0 + _; omega
  | n :: r, ms => by
    show n.exc.size + 1 + (ofNodes (r ++ ms)).size = n.exc.size + 1 + (ofNodes r).size + _
    rw [of_size r ms]
    omega
theorem app_size (f g : RF) : (f.app g).size = f.size + g.size := by
  unfold app
  rw [of_size, of_nodes, of_nodes]
theorem app_dep {f g : RF} {d : Nat} (h : f.dep ≤ d) (k : g.dep ≤ d) : (f.app g).dep ≤ d := dep_le _ d fun n hn => by
  rw [app_nodes] at hn
  rcases List.mem_append.mp hn with hn | hn
  · exact Nat.le_trans (dep_mem f n hn) h
  · exact Nat.le_trans (dep_mem g n hn) k
theorem app_every {p : Nd → Prop} {f g : RF} (h : f.every p) (k : g.every p) : (f.app g).every p := every_nodes.mpr fun n hn => by
  rw [app_nodes] at hn
  rcases List.mem_append.mp hn with hn | hn
  · exact every_nodes.mp h n hn
  · exact every_nodes.mp k n hn
/-- the first rules, the others -/
def head (f : RF) (i : Nat) : RF := ofNodes (f.nodes.take i)
def rest (f : RF) (i : Nat) : RF := ofNodes (f.nodes.drop i)
theorem head_nodes (f : RF) (i : Nat) : (f.head i).nodes = f.nodes.take i := nodes_of _
theorem rest_nodes (f : RF) (i : Nat) : (f.rest i).nodes = f.nodes.drop i := nodes_of _
theorem head_rest (f : RF) (i : Nat) : (f.head i).app (f.rest i) = f := by
  unfold app
  rw [head_nodes, rest_nodes, List.take_append_drop, of_nodes]
theorem cut_size (f : RF) (i : Nat) : (f.head i).size + (f.rest i).size = f.size := by rw [← app_size, head_rest]
theorem head_dep (f : RF) (i : Nat) : (f.head i).dep ≤ f.dep := dep_le _ _ fun n hn => dep_mem f n (List.mem_of_mem_take (by rw [head_nodes] at hn; exact hn))
theorem rest_dep (f : RF) (i : Nat) : (f.rest i).dep ≤ f.dep := dep_le _ _ fun n hn => dep_mem f n (List.mem_of_mem_drop (by rw [rest_nodes] at hn; exact hn))
theorem head_every {p : Nd → Prop} {f : RF} (h : f.every p) (i : Nat) : (f.head i).every p := every_nodes.mpr fun n hn => every_nodes.mp h n (List.mem_of_mem_take (by rw [head_nodes] at hn; exact hn))
theorem rest_every {p : Nd → Prop} {f : RF} (h : f.every p) (i : Nat) : (f.rest i).every p := every_nodes.mpr fun n hn => every_nodes.mp h n (List.mem_of_mem_drop (by rw [rest_nodes] at hn; exact hn))
/-- a row of one rule -/
def only (n : Nd) : RF := .cons n.nm n.hs n.fs n.rl n.exc .nil
theorem only_size (n : Nd) : (only n).size = n.exc.size + 1 := rfl
theorem only_dep (n : Nd) : (only n).dep = n.exc.dep + 1 := Nat.max_zero _
theorem only_every {p : Nd → Prop} {n : Nd} (h : p n) (k : n.exc.every p) : (only n).every p := ⟨h, k, trivial⟩
end RF
namespace All2
variable {α β : Type} {R : α → β → Prop}
theorem take {as : List α} {bs : List β} (h : All2 R as bs) : ∀ i, All2 R (as.take i) (bs.take i) := by
  induction h with
  | nil => intro i; rw [List.take_nil, List.take_nil]; exact .nil
  | cons h _ ih =>
    intro i
    cases i with
    | zero => exact .nil
    | succ i => exact .cons h (ih i)
theorem drop {as : List α} {bs : List β} (h : All2 R as bs) : ∀ i, All2 R (as.drop i) (bs.drop i) := by
  induction h with
  | nil => intro i; rw [List.drop_nil, List.drop_nil]; exact .nil
  | cons h t ih =>
    intro i
    cases i with
    | zero => exact .cons h t
    | succ i => exact ih i
end All2
section
variable {K : PySem.W.Frag} {H : Hp} {f g : RF} {vs us : List V} {v : V} {n : Nd}
theorem rows_app (h : RowsAt K H f vs) (k : RowsAt K H g us) : RowsAt K H (f.app g) (vs ++ us) := RowsAt.of (by rw [RF.app_nodes]; exact h.all.app k.all)
theorem rows_head (h : RowsAt K H f vs) (i : Nat) : RowsAt K H (f.head i) (vs.take i) := RowsAt.of (by rw [RF.head_nodes]; exact h.all.take i)
theorem rows_rest (h : RowsAt K H f vs) (i : Nat) : RowsAt K H (f.rest i) (vs.drop i) := RowsAt.of (by rw [RF.rest_nodes]; exact h.all.drop i)
theorem rows_only (h : RowAt K H v n) : RowsAt K H (.only n) [v] := RowsAt.of (.one h)
theorem cut_last (vs : List V) : cutV vs (some (-1)) none = vs.drop (vs.length - 1) := by
  unfold cutV
  have e1 : HT.sIx vs.length 0 (some (-1)) = vs.length - 1 := by
    unfold HT.sIx
    dsimp only
    rw [if_pos (by decide)]
    omega
  have e2 : HT.sIx vs.length vs.length none = vs.length := rfl
  rw [e1, e2, List.take_of_length_le]
  rw [List.length_drop]
  exact Nat.le_refl _
end
end Sc
namespace Sc
open PySem
/-! ### cases by their numbers -/
def caseOf : List Str → Nat → List Str
  | [], _ => []
  | x :: r, n => (if n % 2 = 1 then [x] else []) ++ caseOf r (n / 2)
def bitN (n k : Nat) : Bool := decide (n / 2 ^ k % 2 = 1)
theorem bitN_succ {n k : Nat} : bitN n (k + 1) = bitN (n / 2) k := by
  unfold bitN
  rw [Nat.pow_succ, Nat.mul_comm, ← Nat.div_div_eq_div_mul]
theorem caseOf_more : ∀ (fs : List Str) (n i : Nat) (x : Str), fs[i]? = some x → caseOf (fs.take (i + 1)) n = caseOf (fs.take i) n ++ (if bitN n i = true then [x] else [])
  | y :: r, n, 0, x, h => by
    have h : y = x := Option.some.inj h
    subst h
    show (if n % 2 = 1 then [y] else []) ++ caseOf [] (n / 2) = [] ++ _
    unfold bitN caseOf
    rw [Nat.pow_zero, Nat.div_one, List.append_nil, List.nil_append]
    by_cases c : n % 2 = 1
    · rw [if_pos c, if_pos (decide_eq_true c)]
    · rw [if_neg c, if_neg (by rw [decide_eq_false c]; exact Bool.false_ne_true)]
  | y :: r, n, i + 1, x, h => by
    have h : r[i]? = some x := h
    show (if n % 2 = 1 then [y] else []) ++ caseOf (r.take (i + 1)) (n / 2) = ((if n % 2 = 1 then [y] else []) ++ caseOf (r.take i) (n / 2)) ++ _
    rw [caseOf_more r (n / 2) i x h, List.append_assoc, bitN_succ]
theorem caseOf_sub : ∀ (fs : List Str) (n : Nat), List.Sublist (caseOf fs n) fs
  | [], _ => .slnil
  | x :: r, n => by
    unfold caseOf
    by_cases c : n % 2 = 1
    · rw [if_pos c]
      exact (caseOf_sub r _).cons₂ x
    · rw [if_neg c]
      exact (caseOf_sub r _).cons x
/-- each choice of the facts is a case -/
theorem caseOf_all (p : Str → Bool) : ∀ fs : List Str, ∃ n, n < 2 ^ fs.length ∧ caseOf fs n = fs.filter p
  | [] => ⟨0, by decide, rfl⟩
  | x :: r => by
    obtain ⟨n, h1, h2⟩ := caseOf_all p r
    cases c : p x with
    | true =>
      refine ⟨2 * n + 1, by rw [List.length_cons, Nat.pow_succ]; omega, ?_⟩
      unfold caseOf
      rw [if_pos (by omega), show (2 * n + 1) / 2 = n by omega, h2, List.filter_cons, if_pos c]
      rfl
    | false =>
      refine ⟨2 * n, by rw [List.length_cons, Nat.pow_succ]; omega, ?_⟩
      unfold caseOf
      rw [if_neg (by omega), show (2 * n) / 2 = n by omega, h2, List.filter_cons, if_neg (by rw [c]; exact Bool.false_ne_true)]
      rfl
end Sc
namespace Sc
open PySem PySem.Spec PyProof.Rows L2
/-! ### rising rows of the twelve facts -/
def SLt (a b : Str) : Prop := a.cps.toList < b.cps.toList
instance (a b : Str) : Decidable (SLt a b) := inferInstanceAs (Decidable (a.cps.toList < b.cps.toList))
structure Good (xs : List Str) : Prop where
  up : xs.Pairwise SLt
  mem : ∀ x ∈ xs, x ∈ twelve
theorem twelve_up : twelve.Pairwise SLt := by decide +kernel
theorem twelve_name : ∀ x ∈ twelve, isName x = true := by decide +kernel
theorem twelve_good : Good twelve := ⟨twelve_up, fun _ h => h⟩
theorem Good.sub {xs ys : List Str} (h : Good ys) (s : List.Sublist xs ys) : Good xs := ⟨h.up.sublist s, fun x hx => h.mem x (s.subset hx)⟩
theorem Good.nodup {xs : List Str} (h : Good xs) : xs.Nodup := h.up.imp fun {a b} hl e => by subst e; exact List.lt_irrefl _ hl
theorem Good.fines {xs : List Str} (h : Good xs) (tf : Fines twelve) : Fines xs := fun x hx => tf x (h.mem x hx)
theorem Good.le {xs : List Str} (h : Good xs) : xs.Pairwise SLe := h.up.imp fun hl => List.le_of_lt hl
theorem good_nil : Good [] := ⟨.nil, fun _ h => nomatch h⟩
theorem Good.srt {xs : List Str} (h : Good xs) : srt xs = xs := sorted_uniq (srt_perm xs) (srt_sorted xs) (sorted_of h.le)
theorem lt_of {a b : Str} (h : SLe a b) (n : a ≠ b) : SLt a b := by
  by_cases c : a.cps.toList < b.cps.toList
  · exact c
  · exact absurd (str_ext (List.le_antisymm h (List.not_lt.mp c))) n
theorem srt_good {xs : List Str} (nd : xs.Nodup) (m : ∀ x ∈ xs, x ∈ twelve) : Good (srt xs) := by
  have nd2 : (Sc.srt xs).Nodup := (srt_perm xs).nodup_iff.mpr nd
  refine ⟨?_, fun x hx => m x ((srt_perm xs).mem_iff.mp hx)⟩
  exact ((sorted_pw (srt_sorted xs)).and nd2).imp fun h => lt_of h.1 h.2
theorem mem_mrg {xs ys : List Str} {x : Str} : x ∈ mrg xs ys ↔ x ∈ xs ∨ x ∈ ys := by
  unfold mrg
  rw [(srt_perm _).mem_iff, List.mem_append, List.mem_filter]
  constructor
  · rintro (h | h)
    · exact .inl h
    · exact .inr h.1
  · rintro (h | h)
    · exact .inl h
    · by_cases c : x ∈ xs
      · exact .inl c
      · exact .inr ⟨h, by rw [decide_eq_false c]; rfl⟩
theorem Good.mrg {xs ys : List Str} (h : Good xs) (k : Good ys) : Good (mrg xs ys) := by
  refine srt_good ?_ fun x hx => ?_
  · rw [List.nodup_append]
    refine ⟨h.nodup, (List.filter_sublist).nodup k.nodup, fun a ha b hb e => ?_⟩
    subst e
    have := (List.mem_filter.mp hb).2
    rw [decide_eq_true ha] at this
    cases this
  · rcases List.mem_append.mp hx with h1 | h1
    · exact h.mem x h1
    · exact k.mem x (List.mem_filter.mp h1).1
/-- a good row is told by its members -/
theorem Good.ext {xs ys : List Str} (h : Good xs) (k : Good ys) (e : ∀ x, x ∈ xs ↔ x ∈ ys) : xs = ys := by
  have p : xs.Perm ys := (List.perm_ext_iff_of_nodup h.nodup k.nodup).mpr e
  exact sorted_uniq p (sorted_of h.le) (sorted_of k.le)
theorem rises_pw {xs : List Str} (h : xs.Pairwise SLt) {i : Nat} (hi : i < xs.length) : risesAt xs i = true := by
  by_cases h0 : i = 0
  · subst h0
    rfl
  · rw [risesAt_eq hi h0 (by omega)]
    exact decide_eq_true (List.pairwise_iff_getElem.mp h (i - 1) i (by omega) hi (by omega))
theorem Good.none {xs ys : List Str} (h : Good xs) (l : ys.length + xs.length ≤ 8) (d : ∀ x ∈ xs, ¬ x ∈ ys) : firstWrong xs ys = none := by
  unfold firstWrong
  rw [List.find?_eq_none]
  intro i hi
  have hi := List.mem_range.mp hi
  unfold wrongAt
  rw [List.getElem?_eq_getElem hi]
  dsimp only
  rw [twelve_name _ (h.mem _ (List.getElem_mem hi)), rises_pw h.up hi, decide_eq_false (show ¬ 8 ≤ ys.length + i by omega), decide_eq_false (d _ (List.getElem_mem hi))]
  exact Bool.false_ne_true
/-! ### two conditions over the same cases -/
theorem meets_iff {hs fs cs : List Str} : meets hs fs cs = true ↔ (∀ x ∈ hs, x ∈ cs) ∧ ∀ x ∈ fs, ¬ x ∈ cs := by
  unfold meets
  rw [Bool.and_eq_true, List.all_eq_true, Bool.not_eq_true', List.any_eq_false]
  constructor
  · rintro ⟨h1, h2⟩
    exact ⟨fun x hx => of_decide_eq_true (h1 x hx), fun x hx hc => h2 x hx (decide_eq_true hc)⟩
  · rintro ⟨h1, h2⟩
    exact ⟨fun x hx => decide_eq_true (h1 x hx), fun x hx hc => h2 x hx (of_decide_eq_true hc)⟩
theorem meets_mrg {hs fs gs ks cs : List Str} : meets (mrg hs gs) (mrg fs ks) cs = (meets hs fs cs && meets gs ks cs) := by
  rw [Bool.eq_iff_iff, Bool.and_eq_true, meets_iff, meets_iff, meets_iff]
  constructor
  · rintro ⟨h1, h2⟩
    exact ⟨⟨fun x hx => h1 x (mem_mrg.mpr (.inl hx)), fun x hx => h2 x (mem_mrg.mpr (.inl hx))⟩, fun x hx => h1 x (mem_mrg.mpr (.inr hx)), fun x hx => h2 x (mem_mrg.mpr (.inr hx))⟩
  · rintro ⟨⟨h1, h2⟩, h3, h4⟩
    refine ⟨fun x hx => ?_, fun x hx => ?_⟩
    · rcases mem_mrg.mp hx with h | h
      · exact h1 x h
      · exact h3 x h
    · rcases mem_mrg.mp hx with h | h
      · exact h2 x h
      · exact h4 x h
/-- a case that meets the joined condition: what must hold, and no more -/
theorem met_case {fs ws bs : List Str} (s1 : ∀ x ∈ ws, x ∈ fs) (d : ∀ x ∈ ws, ¬ x ∈ bs) : meets ws bs (fs.filter fun x => decide (x ∈ ws)) = true := by
  rw [meets_iff]
  refine ⟨fun x hx => List.mem_filter.mpr ⟨s1 x hx, decide_eq_true hx⟩, fun x hx hc => ?_⟩
  exact d x (of_decide_eq_true (List.mem_filter.mp hc).2) hx
theorem both_iff {fs hs ks gs ls : List Str} (h1 : ∀ x ∈ hs, x ∈ fs) (h2 : ∀ x ∈ gs, x ∈ fs) :
    (∃ n, n < 2 ^ fs.length ∧ (meets hs ks (caseOf fs n) && meets gs ls (caseOf fs n)) = true) ↔ meetN (mrg hs gs) (mrg ks ls) = false := by
  constructor
  · rintro ⟨n, _, h⟩
    rw [← meets_mrg, meets_iff] at h
    unfold meetN
    rw [List.any_eq_false]
    intro x hx hc
    exact h.2 x (of_decide_eq_true hc) (h.1 x hx)
  · intro h
    obtain ⟨n, hn, e⟩ := caseOf_all (fun x => decide (x ∈ mrg hs gs)) fs
    refine ⟨n, hn, ?_⟩
    rw [← meets_mrg, e]
    refine met_case (fun x hx => ?_) (fun x hx hc => ?_)
    · rcases mem_mrg.mp hx with h' | h'
      · exact h1 x h'
      · exact h2 x h'
    · unfold meetN at h
      rw [List.any_eq_false] at h
      exact h x hx (decide_eq_true hc)
theorem within_iff {fs hs ks gs ls : List Str} (h1 : ∀ x ∈ hs, x ∈ fs) (h2 : ∀ x ∈ ls, x ∈ fs) (d : ∀ x ∈ hs, ¬ x ∈ ks) :
    withinC hs ks gs ls = true ↔ ∀ n, n < 2 ^ fs.length → (meets hs ks (caseOf fs n) && !meets gs ls (caseOf fs n)) = false := by
  unfold withinC
  rw [Bool.and_eq_true, List.all_eq_true, List.all_eq_true]
  constructor
  · rintro ⟨q1, q2⟩ n _
    cases c : meets hs ks (caseOf fs n) with
    | false => rfl
    | true =>
      have c := meets_iff.mp c
      have : meets gs ls (caseOf fs n) = true := meets_iff.mpr ⟨fun x hx => c.1 x (of_decide_eq_true (q1 x hx)), fun x hx => c.2 x (of_decide_eq_true (q2 x hx))⟩
      rw [this]
      rfl
  · intro q
    constructor
    · intro x hx
      obtain ⟨n, hn, e⟩ := caseOf_all (fun x => decide (x ∈ hs)) fs
      have h := q n hn
      rw [e, met_case h1 d, Bool.true_and] at h
      have h : meets gs ls (fs.filter fun x => decide (x ∈ hs)) = true := by
        cases c : meets gs ls (fs.filter fun x => decide (x ∈ hs)) with
        | true => rfl
        | false => rw [c] at h; cases h
      exact (List.mem_filter.mp ((meets_iff.mp h).1 x hx)).2
    · intro x hx
      obtain ⟨n, hn, e⟩ := caseOf_all (fun x => !decide (x ∈ ks)) fs
      have h := q n hn
      have m : meets hs ks (fs.filter fun x => !decide (x ∈ ks)) = true := by
        rw [meets_iff]
        refine ⟨fun y hy => List.mem_filter.mpr ⟨h1 y hy, by rw [decide_eq_false (d y hy)]; rfl⟩, fun y hy hc => ?_⟩
        have := (List.mem_filter.mp hc).2
        rw [decide_eq_true hy] at this
        cases this
      rw [e, m, Bool.true_and] at h
      have h : meets gs ls (fs.filter fun x => !decide (x ∈ ks)) = true := by
        cases c : meets gs ls (fs.filter fun x => !decide (x ∈ ks)) with
        | true => rfl
        | false => rw [c] at h; cases h
      refine decide_eq_true (Classical.byContradiction fun nk => ?_)
      exact (meets_iff.mp h).2 x hx (List.mem_filter.mpr ⟨h2 x hx, by rw [decide_eq_false nk]; rfl⟩)
end Sc
namespace Sc
open PySem PySem.Spec PyProof.Rows L2
/-! ### rules of right parts -/
structure NdOk (n : Nd) : Prop where
  nm : isName n.nm = true
  rl : isName n.rl = true
  c1 : firstWrong n.hs [] = none
  c2 : firstWrong n.fs n.hs = none
theorem name_len {x : Str} (h : isName x = true) : x.length ≤ 8 := by
  unfold isName at h
  rw [Bool.and_eq_true, Bool.and_eq_true] at h
  exact of_decide_eq_true h.2.1
theorem fw_names {xs ys : List Str} (h : firstWrong xs ys = none) : ∀ x ∈ xs, isName x = true := by
  intro x hx
  obtain ⟨i, hi, rfl⟩ := List.getElem_of_mem hx
  have := (wrongs_none h i hi).1.1
  rw [Bool.or_eq_false_iff] at this
  exact (Bool.not_eq_false' _).mp this.1
theorem fw_txts {xs ys : List Str} (h : firstWrong xs ys = none) : Txts xs := fun x hx => Nat.le_trans (name_len (fw_names h x hx)) (by decide)
theorem NdOk.len {n : Nd} (h : NdOk n) : n.hs.length ≤ 8 ∧ n.fs.length ≤ 8 := by
  have h1 := fw_len h.c1
  have h2 := fw_len h.c2
  simp only [List.length_nil] at h1
  omega
theorem fit_of {f : RF} (h : f.every NdOk) : f.Fit := fun q hq => by
  have := (RF.every_pre h q hq).len
  omega
theorem name_fine {x : Str} (h : isName x = true) : Fine x := by
  refine ⟨Nat.le_trans (name_len h) (by decide), ?_⟩
  unfold isName isLetters at h
  rw [Bool.and_eq_true, Bool.and_eq_true, List.all_eq_true] at h
  have hL : PyData.strOk letters = true := by decide +kernel
  show PyData.strOk x = true
  unfold PyData.strOk at hL ⊢
  rw [Array.all_eq_true'] at hL ⊢
  intro c hc
  exact hL c (by rw [← Array.mem_toList_iff]; exact of_decide_eq_true (h.2.2 c (by rw [Array.mem_toList_iff]; exact hc)))
theorem fw_fines {xs ys : List Str} (h : firstWrong xs ys = none) : Fines xs := fun x hx => name_fine (fw_names h x hx)
/-- names in their order -/
structure Right (xs : List Str) : Prop where
  up : xs.Pairwise SLt
  nm : ∀ x ∈ xs, isName x = true
theorem Right.sub {xs ys : List Str} (h : Right ys) (s : List.Sublist xs ys) : Right xs := ⟨h.up.sublist s, fun x hx => h.nm x (s.subset hx)⟩
theorem Right.nodup {xs : List Str} (h : Right xs) : xs.Nodup := h.up.imp fun {a b} hl e => by subst e; exact List.lt_irrefl _ hl
theorem Right.fines {xs : List Str} (h : Right xs) : Fines xs := fun x hx => name_fine (h.nm x hx)
theorem Right.none {xs ys : List Str} (h : Right xs) (l : ys.length + xs.length ≤ 8) (d : ∀ x ∈ xs, ¬ x ∈ ys) : firstWrong xs ys = none := by
  unfold firstWrong
  rw [List.find?_eq_none]
  intro i hi
  have hi := List.mem_range.mp hi
  unfold wrongAt
  rw [List.getElem?_eq_getElem hi]
  dsimp only
  rw [h.nm _ (List.getElem_mem hi), rises_pw h.up hi, decide_eq_false (show ¬ 8 ≤ ys.length + i by omega), decide_eq_false (d _ (List.getElem_mem hi))]
  exact Bool.false_ne_true
theorem Right.bad {xs : List Str} (g : Right xs) (h0 : xs ≠ []) (h1 : xs.length ≤ 60) : firstBad xs = Option.none := by
  unfold firstBad
  rw [if_neg h0, List.find?_eq_none]
  intro i hi
  have hi := List.mem_range.mp hi
  unfold badAt
  rw [List.getElem?_eq_getElem hi]
  dsimp only
  rw [g.nm _ (List.getElem_mem hi), rises_pw g.up hi, decide_eq_false (show ¬ i = 60 by omega)]
  exact Bool.false_ne_true
/-- a row of distinct names, sorted -/
theorem right_of {xs zs : List Str} (p : zs.Perm xs) (s : sortedS zs = true) (nd : xs.Nodup) (nm : ∀ x ∈ xs, isName x = true) : Right zs :=
  ⟨((sorted_pw s).and (p.nodup_iff.mpr nd)).imp fun h => lt_of h.1 h.2, fun x hx => nm x (p.mem_iff.mp hx)⟩
end Sc
namespace Sc
open PySem PySem.Spec PyProof.Rows L2
/-! ### how rules are read -/
theorem sc_up_to_first_met : FnScope ["rules", "case", "looked", "rule", "condition", "met"] ["rules", "case"] (defScope s_up_to_first_met) := ⟨rfl, rfl, rfl, by decide +kernel, rfl, by decide +kernel, by decide +kernel⟩
theorem sc_steps : FnScope ["rules", "case", "looked", "rule", "met"] ["rules", "case"] (defScope s_steps) := ⟨rfl, rfl, rfl, by decide +kernel, rfl, by decide +kernel, by decide +kernel⟩
theorem sc_looked_into : FnScope ["rules", "case", "rule", "met"] ["rules", "case"] (defScope s_looked_into) := ⟨rfl, rfl, rfl, by decide +kernel, rfl, by decide +kernel, by decide +kernel⟩
/-- is a rule met -/
abbrev Nd.met (cs : List Str) (n : Nd) : Bool := meets n.hs n.fs cs
def uptoL (cs : List Str) : List Nd → List (Nd × Bool)
  | [] => []
  | n :: r => if n.met cs = true then [(n, true)] else (n, false) :: uptoL cs r
theorem uptoL_end {cs : List Str} : ∀ {l : List Nd}, (∀ n ∈ l, n.met cs = false) → uptoL cs l = l.map fun n => (n, false)
  | [], _ => rfl
  | n :: r, h => by
    show (if n.met cs = true then _ else _) = _
    rw [if_neg (by rw [h n List.mem_cons_self]; exact Bool.false_ne_true), uptoL_end fun m hm => h m (List.mem_cons_of_mem _ hm)]
    rfl
theorem uptoL_hit {cs : List Str} : ∀ {l : List Nd} {i : Nat} {n : Nd}, l[i]? = some n → n.met cs = true → (∀ m ∈ l.take i, m.met cs = false) → uptoL cs l = ((l.take i).map fun n => (n, false)) ++ [(n, true)]
  | m :: r, 0, n, hi, hm, _ => by
    cases hi
    show (if _ then _ else _) = _
    rw [if_pos hm]
    rfl
  | m :: r, i + 1, n, hi, hm, h => by
    show (if m.met cs = true then _ else _) = _
    rw [if_neg (by rw [h m (by rw [List.take_succ_cons]; exact List.mem_cons_self)]; exact Bool.false_ne_true), uptoL_hit (l := r) (i := i) (by simpa using hi) hm fun x hx => h x (by rw [List.take_succ_cons]; exact List.mem_cons_of_mem _ hx)]
    rw [List.take_succ_cons]
    rfl
theorem uptoL_len {cs : List Str} : ∀ l : List Nd, (uptoL cs l).length ≤ l.length
  | [] => Nat.le_refl _
  | n :: r => by
    show (if n.met cs = true then _ else _ : List (Nd × Bool)).length ≤ _
    split
    · show 1 ≤ r.length + 1; omega
    · show (uptoL cs r).length + 1 ≤ r.length + 1; have := uptoL_len (cs := cs) r; omega
theorem uptoL_mem {cs : List Str} : ∀ {l : List Nd} {q : Nd × Bool}, q ∈ uptoL cs l → q.1 ∈ l
  | n :: r, q, h => by
    have h : q ∈ (if n.met cs = true then [(n, true)] else (n, false) :: uptoL cs r) := h
    split at h
    · rw [List.mem_singleton.mp h]; exact List.mem_cons_self
    · rcases List.mem_cons.mp h with rfl | h
      · exact List.mem_cons_self
      · exact List.mem_cons_of_mem _ (uptoL_mem h)
theorem uptoL_ne {cs : List Str} : ∀ {l : List Nd}, l ≠ [] → uptoL cs l ≠ []
  | [], h => absurd rfl h
  | n :: r, _ => by
    show (if n.met cs = true then _ else _ : List (Nd × Bool)) ≠ []
    split <;> exact List.cons_ne_nil _ _
namespace RF
/-- the rules beside each other that are looked at -/
def upto (cs : List Str) (f : RF) : List (Nd × Bool) := uptoL cs f.nodes
/-- all rules that are looked at -/
def steps (cs : List Str) : RF → List (Nd × Bool)
  | .nil => []
  | .cons nm hs fs rl exc rest => if meets hs fs cs = true then (⟨nm, hs, fs, rl, exc⟩, true) :: exc.steps cs else (⟨nm, hs, fs, rl, exc⟩, false) :: rest.steps cs
/-- the rules that are looked into -/
def way (cs : List Str) : RF → List Nd
  | .nil => []
  | .cons nm hs fs rl exc rest => if meets hs fs cs = true then ⟨nm, hs, fs, rl, exc⟩ :: exc.way cs else rest.way cs
/-- the rules behind those that are looked at -/
def next (cs : List Str) (f : RF) : RF := match (f.upto cs).getLast? with
  | some (n, true) => n.exc
  | _ => .nil
theorem steps_upto (cs : List Str) : ∀ f : RF, f.steps cs = f.upto cs ++ (f.next cs).steps cs
  | .nil => rfl
  | .cons nm hs fs rl exc rest => by
    have ih := steps_upto cs rest
    unfold next upto at ih ⊢
    show (if meets hs fs cs = true then _ else _) = (if meets hs fs cs = true then _ else _ : List (Nd × Bool)) ++ _
    have e : uptoL cs (RF.cons nm hs fs rl exc rest).nodes = if meets hs fs cs = true then [(⟨nm, hs, fs, rl, exc⟩, true)] else (⟨nm, hs, fs, rl, exc⟩, false) :: uptoL cs rest.nodes := rfl
    rw [e]
    by_cases h : meets hs fs cs = true
    · rw [if_pos h, if_pos h]
      rfl
    · rw [if_neg h, if_neg h, ih, List.cons_append]
      cases h2 : uptoL cs rest.nodes with
      | nil => rfl
      | cons q r => rw [List.getLast?_cons_cons]
theorem next_of {cs : List Str} {f : RF} {qs : List (Nd × Bool)} {q : Nd × Bool} (h : f.upto cs = qs ++ [q]) : f.next cs = if q.2 = true then q.1.exc else .nil := by
  unfold next
  rw [h, List.getLast?_concat]
  obtain ⟨n, b⟩ := q
  cases b <;> rfl
theorem dep_pos : ∀ {f : RF}, f ≠ .nil → 1 ≤ f.dep
  | .nil, h => absurd rfl h
  | .cons nm hs fs rl exc rest, _ => by
    show 1 ≤ max (exc.dep + 1) rest.dep
    omega
theorem nodes_ne : ∀ {f : RF}, f ≠ .nil → f.nodes ≠ []
  | .nil, h => absurd rfl h
  | .cons nm hs fs rl exc rest, _ => List.cons_ne_nil _ _
theorem steps_way (cs : List Str) : ∀ f : RF, ((f.steps cs).filter fun q => q.2).map (fun q => q.1) = f.way cs
  | .nil => rfl
  | .cons nm hs fs rl exc rest => by
    have h1 := steps_way cs exc
    have h2 := steps_way cs rest
    unfold steps way
    by_cases h : meets hs fs cs = true
    · rw [if_pos h, if_pos h, List.filter_cons_of_pos rfl, List.map_cons, h1]
    · rw [if_neg h, if_neg h, List.filter_cons_of_neg Bool.false_ne_true, h2]
theorem steps_size (cs : List Str) : ∀ f : RF, (f.steps cs).length ≤ f.size
  | .nil => Nat.le_refl _
  | .cons nm hs fs rl exc rest => by
    have h1 := steps_size cs exc
    have h2 := steps_size cs rest
    unfold steps
    show _ ≤ exc.size + 1 + rest.size
    split
    · rw [List.length_cons]; omega
    · rw [List.length_cons]; omega
theorem way_dep (cs : List Str) : ∀ f : RF, (f.way cs).length ≤ f.dep
  | .nil => Nat.le_refl _
  | .cons nm hs fs rl exc rest => by
    have h1 := way_dep cs exc
    have h2 := way_dep cs rest
    unfold way
    show _ ≤ max (exc.dep + 1) rest.dep
    split
    · rw [List.length_cons]; omega
    · omega
theorem way_every {p : Nd → Prop} (cs : List Str) : ∀ {f : RF}, f.every p → ∀ n ∈ f.way cs, p n
  | .nil, _, n, h => nomatch h
  | .cons nm hs fs rl exc rest, hp, n, h => by
    unfold way at h
    split at h
    · rcases List.mem_cons.mp h with rfl | h
      · exact hp.1
      · exact way_every cs hp.2.1 n h
    · exact way_every cs hp.2.2 n h
end RF
section
variable {P : Program} {w : World} {K : PySem.W.Frag} {mg : Str → Option Value} {base : Heap} {C R : Addr}
/-- the class Condition, with its call -/
structure CondW (P : Program) (w : World) (K : PySem.W.Frag) (mg : Str → Option Value) (base : Heap) (C : Addr) : Prop extends CondG P w K mg base C where
  call : MethO P w K mg base CX0 1 C "__call__" ["self", "case"] (sp_ccall K C)
theorem pe_cK {X : Cx} {C : Addr} {te : TE} {t : TA} {x : Str} {e : Expr} {es : List Expr} {p pos : Pos} (M : CondW X.prog X.w X.K X.mg X.base C) (hr : Room 1 X.A) (ho : PE X (.Name x p) te) (ha : PA X (e :: es) t)
    (he : starEach (e :: es) X.env = (false, eval e X.env) :: starEach es X.env := by rfl) (hpl : (backTo pos (starEach es X.env)).any (·.1) = false := by rfl) : PE X (.Call (.Name x p) (e :: es) [] pos) (tCallO C (sp_ccall X.K C) E0 te t) := by
  obtain ⟨g, fd, h1, h2, h3, F, hb⟩ := M.call.ex
  exact pe_callO h1 h2 h3 F hr hb pass0 ho ha he hpl
/-- a rule, and whether it is met, in a tuple -/
def StepAt (K : PySem.W.Frag) (C R : Addr) (N : Addr → Prop) (H : Hp) (v : V) (q : Nd × Bool) : Prop := ∃ t o, v = .ref t ∧ H t = some (.tup [.ref o, .bl q.2]) ∧ NdAt K C R N H o q.1
theorem StepAt.keeps {N : Addr → Prop} {H H' : Hp} {v : V} {q : Nd × Bool} (h : StepAt K C R N H v q) (k : Keeps N H H') : StepAt K C R N H' v q := by
  obtain ⟨t, o, e, h1, h2⟩ := h
  exact ⟨t, o, e, k _ _ stays_tup h1, h2.keeps k⟩
theorem StepAt.re {N M : Addr → Prop} {H : Hp} (g : ∀ b xs, N b → H b = some (.lst xs) → M b) {v : V} {q : Nd × Bool} (h : StepAt K C R N H v q) : StepAt K C R M H v q := by
  obtain ⟨t, o, e, h1, h2⟩ := h
  exact ⟨t, o, e, h1, h2.re g⟩
def sp_upto (K : PySem.W.Frag) (C R : Addr) : Sp := fun vs H Q _ => ∃ (N : Addr → Prop) (p c : Addr) (cs : List Str) (ws : List V) (f : RF), vs = [.ref p, .ref c] ∧ SqT K H p ws ∧ ForAt K C R N H f ws ∧ SqT K H c (cs.map V.str) ∧ f.size ≤ 900 ∧ f.every NdOk ∧
  ∀ H' D us, Same H H' → H' D = some (.lst us) → All2 (StepAt K C R N H') us (f.upto cs) → Q (.ref D) H'
theorem ok_upto {f : Addr} {fd : FuncData} (F : Fun K "up_to_first_met" "up_to_first_met" s_up_to_first_met f fd) (Bl : Blt mg) (kR : RuleX P w K mg base R) (kK : CondW P w K mg base C) :
    FnOk P w K mg base CX0 6 f fd ["rules", "case"] (sp_upto K C R) := by
  refine F.ok sc_up_to_first_met (fun vs H Q E h => by obtain ⟨N, p, c, cs, ws, f, rfl, _⟩ := h; rfl) (fun cdv A outer s H vs Q E hr h => ?_)
  obtain ⟨N, p, c, cs, ws, f, rfl, hP, hF, hC, hz, hev, q⟩ := h
  refine ⟨_, (pss_cons (ps_set (i := 2) sc_up_to_first_met.nd rfl (Or.inl rfl) (pe_lst pa_nil))
      (pss_cons (ps_for PassesOwn.never rfl (pi_tup (pv 0)) (pg_name (i := 3) sc_up_to_first_met.nd rfl (Or.inl rfl)) (pss_cons (ps_set (i := 4) sc_up_to_first_met.nd rfl (Or.inl rfl) (pe_cprop kR.condition kR.cls (hr.mono (by decide)) (pv 3)))
      (pss_cons (ps_set (i := 5) sc_up_to_first_met.nd rfl (Or.inl rfl) (pe_cK kK (hr.mono (by decide)) (pv 4) (pa_cons (pv 1) pa_nil)))
      (pss_cons (ps_expr (pe_bm PySem.F.plainAttrs_list PySem.F.slot_list_append PySem.F.type_list_append mt_append (pv 2) (pa_cons (pe_tup (pa_cons (pv 3) (pa_cons (pv 5) pa_nil))) pa_nil)))
      (pss_one (ps_if (pt_val (pv 5)) (pss_one ps_break) pss_nil))))))
      (pss_one (ps_ret (pv 2))))), ?_⟩
  have hA := hF.used.all
  have hln := hA.len
  have hlz := RF.nodes_le f
  refine ⟨Nat.zero_le _, fun D nD => ⟨_, rfl, p, rfl, ⟨_, ((Same.refl H).put nD).tup hP⟩, for_it walk_tup (fun i σ H' => ∃ (us : List V) (y3 y4 y5 : Option V), σ = [some (.ref p), some (.ref c), some (.ref D), y3, y4, y5] ∧ Same H H' ∧ H' D = some (.lst us) ∧ All2 (StepAt K C R (Used N H) H') us ((f.nodes.take i).map fun n => (n, false)) ∧ ∀ m ∈ f.nodes.take i, m.met cs = false)
    ⟨[], none, none, none, rfl, (Same.refl H).put nD, upd_same, .nil, fun m hm => nomatch hm⟩ (fun _ _ _ _ ⟨_, _, _, _, _, s, _⟩ => s.tup hP) ?_ ?_⟩⟩
  · rintro i y σ H3 H2 hi ⟨us, y3, y4, y5, rfl, s, e, hu, hno⟩ ⟨rfl, hy⟩
    have nU := used_not (N := N) nD
    obtain ⟨n, hn, o, rfl, hN⟩ := hA.get hy
    have hmem : n ∈ f.nodes := List.mem_of_getElem? hn
    obtain ⟨hok, hne⟩ := RF.every_nodes.mp hev n hmem
    have hlen := hok.len
    have hul := hu.len
    rw [List.length_map, List.length_take] at hul
    have hN2 := hN.keeps (N := Used N H) s.keeps
    obtain ⟨dx, k, pe, l, ws', ho, hc, hpe, hl, hfe⟩ := id hN2
    obtain ⟨dxk, hk⟩ : ∃ (dxk : Addr) (fk : _), H2 k = some (.ins C dxk fk) := by obtain ⟨dxk, _, _, _, _, hk, _⟩ := id hc; exact ⟨_, _, hk⟩
    obtain ⟨fk, hk⟩ := hk
    refine ⟨_, rfl, o, dx, _, rfl, ho, ⟨o, dx, _, _, rfl, ho, rfl, ?_⟩⟩
    refine ⟨_, rfl, k, rfl, _, rfl, ⟨dxk, _, hk⟩, k, c, n.hs, n.fs, cs, rfl, hc, s.tup hC, by omega, by omega, fun H4 s4 => ?_⟩
    have s04 := s.trans s4
    refine ⟨_, rfl, .inl ⟨rfl, _, sqL_of (s4 _ _ e)⟩, _, rfl, _, rfl, (by show 2 ≤ sizeLine; decide), fun t nt => ?_⟩
    have s5 : Same H4 (upd H4 t (.tup [.ref o, .bl (n.met cs)])) := (Same.refl H4).put nt
    have t5 : (upd H4 t (.tup [.ref o, .bl (n.met cs)])) t = some (.tup [.ref o, .bl (n.met cs)]) := upd_same
    generalize upd H4 t (.tup [.ref o, .bl (n.met cs)]) = H5 at s5 t5 ⊢
    have s45 := s4.trans s5
    have e5 := s45 _ _ e
    refine ⟨D, _, _, rfl, rfl, e5, small1000 (by omega), ?_⟩
    have s06 : Same H (upd H5 D (.lst (us ++ [.ref t]))) := (s.trans s45).put nD
    have e6 : (upd H5 D (.lst (us ++ [.ref t]))) D = some (.lst (us ++ [.ref t])) := upd_same
    have tD : t ≠ D := fun z => by rw [z, e5] at t5; cases t5
    have hu6 : All2 (StepAt K C R (Used N H) (upd H5 D (.lst (us ++ [.ref t])))) (us ++ [.ref t]) (((f.nodes.take i).map fun n => (n, false)) ++ [(n, n.met cs)]) :=
      (hu.mono fun _ _ x => (x.keeps s45.keeps).keeps (keeps_own e5 nU)).snoc ⟨t, o, rfl, by rw [upd_ne tD]; exact t5, (hN2.keeps s45.keeps).keeps (keeps_own e5 nU)⟩
    generalize upd H5 D (.lst (us ++ [.ref t])) = H6 at s06 e6 hu6 ⊢
    refine ⟨_, rfl, _, rfl, bcase (fun c1 => ?_) (fun c1 => ?_)⟩
    · refine ⟨_, rfl, q H6 D _ s06 e6 ?_⟩
      unfold RF.upto
      rw [uptoL_hit hn c1 hno]
      have c1 : n.met cs = true := c1
      rw [c1] at hu6
      exact hu6.mono fun _ _ x => x.re fun b xs h _ => h.1
    · have c1 : n.met cs = false := c1
      rw [c1] at hu6
      refine ⟨_, _, _, _, rfl, s06, e6, ?_, ?_⟩
      · rw [take_more hn, List.map_append]
        exact hu6
      · rw [take_more hn]
        intro m hm
        rcases List.mem_append.mp hm with hm | hm
        · exact hno m hm
        · rw [List.mem_singleton.mp hm]; exact c1
  · rintro σ H2 ⟨us, y3, y4, y5, rfl, s, e, hu, hno⟩
    rw [hln, List.take_length] at hu hno
    refine ⟨_, rfl, q H2 D us s e ?_⟩
    unfold RF.upto
    rw [uptoL_end hno]
    exact hu.mono fun _ _ x => x.re fun b xs h _ => h.1
def sp_steps (K : PySem.W.Frag) (C R : Addr) : Sp := fun vs H Q _ => ∃ (N : Addr → Prop) (p c : Addr) (cs : List Str) (ws : List V) (f : RF), vs = [.ref p, .ref c] ∧ SqT K H p ws ∧ ForAt K C R N H f ws ∧ SqT K H c (cs.map V.str) ∧ f.size ≤ 900 ∧ f.every NdOk ∧
  ∀ H' D us, Same H H' → H' D = some (.lst us) → All2 (StepAt K C R N H') us (f.steps cs) → Q (.ref D) H'
theorem ok_steps {f : Addr} {fd : FuncData} (F : Fun K "steps" "steps" s_steps f fd) (Bl : Blt mg) (kR : RuleX P w K mg base R) (c_up_to_first_met : Cal P w K mg base CX0 6 "up_to_first_met" ["rules", "case"] (sp_upto K C R)) :
    FnOk P w K mg base CX0 8 f fd ["rules", "case"] (sp_steps K C R) := by
  refine F.ok sc_steps (fun vs H Q E h => by obtain ⟨N, p, c, cs, ws, f, rfl, _⟩ := h; rfl) (fun cdv A outer s H vs Q E hr h => ?_)
  obtain ⟨N, p, c, cs, ws, f, rfl, hP, hF, hC, hz, hev, q⟩ := h
  refine ⟨_, (pss_cons (ps_set (i := 2) sc_steps.nd rfl (Or.inl rfl) (pe_lst pa_nil))
      (pss_cons (ps_while PassesOwn.never (pt_tru (pv 0) (by intro _; rfl)) (pss_cons (ps_expr (pe_bm PySem.F.plainAttrs_list PySem.F.slot_list_extend PySem.F.type_list_extend mt_extend (pv 2) (pa_cons (pe_cal c_up_to_first_met (hr.mono (by decide)) (pa_cons (pv 0) (pa_cons (pv 1) pa_nil))) pa_nil)))
      (pss_cons (ps_asg (pe_ix ix_list (pv 2) (pe_un un_neg pe_int) (fun _ _ => rfl)) (pg_tup (by rfl) (pgs_cons (pg_name (i := 3) sc_steps.nd rfl (Or.inl rfl)) (pgs_cons (pg_name (i := 4) sc_steps.nd rfl (Or.inl rfl)) pgs_nil))))
      (pss_one (ps_set (i := 0) sc_steps.nd rfl (Or.inl rfl) (pe_ifExp (pt_val (pv 4)) (pe_cprop kR.exceptions kR.cls (hr.mono (by decide)) (pv 3)) (pe_tup pa_nil)))))))
      (pss_one (ps_ret (pv 2))))), ?_⟩
  have hmax := RF.steps_size cs f
  refine ⟨Nat.zero_le _, fun D nD => ⟨fun k σ H' => ∃ (g : RF) (p' : Addr) (ws us : List V) (acc : List (Nd × Bool)) (y3 y4 : Option V), k = g.dep ∧ σ = [some (.ref p'), some (.ref c), some (.ref D), y3, y4] ∧ Same H H' ∧ SqT K H' p' ws ∧ ForAt K C R (Used N H) H' g ws ∧ H' D = some (.lst us) ∧ All2 (StepAt K C R (Used N H) H') us acc ∧ f.steps cs = acc ++ g.steps cs ∧ g.size ≤ f.size ∧ g.every NdOk,
    ⟨_, f, p, ws, [], [], none, none, rfl, rfl, (Same.refl H).put nD, ((Same.refl H).put nD).tup hP, hF.used.keeps ((Same.refl H).put nD).keeps, upd_same, .nil, rfl, Nat.le_refl _, hev⟩, ?_⟩⟩
  have nU := used_not (N := N) nD
  rintro k σ H1 ⟨g, p', ws, us, acc, y3, y4, rfl, rfl, s, hP', hG, e, hu, hst, hsz, hgev⟩
  have hgl := hG.all.len
  refine ⟨_, rfl, _, .inr (.inl ⟨_, hP', rfl⟩), bcase (fun c1 => ?_) (fun c1 => ?_)⟩
  · have hg : g ≠ .nil := fun z => by
      subst z
      have hG : ws = [] := hG
      rw [hG] at c1
      cases c1
    have hne := uptoL_ne (cs := cs) (RF.nodes_ne hg)
    obtain ⟨qs, q', hq⟩ : ∃ qs q', g.upto cs = qs ++ [q'] := (List.eq_nil_or_concat (g.upto cs)).elim (fun z => absurd z hne) fun ⟨a, b, e⟩ => ⟨a, b, by rw [e, List.concat_eq_append]⟩
    have hmem : q'.1 ∈ g.nodes := uptoL_mem (cs := cs) (by show q' ∈ g.upto cs; rw [hq]; exact List.mem_append_right _ (List.mem_singleton.mpr rfl))
    have hdm := RF.dep_mem g q'.1 hmem
    have hsm := RF.size_mem g q'.1 hmem
    have hnx := RF.next_of hq
    have hsu := RF.steps_upto cs g
    have hslen : acc.length + (g.upto cs).length + ((g.next cs).steps cs).length = (f.steps cs).length := by rw [hst, hsu, List.length_append, List.length_append]; omega
    have hul := hu.len
    refine ⟨fun σ' H' => ∃ (g' : RF) (p2 : Addr) (ws2 us2 : List V) (acc2 : List (Nd × Bool)) (z3 z4 : Option V), g'.dep < g.dep ∧ σ' = [some (.ref p2), some (.ref c), some (.ref D), z3, z4] ∧ Same H H' ∧ SqT K H' p2 ws2 ∧ ForAt K C R (Used N H) H' g' ws2 ∧ H' D = some (.lst us2) ∧ All2 (StepAt K C R (Used N H) H') us2 acc2 ∧ f.steps cs = acc2 ++ g'.steps cs ∧ g'.size ≤ f.size ∧ g'.every NdOk,
      fun σ' H' ⟨g', p2, ws2, us2, acc2, z3, z4, lt, x⟩ => ⟨_, lt, g', p2, ws2, us2, acc2, z3, z4, rfl, x⟩, ?_⟩
    refine ⟨_, rfl, .inl ⟨rfl, _, sqL_of e⟩, _, rfl, _, rfl, Used N H, p', c, cs, ws, g, rfl, hP', hG, s.tup hC, by omega, hgev, fun H2 D2 us2 s2 e2 hu2 => ?_⟩
    have eD := s2 _ _ e
    have hul2 := hu2.len
    refine ⟨D, D2, _, _, rfl, rfl, eD, e2, by rw [sizeLine_eq]; omega, ?_⟩
    have s12 := s.trans s2
    have hk : Keeps (Used N H) H2 (upd H2 D (.lst (us ++ us2))) := keeps_own eD nU
    have s13 : Same H (upd H2 D (.lst (us ++ us2))) := s12.put nD
    have e3 : (upd H2 D (.lst (us ++ us2))) D = some (.lst (us ++ us2)) := upd_same
    have hu3 : All2 (StepAt K C R (Used N H) (upd H2 D (.lst (us ++ us2)))) (us ++ us2) (acc ++ g.upto cs) := (hu.mono fun _ _ x => (x.keeps s2.keeps).keeps hk).app (hu2.mono fun _ _ x => x.keeps hk)
    generalize upd H2 D (.lst (us ++ us2)) = H3 at s13 e3 hu3 ⊢
    rw [hq, List.length_append, List.length_singleton] at hul2
    obtain ⟨vs, v, hv⟩ : ∃ vs v, us2 = vs ++ [v] := (List.eq_nil_or_concat us2).elim (fun z => by rw [z] at hul2; cases hul2) fun ⟨a, b, e⟩ => ⟨a, b, by rw [e, List.concat_eq_append]⟩
    subst hv
    rw [List.length_append, List.length_singleton] at hul2
    have hlast : StepAt K C R (Used N H) H3 v q' := by
      have h1 : (us ++ (vs ++ [v]))[us.length + vs.length]? = some v := by rw [← List.append_assoc, ← List.length_append, List.getElem?_concat_length]
      obtain ⟨q2, h2, h3⟩ := hu3.get h1
      have h4 : (acc ++ g.upto cs)[us.length + vs.length]? = some q' := by rw [hq, ← List.append_assoc, show us.length + vs.length = (acc ++ qs).length by rw [List.length_append]; omega, List.getElem?_concat_length]
      rw [h4] at h2
      cases h2
      exact h3
    obtain ⟨t, o, rfl, ht, hN⟩ := hlast
    refine ⟨_, rfl, 1, rfl, D, _, _, _, rfl, rfl, sqL_of e3, (by rw [← List.append_assoc]; exact atI_last _ _), ?_⟩
    refine ⟨t, [.ref o, .bl q'.2], rfl, sqT_of ht, rfl, _, _, rfl, _, _, rfl, rfl, ?_⟩
    obtain ⟨dx, k', pe, l, ws', ho, hc, hpe, hl, hfe⟩ := id hN
    obtain ⟨hok', hne'⟩ := RF.every_nodes.mp hgev _ hmem
    refine ⟨_, rfl, _, rfl, bcase (fun c2 => ?_) (fun c2 => ?_)⟩
    · have c2 : q'.2 = true := c2
      rw [if_pos c2] at hnx
      refine ⟨_, rfl, o, dx, _, rfl, ho, ⟨o, dx, _, _, rfl, ho, rfl, ?_⟩⟩
      refine ⟨q'.1.exc, pe, ws', _, acc ++ g.upto cs, _, _, by omega, rfl, s13, hpe, hfe, e3, hu3, ?_, by omega, hne'⟩
      rw [hst, hsu, hnx, List.append_assoc]
    · have c2 : q'.2 = false := c2
      rw [if_neg (by rw [c2]; exact Bool.false_ne_true)] at hnx
      refine ⟨Nat.zero_le _, fun t0 n0 => ?_⟩
      have s4 : Same H3 (upd H3 t0 (.tup [])) := (Same.refl H3).put n0
      refine ⟨.nil, t0, [], _, acc ++ g.upto cs, _, _, RF.dep_pos hg, rfl, s13.trans s4, sqT_new, rfl, s4 _ _ e3, hu3.mono fun _ _ x => x.keeps s4.keeps, ?_, Nat.zero_le _, trivial⟩
      rw [hst, hsu, hnx, List.append_assoc]
  · have hg : g = .nil := by
      cases g with
      | nil => rfl
      | cons nm hs fs rl exc rest => 
        obtain ⟨o, dx, c', p2, l2, ws1, vs', rfl, _⟩ := hG
        cases c1
    subst hg
    have hst : f.steps cs = acc := by rw [hst]; exact List.append_nil _
    refine ⟨_, rfl, q H1 D us s e ?_⟩
    rw [hst]
    exact hu.mono fun _ _ x => x.re fun b xs h _ => h.1
def sp_looked (K : PySem.W.Frag) (C R : Addr) : Sp := fun vs H Q _ => ∃ (N : Addr → Prop) (p c : Addr) (cs : List Str) (ws : List V) (f : RF), vs = [.ref p, .ref c] ∧ SqT K H p ws ∧ ForAt K C R N H f ws ∧ SqT K H c (cs.map V.str) ∧ f.size ≤ 900 ∧ f.every NdOk ∧
  ∀ H' D us, Same H H' → H' D = some (.lst us) → All2 (RefAt K C R N H') us (f.way cs) → Q (.ref D) H'
def into (qs : List (Nd × Bool)) : List Nd := (qs.filter fun q => q.2).map fun q => q.1
theorem ok_looked {f : Addr} {fd : FuncData} (F : Fun K "looked_into" "looked_into" s_looked_into f fd) (Bl : Blt mg) (c_steps : Cal P w K mg base CX0 8 "steps" ["rules", "case"] (sp_steps K C R)) :
    FnOk P w K mg base CX0 9 f fd ["rules", "case"] (sp_looked K C R) := by
  refine F.ok sc_looked_into (fun vs H Q E h => by obtain ⟨N, p, c, cs, ws, f, rfl, _⟩ := h; rfl) (fun cdv A outer s H vs Q E hr h => ?_)
  obtain ⟨N, p, c, cs, ws, f, rfl, hP, hF, hC, hz, hev, q⟩ := h
  refine ⟨_, (pss_one (ps_ret (pe_lc (own := [("rule", 2), ("met", 3)]) (g := gTup K 2 (gCons (gName 2) (gCons (gName 3) gNil))) rfl sc_looked_into.nd (pi_list (pe_cal c_steps (hr.mono (by decide)) (pa_cons (pv 0) (pa_cons (pv 1) pa_nil)))) (blkOk_by (own := [("rule", 2), ("met", 3)]) (N := ["rules", "case", "rule", "met"]) (sc := defScope s_looked_into) (by decide +kernel)) (fun _ _ _ _ _ => (pg_tup (by rfl) (pgs_cons (pg_name (i := 2) sc_looked_into.nd rfl (Or.inl rfl)) (pgs_cons (pg_name (i := 3) sc_looked_into.nd rfl (Or.inl rfl)) pgs_nil)))) (fun _ _ _ _ _ => (pts_.re (pts_one (pt_val (pv 3))) (by first | (dsimp only [Cx.blk]; done) | exact rfl))) (fun _ _ _ _ _ => (pe_.re (pv 2) (by first | (dsimp only [Cx.blk]; done) | exact rfl)))))), ?_⟩
  have hmax := RF.steps_size cs f
  refine ⟨_, rfl, _, rfl, N, p, c, cs, ws, f, rfl, hP, hF, hC, hz, hev, fun H1 D us s1 eD hu => ?_⟩
  have hul := hu.len
  refine ⟨D, rfl, ⟨_, sqL_of eD⟩, fun D2 nD2 => lc_it walk_list (fun i H' => Same H1 H' ∧ ∃ rs, H' D2 = some (.lst rs) ∧ All2 (RefAt K C R N H1) rs (into ((f.steps cs).take i))) ⟨(Same.refl H1).put nD2, [], upd_same, .nil⟩ (fun _ _ _ h => sqL_of (h.1 _ _ eD)) ?_ ?_⟩
  · rintro i y H3 H2 hi ⟨s, rs, e, hr2⟩ ⟨rfl, hy⟩
    obtain ⟨⟨n, b⟩, hq, t, o, rfl, ht, hN⟩ := hu.get hy
    have ht := s _ _ ht
    have hrl := hr2.len
    have hil : (into ((f.steps cs).take i)).length ≤ 900 := by
      unfold into
      rw [List.length_map]
      exact Nat.le_trans (List.length_filter_le _ _) (by rw [List.length_take]; omega)
    refine ⟨t, [.ref o, .bl b], rfl, sqT_of ht, rfl, _, _, rfl, _, _, rfl, rfl, ?_⟩
    refine ⟨rfl, _, rfl, _, rfl, bcase (fun c1 => ?_) (fun c1 => ?_)⟩
    · have c1 : b = true := c1
      subst c1
      refine ⟨_, rfl, rs, e, small1000 (by omega), s.put nD2, _, upd_same, ?_⟩
      rw [take_more hq]
      unfold into at hr2 ⊢
      rw [List.filter_append, List.map_append]
      exact hr2.snoc ⟨o, rfl, hN⟩
    · have c1 : b = false := c1
      subst c1
      refine ⟨s, _, e, ?_⟩
      rw [take_more hq]
      unfold into at hr2 ⊢
      rw [List.filter_append, show List.filter (fun q : Nd × Bool => q.2) [(n, false)] = [] from rfl, List.append_nil]
      exact hr2
  rintro H2 ⟨s, rs, e, hr2⟩
  rw [hu.len, List.take_length] at hr2
  unfold into at hr2
  rw [RF.steps_way] at hr2
  exact q H2 D2 rs (s1.trans s) e (hr2.mono fun _ _ x => x.keeps s.keeps)
end
end Sc
namespace Sc
open PySem PySem.Spec PyProof.Rows L2
theorem sc_orders_of : FnScope ["count", "orders", "_", "order", "place"] ["count"] (defScope s_orders_of) := ⟨rfl, rfl, rfl, by decide +kernel, rfl, by decide +kernel, by decide +kernel⟩
theorem sc_ruling_within : FnScope ["rule", "case", "way"] ["rule", "case"] (defScope s_ruling_within) := ⟨rfl, rfl, rfl, by decide +kernel, rfl, by decide +kernel, by decide +kernel⟩
theorem sc_ruling_by : FnScope ["order", "told", "otherwise", "found", "place"] ["order", "told", "otherwise"] (defScope s_ruling_by) := ⟨rfl, rfl, rfl, by decide +kernel, rfl, by decide +kernel, by decide +kernel⟩
/-- a walk within a walk -/
theorem lc2_it {J : It} {n : Nat} {G : Hp → Prop} {Y : Nat → Hp → V → Hp → Prop} (w : Walk J n G Y) {g : TG} {tt : TT} {te : TE} {vs : List Nat} {σ : L2.St} {H4 : Hp} {D : Addr} {Nx : Hp → Prop} (Pv : Nat → Hp → Prop) (h0 : Pv 0 H4) (hG : ∀ i H, i ≤ n → Pv i H → G H)
    (hs : ∀ i x H H', i < n → Pv i H → Y i H x H' → g x (wipe σ vs) H' fun σ3 H5 => wipe σ3 vs = wipe σ vs ∧ tt σ3 H5 fun b H6 =>
      if b = true then te σ3 H6 fun y H7 => ∃ acc, H7 D = some (.lst acc) ∧ acc.length < sizeLine ∧ Pv (i + 1) (upd H7 D (.lst (acc ++ [y]))) else Pv (i + 1) H6) (hd : ∀ H, Pv n H → Nx H) :
    ∃ W1 : Nat → Nat → Hp → Prop, (∃ m, W1 0 m H4) ∧ ∀ j k H, W1 j k H → (J.stop j H ∧ Nx H) ∨ (J.go j H ∧ ∃ Nx1 : Hp → Prop, (∀ H', Nx1 H' → ∃ k', k' < k ∧ W1 (j + 1) k' H') ∧ ∀ x H', J.yld j H x H' → g x (wipe σ vs) H' fun σ3 H5 => wipe σ3 vs = wipe σ vs ∧ tt σ3 H5 fun b H6 =>
      if b = true then te σ3 H6 fun y H7 => ∃ acc, H7 D = some (.lst acc) ∧ acc.length < sizeLine ∧ Nx1 (upd H7 D (.lst (acc ++ [y]))) else Nx1 H6) := by
  refine ⟨fun i m H => m = n - i ∧ i ≤ n ∧ Pv i H, ⟨n, by simp, Nat.zero_le _, h0⟩, ?_⟩
  rintro i m H ⟨rfl, hi, p⟩
  have q := hG i H hi p
  by_cases hlt : i < n
  · exact .inr ⟨w.goes i H hlt q, Pv (i + 1), fun H' p' => ⟨n - (i + 1), by omega, rfl, hlt, p'⟩, fun x H' y => hs i x H H' hlt p (w.yields i H x H' hlt q y)⟩
  · have e : i = n := by omega
    subst e
    exact .inl ⟨w.stops H q, hd H p⟩
theorem lc2_o {J : It} {n : Nat} {G : Hp → Prop} {Y : Nat → Hp → V → Hp → Prop} (w : Walk J n G Y) {g : TG} {tt : TT} {bd : L2.St → Hp → (Hp → Prop) → Prop} {vs : List Nat} {σ : L2.St} {H1 : Hp} {D : Addr} {Qd : Hp → Prop} (Pv : Nat → Hp → Prop) (h0 : Pv 0 (upd H1 D (.lst []))) (hG : ∀ i H, i ≤ n → Pv i H → G H)
    (hs : ∀ i x H H', i < n → Pv i H → Y i H x H' → g x (wipe σ vs) H' fun σ2 H2 => wipe σ2 vs = wipe σ vs ∧ tt σ2 H2 fun b H3 => if b = true then bd σ2 H3 (Pv (i + 1)) else Pv (i + 1) H3) (hd : ∀ H, Pv n H → Qd H) :
    ∃ W : Nat → Nat → Hp → Prop, (∃ m, W 0 m (upd H1 D (.lst []))) ∧ ∀ i m H, W i m H → (J.stop i H ∧ Qd H) ∨ (J.go i H ∧ ∃ Nx : Hp → Prop, (∀ H', Nx H' → ∃ m', m' < m ∧ W (i + 1) m' H') ∧ ∀ x H', J.yld i H x H' → g x (wipe σ vs) H' fun σ2 H2 => wipe σ2 vs = wipe σ vs ∧ tt σ2 H2 fun b H3 => if b = true then bd σ2 H3 Nx else Nx H3) := by
  refine ⟨fun i m H => m = n - i ∧ i ≤ n ∧ Pv i H, ⟨n, by simp, Nat.zero_le _, h0⟩, ?_⟩
  rintro i m H ⟨rfl, hi, p⟩
  have q := hG i H hi p
  by_cases hlt : i < n
  · exact .inr ⟨w.goes i H hlt q, Pv (i + 1), fun H' p' => ⟨n - (i + 1), by omega, rfl, hlt, p'⟩, fun x H' y => hs i x H H' hlt p (w.yields i H x H' hlt q y)⟩
  · have e : i = n := by omega
    subst e
    exact .inl ⟨w.stops H q, hd H p⟩
/-- an order's tuple -/
def OrdAt (H : Hp) (v : V) (o : List Nat) : Prop := ∃ (t : Addr) (ob : Obj), v = .ref t ∧ H t = some (.frz ob (.tup (o.map fun k => V.int (k : Nat)))) ∧ tupO ob
theorem OrdAt.keeps {N : Addr → Prop} {H H' : Hp} {v : V} {o : List Nat} (k : Keeps N H H') (h : OrdAt H v o) : OrdAt H' v o := by
  obtain ⟨t, ob, e, h1, h2⟩ := h
  exact ⟨t, ob, e, k _ _ ⟨(fun _ z => nomatch z), (fun _ _ _ z => nomatch z), (fun _ z => nomatch z)⟩ h1, h2⟩
/-- the places that an order lacks, each set behind it -/
def ordX (n : Nat) (o : List Nat) (j : Nat) : List (List Nat) := ((List.range j).filter fun p => decide (¬ p ∈ o)).map fun p => o ++ [p]
/-- the orders of so many -/
def ordN (n : Nat) : Nat → List (List Nat)
  | 0 => [[]]
  | k + 1 => (ordN n k).flatMap fun o => ordX n o n
theorem ordX_more {n : Nat} {o : List Nat} {j : Nat} : ordX n o (j + 1) = ordX n o j ++ if j ∈ o then [] else [o ++ [j]] := by
  unfold ordX
  rw [List.range_succ, List.filter_append, List.map_append]
  congr 1
  by_cases h : j ∈ o
  · rw [if_pos h]; simp [h]
  · rw [if_neg h]; simp [h]
theorem inV_ints {m : Nat} : ∀ o : List Nat, inV (.int (m : Nat)) (o.map fun k => V.int (k : Nat)) = decide (m ∈ o)
  | [] => rfl
  | k :: r => by
    have ih := inV_ints (m := m) r
    show ((((k : Nat) : Int) == ((m : Nat) : Int)) || inV _ _) = _
    rw [ih, Bool.eq_iff_iff, Bool.or_eq_true, beq_iff_eq, decide_eq_true_iff, decide_eq_true_iff, List.mem_cons]
    constructor
    · rintro (h | h)
      · exact .inl (by omega)
      · exact .inr h
    · rintro (h | h)
      · exact .inl (by omega)
      · exact .inr h
theorem flat_ints (o : List Nat) : (o.map fun k => V.int (k : Nat)).all flatV = true := by
  rw [List.all_eq_true]
  intro v hv
  obtain ⟨k, _, rfl⟩ := List.mem_map.mp hv
  rfl
/-- how the orders stand -/
theorem ord_all {n : Nat} : ∀ {k : Nat}, k ≤ n → ∀ o ∈ ordN n k, o.length = k ∧ o.Nodup ∧ ∀ p ∈ o, p < n
  | 0, _, o, h => by rw [List.mem_singleton.mp h]; exact ⟨rfl, .nil, fun _ h => nomatch h⟩
  | k + 1, hk, o, h => by
    obtain ⟨o0, h0, h1⟩ := List.mem_flatMap.mp h
    obtain ⟨p, hp, rfl⟩ := List.mem_map.mp h1
    obtain ⟨hp1, hp2⟩ := List.mem_filter.mp hp
    obtain ⟨a, b, c⟩ := ord_all (k := k) (by omega) o0 h0
    have hp2 : ¬ p ∈ o0 := of_decide_eq_true hp2
    refine ⟨by rw [List.length_append, a]; rfl, List.nodup_append.mpr ⟨b, List.nodup_cons.mpr ⟨(fun h => nomatch h), List.nodup_nil⟩, ?_⟩, fun q hq => ?_⟩
    · intro x hx y hy e
      rw [List.mem_singleton.mp hy] at e
      exact hp2 (e ▸ hx)
    · rcases List.mem_append.mp hq with hq | hq
      · exact c q hq
      · rw [List.mem_singleton.mp hq]; exact List.mem_range.mp hp1
theorem flat_len (n : Nat) : ∀ L : List (List Nat), (L.flatMap fun o => ordX n o n).length ≤ L.length * n
  | [] => Nat.zero_le _
  | o :: r => by
    have ih := flat_len n r
    rw [List.flatMap_cons, List.length_append, List.length_cons, Nat.succ_mul]
    have : (ordX n o n).length ≤ n := by
      unfold ordX
      rw [List.length_map]
      have := List.length_filter_le (fun p => decide (¬ p ∈ o)) (List.range n)
      rw [List.length_range] at this
      exact this
    omega
theorem ord_len (n : Nat) : ∀ k : Nat, (ordN n k).length ≤ n ^ k
  | 0 => Nat.le_refl _
  | k + 1 => by
    have h := flat_len n (ordN n k)
    have ih := Nat.mul_le_mul_right n (ord_len n k)
    rw [Nat.pow_succ]
    exact Nat.le_trans h ih
section
variable {P : Program} {w : World} {K : PySem.W.Frag} {mg : Str → Option Value} {base : Heap} {C R B : Addr}
def sp_orders (K : PySem.W.Frag) : Sp := fun vs H Q _ => ∃ (n : Nat), vs = [.int (n : Nat)] ∧ n ≤ 6 ∧ ∀ H' D us, Same H H' → H' D = some (.lst us) → All2 (OrdAt H') us (ordN n n) → Q (.ref D) H'
theorem ok_orders {f : Addr} {fd : FuncData} (F : Fun K "orders_of" "orders_of" s_orders_of f fd) (Bl : Blt mg) : FnOk P w K mg base CX0 1 f fd ["count"] (sp_orders K) := by
  refine F.ok sc_orders_of (fun vs H Q E h => by obtain ⟨n, rfl, _⟩ := h; rfl) (fun cdv A outer s H vs Q E hr h => ?_)
  obtain ⟨n, rfl, hn, q⟩ := h
  refine ⟨_, (pss_cons (ps_set (i := 1) sc_orders_of.nd rfl (Or.inl rfl) (pe_lst (pa_cons (pe_tupF pa_nil) pa_nil)))
      (pss_cons (ps_for PassesOwn.never rfl (pi_range1 (by rfl) Bl.b_range (pa_cons (pv 0) pa_nil)) (pg_name (i := 2) sc_orders_of.nd rfl (Or.inl rfl)) (pss_one (ps_setLc2 (i := 1) (own := [("order", 3), ("place", 4)]) (g := gName 3) (g1 := gName 4) (tt := tYes) (vs1 := [4]) rfl sc_orders_of.nd rfl rfl (sw_true rfl rfl rfl (by decide +kernel)) (pi_list (pv 1)) (blkOk_by (own := [("order", 3), ("place", 4)]) (N := ["count", "orders", "_", "order", "place"]) (sc := defScope s_orders_of) (by decide +kernel)) (by decide) (fun _ _ _ _ _ => (pg_name (i := 3) sc_orders_of.nd rfl (Or.inl rfl))) (fun _ _ _ _ _ => pts_nil) (fun _ _ _ _ _ => (pi_range1 (by rfl) Bl.b_range (pa_cons (pv 0) pa_nil))) (fun _ _ _ _ _ => (pg_name (i := 4) sc_orders_of.nd rfl (Or.inl rfl))) (fun _ _ _ _ _ => (pts_.re (pts_one (pt_cmpR op_notIn_seq (pv 4) (pv 3) rfl)) (by first | (dsimp only [Cx.blk]; done) | exact rfl))) (fun _ _ _ _ _ => (pe_.re (pe_op op_catF (pv 3) (pe_tupF (pa_cons (pv 4) pa_nil))) (by first | (dsimp only [Cx.blk]; done) | exact rfl))))))
      (pss_one (ps_ret (pv 1))))), ?_⟩
  refine ⟨Nat.zero_le _, fun te ob nte hob => ⟨(by show 1 ≤ sizeLine; decide), fun D nD => ?_⟩⟩
  have s1 : Same H (upd H te (.frz ob (.tup []))) := (Same.refl H).put nte
  have m1 : (upd H te (.frz ob (.tup []))) te = some (.frz ob (.tup [])) := upd_same
  generalize upd H te (.frz ob (.tup [])) = H1 at s1 m1 nD ⊢
  have s2 : Same H1 (upd H1 D (.lst [.ref te])) := (Same.refl H1).put nD
  have e2 : (upd H1 D (.lst [.ref te])) D = some (.lst [.ref te]) := upd_same
  generalize upd H1 D (.lst [.ref te]) = H2 at s2 e2 ⊢
  have s02 := s1.trans s2
  refine ⟨_, rfl, _, rfl, by omega, by omega, for_it walk_range (fun k σ H' => ∃ (D' : Addr) (us : List V) (y2 y3 y4 : Option V), σ = [some (.int (n : Nat)), some (.ref D'), y2, y3, y4] ∧ Same H2 H' ∧ H' D' = some (.lst us) ∧ All2 (OrdAt H') us (ordN n k)) ⟨D, _, _, _, _, rfl, Same.refl _, e2, .cons ⟨te, ob, rfl, s2 _ _ m1, hob⟩ .nil⟩ (fun _ _ _ _ _ => trivial) ?_ ?_⟩
  · rintro k v σ Ha0 Ha hk ⟨D', us, y2, y3, y4, rfl, sa, ea, hus⟩ ⟨rfl, hv⟩
    have hk : k < n := by
      have hk : k < ((n : Nat) : Int).toNat := hk
      omega
    have hul := hus.len
    have hlen := ord_len n k
    have hpw : n ^ k * n ≤ 46656 := by
      have h1 : n ^ (k + 1) ≤ 6 ^ (k + 1) := Nat.pow_le_pow_left (by omega) _
      have h2 : 6 ^ (k + 1) ≤ 6 ^ 6 := Nat.pow_le_pow_right (by decide) (by omega)
      have h3 : (6 : Nat) ^ 6 = 46656 := by decide
      rw [Nat.pow_succ] at h1
      omega
    refine ⟨_, rfl, D', rfl, ⟨_, sqL_of ea⟩, fun D2 nD2 => lc2_o walk_list (fun i H' => Same Ha H' ∧ ∃ ws, H' D2 = some (.lst ws) ∧ All2 (OrdAt H') ws (((ordN n k).take i).flatMap fun o => ordX n o n)) ⟨(Same.refl Ha).put nD2, [], upd_same, .nil⟩ (fun _ _ _ h => sqL_of (h.1 _ _ ea)) ?_ ?_⟩
    · rintro i v Hb0 Hb hi ⟨sb, ws, eb, hws⟩ ⟨rfl, hv2⟩
      obtain ⟨o, hoi, t, ot, rfl, hto, hot⟩ := hus.get hv2
      have htb := sb _ _ hto
      obtain ⟨ho1, ho2, ho3⟩ := ord_all (n := n) (k := k) (by omega) o (List.mem_of_getElem? hoi)
      have hwl := hws.len
      have hfl := flat_len n ((ordN n k).take i)
      rw [List.length_take] at hfl
      have hi2 : i < us.length := hi
      have hmul : min i (ordN n k).length * n ≤ 46656 := Nat.le_trans (Nat.mul_le_mul_right n (Nat.le_trans (Nat.min_le_right _ _) hlen)) hpw
      refine ⟨rfl, yes_ ⟨_, rfl, _, rfl, by omega, by omega, lc2_it walk_range (fun j H' => Same Ha H' ∧ ∃ ws, H' D2 = some (.lst ws) ∧ All2 (OrdAt H') ws (((ordN n k).take i).flatMap (fun o => ordX n o n) ++ ordX n o j)) ⟨sb, ws, eb, by rw [show ordX n o 0 = [] from rfl, List.append_nil]; exact hws⟩ (fun _ _ _ _ => trivial) ?_ ?_⟩⟩
      · rintro j v Hc0 Hc hj ⟨sc, ws2, ec, hws2⟩ ⟨rfl, hv3⟩
        have hj : j < n := by
          have hj : j < ((n : Nat) : Int).toNat := hj
          omega
        obtain rfl : v = V.int (j : Nat) := by rw [hv3]; show V.int (0 + (j : Nat)) = _; rw [Int.zero_add]
        have htc := sc _ _ hto
        have hwl2 := hws2.len
        have hxl : (ordX n o j).length ≤ n := by
          unfold ordX
          rw [List.length_map]
          have := List.length_filter_le (fun p => decide (¬ p ∈ o)) (List.range j)
          rw [List.length_range] at this
          omega
        rw [List.length_append] at hwl2
        refine ⟨rfl, _, rfl, _, rfl, t, _, rfl, .inr (.inl (.inr ⟨_, htc⟩)), rfl, flat_ints o, _, rfl, ?_⟩
        rw [if_pos rfl, inV_ints]
        have hmore := ordX_more (n := n) (o := o) (j := j)
        by_cases c1 : j ∈ o
        · rw [decide_eq_true c1]
          rw [if_pos c1, List.append_nil] at hmore
          refine iteF ⟨sc, ws2, ec, ?_⟩
          rw [hmore]
          exact hws2
        · rw [decide_eq_false c1]
          rw [if_neg c1] at hmore
          refine iteT ⟨_, rfl, _, rfl, (by show 1 ≤ sizeLine; decide), fun tq oq nq hoq => ?_⟩
          have sq : Same Hc (upd Hc tq (.frz oq (.tup [.int (j : Nat)]))) := (Same.refl Hc).put nq
          have mq : (upd Hc tq (.frz oq (.tup [.int (j : Nat)]))) tq = some (.frz oq (.tup [.int (j : Nat)])) := upd_same
          generalize upd Hc tq (.frz oq (.tup [.int (j : Nat)])) = Hd at sq mq ⊢
          have fin : ∀ (p : Addr) (op : Obj) (He : Hp), Same Hd He → He p = some (.frz op (.tup ((o ++ [j]).map fun k => V.int (k : Nat)))) → tupO op → ∃ acc, He D2 = some (.lst acc) ∧ acc.length < sizeLine ∧ Same Ha (upd He D2 (.lst (acc ++ [.ref p]))) ∧ ∃ ws, (upd He D2 (.lst (acc ++ [.ref p]))) D2 = some (.lst ws) ∧ All2 (OrdAt (upd He D2 (.lst (acc ++ [.ref p])))) ws (((ordN n k).take i).flatMap (fun o => ordX n o n) ++ ordX n o (j + 1)) := fun p op He se ep hop => by
            have sce := sq.trans se
            refine ⟨ws2, sce _ _ ec, by rw [sizeLine_eq]; omega, (sc.trans sce).put nD2, ws2 ++ [.ref p], upd_same, ?_⟩
            have kd : Keeps NoL He (upd He D2 (.lst (ws2 ++ [.ref p]))) := keeps_own (sce _ _ ec) id
            rw [hmore, ← List.append_assoc]
            have hrow : OrdAt He (.ref p) (o ++ [j]) := ⟨p, op, rfl, ep, hop⟩
            exact ((hws2.mono fun _ _ z => z.keeps (N := NoL) sce.keeps).snoc hrow).mono fun _ _ z => z.keeps kd
          refine ⟨t, tq, _, _, rfl, rfl, .inl (.inr ⟨_, sq _ _ htc⟩), .inl (.inr ⟨_, mq⟩), (by rw [List.length_map, ho1, sizeLine_eq]; show k + 1 ≤ _; omega), fun z => ?_, fun z => ⟨(fun z => nomatch z), fun p op np hop => ?_⟩⟩
          · have ho0 : o = [] := List.map_eq_nil_iff.mp z
            refine fin tq oq Hd (Same.refl _) ?_ hoq
            rw [mq, ho0]
            rfl
          · refine fin p op _ ((Same.refl Hd).put np) ?_ hop
            rw [upd_same, List.map_append]
            rfl
      · rintro Hc ⟨sc, ws2, ec, hws2⟩
        refine ⟨sc, ws2, ec, ?_⟩
        rw [take_more hoi, List.flatMap_append]
        have h : All2 (OrdAt Hc) ws2 (((ordN n k).take i).flatMap (fun o => ordX n o n) ++ ordX n o (((n : Nat) : Int).toNat)) := hws2
        rw [Int.toNat_natCast] at h
        rw [show ([o] : List (List Nat)).flatMap (fun o => ordX n o n) = ordX n o n by simp]
        exact h
    · rintro Hb ⟨sb, ws, eb, hws⟩
      rw [hul, List.take_length] at hws
      exact ⟨D2, ws, _, _, _, rfl, sa.trans sb, eb, hws⟩
  · rintro σ Ha ⟨D', us, y2, y3, y4, rfl, sa, ea, hus⟩
    rw [Int.toNat_natCast] at hus
    exact ⟨_, rfl, q Ha D' us (s02.trans sa) ea hus⟩
end
end Sc
namespace Sc
open PySem PySem.Spec PyProof.Rows L2
theorem sc_Book___call__ : FnScope ["self", "case", "way"] ["self", "case"] (defScope s_Book___call__) := ⟨rfl, rfl, rfl, by decide +kernel, rfl, by decide +kernel, by decide +kernel⟩
/-- the ruling of a case -/
def RF.ruled (cs : List Str) (f : RF) (rl : Str) : Str := match (f.way cs).getLast? with
  | some n => n.rl
  | none => rl
section
variable {P : Program} {w : World} {K : PySem.W.Frag} {mg : Str → Option Value} {base : Heap} {C R B CC : Addr}
def sp_bcall (K : PySem.W.Frag) (C R B CC : Addr) : Sp := fun vs H Q E => ∃ (N : Addr → Prop) (o c : Addr) (xs : List Str) (f : RF) (rl : Str) (cs : List Str), vs = [.ref o, .ref c] ∧ BookAt K C R B N H o xs f rl ∧ f.size ≤ 900 ∧ f.every NdOk ∧ SqT K H c (cs.map V.str) ∧ cs.length ≤ 1000 ∧
  (∀ i, firstOut xs cs = some i → errIx CC i H E) ∧ (firstOut xs cs = none → ∀ H', Same H H' → Q (.str (f.ruled cs rl)) H')
theorem ok_bcall {f : Addr} {fd : FuncData} (F : Fun K "__call__" "Book.__call__" s_Book___call__ f fd) (Bl : Blt mg) (T : Cls K B) (n1 : NoAttr K B "_facts") (n2 : NoAttr K B "_rules") (n3 : NoAttr K B "_ruling") (kR : RuleX P w K mg base R)
    (c_check_case : Cal P w K mg base (L2.CX P w) 3 "check_case" ["facts", "case"] (sp_check_case K CC)) (c_looked_into : Cal P w K mg base CX0 9 "looked_into" ["rules", "case"] (sp_looked K C R)) :
    FnOk P w K mg base (L2.CX P w) 11 f fd ["self", "case"] (sp_bcall K C R B CC) := by
  refine F.okX sc_Book___call__ (fun vs H Q E h => by obtain ⟨N, o, c, xs, f, rl, cs, rfl, _⟩ := h; rfl) (fun cdv A outer s H vs Q E hr h => ?_)
  obtain ⟨N, o, c, xs, f, rl, cs, rfl, ⟨dx, a, p, l, ws, us, ho, hS, hP, hF, hl, hus⟩, hz, hev, hC, hcl, hbad, hok⟩ := h
  refine ⟨_, (pss_cons (ps_expr (pe_calX c_check_case (hr.mono (by decide)) (takes_of rfl rfl rfl rfl) (pa_cons (pe_fld (pv 0) rfl) (pa_cons (pv 1) pa_nil))))
      (pss_cons (ps_set (i := 2) sc_Book___call__.nd rfl (Or.inl rfl) (pe_cal c_looked_into (hr.mono (by decide)) (pa_cons (pe_fld (pv 0) rfl) (pa_cons (pv 1) pa_nil))))
      (pss_one (ps_ret (pe_ifExp (pt_tru (pv 2) (by intro _; rfl)) (pe_cprop kR.ruling kR.cls (hr.mono (by decide)) (pe_ix ix_list (pv 2) (pe_un un_neg pe_int) (fun _ _ => rfl))) (pe_fld (pv 0) rfl)))))), ?_⟩
  refine ⟨_, rfl, o, B, dx, _, _, rfl, ho, T, n1, rfl, _, rfl, a, c, xs, cs, rfl, hS, hC, hcl, fun hn H1 s1 => ?_, fun i hi => hbad i hi⟩
  have ho1 := s1 _ _ ho
  refine ⟨_, rfl, o, B, dx, _, _, rfl, ho1, T, n2, rfl, _, rfl, N, p, c, cs, ws, f, rfl, s1.tup hP, hF.keeps s1.keeps, s1.tup hC, hz, hev, fun H2 D us2 s2 e2 hu2 => ?_⟩
  have ho2 := s2 _ _ ho1
  refine ⟨_, rfl, _, .inl ⟨_, sqL_of e2, rfl⟩, bcase (fun c1 => ?_) (fun c1 => ?_)⟩
  · obtain ⟨ns, n, hq⟩ : ∃ ns n, f.way cs = ns ++ [n] := (List.eq_nil_or_concat (f.way cs)).elim (fun z => by
      rw [z] at hu2
      cases hu2
      cases c1) fun ⟨a, b, e⟩ => ⟨a, b, by rw [e, List.concat_eq_append]⟩
    have hr0 := hok hn H2 (s1.trans s2)
    unfold RF.ruled at hr0
    rw [hq, List.getLast?_concat] at hr0
    rw [hq] at hu2
    have hul2 := hu2.len
    rw [List.length_append, List.length_singleton] at hul2
    obtain ⟨vs, v, hv⟩ : ∃ vs v, us2 = vs ++ [v] := (List.eq_nil_or_concat us2).elim (fun z => by rw [z] at hul2; cases hul2) fun ⟨a, b, e⟩ => ⟨a, b, by rw [e, List.concat_eq_append]⟩
    subst hv
    rw [List.length_append, List.length_singleton] at hul2
    obtain ⟨q2, h2, o2, rfl, dx2, k2, pe2, l2, ws2, ho3, _⟩ := hu2.get (show (vs ++ [v])[vs.length]? = some v from List.getElem?_concat_length)
    rw [show vs.length = ns.length by omega, List.getElem?_concat_length] at h2
    cases h2
    refine ⟨_, rfl, 1, rfl, D, _, _, _, rfl, rfl, sqL_of e2, atI_last _ _, ?_⟩
    exact ⟨o2, dx2, _, rfl, ho3, o2, dx2, _, _, rfl, ho3, rfl, hr0⟩
  · have hw : f.way cs = [] := by
      cases hw : f.way cs with
      | nil => rfl
      | cons n r =>
        rw [hw] at hu2
        cases hu2
        cases c1
    have hr0 := hok hn H2 (s1.trans s2)
    unfold RF.ruled at hr0
    rw [hw] at hr0
    exact ⟨_, rfl, o, B, dx, _, _, rfl, ho2, T, n3, rfl, hr0⟩
end
end Sc
namespace Sc
open PySem PySem.Spec PyProof.Rows L2
theorem sc_way : FnScope ["book", "case", "rule"] ["book", "case"] (defScope s_way) := ⟨rfl, rfl, rfl, by decide +kernel, rfl, by decide +kernel, by decide +kernel⟩
theorem sc_decider : FnScope ["book", "case", "names"] ["book", "case"] (defScope s_decider) := ⟨rfl, rfl, rfl, by decide +kernel, rfl, by decide +kernel, by decide +kernel⟩
theorem RF.dep_sz : ∀ f : RF, f.dep ≤ f.size
  | .nil => Nat.le_refl 0
  | .cons nm hs fs rl exc rest => by
    have h1 := RF.dep_sz exc
    have h2 := RF.dep_sz rest
    show max (exc.dep + 1) rest.dep ≤ exc.size + 1 + rest.size
    omega
def RF.decid (cs : List Str) (f : RF) : Option Str := (f.way cs).getLast?.map fun n => n.nm
def optS : Option Str → V
  | some x => .str x
  | none => .non
section
variable {P : Program} {w : World} {K : PySem.W.Frag} {mg : Str → Option Value} {base : Heap} {C R B CC ST : Addr}
/-- a book and a case, and what is asked of the two ends -/
def sp_ask (K : PySem.W.Frag) (C R B CC : Addr) (ans : (xs : List Str) → RF → Str → (cs : List Str) → Hp → VK → Prop) : Sp := fun vs H Q E => ∃ (N : Addr → Prop) (o c : Addr) (xs : List Str) (f : RF) (rl : Str) (cs : List Str), vs = [.ref o, .ref c] ∧ BookAt K C R B N H o xs f rl ∧ f.size ≤ 900 ∧ f.every NdOk ∧ SqT K H c (cs.map V.str) ∧ cs.length ≤ 1000 ∧
  (∀ i, firstOut xs cs = some i → errIx CC i H E) ∧ (firstOut xs cs = none → ans xs f rl cs H Q)
def ansWay (xs : List Str) (f : RF) (rl : Str) (cs : List Str) (H : Hp) (Q : VK) : Prop := ∀ H' D, Same H H' → H' D = some (.lst ((f.way cs).map fun n => V.str n.nm)) → Q (.ref D) H'
def ansDecid (xs : List Str) (f : RF) (rl : Str) (cs : List Str) (H : Hp) (Q : VK) : Prop := ∀ H', Same H H' → Q (optS (f.decid cs)) H'
def ansLooked (xs : List Str) (f : RF) (rl : Str) (cs : List Str) (H : Hp) (Q : VK) : Prop := ∀ H' D, Same H H' → H' D = some (.lst ((f.steps cs).map fun q => V.str q.1.nm)) → Q (.ref D) H'
theorem ok_way6 {f : Addr} {fd : FuncData} (F : Fun K "way" "way" s_way f fd) (Bl : Blt mg) (kR : RuleX P w K mg base R) (kB : BookX P w K mg base B) (c_check_case : Cal P w K mg base (L2.CX P w) 3 "check_case" ["facts", "case"] (sp_check_case K CC)) (c_looked_into : Cal P w K mg base CX0 9 "looked_into" ["rules", "case"] (sp_looked K C R)) :
    FnOk P w K mg base (L2.CX P w) 10 f fd ["book", "case"] (sp_ask K C R B CC ansWay) := by
  refine F.okX sc_way (fun vs H Q E h => by obtain ⟨N, o, c, xs, f, rl, cs, rfl, _⟩ := h; rfl) (fun cdv A outer s H vs Q E hr h => ?_)
  obtain ⟨N, o, c, xs, f, rl, cs, rfl, ⟨dx, a, p, l, ws, us, ho, hS, hP, hF, hl, hus⟩, hz, hev, hC, hcl, hbad, q⟩ := h
  refine ⟨_, (pss_cons (ps_expr (pe_calX c_check_case (hr.mono (by decide)) (takes_of rfl rfl rfl rfl) (pa_cons (pe_cprop kB.facts kB.cls (hr.mono (by decide)) (pv 0)) (pa_cons (pv 1) pa_nil))))
      (pss_one (ps_ret (pe_lc (own := [("rule", 2)]) (g := gName 2) (tt := tYes) rfl sc_way.nd (pi_list (pe_cal c_looked_into (hr.mono (by decide)) (pa_cons (pe_cprop kB.rules kB.cls (hr.mono (by decide)) (pv 0)) (pa_cons (pv 1) pa_nil)))) (blkOk_by (own := [("rule", 2)]) (N := ["book", "case", "rule"]) (sc := defScope s_way) (by decide +kernel)) (fun _ _ _ _ _ => (pg_name (i := 2) sc_way.nd rfl (Or.inl rfl))) (fun _ _ _ _ _ => pts_nil) (fun _ _ _ _ _ => (pe_.re (pe_cprop kR.name kR.cls (hr.mono (by decide)) (pv 2)) (by first | (dsimp only [Cx.blk]; done) | exact rfl))))))), ?_⟩
  refine ⟨_, rfl, o, dx, _, rfl, ho, o, dx, _, _, rfl, ho, rfl, _, rfl, a, c, xs, cs, rfl, hS, hC, hcl, fun hn H1 s1 => ?_, fun i hi => hbad i hi⟩
  have ho1 := s1 _ _ ho
  refine ⟨_, rfl, o, dx, _, rfl, ho1, o, dx, _, _, rfl, ho1, rfl, _, rfl, N, p, c, cs, ws, f, rfl, s1.tup hP, hF.keeps s1.keeps, s1.tup hC, hz, hev, fun H2 D us2 s2 e2 hu2 => ?_⟩
  have hul2 := hu2.len
  refine ⟨D, rfl, ⟨_, sqL_of e2⟩, fun D2 nD2 => lc_it walk_list (fun i H' => Same H2 H' ∧ H' D2 = some (.lst (((f.way cs).take i).map fun n => V.str n.nm))) ⟨(Same.refl H2).put nD2, upd_same⟩ (fun _ _ _ h => sqL_of (h.1 _ _ e2)) ?_ ?_⟩
  · rintro i y H3 H4 hi ⟨s3, e3⟩ ⟨rfl, hy⟩
    obtain ⟨n, hn, o', rfl, hN⟩ := hu2.get hy
    obtain ⟨dx', c', pe', l', ws', ho', _⟩ := hN.keeps (N := N) s3.keeps
    refine ⟨rfl, yes_ ⟨_, rfl, o', dx', _, rfl, ho', o', dx', _, _, rfl, ho', rfl, _, e3, ?_, s3.put nD2, ?_⟩⟩
    · have hwl := RF.way_dep cs f
      have hdz := RF.dep_sz f
      rw [List.length_map, List.length_take, sizeLine_eq]
      omega
    · rw [upd_same, take_more hn, List.map_append]
      rfl
  rintro H3 ⟨s3, e3⟩
  rw [hul2, List.take_length] at e3
  exact q hn H3 D2 (s1.trans (s2.trans s3)) e3
theorem ok_decider6 {f : Addr} {fd : FuncData} (F : Fun K "decider" "decider" s_decider f fd) (Bl : Blt mg) (c_way : Cal P w K mg base (L2.CX P w) 10 "way" ["book", "case"] (sp_ask K C R B CC ansWay)) : FnOk P w K mg base (L2.CX P w) 11 f fd ["book", "case"] (sp_ask K C R B CC ansDecid) := by
  refine F.okX sc_decider (fun vs H Q E h => by obtain ⟨N, o, c, xs, f, rl, cs, rfl, _⟩ := h; rfl) (fun cdv A outer s H vs Q E hr h => ?_)
  obtain ⟨N, o, c, xs, f, rl, cs, rfl, hB, hz, hev, hC, hcl, hbad, q⟩ := h
  refine ⟨_, (pss_cons (ps_set (i := 2) sc_decider.nd rfl (Or.inl rfl) (pe_calX c_way (hr.mono (by decide)) (takes_of rfl rfl rfl rfl) (pa_cons (pv 0) (pa_cons (pv 1) pa_nil))))
      (pss_one (ps_ret (pe_ifExp (pt_tru (pv 2) (by intro _; rfl)) (pe_ix ix_list (pv 2) (pe_un un_neg pe_int) (fun _ _ => rfl)) pe_non)))), ?_⟩
  refine ⟨_, rfl, _, rfl, N, o, c, xs, f, rl, cs, rfl, hB, hz, hev, hC, hcl, fun i hi => hbad i hi, fun hn H1 D s1 e1 => ?_⟩
  have q := q hn H1 s1
  unfold RF.decid at q
  refine ⟨_, rfl, _, .inl ⟨_, sqL_of e1, rfl⟩, ?_⟩
  rcases List.eq_nil_or_concat (f.way cs) with h | ⟨a, b, h⟩
  · rw [h] at q ⊢
    exact iteF q
  · rw [List.concat_eq_append] at h
    rw [h, List.getLast?_concat] at q
    rw [h, List.map_append] at e1 ⊢
    refine bcase (fun c => ?_) (fun c => by cases a <;> cases c)
    exact ⟨_, rfl, 1, rfl, D, _, _, _, rfl, rfl, sqL_of e1, atI_last _ _, q⟩
end
end Sc
namespace Sc
open PySem PySem.Spec PyProof.Rows L2
theorem sc_outcome : FnScope ["book", "case"] ["book", "case"] (defScope s_outcome) := ⟨rfl, rfl, rfl, by decide +kernel, rfl, by decide +kernel, by decide +kernel⟩
section
variable {X : Cx} {C R B CC : Addr} {te : TE} {t : TA} {x : Str} {e : Expr} {es : List Expr} {p pos : Pos}
theorem pe_cBX {E : XK} (M : MethO X.prog X.w X.K X.mg X.base (L2.CX X.prog X.w) 11 B "__call__" ["self", "case"] (sp_bcall X.K C R B CC)) (hr : Room 11 X.A) (ho : PE X (.Name x p) te) (ha : PA X (e :: es) t) (tk : Takes X (fun cls d _ H => E cls d H))
    (he : starEach (e :: es) X.env = (false, eval e X.env) :: starEach es X.env := by rfl) (hpl : (backTo pos (starEach es X.env)).any (·.1) = false := by rfl) : PE X (.Call (.Name x p) (e :: es) [] pos) (tCallO B (sp_bcall X.K C R B CC) E te t) := by
  obtain ⟨g, fd, h1, h2, h3, F, hb⟩ := M.ex
  exact pe_callO h1 h2 h3 F hr hb (fun pins σ H s e s' I h => passAt tk σ pins H s e s' I h) ho ha he hpl
end
section
variable {P : Program} {w : World} {K : PySem.W.Frag} {mg : Str → Option Value} {base : Heap} {C R B CC : Addr}
def ansOut (xs : List Str) (f : RF) (rl : Str) (cs : List Str) (H : Hp) (Q : VK) : Prop := ∀ H' t, Same H H' → H' t = some (.tup [.str (f.ruled cs rl), optS (f.decid cs)]) → Q (.ref t) H'
theorem ok_outcome6 {f : Addr} {fd : FuncData} (F : Fun K "outcome" "outcome" s_outcome f fd) (Bl : Blt mg) (mCall : MethO P w K mg base (L2.CX P w) 11 B "__call__" ["self", "case"] (sp_bcall K C R B CC)) (c_decider : Cal P w K mg base (L2.CX P w) 11 "decider" ["book", "case"] (sp_ask K C R B CC ansDecid)) :
    FnOk P w K mg base (L2.CX P w) 12 f fd ["book", "case"] (sp_ask K C R B CC ansOut) := by
  refine F.okX sc_outcome (fun vs H Q E h => by obtain ⟨N, o, c, xs, f, rl, cs, rfl, _⟩ := h; rfl) (fun cdv A outer s H vs Q E hr h => ?_)
  obtain ⟨N, o, c, xs, f, rl, cs, rfl, hB, hz, hev, hC, hcl, hbad, q⟩ := h
  refine ⟨_, (pss_one (ps_ret (pe_tup (pa_cons (pe_cBX mCall (hr.mono (by decide)) (pv 0) (pa_cons (pv 1) pa_nil) (takes_of rfl rfl rfl rfl)) (pa_cons (pe_calX c_decider (hr.mono (by decide)) (takes_of rfl rfl rfl rfl) (pa_cons (pv 0) (pa_cons (pv 1) pa_nil))) pa_nil))))), ?_⟩
  obtain ⟨dx, _, _, _, _, _, ho, _⟩ := id hB
  refine ⟨_, rfl, o, rfl, _, rfl, ⟨_, _, ho⟩, N, o, c, xs, f, rl, cs, rfl, hB, hz, hev, hC, hcl, hbad, fun hn H1 s1 => ?_⟩
  refine ⟨_, rfl, _, rfl, N, o, c, xs, f, rl, cs, rfl, hB.keeps s1.keeps, hz, hev, s1.tup hC, hcl, (fun i hi => by rw [hn] at hi; cases hi), fun _ H2 s2 => ?_⟩
  refine ⟨(by show 2 ≤ sizeLine; rw [sizeLine_eq]; decide), fun t nt => q hn _ t ((s1.trans s2).put' nt) upd_same⟩
end
end Sc
/-! sorted of a list of alike data (tuples, nested, of ints and texts) -/
namespace L2
open PySem PySem.Spec PySem.Calls PyProof.Rows PySem.W
/-- values with what they read as, in order -/
def srtD (l : List (V × PyData)) : List (V × PyData) := l.mergeSort (dataLe false Prod.snd)
theorem srtD_perm (l : List (V × PyData)) : (srtD l).Perm l := List.mergeSort_perm _ _
theorem each_rel {K : PySem.W.Frag} {H : Hp} {h : Heap} (rd : ∀ (d : PyData) (v : V) (u : Value), Dp K H v d → RelV v u → ∃ as, Reads h u d as) : ∀ {xs : List V} {us : List Value} {ds : List PyData}, Vals xs us → DpAll K H xs ds → EachIs (fun u (b : V × PyData) => RelV b.1 u) us (xs.zip ds) ∧ EachIs (fun u (b : V × PyData) => ∃ as, Reads h u b.2 as) us (xs.zip ds)
  | _, _, _, .nil, .nil => ⟨.nil, .nil⟩
  | _, _, _, .cons r rs, .cons d ds => ⟨.cons r (each_rel rd rs ds).1, .cons (rd _ _ _ d r) (each_rel rd rs ds).2⟩
theorem each_vals : ∀ {us : List Value} {bs : List (V × PyData)}, EachIs (fun u (b : V × PyData) => RelV b.1 u) us bs → Vals (bs.map Prod.fst) us
  | _, _, .nil => .nil
  | _, _, .cons r rs => .cons r (each_vals rs)
theorem dpAll_len {K : PySem.W.Frag} {H : Hp} : ∀ {xs : List V} {ds : List PyData}, DpAll K H xs ds → xs.length = ds.length
  | _, _, .nil => rfl
  | _, _, .cons _ h => by rw [List.length_cons, List.length_cons, dpAll_len h]
def rSortedD (K : PySem.W.Frag) : List V → Hp → VK → Prop := fun vs H Q => ∃ (a : Addr) (xs : List V) (ds : List PyData), vs = [V.ref a] ∧ SqL K H a xs ∧ DpAll K H xs ds ∧ AllAlike ds ∧ PySem.W.Sortable ds ∧ (∀ d ∈ ds, d.depth ≤ 60) ∧
  ∀ p, H p = none → Q (.ref p) (upd H p (.lst ((srtD (xs.zip ds)).map Prod.fst)))
section
variable {X : Cx}
theorem cr_sortedD (hu : X.A.units + 64 < cLine) : CallR X (.builtin "sorted") (rSortedD X.K) := by
  intro pins s σ H vs us Q I r h
  obtain ⟨a, xs, ds, rfl, hs, hd, hal, hk, hdp, q⟩ := h
  obtain ⟨its, rv, hl, hz⟩ := I.list hs
  obtain ⟨u, rfl, ru⟩ := vals1 r
  obtain rfl : u = Value.ref a := ru
  have hlen := dpAll_len hd
  have hm : (xs.zip ds).map Prod.snd = ds := List.map_snd_zip (by omega)
  obtain ⟨e1, e2⟩ := each_rel (h := s.heap) (fun d v u hv rr => Dp.reads I d v u hv rr) rv hd
  refine sorted_data (enc := Prod.snd) (R := fun u (b : V × PyData) => RelV b.1 u) hl.isList e1 e2 (by rw [hm]; exact hal) (by rw [hm]; exact hk) (by rw [List.length_zip]; omega) (fun b hb => ?_) fun out ho eo => ?_
  · have := hdp b.2 (List.of_mem_zip hb).2
    omega
  obtain ⟨c, hc⟩ := sortedAll_at s.heap its out.toArray
  have ro : Vals ((srtD (xs.zip ds)).map Prod.fst) out := each_vals eo
  have hz' : ((srtD (xs.zip ds)).map Prod.fst).length ≤ sizeLine := by
    rw [List.length_map, (srtD_perm _).length_eq, List.length_zip]
    omega
  exact ⟨.ref (s.heap.objs.size + 1), upd H (s.heap.objs.size + 1) (.lst ((srtD (xs.zip ds)).map Prod.fst)), I.laid (t' := s.toks) (fun _ _ => sortedAll_old) (Nat.le_succ _) ⟨hz', out, c, ro, hc⟩, rfl, q _ (I.hok.fresh (Nat.le_succ _))⟩
end
end L2
namespace Sc
open PySem PySem.Spec PyProof.Rows L2
theorem sc_small_conditions : FnScope ["facts", "parts", "place", "name", "other", "_", "holding", "failing"] ["facts"] (defScope s_small_conditions) := ⟨rfl, rfl, rfl, by decide +kernel, rfl, by decide +kernel, by decide +kernel⟩
/-- names in rising order -/
structure Rt (xs : List Str) : Prop where
  nm : ∀ x ∈ xs, isName x = true
  up : xs.Pairwise SLt
theorem Rt.sub {xs ys : List Str} (h : Rt ys) (s : List.Sublist xs ys) : Rt xs := ⟨fun x hx => h.nm x (s.subset hx), h.up.sublist s⟩
theorem Rt.none {xs ys : List Str} (h : Rt xs) (l : ys.length + xs.length ≤ 8) (d : ∀ x ∈ xs, ¬ x ∈ ys) : firstWrong xs ys = none := by
  unfold firstWrong
  rw [List.find?_eq_none]
  intro i hi
  have hi := List.mem_range.mp hi
  unfold wrongAt
  rw [List.getElem?_eq_getElem hi]
  dsimp only
  rw [h.nm _ (List.getElem_mem hi), rises_pw h.up hi, decide_eq_false (show ¬ 8 ≤ ys.length + i by omega), decide_eq_false (d _ (List.getElem_mem hi))]
  exact Bool.false_ne_true
theorem slt_ne {a b : Str} (h : SLt a b) : a ≠ b := fun e => by subst e; exact List.lt_irrefl _ h
/-! ### small conditions, told with their number of names -/
abbrev SC := Nat × List Str × List Str
def smPair (x y : Str) : List SC := [(2, [x, y], []), (2, [], [x, y]), (2, [x], [y]), (2, [y], [x])]
def smOne (x : Str) (ys : List Str) : List SC := [(1, [x], []), (1, [], [x])] ++ ys.flatMap (smPair x)
def smAt (xs : List Str) (k : Nat) : List SC := match xs[k]? with
  | some x => smOne x (xs.drop (k + 1))
  | none => []
def smTo (xs : List Str) (i : Nat) : List SC := (0, [], []) :: (List.range i).flatMap (smAt xs)
theorem smTo_more {xs : List Str} {i : Nat} {x : Str} (h : xs[i]? = some x) : smTo xs (i + 1) = smTo xs i ++ smOne x (xs.drop (i + 1)) := by
  unfold smTo
  rw [List.range_succ, List.flatMap_append, List.flatMap_cons, List.flatMap_nil, List.append_nil]
  show _ :: (_ ++ smAt xs i) = _
  unfold smAt
  rw [h]
  rfl
def scD (q : SC) : PyData := .tuple [.int (q.1 : Nat), .tuple (q.2.1.map PyData.str), .tuple (q.2.2.map PyData.str)]
def smS (xs : List Str) : List SC := (smTo xs xs.length).mergeSort (PySem.W.dataLe false scD)
theorem smS_perm (xs : List Str) : (smS xs).Perm (smTo xs xs.length) := List.mergeSort_perm _ _
/-- all conditions with at most two names, in order -/
def smC (xs : List Str) : List (List Str × List Str) := (smS xs).map fun q => q.2
theorem smPair_len (x y : Str) : (smPair x y).length = 4 := rfl
theorem smOne_len (x : Str) (ys : List Str) : (smOne x ys).length = 2 + 4 * ys.length := by
  unfold smOne
  rw [List.length_append, List.length_flatMap]
  have : (ys.map fun y => (smPair x y).length).sum = 4 * ys.length := by
    induction ys with
    | nil => rfl
    | cons y r ih => rw [List.map_cons, List.sum_cons, ih, smPair_len, List.length_cons]; omega
  rw [this]
  rfl
theorem smTo_len (xs : List Str) : ∀ i, (smTo xs i).length ≤ 1 + i * (2 + 4 * xs.length)
  | 0 => by show 1 ≤ _; omega
  | i + 1 => by
    cases h : xs[i]? with
    | some x =>
      rw [smTo_more h, List.length_append, smOne_len]
      have := smTo_len xs i
      have hd : (xs.drop (i + 1)).length ≤ xs.length := by rw [List.length_drop]; omega
      rw [Nat.add_mul, Nat.one_mul]
      omega
    | none =>
      have e : smTo xs (i + 1) = smTo xs i := by
        unfold smTo
        rw [List.range_succ, List.flatMap_append, List.flatMap_cons, List.flatMap_nil, List.append_nil]
        unfold smAt
        rw [h]
        simp
      rw [e]
      have := smTo_len xs i
      rw [Nat.add_mul]
      omega
/-- what is small is right -/
structure ScOk (xs : List Str) (q : SC) : Prop where
  c1 : firstWrong q.2.1 [] = none
  c2 : firstWrong q.2.2 q.2.1 = none
  l : q.2.1.length + q.2.2.length ≤ 2
  s1 : ∀ x ∈ q.2.1, x ∈ xs
  s2 : ∀ x ∈ q.2.2, x ∈ xs
theorem smPair_ok {xs : List Str} {x y : Str} (h : Rt xs) (s : List.Sublist [x, y] xs) : ∀ q ∈ smPair x y, ScOk xs q := by
  have h2 := h.sub s
  have hxy : SLt x y := (List.pairwise_cons.mp h2.up).1 y (List.mem_singleton.mpr rfl)
  have hx := h2.sub (List.Sublist.cons_cons x (List.nil_sublist [y]))
  have hy := h2.sub (List.Sublist.cons x (List.Sublist.refl [y]))
  have h0 := h2.sub (List.nil_sublist [x, y])
  have mx : x ∈ xs := s.subset List.mem_cons_self
  have my : y ∈ xs := s.subset (List.mem_cons_of_mem _ List.mem_cons_self)
  have m2 : ∀ z ∈ [x, y], z ∈ xs := fun z hz => s.subset hz
  have m1 : ∀ w : Str, w ∈ xs → ∀ z ∈ [w], z ∈ xs := fun w hw z hz => by rw [List.mem_singleton.mp hz]; exact hw
  have n : x ≠ y := slt_ne hxy
  intro q hq
  unfold smPair at hq
  rcases List.mem_cons.mp hq with rfl | hq
  · exact ⟨h2.none (by show 0 + 2 ≤ 8; decide) (fun _ _ z => nomatch z), h0.none (by show 2 + 0 ≤ 8; decide) (fun _ z => nomatch z), (by show 2 + 0 ≤ 2; decide), m2, (fun _ z => nomatch z)⟩
  rcases List.mem_cons.mp hq with rfl | hq
  · exact ⟨h0.none (by show 0 + 0 ≤ 8; decide) (fun _ z => nomatch z), h2.none (by show 0 + 2 ≤ 8; decide) (fun _ _ z => nomatch z), (by show 0 + 2 ≤ 2; decide), (fun _ z => nomatch z), m2⟩
  rcases List.mem_cons.mp hq with rfl | hq
  · exact ⟨hx.none (by show 0 + 1 ≤ 8; decide) (fun _ _ z => nomatch z), hy.none (by show 1 + 1 ≤ 8; decide) (fun z hz hw => by rw [List.mem_singleton.mp hz] at hw; exact n (List.mem_singleton.mp hw).symm), (by show 1 + 1 ≤ 2; decide), m1 x mx, m1 y my⟩
  rw [List.mem_singleton.mp hq]
  exact ⟨hy.none (by show 0 + 1 ≤ 8; decide) (fun _ _ z => nomatch z), hx.none (by show 1 + 1 ≤ 8; decide) (fun z hz hw => by rw [List.mem_singleton.mp hz] at hw; exact n (List.mem_singleton.mp hw)), (by show 1 + 1 ≤ 2; decide), m1 y my, m1 x mx⟩
theorem smTo_ok {xs : List Str} (h : Rt xs) (i : Nat) : ∀ q ∈ smTo xs i, ScOk xs q := by
  intro q hq
  unfold smTo at hq
  rcases List.mem_cons.mp hq with rfl | hq
  · have h0 := h.sub (List.nil_sublist xs)
    exact ⟨h0.none (by show 0 + 0 ≤ 8; decide) (fun _ z => nomatch z), h0.none (by show 0 + 0 ≤ 8; decide) (fun _ z => nomatch z), (by show 0 + 0 ≤ 2; decide), (fun _ z => nomatch z), (fun _ z => nomatch z)⟩
  obtain ⟨k, _, hq⟩ := List.mem_flatMap.mp hq
  unfold smAt at hq
  cases hk : xs[k]? with
  | none => rw [hk] at hq; cases hq
  | some x =>
    rw [hk] at hq
    have hkl := (List.getElem?_eq_some_iff.mp hk).1
    have hd : xs.drop k = x :: xs.drop (k + 1) := by rw [List.drop_eq_getElem_cons hkl, (List.getElem?_eq_some_iff.mp hk).2]
    have hs : List.Sublist (x :: xs.drop (k + 1)) xs := by rw [← hd]; exact List.drop_sublist _ _
    have mx : x ∈ xs := List.mem_of_getElem? hk
    have hx := h.sub ((List.Sublist.cons_cons x (List.nil_sublist _)).trans hs)
    have h0 := h.sub (List.nil_sublist xs)
    have m1 : ∀ z ∈ [x], z ∈ xs := fun z hz => by rw [List.mem_singleton.mp hz]; exact mx
    unfold smOne at hq
    rcases List.mem_append.mp hq with hq | hq
    · rcases List.mem_cons.mp hq with rfl | hq
      · exact ⟨hx.none (by show 0 + 1 ≤ 8; decide) (fun _ _ z => nomatch z), h0.none (by show 1 + 0 ≤ 8; decide) (fun _ z => nomatch z), (by show 1 + 0 ≤ 2; decide), m1, (fun _ z => nomatch z)⟩
      rw [List.mem_singleton.mp hq]
      exact ⟨h0.none (by show 0 + 0 ≤ 8; decide) (fun _ z => nomatch z), hx.none (by show 0 + 1 ≤ 8; decide) (fun _ _ z => nomatch z), (by show 0 + 1 ≤ 2; decide), (fun _ z => nomatch z), m1⟩
    obtain ⟨y, hy, hq⟩ := List.mem_flatMap.mp hq
    exact smPair_ok h ((List.Sublist.cons_cons x (List.singleton_sublist.mpr hy)).trans hs) q hq
theorem smS_ok {xs : List Str} (h : Rt xs) : ∀ q ∈ smS xs, ScOk xs q := fun q hq => smTo_ok h _ q ((smS_perm xs).mem_iff.mp hq)
/-! ### their tuples -/
def TrAt (H : Hp) (v : V) (q : SC) : Prop := ∃ t a b : Addr, v = .ref t ∧ H t = some (.tup [.int (q.1 : Nat), .ref a, .ref b]) ∧ H a = some (.tup (q.2.1.map V.str)) ∧ H b = some (.tup (q.2.2.map V.str))
theorem TrAt.same {H H' : Hp} {v : V} {q : SC} (s : Same H H') (h : TrAt H v q) : TrAt H' v q := by
  obtain ⟨t, a, b, e, h1, h2, h3⟩ := h
  exact ⟨t, a, b, e, s _ _ h1, s _ _ h2, s _ _ h3⟩
theorem TrAt.up {H : Hp} {D : Addr} {us : List V} {o : HO} {v : V} {q : SC} (e : H D = some (.lst us)) (h : TrAt H v q) : TrAt (upd H D o) v q := by
  obtain ⟨t, a, b, e0, h1, h2, h3⟩ := h
  exact ⟨t, a, b, e0, by rw [upd_ne (fun z => by rw [z, e] at h1; cases h1)]; exact h1, by rw [upd_ne (fun z => by rw [z, e] at h2; cases h2)]; exact h2, by rw [upd_ne (fun z => by rw [z, e] at h3; cases h3)]; exact h3⟩
theorem dp_texts {K : PySem.W.Frag} {H : Hp} : ∀ xs : List Str, DpAll K H (xs.map V.str) (xs.map PyData.str)
  | [] => .nil
  | x :: r => .cons (.str x) (dp_texts r)
theorem TrAt.dp {K : PySem.W.Frag} {H : Hp} {v : V} {q : SC} (h : TrAt H v q) : Dp K H v (scD q) := by
  obtain ⟨t, a, b, rfl, h1, h2, h3⟩ := h
  exact .tup (sqT_of h1) (.cons (.int _) (.cons (.tup (sqT_of h2) (dp_texts _)) (.cons (.tup (sqT_of h3) (dp_texts _)) .nil)))
theorem tr_all {K : PySem.W.Frag} {H : Hp} : ∀ {us : List V} {ps : List SC}, All2 (TrAt H) us ps → DpAll K H us (ps.map scD)
  | _, _, .nil => .nil
  | _, _, .cons h r => .cons h.dp (tr_all r)
theorem alike_texts : ∀ xs ys : List Str, PySem.W.alikeAll (xs.map PyData.str) (ys.map PyData.str) = true
  | [], _ => by unfold PySem.W.alikeAll; rfl
  | _ :: _, [] => by simp [PySem.W.alikeAll]
  | x :: xs, y :: ys => by
    simp only [List.map_cons, PySem.W.alikeAll, PySem.W.alike, alike_texts xs ys, Bool.and_self]
theorem scD_alike (p q : SC) : PySem.W.alike (scD p) (scD q) = true := by
  unfold scD
  simp only [PySem.W.alike, PySem.W.alikeAll, alike_texts, Bool.and_self]
theorem depth_texts : ∀ xs : List Str, PyData.depthAll (xs.map PyData.str) = 0
  | [] => rfl
  | x :: r => by
    show max 0 (PyData.depthAll (r.map PyData.str)) = 0
    rw [depth_texts r]
    rfl
theorem scD_depth (q : SC) : (scD q).depth ≤ 60 := by
  unfold scD
  show max 0 (max (PyData.depthAll (q.2.1.map PyData.str) + 1) (max (PyData.depthAll (q.2.2.map PyData.str) + 1) 0)) + 1 ≤ 60
  rw [depth_texts, depth_texts]
  decide
theorem all2_app {α β : Type} {R : α → β → Prop} : ∀ {as : List α} {bs : List β} {cs : List α} {ds : List β}, All2 R as bs → All2 R cs ds → All2 R (as ++ cs) (bs ++ ds)
  | _, _, _, _, .nil, h => h
  | _, _, _, _, .cons a r, h => .cons a (all2_app r h)
theorem all2_zip {α β : Type} {R : α → β → Prop} : ∀ {as : List α} {bs : List β}, All2 R as bs → ∀ z ∈ as.zip bs, R z.1 z.2
  | _, _, .nil, _, h => nomatch h
  | _, _, .cons h r, z, hz => by
    rcases List.mem_cons.mp hz with rfl | hz
    · exact h
    · exact all2_zip r z hz
theorem all2_of {α β : Type} {R : α → β → Prop} : ∀ {zs : List (α × β)}, (∀ z ∈ zs, R z.1 z.2) → All2 R (zs.map Prod.fst) (zs.map Prod.snd)
  | [], _ => .nil
  | z :: r, h => .cons (h z List.mem_cons_self) (all2_of fun y hy => h y (List.mem_cons_of_mem _ hy))
/-- values sorted by what they read as -/
theorem srtD_all {α : Type} {R : V → α → Prop} {enc : α → PyData} {us : List V} {ps : List α} (h : All2 R us ps) : All2 R ((srtD (us.zip (ps.map enc))).map Prod.fst) (ps.mergeSort (PySem.W.dataLe false enc)) := by
  have hl := h.len
  have e1 : us.zip (ps.map enc) = (us.zip ps).map (fun z => (z.1, enc z.2)) := by
    rw [List.zip_map_right]
    rfl
  have e2 : srtD (us.zip (ps.map enc)) = ((us.zip ps).mergeSort (PySem.W.dataLe false fun z => enc z.2)).map (fun z => (z.1, enc z.2)) := by
    unfold srtD
    rw [e1]
    exact (PySem.W.sort_maps (fun z : V × α => (z.1, enc z.2)) fun _ _ _ _ => rfl).symm
  have e3 : ps.mergeSort (PySem.W.dataLe false enc) = ((us.zip ps).mergeSort (PySem.W.dataLe false fun z => enc z.2)).map Prod.snd := by
    have hm : (us.zip ps).map Prod.snd = ps := List.map_snd_zip (by omega)
    conv => lhs; rw [← hm]
    exact (PySem.W.sort_maps (Prod.snd : V × α → α) fun _ _ _ _ => rfl).symm
  rw [e2, e3, List.map_map]
  exact all2_of (zs := (us.zip ps).mergeSort (PySem.W.dataLe false fun z => enc z.2)) fun z hz => all2_zip h z ((List.mergeSort_perm _ _).mem_iff.mp hz)
theorem seq_asg {te : TE} {g : TG} {u : TS} {D : Ends} {σ : L2.St} {H : Hp} (h : te σ H fun x H1 => g x σ H1 (u D)) : tSeq (tAsg te g) u D σ H := h
theorem cons_te {ta : TE} {tr : TA} {σ : L2.St} {H : Hp} {Q : List V → Hp → Prop} (h : ta σ H fun x H1 => tr σ H1 fun xs H2 => Q (x :: xs) H2) : tCons ta tr σ H Q := h
/-- a reading that makes a tuple of texts -/
def MkT (te : TE) (σ : L2.St) (hs : List Str) : Prop := ∀ (H : Hp) (Q : VK), (∀ a H', Same H H' → H' a = some (.tup (hs.map V.str)) → Q (.ref a) H') → te σ H Q
theorem mk0 {σ : L2.St} : MkT (tTup tNil) σ [] := fun H Q q => ⟨Nat.zero_le _, fun a na => q a _ ((Same.refl H).put na) upd_same⟩
theorem mk1 {σ : L2.St} {i : Nat} {x : Str} (h : σ[i]? = some (some (.str x))) : MkT (tTup (tCons (tVar i) tNil)) σ [x] := fun H Q q => ⟨_, h, (by show 1 ≤ sizeLine; rw [sizeLine_eq]; decide), fun a na => q a _ ((Same.refl H).put na) upd_same⟩
theorem mk2 {σ : L2.St} {i j : Nat} {x y : Str} (h : σ[i]? = some (some (.str x))) (g : σ[j]? = some (some (.str y))) : MkT (tTup (tCons (tVar i) (tCons (tVar j) tNil))) σ [x, y] := fun H Q q => ⟨_, h, _, g, (by show 2 ≤ sizeLine; rw [sizeLine_eq]; decide), fun a na => q a _ ((Same.refl H).put na) upd_same⟩
theorem tr_tri {t1 t2 : TE} {σ : L2.St} {n : Nat} {hs fs : List Str} (h1 : MkT t1 σ hs) (h2 : MkT t2 σ fs) {H : Hp} {Q : VK} (q : ∀ v H', Same H H' → TrAt H' v (n, hs, fs) → Q v H') : tTup (tCons (tC (.int (n : Nat))) (tCons t1 (tCons t2 tNil))) σ H Q := by
  refine h1 H _ fun a H1 s1 e1 => h2 H1 _ fun b H2 s2 e2 => ⟨(by show 3 ≤ sizeLine; rw [sizeLine_eq]; decide), fun t nt => ?_⟩
  have s3 : Same H2 (upd H2 t (.tup [.int (n : Nat), .ref a, .ref b])) := (Same.refl H2).put nt
  exact q _ _ ((s1.trans s2).trans s3) ⟨t, a, b, rfl, upd_same, s3 _ _ (s2 _ _ e1), s3 _ _ e2⟩
theorem tr_one {A : TE} {σ : L2.St} {p : SC} (hA : ∀ {H : Hp} {Q : VK}, (∀ v H', Same H H' → TrAt H' v p → Q v H') → A σ H Q) {H : Hp} {Q : VK}
    (k : ∀ D us H', Same H H' → H D = none → H' D = some (.lst us) → All2 (TrAt H') us [p] → Q (.ref D) H') : tLst (tCons A tNil) σ H Q := by
  refine hA fun v H1 s1 h1 => ⟨(by show 1 ≤ sizeLine; rw [sizeLine_eq]; decide), fun D nD => ?_⟩
  have s3 : Same H1 (upd H1 D (.lst [v])) := (Same.refl H1).put nD
  refine k D [v] _ (s1.trans s3) ?_ upd_same (.cons (h1.same s3) .nil)
  cases e : H D with
  | none => rfl
  | some o => rw [s1 _ _ e] at nD; cases nD
/-- a list of two such -/
theorem tr_two {A B : TE} {σ : L2.St} {p q : SC} (hA : ∀ {H : Hp} {Q : VK}, (∀ v H', Same H H' → TrAt H' v p → Q v H') → A σ H Q) (hB : ∀ {H : Hp} {Q : VK}, (∀ v H', Same H H' → TrAt H' v q → Q v H') → B σ H Q) {H : Hp} {Q : VK}
    (k : ∀ D us H', Same H H' → H D = none → H' D = some (.lst us) → All2 (TrAt H') us [p, q] → Q (.ref D) H') : tLst (tCons A (tCons B tNil)) σ H Q := by
  refine hA fun v H1 s1 h1 => hB fun u H2 s2 h2 => ⟨(by show 2 ≤ sizeLine; rw [sizeLine_eq]; decide), fun D nD => ?_⟩
  have s3 : Same H2 (upd H2 D (.lst [v, u])) := (Same.refl H2).put nD
  have s13 := (s1.trans s2).trans s3
  refine k D [v, u] _ s13 ?_ upd_same (.cons ((h1.same s2).same s3) (.cons (h2.same s3) .nil))
  cases e : H D with
  | none => rfl
  | some o => rw [(s1.trans s2) _ _ e] at nD; cases nD
section
variable {P : Program} {w : World} {K : PySem.W.Frag} {mg : Str → Option Value} {base : Heap} {C CI : Addr}
theorem fw_txts' {xs ys : List Str} (h : firstWrong xs ys = none) : Txts xs := fun x hx => Nat.le_trans (name_len (fw_names h x hx)) (by decide)
/-- a right condition is made -/
theorem mk_cnd {CC : Addr} {H : Hp} {c dxc wa ba : Addr} {hs fs : List Str} {R : Hp → Prop} {E : XK} (nc : H c = none) (ndc : H dxc = none) (hW : SqT K H wa (hs.map V.str)) (hB : SqT K H ba (fs.map V.str)) (c1 : firstWrong hs [] = none) (c2 : firstWrong fs hs = none) (l8 : hs.length + fs.length ≤ 8)
    (q : ∀ H', Same H H' → CondAt K C H' c hs fs → R H') : sp_cond_init K C CC [.ref c, .ref wa, .ref ba] (upd (upd H dxc (.own c)) c (.ins C dxc [])) (fun v H' => v = .non ∧ R H') E := by
  have s1 : Same H (upd (upd H dxc (.own c)) c (.ins C dxc [])) := ((Same.refl H).put ndc).put nc
  refine ⟨c, dxc, wa, ba, hs, fs, rfl, upd_same, s1.tup hW, s1.tup hB, fw_txts' c1, fw_txts' c2, by omega, by omega, (fun i e => by rw [c1] at e; cases e), fun _ => ⟨(fun i e => by rw [c2] at e; cases e), fun _ H2 nn zs sX hc hn hperm hsort => ⟨rfl, ?_⟩⟩⟩
  have s2 : Same H H2 := fun b' o' h => sX b' o' (fun e => by rw [e, nc] at h; cases h) (s1 _ _ h)
  exact q H2 s2 ⟨dxc, wa, ba, nn, zs, hc, s2.tup hW, s2.tup hB, hn, srt_uniq hperm hsort⟩
/-- conditions in a list -/
def CnAt (K : PySem.W.Frag) (C : Addr) (H : Hp) (v : V) (q : List Str × List Str) : Prop := ∃ o : Addr, v = .ref o ∧ CondAt K C H o q.1 q.2
def sp_small (K : PySem.W.Frag) (C : Addr) : Sp := fun vs H Q _ => ∃ (a : Addr) (xs : List Str), vs = [.ref a] ∧ SqT K H a (xs.map V.str) ∧ Rt xs ∧ xs.length ≤ 12 ∧ ∀ H' D us, Same H H' → H D = none → H' D = some (.lst us) → All2 (CnAt K C H') us (smC xs) → Q (.ref D) H'
/-- the list that grows -/
theorem grow_ext {H H1 : Hp} {D b : Addr} {us ws : List V} {ps qs : List SC} {H0 : Hp} (s0 : Same H0 H) (nD : H0 D = none) (e : H D = some (.lst us)) (hu : All2 (TrAt H) us ps) (s1 : Same H H1) (hw : All2 (TrAt H1) ws qs) :
    Same H0 (upd H1 D (.lst (us ++ ws))) ∧ All2 (TrAt (upd H1 D (.lst (us ++ ws)))) (us ++ ws) (ps ++ qs) := by
  have e1 := s1 _ _ e
  exact ⟨(s0.trans s1).put nD, all2_app (hu.mono fun _ _ z => (z.same s1).up e1) (hw.mono fun _ _ z => z.up e1)⟩
theorem ok_small {f : Addr} {fd : FuncData} (F : Fun K "small_conditions" "small_conditions" s_small_conditions f fd) (Bl : Blt mg) (k_Condition : Mkr P w K mg base 4 "Condition" C ["self", "holding", "failing"] (sp_cond_init K C CI)) : FnOk P w K mg base CX0 6 f fd ["facts"] (sp_small K C) := by
  refine F.ok sc_small_conditions (fun vs H Q E h => by obtain ⟨a, xs, rfl, _⟩ := h; rfl) (fun cdv A outer s H vs Q E hr h => ?_)
  obtain ⟨a, xs, rfl, ha, hg, hl, q⟩ := h
  refine ⟨_, (pss_cons (ps_set (i := 1) sc_small_conditions.nd rfl (Or.inl rfl) (pe_lst (pa_cons (pe_tup (pa_cons pe_int (pa_cons (pe_tup pa_nil) (pa_cons (pe_tup pa_nil) pa_nil)))) pa_nil)))
      (pss_cons (ps_for PassesOwn.never rfl (pi_enumT (by rfl) Bl.b_enumerate (pa_cons (pv 0) pa_nil)) (pg_tup (by rfl) (pgs_cons (pg_name (i := 2) sc_small_conditions.nd rfl (Or.inl rfl)) (pgs_cons (pg_name (i := 3) sc_small_conditions.nd rfl (Or.inl rfl)) pgs_nil))) (pss_cons (ps_expr (pe_bm PySem.F.plainAttrs_list PySem.F.slot_list_extend PySem.F.type_list_extend mt_extend (pv 1) (pa_cons (pe_lst (pa_cons (pe_tup (pa_cons pe_int (pa_cons (pe_tup (pa_cons (pv 3) pa_nil)) (pa_cons (pe_tup pa_nil) pa_nil)))) (pa_cons (pe_tup (pa_cons pe_int (pa_cons (pe_tup pa_nil) (pa_cons (pe_tup (pa_cons (pv 3) pa_nil)) pa_nil)))) pa_nil))) pa_nil)))
      (pss_one (ps_for PassesOwn.never rfl (pi_tup (pe_slice sl_tupA (pv 0) (po_some (pe_op op_add (pv 2) pe_int)) po_none)) (pg_name (i := 4) sc_small_conditions.nd rfl (Or.inl rfl)) (pss_cons (ps_expr (pe_bm PySem.F.plainAttrs_list PySem.F.slot_list_extend PySem.F.type_list_extend mt_extend (pv 1) (pa_cons (pe_lst (pa_cons (pe_tup (pa_cons pe_int (pa_cons (pe_tup (pa_cons (pv 3) (pa_cons (pv 4) pa_nil))) (pa_cons (pe_tup pa_nil) pa_nil)))) (pa_cons (pe_tup (pa_cons pe_int (pa_cons (pe_tup pa_nil) (pa_cons (pe_tup (pa_cons (pv 3) (pa_cons (pv 4) pa_nil))) pa_nil)))) pa_nil))) pa_nil)))
      (pss_one (ps_expr (pe_bm PySem.F.plainAttrs_list PySem.F.slot_list_extend PySem.F.type_list_extend mt_extend (pv 1) (pa_cons (pe_lst (pa_cons (pe_tup (pa_cons pe_int (pa_cons (pe_tup (pa_cons (pv 3) pa_nil)) (pa_cons (pe_tup (pa_cons (pv 4) pa_nil)) pa_nil)))) (pa_cons (pe_tup (pa_cons pe_int (pa_cons (pe_tup (pa_cons (pv 4) pa_nil)) (pa_cons (pe_tup (pa_cons (pv 3) pa_nil)) pa_nil)))) pa_nil))) pa_nil)))))))))
      (pss_one (ps_ret (pe_lc (own := [("_", 5), ("holding", 6), ("failing", 7)]) (g := gTup K 3 (gCons (gName 5) (gCons (gName 6) (gCons (gName 7) gNil)))) (tt := tYes) rfl sc_small_conditions.nd (pi_list (pe_callB (cr_sortedD hr.units) (by rfl) Bl.b_sorted (by decide +kernel) (pa_cons (pv 1) pa_nil))) (blkOk_by (own := [("_", 5), ("holding", 6), ("failing", 7)]) (N := ["facts", "parts", "place", "name", "other", "_", "holding", "failing"]) (sc := defScope s_small_conditions) (by decide +kernel)) (fun _ _ _ _ _ => (pg_tup (by rfl) (pgs_cons (pg_name (i := 5) sc_small_conditions.nd rfl (Or.inl rfl)) (pgs_cons (pg_name (i := 6) sc_small_conditions.nd rfl (Or.inl rfl)) (pgs_cons (pg_name (i := 7) sc_small_conditions.nd rfl (Or.inl rfl)) pgs_nil))))) (fun _ _ _ _ _ => pts_nil) (fun _ _ _ _ _ => (pe_.re (pe_mkN k_Condition (hr.mono (by decide)) (pa_cons (pv 6) (pa_cons (pv 7) pa_nil))) (by first | (dsimp only [Cx.blk]; done) | exact rfl)))))))), ?_⟩
  have hlen : ∀ i, i ≤ xs.length → (smTo xs i).length ≤ 1000 := fun i hi => by
    have h1 := smTo_len xs i
    have h2 : i * (2 + 4 * xs.length) ≤ 12 * 50 := Nat.mul_le_mul (by omega) (by omega)
    omega
  refine seq_asg ?_
  refine tr_one (p := (0, [], [])) (fun q => tr_tri mk0 mk0 q) fun D us0 H2 s2 nD e2 h2 => ?_
  have ha2 := s2.tup ha
  refine ⟨.ref a, rfl, a, _, rfl, ha2, for_it walk_enumT (fun i σ H' => ∃ (us : List V) (y2 y3 y4 y5 y6 y7 : Option V), σ = [some (.ref a), some (.ref D), y2, y3, y4, y5, y6, y7] ∧ Same H H' ∧ H' D = some (.lst us) ∧ All2 (TrAt H') us (smTo xs i))
    ⟨us0, _, _, _, _, _, _, rfl, s2, e2, h2⟩ (fun _ _ _ _ ⟨_, _, _, _, _, _, _, _, s, _⟩ => s.tup ha) ?_ ?_⟩
  · rintro i x σ H3' H3 hi ⟨us, y2, y3, y4, y5, y6, y7, rfl, s, e, hus⟩ ⟨T, v1, v2, rfl, nT, rfl, g1, g2⟩
    obtain rfl : V.int (i : Nat) = v1 := Option.some.inj g1
    have g2 : (xs.map V.str)[i]? = some v2 := g2
    rw [List.getElem?_map] at g2
    obtain ⟨x, hx, rfl⟩ := Option.map_eq_some_iff.mp g2
    have hxl : i < xs.length := (List.getElem?_eq_some_iff.mp hx).1
    have s3 : Same H3' (upd H3' T (.tup [.int (i : Nat), .str x])) := (Same.refl H3').put nT
    have hT3 : SqT K (upd H3' T (.tup [.int (i : Nat), .str x])) T [.int (i : Nat), .str x] := sqT_new
    have e3 := s3 _ _ e
    have hus3 := hus.mono fun _ _ z => z.same s3
    have s03 := s.trans s3
    generalize upd H3' T (.tup [.int (i : Nat), .str x]) = H3 at s3 hT3 e3 hus3 s03 ⊢
    refine ⟨T, _, rfl, hT3, rfl, _, _, rfl, _, _, rfl, rfl, ?_⟩
    have hmore := smTo_more hx
    have hlm := hlen (i + 1) hxl
    rw [hmore, List.length_append, smOne_len] at hlm
    refine ⟨_, rfl, .inl ⟨rfl, _, sqL_of e3⟩, ?_⟩
    refine cons_te ?_
    refine tr_two (p := (1, [x], [])) (q := (1, [], [x])) (fun q => tr_tri (mk1 rfl) mk0 q) (fun q => tr_tri mk0 (mk1 rfl) q) fun b ws H4 s4 nb eb hws => ?_
    obtain ⟨g4, a4⟩ := grow_ext (b := b) s03 nD e3 hus3 s4 hws
    have hul := hus3.len
    have hwl := hws.len
    refine ⟨D, b, us, ws, rfl, rfl, s4 _ _ e3, eb, by rw [sizeLine_eq, hul, hwl]; show _ + 2 ≤ _; omega, ?_⟩
    have e5 : (upd H4 D (.lst (us ++ ws))) D = some (.lst (us ++ ws)) := upd_same
    generalize upd H4 D (.lst (us ++ ws)) = H5 at g4 a4 e5 ⊢
    refine ⟨_, rfl, ?_⟩
    refine ⟨_, rfl, _, _, rfl, rfl, _, rfl, ?_⟩
    delta tNoPart
    refine sl_any (g4.tup ha) fun q6 H6 s6 hq6 => ?_
    rw [show (some ((i : Int) + 1)) = some ((i + 1 : Nat) : Int) from rfl, cut_from, ← List.map_drop] at hq6
    have hdl : (xs.drop (i + 1)).length ≤ 12 := by rw [List.length_drop]; omega
    refine ⟨q6, rfl, ⟨_, hq6⟩, for_it walk_tup (fun j σ H' => ∃ (us2 : List V) (y4 y5 y6 y7 : Option V), σ = [some (.ref a), some (.ref D), some (.int (i : Nat)), some (.str x), y4, y5, y6, y7] ∧ Same H H' ∧ SqT K H' q6 ((xs.drop (i + 1)).map V.str) ∧ H' D = some (.lst us2) ∧ All2 (TrAt H') us2 (smTo xs i ++ ([(1, [x], []), (1, [], [x])] ++ ((xs.drop (i + 1)).take j).flatMap (smPair x))))
      ⟨us ++ ws, _, _, _, _, rfl, g4.trans s6, hq6, s6 _ _ e5, by rw [List.take_zero, List.flatMap_nil, List.append_nil]; exact a4.mono fun _ _ z => z.same s6⟩ (fun _ _ _ _ ⟨_, _, _, _, _, _, _, h, _⟩ => h) ?_ ?_⟩
    · rintro j v σ H7' H7 hj ⟨us2, y4, y5, y6, y7, rfl, s7, hq7, e7, hus7⟩ ⟨rfl, hv⟩
      rw [List.getElem?_map] at hv
      obtain ⟨y, hy, rfl⟩ := Option.map_eq_some_iff.mp hv
      have htk : ((xs.drop (i + 1)).take (j + 1)).flatMap (smPair x) = ((xs.drop (i + 1)).take j).flatMap (smPair x) ++ smPair x y := by
        rw [take_more hy, List.flatMap_append, List.flatMap_cons, List.flatMap_nil, List.append_nil]
      have hjl : j < (xs.drop (i + 1)).length := (List.getElem?_eq_some_iff.mp hy).1
      have hul7 := hus7.len
      have hfl : (((xs.drop (i + 1)).take j).flatMap (smPair x)).length ≤ 4 * 12 := by
        have : ∀ ys : List Str, (ys.flatMap (smPair x)).length = 4 * ys.length := fun ys => by
          induction ys with
          | nil => rfl
          | cons y r ih => rw [List.flatMap_cons, List.length_append, ih, smPair_len, List.length_cons]; omega
        rw [this, List.length_take]
        omega
      have hto := hlen i (by omega)
      rw [List.length_append, List.length_append] at hul7
      refine ⟨_, rfl, .inl ⟨rfl, _, sqL_of e7⟩, ?_⟩
      refine cons_te ?_
      refine tr_two (p := (2, [x, y], [])) (q := (2, [], [x, y])) (fun q => tr_tri (mk2 rfl rfl) mk0 q) (fun q => tr_tri mk0 (mk2 rfl rfl) q) fun b8 ws8 H8 s8 nb8 eb8 hws8 => ?_
      obtain ⟨g8, a8⟩ := grow_ext (b := b8) s7 nD e7 hus7 s8 hws8
      have hwl8 := hws8.len
      have hq8 := s8.tup hq7
      refine ⟨D, b8, us2, ws8, rfl, rfl, s8 _ _ e7, eb8, by rw [sizeLine_eq, hwl8]; show _ + 2 ≤ _; simp only [List.length_cons, List.length_nil] at hul7; omega, ?_⟩
      have kq : SqT K (upd H8 D (.lst (us2 ++ ws8))) q6 ((xs.drop (i + 1)).map V.str) := (keeps_own (N := NoL) (s8 _ _ e7) fun h => h).tup hq8
      have e9 : (upd H8 D (.lst (us2 ++ ws8))) D = some (.lst (us2 ++ ws8)) := upd_same
      generalize upd H8 D (.lst (us2 ++ ws8)) = H9 at g8 a8 e9 kq ⊢
      refine ⟨_, rfl, .inl ⟨rfl, _, sqL_of e9⟩, ?_⟩
      refine cons_te ?_
      refine tr_two (p := (2, [x], [y])) (q := (2, [y], [x])) (fun q => tr_tri (mk1 rfl) (mk1 rfl) q) (fun q => tr_tri (mk1 rfl) (mk1 rfl) q) fun b10 ws10 H10 s10 nb10 eb10 hws10 => ?_
      obtain ⟨g10, a10⟩ := grow_ext (b := b10) g8 nD e9 a8 s10 hws10
      have hwl10 := hws10.len
      refine ⟨D, b10, us2 ++ ws8, ws10, rfl, rfl, s10 _ _ e9, eb10, by rw [sizeLine_eq, List.length_append, hwl8, hwl10]; show _ + 2 + 2 ≤ _; simp only [List.length_cons, List.length_nil] at hul7; omega, ?_⟩
      refine ⟨_, _, _, _, _, rfl, g10, (keeps_own (N := NoL) (s10 _ _ e9) fun h => h).tup (s10.tup kq), upd_same, ?_⟩
      rw [htk]
      have e : smTo xs i ++ ([(1, [x], []), (1, [], [x])] ++ ((xs.drop (i + 1)).take j).flatMap (smPair x)) ++ [(2, [x, y], []), (2, [], [x, y])] ++ [(2, [x], [y]), (2, [y], [x])] = smTo xs i ++ ([(1, [x], []), (1, [], [x])] ++ (((xs.drop (i + 1)).take j).flatMap (smPair x) ++ smPair x y)) := by
        unfold smPair
        simp only [List.append_assoc, List.cons_append, List.nil_append]
      rw [← e]
      exact a10
    rintro σ H11 ⟨us2, y4, y5, y6, y7, rfl, s11, _, e11, hus11⟩
    refine ⟨us2, _, _, _, _, _, _, rfl, s11, e11, ?_⟩
    rw [hmore]
    rw [List.length_map, List.take_length] at hus11
    exact hus11
  rintro σ H12 ⟨us, y2, y3, y4, y5, y6, y7, rfl, s12, e12, hus12⟩
  rw [List.length_map] at hus12
  have hul12 := hus12.len
  have hl12 := hlen xs.length (Nat.le_refl _)
  refine ⟨_, rfl, D, us, (smTo xs xs.length).map scD, rfl, sqL_of e12, tr_all hus12, ?_, ?_, ?_, fun p np => ?_⟩
  · intro d hd d' hd'
    obtain ⟨q1, _, rfl⟩ := List.mem_map.mp hd
    obtain ⟨q2, _, rfl⟩ := List.mem_map.mp hd'
    exact scD_alike q1 q2
  · refine .inl fun d hd => ?_
    obtain ⟨q1, _, rfl⟩ := List.mem_map.mp hd
    exact ⟨_, _, rfl⟩
  · intro d hd
    obtain ⟨q1, _, rfl⟩ := List.mem_map.mp hd
    exact scD_depth q1
  have hs0 := srtD_all (enc := scD) hus12
  generalize (srtD (us.zip ((smTo xs xs.length).map scD))).map Prod.fst = zs at hs0 ⊢
  have hs0 : All2 (TrAt H12) zs (smS xs) := hs0
  have s13 : Same H12 (upd H12 p (.lst zs)) := (Same.refl H12).put np
  have e13 : (upd H12 p (.lst zs)) p = some (.lst zs) := upd_same
  have hz13 := hs0.mono fun _ _ z => z.same s13
  generalize upd H12 p (.lst zs) = H13 at s13 e13 hz13 ⊢
  have hzl := hz13.len
  have hsl : (smS xs).length ≤ 1000 := by rw [(smS_perm xs).length_eq]; exact hl12
  have s013 := s12.trans s13
  refine ⟨p, rfl, ⟨_, sqL_of e13⟩, fun D2 nD2 => lc_it walk_list (fun i H' => Same H13 H' ∧ ∃ us, H' D2 = some (.lst us) ∧ All2 (CnAt K C H') us ((smC xs).take i)) ⟨(Same.refl H13).put nD2, [], upd_same, by rw [List.take_zero]; exact .nil⟩ (fun _ _ _ h => sqL_of (h.1 _ _ e13)) ?_ ?_⟩
  · rintro i v H14' H14 hi ⟨s14, us3, e14, hus14⟩ ⟨rfl, hv⟩
    obtain ⟨q0, hq0, t, b1, b2, rfl, ht, h1, h2⟩ := hz13.get hv
    have hok := smS_ok hg q0 (List.mem_of_getElem? hq0)
    have hcl := hus14.len
    rw [List.length_take] at hcl
    have hil : i < (smS xs).length := (List.getElem?_eq_some_iff.mp hq0).1
    refine ⟨t, _, rfl, sqT_of (s14 _ _ ht), rfl, _, _, rfl, _, _, rfl, _, _, rfl, rfl, ?_⟩
    refine ⟨rfl, yes_ ⟨_, rfl, _, rfl, ?_⟩⟩
    intro c dxc nc ndc nec
    refine mk_cnd nc ndc (sqT_of (s14 _ _ h1)) (sqT_of (s14 _ _ h2)) hok.c1 hok.c2 (by have := hok.l; omega) fun H15 s15 hC15 => ?_
    have e15 := s15 _ _ e14
    have kk : Keeps NoL H15 (upd H15 D2 (.lst (us3 ++ [.ref c]))) := keeps_own e15 fun h => h
    refine ⟨us3, e15, by rw [hcl, sizeLine_eq]; omega, (s14.trans s15).put nD2, us3 ++ [.ref c], upd_same, ?_⟩
    have hm : (smC xs)[i]? = some q0.2 := by unfold smC; rw [List.getElem?_map, hq0]; rfl
    rw [take_more hm]
    exact (hus14.mono fun _ _ ⟨o, e, hc⟩ => ⟨o, e, (hc.same s15).keeps kk⟩).snoc ⟨c, rfl, hC15.keeps kk⟩
  rintro H16 ⟨s16, us3, e16, hus16⟩
  have hcl : (smC xs).length = zs.length := by unfold smC; rw [List.length_map, hzl]
  rw [← hcl, List.take_length] at hus16
  refine q H16 D2 us3 (s013.trans s16) ?_ e16 hus16
  cases e : H D2 with
  | none => rfl
  | some o => rw [s013 _ _ e] at nD2; cases nD2
end
end Sc
namespace Sc
open PySem PySem.Spec PyProof.Rows L2
/-! ### rows of rules that are edited -/
/-- the same rule with other exceptions -/
def Nd.wE (n : Nd) (e : RF) : Nd := ⟨n.nm, n.hs, n.fs, n.rl, e⟩
namespace RF
theorem ext_nodes {f g : RF} (h : f.nodes = g.nodes) : f = g := by rw [← of_nodes f, h, of_nodes]
theorem names_cons {n : Str} {hs fs : List Str} {rl : Str} {exc rest : RF} : (RF.cons n hs fs rl exc rest).names = n :: (exc.names ++ rest.names) := by
  rw [← pre_names _ 0]
  show n :: ((exc.pre 1 ++ rest.pre 0).map _) = _
  rw [List.map_append, pre_names, pre_names]
theorem names_nil : RF.nil.names = [] := rfl
theorem names_flat : ∀ f : RF, f.names = f.nodes.flatMap fun n => n.nm :: n.exc.names
  | .nil => rfl
  | .cons n hs fs rl exc rest => by
    rw [names_cons, names_flat rest]
    rfl
theorem mem_names {f : RF} {x : Str} : x ∈ f.names ↔ ∃ n ∈ f.nodes, x = n.nm ∨ x ∈ n.exc.names := by
  rw [names_flat, List.mem_flatMap]
  simp only [List.mem_cons]
/-- others ahead of a row -/
def put : List Nd → RF → RF
  | [], f => f
  | n :: r, f => .cons n.nm n.hs n.fs n.rl n.exc (put r f)
theorem put_nodes : ∀ (os : List Nd) (f : RF), (put os f).nodes = os ++ f.nodes
  | [], _ => rfl
  | n :: r, f => by
    show n :: (put r f).nodes = _
    rw [put_nodes r f]
    rfl
theorem put_of (os ns : List Nd) : put os (ofNodes ns) = ofNodes (os ++ ns) := ext_nodes (by rw [put_nodes, nodes_of, nodes_of])
/-- a change at the rule of a name -/
def upd (nm : Str) (G : Nd → RF → RF) : RF → RF
  | .nil => .nil
  | .cons n hs fs rl exc rest => if n = nm then G ⟨n, hs, fs, rl, exc⟩ rest else .cons n hs fs rl (upd nm G exc) (upd nm G rest)
theorem upd_no {nm : Str} {G : Nd → RF → RF} : ∀ {f : RF}, ¬ nm ∈ f.names → upd nm G f = f
  | .nil, _ => rfl
  | .cons n hs fs rl exc rest, h => by
    rw [names_cons] at h
    show (if n = nm then _ else RF.cons n hs fs rl (upd nm G exc) (upd nm G rest)) = _
    rw [if_neg fun z => h (by rw [z]; exact List.mem_cons_self), upd_no fun z => h (List.mem_cons_of_mem _ (List.mem_append_left _ z)), upd_no fun z => h (List.mem_cons_of_mem _ (List.mem_append_right _ z))]
theorem upd_at {nm : Str} {G : Nd → RF → RF} : ∀ {f : RF} {k : Nat} {n : Nd}, f.nodes[k]? = some n → n.nm = nm → (∀ m ∈ f.nodes.take k, m.nm ≠ nm ∧ ¬ nm ∈ m.exc.names) → upd nm G f = put (f.nodes.take k) (G n (ofNodes (f.nodes.drop (k + 1))))
  | .nil, k, n, h, _, _ => by cases k <;> cases h
  | .cons x hs fs rl exc rest, 0, n, h, e, _ => by
    cases h
    show (if x = nm then _ else _) = G ⟨x, hs, fs, rl, exc⟩ (ofNodes rest.nodes)
    rw [if_pos e, of_nodes]
  | .cons x hs fs rl exc rest, k + 1, n, h, e, off => by
    have h0 := off ⟨x, hs, fs, rl, exc⟩ List.mem_cons_self
    show (if x = nm then _ else RF.cons x hs fs rl (upd nm G exc) (upd nm G rest)) = _
    rw [if_neg h0.1, upd_no h0.2, upd_at (f := rest) (k := k) h e fun m hm => off m (List.mem_cons_of_mem _ hm)]
    rfl
theorem upd_map {nm : Str} {G : Nd → RF → RF} : ∀ {f : RF}, (∀ n ∈ f.nodes, n.nm ≠ nm) → (upd nm G f).nodes = f.nodes.map fun n => n.wE (upd nm G n.exc)
  | .nil, _ => rfl
  | .cons x hs fs rl exc rest, h => by
    show (if x = nm then G _ _ else RF.cons x hs fs rl (upd nm G exc) (upd nm G rest)).nodes = _
    rw [if_neg (h _ List.mem_cons_self)]
    show _ :: (upd nm G rest).nodes = _
    rw [upd_map (f := rest) fun m hm => h m (List.mem_cons_of_mem _ hm)]
    rfl
/-- others in the place of the rules of a name, as the program does it -/
def repl (nm : Str) (os : List Nd) : RF → RF
  | .nil => .nil
  | .cons n hs fs rl exc rest => if n = nm then put os (repl nm os rest) else .cons n hs fs rl (repl nm os exc) (repl nm os rest)
def replL (nm : Str) (os : List Nd) (ns : List Nd) : List Nd := ns.flatMap fun n => if n.nm = nm then os else [n.wE (repl nm os n.exc)]
theorem repl_nodes {nm : Str} {os : List Nd} : ∀ f : RF, (repl nm os f).nodes = replL nm os f.nodes
  | .nil => rfl
  | .cons n hs fs rl exc rest => by
    have ih := repl_nodes (nm := nm) (os := os) rest
    show (if n = nm then put os (repl nm os rest) else RF.cons n hs fs rl (repl nm os exc) (repl nm os rest)).nodes = (if n = nm then os else [Nd.wE ⟨n, hs, fs, rl, exc⟩ (repl nm os exc)]) ++ replL nm os rest.nodes
    by_cases e : n = nm
    · rw [if_pos e, if_pos e, put_nodes, ih]
    · rw [if_neg e, if_neg e, ← ih]
      rfl
theorem replL_more {nm : Str} {os : List Nd} {ns : List Nd} {i : Nat} {n : Nd} (h : ns[i]? = some n) : replL nm os (ns.take (i + 1)) = replL nm os (ns.take i) ++ (if n.nm = nm then os else [n.wE (repl nm os n.exc)]) := by
  unfold replL
  rw [take_more h, List.flatMap_append]
  simp
theorem repl_no {nm : Str} {os : List Nd} : ∀ {f : RF}, ¬ nm ∈ f.names → repl nm os f = f
  | .nil, _ => rfl
  | .cons n hs fs rl exc rest, h => by
    rw [names_cons] at h
    show (if n = nm then _ else RF.cons n hs fs rl (repl nm os exc) (repl nm os rest)) = _
    rw [if_neg fun z => h (by rw [z]; exact List.mem_cons_self), repl_no fun z => h (List.mem_cons_of_mem _ (List.mem_append_left _ z)), repl_no fun z => h (List.mem_cons_of_mem _ (List.mem_append_right _ z))]
theorem nodup_cons {n : Str} {hs fs : List Str} {rl : Str} {exc rest : RF} (h : (RF.cons n hs fs rl exc rest).names.Nodup) :
    ¬ n ∈ exc.names ∧ ¬ n ∈ rest.names ∧ exc.names.Nodup ∧ rest.names.Nodup ∧ ∀ x ∈ exc.names, ¬ x ∈ rest.names := by
  rw [names_cons, List.nodup_cons, List.nodup_append] at h
  obtain ⟨h1, h2, h3, h4⟩ := h
  exact ⟨fun z => h1 (List.mem_append_left _ z), fun z => h1 (List.mem_append_right _ z), h2, h3, fun x hx hy => h4 x hx x hy rfl⟩
theorem nodup_node : ∀ {f : RF}, f.names.Nodup → ∀ n ∈ f.nodes, n.exc.names.Nodup ∧ ¬ n.nm ∈ n.exc.names
  | .nil, _, _, hn => nomatch hn
  | .cons x hs fs rl exc rest, h, n, hn => by
    obtain ⟨h1, h2, h3, h4, h5⟩ := nodup_cons h
    rcases List.mem_cons.mp hn with rfl | hn
    · exact ⟨h3, h1⟩
    · exact nodup_node h4 n hn
theorem repl_upd {nm : Str} {os : List Nd} : ∀ {f : RF}, f.names.Nodup → repl nm os f = upd nm (fun _ rest => put os rest) f
  | .nil, _ => rfl
  | .cons n hs fs rl exc rest, h => by
    obtain ⟨h1, h2, h3, h4, h5⟩ := nodup_cons h
    show (if n = nm then put os (repl nm os rest) else RF.cons n hs fs rl (repl nm os exc) (repl nm os rest)) = (if n = nm then put os rest else RF.cons n hs fs rl (upd nm _ exc) (upd nm _ rest))
    by_cases e : n = nm
    · subst e
      rw [if_pos rfl, if_pos rfl, repl_no h2]
    · rw [if_neg e, if_neg e, repl_upd h3, repl_upd h4]
theorem find_nil {nm : Str} : RF.nil.find nm = none := rfl
theorem pre_fst' : ∀ (f : RF) (k j : Nat), (f.pre k).map (fun q => q.1) = (f.pre j).map fun q => q.1
  | .nil, _, _ => rfl
  | .cons nm hs fs rl exc rest, k, j => by
    show _ :: (exc.pre (k + 1) ++ rest.pre k).map _ = _ :: (exc.pre (j + 1) ++ rest.pre j).map _
    rw [List.map_append, List.map_append, pre_fst' exc (k + 1) (j + 1), pre_fst' rest k j]
theorem find_cons {n nm : Str} {hs fs : List Str} {rl : Str} {exc rest : RF} : (RF.cons n hs fs rl exc rest).find nm = if n = nm then some ⟨n, hs, fs, rl, exc⟩ else (exc.find nm).or (rest.find nm) := by
  unfold find
  show (_ :: (exc.pre 1 ++ rest.pre 0).map _).find? _ = _
  rw [List.find?_cons]
  by_cases e : n = nm
  · rw [if_pos e]
    dsimp only
    rw [decide_eq_true e]
  · rw [if_neg e]
    dsimp only
    rw [decide_eq_false e, List.map_append, List.find?_append, pre_fst' exc 1 0]
theorem find_none {nm : Str} : ∀ {f : RF}, ¬ nm ∈ f.names → f.find nm = none
  | .nil, _ => rfl
  | .cons n hs fs rl exc rest, h => by
    rw [names_cons] at h
    rw [find_cons, if_neg fun z => h (by rw [z]; exact List.mem_cons_self), find_none fun z => h (List.mem_cons_of_mem _ (List.mem_append_left _ z)), find_none fun z => h (List.mem_cons_of_mem _ (List.mem_append_right _ z))]
    rfl
theorem find_some {nm : Str} : ∀ {f : RF}, nm ∈ f.names → ∃ n, f.find nm = some n ∧ n.nm = nm
  | .nil, h => nomatch h
  | .cons n hs fs rl exc rest, h => by
    rw [find_cons]
    by_cases e : n = nm
    · rw [if_pos e]
      exact ⟨_, rfl, e⟩
    · rw [if_neg e]
      by_cases c : nm ∈ exc.names
      · obtain ⟨m, h1, h2⟩ := find_some c
        rw [h1]
        exact ⟨m, rfl, h2⟩
      · rw [names_cons] at h
        have hr : nm ∈ rest.names := by
          rcases List.mem_cons.mp h with h | h
          · exact absurd h.symm e
          · rcases List.mem_append.mp h with h | h
            · exact absurd h c
            · exact h
        rw [find_none c]
        exact find_some hr
/-- a change leans on the one rule of that name -/
theorem upd_find {nm : Str} {G G' : Nd → RF → RF} {n0 : Nd} (g : G n0 = G' n0) : ∀ {f : RF}, f.names.Nodup → (nm ∈ f.names → f.find nm = some n0) → upd nm G f = upd nm G' f
  | .nil, _, _ => rfl
  | .cons n hs fs rl exc rest, h, hf => by
    obtain ⟨h1, h2, h3, h4, h5⟩ := nodup_cons h
    rw [find_cons, names_cons] at hf
    show (if n = nm then G _ _ else RF.cons n hs fs rl (upd nm G exc) (upd nm G rest)) = (if n = nm then G' _ _ else RF.cons n hs fs rl (upd nm G' exc) (upd nm G' rest))
    by_cases e : n = nm
    · rw [if_pos e, if_pos e]
      rw [if_pos e] at hf
      rw [Option.some.inj (hf (by rw [e]; exact List.mem_cons_self)), g]
    · rw [if_neg e, if_neg e]
      rw [if_neg e] at hf
      rw [upd_find g h3 (fun c => ?_), upd_find g h4 (fun c => ?_)]
      · have hc : ¬ nm ∈ exc.names := fun z => h5 _ z c
        have hf := hf (List.mem_cons_of_mem _ (List.mem_append_right _ c))
        rw [find_none hc] at hf
        exact hf
      · have hf := hf (List.mem_cons_of_mem _ (List.mem_append_left _ c))
        obtain ⟨m, e1, _⟩ := find_some c
        rw [e1] at hf
        rw [e1]
        exact hf
end RF
/-- what an amendment makes of a rule -/
inductive Op where
  | strike
  | swap
  | before (m : Nd)
  | add (m : Nd)
  | ruling (s : Str)
  | cond (hs fs : List Str)
def Op.news : Op → Nd → List Nd
  | .strike, _ => []
  | .swap, n => [n]
  | .before m, n => [m, n]
  | .add m, n => [n.wE (n.exc.snoc m)]
  | .ruling s, n => [⟨n.nm, n.hs, n.fs, s, n.exc⟩]
  | .cond hs fs, n => [⟨n.nm, hs, fs, n.rl, n.exc⟩]
def swapG (n : Nd) : RF → RF
  | .nil => RF.put [n] .nil
  | .cons a b c d e r => .cons a b c d e (RF.put [n] r)
def Op.G : Op → Nd → RF → RF
  | .swap, n, rest => swapG n rest
  | op, n, rest => RF.put (op.news n) rest
namespace RF
/-- the rule directly behind, beside it -/
def nxt (nm : Str) : RF → Option Nd
  | .nil => none
  | .cons n hs fs rl exc rest => if n = nm then rest.nodes.head? else if nm ∈ exc.names then nxt nm exc else nxt nm rest
theorem nxt_mem {nm : Str} : ∀ {f : RF} {b : Nd}, nxt nm f = some b → b.nm ∈ f.names
  | .nil, b, h => nomatch h
  | .cons n hs fs rl exc rest, b, h => by
    unfold nxt at h
    rw [names_cons]
    by_cases e : n = nm
    · rw [if_pos e] at h
      have hb : b ∈ rest.nodes := List.mem_of_mem_head? h
      exact List.mem_cons_of_mem _ (List.mem_append_right _ (mem_names.mpr ⟨b, hb, .inl rfl⟩))
    · rw [if_neg e] at h
      by_cases c : nm ∈ exc.names
      · rw [if_pos c] at h
        exact List.mem_cons_of_mem _ (List.mem_append_left _ (nxt_mem h))
      · rw [if_neg c] at h
        exact List.mem_cons_of_mem _ (List.mem_append_right _ (nxt_mem h))
/-- out of its place, and then in again, ahead of the other -/
theorem swap_two {nm : Str} {b n0 : Nd} : ∀ {f : RF}, f.names.Nodup → nm ∈ f.names → nxt nm f = some b → f.find nm = some n0 → upd nm (fun _ rest => put [b, n0] rest) (upd b.nm (fun _ rest => rest) f) = upd nm swapG f
  | .nil, _, h, _, _ => nomatch h
  | .cons n hs fs rl exc rest, h, hm, hx, hf => by
    obtain ⟨h1, h2, h3, h4, h5⟩ := nodup_cons h
    unfold nxt at hx
    rw [find_cons] at hf
    by_cases e : n = nm
    · subst e
      rw [if_pos rfl] at hx hf
      cases hf
      cases rest with
      | nil => exact nomatch hx
      | cons a g c d ex r =>
        cases hx
        have na : ¬ n = a := fun z => h2 (by rw [names_cons, z]; exact List.mem_cons_self)
        have ne : ¬ a ∈ exc.names := fun z => h5 _ z (by rw [names_cons]; exact List.mem_cons_self)
        show upd n _ (if n = a then _ else RF.cons n hs fs rl (upd a _ exc) (if a = a then r else _)) = (if n = n then _ else _)
        rw [if_neg na, if_pos rfl, if_pos rfl, upd_no ne]
        show (if n = n then _ else _) = _
        rw [if_pos rfl]
        rfl
    · rw [if_neg e] at hx hf
      by_cases c : nm ∈ exc.names
      · rw [if_pos c] at hx
        have hb := nxt_mem hx
        have nb : ¬ n = b.nm := fun z => h1 (by rw [z]; exact hb)
        have nr : ¬ b.nm ∈ rest.names := h5 _ hb
        have nr2 : ¬ nm ∈ rest.names := h5 _ c
        obtain ⟨m, e1, _⟩ := find_some c
        rw [e1] at hf
        have hf : exc.find nm = some n0 := by rw [e1]; exact hf
        show upd nm _ (if n = b.nm then _ else RF.cons n hs fs rl (upd b.nm _ exc) (upd b.nm _ rest)) = (if n = nm then _ else RF.cons n hs fs rl (upd nm swapG exc) (upd nm swapG rest))
        rw [if_neg nb, if_neg e, upd_no nr, upd_no (G := swapG) nr2, ← swap_two h3 c hx hf]
        show (if n = nm then _ else RF.cons n hs fs rl (upd nm _ _) (upd nm _ rest)) = _
        rw [if_neg e, upd_no (G := fun _ rest => put [b, n0] rest) nr2]
      · rw [if_neg c] at hx
        rw [find_none c] at hf
        have hb := nxt_mem hx
        have nb : ¬ n = b.nm := fun z => h2 (by rw [z]; exact hb)
        have ne : ¬ b.nm ∈ exc.names := fun z => h5 _ z hb
        have hr : nm ∈ rest.names := by
          rw [names_cons] at hm
          rcases List.mem_cons.mp hm with z | z
          · exact absurd z.symm e
          · rcases List.mem_append.mp z with z | z
            · exact absurd z c
            · exact z
        show upd nm _ (if n = b.nm then _ else RF.cons n hs fs rl (upd b.nm _ exc) (upd b.nm _ rest)) = (if n = nm then _ else RF.cons n hs fs rl (upd nm swapG exc) (upd nm swapG rest))
        rw [if_neg nb, if_neg e, upd_no ne, upd_no (G := swapG) c, ← swap_two h4 hr hx hf]
        show (if n = nm then _ else RF.cons n hs fs rl (upd nm _ exc) (upd nm _ _)) = _
        rw [if_neg e, upd_no (G := fun _ rest => put [b, n0] rest) c]
end RF
end Sc
namespace Sc
open PySem PySem.Spec PyProof.Rows L2
namespace RF
/-! ### how large, how deep, of which names -/
theorem put_size : ∀ (os : List Nd) (f : RF), (put os f).size = (ofNodes os).size + f.size
  | [], f => by show f.size = 0 + f.size; omega
  | n :: r, f => by
    show n.exc.size + 1 + (put r f).size = n.exc.size + 1 + (ofNodes r).size + f.size
    rw [put_size r f]
    omega
theorem put_dep : ∀ (os : List Nd) (f : RF), (put os f).dep = max (ofNodes os).dep f.dep
  | [], f => by show f.dep = max 0 f.dep; omega
  | n :: r, f => by
    show max (n.exc.dep + 1) (put r f).dep = max (max (n.exc.dep + 1) (ofNodes r).dep) f.dep
    rw [put_dep r f]
    omega
theorem put_every {p : Nd → Prop} {os : List Nd} {f : RF} (h : ∀ n ∈ os, p n ∧ n.exc.every p) (k : f.every p) : (put os f).every p := every_nodes.mpr fun n hn => by
  rw [put_nodes] at hn
  rcases List.mem_append.mp hn with hn | hn
  · exact h n hn
  · exact every_nodes.mp k n hn
theorem put_names (os : List Nd) (f : RF) : (put os f).names = (ofNodes os).names ++ f.names := by
  rw [names_flat, put_nodes, List.flatMap_append, ← names_flat, names_flat (ofNodes os), nodes_of]
theorem upd_size {nm : Str} {G : Nd → RF → RF} {e : Nat} (g : ∀ n rest, (G n rest).size ≤ n.exc.size + 1 + rest.size + e) : ∀ {f : RF}, f.names.Nodup → (upd nm G f).size ≤ f.size + e
  | .nil, _ => Nat.zero_le _
  | .cons n hs fs rl exc rest, h => by
    obtain ⟨h1, h2, h3, h4, h5⟩ := nodup_cons h
    show (if n = nm then G _ _ else RF.cons n hs fs rl (upd nm G exc) (upd nm G rest)).size ≤ exc.size + 1 + rest.size + e
    by_cases c : n = nm
    · rw [if_pos c]
      exact g _ _
    · rw [if_neg c]
      show (upd nm G exc).size + 1 + (upd nm G rest).size ≤ _
      by_cases d : nm ∈ exc.names
      · rw [upd_no (h5 _ d)]
        have := upd_size (nm := nm) g h3
        omega
      · rw [upd_no d]
        have := upd_size (nm := nm) g h4
        omega
theorem upd_dep {nm : Str} {G : Nd → RF → RF} {e : Nat} (g : ∀ n rest, (G n rest).dep ≤ max (n.exc.dep + 1) rest.dep + e) : ∀ {f : RF}, (upd nm G f).dep ≤ f.dep + e
  | .nil => Nat.zero_le _
  | .cons n hs fs rl exc rest => by
    show (if n = nm then G _ _ else RF.cons n hs fs rl (upd nm G exc) (upd nm G rest)).dep ≤ max (exc.dep + 1) rest.dep + e
    by_cases c : n = nm
    · rw [if_pos c]
      exact g _ _
    · rw [if_neg c]
      show max ((upd nm G exc).dep + 1) (upd nm G rest).dep ≤ _
      have h1 := upd_dep (nm := nm) (f := exc) g
      have h2 := upd_dep (nm := nm) (f := rest) g
      omega
theorem upd_every {nm : Str} {G : Nd → RF → RF} {p : Nd → Prop} (hp : ∀ n e, p n → p (n.wE e)) (g : ∀ n rest, p n → n.exc.every p → rest.every p → (G n rest).every p) : ∀ {f : RF}, f.every p → (upd nm G f).every p
  | .nil, _ => trivial
  | .cons n hs fs rl exc rest, h => by
    obtain ⟨h1, h2, h3⟩ := h
    show (if n = nm then G _ _ else RF.cons n hs fs rl (upd nm G exc) (upd nm G rest)).every p
    by_cases c : n = nm
    · rw [if_pos c]
      exact g _ _ h1 h2 h3
    · rw [if_neg c]
      exact ⟨hp _ _ h1, upd_every hp g h2, upd_every hp g h3⟩
theorem upd_names {nm : Str} {G : Nd → RF → RF} (g : ∀ n rest, (n.nm :: (n.exc.names ++ rest.names)).Nodup → (G n rest).names.Nodup ∧ ∀ x ∈ (G n rest).names, x ∈ n.nm :: (n.exc.names ++ rest.names)) : ∀ {f : RF}, f.names.Nodup → (upd nm G f).names.Nodup ∧ ∀ x ∈ (upd nm G f).names, x ∈ f.names
  | .nil, _ => ⟨.nil, fun _ h => h⟩
  | .cons n hs fs rl exc rest, h => by
    obtain ⟨h1, h2, h3, h4, h5⟩ := nodup_cons h
    show (if n = nm then G _ _ else RF.cons n hs fs rl (upd nm G exc) (upd nm G rest)).names.Nodup ∧ ∀ x ∈ (if n = nm then G _ _ else RF.cons n hs fs rl (upd nm G exc) (upd nm G rest)).names, x ∈ _
    by_cases c : n = nm
    · rw [if_pos c, names_cons]
      rw [names_cons] at h
      exact g ⟨n, hs, fs, rl, exc⟩ rest h
    · rw [if_neg c, names_cons, names_cons]
      obtain ⟨a1, a2⟩ := upd_names (nm := nm) g h3
      obtain ⟨b1, b2⟩ := upd_names (nm := nm) g h4
      refine ⟨List.nodup_cons.mpr ⟨fun z => ?_, List.nodup_append.mpr ⟨a1, b1, fun x hx y hy e => ?_⟩⟩, fun x hx => ?_⟩
      · rcases List.mem_append.mp z with z | z
        · exact h1 (a2 _ z)
        · exact h2 (b2 _ z)
      · subst e
        exact h5 x (a2 _ hx) (b2 _ hy)
      · rcases List.mem_cons.mp hx with rfl | hx
        · exact List.mem_cons_self
        · refine List.mem_cons_of_mem _ ?_
          rcases List.mem_append.mp hx with hx | hx
          · exact List.mem_append_left _ (a2 _ hx)
          · exact List.mem_append_right _ (b2 _ hx)
/-! ### where a rule stands -/
/-- the row in which a rule stands -/
def rowIn (nm : Str) (top : RF) : RF → RF
  | .nil => top
  | .cons n hs fs rl exc rest => if n = nm then top else if nm ∈ exc.names then rowIn nm exc exc else rowIn nm top rest
theorem path_some {nm : Str} : ∀ {f : RF}, nm ∈ f.names → f.path nm ≠ []
  | .nil, h => nomatch h
  | .cons n hs fs rl exc rest, h => by
    show (if n = nm then _ else if RF.path nm exc = [] then RF.path nm rest else _) ≠ []
    by_cases e : n = nm
    · rw [if_pos e]
      exact List.cons_ne_nil _ _
    · rw [if_neg e]
      by_cases c : RF.path nm exc = []
      · rw [if_pos c]
        refine path_some ?_
        rw [names_cons] at h
        rcases List.mem_cons.mp h with z | z
        · exact absurd z.symm e
        · rcases List.mem_append.mp z with z | z
          · exact absurd c (path_some z)
          · exact z
      · rw [if_neg c]
        exact List.cons_ne_nil _ _
theorem path_row {nm : Str} : ∀ {f : RF} (top : RF), nm ∈ f.names → (((f.path nm).length = 1 ∧ rowIn nm top f = top) ∨ ∃ q, (f.path nm)[(f.path nm).length - 2]? = some q ∧ 2 ≤ (f.path nm).length ∧ rowIn nm top f = q.exc)
  | .nil, _, h => nomatch h
  | .cons n hs fs rl exc rest, top, h => by
    have e0 : RF.path nm (RF.cons n hs fs rl exc rest) = (if n = nm then [⟨n, hs, fs, rl, exc⟩] else if RF.path nm exc = [] then RF.path nm rest else ⟨n, hs, fs, rl, exc⟩ :: RF.path nm exc) := rfl
    have e1 : rowIn nm top (RF.cons n hs fs rl exc rest) = (if n = nm then top else if nm ∈ exc.names then rowIn nm exc exc else rowIn nm top rest) := rfl
    rw [e0, e1]
    by_cases e : n = nm
    · rw [if_pos e, if_pos e]
      exact .inl ⟨rfl, rfl⟩
    · rw [if_neg e, if_neg e]
      by_cases c : nm ∈ exc.names
      · rw [if_neg (path_some c), if_pos c]
        refine .inr ?_
        rcases path_row exc c with ⟨h1, h2⟩ | ⟨q, h1, h2, h3⟩
        · refine ⟨⟨n, hs, fs, rl, exc⟩, ?_, by rw [List.length_cons]; omega, h2⟩
          rw [List.length_cons, h1]
          rfl
        · refine ⟨q, ?_, by rw [List.length_cons]; omega, h3⟩
          rw [List.length_cons, ← h1]
          show (_ :: RF.path nm exc)[(RF.path nm exc).length + 1 - 2]? = _
          rw [show (RF.path nm exc).length + 1 - 2 = (RF.path nm exc).length - 2 + 1 by omega]
          rfl
      · rw [if_pos (path_no c), if_neg c]
        refine path_row top ?_
        rw [names_cons] at h
        rcases List.mem_cons.mp h with z | z
        · exact absurd z.symm e
        · rcases List.mem_append.mp z with z | z
          · exact absurd z c
          · exact z
/-- how many stand beside the rule, and its place there -/
def besL (nm : Str) (m : Nat) : Nat → RF → Option (Nat × Nat)
  | _, .nil => none
  | k, .cons n hs fs rl exc rest => if n = nm then some (m, k) else match besL nm exc.nodes.length 0 exc with
    | some r => some r
    | none => besL nm m (k + 1) rest
def bes (nm : Str) (f : RF) : Option (Nat × Nat) := besL nm f.nodes.length 0 f
theorem besL_none {nm : Str} {m : Nat} : ∀ {f : RF} {k : Nat}, ¬ nm ∈ f.names → besL nm m k f = none
  | .nil, _, _ => rfl
  | .cons n hs fs rl exc rest, k, h => by
    rw [names_cons] at h
    show (if n = nm then _ else match besL nm exc.nodes.length 0 exc with | some r => some r | none => besL nm m (k + 1) rest) = _
    rw [if_neg fun z => h (by rw [z]; exact List.mem_cons_self), besL_none (f := exc) fun z => h (List.mem_cons_of_mem _ (List.mem_append_left _ z))]
    exact besL_none fun z => h (List.mem_cons_of_mem _ (List.mem_append_right _ z))
theorem row_at {nm : Str} : ∀ {f : RF} {top : RF} {pre : List Nd}, nm ∈ f.names → top.nodes = pre ++ f.nodes → (∀ p ∈ pre, p.nm ≠ nm) →
    ∃ (k : Nat) (n : Nd), besL nm top.nodes.length pre.length f = some ((rowIn nm top f).nodes.length, k) ∧ (rowIn nm top f).nodes[k]? = some n ∧ n.nm = nm ∧ (∀ (j : Nat) (p : Nd), j < k → (rowIn nm top f).nodes[j]? = some p → p.nm ≠ nm) ∧ nxt nm f = (rowIn nm top f).nodes[k + 1]?
  | .nil, _, _, h, _, _ => nomatch h
  | .cons n hs fs rl exc rest, top, pre, h, ht, hp => by
    have e1 : rowIn nm top (RF.cons n hs fs rl exc rest) = (if n = nm then top else if nm ∈ exc.names then rowIn nm exc exc else rowIn nm top rest) := rfl
    have e2 : besL nm top.nodes.length pre.length (RF.cons n hs fs rl exc rest) = (if n = nm then some (top.nodes.length, pre.length) else match besL nm exc.nodes.length 0 exc with | some r => some r | none => besL nm top.nodes.length (pre.length + 1) rest) := rfl
    have e3 : nxt nm (RF.cons n hs fs rl exc rest) = (if n = nm then rest.nodes.head? else if nm ∈ exc.names then nxt nm exc else nxt nm rest) := rfl
    rw [e1, e2, e3]
    by_cases e : n = nm
    · rw [if_pos e, if_pos e, if_pos e]
      refine ⟨pre.length, ⟨n, hs, fs, rl, exc⟩, rfl, ?_, e, fun j p hj hpj => ?_, ?_⟩
      · rw [ht, List.getElem?_append_right (Nat.le_refl _), Nat.sub_self]
        rfl
      · rw [ht, List.getElem?_append_left hj] at hpj
        exact hp p (List.mem_of_getElem? hpj)
      · rw [ht, List.getElem?_append_right (Nat.le_succ _), show pre.length + 1 - pre.length = 1 by omega]
        show rest.nodes.head? = rest.nodes[0]?
        cases rest.nodes <;> rfl
    · rw [if_neg e, if_neg e, if_neg e]
      by_cases c : nm ∈ exc.names
      · rw [if_pos c, if_pos c]
        obtain ⟨k, m, h1, h2, h3, h4, h5⟩ := row_at (f := exc) (top := exc) (pre := []) c rfl (fun _ h => nomatch h)
        have h1 : besL nm exc.nodes.length 0 exc = _ := h1
        rw [h1]
        exact ⟨k, m, rfl, h2, h3, h4, h5⟩
      · rw [if_neg c, if_neg c, besL_none (f := exc) c]
        have hr : nm ∈ rest.names := by
          rw [names_cons] at h
          rcases List.mem_cons.mp h with z | z
          · exact absurd z.symm e
          · rcases List.mem_append.mp z with z | z
            · exact absurd z c
            · exact z
        obtain ⟨k, m, h1, h2, h3, h4, h5⟩ := row_at (f := rest) (top := top) (pre := pre ++ [⟨n, hs, fs, rl, exc⟩]) hr (by rw [ht, List.append_assoc]; rfl) (fun p hpp => by
          rcases List.mem_append.mp hpp with z | z
          · exact hp p z
          · rw [List.mem_singleton.mp z]
            exact e)
        rw [List.length_append] at h1
        exact ⟨k, m, h1, h2, h3, h4, h5⟩
/-- beside, and the one behind -/
theorem bes_nxt {nm : Str} {f : RF} (h : nm ∈ f.names) : ∃ m k, bes nm f = some (m, k) ∧ k < m ∧ (nxt nm f = none ↔ k + 1 = m) := by
  obtain ⟨k, n, h1, h2, h3, h4, h5⟩ := row_at (f := f) (top := f) (pre := []) h rfl (fun _ h => nomatch h)
  have hk : k < (rowIn nm f f).nodes.length := by
    by_cases c : k < (rowIn nm f f).nodes.length
    · exact c
    · rw [List.getElem?_eq_none (by omega)] at h2
      cases h2
  refine ⟨_, k, h1, hk, ?_⟩
  rw [h5, List.getElem?_eq_none_iff]
  omega
/-- in the exceptions of a rule beside none of that name -/
theorem nxt_in {nm : Str} : ∀ {f : RF}, f.names.Nodup → (∀ n ∈ f.nodes, n.nm ≠ nm) → ∀ n ∈ f.nodes, nm ∈ n.exc.names → nxt nm f = nxt nm n.exc
  | .nil, _, _, _, h, _ => nomatch h
  | .cons x hs fs rl exc rest, h, hne, n, hn, hm => by
    obtain ⟨h1, h2, h3, h4, h5⟩ := nodup_cons h
    show (if x = nm then _ else if nm ∈ exc.names then nxt nm exc else nxt nm rest) = _
    rw [if_neg (hne _ List.mem_cons_self)]
    rcases List.mem_cons.mp hn with rfl | hn
    · rw [if_pos hm]
    · have hr : nm ∈ rest.names := mem_names.mpr ⟨n, hn, .inr hm⟩
      rw [if_neg fun z => h5 _ z hr]
      exact nxt_in h4 (fun m hm => hne m (List.mem_cons_of_mem _ hm)) n hn hm
/-- at its place in the row -/
theorem nxt_here {nm : Str} : ∀ {f : RF} {k : Nat} {n : Nd}, f.nodes[k]? = some n → n.nm = nm → (∀ m ∈ f.nodes.take k, m.nm ≠ nm ∧ ¬ nm ∈ m.exc.names) → nxt nm f = f.nodes[k + 1]?
  | .nil, k, n, h, _, _ => by cases k <;> cases h
  | .cons x hs fs rl exc rest, 0, n, h, e, _ => by
    cases h
    show (if x = nm then rest.nodes.head? else _) = rest.nodes[0]?
    rw [if_pos e]
    cases rest.nodes <;> rfl
  | .cons x hs fs rl exc rest, k + 1, n, h, e, off => by
    have h0 := off ⟨x, hs, fs, rl, exc⟩ List.mem_cons_self
    show (if x = nm then _ else if nm ∈ exc.names then nxt nm exc else nxt nm rest) = _
    rw [if_neg h0.1, if_neg h0.2]
    exact nxt_here (f := rest) (k := k) h e fun m hm => off m (List.mem_cons_of_mem _ hm)
/-- ahead of a rule, beside it, its name stands nowhere -/
theorem ahead {nm : Str} : ∀ {f : RF} {k : Nat} {n : Nd}, f.names.Nodup → f.nodes[k]? = some n → n.nm = nm → ∀ m ∈ f.nodes.take k, m.nm ≠ nm ∧ ¬ nm ∈ m.exc.names
  | .nil, k, n, _, h, _ => by cases k <;> cases h
  | .cons x hs fs rl exc rest, 0, n, _, _, _ => fun m hm => nomatch hm
  | .cons x hs fs rl exc rest, k + 1, n, h, hn, e => fun m hm => by
    obtain ⟨h1, h2, h3, h4, h5⟩ := nodup_cons h
    have hr : nm ∈ rest.names := mem_names.mpr ⟨n, List.mem_of_getElem? (show rest.nodes[k]? = some n from hn), .inl e.symm⟩
    rcases List.mem_cons.mp hm with rfl | hm
    · exact ⟨fun z => h2 (by rw [show x = nm from z]; exact hr), fun z => h5 _ z hr⟩
    · exact ahead (f := rest) (k := k) h4 hn e m hm
theorem pre_dep' : ∀ {f : RF} {k D : Nat}, (∀ q ∈ f.pre k, q.2 ≤ D) → k ≤ D + 1 → f.dep + k ≤ D + 1
  | .nil, k, D, _, h => by show 0 + k ≤ _; omega
  | .cons n hs fs rl exc rest, k, D, h, hk => by
    show max (exc.dep + 1) rest.dep + k ≤ D + 1
    have h0 : k ≤ D := h _ List.mem_cons_self
    have h1 := pre_dep' (f := exc) (k := k + 1) (D := D) (fun q hq => h q (List.mem_cons_of_mem _ (List.mem_append_left _ hq))) (by omega)
    have h2 := pre_dep' (f := rest) (k := k) (D := D) (fun q hq => h q (List.mem_cons_of_mem _ (List.mem_append_right _ hq))) hk
    omega
end RF
/-! ### faults -/
theorem fault_none {xs : List Str} : ∀ {ps : List (Nd × Nat)} {met : List Str} {out i : Nat}, met.Nodup → firstFault xs ps met out i = none → (met ++ ps.map fun q => q.1.nm).Nodup ∧ ∀ q ∈ ps, q.2 ≤ 5
  | [], met, _, _, hm, _ => by
    rw [List.map_nil, List.append_nil]
    exact ⟨hm, fun _ h => nomatch h⟩
  | (n, k) :: r, met, out, i, hm, h => by
    unfold firstFault at h
    cases e : faultAt xs met (outNext out k) i n k with
    | some w => rw [e] at h; cases h
    | none =>
      rw [e] at h
      unfold faultAt at e
      split at e
      · cases e
      · rename_i hn
        split at e
        · cases e
        · split at e
          · cases e
          · rename_i hk
            obtain ⟨h1, h2⟩ := fault_none (ps := r) (met := met ++ [n.nm]) (List.nodup_append.mpr ⟨hm, List.pairwise_singleton _ _, fun y hy z hz e => by
              rw [List.mem_singleton.mp hz] at e
              subst e
              exact hn hy⟩) h
            refine ⟨?_, fun q hq => ?_⟩
            · rw [List.append_assoc] at h1
              exact h1
            · rcases List.mem_cons.mp hq with rfl | hq
              · show k ≤ 5
                omega
              · exact h2 q hq
theorem fault_step {xs met : List Str} {out i k : Nat} {n : Nd} {r : List (Nd × Nat)} (hc : ((srt (n.hs ++ n.fs)).any fun x => !decide (x ∈ xs)) = false) (hi : i < 60) (ho : out + 1 ≤ 40) :
    firstFault xs ((n, k) :: r) met out i = if n.nm ∈ met then some ((Str.ofString "name"), i) else if 5 < k then some ((Str.ofString "depth"), i) else firstFault xs r (met ++ [n.nm]) (outNext out k) (i + 1) := by
  have hon : outNext out k ≤ out + 1 := by unfold outNext; split <;> omega
  show (match faultAt xs met (outNext out k) i n k with | some w => some (w, i) | none => firstFault xs r (met ++ [n.nm]) (outNext out k) (i + 1)) = _
  unfold faultAt
  rw [hc]
  by_cases h1 : n.nm ∈ met
  · rw [if_pos h1, if_pos h1]
  · rw [if_neg h1, if_neg h1, if_neg Bool.false_ne_true]
    by_cases h2 : 5 < k
    · rw [if_pos h2, if_pos h2]
    · rw [if_neg h2, if_neg h2, if_neg (by omega)]
end Sc
namespace PySem.AutoSeq1
theorem list_extend_list_tuple_any (l : Addr) (items : Array Value) (n : Nat) (b : Addr) (items2 : Array Value) (n2 : Nat) (od : Option Addr) (os2 : Array (Option Value)) (hs0 : ¬(!items.isEmpty && Builtin.List.listTooLong (items.size + items2.size)) = true) (hs1 : items.size ≤ sizeLine) (hs2 : items.size + items2.size ≤ sizeLine + 1) :
    Meets (Builtin.«list.extend» ⟨[.ref l, .ref b], []⟩) (fun _ R s => s.heap.get? l = some { cls := .type "list", dict := none, data := .seq items n, slots := #[] } ∧ s.heap.get? b = some { cls := .type "tuple", dict := od, data := .seq items2 n2, slots := os2 } ∧ R (.ok (.ret Value.none)) { s with heap := s.heap.update l (Obj.mapSeq fun x => x ++ items2), toks := s.toks }) :=
  .of_wp fun prog w A R s h => by
    obtain ⟨hp, g, d, tk, os⟩ := s; obtain ⟨hl, hb, h⟩ := h; have f1 := idx_int; have f2 := sub_tuple_tuple; have f3 := sub_list_list; have f4 := sub_tuple_list; have f5 := sub_list_tuple;
    have hz' : (items ++ items2).size ≤ sizeLine + 1 := by rw [Array.size_append]; exact hs2
    wp_walk using (wpAny_updateSeq hl rfl (hz := hs1) (_hz' := hz')), wpAny_loadPart' hl, wpAny_loadPart' hb; exact ⟨_, rfl, h⟩
end PySem.AutoSeq1
namespace Sc
open PySem PySem.Spec PyProof.Rows L2
/-! ### xs.extend(t) of a tuple -/
def rExtendT (K : PySem.W.Frag) : V → List V → Hp → VK → Prop := fun x vs H Q => ∃ l b xs zs, x = .ref l ∧ vs = [.ref b] ∧ H l = some (.lst xs) ∧ SqT K H b zs ∧ xs.length + zs.length ≤ sizeLine ∧ Q .non (upd H l (.lst (xs ++ zs)))
theorem mt_extendT {X : Cx} : MtM X "list.extend" (rExtendT X.K) := by
  intro pins s σ H x vs v us Q I rx rv h
  obtain ⟨l, b, xs, zs, rfl, rfl, hH, hB, hz, q⟩ := h
  cases rx
  obtain ⟨u, rfl, ru⟩ := rv.one
  cases ru
  obtain ⟨z, its, n, r, hl, e⟩ := I.lstM hH
  obtain ⟨its2, r2, ⟨⟨oc, od, oda, os2⟩, e2, hc, n2, hd⟩, _⟩ := I.tuple hB
  cases hc
  cases hd
  have hl2 := r2.length
  have hsz : its.toArray.size + its2.toArray.size ≤ sizeLine := by rw [List.size_toArray, List.size_toArray]; omega
  have hlong : ¬ (!its.toArray.isEmpty && Builtin.List.listTooLong (its.toArray.size + its2.toArray.size)) = true := by
    rw [notLongL hsz, Bool.and_false]
    exact Bool.false_ne_true
  refine call_meets F.slot_list_extend ⟨_, e, rfl⟩ F.entry_list_extend (F.args_list_extend_2 _ _)
    (AutoSeq1.list_extend_list_tuple_any l its.toArray n b its2.toArray n2 od os2 hlong (by rw [List.size_toArray]; omega) (by omega)) ⟨e, e2, ?_⟩
  refine ⟨.non, _, I.lset (its' := its ++ its2) hH e (by simp) (r.append r2) ?_, rfl, q⟩
  rw [List.length_append]
  omega
end Sc
namespace Sc
open PySem PySem.Spec PyProof.Rows L2
theorem sc_replaced : FnScope ["rules", "name", "others", "made", "rule", "inner"] ["rules", "name", "others"] (defScope s_replaced) := ⟨rfl, rfl, rfl, by decide +kernel, rfl, by decide +kernel, by decide +kernel⟩
theorem RF.repl_size {nm : Str} {os : List Nd} {f : RF} (h : f.names.Nodup) : (RF.repl nm os f).size ≤ f.size + (RF.ofNodes os).size := by
  rw [RF.repl_upd h]
  refine RF.upd_size (fun n rest => ?_) h
  rw [RF.put_size]
  omega
theorem RF.repl_dep {nm : Str} {os : List Nd} {f : RF} (h : f.names.Nodup) : (RF.repl nm os f).dep ≤ f.dep + (RF.ofNodes os).dep := by
  rw [RF.repl_upd h]
  refine RF.upd_dep (fun n rest => ?_)
  rw [RF.put_dep]
  omega
theorem RF.replL_le {nm : Str} {os : List Nd} {f : RF} {i : Nat} : (RF.replL nm os (f.nodes.take i)).length ≤ (RF.repl nm os f).size := by
  refine Nat.le_trans ?_ (RF.nodes_le _)
  rw [RF.repl_nodes]
  have e : RF.replL nm os f.nodes = RF.replL nm os (f.nodes.take i) ++ RF.replL nm os (f.nodes.drop i) := by
    unfold RF.replL
    rw [← List.flatMap_append, List.take_append_drop]
  rw [e, List.length_append]
  exact Nat.le_add_right _ _
section
variable {P : Program} {w : World} {K : PySem.W.Frag} {mg : Str → Option Value} {base : Heap} {C R B CC CR CF CB CU CN : Addr}
def sp_replaced (K : PySem.W.Frag) (C R : Addr) (d : Nat) : Sp := fun vs H Q _ => ∃ (N : Addr → Prop) (p q : Addr) (nm : Str) (ws us : List V) (f : RF) (os : List Nd), vs = [.ref p, .str nm, .ref q] ∧ SqT K H p ws ∧ ForAt K C R N H f ws ∧ SqT K H q us ∧ All2 (RefAt K C R N H) us os ∧ (∀ l, H l = none → N l) ∧
  f.names.Nodup ∧ f.dep ≤ d ∧ f.dep + (RF.ofNodes os).dep ≤ 13 ∧ f.size + (RF.ofNodes os).size ≤ 900 ∧ f.every NdOk ∧ ∀ H' p' rs, Same H H' → SqT K H' p' rs → ForAt K C R N H' (RF.repl nm os f) rs → Q (.ref p') H'
theorem ok_replaced {d : Nat} {f : Addr} {fd : FuncData} (F : Fun K "replaced" "replaced" s_replaced f fd) (B : Blt mg) (kR : RuleX P w K mg base R) (k_Rule : Mkr P w K mg base 16 "Rule" R ["self", "name", "condition", "ruling", "exceptions"] (sp_rule_init K C R CR))
    (c_replaced : Cal P w K mg base CX0 (d + 17) "replaced" ["rules", "name", "others"] (Below (sp_replaced K C R) d)) :
    FnOk P w K mg base CX0 (d + 18) f fd ["rules", "name", "others"] (sp_replaced K C R d) := by
  refine F.ok sc_replaced (fun vs H Q E h => by obtain ⟨N, p, q, nm, ws, us, f, os, rfl, _⟩ := h; rfl) (fun cdv A outer s H vs Q E hr h => ?_)
  obtain ⟨N, p, q0, nm, ws, us, f, os, rfl, hP, hF, hO, hos, hN, hnd, hd, hd12, hz, hev, q⟩ := h
  refine ⟨_, (pss_cons (ps_set (i := 3) sc_replaced.nd rfl (Or.inl rfl) (pe_lst pa_nil))
      (pss_cons (ps_for PassesOwn.never rfl (pi_tup (pv 0)) (pg_name (i := 4) sc_replaced.nd rfl (Or.inl rfl)) (pss_one (ps_if (pt_cmpR op_eq (pe_cprop kR.name kR.cls (hr.mono (by omega)) (pv 4)) (pv 1) (nomark _)) (pss_one (ps_expr (pe_bm PySem.F.plainAttrs_list PySem.F.slot_list_extend PySem.F.type_list_extend mt_extendT (pv 3) (pa_cons (pv 2) pa_nil)))) (pss_cons (ps_set (i := 5) sc_replaced.nd rfl (Or.inl rfl) (pe_cal c_replaced hr (pa_cons (pe_cprop kR.exceptions kR.cls (hr.mono (by omega)) (pv 4)) (pa_cons (pv 1) (pa_cons (pv 2) pa_nil)))))
      (pss_one (ps_expr (pe_bm PySem.F.plainAttrs_list PySem.F.slot_list_append PySem.F.type_list_append mt_append (pv 3) (pa_cons (pe_mkN k_Rule (hr.mono (by omega)) (pa_cons (pe_cprop kR.name kR.cls (hr.mono (by omega)) (pv 4)) (pa_cons (pe_cprop kR.condition kR.cls (hr.mono (by omega)) (pv 4)) (pa_cons (pe_cprop kR.ruling kR.cls (hr.mono (by omega)) (pv 4)) (pa_cons (pv 5) pa_nil))))) pa_nil))))))))
      (pss_one (ps_ret (pe_callTy call_tuple_of (by rfl) B.b_tuple PyProof.Rows.boot_tuple (pa_cons (pv 3) pa_nil)))))), ?_⟩
  have hrz := RF.repl_size (nm := nm) (os := os) hnd
  have hlo := hos.len
  have hoz : os.length ≤ (RF.ofNodes os).size := by
    have := RF.nodes_le (RF.ofNodes os)
    rw [RF.nodes_of] at this
    exact this
  refine ⟨Nat.zero_le _, fun D nD => ?_⟩
  have g0 : ∀ b xs, N b → H b = some (.lst xs) → N b ∧ b ≠ D := fun b xs h e => ⟨h, fun z => by rw [z, nD] at e; cases e⟩
  have hA := (hF.re g0).all
  have hos : All2 (RefAt K C R (fun l => N l ∧ l ≠ D) H) us os := hos.mono fun _ _ ⟨o, e, x⟩ => ⟨o, e, x.re g0⟩
  have hln := hA.len
  have s0 : Same H (upd H D (.lst [])) := (Same.refl H).put nD
  have e0 : (upd H D (.lst [])) D = some (.lst []) := upd_same
  generalize upd H D (.lst []) = H0 at s0 e0 ⊢
  refine ⟨_, rfl, p, rfl, ⟨_, s0.tup hP⟩, for_it walk_tup (fun i σ H' => ∃ (rs : List V) (y4 y5 : Option V), σ = [some (.ref p), some (.str nm), some (.ref q0), some (.ref D), y4, y5] ∧ Same H H' ∧ H' D = some (.lst rs) ∧ All2 (RefAt K C R (fun l => N l ∧ l ≠ D) H') rs (RF.replL nm os (f.nodes.take i)))
    ⟨[], none, none, rfl, s0, e0, .nil⟩ (fun _ _ _ _ ⟨_, _, _, _, s, _⟩ => s.tup hP) ?_ ?_⟩
  · rintro i y σ H4 H3 hi ⟨rs, y4, y5, rfl, s, e, hrs⟩ ⟨rfl, hy⟩
    obtain ⟨n, hn, o, rfl, hNd⟩ := hA.get hy
    have hmem : n ∈ f.nodes := List.mem_of_getElem? hn
    have hdm := RF.dep_mem _ n hmem
    have hsm := RF.size_mem _ n hmem
    obtain ⟨hok, hne⟩ := RF.every_nodes.mp hev n hmem
    obtain ⟨hndx, _⟩ := RF.nodup_node hnd n hmem
    have hrl := hrs.len
    have hrb := RF.replL_le (nm := nm) (os := os) (f := f) (i := i)
    have hrb2 := RF.replL_le (nm := nm) (os := os) (f := f) (i := i + 1)
    rw [RF.replL_more hn] at hrb2
    obtain ⟨dx', c', pe', l', ws', ho', hc', hpe', hle', hfe'⟩ := hNd
    have ho3 := s _ _ ho'
    refine ⟨_, rfl, o, dx', _, rfl, ho3, o, dx', _, _, rfl, ho3, rfl, _, rfl, rfl, _, rfl, bcase (fun c1 => ?_) (fun c1 => ?_)⟩
    · have c1 : n.nm = nm := V.str.inj (of_decide_eq_true c1)
      refine ⟨_, rfl, .inl ⟨rfl, _, sqL_of e⟩, _, rfl, D, q0, _, _, rfl, rfl, e, s.tup hO, ?_, ?_⟩
      · rw [if_pos c1, List.length_append] at hrb2
        rw [sizeLine_eq]
        omega
      have kk : Keeps (fun l => N l ∧ l ≠ D) H3 (upd H3 D (.lst (rs ++ us))) := keeps_own e fun z => z.2 rfl
      refine ⟨rs ++ us, _, _, rfl, s.put nD, upd_same, ?_⟩
      rw [RF.replL_more hn, if_pos c1]
      exact (hrs.mono fun _ _ x => x.keeps kk).app (hos.mono fun _ _ x => (x.keeps s.keeps).keeps kk)
    have c1 : n.nm ≠ nm := fun z => of_decide_eq_false c1 (by rw [z])
    obtain ⟨d, rfl⟩ : ∃ d', d = d' + 1 := ⟨d - 1, by omega⟩
    refine ⟨_, rfl, o, dx', _, rfl, ho3, o, dx', _, _, rfl, ho3, rfl, _, rfl, _, rfl, fun l => N l ∧ l ≠ D, pe', q0, nm, ws', us, n.exc, os, rfl, s.tup hpe', hfe'.keeps s.keeps, s.tup hO, hos.mono fun _ _ x => x.keeps s.keeps, fun l nl => ⟨hN l (s.free nl), (fun z => by rw [z, e] at nl; cases nl)⟩, hndx, by omega, by omega, by omega, hne, fun H6 t us6 s6 ht hF6 => ?_⟩
    have e6 := s6 _ _ e
    have s36 := s.trans s6
    have ho6 := s36 _ _ ho'
    refine ⟨_, rfl, .inl ⟨rfl, _, sqL_of e6⟩, _, rfl, o, dx', _, rfl, ho6, o, dx', _, _, rfl, ho6, rfl, _, rfl, o, dx', _, rfl, ho6, o, dx', _, _, rfl, ho6, rfl, _, rfl, o, dx', _, rfl, ho6, o, dx', _, _, rfl, ho6, rfl, _, rfl, fun x dx nx ndx nex => ?_⟩
    have s7 : Same H6 (upd (upd H6 dx (.own x)) x (.ins R dx [])) := ((Same.refl H6).put ndx).put nx
    have l1 := name_len hok.nm
    have l2 := name_len hok.rl
    have hrz2 := RF.repl_size (nm := nm) (os := os) hndx
    have hrd2 := RF.repl_dep (nm := nm) (os := os) hndx
    refine ⟨fun l => N l ∧ l ≠ D, x, dx, c', t, n.nm, n.rl, us6, RF.repl nm os n.exc, rfl, upd_same, s7.tup ht, hF6.keeps s7.keeps, by omega, by omega, by omega, by omega, (fun e => by rw [hok.nm] at e; cases e), fun _ => ⟨(fun e => by rw [hok.rl] at e; cases e), fun _ H8 l sX8 hx8 nelx nl el => ⟨rfl, ?_⟩⟩⟩
    have s8 : Same H6 H8 := fun b' o' h => sX8 b' o' (fun e => by rw [e, nx] at h; cases h) (s7 _ _ h)
    have s38 := s6.trans s8
    have s08 := s.trans s38
    have e8 := s8 _ _ e6
    have fl : H6 l = none := s7.free nl
    have hnd8 : NdAt K C R (fun l => N l ∧ l ≠ D) H8 x (n.wE (RF.repl nm os n.exc)) := ⟨dx, c', t, l, us6, hx8, hc'.keeps (N := NoL) s08.keeps, s8.tup ht, ⟨⟨hN l (s36.free fl), (fun z => by rw [z, e6] at fl; cases fl)⟩, el⟩, hF6.keeps s8.keeps⟩
    refine ⟨D, _, _, rfl, rfl, e8, small1000 (by omega), ?_⟩
    have kk : Keeps (fun l => N l ∧ l ≠ D) H8 (upd H8 D (.lst (rs ++ [.ref x]))) := keeps_own e8 fun z => z.2 rfl
    refine ⟨rs ++ [.ref x], _, _, rfl, s08.put nD, upd_same, ?_⟩
    rw [RF.replL_more hn, if_neg c1]
    exact (hrs.mono fun _ _ x => (x.keeps s38.keeps).keeps kk).snoc ⟨x, rfl, hnd8.keeps kk⟩
  · rintro σ H3 ⟨rs, y4, y5, rfl, s, e, hrs⟩
    rw [hln, List.take_length, ← RF.repl_nodes] at hrs
    refine ⟨_, rfl, D, _, rfl, .inl ⟨sqL_of e, fun t nt => ?_⟩⟩
    have s4 : Same H3 (upd H3 t (.tup rs)) := (Same.refl H3).put nt
    exact q _ t rs (s.trans s4) sqT_new (ForAt.of (hrs.mono fun _ _ ⟨o, e, x⟩ => ⟨o, e, (x.re fun b xs h _ => h.1).keeps s4.keeps⟩))
end
end Sc
namespace Sc
open PySem PySem.Spec PyProof.Rows L2
theorem sc_is_new : FnScope ["word", "value"] ["word", "value"] (defScope s_is_new) := ⟨rfl, rfl, rfl, by decide +kernel, rfl, by decide +kernel, by decide +kernel⟩
theorem sc_is_amendment : FnScope ["value", "word", "name", "new"] ["value"] (defScope s_is_amendment) := ⟨rfl, rfl, rfl, by decide +kernel, rfl, by decide +kernel, by decide +kernel⟩
/-- what stands in an amendment -/
inductive IK where
  | str (x : Str)
  | non
  | els
  | cond
  | rule
  | tup
deriving DecidableEq
def ItAt (C R : Addr) (H : Hp) (v : V) : IK → Prop
  | .str x => v = .str x ∧ x.length ≤ sizeLine
  | .non => v = .non
  | .els => ∃ i, v = .int i
  | .cond => ∃ (o dx : Addr) (fs : List (Str × V)), v = .ref o ∧ H o = some (.ins C dx fs)
  | .rule => ∃ (o dx : Addr) (fs : List (Str × V)), v = .ref o ∧ H o = some (.ins R dx fs)
  | .tup => ∃ (a : Addr) (xs : List V), v = .ref a ∧ H a = some (.tup xs)
def tyK (C R : Addr) : IK → Value
  | .str _ => .type "str"
  | .non => .type "NoneType"
  | .els => .type "int"
  | .cond => .ref C
  | .rule => .ref R
  | .tup => .type "tuple"
def isNameK : IK → Bool
  | .str x => isName x
  | _ => false
def isNewK (word : Str) (k : IK) : Bool := if word = "ruling" then isNameK k else if word = "condition" then decide (k = .cond) else decide (k = .rule)
abbrev w1s : List Str := ["strike", "swap"]
abbrev w2s : List Str := ["add", "before", "ruling", "condition"]
abbrev w3s : List Str := ["add", "ruling"]
/-- is it an amendment -/
def isAm : List IK → Bool
  | .str x :: r => if x ∈ w1s then (match r with | [k] => isNameK k | _ => false) else if x ∈ w2s then (match r with | [k, l] => (isNameK k || (decide (k = .non) && decide (x ∈ w3s))) && isNewK x l | _ => false) else false
  | _ => false
/-- the kinds as isinstance sees them -/
structure KitA (K : PySem.W.Frag) (C R : Addr) : Prop where
  ic : IsiC K C
  ir : IsiC K R
  cc : Cls K C
  cr : Cls K R
  s : ∀ k, PySem.W.kitOne K (tyK C R k) (.type "str") = some (match k with | .str _ => true | _ => false)
  c : ∀ k, PySem.W.kitOne K (tyK C R k) (.ref C) = some (decide (k = .cond))
  r : ∀ k, PySem.W.kitOne K (tyK C R k) (.ref R) = some (decide (k = .rule))
section
variable {P : Program} {w : World} {K : PySem.W.Frag} {mg : Str → Option Value} {base : Heap} {C R : Addr}
theorem ItAt.ty {H : Hp} {v : V} {k : IK} (A : KitA K C R) (h : ItAt C R H v k) : TyX K H v (tyK C R k) := by
  cases k with
  | str x => obtain ⟨rfl, _⟩ := h; exact .base (.str x)
  | non => cases h; exact .base .non
  | els => obtain ⟨i, rfl⟩ := h; exact .base (.int i)
  | cond => obtain ⟨o, dx, fs, rfl, e⟩ := h; exact .base (.ins e A.cc A.ic.ca A.ic.cn A.ic.ct A.ic.cm)
  | rule => obtain ⟨o, dx, fs, rfl, e⟩ := h; exact .base (.ins e A.cr A.ir.ca A.ir.cn A.ir.ct A.ir.cm)
  | tup => obtain ⟨a, xs, rfl, e⟩ := h; exact .base (.tup e)
theorem ItAt.same {H H' : Hp} {v : V} {k : IK} (s : Same H H') (h : ItAt C R H v k) : ItAt C R H' v k := by
  cases k with
  | str x => exact h
  | non => exact h
  | els => exact h
  | cond => obtain ⟨o, dx, fs, e, h⟩ := h; exact ⟨o, dx, fs, e, s _ _ h⟩
  | rule => obtain ⟨o, dx, fs, e, h⟩ := h; exact ⟨o, dx, fs, e, s _ _ h⟩
  | tup => obtain ⟨a, xs, e, h⟩ := h; exact ⟨a, xs, e, s _ _ h⟩
theorem ItAt.none {H : Hp} {v : V} {k : IK} (h : ItAt C R H v k) (e : v = .non) : k = .non := by
  subst e
  cases k with
  | str x => exact nomatch h.1
  | non => rfl
  | els => obtain ⟨i, e⟩ := h; exact nomatch e
  | cond => obtain ⟨o, dx, fs, e, h⟩ := h; exact nomatch e
  | rule => obtain ⟨o, dx, fs, e, h⟩ := h; exact nomatch e
  | tup => obtain ⟨a, xs, e, h⟩ := h; exact nomatch e
def sp_is_name_no (C R : Addr) : Sp := fun vs H Q _ => ∃ (v : V) (k : IK), vs = [v] ∧ ItAt C R H v k ∧ (∀ x, k ≠ .str x) ∧ Q (.bl false) H
theorem ok_is_name_no {f : Addr} {fd : FuncData} (F : Fun K "is_name" "is_name" s_is_name f fd) (B : Blt mg) (G : GNames mg) (A : KitA K C R) : FnOk P w K mg base CX0 1 f fd ["value"] (sp_is_name_no C R) := by
  obtain ⟨⟨t1, m_LETTERS⟩, ⟨t2, m_LONGEST_NAME⟩⟩ := G
  refine F.ok sc_is_name (fun vs H Q E h => by obtain ⟨v, k, rfl, _⟩ := h; rfl) (fun cdv A' outer s H vs Q E hr h => ?_)
  obtain ⟨v, k, rfl, hk, hn, q⟩ := h
  refine ⟨_, (pss_cons (ps_if (PW.pt (pw_or (pt_not (pt_val (pe_callB call_isi (by rfl) B.b_isinstance PyProof.Rows.boot_isinstance (pa_cons (pv 0) (pa_cons (pe_bltn (v := .ty "str") (by rfl) B.b_str PyProof.Rows.boot_str rfl) pa_nil))))) (pw_or1 (pt_not (pt_chain op_le op_le pe_int (pe_callB call_len_str (by rfl) B.b_len PySem.boot_len (pa_cons (pv 0) pa_nil)) (pe_glob (v := .int 8) rfl m_LONGEST_NAME ⟨_, rfl⟩)))))) (pss_one (ps_ret pe_bl)) pss_nil)
      (pss_one (ps_ret (pe_callB (cr_all rfl) (by rfl) B.b_all PyProof.Rows.boot_all (pa_cons (pe_lc (own := [("letter", 1)]) (g := gName 1) (tt := tYes) rfl sc_is_name.nd (pi_str (pv 0)) (blkOk_by (own := [("letter", 1)]) (N := ["value", "letter"]) (sc := defScope s_is_name) (by decide +kernel)) (fun _ _ _ _ _ => (pg_name (i := 1) sc_is_name.nd rfl (Or.inl rfl))) (fun _ _ _ _ _ => pts_nil) (fun _ _ _ _ _ => (pe_.re (pe_cmpR op_in_sign (pv 1) (pe_glob (v := .str "abcdefghijklmnopqrstuvwxyz") rfl m_LETTERS ⟨_, rfl⟩) rfl) (by first | (dsimp only [Cx.blk]; done) | exact rfl)))) pa_nil))))), ?_⟩
  refine ⟨v, rfl, v, .ty "str", tyK C R k, .type "str", false, rfl, .ty _, hk.ty A, ?_, _, rfl, iteT q⟩
  refine (A.s k).trans ?_
  cases k with
  | str x => exact absurd rfl (hn x)
  | _ => rfl
def sp_is_nameK (C R : Addr) : Sp := fun vs H Q _ => ∃ (v : V) (k : IK), vs = [v] ∧ ItAt C R H v k ∧ ∀ H', Same H H' → Q (.bl (isNameK k)) H'
theorem ok_is_nameK {f : Addr} {fd : FuncData} (F : Fun K "is_name" "is_name" s_is_name f fd) (B : Blt mg) (G : GNames mg) (A : KitA K C R) : FnOk P w K mg base CX0 1 f fd ["value"] (sp_is_nameK C R) := by
  refine ((ok_is_name F B G).either (ok_is_name_no F B G A)).imp fun vs H Q E h => ?_
  obtain ⟨v, k, rfl, hk, q⟩ := h
  cases k with
  | str x => obtain ⟨rfl, hx⟩ := hk; exact .inl ⟨x, rfl, hx, q⟩
  | _ => exact .inr ⟨v, _, rfl, hk, (fun x z => nomatch z), q H (Same.refl H)⟩
def sp_is_new (C R : Addr) : Sp := fun vs H Q _ => ∃ (word : Str) (v : V) (k : IK), vs = [.str word, v] ∧ ItAt C R H v k ∧ ∀ H', Same H H' → Q (.bl (isNewK word k)) H'
theorem ok_is_new {f : Addr} {fd : FuncData} (F : Fun K "is_new" "is_new" s_is_new f fd) (B : Blt mg) (A : KitA K C R) (mC : mg "Condition" = some (.ref C)) (mR : mg "Rule" = some (.ref R)) (c_is_name : Cal P w K mg base CX0 1 "is_name" ["value"] (sp_is_nameK C R)) : FnOk P w K mg base CX0 2 f fd ["word", "value"] (sp_is_new C R) := by
  refine F.ok sc_is_new (fun vs H Q E h => by obtain ⟨wd, v, k, rfl, _⟩ := h; rfl) (fun cdv A' outer s H vs Q E hr h => ?_)
  obtain ⟨wd, v, k, rfl, hk, q⟩ := h
  refine ⟨_, (pss_cons (ps_if (pt_cmpR op_eq (pv 0) pe_str (nomark _)) (pss_one (ps_ret (pe_cal c_is_name (hr.mono (by decide)) (pa_cons (pv 1) pa_nil)))) pss_nil)
      (pss_cons (ps_if (pt_cmpR op_eq (pv 0) pe_str (nomark _)) (pss_one (ps_ret (pe_callB call_isi (by rfl) B.b_isinstance PyProof.Rows.boot_isinstance (pa_cons (pv 1) (pa_cons (pe_glob (v := .ref _) rfl mC rfl) pa_nil))))) pss_nil)
      (pss_one (ps_ret (pe_callB call_isi (by rfl) B.b_isinstance PyProof.Rows.boot_isinstance (pa_cons (pv 1) (pa_cons (pe_glob (v := .ref _) rfl mR rfl) pa_nil))))))), ?_⟩
  refine ⟨_, rfl, rfl, _, rfl, bcase (fun c1 => ?_) (fun c1 => ?_)⟩
  · have c1 : wd = "ruling" := V.str.inj (of_decide_eq_true c1)
    refine ⟨_, rfl, v, k, rfl, hk, fun H' s' => ?_⟩
    have h := q H' s'
    unfold isNewK at h
    rw [if_pos c1] at h
    exact h
  have c1 : ¬ wd = "ruling" := fun z => of_decide_eq_false c1 (by rw [z])
  refine ⟨_, rfl, rfl, _, rfl, bcase (fun c2 => ?_) (fun c2 => ?_)⟩
  · have c2 : wd = "condition" := V.str.inj (of_decide_eq_true c2)
    refine ⟨_, rfl, v, .ref C, tyK C R k, .ref C, _, rfl, .own C, hk.ty A, A.c k, ?_⟩
    have h := q H (Same.refl H)
    unfold isNewK at h
    rw [if_neg c1, if_pos c2] at h
    exact h
  have c2 : ¬ wd = "condition" := fun z => of_decide_eq_false c2 (by rw [z])
  refine ⟨_, rfl, v, .ref R, tyK C R k, .ref R, _, rfl, .own R, hk.ty A, A.r k, ?_⟩
  have h := q H (Same.refl H)
  unfold isNewK at h
  rw [if_neg c1, if_neg c2] at h
  exact h
def hdK (k : IK) (ws : List Str) : Bool := match k with | .str x => decide (x ∈ ws) | _ => false
theorem inV_no {x : V} (h : ∀ z, eqV (.str z) x = false) : ∀ ws : List Str, inV x (ws.map V.str) = false
  | [] => rfl
  | z :: r => by
    show (eqV (.str z) x || inV x (r.map V.str)) = false
    rw [h z, inV_no h r]
    rfl
theorem in_head {H : Hp} {v : V} {k : IK} {ws : List Str} {p : Addr} {Q : VK} (hk : ItAt C R H v k) (n : k ≠ .cond ∧ k ≠ .rule) (hw : SqT K H p (ws.map V.str)) (q : Q (.bl (hdK k ws)) H) : rIn K false v (.ref p) H Q ∨ rInNo K false v (.ref p) H Q := by
  cases k with
  | str x =>
    obtain ⟨rfl, _⟩ := hk
    exact .inl ⟨p, _, rfl, .inr hw, rfl, flat_strs _, by rw [if_neg Bool.false_ne_true, inV_str]; exact q⟩
  | non => cases hk; exact .inl ⟨p, _, rfl, .inr hw, rfl, flat_strs _, by rw [if_neg Bool.false_ne_true, inV_no fun _ => rfl]; exact q⟩
  | els => obtain ⟨i, rfl⟩ := hk; exact .inl ⟨p, _, rfl, .inr hw, rfl, flat_strs _, by rw [if_neg Bool.false_ne_true, inV_no fun _ => rfl]; exact q⟩
  | cond => exact absurd rfl n.1
  | rule => exact absurd rfl n.2
  | tup => obtain ⟨a, xs, rfl, e⟩ := hk; exact .inr ⟨a, p, xs, ws, rfl, rfl, sqT_of e, hw, q⟩
theorem nin_head {H : Hp} {v : V} {k : IK} {ws : List Str} {p : Addr} {Q : VK} (hk : ItAt C R H v k) (n : k ≠ .cond ∧ k ≠ .rule) (hw : SqT K H p (ws.map V.str)) (q : Q (.bl (!hdK k ws)) H) : rIn K true v (.ref p) H Q ∨ rInNo K true v (.ref p) H Q := by
  cases k with
  | str x =>
    obtain ⟨rfl, _⟩ := hk
    exact .inl ⟨p, _, rfl, .inr hw, rfl, flat_strs _, by rw [if_pos rfl, inV_str]; exact q⟩
  | non => cases hk; exact .inl ⟨p, _, rfl, .inr hw, rfl, flat_strs _, by rw [if_pos rfl, inV_no fun _ => rfl]; exact q⟩
  | els => obtain ⟨i, rfl⟩ := hk; exact .inl ⟨p, _, rfl, .inr hw, rfl, flat_strs _, by rw [if_pos rfl, inV_no fun _ => rfl]; exact q⟩
  | cond => exact absurd rfl n.1
  | rule => exact absurd rfl n.2
  | tup => obtain ⟨a, xs, rfl, e⟩ := hk; exact .inr ⟨a, p, xs, ws, rfl, rfl, sqT_of e, hw, q⟩
theorem hdK_true {k : IK} {ws : List Str} (h : hdK k ws = true) : ∃ x, k = .str x ∧ x ∈ ws := by
  cases k with
  | str x => exact ⟨x, rfl, of_decide_eq_true h⟩
  | _ => cases h
theorem isAm1 {x : Str} {ks : List IK} (h : x ∈ w1s) : isAm (.str x :: ks) = (match ks with | [k] => isNameK k | _ => false) := by
  show (if x ∈ w1s then _ else _) = _
  rw [if_pos h]
theorem isAm2 {x : Str} {ks : List IK} (h1 : ¬ x ∈ w1s) (h : x ∈ w2s) : isAm (.str x :: ks) = (match ks with | [k, l] => (isNameK k || (decide (k = .non) && decide (x ∈ w3s))) && isNewK x l | _ => false) := by
  show (if x ∈ w1s then _ else if x ∈ w2s then _ else _) = _
  rw [if_neg h1, if_pos h]
theorem isAm0 {k : IK} {ks : List IK} (h1 : hdK k w1s = false) (h2 : hdK k w2s = false) : isAm (k :: ks) = false := by
  cases k with
  | str x =>
    show (if x ∈ w1s then _ else if x ∈ w2s then _ else _) = _
    rw [if_neg (of_decide_eq_false h1), if_neg (of_decide_eq_false h2)]
  | _ => rfl
theorem tyT {H : Hp} {a : Addr} {xs : List V} (h : SqT K H a xs) : TyX K H (.ref a) (.type "tuple") := by
  rcases h with (h | ⟨o, h⟩) | ⟨o, its, n, hk, hc, _⟩
  · exact .base (.tup h)
  · exact .fTuple h
  · exact .kTuple hk hc
structure SqB (K : PySem.W.Frag) (H : Hp) (a : Addr) (xs : List V) : Prop where
  h : SqT K H a xs
theorem sqT_id {H : Hp} {a : Addr} {xs : List V} (h : SqT K H a xs) : SqT K H a xs := h
def sp_is_amendment (K : PySem.W.Frag) (C R : Addr) : Sp := fun vs H Q _ => ∃ (v : V), vs = [v] ∧ ((∃ t, TyX K H v t ∧ PySem.W.kitOne K t (.type "tuple") = some false ∧ Q (.bl false) H) ∨
  (∃ (a : Addr) (xs : List V) (ks : List IK), v = .ref a ∧ SqT K H a xs ∧ All2 (ItAt C R H) xs ks ∧ (∀ k ∈ ks.head?, k ≠ .cond ∧ k ≠ .rule) ∧ ∀ H', Same H H' → Q (.bl (isAm ks)) H'))
theorem all2_one {α β : Type} {S : α → β → Prop} {x : α} {ys : List β} (h : All2 S [x] ys) : ∃ y, ys = [y] ∧ S x y := by
  cases h with
  | cons h t => cases t; exact ⟨_, rfl, h⟩
theorem all2_two {α β : Type} {S : α → β → Prop} {x x' : α} {ys : List β} (h : All2 S [x, x'] ys) : ∃ y y', ys = [y, y'] ∧ S x y ∧ S x' y' := by
  cases h with
  | cons h t => cases t with
    | cons h' t' => cases t'; exact ⟨_, _, rfl, h, h'⟩
theorem len_two {α : Type} {xs : List α} (h : xs.length = 2) : ∃ x y, xs = [x, y] := by
  match xs, h with
  | [a, b], _ => exact ⟨a, b, rfl⟩
theorem am1_no {ks : List IK} {x : Str} (hx : x ∈ w1s) (h : ¬ ks.length = 1) : isAm (.str x :: ks) = false := by
  rw [isAm1 hx]
  match ks, h with
  | [_], h => exact absurd rfl h
  | [], _ => rfl
  | _ :: _ :: _, _ => rfl
theorem am2_no {ks : List IK} {x : Str} (h1 : ¬ x ∈ w1s) (hx : x ∈ w2s) (h : ¬ ks.length = 2) : isAm (.str x :: ks) = false := by
  rw [isAm2 h1 hx]
  match ks, h with
  | [_, _], h => exact absurd rfl h
  | [], _ => rfl
  | [_], _ => rfl
  | _ :: _ :: _ :: _, _ => rfl
theorem ok_is_amendment {f : Addr} {fd : FuncData} {w1 w2 w3 : Addr} (F : Fun K "is_amendment" "is_amendment" s_is_amendment f fd) (B : Blt mg) (A : KitA K C R) (m_W1 : mg "WORDS_WITH_NAME" = some (.ref w1)) (m_W2 : mg "WORDS_WITH_MORE" = some (.ref w2)) (m_W3 : mg "WORDS_FOR_BOOKS" = some (.ref w3))
    (h1 : ∀ H, SqT K H w1 (w1s.map V.str)) (h2 : ∀ H, SqT K H w2 (w2s.map V.str)) (h3 : ∀ H, SqT K H w3 (w3s.map V.str)) (kt : PySem.W.kitOne K (.type "tuple") (.type "tuple") = some true)
    (c_is_name : Cal P w K mg base CX0 1 "is_name" ["value"] (sp_is_nameK C R)) (c_is_new : Cal P w K mg base CX0 2 "is_new" ["word", "value"] (sp_is_new C R)) : FnOk P w K mg base CX0 3 f fd ["value"] (sp_is_amendment K C R) := by
  refine F.ok sc_is_amendment (fun vs H Q E h => by obtain ⟨v, rfl, _⟩ := h; rfl) (fun cdv A' outer s H vs Q E hr h => ?_)
  obtain ⟨v, rfl, h⟩ := h
  refine ⟨_, (pss_cons (ps_if (PW.pt (pw_or (pt_not (pt_val (pe_callB call_isi (by rfl) B.b_isinstance PyProof.Rows.boot_isinstance (pa_cons (pv 0) (pa_cons (pe_bltn (v := .ty "tuple") (by rfl) B.b_tuple PyProof.Rows.boot_tuple rfl) pa_nil))))) (pw_or1 (pt_not (pt_tru (pv 0) (by intro _; rfl)))))) (pss_one (ps_ret pe_bl)) pss_nil)
      (pss_cons (ps_if (pt_cmpR (op_or op_in_seq (op_in_no hr.units)) (pe_ix ix_tup (pv 0) pe_int (fun _ _ => rfl)) (pe_glob (v := .ref w1) rfl m_W1 rfl) rfl) (pss_one (ps_ret (pe_and (pe_cmpR op_eq (pe_callB call_len_seq (by rfl) B.b_len PySem.boot_len (pa_cons (pv 0) pa_nil)) pe_int (nomark _)) (pe_one (pe_cal c_is_name (hr.mono (by decide)) (pa_cons (pe_ix ix_tup (pv 0) pe_int (fun _ _ => rfl)) pa_nil)))))) pss_nil)
      (pss_cons (ps_if (PW.pt (pw_or (pt_cmpR (op_or op_notIn_seq (op_nin_no hr.units)) (pe_ix ix_tup (pv 0) pe_int (fun _ _ => rfl)) (pe_glob (v := .ref w2) rfl m_W2 rfl) rfl) (pw_or1 (pt_cmpR op_ne (pe_callB call_len_seq (by rfl) B.b_len PySem.boot_len (pa_cons (pv 0) pa_nil)) pe_int (nomark _))))) (pss_one (ps_ret pe_bl)) pss_nil)
      (pss_cons (ps_asg (pv 0) (pg_tup (by rfl) (pgs_cons (pg_name (i := 1) sc_is_amendment.nd rfl (Or.inl rfl)) (pgs_cons (pg_name (i := 2) sc_is_amendment.nd rfl (Or.inl rfl)) (pgs_cons (pg_name (i := 3) sc_is_amendment.nd rfl (Or.inl rfl)) pgs_nil)))))
      (pss_one (ps_ret (pe_and (pe_or (pe_cal c_is_name (hr.mono (by decide)) (pa_cons (pv 2) pa_nil)) (pe_one (pe_and (pe_cmpR op_isN (pv 2) pe_non (nomark _)) (pe_one (pe_cmpR op_in_seq (pv 1) (pe_glob (v := .ref w3) rfl m_W3 rfl) rfl))))) (pe_one (pe_cal c_is_new (hr.mono (by decide)) (pa_cons (pv 1) (pa_cons (pv 3) pa_nil))))))))))), ?_⟩
  rcases h with ⟨t, ht, hk, q⟩ | ⟨a, xs, ks, rfl, ha, hks, hhd, q⟩
  · exact ⟨v, rfl, v, .ty "tuple", t, .type "tuple", false, rfl, .ty _, ht, hk, _, rfl, iteT q⟩
  have hlen := hks.len
  refine ⟨_, rfl, _, .ty "tuple", .type "tuple", .type "tuple", true, rfl, .ty _, tyT ha, kt, _, rfl, iteF ?_⟩
  have hb : SqB K H a xs := ⟨ha⟩
  clear ha
  cases hks with
  | nil => exact ⟨_, rfl, _, .inr (.inl ⟨_, hb.h, rfl⟩), iteT (q H (Same.refl H))⟩
  | @cons v0 k0 xs ks h0 hks =>
    have hd0 := hhd k0 rfl
    refine ⟨_, rfl, _, .inr (.inl ⟨_, hb.h, rfl⟩), iteF ?_⟩
    refine ⟨_, rfl, a, _, 0, v0, rfl, rfl, hb.h, atI_nat (j := 0) rfl, in_head h0 hd0 (h1 _) ⟨_, rfl, bcase (fun c1 => ?_) (fun c1 => ?_)⟩⟩
    · obtain ⟨x, rfl, hx⟩ := hdK_true c1
      have hlen := hks.len
      refine ⟨_, rfl, a, _, rfl, .inr (hb.h), rfl, _, rfl, bcase (fun c2 => ?_) (fun c2 => ?_)⟩
      · have c2 := V.int.inj (of_decide_eq_true c2)
        have c2 : xs.length = 1 := by rw [List.length_cons] at c2; omega
        obtain ⟨v1, rfl⟩ := List.length_eq_one_iff.mp c2
        obtain ⟨k1, rfl, h1'⟩ := all2_one hks
        · refine ⟨_, rfl, a, _, 1, v1, rfl, rfl, hb.h, atI_nat (j := 1) rfl, v1, k1, rfl, h1', fun H' s' => ?_⟩
          have h := q H' s'
          rw [isAm1 hx] at h
          exact h
      · have h := q H (Same.refl H)
        have c2 : ¬ ks.length = 1 := fun z => of_decide_eq_false c2 (by rw [List.length_cons, hlen, z]; rfl)
        rw [am1_no hx c2] at h
        exact h
    · refine ⟨_, rfl, a, _, 0, v0, rfl, rfl, hb.h, atI_nat (j := 0) rfl, nin_head h0 hd0 (h2 _) ⟨_, rfl, bcase (fun c2 => ?_) (fun c2 => ?_)⟩⟩
      · have h := q H (Same.refl H)
        rw [isAm0 c1 ((Bool.not_eq_true' _).mp c2)] at h
        exact iteT h
      have c2 := (Bool.not_eq_false' _).mp c2
      obtain ⟨x, rfl, hx⟩ := hdK_true c2
      have hx1 : ¬ x ∈ w1s := of_decide_eq_false c1
      refine ⟨_, rfl, a, _, rfl, .inr (hb.h), rfl, _, rfl, bcase (fun c3 => ?_) (fun c3 => ?_)⟩
      · have c3 := of_decide_eq_false ((Bool.not_eq_true' _).mp c3)
        have h := q H (Same.refl H)
        have c3 : ¬ ks.length = 2 := fun z => c3 (by rw [List.length_cons, hks.len, z]; rfl)
        rw [am2_no hx1 hx c3] at h
        exact h
      · have c3 := V.int.inj (of_decide_eq_true ((Bool.not_eq_false' _).mp c3))
        have c3 : xs.length = 2 := by rw [List.length_cons] at c3; omega
        obtain ⟨v1, v2, rfl⟩ := len_two c3
        obtain ⟨k1, k2, rfl, h1', h2'⟩ := all2_two hks
        · obtain ⟨rfl, _⟩ := h0
          refine ⟨_, rfl, a, _, rfl, hb.h, rfl, _, _, rfl, _, _, rfl, _, _, rfl, rfl, ?_⟩
          refine ⟨_, rfl, v1, k1, rfl, h1', fun H1 s1 => ⟨_, rfl, bcase (fun c4 => ?_) (fun c4 => ?_)⟩⟩
          · refine ⟨_, rfl, bcase (fun _ => ?_) (fun z => nomatch z)⟩
            refine ⟨_, rfl, _, rfl, x, v2, k2, rfl, h2'.same s1, fun H3 s3 => ?_⟩
            have h := q H3 (s1.trans s3)
            rw [isAm2 hx1 hx] at h
            simp only [c4, Bool.true_or, Bool.true_and] at h
            exact h
          · refine ⟨_, rfl, rfl, _, rfl, bcase (fun c5 => ?_) (fun c5 => ?_)⟩
            · have c5 : k1 = .non := h1'.none (of_decide_eq_true c5)
              refine ⟨_, rfl, w3, _, rfl, .inr (h3 _), rfl, flat_strs _, _, rfl, ?_⟩
              rw [if_neg Bool.false_ne_true, inV_str]
              refine bcase (fun c6 => ?_) (fun c6 => ?_)
              · refine ⟨_, rfl, _, rfl, x, v2, k2, rfl, h2'.same s1, fun H3 s3 => ?_⟩
                have h := q H3 (s1.trans s3)
                rw [isAm2 hx1 hx] at h
                simp only [c4, decide_eq_true c5, c6, Bool.false_or, Bool.true_and] at h
                exact h
              · have h := q H1 s1
                rw [isAm2 hx1 hx] at h
                simp only [c4, c6, Bool.false_or, Bool.and_false, Bool.false_and] at h
                exact h
            · have c5 : ¬ k1 = .non := fun z => of_decide_eq_false c5 (by subst z; exact h1')
              refine ⟨_, rfl, ?_⟩
              have h := q H1 s1
              rw [isAm2 hx1 hx] at h
              simp only [c4, decide_eq_false c5, Bool.false_or, Bool.false_and] at h
              exact h
end
end Sc
namespace Sc
open PySem PySem.Spec PyProof.Rows L2
theorem sc_swapped : FnScope ["book", "name", "neighbor", "others"] ["book", "name"] (defScope s_swapped) := ⟨rfl, rfl, rfl, by decide +kernel, rfl, by decide +kernel, by decide +kernel⟩
theorem sc_Book___sub__ : FnScope ["self", "name"] ["self", "name"] (defScope s_Book___sub__) := ⟨rfl, rfl, rfl, by decide +kernel, rfl, by decide +kernel, by decide +kernel⟩
theorem sc_amended_rule : FnScope ["rule", "word", "new"] ["rule", "word", "new"] (defScope s_amended_rule) := ⟨rfl, rfl, rfl, by decide +kernel, rfl, by decide +kernel, by decide +kernel⟩
theorem sc_amended_book : FnScope ["book", "word", "new"] ["book", "word", "new"] (defScope s_amended_book) := ⟨rfl, rfl, rfl, by decide +kernel, rfl, by decide +kernel, by decide +kernel⟩
theorem sc_amended : FnScope ["book", "amendment", "word", "name", "others"] ["book", "amendment"] (defScope s_amended) := ⟨rfl, rfl, rfl, by decide +kernel, rfl, by decide +kernel, by decide +kernel⟩
/-! ### books that are amended -/
/-- a right book, not too large -/
structure BkOk (xs : List Str) (f : RF) (rl : Str) : Prop where
  tS : Txts xs
  lS : xs.length ≤ 60
  hb : firstBad xs = none
  hrl : isName rl = true
  nd : f.names.Nodup
  dep : f.dep ≤ 6
  size : f.size ≤ 100
  ev : f.every NdOk
namespace RF
/-- the rule behind, as a part of the whole -/
theorem nxt_part {nm : Str} {p : Nd → Prop} : ∀ {f : RF} {b : Nd}, nxt nm f = some b → f.every p → p b ∧ b.exc.every p ∧ b.exc.dep + 1 ≤ f.dep ∧ b.exc.size + 1 ≤ f.size
  | .nil, b, h, _ => nomatch h
  | .cons n hs fs rl exc rest, b, h, ⟨h1, h2, h3⟩ => by
    have h : (if n = nm then rest.nodes.head? else if nm ∈ exc.names then nxt nm exc else nxt nm rest) = some b := h
    show p b ∧ b.exc.every p ∧ b.exc.dep + 1 ≤ max (exc.dep + 1) rest.dep ∧ b.exc.size + 1 ≤ exc.size + 1 + rest.size
    split at h
    · have hb : b ∈ rest.nodes := List.mem_of_mem_head? h
      have h4 := every_nodes.mp h3 b hb
      have h5 := dep_mem rest b hb
      have h6 := size_mem rest b hb
      exact ⟨h4.1, h4.2, by omega, by omega⟩
    · split at h
      · obtain ⟨a1, a2, a3, a4⟩ := nxt_part h h2
        exact ⟨a1, a2, by omega, by omega⟩
      · obtain ⟨a1, a2, a3, a4⟩ := nxt_part h h3
        exact ⟨a1, a2, by omega, by omega⟩
theorem find_part {nm : Str} {p : Nd → Prop} : ∀ {f : RF} {b : Nd}, f.find nm = some b → f.every p → p b ∧ b.exc.every p ∧ b.exc.dep + 1 ≤ f.dep ∧ b.exc.size + 1 ≤ f.size
  | .nil, b, h, _ => nomatch h
  | .cons n hs fs rl exc rest, b, h, ⟨h1, h2, h3⟩ => by
    rw [find_cons] at h
    show p b ∧ b.exc.every p ∧ b.exc.dep + 1 ≤ max (exc.dep + 1) rest.dep ∧ b.exc.size + 1 ≤ exc.size + 1 + rest.size
    split at h
    · cases h
      exact ⟨h1, h2, by show exc.dep + 1 ≤ _; omega, by show exc.size + 1 ≤ _; omega⟩
    · cases e : exc.find nm with
      | some m =>
        rw [e] at h
        cases h
        obtain ⟨a1, a2, a3, a4⟩ := find_part e h2
        exact ⟨a1, a2, by omega, by omega⟩
      | none =>
        rw [e] at h
        obtain ⟨a1, a2, a3, a4⟩ := find_part (f := rest) h h3
        exact ⟨a1, a2, by omega, by omega⟩
theorem rowIn_size {nm : Str} : ∀ {f top : RF}, f.size ≤ top.size → (rowIn nm top f).size ≤ top.size
  | .nil, _, _ => Nat.le_refl _
  | .cons n hs fs rl exc rest, top, h => by
    have h : exc.size + 1 + rest.size ≤ top.size := h
    show (if n = nm then top else if nm ∈ exc.names then rowIn nm exc exc else rowIn nm top rest).size ≤ _
    split
    · exact Nat.le_refl _
    · split
      · have := rowIn_size (nm := nm) (f := exc) (top := exc) (Nat.le_refl _)
        omega
      · exact rowIn_size (by omega)
end RF
theorem NdOk.wE {n : Nd} {e : RF} (h : NdOk n) : NdOk (n.wE e) := ⟨h.nm, h.rl, h.c1, h.c2⟩
/-- out of its place -/
theorem BkOk.out {xs : List Str} {f : RF} {rl nm : Str} (h : BkOk xs f rl) : (RF.repl nm [] f).names.Nodup ∧ (RF.repl nm [] f).dep ≤ f.dep ∧ (RF.repl nm [] f).size ≤ f.size ∧ (RF.repl nm [] f).every NdOk := by
  refine ⟨?_, RF.repl_dep h.nd, RF.repl_size h.nd, ?_⟩
  · rw [RF.repl_upd h.nd]
    refine (RF.upd_names (fun n rest hn => ?_) h.nd).1
    rw [List.nodup_cons, List.nodup_append] at hn
    exact ⟨hn.2.2.1, fun x hx => List.mem_cons_of_mem _ (List.mem_append_right _ hx)⟩
  · rw [RF.repl_upd h.nd]
    exact RF.upd_every (fun n e hn => hn.wE) (fun n rest _ _ h3 => h3) h.ev
section
variable {P : Program} {w : World} {K : PySem.W.Frag} {mg : Str → Option Value} {base : Heap} {C R B CC CR CF CB CU CN CA : Addr}
/-- what comes of a book that is made -/
def Out (K : PySem.W.Frag) (C R B CB : Addr) (N : Addr → Prop) (xs : List Str) (f : RF) (rl : Str) (H : Hp) (Q : VK) (E : XK) : Prop := (∀ wd i, firstFault xs (f.pre 0) [] 0 0 = some (wd, i) → errWI CB wd (i : Nat) H E) ∧ (firstFault xs (f.pre 0) [] 0 0 = none → ∀ H' b, Same H H' → BookAt K C R B N H' b xs f rl → Q (.ref b) H')
theorem errWI.same {D : Addr} {wd : Str} {i : Int} {H H' : Hp} {E : XK} (s : Same H H') (h : errWI D wd i H E) : errWI D wd i H' E := fun H1 d s1 n => h H1 d (s.trans s1) n
theorem Out.same {N : Addr → Prop} {xs : List Str} {f : RF} {rl : Str} {H H' : Hp} {Q : VK} {E : XK} (s : Same H H') (h : Out K C R B CB N xs f rl H Q E) : Out K C R B CB N xs f rl H' Q E := ⟨fun wd i e => (h.1 wd i e).same s, fun e H1 b s1 hb => h.2 e H1 b (s.trans s1) hb⟩
theorem book_of {N : Addr → Prop} {H4 : Hp} {x dx a p : Addr} {xs : List Str} {rl : Str} {ws : List V} {f : RF} {Q : VK} {E : XK} (nx : H4 x = none) (ndx : H4 dx = none) (nex : dx ≠ x) (fr : ∀ l, H4 l = none → N l) (hA : SqT K H4 a (xs.map V.str)) (tS : Txts xs) (lS : xs.length ≤ 60) (hb : firstBad xs = none)
    (hP : SqT K H4 p ws) (hF : ForAt K C R N H4 f ws) (hd : f.dep ≤ 12) (hz : f.size ≤ 900) (hfit : f.Fit) (hrl : isName rl = true) (q : Out K C R B CB N xs f rl H4 Q E) :
    sp_book_init K C R B CF CB [.ref x, .ref a, .ref p, .str rl] (upd (upd H4 dx (.own x)) x (.ins B dx [])) (fun v H' => v = .non ∧ Q (.ref x) H') E := by
  have s5 : Same H4 (upd (upd H4 dx (.own x)) x (.ins B dx [])) := ((Same.refl H4).put ndx).put nx
  have ll := name_len hrl
  refine ⟨N, x, dx, a, p, xs, rl, ws, f, rfl, upd_same, s5.tup hA, tS, by omega, s5.tup hP, hF.keeps s5.keeps, hd, hz, hfit, by omega, (fun i ei => by rw [hb] at ei; cases ei), fun _ => ⟨(fun wd i ei _ => (q.1 wd i ei).same s5), fun hff => ⟨(fun e => by rw [hrl] at e; cases e), fun _ H6 l6 us2 sX6 hx6 nelx nl6 el hus6 => ⟨rfl, ?_⟩⟩⟩⟩
  have s6 : Same H4 H6 := fun b' o' h => sX6 b' o' (fun e => by rw [e, nx] at h; cases h) (s5 _ _ h)
  exact q.2 hff H6 x s6 ⟨dx, a, p, l6, ws, us2, hx6, s6.tup hA, s6.tup hP, hF.keeps s6.keeps, ⟨fr l6 (s5.free nl6), el⟩, hus6⟩
theorem flat_map {α : Type} {g : α → Str} : ∀ ns : List α, (ns.map fun n => V.str (g n)).all flatV = true
  | [] => rfl
  | _ :: r => flat_map r
theorem atI_2 {α : Type} {xs : List α} {v : α} (h : xs[xs.length - 2]? = some v) (l : 2 ≤ xs.length) : atI xs (-2) = some v := by
  unfold atI ixN
  rw [if_neg (by decide), if_pos (by omega)]
  show xs[((-2 : Int) + (xs.length : Int)).toNat]? = _
  rw [show ((-2 : Int) + (xs.length : Int)).toNat = xs.length - 2 by omega]
  exact h
/-- the row in which a rule stands -/
def tBeside (K : PySem.W.Frag) (C R B : Addr) : TS := fun D σ H => ∃ (N : Addr → Prop) (nm : Str) (f : RF) (o dx a p l Dp : Addr) (rl : Str) (ws us : List V), σ[0]? = some (some (.ref o)) ∧ σ[2]? = some (some (.ref Dp)) ∧ H o = some (.ins B dx (bookF a p rl l)) ∧ SqT K H p ws ∧ ForAt K C R N H f ws ∧ H Dp = some (.lst us) ∧ All2 (RefAt K C R N H) us (f.path nm) ∧ nm ∈ f.names ∧
  ∀ pr wr, SqT K H pr wr → ForAt K C R N H (RF.rowIn nm f f) wr → D.nx (σ.set 3 (some (.ref pr))) H
def sp_beside (K : PySem.W.Frag) (C R B CU CN : Addr) : Sp := fun vs H Q E => ∃ (N : Addr → Prop) (o : Addr) (xs : List Str) (f : RF) (rl nm : Str), vs = [.ref o, .str nm] ∧ BookAt K C R B N H o xs f rl ∧ BkOk xs f rl ∧
  (¬ nm ∈ f.names → ∀ H', Same H H' → E (.ref CU) none H') ∧ (nm ∈ f.names → (RF.nxt nm f = none → ∀ H', Same H H' → E (.ref CN) none H') ∧ ∀ b v H', RF.nxt nm f = some b → Same H H' → RefAt K C R N H' v b → Q v H')
theorem ok_beside {f : Addr} {fd : FuncData} (F : Fun K "next_beside" "next_beside" s_next_beside f fd) (Bl : Blt mg) (kR : RuleX P w K mg base R) (kB : BookX P w K mg base B) (e_UnknownRule : ErrMk0 K mg "UnknownRule" CU) (e_NoNeighbor : ErrMk0 K mg "NoNeighbor" CN)
    (c_path_to : Cal P w K mg base CX0 15 "path_to" ["rules", "name"] (sp_path K C R 12)) : FnOk P w K mg base (L2.CX P w) 16 f fd ["book", "name"] (sp_beside K C R B CU CN) := by
  refine F.okX sc_next_beside (fun vs H Q E h => by obtain ⟨N, o, xs, f, rl, nm, rfl, _⟩ := h; rfl) (fun cdv A outer s H vs Q E hr h => ?_)
  obtain ⟨N, o, xs, f, rl, nm, rfl, ⟨dx, a, p, l, ws, us, ho, hS, hP, hF, ⟨nl, hl⟩, hus⟩, hk, eu, h⟩ := h
  have hdep := hk.dep
  have hsz := hk.size
  refine ⟨_, (pss_cons (ps_set (i := 2) sc_next_beside.nd rfl (Or.inl rfl) (pe_cal c_path_to (hr.mono (by decide)) (pa_cons (pe_cprop kB.rules kB.cls (hr.mono (by decide)) (pv 0)) (pa_cons (pv 1) pa_nil))))
      (pss_cons (ps_if (pt_not (pt_tru (pv 2) (by intro _; rfl))) (pss_one (ps_raise rfl (takes_of rfl rfl rfl rfl) (pmk_err0 e_UnknownRule))) pss_nil)
      (pss_cons (wk_ps (tBeside K C R B) (ps_set (i := 3) sc_next_beside.nd rfl (Or.inl rfl) (pe_ifExp (pt_cmpR op_gt (pe_callB call_len_seq (by rfl) Bl.b_len PySem.boot_len (pa_cons (pv 2) pa_nil)) pe_int (nomark _)) (pe_cprop kR.exceptions kR.cls (hr.mono (by decide)) (pe_ix ix_list (pv 2) (pe_un un_neg pe_int) (fun _ _ => rfl))) (pe_cprop kB.rules kB.cls (hr.mono (by decide)) (pv 0)))) ?wb)
      (pss_cons (ps_set (i := 4) sc_next_beside.nd rfl (Or.inl rfl) (pe_op op_add (pe_bm PySem.F.plainAttrs_list PySem.F.slot_list_index PySem.F.type_list_index mt_index (pe_lc (own := [("rule", 5)]) (g := gName 5) (tt := tYes) rfl sc_next_beside.nd (pi_tup (pv 3)) (blkOk_by (own := [("rule", 5)]) (N := ["book", "name", "path", "beside", "place", "rule"]) (sc := defScope s_next_beside) (by decide +kernel)) (fun _ _ _ _ _ => (pg_name (i := 5) sc_next_beside.nd rfl (Or.inl rfl))) (fun _ _ _ _ _ => pts_nil) (fun _ _ _ _ _ => (pe_.re (pe_cprop kR.name kR.cls (hr.mono (by decide)) (pv 5)) (by first | (dsimp only [Cx.blk]; done) | exact rfl)))) (pa_cons (pv 1) pa_nil)) pe_int))
      (pss_cons (ps_if (pt_cmpR op_eq (pv 4) (pe_callB call_len_seq (by rfl) Bl.b_len PySem.boot_len (pa_cons (pv 3) pa_nil)) (nomark _)) (pss_one (ps_raise rfl (takes_of rfl rfl rfl rfl) (pmk_err0 e_NoNeighbor))) pss_nil)
      (pss_one (ps_ret (pe_ix ix_tup (pv 3) (pv 4) (fun _ _ => rfl))))))))), ?_⟩
  case wb =>
    rintro D σ H1 ⟨N, nm, f, o, dx, a, p, l, Dp, rl, ws, us, g0, g2, ho, hP, hF, eD, hu, hno, q⟩
    have hul := hu.len
    rcases RF.path_row f hno with ⟨h1, h2⟩ | ⟨q0, h1, h2, h3⟩
    · refine ⟨_, g2, Dp, _, rfl, .inl (sqL_of eD), _, _, rfl, rfl, _, rfl, bcase (fun c => absurd (of_decide_eq_true c) (by omega)) (fun _ => ?_)⟩
      refine ⟨_, g0, o, dx, _, rfl, ho, o, dx, _, _, rfl, ho, rfl, ?_⟩
      exact q p ws hP (by rw [h2]; exact hF)
    · obtain ⟨vq, hvq, oq, rfl, hq⟩ := hu.get' h1
      have hN := hq
      obtain ⟨dx', c', pe', l', ws', ho', hc', hpe', hle', hfe'⟩ := hN
      refine ⟨_, g2, Dp, _, rfl, .inl (sqL_of eD), _, _, rfl, rfl, _, rfl, bcase (fun _ => ?_) (fun c => absurd (of_decide_eq_false c) (by omega))⟩
      refine ⟨_, g2, 2, rfl, Dp, _, _, .ref oq, rfl, rfl, sqL_of eD, atI_2 (by rw [hul]; exact hvq) (by omega), oq, dx', _, rfl, ho', oq, dx', _, _, rfl, ho', rfl, ?_⟩
      exact q pe' ws' hpe' (by rw [h3]; exact hfe')
  refine ⟨_, rfl, o, dx, _, rfl, ho, o, dx, _, _, rfl, ho, rfl, _, rfl, N, p, nm, ws, f, rfl, hP, hF, by omega, by omega, fun H5 D us5 s5 eD hu => ?_⟩
  by_cases hno : nm ∈ f.names
  · have hpn := RF.path_some hno
    obtain ⟨en, q⟩ := h hno
    obtain ⟨u0, ur, rfl⟩ : ∃ u0 ur, us5 = u0 :: ur := by
      cases us5 with
      | nil => exact absurd (List.length_eq_zero_iff.mp hu.len.symm) hpn
      | cons x r => exact ⟨x, r, rfl⟩
    refine ⟨_, rfl, _, .inl ⟨_, sqL_of eD, rfl⟩, iteF ?_⟩
    refine ⟨N, nm, f, o, dx, a, p, l, D, rl, ws, _, rfl, rfl, s5 _ _ ho, s5.tup hP, hF.keeps s5.keeps, eD, hu, hno, fun pr wr hpr hFr => ?_⟩
    obtain ⟨k, n, _, hk1, hk2, hk3, hk4⟩ := RF.row_at (f := f) (top := f) (pre := []) hno rfl (fun _ h => nomatch h)
    have hrz := RF.rowIn_size (nm := nm) (f := f) (top := f) (Nat.le_refl _)
    generalize RF.rowIn nm f f = row at hFr hk1 hk3 hk4 hrz
    have hA := hFr.all
    have hln := hA.len
    have hrs := RF.nodes_le row
    refine ⟨_, rfl, pr, rfl, ⟨_, hpr⟩, fun D2 nD2 => lc_it walk_tup (fun i H' => Same H5 H' ∧ H' D2 = some (.lst ((row.nodes.take i).map fun n => V.str n.nm))) ⟨(Same.refl H5).put nD2, upd_same⟩ (fun _ _ _ h => h.1.tup hpr) ?_ ?_⟩
    · rintro i y H7 H8 hi ⟨s, e⟩ ⟨rfl, hy⟩
      obtain ⟨m, hm, o', rfl, hN⟩ := hA.get hy
      obtain ⟨dx', c', pe', l', ws', ho', _⟩ := hN.keeps (N := N) s.keeps
      refine ⟨rfl, yes_ ⟨_, rfl, o', dx', _, rfl, ho', o', dx', _, _, rfl, ho', rfl, ?_⟩⟩
      refine grow (acc := fun i => (row.nodes.take i).map fun n => V.str n.nm) nD2 s e ?_ ?_
      · rw [List.length_map, List.length_take]
        exact small1000 (by omega)
      · show List.map _ _ = List.map _ _ ++ _
        rw [take_more hm, List.map_append]
        rfl
    rintro H7 ⟨s7, e7⟩
    rw [hln, List.take_length] at e7
    have hks : (row.nodes.map fun n => V.str n.nm)[k]? = some (.str n.nm) := by rw [List.getElem?_map, hk1]; rfl
    refine ⟨.inl ⟨rfl, _, sqL_of e7⟩, _, rfl, D2, _, .str nm, k, .str n.nm, rfl, rfl, sqL_of e7, rfl, flat_map _, hks, by rw [hk2]; exact decide_eq_true rfl, fun m z hm hz => ?_, ?_⟩
    · rw [List.getElem?_map] at hz
      cases e : row.nodes[m]? with
      | none => rw [e] at hz; cases hz
      | some x => rw [e] at hz; cases hz; exact decide_eq_false (fun z => hk3 m x hm e z)
    refine ⟨_, _, rfl, rfl, _, rfl, _, rfl, pr, _, rfl, .inr (s7.tup hpr), rfl, _, rfl, bcase (fun c => ?_) (fun c => ?_)⟩
    · have c := V.int.inj (of_decide_eq_true c)
      refine en ?_ H7 (s5.trans s7)
      rw [hk4, List.getElem?_eq_none_iff, ← hln]
      omega
    · have c : ¬ ((k : Nat) : Int) + 1 = (wr.length : Nat) := fun z => of_decide_eq_false c (by show V.int ((k : Nat) + 1) = _; rw [z])
      obtain ⟨hkl, _⟩ := List.getElem?_eq_some_iff.mp hk1
      have hk1l : k + 1 < row.nodes.length := by omega
      obtain ⟨v, hv, hR⟩ := hA.at' hk1l
      refine ⟨_, rfl, _, rfl, pr, _, _, v, rfl, rfl, s7.tup hpr, atI_nat (j := k + 1) hv, ?_⟩
      exact q _ v H7 (by rw [hk4, List.getElem?_eq_getElem hk1l]) (s5.trans s7) (hR.keeps (N := N) s7.keeps)
  · rw [RF.path_no hno] at hu
    cases hu
    exact ⟨_, rfl, _, .inl ⟨_, sqL_of eD, rfl⟩, iteT (eu hno H5 s5)⟩
def sp_swapped (K : PySem.W.Frag) (C R B CB CU CN : Addr) : Sp := fun vs H Q E => ∃ (N : Addr → Prop) (o : Addr) (xs : List Str) (f : RF) (rl nm : Str), vs = [.ref o, .str nm] ∧ BookAt K C R B N H o xs f rl ∧ BkOk xs f rl ∧ (∀ l, H l = none → N l) ∧
  (¬ nm ∈ f.names → ∀ H', Same H H' → E (.ref CU) none H') ∧ (nm ∈ f.names → (RF.nxt nm f = none → ∀ H', Same H H' → E (.ref CN) none H') ∧ (RF.nxt nm f ≠ none → Out K C R B CB N xs (RF.upd nm Op.swap.G f) rl H Q E))
theorem ok_swapped {f : Addr} {fd : FuncData} (F : Fun K "swapped" "swapped" s_swapped f fd) (Bl : Blt mg) (kR : RuleX P w K mg base R) (kB : BookX P w K mg base B) (k_Book : Mkr P w K mg base 17 "Book" B ["self", "facts", "rules", "ruling"] (sp_book_init K C R B CF CB))
    (mIt : MethO P w K mg base (L2.CX P w) 3 B "__getitem__" ["self", "name"] (sp_getitem K C R B CU)) (c_replaced : Cal P w K mg base CX0 30 "replaced" ["rules", "name", "others"] (sp_replaced K C R 12)) (c_next_beside : Cal P w K mg base (L2.CX P w) 16 "next_beside" ["book", "name"] (sp_beside K C R B CU CN)) :
    FnOk P w K mg base (L2.CX P w) 32 f fd ["book", "name"] (sp_swapped K C R B CB CU CN) := by
  refine F.okX sc_swapped (fun vs H Q E h => by obtain ⟨N, o, xs, f, rl, nm, rfl, _⟩ := h; rfl) (fun cdv A outer s H vs Q E hr h => ?_)
  obtain ⟨N, o, xs, f, rl, nm, rfl, hB, hk, fr, eu, h⟩ := h
  refine ⟨_, (pss_cons (ps_set (i := 2) sc_swapped.nd rfl (Or.inl rfl) (pe_calX c_next_beside (hr.mono (by decide)) (takes_of rfl rfl rfl rfl) (pa_cons (pv 0) (pa_cons (pv 1) pa_nil))))
      (pss_cons (ps_set (i := 3) sc_swapped.nd rfl (Or.inl rfl) (pe_cal c_replaced (hr.mono (by decide)) (pa_cons (pe_cprop kB.rules kB.cls (hr.mono (by decide)) (pv 0)) (pa_cons (pe_cprop kR.name kR.cls (hr.mono (by decide)) (pv 2)) (pa_cons (pe_tup pa_nil) pa_nil)))))
      (pss_one (ps_ret (pe_mkX k_Book (hr.mono (by decide)) (takes_of rfl rfl rfl rfl) (pa_cons (pe_cprop kB.facts kB.cls (hr.mono (by decide)) (pv 0)) (pa_cons (pe_cal c_replaced (hr.mono (by decide)) (pa_cons (pv 3) (pa_cons (pv 1) (pa_cons (pe_tup (pa_cons (pv 2) (pa_cons (pe_ixM mIt (hr.mono (by decide)) (takes_of rfl rfl rfl rfl) (pv 0) (pv 1) (fun _ _ => rfl)) pa_nil))) pa_nil)))) (pa_cons (pe_cprop kB.ruling kB.cls (hr.mono (by decide)) (pv 0)) pa_nil)))))))), ?_⟩
  refine ⟨_, rfl, _, rfl, N, o, xs, f, rl, nm, rfl, hB, hk, eu, fun hno => ⟨fun e => (h hno).1 e, fun b v H1 hx s1 hb => ?_⟩⟩
  have q := (h hno).2 (by rw [hx]; exact fun z => nomatch z)
  obtain ⟨n0, hf0, hn0⟩ := RF.find_some hno
  obtain ⟨b1, b2, b3, b4⟩ := RF.nxt_part hx hk.ev
  obtain ⟨f1, f2, f3, f4⟩ := RF.find_part hf0 hk.ev
  obtain ⟨o1, o2, o3, o4⟩ := hk.out (nm := b.nm)
  have hdep := hk.dep
  have hsz := hk.size
  have hB1 := hB.keeps (N := N) s1.keeps
  obtain ⟨ob, rfl, hNb⟩ := hb
  have hb : RefAt K C R N H1 (.ref ob) b := ⟨ob, rfl, hNb⟩
  obtain ⟨dxb, cb, pb, lb, wsb, hob, _⟩ := id hNb
  obtain ⟨dx, a, p, l, ws, us, ho, hS, hP, hF, ⟨nl, hl⟩, hus⟩ := id hB1
  refine ⟨_, rfl, o, dx, _, rfl, ho, o, dx, _, _, rfl, ho, rfl, _, rfl, ob, dxb, _, rfl, hob, ob, dxb, _, _, rfl, hob, rfl, Nat.zero_le _, fun t0 n0' => ?_⟩
  have s2 : Same H1 (upd H1 t0 (.tup [])) := (Same.refl H1).put n0'
  have e2 : (upd H1 t0 (.tup [])) t0 = some (.tup []) := upd_same
  generalize upd H1 t0 (.tup []) = H2 at s2 e2 ⊢
  have e00 : (RF.ofNodes []).dep = 0 ∧ (RF.ofNodes []).size = 0 := ⟨rfl, rfl⟩
  refine ⟨N, p, t0, b.nm, ws, [], f, [], rfl, s2.tup hP, hF.keeps s2.keeps, sqT_of e2, .nil, (fun l nl => fr l ((s1.trans s2).free nl)), hk.nd, by omega, by omega, by omega, hk.ev, fun H3 p3 rs3 s3 hp3 hF3 => ?_⟩
  have s03 := (s1.trans s2).trans s3
  have hB3 := hB.keeps (N := N) s03.keeps
  have hb3 := hb.keeps (N := N) (s2.trans s3).keeps
  have ho3 := (s2.trans s3) _ _ ho
  clear hB hB1
  refine ⟨_, rfl, o, dx, _, rfl, ho3, o, dx, _, _, rfl, ho3, rfl, _, rfl, _, rfl, _, rfl, _, rfl, _, rfl, o, dx, _, rfl, ho3, N, o, xs, f, rl, nm, rfl, hB3, by omega, (fun n v hn hv => ?_), fun z => by rw [hf0] at z; cases z⟩
  rw [hf0] at hn
  cases hn
  refine ⟨(by show 2 ≤ sizeLine; decide), fun t4 n4 => ?_⟩
  have s4 : Same H3 (upd H3 t4 (.tup [.ref ob, v])) := (Same.refl H3).put n4
  have e4 : (upd H3 t4 (.tup [.ref ob, v])) t4 = some (.tup [.ref ob, v]) := upd_same
  generalize upd H3 t4 (.tup [.ref ob, v]) = H4 at s4 e4 ⊢
  have hds : (RF.ofNodes [b, n0]).dep ≤ 6 ∧ (RF.ofNodes [b, n0]).size ≤ 200 := by
    show max (b.exc.dep + 1) (max (n0.exc.dep + 1) 0) ≤ 6 ∧ b.exc.size + 1 + (n0.exc.size + 1 + 0) ≤ 200
    omega
  have s04 := s03.trans s4
  refine ⟨N, p3, t4, nm, rs3, [.ref ob, v], _, [b, n0], rfl, s4.tup hp3, hF3.keeps s4.keeps, sqT_of e4, .cons (hb3.keeps s4.keeps) (.cons (hv.keeps s4.keeps) .nil), (fun l nl => fr l (s04.free nl)), o1, by omega, by omega, by omega, o4, fun H5 p5 rs5 s5 hp5 hF5 => ?_⟩
  have hz5 := RF.repl_size (nm := nm) (os := [b, n0]) o1
  have hd5 := RF.repl_dep (nm := nm) (os := [b, n0]) o1
  have hev5 : (RF.repl nm [b, n0] (RF.repl b.nm [] f)).every NdOk := by
    rw [RF.repl_upd o1]
    refine RF.upd_every (fun n e hn => hn.wE) (fun n rest _ _ h3 => RF.put_every (fun m hm => ?_) h3) o4
    rcases List.mem_cons.mp hm with rfl | hm
    · exact ⟨b1, b2⟩
    · rw [List.mem_singleton.mp hm]
      exact ⟨f1, f2⟩
  have e5 : RF.repl nm [b, n0] (RF.repl b.nm [] f) = RF.upd nm Op.swap.G f := by
    rw [RF.repl_upd o1, RF.repl_upd hk.nd]
    exact RF.swap_two hk.nd hno hx hf0
  rw [e5] at hF5 hz5 hd5 hev5
  have s05 := s04.trans s5
  have ho5 := (s4.trans s5) _ _ ho3
  refine ⟨_, rfl, o, dx, _, rfl, ho5, o, dx, _, _, rfl, ho5, rfl, fun x dx2 nx ndx nex => ?_⟩
  exact book_of nx ndx nex (fun l nl => fr l (s05.free nl)) ((s2.trans (s3.trans (s4.trans s5))).tup hS) hk.tS hk.lS hk.hb hp5 hF5 (by omega) (by omega) (fit_of hev5) hk.hrl (q.same s05)
def sp_sub (K : PySem.W.Frag) (C R B CB CU : Addr) : Sp := fun vs H Q E => ∃ (N : Addr → Prop) (o : Addr) (xs : List Str) (f : RF) (rl nm : Str), vs = [.ref o, .str nm] ∧ BookAt K C R B N H o xs f rl ∧ BkOk xs f rl ∧ (∀ l, H l = none → N l) ∧
  (¬ nm ∈ f.names → ∀ H', Same H H' → E (.ref CU) none H') ∧ (nm ∈ f.names → Out K C R B CB N xs (RF.upd nm Op.strike.G f) rl H Q E)
theorem ok_sub {f : Addr} {fd : FuncData} (F : Fun K "__sub__" "Book.__sub__" s_Book___sub__ f fd) (Bl : Blt mg) (T : Cls K B) (n1 : NoAttr K B "_facts") (n2 : NoAttr K B "_rules") (n3 : NoAttr K B "_ruling") (k_Book : Mkr P w K mg base 17 "Book" B ["self", "facts", "rules", "ruling"] (sp_book_init K C R B CF CB))
    (mCon : MethO P w K mg base CX0 3 B "__contains__" ["self", "name"] (sp_contains K C R B)) (c_replaced : Cal P w K mg base CX0 30 "replaced" ["rules", "name", "others"] (sp_replaced K C R 12)) (e_UnknownRule : ErrMk0 K mg "UnknownRule" CU) :
    FnOk P w K mg base (L2.CX P w) 32 f fd ["self", "name"] (sp_sub K C R B CB CU) := by
  refine F.okX sc_Book___sub__ (fun vs H Q E h => by obtain ⟨N, o, xs, f, rl, nm, rfl, _⟩ := h; rfl) (fun cdv A outer s H vs Q E hr h => ?_)
  obtain ⟨N, o, xs, f, rl, nm, rfl, hB, hk, fr, eu, q⟩ := h
  refine ⟨_, (pss_cons (ps_if (pt_cmpR (op_ninM mCon (hr.mono (by decide))) (pv 1) (pv 0) rfl) (pss_one (ps_raise rfl (takes_of rfl rfl rfl rfl) (pmk_err0 e_UnknownRule))) pss_nil)
      (pss_one (ps_ret (pe_mkX k_Book (hr.mono (by decide)) (takes_of rfl rfl rfl rfl) (pa_cons (pe_fld (pv 0) rfl) (pa_cons (pe_cal c_replaced (hr.mono (by decide)) (pa_cons (pe_fld (pv 0) rfl) (pa_cons (pv 1) (pa_cons (pe_tup pa_nil) pa_nil)))) (pa_cons (pe_fld (pv 0) rfl) pa_nil))))))), ?_⟩
  have hdep := hk.dep
  have hsz := hk.size
  obtain ⟨dx, a, p, l, ws, us, ho, hS, hP, hF, ⟨nl, hl⟩, hus⟩ := id hB
  refine ⟨_, rfl, _, rfl, o, dx, _, rfl, ho, N, o, xs, f, rl, nm, rfl, hB, by omega, fun H1 s1 => ⟨_, rfl, _, rfl, ?_⟩⟩
  rw [if_pos rfl]
  by_cases hno : nm ∈ f.names
  · rw [decide_eq_true hno]
    have q := q hno
    have ho1 := s1 _ _ ho
    obtain ⟨o1, o2, o3, o4⟩ := hk.out (nm := nm)
    refine iteF ?_
    refine ⟨_, rfl, o, B, dx, _, _, rfl, ho1, T, n1, rfl, _, rfl, o, B, dx, _, _, rfl, ho1, T, n2, rfl, _, rfl, Nat.zero_le _, fun t0 n0' => ?_⟩
    have s2 : Same H1 (upd H1 t0 (.tup [])) := (Same.refl H1).put n0'
    have e2 : (upd H1 t0 (.tup [])) t0 = some (.tup []) := upd_same
    generalize upd H1 t0 (.tup []) = H2 at s2 e2 ⊢
    have s02 := s1.trans s2
    have e00 : (RF.ofNodes []).dep = 0 ∧ (RF.ofNodes []).size = 0 := ⟨rfl, rfl⟩
    refine ⟨N, p, t0, nm, ws, [], f, [], rfl, s02.tup hP, hF.keeps s02.keeps, sqT_of e2, .nil, (fun l nl => fr l (s02.free nl)), hk.nd, by omega, by omega, by omega, hk.ev, fun H3 p3 rs3 s3 hp3 hF3 => ?_⟩
    have s03 := s02.trans s3
    have e5 : RF.repl nm [] f = RF.upd nm Op.strike.G f := RF.repl_upd hk.nd
    rw [e5] at hF3 o2 o3 o4
    have ho3 := s03 _ _ ho
    refine ⟨_, rfl, o, B, dx, _, _, rfl, ho3, T, n3, rfl, fun x dx2 nx ndx nex => ?_⟩
    exact book_of nx ndx nex (fun l nl => fr l (s03.free nl)) (s03.tup hS) hk.tS hk.lS hk.hb hp3 hF3 (by omega) (by omega) (fit_of o4) hk.hrl (q.same s03)
  · rw [decide_eq_false hno]
    exact iteT (eu hno H1 s1)
/-- what stands in an amendment of a rule -/
def OpV (K : PySem.W.Frag) (C R : Addr) (N : Addr → Prop) (H : Hp) (word : Str) (new : V) : Op → Prop
  | .before m => word = "before" ∧ RefAt K C R N H new m
  | .add m => word = "add" ∧ RefAt K C R N H new m
  | .ruling z => word = "ruling" ∧ new = .str z
  | .cond hs gs => word = "condition" ∧ ∃ c, new = .ref c ∧ CondAt K C H c hs gs
  | _ => False
/-- a right amendment of a rule -/
def Op.Okk : Op → Prop
  | .before m => NdOk m ∧ m.exc.every NdOk ∧ m.exc.dep ≤ 5 ∧ m.exc.size ≤ 60
  | .add m => NdOk m ∧ m.exc.every NdOk ∧ m.exc.dep ≤ 5 ∧ m.exc.size ≤ 60
  | .ruling z => isName z = true
  | .cond hs gs => firstWrong hs [] = none ∧ firstWrong gs hs = none
  | _ => True
theorem OpV.keeps {N : Addr → Prop} {H H' : Hp} {word : Str} {new : V} {op : Op} (k : Keeps N H H') (h : OpV K C R N H word new op) : OpV K C R N H' word new op := by
  cases op with
  | before m => exact ⟨h.1, h.2.keeps k⟩
  | add m => exact ⟨h.1, h.2.keeps k⟩
  | ruling z => exact h
  | cond hs gs => obtain ⟨h1, c, e, h2⟩ := h; exact ⟨h1, c, e, h2.keeps k⟩
  | _ => exact h
def sp_arule (K : PySem.W.Frag) (C R : Addr) : Sp := fun vs H Q _ => ∃ (N : Addr → Prop) (o : Addr) (word : Str) (new : V) (n : Nd) (op : Op), vs = [.ref o, .str word, new] ∧ NdAt K C R N H o n ∧ OpV K C R N H word new op ∧ op.Okk ∧ NdOk n ∧ n.exc.every NdOk ∧ n.exc.dep ≤ 6 ∧ n.exc.size ≤ 100 ∧ (∀ l, H l = none → N l) ∧
  ∀ H' t us, Same H H' → H' t = some (.tup us) → All2 (RefAt K C R N H') us (op.news n) → Q (.ref t) H'
theorem rule_of {N : Addr → Prop} {H4 : Hp} {x dx c p : Addr} {nm rl : Str} {ws : List V} {exc : RF} {hs gs : List Str} {Q : VK} {E : XK} (nx : H4 x = none) (ndx : H4 dx = none) (nex : dx ≠ x) (fr : ∀ l, H4 l = none → N l) (hc : CondAt K C H4 c hs gs) (hP : SqT K H4 p ws) (hF : ForAt K C R N H4 exc ws)
    (hn : isName nm = true) (hrl : isName rl = true) (hd : exc.dep ≤ 12) (hz : exc.size ≤ 900) (q : ∀ H', Same H4 H' → NdAt K C R N H' x ⟨nm, hs, gs, rl, exc⟩ → Q .non H') :
    sp_rule_init K C R CR [.ref x, .str nm, .ref c, .str rl, .ref p] (upd (upd H4 dx (.own x)) x (.ins R dx [])) Q E := by
  have s5 : Same H4 (upd (upd H4 dx (.own x)) x (.ins R dx [])) := ((Same.refl H4).put ndx).put nx
  have l1 := name_len hn
  have l2 := name_len hrl
  refine ⟨N, x, dx, c, p, nm, rl, ws, exc, rfl, upd_same, s5.tup hP, hF.keeps s5.keeps, by omega, by omega, hd, hz, (fun e => by rw [hn] at e; cases e), fun _ => ⟨(fun e => by rw [hrl] at e; cases e), fun _ H8 l sX8 hx8 nelx nl el => ?_⟩⟩
  have s8 : Same H4 H8 := fun b' o' h => sX8 b' o' (fun e => by rw [e, nx] at h; cases h) (s5 _ _ h)
  exact q H8 s8 ⟨dx, c, p, l, ws, hx8, hc.keeps (N := NoL) s8.keeps, s8.tup hP, ⟨fr l (s5.free nl), el⟩, hF.keeps s8.keeps⟩
theorem ok_arule {f : Addr} {fd : FuncData} (F : Fun K "amended_rule" "amended_rule" s_amended_rule f fd) (Bl : Blt mg) (kR : RuleX P w K mg base R) (k_Rule : Mkr P w K mg base 16 "Rule" R ["self", "name", "condition", "ruling", "exceptions"] (sp_rule_init K C R CR)) :
    FnOk P w K mg base CX0 18 f fd ["rule", "word", "new"] (sp_arule K C R) := by
  refine F.ok sc_amended_rule (fun vs H Q E h => by obtain ⟨N, o, word, new, n, op, rfl, _⟩ := h; rfl) (fun cdv A outer s H vs Q E hr h => ?_)
  obtain ⟨N, o, word, new, n, op, rfl, hN, hop, hok, hn, hne, hd, hz, fr, q⟩ := h
  obtain ⟨dx, c, pe, l, ws, ho, hc, hpe, hl, hfe⟩ := id hN
  have hR : RefAt K C R N H (.ref o) n := ⟨o, rfl, hN⟩
  refine ⟨_, (pss_cons (ps_if (pt_cmpR op_eq (pv 1) pe_str (nomark _)) (pss_one (ps_ret (pe_tup (pa_cons (pv 2) (pa_cons (pv 0) pa_nil))))) pss_nil)
      (pss_cons (ps_if (pt_cmpR op_eq (pv 1) pe_str (nomark _)) (pss_one (ps_ret (pe_tup (pa_cons (pe_mkN k_Rule (hr.mono (by decide)) (pa_cons (pe_cprop kR.name kR.cls (hr.mono (by decide)) (pv 0)) (pa_cons (pe_cprop kR.condition kR.cls (hr.mono (by decide)) (pv 0)) (pa_cons (pv 2) (pa_cons (pe_cprop kR.exceptions kR.cls (hr.mono (by decide)) (pv 0)) pa_nil))))) pa_nil)))) pss_nil)
      (pss_cons (ps_if (pt_cmpR op_eq (pv 1) pe_str (nomark _)) (pss_one (ps_ret (pe_tup (pa_cons (pe_mkN k_Rule (hr.mono (by decide)) (pa_cons (pe_cprop kR.name kR.cls (hr.mono (by decide)) (pv 0)) (pa_cons (pv 2) (pa_cons (pe_cprop kR.ruling kR.cls (hr.mono (by decide)) (pv 0)) (pa_cons (pe_cprop kR.exceptions kR.cls (hr.mono (by decide)) (pv 0)) pa_nil))))) pa_nil)))) pss_nil)
      (pss_one (ps_ret (pe_tup (pa_cons (pe_mkN k_Rule (hr.mono (by decide)) (pa_cons (pe_cprop kR.name kR.cls (hr.mono (by decide)) (pv 0)) (pa_cons (pe_cprop kR.condition kR.cls (hr.mono (by decide)) (pv 0)) (pa_cons (pe_cprop kR.ruling kR.cls (hr.mono (by decide)) (pv 0)) (pa_cons (pe_op op_catA (pe_cprop kR.exceptions kR.cls (hr.mono (by decide)) (pv 0)) (pe_tup (pa_cons (pv 2) pa_nil))) pa_nil))))) pa_nil))))))), ?_⟩
  cases op with
  | strike => exact hop.elim
  | swap => exact hop.elim
  | before m =>
    obtain ⟨rfl, hm⟩ := hop
    refine ⟨_, rfl, rfl, _, rfl, iteT ?_⟩
    refine ⟨_, rfl, _, rfl, (by show 2 ≤ sizeLine; decide), fun t nt => ?_⟩
    have s1 : Same H (upd H t (.tup [new, .ref o])) := (Same.refl H).put nt
    exact q _ t _ s1 upd_same (.cons (hm.keeps s1.keeps) (.cons (hR.keeps s1.keeps) .nil))
  | ruling z =>
    obtain ⟨rfl, rfl⟩ := hop
    refine ⟨_, rfl, rfl, _, rfl, iteF ⟨_, rfl, rfl, _, rfl, iteT ?_⟩⟩
    refine ⟨_, rfl, o, dx, _, rfl, ho, o, dx, _, _, rfl, ho, rfl, _, rfl, o, dx, _, rfl, ho, o, dx, _, _, rfl, ho, rfl, _, rfl, _, rfl, o, dx, _, rfl, ho, o, dx, _, _, rfl, ho, rfl, fun x dx2 nx ndx nex => ?_⟩
    refine rule_of nx ndx nex fr hc hpe hfe hn.nm hok (by omega) (by omega) fun H5 s5 h5 => ?_
    refine ⟨rfl, (by show 1 ≤ sizeLine; decide), fun t nt => ?_⟩
    have s6 : Same H5 (upd H5 t (.tup [.ref x])) := (Same.refl H5).put nt
    exact q _ t _ (s5.trans s6) upd_same (.one ⟨x, rfl, h5.keeps s6.keeps⟩)
  | cond hs gs =>
    obtain ⟨rfl, cn, rfl, hcn⟩ := hop
    refine ⟨_, rfl, rfl, _, rfl, iteF ⟨_, rfl, rfl, _, rfl, iteF ⟨_, rfl, rfl, _, rfl, iteT ?_⟩⟩⟩
    refine ⟨_, rfl, o, dx, _, rfl, ho, o, dx, _, _, rfl, ho, rfl, _, rfl, _, rfl, o, dx, _, rfl, ho, o, dx, _, _, rfl, ho, rfl, _, rfl, o, dx, _, rfl, ho, o, dx, _, _, rfl, ho, rfl, fun x dx2 nx ndx nex => ?_⟩
    refine rule_of nx ndx nex fr hcn hpe hfe hn.nm hn.rl (by omega) (by omega) fun H5 s5 h5 => ?_
    refine ⟨rfl, (by show 1 ≤ sizeLine; decide), fun t nt => ?_⟩
    have s6 : Same H5 (upd H5 t (.tup [.ref x])) := (Same.refl H5).put nt
    exact q _ t _ (s5.trans s6) upd_same (.one ⟨x, rfl, h5.keeps s6.keeps⟩)
  | add m =>
    obtain ⟨rfl, hm⟩ := hop
    obtain ⟨m1, m2, m3, m4⟩ := hok
    refine ⟨_, rfl, rfl, _, rfl, iteF ⟨_, rfl, rfl, _, rfl, iteF ⟨_, rfl, rfl, _, rfl, iteF ?_⟩⟩⟩
    refine ⟨_, rfl, o, dx, _, rfl, ho, o, dx, _, _, rfl, ho, rfl, _, rfl, o, dx, _, rfl, ho, o, dx, _, _, rfl, ho, rfl, _, rfl, o, dx, _, rfl, ho, o, dx, _, _, rfl, ho, rfl, _, rfl, o, dx, _, rfl, ho, o, dx, _, _, rfl, ho, rfl, _, rfl, (by show 1 ≤ sizeLine; decide), fun t nt => ?_⟩
    have s1 : Same H (upd H t (.tup [new])) := (Same.refl H).put nt
    have e1 : (upd H t (.tup [new])) t = some (.tup [new]) := upd_same
    generalize upd H t (.tup [new]) = H1 at s1 e1 ⊢
    have hln := hfe.len
    have hnl := RF.nodes_le n.exc
    refine cat_any (s1.tup hpe) (sqT_of e1) (by rw [hln, sizeLine_eq]; show _ + 1 ≤ _; omega) fun p2 H2 s2 hp2 => ?_
    have s02 := s1.trans s2
    intro x dx2 nx ndx nex
    have hF2 : ForAt K C R N H2 (n.exc.snoc m) (ws ++ [new]) := ForAt.of (by rw [RF.snoc_nodes]; exact (hfe.keeps s02.keeps).all.snoc (hm.keeps s02.keeps))
    have hzs := RF.snoc_size n.exc m
    have hds := RF.snoc_dep n.exc m
    refine rule_of nx ndx nex (fun l nl => fr l (s02.free nl)) (hc.keeps (N := NoL) s02.keeps) hp2 hF2 hn.nm hn.rl (by omega) (by omega) fun H5 s5 h5 => ?_
    refine ⟨rfl, (by show 1 ≤ sizeLine; decide), fun t nt => ?_⟩
    have s6 : Same H5 (upd H5 t (.tup [.ref x])) := (Same.refl H5).put nt
    exact q _ t _ ((s02.trans s5).trans s6) upd_same (.one ⟨x, rfl, h5.keeps s6.keeps⟩)
/-! ### amendments as data -/
inductive Am where
  | rul0 (z : Str)
  | add0 (m : Nd)
  | rule (nm : Str) (op : Op)
def Am.Okk : Am → Prop
  | .rul0 z => isName z = true
  | .add0 m => (Op.add m).Okk
  | .rule nm op => isName nm = true ∧ op.Okk
/-- a tuple with a rule or a condition -/
def RealAt (K : PySem.W.Frag) (C R : Addr) (N : Addr → Prop) (H : Hp) (v : V) : Am → Prop
  | .rul0 z => ∃ t, v = .ref t ∧ SqT K H t [.str "ruling", .non, .str z]
  | .add0 m => ∃ t r, v = .ref t ∧ SqT K H t [.str "add", .non, r] ∧ RefAt K C R N H r m
  | .rule nm .strike => ∃ t, v = .ref t ∧ SqT K H t [.str "strike", .str nm]
  | .rule nm .swap => ∃ t, v = .ref t ∧ SqT K H t [.str "swap", .str nm]
  | .rule nm op => ∃ t word new, v = .ref t ∧ SqT K H t [.str word, .str nm, new] ∧ OpV K C R N H word new op
def Am.aft (f : RF) (rl : Str) : Am → RF × Str
  | .rul0 z => (f, z)
  | .add0 m => (f.snoc m, rl)
  | .rule nm op => (RF.upd nm op.G f, rl)
/-- what comes of it -/
def AmOut (K : PySem.W.Frag) (C R B CB CU CN : Addr) (N : Addr → Prop) (xs : List Str) (f : RF) (rl : Str) (am : Am) (H : Hp) (Q : VK) (E : XK) : Prop :=
  match am with
  | .rule nm op => (¬ nm ∈ f.names → ∀ H', Same H H' → E (.ref CU) none H') ∧ (nm ∈ f.names → (op = .swap → RF.nxt nm f = none → ∀ H', Same H H' → E (.ref CN) none H') ∧ ((op = .swap → RF.nxt nm f ≠ none) → Out K C R B CB N xs (RF.upd nm op.G f) rl H Q E))
  | am => Out K C R B CB N xs (am.aft f rl).1 (am.aft f rl).2 H Q E
def sp_amended_book (K : PySem.W.Frag) (C R B CB : Addr) : Sp := fun vs H Q E => ∃ (N : Addr → Prop) (o : Addr) (xs : List Str) (f : RF) (rl word : Str) (new : V), vs = [.ref o, .str word, new] ∧ BookAt K C R B N H o xs f rl ∧ BkOk xs f rl ∧ (∀ l, H l = none → N l) ∧
  ((word = "ruling" ∧ ∃ z, new = .str z ∧ isName z = true ∧ Out K C R B CB N xs f z H Q E) ∨ (word = "add" ∧ ∃ m, RefAt K C R N H new m ∧ (Op.add m).Okk ∧ Out K C R B CB N xs (f.snoc m) rl H Q E))
theorem ok_amended_book {f : Addr} {fd : FuncData} (F : Fun K "amended_book" "amended_book" s_amended_book f fd) (Bl : Blt mg) (kB : BookX P w K mg base B) (k_Book : Mkr P w K mg base 17 "Book" B ["self", "facts", "rules", "ruling"] (sp_book_init K C R B CF CB)) :
    FnOk P w K mg base (L2.CX P w) 19 f fd ["book", "word", "new"] (sp_amended_book K C R B CB) := by
  refine F.okX sc_amended_book (fun vs H Q E h => by obtain ⟨N, o, xs, f, rl, word, new, rfl, _⟩ := h; rfl) (fun cdv A outer s H vs Q E hr h => ?_)
  obtain ⟨N, o, xs, f, rl, word, new, rfl, ⟨dx, a, p, l, ws, us, ho, hS, hP, hF, ⟨nl, hl⟩, hus⟩, hk, fr, h⟩ := h
  have hdep := hk.dep
  have hsz := hk.size
  refine ⟨_, (pss_cons (ps_if (pt_cmpR op_eq (pv 1) pe_str (nomark _)) (pss_one (ps_ret (pe_mkX k_Book (hr.mono (by decide)) (takes_of rfl rfl rfl rfl) (pa_cons (pe_cprop kB.facts kB.cls (hr.mono (by decide)) (pv 0)) (pa_cons (pe_cprop kB.rules kB.cls (hr.mono (by decide)) (pv 0)) (pa_cons (pv 2) pa_nil)))))) pss_nil)
      (pss_one (ps_ret (pe_mkX k_Book (hr.mono (by decide)) (takes_of rfl rfl rfl rfl) (pa_cons (pe_cprop kB.facts kB.cls (hr.mono (by decide)) (pv 0)) (pa_cons (pe_op op_catA (pe_cprop kB.rules kB.cls (hr.mono (by decide)) (pv 0)) (pe_tup (pa_cons (pv 2) pa_nil))) (pa_cons (pe_cprop kB.ruling kB.cls (hr.mono (by decide)) (pv 0)) pa_nil))))))), ?_⟩
  rcases h with ⟨rfl, z, rfl, hz1, q⟩ | ⟨rfl, m, hm, ⟨m1, m2, m3, m4⟩, q⟩
  · refine ⟨_, rfl, rfl, _, rfl, iteT ?_⟩
    refine ⟨_, rfl, o, dx, _, rfl, ho, o, dx, _, _, rfl, ho, rfl, _, rfl, o, dx, _, rfl, ho, o, dx, _, _, rfl, ho, rfl, _, rfl, fun x dx2 nx ndx nex => ?_⟩
    exact book_of nx ndx nex fr hS hk.tS hk.lS hk.hb hP hF (by omega) (by omega) (fit_of hk.ev) hz1 q
  · refine ⟨_, rfl, rfl, _, rfl, iteF ?_⟩
    refine ⟨_, rfl, o, dx, _, rfl, ho, o, dx, _, _, rfl, ho, rfl, _, rfl, o, dx, _, rfl, ho, o, dx, _, _, rfl, ho, rfl, _, rfl, (by show 1 ≤ sizeLine; decide), fun t nt => ?_⟩
    have s1 : Same H (upd H t (.tup [new])) := (Same.refl H).put nt
    have e1 : (upd H t (.tup [new])) t = some (.tup [new]) := upd_same
    generalize upd H t (.tup [new]) = H1 at s1 e1 ⊢
    have hln := hF.len
    have hnl := RF.nodes_le f
    refine cat_any (s1.tup hP) (sqT_of e1) (by rw [hln, sizeLine_eq]; show _ + 1 ≤ _; omega) fun p2 H2 s2 hp2 => ?_
    have s02 := s1.trans s2
    have ho2 := s02 _ _ ho
    refine ⟨_, rfl, o, dx, _, rfl, ho2, o, dx, _, _, rfl, ho2, rfl, fun x dx2 nx ndx nex => ?_⟩
    have hF2 : ForAt K C R N H2 (f.snoc m) (ws ++ [new]) := ForAt.of (by rw [RF.snoc_nodes]; exact (hF.keeps s02.keeps).all.snoc (hm.keeps s02.keeps))
    have hzs := RF.snoc_size f m
    have hds := RF.snoc_dep f m
    exact book_of nx ndx nex (fun l nl => fr l (s02.free nl)) (s02.tup hS) hk.tS hk.lS hk.hb hp2 hF2 (by omega) (by omega) (fit_of (RF.snoc_every hk.ev m1 m2)) hk.hrl (q.same s02)
def sp_amended (K : PySem.W.Frag) (C R B CB CU CN : Addr) : Sp := fun vs H Q E => ∃ (N : Addr → Prop) (o : Addr) (xs : List Str) (f : RF) (rl : Str) (v : V) (am : Am), vs = [.ref o, v] ∧ BookAt K C R B N H o xs f rl ∧ BkOk xs f rl ∧ (∀ l, H l = none → N l) ∧ RealAt K C R N H v am ∧ am.Okk ∧ AmOut K C R B CB CU CN N xs f rl am H Q E
/-- what stands in place of a rule is no deeper than the rule stood and what it holds -/
theorem RF.repl_dep1 {nm : Str} {os : List Nd} : ∀ {f : RF}, (RF.repl nm os f).dep ≤ max f.dep (f.dep - 1 + (RF.ofNodes os).dep)
  | .nil => Nat.zero_le _
  | .cons n hs fs rl exc rest => by
    have h2 := RF.repl_dep1 (nm := nm) (os := os) (f := rest)
    show (if n = nm then RF.put os (RF.repl nm os rest) else RF.cons n hs fs rl (RF.repl nm os exc) (RF.repl nm os rest)).dep ≤ max (max (exc.dep + 1) rest.dep) (max (exc.dep + 1) rest.dep - 1 + _)
    by_cases c : n = nm
    · rw [if_pos c, RF.put_dep]
      omega
    · rw [if_neg c]
      show max ((RF.repl nm os exc).dep + 1) (RF.repl nm os rest).dep ≤ _
      cases exc with
      | nil =>
        show max (0 + 1) (RF.repl nm os rest).dep ≤ max (max (0 + 1) rest.dep) (max (0 + 1) rest.dep - 1 + _)
        omega
      | cons a b c d e g =>
        have h1 := RF.repl_dep1 (nm := nm) (os := os) (f := .cons a b c d e g)
        have h3 : 1 ≤ (RF.cons a b c d e g).dep := by show 1 ≤ max (e.dep + 1) g.dep; omega
        omega
theorem news_dims {op : Op} {n : Nd} {f : RF} (h : op.Okk) (h1 : n.exc.dep + 1 ≤ 6) (h2 : n.exc.size + 1 ≤ 100) : (RF.ofNodes (op.news n)).dep ≤ 7 ∧ (RF.ofNodes (op.news n)).size ≤ 200 := by
  cases op with
  | strike => exact ⟨Nat.zero_le _, Nat.zero_le _⟩
  | swap => show max (n.exc.dep + 1) 0 ≤ 7 ∧ n.exc.size + 1 + 0 ≤ 200; omega
  | before m =>
    obtain ⟨_, _, m3, m4⟩ := h
    show max (m.exc.dep + 1) (max (n.exc.dep + 1) 0) ≤ 7 ∧ m.exc.size + 1 + (n.exc.size + 1 + 0) ≤ 200
    omega
  | add m =>
    obtain ⟨_, _, m3, m4⟩ := h
    have a1 := RF.snoc_dep n.exc m
    have a2 := RF.snoc_size n.exc m
    show max ((n.exc.snoc m).dep + 1) 0 ≤ 7 ∧ (n.exc.snoc m).size + 1 + 0 ≤ 200
    omega
  | ruling z => show max (n.exc.dep + 1) 0 ≤ 7 ∧ n.exc.size + 1 + 0 ≤ 200; omega
  | cond hs gs => show max (n.exc.dep + 1) 0 ≤ 7 ∧ n.exc.size + 1 + 0 ≤ 200; omega
theorem news_every {op : Op} {n : Nd} (h : op.Okk) (h1 : NdOk n) (h2 : n.exc.every NdOk) : ∀ m ∈ op.news n, NdOk m ∧ m.exc.every NdOk := by
  intro x hx
  cases op with
  | strike => exact nomatch hx
  | swap => rw [List.mem_singleton.mp hx]; exact ⟨h1, h2⟩
  | before m =>
    rcases List.mem_cons.mp hx with rfl | hx
    · exact ⟨h.1, h.2.1⟩
    · rw [List.mem_singleton.mp hx]; exact ⟨h1, h2⟩
  | add m => rw [List.mem_singleton.mp hx]; exact ⟨h1.wE, RF.snoc_every h2 h.1 h.2.1⟩
  | ruling z => rw [List.mem_singleton.mp hx]; exact ⟨⟨h1.nm, h, h1.c1, h1.c2⟩, h2⟩
  | cond hs gs => rw [List.mem_singleton.mp hx]; exact ⟨⟨h1.nm, h1.rl, h.1, h.2⟩, h2⟩
theorem opV_kind {N : Addr → Prop} {H : Hp} {word nm : Str} {new : V} {op : Op} (h : OpV K C R N H word new op) (hok : op.Okk) (hn : isName nm = true) : ∃ kn, ItAt C R H new kn ∧ isAm [.str word, .str nm, kn] = true ∧ word ≠ "strike" ∧ word ≠ "swap" ∧ op ≠ .swap := by
  have h2 : ∀ {x : Str} {k : IK}, ¬ x ∈ w1s → x ∈ w2s → isNewK x k = true → isAm [.str x, .str nm, k] = true := fun {x k} a b c => by
    rw [isAm2 a b]
    show ((isName nm || _) && isNewK x k) = true
    rw [hn, c]
    rfl
  cases op with
  | strike => exact h.elim
  | swap => exact h.elim
  | before m =>
    obtain ⟨rfl, o, rfl, dx, c, p, l, ws, ho, _⟩ := h
    exact ⟨.rule, ⟨o, dx, _, rfl, ho⟩, h2 (by decide) (by decide) (by decide +kernel), by decide, by decide, fun z => nomatch z⟩
  | add m =>
    obtain ⟨rfl, o, rfl, dx, c, p, l, ws, ho, _⟩ := h
    exact ⟨.rule, ⟨o, dx, _, rfl, ho⟩, h2 (by decide) (by decide) (by decide +kernel), by decide, by decide, fun z => nomatch z⟩
  | ruling z =>
    obtain ⟨rfl, rfl⟩ := h
    exact ⟨.str z, ⟨rfl, Nat.le_trans (name_len hok) (by decide)⟩, h2 (by decide) (by decide) (by unfold isNewK; rw [if_pos rfl]; exact hok), by decide, by decide, fun z => nomatch z⟩
  | cond hs gs =>
    obtain ⟨rfl, c, rfl, hc⟩ := h
    obtain ⟨dx, a, b, n, zs, h1, _⟩ := hc.at_
    exact ⟨.cond, ⟨c, dx, _, rfl, h1⟩, h2 (by decide) (by decide) (by decide +kernel), by decide, by decide, fun z => nomatch z⟩
theorem ok_amended {f : Addr} {fd : FuncData} (F : Fun K "amended" "amended" s_amended f fd) (Bl : Blt mg) (kB : BookX P w K mg base B) (k_Book : Mkr P w K mg base 17 "Book" B ["self", "facts", "rules", "ruling"] (sp_book_init K C R B CF CB))
    (mIt : MethO P w K mg base (L2.CX P w) 3 B "__getitem__" ["self", "name"] (sp_getitem K C R B CU)) (mSub : MethO P w K mg base (L2.CX P w) 32 B "__sub__" ["self", "name"] (sp_sub K C R B CB CU)) (bT : BinT K B .Sub)
    (c_replaced : Cal P w K mg base CX0 30 "replaced" ["rules", "name", "others"] (sp_replaced K C R 12)) (c_amended_rule : Cal P w K mg base CX0 18 "amended_rule" ["rule", "word", "new"] (sp_arule K C R)) (c_swapped : Cal P w K mg base (L2.CX P w) 32 "swapped" ["book", "name"] (sp_swapped K C R B CB CU CN))
    (c_amended_book : Cal P w K mg base (L2.CX P w) 19 "amended_book" ["book", "word", "new"] (sp_amended_book K C R B CB)) (c_is_amendment : Cal P w K mg base CX0 3 "is_amendment" ["value"] (sp_is_amendment K C R)) (e_InvalidAmendment : ErrMk0 K mg "InvalidAmendment" CA) :
    FnOk P w K mg base (L2.CX P w) 34 f fd ["book", "amendment"] (sp_amended K C R B CB CU CN) := by
  refine F.okX sc_amended (fun vs H Q E h => by obtain ⟨N, o, xs, f, rl, v, am, rfl, _⟩ := h; rfl) (fun cdv A outer s H vs Q E hr h => ?_)
  obtain ⟨N, o, xs, f, rl, v, am, rfl, hB, hk, fr, hv, hok, h⟩ := h
  have hdep := hk.dep
  have hsz := hk.size
  refine ⟨_, (pss_cons (ps_if (pt_not (pt_val (pe_cal c_is_amendment (hr.mono (by decide)) (pa_cons (pv 1) pa_nil)))) (pss_one (ps_raise rfl (takes_of rfl rfl rfl rfl) (pmk_err0 e_InvalidAmendment))) pss_nil)
      (pss_cons (ps_set (i := 2) sc_amended.nd rfl (Or.inl rfl) (pe_ix ix_tup (pv 1) pe_int (fun _ _ => rfl)))
      (pss_cons (ps_set (i := 3) sc_amended.nd rfl (Or.inl rfl) (pe_ix ix_tup (pv 1) pe_int (fun _ _ => rfl)))
      (pss_cons (ps_if (pt_cmpR op_isN (pv 3) pe_non (nomark _)) (pss_one (ps_ret (pe_calX c_amended_book (hr.mono (by decide)) (takes_of rfl rfl rfl rfl) (pa_cons (pv 0) (pa_cons (pv 2) (pa_cons (pe_ix ix_tup (pv 1) pe_int (fun _ _ => rfl)) pa_nil)))))) pss_nil)
      (pss_cons (ps_if (pt_cmpR op_eq (pv 2) pe_str (nomark _)) (pss_one (ps_ret (pe_op (op_subM mSub bT rfl (hr.mono (by decide)) (takes_of rfl rfl rfl rfl)) (pv 0) (pv 3)))) pss_nil)
      (pss_cons (ps_if (pt_cmpR op_eq (pv 2) pe_str (nomark _)) (pss_one (ps_ret (pe_calX c_swapped (hr.mono (by decide)) (takes_of rfl rfl rfl rfl) (pa_cons (pv 0) (pa_cons (pv 3) pa_nil))))) pss_nil)
      (pss_cons (ps_set (i := 4) sc_amended.nd rfl (Or.inl rfl) (pe_cal c_amended_rule (hr.mono (by decide)) (pa_cons (pe_ixM mIt (hr.mono (by decide)) (takes_of rfl rfl rfl rfl) (pv 0) (pv 3) (fun _ _ => rfl)) (pa_cons (pv 2) (pa_cons (pe_ix ix_tup (pv 1) pe_int (fun _ _ => rfl)) pa_nil)))))
      (pss_one (ps_ret (pe_mkX k_Book (hr.mono (by decide)) (takes_of rfl rfl rfl rfl) (pa_cons (pe_cprop kB.facts kB.cls (hr.mono (by decide)) (pv 0)) (pa_cons (pe_cal c_replaced (hr.mono (by decide)) (pa_cons (pe_cprop kB.rules kB.cls (hr.mono (by decide)) (pv 0)) (pa_cons (pv 3) (pa_cons (pv 4) pa_nil)))) (pa_cons (pe_cprop kB.ruling kB.cls (hr.mono (by decide)) (pv 0)) pa_nil))))))))))))), ?_⟩
  have hh : ∀ {x : Str} {r : List IK}, ∀ k ∈ (IK.str x :: r).head?, k ≠ .cond ∧ k ≠ .rule := fun k hk => by cases hk; exact ⟨(fun z => nomatch z), (fun z => nomatch z)⟩
  have nml : ∀ {x : Str}, isName x = true → x.length ≤ sizeLine := fun h => Nat.le_trans (name_len h) (by decide)
  cases am with
  | rul0 z =>
    obtain ⟨t, rfl, ht⟩ := hv
    have hz : isName z = true := hok
    refine ⟨_, rfl, _, rfl, .inr ⟨t, _, [.str "ruling", .non, .str z], rfl, ht, .cons ⟨rfl, by decide⟩ (.cons (show ItAt C R _ .non .non from rfl) (.cons ⟨rfl, nml hz⟩ .nil)), hh, fun H1 s1 => ⟨_, rfl, ?_⟩⟩⟩
    rw [show isAm [.str "ruling", .non, .str z] = true by rw [isAm2 (by decide) (by decide)]; show (_ && isNewK _ (.str z)) = true; rw [show isNewK "ruling" (.str z) = true by unfold isNewK; rw [if_pos rfl]; exact hz]; decide +kernel]
    refine iteF ?_
    have ht1 := s1.tup ht
    refine ⟨_, rfl, t, _, 0, _, rfl, rfl, ht1, atI_nat (j := 0) rfl, _, rfl, t, _, 1, _, rfl, rfl, ht1, atI_nat (j := 1) rfl, ?_⟩
    refine ⟨_, rfl, rfl, _, rfl, bcase (fun _ => ?_) (fun z => absurd rfl (of_decide_eq_false z))⟩
    exact ⟨_, rfl, _, rfl, _, rfl, t, _, 2, _, rfl, rfl, ht1, atI_nat (j := 2) rfl, N, o, xs, f, rl, _, _, rfl, hB.keeps s1.keeps, hk, (fun l nl => fr l (s1.free nl)), .inl ⟨rfl, z, rfl, hz, Out.same s1 h⟩⟩
  | add0 m =>
    obtain ⟨t, r, rfl, ht, hr0⟩ := hv
    obtain ⟨orr, rfl, hNr⟩ := id hr0
    obtain ⟨dxr, cr, pr, lr, wsr, hor, _⟩ := hNr
    refine ⟨_, rfl, _, rfl, .inr ⟨t, _, [.str "add", .non, .rule], rfl, ht, .cons ⟨rfl, by decide⟩ (.cons (show ItAt C R _ .non .non from rfl) (.cons ⟨orr, dxr, _, rfl, hor⟩ .nil)), hh, fun H1 s1 => ⟨_, rfl, ?_⟩⟩⟩
    rw [show isAm [.str "add", .non, .rule] = true by decide +kernel]
    refine iteF ?_
    have ht1 := s1.tup ht
    refine ⟨_, rfl, t, _, 0, _, rfl, rfl, ht1, atI_nat (j := 0) rfl, _, rfl, t, _, 1, _, rfl, rfl, ht1, atI_nat (j := 1) rfl, ?_⟩
    refine ⟨_, rfl, rfl, _, rfl, bcase (fun _ => ?_) (fun z => absurd rfl (of_decide_eq_false z))⟩
    exact ⟨_, rfl, _, rfl, _, rfl, t, _, 2, _, rfl, rfl, ht1, atI_nat (j := 2) rfl, N, o, xs, f, rl, _, _, rfl, hB.keeps s1.keeps, hk, (fun l nl => fr l (s1.free nl)), .inr ⟨rfl, m, hr0.keeps s1.keeps, hok, Out.same s1 h⟩⟩
  | rule nm op =>
    obtain ⟨hn, hok⟩ := hok
    obtain ⟨eu, q⟩ := h
    have hB0 := hB
    obtain ⟨dx, a6, p6, l6, ws6, us6, ho, hrest⟩ := id hB
    by_cases c1 : op = .strike
    · subst c1
      obtain ⟨t, rfl, ht⟩ := hv
      refine ⟨_, rfl, _, rfl, .inr ⟨t, _, [.str "strike", .str nm], rfl, ht, .cons ⟨rfl, by decide⟩ (.cons ⟨rfl, nml hn⟩ .nil), hh, fun H1 s1 => ⟨_, rfl, ?_⟩⟩⟩
      rw [show isAm [.str "strike", .str nm] = true by rw [isAm1 (by decide)]; exact hn]
      refine iteF ?_
      have ht1 := s1.tup ht
      refine ⟨_, rfl, t, _, 0, _, rfl, rfl, ht1, atI_nat (j := 0) rfl, _, rfl, t, _, 1, _, rfl, rfl, ht1, atI_nat (j := 1) rfl, ?_⟩
      refine ⟨_, rfl, rfl, _, rfl, bcase (fun z => nomatch (of_decide_eq_true z)) (fun _ => ?_)⟩
      refine ⟨_, rfl, rfl, _, rfl, iteT ?_⟩
      exact ⟨_, rfl, _, rfl, o, dx, _, nm, rfl, rfl, s1 _ _ ho, N, o, xs, f, rl, nm, rfl, hB.keeps s1.keeps, hk, (fun l nl => fr l (s1.free nl)), (fun hno H' s' => eu hno H' (s1.trans s')), fun hno => Out.same s1 ((q hno).2 (fun z => nomatch z))⟩
    by_cases c2 : op = .swap
    · subst c2
      obtain ⟨t, rfl, ht⟩ := hv
      refine ⟨_, rfl, _, rfl, .inr ⟨t, _, [.str "swap", .str nm], rfl, ht, .cons ⟨rfl, by decide⟩ (.cons ⟨rfl, nml hn⟩ .nil), hh, fun H1 s1 => ⟨_, rfl, ?_⟩⟩⟩
      rw [show isAm [.str "swap", .str nm] = true by rw [isAm1 (by decide)]; exact hn]
      refine iteF ?_
      have ht1 := s1.tup ht
      refine ⟨_, rfl, t, _, 0, _, rfl, rfl, ht1, atI_nat (j := 0) rfl, _, rfl, t, _, 1, _, rfl, rfl, ht1, atI_nat (j := 1) rfl, ?_⟩
      refine ⟨_, rfl, rfl, _, rfl, bcase (fun z => nomatch (of_decide_eq_true z)) (fun _ => ?_)⟩
      refine ⟨_, rfl, rfl, _, rfl, iteF ?_⟩
      refine ⟨_, rfl, rfl, _, rfl, iteT ?_⟩
      exact ⟨_, rfl, _, rfl, N, o, xs, f, rl, nm, rfl, hB.keeps s1.keeps, hk, (fun l nl => fr l (s1.free nl)), (fun hno H' s' => eu hno H' (s1.trans s')), fun hno => ⟨(fun e H' s' => (q hno).1 rfl e H' (s1.trans s')), fun e => Out.same s1 ((q hno).2 fun _ => e)⟩⟩
    obtain ⟨t, word, new, rfl, ht, hop⟩ : ∃ t word new, v = .ref t ∧ SqT K H t [.str word, .str nm, new] ∧ OpV K C R N H word new op := by
      cases op with
      | strike => exact absurd rfl c1
      | swap => exact absurd rfl c2
      | _ => exact hv
    obtain ⟨kn, hkn, ham, w1, w2, _⟩ := opV_kind hop hok hn
    have hwl : word.length ≤ sizeLine := by
      cases op with
      | strike => exact hop.elim
      | swap => exact hop.elim
      | _ => rw [hop.1]; decide
    refine ⟨_, rfl, _, rfl, .inr ⟨t, _, [.str word, .str nm, kn], rfl, ht, .cons ⟨rfl, hwl⟩ (.cons ⟨rfl, nml hn⟩ (.cons hkn .nil)), hh, fun H1 s1 => ⟨_, rfl, ?_⟩⟩⟩
    rw [ham]
    refine iteF ?_
    have ht1 := s1.tup ht
    have hB1 := hB.keeps (N := N) s1.keeps
    have ho1 := s1 _ _ ho
    refine ⟨_, rfl, t, _, 0, _, rfl, rfl, ht1, atI_nat (j := 0) rfl, _, rfl, t, _, 1, _, rfl, rfl, ht1, atI_nat (j := 1) rfl, ?_⟩
    refine ⟨_, rfl, rfl, _, rfl, bcase (fun z => nomatch (of_decide_eq_true z)) (fun _ => ?_)⟩
    refine ⟨_, rfl, rfl, _, rfl, bcase (fun z => absurd (V.str.inj (of_decide_eq_true z)) w1) (fun _ => ?_)⟩
    refine ⟨_, rfl, rfl, _, rfl, bcase (fun z => absurd (V.str.inj (of_decide_eq_true z)) w2) (fun _ => ?_)⟩
    refine ⟨_, rfl, _, rfl, o, dx, _, rfl, ho1, N, o, xs, f, rl, nm, rfl, hB1, by omega, (fun n0 v0 hf0 hv0 => ?_), fun e H' s' => ?_⟩
    · have hno : nm ∈ f.names := by
        by_cases c : nm ∈ f.names
        · exact c
        · rw [RF.find_none c] at hf0; cases hf0
      obtain ⟨f1, f2, f3, f4⟩ := RF.find_part hf0 hk.ev
      have q := (q hno).2 (fun z => absurd z c2)
      obtain ⟨o0, rfl, hN0⟩ := hv0
      have hnd := news_dims (n := n0) (f := f) hok (by omega) (by omega)
      refine ⟨_, rfl, _, rfl, t, _, 2, _, rfl, rfl, ht1, atI_nat (j := 2) rfl, N, o0, word, new, n0, op, rfl, hN0, hop.keeps s1.keeps, hok, f1, f2, by omega, by omega, (fun l nl => fr l (s1.free nl)), fun H2 t2 us2 s2 e2 hus2 => ?_⟩
      have s02 := s1.trans s2
      obtain ⟨dx', a, p, l, ws, us, ho', hS, hP, hF, ⟨nl, hl⟩, hus⟩ := hB.keeps (N := N) s02.keeps
      refine ⟨_, rfl, o, dx', _, rfl, ho', o, dx', _, _, rfl, ho', rfl, _, rfl, o, dx', _, rfl, ho', o, dx', _, _, rfl, ho', rfl, _, rfl, _, rfl, ?_⟩
      refine ⟨N, p, t2, nm, ws, us2, f, op.news n0, rfl, hP, hF, sqT_of e2, hus2, (fun l nl => fr l (s02.free nl)), hk.nd, by omega, by omega, by omega, hk.ev, fun H3 p3 rs3 s3 hp3 hF3 => ?_⟩
      have e5 : RF.repl nm (op.news n0) f = RF.upd nm op.G f := by
        rw [RF.repl_upd hk.nd]
        refine RF.upd_find ?_ hk.nd (fun _ => hf0)
        cases op with
        | swap => exact absurd rfl c2
        | _ => rfl
      have hz5 := RF.repl_size (nm := nm) (os := op.news n0) hk.nd
      have hd5 := RF.repl_dep1 (nm := nm) (os := op.news n0) (f := f)
      have hev5 : (RF.repl nm (op.news n0) f).every NdOk := by
        rw [RF.repl_upd hk.nd]
        exact RF.upd_every (fun n e hn => hn.wE) (fun n rest _ _ h3 => RF.put_every (news_every hok f1 f2) h3) hk.ev
      rw [e5] at hF3 hz5 hd5 hev5
      have s03 := s02.trans s3
      have ho3 := s3 _ _ ho'
      refine ⟨_, rfl, o, dx', _, rfl, ho3, o, dx', _, _, rfl, ho3, rfl, fun x dx2 nx ndx nex => ?_⟩
      exact book_of nx ndx nex (fun l nl => fr l (s03.free nl)) (s3.tup hS) hk.tS hk.lS hk.hb hp3 hF3 (by omega) (by omega) (fit_of hev5) hk.hrl (Out.same s03 q)
    · have hno : ¬ nm ∈ f.names := fun z => by
        obtain ⟨m, h1, _⟩ := RF.find_some z
        rw [h1] at e
        cases e
      exact eu hno H' (s1.trans s')
end
end Sc
namespace Sc
open PySem PySem.Spec PyProof.Rows L2
theorem sc_check_word : FnScope ["ruling"] ["ruling"] (defScope s_check_word) := ⟨rfl, rfl, rfl, by decide +kernel, rfl, by decide +kernel, by decide +kernel⟩
theorem sc_check_left : FnScope ["left"] ["left"] (defScope s_check_left) := ⟨rfl, rfl, rfl, by decide +kernel, rfl, by decide +kernel, by decide +kernel⟩
theorem sc_ConditionWatcher___init__ : FnScope ["self", "book", "name"] ["self", "book", "name"] (defScope s_ConditionWatcher___init__) := ⟨rfl, rfl, rfl, by decide +kernel, rfl, by decide +kernel, by decide +kernel⟩
theorem sc_ConditionWatcher_candidates : FnScope ["self"] ["self"] (defScope s_ConditionWatcher_candidates) := ⟨rfl, rfl, rfl, by decide +kernel, rfl, by decide +kernel, by decide +kernel⟩
theorem sc_ConditionWatcher_records : FnScope ["self"] ["self"] (defScope s_ConditionWatcher_records) := ⟨rfl, rfl, rfl, by decide +kernel, rfl, by decide +kernel, by decide +kernel⟩
theorem sc_ConditionWatcher__outcomes : FnScope ["self", "case"] ["self", "case"] (defScope s_ConditionWatcher__outcomes) := ⟨rfl, rfl, rfl, by decide +kernel, rfl, by decide +kernel, by decide +kernel⟩
theorem sc_ConditionWatcher__accept : FnScope ["self", "record", "met", "unmet", "case", "left", "condition"] ["self", "record", "met", "unmet"] (defScope s_ConditionWatcher__accept) := ⟨rfl, rfl, rfl, by decide +kernel, rfl, by decide +kernel, by decide +kernel⟩
/-- making an object whose init raises nothing -/
structure Mkr0 (P : Program) (w : World) (K : PySem.W.Frag) (mg : Str → Option Value) (base : Heap) (k : Nat) (x : Str) (C : Addr) (ps : List Str) (sp : Sp) : Prop where
  ex : ∃ (f : Addr) (fd : FuncData), Mk K C f ∧ FnOk P w K mg base CX0 k f fd ps sp ∧ mg x = some (.ref C) ∧ Binds K fd ps []
/-- a property of a class that is worked out -/
def PropM (P : Program) (w : World) (K : PySem.W.Frag) (mg : Str → Option Value) (base : Heap) (C : Addr) (n : Str) (k : Nat) (sp : Sp) : Prop := ∃ p g fd, PropOf K C n p g ∧ FnOk P w K mg base CX0 k g fd ["self"] sp ∧ Binds K fd ["self"] []
/-- a method of a class, no property -/
structure MethR (P : Program) (w : World) (K : PySem.W.Frag) (mg : Str → Option Value) (base : Heap) (k : Nat) (C : Addr) (m : Str) (ps : List Str) (sp : Sp) : Prop where
  ex : ∃ (g : Addr) (fd : FuncData), Meth K C m g ∧ FnOk P w K mg base CX0 k g fd ps sp ∧ Binds K fd ps []
/-- a method that may raise -/
structure MethX (P : Program) (w : World) (K : PySem.W.Frag) (mg : Str → Option Value) (base : Heap) (k : Nat) (C : Addr) (m : Str) (ps : List Str) (sp : Sp) : Prop where
  ex : ∃ (g : Addr) (fd : FuncData), Meth K C m g ∧ FnOk P w K mg base (L2.CX P w) k g fd ps sp ∧ Binds K fd ps []
section
variable {X : Cx} {k : Nat} {x m n : Str} {C : Addr} {ps : List Str} {sp : Sp} {e o : Expr} {es : List Expr} {ta : TE} {t : TA} {p pos apos : Pos}
theorem pe_mk0 (M : Mkr0 X.prog X.w X.K X.mg X.base k x C ps sp) (hr : Room (k + 1) X.A) (ha : PA X (e :: es) t) (hg : Gl X x := by rfl) (hdb : (x == ("__debug__" : Str)) = false := by decide)
    (he : starEach (e :: es) X.env = (false, eval e X.env) :: starEach es X.env := by rfl) (hpl : (backTo pos (starEach es X.env)).any (·.1) = false := by rfl) : PE X (.Call (.Name x p) (e :: es) [] pos) (tMake C sp [] E0 t) := by
  obtain ⟨f, fd, hk, F, hm, hb⟩ := M.ex
  exact pe_make hk F hr hg hm hb .nil pass0 ha hdb he hpl
theorem pe_propM (M : PropM X.prog X.w X.K X.mg X.base C n k sp) (hr : Room (k + 1) X.A) (c : Cls X.K C) (he : PE X e ta) (hab : attributeBase e n X.env (eval e X.env) = eval e X.env := by rfl) : PE X (.Attribute e n pos) (tProp C sp [] E0 ta) := by
  obtain ⟨p, g, fd, h1, h2, h3⟩ := M
  exact pe_prop he c h1 h2 hr h3 .nil pass0 hab
theorem pe_me {pl : Sem Bool} (T : Cls X.K C) (M : MethR X.prog X.w X.K X.mg X.base k C m ps sp) (hr : Room k X.A) (he : PE X o ta) (ha : PA X (e :: es) t)
    (hst : starEach (e :: es) X.env = (false, eval e X.env) :: starEach es X.env := by rfl) (hpl : (backTo pos (starEach es X.env)).any (·.1) = false := by rfl)
    (ht : eval (.Call (.Attribute o m apos) (e :: es) [] pos) X.env = (do
      let ov ← eval o X.env
      standAt apos.atName
      let (f, first) ← holding [ov] (getMethod ov m pl)
      callWith pos f first (backTo pos (starEach (e :: es) X.env)) (backToKw pos (keywordEach [] X.env))) := by rfl) : PE X (.Call (.Attribute o m apos) (e :: es) [] pos) (tMeth C m sp [] E0 ta t) := by
  obtain ⟨g, fd, h1, F, hb⟩ := M.ex
  exact pe_meth he T h1 F hr hb .nil pass0 ha hst hpl ht
theorem pe_me0 {pl : Sem Bool} (T : Cls X.K C) (M : MethR X.prog X.w X.K X.mg X.base k C m ps sp) (hr : Room k X.A) (he : PE X o ta)
    (ht : eval (.Call (.Attribute o m apos) [] [] pos) X.env = (do
      let ov ← eval o X.env
      standAt apos.atName
      let (f, first) ← holding [ov] (getMethod ov m pl)
      callWith pos f first (backTo pos (starEach [] X.env)) (backToKw pos (keywordEach [] X.env))) := by rfl) : PE X (.Call (.Attribute o m apos) [] [] pos) (tMeth C m sp [] E0 ta tNil) := by
  obtain ⟨g, fd, h1, F, hb⟩ := M.ex
  exact pe_meth0 he T h1 F hr hb .nil pass0 ht
theorem pe_meX {pl : Sem Bool} {E : XK} (T : Cls X.K C) (M : MethX X.prog X.w X.K X.mg X.base k C m ps sp) (hr : Room k X.A) (tk : Takes X (fun cls d _ H => E cls d H)) (he : PE X o ta) (ha : PA X (e :: es) t)
    (hst : starEach (e :: es) X.env = (false, eval e X.env) :: starEach es X.env := by rfl) (hpl : (backTo pos (starEach es X.env)).any (·.1) = false := by rfl)
    (ht : eval (.Call (.Attribute o m apos) (e :: es) [] pos) X.env = (do
      let ov ← eval o X.env
      standAt apos.atName
      let (f, first) ← holding [ov] (getMethod ov m pl)
      callWith pos f first (backTo pos (starEach (e :: es) X.env)) (backToKw pos (keywordEach [] X.env))) := by rfl) : PE X (.Call (.Attribute o m apos) (e :: es) [] pos) (tMeth C m sp [] E ta t) := by
  obtain ⟨g, fd, h1, F, hb⟩ := M.ex
  exact pe_meth he T h1 F hr hb .nil (passes_call tk fun _ _ _ _ h => h) ha hst hpl ht
theorem pe_meN {pl : Sem Bool} (T : Cls X.K C) (M : MethX X.prog X.w X.K X.mg X.base k C m ps sp) (hr : Room k X.A) (he : PE X o ta) (ha : PA X (e :: es) t)
    (hst : starEach (e :: es) X.env = (false, eval e X.env) :: starEach es X.env := by rfl) (hpl : (backTo pos (starEach es X.env)).any (·.1) = false := by rfl)
    (ht : eval (.Call (.Attribute o m apos) (e :: es) [] pos) X.env = (do
      let ov ← eval o X.env
      standAt apos.atName
      let (f, first) ← holding [ov] (getMethod ov m pl)
      callWith pos f first (backTo pos (starEach (e :: es) X.env)) (backToKw pos (keywordEach [] X.env))) := by rfl) : PE X (.Call (.Attribute o m apos) (e :: es) [] pos) (tMeth C m sp [] E0 ta t) := by
  obtain ⟨g, fd, h1, F, hb⟩ := M.ex
  exact pe_meth he T h1 F hr hb .nil passL ha hst hpl ht
end
def tIfT (t ta tb : TT) : TT := fun σ H Q => t σ H fun c H1 => if c = true then ta σ H1 Q else tb σ H1 Q
theorem pt_ifE {X : Cx} {c a b : Expr} {tA ta tb : TT} {pos : Pos} (hc : PT X c tA) (ha : PT X a ta) (hb : PT X b tb) : PT X (.IfExp c a b pos) (tIfT tA ta tb) := by
  refine ⟨fun pins s σ H Q I h => ?_⟩
  refine PyProof.Rows.isTrue_IfExp (wpAny_mono (hc.run pins s σ H _ I h) (fun d s1 z => ?_) fun _ _ e => e)
  obtain ⟨H1, I1, q1⟩ := z
  cases d with
  | true => exact ha.run pins s1 σ H1 _ I1 q1
  | false => exact hb.run pins s1 σ H1 _ I1 q1
/-! ### a watcher of a condition -/
def cwF (w1 w2 L S : Addr) : List (Str × V) := putF "_seen" (.ref S) (putF "_left" (.ref L) (putF "_without_rule" (.ref w2) (putF "_with_rule" (.ref w1) [])))
abbrev CRec := Str × List Str × Option Str
def CRecAt (K : PySem.W.Frag) (H : Hp) (v : V) (q : CRec) : Prop := ∃ t c : Addr, v = .ref t ∧ SqT K H t [.str q.1, .ref c, optS q.2.2] ∧ SqT K H c (q.2.1.map V.str) ∧ q.2.1.length ≤ 1000
theorem CRecAt.keeps {K : PySem.W.Frag} {N : Addr → Prop} {H H' : Hp} {v : V} {q : CRec} (k : Keeps N H H') (h : CRecAt K H v q) : CRecAt K H' v q := by
  obtain ⟨t, c, e, h1, h2, h3⟩ := h
  exact ⟨t, c, e, k.tup h1, k.tup h2, h3⟩
section
variable {P : Program} {w : World} {K : PySem.W.Frag} {mg : Str → Option Value} {base : Heap} {C R B CW CC CR CT CU CB CN CF CI : Addr}
theorem CnAt.keeps {N : Addr → Prop} {H H' : Hp} {v : V} {q : List Str × List Str} (k : Keeps N H H') (h : CnAt K C H v q) : CnAt K C H' v q := by
  obtain ⟨o, e, h⟩ := h
  exact ⟨o, e, h.keeps k⟩
structure CwAt (K : PySem.W.Frag) (C R B CW : Addr) (N : Addr → Prop) (H : Hp) (x S : Addr) (xs : List Str) (f1 f2 : RF) (rl : Str) (cs : List (List Str × List Str)) (recs : List CRec) : Prop where
  at_ : ∃ (dx w1 w2 L : Addr) (us vs : List V), H x = some (.ins CW dx (cwF w1 w2 L S)) ∧ BookAt K C R B (fun l => N l ∧ l ≠ S) H w1 xs f1 rl ∧ BookAt K C R B (fun l => N l ∧ l ≠ S) H w2 xs f2 rl ∧ (H L = some (.lst us) ∧ L ≠ S) ∧ All2 (CnAt K C H) us cs ∧ H S = some (.lst vs) ∧ All2 (CRecAt K H) vs recs
theorem CwAt.same {N : Addr → Prop} {H H' : Hp} {x S : Addr} {xs : List Str} {f1 f2 : RF} {rl : Str} {cs : List (List Str × List Str)} {recs : List CRec} (s : Same H H') (h : CwAt K C R B CW N H x S xs f1 f2 rl cs recs) : CwAt K C R B CW N H' x S xs f1 f2 rl cs recs := by
  obtain ⟨dx, w1, w2, L, us, vs, h1, h2, h2', ⟨h3, h3'⟩, h4, h5, h6⟩ := h.at_
  exact ⟨dx, w1, w2, L, us, vs, s _ _ h1, h2.keeps s.keeps, h2'.keeps s.keeps, ⟨s _ _ h3, h3'⟩, h4.mono fun _ _ z => z.keeps (N := NoL) s.keeps, s _ _ h5, h6.mono fun _ _ z => z.keeps (N := NoL) s.keeps⟩
theorem BookAt.re {N M : Addr → Prop} {H : Hp} {o : Addr} {xs : List Str} {f : RF} {rl : Str} (g : ∀ b xs, N b → H b = some (.lst xs) → M b) (h : BookAt K C R B N H o xs f rl) : BookAt K C R B M H o xs f rl := by
  obtain ⟨dx, a, p, l, ws, us, h1, h2, h3, h4, ⟨h5, h6⟩, h7⟩ := h
  exact ⟨dx, a, p, l, ws, us, h1, h2, h3, h4.re g, ⟨g _ _ h5 h6, h6⟩, h7.mono fun _ _ ⟨o, e, x⟩ => ⟨o, e, x.re g⟩⟩
def sp_cword (CR : Addr) : Sp := fun vs H Q E => ∃ x : Str, vs = [.str x] ∧ x.length ≤ 1000 ∧ (isName x = true → ∀ H', Same H H' → Q .non H') ∧ (isName x = false → ∀ H', Same H H' → E (.ref CR) none H')
theorem ok_cword {f : Addr} {fd : FuncData} (F : Fun K "check_word" "check_word" s_check_word f fd) (B : Blt mg) (e_InvalidRuling : ErrMk0 K mg "InvalidRuling" CR) (c_is_name : Cal P w K mg base CX0 1 "is_name" ["value"] sp_is_name) : FnOk P w K mg base (L2.CX P w) 2 f fd ["ruling"] (sp_cword CR) := by
  refine F.okX sc_check_word (fun vs H Q E h => by obtain ⟨x, rfl, _⟩ := h; rfl) (fun cdv A outer s H vs Q E hr h => ?_)
  obtain ⟨x, rfl, hxl, q, qe⟩ := h
  refine ⟨_, (pss_one (ps_if (pt_not (pt_val (pe_cal c_is_name (hr.mono (by decide)) (pa_cons (pv 0) pa_nil)))) (pss_one (ps_raise rfl (takes_of rfl rfl rfl rfl) (pmk_err0 e_InvalidRuling))) pss_nil)), ?_⟩
  refine ⟨_, rfl, x, rfl, by rw [sizeLine_eq]; omega, fun H1 s1 => ⟨_, rfl, ?_⟩⟩
  cases hx : isName x
  · exact iteT (qe hx _ s1)
  · exact iteF (q hx _ s1)
def sp_cleft (CT : Addr) : Sp := fun vs H Q E => ∃ (D : Addr) (us : List V), vs = [.ref D] ∧ H D = some (.lst us) ∧ (us ≠ [] → Q .non H) ∧ (us = [] → E (.ref CT) none H)
theorem ok_cleft {f : Addr} {fd : FuncData} (F : Fun K "check_left" "check_left" s_check_left f fd) (e_Contradiction : ErrMk0 K mg "Contradiction" CT) : FnOk P w K mg base (L2.CX P w) 1 f fd ["left"] (sp_cleft CT) := by
  refine F.okX sc_check_left (fun vs H Q E h => by obtain ⟨D, us, rfl, _⟩ := h; rfl) (fun cdv A outer s H vs Q E hr h => ?_)
  obtain ⟨D, us, rfl, eD, q, qe⟩ := h
  refine ⟨_, (pss_one (ps_if (pt_not (pt_tru (pv 0) (by intro _; rfl))) (pss_one (ps_raise rfl (takes_of rfl rfl rfl rfl) (pmk_err0 e_Contradiction))) pss_nil)), ?_⟩
  refine ⟨_, rfl, _, .inl ⟨_, sqL_of eD, rfl⟩, ?_⟩
  cases us with
  | nil => exact iteT (qe rfl)
  | cons u us => exact iteF (q (by simp))
/-- the book with the rule always met -/
def cwOn (nm : Str) (f : RF) : RF := RF.upd nm (Op.cond [] []).G f
/-- the book without the rule -/
def cwOff (nm : Str) (f : RF) : RF := RF.upd nm Op.strike.G f
def sp_cwInit (K : PySem.W.Frag) (C R B CW CU CT : Addr) : Sp := fun vs H Q E => ∃ (N : Addr → Prop) (x dx b : Addr) (xs : List Str) (f : RF) (rl nm : Str), vs = [.ref x, .ref b, .str nm] ∧ H x = some (.ins CW dx []) ∧ BookAt K C R B N H b xs f rl ∧ BkOk xs f rl ∧ (∀ l, H l = none → N l) ∧ isName nm = true ∧
  ((¬ nm ∈ f.names ∧ ∀ H', Same H H' → E (.ref CU) none H') ∨ (nm ∈ f.names ∧ ((10 < xs.length ∧ ∀ H', Same H H' → E (.ref CT) none H') ∨ (xs.length ≤ 10 ∧ Rt xs ∧ firstFault xs ((cwOn nm f).pre 0) [] 0 0 = none ∧ firstFault xs ((cwOff nm f).pre 0) [] 0 0 = none ∧
  ∀ H' S, SameX x H H' → H S = none → CwAt K C R B CW N H' x S xs (cwOn nm f) (cwOff nm f) rl (smC xs) [] → Q .non H'))))
theorem ok_cwInit {f : Addr} {fd : FuncData} {t1 : Tok} (F : Fun K "__init__" "ConditionWatcher.__init__" s_ConditionWatcher___init__ f fd) (Bl : Blt mg) (T : Cls K CW) (n1 : NoAttr K CW "_with_rule") (n2 : NoAttr K CW "_without_rule") (n3 : NoAttr K CW "_left") (n4 : NoAttr K CW "_seen") (kB : BookX P w K mg base B) (m_MOST_FACTS_watchers : mg "MOST_FACTS_watchers" = some (.int 10 t1))
    (k_Condition : Mkr P w K mg base 4 "Condition" C ["self", "holding", "failing"] (sp_cond_init K C CI)) (mCon : MethO P w K mg base CX0 3 B "__contains__" ["self", "name"] (sp_contains K C R B)) (mSub : MethO P w K mg base (L2.CX P w) 32 B "__sub__" ["self", "name"] (sp_sub K C R B CB CU)) (bT : BinT K B .Sub)
    (e_UnknownRule : ErrMk0 K mg "UnknownRule" CU) (e_TooMany : ErrMk0 K mg "TooMany" CT) (c_amended : Cal P w K mg base (L2.CX P w) 34 "amended" ["book", "amendment"] (sp_amended K C R B CB CU CN)) (c_small_conditions : Cal P w K mg base CX0 6 "small_conditions" ["facts"] (sp_small K C)) :
    FnOk P w K mg base (L2.CX P w) 36 f fd ["self", "book", "name"] (sp_cwInit K C R B CW CU CT) := by
  refine F.okX sc_ConditionWatcher___init__ (fun vs H Q E h => by obtain ⟨N, x, dx, b, xs, f, rl, nm, rfl, _⟩ := h; rfl) (fun cdv A outer s H vs Q E hr h => ?_)
  obtain ⟨N, x, dx, b, xs, f, rl, nm, rfl, hx, hB, hk, fr, hnm, hq⟩ := h
  refine ⟨_, (pss_cons (ps_if (pt_cmpR (op_ninM mCon (hr.mono (by decide))) (pv 2) (pv 1) rfl) (pss_one (ps_raise rfl (takes_of rfl rfl rfl rfl) (pmk_err0 e_UnknownRule))) pss_nil)
      (pss_cons (ps_if (pt_cmpR op_gt (pe_callB call_len_seq (by rfl) Bl.b_len PySem.boot_len (pa_cons (pe_cprop kB.facts kB.cls (hr.mono (by decide)) (pv 1)) pa_nil)) (pe_glob (v := .int 10) rfl m_MOST_FACTS_watchers ⟨_, rfl⟩) (nomark _)) (pss_one (ps_raise rfl (takes_of rfl rfl rfl rfl) (pmk_err0 e_TooMany))) pss_nil)
      (pss_cons (ps_fld (pv 0) (pe_calX c_amended (hr.mono (by decide)) (takes_of rfl rfl rfl rfl) (pa_cons (pv 1) (pa_cons (pe_tup (pa_cons pe_str (pa_cons (pv 2) (pa_cons (pe_mkX k_Condition (hr.mono (by decide)) (takes_of rfl rfl rfl rfl) (pa_cons (pe_tup pa_nil) (pa_cons (pe_tup pa_nil) pa_nil))) pa_nil)))) pa_nil))) rfl)
      (pss_cons (ps_fld (pv 0) (pe_op (op_subM mSub bT rfl (hr.mono (by decide)) (takes_of rfl rfl rfl rfl)) (pv 1) (pv 2)) rfl)
      (pss_cons (ps_fld (pv 0) (pe_cal c_small_conditions (hr.mono (by decide)) (pa_cons (pe_cprop kB.facts kB.cls (hr.mono (by decide)) (pv 1)) pa_nil)) rfl)
      (pss_one (ps_fld (pv 0) (pe_lst pa_nil) rfl))))))), ?_⟩
  obtain ⟨dxb, a, p, l, ws, us, ho, hS, hP, hF, hl, hus⟩ := id hB
  have hsz := hk.size
  have hlS := hk.lS
  have nb : b ≠ x := fun z => by rw [z, hx] at ho; cases ho
  have c0 : firstWrong [] [] = none := by decide +kernel
  refine ⟨_, rfl, _, rfl, b, dxb, _, rfl, ho, N, b, xs, f, rl, nm, rfl, hB, by omega, fun H1 s1 => ⟨_, rfl, _, rfl, ?_⟩⟩
  rw [if_pos rfl]
  rcases hq with ⟨hno, qe⟩ | ⟨hmem, hq⟩
  · rw [decide_eq_false hno]
    exact iteT (qe H1 s1)
  rw [decide_eq_true hmem]
  refine iteF ?_
  have ho1 := s1 _ _ ho
  refine ⟨_, rfl, b, dxb, _, rfl, ho1, b, dxb, _, _, rfl, ho1, rfl, _, _, rfl, .inr (s1.tup hS), _, _, rfl, rfl, _, rfl, ?_⟩
  rw [List.length_map]
  rcases hq with ⟨hbig, qe⟩ | ⟨hsm, hrt, hf1, hf2, q⟩
  · rw [decide_eq_true (show (10 : Int) < ((xs.length : Nat) : Int) by omega)]
    exact iteT (qe H1 s1)
  rw [decide_eq_false (show ¬ (10 : Int) < ((xs.length : Nat) : Int) by omega)]
  refine iteF ?_
  refine ⟨_, rfl, _, rfl, Nat.zero_le _, fun ta nta => ⟨Nat.zero_le _, fun tb ntb => ?_⟩⟩
  have s2 : Same H1 (upd (upd H1 ta (.tup [])) tb (.tup [])) := ((Same.refl H1).put nta).put' ntb
  have e2a : (upd (upd H1 ta (.tup [])) tb (.tup [])) ta = some (.tup []) := by rw [upd_ne (ne_of_none upd_same ntb)]; exact upd_same
  have e2b : (upd (upd H1 ta (.tup [])) tb (.tup [])) tb = some (.tup []) := upd_same
  generalize upd (upd H1 ta (.tup [])) tb (.tup []) = H2 at s2 e2a e2b ⊢
  intro c dxc nc ndc nec
  refine mk_cnd (hs := []) (fs := []) nc ndc (sqT_of e2a) (sqT_of e2b) c0 c0 (by decide) fun H3 s3 hC3 => ?_
  refine ⟨(by show 3 ≤ sizeLine; rw [sizeLine_eq]; decide), fun t nt => ?_⟩
  have s4 : Same H3 (upd H3 t (.tup [.str "condition", .str nm, .ref c])) := (Same.refl H3).put nt
  have e4 : (upd H3 t (.tup [.str "condition", .str nm, .ref c])) t = some (.tup [.str "condition", .str nm, .ref c]) := upd_same
  generalize upd H3 t (.tup [.str "condition", .str nm, .ref c]) = H4 at s4 e4 ⊢
  have s04 : Same H H4 := s1.trans (s2.trans (s3.trans s4))
  refine ⟨N, b, xs, f, rl, .ref t, .rule nm (.cond [] []), rfl, hB.keeps s04.keeps, hk, (fun l nl => fr l (s04.free nl)), ⟨t, "condition", .ref c, rfl, sqT_of e4, rfl, c, rfl, hC3.same s4⟩, ⟨hnm, c0, c0⟩, ⟨(fun h => absurd hmem h), fun _ => ⟨(fun e => nomatch e), fun _ => ⟨fun wd i e => (by rw [show firstFault xs ((RF.upd nm (Op.cond [] []).G f).pre 0) [] 0 0 = none from hf1] at e; cases e), fun _ H5 b1 s5 hB1 => ?_⟩⟩⟩⟩
  have s05 := s04.trans s5
  have hx5 := s05 _ _ hx
  refine ⟨_, rfl, x, CW, dx, _, rfl, hx5, T, n1, (by show 0 < 1000; decide), ?_⟩
  obtain ⟨dx1, _, _, _, _, _, ho1', _⟩ := id hB1
  have nb1 : b1 ≠ x := fun z => by rw [z, hx5] at ho1'; cases ho1'
  have x6 : SameX x H5 (upd H5 x (.ins CW dx (putF "_with_rule" (.ref b1) []))) := fun b' ob n e => by rw [upd_ne n]; exact e
  have hx6 : (upd H5 x (.ins CW dx (putF "_with_rule" (.ref b1) []))) x = some (.ins CW dx (putF "_with_rule" (.ref b1) [])) := upd_same
  have hB1 := hB1.keeps (SameX.keeps (N := N) x6 hx5 rfl)
  generalize upd H5 x (.ins CW dx (putF "_with_rule" (.ref b1) [])) = H6 at x6 hx6 hB1 ⊢
  have x06 : SameX x H H6 := fun b' ob n e => x6 _ _ n (s05 _ _ e)
  have hB6 := hB.keeps (SameX.keeps (N := N) x06 hx rfl)
  have fr6 : ∀ l, H6 l = none → N l := fun l nl => fr l (by
    cases e : H l with
    | none => rfl
    | some ob =>
      by_cases z : l = x
      · rw [z, hx6] at nl; cases nl
      · rw [x06 _ _ z e] at nl; cases nl)
  refine ⟨_, rfl, _, rfl, b, dxb, _, nm, rfl, rfl, x06 _ _ nb ho, N, b, xs, f, rl, nm, rfl, hB6, hk, fr6, (fun h => absurd hmem h), fun _ => ⟨fun wd i e => (by rw [show firstFault xs ((RF.upd nm Op.strike.G f).pre 0) [] 0 0 = none from hf2] at e; cases e), fun _ H7 b2 s7 hB2 => ?_⟩⟩
  have hx7 := s7 _ _ hx6
  refine ⟨_, rfl, x, CW, dx, _, rfl, hx7, T, n2, (by show 1 < 1000; decide), ?_⟩
  have x8 : SameX x H7 (upd H7 x (.ins CW dx (putF "_without_rule" (.ref b2) (putF "_with_rule" (.ref b1) [])))) := fun b' ob n e => by rw [upd_ne n]; exact e
  have hx8 : (upd H7 x (.ins CW dx (putF "_without_rule" (.ref b2) (putF "_with_rule" (.ref b1) [])))) x = some (.ins CW dx (putF "_without_rule" (.ref b2) (putF "_with_rule" (.ref b1) []))) := upd_same
  have hB2 := hB2.keeps (SameX.keeps (N := N) x8 hx7 rfl)
  have hB1 := (hB1.keeps s7.keeps).keeps (SameX.keeps (N := N) x8 hx7 rfl)
  generalize upd H7 x (.ins CW dx (putF "_without_rule" (.ref b2) (putF "_with_rule" (.ref b1) []))) = H8 at x8 hx8 hB2 hB1 ⊢
  have x08 : SameX x H H8 := fun b' ob n e => x8 _ _ n (s7 _ _ (x06 _ _ n e))
  have ho8 := x08 _ _ nb ho
  have kn8 : Keeps NoL H H8 := SameX.keeps x08 hx rfl
  refine ⟨_, rfl, b, dxb, _, rfl, ho8, b, dxb, _, _, rfl, ho8, rfl, a, xs, rfl, kn8.tup hS, hrt, by omega, fun H9 L us9 s9 nL eL hus9 => ?_⟩
  have hx9 := s9 _ _ hx8
  refine ⟨_, rfl, x, CW, dx, _, rfl, hx9, T, n3, (by show 2 < 1000; decide), ?_⟩
  have nLx : L ≠ x := fun z => by rw [z, hx8] at nL; cases nL
  have x10 : SameX x H9 (upd H9 x (.ins CW dx (putF "_left" (.ref L) (putF "_without_rule" (.ref b2) (putF "_with_rule" (.ref b1) []))))) := fun b' ob n e => by rw [upd_ne n]; exact e
  have hx10 : (upd H9 x (.ins CW dx (putF "_left" (.ref L) (putF "_without_rule" (.ref b2) (putF "_with_rule" (.ref b1) []))))) x = some (.ins CW dx (putF "_left" (.ref L) (putF "_without_rule" (.ref b2) (putF "_with_rule" (.ref b1) [])))) := upd_same
  generalize upd H9 x (.ins CW dx (putF "_left" (.ref L) (putF "_without_rule" (.ref b2) (putF "_with_rule" (.ref b1) [])))) = H10 at x10 hx10 ⊢
  have x810 : SameX x H8 H10 := fun b' ob n e => x10 _ _ n (s9 _ _ e)
  have x010 : SameX x H H10 := fun b' ob n e => x810 _ _ n (x08 _ _ n e)
  refine ⟨(by show 0 ≤ sizeLine; exact Nat.zero_le _), fun S nS => ⟨_, rfl, x, CW, dx, putF "_left" (.ref L) (putF "_without_rule" (.ref b2) (putF "_with_rule" (.ref b1) [])), rfl, ?_, T, n4, (by show 3 < 1000; decide), ?_⟩⟩
  · rw [upd_ne (ne_of_none hx10 nS)]; exact hx10
  have nSx : S ≠ x := fun z => by rw [z, hx10] at nS; cases nS
  have hS8 : H8 S = none := by
    cases e : H8 S with
    | none => rfl
    | some ob => rw [x810 _ _ nSx e] at nS; cases nS
  have hS0 : H S = none := by
    cases e : H S with
    | none => rfl
    | some ob => rw [x08 _ _ nSx e] at hS8; cases hS8
  have xf : SameX x H9 (upd (upd H10 S (.lst [])) x (.ins CW dx (cwF b1 b2 L S))) := fun b' ob n e => by rw [upd_ne n, upd_ne (ne_of_none (x10 _ _ n e) nS)]; exact x10 _ _ n e
  have xf8 : SameX x H8 (upd (upd H10 S (.lst [])) x (.ins CW dx (cwF b1 b2 L S))) := fun b' ob n e => xf _ _ n (s9 _ _ e)
  have k8 : Keeps (fun l => N l ∧ l ≠ S) H8 (upd (upd H10 S (.lst [])) x (.ins CW dx (cwF b1 b2 L S))) := SameX.keeps xf8 hx8 rfl
  have k9 : Keeps NoL H9 (upd (upd H10 S (.lst [])) x (.ins CW dx (cwF b1 b2 L S))) := SameX.keeps xf hx9 rfl
  have g8 : ∀ l xs, N l → H8 l = some (.lst xs) → N l ∧ l ≠ S := fun l xs n e => ⟨n, fun z => by rw [z, hS8] at e; cases e⟩
  refine q _ S (fun b' ob n e => xf8 _ _ n (x08 _ _ n e)) hS0 ⟨dx, b1, b2, L, us9, [], upd_same, (hB1.re g8).keeps k8, (hB2.re g8).keeps k8, ⟨xf _ _ nLx eL, fun z => by subst z; rw [x10 _ _ nLx eL] at nS; cases nS⟩, hus9.mono fun _ _ z => z.keeps k9, by rw [upd_ne nSx]; exact upd_same, .nil⟩
def sp_cwCands (K : PySem.W.Frag) (C R B CW : Addr) : Sp := fun vs H Q _ => ∃ (N : Addr → Prop) (x S : Addr) (xs : List Str) (f1 f2 : RF) (rl : Str) (cs : List (List Str × List Str)) (recs : List CRec), vs = [.ref x] ∧ CwAt K C R B CW N H x S xs f1 f2 rl cs recs ∧ cs.length ≤ 1000 ∧ ∀ H' D us, Same H H' → H D = none → H' D = some (.lst us) → All2 (CnAt K C H') us cs → Q (.ref D) H'
theorem ok_cwCands {f : Addr} {fd : FuncData} (F : Fun K "candidates" "ConditionWatcher.candidates" s_ConditionWatcher_candidates f fd) (Bl : Blt mg) (T : Cls K CW) (n3 : NoAttr K CW "_left") : FnOk P w K mg base CX0 1 f fd ["self"] (sp_cwCands K C R B CW) := by
  refine F.ok sc_ConditionWatcher_candidates (fun vs H Q E h => by obtain ⟨N, x, S, xs, f1, f2, rl, cs, recs, rfl, _⟩ := h; rfl) (fun cdv A outer s H vs Q E hr h => ?_)
  obtain ⟨N, x, S, xs, f1, f2, rl, cs, recs, rfl, ⟨dx, w1, w2, L, us, vs, h1, h2, h2', ⟨h3, h3'⟩, h4, h5, h6⟩, hcl, q⟩ := h
  refine ⟨_, (pss_one (ps_ret (pe_callTy call_list_of (by rfl) Bl.b_list PyProof.Rows.boot_list (pa_cons (pe_fld (pv 0) rfl) pa_nil)))), ?_⟩
  refine ⟨_, rfl, x, CW, dx, _, _, rfl, h1, T, n3, rfl, L, us, rfl, .inl (sqL_of h3), fun D nD => ?_⟩
  have s1 : Same H (upd H D (.lst us)) := (Same.refl H).put nD
  exact q _ D us s1 nD upd_same (h4.mono fun _ _ z => z.keeps (N := NoL) s1.keeps)
def sp_cwRecs (K : PySem.W.Frag) (C R B CW : Addr) : Sp := fun vs H Q _ => ∃ (N : Addr → Prop) (x S : Addr) (xs : List Str) (f1 f2 : RF) (rl : Str) (cs : List (List Str × List Str)) (recs : List CRec), vs = [.ref x] ∧ CwAt K C R B CW N H x S xs f1 f2 rl cs recs ∧ recs.length ≤ 900 ∧ ∀ H' D vs, Same H H' → H D = none → H' D = some (.lst vs) → All2 (CRecAt K H') vs recs → Q (.ref D) H'
theorem ok_cwRecs {f : Addr} {fd : FuncData} (F : Fun K "records" "ConditionWatcher.records" s_ConditionWatcher_records f fd) (Bl : Blt mg) (T : Cls K CW) (n4 : NoAttr K CW "_seen") : FnOk P w K mg base CX0 1 f fd ["self"] (sp_cwRecs K C R B CW) := by
  refine F.ok sc_ConditionWatcher_records (fun vs H Q E h => by obtain ⟨N, x, S, xs, f1, f2, rl, cs, recs, rfl, _⟩ := h; rfl) (fun cdv A outer s H vs Q E hr h => ?_)
  obtain ⟨N, x, S, xs, f1, f2, rl, cs, recs, rfl, ⟨dx, w1, w2, L, us, vs, h1, h2, h2', ⟨h3, h3'⟩, h4, h5, h6⟩, hcl, q⟩ := h
  refine ⟨_, (pss_one (ps_ret (pe_callTy call_list_of (by rfl) Bl.b_list PyProof.Rows.boot_list (pa_cons (pe_fld (pv 0) rfl) pa_nil)))), ?_⟩
  refine ⟨_, rfl, x, CW, dx, _, _, rfl, h1, T, n4, rfl, S, vs, rfl, .inl (sqL_of h5), fun D nD => ?_⟩
  have s1 : Same H (upd H D (.lst vs)) := (Same.refl H).put nD
  exact q _ D vs s1 nD upd_same (h6.mono fun _ _ z => z.keeps (N := NoL) s1.keeps)
/-- what a case has by both books -/
def sp_cwOut (K : PySem.W.Frag) (C R B CW CC : Addr) : Sp := fun vs H Q E => ∃ (N : Addr → Prop) (x S c : Addr) (xs : List Str) (f1 f2 : RF) (rl : Str) (cs : List (List Str × List Str)) (recs : List CRec) (ks : List Str), vs = [.ref x, .ref c] ∧ CwAt K C R B CW N H x S xs f1 f2 rl cs recs ∧ f1.size ≤ 900 ∧ f2.size ≤ 900 ∧ f1.every NdOk ∧ f2.every NdOk ∧ SqT K H c (ks.map V.str) ∧ ks.length ≤ 1000 ∧
  (∀ i, firstOut xs ks = some i → errIx CC i H E) ∧ (firstOut xs ks = none → ∀ H' t t1 t2, Same H H' → H' t = some (.tup [.ref t1, .ref t2]) → H' t1 = some (.tup [.str (f1.ruled ks rl), optS (f1.decid ks)]) → H' t2 = some (.tup [.str (f2.ruled ks rl), optS (f2.decid ks)]) → Q (.ref t) H')
theorem ok_cwOut {f : Addr} {fd : FuncData} (F : Fun K "_outcomes" "ConditionWatcher._outcomes" s_ConditionWatcher__outcomes f fd) (Bl : Blt mg) (T : Cls K CW) (n1 : NoAttr K CW "_with_rule") (n2 : NoAttr K CW "_without_rule") (c_outcome : Cal P w K mg base (L2.CX P w) 12 "outcome" ["book", "case"] (sp_ask K C R B CC ansOut)) :
    FnOk P w K mg base (L2.CX P w) 13 f fd ["self", "case"] (sp_cwOut K C R B CW CC) := by
  refine F.okX sc_ConditionWatcher__outcomes (fun vs H Q E h => by obtain ⟨N, x, S, c, xs, f1, f2, rl, cs, recs, ks, rfl, _⟩ := h; rfl) (fun cdv A outer s H vs Q E hr h => ?_)
  obtain ⟨N, x, S, c, xs, f1, f2, rl, cs, recs, ks, rfl, ⟨dx, w1, w2, L, us, vs, h1, h2, h2', ⟨h3, h3'⟩, h4, h5, h6⟩, hz1, hz2, he1, he2, hc, hcl, hbad, q⟩ := h
  refine ⟨_, (pss_one (ps_ret (pe_tup (pa_cons (pe_calX c_outcome (hr.mono (by decide)) (takes_of rfl rfl rfl rfl) (pa_cons (pe_fld (pv 0) rfl) (pa_cons (pv 1) pa_nil))) (pa_cons (pe_calX c_outcome (hr.mono (by decide)) (takes_of rfl rfl rfl rfl) (pa_cons (pe_fld (pv 0) rfl) (pa_cons (pv 1) pa_nil))) pa_nil))))), ?_⟩
  refine ⟨_, rfl, x, CW, dx, _, _, rfl, h1, T, n1, rfl, _, rfl, _, w1, c, xs, f1, rl, ks, rfl, h2, hz1, he1, hc, hcl, hbad, fun hn H1 t1 s1 e1 => ?_⟩
  refine ⟨_, rfl, x, CW, dx, _, _, rfl, s1 _ _ h1, T, n2, rfl, _, rfl, _, w2, c, xs, f2, rl, ks, rfl, h2'.keeps s1.keeps, hz2, he2, s1.tup hc, hcl, (fun i hi => by rw [hn] at hi; cases hi), fun _ H2 t2 s2 e2 => ?_⟩
  refine ⟨(by show 2 ≤ sizeLine; rw [sizeLine_eq]; decide), fun t nt => ?_⟩
  have s3 : Same H2 (upd H2 t (.tup [.ref t1, .ref t2])) := (Same.refl H2).put nt
  exact q hn _ t t1 t2 ((s1.trans s2).trans s3) upd_same (s3 _ _ (s2 _ _ e1)) (s3 _ _ e2)
/-- the conditions that an observation leaves -/
def leftC (ks : List Str) (m u : Bool) (cs : List (List Str × List Str)) : List (List Str × List Str) := cs.filter fun q => if meets q.1 q.2 ks = true then m else u
theorem leftC_len {ks : List Str} {m u : Bool} (cs : List (List Str × List Str)) : (leftC ks m u cs).length ≤ cs.length := List.length_filter_le _ _
/-- what a watcher keeps beside itself -/
theorem cwKeeps {M : Addr → Prop} {H H' : Hp} {x dx w1 w2 L S : Addr} {vs : List V} (h1 : H x = some (.ins CW dx (cwF w1 w2 L S))) (h5 : H S = some (.lst vs)) (hM : ¬ M S) (fr : ∀ b' o, b' ≠ x → b' ≠ S → H b' = some o → H' b' = some o) : Keeps M H H' := fun b' o st e => by
  by_cases z1 : b' = x
  · subst z1
    rw [h1] at e
    cases e
    exact Bool.noConfusion ((rfl : DoneF (cwF w1 w2 L S) = false).symm.trans (st.2.1 _ _ _ rfl))
  by_cases z2 : b' = S
  · subst z2
    rw [h5] at e
    cases e
    exact absurd (st.1 _ rfl) hM
  exact fr _ _ z1 z2 e
def sp_cwAcc (K : PySem.W.Frag) (C R B CW CT : Addr) : Sp := fun vs H Q E => ∃ (N : Addr → Prop) (x S : Addr) (rv : V) (m u : Bool) (xs : List Str) (f1 f2 : RF) (rl : Str) (cs : List (List Str × List Str)) (recs : List CRec) (q : CRec), vs = [.ref x, rv, .bl m, .bl u] ∧ CwAt K C R B CW N H x S xs f1 f2 rl cs recs ∧ CRecAt K H rv q ∧ cs.length ≤ 1000 ∧ recs.length ≤ 900 ∧ (∀ c ∈ cs, c.1.length ≤ 1000 ∧ c.2.length ≤ 1000) ∧
  (leftC q.2.1 m u cs = [] → ∀ H', Same H H' → E (.ref CT) none H') ∧
  (leftC q.2.1 m u cs ≠ [] → ∀ H', (∀ b o, b ≠ x → b ≠ S → H b = some o → H' b = some o) → CwAt K C R B CW N H' x S xs f1 f2 rl (leftC q.2.1 m u cs) (recs ++ [q]) → Q (.int ((leftC q.2.1 m u cs).length : Nat)) H')
theorem ok_cwAcc {f : Addr} {fd : FuncData} (F : Fun K "_accept" "ConditionWatcher._accept" s_ConditionWatcher__accept f fd) (Bl : Blt mg) (T : Cls K CW) (n3 : NoAttr K CW "_left") (n4 : NoAttr K CW "_seen") (kW : CondW P w K mg base C) (c_check_left : Cal P w K mg base (L2.CX P w) 1 "check_left" ["left"] (sp_cleft CT)) :
    FnOk P w K mg base (L2.CX P w) 3 f fd ["self", "record", "met", "unmet"] (sp_cwAcc K C R B CW CT) := by
  refine F.okX sc_ConditionWatcher__accept (fun vs H Q E h => by obtain ⟨N, x, S, rv, m, u, xs, f1, f2, rl, cs, recs, q, rfl, _⟩ := h; rfl) (fun cdv A outer s H vs Q E hr h => ?_)
  obtain ⟨N, x, S, rv, m, u, xs, f1, f2, rl, cs, recs, q0, rfl, ⟨dx, w1, w2, L, us, vs, h1, h2, h2', ⟨h3, h3'⟩, h4, h5, h6⟩, hrec, hcl, hrl, hcs, qe, q⟩ := h
  refine ⟨_, (pss_cons (ps_set (i := 4) sc_ConditionWatcher__accept.nd rfl (Or.inr rfl) (pe_ix ix_tup (pv 1) pe_int (fun _ _ => rfl)))
      (pss_cons (ps_setLc (i := 5) (own := [("condition", 6)]) (g := gName 6) rfl sc_ConditionWatcher__accept.nd rfl rfl (sw_true rfl rfl rfl (by decide +kernel)) (pi_list (pe_fld (pv 0) rfl)) (blkOk_by (own := [("condition", 6)]) (N := ["self", "record", "met", "unmet", "case", "left", "condition"]) (sc := defScope s_ConditionWatcher__accept) (by decide +kernel)) (fun _ _ _ _ _ => (pg_name (i := 6) sc_ConditionWatcher__accept.nd rfl (Or.inl rfl))) (fun _ _ _ _ _ => (pts_.re (pts_one (pt_ifE (pt_val (pe_cK kW (hr.mono (by decide)) (pv 6) (pa_cons (pv 4) pa_nil))) (pt_val (pv 2)) (pt_val (pv 3)))) (by first | (dsimp only [Cx.blk]; done) | exact rfl))) (fun _ _ _ _ _ => (pe_.re (pv 6) (by first | (dsimp only [Cx.blk]; done) | exact rfl))))
      (pss_cons (ps_expr (pe_calX c_check_left (hr.mono (by decide)) (takes_of rfl rfl rfl rfl) (pa_cons (pv 5) pa_nil)))
      (pss_cons (ps_fld (pv 0) (pv 5) rfl)
      (pss_cons (ps_expr (pe_bm PySem.F.plainAttrs_list PySem.F.slot_list_append PySem.F.type_list_append mt_append (pe_fld (pv 0) rfl) (pa_cons (pv 1) pa_nil)))
      (pss_one (ps_ret (pe_callB call_len_seq (by rfl) Bl.b_len PySem.boot_len (pa_cons (pv 5) pa_nil))))))))), ?_⟩
  obtain ⟨tr, ca, rfl, htr, hca, hkl⟩ := id hrec
  refine ⟨_, rfl, tr, _, 1, _, rfl, rfl, htr, atI_nat (j := 1) rfl, ?_⟩
  refine ⟨_, rfl, x, CW, dx, _, _, rfl, h1, T, n3, rfl, L, rfl, ⟨_, sqL_of h3⟩, fun D nD => lc_it walk_list (fun i H' => Same H H' ∧ ∃ ws, H' D = some (.lst ws) ∧ All2 (CnAt K C H') ws (leftC q0.2.1 m u (cs.take i))) ⟨(Same.refl H).put nD, [], upd_same, .nil⟩ (fun _ _ _ h => sqL_of (h.1 _ _ h3)) ?_ ?_⟩
  · rintro i v Ha0 Ha hi ⟨sa, ws, ea, hws⟩ ⟨rfl, hv⟩
    obtain ⟨c, hci, o, rfl, hC⟩ := h4.get hv
    obtain ⟨l1, l2⟩ := hcs c (List.mem_of_getElem? hci)
    have hCa := hC.keeps (N := NoL) sa.keeps
    obtain ⟨dxc, wa, ba, nn, zs, hoc, _⟩ := id hCa
    have hwl := hws.len
    have hfl : (leftC q0.2.1 m u (cs.take i)).length ≤ 1000 := by
      have h1 := leftC_len (ks := q0.2.1) (m := m) (u := u) (cs.take i)
      rw [List.length_take] at h1
      omega
    have hm : leftC q0.2.1 m u (cs.take (i + 1)) = leftC q0.2.1 m u (cs.take i) ++ if (if meets c.1 c.2 q0.2.1 = true then m else u) = true then [c] else [] := by
      unfold leftC
      rw [take_more hci, List.filter_append]
      by_cases c1 : (if meets c.1 c.2 q0.2.1 = true then m else u) = true
      · rw [if_pos c1, List.filter_cons_of_pos (by exact c1), List.filter_nil]
      · rw [if_neg c1, List.filter_cons_of_neg (by exact c1), List.filter_nil]
    refine ⟨rfl, _, rfl, o, rfl, _, rfl, ⟨_, _, hoc⟩, o, ca, c.1, c.2, q0.2.1, rfl, hCa, sa.tup hca, l1, l2, fun H4 s4 => ?_⟩
    have ea4 := s4 _ _ ea
    have sa4 := sa.trans s4
    have hws4 : All2 (CnAt K C H4) ws _ := hws.mono fun _ _ z => z.keeps (N := NoL) s4.keeps
    have hC4 : CnAt K C H4 (.ref o) c := ⟨o, rfl, hCa.same s4⟩
    have done : ∀ b : Bool, (if meets c.1 c.2 q0.2.1 = true then m else u) = b → if b = true then ∃ a, H4 D = some (.lst a) ∧ a.length < sizeLine ∧ (Same H (upd H4 D (.lst (a ++ [.ref o]))) ∧ ∃ ws, (upd H4 D (.lst (a ++ [.ref o]))) D = some (.lst ws) ∧ All2 (CnAt K C (upd H4 D (.lst (a ++ [.ref o])))) ws (leftC q0.2.1 m u (cs.take (i + 1))))
        else Same H H4 ∧ ∃ ws, H4 D = some (.lst ws) ∧ All2 (CnAt K C H4) ws (leftC q0.2.1 m u (cs.take (i + 1))) := by
      intro b hb
      rw [hb] at hm
      cases b with
      | true =>
        rw [if_pos rfl] at hm ⊢
        have kk : Keeps NoL H4 (upd H4 D (.lst (ws ++ [.ref o]))) := keeps_own ea4 fun h => h
        refine ⟨ws, ea4, by rw [sizeLine_eq]; omega, sa4.put nD, ws ++ [.ref o], upd_same, ?_⟩
        rw [hm]
        exact all2_app (hws4.mono fun _ _ z => z.keeps kk) (.cons (hC4.keeps kk) .nil)
      | false =>
        rw [if_neg Bool.false_ne_true, List.append_nil] at hm
        rw [if_neg Bool.false_ne_true]
        exact ⟨sa4, ws, ea4, by rw [hm]; exact hws4⟩
    refine ⟨_, rfl, ?_⟩
    refine bcase (fun c1 => ?_) (fun c1 => ?_)
    · have h := done m (by rw [c1]; rfl)
      refine ⟨_, rfl, m, rfl, ?_⟩
      by_cases hb : m = true
      · rw [if_pos hb] at h ⊢
        exact ⟨_, rfl, h⟩
      · rw [if_neg hb] at h ⊢
        exact h
    · have h := done u (by rw [c1]; rfl)
      refine ⟨_, rfl, u, rfl, ?_⟩
      by_cases hb : u = true
      · rw [if_pos hb] at h ⊢
        exact ⟨_, rfl, h⟩
      · rw [if_neg hb] at h ⊢
        exact h
  rintro H4 ⟨s4, ws, e4, hws⟩
  rw [h4.len, List.take_length] at hws
  have hwl := hws.len
  refine ⟨_, rfl, D, ws, rfl, e4, fun hne => ?_, fun he => qe (by rw [he] at hwl; exact List.length_eq_zero_iff.mp hwl.symm) H4 s4⟩
  have q := q fun z => hne (by rw [z] at hwl; exact List.length_eq_zero_iff.mp hwl)
  have h14 := s4 _ _ h1
  refine ⟨_, rfl, _, rfl, x, CW, dx, _, rfl, h14, T, n3, (by show 4 < 1000; decide), ?_⟩
  have x5 : SameX x H4 (upd H4 x (.ins CW dx (cwF w1 w2 D S))) := fun b' ob n e => by rw [upd_ne n]; exact e
  have h15 : (upd H4 x (.ins CW dx (cwF w1 w2 D S))) x = some (.ins CW dx (cwF w1 w2 D S)) := upd_same
  have kS : S ≠ x := fun z => by rw [z, h1] at h5; cases h5
  show tSeq _ _ _ _ (upd H4 x (.ins CW dx (cwF w1 w2 D S)))
  generalize upd H4 x (.ins CW dx (cwF w1 w2 D S)) = H5 at x5 h15 ⊢
  have e5 := x5 _ _ kS (s4 _ _ h5)
  have hvl := h6.len
  refine ⟨_, rfl, x, CW, dx, _, _, rfl, h15, T, n4, rfl, (.inl ⟨rfl, vs, sqL_of e5⟩), _, rfl, S, vs, _, rfl, rfl, e5, (by rw [sizeLine_eq]; omega), ?_⟩
  have nDS : D ≠ S := fun z => by subst z; rw [h5] at nD; cases nD
  have nDx : D ≠ x := fun z => by subst z; rw [h1] at nD; cases nD
  have f6 : ∀ b' o, b' ≠ S → H5 b' = some o → (upd H5 S (.lst (vs ++ [.ref tr]))) b' = some o := fun b' o n e => by rw [upd_ne n]; exact e
  have m6 : (upd H5 S (.lst (vs ++ [.ref tr]))) S = some (.lst (vs ++ [.ref tr])) := upd_same
  generalize upd H5 S (.lst (vs ++ [.ref tr])) = H6 at f6 m6 ⊢
  have fr : ∀ b' o, b' ≠ x → b' ≠ S → H b' = some o → H6 b' = some o := fun b' o n1 n2 e => f6 _ _ n2 (x5 _ _ n1 (s4 _ _ e))
  have fr4 : ∀ b' o, b' ≠ x → b' ≠ S → H4 b' = some o → H6 b' = some o := fun b' o n1 n2 e => f6 _ _ n2 (x5 _ _ n1 e)
  have kk : Keeps (fun l => N l ∧ l ≠ S) H H6 := cwKeeps h1 h5 (fun z => z.2 rfl) fr
  have kn : Keeps NoL H H6 := cwKeeps h1 h5 (fun z => z) fr
  have k4 : Keeps NoL H4 H6 := cwKeeps h14 (s4 _ _ h5) (fun z => z) fr4
  have eD6 := fr4 _ _ nDx nDS e4
  have q := q H6 fr ⟨dx, w1, w2, D, ws, vs ++ [.ref tr], f6 _ _ (Ne.symm kS) h15, h2.keeps kk, h2'.keeps kk, ⟨eD6, nDS⟩, hws.mono fun _ _ z => z.keeps k4, m6, all2_app (h6.mono fun _ _ z => z.keeps kn) (.cons (hrec.keeps kn) .nil)⟩
  refine ⟨_, rfl, _, _, rfl, .inl (sqL_of eD6), ?_⟩
  rw [hwl]
  exact q
end
end Sc
namespace SetS
open PySem PySem.Spec PyProof.Rows L2
/-! ### sets of texts -/
def txt (e : Int × Value) : Str := match e.2 with | .str x _ => x | _ => ⟨#[]⟩
/-- an entry of a set of texts -/
def Ent (P : Program) (w : World) (e : Int × Value) : Prop := ∃ x t, e.2 = Value.str x t ∧ e.1 = (strKind P w).hash x
/-- the set at a has the texts zs, in some order -/
def TxtSet (P : Program) (w : World) (h : Heap) (a : Addr) (zs : List Str) : Prop :=
  ∃ o es ep t, (h.get? a = some o ∧ o.ExactSet ∧ o.data = .set es ep t) ∧ ((∀ e ∈ es.toList, Ent P w e) ∧ es.toList.map txt = zs ∧ zs.Nodup) ∧
    (es.size < scanBound ∧ t.fits es.size = true ∧ Ris t.place.toList ∧ (w.params.followText "set-order" = true ∨ t.led = true))
section
variable {P : Program} {w : World} {A : Around} {E : Value → Shared → Prop} {s : Shared} {h h' : Heap} {a : Addr} {zs : List Str}
theorem TxtSet.kept (R : TxtSet P w h a zs) (k : ∀ o, h.get? a = some o → h'.get? a = some o) : TxtSet P w h' a zs := by
  obtain ⟨o, es, ep, t, ⟨ho, q⟩, r⟩ := R
  exact ⟨o, es, ep, t, ⟨k o ho, q⟩, r⟩
theorem ent_is {e : Int × Value} (g : Ent P w e) (x : Str) : (strKind P w).is x e.2 = true ↔ txt e = x := by
  obtain ⟨y, t, e1, _⟩ := g
  unfold txt
  rw [e1]
  constructor
  · intro q
    obtain ⟨u, q⟩ := Value.isStrOf_shape (show Value.isStrOf x (Value.str y t) = true from q)
    cases q
    rfl
  · rintro rfl
    exact strKind_is P w y t
theorem ent_elems {l : List (Int × Value)} (g : ∀ e ∈ l, Ent P w e) : ElemsOf (strKind P w) l := fun e he => by
  obtain ⟨x, t, h1, h2⟩ := g e he
  refine ⟨⟨x, ?_, h2⟩, ?_⟩
  · rw [h1]; exact strKind_is P w x t
  · rw [h1]; rfl
theorem mem_txt {l : List (Int × Value)} (g : ∀ e ∈ l, Ent P w e) (x : Str) : x ∈ l.map txt ↔ ∃ e ∈ l, (strKind P w).is x e.2 = true := by
  rw [List.mem_map]
  exact ⟨fun ⟨e, he, q⟩ => ⟨e, he, (ent_is (g e he) x).mpr q⟩, fun ⟨e, he, q⟩ => ⟨e, he, (ent_is (g e he) x).mp q⟩⟩
/-- the rows are laid, and all anew where the table is too full -/
theorem lay {gv : Bool → Sem Unit} (hg : ∀ (b : Bool) (s₁ : Shared) (Q' : Unit → Shared → Prop), Q' () s₁ → wpAny (model P w) A (gv b) Q' E s₁)
    {o : Obj} {es : Array (Int × Value)} {ep : Nat} {t : SetTable} (ho : s.heap.get? a = some o) (hex : o.ExactSet) (hd : o.data = .set es ep t)
    {es1 : Array (Int × Value)} {t2 : SetTable} (g1 : ∀ e ∈ es1.toList, Ent P w e) (nd1 : (es1.toList.map txt).Nodup) (hb1 : es1.size < scanBound) (hf2 : t2.fits es1.size = true) (hr : Ris t2.place.toList)
    (hl : w.params.followText "set-order" = true ∨ t2.led = true) {wd : Bool} {R : Option Bool → Shared → Prop}
    (hR : ∀ h' zs', Heap.SameBut a s.heap h' → TxtSet P w h' a zs' → zs'.Perm (es1.toList.map txt) → R (some true) { s with heap := h' }) :
    wpAny (model P w) A (do
        storeSet a es1 t2
        if (!wd && t2.tooFull) = true then do
            gv (relayAll t2 es1 (SetTable.grown es1.size)).2.2
            storeSet a (relayAll t2 es1 (SetTable.grown es1.size)).1 (relayAll t2 es1 (SetTable.grown es1.size)).2.1
            pure (some true)
          else pure (some true)) R E s := by
  have o1 := store_at (es' := es1) (t' := t2) ho hd
  have b1 := Heap.SameBut.update s.heap a (Obj.putSet es1 t2)
  refine wpAny_bind (wpAny_storeSet_of ho hd ?_ (fits_of_scanBound hb1))
  split
  · have p3 := relayAll_perm t2 es1 (SetTable.grown es1.size)
    have f3 := relayAll_fits t2 es1 (SetTable.grown es1.size)
    have r3 := relayAll_ris t2 es1 (SetTable.grown es1.size)
    have l3 := relayAll_led t2 es1 (SetTable.grown es1.size)
    rcases hz : relayAll t2 es1 (SetTable.grown es1.size) with ⟨es2, t3, gave⟩
    rw [hz] at p3 f3 r3 l3
    dsimp only at p3 f3 r3 l3 ⊢
    have z3 : es2.size < scanBound := by rw [← Array.length_toList, p3.length_eq, Array.length_toList]; exact hb1
    refine wpAny_bind (hg _ _ _ (wpAny_bind (wpAny_storeSet_of o1 rfl ?_ (fits_of_scanBound z3))))
    refine wpAny_pure (hR _ _ (b1.trans (Heap.SameBut.update _ a _)) ⟨_, es2, _, t3, ⟨store_at (es' := es2) (t' := t3) o1 rfl, hex, rfl⟩, ⟨fun e he => g1 e (p3.mem_iff.mp he), rfl, (p3.map txt).nodup_iff.mpr nd1⟩, z3, f3, r3, hl.imp id fun z => by rw [l3]; exact z⟩ (p3.map txt))
  · exact wpAny_pure (hR _ _ b1 ⟨_, es1, _, t2, ⟨o1, hex, rfl⟩, ⟨g1, rfl, nd1⟩, hb1, hf2, hr, hl⟩ (List.Perm.refl _))
/-- a text is put in -/
theorem add {x : Str} {tk : Tok} {Q : Bool → Shared → Prop} (R : TxtSet P w s.heap a zs) (room : zs.length + 1 < scanBound)
    (hQ : ∀ b h' zs', Heap.SameBut a s.heap h' → TxtSet P w h' a zs' → (∀ y, y ∈ zs' ↔ y ∈ zs ∨ y = x) → zs'.length ≤ zs.length + 1 → Q b { s with heap := h' }) :
    wpAny (model P w) A (setAddHashed a (.str x tk) ((strKind P w).hash x)) Q E s := by
  obtain ⟨o, es, ep, t, ⟨ho, hex, hd⟩, ⟨g, rfl, nd⟩, hb, hf, hr, hl⟩ := R
  have hk : (strKind P w).is x (.str x tk) = true := strKind_is P w x tk
  have hc : (Value.str x tk).scannable = true := rfl
  have el : ElemsOf (strKind P w) es.toList := ent_elems g
  unfold setAddHashed setAddHashedIn
  refine wpAny_holding (wpAny_bind (wpAny_setState_of ho hd hf ?_))
  dsimp only
  rw [byScan_of hc hb el]
  simp only [↓reduceIte]
  unfold setAddByScan
  refine wpAny_bind (wpAny_bind (wpAny_rule (wpAny_bind (wpAny_setScan_of hk ho hd hf el ?_))))
  cases hfi : List.findIdx? (fun e => (strKind P w).is x e.2) es.toList with
  | some j =>
    obtain ⟨hj, pj, _⟩ := List.findIdx?_eq_some_iff_getElem.mp hfi
    have hx : x ∈ es.toList.map txt := (mem_txt g x).mpr ⟨_, List.getElem_mem hj, pj⟩
    dsimp only
    exact wpAny_pure (wpAny_pure (hQ _ s.heap _ (Heap.SameBut.refl a s.heap) ⟨o, es, ep, t, ⟨ho, hex, hd⟩, ⟨g, rfl, nd⟩, hb, hf, hr, hl⟩ (fun y => ⟨.inl, fun z => z.elim id fun e => e ▸ hx⟩) (Nat.le_succ _)))
  | none =>
    have nx : x ∉ es.toList.map txt := fun z => by
      obtain ⟨e, he, q⟩ := (mem_txt g x).mp z
      have c := List.findIdx?_eq_none_iff.mp hfi e he
      rw [q] at c
      cases c
    have gw : ∀ (b : Bool) {s₁ : Shared} {Q' : Unit → Shared → Prop}, Q' () s₁ → wpAny (model P w) A (match b with | true => rule "set.scan.the-table-gave-way" | false => pure ()) Q' E s₁ := by
      intro b s₁ Q' q
      cases b
      · exact wpAny_pure q
      · exact wpAny_rule q
    have p1 := layNew_perm t es ((strKind P w).hash x) (.str x tk)
    have f1 := layNew_fits t es ((strKind P w).hash x) (.str x tk)
    have r1 := layNew_ris t es ((strKind P w).hash x) (.str x tk) hr
    have l1 := layNew_led t es ((strKind P w).hash x) (.str x tk)
    dsimp only
    rcases hz : layNew t es ((strKind P w).hash x) (.str x tk) with ⟨es1, t1, wd, gave⟩
    rw [hz] at p1 f1 r1 l1
    dsimp only at p1 f1 r1 l1 ⊢
    rw [Array.toList_push] at p1
    have p2 : es1.toList.Perm (((strKind P w).hash x, Value.str x tk) :: es.toList) := p1.trans (List.perm_append_singleton _ _)
    have p3 : (es1.toList.map txt).Perm (x :: es.toList.map txt) := p2.map txt
    have g1 : ∀ e ∈ es1.toList, Ent P w e := fun e he => by
      rcases List.mem_cons.mp (p2.mem_iff.mp he) with z | z
      · rw [z]; exact ⟨x, tk, rfl, rfl⟩
      · exact g e z
    have nd1 : (es1.toList.map txt).Nodup := p3.nodup_iff.mpr (List.nodup_cons.mpr ⟨nx, nd⟩)
    have hb1 : es1.size < scanBound := by
      have e1 := p2.length_eq
      rw [Array.length_toList, List.length_cons] at e1
      rw [List.length_map] at room
      omega
    have hl1 : w.params.followText "set-order" = true ∨ t1.led = true := hl.imp id fun z => by rw [l1]; exact z
    have fin : ∀ b h' zs', Heap.SameBut a s.heap h' → TxtSet P w h' a zs' → zs'.Perm (es1.toList.map txt) → Q b { s with heap := h' } := fun b h' zs' sb r p => by
      have p := p.trans p3
      refine hQ b h' zs' sb r (fun y => ?_) (Nat.le_of_eq p.length_eq)
      rw [p.mem_iff, List.mem_cons]
      exact Or.comm
    refine wpAny_bind (gw _ ?_)
    split
    · refine wpAny_bind ?_
      rw [hashByValue_scannable 8 hc]
      refine wpAny_pure (lay ?_ ho hex hd g1 nd1 hb1 ?_ ?_ ?_ ?_)
      · intro b s₁ Q' q
        cases b
        · exact wpAny_pure q
        · exact wpAny_rule q
      · first | (split <;> first | exact f1 | exact SetTable.fits_plain_off f1) | exact f1
      · first | (split <;> exact r1) | exact r1
      · first | (split <;> exact hl1) | exact hl1
      · exact fun h' zs' sb r p => wpAny_pure (fin _ h' zs' sb r p)
    · refine wpAny_bind (wpAny_pure ?_)
      simp only [↓reduceIte]
      refine lay ?_ ho hex hd g1 nd1 hb1 f1 r1 hl1 ?_
      · intro b s₁ Q' q
        cases b
        · exact wpAny_pure q
        · exact wpAny_rule q
      · exact fun h' zs' sb r p => wpAny_pure (fin _ h' zs' sb r p)

theorem fresh {h : Heap} (ho : h.get? a = some { cls := .type "set", dict := none, data := .set #[] 0 (.fresh 0 0 (!w.params.followText "set-order")) }) : TxtSet P w h a [] := by
  refine ⟨_, #[], 0, _, ⟨ho, ⟨rfl, rfl, rfl⟩, rfl⟩, ⟨(fun e he => by simp at he), rfl, List.nodup_nil⟩, by decide, rfl, List.Pairwise.nil, ?_⟩
  show _ ∨ (!w.params.followText "set-order") = true
  cases w.params.followText "set-order"
  · exact .inr rfl
  · exact .inl rfl
/-- what has been met of the texts is in the set -/
def Met (ss : List Str) (i : Nat) (zs : List Str) : Prop := (∀ y, y ∈ zs ↔ y ∈ ss.take i) ∧ zs.length ≤ i
theorem update {I : Addr} {fp wr : List Addr} {G : Array GenState → Array GenState → Prop} {n : Nat} {Pv : Nat → Value → Prop} {St : Nat → Shared → Prop} {R : Result → Shared → Prop}
    (W : WalksS P w A.in1 I fp wr G n Pv St) (S : Addr) (hS : S ∉ fp) (ss : List Str) (hn : n = ss.length) (hb : ss.length + 1 < scanBound) (hv : ∀ i v, Pv i v → ∃ x t, ss[i]? = some x ∧ v = .str x t)
    (fin : ∀ (s0 s' : Shared) zs, Moved (S :: wr) G s0 s' → TxtSet P w s'.heap S zs → Met ss n zs → s0 = s → R (.ok (.ret .none)) s') :
    ∀ (k i : Nat) (s1 : Shared), n - i = k → i ≤ n → St i s1 → (∃ zs, TxtSet P w s1.heap S zs ∧ Met ss i zs) → (∀ s', Moved (S :: wr) G s1 s' → Moved (S :: wr) G s s') →
      codeAny (model P w) A (.builtin "set.update.loop" ⟨[.ref S, .ref I], []⟩) R s1 := by
  have out : S ∉ wr := fun z => hS (W.sub _ z)
  have more : ∀ b ∈ wr, b ∈ S :: wr := fun b z => List.mem_cons_of_mem _ z
  intro k
  induction k with
  | zero =>
    intro i s1 hk hi hst ⟨zs, hz, m⟩ gone
    obtain rfl : i = n := by omega
    refine codeAny_builtin F.entry_set_update_loop ?_
    rw [Around.under_plainId F.plain_set_update_loop _]
    show wpAny _ A.in1 (pyNext (.ref I) >>= _) _ _ s1
    refine wpAny_bind (W.done s1 _ _ hst fun s2 mv => ?_)
    show wpAny _ A.in1 (ret Value.none) _ _ s2
    exact wpAny_pure (fin s s2 zs (gone s2 (mv.mono more)) (hz.kept fun o e => mv.heap S o out e) m rfl)
  | succ k ih =>
    intro i s1 hk hi hst ⟨zs, hz, m⟩ gone
    have lt : i < n := by omega
    refine codeAny_builtin F.entry_set_update_loop ?_
    rw [Around.under_plainId F.plain_set_update_loop _]
    show wpAny _ A.in1 (pyNext (.ref I) >>= _) _ _ s1
    refine wpAny_bind (W.item i s1 _ _ lt hst fun v s2 hp hst2 mv => ?_)
    obtain ⟨x, t, hx, rfl⟩ := hv i v hp
    have hz2 := hz.kept (h' := s2.heap) fun o e => mv.heap S o out e
    show wpAny _ A.in1 (holding [Value.str x t] (setAdd S (.str x t)) >>= _) _ _ s2
    refine wpAny_bind (wpAny_holding ?_)
    unfold setAdd
    refine wpAny_holding (wpAny_bind ((strKind P w).pyHash (k := x) (strKind_is P w x t) ?_))
    have ml := m.2
    refine add (s := { s2 with toks := s2.toks + 1 }) hz2 (by omega) fun b h3 zs3 sb hz3 mem len => ?_
    have m3 : Met ss (i + 1) zs3 := by
      refine ⟨fun y => ?_, by omega⟩
      rw [mem, m.1, List.take_add_one, hx, List.mem_append]
      simp
    have mv3 : Moved (S :: wr) G s1 { s2 with heap := h3, toks := s2.toks + 1 } := (mv.mono more).then_heap (Nat.le_succ _) fun b o hb e => by
      rw [sb.2 b fun z => hb (by rw [z]; exact List.mem_cons_self)]
      exact e
    refine wpAny_pure ⟨plainId_quiet F.plain_set_update_loop _, ih (i + 1) _ (by omega) lt (W.frame _ s2 _ _ hst2 (Nat.le_succ _) fun b hb o e => ?_) ⟨zs3, hz3, m3⟩ fun s' h => gone s' (Moved.trans W.gtrans mv3 h)⟩
    rw [sb.2 b fun z => hS (by rw [← z]; exact hb)]
    exact e

/-- an empty set's object -/
abbrev emp (w : World) : Obj := { cls := .type "set", dict := none, data := .set #[] 0 (.fresh 0 0 (!w.params.followText "set-order")) }
set_option maxRecDepth 100000 in
set_option maxHeartbeats 3200000 in
/-- set(x): the set is made, and filled by its __init__ -/
theorem made {x : Value} {Z : Shared → Prop} {Q : Value → Shared → Prop}
    (hi : wpAny (model P w) A.in1.in1 (Builtin.«set.__init__» ⟨[.ref s.heap.objs.size, x], []⟩)
      (fun fin s' => match fin with | .done f => wants (fun r s₂ => r = .none ∧ Z s₂) E (.ok f) s' | .again c' => c'.quiet = true ∧ codeAny (model P w) A.in1 c' (wants (fun r s₂ => r = .none ∧ Z s₂) E) s')
      (fun e s' => wants (fun r s₂ => r = .none ∧ Z s₂) E (.error e) s') { s with heap := s.heap.push (emp w) })
    (hq : ∀ s₂, Z s₂ → Q (.ref s.heap.objs.size) s₂) : wpAny (model P w) A (call (.type "set") [x]) Q E s := by
  have cf := F.called_set
  obtain ⟨c, tl, mro⟩ := cf.mro
  have q1 := cf.made
  have q2 := cf.sub
  have q3 := cf.notType
  have q4 := cf.canCreate
  have q5 := F.typeCall_set_1 x
  have q6 := cf.init.lookup
  have q7 := cf.init.bind (.ref s.heap.objs.size)
  refine wpAny_call (codeAny_of_tree ?_)
  show wpAny _ _ (callAny (.type "set") _) _ _ _
  refine wpAny_pure ⟨Code.quiet_builtin _ (by decide +kernel), codeAny_builtin F.entry_type_call ?_⟩
  rw [Around.under_plain (weight_type_call_type "set" [x] []) rfl]
  repeat (any_goals (first | assumption | wp_step))
  have new := code_set_led1 (P := P) (w := w) (A := A.in1) (s := s) (E := E) x (Q₁ := fun obj s₁ => obj = .ref s.heap.objs.size ∧ s₁ = { s with heap := s.heap.push (emp w) }) ⟨rfl, rfl⟩
  refine codeAny_mono new fun r s₁ hr => ?_
  rcases r with e | fl
  · exact hr
  rcases fl with _ | obj | _ | _
  all_goals first | exact hr.elim | skip
  obtain ⟨rfl, rfl⟩ := hr
  have isS : Shared.TypeIs { s with heap := s.heap.push (emp w) } (.ref s.heap.objs.size) "set" := ⟨_, Heap.get?_push_size _ rfl, rfl⟩
  repeat (any_goals (first | assumption | wp_step))
  refine codeAny_mono (codeAny_call_builtin (R := wants (fun r s₂ => r = .none ∧ Z s₂) E) cf.init.plain F.entry_set_init (check_set_init_1 isS hi)) fun r₂ s₂ hr₂ => ?_
  rcases r₂ with e | fl₂
  · exact hr₂
  rcases fl₂ with _ | r | _ | _
  all_goals first | exact hr₂.elim | skip
  obtain ⟨rfl, z⟩ := hr₂
  repeat (any_goals (first | assumption | wp_step))
  exact hq _ z

theorem strs_at : ∀ {vs : List Value} {ss : List Str}, StrsAre vs ss → ∀ (i : Nat) (v : Value), vs[i]? = some v → ∃ x t, ss[i]? = some x ∧ v = .str x t
  | _, _, .cons y t r, 0, v, e => ⟨y, t, rfl, (Option.some.inj e).symm⟩
  | _, _, .cons y t r, i + 1, v, e => strs_at r i v e

set_option maxRecDepth 100000 in
set_option maxHeartbeats 3200000 in
/-- set(xs), xs a tuple of texts -/
theorem of_tuple {l : Addr} {items : Array Value} {ss : List Str} {Q : Value → Shared → Prop} (hh : A.handled = none) (hl : s.heap.IsTuple l items) (hit : StrsAre items.toList ss) (hb : ss.length + 1 < scanBound)
    (hq : ∀ (h' : Heap) (tk : Nat) zs, TxtSet P w h' s.heap.objs.size zs → Met ss ss.length zs → (∀ b o, s.heap.get? b = some o → h'.get? b = some o) → Q (.ref s.heap.objs.size) { s with heap := h', toks := tk }) :
    wpAny (model P w) A (call (.type "set") [.ref l]) Q E s := by
  have hn : items.size = ss.length := by
    have q := StrsAre.length hit
    rw [Array.length_toList] at q
    exact q
  refine made (Z := fun s₂ => ∃ h' tk zs, s₂ = { s with heap := h', toks := tk } ∧ TxtSet P w h' s.heap.objs.size zs ∧ Met ss ss.length zs ∧ ∀ b o, s.heap.get? b = some o → h'.get? b = some o) ?_ fun s₂ hz => ?_
  · obtain ⟨ol, hol, hc, nl, hd⟩ := hl
    obtain ⟨ocl, odi, oda, osl⟩ := ol
    simp only at hc hd
    subst hc
    subst hd
    have S0 : (s.heap.push (emp w)).get? s.heap.objs.size = some (emp w) := Heap.get?_push_size _ rfl
    have isS : Shared.TypeIs { s with heap := s.heap.push (emp w) } (.ref s.heap.objs.size) "set" := ⟨_, S0, rfl⟩
    have hol' : (s.heap.push (emp w)).get? l = some { cls := .type "tuple", dict := odi, data := .seq items nl, slots := osl } := Heap.get?_push_of_some _ hol
    have n1 := F.sub_tuple_set
    have n2 := F.sub_tuple_frozenset
    have n3 : (Value.type "tuple" == Value.type "dict") = false := by decide
    have hl1 : (s.heap.push (emp w)).IsTuple l items := ⟨_, hol', rfl, nl, rfl⟩
    unfold Builtin.«set.__init__» noKeywords Builtin.Frozenset.updateFrom
    generalize hPI : pyIter = PI
    wp_walk
    subst hPI
    refine wpAny_pyIter_tuple hl1 (wpAny_bind (wpAny_runValue ?_))
    have lt0 : l < s.heap.objs.size := Heap.lt_size hol
    have hh3 : A.in1.in1.in1.handled = none := by simp [hh]
    have nI : l ≠ (s.heap.push (emp w)).objs.size := by
      rw [Heap.size_push]
      exact Nat.ne_of_lt (Nat.lt_succ_of_lt lt0)
    have nS : s.heap.objs.size ∉ [(s.heap.push (emp w)).objs.size, l] := by
      rw [Heap.size_push]
      simp only [List.mem_cons, List.not_mem_nil, or_false, not_or]
      exact ⟨Nat.ne_of_lt (Nat.lt_succ_self _), Nat.ne_of_gt lt0⟩
    have hv : ∀ (i : Nat) (v : Value), items[i]? = some v → ∃ x t, ss[i]? = some x ∧ v = .str x t := fun i v e => by
      rw [← Array.getElem?_toList] at e
      exact strs_at hit i v e
    refine update (s := { s with heap := (s.heap.push (emp w)).push { cls := .type "tuple_iterator", data := .fields #[.ref l, .int 0 0] } }) ((Walks.tuple hh3 _ l nI items).toS) s.heap.objs.size nS ss hn hb hv
      (fun s0 s' zs mv hz m e0 => ?_) (items.size - 0) 0 _ (by omega) (Nat.zero_le _) ⟨⟨_, Heap.get?_push_size _ rfl, rfl, rfl⟩, hl1.push _⟩ ⟨[], fresh (Heap.get?_push_of_some _ S0), fun y => (by simp), Nat.le_refl 0⟩ (fun _ z => z)
    subst e0
    obtain ⟨h', g2, d', tk', os'⟩ := s'
    obtain rfl : g2 = s.gens := mv.gens
    obtain rfl : d' = s.drawn := mv.drawn
    obtain rfl : os' = s.os := mv.os
    show wpAny _ _ _ _ _ _
    refine wpAny_pure ?_
    show wpAny _ _ (ret Value.none) _ _ _
    rw [hn] at m
    refine wpAny_pure ⟨rfl, h', tk', zs, rfl, hz, m, fun b o e => ?_⟩
    have lb : b < s.heap.objs.size := Heap.lt_size e
    refine mv.heap b o ?_ (Heap.get?_push_of_some _ (Heap.get?_push_of_some _ e))
    simp only [List.mem_cons, List.not_mem_nil, or_false, not_or]
    refine ⟨Nat.ne_of_lt lb, ?_⟩
    rw [Heap.size_push]
    exact Nat.ne_of_lt (Nat.lt_succ_of_lt lb)
  · obtain ⟨h', tk, zs, rfl, hz, m, k⟩ := hz
    exact hq h' tk zs hz m k

set_option maxRecDepth 100000 in
set_option maxHeartbeats 3200000 in
/-- set(xs), xs a list of texts -/
theorem of_list {l : Addr} {items : Array Value} {ss : List Str} {Q : Value → Shared → Prop} (hh : A.handled = none) (hl : s.heap.IsList l items) (hit : StrsAre items.toList ss) (hb : ss.length + 1 < scanBound)
    (hq : ∀ (h' : Heap) (tk : Nat) zs, TxtSet P w h' s.heap.objs.size zs → Met ss ss.length zs → (∀ b o, s.heap.get? b = some o → h'.get? b = some o) → Q (.ref s.heap.objs.size) { s with heap := h', toks := tk }) :
    wpAny (model P w) A (call (.type "set") [.ref l]) Q E s := by
  have hn : items.size = ss.length := by
    have q := StrsAre.length hit
    rw [Array.length_toList] at q
    exact q
  refine made (Z := fun s₂ => ∃ h' tk zs, s₂ = { s with heap := h', toks := tk } ∧ TxtSet P w h' s.heap.objs.size zs ∧ Met ss ss.length zs ∧ ∀ b o, s.heap.get? b = some o → h'.get? b = some o) ?_ fun s₂ hz => ?_
  · obtain ⟨ol, hol, hc, nl, hd⟩ := hl
    obtain ⟨ocl, odi, oda, osl⟩ := ol
    simp only at hc hd
    subst hc
    subst hd
    have S0 : (s.heap.push (emp w)).get? s.heap.objs.size = some (emp w) := Heap.get?_push_size _ rfl
    have isS : Shared.TypeIs { s with heap := s.heap.push (emp w) } (.ref s.heap.objs.size) "set" := ⟨_, S0, rfl⟩
    have hol' : (s.heap.push (emp w)).get? l = some { cls := .type "list", dict := odi, data := .seq items nl, slots := osl } := Heap.get?_push_of_some _ hol
    have n1 := F.sub_list_set
    have n2 := F.sub_list_frozenset
    have n3 : (Value.type "list" == Value.type "dict") = false := by decide
    have hl1 : (s.heap.push (emp w)).IsList l items := ⟨_, hol', rfl, nl, rfl⟩
    unfold Builtin.«set.__init__» noKeywords Builtin.Frozenset.updateFrom
    generalize hPI : pyIter = PI
    wp_walk
    subst hPI
    refine wpAny_pyIter_list hl1 (wpAny_bind (wpAny_runValue ?_))
    have lt0 : l < s.heap.objs.size := Heap.lt_size hol
    have hh3 : A.in1.in1.in1.handled = none := by simp [hh]
    have nI : l ≠ (s.heap.push (emp w)).objs.size := by
      rw [Heap.size_push]
      exact Nat.ne_of_lt (Nat.lt_succ_of_lt lt0)
    have nS : s.heap.objs.size ∉ [(s.heap.push (emp w)).objs.size, l] := by
      rw [Heap.size_push]
      simp only [List.mem_cons, List.not_mem_nil, or_false, not_or]
      exact ⟨Nat.ne_of_lt (Nat.lt_succ_self _), Nat.ne_of_gt lt0⟩
    have hv : ∀ (i : Nat) (v : Value), items[i]? = some v → ∃ x t, ss[i]? = some x ∧ v = .str x t := fun i v e => by
      rw [← Array.getElem?_toList] at e
      exact strs_at hit i v e
    refine update (s := { s with heap := (s.heap.push (emp w)).push { cls := .type "list_iterator", data := .fields #[.ref l, .int 0 0] } }) ((Walks.list hh3 _ l nI items).toS) s.heap.objs.size nS ss hn hb hv
      (fun s0 s' zs mv hz m e0 => ?_) (items.size - 0) 0 _ (by omega) (Nat.zero_le _) ⟨⟨_, Heap.get?_push_size _ rfl, rfl, rfl⟩, hl1.push _⟩ ⟨[], fresh (Heap.get?_push_of_some _ S0), fun y => (by simp), Nat.le_refl 0⟩ (fun _ z => z)
    subst e0
    obtain ⟨h', g2, d', tk', os'⟩ := s'
    obtain rfl : g2 = s.gens := mv.gens
    obtain rfl : d' = s.drawn := mv.drawn
    obtain rfl : os' = s.os := mv.os
    show wpAny _ _ _ _ _ _
    refine wpAny_pure ?_
    show wpAny _ _ (ret Value.none) _ _ _
    rw [hn] at m
    refine wpAny_pure ⟨rfl, h', tk', zs, rfl, hz, m, fun b o e => ?_⟩
    have lb : b < s.heap.objs.size := Heap.lt_size e
    refine mv.heap b o ?_ (Heap.get?_push_of_some _ (Heap.get?_push_of_some _ e))
    simp only [List.mem_cons, List.not_mem_nil, or_false, not_or]
    refine ⟨Nat.ne_of_lt lb, ?_⟩
    rw [Heap.size_push]
    exact Nat.ne_of_lt (Nat.lt_succ_of_lt lb)
  · obtain ⟨h', tk, zs, rfl, hz, m, k⟩ := hz
    exact hq h' tk zs hz m k
end
end SetS
namespace SetS
open PySem PySem.Spec PyProof.Rows L2
section
variable {P : Program} {w : World} {A : Around} {E : Value → Shared → Prop} {s : Shared} {a : Addr} {zs : List Str}
/-- sorted(set) -/
theorem sorted_ {Q : Value → Shared → Prop} (R : TxtSet P w s.heap a zs) (hh : A.handled = none)
    (hq : ∀ s' p (out : Array Value) (c : Nat) ys, (∀ b o, s.heap.get? b = some o → s'.heap.get? b = some o) → s'.gens = s.gens → s'.os = s.os → s.heap.objs.size ≤ p → s'.heap.get? p = some (seqObj "list" out c) →
      StrsAre out.toList ys → ys.Perm zs → sortedS ys = true → Q (.ref p) s') : wpAny (model P w) A (call (.builtin "sorted") [.ref a]) Q E s := by
  obtain ⟨o, es, ep, t, ⟨ho, hex, hd⟩, ⟨g, rfl, nd⟩, hb, hf, hr, hl⟩ := R
  refine Calls.call_function_entry kind_sorted plain_sorted entry_sorted (args_sorted1 _) ?_
  unfold Builtin.«sorted»
  refine wpAny_bind (m := checkCount "sorted" 1 1 _) (wpAny_pure ?_)
  refine wpAny_bind (collect_set (A := A.in1) hh ⟨o, ho, hex.1, hd⟩ hf hb hr hl fun s1 vs k1 z1 g1 o1 pm => ?_)
  have all : ∀ v, v ∈ vs → ∃ x t, v = Value.str x t := fun v hv => by
    obtain ⟨e, he, q⟩ := List.mem_map.mp (pm.mem_iff.mp hv)
    obtain ⟨x, t, h1, _⟩ := g e he
    exact ⟨x, t, by rw [← q]; exact h1⟩
  have sv := strsAre_map vs all
  have pz : (vs.map strOf).Perm (es.toList.map txt) := by
    have q := pm.map strOf
    rw [List.map_map] at q
    refine q.trans (List.Perm.of_eq (List.map_congr_left fun e he => ?_))
    obtain ⟨x, t, h1, _⟩ := g e he
    show strOf e.2 = txt e
    unfold txt
    rw [h1]
    rfl
  have vl : vs.length ≤ sizeLine := by
    rw [pm.length_eq, List.length_map, Array.length_toList]
    exact fits_of_scanBound hb
  refine wpAny_bind (wpAny_newList ?_ vl)
  have oL : (s1.heap.push (seqObj "list" vs.toArray 0)).get? s1.heap.objs.size = some (seqObj "list" vs.toArray 0) := Heap.get?_push_size _ rfl
  refine wpAny_bind (wpAny_holding (wpAny_call_entry slot_list_sort ⟨_, oL, rfl⟩ entry_list_sort
    (list_sort_treeKAny strKind_oneLt oL sv.keysOf (fun v₁ v₂ rest e => keyKind_strs (by rw [← e]; exact sv)) vl fun st hp hs => ⟨_, rfl, ?_⟩) (args_list_sort _)))
  obtain ⟨ys, y1, y2, y3⟩ := sorted_out_str sv hp hs
  obtain ⟨c, hc⟩ := sortedHeap_at (vs := vs) (out := (arrOf st).map (·.2)) oL
  refine wpAny_pure ⟨_, rfl, hq _ s1.heap.objs.size _ c ys (fun b u e => ?_) g1 o1 z1 hc y1 (y2.trans pz) y3⟩
  have q := k1 b u e
  have lt := Heap.lt_size q
  show (sortedHeap (s1.heap.push (seqObj "list" vs.toArray 0)) s1.heap.objs.size vs _).get? b = some u
  rw [sortedHeap_old (Nat.ne_of_lt lt) (by rw [size_push']; exact Nat.lt_succ_of_lt lt)]
  exact Heap.get?_push_of_some _ q
end
/-! ### over the layer -/
def TxtO (P : Program) (w : World) (a : Addr) (zs : List Str) : HO := .ext fun h => TxtSet P w h a zs
theorem txtO_new {P : Program} {w : World} {H : Hp} {h : Heap} {a : Addr} {zs : List Str} (R : TxtSet P w h a zs) : ObjOk P w H h a (TxtO P w a zs) := by
  have ⟨o, es, ep, t, ⟨ho, q⟩, r⟩ := R
  refine ⟨R, ⟨o, ho⟩, fun h1 h2 p k => ?_⟩
  exact TxtSet.kept (show TxtSet P w h1 a zs from p) k
section
variable {X : Cx}
theorem strsAre_vals : ∀ {ss : List Str} {us : List Value}, Vals (ss.map V.str) us → StrsAre us ss
  | [], _, .nil => .nil
  | x :: ss, _, .cons r t => by
    obtain ⟨tk, rfl⟩ := r
    exact .cons x tk (strsAre_vals t)
/-- set(xs), xs texts -/
def rSetS (K : PySem.W.Frag) (P : Program) (w : World) : List V → Hp → VK → Prop := fun xs H Q => ∃ (l : Addr) (ss : List Str), xs = [V.ref l] ∧ (SqL K H l (ss.map V.str) ∨ SqT K H l (ss.map V.str)) ∧ ss.length ≤ 1000 ∧
  ∀ a zs, H a = none → zs.Nodup → (∀ y, y ∈ zs ↔ y ∈ ss) → zs.length ≤ ss.length → Q (.ref a) (upd H a (TxtO P w a zs))
theorem nd_of {P : Program} {w : World} {h : Heap} {a : Addr} {zs : List Str} (R : TxtSet P w h a zs) : zs.Nodup := by
  obtain ⟨_, _, _, _, _, ⟨_, _, nd⟩, _⟩ := R
  exact nd
theorem cr_setS (hc : X.calm = true) : CallR X (.type "set") (rSetS X.K X.prog X.w) := by
  intro pins s σ H xs us Q I r h
  obtain ⟨l, ss, rfl, hl, hf, q⟩ := h
  rw [Vals.ref1 r]
  have hb : ss.length + 1 < scanBound := by unfold scanBound; omega
  have hn : H s.heap.objs.size = none := I.hok.fresh (Nat.le_refl _)
  have go : ∀ (h' : Heap) (tk : Nat) zs, TxtSet X.prog X.w h' s.heap.objs.size zs → Met ss ss.length zs → (∀ b o, s.heap.get? b = some o → h'.get? b = some o) →
      EP X pins σ Q (.ref s.heap.objs.size) { s with heap := h', toks := tk } := fun h' tk zs R m k => by
    refine ⟨.ref s.heap.objs.size, upd H s.heap.objs.size (TxtO X.prog X.w s.heap.objs.size zs), I.laid (t' := tk) k (Nat.le_refl _) (txtO_new R), rfl, q _ zs hn (nd_of R) (fun y => ?_) m.2⟩
    rw [m.1 y, List.take_length]
  rcases hl with hl | hl
  · obtain ⟨its, rv, pl, hz⟩ := I.list hl
    exact of_list (P := X.prog) (w := X.w) (I.ok.hd hc) pl.isList (by simpa using strsAre_vals rv) hb go
  · obtain ⟨its, rv, pl, hz⟩ := I.tuple hl
    exact of_tuple (P := X.prog) (w := X.w) (I.ok.hd hc) pl (by simpa using strsAre_vals rv) hb go
/-- sorted(set of texts) -/
def rSortedSS (P : Program) (w : World) : List V → Hp → VK → Prop := fun vs H Q => ∃ (a : Addr) (zs : List Str), vs = [V.ref a] ∧ H a = some (TxtO P w a zs) ∧ zs.length ≤ 1000 ∧
  ∀ ys p, ys.Perm zs → sortedS ys = true → H p = none → Q (.ref p) (upd H p (.lst (ys.map V.str)))
theorem cr_sortedSS (hc : X.calm = true) : CallR X (.builtin "sorted") (rSortedSS X.prog X.w) := by
  intro pins s σ H vs us Q I r h
  obtain ⟨a, zs, rfl, ha, hz, q⟩ := h
  have R : TxtSet X.prog X.w s.heap a zs := (I.hok a _ ha).1
  rw [Vals.ref1 r]
  refine sorted_ R (I.ok.hd hc) fun s' p out c ys k g o hp hg hy pm so => ?_
  have hlen : (ys.map V.str).length ≤ sizeLine := by rw [List.length_map, pm.length_eq, sizeLine_eq]; omega
  have hn : H p = none := I.hok.fresh hp
  have J : Inv X pins σ (upd H p (.lst (ys.map V.str))) { s with heap := s'.heap, gens := s'.gens, drawn := s'.drawn, toks := s'.toks } :=
    I.call (ch := []) (Un.laid k hp hn) (I.hok.laid k hp ⟨hlen, out.toList, c, vals_of_strs hy, hg⟩) (by rw [g]; exact I.bare) (fun _ z => nomatch z)
  have e : s' = { s with heap := s'.heap, gens := s'.gens, drawn := s'.drawn, toks := s'.toks } := by
    cases s'
    cases s
    cases o
    rfl
  rw [e]
  exact ⟨.ref p, _, J, rfl, q ys p pm so hn⟩
end
end SetS
namespace Sc
open PySem PySem.Spec PyProof.Rows L2
theorem sc_ConditionWatcher_see : FnScope ["self", "case", "ruling", "met", "unmet"] ["self", "case", "ruling"] (defScope s_ConditionWatcher_see) := ⟨rfl, rfl, rfl, by decide +kernel, rfl, by decide +kernel, by decide +kernel⟩
theorem sc_ConditionWatcher_see_decider : FnScope ["self", "case", "name", "met", "unmet"] ["self", "case", "name"] (defScope s_ConditionWatcher_see_decider) := ⟨rfl, rfl, rfl, by decide +kernel, rfl, by decide +kernel, by decide +kernel⟩
theorem sc_ConditionWatcher_possible : FnScope ["self", "case", "met", "unmet", "condition"] ["self", "case"] (defScope s_ConditionWatcher_possible) := ⟨rfl, rfl, rfl, by decide +kernel, rfl, by decide +kernel, by decide +kernel⟩
section
variable {P : Program} {w : World} {K : PySem.W.Frag} {mg : Str → Option Value} {base : Heap} {C R B CW CC CR CT CU : Addr}
/-- a watcher, a case, and what both books are -/
structure CwIn (K : PySem.W.Frag) (C R B CW : Addr) (N : Addr → Prop) (H : Hp) (x S c : Addr) (xs : List Str) (f1 f2 : RF) (rl : Str) (cs : List (List Str × List Str)) (recs : List CRec) (ks : List Str) : Prop where
  w : CwAt K C R B CW N H x S xs f1 f2 rl cs recs
  z1 : f1.size ≤ 900
  z2 : f2.size ≤ 900
  e1 : f1.every NdOk
  e2 : f2.every NdOk
  k : SqT K H c (ks.map V.str)
  kl : ks.length ≤ 1000
  cl : cs.length ≤ 1000
  rn : recs.length ≤ 900
  cc : ∀ c ∈ cs, c.1.length ≤ 1000 ∧ c.2.length ≤ 1000
def sp_cwSee (K : PySem.W.Frag) (C R B CW CC CR CT : Addr) : Sp := fun vs H Q E => ∃ (N : Addr → Prop) (x S c : Addr) (xs : List Str) (f1 f2 : RF) (rl : Str) (cs : List (List Str × List Str)) (recs : List CRec) (ks : List Str) (r : Str), vs = [.ref x, .ref c, .str r] ∧ CwIn K C R B CW N H x S c xs f1 f2 rl cs recs ks ∧ r.length ≤ 1000 ∧
  ((∃ i, firstOut xs ks = some i ∧ errIx CC i H E) ∨ (firstOut xs ks = none ∧ ((isName r = false ∧ ∀ H', Same H H' → E (.ref CR) none H') ∨ (isName r = true ∧
  (leftC ks (decide (f1.ruled ks rl = r)) (decide (f2.ruled ks rl = r)) cs = [] → ∀ H', Same H H' → E (.ref CT) none H') ∧
  (leftC ks (decide (f1.ruled ks rl = r)) (decide (f2.ruled ks rl = r)) cs ≠ [] → ∀ H', (∀ b o, b ≠ x → b ≠ S → H b = some o → H' b = some o) → CwAt K C R B CW N H' x S xs f1 f2 rl (leftC ks (decide (f1.ruled ks rl = r)) (decide (f2.ruled ks rl = r)) cs) (recs ++ [(("ruling", ks, some r) : CRec)]) → Q (.int ((leftC ks (decide (f1.ruled ks rl = r)) (decide (f2.ruled ks rl = r)) cs).length : Nat)) H')))))
theorem ok_cwSee {f : Addr} {fd : FuncData} (F : Fun K "see" "ConditionWatcher.see" s_ConditionWatcher_see f fd) (Bl : Blt mg) (T : Cls K CW) (mw_out : MethX P w K mg base 13 CW "_outcomes" ["self", "case"] (sp_cwOut K C R B CW CC)) (mw_acc : MethX P w K mg base 3 CW "_accept" ["self", "record", "met", "unmet"] (sp_cwAcc K C R B CW CT)) (c_check_word : Cal P w K mg base (L2.CX P w) 2 "check_word" ["ruling"] (sp_cword CR)) :
    FnOk P w K mg base (L2.CX P w) 15 f fd ["self", "case", "ruling"] (sp_cwSee K C R B CW CC CR CT) := by
  refine F.okX sc_ConditionWatcher_see (fun vs H Q E h => by obtain ⟨N, x, S, c, xs, f1, f2, rl, cs, recs, ks, r, rfl, _⟩ := h; rfl) (fun cdv A outer s H vs Q E hr h => ?_)
  obtain ⟨N, x, S, c, xs, f1, f2, rl, cs, recs, ks, r, rfl, W, hrl, hq⟩ := h
  refine ⟨_, (pss_cons (ps_asg (pe_meX T mw_out (hr.mono (by decide)) (takes_of rfl rfl rfl rfl) (pv 0) (pa_cons (pv 1) pa_nil)) (pg_tup (by rfl) (pgs_cons (pg_name (i := 3) sc_ConditionWatcher_see.nd rfl (Or.inl rfl)) (pgs_cons (pg_name (i := 4) sc_ConditionWatcher_see.nd rfl (Or.inl rfl)) pgs_nil))))
      (pss_cons (ps_expr (pe_calX c_check_word (hr.mono (by decide)) (takes_of rfl rfl rfl rfl) (pa_cons (pv 2) pa_nil)))
      (pss_one (ps_ret (pe_meX T mw_acc (hr.mono (by decide)) (takes_of rfl rfl rfl rfl) (pv 0) (pa_cons (pe_tup (pa_cons pe_str (pa_cons (pv 1) (pa_cons (pv 2) pa_nil)))) (pa_cons (pe_cmpR op_eq (pe_ix ix_tup (pv 3) pe_int (fun _ _ => rfl)) (pv 2) (nomark _)) (pa_cons (pe_cmpR op_eq (pe_ix ix_tup (pv 4) pe_int (fun _ _ => rfl)) (pv 2) (nomark _)) pa_nil)))))))), ?_⟩
  obtain ⟨dx, w1, w2, L, us, vs, h1, _⟩ := id W.w.at_
  refine ⟨_, rfl, x, dx, _, rfl, h1, rfl, _, rfl, N, x, S, c, xs, f1, f2, rl, cs, recs, ks, rfl, W.w, W.z1, W.z2, W.e1, W.e2, W.k, W.kl, ?_⟩
  rcases hq with ⟨i, hi, he⟩ | ⟨hn, hq⟩
  · exact ⟨fun j hj => (by rw [hi] at hj; cases hj; exact he), fun z => by rw [hi] at z; cases z⟩
  refine ⟨fun i hi => (by rw [hn] at hi; cases hi), fun _ H1 t t1 t2 s1 et e1 e2 => ?_⟩
  refine ⟨t, _, rfl, sqT_of et, rfl, _, _, rfl, _, _, rfl, rfl, ?_⟩
  refine ⟨_, rfl, r, rfl, hrl, ?_⟩
  rcases hq with ⟨hr0, qe⟩ | ⟨hr1, qe, q⟩
  · exact ⟨fun z => (by rw [hr0] at z; cases z), fun _ H2 s2 => qe H2 (s1.trans s2)⟩
  refine ⟨fun _ H2 s2 => ?_, fun z => by rw [hr1] at z; cases z⟩
  have s12 := s1.trans s2
  refine ⟨_, rfl, x, dx, _, rfl, s12 _ _ h1, rfl, _, rfl, _, rfl, (by show 3 ≤ sizeLine; rw [sizeLine_eq]; decide), fun tr ntr => ?_⟩
  have s3 : Same H2 (upd H2 tr (.tup [.str "ruling", .ref c, .str r])) := (Same.refl H2).put ntr
  have e3 : (upd H2 tr (.tup [.str "ruling", .ref c, .str r])) tr = some (.tup [.str "ruling", .ref c, .str r]) := upd_same
  generalize upd H2 tr (.tup [.str "ruling", .ref c, .str r]) = H3 at s3 e3 ⊢
  have s13 := s12.trans s3
  have s23 := s2.trans s3
  refine ⟨_, rfl, t1, _, 0, _, rfl, rfl, sqT_of (s23 _ _ e1), atI_nat (j := 0) rfl, _, rfl, rfl, _, rfl, t2, _, 0, _, rfl, rfl, sqT_of (s23 _ _ e2), atI_nat (j := 0) rfl, _, rfl, rfl, ?_⟩
  have d1 : decide (V.str (f1.ruled ks rl) = V.str r) = decide (f1.ruled ks rl = r) := decide_eq_decide.mpr ⟨V.str.inj, fun z => by rw [z]⟩
  have d2 : decide (V.str (f2.ruled ks rl) = V.str r) = decide (f2.ruled ks rl = r) := decide_eq_decide.mpr ⟨V.str.inj, fun z => by rw [z]⟩
  rw [d1, d2]
  exact ⟨N, x, S, .ref tr, _, _, xs, f1, f2, rl, cs, recs, ("ruling", ks, some r), rfl, W.w.same s13, ⟨tr, c, rfl, sqT_of e3, s13.tup W.k, W.kl⟩, W.cl, W.rn, W.cc, fun he H' s' => qe he H' (s13.trans s'), fun hne H' fr hw => q hne H' (fun b o n1 n2 e => fr b o n1 n2 (s13 _ _ e)) hw⟩
def sp_cwDec (K : PySem.W.Frag) (C R B CW CC CU CT : Addr) : Sp := fun vs H Q E => ∃ (N : Addr → Prop) (x S c : Addr) (xs : List Str) (f1 f2 : RF) (rl : Str) (cs : List (List Str × List Str)) (recs : List CRec) (ks : List Str) (r : Option Str), vs = [.ref x, .ref c, optS r] ∧ CwIn K C R B CW N H x S c xs f1 f2 rl cs recs ks ∧
  ((∃ i, firstOut xs ks = some i ∧ errIx CC i H E) ∨ (firstOut xs ks = none ∧ ((∃ z, r = some z ∧ ¬ z ∈ f1.names ∧ ∀ H', Same H H' → E (.ref CU) none H') ∨ ((∀ z, r = some z → z ∈ f1.names) ∧
  (leftC ks (decide (f1.decid ks = r)) (decide (f2.decid ks = r)) cs = [] → ∀ H', Same H H' → E (.ref CT) none H') ∧
  (leftC ks (decide (f1.decid ks = r)) (decide (f2.decid ks = r)) cs ≠ [] → ∀ H', (∀ b o, b ≠ x → b ≠ S → H b = some o → H' b = some o) → CwAt K C R B CW N H' x S xs f1 f2 rl (leftC ks (decide (f1.decid ks = r)) (decide (f2.decid ks = r)) cs) (recs ++ [(("decider", ks, r) : CRec)]) → Q (.int ((leftC ks (decide (f1.decid ks = r)) (decide (f2.decid ks = r)) cs).length : Nat)) H')))))
theorem optS_eq {a b : Option Str} : decide (optS a = optS b) = decide (a = b) := decide_eq_decide.mpr ⟨fun h => by
  cases a <;> cases b
  · rfl
  · cases h
  · cases h
  · exact congrArg some (V.str.inj h), fun h => by rw [h]⟩
theorem optS_scal (a b : Option Str) : scal (optS a) (optS b) = true := by cases a <;> cases b <;> rfl
theorem ok_cwDec {f : Addr} {fd : FuncData} (F : Fun K "see_decider" "ConditionWatcher.see_decider" s_ConditionWatcher_see_decider f fd) (Bl : Blt mg) (T : Cls K CW) (n1 : NoAttr K CW "_with_rule") (mw_out : MethX P w K mg base 13 CW "_outcomes" ["self", "case"] (sp_cwOut K C R B CW CC)) (mw_acc : MethX P w K mg base 3 CW "_accept" ["self", "record", "met", "unmet"] (sp_cwAcc K C R B CW CT))
    (mCon : MethO P w K mg base CX0 3 B "__contains__" ["self", "name"] (sp_contains K C R B)) (e_UnknownRule : ErrMk0 K mg "UnknownRule" CU) :
    FnOk P w K mg base (L2.CX P w) 15 f fd ["self", "case", "name"] (sp_cwDec K C R B CW CC CU CT) := by
  refine F.okX sc_ConditionWatcher_see_decider (fun vs H Q E h => by obtain ⟨N, x, S, c, xs, f1, f2, rl, cs, recs, ks, r, rfl, _⟩ := h; rfl) (fun cdv A outer s H vs Q E hr h => ?_)
  obtain ⟨N, x, S, c, xs, f1, f2, rl, cs, recs, ks, r, rfl, W, hq⟩ := h
  refine ⟨_, (pss_cons (ps_asg (pe_meX T mw_out (hr.mono (by decide)) (takes_of rfl rfl rfl rfl) (pv 0) (pa_cons (pv 1) pa_nil)) (pg_tup (by rfl) (pgs_cons (pg_name (i := 3) sc_ConditionWatcher_see_decider.nd rfl (Or.inl rfl)) (pgs_cons (pg_name (i := 4) sc_ConditionWatcher_see_decider.nd rfl (Or.inl rfl)) pgs_nil))))
      (pss_cons (ps_if (PW.pt (pw_and (pt_cmpR op_notN (pv 2) pe_non (nomark _)) (pw_and1 (pt_cmpR (op_ninM mCon (hr.mono (by decide))) (pv 2) (pe_fld (pv 0) rfl) rfl)))) (pss_one (ps_raise rfl (takes_of rfl rfl rfl rfl) (pmk_err0 e_UnknownRule))) pss_nil)
      (pss_one (ps_ret (pe_meX T mw_acc (hr.mono (by decide)) (takes_of rfl rfl rfl rfl) (pv 0) (pa_cons (pe_tup (pa_cons pe_str (pa_cons (pv 1) (pa_cons (pv 2) pa_nil)))) (pa_cons (pe_cmpR op_eq (pe_ix ix_tup (pv 3) pe_int (fun _ _ => rfl)) (pv 2) (nomark _)) (pa_cons (pe_cmpR op_eq (pe_ix ix_tup (pv 4) pe_int (fun _ _ => rfl)) (pv 2) (nomark _)) pa_nil)))))))), ?_⟩
  obtain ⟨dx, w1, w2, L, us, vs, h1, h2, _⟩ := id W.w.at_
  obtain ⟨dx1, _, _, _, _, _, hw1, _⟩ := id h2
  refine ⟨_, rfl, x, dx, _, rfl, h1, rfl, _, rfl, N, x, S, c, xs, f1, f2, rl, cs, recs, ks, rfl, W.w, W.z1, W.z2, W.e1, W.e2, W.k, W.kl, ?_⟩
  rcases hq with ⟨i, hi, he⟩ | ⟨hn, hq⟩
  · exact ⟨fun j hj => (by rw [hi] at hj; cases hj; exact he), fun z => by rw [hi] at z; cases z⟩
  refine ⟨fun i hi => (by rw [hn] at hi; cases hi), fun _ H1 t t1 t2 s1 et e1 e2 => ?_⟩
  refine ⟨t, _, rfl, sqT_of et, rfl, _, _, rfl, _, _, rfl, rfl, ?_⟩
  have rest : (∀ z, r = some z → z ∈ f1.names) → (leftC ks (decide (f1.decid ks = r)) (decide (f2.decid ks = r)) cs = [] → ∀ H', Same H H' → E (.ref CT) none H') →
      (leftC ks (decide (f1.decid ks = r)) (decide (f2.decid ks = r)) cs ≠ [] → ∀ H', (∀ b o, b ≠ x → b ≠ S → H b = some o → H' b = some o) → CwAt K C R B CW N H' x S xs f1 f2 rl (leftC ks (decide (f1.decid ks = r)) (decide (f2.decid ks = r)) cs) (recs ++ [(("decider", ks, r) : CRec)]) → Q (.int ((leftC ks (decide (f1.decid ks = r)) (decide (f2.decid ks = r)) cs).length : Nat)) H') →
      ∀ H2 tr H3, Same H1 H2 → H2 tr = none → H3 = upd H2 tr (.tup [.str "decider", .ref c, optS r]) → sp_cwAcc K C R B CW CT [.ref x, .ref tr, .bl (decide (optS (f1.decid ks) = optS r)), .bl (decide (optS (f2.decid ks) = optS r))] H3 Q E := by
    intro _ qe q H2 tr H3 s2 ntr eH
    subst eH
    have s3 : Same H2 (upd H2 tr (.tup [.str "decider", .ref c, optS r])) := (Same.refl H2).put ntr
    have e3 : (upd H2 tr (.tup [.str "decider", .ref c, optS r])) tr = some (.tup [.str "decider", .ref c, optS r]) := upd_same
    generalize upd H2 tr (.tup [.str "decider", .ref c, optS r]) = H3 at s3 e3 ⊢
    have s13 := (s1.trans s2).trans s3
    rw [optS_eq, optS_eq]
    exact ⟨N, x, S, .ref tr, _, _, xs, f1, f2, rl, cs, recs, ("decider", ks, r), rfl, W.w.same s13, ⟨tr, c, rfl, sqT_of e3, s13.tup W.k, W.kl⟩, W.cl, W.rn, W.cc, fun he H' s' => qe he H' (s13.trans s'), fun hne H' fr hw => q hne H' (fun b o n1 n2 e => fr b o n1 n2 (s13 _ _ e)) hw⟩
  have fin : (∀ z, r = some z → z ∈ f1.names) → (leftC ks (decide (f1.decid ks = r)) (decide (f2.decid ks = r)) cs = [] → ∀ H', Same H H' → E (.ref CT) none H') →
      (leftC ks (decide (f1.decid ks = r)) (decide (f2.decid ks = r)) cs ≠ [] → ∀ H', (∀ b o, b ≠ x → b ≠ S → H b = some o → H' b = some o) → CwAt K C R B CW N H' x S xs f1 f2 rl (leftC ks (decide (f1.decid ks = r)) (decide (f2.decid ks = r)) cs) (recs ++ [(("decider", ks, r) : CRec)]) → Q (.int ((leftC ks (decide (f1.decid ks = r)) (decide (f2.decid ks = r)) cs).length : Nat)) H') →
      ∀ H2, Same H1 H2 → (tRet (tMeth CW "_accept" (sp_cwAcc K C R B CW CT) [] E (tVar 0) (tCons (tTup (tCons (tC (.str "decider")) (tCons (tVar 1) (tCons (tVar 2) tNil)))) (tCons (tOp rEq (tOp (rIxT K) (tVar 3) (tC (.int 1))) (tVar 2)) (tCons (tOp rEq (tOp (rIxT K) (tVar 4) (tC (.int 1))) (tVar 2)) tNil))))) { nx := fun x H' => Q V.non H', rt := Q } [some (.ref x), some (.ref c), some (optS r), some (.ref t1), some (.ref t2)] H2 := by
    intro g qe q H2 s2
    have s12 := s1.trans s2
    refine ⟨_, rfl, x, dx, _, rfl, s12 _ _ h1, rfl, _, rfl, _, rfl, (by show 3 ≤ sizeLine; rw [sizeLine_eq]; decide), fun tr ntr => ?_⟩
    have go := rest g qe q H2 tr _ s2 ntr rfl
    have s3 : Same H2 (upd H2 tr (.tup [.str "decider", .ref c, optS r])) := (Same.refl H2).put ntr
    have s23 := s2.trans s3
    exact ⟨_, rfl, t1, _, 1, _, rfl, rfl, sqT_of (s23 _ _ e1), atI_nat (j := 1) rfl, _, rfl, optS_scal _ _, _, rfl, t2, _, 1, _, rfl, rfl, sqT_of (s23 _ _ e2), atI_nat (j := 1) rfl, _, rfl, optS_scal _ _, go⟩
  cases r with
  | none =>
    rcases hq with ⟨z, hz, _⟩ | ⟨g, qe, q⟩
    · cases hz
    exact ⟨_, rfl, rfl, _, rfl, iteF (iteF (fin g qe q H1 (Same.refl _)))⟩
  | some z =>
    refine ⟨_, rfl, rfl, _, rfl, iteT ?_⟩
    refine ⟨_, rfl, _, rfl, x, CW, dx, _, _, rfl, s1 _ _ h1, T, n1, rfl, w1, dx1, _, rfl, s1 _ _ hw1, _, w1, xs, f1, rl, z, rfl, h2.keeps s1.keeps, W.z1, fun H2 s2 => ⟨_, rfl, _, rfl, ?_⟩⟩
    rw [if_pos rfl]
    rcases hq with ⟨z', hz, hno, qe⟩ | ⟨g, qe, q⟩
    · cases hz
      rw [decide_eq_false hno]
      exact iteT (qe H2 (s1.trans s2))
    · rw [decide_eq_true (g z rfl)]
      exact iteF (fin g qe q H2 s2)
/-- what a case can be ruled by what is left -/
def possC (f1 f2 : RF) (rl : Str) (ks : List Str) (cs : List (List Str × List Str)) : List Str := cs.map fun q => if meets q.1 q.2 ks = true then f1.ruled ks rl else f2.ruled ks rl
def sp_cwPoss (K : PySem.W.Frag) (C R B CW CC : Addr) : Sp := fun vs H Q E => ∃ (N : Addr → Prop) (x S c : Addr) (xs : List Str) (f1 f2 : RF) (rl : Str) (cs : List (List Str × List Str)) (recs : List CRec) (ks : List Str), vs = [.ref x, .ref c] ∧ CwIn K C R B CW N H x S c xs f1 f2 rl cs recs ks ∧
  ((∃ i, firstOut xs ks = some i ∧ errIx CC i H E) ∨ (firstOut xs ks = none ∧ ∀ H' D ys, Same H H' → H D = none → H' D = some (.lst (ys.map V.str)) → sortedS ys = true → ys.Nodup → (∀ y, y ∈ ys ↔ y ∈ possC f1 f2 rl ks cs) → Q (.ref D) H'))
theorem ok_cwPoss {f : Addr} {fd : FuncData} (F : Fun K "possible" "ConditionWatcher.possible" s_ConditionWatcher_possible f fd) (Bl : Blt mg) (T : Cls K CW) (n3 : NoAttr K CW "_left") (kW : CondW P w K mg base C) (mw_out : MethX P w K mg base 13 CW "_outcomes" ["self", "case"] (sp_cwOut K C R B CW CC)) :
    FnOk P w K mg base (L2.CX P w) 15 f fd ["self", "case"] (sp_cwPoss K C R B CW CC) := by
  refine F.okX sc_ConditionWatcher_possible (fun vs H Q E h => by obtain ⟨N, x, S, c, xs, f1, f2, rl, cs, recs, ks, rfl, _⟩ := h; rfl) (fun cdv A outer s H vs Q E hr h => ?_)
  obtain ⟨N, x, S, c, xs, f1, f2, rl, cs, recs, ks, rfl, W, hq⟩ := h
  refine ⟨_, (pss_cons (ps_asg (pe_meX T mw_out (hr.mono (by decide)) (takes_of rfl rfl rfl rfl) (pv 0) (pa_cons (pv 1) pa_nil)) (pg_tup (by rfl) (pgs_cons (pg_name (i := 2) sc_ConditionWatcher_possible.nd rfl (Or.inr rfl)) (pgs_cons (pg_name (i := 3) sc_ConditionWatcher_possible.nd rfl (Or.inr rfl)) pgs_nil))))
      (pss_one (ps_ret (pe_callB (SetS.cr_sortedSS rfl) (by rfl) Bl.b_sorted (by decide +kernel) (pa_cons (pe_callTy (SetS.cr_setS rfl) (by rfl) Bl.b_set (by decide +kernel) (pa_cons (pe_lc (own := [("condition", 4)]) (g := gName 4) (tt := tYes) rfl sc_ConditionWatcher_possible.nd (pi_list (pe_fld (pv 0) rfl)) (blkOk_by (own := [("condition", 4)]) (N := ["self", "case", "met", "unmet", "condition"]) (sc := defScope s_ConditionWatcher_possible) (by decide +kernel)) (fun _ _ _ _ _ => (pg_name (i := 4) sc_ConditionWatcher_possible.nd rfl (Or.inl rfl))) (fun _ _ _ _ _ => pts_nil) (fun _ _ _ _ _ => (pe_.re (pe_ifExp (pt_val (pe_cK kW (hr.mono (by decide)) (pv 4) (pa_cons (pv 1) pa_nil))) (pe_ix ix_tup (pv 2) pe_int (fun _ _ => rfl)) (pe_ix ix_tup (pv 3) pe_int (fun _ _ => rfl))) (by first | (dsimp only [Cx.blk]; done) | exact rfl)))) pa_nil)) pa_nil))))), ?_⟩
  obtain ⟨dx, w1, w2, L, us, vs, h1, h2, h2', ⟨h3, h3'⟩, h4, h5, h6⟩ := id W.w.at_
  refine ⟨_, rfl, x, dx, _, rfl, h1, rfl, _, rfl, N, x, S, c, xs, f1, f2, rl, cs, recs, ks, rfl, W.w, W.z1, W.z2, W.e1, W.e2, W.k, W.kl, ?_⟩
  rcases hq with ⟨i, hi, he⟩ | ⟨hn, q⟩
  · exact ⟨fun j hj => (by rw [hi] at hj; cases hj; exact he), fun z => by rw [hi] at z; cases z⟩
  refine ⟨fun i hi => (by rw [hn] at hi; cases hi), fun hn H1 t t1 t2 s1 et e1 e2 => ?_⟩
  refine ⟨t, _, rfl, sqT_of et, rfl, _, _, rfl, _, _, rfl, rfl, ?_⟩
  refine ⟨_, rfl, x, CW, dx, _, _, rfl, s1 _ _ h1, T, n3, rfl, L, rfl, ⟨_, sqL_of (s1 _ _ h3)⟩, fun D nD => lc_it walk_list (fun i H' => Same H1 H' ∧ H' D = some (.lst ((possC f1 f2 rl ks (cs.take i)).map V.str))) ⟨(Same.refl H1).put nD, upd_same⟩ (fun _ _ _ h => sqL_of ((s1.trans h.1) _ _ h3)) ?_ ?_⟩
  · rintro i v Ha0 Ha hi ⟨sa, ea⟩ ⟨rfl, hv⟩
    obtain ⟨c0, hci, o, rfl, hC⟩ := h4.get hv
    obtain ⟨l1, l2⟩ := W.cc c0 (List.mem_of_getElem? hci)
    have sx := s1.trans sa
    have hCa := hC.keeps (N := NoL) sx.keeps
    obtain ⟨dxc, wa, ba, nn, zs, hoc, _⟩ := id hCa
    have hm : possC f1 f2 rl ks (cs.take (i + 1)) = possC f1 f2 rl ks (cs.take i) ++ [if meets c0.1 c0.2 ks = true then f1.ruled ks rl else f2.ruled ks rl] := by
      unfold possC
      rw [take_more hci, List.map_append]
      rfl
    have hpl : ((possC f1 f2 rl ks (cs.take i)).map V.str).length < sizeLine := by
      unfold possC
      rw [List.length_map, List.length_map, List.length_take, sizeLine_eq]
      have := W.cl
      omega
    refine ⟨rfl, yes_ ⟨_, rfl, o, rfl, _, rfl, ⟨_, _, hoc⟩, o, c, c0.1, c0.2, ks, rfl, hCa, sx.tup W.k, l1, l2, fun H4 s4 => ⟨_, rfl, bcase (fun c1 => ?_) (fun c1 => ?_)⟩⟩⟩
    · rw [if_pos c1] at hm
      exact ⟨_, rfl, t1, _, 0, _, rfl, rfl, sqT_of ((sa.trans s4) _ _ e1), atI_nat (j := 0) rfl, grow (acc := fun i => (possC f1 f2 rl ks (cs.take i)).map V.str) nD (sa.trans s4) (s4 _ _ ea) hpl (by rw [hm, List.map_append]; rfl)⟩
    · rw [if_neg (by rw [c1]; exact Bool.false_ne_true)] at hm
      exact ⟨_, rfl, t2, _, 0, _, rfl, rfl, sqT_of ((sa.trans s4) _ _ e2), atI_nat (j := 0) rfl, grow (acc := fun i => (possC f1 f2 rl ks (cs.take i)).map V.str) nD (sa.trans s4) (s4 _ _ ea) hpl (by rw [hm, List.map_append]; rfl)⟩
  rintro H2 ⟨s2, e2'⟩
  rw [h4.len, List.take_length] at e2'
  have hpl : (possC f1 f2 rl ks cs).length ≤ 1000 := by
    unfold possC
    rw [List.length_map]
    exact W.cl
  refine ⟨D, _, rfl, .inl (sqL_of e2'), hpl, fun a zs na nd hm hl => ⟨a, zs, rfl, upd_same, by omega, fun ys p pm so np => ?_⟩⟩
  have np : (upd H2 a (SetS.TxtO P w a zs)) p = none := np
  have s3 := ((s1.trans s2).put' (o := SetS.TxtO P w a zs) na).put' (o := .lst (ys.map V.str)) np
  refine q _ p ys s3 ?_ upd_same so (pm.nodup_iff.mpr nd) (fun y => (pm.mem_iff).trans (hm y))
  cases e : H p with
  | none => rfl
  | some o => rw [((s1.trans s2).put' (o := SetS.TxtO P w a zs) na) _ _ e] at np; cases np
end
end Sc
namespace Sc
open PySem PySem.Spec PyProof.Rows L2
theorem sc_OrderWatcher___init__ : FnScope ["self", "book"] ["self", "book"] (defScope s_OrderWatcher___init__) := ⟨rfl, rfl, rfl, by decide +kernel, rfl, by decide +kernel, by decide +kernel⟩
theorem sc_OrderWatcher_order_count : FnScope ["self"] ["self"] (defScope s_OrderWatcher_order_count) := ⟨rfl, rfl, rfl, by decide +kernel, rfl, by decide +kernel, by decide +kernel⟩
theorem sc_OrderWatcher_records : FnScope ["self"] ["self"] (defScope s_OrderWatcher_records) := ⟨rfl, rfl, rfl, by decide +kernel, rfl, by decide +kernel, by decide +kernel⟩
theorem sc_OrderWatcher_see : FnScope ["self", "case", "ruling", "told", "left", "rule", "order"] ["self", "case", "ruling"] (defScope s_OrderWatcher_see) := ⟨rfl, rfl, rfl, by decide +kernel, rfl, by decide +kernel, by decide +kernel⟩
theorem sc_OrderWatcher_sure : FnScope ["self", "name", "other", "names", "first", "second", "rule", "order"] ["self", "name", "other"] (defScope s_OrderWatcher_sure) := ⟨rfl, rfl, rfl, by decide +kernel, rfl, by decide +kernel, by decide +kernel⟩
theorem pss_no {X : Cx} (ss : List Stmt) : PSs X ss (fun _ _ _ => False) := ⟨fun _ _ _ _ _ _ h => h.elim⟩
/-! ### a watcher of orders -/
def owF (b L S : Addr) : List (Str × V) := putF "_seen" (.ref S) (putF "_left" (.ref L) (putF "_book" (.ref b) []))
def RecAt (H : Hp) (v : V) (q : List Str × Str) : Prop := ∃ t c : Addr, v = .ref t ∧ H t = some (.tup [.ref c, .str q.2]) ∧ H c = some (.tup (q.1.map V.str)) ∧ q.1.length ≤ 1000
theorem RecAt.keeps {N : Addr → Prop} {H H' : Hp} {v : V} {q : List Str × Str} (k : Keeps N H H') (h : RecAt H v q) : RecAt H' v q := by
  obtain ⟨t, c, e, h1, h2, h3⟩ := h
  exact ⟨t, c, e, k _ _ stays_tup h1, k _ _ stays_tup h2, h3⟩
section
variable {P : Program} {w : World} {K : PySem.W.Frag} {mg : Str → Option Value} {base : Heap} {C R B OW CC CR CT CU : Addr}
structure WatAt (K : PySem.W.Frag) (C R B OW : Addr) (N : Addr → Prop) (H : Hp) (x S : Addr) (xs : List Str) (f : RF) (rl : Str) (os : List (List Nat)) (recs : List (List Str × Str)) : Prop where
  at_ : ∃ (dx b L : Addr) (us vs : List V), H x = some (.ins OW dx (owF b L S)) ∧ BookAt K C R B (fun l => N l ∧ l ≠ S) H b xs f rl ∧ (H L = some (.lst us) ∧ L ≠ S) ∧ All2 (OrdAt H) us os ∧ H S = some (.lst vs) ∧ All2 (RecAt H) vs recs
theorem WatAt.same {N : Addr → Prop} {H H' : Hp} {x S : Addr} {xs : List Str} {f : RF} {rl : Str} {os : List (List Nat)} {recs : List (List Str × Str)} (s : Same H H') (h : WatAt K C R B OW N H x S xs f rl os recs) : WatAt K C R B OW N H' x S xs f rl os recs := by
  obtain ⟨dx, b, L, us, vs, h1, h2, ⟨h3, h3'⟩, h4, h5, h6⟩ := h.at_
  exact ⟨dx, b, L, us, vs, s _ _ h1, h2.keeps s.keeps, ⟨s _ _ h3, h3'⟩, h4.mono fun _ _ z => z.keeps (N := NoL) s.keeps, s _ _ h5, h6.mono fun _ _ z => z.keeps (N := NoL) s.keeps⟩
def sp_owInitX (K : PySem.W.Frag) (C R B OW CT : Addr) : Sp := fun vs H Q E => ∃ (N : Addr → Prop) (x dx b : Addr) (xs : List Str) (f : RF) (rl : Str), vs = [.ref x, .ref b] ∧ H x = some (.ins OW dx []) ∧ BookAt K C R B N H b xs f rl ∧
  ((6 < f.nodes.length ∧ ∀ H', Same H H' → E (.ref CT) none H') ∨ (f.nodes.length ≤ 6 ∧ ∀ H' S, SameX x H H' → H S = none → WatAt K C R B OW N H' x S xs f rl (ordN f.nodes.length f.nodes.length) [] → Q .non H'))
theorem ok_owInitX {f : Addr} {fd : FuncData} {t1 : Tok} (F : Fun K "__init__" "OrderWatcher.__init__" s_OrderWatcher___init__ f fd) (Bl : Blt mg) (T : Cls K OW) (n1 : NoAttr K OW "_book") (n2 : NoAttr K OW "_left") (n3 : NoAttr K OW "_seen") (kB : BookX P w K mg base B) (m_MOST_ORDERED : mg "MOST_ORDERED" = some (.int 6 t1)) (e_TooMany : ErrMk0 K mg "TooMany" CT) (c_orders_of : Cal P w K mg base CX0 1 "orders_of" ["count"] (sp_orders K)) : FnOk P w K mg base (L2.CX P w) 3 f fd ["self", "book"] (sp_owInitX K C R B OW CT) := by
  refine F.okX sc_OrderWatcher___init__ (fun vs H Q E h => by obtain ⟨N, x, dx, b, xs, f, rl, rfl, _⟩ := h; rfl) (fun cdv A outer s H vs Q E hr h => ?_)
  obtain ⟨N, x, dx, b, xs, f, rl, rfl, hx, hB, hq⟩ := h
  obtain ⟨dx', a, p, l, rs, us, ho, hS, hP, hF, hl, hus⟩ := id hB
  have hrl : rs.length = f.nodes.length := hF.len
  refine ⟨_, (pss_cons (ps_if (pt_cmpR op_gt (pe_callB call_len_seq (by rfl) Bl.b_len PySem.boot_len (pa_cons (pe_cprop kB.rules kB.cls (hr.mono (by decide)) (pv 1)) pa_nil)) (pe_glob (v := .int 6) rfl m_MOST_ORDERED ⟨_, rfl⟩) (nomark _)) (pss_one (ps_raise rfl (takes_of rfl rfl rfl rfl) (pmk_err0 e_TooMany))) pss_nil)
      (pss_cons (ps_fld (pv 0) (pv 1) rfl)
      (pss_cons (ps_fld (pv 0) (pe_cal c_orders_of (hr.mono (by decide)) (pa_cons (pe_callB call_len_seq (by rfl) Bl.b_len PySem.boot_len (pa_cons (pe_cprop kB.rules kB.cls (hr.mono (by decide)) (pv 1)) pa_nil)) pa_nil)) rfl)
      (pss_one (ps_fld (pv 0) (pe_lst pa_nil) rfl))))), ?_⟩
  refine ⟨_, rfl, b, dx', _, rfl, ho, b, dx', _, _, rfl, ho, rfl, _, _, rfl, .inr hP, _, _, rfl, rfl, _, rfl, ?_⟩
  rcases hq with ⟨hbig, qe⟩ | ⟨hn6, q⟩
  · rw [hrl, decide_eq_true (by omega)]
    exact iteT (qe H (Same.refl H))
  rw [hrl, decide_eq_false (by omega)]
  refine iteF ⟨_, rfl, _, rfl, x, OW, dx, _, rfl, hx, T, n1, (by show 0 < 1000; decide), ?_⟩
  have x1 : SameX x H (upd H x (.ins OW dx (putF "_book" (.ref b) []))) := fun b' ob n e => by rw [upd_ne n]; exact e
  have hx1 : (upd H x (.ins OW dx (putF "_book" (.ref b) []))) x = some (.ins OW dx (putF "_book" (.ref b) [])) := upd_same
  have kk1 : Keeps NoL H (upd H x (.ins OW dx (putF "_book" (.ref b) []))) := SameX.keeps x1 hx rfl
  generalize upd H x (.ins OW dx (putF "_book" (.ref b) [])) = H1 at x1 hx1 kk1 ⊢
  have nb : b ≠ x := fun z => by rw [z, hx] at ho; cases ho
  have ho1 := x1 _ _ nb ho
  refine ⟨_, rfl, b, dx', _, rfl, ho1, b, dx', _, _, rfl, ho1, rfl, _, _, rfl, .inr (kk1.tup hP), f.nodes.length, by rw [hrl]; rfl, hn6, fun H2 L us2 s2 eL hus2 => ?_⟩
  refine ⟨_, rfl, x, OW, dx, _, rfl, s2 _ _ hx1, T, n2, (by show 1 < 1000; decide), ?_⟩
  have hx2 := s2 _ _ hx1
  have x3 : SameX x H2 (upd H2 x (.ins OW dx (putF "_left" (.ref L) (putF "_book" (.ref b) [])))) := fun b' ob n e => by rw [upd_ne n]; exact e
  have hx3 : (upd H2 x (.ins OW dx (putF "_left" (.ref L) (putF "_book" (.ref b) [])))) x = some (.ins OW dx (putF "_left" (.ref L) (putF "_book" (.ref b) []))) := upd_same
  generalize upd H2 x (.ins OW dx (putF "_left" (.ref L) (putF "_book" (.ref b) []))) = H3 at x3 hx3 ⊢
  have nL : L ≠ x := fun z => by rw [z, hx2] at eL; cases eL
  refine ⟨(by show 0 ≤ sizeLine; decide), fun S nS => ⟨_, rfl, x, OW, dx, putF "_left" (.ref L) (putF "_book" (.ref b) []), rfl, ?_, T, n3, (by show 2 < 1000; decide), ?_⟩⟩
  · rw [upd_ne (ne_of_none hx3 nS)]; exact hx3
  have nSx : S ≠ x := fun z => by rw [z, hx3] at nS; cases nS
  have hS0 : H S = none := by
    cases e : H S with
    | none => rfl
    | some ob => rw [x3 _ _ nSx (s2 _ _ (x1 _ _ nSx e))] at nS; cases nS
  have x4 : SameX x H2 (upd (upd H3 S (.lst [])) x (.ins OW dx (owF b L S))) := fun b' ob n e => by rw [upd_ne n, upd_ne (ne_of_none (x3 _ _ n e) nS)]; exact x3 _ _ n e
  have kk : Keeps (fun l => N l ∧ l ≠ S) H (upd (upd H3 S (.lst [])) x (.ins OW dx (owF b L S))) := SameX.keeps (fun b' ob n e => x4 _ _ n (s2 _ _ (x1 _ _ n e))) hx rfl
  have kL : (upd (upd H3 S (.lst [])) x (.ins OW dx (owF b L S))) L = some (.lst us2) := x4 _ _ nL eL
  have k2 : Keeps NoL H2 (upd (upd H3 S (.lst [])) x (.ins OW dx (owF b L S))) := SameX.keeps x4 hx2 rfl
  refine q _ S (fun b' ob n e => x4 _ _ n (s2 _ _ (x1 _ _ n e))) hS0 ⟨dx, b, L, us2, [], upd_same, (hB.re fun l xs n e => ⟨n, fun z => by rw [z, hS0] at e; cases e⟩).keeps kk, ⟨kL, fun z => by subst z; rw [x3 _ _ nL eL] at nS; cases nS⟩, hus2.mono fun _ _ z => z.keeps k2, by rw [upd_ne nSx]; exact upd_same, .nil⟩
def sp_owCount (K : PySem.W.Frag) (C R B OW : Addr) : Sp := fun vs H Q _ => ∃ (N : Addr → Prop) (x S : Addr) (xs : List Str) (f : RF) (rl : Str) (os : List (List Nat)) (recs : List (List Str × Str)), vs = [.ref x] ∧ WatAt K C R B OW N H x S xs f rl os recs ∧ Q (.int (os.length : Nat)) H
theorem ok_owCount {f : Addr} {fd : FuncData} (F : Fun K "order_count" "OrderWatcher.order_count" s_OrderWatcher_order_count f fd) (Bl : Blt mg) (T : Cls K OW) (n2 : NoAttr K OW "_left") : FnOk P w K mg base CX0 1 f fd ["self"] (sp_owCount K C R B OW) := by
  refine F.ok sc_OrderWatcher_order_count (fun vs H Q E h => by obtain ⟨N, x, S, xs, f, rl, os, recs, rfl, _⟩ := h; rfl) (fun cdv A outer s H vs Q E hr h => ?_)
  obtain ⟨N, x, S, xs, f, rl, os, recs, rfl, ⟨dx, b, L, us, vs, h1, h2, ⟨h3, h3'⟩, h4, h5, h6⟩, q⟩ := h
  refine ⟨_, (pss_one (ps_ret (pe_callB call_len_seq (by rfl) Bl.b_len PySem.boot_len (pa_cons (pe_fld (pv 0) rfl) pa_nil)))), ?_⟩
  refine ⟨_, rfl, x, OW, dx, _, _, rfl, h1, T, n2, rfl, L, us, rfl, .inl (sqL_of h3), ?_⟩
  rw [h4.len]
  exact q
def sp_owRecs (K : PySem.W.Frag) (C R B OW : Addr) : Sp := fun vs H Q _ => ∃ (N : Addr → Prop) (x S : Addr) (xs : List Str) (f : RF) (rl : Str) (os : List (List Nat)) (recs : List (List Str × Str)), vs = [.ref x] ∧ WatAt K C R B OW N H x S xs f rl os recs ∧ recs.length ≤ 900 ∧ ∀ H' D vs, Same H H' → H D = none → H' D = some (.lst vs) → All2 (RecAt H') vs recs → Q (.ref D) H'
theorem ok_owRecs {f : Addr} {fd : FuncData} (F : Fun K "records" "OrderWatcher.records" s_OrderWatcher_records f fd) (Bl : Blt mg) (T : Cls K OW) (n3 : NoAttr K OW "_seen") : FnOk P w K mg base CX0 1 f fd ["self"] (sp_owRecs K C R B OW) := by
  refine F.ok sc_OrderWatcher_records (fun vs H Q E h => by obtain ⟨N, x, S, xs, f, rl, os, recs, rfl, _⟩ := h; rfl) (fun cdv A outer s H vs Q E hr h => ?_)
  obtain ⟨N, x, S, xs, f, rl, os, recs, rfl, ⟨dx, b, L, us, vs, h1, h2, ⟨h3, h3'⟩, h4, h5, h6⟩, hrn, q⟩ := h
  refine ⟨_, (pss_one (ps_ret (pe_callTy call_list_of (by rfl) Bl.b_list PyProof.Rows.boot_list (pa_cons (pe_fld (pv 0) rfl) pa_nil)))), ?_⟩
  refine ⟨_, rfl, x, OW, dx, _, _, rfl, h1, T, n3, rfl, S, vs, rfl, .inl (sqL_of h5), fun D nD => ?_⟩
  have s1 : Same H (upd H D (.lst vs)) := (Same.refl H).put nD
  exact q _ D vs s1 nD upd_same (h6.mono fun _ _ z => z.keeps (N := NoL) s1.keeps)
/-- see, where it raises ahead of all -/
def sp_owSeeE (K : PySem.W.Frag) (C R B OW CC CR : Addr) : Sp := fun vs H Q E => ∃ (N : Addr → Prop) (x S c : Addr) (xs : List Str) (f : RF) (rl : Str) (os : List (List Nat)) (recs : List (List Str × Str)) (ks : List Str) (r : Str), vs = [.ref x, .ref c, .str r] ∧ WatAt K C R B OW N H x S xs f rl os recs ∧ SqT K H c (ks.map V.str) ∧ ks.length ≤ 1000 ∧ r.length ≤ 1000 ∧
  ((∃ i, firstOut xs ks = some i ∧ errIx CC i H E) ∨ (firstOut xs ks = none ∧ isName r = false ∧ ∀ H', Same H H' → E (.ref CR) none H'))
theorem ok_owSeeE {f : Addr} {fd : FuncData} (F : Fun K "see" "OrderWatcher.see" s_OrderWatcher_see f fd) (Bl : Blt mg) (T : Cls K OW) (n1 : NoAttr K OW "_book") (kB : BookX P w K mg base B)
    (c_check_case : Cal P w K mg base (L2.CX P w) 3 "check_case" ["facts", "case"] (sp_check_case K CC)) (c_check_word : Cal P w K mg base (L2.CX P w) 2 "check_word" ["ruling"] (sp_cword CR)) : FnOk P w K mg base (L2.CX P w) 11 f fd ["self", "case", "ruling"] (sp_owSeeE K C R B OW CC CR) := by
  refine F.okX sc_OrderWatcher_see (fun vs H Q E h => by obtain ⟨N, x, S, c, xs, f, rl, os, recs, ks, r, rfl, _⟩ := h; rfl) (fun cdv A outer s H vs Q E hr h => ?_)
  obtain ⟨N, x, S, c, xs, f, rl, os, recs, ks, r, rfl, ⟨dx, b, L, us, vs, h1, h2, _⟩, hc, hkl, hrL, hq⟩ := h
  obtain ⟨dx', a, p, l, rs, us2, hbo, hS, hP, hF, hl, hus⟩ := id h2
  refine ⟨_, (pss_cons (ps_expr (pe_calX c_check_case (hr.mono (by decide)) (takes_of rfl rfl rfl rfl) (pa_cons (pe_cprop kB.facts kB.cls (hr.mono (by decide)) (pe_fld (pv 0) rfl)) (pa_cons (pv 1) pa_nil))))
      (pss_cons (ps_expr (pe_calX c_check_word (hr.mono (by decide)) (takes_of rfl rfl rfl rfl) (pa_cons (pv 2) pa_nil)))
      (pss_no _))), ?_⟩
  refine ⟨_, rfl, x, OW, dx, _, _, rfl, h1, T, n1, rfl, b, dx', _, rfl, hbo, b, dx', _, _, rfl, hbo, rfl, _, rfl, a, c, xs, ks, rfl, hS, hc, hkl, ?_⟩
  rcases hq with ⟨i, hi, he⟩ | ⟨hn, hr0, qe⟩
  · exact ⟨fun z => (by rw [hi] at z; cases z), fun j hj => (by rw [hi] at hj; cases hj; exact he)⟩
  exact ⟨fun _ H1 s1 => ⟨_, rfl, r, rfl, hrL, fun z => (by rw [hr0] at z; cases z), fun _ H2 s2 => qe H2 (s1.trans s2)⟩, fun i hi => by rw [hn] at hi; cases hi⟩
/-- sure, where it raises -/
def sp_owSureE (K : PySem.W.Frag) (C R B OW CU : Addr) : Sp := fun vs H Q E => ∃ (N : Addr → Prop) (x S : Addr) (xs : List Str) (f : RF) (rl : Str) (os : List (List Nat)) (recs : List (List Str × Str)) (n1 n2 : Str), vs = [.ref x, .str n1, .str n2] ∧ WatAt K C R B OW N H x S xs f rl os recs ∧ f.nodes.length ≤ 6 ∧ f.every NdOk ∧
  ¬ (n1 ∈ f.nodes.map (fun n => n.nm) ∧ n2 ∈ f.nodes.map (fun n => n.nm)) ∧ ∀ H', Same H H' → E (.ref CU) none H'
theorem ok_owSureE {f : Addr} {fd : FuncData} (F : Fun K "sure" "OrderWatcher.sure" s_OrderWatcher_sure f fd) (Bl : Blt mg) (T : Cls K OW) (n1 : NoAttr K OW "_book") (kB : BookX P w K mg base B) (kR : RuleX P w K mg base R) (e_UnknownRule : ErrMk0 K mg "UnknownRule" CU) : FnOk P w K mg base (L2.CX P w) 3 f fd ["self", "name", "other"] (sp_owSureE K C R B OW CU) := by
  refine F.okX sc_OrderWatcher_sure (fun vs H Q E h => by obtain ⟨N, x, S, xs, f, rl, os, recs, m1, m2, rfl, _⟩ := h; rfl) (fun cdv A outer s H vs Q E hr h => ?_)
  obtain ⟨N, x, S, xs, f, rl, os, recs, m1, m2, rfl, ⟨dx, b, L, us, vs, h1, h2, _⟩, hn6, hev, hno, qe⟩ := h
  obtain ⟨dx', a, p, l, rs, us2, hbo, hS, hP, hF, hl, hus⟩ := id h2
  have hrl : rs.length = f.nodes.length := hF.len
  refine ⟨_, (pss_cons (ps_setLc (i := 3) (own := [("rule", 6)]) (g := gName 6) (tt := tYes) rfl sc_OrderWatcher_sure.nd rfl rfl (sw_true rfl rfl rfl (by decide +kernel)) (pi_tup (pe_cprop kB.rules kB.cls (hr.mono (by decide)) (pe_fld (pv 0) rfl))) (blkOk_by (own := [("rule", 6)]) (N := ["self", "name", "other", "names", "first", "second", "rule", "order"]) (sc := defScope s_OrderWatcher_sure) (by decide +kernel)) (fun _ _ _ _ _ => (pg_name (i := 6) sc_OrderWatcher_sure.nd rfl (Or.inl rfl))) (fun _ _ _ _ _ => pts_nil) (fun _ _ _ _ _ => (pe_.re (pe_cprop kR.name kR.cls (hr.mono (by decide)) (pv 6)) (by first | (dsimp only [Cx.blk]; done) | exact rfl))))
      (pss_cons (ps_if (PW.pt (pw_or (pt_cmpR op_notIn_seq (pv 1) (pv 3) rfl) (pw_or1 (pt_cmpR op_notIn_seq (pv 2) (pv 3) rfl)))) (pss_one (ps_raise rfl (takes_of rfl rfl rfl rfl) (pmk_err0 e_UnknownRule))) pss_nil)
      (pss_no _))), ?_⟩
  refine ⟨_, rfl, x, OW, dx, _, _, rfl, h1, T, n1, rfl, b, dx', _, rfl, hbo, b, dx', _, _, rfl, hbo, rfl, p, rfl, ⟨_, hP⟩, fun D nD => lc_it walk_tup (fun i H' => Same H H' ∧ H' D = some (.lst (((f.nodes.take i).map fun n => n.nm).map V.str))) ⟨(Same.refl H).put nD, upd_same⟩ (fun _ _ _ h => h.1.tup hP) ?_ ?_⟩
  · rintro i v Ha0 Ha hi ⟨sa, ea⟩ ⟨rfl, hv⟩
    obtain ⟨nd, hnd, o3, rfl, hat⟩ := hF.all.get hv
    obtain ⟨dx3, c3, p3, l3, ws3, ho3, _⟩ := hat.keeps sa.keeps
    refine ⟨rfl, yes_ ⟨_, rfl, o3, dx3, _, rfl, ho3, o3, dx3, _, _, rfl, ho3, rfl, grow (acc := fun i => ((f.nodes.take i).map fun n => n.nm).map V.str) nD sa ea ?_ ?_⟩⟩
    · rw [List.length_map, List.length_map, List.length_take, sizeLine_eq]
      omega
    · rw [take_more hnd, List.map_append, List.map_append]
      rfl
  rintro H1 ⟨s1, e1⟩
  rw [hrl, List.take_length] at e1
  refine ⟨_, rfl, _, rfl, D, _, rfl, .inl (sqL_of e1), rfl, flat_strs _, _, rfl, ?_⟩
  rw [if_pos rfl, inV_str]
  by_cases c1 : m1 ∈ f.nodes.map fun n => n.nm
  · rw [decide_eq_true c1]
    refine iteF ⟨_, rfl, _, rfl, D, _, rfl, .inl (sqL_of e1), rfl, flat_strs _, _, rfl, ?_⟩
    rw [if_pos rfl, inV_str, decide_eq_false (fun c2 => hno ⟨c1, c2⟩)]
    exact iteT (qe H1 s1)
  · rw [decide_eq_false c1]
    exact iteT (iteT (qe H1 s1))
end
end Sc
namespace Sc
open PySem PySem.Spec PyProof.Rows L2 LamX
theorem sc__law_word : FnScope ["_law_work", "_law_e", "_law_kinds", "_law_words"] ["_law_work"] (defScope s__law_word) := ⟨rfl, rfl, rfl, by decide +kernel, rfl, by decide +kernel, by decide +kernel⟩
structure GWord (mg : Str → Option Value) (cl : Nat → Addr) (CE : Addr) : Prop where
  m_CourtError : mg "CourtError" = some (.ref CE)
  m_Contradiction : mg "Contradiction" = some (.ref (cl 0))
  m_InvalidCase : mg "InvalidCase" = some (.ref (cl 1))
  m_InvalidRuling : mg "InvalidRuling" = some (.ref (cl 2))
  m_TooMany : mg "TooMany" = some (.ref (cl 3))
  m_UnknownRule : mg "UnknownRule" = some (.ref (cl 4))
/-- the class at D is the k-th -/
structure WordRow (K : PySem.W.Frag) (cl : Nat → Addr) (CE D : Addr) (k : Nat) : Prop where
  err : ErrC K D
  ex : PySem.W.exmOne K (.ref D) (.ref CE) = some true
  kit : ∀ i, i < 5 → PySem.W.kitOne K (.ref D) (.ref (cl i)) = some (decide (i = k))
def w52 : List Str := ["Contradiction", "InvalidCase", "InvalidRuling", "TooMany", "UnknownRule", "another"]
/-- where the lambda of _law_word raises -/
abbrev EK (K : PySem.W.Frag) (cl : Nat → Addr) (CE : Addr) (Q : VK) : XK := fun cls d H1 => ∃ D : Addr, cls = .ref D ∧
  ∃ (k : Nat) (wd : Str), k < 5 ∧ WordRow K cl CE D k ∧ XdOk d H1 ∧ w52[k]? = some wd ∧ ∀ H2, Same H1 H2 → Q (.str wd) H2
/-- _law_word -/
def TWord (K : PySem.W.Frag) (cl : Nat → Addr) (CE : Addr) : (XK → Hp → VK → Prop) → Hp → VK → Prop := fun tl H Q => tl (EK K cl CE Q) H Q
abbrev kl (k : Nat) : List V := [.bl (decide (0 = k)), .bl (decide (1 = k)), .bl (decide (2 = k)), .bl (decide (3 = k)), .bl (decide (4 = k)), .bl true]
theorem kl_at : ∀ k, k < 5 → (kl k)[k]? = some (.bl true) ∧ (∀ m z, m < k → (kl k)[m]? = some z → eqV z (.bl true) = false) ∧ (kl k).all flatV = true
  | 0, _ => ⟨rfl, fun m z h => absurd h (Nat.not_lt_zero _), rfl⟩
  | 1, _ => ⟨rfl, fun m z h e => by
    match m, h, e with
    | 0, _, e => cases e; rfl, rfl⟩
  | 2, _ => ⟨rfl, fun m z h e => by
    match m, h, e with
    | 0, _, e => cases e; rfl
    | 1, _, e => cases e; rfl, rfl⟩
  | 3, _ => ⟨rfl, fun m z h e => by
    match m, h, e with
    | 0, _, e => cases e; rfl
    | 1, _, e => cases e; rfl
    | 2, _, e => cases e; rfl, rfl⟩
  | 4, _ => ⟨rfl, fun m z h e => by
    match m, h, e with
    | 0, _, e => cases e; rfl
    | 1, _, e => cases e; rfl
    | 2, _, e => cases e; rfl
    | 3, _, e => cases e; rfl, rfl⟩
  | n + 5, h => absurd h (by omega)
theorem fourS {σ : L2.St} (h : σ.length = 4) : ∃ x0 x1 x2 x3, σ = [x0, x1, x2, x3] := by
  match σ, h with
  | [a, b, c, d], _ => exact ⟨a, b, c, d, rfl⟩
theorem word_gives {X : Cx} {g : Addr} {cdg : Value} {q : Str} {cl : Nat → Addr} {CE : Addr} (B : Blt X.mg) (G : GWord X.mg cl CE) : GivesTo X ["_law_work", "_law_e", "_law_kinds", "_law_words"] "_law_word" (defScope s__law_word) g cdg (defBody s__law_word) "_law_work" q (TWord X.K cl CE) := by
  intro f c' s H Q tl act hc h
  refine ⟨_, pss_one (ps_try_as (X := (cxOf C8.CX0 X.prog X.w X.K X.mg X.base ["_law_work", "_law_e", "_law_kinds", "_law_words"] "_law_word" (defScope s__law_word) g cdg X.A X.stack s H C8.E0).nox) (i := 1) (c := .ref CE)
      (tb := fun W D σ H => ∃ Ech : XK, (∀ cls d σ' H', Ech cls d H' → σ'.length = 4 → W cls d σ' H') ∧ σ[0]? = some (some (.ref f)) ∧ H c' = some (CodeO c' q) ∧ tl Ech H fun v H1 => D.rt v H1)
      (Wout := fun _ _ _ _ => False) rfl rfl sc__law_word.nd rfl rfl ⟨rfl, by decide, .inl G.m_CourtError⟩ L2.takes0 (fun W pn xe tk _ => ?_)
      (fun a oe cls d pn hz hf => pss_.re (pss_cons (ps_set (i := 2) sc__law_word.nd rfl (Or.inl rfl) (pe_lst (pa_cons (pe_callB (call_isG hz hf) (by rfl) B.b_isinstance PyProof.Rows.boot_isinstance (pa_cons (pv 1) (pa_cons (pe_glob (v := .ref (cl 0)) rfl G.m_Contradiction rfl) pa_nil))) (pa_cons (pe_callB (call_isG hz hf) (by rfl) B.b_isinstance PyProof.Rows.boot_isinstance (pa_cons (pv 1) (pa_cons (pe_glob (v := .ref (cl 1)) rfl G.m_InvalidCase rfl) pa_nil))) (pa_cons (pe_callB (call_isG hz hf) (by rfl) B.b_isinstance PyProof.Rows.boot_isinstance (pa_cons (pv 1) (pa_cons (pe_glob (v := .ref (cl 2)) rfl G.m_InvalidRuling rfl) pa_nil))) pa_nil)))))
      (pss_cons (ps_set (i := 2) sc__law_word.nd rfl (Or.inl rfl) (pe_op op_cat (pv 2) (pe_lst (pa_cons (pe_callB (call_isG hz hf) (by rfl) B.b_isinstance PyProof.Rows.boot_isinstance (pa_cons (pv 1) (pa_cons (pe_glob (v := .ref (cl 3)) rfl G.m_TooMany rfl) pa_nil))) (pa_cons (pe_callB (call_isG hz hf) (by rfl) B.b_isinstance PyProof.Rows.boot_isinstance (pa_cons (pv 1) (pa_cons (pe_glob (v := .ref (cl 4)) rfl G.m_UnknownRule rfl) pa_nil))) (pa_cons pe_bl pa_nil))))))
      (pss_cons (ps_set (i := 3) sc__law_word.nd rfl (Or.inl rfl) (pe_lst (pa_cons pe_str (pa_cons pe_str (pa_cons pe_str (pa_cons pe_str (pa_cons pe_str (pa_cons pe_str pa_nil))))))))
      (pss_one (ps_ret (pe_ix ix_list (pv 3) (pe_bm PySem.F.plainAttrs_list PySem.F.slot_list_index PySem.F.type_list_index mt_index (pv 2) (pa_cons pe_bl pa_nil)) (fun _ _ => rfl))))))) (by first | (dsimp only [Cx.suite]; done) | exact rfl))), ?_⟩
  · refine ⟨fun pins s' σ H' D I h' => ?_⟩
    obtain ⟨Ech, hW, h1, h2, h3⟩ := h'
    exact (pss_one (ps_ret (act _ pn xe Ech _ _ (takes_len tk) fun cls d σ' H'' z e => hW cls d σ' H'' z e))).run pins s' σ H' D I ⟨h1, h2, h3⟩
  · refine ⟨_, fun cls d σ' H1 z hl => ?_, rfl, hc, h⟩
    obtain ⟨D, rfl, z⟩ := z
    obtain ⟨x0, x1, x2, x3, rfl⟩ := fourS hl
    obtain ⟨k, wd, hk, R, xd0, hwd, qq⟩ := z
    · obtain ⟨ki, kn, kf⟩ := kl_at k hk
      refine ⟨true, R.ex, fun _ ea _ => ?_, fun z => nomatch z⟩
      refine ⟨_, rfl, D, _, _, _, rfl, R.err, xd0, rfl, (fun u r => r), R.kit 0 (by decide), _, rfl, D, _, _, _, rfl, R.err, xd0, rfl, (fun u r => r), R.kit 1 (by decide), _, rfl, D, _, _, _, rfl, R.err, xd0, rfl, (fun u r => r), R.kit 2 (by decide), (by show 3 ≤ sizeLine; rw [sizeLine_eq]; decide), fun L nL => ?_⟩
      have s2 : Same H1 (upd H1 L (.lst [.bl (decide (0 = k)), .bl (decide (1 = k)), .bl (decide (2 = k))])) := (Same.refl H1).put nL
      have e2 : (upd H1 L (.lst [.bl (decide (0 = k)), .bl (decide (1 = k)), .bl (decide (2 = k))])) L = some (.lst [.bl (decide (0 = k)), .bl (decide (1 = k)), .bl (decide (2 = k))]) := upd_same
      generalize upd H1 L (.lst [.bl (decide (0 = k)), .bl (decide (1 = k)), .bl (decide (2 = k))]) = H2 at s2 e2 ⊢
      have xd2 : XdOk d H2 := fun dd e => by obtain ⟨zs, h⟩ := xd0 dd e; exact ⟨zs, s2 _ _ h⟩
      refine ⟨_, rfl, _, rfl, D, _, _, _, rfl, R.err, xd2, rfl, (fun u r => r), R.kit 3 (by decide), _, rfl, D, _, _, _, rfl, R.err, xd2, rfl, (fun u r => r), R.kit 4 (by decide), (by show 3 ≤ sizeLine; rw [sizeLine_eq]; decide), fun L2 n2 => ?_⟩
      have s3 : Same H2 (upd H2 L2 (.lst [.bl (decide (3 = k)), .bl (decide (4 = k)), .bl true])) := (Same.refl H2).put n2
      have e3 : (upd H2 L2 (.lst [.bl (decide (3 = k)), .bl (decide (4 = k)), .bl true])) L2 = some (.lst [.bl (decide (3 = k)), .bl (decide (4 = k)), .bl true]) := upd_same
      generalize upd H2 L2 (.lst [.bl (decide (3 = k)), .bl (decide (4 = k)), .bl true]) = H3 at s3 e3 ⊢
      refine ⟨L, L2, _, _, rfl, rfl, s3 _ _ e2, e3, (by show 6 ≤ sizeLine; rw [sizeLine_eq]; decide), fun L4 n4 => ?_⟩
      show (tSeq _ _) _ _ (upd H3 L4 (.lst (kl k)))
      have s4 : Same H3 (upd H3 L4 (.lst (kl k))) := (Same.refl H3).put n4
      have e4 : (upd H3 L4 (.lst (kl k))) L4 = some (.lst (kl k)) := upd_same
      generalize upd H3 L4 (.lst (kl k)) = H4 at s4 e4 ⊢
      refine ⟨(by show 6 ≤ sizeLine; rw [sizeLine_eq]; decide), fun L5 n5 => ?_⟩
      have s5 : Same H4 (upd H4 L5 (.lst [.str "Contradiction", .str "InvalidCase", .str "InvalidRuling", .str "TooMany", .str "UnknownRule", .str "another"])) := (Same.refl H4).put n5
      have e5 : (upd H4 L5 (.lst [.str "Contradiction", .str "InvalidCase", .str "InvalidRuling", .str "TooMany", .str "UnknownRule", .str "another"])) L5 = some (.lst (w52.map V.str)) := upd_same
      generalize upd H4 L5 (.lst [.str "Contradiction", .str "InvalidCase", .str "InvalidRuling", .str "TooMany", .str "UnknownRule", .str "another"]) = H5 at s5 e5 ⊢
      have e45 := s5 _ _ e4
      refine ⟨_, rfl, _, rfl, .inl ⟨rfl, _, sqL_of e45⟩, L4, _, .bl true, k, .bl true, rfl, rfl, sqL_of e45, rfl, kf, ki, rfl, kn, ?_⟩
      exact ⟨L5, _, _, _, rfl, rfl, sqL_of e5, atI_nat (j := k) (by rw [List.getElem?_map, hwd]; rfl), qq _ (((s2.trans s3).trans s4).trans s5)⟩
section
/-- _law_word(lambda: ..) -/
theorem pe_wordlam {X : Cx} {c PT : Addr} {k : Nat} {g : Addr} {fd : FuncData} {cl : Nat → Addr} {CE : Addr} {params : Arguments} {body : Expr} {scope : Scope} {t : XK → TE} {p lpos pos : Pos}
    (F : Fun X.K "_law_word" "_law_word" s__law_word g fd) (hm : X.mg "_law_word" = some (.ref g)) (hb : Binds X.K fd ["_law_work"] []) (B : Blt X.mg) (G : GWord X.mg cl CE) (TB : LamX.TabB X.base X.mg c PT) (hcode : X.env.code = .ref c)
    (hr : Room (k + 2) X.A) (L : LamX.LamS X.env.scope scope) (hdef : defaultsOf params X.env = ([], []))
    (hbind : ∀ (q : Str) (cl : List (Str × Addr)) (pm cv ctv : Value), bindArgs (PySem.W.kla_fn "<lambda>" q params body scope cl pm cv ctv) {} = pure [])
    (hbody : ∀ (A : Around) (outer : List Env) (s : Shared) (H : Hp) (E : XK) (f c' : Addr), Room k (A.deeper (LamX.lamEnv X scope s.heap.objs.size f c')) → PE (LamX.lamCx X A outer s H E scope f c') body (t E)) (hg : Gl X "_law_word" := by rfl) :
    PE X (.Call (.Name "_law_word" p) [.Lambda params body scope lpos] [] pos) (LamX.tLam [(PT, X.env.qual ++ "<lambda>")] (TWord X.K cl CE) t) := by
  obtain ⟨oc, od, kV, doc, pm, an, cdv, ct, osl, rfl, lk, hcd⟩ := F.ex
  exact LamX.pe_lamcall hg hm F.kp lk hcd hb sc__law_word rfl (Or.inl rfl) (word_gives B G) TB hcode (List.mem_singleton.mpr rfl) (fun p hp _ => by rw [List.mem_singleton.mp hp]) hr L hdef hbind hbody
end
end Sc
/-! a lambda as a value: made here, called later by a def that gets it -/
namespace LamL
open PySem PySem.Spec PyProof.Rows L2 LamX
/-- one object, as it stands in the heap -/
def Stands (f : Addr) (ob : Obj) : HO := .ext fun h => h.get? f = some ob
theorem Stands.new {P : Program} {w : World} {H : Hp} {h : Heap} {f : Addr} {ob : Obj} (e : h.get? f = some ob) : ObjOk P w H h f (Stands f ob) :=
  ⟨e, ⟨ob, e⟩, fun _ _ p st => st _ p⟩
theorem stands_ne {f : Addr} {ob : Obj} (ps : Array Value) : Stands f ob ≠ .tbl ps := fun z => by
  unfold Stands at z
  cases z
/-- a lambda's names: its parameters are none of the def's names, the others are captured or global -/
structure LamD (N : List Str) (sc scope : Scope) : Prop where
  kind : scope.kind = .function
  co : scope.isCoroutine = false
  gen : scope.isGenerator = false
  nocell : ∀ y ∈ scope.names, y.2 ≠ .cell
  own : ∀ y ∈ scope.names, y.2 = .local → y.1 ∉ N
  free : ∀ y ∈ scope.names, y.2 = .free → sc.names.lookup y.1 = some .cell ∨ sc.names.lookup y.1 = some .free
def lamDB (N : List Str) (sc scope : Scope) : Bool :=
  decide (scope.kind = .function) && (!scope.isCoroutine && (!scope.isGenerator && scope.names.all fun y => !decide (y.2 = .cell) && ((!decide (y.2 = .local) || !N.contains y.1) &&
    (!decide (y.2 = .free) || (decide (sc.names.lookup y.1 = some .cell) || decide (sc.names.lookup y.1 = some .free))))))
theorem lamD_by {N : List Str} {sc scope : Scope} (h : lamDB N sc scope = true) : LamD N sc scope := by
  unfold lamDB at h
  simp only [Bool.and_eq_true, Bool.or_eq_true, Bool.not_eq_true', decide_eq_true_eq, decide_eq_false_iff_not, List.all_eq_true] at h
  obtain ⟨h1, h2, h3, h4⟩ := h
  refine ⟨h1, h2, h3, fun y m => (h4 y m).1, fun y m e z => ?_, fun y m e => ?_⟩
  · rcases (h4 y m).2.1 with q | q
    · exact q e
    · rw [List.contains_eq_mem, decide_eq_false_iff_not] at q
      exact q z
  · rcases (h4 y m).2.2 with q | q
    · exact absurd e q
    · exact q
theorem LamD.caught {X : Cx} {scope : Scope} (L : LamD X.N X.env.scope scope) (ok : X.Ok) : ∀ y ∈ scope.names, y.2 = .free → ∃ c, X.env.cells.lookup y.1 = some c := fun y m e =>
  ok.has _ (L.free y m e)
abbrev qualL (X : Cx) : Str := X.env.qual ++ "<lambda>"
abbrev cloL (X : Cx) (scope : Scope) : List (Str × Addr) := cloFrom X.env.cells scope.names []
abbrev fnL (X : Cx) (params : Arguments) (body : Expr) (scope : Scope) (dV doc pm : Value) (c' : Addr) (ctv : Value) : FuncData :=
  PySem.W.kdv_fn "<lambda>" (qualL X) params (.expr body) scope (cloL X scope) dV doc pm (.ref c') ctv
abbrev obL (X : Cx) (params : Arguments) (body : Expr) (scope : Scope) (dV doc pm : Value) (c' : Addr) (ctv : Value) : Obj :=
  { cls := .type "function", data := .func (fnL X params body scope dV doc pm c' ctv) }
/-- what a call without arguments binds -/
def Free0 (X : Cx) (H : Hp) (fd : FuncData) (scope : Scope) : Prop :=
  bindArgs fd ⟨[], []⟩ = pure [] ∨ ∃ (T0 : Addr) (d : V) (a : Str), H T0 = some (.tup [d]) ∧ fd.defaults = .ref T0 ∧ scope.names.lookup a = some .local ∧
    ∃ k : Option (Array Value) → Sem (List (Str × Value)), bindArgs fd ⟨[], []⟩ = seqItems? fd.defaults >>= k ∧ ∀ v : Value, k (some #[v]) = pure [(a, v)]
/-- the lambda at f, made in the def X, its body read by t -/
def LamIs (X : Cx) (k : Nat) (H : Hp) (f : Addr) (t : XK → TE) : Prop := ∃ (params : Arguments) (body : Expr) (scope : Scope) (dV doc pm : Value) (c' : Addr) (ctv : Value),
  H f = some (Stands f (obL X params body scope dV doc pm c' ctv)) ∧ H c' = some (CodeO c' (qualL X)) ∧ LamD X.N X.env.scope scope ∧ Free0 X H (fnL X params body scope dV doc pm c' ctv) scope ∧
  ∀ (A : Around) (outer : List Env) (s : Shared) (H : Hp) (E : XK) (f c' : Addr), Room k (A.deeper (lamEnv X scope s.heap.objs.size f c')) → PE (lamCx X A outer s H E scope f c') body (t E)
theorem codeO_not {c : Addr} {q : Str} (ps : Array Value) : CodeO c q ≠ .tbl ps := fun z => by
  unfold CodeO at z
  cases z
theorem LamIs.ext {X : Cx} {k : Nat} {H H' : Hp} {f : Addr} {t : XK → TE} (L : LamIs X k H f t) (x : ExtN H H') : LamIs X k H' f t := by
  obtain ⟨params, body, scope, dV, doc, pm, c', ctv, h1, h2, h3, h4, h5⟩ := L
  refine ⟨params, body, scope, dV, doc, pm, c', ctv, x _ _ h1 stands_ne, x _ _ h2 codeO_not, h3, ?_, h5⟩
  rcases h4 with h4 | ⟨T0, d, a, e, r⟩
  · exact .inl h4
  · exact .inr ⟨T0, d, a, x _ _ e (fun _ z => nomatch z), r⟩
section
variable {X : Cx} {pins : List (Addr × Obj)} {σ : L2.St} {H HZ : Hp} {s s1 : Shared}
/-- the def's slots, seen from the lambda's frame -/
theorem lamD_start {A : Around} {outer : List Env} {E : XK} {scope : Scope} {f c' : Addr} {h₁ : Heap} {tk : Nat} {bs : List (Str × Value)} (I : Inv X pins σ H s) (D : LamD X.N X.env.scope scope) (e0 : Env0 X.prog X.w X.K X.mg X.base A outer s1 HZ)
    (hd : A.handled = none) (un : Un (frs X.stack) [] H HZ s.heap s1.heap) (hns : h₁.Ns s1.heap.objs.size fun y => bs.reverse.lookup y) (kp : ∀ b o, s1.heap.get? b = some o → h₁.get? b = some o) :
    Inv (lamCx X A outer s1 HZ E scope f c') [] σ HZ { s1 with heap := h₁, toks := tk } := by
  have got := D.caught I.ok
  -- a captured cell is the def's
  have same : ∀ {y c}, (cloL X scope).lookup y = some c → X.env.cells.lookup y = some c := by
    intro y c e
    rcases cloFrom_mem (PySem.mem_of_lookup e) with m | ⟨m, q⟩
    · exact absurd m (by simp)
    · obtain ⟨c1, hc⟩ := got _ m rfl
      have hc : X.env.cells.lookup y = some c1 := hc
      rw [hc] at q
      rw [hc, q]
      rfl
  have there : ∀ {y}, scope.names.lookup y = some .free → ∃ c, (cloL X scope).lookup y = some c := by
    intro y e
    have m : (y, NameKind.free) ∈ scope.names := PySem.mem_of_lookup e
    exact mem_lookup (cloFrom_has (cells := X.env.cells) (acc := []) m)
  have stays : ∀ {c : Addr} {v : Option Value}, H c = none → s.heap.IsCell c v → h₁.IsCell c v := by
    rintro c v n ⟨o, ho, hv⟩
    obtain ⟨sl, q⟩ := un.any ho n (by simp)
    exact ⟨_, kp _ _ q, hv⟩
  refine
    { ok :=
        { mod := e0.mod
          kind := D.kind
          glob := rfl
          blt := rfl
          above := Nat.le_refl _
          inj := fun y z c a b => I.ok.inj y z c (same a) (same b)
          has := fun y hy => ?_
          cab := fun y c z _ => nomatch (show false = true from z)
          hd := fun _ => hd
          frames := Around.frames_deeper e0.frames
          stk := .inr ⟨rfl, rfl⟩
          exf := fun b z => absurd (show b ∈ ([] : List Addr) from z) (by simp)
          bs := e0.bs
          bsz := e0.bsz
          noex := fun b _ _ z => absurd (show b ∈ ([] : List Addr) from z) (by simp)
          exfs := fun b z => absurd (show b ∈ ([] : List Addr) from z) (by simp)
          funs := e0.funs
          frf := e0.frf }
      os := rfl
      bare := e0.bare
      base := Un.kept kp
      loc := ⟨_, hns, fun i y v hi hv vis => ?_⟩
      cell := fun y c e => ?_
      free := e0.hok.fresh (Nat.le_refl _)
      freeC := fun y c e => ?_
      pin := fun q m => absurd (show q ∈ ([] : List (Addr × Obj)) ++ [] from m) (by simp)
      hok := e0.hok.kept kp
      len := I.len }
  · rcases (show scope.names.lookup y = some .cell ∨ scope.names.lookup y = some .free from hy) with q | q
    · exact absurd rfl (D.nocell _ (PySem.mem_of_lookup q))
    · exact there q
  · rcases (show Vis scope y from vis) with q | q | q
    · exact absurd (List.mem_of_getElem? hi) (D.own _ (PySem.mem_of_lookup q) rfl)
    · exact absurd rfl (D.nocell _ (PySem.mem_of_lookup q))
    · obtain ⟨m, _, look⟩ := I.loc
      have fr := D.free _ (PySem.mem_of_lookup q) rfl
      obtain ⟨u, ru, lu⟩ := look i y v hi hv (fr.elim (fun z => .inr (.inl z)) fun z => .inr (.inr z))
      obtain ⟨c2, e2⟩ := there q
      have e1 := same e2
      refine ⟨u, ru, .inr ⟨.inr q, c2, e2, ?_⟩⟩
      rcases lu with ⟨z, _⟩ | ⟨_, c3, e3, at3⟩
      · have z : X.env.scope.names.lookup y = some .local := z
        rcases fr with w | w
        · rw [show X.env.scope.names.lookup y = _ from w] at z
          cases z
        · rw [show X.env.scope.names.lookup y = _ from w] at z
          cases z
      · rw [e1] at e3
        cases e3
        exact stays (I.freeC y _ e1) at3
  · obtain ⟨u, z⟩ := I.cell y c (same e)
    exact ⟨u, stays (I.freeC y c (same e)) z⟩
  · obtain ⟨v, o, ho, _⟩ := I.cell y c (same e)
    exact un.free c o ho (I.freeC y c (same e)) (by simp)
end
end LamL
/-! the call of a lambda that was kept -/
namespace LamL
open PySem PySem.Spec PyProof.Rows L2 LamX
section
variable {X : Cx} {pins : List (Addr × Obj)} {σ : L2.St} {H HZ : Hp} {s s1 : Shared}
/-- a lambda's parameters, bound by their defaults -/
theorem Free0.at {params : Arguments} {body : Expr} {scope : Scope} {dV doc pm : Value} {c' : Addr} {ctv : Value} (h : Free0 X H (fnL X params body scope dV doc pm c' ctv) scope) (ok : HOk X.prog X.w H s.heap) :
    ∃ bs, BindsTo s (fnL X params body scope dV doc pm c' ctv) ⟨[], []⟩ bs ∧ ∀ y ∈ bs, scope.names.lookup y.1 = some .local := by
  rcases h with h | ⟨T0, d, a, hT, hd, hl, k, h1, h2⟩
  · exact ⟨[], .of_eq h, fun y hy => absurd hy (by simp)⟩
  · obtain ⟨_, its, r, ob, o1, _, n, o2⟩ := (show ObjOk X.prog X.w H s.heap T0 (.tup [d]) from ok T0 _ hT)
    cases r with
    | @cons _ v _ _ r0 r1 =>
      cases r1
      exact ⟨[(a, v)], BindsTo.of_defaults hd o1 o2 h1 (h2 v), fun y hy => by rw [List.mem_singleton.mp hy]; exact hl⟩
/-- a(), in the def Z that got it: what its body comes to -/
theorem pe_actL {CXg : CXT} {Eg : XK} {Ng : List Str} {qg : Str} {sg : Scope} {g f : Addr} {cdg : Value} {k i : Nat} {a : Str} {pn : List (Addr × Obj)} {xe : Value → Shared → Prop} {W : WX} {E : XK} {t : XK → TE} {p1 p2 : Pos} {Z : Cx}
    (hZ : Z = (cxOf CXg X.prog X.w X.K X.mg X.base Ng qg sg g cdg X.A X.stack s H Eg).tr pn xe) (I : Inv X pins σ H s) (tk : Takes Z W) (hW : ∀ cls d σ' H', E cls d H' → W cls d σ' H') (hr : Room (k + 1) (X.A.deeper (envOfC qg sg s.heap.objs.size g cdg)))
    (hN : Ng[i]? = some a) (hv : Vis sg a) (hd : (a == ("__debug__" : Str)) = false := by decide) (hcd : (a == ("__classdict__" : Str)) = false := by decide) :
    PE Z (.Call (.Name a p1) [] [] p2) (fun σZ HZ Q => σZ[i]? = some (some (.ref f)) ∧ LamIs X k HZ f t ∧ t E σ HZ Q) := by
  have hx : Passes (L2.CX X.prog X.w) Z E := by subst hZ; exact passes_call tk hW
  subst hZ
  refine ⟨fun pinsZ sZ σZ HZ Q IZ ⟨hs, L, ht⟩ => ?_⟩
  have pv := (pe_var (X := (cxOf CXg X.prog X.w X.K X.mg X.base Ng qg sg g cdg X.A X.stack s H Eg).tr pn xe) (pos := p1) (i := i) hN hv hd hcd).run pinsZ sZ σZ HZ (fun v H1 => v = .ref f ∧ H1 = HZ) IZ ⟨.ref f, hs, rfl, rfl⟩
  refine wpAny_Call_Name_kw (thn pv fun u s1 ⟨v, H1, I1, r1, ev, eH⟩ => ?_)
  subst ev
  subst eH
  obtain rfl : u = Value.ref f := r1
  obtain ⟨params, body, scope, dV, doc, pm, c', ctv, hf, hc, D, h0, hb⟩ := L
  obtain ⟨at1, _, _⟩ := I1.hok f _ hf
  obtain ⟨⟨oc, vs, tt, hoc, hdc, hvc⟩, _, _⟩ := I1.hok c' _ hc
  obtain ⟨bs, bt, bl⟩ := h0.at I1.hok
  refine PySem.W.callWith_F0 ⟨_, _, _, _, at1⟩ ?_
  have un : Un (frs X.stack) [] H H1 s.heap s1.heap := I1.base
  have ran : codeAny (model X.prog X.w) (X.A.deeper (envOfC qg sg s.heap.objs.size g cdg)) (.call (.ref f) ⟨[], []⟩) (CR (L2.CX X.prog X.w) (envOfC qg sg s.heap.objs.size g cdg :: X.stack) X.prog X.w H1 s1 Q E) s1 := by
    refine PySem.W.kla_callFunE hr.depth at1 rfl D.co D.gen rfl ⟨c', oc, vs, tt, rfl, hoc, hdc, hvc⟩ (bt _ _ _ _ ?_)
    refine wpAny_newFunctionEnv D.nocell bl (fun h₁ ns sb => ⟨I1.nolimit.fresh _ sb, ?_⟩) D.kind
    show codeAny _ _ (.expr body (lamEnv X scope s1.heap.objs.size f c')) _ _
    have kp : ∀ b o, s1.heap.get? b = some o → h₁.get? b = some o := fun b o e => sb.extBut b o (Nat.ne_of_lt (Heap.lt_size e)) (Heap.get?_push_of_some _ e)
    have J := lamD_start (E := E) (f := f) (c' := c') (tk := s1.toks + bs.length) I D I1.env0 hr.hd un ns kp
    refine PySem.W.kla_codeExpr (wpAny_mono ((hb _ _ s1 H1 E f c' (hr.deeper _)).run [] _ _ H1 Q J ht) (fun v s' q => ?_) fun e s' q => q)
    obtain ⟨w', H', J', rv, q⟩ := q
    exact ⟨w', H', J'.os, J'.bare, J'.base, J'.hok, rv, q⟩
  refine wpAny_call (codeAny_mono ran fun r s' q => ?_)
  cases r with
  | error e => exact hx pinsZ σZ H1 s1 e s' I1 q
  | ok fl =>
    cases fl with
    | ret u => exact I1.after q
    | next => exact False.elim q
    | brk => exact False.elim q
    | cont => exact False.elim q
/-- the def g called with a lambda that was kept -/
theorem lam_run {TT : (XK → Hp → VK → Prop) → Hp → VK → Prop} {x a : Str} {g f : Addr} {k : Nat} {pg : Arguments} {bg : List Stmt} {sg : Scope} {dV kV doc pm cdv ct oc : Value} {an od : Option Addr} {osl : Array (Option Value)} {Ng : List Str} {t : XK → TE} {Q : VK}
    (lk : X.K.lookup g = some ⟨oc, od, .func (PySem.W.fnOf x x pg bg sg dV kV doc pm an cdv ct), osl⟩) (hcg : PySem.W.codeIn X.K cdv x = true) (hb : L2.Binds X.K (PySem.W.fnOf x x pg bg sg dV kV doc pm an cdv ct) [a] []) (Sg : FnScope Ng [a] sg) (hNg : Ng[0]? = some a) (hva : Vis sg a)
    (hG : GivesTo X Ng x sg g cdv bg a (X.env.qual ++ "<lambda>") TT) (hr : Room (k + 2) X.A) (I : Inv X pins σ H s) (L : LamIs X k H f t) (h : TT (fun E HZ Q' => LamIs X k HZ f t ∧ t E σ HZ Q') H Q)
    (hd : (a == ("__debug__" : Str)) = false := by decide) (hcd : (a == ("__classdict__" : Str)) = false := by decide) : codeAny (model X.prog X.w) X.A (.call (.ref g) ⟨[.ref f], []⟩) (CR C8.CX0 X.stack X.prog X.w H s Q C8.E0) s := by
  obtain ⟨params, body, scope, dV', doc', pm', c', ctv, hf, hc, L1⟩ := id L
  refine run_ofS (N := Ng) (ps := [a]) (us := [.ref f]) (vs := [.ref f]) lk hcg Sg hr I.env0 (hb s [.ref f] I.kIn rfl) (.cons rfl .nil) rfl fun hr' => ?_
  have act : ∀ (W : WX) (pn : List (Addr × Obj)) (xe : Value → Shared → Prop) (E : XK) (p1 p2 : Pos), Takes ((cxOf C8.CX0 X.prog X.w X.K X.mg X.base Ng x sg g cdv X.A X.stack s H C8.E0).tr pn xe) W → (∀ cls d σ' H', E cls d H' → W cls d σ' H') →
      PE ((cxOf C8.CX0 X.prog X.w X.K X.mg X.base Ng x sg g cdv X.A X.stack s H C8.E0).tr pn xe) (.Call (.Name a p1) [] [] p2) (fun σZ HZ Q => σZ[0]? = some (some (.ref f)) ∧ HZ c' = some (CodeO c' (X.env.qual ++ "<lambda>")) ∧ LamIs X k HZ f t ∧ t E σ HZ Q) := by
    intro W pn xe E p1 p2 tk hW
    have P := pe_actL (f := f) (t := t) (k := k) (i := 0) (p1 := p1) (p2 := p2) rfl I tk hW hr' hNg hva hd hcd
    exact ⟨fun pinsZ sZ σZ HZ Q IZ ⟨h1, _, h3, h4⟩ => P.run pinsZ sZ σZ HZ Q IZ ⟨h1, h3, h4⟩⟩
  obtain ⟨t', ht', hq'⟩ := hG f c' s H Q (fun E HZ Q' => LamIs X k HZ f t ∧ t E σ HZ Q') act hc h
  exact ⟨t', ht'.nox, hq'⟩
end
/-- whenever B runs, so does X, with the slots σ -/
structure Within (X B : Cx) (σ : L2.St) : Prop where
  st : B.stack = X.stack
  air : B.A = X.A
  prog : B.prog = X.prog
  w : B.w = X.w
  K : B.K = X.K
  mg : B.mg = X.mg
  base : B.base = X.base
  up : ∀ pins σB H s, Inv B pins σB H s → ∃ pinsX, Inv X pinsX σ H s
/-- what comes of it -/
def tUse (X : Cx) (k : Nat) (TT : (XK → Hp → VK → Prop) → Hp → VK → Prop) (te : TE) (σ : L2.St) : TE := fun σB H Q => te σB H fun v H1 => ∃ f t, [v] = [V.ref f] ∧ LamIs X k H1 f t ∧ TT (fun E HZ Q' => LamIs X k HZ f t ∧ t E σ HZ Q') H1 Q
/-- x(e), e a lambda that was kept -/
theorem pe_lamuse {X B : Cx} {σ : L2.St} {TT : (XK → Hp → VK → Prop) → Hp → VK → Prop} {x a : Str} {g : Addr} {k : Nat} {pg : Arguments} {bg : List Stmt} {sg : Scope} {dV kV doc pm cdv ct oc : Value} {an od : Option Addr} {osl : Array (Option Value)} {Ng : List Str} {e : Expr} {te : TE} {p pos : Pos}
    (Wn : Within X B σ) (hg : Gl B x) (hm : X.mg x = some (.ref g)) (hk : PySem.W.keepIn X.K (.ref g) = true)
    (lk : X.K.lookup g = some ⟨oc, od, .func (PySem.W.fnOf x x pg bg sg dV kV doc pm an cdv ct), osl⟩) (hcg : PySem.W.codeIn X.K cdv x = true) (hb : L2.Binds X.K (PySem.W.fnOf x x pg bg sg dV kV doc pm an cdv ct) [a] []) (Sg : FnScope Ng [a] sg) (hNg : Ng[0]? = some a) (hva : Vis sg a)
    (hG : GivesTo X Ng x sg g cdv bg a (X.env.qual ++ "<lambda>") TT) (hr : Room (k + 2) X.A) (he : PE B e te)
    (hdb : (x == ("__debug__" : Str)) = false := by decide) (hd : (a == ("__debug__" : Str)) = false := by decide) (hcd : (a == ("__classdict__" : Str)) = false := by decide)
    (hse : starEach [e] B.env = (false, eval e B.env) :: starEach [] B.env := by rfl) (hpl : (backTo pos (starEach [] B.env)).any (·.1) = false := by rfl) :
    PE B (.Call (.Name x p) [e] [] pos) (tUse X k TT te σ) := by
  refine ⟨fun pins s σB H Q I h => ?_⟩
  have hmB : B.mg x = some (.ref g) := by rw [Wn.mg]; exact hm
  have hkB : PySem.W.keepIn B.K (.ref g) = true := by rw [Wn.K]; exact hk
  refine wpAny_Call_Name_kw (ld_glob I hg hmB ?_ hdb)
  have ha : PA B [e] (tCons te tNil) := pa_cons he pa_nil hse
  have h' : tCons te tNil σB H (fun vs H1 => ∃ f t, vs = [.ref f] ∧ LamIs X k H1 f t ∧ TT (fun E HZ Q' => LamIs X k HZ f t ∧ t E σ HZ Q') H1 Q) := h
  refine PySem.W.callWith_K (h₀ := B.base) I.ok.mod.kin hkB (thn (ha.run pos pins s σB H _ I h') fun us s1 ⟨vs, H1, I1, r, f, t, ev, L, q⟩ => ⟨I1.kIn, ?_⟩) hse hpl
  subst ev
  obtain rfl : us = [.ref f] := by
    cases r with
    | cons r0 r1 => cases r1; cases r0; rfl
  obtain ⟨pinsX, J⟩ := Wn.up pins σB H1 s1 I1
  have rc := lam_run lk hcg hb Sg hNg hva hG hr J L q hd hcd
  rw [Wn.prog, Wn.w, Wn.air]
  refine wpAny_call (codeAny_mono rc fun r s2 hq => ?_)
  cases r with
  | error e => exact (show False from hq).elim
  | ok fl =>
    cases fl with
    | ret u => exact I1.after (by rw [Wn.st, Wn.prog, Wn.w]; exact hq)
    | next => exact False.elim hq
    | brk => exact False.elim hq
    | cont => exact False.elim hq
end LamL
/-! the making of a lambda that is kept -/
namespace LamL
open PySem PySem.Spec PyProof.Rows L2 LamX
section
variable {X : Cx} {pins : List (Addr × Obj)} {σ : L2.St} {H : Hp} {s : Shared}
/-- the last step: the code object is new or known, the function object is new -/
theorem mk_tail {T : List (Addr × Str)} {c P : Addr} {params : Arguments} {body : Expr} {scope : Scope} {dV : Value} {pos : Pos} {E Q : Value → Shared → Prop} (I : Inv X pins σ H s) (TB : TabB X.base X.mg c P) (hcode : X.env.code = .ref c)
    (hm : (P, qualL X) ∈ T) (hu : ∀ p ∈ T, p.1 = P → p.2 = qualL X) (hT : Tabs T H) (D : LamD X.N X.env.scope scope)
    (h : ∀ (f c' : Addr) (doc pm ctv : Value) (H1 : Hp) (s' : Shared), Inv X pins σ H1 s' → ExtN H H1 → Tabs T H1 → H1 f = some (Stands f (obL X params body scope dV doc pm c' ctv)) → H1 c' = some (CodeO c' (qualL X)) → Q (.ref f) s') :
    wpAny (model X.prog X.w) X.A (makeTail "<lambda>" (qualL X) params (.expr body) scope X.env dV .none none pos pos.line) Q E s := by
  have got := D.caught I.ok
  obtain ⟨ps, hP, ht, known⟩ := hT _ hm
  have bP := TB.bm.keeps I.bk
  have atP : s.heap.get? P = some { cls := .none, data := .fields ps } := I.hok P _ hP
  have put : ∀ {H0 : Hp} {f : Addr} {ob : Obj}, H0 f = none → Tabs T H0 → Tabs T (upd H0 f (Stands f ob)) := by
    intro H0 f ob n t p hp
    obtain ⟨ps', a1, a2, a3⟩ := t p hp
    refine ⟨ps', by rw [upd_ne (ne_of_none a1 n)]; exact a1, a2, fun q cv e => ?_⟩
    obtain ⟨c0, e1, e2⟩ := a3 q cv e
    exact ⟨c0, e1, by rw [upd_ne (ne_of_none e2 n)]; exact e2⟩
  cases hc : codeAmong pos ps.toList with
  | none =>
    refine PySem.W.kdv_makeTail (mg := X.mg) (c := c) (P := P) (ps := ps) (closure_ok got) I.ok.glob (I.mod.glob.keeps I.bk) hcode (TB.code.keeps I.bk) atP ht hc TB.gP bP fun c' ctv doc h' tk hx hge hlt hrec htb => ?_
    obtain ⟨c2, oc, vs, t, e2, hoc, hd, hv⟩ := hrec
    cases e2
    have nC : H c' = none := I.hok.fresh hge
    have I1 := inv_table (t' := tk) (more := #[rawInt pos.line, rawInt pos.col, .ref c']) (h' := h') I hP (fun b o nb e => hx b o nb e) htb hge ⟨oc, vs, t, hoc, hd, hv⟩
    have hE : ExtN H (upd (upd H P (.tbl (ps ++ #[rawInt pos.line, rawInt pos.col, .ref c']))) c' (CodeO c' (qualL X))) := by
      intro b o e n
      rw [upd_ne (ne_of_none e nC), upd_ne (fun z => n ps (Option.some.inj (e.symm.trans (by rw [z]; exact hP))))]
      exact e
    have eL : (ps ++ #[rawInt pos.line, rawInt pos.col, .ref c']).toList = ps.toList ++ [rawInt pos.line, rawInt pos.col, .ref c'] := by simp
    have hTab : Tabs T (upd (upd H P (.tbl (ps ++ #[rawInt pos.line, rawInt pos.col, .ref c']))) c' (CodeO c' (qualL X))) := by
      intro p hp
      by_cases hb : p.1 = P
      · rw [hu p hp hb, hb]
        refine ⟨_, by rw [upd_ne (ne_of_none hP nC), upd_same], by rw [eL]; exact PySem.TriplesOk_snoc _ _ _ _ ht, fun q cv e => ?_⟩
        rw [eL] at e
        rcases among_app _ ht e with z | z
        · obtain ⟨c0, e1, e2⟩ := known q cv z
          exact ⟨c0, e1, hE _ _ e2 codeO_not⟩
        · exact ⟨c', z, upd_same⟩
      · obtain ⟨ps', a1, a2, a3⟩ := hT p hp
        refine ⟨ps', by rw [upd_ne (ne_of_none a1 nC), upd_ne hb]; exact a1, a2, fun q cv e => ?_⟩
        obtain ⟨c0, e1, e2⟩ := a3 q cv e
        exact ⟨c0, e1, hE _ _ e2 codeO_not⟩
    have atC : (upd (upd H P (.tbl (ps ++ #[rawInt pos.line, rawInt pos.col, .ref c']))) c' (CodeO c' (qualL X))) c' = some (CodeO c' (qualL X)) := upd_same
    generalize upd (upd H P (.tbl (ps ++ #[rawInt pos.line, rawInt pos.col, .ref c']))) c' (CodeO c' (qualL X)) = H1 at I1 hE hTab atC
    have nF : H1 h'.objs.size = none := I1.hok.fresh (Nat.le_refl _)
    have I2 := I1.laid (a := h'.objs.size) (o := Stands h'.objs.size (obL X params body scope dV doc ((X.mg "__name__").getD .none) c' ctv)) (t' := tk) (h' := h'.push (obL X params body scope dV doc ((X.mg "__name__").getD .none) c' ctv))
      (fun b u e => Heap.get?_push_of_some _ e) (Nat.le_refl _) (Stands.new (Heap.get?_push_size _ rfl))
    exact h h'.objs.size c' doc _ ctv _ _ I2 (hE.trans fun b o e _ => by rw [upd_ne (ne_of_none e nF)]; exact e) (put nF hTab) upd_same (by rw [upd_ne (ne_of_none atC nF)]; exact atC)
  | some cv =>
    obtain ⟨c', e, hco⟩ := known pos cv hc
    subst e
    refine PySem.W.kdv_makeTailHit (mg := X.mg) (c := c) (P := P) (ps := ps) (closure_ok got) I.ok.glob (I.mod.glob.keeps I.bk) hcode (TB.code.keeps I.bk) atP ht hc bP fun ctv doc h' tk hx hsz => ?_
    have nF : H h'.objs.size = none := I.hok.fresh hsz
    have I2 := I.laid (a := h'.objs.size) (o := Stands h'.objs.size (obL X params body scope dV doc ((X.mg "__name__").getD .none) c' ctv)) (t' := tk) (h' := h'.push (obL X params body scope dV doc ((X.mg "__name__").getD .none) c' ctv))
      (fun b u e => Heap.get?_push_of_some _ (hx b u e)) hsz (Stands.new (Heap.get?_push_size _ rfl))
    exact h h'.objs.size c' doc _ ctv _ _ I2 (fun b o e _ => by rw [upd_ne (ne_of_none e nF)]; exact e) (put nF hT) upd_same (by rw [upd_ne (ne_of_none hco nF)]; exact hco)
/-- a lambda as a value -/
def tLamV (X : Cx) (T : List (Addr × Str)) (k : Nat) (t : XK → TE) : TE := fun _ H Q => Tabs T H ∧ ∀ f H1, ExtN H H1 → Tabs T H1 → LamIs X k H1 f t → Q (.ref f) H1
theorem pe_lamV0 {T : List (Addr × Str)} {c P : Addr} {k : Nat} {params : Arguments} {body : Expr} {scope : Scope} {t : XK → TE} {pos : Pos} (TB : TabB X.base X.mg c P) (hcode : X.env.code = .ref c) (hm : (P, qualL X) ∈ T) (hu : ∀ p ∈ T, p.1 = P → p.2 = qualL X)
    (D : LamD X.N X.env.scope scope) (hdef : defaultsOf params X.env = ([], [])) (hbind : ∀ (doc pm ctv : Value) (c' : Addr), bindArgs (fnL X params body scope .none doc pm c' ctv) ⟨[], []⟩ = pure [])
    (hb : ∀ (A : Around) (outer : List Env) (s : Shared) (H : Hp) (E : XK) (f c' : Addr), Room k (A.deeper (lamEnv X scope s.heap.objs.size f c')) → PE (lamCx X A outer s H E scope f c') body (t E)) :
    PE X (.Lambda params body scope pos) (tLamV X T k t) := by
  refine ⟨fun pins s σ H Q I ⟨hT, h⟩ => PySem.W.kla_eval hdef ?_⟩
  rw [makeFunction_eq]
  simp only [List.zip_nil_right, List.filterMap_nil, List.isEmpty_nil, if_true, pure_bind]
  refine mk_tail I TB hcode hm hu hT D fun f c' doc pm ctv H1 s' I1 eN T1 hf hc => ?_
  exact ⟨.ref f, H1, I1, rfl, h f H1 eN T1 ⟨params, body, scope, .none, doc, pm, c', ctv, hf, hc, D, .inl (hbind doc pm ctv c'), hb⟩⟩
/-- the same with one parameter that has a default -/
theorem pe_lamV1 {T : List (Addr × Str)} {c P : Addr} {k : Nat} {params : Arguments} {body e0 : Expr} {d : V} {a : Str} {scope : Scope} {t : XK → TE} {pos : Pos} (TB : TabB X.base X.mg c P) (hcode : X.env.code = .ref c) (hm : (P, qualL X) ∈ T) (hu : ∀ p ∈ T, p.1 = P → p.2 = qualL X)
    (D : LamD X.N X.env.scope scope) (h1 : params.defaults = [e0]) (h2 : params.kw_defaults = []) (he : PE X e0 (tC d)) (hl : scope.names.lookup a = some .local)
    (hbind : ∀ (doc pm ctv : Value) (c' T0 : Addr), ∃ kk : Option (Array Value) → Sem (List (Str × Value)), bindArgs (fnL X params body scope (.ref T0) doc pm c' ctv) ⟨[], []⟩ = seqItems? (.ref T0) >>= kk ∧ ∀ v : Value, kk (some #[v]) = pure [(a, v)])
    (hb : ∀ (A : Around) (outer : List Env) (s : Shared) (H : Hp) (E : XK) (f c' : Addr), Room k (A.deeper (lamEnv X scope s.heap.objs.size f c')) → PE (lamCx X A outer s H E scope f c') body (t E)) :
    PE X (.Lambda params body scope pos) (tLamV X T k t) := by
  refine ⟨fun pins s σ H Q I ⟨hT, h⟩ => PySem.W.kdv_lam (by rw [h1]; rfl) h2 ?_⟩
  rw [h1]
  refine PySem.W.kdv_all1 (thn (he.run pins s σ H (fun v H' => v = d ∧ H' = H) I ⟨rfl, rfl⟩) fun u s1 ⟨v, H', I1, r1, ev, eH⟩ => PySem.W.kdv_all0 ?_)
  subst ev
  subst eH
  rw [makeFunction_eq]
  simp only [List.zip_nil_right, List.filterMap_nil, List.isEmpty_nil, List.isEmpty_cons, Bool.false_eq_true, if_false, if_true, pure_bind]
  refine wpAny_bind (wpAny_newTextTuple ?_)
  have nT : H' s1.heap.objs.size = none := I1.hok.fresh (Nat.le_refl _)
  have I2 := I1.laid (a := s1.heap.objs.size) (o := .tup [v]) (t' := s1.toks) (h' := s1.heap.push (PySem.W.kdv_tup [u])) (fun b o e => Heap.get?_push_of_some _ e) (Nat.le_refl _) ⟨by show 1 ≤ sizeLine; rw [sizeLine_eq]; decide, [u], .cons r1 .nil, _, Heap.get?_push_size _ rfl, rfl, _, rfl⟩
  have hT2 : Tabs T (upd H' s1.heap.objs.size (.tup [v])) := hT.ext fun b o e => by rw [upd_ne (ne_of_none e nT)]; exact e
  refine mk_tail I2 TB hcode hm hu hT2 D fun f c' doc pm ctv H1 s' I3 eN T1 hf hc => ?_
  obtain ⟨kk, b1, b2⟩ := hbind doc pm ctv c' s1.heap.objs.size
  refine ⟨.ref f, H1, I3, rfl, h f H1 (fun b o e n => eN b o (by rw [upd_ne (ne_of_none e nT)]; exact e) n) T1 ⟨params, body, scope, _, doc, pm, c', ctv, hf, hc, D, .inr ⟨s1.heap.objs.size, v, a, eN _ _ upd_same (fun _ z => nomatch z), rfl, hl, kk, b1, b2⟩, hb⟩⟩
end
end LamL
/-! a comprehension whose block knows the def that it stands in -/
namespace LamL
open PySem PySem.Spec PyProof.Rows L2 LamX
section
variable {X : Cx}
/-- [elt for tg in iter]: elt may ask for lambdas that were made in the def -/
theorem pe_lcW {elt tg iter : Expr} {scope : Scope} {own : List (Str × Nat)} {pos : Pos} {wi : TI} {g : TG} {te : L2.St → TE} (hc : X.calm = true) (hN : X.N.Nodup) (hi : PI X tg iter wi) (ok : BlkOk X.N X.env.scope scope own)
    (hg : ∀ (s : Shared) (H : Hp) (C : Addr) (cl : List (Str × Addr)) (fp : List Addr), PG (X.blk s H scope (compEnvC scope cl C X.env) fp) tg g)
    (he : ∀ (σ : L2.St) (s : Shared) (H : Hp) (C : Addr) (cl : List (Str × Addr)) (fp : List Addr), Within X (X.blk s H scope (compEnvC scope cl C X.env) fp) σ → PE (X.blk s H scope (compEnvC scope cl C X.env) fp) elt (te σ))
    (hs : ∀ x, foldedSetIterable iter X.env x = pure x := by intro _; rfl) :
    PE X (.ListComp elt [⟨tg, iter, [], 0⟩] scope pos) (fun σ H Q => tLc wi g tYes (te σ) (own.map (·.2)) σ H Q) := by
  refine ⟨fun pins s σ H Q I h => ?_⟩
  rw [eval_ListComp]
  have got : ∀ y ∈ scope.names, y.2 = .free → ∃ c, X.env.cells.lookup y.1 = some c := fun y m e => I.ok.has _ (ok.free y m e)
  refine wpAny_comprehension_free rfl hs (closure_ok got) ok.kind (fun y m e => by rw [ok.uniq y m, e]) ?_
  refine thn (hi.run pins s σ H _ I h) fun _ _ hx => thn hx fun _ s2 h2 => ?_
  obtain ⟨it, fp, tn, J, H2, rfl, I2, T, st2, f2, q⟩ := h2
  refine wpAny_newObj_type (newEnv_comp ?_) (by show 0 ≤ sizeLine; decide)
  -- the list that grows
  have nD : H2 s2.heap.objs.size = none := I2.hok.fresh (Nat.le_refl _)
  obtain ⟨W, ⟨m0, w0⟩, turn⟩ := q _ nD
  have I3 := I2.laid (a := s2.heap.objs.size) (o := .lst []) (t' := s2.toks) (h' := s2.heap.push { cls := .type "list", data := .seq ([] : List Value).toArray }) (fun b o e => Heap.get?_push_of_some _ e) (Nat.le_refl _)
    ⟨Nat.zero_le _, [], 0, .nil, Heap.get?_push_size _ rfl⟩
  have sz : ∀ b ∈ fp, b < s2.heap.objs.size := fun b hb => by
    obtain ⟨o, e, _⟩ := T.obj _ _ st2 b hb
    exact Heap.lt_size e
  generalize hDD : s2.heap.objs.size = D at *
  generalize h3 : s2.heap.push { cls := .type "list", data := .seq ([] : List Value).toArray } = hp3 at *
  have z3 : hp3.objs.size = D + 1 := by rw [← h3, Heap.size_push, hDD]
  have st3 : tn 0 hp3 := T.keep _ _ _ st2 fun b _ o e => by rw [← h3]; exact Heap.get?_push_of_some _ e
  generalize hss : ({ heap := hp3, gens := s2.gens, drawn := s2.drawn, toks := s2.toks, os := s2.os } : Shared) = s3 at *
  have e3 : s3.heap = hp3 := by rw [← hss]
  generalize hH3 : upd H2 D (.lst []) = H3 at *
  have f3 : ∀ b ∈ fp, FpOk X pins H3 b ∧ b < s3.heap.objs.size := fun b hb => by
    have l := sz b hb
    refine ⟨⟨?_, (f2 b hb).2⟩, by rw [e3, z3]; exact Nat.lt_succ_of_lt l⟩
    rw [← hH3, upd_ne (Nat.ne_of_lt l)]
    exact (f2 b hb).1
  have I4 := block_start I3 ok hN f3
  have pg := hg s3 H3 s3.heap.objs.size (cellsFrom (s3.heap.objs.size + 1) scope.names (cloFrom X.env.cells scope.names [])) fp
  have pe := he σ s3 H3 s3.heap.objs.size (cellsFrom (s3.heap.objs.size + 1) scope.names (cloFrom X.env.cells scope.names [])) fp ⟨rfl, rfl, rfl, rfl, rfl, rfl, rfl, fun pinsB σB H' s' IB =>
    ⟨pins, I3.call' (ch := fp) IB.os IB.base IB.hok IB.bare fun b hb => ⟨(f3 b hb).1.2.2.2.1, (f3 b hb).1.2.1, (f3 b hb).1.2.2.2.2.1, (f3 b hb).1.2.2.2.2.2⟩⟩⟩
  change codeAny _ _ (.compStart (.ListComp elt [⟨tg, iter, [], 0⟩] scope pos) 0 (.ref it) (.ref D) (compEnvC scope (cellsFrom (s3.heap.objs.size + 1) scope.names (cloFrom X.env.cells scope.names [])) s3.heap.objs.size X.env))
    (compPost (model X.prog X.w) X.A X.xe none (EP X pins σ Q) (.ref D) s3.heap.objs.size) _
  generalize hB : compEnvC scope (cellsFrom (s3.heap.objs.size + 1) scope.names (cloFrom X.env.cells scope.names [])) s3.heap.objs.size X.env = ce at I4 pg pe ⊢
  have eL : ce.locals = s3.heap.objs.size := by rw [← hB]; rfl
  generalize h4 : ({ heap := pushCells (s3.heap.push { cls := .type "dict", data := .dict #[] }) scope.names, gens := s3.gens, drawn := s3.drawn, toks := s3.toks, os := s3.os } : Shared) = s4 at I4 ⊢
  have st4 : tn 0 s4.heap := T.keep _ _ _ st3 fun b _ o e => by
    rw [← h4]
    refine pushCells_keeps _ _ _ _ (Heap.get?_push_of_some _ ?_)
    rw [e3]
    exact e
  -- the iterator's objects, from within
  have own4 : ∀ {σ' : L2.St} {H' : Hp} {s' : Shared}, Inv (X.blk s3 H3 scope ce fp) [] σ' H' s' → (∀ b ∈ fp, H' b = none) → ∀ b ∈ fp, FpOk (X.blk s3 H3 scope ce fp) [] H' b := by
    intro σ' H' s' J n b hb
    obtain ⟨x1, x2⟩ := J.ok.exf b hb
    exact ⟨n b hb, x1, J.ok.exfs b hb, .inl hb, x2, fun p m => absurd (show p ∈ ([] : List (Addr × Obj)) ++ [] from m) (by simp)⟩
  have loop : codeAny (model X.prog X.w) X.A (.compLoop (.ListComp elt [⟨tg, iter, [], 0⟩] scope pos) 0 (.ref it) (.ref D) ce) (compPost (model X.prog X.w) X.A X.xe none (EP X pins σ Q) (.ref D) s3.heap.objs.size) s4 := by
    refine compLoop_any (fun m s' => ∃ i H', Inv (X.blk s3 H3 scope ce fp) [] (wipe σ (own.map (·.2))) H' s' ∧ tn i s'.heap ∧ (∀ b ∈ fp, H' b = none) ∧ W i m H') ?_ m0 ⟨0, H3, I4, st4, fun b hb => (f3 b hb).1.1, w0⟩
    intro m s5 ⟨i, H5, I5, st5, n5, w5⟩
    rcases turn i m H5 w5 with ⟨over, fin⟩ | ⟨go, Nx, less, step⟩
    · refine thnF (T.done (X.blk s3 H3 scope ce fp) rfl rfl rfl hc i [] s5 _ H5 (fun _ _ => False) I5 (own4 I5 n5) st5 over) fun r s6 ⟨er, I6⟩ => ?_
      subst er
      have I7 : Inv X pins σ H5 s6 := I3.call' (ch := fp) I6.os I6.base I6.hok I6.bare fun b hb => by
        obtain ⟨_, a2, _, a4, a5, a6⟩ := (f3 b hb).1
        exact ⟨a4, a2, a5, a6⟩
      have nC : H5 s3.heap.objs.size = none := by
        rw [← eL]
        exact I6.free
      obtain ⟨mm, ns, _⟩ := I6.loc
      have ns : s6.heap.Ns ce.locals mm := ns
      rw [eL] at ns
      refine ⟨mm, ns, fun h'' sb => ?_⟩
      obtain ⟨g0, g1, g2, g3, g4, g5⟩ := I3.fpOk (b := s3.heap.objs.size) (Nat.le_refl _) nC
      exact ⟨.ref D, H5, I7.turned (t' := s6.toks) (fun b o nb e => (sb.2 b nb).trans e) g0 g1 g3 g4 g5, rfl, fin⟩
    · refine thnF (T.item (X.blk s3 H3 scope ce fp) rfl rfl rfl hc i [] s5 _ H5 (fun _ _ => False) I5 (own4 I5 n5) st5 go) fun r s6 ⟨u, er, h6⟩ => ?_
      subst er
      refine thnF h6 fun _ s7 ⟨x, H7, I7, r7, y7, st7, n7⟩ => ?_
      have J7 := I7.pinned (own4 I7 n7) (T.obj _ _ st7)
      refine thnF (pg.run _ s7 _ H7 x u _ J7 r7 (step x H7 y7)) fun _ s8 ⟨σ8, H8, I8, w8, q8⟩ => ?_
      refine thnF ((pts_nil (X := X.blk s3 H3 scope ce fp)).run _ s8 σ8 H8 _ I8 q8) fun b s9 ⟨H9, I9, q9⟩ => ?_
      have after : ∀ {s' : Shared} {H' : Hp}, Inv (X.blk s3 H3 scope ce fp) ([] ++ pinsAt fp s7.heap) σ8 H' s' → Nx H' → ∃ m', m' < m ∧ ∃ i H', Inv (X.blk s3 H3 scope ce fp) [] (wipe σ (own.map (·.2))) H' s' ∧ tn i s'.heap ∧ (∀ b ∈ fp, H' b = none) ∧ W i m' H' := by
        intro s' H' J nx
        obtain ⟨m', lt, w'⟩ := less H' nx
        have held : ∀ b ∈ fp, ∀ o, s7.heap.get? b = some o → s'.heap.get? b = some o ∧ H' b = none := fun b hb o e => by
          obtain ⟨z1, z2, _⟩ := J.pin (b, o) (List.mem_append_right _ (List.mem_append_right _ (mem_pinsAt hb e)))
          exact ⟨z1, z2⟩
        refine ⟨m', lt, i + 1, H', (J.unpinned (pins := [])).weak (by rw [← w8, wipe_length]) (fun j v e => ?_), T.keep _ _ _ st7 fun b hb o e => (held b hb o e).1, fun b hb => ?_, w'⟩
        · rw [← w8] at e
          exact (wipe_some e).1
        · obtain ⟨o, e, _⟩ := T.obj _ _ st7 b hb
          exact (held b hb o e).2
      cases b with
      | false => exact after I9 q9
      | true =>
        refine thnF (pe.run _ s9 σ8 H9 _ I9 q9) fun z s10 ⟨yv, H10, I10, r10, acc, at10, lt10, nx⟩ => ?_
        exact app_ok (X := X.blk s3 H3 scope ce fp) I10 at10 lt10 r10 fun s11 I11 => after I11 nx
  exact codeAny_compStart_list loop (T.self X.A 0 _ _ _ st4 loop)
end
section
variable {X : Cx}
theorem pe_lam0 {c P : Addr} {k : Nat} {params : Arguments} {body : Expr} {scope : Scope} {t : XK → TE} {pos : Pos} (TB : TabB X.base X.mg c P) (hcode : X.env.code = .ref c) (D : LamD X.N X.env.scope scope) (hdef : defaultsOf params X.env = ([], []))
    (hbind : ∀ (doc pm ctv : Value) (c' : Addr), bindArgs (fnL X params body scope .none doc pm c' ctv) ⟨[], []⟩ = pure [])
    (hb : ∀ (A : Around) (outer : List Env) (s : Shared) (H : Hp) (E : XK) (f c' : Addr), Room k (A.deeper (lamEnv X scope s.heap.objs.size f c')) → PE (lamCx X A outer s H E scope f c') body (t E)) :
    PE X (.Lambda params body scope pos) (tLamV X [(P, qualL X)] k t) := pe_lamV0 TB hcode (List.mem_singleton.mpr rfl) (fun p hp _ => by rw [List.mem_singleton.mp hp]) D hdef hbind hb
theorem pe_lam1 {c P : Addr} {k : Nat} {params : Arguments} {body e0 : Expr} {d : V} {a : Str} {scope : Scope} {t : XK → TE} {pos : Pos} (TB : TabB X.base X.mg c P) (hcode : X.env.code = .ref c) (D : LamD X.N X.env.scope scope)
    (h1 : params.defaults = [e0]) (h2 : params.kw_defaults = []) (he : PE X e0 (tC d)) (hl : scope.names.lookup a = some .local)
    (hbind : ∀ (doc pm ctv : Value) (c' T0 : Addr), ∃ kk : Option (Array Value) → Sem (List (Str × Value)), bindArgs (fnL X params body scope (.ref T0) doc pm c' ctv) ⟨[], []⟩ = seqItems? (.ref T0) >>= kk ∧ ∀ v : Value, kk (some #[v]) = pure [(a, v)])
    (hb : ∀ (A : Around) (outer : List Env) (s : Shared) (H : Hp) (E : XK) (f c' : Addr), Room k (A.deeper (lamEnv X scope s.heap.objs.size f c')) → PE (lamCx X A outer s H E scope f c') body (t E)) :
    PE X (.Lambda params body scope pos) (tLamV X [(P, qualL X)] k t) := pe_lamV1 TB hcode (List.mem_singleton.mpr rfl) (fun p hp _ => by rw [List.mem_singleton.mp hp]) D h1 h2 he hl hbind hb
end
end LamL
/-! k52: what the law's texts mean -/
namespace Sc
open PySem PySem.Spec PyProof.Rows L2
abbrev lt52 : Str := Str.ofString "abcdefghijk"
def l52 : List Str := ["a", "b", "c", "d", "e", "f", "g", "h", "i", "j", "k"]
def wide52 : List Str := ["fa", "fb", "fc", "fd", "fe", "ff", "fg", "fh", "fi", "fj", "fk"]
abbrev lp52 : List Str := ["late", "paid"]
abbrev nd52 (x : Str) : Nd := ⟨x, [], [], "fine", .nil⟩
def bk52 (n : Nat) : RF := RF.ofNodes ((l52.take n).map nd52)
abbrev in52 : Nd := ⟨"within", [], [], "free", .nil⟩
abbrev out52 : Nd := ⟨"out", [], [], "fine", RF.ofNodes [in52]⟩
def nar52 : RF := RF.ofNodes [out52]
theorem l52_at : ∀ (i : Nat) {c : Nat}, lt52.cps[i]? = some c → l52[i]? = some ⟨#[c]⟩
  | 0, _, h => by cases h; rfl
  | 1, _, h => by cases h; rfl
  | 2, _, h => by cases h; rfl
  | 3, _, h => by cases h; rfl
  | 4, _, h => by cases h; rfl
  | 5, _, h => by cases h; rfl
  | 6, _, h => by cases h; rfl
  | 7, _, h => by cases h; rfl
  | 8, _, h => by cases h; rfl
  | 9, _, h => by cases h; rfl
  | 10, _, h => by cases h; rfl
  | i + 11, _, h => by cases h
theorem wide52_at : ∀ (i : Nat) {c : Nat}, lt52.cps[i]? = some c → wide52[i]? = some ((Str.ofString "f") ++ ⟨#[c]⟩)
  | 0, _, h => by cases h; rfl
  | 1, _, h => by cases h; rfl
  | 2, _, h => by cases h; rfl
  | 3, _, h => by cases h; rfl
  | 4, _, h => by cases h; rfl
  | 5, _, h => by cases h; rfl
  | 6, _, h => by cases h; rfl
  | 7, _, h => by cases h; rfl
  | 8, _, h => by cases h; rfl
  | 9, _, h => by cases h; rfl
  | 10, _, h => by cases h; rfl
  | i + 11, _, h => by cases h
theorem l52_name : ∀ x ∈ l52, isName x = true := by decide +kernel
theorem nd52_ok {x : Str} (h : isName x = true) : NdOk (nd52 x) := ⟨h, (show isName "fine" = true by decide +kernel), rfl, rfl⟩
theorem of_every {ns : List Nd} (h : ∀ n ∈ ns, NdOk n ∧ n.exc.every NdOk) : (RF.ofNodes ns).every NdOk := RF.every_nodes.mpr fun n hn => by
  rw [RF.nodes_of] at hn
  exact h n hn
theorem bk52_every (n : Nat) : (bk52 n).every NdOk := of_every fun m hm => by
  obtain ⟨x, hx, rfl⟩ := List.mem_map.mp hm
  exact ⟨nd52_ok (l52_name x (List.take_subset _ _ hx)), trivial⟩
theorem bk52_nodes (n : Nat) : (bk52 n).nodes = (l52.take n).map nd52 := RF.nodes_of _
theorem nar52_every : nar52.every NdOk := of_every fun m hm => by
  rw [List.mem_singleton.mp hm]
  refine ⟨⟨(by decide +kernel), (by decide +kernel), rfl, rfl⟩, of_every fun m hm => ?_⟩
  rw [List.mem_singleton.mp hm]
  exact ⟨⟨(by decide +kernel), (by decide +kernel), rfl, rfl⟩, trivial⟩
theorem all8 {p : Nat → Prop} [∀ n, Decidable (p n)] (h : ((List.range 8).all fun n => decide (p n)) = true) : ∀ n, n < 8 → p n := fun n hn => of_decide_eq_true (List.all_eq_true.mp h n (List.mem_range.mpr hn))
theorem bk52_small : ∀ n, n < 8 → (bk52 n).names.Nodup ∧ (bk52 n).dep ≤ 1 ∧ (bk52 n).size ≤ 8 := all8 (by decide +kernel)
theorem bk52_f1 : ∀ n, n < 8 → firstFault lp52 ((bk52 n).pre 0) [] 0 0 = none ∧ firstFault wide52 ((bk52 n).pre 0) [] 0 0 = none ∧ firstFault ["late"] ((bk52 n).pre 0) [] 0 0 = none := all8 (by decide +kernel)
theorem lp_bad : firstBad lp52 = none := by decide +kernel
theorem wide_bad52 : firstBad wide52 = none := by decide +kernel
theorem late_bad : firstBad ["late"] = none := by decide +kernel
theorem lp_txts : Txts lp52 := (by decide +kernel : ∀ x ∈ lp52, x.length ≤ 1000)
theorem wide_txts52 : Txts wide52 := (by decide +kernel : ∀ x ∈ wide52, x.length ≤ 1000)
theorem late_txts : Txts ["late"] := (by decide +kernel : ∀ x ∈ (["late"] : List Str), x.length ≤ 1000)
theorem bk52_ok (n : Nat) (hn : n < 8) : BkOk lp52 (bk52 n) "free" := ⟨lp_txts, by decide, lp_bad, by decide +kernel, (bk52_small n hn).1, by have := (bk52_small n hn).2.1; omega, by have := (bk52_small n hn).2.2; omega, bk52_every n⟩
theorem bk52_okW (n : Nat) (hn : n < 8) : BkOk wide52 (bk52 n) "fine" := ⟨wide_txts52, by decide, wide_bad52, by decide +kernel, (bk52_small n hn).1, by have := (bk52_small n hn).2.1; omega, by have := (bk52_small n hn).2.2; omega, bk52_every n⟩
theorem lp_rt : Rt lp52 := ⟨by decide +kernel, by decide +kernel⟩
theorem nobody52 : ∀ n, n < 8 → ¬ ("nobody" : Str) ∈ (bk52 n).names := all8 (by decide +kernel)
theorem a52 : ∀ n, n < 8 → 1 ≤ n → ("a" : Str) ∈ (bk52 n).names := fun n hn h1 => all8 (p := fun n => 1 ≤ n → ("a" : Str) ∈ (bk52 n).names) (by decide +kernel) n hn h1
/-- both books of the watcher -/
def on52 (n : Nat) : RF := cwOn "a" (bk52 n)
def off52 (n : Nat) : RF := cwOff "a" (bk52 n)
theorem on52_eq : ∀ n, n < 8 → on52 n = bk52 n
  | 0, _ => by kernel_rfl
  | 1, _ => by kernel_rfl
  | 2, _ => by kernel_rfl
  | 3, _ => by kernel_rfl
  | 4, _ => by kernel_rfl
  | 5, _ => by kernel_rfl
  | 6, _ => by kernel_rfl
  | 7, _ => by kernel_rfl
  | n + 8, h => absurd h (by omega)
theorem off52_eq : ∀ n, n < 8 → off52 n = RF.ofNodes (((l52.take n).drop 1).map nd52)
  | 0, _ => by kernel_rfl
  | 1, _ => by kernel_rfl
  | 2, _ => by kernel_rfl
  | 3, _ => by kernel_rfl
  | 4, _ => by kernel_rfl
  | 5, _ => by kernel_rfl
  | 6, _ => by kernel_rfl
  | 7, _ => by kernel_rfl
  | n + 8, h => absurd h (by omega)
theorem off52_every (n : Nat) (hn : n < 8) : (off52 n).every NdOk := by
  rw [off52_eq n hn]
  exact of_every fun m hm => by
    obtain ⟨x, hx, rfl⟩ := List.mem_map.mp hm
    exact ⟨nd52_ok (l52_name x (List.take_subset _ _ (List.drop_subset _ _ hx))), trivial⟩
theorem off52_size : ∀ n, n < 8 → (off52 n).size ≤ 900 ∧ firstFault lp52 ((on52 n).pre 0) [] 0 0 = none ∧ firstFault lp52 ((off52 n).pre 0) [] 0 0 = none := all8 (by decide +kernel)
theorem other52 : ∀ n, n < 8 → (on52 n).ruled [] "free" ≠ ("other" : Str) ∧ (off52 n).ruled [] "free" ≠ ("other" : Str) := all8 (by decide +kernel)
theorem nob_on : ∀ n, n < 8 → ¬ ("nobody" : Str) ∈ (on52 n).names := all8 (by decide +kernel)
theorem leftC_ff {ks : List Str} (cs : List (List Str × List Str)) : leftC ks false false cs = [] := by
  unfold leftC
  rw [List.filter_eq_nil_iff]
  intro a _
  split <;> exact Bool.false_ne_true
theorem smC_len : (smC lp52).length = 9 := by
  unfold smC
  rw [List.length_map, (smS_perm _).length_eq]
  rfl
theorem smC_cc : ∀ c ∈ smC lp52, c.1.length ≤ 1000 ∧ c.2.length ≤ 1000 := fun c hc => by
  obtain ⟨q, hq, rfl⟩ := List.mem_map.mp hc
  have := (smS_ok lp_rt q hq).l
  omega
def odds52 : List (List Str) := [["late", "late"], ["nofact"], ["paid", "late"]]
theorem odds_bad : ∀ o ∈ odds52, o.length ≤ 1000 ∧ ∃ i, firstOut lp52 o = some i := fun o ho => by
  unfold odds52 at ho
  rcases List.mem_cons.mp ho with rfl | ho
  · exact ⟨by decide, 1, by decide +kernel⟩
  rcases List.mem_cons.mp ho with rfl | ho
  · exact ⟨by decide, 0, by decide +kernel⟩
  rw [List.mem_singleton.mp ho]
  exact ⟨by decide, 1, by decide +kernel⟩
theorem ord52 : ∀ n, n < 6 → (ordN n n).length = ([1, 1, 2, 6, 24, 120] : List Nat)[n]?.getD 0
  | 0, _ => by decide +kernel
  | 1, _ => by decide +kernel
  | 2, _ => by decide +kernel
  | 3, _ => by decide +kernel
  | 4, _ => by decide +kernel
  | 5, _ => by decide +kernel
  | n + 6, h => absurd h (by omega)
theorem nd_names (n : Nat) (hn : n < 8) : (bk52 n).nodes.map (fun m => m.nm) = l52.take n := by
  rw [bk52_nodes, List.map_map]
  exact List.map_id' _
theorem nob_top : ∀ n, n < 8 → ¬ ("nobody" : Str) ∈ l52.take n := all8 (by decide +kernel)
theorem bk52_nl : ∀ n, n < 8 → (bk52 n).nodes.length = n := fun n hn => by
  rw [bk52_nodes, List.length_map, List.length_take]
  have : l52.length = 11 := rfl
  omega
/-! ### the frame -/
theorem ExtN_keeps {N : Addr → Prop} {H H' : Hp} (x : LamX.ExtN H H') : Keeps N H H' := fun b o st h => x _ _ h fun ps z => by
  first
  | exact st.2.2 ps z
  | exact st.2.2.1 ps z
theorem tabs_lst52 {T : List (Addr × Str)} {H : Hp} {D : Addr} {us vs : List V} (e : H D = some (.lst us)) (t : LamX.Tabs T H) : LamX.Tabs T (upd H D (.lst vs)) := fun q hq => by
  obtain ⟨ps, h1, h2, h3⟩ := t q hq
  refine ⟨ps, by rw [upd_ne (fun z => by rw [z, e] at h1; cases h1)]; exact h1, h2, fun pos cv ec => ?_⟩
  obtain ⟨c, e1, e2⟩ := h3 pos cv ec
  exact ⟨c, e1, by rw [upd_ne (fun z => by rw [z, e] at e2; unfold LamX.CodeO at e2; cases e2)]; exact e2⟩
theorem tabs_kp {a l : Addr} {H H' : Hp} {T : List (Addr × Str)} (k : Kp a l H H') (t : LamX.Tabs T H) : LamX.Tabs T H' := fun p hp => by
  obtain ⟨ps, h1, h2, h3⟩ := t p hp
  have g : ∀ b o, (∀ xs, o ≠ .lst xs) → H b = some o → H' b = some o := fun b o n e => k.keep b o (fun z => by
    obtain ⟨st, kk, ns, x1, x2, _⟩ := k.old
    subst z; rw [x1] at e; cases e; exact n _ rfl) (fun z => by
    obtain ⟨st, kk, ns, x1, x2, _⟩ := k.old
    subst z; rw [x2] at e; cases e; exact n _ rfl) e
  refine ⟨ps, g _ _ (fun _ z => nomatch z) h1, h2, fun pos cv e => ?_⟩
  obtain ⟨c, e1, e2⟩ := h3 pos cv e
  exact ⟨c, e1, g _ _ (fun _ z => by unfold LamX.CodeO at z; cases z) e2⟩
theorem kp_keeps {a l : Addr} {H H' : Hp} (k : Kp a l H H') : Keeps (fun b => b ≠ a ∧ b ≠ l) H H' := fun b o st e => by
  obtain ⟨s0, k0, ns, h1, h2, _⟩ := k.old
  refine k.keep b o (fun z => ?_) (fun z => ?_) e
  · subst z; rw [h1] at e; cases e; exact (st.1 _ rfl).1 rfl
  · subst z; rw [h2] at e; cases e; exact (st.1 _ rfl).2 rfl
theorem sx_tabs {T : List (Addr × Str)} {H H' : Hp} {x C dx : Addr} {fs : List (Str × V)} (s : SameX x H H') (e : H x = some (.ins C dx fs)) (t : LamX.Tabs T H) : LamX.Tabs T H' := fun p hp => by
  obtain ⟨ps, h1, h2, h3⟩ := t p hp
  refine ⟨ps, s _ _ (fun z => by rw [z, e] at h1; cases h1) h1, h2, fun pos cv ec => ?_⟩
  obtain ⟨c, e1, e2⟩ := h3 pos cv ec
  exact ⟨c, e1, s _ _ (fun z => by rw [z, e] at e2; unfold LamX.CodeO at e2; cases e2) e2⟩
theorem dp_strs52 {K : PySem.W.Frag} {H : Hp} : ∀ xs : List Str, DpAll K H (xs.map V.str) (xs.map PyData.str)
  | [] => .nil
  | x :: r => .cons (.str x) (dp_strs52 r)
theorem ne_same52 {K : PySem.W.Frag} {H : Hp} {x y : V} {d : PyData} {Q : VK} (hx : Dp K H x d) (hy : Dp K H y d) (hs : SeqAt.shaped d = true) (hc : d.canLay0 = true) (q : Q (.bl false) H) : rNeD K x y H Q := by
  refine ⟨d, d, hx, hy, hs, hs, ?_⟩
  rw [SeqAt.eqv_refl _ hc]
  exact q
abbrev TR : Addr → Prop := fun _ => True
abbrev qLam52 : Str := (Str.ofString "law" ++ Str.ofString ".<locals>.") ++ Str.ofString "<lambda>"
section
variable {K : PySem.W.Frag} {C R Bk CW OW PT : Addr} {H H' : Hp}
theorem CwAt.ext {N : Addr → Prop} {x S : Addr} {xs : List Str} {f1 f2 : RF} {rl : Str} {cs : List (List Str × List Str)} {recs : List CRec} (s : LamX.ExtN H H') (h : CwAt K C R Bk CW N H x S xs f1 f2 rl cs recs) : CwAt K C R Bk CW N H' x S xs f1 f2 rl cs recs := by
  obtain ⟨dx, w1, w2, L, us, vs, h1, h2, h2', ⟨h3, h3'⟩, h4, h5, h6⟩ := h.at_
  exact ⟨dx, w1, w2, L, us, vs, s _ _ h1 (fun _ z => nomatch z), h2.keeps (ExtN_keeps s), h2'.keeps (ExtN_keeps s), ⟨s _ _ h3 (fun _ z => nomatch z), h3'⟩, h4.mono fun _ _ z => z.keeps (N := NoL) (ExtN_keeps s), s _ _ h5 (fun _ z => nomatch z), h6.mono fun _ _ z => z.keeps (N := NoL) (ExtN_keeps s)⟩
theorem WatAt.ext {N : Addr → Prop} {x S : Addr} {xs : List Str} {f : RF} {rl : Str} {os : List (List Nat)} {recs : List (List Str × Str)} (s : LamX.ExtN H H') (h : WatAt K C R Bk OW N H x S xs f rl os recs) : WatAt K C R Bk OW N H' x S xs f rl os recs := by
  obtain ⟨dx, b, L, us, vs, h1, h2, ⟨h3, h3'⟩, h4, h5, h6⟩ := h.at_
  exact ⟨dx, b, L, us, vs, s _ _ h1 (fun _ z => nomatch z), h2.keeps (ExtN_keeps s), ⟨s _ _ h3 (fun _ z => nomatch z), h3'⟩, h4.mono fun _ _ z => z.keeps (N := NoL) (ExtN_keeps s), s _ _ h5 (fun _ z => nomatch z), h6.mono fun _ _ z => z.keeps (N := NoL) (ExtN_keeps s)⟩
/-- the books and the odd case -/
structure Z52 (K : PySem.W.Frag) (C R Bk PT : Addr) (n : Nat) (ob ow om oc c0 : Addr) (od : List Str) (H : Hp) : Prop where
  tb : LamX.Tabs [(PT, qLam52)] H
  bk : BookAt K C R Bk TR H ob lp52 (bk52 n) "free"
  wd : BookAt K C R Bk TR H ow wide52 (bk52 n) "fine"
  mo : BookAt K C R Bk TR H om ["late"] (bk52 7) "fine"
  od : SqT K H oc (od.map V.str)
  cn : CondAt K C H c0 [] []
theorem Z52.ext {n : Nat} {ob ow om oc c0 : Addr} {od : List Str} (Z : Z52 K C R Bk PT n ob ow om oc c0 od H) (x : LamX.ExtN H H') (t : LamX.Tabs [(PT, qLam52)] H') : Z52 K C R Bk PT n ob ow om oc c0 od H' :=
  ⟨t, Z.bk.keeps (ExtN_keeps x), Z.wd.keeps (ExtN_keeps x), Z.mo.keeps (ExtN_keeps x), (ExtN_keeps (N := NoL) x).tup Z.od, Z.cn.keeps (N := NoL) (ExtN_keeps x)⟩
theorem Z52.same {n : Nat} {ob ow om oc c0 : Addr} {od : List Str} (Z : Z52 K C R Bk PT n ob ow om oc c0 od H) (s : Same H H') : Z52 K C R Bk PT n ob ow om oc c0 od H' := Z.ext (LamX.ExtN.of s) (Z.tb.ext s)
theorem Z52.sx {n : Nat} {ob ow om oc c0 x Cx dx : Addr} {od : List Str} {fs : List (Str × V)} (Z : Z52 K C R Bk PT n ob ow om oc c0 od H) (s : SameX x H H') (e : H x = some (.ins Cx dx fs)) (h : DoneF fs = false) : Z52 K C R Bk PT n ob ow om oc c0 od H' :=
  ⟨sx_tabs s e Z.tb, Z.bk.keeps (SameX.keeps s e h), Z.wd.keeps (SameX.keeps s e h), Z.mo.keeps (SameX.keeps s e h), (SameX.keeps (N := NoL) s e h).tup Z.od, Z.cn.keeps (N := NoL) (SameX.keeps s e h)⟩
end
end Sc
namespace Sc
open PySem PySem.Spec PyProof.Rows L2
section
variable {P : Program} {w : World} {K : PySem.W.Frag} {mg : Str → Option Value} {base : Heap}
/-- a def whose code is known -/
structure FunC (K : PySem.W.Frag) (x qual : Str) (st : Stmt) (f : Addr) (fd : FuncData) (c : Addr) : Prop where
  ex : ∃ (oc : Value) (od : Option Addr) (kV doc pm : Value) (an : Option Addr) (ct : Value) (osl : Array (Option Value)), fd = PySem.W.fnOf x qual (defArgs st) (defBody st) (defScope st) .none kV doc pm an (.ref c) ct ∧ K.lookup f = some ⟨oc, od, .func fd, osl⟩ ∧ PySem.W.codeIn K (.ref c) qual = true
  kp : PySem.W.keepIn K (.ref f) = true
theorem FunC.ok {x qual : Str} {st : Stmt} {f : Addr} {fd : FuncData} {c : Addr} {N ps : List Str} {k : Nat} {sp : Sp} (F : FunC K x qual st f fd c) (S : FnScope N ps (defScope st))
    (len : ∀ (vs : List V) (H : Hp) (Q : VK) (E : XK), sp vs H Q E → vs.length = ps.length)
    (hb : ∀ (A : Around) (outer : List Env) (s : Shared) (H : Hp) (vs : List V) (Q : VK) (E : XK), Room k (A.deeper (envOfC qual (defScope st) s.heap.objs.size f (.ref c))) → sp vs H Q E →
      ∃ t, PSs (cxOf CX0 P w K mg base N qual (defScope st) f (.ref c) A outer s H E).nox (defBody st) t ∧ t { nx := fun x H' => Q .non H', rt := Q } (L2.start N vs) H) : FnOk P w K mg base CX0 (k + 1) f fd ps sp := by
  obtain ⟨oc, od, kV, doc, pm, an, ct, osl, rfl, lk, hcd⟩ := F.ex
  exact fn_of lk hcd S len fun A outer s H vs Q E hr h => by
    obtain ⟨t, h1, h2⟩ := hb A outer s H vs Q E hr h
    exact ⟨t, PSs.nox h1, h2⟩
end
end Sc
namespace Sc
open PySem PySem.Spec PyProof.Rows L2
/-- a block within a block that uses no name from around -/
theorem blkOk_any {N : List Str} {sc sc' scope : Scope} {own : List (Str × Nat)} (h : BlkOk N sc scope own) (nf : (scope.names.all fun y => match y.2 with | .free => false | _ => true) = true) : BlkOk N sc' scope own :=
  ⟨h.kind, h.uniq, h.ix, fun y hy e => by
    have q := List.all_eq_true.mp nf y hy
    rw [e] at q
    exact Bool.noConfusion q, h.own⟩
/-! ### a list of whatever items against an empty one -/
def rNilE (neg : Bool) : R2 := fun x y H Q => ∃ (a b : Addr) (xs : List V), x = .ref a ∧ y = .ref b ∧ H a = some (.lst xs) ∧ H b = some (.lst []) ∧ Q (.bl (if neg then !xs.isEmpty else xs.isEmpty)) H
section
variable {X : Cx}
theorem op_neE (hu : X.A.units + 64 < cLine) : OpR X (compareOp .NotEq) (rNilE true) := by
  intro pins s σ H x y v u Q I rx ry h
  obtain ⟨a, b, xs, rfl, rfl, ha, hb, q⟩ := h
  cases rx
  cases ry
  obtain ⟨its, r, p1, _⟩ := I.list (.inl (.inl ha))
  obtain ⟨its2, r2, p2, _⟩ := I.list (.inl (.inl hb))
  have h1 := r.length
  have h2 := r2.length
  have z2 : its2 = [] := List.length_eq_zero_iff.mp (by rw [← h2]; rfl)
  subst z2
  cases xs with
  | nil =>
    have z1 : its = [] := List.length_eq_zero_iff.mp (by rw [← h1]; rfl)
    subst z1
    exact EqBoolInt.of_rcne (SeqAt.RcNeAt.lists (e := fun _ => true) p1.isList p2.isList rfl (by omega) (fun j hj _ => absurd hj (Nat.not_lt_zero j))) ⟨.bl _, H, I, rfl, q⟩
  | cons z r0 =>
    exact EqBoolInt.of_rcne (SeqAt.RcNeAt.lists_lengths p1.isList p2.isList (by
      have : its.length ≠ 0 := by rw [← h1, List.length_cons]; omega
      simpa using fun e => this (by rw [e]; rfl)) (by omega)) ⟨.bl _, H, I, rfl, q⟩
theorem op_eqE (hu : X.A.units + 64 < cLine) : OpR X (compareOp .Eq) (rNilE false) := by
  intro pins s σ H x y v u Q I rx ry h
  obtain ⟨a, b, xs, rfl, rfl, ha, hb, q⟩ := h
  cases rx
  cases ry
  obtain ⟨its, r, p1, _⟩ := I.list (.inl (.inl ha))
  obtain ⟨its2, r2, p2, _⟩ := I.list (.inl (.inl hb))
  have h1 := r.length
  have h2 := r2.length
  have z2 : its2 = [] := List.length_eq_zero_iff.mp (by rw [← h2]; rfl)
  subst z2
  cases xs with
  | nil =>
    have z1 : its = [] := List.length_eq_zero_iff.mp (by rw [← h1]; rfl)
    subst z1
    exact EqBoolInt.of_rc (SeqAt.RcAt.lists (e := fun _ => true) p1.isList p2.isList rfl (by omega) (fun j hj _ => absurd hj (Nat.not_lt_zero j))) ⟨.bl _, H, I, rfl, q⟩
  | cons z r0 =>
    exact EqBoolInt.of_rc (SeqAt.RcAt.lists_lengths p1.isList p2.isList (by
      have : its.length ≠ 0 := by rw [← h1, List.length_cons]; omega
      simpa using fun e => this (by rw [e]; rfl)) (by omega)) ⟨.bl _, H, I, rfl, q⟩
end
end Sc
namespace Sc
open PySem PySem.Spec PyProof.Rows L2
theorem sc_law : FnScope ["_law_script", "_law_h", "_law_empty", "_law_letters", "_law_many", "_law_rules", "_law_works", "_law_due", "_law_count", "_law_book", "_law_more", "_law_narrow", "_law_odd", "_law_other", "_law_watcher", "_law_wide", "_law_k", "_law_work", "_law_sign"] ["_law_script"] (defScope s_law) := ⟨rfl, rfl, rfl, by decide +kernel, rfl, by decide +kernel, by decide +kernel⟩
section
variable {X : Cx} {te : TE} {t : TA} {x : Str} {e : Expr} {es : List Expr} {p pos : Pos}
/-- _law_word(e), e a lambda that was kept -/
theorem pe_worduse {Y : Cx} {σ : L2.St} {k : Nat} {g : Addr} {fd : FuncData} {cl : Nat → Addr} {CE : Addr} (F : Fun X.K "_law_word" "_law_word" s__law_word g fd) (hm : X.mg "_law_word" = some (.ref g)) (hb : Binds X.K fd ["_law_work"] []) (Bl : Blt X.mg) (G : GWord X.mg cl CE)
    (Wn : LamL.Within X Y σ) (hg : Gl Y "_law_word") (hr : Room (k + 2) X.A) (he : PE Y e te) (hse : starEach [e] Y.env = (false, eval e Y.env) :: starEach [] Y.env := by rfl) (hpl : (backTo pos (starEach [] Y.env)).any (·.1) = false := by rfl) :
    PE Y (.Call (.Name "_law_word" p) [e] [] pos) (LamL.tUse X k (TWord X.K cl CE) te σ) := by
  obtain ⟨oc, od, kV, doc, pm, an, cdv, ct, osl, rfl, lk, hcd⟩ := F.ex
  exact LamL.pe_lamuse Wn hg hm F.kp lk hcd hb sc__law_word rfl (Or.inl rfl) (word_gives Bl G) hr he (by decide) (by decide) (by decide) hse hpl
end
theorem l7_at : ∀ (i : Nat) {c : Nat}, (Str.ofString "abcdefg").cps[i]? = some c → (l52.take 7)[i]? = some ⟨#[c]⟩
  | 0, _, h => by cases h; rfl
  | 1, _, h => by cases h; rfl
  | 2, _, h => by cases h; rfl
  | 3, _, h => by cases h; rfl
  | 4, _, h => by cases h; rfl
  | 5, _, h => by cases h; rfl
  | 6, _, h => by cases h; rfl
  | i + 7, _, h => by cases h
theorem cut7 : cutS lt52 none (some 7) = Str.ofString "abcdefg" := by decide +kernel
theorem CwAt.sx {K : PySem.W.Frag} {C R Bk CW : Addr} {N : Addr → Prop} {H H' : Hp} {x S y Cy dy : Addr} {xs : List Str} {f1 f2 : RF} {rl : Str} {cs : List (List Str × List Str)} {recs : List CRec} (s : SameX y H H') (e : H y = some (.ins Cy dy [])) (h : CwAt K C R Bk CW N H x S xs f1 f2 rl cs recs) : CwAt K C R Bk CW N H' x S xs f1 f2 rl cs recs := by
  obtain ⟨dx, w1, w2, L, us, vs, h1, h2, h2', ⟨h3, h3'⟩, h4, h5, h6⟩ := h.at_
  exact ⟨dx, w1, w2, L, us, vs, s _ _ (fun z => by rw [z, e] at h1; cases h1) h1, h2.keeps (SameX.keeps s e rfl), h2'.keeps (SameX.keeps s e rfl), ⟨s _ _ (fun z => by rw [z, e] at h3; cases h3) h3, h3'⟩, h4.mono fun _ _ z => z.keeps (N := NoL) (SameX.keeps s e rfl), s _ _ (fun z => by rw [z, e] at h5; cases h5) h5, h6.mono fun _ _ z => z.keeps (N := NoL) (SameX.keeps s e rfl)⟩
theorem mk_bk52 {K : PySem.W.Frag} {C R Bk CF CB : Addr} {N : Addr → Prop} {H4 : Hp} {x dx a p : Addr} {xs : List Str} {rl : Str} {ws : List V} {f : RF} {Rx : Hp → Prop} {E : XK} (nx : H4 x = none) (ndx : H4 dx = none) (nex : dx ≠ x) (fr : ∀ l, H4 l = none → N l) (hA : SqT K H4 a (xs.map V.str)) (tS : Txts xs) (lS : xs.length ≤ 60) (hb : firstBad xs = none)
    (hP : SqT K H4 p ws) (hF : ForAt K C R N H4 f ws) (hd : f.dep ≤ 12) (hz : f.size ≤ 900) (hfit : f.Fit) (hrl : isName rl = true) (hff : firstFault xs (f.pre 0) [] 0 0 = none) (q : ∀ H', Same H4 H' → BookAt K C R Bk N H' x xs f rl → Rx H') :
    sp_book_init K C R Bk CF CB [.ref x, .ref a, .ref p, .str rl] (upd (upd H4 dx (.own x)) x (.ins Bk dx [])) (fun v H' => v = .non ∧ Rx H') E := by
  have s5 : Same H4 (upd (upd H4 dx (.own x)) x (.ins Bk dx [])) := ((Same.refl H4).put ndx).put nx
  have ll := name_len hrl
  refine ⟨N, x, dx, a, p, xs, rl, ws, f, rfl, upd_same, s5.tup hA, tS, by omega, s5.tup hP, hF.keeps s5.keeps, hd, hz, hfit, by omega, (fun i ei => by rw [hb] at ei; cases ei), fun _ => ⟨(fun wd i ei _ => by rw [hff] at ei; cases ei), fun hff => ⟨(fun e => by rw [hrl] at e; cases e), fun _ H6 l6 us2 sX6 hx6 nelx nl6 el hus6 => ⟨rfl, ?_⟩⟩⟩⟩
  have s6 : Same H4 H6 := fun b' o' h => sX6 b' o' (fun e => by rw [e, nx] at h; cases h) (s5 _ _ h)
  exact q H6 s6 ⟨dx, a, p, l6, ws, us2, hx6, s6.tup hA, s6.tup hP, hF.keeps s6.keeps, ⟨fr l6 (s5.free nl6), el⟩, hus6⟩
def due52a : List Str := ["UnknownRule", "UnknownRule", "TooMany", "TooMany"]
def due52b : List Str := ["InvalidCase", "InvalidRuling", "InvalidCase", "InvalidCase", "UnknownRule", "InvalidCase", "InvalidRuling", "UnknownRule", "UnknownRule", "Contradiction"]
section
variable {P : Program} {w : World} {K : PySem.W.Frag} {mg : Str → Option Value} {base : Heap}
abbrev qLam := qLam52
/-- where the law's body stands -/
abbrev lawX (P : Program) (w : World) (K : PySem.W.Frag) (mg : Str → Option Value) (base : Heap) (f c : Addr) (A : Around) (outer : List Env) (s : Shared) (H : Hp) (E : XK) : Cx :=
  (cxOf CX0 P w K mg base ["_law_script", "_law_h", "_law_empty", "_law_letters", "_law_many", "_law_rules", "_law_works", "_law_due", "_law_count", "_law_book", "_law_more", "_law_narrow", "_law_odd", "_law_other", "_law_watcher", "_law_wide", "_law_k", "_law_work", "_law_sign"] "law" (defScope s_law) f (.ref c) A outer s H E).nox
/-- what stands behind the watchers' making -/
structure Y52 (K : PySem.W.Frag) (C R Bk CW OW PT : Addr) (n : Nat) (x S y S2 ob ow om oc c0 : Addr) (od : List Str) (H : Hp) : Prop where
  z : Z52 K C R Bk PT n ob ow om oc c0 od H
  w : CwAt K C R Bk CW TR H x S lp52 (on52 n) (off52 n) "free" (smC lp52) []
  o : WatAt K C R Bk OW TR H y S2 lp52 (bk52 n) "free" (ordN (bk52 n).nodes.length (bk52 n).nodes.length) []
def sg52 (n : Nat) (x y ob ow om oc c0 : Addr) (y0 y1 y3 y5 y6 y7 y8 y11 y16 y17 y18 : Option V) : L2.St := [y0, y1, some (.ref c0), y3, some (.int (n : Nat)), y5, y6, y7, y8, some (.ref ob), some (.ref om), y11, some (.ref oc), some (.ref y), some (.ref x), some (.ref ow), y16, y17, y18]
def tT1 (K : PySem.W.Frag) (C R Bk CW OW PT : Addr) : TS := fun D σ H => ∃ (n : Nat) (x S y S2 ob ow om oc c0 : Addr) (od : List Str) (io : Nat) (y0 y1 y3 y5 y6 y7 y8 y11 y16 y17 y18 : Option V), σ = sg52 n x y ob ow om oc c0 y0 y1 y3 y5 y6 y7 y8 y11 y16 y17 y18 ∧ (1 ≤ n ∧ n ≤ 5) ∧ (od.length ≤ 1000 ∧ firstOut lp52 od = some io) ∧ Y52 K C R Bk CW OW PT n x S y S2 ob ow om oc c0 od H ∧ ∀ H', D.rt (.bl true) H'
def tT2 (K : PySem.W.Frag) (C R Bk CW OW PT : Addr) : TS := fun D σ H => ∃ (n : Nat) (x S y S2 ob ow om oc c0 : Addr) (od : List Str) (y0 y1 y3 y5 y6 y7 y8 y11 y16 y17 y18 : Option V), σ = sg52 n x y ob ow om oc c0 y0 y1 y3 y5 y6 y7 y8 y11 y16 y17 y18 ∧ (1 ≤ n ∧ n ≤ 5) ∧ Y52 K C R Bk CW OW PT n x S y S2 ob ow om oc c0 od H ∧ ∀ H', D.rt (.bl true) H'
end
end Sc
namespace Sc
open PySem PySem.Spec PyProof.Rows L2
/-- how many orders -/
def cn52 (n : Nat) : Nat := ([1, 1, 2, 6, 24, 120] : List Nat)[n]?.getD 0
theorem cn52_ok : ∀ n, n < 6 → (ordN (bk52 n).nodes.length (bk52 n).nodes.length).length = cn52 n
  | 0, _ => by decide +kernel
  | 1, _ => by decide +kernel
  | 2, _ => by decide +kernel
  | 3, _ => by decide +kernel
  | 4, _ => by decide +kernel
  | 5, _ => by decide +kernel
  | n + 6, h => absurd h (by omega)
theorem cn52_at : ∀ n, n < 6 → ([.int 1, .int 1, .int 2, .int 6, .int 24, .int 120] : List V)[n]? = some (.int (cn52 n : Nat))
  | 0, _ => rfl
  | 1, _ => rfl
  | 2, _ => rfl
  | 3, _ => rfl
  | 4, _ => rfl
  | 5, _ => rfl
  | n + 6, h => absurd h (by omega)
theorem eq_same52 {K : PySem.W.Frag} {H : Hp} {x y : V} {d : PyData} {Q : VK} (hx : Dp K H x d) (hy : Dp K H y d) (hs : SeqAt.shaped d = true) (hc : d.canLay0 = true) (q : Q (.bl true) H) : rEqD K x y H Q := by
  refine ⟨d, d, hx, hy, hs, hs, ?_⟩
  rw [SeqAt.eqv_refl _ hc]
  exact q
theorem WatAt.sx {K : PySem.W.Frag} {C R Bk OW : Addr} {N : Addr → Prop} {H H' : Hp} {x S y Cy dy : Addr} {xs : List Str} {f : RF} {rl : Str} {os : List (List Nat)} {recs : List (List Str × Str)} (s : SameX y H H') (e : H y = some (.ins Cy dy [])) (h : WatAt K C R Bk OW N H x S xs f rl os recs) : WatAt K C R Bk OW N H' x S xs f rl os recs := by
  obtain ⟨dx, b, L, us, vs, h1, h2, ⟨h3, h3'⟩, h4, h5, h6⟩ := h.at_
  exact ⟨dx, b, L, us, vs, s _ _ (fun z => by rw [z, e] at h1; cases h1) h1, h2.keeps (SameX.keeps s e rfl), ⟨s _ _ (fun z => by rw [z, e] at h3; cases h3) h3, h3'⟩, h4.mono fun _ _ z => z.keeps (N := NoL) (SameX.keeps s e rfl), s _ _ (fun z => by rw [z, e] at h5; cases h5) h5, h6.mono fun _ _ z => z.keeps (N := NoL) (SameX.keeps s e rfl)⟩
section
variable {P : Program} {w : World} {K : PySem.W.Frag} {mg : Str → Option Value} {base : Heap}
theorem ok_t2 {f c PT : Addr} {g : Addr} {fdE : FuncData} {cl : Nat → Addr} {CE C R Bk CW OW CF CB CI CQ : Addr} (B : Blt mg) (G : GWord mg cl CE)
    (FE : Fun K "_law_word" "_law_word" s__law_word g fdE) (mE : mg "_law_word" = some (.ref g)) (bE : Binds K fdE ["_law_work"] []) (TB : LamX.TabB base mg c PT) (CLw : Cls K CW) (CLo : Cls K OW)
    (r0 : WordRow K cl CE (cl 0) 0) (r1 : WordRow K cl CE (cl 1) 1) (r2 : WordRow K cl CE (cl 2) 2) (r3 : WordRow K cl CE (cl 3) 3) (r4 : WordRow K cl CE (cl 4) 4)
    (c__law_mix : Cal P w K mg base CX0 1 "_law_mix" ["_law_script", "_law_seed"] (sp_mix K)) (c__law_next : Cal P w K mg base CX0 1 "_law_next" ["_law_h", "_law_limit"] sp_next)
    (k_Condition : Mkr P w K mg base 4 "Condition" C ["self", "holding", "failing"] (sp_cond_init K C CI)) (k_Rule : Mkr P w K mg base 16 "Rule" R ["self", "name", "condition", "ruling", "exceptions"] (sp_rule_init K C R CQ)) (k_Book : Mkr P w K mg base 17 "Book" Bk ["self", "facts", "rules", "ruling"] (sp_book_init K C R Bk CF CB))
    (k_ConditionWatcher : Mkr P w K mg base 36 "ConditionWatcher" CW ["self", "book", "name"] (sp_cwInit K C R Bk CW (cl 4) (cl 3))) (k_OrderWatcher : Mkr P w K mg base 3 "OrderWatcher" OW ["self", "book"] (sp_owInitX K C R Bk OW (cl 3)))
    (mw_see : MethX P w K mg base 15 CW "see" ["self", "case", "ruling"] (sp_cwSee K C R Bk CW (cl 1) (cl 2) (cl 0))) (mw_see_decider : MethX P w K mg base 15 CW "see_decider" ["self", "case", "name"] (sp_cwDec K C R Bk CW (cl 1) (cl 4) (cl 0))) (mw_possible : MethX P w K mg base 15 CW "possible" ["self", "case"] (sp_cwPoss K C R Bk CW (cl 1)))
    (mo_see : MethX P w K mg base 11 OW "see" ["self", "case", "ruling"] (sp_owSeeE K C R Bk OW (cl 1) (cl 2))) (mo_sure : MethX P w K mg base 3 OW "sure" ["self", "name", "other"] (sp_owSureE K C R Bk OW (cl 4)))
    (mCand : PropM P w K mg base CW "candidates" 1 (sp_cwCands K C R Bk CW)) (mCRec : PropM P w K mg base CW "records" 1 (sp_cwRecs K C R Bk CW)) (mCount : PropM P w K mg base OW "order_count" 1 (sp_owCount K C R Bk OW)) (mRecs : PropM P w K mg base OW "records" 1 (sp_owRecs K C R Bk OW))
    {A : Around} {outer : List Env} {s : Shared} {H0 : Hp} {E : XK} (hr : Room 41 (A.deeper (envOfC "law" (defScope s_law) s.heap.objs.size f (.ref c)))) :
    PSs (lawX P w K mg base f c A outer s H0 E) ((defBody s_law).drop 19) (tT2 K C R Bk CW OW PT) := by
  refine wk_ss _ (pss_cons (ps_set (i := 11) sc_law.nd rfl (Or.inr rfl) (pe_mkN k_Book (hr.mono (by decide)) (pa_cons (pe_tup (pa_cons pe_str pa_nil)) (pa_cons (pe_tup (pa_cons (pe_mkN k_Rule (hr.mono (by decide)) (pa_cons pe_str (pa_cons (pv 2) (pa_cons pe_str (pa_cons (pe_tup (pa_cons (pe_mkN k_Rule (hr.mono (by decide)) (pa_cons pe_str (pa_cons (pv 2) (pa_cons pe_str (pa_cons (pe_tup pa_nil) pa_nil))))) pa_nil)) pa_nil))))) pa_nil)) (pa_cons pe_str pa_nil)))))
      (pss_cons (ps_if (pt_cmpR (op_neD hr.units) (pe_wordlam (k := 38) FE mE bE B G TB rfl (hr.mono (by decide)) (LamX.lamS_by (show LamX.lamSB (defScope s_law) _ = true by decide +kernel)) rfl (fun _ _ _ _ _ => rfl) (fun A' outer' s' H' E' f' c' hr' => (pe_.re (pe_meX CLo mo_sure (hr'.mono (by decide)) (takes_of rfl rfl rfl rfl) (pe_mkX k_OrderWatcher (hr'.mono (by decide)) (takes_of rfl rfl rfl rfl) (pa_cons (pv 11) pa_nil)) (pa_cons pe_str (pa_cons pe_str pa_nil))) (by first | (dsimp only [LamX.lamCx]; done) | exact rfl)))) pe_str (nomark _)) (pss_one (ps_ret pe_bl)) pss_nil)
      (pss_cons (ps_set (i := 8) sc_law.nd rfl (Or.inl rfl) (pe_ix ix_list (pe_lst (pa_cons pe_int (pa_cons pe_int (pa_cons pe_int (pa_cons pe_int (pa_cons pe_int (pa_cons pe_int pa_nil))))))) (pv 4) (fun _ _ => rfl)))
      (pss_one (ps_ret (pe_cmpR (op_eqD hr.units) (pe_tup (pa_cons (pe_callB call_len_seq (by rfl) B.b_len PySem.boot_len (pa_cons (pe_propM mCand (hr.mono (by decide)) CLw (pv 14)) pa_nil)) (pa_cons (pe_propM mCRec (hr.mono (by decide)) CLw (pv 14)) (pa_cons (pe_propM mCount (hr.mono (by decide)) CLo (pv 13)) (pa_cons (pe_propM mRecs (hr.mono (by decide)) CLo (pv 13)) pa_nil))))) (pe_tup (pa_cons pe_int (pa_cons (pe_lst pa_nil) (pa_cons (pv 8) (pa_cons (pe_lst pa_nil) pa_nil))))) (nomark _))))))) ?_
  rintro D σ H ⟨n, x, S, y, S2, ob, ow, om, oc, c0, od, y0, y1, y3, y5, y6, y7, y8, y11, y16, y17, y18, rfl, ⟨hn1, hn5⟩, ⟨Z, hW, hO⟩, q⟩
  -- the narrow book
  refine ⟨(by show 1 ≤ sizeLine; rw [sizeLine_eq]; decide), fun t1 nt1 => ⟨_, rfl, _, rfl, Nat.zero_le _, fun t2 nt2 => ?_⟩⟩
  have s1 : Same H (upd (upd H t1 (.tup [.str "late"])) t2 (.tup [])) := ((Same.refl H).put nt1).put' nt2
  have e1a : (upd (upd H t1 (.tup [.str "late"])) t2 (.tup [])) t1 = some (.tup ((["late"] : List Str).map V.str)) := by rw [upd_ne (ne_of_none upd_same nt2)]; exact upd_same
  have e1b : (upd (upd H t1 (.tup [.str "late"])) t2 (.tup [])) t2 = some (.tup []) := upd_same
  generalize upd (upd H t1 (.tup [.str "late"])) t2 (.tup []) = H1 at s1 e1a e1b ⊢
  intro xi dxi nxi ndxi nexi
  refine rule_of (N := TR) (exc := .nil) (ws := []) nxi ndxi nexi (fun _ _ => trivial) (Z.cn.same s1) (sqT_of e1b) rfl (by decide +kernel) (by decide +kernel) (by decide) (by decide) fun H2 s2 hN2 => ⟨rfl, ?_⟩
  refine ⟨(by show 1 ≤ sizeLine; rw [sizeLine_eq]; decide), fun t3 nt3 => ?_⟩
  have s3 : Same H2 (upd H2 t3 (.tup [.ref xi])) := (Same.refl H2).put nt3
  have e3 : (upd H2 t3 (.tup [.ref xi])) t3 = some (.tup [.ref xi]) := upd_same
  generalize upd H2 t3 (.tup [.ref xi]) = H3 at s3 e3 ⊢
  have s13 := s1.trans (s2.trans s3)
  have hF3 : ForAt K C R TR H3 (RF.ofNodes [in52]) [.ref xi] := ForAt.of (by
    rw [RF.nodes_of]
    exact .cons ⟨xi, rfl, hN2.keeps s3.keeps⟩ .nil)
  intro xo dxo nxo ndxo nexo
  refine rule_of (N := TR) (exc := RF.ofNodes [in52]) (ws := [.ref xi]) nxo ndxo nexo (fun _ _ => trivial) (Z.cn.same s13) (sqT_of e3) hF3 (by decide +kernel) (by decide +kernel) (by decide) (by decide) fun H4 s4 hN4 => ⟨rfl, ?_⟩
  refine ⟨(by show 1 ≤ sizeLine; rw [sizeLine_eq]; decide), fun t5 nt5 => ?_⟩
  have s5 : Same H4 (upd H4 t5 (.tup [.ref xo])) := (Same.refl H4).put nt5
  have e5 : (upd H4 t5 (.tup [.ref xo])) t5 = some (.tup [.ref xo]) := upd_same
  generalize upd H4 t5 (.tup [.ref xo]) = H5 at s5 e5 ⊢
  have hF5 : ForAt K C R TR H5 nar52 [.ref xo] := ForAt.of (by
    unfold nar52
    rw [RF.nodes_of]
    exact .cons ⟨xo, rfl, hN4.keeps s5.keeps⟩ .nil)
  have s15 := (s2.trans s3).trans (s4.trans s5)
  intro nb dxn nnb ndxn nenb
  refine mk_bk52 (N := TR) (rl := "warn") nnb ndxn nenb (fun _ _ => trivial) (sqT_of (s15 _ _ e1a)) late_txts (by decide) late_bad (sqT_of e5) hF5 (by decide +kernel) (by decide +kernel) (fit_of nar52_every) (by decide +kernel) (by decide +kernel) fun H6 s6 hB6 => ?_
  have s16 := s1.trans (s15.trans s6)
  have Z := Z.same s16
  have hW := hW.same s16
  have hO := hO.same s16
  clear s1 s2 s3 s4 s5 s6 s13 s15 s16 e1a e1b e3 e5 hF3 hF5 hN2 hN4
  refine ⟨Z.tb, fun G1 x1 t1 => ?_⟩
  have Z := Z.ext x1 t1
  have hW := hW.ext x1
  have hO := hO.ext x1
  have hB7 : BookAt K C R Bk TR G1 nb ["late"] nar52 "warn" := hB6.keeps (ExtN_keeps x1)
  refine ⟨_, rfl, fun xw dxw nxw ndxw nexw => ?_⟩
  have s8 : Same G1 (upd (upd G1 dxw (.own xw)) xw (.ins OW dxw [])) := ((Same.refl G1).put ndxw).put nxw
  have e8 : (upd (upd G1 dxw (.own xw)) xw (.ins OW dxw [])) xw = some (.ins OW dxw []) := upd_same
  generalize upd (upd G1 dxw (.own xw)) xw (.ins OW dxw []) = H8 at s8 e8 ⊢
  refine ⟨TR, xw, dxw, nb, ["late"], nar52, "warn", rfl, e8, hB7.keeps s8.keeps, .inr ⟨(by decide +kernel), fun H9 S9 sX9 nS9 hN9 => ⟨rfl, ?_⟩⟩⟩
  have Z := (Z.same s8).sx sX9 e8 rfl
  have hW := (hW.same s8).sx sX9 e8
  have hO := (hO.same s8).sx sX9 e8
  obtain ⟨dx9, _, _, _, _, hx9, _⟩ := id hN9.at_
  refine ⟨xw, dx9, _, rfl, hx9, rfl, TR, xw, S9, ["late"], nar52, "warn", _, [], "out", "within", rfl, hN9, (by decide +kernel), nar52_every, (by decide +kernel), fun HA sA => ⟨cl 4, rfl, 4, "UnknownRule", by decide, r4, (fun dd e => nomatch e), rfl, fun HB sB => ?_⟩⟩
  have sAB := sA.trans sB
  have Z := Z.same sAB
  have hW := hW.same sAB
  have hO := hO.same sAB
  dsimp only [tC]
  refine ne_same52 (x := .str "UnknownRule") (y := .str "UnknownRule") (d := .str "UnknownRule") (.str _) (.str _) (by decide +kernel) (by decide +kernel) ?_
  refine ⟨false, rfl, iteF ?_⟩
  clear sAB sA sB s8 e8 sX9 hN9 hx9 hB7 hB6 x1 t1
  have cnt : (ordN (bk52 n).nodes.length (bk52 n).nodes.length).length = cn52 n := cn52_ok n (by omega)
  refine ⟨(by show 6 ≤ sizeLine; rw [sizeLine_eq]; decide), fun LL nLL => ?_⟩
  have sL : Same HB (upd HB LL (.lst [.int 1, .int 1, .int 2, .int 6, .int 24, .int 120])) := (Same.refl HB).put nLL
  have eL : (upd HB LL (.lst [.int 1, .int 1, .int 2, .int 6, .int 24, .int 120])) LL = some (.lst [.int 1, .int 1, .int 2, .int 6, .int 24, .int 120]) := upd_same
  generalize upd HB LL (.lst [.int 1, .int 1, .int 2, .int 6, .int 24, .int 120]) = HC at sL eL ⊢
  have hW := hW.same sL
  have hO := hO.same sL
  refine ⟨_, rfl, LL, _, _, _, rfl, rfl, sqL_of eL, atI_nat (cn52_at n (by omega)), ?_⟩
  obtain ⟨dxw, _, _, _, _, _, hxw, _⟩ := id hW.at_
  refine ⟨_, rfl, x, dxw, _, rfl, hxw, TR, x, S, lp52, on52 n, off52 n, "free", smC lp52, [], rfl, hW, by rw [smC_len]; decide, fun HD D1 us1 sD nD1 eD1 hC1 => ?_⟩
  have hl1 : us1.length = 9 := by rw [hC1.len, smC_len]
  refine ⟨D1, us1, rfl, .inl (sqL_of eD1), ?_⟩
  rw [hl1]
  refine ⟨_, rfl, x, dxw, _, rfl, sD _ _ hxw, TR, x, S, lp52, on52 n, off52 n, "free", smC lp52, [], rfl, hW.same sD, Nat.zero_le _, fun HE D2 us2 sE nD2 eD2 hC2 => ?_⟩
  cases hC2
  have sDE := sD.trans sE
  have hO := hO.same sDE
  obtain ⟨dyo, _, _, _, _, hyo, _⟩ := id hO.at_
  refine ⟨_, rfl, y, dyo, _, rfl, hyo, TR, y, S2, lp52, bk52 n, "free", _, [], rfl, hO, ?_⟩
  rw [cnt]
  refine ⟨_, rfl, y, dyo, _, rfl, hyo, TR, y, S2, lp52, bk52 n, "free", _, [], rfl, hO, Nat.zero_le _, fun HF D3 us3 sF nD3 eD3 hC3 => ?_⟩
  cases hC3
  refine ⟨(by show 4 ≤ sizeLine; rw [sizeLine_eq]; decide), fun tA ntA => ?_⟩
  have sG : Same HF (upd HF tA (.tup [.int 9, .ref D2, .int (cn52 n : Nat), .ref D3])) := (Same.refl HF).put ntA
  have eG : (upd HF tA (.tup [.int 9, .ref D2, .int (cn52 n : Nat), .ref D3])) tA = some (.tup [.int 9, .ref D2, .int (cn52 n : Nat), .ref D3]) := upd_same
  generalize upd HF tA (.tup [.int 9, .ref D2, .int (cn52 n : Nat), .ref D3]) = HG at sG eG ⊢
  dsimp only []
  refine ⟨Nat.zero_le _, fun D4 nD4 => ⟨_, rfl, Nat.zero_le _, fun D5 nD5 => ⟨(by show 4 ≤ sizeLine; rw [sizeLine_eq]; decide), fun tB ntB => ?_⟩⟩⟩
  have s4 : Same HG (upd (upd HG D4 (.lst [])) D5 (.lst [])) := ((Same.refl HG).put nD4).put' nD5
  have e4 : (upd (upd HG D4 (.lst [])) D5 (.lst [])) D4 = some (.lst []) := by rw [upd_ne (ne_of_none upd_same nD5)]; exact upd_same
  have e5 : (upd (upd HG D4 (.lst [])) D5 (.lst [])) D5 = some (.lst []) := upd_same
  generalize upd (upd HG D4 (.lst [])) D5 (.lst []) = HH at s4 e4 e5 ntB ⊢
  have s6 : Same HH (upd HH tB (.tup [.int 9, .ref D4, .int (cn52 n : Nat), .ref D5])) := (Same.refl HH).put ntB
  have e6 : (upd HH tB (.tup [.int 9, .ref D4, .int (cn52 n : Nat), .ref D5])) tB = some (.tup [.int 9, .ref D4, .int (cn52 n : Nat), .ref D5]) := upd_same
  generalize upd HH tB (.tup [.int 9, .ref D4, .int (cn52 n : Nat), .ref D5]) = HI at s6 e6 ⊢
  have sGI := s4.trans s6
  have dp : ∀ {t d1 d2 : Addr}, HI t = some (.tup [.int 9, .ref d1, .int (cn52 n : Nat), .ref d2]) → HI d1 = some (.lst []) → HI d2 = some (.lst []) → Dp K HI (.ref t) (.tuple [.int 9, .list [], .int (cn52 n : Nat), .list []]) := fun h1 h2 h3 =>
    .tup (sqT_of h1) (.cons (.int _) (.cons (.lst (sqL_of h2) .nil) (.cons (.int _) (.cons (.lst (sqL_of h3) .nil) .nil))))
  refine eq_same52 (dp (sGI _ _ eG) (sGI _ _ (sG _ _ (sF _ _ eD2))) (sGI _ _ (sG _ _ eD3))) (dp e6 (s6 _ _ e4) (s6 _ _ e5)) rfl rfl (q _)
end
end Sc
namespace Sc
open PySem PySem.Spec PyProof.Rows L2
section
variable {P : Program} {w : World} {K : PySem.W.Frag} {mg : Str → Option Value} {base : Heap}
theorem ok_t1 {f c PT : Addr} {g : Addr} {fdE : FuncData} {cl : Nat → Addr} {CE C R Bk CW OW CF CB CI CQ : Addr} (B : Blt mg) (G : GWord mg cl CE)
    (FE : Fun K "_law_word" "_law_word" s__law_word g fdE) (mE : mg "_law_word" = some (.ref g)) (bE : Binds K fdE ["_law_work"] []) (TB : LamX.TabB base mg c PT) (CLw : Cls K CW) (CLo : Cls K OW)
    (r0 : WordRow K cl CE (cl 0) 0) (r1 : WordRow K cl CE (cl 1) 1) (r2 : WordRow K cl CE (cl 2) 2) (r3 : WordRow K cl CE (cl 3) 3) (r4 : WordRow K cl CE (cl 4) 4)
    (c__law_mix : Cal P w K mg base CX0 1 "_law_mix" ["_law_script", "_law_seed"] (sp_mix K)) (c__law_next : Cal P w K mg base CX0 1 "_law_next" ["_law_h", "_law_limit"] sp_next)
    (k_Condition : Mkr P w K mg base 4 "Condition" C ["self", "holding", "failing"] (sp_cond_init K C CI)) (k_Rule : Mkr P w K mg base 16 "Rule" R ["self", "name", "condition", "ruling", "exceptions"] (sp_rule_init K C R CQ)) (k_Book : Mkr P w K mg base 17 "Book" Bk ["self", "facts", "rules", "ruling"] (sp_book_init K C R Bk CF CB))
    (k_ConditionWatcher : Mkr P w K mg base 36 "ConditionWatcher" CW ["self", "book", "name"] (sp_cwInit K C R Bk CW (cl 4) (cl 3))) (k_OrderWatcher : Mkr P w K mg base 3 "OrderWatcher" OW ["self", "book"] (sp_owInitX K C R Bk OW (cl 3)))
    (mw_see : MethX P w K mg base 15 CW "see" ["self", "case", "ruling"] (sp_cwSee K C R Bk CW (cl 1) (cl 2) (cl 0))) (mw_see_decider : MethX P w K mg base 15 CW "see_decider" ["self", "case", "name"] (sp_cwDec K C R Bk CW (cl 1) (cl 4) (cl 0))) (mw_possible : MethX P w K mg base 15 CW "possible" ["self", "case"] (sp_cwPoss K C R Bk CW (cl 1)))
    (mo_see : MethX P w K mg base 11 OW "see" ["self", "case", "ruling"] (sp_owSeeE K C R Bk OW (cl 1) (cl 2))) (mo_sure : MethX P w K mg base 3 OW "sure" ["self", "name", "other"] (sp_owSureE K C R Bk OW (cl 4)))
    (mCand : PropM P w K mg base CW "candidates" 1 (sp_cwCands K C R Bk CW)) (mCRec : PropM P w K mg base CW "records" 1 (sp_cwRecs K C R Bk CW)) (mCount : PropM P w K mg base OW "order_count" 1 (sp_owCount K C R Bk OW)) (mRecs : PropM P w K mg base OW "records" 1 (sp_owRecs K C R Bk OW))
    {A : Around} {outer : List Env} {s : Shared} {H0 : Hp} {E : XK} (hr : Room 41 (A.deeper (envOfC "law" (defScope s_law) s.heap.objs.size f (.ref c)))) :
    PSs (lawX P w K mg base f c A outer s H0 E) ((defBody s_law).drop 12) (tT1 K C R Bk CW OW PT) := by
  refine wk_ss _ (pss_cons (ps_set (i := 6) sc_law.nd rfl (Or.inl rfl) (pe_lst (pa_cons (LamL.pe_lam0 (k := 38) TB rfl (LamL.lamD_by (show LamL.lamDB ["_law_script", "_law_h", "_law_empty", "_law_letters", "_law_many", "_law_rules", "_law_works", "_law_due", "_law_count", "_law_book", "_law_more", "_law_narrow", "_law_odd", "_law_other", "_law_watcher", "_law_wide", "_law_k", "_law_work", "_law_sign"] (defScope s_law) _ = true by decide +kernel)) rfl (fun _ _ _ _ => rfl) (fun A' outer' s' H' E' f' c' hr' => (pe_.re (pe_meX CLw mw_see (hr'.mono (by decide)) (takes_of rfl rfl rfl rfl) (pv 14) (pa_cons (pv 12) (pa_cons pe_str pa_nil))) (by first | (dsimp only [LamX.lamCx]; done) | exact rfl)))) (pa_cons (LamL.pe_lam1 (k := 38) (a := "_law_a") TB rfl (LamL.lamD_by (show LamL.lamDB ["_law_script", "_law_h", "_law_empty", "_law_letters", "_law_many", "_law_rules", "_law_works", "_law_due", "_law_count", "_law_book", "_law_more", "_law_narrow", "_law_odd", "_law_other", "_law_watcher", "_law_wide", "_law_k", "_law_work", "_law_sign"] (defScope s_law) _ = true by decide +kernel)) rfl rfl pe_int (by decide +kernel) (fun _ _ _ _ _ => ⟨_, rfl, fun _ => rfl⟩) (fun A' outer' s' H' E' f' c' hr' => (pe_.re (pe_meX CLw mw_see (hr'.mono (by decide)) (takes_of rfl rfl rfl rfl) (pv 14) (pa_cons (pe_tup (pa_cons pe_str pa_nil)) (pa_cons pe_str pa_nil))) (by first | (dsimp only [LamX.lamCx]; done) | exact rfl)))) pa_nil))))
      (pss_cons (ps_set (i := 6) sc_law.nd rfl (Or.inl rfl) (pe_op op_cat (pv 6) (pe_lst (pa_cons (LamL.pe_lam1 (k := 38) (a := "_law_b") TB rfl (LamL.lamD_by (show LamL.lamDB ["_law_script", "_law_h", "_law_empty", "_law_letters", "_law_many", "_law_rules", "_law_works", "_law_due", "_law_count", "_law_book", "_law_more", "_law_narrow", "_law_odd", "_law_other", "_law_watcher", "_law_wide", "_law_k", "_law_work", "_law_sign"] (defScope s_law) _ = true by decide +kernel)) rfl rfl pe_int (by decide +kernel) (fun _ _ _ _ _ => ⟨_, rfl, fun _ => rfl⟩) (fun A' outer' s' H' E' f' c' hr' => (pe_.re (pe_meX CLw mw_possible (hr'.mono (by decide)) (takes_of rfl rfl rfl rfl) (pv 14) (pa_cons (pv 12) pa_nil)) (by first | (dsimp only [LamX.lamCx]; done) | exact rfl)))) (pa_cons (LamL.pe_lam1 (k := 38) (a := "_law_c") TB rfl (LamL.lamD_by (show LamL.lamDB ["_law_script", "_law_h", "_law_empty", "_law_letters", "_law_many", "_law_rules", "_law_works", "_law_due", "_law_count", "_law_book", "_law_more", "_law_narrow", "_law_odd", "_law_other", "_law_watcher", "_law_wide", "_law_k", "_law_work", "_law_sign"] (defScope s_law) _ = true by decide +kernel)) rfl rfl pe_int (by decide +kernel) (fun _ _ _ _ _ => ⟨_, rfl, fun _ => rfl⟩) (fun A' outer' s' H' E' f' c' hr' => (pe_.re (pe_meX CLw mw_see_decider (hr'.mono (by decide)) (takes_of rfl rfl rfl rfl) (pv 14) (pa_cons (pv 12) (pa_cons pe_str pa_nil))) (by first | (dsimp only [LamX.lamCx]; done) | exact rfl)))) pa_nil)))))
      (pss_cons (ps_set (i := 6) sc_law.nd rfl (Or.inl rfl) (pe_op op_cat (pv 6) (pe_lst (pa_cons (LamL.pe_lam1 (k := 38) (a := "_law_d") TB rfl (LamL.lamD_by (show LamL.lamDB ["_law_script", "_law_h", "_law_empty", "_law_letters", "_law_many", "_law_rules", "_law_works", "_law_due", "_law_count", "_law_book", "_law_more", "_law_narrow", "_law_odd", "_law_other", "_law_watcher", "_law_wide", "_law_k", "_law_work", "_law_sign"] (defScope s_law) _ = true by decide +kernel)) rfl rfl pe_int (by decide +kernel) (fun _ _ _ _ _ => ⟨_, rfl, fun _ => rfl⟩) (fun A' outer' s' H' E' f' c' hr' => (pe_.re (pe_meX CLw mw_see_decider (hr'.mono (by decide)) (takes_of rfl rfl rfl rfl) (pv 14) (pa_cons (pe_tup (pa_cons pe_str pa_nil)) (pa_cons pe_str pa_nil))) (by first | (dsimp only [LamX.lamCx]; done) | exact rfl)))) (pa_cons (LamL.pe_lam1 (k := 38) (a := "_law_e") TB rfl (LamL.lamD_by (show LamL.lamDB ["_law_script", "_law_h", "_law_empty", "_law_letters", "_law_many", "_law_rules", "_law_works", "_law_due", "_law_count", "_law_book", "_law_more", "_law_narrow", "_law_odd", "_law_other", "_law_watcher", "_law_wide", "_law_k", "_law_work", "_law_sign"] (defScope s_law) _ = true by decide +kernel)) rfl rfl pe_int (by decide +kernel) (fun _ _ _ _ _ => ⟨_, rfl, fun _ => rfl⟩) (fun A' outer' s' H' E' f' c' hr' => (pe_.re (pe_meX CLo mo_see (hr'.mono (by decide)) (takes_of rfl rfl rfl rfl) (pv 13) (pa_cons (pv 12) (pa_cons pe_str pa_nil))) (by first | (dsimp only [LamX.lamCx]; done) | exact rfl)))) pa_nil)))))
      (pss_cons (ps_set (i := 6) sc_law.nd rfl (Or.inl rfl) (pe_op op_cat (pv 6) (pe_lst (pa_cons (LamL.pe_lam1 (k := 38) (a := "_law_f") TB rfl (LamL.lamD_by (show LamL.lamDB ["_law_script", "_law_h", "_law_empty", "_law_letters", "_law_many", "_law_rules", "_law_works", "_law_due", "_law_count", "_law_book", "_law_more", "_law_narrow", "_law_odd", "_law_other", "_law_watcher", "_law_wide", "_law_k", "_law_work", "_law_sign"] (defScope s_law) _ = true by decide +kernel)) rfl rfl pe_int (by decide +kernel) (fun _ _ _ _ _ => ⟨_, rfl, fun _ => rfl⟩) (fun A' outer' s' H' E' f' c' hr' => (pe_.re (pe_meX CLo mo_see (hr'.mono (by decide)) (takes_of rfl rfl rfl rfl) (pv 13) (pa_cons (pe_tup pa_nil) (pa_cons pe_str pa_nil))) (by first | (dsimp only [LamX.lamCx]; done) | exact rfl)))) (pa_cons (LamL.pe_lam1 (k := 38) (a := "_law_g") TB rfl (LamL.lamD_by (show LamL.lamDB ["_law_script", "_law_h", "_law_empty", "_law_letters", "_law_many", "_law_rules", "_law_works", "_law_due", "_law_count", "_law_book", "_law_more", "_law_narrow", "_law_odd", "_law_other", "_law_watcher", "_law_wide", "_law_k", "_law_work", "_law_sign"] (defScope s_law) _ = true by decide +kernel)) rfl rfl pe_int (by decide +kernel) (fun _ _ _ _ _ => ⟨_, rfl, fun _ => rfl⟩) (fun A' outer' s' H' E' f' c' hr' => (pe_.re (pe_meX CLo mo_sure (hr'.mono (by decide)) (takes_of rfl rfl rfl rfl) (pv 13) (pa_cons pe_str (pa_cons pe_str pa_nil))) (by first | (dsimp only [LamX.lamCx]; done) | exact rfl)))) pa_nil)))))
      (pss_cons (ps_set (i := 6) sc_law.nd rfl (Or.inl rfl) (pe_op op_cat (pv 6) (pe_lst (pa_cons (LamL.pe_lam1 (k := 38) (a := "_law_i") TB rfl (LamL.lamD_by (show LamL.lamDB ["_law_script", "_law_h", "_law_empty", "_law_letters", "_law_many", "_law_rules", "_law_works", "_law_due", "_law_count", "_law_book", "_law_more", "_law_narrow", "_law_odd", "_law_other", "_law_watcher", "_law_wide", "_law_k", "_law_work", "_law_sign"] (defScope s_law) _ = true by decide +kernel)) rfl rfl pe_int (by decide +kernel) (fun _ _ _ _ _ => ⟨_, rfl, fun _ => rfl⟩) (fun A' outer' s' H' E' f' c' hr' => (pe_.re (pe_meX CLo mo_sure (hr'.mono (by decide)) (takes_of rfl rfl rfl rfl) (pv 13) (pa_cons pe_str (pa_cons pe_str pa_nil))) (by first | (dsimp only [LamX.lamCx]; done) | exact rfl)))) (pa_cons (LamL.pe_lam1 (k := 38) (a := "_law_j") TB rfl (LamL.lamD_by (show LamL.lamDB ["_law_script", "_law_h", "_law_empty", "_law_letters", "_law_many", "_law_rules", "_law_works", "_law_due", "_law_count", "_law_book", "_law_more", "_law_narrow", "_law_odd", "_law_other", "_law_watcher", "_law_wide", "_law_k", "_law_work", "_law_sign"] (defScope s_law) _ = true by decide +kernel)) rfl rfl pe_int (by decide +kernel) (fun _ _ _ _ _ => ⟨_, rfl, fun _ => rfl⟩) (fun A' outer' s' H' E' f' c' hr' => (pe_.re (pe_meX CLw mw_see (hr'.mono (by decide)) (takes_of rfl rfl rfl rfl) (pv 14) (pa_cons (pe_tup pa_nil) (pa_cons pe_str pa_nil))) (by first | (dsimp only [LamX.lamCx]; done) | exact rfl)))) pa_nil)))))
      (pss_cons (ps_set (i := 7) sc_law.nd rfl (Or.inl rfl) (pe_lst (pa_cons pe_str (pa_cons pe_str (pa_cons pe_str (pa_cons pe_str (pa_cons pe_str (pa_cons pe_str (pa_cons pe_str pa_nil)))))))))
      (pss_cons (ps_if (pt_cmpR (op_neD hr.units) (LamL.pe_lcW (own := [("_law_work", 17)]) (g := gName 17) rfl sc_law.nd (pi_list (pv 6)) (blkOk_by (own := [("_law_work", 17)]) (N := ["_law_script", "_law_h", "_law_empty", "_law_letters", "_law_many", "_law_rules", "_law_works", "_law_due", "_law_count", "_law_book", "_law_more", "_law_narrow", "_law_odd", "_law_other", "_law_watcher", "_law_wide", "_law_k", "_law_work", "_law_sign"]) (sc := defScope s_law) (by decide +kernel)) (fun _ _ _ _ _ => (pg_name (i := 17) sc_law.nd rfl (Or.inl rfl))) (fun σ s H C cl fp Wn => (pe_worduse (k := 38) FE mE bE B G Wn rfl (hr.mono (by decide)) (pv 17)))) (pe_op op_cat (pv 7) (pe_lst (pa_cons pe_str (pa_cons pe_str (pa_cons pe_str pa_nil))))) (nomark _)) (pss_one (ps_ret pe_bl)) pss_nil)
      (ok_t2 B G FE mE bE TB CLw CLo r0 r1 r2 r3 r4 c__law_mix c__law_next k_Condition k_Rule k_Book k_ConditionWatcher k_OrderWatcher mw_see mw_see_decider mw_possible mo_see mo_sure mCand mCRec mCount mRecs hr)))))))) ?_
  rintro D σ H ⟨n, x, S, y, S2, ob, ow, om, oc, c0, od, io, y0, y1, y3, y5, y6, y7, y8, y11, y16, y17, y18, rfl, ⟨hn1, hn5⟩, ⟨hol, hio⟩, ⟨Z, hW, hO⟩, q⟩
  have hok := bk52_ok n (by omega)
  have hz := hok.size
  have hnl := bk52_nl n (by omega)
  obtain ⟨hz2, ffn, ffo⟩ := off52_size n (by omega)
  refine ⟨Z.tb, fun g1 Ga1 xa1 ta1 M1 => ⟨ta1, fun g2 Ga2 xa2 ta2 M2 => ⟨(by show 2 ≤ sizeLine; rw [sizeLine_eq]; decide), fun E0 nE0 => ?_⟩⟩⟩
  have sE0 : Same Ga2 (upd Ga2 E0 (.lst [.ref g1, .ref g2])) := (Same.refl Ga2).put nE0
  have eE0 : (upd Ga2 E0 (.lst [.ref g1, .ref g2])) E0 = some (.lst [.ref g1, .ref g2]) := upd_same
  generalize upd Ga2 E0 (.lst [.ref g1, .ref g2]) = Gb0 at sE0 eE0 ⊢
  have xE0 := LamX.ExtN.of sE0
  refine ⟨_, rfl, ta2.ext sE0, fun g3 Ga3 xa3 ta3 M3 => ⟨ta3, fun g4 Ga4 xa4 ta4 M4 => ⟨(by show 2 ≤ sizeLine; rw [sizeLine_eq]; decide), fun E1 nE1 => ?_⟩⟩⟩
  have sE1 : Same Ga4 (upd Ga4 E1 (.lst [.ref g3, .ref g4])) := (Same.refl Ga4).put nE1
  have eE1 : (upd Ga4 E1 (.lst [.ref g3, .ref g4])) E1 = some (.lst [.ref g3, .ref g4]) := upd_same
  generalize upd Ga4 E1 (.lst [.ref g3, .ref g4]) = Gb1 at sE1 eE1 ⊢
  have xE1 := LamX.ExtN.of sE1
  have cE1 := xE1 _ _ (xa4 _ _ (xa3 _ _ eE0 (fun _ z => nomatch z)) (fun _ z => nomatch z)) (fun _ z => nomatch z)
  refine ⟨E0, E1, _, _, rfl, rfl, cE1, eE1, (by show 2 + 2 ≤ sizeLine; rw [sizeLine_eq]; decide), fun F1 nF1 => ?_⟩
  have sF1 : Same Gb1 (upd Gb1 F1 (.lst ([.ref g1, .ref g2] ++ [.ref g3, .ref g4]))) := (Same.refl Gb1).put nF1
  have eF1 : (upd Gb1 F1 (.lst ([.ref g1, .ref g2] ++ [.ref g3, .ref g4]))) F1 = some (.lst [.ref g1, .ref g2, .ref g3, .ref g4]) := upd_same
  generalize upd Gb1 F1 (.lst ([.ref g1, .ref g2] ++ [.ref g3, .ref g4])) = Gc1 at sF1 eF1 ⊢
  have xF1 := LamX.ExtN.of sF1
  refine ⟨_, rfl, (ta4.ext sE1).ext sF1, fun g5 Ga5 xa5 ta5 M5 => ⟨ta5, fun g6 Ga6 xa6 ta6 M6 => ⟨(by show 2 ≤ sizeLine; rw [sizeLine_eq]; decide), fun E2 nE2 => ?_⟩⟩⟩
  have sE2 : Same Ga6 (upd Ga6 E2 (.lst [.ref g5, .ref g6])) := (Same.refl Ga6).put nE2
  have eE2 : (upd Ga6 E2 (.lst [.ref g5, .ref g6])) E2 = some (.lst [.ref g5, .ref g6]) := upd_same
  generalize upd Ga6 E2 (.lst [.ref g5, .ref g6]) = Gb2 at sE2 eE2 ⊢
  have xE2 := LamX.ExtN.of sE2
  have cE2 := xE2 _ _ (xa6 _ _ (xa5 _ _ eF1 (fun _ z => nomatch z)) (fun _ z => nomatch z)) (fun _ z => nomatch z)
  refine ⟨F1, E2, _, _, rfl, rfl, cE2, eE2, (by show 4 + 2 ≤ sizeLine; rw [sizeLine_eq]; decide), fun F2 nF2 => ?_⟩
  have sF2 : Same Gb2 (upd Gb2 F2 (.lst ([.ref g1, .ref g2, .ref g3, .ref g4] ++ [.ref g5, .ref g6]))) := (Same.refl Gb2).put nF2
  have eF2 : (upd Gb2 F2 (.lst ([.ref g1, .ref g2, .ref g3, .ref g4] ++ [.ref g5, .ref g6]))) F2 = some (.lst [.ref g1, .ref g2, .ref g3, .ref g4, .ref g5, .ref g6]) := upd_same
  generalize upd Gb2 F2 (.lst ([.ref g1, .ref g2, .ref g3, .ref g4] ++ [.ref g5, .ref g6])) = Gc2 at sF2 eF2 ⊢
  have xF2 := LamX.ExtN.of sF2
  refine ⟨_, rfl, (ta6.ext sE2).ext sF2, fun g7 Ga7 xa7 ta7 M7 => ⟨ta7, fun g8 Ga8 xa8 ta8 M8 => ⟨(by show 2 ≤ sizeLine; rw [sizeLine_eq]; decide), fun E3 nE3 => ?_⟩⟩⟩
  have sE3 : Same Ga8 (upd Ga8 E3 (.lst [.ref g7, .ref g8])) := (Same.refl Ga8).put nE3
  have eE3 : (upd Ga8 E3 (.lst [.ref g7, .ref g8])) E3 = some (.lst [.ref g7, .ref g8]) := upd_same
  generalize upd Ga8 E3 (.lst [.ref g7, .ref g8]) = Gb3 at sE3 eE3 ⊢
  have xE3 := LamX.ExtN.of sE3
  have cE3 := xE3 _ _ (xa8 _ _ (xa7 _ _ eF2 (fun _ z => nomatch z)) (fun _ z => nomatch z)) (fun _ z => nomatch z)
  refine ⟨F2, E3, _, _, rfl, rfl, cE3, eE3, (by show 6 + 2 ≤ sizeLine; rw [sizeLine_eq]; decide), fun F3 nF3 => ?_⟩
  have sF3 : Same Gb3 (upd Gb3 F3 (.lst ([.ref g1, .ref g2, .ref g3, .ref g4, .ref g5, .ref g6] ++ [.ref g7, .ref g8]))) := (Same.refl Gb3).put nF3
  have eF3 : (upd Gb3 F3 (.lst ([.ref g1, .ref g2, .ref g3, .ref g4, .ref g5, .ref g6] ++ [.ref g7, .ref g8]))) F3 = some (.lst [.ref g1, .ref g2, .ref g3, .ref g4, .ref g5, .ref g6, .ref g7, .ref g8]) := upd_same
  generalize upd Gb3 F3 (.lst ([.ref g1, .ref g2, .ref g3, .ref g4, .ref g5, .ref g6] ++ [.ref g7, .ref g8])) = Gc3 at sF3 eF3 ⊢
  have xF3 := LamX.ExtN.of sF3
  refine ⟨_, rfl, (ta8.ext sE3).ext sF3, fun g9 Ga9 xa9 ta9 M9 => ⟨ta9, fun g10 Ga10 xa10 ta10 M10 => ⟨(by show 2 ≤ sizeLine; rw [sizeLine_eq]; decide), fun E4 nE4 => ?_⟩⟩⟩
  have sE4 : Same Ga10 (upd Ga10 E4 (.lst [.ref g9, .ref g10])) := (Same.refl Ga10).put nE4
  have eE4 : (upd Ga10 E4 (.lst [.ref g9, .ref g10])) E4 = some (.lst [.ref g9, .ref g10]) := upd_same
  generalize upd Ga10 E4 (.lst [.ref g9, .ref g10]) = Gb4 at sE4 eE4 ⊢
  have xE4 := LamX.ExtN.of sE4
  have cE4 := xE4 _ _ (xa10 _ _ (xa9 _ _ eF3 (fun _ z => nomatch z)) (fun _ z => nomatch z)) (fun _ z => nomatch z)
  refine ⟨F3, E4, _, _, rfl, rfl, cE4, eE4, (by show 8 + 2 ≤ sizeLine; rw [sizeLine_eq]; decide), fun F4 nF4 => ?_⟩
  have sF4 : Same Gb4 (upd Gb4 F4 (.lst ([.ref g1, .ref g2, .ref g3, .ref g4, .ref g5, .ref g6, .ref g7, .ref g8] ++ [.ref g9, .ref g10]))) := (Same.refl Gb4).put nF4
  have eF4 : (upd Gb4 F4 (.lst ([.ref g1, .ref g2, .ref g3, .ref g4, .ref g5, .ref g6, .ref g7, .ref g8] ++ [.ref g9, .ref g10]))) F4 = some (.lst [.ref g1, .ref g2, .ref g3, .ref g4, .ref g5, .ref g6, .ref g7, .ref g8, .ref g9, .ref g10]) := upd_same
  generalize upd Gb4 F4 (.lst ([.ref g1, .ref g2, .ref g3, .ref g4, .ref g5, .ref g6, .ref g7, .ref g8] ++ [.ref g9, .ref g10])) = Gc4 at sF4 eF4 ⊢
  have xF4 := LamX.ExtN.of sF4
  refine ⟨(by show 7 ≤ sizeLine; rw [sizeLine_eq]; decide), fun LD nLD => ?_⟩
  have sD : Same Gc4 (upd Gc4 LD (.lst [.str "InvalidCase", .str "InvalidRuling", .str "InvalidCase", .str "InvalidCase", .str "UnknownRule", .str "InvalidCase", .str "InvalidRuling"])) := (Same.refl Gc4).put nLD
  have eD : (upd Gc4 LD (.lst [.str "InvalidCase", .str "InvalidRuling", .str "InvalidCase", .str "InvalidCase", .str "UnknownRule", .str "InvalidCase", .str "InvalidRuling"])) LD = some (.lst ((due52b.take 7).map V.str)) := upd_same
  have eF := sD _ _ eF4
  generalize upd Gc4 LD (.lst [.str "InvalidCase", .str "InvalidRuling", .str "InvalidCase", .str "InvalidCase", .str "UnknownRule", .str "InvalidCase", .str "InvalidRuling"]) = Hz at sD eD eF ⊢
  have xD := LamX.ExtN.of sD
  have yy18 := xF4.trans xD
  have yy17 := xE4.trans yy18
  have yy16 := xa10.trans yy17
  have yy15 := xa9.trans yy16
  have yy14 := xF3.trans yy15
  have yy13 := xE3.trans yy14
  have yy12 := xa8.trans yy13
  have yy11 := xa7.trans yy12
  have yy10 := xF2.trans yy11
  have yy9 := xE2.trans yy10
  have yy8 := xa6.trans yy9
  have yy7 := xa5.trans yy8
  have yy6 := xF1.trans yy7
  have yy5 := xE1.trans yy6
  have yy4 := xa4.trans yy5
  have yy3 := xa3.trans yy4
  have yy2 := xE0.trans yy3
  have yy1 := xa2.trans yy2
  have yy0 := xa1.trans yy1
  have M1 := M1.ext yy1
  have M2 := M2.ext yy2
  have M3 := M3.ext yy4
  have M4 := M4.ext yy5
  have M5 := M5.ext yy8
  have M6 := M6.ext yy9
  have M7 := M7.ext yy12
  have M8 := M8.ext yy13
  have M9 := M9.ext yy16
  have M10 := M10.ext yy17
  have tz := ((((ta10.ext sE4).ext sF4)).ext sD)
  have Z := Z.ext yy0 tz
  have hW := hW.ext yy0
  have hO := hO.ext yy0
  clear yy18 yy17 yy16 yy15 yy14 yy13 yy12 yy11 yy10 yy9 yy8 yy7 yy6 yy5 yy4 yy3 yy2 yy1 yy0 xa1 xa2 xE0 xa3 xa4 xE1 xF1 xa5 xa6 xE2 xF2 xa7 xa8 xE3 xF3 xa9 xa10 xE4 xF4 xD ta1 ta2 ta3 ta4 ta5 ta6 ta7 ta8 ta9 ta10 sE0 sE1 sE2 sE3 sE4 eE0 eE1 eE2 eE3 eE4 sF1 sF2 sF3 sF4 eF1 eF2 eF3 eF4 cE1 cE2 cE3 cE4 sD
  refine ⟨_, rfl, F4, rfl, ⟨_, sqL_of eF⟩, fun DR nDR => lc_it walk_list (fun i H' => LamX.ExtN Hz H' ∧ LamX.Tabs [(PT, qLam)] H' ∧ H' DR = some (.lst ((due52b.take i).map V.str)))
    ⟨?_, ?_, upd_same⟩ (fun _ _ _ h => sqL_of (h.1 _ _ eF (fun _ z => nomatch z))) ?_ ?_⟩
  · exact fun b o e _ => by rw [upd_ne (ne_of_none e nDR)]; exact e
  · exact Z.tb.ext fun b o e => by rw [upd_ne (ne_of_none e nDR)]; exact e
  · rintro i v Hb0 Hb hi ⟨xb, tb, e⟩ ⟨rfl, hv⟩
    have hi10 : i < 10 := hi
    have fin : ∀ H4 wd, due52b[i]? = some wd → Same Hb H4 → ∃ acc : List V, H4 DR = some (.lst acc) ∧ acc.length < sizeLine ∧ LamX.ExtN Hz (upd H4 DR (.lst (acc ++ [.str wd]))) ∧ LamX.Tabs [(PT, qLam)] (upd H4 DR (.lst (acc ++ [.str wd]))) ∧
        upd H4 DR (.lst (acc ++ [.str wd])) DR = some (.lst ((due52b.take (i + 1)).map V.str)) := by
      intro H4 wd hw s4
      have e4 := s4 _ _ e
      refine ⟨_, e4, small1000 (by rw [List.length_map, List.length_take]; omega), fun b o eb hn => ?_, tabs_lst52 e4 (tb.ext s4), ?_⟩
      · rw [upd_ne (ne_of_none eb nDR)]
        exact s4 _ _ (xb _ _ eb hn)
      · rw [upd_same, take_more hw, List.map_append]
        rfl
    have Zb := Z.ext xb tb
    have hWb := hW.ext xb
    have hOb := hO.ext xb
    have inW : ∀ {H' : Hp} {c : Addr} {ks : List Str}, Same Hb H' → SqT K H' c (ks.map V.str) → ks.length ≤ 1000 → CwIn K C R Bk CW TR H' x S c lp52 (on52 n) (off52 n) "free" (smC lp52) [] ks := fun s' hc hk => ⟨hWb.same s', by rw [on52_eq n (by omega)]; omega, hz2, by rw [on52_eq n (by omega)]; exact bk52_every n, off52_every n (by omega), hc, hk, by rw [smC_len]; decide, Nat.zero_le _, smC_cc⟩
    have o0 : firstOut lp52 [] = none := by decide +kernel
    have oL : firstOut lp52 ["late"] = none := by decide +kernel
    obtain ⟨dxw, _, _, _, _, _, hxw, _⟩ := id hWb.at_
    obtain ⟨dyo, _, _, _, _, hyo, _⟩ := id hOb.at_
    have late : ∀ {t : Addr}, Hb t = none → Same Hb (upd Hb t (.tup [.str "late"])) ∧ SqT K (upd Hb t (.tup [.str "late"])) t ((["late"] : List Str).map V.str) := fun nt => ⟨(Same.refl Hb).put nt, sqT_of upd_same⟩
    have nil0 : ∀ {t : Addr}, Hb t = none → Same Hb (upd Hb t (.tup [])) ∧ SqT K (upd Hb t (.tup [])) t (([] : List Str).map V.str) := fun nt => ⟨(Same.refl Hb).put nt, sqT_of upd_same⟩
    refine ⟨rfl, yes_ ⟨_, rfl, ?_⟩⟩
    match i, hi10, hv, fin with
    | 0, _, hv, fin =>
      cases hv
      exact ⟨g1, _, rfl, M1.ext xb, M1.ext xb, _, rfl, x, dxw, _, rfl, hxw, rfl, _, rfl, TR, x, S, oc, lp52, on52 n, off52 n, "free", smC lp52, [], od, "Fine", rfl, inW (Same.refl _) Zb.od hol, (by decide), .inl ⟨io, hio, (fun HA d sA nd => ⟨cl 1, rfl, 1, "InvalidCase", by decide, r1, (fun dd e => by cases e; exact ⟨_, upd_same⟩), rfl, fun HB sB => fin HB _ rfl ((sA.put' nd).trans sB)⟩)⟩⟩
    | 1, _, hv, fin =>
      cases hv
      refine ⟨g2, _, rfl, M2.ext xb, M2.ext xb, _, rfl, x, dxw, _, rfl, hxw, rfl, (by show 1 ≤ sizeLine; rw [sizeLine_eq]; decide), fun tq ntq => ?_⟩
      obtain ⟨sq, hq⟩ := late ntq
      exact ⟨TR, x, S, tq, lp52, on52 n, off52 n, "free", smC lp52, [], ["late"], "Fine", rfl, inW sq hq (by decide), (by decide), .inr ⟨oL, .inl ⟨(by decide +kernel), (fun HA sA => ⟨cl 2, rfl, 2, "InvalidRuling", by decide, r2, (fun dd e => nomatch e), rfl, fun HB sB => fin HB _ rfl ((sq.trans sA).trans sB)⟩)⟩⟩⟩
    | 2, _, hv, fin =>
      cases hv
      exact ⟨g3, _, rfl, M3.ext xb, M3.ext xb, _, rfl, x, dxw, _, rfl, hxw, rfl, _, rfl, TR, x, S, oc, lp52, on52 n, off52 n, "free", smC lp52, [], od, rfl, inW (Same.refl _) Zb.od hol, .inl ⟨io, hio, (fun HA d sA nd => ⟨cl 1, rfl, 1, "InvalidCase", by decide, r1, (fun dd e => by cases e; exact ⟨_, upd_same⟩), rfl, fun HB sB => fin HB _ rfl ((sA.put' nd).trans sB)⟩)⟩⟩
    | 3, _, hv, fin =>
      cases hv
      exact ⟨g4, _, rfl, M4.ext xb, M4.ext xb, _, rfl, x, dxw, _, rfl, hxw, rfl, _, rfl, TR, x, S, oc, lp52, on52 n, off52 n, "free", smC lp52, [], od, some "nobody", rfl, inW (Same.refl _) Zb.od hol, .inl ⟨io, hio, (fun HA d sA nd => ⟨cl 1, rfl, 1, "InvalidCase", by decide, r1, (fun dd e => by cases e; exact ⟨_, upd_same⟩), rfl, fun HB sB => fin HB _ rfl ((sA.put' nd).trans sB)⟩)⟩⟩
    | 4, _, hv, fin =>
      cases hv
      refine ⟨g5, _, rfl, M5.ext xb, M5.ext xb, _, rfl, x, dxw, _, rfl, hxw, rfl, (by show 1 ≤ sizeLine; rw [sizeLine_eq]; decide), fun tq ntq => ?_⟩
      obtain ⟨sq, hq⟩ := late ntq
      exact ⟨TR, x, S, tq, lp52, on52 n, off52 n, "free", smC lp52, [], ["late"], some "nobody", rfl, inW sq hq (by decide), .inr ⟨oL, .inl ⟨"nobody", rfl, nob_on n (by omega), (fun HA sA => ⟨cl 4, rfl, 4, "UnknownRule", by decide, r4, (fun dd e => nomatch e), rfl, fun HB sB => fin HB _ rfl ((sq.trans sA).trans sB)⟩)⟩⟩⟩
    | 5, _, hv, fin =>
      cases hv
      exact ⟨g6, _, rfl, M6.ext xb, M6.ext xb, _, rfl, y, dyo, _, rfl, hyo, rfl, _, rfl, TR, y, S2, oc, lp52, bk52 n, "free", _, [], od, "Fine", rfl, hOb, Zb.od, hol, (by decide), .inl ⟨io, hio, (fun HA d sA nd => ⟨cl 1, rfl, 1, "InvalidCase", by decide, r1, (fun dd e => by cases e; exact ⟨_, upd_same⟩), rfl, fun HB sB => fin HB _ rfl ((sA.put' nd).trans sB)⟩)⟩⟩
    | 6, _, hv, fin =>
      cases hv
      refine ⟨g7, _, rfl, M7.ext xb, M7.ext xb, _, rfl, y, dyo, _, rfl, hyo, rfl, Nat.zero_le _, fun tq ntq => ?_⟩
      obtain ⟨sq, hq⟩ := nil0 ntq
      exact ⟨TR, y, S2, tq, lp52, bk52 n, "free", _, [], [], "", rfl, hOb.same sq, hq, (by decide), (by decide), .inr ⟨o0, (by decide +kernel), (fun HA sA => ⟨cl 2, rfl, 2, "InvalidRuling", by decide, r2, (fun dd e => nomatch e), rfl, fun HB sB => fin HB _ rfl ((sq.trans sA).trans sB)⟩)⟩⟩
    | 7, _, hv, fin =>
      cases hv
      exact ⟨g8, _, rfl, M8.ext xb, M8.ext xb, _, rfl, y, dyo, _, rfl, hyo, rfl, TR, y, S2, lp52, bk52 n, "free", _, [], "a", "nobody", rfl, hOb, (by omega), bk52_every n, (fun z => nob_top n (by omega) (by rw [← nd_names n (by omega)]; exact z.2)), (fun HA sA => ⟨cl 4, rfl, 4, "UnknownRule", by decide, r4, (fun dd e => nomatch e), rfl, fun HB sB => fin HB _ rfl (sA.trans sB)⟩)⟩
    | 8, _, hv, fin =>
      cases hv
      exact ⟨g9, _, rfl, M9.ext xb, M9.ext xb, _, rfl, y, dyo, _, rfl, hyo, rfl, TR, y, S2, lp52, bk52 n, "free", _, [], "nobody", "a", rfl, hOb, (by omega), bk52_every n, (fun z => nob_top n (by omega) (by rw [← nd_names n (by omega)]; exact z.1)), (fun HA sA => ⟨cl 4, rfl, 4, "UnknownRule", by decide, r4, (fun dd e => nomatch e), rfl, fun HB sB => fin HB _ rfl (sA.trans sB)⟩)⟩
    | 9, _, hv, fin =>
      cases hv
      refine ⟨g10, _, rfl, M10.ext xb, M10.ext xb, _, rfl, x, dxw, _, rfl, hxw, rfl, Nat.zero_le _, fun tq ntq => ?_⟩
      obtain ⟨sq, hq⟩ := nil0 ntq
      obtain ⟨u1, u2⟩ := other52 n (by omega)
      have emp : leftC [] (decide ((on52 n).ruled [] "free" = ("other" : Str))) (decide ((off52 n).ruled [] "free" = ("other" : Str))) (smC lp52) = [] := by rw [decide_eq_false u1, decide_eq_false u2]; exact leftC_ff _
      exact ⟨TR, x, S, tq, lp52, on52 n, off52 n, "free", smC lp52, [], [], "other", rfl, inW sq hq (by decide), (by decide), .inr ⟨o0, .inr ⟨(by decide +kernel), (fun _ => (fun HA sA => ⟨cl 0, rfl, 0, "Contradiction", by decide, r0, (fun dd e => nomatch e), rfl, fun HB sB => fin HB _ rfl ((sq.trans sA).trans sB)⟩)), fun hne => absurd emp hne⟩⟩⟩
  rintro H38 ⟨x38, t38, e38⟩
  have e38 : H38 DR = some (.lst (due52b.map V.str)) := e38
  have Z := Z.ext x38 t38
  have hW := hW.ext x38
  have hO := hO.ext x38
  have eDb := x38 _ _ eD (fun _ z => nomatch z)
  refine ⟨_, rfl, (by show 3 ≤ sizeLine; rw [sizeLine_eq]; decide), fun LE2 nLE2 => ?_⟩
  have s39 : Same H38 (upd H38 LE2 (.lst [.str "UnknownRule", .str "UnknownRule", .str "Contradiction"])) := (Same.refl H38).put nLE2
  have e39 : (upd H38 LE2 (.lst [.str "UnknownRule", .str "UnknownRule", .str "Contradiction"])) LE2 = some (.lst [.str "UnknownRule", .str "UnknownRule", .str "Contradiction"]) := upd_same
  generalize upd H38 LE2 (.lst [.str "UnknownRule", .str "UnknownRule", .str "Contradiction"]) = H39 at s39 e39 ⊢
  refine ⟨LD, LE2, _, _, rfl, rfl, s39 _ _ eDb, e39, (by show 7 + 3 ≤ sizeLine; rw [sizeLine_eq]; decide), fun LF nLF => ?_⟩
  have s40 : Same H39 (upd H39 LF (.lst ((due52b.take 7).map V.str ++ [.str "UnknownRule", .str "UnknownRule", .str "Contradiction"]))) := (Same.refl H39).put nLF
  have e40 : (upd H39 LF (.lst ((due52b.take 7).map V.str ++ [.str "UnknownRule", .str "UnknownRule", .str "Contradiction"]))) LF = some (.lst (due52b.map V.str)) := upd_same
  generalize upd H39 LF (.lst ((due52b.take 7).map V.str ++ [.str "UnknownRule", .str "UnknownRule", .str "Contradiction"])) = H40 at s40 e40 ⊢
  have s3840 := s39.trans s40
  have Z := Z.same s3840
  have hW := hW.same s3840
  have hO := hO.same s3840
  refine ne_same52 (.lst (sqL_of (s3840 _ _ e38)) (dp_strs52 _)) (.lst (sqL_of e40) (dp_strs52 _)) (by decide +kernel) (by decide +kernel) ⟨false, rfl, iteF ?_⟩
  clear e38 e39 e40 s39 s40 eDb eD eF x38 t38 s3840 M1 M2 M3 M4 M5 M6 M7 M8 M9 M10
  exact ⟨n, x, S, y, S2, ob, ow, om, oc, c0, od, _, _, _, _, _, _, _, _, _, _, _, rfl, ⟨hn1, hn5⟩, ⟨Z, hW, hO⟩, q⟩
end
end Sc
namespace Sc
open PySem PySem.Spec PyProof.Rows L2
section
variable {P : Program} {w : World} {K : PySem.W.Frag} {mg : Str → Option Value} {base : Heap}
def sp_law (K : PySem.W.Frag) (PT : Addr) : Sp := fun vs H Q _ => ∃ (s : Addr) (ns : List Int), vs = [.ref s] ∧ SqL K H s (ns.map V.int) ∧ ns.length ≤ 63 ∧ (∀ z ∈ ns, Builtin.Int.intBits z ≤ 1048576) ∧ H PT = some (.tbl #[]) ∧ ∀ H', Q (.bl true) H'
theorem ok_law {f : Addr} {fd : FuncData} {c PT : Addr} {g : Addr} {fdE : FuncData} {cl : Nat → Addr} {CE C R Bk CW OW CF CB CI CQ : Addr} (F : FunC K "law" "law" s_law f fd c) (B : Blt mg) (G : GWord mg cl CE)
    (FE : Fun K "_law_word" "_law_word" s__law_word g fdE) (mE : mg "_law_word" = some (.ref g)) (bE : Binds K fdE ["_law_work"] []) (TB : LamX.TabB base mg c PT) (CLw : Cls K CW) (CLo : Cls K OW)
    (r0 : WordRow K cl CE (cl 0) 0) (r1 : WordRow K cl CE (cl 1) 1) (r2 : WordRow K cl CE (cl 2) 2) (r3 : WordRow K cl CE (cl 3) 3) (r4 : WordRow K cl CE (cl 4) 4)
    (c__law_mix : Cal P w K mg base CX0 1 "_law_mix" ["_law_script", "_law_seed"] (sp_mix K)) (c__law_next : Cal P w K mg base CX0 1 "_law_next" ["_law_h", "_law_limit"] sp_next)
    (k_Condition : Mkr P w K mg base 4 "Condition" C ["self", "holding", "failing"] (sp_cond_init K C CI)) (k_Rule : Mkr P w K mg base 16 "Rule" R ["self", "name", "condition", "ruling", "exceptions"] (sp_rule_init K C R CQ)) (k_Book : Mkr P w K mg base 17 "Book" Bk ["self", "facts", "rules", "ruling"] (sp_book_init K C R Bk CF CB))
    (k_ConditionWatcher : Mkr P w K mg base 36 "ConditionWatcher" CW ["self", "book", "name"] (sp_cwInit K C R Bk CW (cl 4) (cl 3))) (k_OrderWatcher : Mkr P w K mg base 3 "OrderWatcher" OW ["self", "book"] (sp_owInitX K C R Bk OW (cl 3)))
    (mw_see : MethX P w K mg base 15 CW "see" ["self", "case", "ruling"] (sp_cwSee K C R Bk CW (cl 1) (cl 2) (cl 0))) (mw_see_decider : MethX P w K mg base 15 CW "see_decider" ["self", "case", "name"] (sp_cwDec K C R Bk CW (cl 1) (cl 4) (cl 0))) (mw_possible : MethX P w K mg base 15 CW "possible" ["self", "case"] (sp_cwPoss K C R Bk CW (cl 1)))
    (mo_see : MethX P w K mg base 11 OW "see" ["self", "case", "ruling"] (sp_owSeeE K C R Bk OW (cl 1) (cl 2))) (mo_sure : MethX P w K mg base 3 OW "sure" ["self", "name", "other"] (sp_owSureE K C R Bk OW (cl 4)))
    (mCand : PropM P w K mg base CW "candidates" 1 (sp_cwCands K C R Bk CW)) (mCRec : PropM P w K mg base CW "records" 1 (sp_cwRecs K C R Bk CW)) (mCount : PropM P w K mg base OW "order_count" 1 (sp_owCount K C R Bk OW)) (mRecs : PropM P w K mg base OW "records" 1 (sp_owRecs K C R Bk OW)) :
    FnOk P w K mg base CX0 42 f fd ["_law_script"] (sp_law K PT) := by
  refine F.ok sc_law (fun vs H Q E h => by obtain ⟨s, ns, rfl, _⟩ := h; rfl) (fun A outer s H vs Q E hr h => ?_)
  obtain ⟨s, ns, rfl, hS, hl, hbits, hT, q⟩ := h
  refine ⟨_, (pss_cons (ps_set (i := 1) sc_law.nd rfl (Or.inl rfl) (pe_cal c__law_mix (hr.mono (by decide)) (pa_cons (pv 0) (pa_cons pe_int pa_nil))))
      (pss_cons (ps_asg (pe_tup (pa_cons (pe_mkN k_Condition (hr.mono (by decide)) (pa_cons (pe_tup pa_nil) (pa_cons (pe_tup pa_nil) pa_nil))) (pa_cons pe_str pa_nil))) (pg_tup (by rfl) (pgs_cons (pg_name (i := 2) sc_law.nd rfl (Or.inr rfl)) (pgs_cons (pg_name (i := 3) sc_law.nd rfl (Or.inr rfl)) pgs_nil))))
      (pss_cons (ps_set (i := 4) sc_law.nd rfl (Or.inl rfl) (pe_op op_add pe_int (pe_cal c__law_next (hr.mono (by decide)) (pa_cons (pv 1) (pa_cons pe_int pa_nil)))))
      (pss_cons (ps_set (i := 5) sc_law.nd rfl (Or.inl rfl) (pe_callTy call_tuple_of (by rfl) B.b_tuple PyProof.Rows.boot_tuple (pa_cons (pe_lc (own := [("_law_k", 16)]) (g := gName 16) (tt := tYes) rfl sc_law.nd (pi_range1 (by rfl) B.b_range (pa_cons (pv 4) pa_nil)) (blkOk_by (own := [("_law_k", 16)]) (N := ["_law_script", "_law_h", "_law_empty", "_law_letters", "_law_many", "_law_rules", "_law_works", "_law_due", "_law_count", "_law_book", "_law_more", "_law_narrow", "_law_odd", "_law_other", "_law_watcher", "_law_wide", "_law_k", "_law_work", "_law_sign"]) (sc := defScope s_law) (by decide +kernel)) (fun _ _ _ _ _ => (pg_name (i := 16) sc_law.nd rfl (Or.inl rfl))) (fun _ _ _ _ _ => pts_nil) (fun _ _ _ _ _ => (pe_.re (pe_mkN k_Rule (hr.mono (by decide)) (pa_cons (pe_ix ix_str (pv 3) (pv 16) (fun _ _ => rfl)) (pa_cons (pv 2) (pa_cons pe_str (pa_cons (pe_tup pa_nil) pa_nil))))) (by first | (dsimp only [Cx.blk]; done) | exact rfl)))) pa_nil)))
      (pss_cons (ps_set (i := 12) sc_law.nd rfl (Or.inr rfl) (pe_ix ix_list (pe_lst (pa_cons (pe_tup (pa_cons pe_str (pa_cons pe_str pa_nil))) (pa_cons (pe_tup (pa_cons pe_str pa_nil)) (pa_cons (pe_tup (pa_cons pe_str (pa_cons pe_str pa_nil))) pa_nil)))) (pe_cal c__law_next (hr.mono (by decide)) (pa_cons (pv 1) (pa_cons pe_int pa_nil))) (fun _ _ => rfl)))
      (pss_cons (ps_set (i := 9) sc_law.nd rfl (Or.inr rfl) (pe_mkN k_Book (hr.mono (by decide)) (pa_cons (pe_tup (pa_cons pe_str (pa_cons pe_str pa_nil))) (pa_cons (pv 5) (pa_cons pe_str pa_nil)))))
      (pss_cons (ps_set (i := 15) sc_law.nd rfl (Or.inr rfl) (pe_mkN k_Book (hr.mono (by decide)) (pa_cons (pe_callTy call_tuple_of (by rfl) B.b_tuple PyProof.Rows.boot_tuple (pa_cons (pe_lc (own := [("_law_sign", 18)]) (g := gName 18) (tt := tYes) rfl sc_law.nd (pi_str (pv 3)) (blkOk_by (own := [("_law_sign", 18)]) (N := ["_law_script", "_law_h", "_law_empty", "_law_letters", "_law_many", "_law_rules", "_law_works", "_law_due", "_law_count", "_law_book", "_law_more", "_law_narrow", "_law_odd", "_law_other", "_law_watcher", "_law_wide", "_law_k", "_law_work", "_law_sign"]) (sc := defScope s_law) (by decide +kernel)) (fun _ _ _ _ _ => (pg_name (i := 18) sc_law.nd rfl (Or.inl rfl))) (fun _ _ _ _ _ => pts_nil) (fun _ _ _ _ _ => (pe_.re (pe_op op_add_str pe_str (pv 18)) (by first | (dsimp only [Cx.blk]; done) | exact rfl)))) pa_nil)) (pa_cons (pv 5) (pa_cons pe_str pa_nil)))))
      (pss_cons (ps_set (i := 10) sc_law.nd rfl (Or.inr rfl) (pe_mkN k_Book (hr.mono (by decide)) (pa_cons (pe_tup (pa_cons pe_str pa_nil)) (pa_cons (pe_callTy call_tuple_of (by rfl) B.b_tuple PyProof.Rows.boot_tuple (pa_cons (pe_lc (own := [("_law_sign", 18)]) (g := gName 18) (tt := tYes) rfl sc_law.nd (pi_str (pe_slice sl_str (pv 3) po_none (po_some pe_int))) (blkOk_by (own := [("_law_sign", 18)]) (N := ["_law_script", "_law_h", "_law_empty", "_law_letters", "_law_many", "_law_rules", "_law_works", "_law_due", "_law_count", "_law_book", "_law_more", "_law_narrow", "_law_odd", "_law_other", "_law_watcher", "_law_wide", "_law_k", "_law_work", "_law_sign"]) (sc := defScope s_law) (by decide +kernel)) (fun _ _ _ _ _ => (pg_name (i := 18) sc_law.nd rfl (Or.inl rfl))) (fun _ _ _ _ _ => pts_nil) (fun _ _ _ _ _ => (pe_.re (pe_mkN k_Rule (hr.mono (by decide)) (pa_cons (pv 18) (pa_cons (pv 2) (pa_cons pe_str (pa_cons (pe_tup pa_nil) pa_nil))))) (by first | (dsimp only [Cx.blk]; done) | exact rfl)))) pa_nil)) (pa_cons pe_str pa_nil)))))
      (pss_cons (ps_set (i := 6) sc_law.nd rfl (Or.inl rfl) (pe_lst (pa_cons (LamL.pe_lam0 (k := 38) TB rfl (LamL.lamD_by (show LamL.lamDB ["_law_script", "_law_h", "_law_empty", "_law_letters", "_law_many", "_law_rules", "_law_works", "_law_due", "_law_count", "_law_book", "_law_more", "_law_narrow", "_law_odd", "_law_other", "_law_watcher", "_law_wide", "_law_k", "_law_work", "_law_sign"] (defScope s_law) _ = true by decide +kernel)) rfl (fun _ _ _ _ => rfl) (fun A' outer' s' H' E' f' c' hr' => (pe_.re (pe_mkX k_ConditionWatcher (hr'.mono (by decide)) (takes_of rfl rfl rfl rfl) (pa_cons (pv 9) (pa_cons pe_str pa_nil))) (by first | (dsimp only [LamX.lamCx]; done) | exact rfl)))) (pa_cons (LamL.pe_lam1 (k := 38) (a := "_law_a") TB rfl (LamL.lamD_by (show LamL.lamDB ["_law_script", "_law_h", "_law_empty", "_law_letters", "_law_many", "_law_rules", "_law_works", "_law_due", "_law_count", "_law_book", "_law_more", "_law_narrow", "_law_odd", "_law_other", "_law_watcher", "_law_wide", "_law_k", "_law_work", "_law_sign"] (defScope s_law) _ = true by decide +kernel)) rfl rfl pe_int (by decide +kernel) (fun _ _ _ _ _ => ⟨_, rfl, fun _ => rfl⟩) (fun A' outer' s' H' E' f' c' hr' => (pe_.re (pe_mkX k_ConditionWatcher (hr'.mono (by decide)) (takes_of rfl rfl rfl rfl) (pa_cons (pv 15) (pa_cons pe_str pa_nil))) (by first | (dsimp only [LamX.lamCx]; done) | exact rfl)))) pa_nil))))
      (pss_cons (ps_set (i := 6) sc_law.nd rfl (Or.inl rfl) (pe_op op_cat (pv 6) (pe_lst (pa_cons (LamL.pe_lam1 (k := 38) (a := "_law_b") TB rfl (LamL.lamD_by (show LamL.lamDB ["_law_script", "_law_h", "_law_empty", "_law_letters", "_law_many", "_law_rules", "_law_works", "_law_due", "_law_count", "_law_book", "_law_more", "_law_narrow", "_law_odd", "_law_other", "_law_watcher", "_law_wide", "_law_k", "_law_work", "_law_sign"] (defScope s_law) _ = true by decide +kernel)) rfl rfl pe_int (by decide +kernel) (fun _ _ _ _ _ => ⟨_, rfl, fun _ => rfl⟩) (fun A' outer' s' H' E' f' c' hr' => (pe_.re (pe_mkX k_ConditionWatcher (hr'.mono (by decide)) (takes_of rfl rfl rfl rfl) (pa_cons (pv 15) (pa_cons pe_str pa_nil))) (by first | (dsimp only [LamX.lamCx]; done) | exact rfl)))) (pa_cons (LamL.pe_lam1 (k := 38) (a := "_law_c") TB rfl (LamL.lamD_by (show LamL.lamDB ["_law_script", "_law_h", "_law_empty", "_law_letters", "_law_many", "_law_rules", "_law_works", "_law_due", "_law_count", "_law_book", "_law_more", "_law_narrow", "_law_odd", "_law_other", "_law_watcher", "_law_wide", "_law_k", "_law_work", "_law_sign"] (defScope s_law) _ = true by decide +kernel)) rfl rfl pe_int (by decide +kernel) (fun _ _ _ _ _ => ⟨_, rfl, fun _ => rfl⟩) (fun A' outer' s' H' E' f' c' hr' => (pe_.re (pe_mkX k_OrderWatcher (hr'.mono (by decide)) (takes_of rfl rfl rfl rfl) (pa_cons (pv 10) pa_nil)) (by first | (dsimp only [LamX.lamCx]; done) | exact rfl)))) pa_nil)))))
      (pss_cons (ps_if (pt_cmpR (op_neD hr.units) (LamL.pe_lcW (own := [("_law_work", 17)]) (g := gName 17) rfl sc_law.nd (pi_list (pv 6)) (blkOk_by (own := [("_law_work", 17)]) (N := ["_law_script", "_law_h", "_law_empty", "_law_letters", "_law_many", "_law_rules", "_law_works", "_law_due", "_law_count", "_law_book", "_law_more", "_law_narrow", "_law_odd", "_law_other", "_law_watcher", "_law_wide", "_law_k", "_law_work", "_law_sign"]) (sc := defScope s_law) (by decide +kernel)) (fun _ _ _ _ _ => (pg_name (i := 17) sc_law.nd rfl (Or.inl rfl))) (fun σ s H C cl fp Wn => (pe_worduse (k := 38) FE mE bE B G Wn rfl (hr.mono (by decide)) (pv 17)))) (pe_lst (pa_cons pe_str (pa_cons pe_str (pa_cons pe_str (pa_cons pe_str pa_nil))))) (nomark _)) (pss_one (ps_ret pe_bl)) pss_nil)
      (pss_cons (ps_asg (pe_tup (pa_cons (pe_mkN k_ConditionWatcher (hr.mono (by decide)) (pa_cons (pv 9) (pa_cons pe_str pa_nil))) (pa_cons (pe_mkN k_OrderWatcher (hr.mono (by decide)) (pa_cons (pv 9) pa_nil)) pa_nil))) (pg_tup (by rfl) (pgs_cons (pg_name (i := 14) sc_law.nd rfl (Or.inr rfl)) (pgs_cons (pg_name (i := 13) sc_law.nd rfl (Or.inr rfl)) pgs_nil))))
      (ok_t1 B G FE mE bE TB CLw CLo r0 r1 r2 r3 r4 c__law_mix c__law_next k_Condition k_Rule k_Book k_ConditionWatcher k_OrderWatcher mw_see mw_see_decider mw_possible mo_see mo_sure mCand mCRec mCount mRecs hr))))))))))))), ?_⟩
  refine ⟨.ref s, rfl, s, ns, 56, rfl, hS, hl, hbits, by decide, by decide, fun H1 a l s1 R1 => ?_⟩
  have Tb1 : LamX.Tabs [(PT, qLam)] H1 := by
    intro p hp
    rw [List.mem_singleton.mp hp]
    exact LamX.TabS.nil (s1 _ _ hT)
  -- the empty condition and the letters
  refine ⟨Nat.zero_le _, fun t1 nt1 => ⟨Nat.zero_le _, fun t2 nt2 => ?_⟩⟩
  have s2 : Same H1 (upd (upd H1 t1 (.tup [])) t2 (.tup [])) := ((Same.refl H1).put nt1).put' nt2
  have e2a : (upd (upd H1 t1 (.tup [])) t2 (.tup [])) t1 = some (.tup []) := by rw [upd_ne (ne_of_none upd_same nt2)]; exact upd_same
  have e2b : (upd (upd H1 t1 (.tup [])) t2 (.tup [])) t2 = some (.tup []) := upd_same
  generalize upd (upd H1 t1 (.tup [])) t2 (.tup []) = H2 at s2 e2a e2b ⊢
  intro c0 dxc nc ndc nec
  refine mk_cnd (hs := []) (fs := []) nc ndc (sqT_of e2a) (sqT_of e2b) (by decide +kernel) (by decide +kernel) (by decide) fun H3 s3 hC3 => ?_
  refine ⟨(by show 2 ≤ sizeLine; rw [sizeLine_eq]; decide), fun t3 nt3 => ?_⟩
  have s4 : Same H3 (upd H3 t3 (.tup [.ref c0, .str lt52])) := (Same.refl H3).put nt3
  have e4 : (upd H3 t3 (.tup [.ref c0, .str lt52])) t3 = some (.tup [.ref c0, .str lt52]) := upd_same
  generalize upd H3 t3 (.tup [.ref c0, .str lt52]) = H4 at s4 e4 ⊢
  refine ⟨t3, _, rfl, sqT_of e4, rfl, _, _, rfl, _, _, rfl, rfl, ?_⟩
  have s14 := s2.trans (s3.trans s4)
  have hC4 := hC3.same s4
  have R4 := R1.same s14
  have T4 := Tb1.ext s14
  -- how many rules
  refine ⟨_, rfl, a, l, 5, rfl, R4, by decide, by decide, fun H5 r5 k5 r50 r51 => ?_⟩
  obtain ⟨m, rfl⟩ : ∃ m : Nat, r5 = m := ⟨r5.toNat, by omega⟩
  refine ⟨_, _, rfl, rfl, ?_⟩
  obtain ⟨n, hn⟩ : ∃ n, n = m + 1 := ⟨_, rfl⟩
  have hn1 : 1 ≤ n := by omega
  have hn5 : n ≤ 5 := by omega
  have hni : (1 : Int) + (m : Nat) = (n : Nat) := by omega
  show gName 4 (V.int ((1 : Int) + (m : Nat))) _ _ _
  rw [hni]
  have R5 := k5.new
  have T5 := tabs_kp k5 T4
  have hC5 : CondAt K C H5 c0 [] [] := hC4.keeps (N := NoL) k5.keepsN
  -- the rules
  refine ⟨_, rfl, _, rfl, by omega, by omega, fun D nD => lc_it walk_range (fun i H' => Same H5 H' ∧ ∃ rs, H' D = some (.lst rs) ∧ All2 (RefAt K C R (fun b => (b ≠ a ∧ b ≠ l) ∧ b ≠ D) H') rs ((l52.take i).map nd52)) ⟨(Same.refl H5).put nD, [], upd_same, .nil⟩ (fun _ _ _ _ => trivial) ?_ ?_⟩
  · rintro i v Ha0 Ha hi ⟨sa, rs, ea, hrs⟩ ⟨rfl, hv⟩
    have hi : i < n := by
      have hi : i < ((n : Nat) : Int).toNat := hi
      omega
    obtain rfl : v = V.int (i : Nat) := by rw [hv]; show V.int (0 + (i : Nat)) = _; rw [Int.zero_add]
    obtain ⟨c, hc⟩ : ∃ c, lt52.cps[i]? = some c := ⟨_, Array.getElem?_eq_getElem (by show i < 11; omega)⟩
    have hx := l52_at i hc
    have hxn := l52_name _ (List.mem_of_getElem? hx)
    have hrl := hrs.len
    rw [List.length_map, List.length_take] at hrl
    refine ⟨rfl, yes_ ⟨_, rfl, _, rfl, _, _, _, rfl, rfl, (by decide +kernel), atI_nat (by rw [Array.getElem?_toList]; exact hc), _, rfl, Nat.zero_le _, fun te nte => ?_⟩⟩
    have s7 : Same Ha (upd Ha te (.tup [])) := (Same.refl Ha).put nte
    have e7 : (upd Ha te (.tup [])) te = some (.tup []) := upd_same
    generalize upd Ha te (.tup []) = H7 at s7 e7 ⊢
    have sa7 := sa.trans s7
    intro xo dx nx ndx nex
    refine rule_of (N := fun b => (b ≠ a ∧ b ≠ l) ∧ b ≠ D) (exc := .nil) (ws := []) nx ndx nex (fun b hb => ⟨(R5.same sa7).no hb, fun z => by rw [z, s7 _ _ ea] at hb; cases hb⟩) (hC5.same sa7) (sqT_of e7) rfl hxn (show isName "fine" = true by decide +kernel) (by decide) (by decide) fun H8 s8 hN8 => ⟨rfl, ?_⟩
    have e8 := s8 _ _ (s7 _ _ ea)
    have kk : Keeps (fun b => (b ≠ a ∧ b ≠ l) ∧ b ≠ D) H8 (upd H8 D (.lst (rs ++ [.ref xo]))) := keeps_own e8 fun z => z.2 rfl
    refine ⟨rs, e8, small1000 (by omega), (sa7.trans s8).put nD, rs ++ [.ref xo], upd_same, ?_⟩
    rw [take_more hx, List.map_append]
    exact (hrs.mono fun _ _ x => (x.keeps ((s7.trans s8).keeps)).keeps kk).snoc ⟨xo, rfl, hN8.keeps kk⟩
  rintro H6 ⟨s6, rs, e6, hrs⟩
  have hrs : All2 (RefAt K C R (fun b => (b ≠ a ∧ b ≠ l) ∧ b ≠ D) H6) rs ((l52.take n).map nd52) := hrs
  refine ⟨D, _, rfl, .inl ⟨sqL_of e6, fun tr ntr => ?_⟩⟩
  have s7 : Same H6 (upd H6 tr (.tup rs)) := (Same.refl H6).put ntr
  have e7 : (upd H6 tr (.tup rs)) tr = some (.tup rs) := upd_same
  generalize upd H6 tr (.tup rs) = H7 at s7 e7 ⊢
  have hF7 : ForAt K C R (fun b => b ≠ a ∧ b ≠ l) H7 (bk52 n) rs := ForAt.of (by
    rw [bk52_nodes]
    exact hrs.mono fun _ _ ⟨o, e, x⟩ => ⟨o, e, (x.re fun b xs h _ => h.1).keeps s7.keeps⟩)
  have s57 := s6.trans s7
  have R7 := R5.same s57
  have T7 := T5.ext s57
  have hC7 := hC5.same s57
  -- the odd case
  refine ⟨(by show 2 ≤ sizeLine; rw [sizeLine_eq]; decide), fun o1 no1 => ⟨(by show 1 ≤ sizeLine; rw [sizeLine_eq]; decide), fun o2 no2 => ⟨(by show 2 ≤ sizeLine; rw [sizeLine_eq]; decide), fun o3 no3 => ⟨(by show 3 ≤ sizeLine; rw [sizeLine_eq]; decide), fun oL noL => ?_⟩⟩⟩⟩
  have s8a : Same H7 (upd (upd H7 o1 (.tup [.str "late", .str "late"])) o2 (.tup [.str "nofact"])) := ((Same.refl H7).put no1).put' no2
  have e8a : (upd (upd H7 o1 (.tup [.str "late", .str "late"])) o2 (.tup [.str "nofact"])) o1 = some (.tup [.str "late", .str "late"]) := by rw [upd_ne (ne_of_none upd_same no2)]; exact upd_same
  have e8b : (upd (upd H7 o1 (.tup [.str "late", .str "late"])) o2 (.tup [.str "nofact"])) o2 = some (.tup [.str "nofact"]) := upd_same
  generalize upd (upd H7 o1 (.tup [.str "late", .str "late"])) o2 (.tup [.str "nofact"]) = H8 at s8a e8a e8b no3 noL ⊢
  have s8c : Same H8 (upd H8 o3 (.tup [.str "paid", .str "late"])) := (Same.refl H8).put no3
  have e8c : (upd H8 o3 (.tup [.str "paid", .str "late"])) o3 = some (.tup [.str "paid", .str "late"]) := upd_same
  generalize upd H8 o3 (.tup [.str "paid", .str "late"]) = H9 at s8c e8c noL ⊢
  have s8d : Same H9 (upd H9 oL (.lst [.ref o1, .ref o2, .ref o3])) := (Same.refl H9).put noL
  have e8d : (upd H9 oL (.lst [.ref o1, .ref o2, .ref o3])) oL = some (.lst [.ref o1, .ref o2, .ref o3]) := upd_same
  have noL' := (R7.same (s8a.trans s8c)).no noL
  generalize upd H9 oL (.lst [.ref o1, .ref o2, .ref o3]) = H10 at s8d e8d ⊢
  have s710 := s8a.trans (s8c.trans s8d)
  have ho : All2 (fun (v : V) (o : List Str) => ∃ p, v = .ref p ∧ H10 p = some (.tup (o.map V.str))) [.ref o1, .ref o2, .ref o3] odds52 := .cons ⟨o1, rfl, s8d _ _ (s8c _ _ e8a)⟩ (.cons ⟨o2, rfl, s8d _ _ (s8c _ _ e8b)⟩ (.cons ⟨o3, rfl, s8d _ _ e8c⟩ .nil))
  refine ⟨_, rfl, a, l, 3, rfl, R7.same s710, by decide, by decide, fun H11 r11 k11 r0' r1' => ?_⟩
  obtain ⟨r11, rfl⟩ : ∃ j : Nat, r11 = j := ⟨r11.toNat, by omega⟩
  have e11 := k11.keep _ _ noL'.1 noL'.2 e8d
  obtain ⟨ov, hov⟩ : ∃ v, ([.ref o1, .ref o2, .ref o3] : List V)[r11]? = some v := ⟨_, List.getElem?_eq_getElem (by show r11 < 3; omega)⟩
  obtain ⟨od, hod, oc, rfl, eoc⟩ := ho.get hov
  obtain ⟨hol, io, hio⟩ := odds_bad od (List.mem_of_getElem? hod)
  have eoc11 := k11.keepsN _ _ stays_tup eoc
  refine ⟨oL, _, _, _, rfl, rfl, sqL_of e11, atI_nat hov, ?_⟩
  have T11 := tabs_kp k11 (T7.ext s710)
  have hC11 : CondAt K C H11 c0 [] [] := (hC7.same s710).keeps (N := NoL) k11.keepsN
  have hF11 : ForAt K C R TR H11 (bk52 n) rs := ((hF7.keeps s710.keeps).keeps (kp_keeps k11)).re fun _ _ _ _ => trivial
  have e7' : SqT K H11 tr rs := k11.keepsN.tup (sqT_of (s710 _ _ e7))
  have fr : ∀ (H : Hp) (l : Addr), H l = none → TR l := fun _ _ _ => trivial
  clear hrs e6 ho hov e8a e8b e8c e8d e11 s8a s8c s8d hF7 R7 R5 R4 T7 T5 T4 hC7 hC5 hC4 hC3
  obtain ⟨ff1, ff2, _⟩ := bk52_f1 n (by omega)
  obtain ⟨_, _, ff3⟩ := bk52_f1 7 (by omega)
  have hok := bk52_ok n (by omega)
  have hokW := bk52_okW n (by omega)
  have hd := hok.dep
  have hz := hok.size
  -- the book
  refine ⟨(by show 2 ≤ sizeLine; rw [sizeLine_eq]; decide), fun tf ntf => ⟨_, rfl, ?_⟩⟩
  have s12 : Same H11 (upd H11 tf (.tup [.str "late", .str "paid"])) := (Same.refl H11).put ntf
  have e12 : (upd H11 tf (.tup [.str "late", .str "paid"])) tf = some (.tup (lp52.map V.str)) := upd_same
  generalize upd H11 tf (.tup [.str "late", .str "paid"]) = H12 at s12 e12 ⊢
  intro ob dxb nob ndxb neb
  refine mk_bk52 (N := TR) (rl := "free") nob ndxb neb (fun _ _ => trivial) (sqT_of e12) lp_txts (by decide) lp_bad (s12.tup e7') (hF11.keeps s12.keeps) (by omega) (by omega) (fit_of hok.ev) (by decide +kernel) ff1 fun H13 s13 hB13 => ?_
  have s1113 := s12.trans s13
  have hF13 := hF11.keeps (N := TR) s1113.keeps
  have e713 := s1113.tup e7'
  -- the wide book
  refine ⟨_, rfl, lt52, rfl, fun D2 nD2 => lc_it walk_str (fun i H' => Same H13 H' ∧ H' D2 = some (.lst ((wide52.take i).map V.str))) ⟨(Same.refl H13).put nD2, upd_same⟩ (fun _ _ _ _ => trivial) ?_ ?_⟩
  · rintro i v Hb0 Hb hi ⟨s, e⟩ ⟨rfl, c1, hc1, rfl⟩
    have hi11 : i < 11 := hi
    have hw := wide52_at i hc1
    refine ⟨rfl, yes_ ⟨_, rfl, _, _, rfl, rfl, (by show 2 ≤ sizeLine; rw [sizeLine_eq]; decide), _, e, small1000 (by rw [List.length_map, List.length_take]; omega), s.put nD2, ?_⟩⟩
    rw [upd_same, take_more hw, List.map_append]
    rfl
  rintro H14 ⟨s14', e14⟩
  have e14 : H14 D2 = some (.lst (wide52.map V.str)) := e14
  refine ⟨D2, _, rfl, .inl ⟨sqL_of e14, fun tw ntw => ⟨_, rfl, ?_⟩⟩⟩
  have s15 : Same H14 (upd H14 tw (.tup (wide52.map V.str))) := (Same.refl H14).put ntw
  have e15 : (upd H14 tw (.tup (wide52.map V.str))) tw = some (.tup (wide52.map V.str)) := upd_same
  generalize upd H14 tw (.tup (wide52.map V.str)) = H15 at s15 e15 ⊢
  have s1315 := s14'.trans s15
  intro ow dxw now ndxw new
  refine mk_bk52 (N := TR) (rl := "fine") now ndxw new (fun _ _ => trivial) (sqT_of e15) wide_txts52 (by decide) wide_bad52 (s1315.tup e713) (hF13.keeps s1315.keeps) (by omega) (by omega) (fit_of hok.ev) (by decide +kernel) ff2 fun H16 s16 hB16 => ?_
  have s1316 := s1315.trans s16
  have hB16' := hB13.keeps (N := TR) s1316.keeps
  have s1116 := s1113.trans s1316
  have T16 := T11.ext s1116
  have hC16 := hC11.same s1116
  have eoc16 := s1116 _ _ eoc11
  -- the long book
  refine ⟨(by show 1 ≤ sizeLine; rw [sizeLine_eq]; decide), fun tl ntl => ?_⟩
  have s17 : Same H16 (upd H16 tl (.tup [.str "late"])) := (Same.refl H16).put ntl
  have e17 : (upd H16 tl (.tup [.str "late"])) tl = some (.tup ((["late"] : List Str).map V.str)) := upd_same
  generalize upd H16 tl (.tup [.str "late"]) = H17 at s17 e17 ⊢
  have hC17 := hC16.same s17
  refine ⟨_, rfl, ?_⟩
  dsimp only [tNoPart]
  refine ⟨_, rfl, lt52, rfl, (by show 11 ≤ sizeLine; rw [sizeLine_eq]; decide), Str.ofString "abcdefg", congrArg V.str cut7, fun D3 nD3 => lc_it walk_str (fun i H' => Same H17 H' ∧ ∃ rs, H' D3 = some (.lst rs) ∧ All2 (RefAt K C R (fun b => b ≠ D3) H') rs (((l52.take 7).take i).map nd52)) ⟨(Same.refl H17).put nD3, [], upd_same, .nil⟩ (fun _ _ _ _ => trivial) ?_ ?_⟩
  · rintro i v Ha0 Ha hi ⟨sa, rs3, ea, hrs⟩ ⟨rfl, c1, hc1, rfl⟩
    have hi7 : i < 7 := hi
    have hx := l7_at i hc1
    have hxn := l52_name _ (List.take_subset _ _ (List.mem_of_getElem? hx))
    have hrl := hrs.len
    rw [List.length_map, List.length_take] at hrl
    refine ⟨rfl, yes_ ⟨_, rfl, _, rfl, Nat.zero_le _, fun te nte => ?_⟩⟩
    have s7 : Same Ha (upd Ha te (.tup [])) := (Same.refl Ha).put nte
    have e7 : (upd Ha te (.tup [])) te = some (.tup []) := upd_same
    generalize upd Ha te (.tup []) = H7 at s7 e7 ⊢
    have sa7 := sa.trans s7
    intro xo dx nx ndx nex
    refine rule_of (N := fun b => b ≠ D3) (exc := .nil) (ws := []) nx ndx nex (fun b hb => fun z => by rw [z, s7 _ _ ea] at hb; cases hb) (hC17.same sa7) (sqT_of e7) rfl hxn (show isName "fine" = true by decide +kernel) (by decide) (by decide) fun H8 s8 hN8 => ⟨rfl, ?_⟩
    have e8 := s8 _ _ (s7 _ _ ea)
    have kk : Keeps (fun b => b ≠ D3) H8 (upd H8 D3 (.lst (rs3 ++ [.ref xo]))) := keeps_own e8 fun z => z rfl
    refine ⟨rs3, e8, small1000 (by omega), (sa7.trans s8).put nD3, rs3 ++ [.ref xo], upd_same, ?_⟩
    rw [take_more hx, List.map_append]
    exact (hrs.mono fun _ _ x => (x.keeps ((s7.trans s8).keeps)).keeps kk).snoc ⟨xo, rfl, hN8.keeps kk⟩
  rintro H18 ⟨s18, rs3, e18, hrs3⟩
  have hrs3 : All2 (RefAt K C R (fun b => b ≠ D3) H18) rs3 ((l52.take 7).map nd52) := hrs3
  refine ⟨D3, _, rfl, .inl ⟨sqL_of e18, fun tr3 ntr3 => ?_⟩⟩
  have s19 : Same H18 (upd H18 tr3 (.tup rs3)) := (Same.refl H18).put ntr3
  have e19 : (upd H18 tr3 (.tup rs3)) tr3 = some (.tup rs3) := upd_same
  generalize upd H18 tr3 (.tup rs3) = H19 at s19 e19 ⊢
  have hF19 : ForAt K C R TR H19 (bk52 7) rs3 := ForAt.of (by
    rw [bk52_nodes]
    exact hrs3.mono fun _ _ ⟨o, e, x⟩ => ⟨o, e, (x.re fun b xs h _ => trivial).keeps s19.keeps⟩)
  have s1719 := s18.trans s19
  intro om dxm nom ndxm nem
  refine mk_bk52 (N := TR) (rl := "fine") nom ndxm nem (fun _ _ => trivial) (s1719.tup (sqT_of e17)) late_txts (by decide) late_bad (sqT_of e19) hF19 (by decide +kernel) (by decide +kernel) (fit_of (bk52_every 7)) (by decide +kernel) ff3 fun H20 s20 hB20 => ?_
  have s1620 := s17.trans (s1719.trans s20)
  have Z0 : Z52 K C R Bk PT n ob ow om oc c0 od H20 := ⟨T16.ext s1620, hB16'.keeps s1620.keeps, hB16.keeps s1620.keeps, hB20, s1620.tup (sqT_of eoc16), hC16.same s1620⟩
  clear hF19 hrs3 e18 e19 hF11 hF13 hB13 hB16 hB16' hB20 hC16 hC17 T16 eoc16 e15 e14 e713 e7' e12 e17
  -- the first four
  refine ⟨Z0.tb, fun f1 Ha1 xa1 ta1 L1 => ⟨ta1, fun f2 Ha2 xa2 ta2 L2 => ⟨(by show 2 ≤ sizeLine; rw [sizeLine_eq]; decide), fun D1 nD1 => ?_⟩⟩⟩
  have s1 : Same Ha2 (upd Ha2 D1 (.lst [.ref f1, .ref f2])) := (Same.refl Ha2).put nD1
  have e1' : (upd Ha2 D1 (.lst [.ref f1, .ref f2])) D1 = some (.lst [.ref f1, .ref f2]) := upd_same
  generalize upd Ha2 D1 (.lst [.ref f1, .ref f2]) = Hb1 at s1 e1' ⊢
  have xb1 := LamX.ExtN.of s1
  refine ⟨_, rfl, ta2.ext s1, fun f3 Ha3 xa3 ta3 L3 => ⟨ta3, fun f4 Ha4 xa4 ta4 L4 => ⟨(by show 2 ≤ sizeLine; rw [sizeLine_eq]; decide), fun D2 nD2 => ?_⟩⟩⟩
  have s2 : Same Ha4 (upd Ha4 D2 (.lst [.ref f3, .ref f4])) := (Same.refl Ha4).put nD2
  have e2' : (upd Ha4 D2 (.lst [.ref f3, .ref f4])) D2 = some (.lst [.ref f3, .ref f4]) := upd_same
  generalize upd Ha4 D2 (.lst [.ref f3, .ref f4]) = Hb2 at s2 e2' ⊢
  have xb2 := LamX.ExtN.of s2
  have e1b := xb2 _ _ (xa4 _ _ (xa3 _ _ e1' (fun _ z => nomatch z)) (fun _ z => nomatch z)) (fun _ z => nomatch z)
  refine ⟨D1, D2, _, _, rfl, rfl, e1b, e2', (by show 2 + 2 ≤ sizeLine; rw [sizeLine_eq]; decide), fun D3 nD3 => ?_⟩
  have s3 : Same Hb2 (upd Hb2 D3 (.lst ([.ref f1, .ref f2] ++ [.ref f3, .ref f4]))) := (Same.refl Hb2).put nD3
  have e3' : (upd Hb2 D3 (.lst ([.ref f1, .ref f2] ++ [.ref f3, .ref f4]))) D3 = some (.lst [.ref f1, .ref f2, .ref f3, .ref f4]) := upd_same
  generalize upd Hb2 D3 (.lst ([.ref f1, .ref f2] ++ [.ref f3, .ref f4])) = Hz at s3 e3' ⊢
  have xb3 := LamX.ExtN.of s3
  have y4 := xb2.trans xb3
  have y3 := xa4.trans y4
  have y2 := xb1.trans (xa3.trans y3)
  have y1 := xa2.trans y2
  have L1 := L1.ext y1
  have L2 := L2.ext y2
  have L3 := L3.ext y3
  have L4 := L4.ext y4
  have Z := Z0.ext (xa1.trans y1) ((ta4.ext s2).ext s3)
  clear Z0 xa1 xa2 xa3 xa4 xb1 xb2 xb3 y1 y2 y3 y4 ta1 ta2 ta3 ta4 s1 s2 s3 e1' e2' e1b
  refine ⟨_, rfl, D3, rfl, ⟨_, sqL_of e3'⟩, fun DR nDR => lc_it walk_list (fun i H' => LamX.ExtN Hz H' ∧ LamX.Tabs [(PT, qLam)] H' ∧ H' DR = some (.lst ((due52a.take i).map V.str)))
    ⟨?_, ?_, upd_same⟩ (fun _ _ _ h => sqL_of (h.1 _ _ e3' (fun _ z => nomatch z))) ?_ ?_⟩
  · exact fun b o e _ => by rw [upd_ne (ne_of_none e nDR)]; exact e
  · exact Z.tb.ext fun b o e => by rw [upd_ne (ne_of_none e nDR)]; exact e
  · rintro i v Hb0 Hb hi ⟨xb, tb, e⟩ ⟨rfl, hv⟩
    have hi4 : i < 4 := hi
    have fin : ∀ H4 wd, due52a[i]? = some wd → Same Hb H4 → ∃ acc : List V, H4 DR = some (.lst acc) ∧ acc.length < sizeLine ∧ LamX.ExtN Hz (upd H4 DR (.lst (acc ++ [.str wd]))) ∧ LamX.Tabs [(PT, qLam)] (upd H4 DR (.lst (acc ++ [.str wd]))) ∧
        upd H4 DR (.lst (acc ++ [.str wd])) DR = some (.lst ((due52a.take (i + 1)).map V.str)) := by
      intro H4 wd hw s4
      have e4 := s4 _ _ e
      refine ⟨_, e4, small1000 (by rw [List.length_map, List.length_take]; omega), fun b o eb hn => ?_, tabs_lst52 e4 (tb.ext s4), ?_⟩
      · rw [upd_ne (ne_of_none eb nDR)]
        exact s4 _ _ (xb _ _ eb hn)
      · rw [upd_same, take_more hw, List.map_append]
        rfl
    have Zb := Z.ext xb tb
    have alloc : ∀ {x dx Cl : Addr}, Hb x = none → Hb dx = none → Same Hb (upd (upd Hb dx (.own x)) x (.ins Cl dx [])) ∧ (upd (upd Hb dx (.own x)) x (.ins Cl dx [])) x = some (.ins Cl dx []) := fun nx ndx => ⟨((Same.refl Hb).put ndx).put nx, upd_same⟩
    refine ⟨rfl, yes_ ⟨_, rfl, ?_⟩⟩
    match i, hi4, hv, fin with
    | 0, _, hv, fin =>
      cases hv
      refine ⟨f1, _, rfl, L1.ext xb, L1.ext xb, _, rfl, fun x dx nx ndx nex => ?_⟩
      obtain ⟨sm, om'⟩ := alloc (Cl := CW) nx ndx
      exact ⟨TR, x, dx, ob, lp52, bk52 n, "free", "nobody", rfl, om', Zb.bk.keeps sm.keeps, hok, (fun _ _ => trivial), (by decide +kernel), .inl ⟨nobody52 n (by omega), fun HA sA => ⟨cl 4, rfl, 4, "UnknownRule", by decide, r4, (fun dd e => nomatch e), rfl, fun HB sB => fin HB _ rfl ((sm.trans sA).trans sB)⟩⟩⟩
    | 1, _, hv, fin =>
      cases hv
      refine ⟨f2, _, rfl, L2.ext xb, L2.ext xb, _, rfl, fun x dx nx ndx nex => ?_⟩
      obtain ⟨sm, om'⟩ := alloc (Cl := CW) nx ndx
      exact ⟨TR, x, dx, ow, wide52, bk52 n, "fine", "nobody", rfl, om', Zb.wd.keeps sm.keeps, hokW, (fun _ _ => trivial), (by decide +kernel), .inl ⟨nobody52 n (by omega), fun HA sA => ⟨cl 4, rfl, 4, "UnknownRule", by decide, r4, (fun dd e => nomatch e), rfl, fun HB sB => fin HB _ rfl ((sm.trans sA).trans sB)⟩⟩⟩
    | 2, _, hv, fin =>
      cases hv
      refine ⟨f3, _, rfl, L3.ext xb, L3.ext xb, _, rfl, fun x dx nx ndx nex => ?_⟩
      obtain ⟨sm, om'⟩ := alloc (Cl := CW) nx ndx
      exact ⟨TR, x, dx, ow, wide52, bk52 n, "fine", "a", rfl, om', Zb.wd.keeps sm.keeps, hokW, (fun _ _ => trivial), (by decide +kernel), .inr ⟨a52 n (by omega) hn1, .inl ⟨(by decide), fun HA sA => ⟨cl 3, rfl, 3, "TooMany", by decide, r3, (fun dd e => nomatch e), rfl, fun HB sB => fin HB _ rfl ((sm.trans sA).trans sB)⟩⟩⟩⟩
    | 3, _, hv, fin =>
      cases hv
      refine ⟨f4, _, rfl, L4.ext xb, L4.ext xb, _, rfl, fun x dx nx ndx nex => ?_⟩
      obtain ⟨sm, om'⟩ := alloc (Cl := OW) nx ndx
      exact ⟨TR, x, dx, om, ["late"], bk52 7, "fine", rfl, om', Zb.mo.keeps sm.keeps, .inl ⟨(by rw [bk52_nl 7 (by omega)]; decide), fun HA sA => ⟨cl 3, rfl, 3, "TooMany", by decide, r3, (fun dd e => nomatch e), rfl, fun HB sB => fin HB _ rfl ((sm.trans sA).trans sB)⟩⟩⟩
  rintro H31 ⟨x31, t31, e31⟩
  have e31 : H31 DR = some (.lst (due52a.map V.str)) := e31
  have Z := Z.ext x31 t31
  refine ⟨(by show 4 ≤ sizeLine; rw [sizeLine_eq]; decide), fun LE nLE => ?_⟩
  have s32 : Same H31 (upd H31 LE (.lst [.str "UnknownRule", .str "UnknownRule", .str "TooMany", .str "TooMany"])) := (Same.refl H31).put nLE
  have e32 : (upd H31 LE (.lst [.str "UnknownRule", .str "UnknownRule", .str "TooMany", .str "TooMany"])) LE = some (.lst (due52a.map V.str)) := upd_same
  generalize upd H31 LE (.lst [.str "UnknownRule", .str "UnknownRule", .str "TooMany", .str "TooMany"]) = H32 at s32 e32 ⊢
  have Z := Z.same s32
  refine ne_same52 (.lst (sqL_of (s32 _ _ e31)) (dp_strs52 _)) (.lst (sqL_of e32) (dp_strs52 _)) (by decide +kernel) (by decide +kernel) ⟨false, rfl, iteF ?_⟩
  clear e31 e32 s32 L1 L2 L3 L4 x31 t31 e3'
  -- both watchers
  refine ⟨_, rfl, fun x dx nx ndx nex => ?_⟩
  have sm : Same H32 (upd (upd H32 dx (.own x)) x (.ins CW dx [])) := ((Same.refl H32).put ndx).put nx
  have om' : (upd (upd H32 dx (.own x)) x (.ins CW dx [])) x = some (.ins CW dx []) := upd_same
  generalize upd (upd H32 dx (.own x)) x (.ins CW dx []) = H33 at sm om' ⊢
  have Z := Z.same sm
  obtain ⟨hz2, ffn, ffo⟩ := off52_size n (by omega)
  refine ⟨TR, x, dx, ob, lp52, bk52 n, "free", "a", rfl, om', Z.bk, hok, (fun _ _ => trivial), (by decide +kernel), .inr ⟨a52 n (by omega) hn1, .inr ⟨(by decide), lp_rt, ffn, ffo, fun H34 S x34 nS hW => ⟨rfl, ?_⟩⟩⟩⟩
  have Z := Z.sx x34 om' rfl
  refine ⟨_, rfl, fun y dy ny ndy ney => ?_⟩
  have sn : Same H34 (upd (upd H34 dy (.own y)) y (.ins OW dy [])) := ((Same.refl H34).put ndy).put ny
  have on' : (upd (upd H34 dy (.own y)) y (.ins OW dy [])) y = some (.ins OW dy []) := upd_same
  generalize upd (upd H34 dy (.own y)) y (.ins OW dy []) = H35 at sn on' ⊢
  have Z := Z.same sn
  have hW := hW.same sn
  have hnl := bk52_nl n (by omega)
  refine ⟨TR, y, dy, ob, lp52, bk52 n, "free", rfl, on', Z.bk, .inr ⟨by omega, fun H36 S2 x36 nS2 hO => ⟨rfl, ?_⟩⟩⟩
  have Z := Z.sx x36 on' rfl
  have hW := hW.sx x36 on'
  refine ⟨(by show 2 ≤ sizeLine; rw [sizeLine_eq]; decide), fun tp ntp => ?_⟩
  have s37 : Same H36 (upd H36 tp (.tup [.ref x, .ref y])) := (Same.refl H36).put ntp
  have e37 : (upd H36 tp (.tup [.ref x, .ref y])) tp = some (.tup [.ref x, .ref y]) := upd_same
  generalize upd H36 tp (.tup [.ref x, .ref y]) = H37 at s37 e37 ⊢
  have Z := Z.same s37
  have hW := hW.same s37
  have hO := hO.same s37
  refine ⟨tp, _, rfl, sqT_of e37, rfl, _, _, rfl, _, _, rfl, rfl, ?_⟩
  clear e37 s37 x36 x34 on' om' sn sm
  exact ⟨n, x, S, y, S2, ob, ow, om, oc, c0, od, io, _, _, _, _, _, _, _, _, _, _, _, rfl, ⟨hn1, hn5⟩, ⟨hol, hio⟩, ⟨Z, hW, hO⟩, q⟩
end
end Sc
namespace Sc
open PySem PySem.Spec PyProof.Rows L2
theorem four {K : PySem.W.Frag} {D : Value} (h1 : PySem.W.findIn K D "index" = some none) (h2 : PySem.W.findIn K D "part" = some none) (h3 : PySem.W.findIn K D "word" = some none) (h4 : PySem.W.findIn K D "fact" = some none) :
    ∀ n ∈ (["index", "part", "word", "fact"] : List Str), PySem.W.findIn K D n = some none := by
  intro n hn
  simp only [List.mem_cons, List.not_mem_nil, or_false] at hn
  rcases hn with rfl | rfl | rfl | rfl
  · exact h1
  · exact h2
  · exact h3
  · exact h4
theorem exm_by {K : PySem.W.Frag} {D C : Addr} (h1 : PySem.W.subIn K (.ref C) (.type "BaseException") = some true) (h2 : PySem.W.isClsIn K C = true) (h3 : PySem.W.typeIn K (.ref C) = some (.type "type")) (h4 : PySem.W.subIn K (.ref D) (.ref C) = some true) : PySem.W.exmOne K (.ref D) (.ref C) = some true := by
  have e1 : (PySem.W.subIn K (.ref C) (.type "BaseException") == some true) = true := by rw [h1] <;> rfl
  have e2 : ((PySem.W.clsIn K C).isSome && PySem.W.typeIn K (.ref C) == some (.type "type")) = true := by
    have h2' : (PySem.W.clsIn K C).isSome = true := h2
    rw [h2', h3] <;> rfl
  unfold PySem.W.exmOne PySem.W.kitCls
  rw [if_pos e1]
  dsimp only
  rw [if_pos e2]
  exact h4
theorem kit_by {K : PySem.W.Frag} {D C : Addr} {b : Bool} (h1 : PySem.W.subIn K (.ref D) (.ref D) = some true) (h2 : PySem.W.isClsIn K C = true) (h3 : PySem.W.typeIn K (.ref C) = some (.type "type")) (h4 : PySem.W.subIn K (.ref D) (.ref C) = some b) : PySem.W.kitOne K (.ref D) (.ref C) = some b := by
  have e2 : ((PySem.W.clsIn K C).isSome && PySem.W.typeIn K (.ref C) == some (.type "type")) = true := by
    have h2' : (PySem.W.clsIn K C).isSome = true := h2
    rw [h2', h3] <;> rfl
  unfold PySem.W.kitOne
  split
  · rename_i e
    have e := eq_of_beq e
    cases e
    exact h1.symm.trans h4
  · unfold PySem.W.kitCls
    dsimp only
    rw [if_pos e2]
    exact h4
theorem kit_ve {K : PySem.W.Frag} {D : Addr} (h : PySem.W.subIn K (.ref D) (.type "ValueError") = some true) : PySem.W.kitOne K (.ref D) (.type "ValueError") = some true := by
  unfold PySem.W.kitOne PySem.W.kitCls
  rw [if_neg (by intro z; cases eq_of_beq z)]
  dsimp only
  rw [if_pos (by decide +kernel)]
  exact h
theorem codeHd_by {K : PySem.W.Frag} {c T : Addr} {o : Obj} (lk : K.lookup c = some o) (h : PySem.W.codeHdIn [(c, o)] c T = true) : PySem.W.codeHdIn K c T = true := by
  unfold PySem.W.codeHdIn at h ⊢
  rw [lk]
  have e : ([(c, o)] : PySem.W.Frag).lookup c = some o := by simp [List.lookup]
  rw [e] at h
  exact h
theorem lookup_no {K : PySem.W.Frag} {a : Addr} (h : (K.map (·.1)).contains a = false) : K.lookup a = none := by
  induction K with
  | nil => rfl
  | cons p r ih =>
    rw [List.map_cons, List.contains_cons, Bool.or_eq_false_iff] at h
    obtain ⟨x, o⟩ := p
    rw [List.lookup_cons, h.1]
    exact ih h.2
theorem sup_by {K : PySem.W.Frag} {C CE : Addr} {z : Value} {nm q nm2 q2 : Str} {N N2 : Addr} {bs bm su bs2 bm2 su2 : List Value} {sn sn2 : List Str} {ab ab2 : Bool} {col col2 : Option Bool} {dd dd2 : Option Addr} {x0 x1 x2 x3 x5 y0 y1 y2 y3 y5 : Option Value}
    (xC : K.lookup C = some (excClassObj nm q C N bs bm true sn su ab col dd x0 x1 x2 x3 x5 "ValueError.__new__")) (xE : K.lookup CE = some (excClassObj nm2 q2 CE N2 bs2 bm2 true sn2 su2 ab2 col2 dd2 y0 y1 y2 y3 y5 "ValueError.__new__"))
    (e : bm = .ref CE :: bm2) (f : PySem.W.findIn K (.ref CE) "__init__" = some (some z)) : PySem.W.ks_superIn K C C "__init__" = some (some z) := by
  subst e
  unfold PySem.W.ks_superIn PySem.W.clsIn
  unfold PySem.W.findIn at f
  dsimp only at f
  rw [xC]
  rw [xE] at f
  simp only [excClassObj] at f ⊢
  simp
  exact f
/-- a def that calls itself: depth by depth -/
theorem rec_all {P : Program} {w : World} {K : PySem.W.Frag} {mg : Str → Option Value} {base : Heap} {S : Nat → Sp} {k : Nat} {x : Str} {f : Addr} {fd : FuncData} {ps : List Str} (step : ∀ d, Cal P w K mg base CX0 (d + k) x ps (Below S d) → FnOk P w K mg base CX0 (d + k + 1) f fd ps (S d))
    (hm : mg x = some (.ref f)) (kp : PySem.W.keepIn K (.ref f) = true) (b : Binds K fd ps []) : ∀ d, FnOk P w K mg base CX0 (d + k + 1) f fd ps (S d)
  | 0 => step 0 ⟨_, _, FnOk.never, hm, kp, b⟩
  | d + 1 => step (d + 1) ⟨_, _, (by have h := rec_all step hm kp b d; rw [show d + k + 1 = d + 1 + k by omega] at h; exact h), hm, kp, b⟩
theorem kit_tyC {K : PySem.W.Frag} {a : String} {C : Addr} {b : Bool} (h2 : PySem.W.isClsIn K C = true) (h3 : PySem.W.typeIn K (.ref C) = some (.type "type")) (h4 : PySem.W.subIn K (.type a) (.ref C) = some b) : PySem.W.kitOne K (.type a) (.ref C) = some b := by
  have e2 : ((PySem.W.clsIn K C).isSome && PySem.W.typeIn K (.ref C) == some (.type "type")) = true := by
    have h2' : (PySem.W.clsIn K C).isSome = true := h2
    rw [h2', h3] <;> rfl
  unfold PySem.W.kitOne PySem.W.kitCls
  rw [if_neg (by intro z; cases eq_of_beq z)]
  dsimp only
  rw [if_pos e2]
  exact h4
theorem kit_refT {K : PySem.W.Frag} {D : Addr} {b : Bool} {T : String} (m : PySem.W.kitMeta T = true) (h : PySem.W.subIn K (.ref D) (.type T) = some b) : PySem.W.kitOne K (.ref D) (.type T) = some b := by
  unfold PySem.W.kitOne PySem.W.kitCls
  rw [if_neg (by intro z; cases eq_of_beq z)]
  dsimp only
  rw [if_pos m]
  exact h
theorem all_mk {Tb0 : Addr} {l : PySem.W.OpenLaw} {P : Program} {w : World} {K : PySem.W.Frag} {h : Heap} {mg : Str → Option Value} {fa : Addr} (eP : l.prog = P) (X : K.In h) (G : h.Ns mainGlobals mg) (hfa : mg "law" = some (.ref fa))
    {f_is_name : Addr} {oc_is_name kV_is_name dc_is_name pm_is_name cd_is_name ct_is_name : Value} {od_is_name an_is_name : Option Addr} {sl_is_name : Array (Option Value)}
    {f_check_word : Addr} {oc_check_word kV_check_word dc_check_word pm_check_word cd_check_word ct_check_word : Value} {od_check_word an_check_word : Option Addr} {sl_check_word : Array (Option Value)}
    {f_rises : Addr} {oc_rises kV_rises dc_rises pm_rises cd_rises ct_rises : Value} {od_rises an_rises : Option Addr} {sl_rises : Array (Option Value)}
    {f_check_facts : Addr} {oc_check_facts kV_check_facts dc_check_facts pm_check_facts cd_check_facts ct_check_facts : Value} {od_check_facts an_check_facts : Option Addr} {sl_check_facts : Array (Option Value)}
    {f_check_case : Addr} {oc_check_case kV_check_case dc_check_case pm_check_case cd_check_case ct_check_case : Value} {od_check_case an_check_case : Option Addr} {sl_check_case : Array (Option Value)}
    {f_steps : Addr} {oc_steps kV_steps dc_steps pm_steps cd_steps ct_steps : Value} {od_steps an_steps : Option Addr} {sl_steps : Array (Option Value)}
    {f_up_to_first_met : Addr} {oc_up_to_first_met kV_up_to_first_met dc_up_to_first_met pm_up_to_first_met cd_up_to_first_met ct_up_to_first_met : Value} {od_up_to_first_met an_up_to_first_met : Option Addr} {sl_up_to_first_met : Array (Option Value)}
    {f_looked_into : Addr} {oc_looked_into kV_looked_into dc_looked_into pm_looked_into cd_looked_into ct_looked_into : Value} {od_looked_into an_looked_into : Option Addr} {sl_looked_into : Array (Option Value)}
    {f_nested : Addr} {oc_nested kV_nested dc_nested pm_nested cd_nested ct_nested : Value} {od_nested an_nested : Option Addr} {sl_nested : Array (Option Value)}
    {f_check_rules : Addr} {oc_check_rules kV_check_rules dc_check_rules pm_check_rules cd_check_rules ct_check_rules : Value} {od_check_rules an_check_rules : Option Addr} {sl_check_rules : Array (Option Value)}
    {f_replaced : Addr} {oc_replaced kV_replaced dc_replaced pm_replaced cd_replaced ct_replaced : Value} {od_replaced an_replaced : Option Addr} {sl_replaced : Array (Option Value)}
    {f_path_to : Addr} {oc_path_to kV_path_to dc_path_to pm_path_to cd_path_to ct_path_to : Value} {od_path_to an_path_to : Option Addr} {sl_path_to : Array (Option Value)}
    {f_next_beside : Addr} {oc_next_beside kV_next_beside dc_next_beside pm_next_beside cd_next_beside ct_next_beside : Value} {od_next_beside an_next_beside : Option Addr} {sl_next_beside : Array (Option Value)}
    {f_swapped : Addr} {oc_swapped kV_swapped dc_swapped pm_swapped cd_swapped ct_swapped : Value} {od_swapped an_swapped : Option Addr} {sl_swapped : Array (Option Value)}
    {f_check_part : Addr} {oc_check_part kV_check_part dc_check_part pm_check_part cd_check_part ct_check_part : Value} {od_check_part an_check_part : Option Addr} {sl_check_part : Array (Option Value)}
    {f_merged : Addr} {oc_merged kV_merged dc_merged pm_merged cd_merged ct_merged : Value} {od_merged an_merged : Option Addr} {sl_merged : Array (Option Value)}
    {f_amended : Addr} {oc_amended kV_amended dc_amended pm_amended cd_amended ct_amended : Value} {od_amended an_amended : Option Addr} {sl_amended : Array (Option Value)}
    {f_amended_book : Addr} {oc_amended_book kV_amended_book dc_amended_book pm_amended_book cd_amended_book ct_amended_book : Value} {od_amended_book an_amended_book : Option Addr} {sl_amended_book : Array (Option Value)}
    {f_amended_rule : Addr} {oc_amended_rule kV_amended_rule dc_amended_rule pm_amended_rule cd_amended_rule ct_amended_rule : Value} {od_amended_rule an_amended_rule : Option Addr} {sl_amended_rule : Array (Option Value)}
    {f_is_amendment : Addr} {oc_is_amendment kV_is_amendment dc_is_amendment pm_is_amendment cd_is_amendment ct_is_amendment : Value} {od_is_amendment an_is_amendment : Option Addr} {sl_is_amendment : Array (Option Value)}
    {f_is_new : Addr} {oc_is_new kV_is_new dc_is_new pm_is_new cd_is_new ct_is_new : Value} {od_is_new an_is_new : Option Addr} {sl_is_new : Array (Option Value)}
    {f_decider : Addr} {oc_decider kV_decider dc_decider pm_decider cd_decider ct_decider : Value} {od_decider an_decider : Option Addr} {sl_decider : Array (Option Value)}
    {f_outcome : Addr} {oc_outcome kV_outcome dc_outcome pm_outcome cd_outcome ct_outcome : Value} {od_outcome an_outcome : Option Addr} {sl_outcome : Array (Option Value)}
    {f_way : Addr} {oc_way kV_way dc_way pm_way cd_way ct_way : Value} {od_way an_way : Option Addr} {sl_way : Array (Option Value)}
    {f_small_conditions : Addr} {oc_small_conditions kV_small_conditions dc_small_conditions pm_small_conditions cd_small_conditions ct_small_conditions : Value} {od_small_conditions an_small_conditions : Option Addr} {sl_small_conditions : Array (Option Value)}
    {f_orders_of : Addr} {oc_orders_of kV_orders_of dc_orders_of pm_orders_of cd_orders_of ct_orders_of : Value} {od_orders_of an_orders_of : Option Addr} {sl_orders_of : Array (Option Value)}
    {f_check_left : Addr} {oc_check_left kV_check_left dc_check_left pm_check_left cd_check_left ct_check_left : Value} {od_check_left an_check_left : Option Addr} {sl_check_left : Array (Option Value)}
    {f__law_mix : Addr} {oc__law_mix kV__law_mix dc__law_mix pm__law_mix cd__law_mix ct__law_mix : Value} {od__law_mix an__law_mix : Option Addr} {sl__law_mix : Array (Option Value)}
    {f__law_next : Addr} {oc__law_next kV__law_next dc__law_next pm__law_next cd__law_next ct__law_next : Value} {od__law_next an__law_next : Option Addr} {sl__law_next : Array (Option Value)}
    {f__law_word : Addr} {oc__law_word kV__law_word dc__law_word pm__law_word cd__law_word ct__law_word : Value} {od__law_word an__law_word : Option Addr} {sl__law_word : Array (Option Value)}
    {f_law : Addr} {oc_law kV_law dc_law pm_law ct_law : Value} {od_law an_law : Option Addr} {sl_law : Array (Option Value)}
    {f_mi : Addr} {oc_mi kV_mi dc_mi pm_mi cd_mi ct_mi : Value} {od_mi an_mi : Option Addr} {sl_mi : Array (Option Value)}
    {f_mh : Addr} {oc_mh kV_mh dc_mh pm_mh cd_mh ct_mh : Value} {od_mh an_mh : Option Addr} {sl_mh : Array (Option Value)}
    {f_mf : Addr} {oc_mf kV_mf dc_mf pm_mf cd_mf ct_mf : Value} {od_mf an_mf : Option Addr} {sl_mf : Array (Option Value)}
    {f_mn : Addr} {oc_mn kV_mn dc_mn pm_mn cd_mn ct_mn : Value} {od_mn an_mn : Option Addr} {sl_mn : Array (Option Value)}
    {f_ri : Addr} {oc_ri kV_ri dc_ri pm_ri cd_ri ct_ri : Value} {od_ri an_ri : Option Addr} {sl_ri : Array (Option Value)}
    {f_rn : Addr} {oc_rn kV_rn dc_rn pm_rn cd_rn ct_rn : Value} {od_rn an_rn : Option Addr} {sl_rn : Array (Option Value)}
    {f_rc : Addr} {oc_rc kV_rc dc_rc pm_rc cd_rc ct_rc : Value} {od_rc an_rc : Option Addr} {sl_rc : Array (Option Value)}
    {f_rr : Addr} {oc_rr kV_rr dc_rr pm_rr cd_rr ct_rr : Value} {od_rr an_rr : Option Addr} {sl_rr : Array (Option Value)}
    {f_re : Addr} {oc_re kV_re dc_re pm_re cd_re ct_re : Value} {od_re an_re : Option Addr} {sl_re : Array (Option Value)}
    {f_rd : Addr} {oc_rd kV_rd dc_rd pm_rd cd_rd ct_rd : Value} {od_rd an_rd : Option Addr} {sl_rd : Array (Option Value)}
    {f_bi : Addr} {oc_bi kV_bi dc_bi pm_bi cd_bi ct_bi : Value} {od_bi an_bi : Option Addr} {sl_bi : Array (Option Value)}
    {f_bf : Addr} {oc_bf kV_bf dc_bf pm_bf cd_bf ct_bf : Value} {od_bf an_bf : Option Addr} {sl_bf : Array (Option Value)}
    {f_bs : Addr} {oc_bs kV_bs dc_bs pm_bs cd_bs ct_bs : Value} {od_bs an_bs : Option Addr} {sl_bs : Array (Option Value)}
    {f_br : Addr} {oc_br kV_br dc_br pm_br cd_br ct_br : Value} {od_br an_br : Option Addr} {sl_br : Array (Option Value)}
    {f_wi : Addr} {oc_wi kV_wi dc_wi pm_wi cd_wi ct_wi : Value} {od_wi an_wi : Option Addr} {sl_wi : Array (Option Value)}
    {f_wc : Addr} {oc_wc kV_wc dc_wc pm_wc cd_wc ct_wc : Value} {od_wc an_wc : Option Addr} {sl_wc : Array (Option Value)}
    {f_wr : Addr} {oc_wr kV_wr dc_wr pm_wr cd_wr ct_wr : Value} {od_wr an_wr : Option Addr} {sl_wr : Array (Option Value)}
    {f_oi : Addr} {oc_oi kV_oi dc_oi pm_oi cd_oi ct_oi : Value} {od_oi an_oi : Option Addr} {sl_oi : Array (Option Value)}
    {f_oc : Addr} {oc_oc kV_oc dc_oc pm_oc cd_oc ct_oc : Value} {od_oc an_oc : Option Addr} {sl_oc : Array (Option Value)}
    {f_or : Addr} {oc_or kV_or dc_or pm_or cd_or ct_or : Value} {od_or an_or : Option Addr} {sl_or : Array (Option Value)}
    {f_gc : Addr} {oc_gc kV_gc dc_gc pm_gc cd_gc ct_gc : Value} {od_gc an_gc : Option Addr} {sl_gc : Array (Option Value)}
    {f_gi : Addr} {oc_gi kV_gi dc_gi pm_gi cd_gi ct_gi : Value} {od_gi an_gi : Option Addr} {sl_gi : Array (Option Value)}
    {f_gs : Addr} {oc_gs kV_gs dc_gs pm_gs cd_gs ct_gs : Value} {od_gs an_gs : Option Addr} {sl_gs : Array (Option Value)}
    {f_bc : Addr} {oc_bc kV_bc dc_bc pm_bc cd_bc ct_bc : Value} {od_bc an_bc : Option Addr} {sl_bc : Array (Option Value)}
    {f_mc : Addr} {oc_mc kV_mc dc_mc pm_mc cd_mc ct_mc : Value} {od_mc an_mc : Option Addr} {sl_mc : Array (Option Value)}
    {f_wq : Addr} {oc_wq kV_wq dc_wq pm_wq cd_wq ct_wq : Value} {od_wq an_wq : Option Addr} {sl_wq : Array (Option Value)}
    {f_wa : Addr} {oc_wa kV_wa dc_wa pm_wa cd_wa ct_wa : Value} {od_wa an_wa : Option Addr} {sl_wa : Array (Option Value)}
    {f_ws : Addr} {oc_ws kV_ws dc_ws pm_ws cd_ws ct_ws : Value} {od_ws an_ws : Option Addr} {sl_ws : Array (Option Value)}
    {f_wd : Addr} {oc_wd kV_wd dc_wd pm_wd cd_wd ct_wd : Value} {od_wd an_wd : Option Addr} {sl_wd : Array (Option Value)}
    {f_wp : Addr} {oc_wp kV_wp dc_wp pm_wp cd_wp ct_wp : Value} {od_wp an_wp : Option Addr} {sl_wp : Array (Option Value)}
    {f_os : Addr} {oc_os kV_os dc_os pm_os cd_os ct_os : Value} {od_os an_os : Option Addr} {sl_os : Array (Option Value)}
    {f_ou : Addr} {oc_ou kV_ou dc_ou pm_ou cd_ou ct_ou : Value} {od_ou an_ou : Option Addr} {sl_ou : Array (Option Value)}
    {CO : Addr}
    {pp_mh : Addr} {rs_mh : List Value}
    {pp_mf : Addr} {rs_mf : List Value}
    {pp_mn : Addr} {rs_mn : List Value}
    {RO : Addr}
    {pp_rn : Addr} {rs_rn : List Value}
    {pp_rc : Addr} {rs_rc : List Value}
    {pp_rr : Addr} {rs_rr : List Value}
    {pp_re : Addr} {rs_re : List Value}
    {pp_rd : Addr} {rs_rd : List Value}
    {BO : Addr}
    {pp_bf : Addr} {rs_bf : List Value}
    {pp_bs : Addr} {rs_bs : List Value}
    {pp_br : Addr} {rs_br : List Value}
    {CW : Addr}
    {pp_wc : Addr} {rs_wc : List Value}
    {pp_wr : Addr} {rs_wr : List Value}
    {OW : Addr}
    {pp_oc : Addr} {rs_oc : List Value}
    {pp_or : Addr} {rs_or : List Value}
    {fo_s : Option Value}
    {fo_r : Option Value}
    {w1A : Addr}
    {odW1 : Option Addr} {nW1 : Nat} {slW1 : Array (Option Value)} {uW10 uW11 : Tok}
    {w2A : Addr}
    {odW2 : Option Addr} {nW2 : Nat} {slW2 : Array (Option Value)} {uW20 uW21 uW22 uW23 : Tok}
    {w3A : Addr}
    {odW3 : Option Addr} {nW3 : Nat} {slW3 : Array (Option Value)} {uW30 uW31 : Tok}
    {cc_law : Addr} {ocl : Obj}
    {t_LETTERS : Tok}
    {t_LONGEST_NAME : Tok}
    {t_MOST_FACTS_facts : Tok}
    {t_MOST_NAMES : Tok}
    {t_MOST_AROUND : Tok}
    {t_MOST_RULES : Tok}
    {t_MOST_OUTERMOST : Tok}
    {t_MOST_ORDERED : Tok}
    {t_MOST_FACTS_watchers : Tok}
    {CE : Addr}
    {E0 : Addr}
    {E1 : Addr}
    {E2 : Addr}
    {E3 : Addr}
    {E4 : Addr}
    {E5 : Addr}
    {E6 : Addr}
    {E7 : Addr}
    {E8 : Addr}
    {E9 : Addr}
    {E10 : Addr}
    {nmE qE : Str} {NE : Addr} {bsE bmE suE : List Value} {snE : List Str} {abE : Bool} {colE : Option Bool} {ddE : Option Addr} {x0E x1E x2E x3E x5E : Option Value}
    {nmi1 qi1 : Str} {Ni1 : Addr} {bsi1 bmi1 sui1 : List Value} {sni1 : List Str} {abi1 : Bool} {coli1 : Option Bool} {ddi1 odii1 anii1 ccddi1 cddi1 : Option Addr} {x0i1 x1i1 x2i1 x3i1 x5i1 : Option Value} {fIi1 celi1 codi1 : Addr} {ocii1 kVii1 dcii1 pmii1 ctii1 clci1 ccli1 : Value} {slii1 csli1 ccsi1 : Array (Option Value)} {vsi1 : Array Value} {fili1 : Str} {tfii1 : Tok}
    {nmi7 qi7 : Str} {Ni7 : Addr} {bsi7 bmi7 sui7 : List Value} {sni7 : List Str} {abi7 : Bool} {coli7 : Option Bool} {ddi7 odii7 anii7 ccddi7 cddi7 : Option Addr} {x0i7 x1i7 x2i7 x3i7 x5i7 : Option Value} {fIi7 celi7 codi7 : Addr} {ocii7 kVii7 dcii7 pmii7 ctii7 clci7 ccli7 : Value} {slii7 csli7 ccsi7 : Array (Option Value)} {vsi7 : Array Value} {fili7 : Str} {tfii7 : Tok}
    {nmi8 qi8 : Str} {Ni8 : Addr} {bsi8 bmi8 sui8 : List Value} {sni8 : List Str} {abi8 : Bool} {coli8 : Option Bool} {ddi8 odii8 anii8 ccddi8 cddi8 : Option Addr} {x0i8 x1i8 x2i8 x3i8 x5i8 : Option Value} {fIi8 celi8 codi8 : Addr} {ocii8 kVii8 dcii8 pmii8 ctii8 clci8 ccli8 : Value} {slii8 csli8 ccsi8 : Array (Option Value)} {vsi8 : Array Value} {fili8 : Str} {tfii8 : Tok}
    {nmi9 qi9 : Str} {Ni9 : Addr} {bsi9 bmi9 sui9 : List Value} {sni9 : List Str} {abi9 : Bool} {coli9 : Option Bool} {ddi9 odii9 anii9 ccddi9 cddi9 : Option Addr} {x0i9 x1i9 x2i9 x3i9 x5i9 : Option Value} {fIi9 celi9 codi9 : Addr} {ocii9 kVii9 dcii9 pmii9 ctii9 clci9 ccli9 : Value} {slii9 csli9 ccsi9 : Array (Option Value)} {vsi9 : Array Value} {fili9 : Str} {tfii9 : Tok}
    {nmi10 qi10 : Str} {Ni10 : Addr} {bsi10 bmi10 sui10 : List Value} {sni10 : List Str} {abi10 : Bool} {coli10 : Option Bool} {ddi10 odii10 anii10 ccddi10 cddi10 : Option Addr} {x0i10 x1i10 x2i10 x3i10 x5i10 : Option Value} {fIi10 celi10 codi10 : Addr} {ocii10 kVii10 dcii10 pmii10 ctii10 clci10 ccli10 : Value} {slii10 csli10 ccsi10 : Array (Option Value)} {vsi10 : Array Value} {fili10 : Str} {tfii10 : Tok}
    (a_is_name : PySem.W.nsIn K mainGlobals "is_name" = some (some (.ref f_is_name)))
    (l_is_name : K.lookup f_is_name = some ⟨oc_is_name, od_is_name, .func (PySem.W.fnOf "is_name" "is_name" (defArgs s_is_name) (defBody s_is_name) (defScope s_is_name) .none kV_is_name dc_is_name pm_is_name an_is_name cd_is_name ct_is_name), sl_is_name⟩)
    (c_is_name : PySem.W.codeIn K cd_is_name "is_name" = true)
    (k_is_name : PySem.W.keepIn K (.ref f_is_name) = true)
    (a_check_word : PySem.W.nsIn K mainGlobals "check_word" = some (some (.ref f_check_word)))
    (l_check_word : K.lookup f_check_word = some ⟨oc_check_word, od_check_word, .func (PySem.W.fnOf "check_word" "check_word" (defArgs s_check_word) (defBody s_check_word) (defScope s_check_word) .none kV_check_word dc_check_word pm_check_word an_check_word cd_check_word ct_check_word), sl_check_word⟩)
    (c_check_word : PySem.W.codeIn K cd_check_word "check_word" = true)
    (k_check_word : PySem.W.keepIn K (.ref f_check_word) = true)
    (a_rises : PySem.W.nsIn K mainGlobals "rises" = some (some (.ref f_rises)))
    (l_rises : K.lookup f_rises = some ⟨oc_rises, od_rises, .func (PySem.W.fnOf "rises" "rises" (defArgs s_rises) (defBody s_rises) (defScope s_rises) .none kV_rises dc_rises pm_rises an_rises cd_rises ct_rises), sl_rises⟩)
    (c_rises : PySem.W.codeIn K cd_rises "rises" = true)
    (k_rises : PySem.W.keepIn K (.ref f_rises) = true)
    (a_check_facts : PySem.W.nsIn K mainGlobals "check_facts" = some (some (.ref f_check_facts)))
    (l_check_facts : K.lookup f_check_facts = some ⟨oc_check_facts, od_check_facts, .func (PySem.W.fnOf "check_facts" "check_facts" (defArgs s_check_facts) (defBody s_check_facts) (defScope s_check_facts) .none kV_check_facts dc_check_facts pm_check_facts an_check_facts cd_check_facts ct_check_facts), sl_check_facts⟩)
    (c_check_facts : PySem.W.codeIn K cd_check_facts "check_facts" = true)
    (k_check_facts : PySem.W.keepIn K (.ref f_check_facts) = true)
    (a_check_case : PySem.W.nsIn K mainGlobals "check_case" = some (some (.ref f_check_case)))
    (l_check_case : K.lookup f_check_case = some ⟨oc_check_case, od_check_case, .func (PySem.W.fnOf "check_case" "check_case" (defArgs s_check_case) (defBody s_check_case) (defScope s_check_case) .none kV_check_case dc_check_case pm_check_case an_check_case cd_check_case ct_check_case), sl_check_case⟩)
    (c_check_case : PySem.W.codeIn K cd_check_case "check_case" = true)
    (k_check_case : PySem.W.keepIn K (.ref f_check_case) = true)
    (a_steps : PySem.W.nsIn K mainGlobals "steps" = some (some (.ref f_steps)))
    (l_steps : K.lookup f_steps = some ⟨oc_steps, od_steps, .func (PySem.W.fnOf "steps" "steps" (defArgs s_steps) (defBody s_steps) (defScope s_steps) .none kV_steps dc_steps pm_steps an_steps cd_steps ct_steps), sl_steps⟩)
    (c_steps : PySem.W.codeIn K cd_steps "steps" = true)
    (k_steps : PySem.W.keepIn K (.ref f_steps) = true)
    (a_up_to_first_met : PySem.W.nsIn K mainGlobals "up_to_first_met" = some (some (.ref f_up_to_first_met)))
    (l_up_to_first_met : K.lookup f_up_to_first_met = some ⟨oc_up_to_first_met, od_up_to_first_met, .func (PySem.W.fnOf "up_to_first_met" "up_to_first_met" (defArgs s_up_to_first_met) (defBody s_up_to_first_met) (defScope s_up_to_first_met) .none kV_up_to_first_met dc_up_to_first_met pm_up_to_first_met an_up_to_first_met cd_up_to_first_met ct_up_to_first_met), sl_up_to_first_met⟩)
    (c_up_to_first_met : PySem.W.codeIn K cd_up_to_first_met "up_to_first_met" = true)
    (k_up_to_first_met : PySem.W.keepIn K (.ref f_up_to_first_met) = true)
    (a_looked_into : PySem.W.nsIn K mainGlobals "looked_into" = some (some (.ref f_looked_into)))
    (l_looked_into : K.lookup f_looked_into = some ⟨oc_looked_into, od_looked_into, .func (PySem.W.fnOf "looked_into" "looked_into" (defArgs s_looked_into) (defBody s_looked_into) (defScope s_looked_into) .none kV_looked_into dc_looked_into pm_looked_into an_looked_into cd_looked_into ct_looked_into), sl_looked_into⟩)
    (c_looked_into : PySem.W.codeIn K cd_looked_into "looked_into" = true)
    (k_looked_into : PySem.W.keepIn K (.ref f_looked_into) = true)
    (a_nested : PySem.W.nsIn K mainGlobals "nested" = some (some (.ref f_nested)))
    (l_nested : K.lookup f_nested = some ⟨oc_nested, od_nested, .func (PySem.W.fnOf "nested" "nested" (defArgs s_nested) (defBody s_nested) (defScope s_nested) .none kV_nested dc_nested pm_nested an_nested cd_nested ct_nested), sl_nested⟩)
    (c_nested : PySem.W.codeIn K cd_nested "nested" = true)
    (k_nested : PySem.W.keepIn K (.ref f_nested) = true)
    (a_check_rules : PySem.W.nsIn K mainGlobals "check_rules" = some (some (.ref f_check_rules)))
    (l_check_rules : K.lookup f_check_rules = some ⟨oc_check_rules, od_check_rules, .func (PySem.W.fnOf "check_rules" "check_rules" (defArgs s_check_rules) (defBody s_check_rules) (defScope s_check_rules) .none kV_check_rules dc_check_rules pm_check_rules an_check_rules cd_check_rules ct_check_rules), sl_check_rules⟩)
    (c_check_rules : PySem.W.codeIn K cd_check_rules "check_rules" = true)
    (k_check_rules : PySem.W.keepIn K (.ref f_check_rules) = true)
    (a_replaced : PySem.W.nsIn K mainGlobals "replaced" = some (some (.ref f_replaced)))
    (l_replaced : K.lookup f_replaced = some ⟨oc_replaced, od_replaced, .func (PySem.W.fnOf "replaced" "replaced" (defArgs s_replaced) (defBody s_replaced) (defScope s_replaced) .none kV_replaced dc_replaced pm_replaced an_replaced cd_replaced ct_replaced), sl_replaced⟩)
    (c_replaced : PySem.W.codeIn K cd_replaced "replaced" = true)
    (k_replaced : PySem.W.keepIn K (.ref f_replaced) = true)
    (a_path_to : PySem.W.nsIn K mainGlobals "path_to" = some (some (.ref f_path_to)))
    (l_path_to : K.lookup f_path_to = some ⟨oc_path_to, od_path_to, .func (PySem.W.fnOf "path_to" "path_to" (defArgs s_path_to) (defBody s_path_to) (defScope s_path_to) .none kV_path_to dc_path_to pm_path_to an_path_to cd_path_to ct_path_to), sl_path_to⟩)
    (c_path_to : PySem.W.codeIn K cd_path_to "path_to" = true)
    (k_path_to : PySem.W.keepIn K (.ref f_path_to) = true)
    (a_next_beside : PySem.W.nsIn K mainGlobals "next_beside" = some (some (.ref f_next_beside)))
    (l_next_beside : K.lookup f_next_beside = some ⟨oc_next_beside, od_next_beside, .func (PySem.W.fnOf "next_beside" "next_beside" (defArgs s_next_beside) (defBody s_next_beside) (defScope s_next_beside) .none kV_next_beside dc_next_beside pm_next_beside an_next_beside cd_next_beside ct_next_beside), sl_next_beside⟩)
    (c_next_beside : PySem.W.codeIn K cd_next_beside "next_beside" = true)
    (k_next_beside : PySem.W.keepIn K (.ref f_next_beside) = true)
    (a_swapped : PySem.W.nsIn K mainGlobals "swapped" = some (some (.ref f_swapped)))
    (l_swapped : K.lookup f_swapped = some ⟨oc_swapped, od_swapped, .func (PySem.W.fnOf "swapped" "swapped" (defArgs s_swapped) (defBody s_swapped) (defScope s_swapped) .none kV_swapped dc_swapped pm_swapped an_swapped cd_swapped ct_swapped), sl_swapped⟩)
    (c_swapped : PySem.W.codeIn K cd_swapped "swapped" = true)
    (k_swapped : PySem.W.keepIn K (.ref f_swapped) = true)
    (a_check_part : PySem.W.nsIn K mainGlobals "check_part" = some (some (.ref f_check_part)))
    (l_check_part : K.lookup f_check_part = some ⟨oc_check_part, od_check_part, .func (PySem.W.fnOf "check_part" "check_part" (defArgs s_check_part) (defBody s_check_part) (defScope s_check_part) .none kV_check_part dc_check_part pm_check_part an_check_part cd_check_part ct_check_part), sl_check_part⟩)
    (c_check_part : PySem.W.codeIn K cd_check_part "check_part" = true)
    (k_check_part : PySem.W.keepIn K (.ref f_check_part) = true)
    (a_merged : PySem.W.nsIn K mainGlobals "merged" = some (some (.ref f_merged)))
    (l_merged : K.lookup f_merged = some ⟨oc_merged, od_merged, .func (PySem.W.fnOf "merged" "merged" (defArgs s_merged) (defBody s_merged) (defScope s_merged) .none kV_merged dc_merged pm_merged an_merged cd_merged ct_merged), sl_merged⟩)
    (c_merged : PySem.W.codeIn K cd_merged "merged" = true)
    (k_merged : PySem.W.keepIn K (.ref f_merged) = true)
    (a_amended : PySem.W.nsIn K mainGlobals "amended" = some (some (.ref f_amended)))
    (l_amended : K.lookup f_amended = some ⟨oc_amended, od_amended, .func (PySem.W.fnOf "amended" "amended" (defArgs s_amended) (defBody s_amended) (defScope s_amended) .none kV_amended dc_amended pm_amended an_amended cd_amended ct_amended), sl_amended⟩)
    (c_amended : PySem.W.codeIn K cd_amended "amended" = true)
    (k_amended : PySem.W.keepIn K (.ref f_amended) = true)
    (a_amended_book : PySem.W.nsIn K mainGlobals "amended_book" = some (some (.ref f_amended_book)))
    (l_amended_book : K.lookup f_amended_book = some ⟨oc_amended_book, od_amended_book, .func (PySem.W.fnOf "amended_book" "amended_book" (defArgs s_amended_book) (defBody s_amended_book) (defScope s_amended_book) .none kV_amended_book dc_amended_book pm_amended_book an_amended_book cd_amended_book ct_amended_book), sl_amended_book⟩)
    (c_amended_book : PySem.W.codeIn K cd_amended_book "amended_book" = true)
    (k_amended_book : PySem.W.keepIn K (.ref f_amended_book) = true)
    (a_amended_rule : PySem.W.nsIn K mainGlobals "amended_rule" = some (some (.ref f_amended_rule)))
    (l_amended_rule : K.lookup f_amended_rule = some ⟨oc_amended_rule, od_amended_rule, .func (PySem.W.fnOf "amended_rule" "amended_rule" (defArgs s_amended_rule) (defBody s_amended_rule) (defScope s_amended_rule) .none kV_amended_rule dc_amended_rule pm_amended_rule an_amended_rule cd_amended_rule ct_amended_rule), sl_amended_rule⟩)
    (c_amended_rule : PySem.W.codeIn K cd_amended_rule "amended_rule" = true)
    (k_amended_rule : PySem.W.keepIn K (.ref f_amended_rule) = true)
    (a_is_amendment : PySem.W.nsIn K mainGlobals "is_amendment" = some (some (.ref f_is_amendment)))
    (l_is_amendment : K.lookup f_is_amendment = some ⟨oc_is_amendment, od_is_amendment, .func (PySem.W.fnOf "is_amendment" "is_amendment" (defArgs s_is_amendment) (defBody s_is_amendment) (defScope s_is_amendment) .none kV_is_amendment dc_is_amendment pm_is_amendment an_is_amendment cd_is_amendment ct_is_amendment), sl_is_amendment⟩)
    (c_is_amendment : PySem.W.codeIn K cd_is_amendment "is_amendment" = true)
    (k_is_amendment : PySem.W.keepIn K (.ref f_is_amendment) = true)
    (a_is_new : PySem.W.nsIn K mainGlobals "is_new" = some (some (.ref f_is_new)))
    (l_is_new : K.lookup f_is_new = some ⟨oc_is_new, od_is_new, .func (PySem.W.fnOf "is_new" "is_new" (defArgs s_is_new) (defBody s_is_new) (defScope s_is_new) .none kV_is_new dc_is_new pm_is_new an_is_new cd_is_new ct_is_new), sl_is_new⟩)
    (c_is_new : PySem.W.codeIn K cd_is_new "is_new" = true)
    (k_is_new : PySem.W.keepIn K (.ref f_is_new) = true)
    (a_decider : PySem.W.nsIn K mainGlobals "decider" = some (some (.ref f_decider)))
    (l_decider : K.lookup f_decider = some ⟨oc_decider, od_decider, .func (PySem.W.fnOf "decider" "decider" (defArgs s_decider) (defBody s_decider) (defScope s_decider) .none kV_decider dc_decider pm_decider an_decider cd_decider ct_decider), sl_decider⟩)
    (c_decider : PySem.W.codeIn K cd_decider "decider" = true)
    (k_decider : PySem.W.keepIn K (.ref f_decider) = true)
    (a_outcome : PySem.W.nsIn K mainGlobals "outcome" = some (some (.ref f_outcome)))
    (l_outcome : K.lookup f_outcome = some ⟨oc_outcome, od_outcome, .func (PySem.W.fnOf "outcome" "outcome" (defArgs s_outcome) (defBody s_outcome) (defScope s_outcome) .none kV_outcome dc_outcome pm_outcome an_outcome cd_outcome ct_outcome), sl_outcome⟩)
    (c_outcome : PySem.W.codeIn K cd_outcome "outcome" = true)
    (k_outcome : PySem.W.keepIn K (.ref f_outcome) = true)
    (a_way : PySem.W.nsIn K mainGlobals "way" = some (some (.ref f_way)))
    (l_way : K.lookup f_way = some ⟨oc_way, od_way, .func (PySem.W.fnOf "way" "way" (defArgs s_way) (defBody s_way) (defScope s_way) .none kV_way dc_way pm_way an_way cd_way ct_way), sl_way⟩)
    (c_way : PySem.W.codeIn K cd_way "way" = true)
    (k_way : PySem.W.keepIn K (.ref f_way) = true)
    (a_small_conditions : PySem.W.nsIn K mainGlobals "small_conditions" = some (some (.ref f_small_conditions)))
    (l_small_conditions : K.lookup f_small_conditions = some ⟨oc_small_conditions, od_small_conditions, .func (PySem.W.fnOf "small_conditions" "small_conditions" (defArgs s_small_conditions) (defBody s_small_conditions) (defScope s_small_conditions) .none kV_small_conditions dc_small_conditions pm_small_conditions an_small_conditions cd_small_conditions ct_small_conditions), sl_small_conditions⟩)
    (c_small_conditions : PySem.W.codeIn K cd_small_conditions "small_conditions" = true)
    (k_small_conditions : PySem.W.keepIn K (.ref f_small_conditions) = true)
    (a_orders_of : PySem.W.nsIn K mainGlobals "orders_of" = some (some (.ref f_orders_of)))
    (l_orders_of : K.lookup f_orders_of = some ⟨oc_orders_of, od_orders_of, .func (PySem.W.fnOf "orders_of" "orders_of" (defArgs s_orders_of) (defBody s_orders_of) (defScope s_orders_of) .none kV_orders_of dc_orders_of pm_orders_of an_orders_of cd_orders_of ct_orders_of), sl_orders_of⟩)
    (c_orders_of : PySem.W.codeIn K cd_orders_of "orders_of" = true)
    (k_orders_of : PySem.W.keepIn K (.ref f_orders_of) = true)
    (a_check_left : PySem.W.nsIn K mainGlobals "check_left" = some (some (.ref f_check_left)))
    (l_check_left : K.lookup f_check_left = some ⟨oc_check_left, od_check_left, .func (PySem.W.fnOf "check_left" "check_left" (defArgs s_check_left) (defBody s_check_left) (defScope s_check_left) .none kV_check_left dc_check_left pm_check_left an_check_left cd_check_left ct_check_left), sl_check_left⟩)
    (c_check_left : PySem.W.codeIn K cd_check_left "check_left" = true)
    (k_check_left : PySem.W.keepIn K (.ref f_check_left) = true)
    (a__law_mix : PySem.W.nsIn K mainGlobals "_law_mix" = some (some (.ref f__law_mix)))
    (l__law_mix : K.lookup f__law_mix = some ⟨oc__law_mix, od__law_mix, .func (PySem.W.fnOf "_law_mix" "_law_mix" (defArgs s__law_mix) (defBody s__law_mix) (defScope s__law_mix) .none kV__law_mix dc__law_mix pm__law_mix an__law_mix cd__law_mix ct__law_mix), sl__law_mix⟩)
    (c__law_mix : PySem.W.codeIn K cd__law_mix "_law_mix" = true)
    (k__law_mix : PySem.W.keepIn K (.ref f__law_mix) = true)
    (a__law_next : PySem.W.nsIn K mainGlobals "_law_next" = some (some (.ref f__law_next)))
    (l__law_next : K.lookup f__law_next = some ⟨oc__law_next, od__law_next, .func (PySem.W.fnOf "_law_next" "_law_next" (defArgs s__law_next) (defBody s__law_next) (defScope s__law_next) .none kV__law_next dc__law_next pm__law_next an__law_next cd__law_next ct__law_next), sl__law_next⟩)
    (c__law_next : PySem.W.codeIn K cd__law_next "_law_next" = true)
    (k__law_next : PySem.W.keepIn K (.ref f__law_next) = true)
    (a__law_word : PySem.W.nsIn K mainGlobals "_law_word" = some (some (.ref f__law_word)))
    (l__law_word : K.lookup f__law_word = some ⟨oc__law_word, od__law_word, .func (PySem.W.fnOf "_law_word" "_law_word" (defArgs s__law_word) (defBody s__law_word) (defScope s__law_word) .none kV__law_word dc__law_word pm__law_word an__law_word cd__law_word ct__law_word), sl__law_word⟩)
    (c__law_word : PySem.W.codeIn K cd__law_word "_law_word" = true)
    (k__law_word : PySem.W.keepIn K (.ref f__law_word) = true)
    (a_law : PySem.W.nsIn K mainGlobals "law" = some (some (.ref f_law)))
    (l_law : K.lookup f_law = some ⟨oc_law, od_law, .func (PySem.W.fnOf "law" "law" (defArgs s_law) (defBody s_law) (defScope s_law) .none kV_law dc_law pm_law an_law (.ref cc_law) ct_law), sl_law⟩)
    (c_law : PySem.W.codeIn K (.ref cc_law) "law" = true)
    (k_law : PySem.W.keepIn K (.ref f_law) = true)
    (co : PySem.W.nsIn K mainGlobals "Condition" = some (some (.ref CO)))
    (co_mk : PySem.W.makesIn K CO = true)
    (co_in : PySem.W.findIn K (.ref CO) "__init__" = some (some (.ref f_mi)))
    (co_fn : PySem.W.isFn K (.ref f_mi) = true)
    (co_kp : PySem.W.keepIn K (.ref CO) = true)
    (co_pg : PySem.W.plainGet K CO Str.empty = true)
    (co_hd : PySem.W.hasDictIn K CO = true)
    (co_po : PySem.W.plainOver K CO = true)
    (co_sa : PySem.W.findIn K (.ref CO) "__setattr__" = some (some (.builtin "object.__setattr__")))
    (co_n1 : PySem.W.findIn K (.ref CO) "_holding" = some none)
    (co_n2 : PySem.W.findIn K (.ref CO) "_failing" = some none)
    (co_n3 : PySem.W.findIn K (.ref CO) "_names" = some none)
    (pa_mh : PySem.W.findIn K (.ref CO) "holding" = some (some (.ref pp_mh)))
    (pg_mh : PySem.W.specialIn K (.ref pp_mh) "__get__" = some (some (.builtin "property.__get__")))
    (pt_mh : PySem.W.takesIn K (.ref pp_mh) = some true)
    (pr_mh : PySem.W.recIn K pp_mh "property" = some (.ref f_mh :: rs_mh))
    (pa_mf : PySem.W.findIn K (.ref CO) "failing" = some (some (.ref pp_mf)))
    (pg_mf : PySem.W.specialIn K (.ref pp_mf) "__get__" = some (some (.builtin "property.__get__")))
    (pt_mf : PySem.W.takesIn K (.ref pp_mf) = some true)
    (pr_mf : PySem.W.recIn K pp_mf "property" = some (.ref f_mf :: rs_mf))
    (pa_mn : PySem.W.findIn K (.ref CO) "names" = some (some (.ref pp_mn)))
    (pg_mn : PySem.W.specialIn K (.ref pp_mn) "__get__" = some (some (.builtin "property.__get__")))
    (pt_mn : PySem.W.takesIn K (.ref pp_mn) = some true)
    (pr_mn : PySem.W.recIn K pp_mn "property" = some (.ref f_mn :: rs_mn))
    (ro : PySem.W.nsIn K mainGlobals "Rule" = some (some (.ref RO)))
    (ro_mk : PySem.W.makesIn K RO = true)
    (ro_in : PySem.W.findIn K (.ref RO) "__init__" = some (some (.ref f_ri)))
    (ro_fn : PySem.W.isFn K (.ref f_ri) = true)
    (ro_kp : PySem.W.keepIn K (.ref RO) = true)
    (ro_pg : PySem.W.plainGet K RO Str.empty = true)
    (ro_hd : PySem.W.hasDictIn K RO = true)
    (ro_po : PySem.W.plainOver K RO = true)
    (ro_sa : PySem.W.findIn K (.ref RO) "__setattr__" = some (some (.builtin "object.__setattr__")))
    (ro_n1 : PySem.W.findIn K (.ref RO) "_name" = some none)
    (ro_n2 : PySem.W.findIn K (.ref RO) "_condition" = some none)
    (ro_n3 : PySem.W.findIn K (.ref RO) "_ruling" = some none)
    (ro_n4 : PySem.W.findIn K (.ref RO) "_exceptions" = some none)
    (ro_n5 : PySem.W.findIn K (.ref RO) "_depth" = some none)
    (ro_n6 : PySem.W.findIn K (.ref RO) "_inside" = some none)
    (pa_rn : PySem.W.findIn K (.ref RO) "name" = some (some (.ref pp_rn)))
    (pg_rn : PySem.W.specialIn K (.ref pp_rn) "__get__" = some (some (.builtin "property.__get__")))
    (pt_rn : PySem.W.takesIn K (.ref pp_rn) = some true)
    (pr_rn : PySem.W.recIn K pp_rn "property" = some (.ref f_rn :: rs_rn))
    (pa_rc : PySem.W.findIn K (.ref RO) "condition" = some (some (.ref pp_rc)))
    (pg_rc : PySem.W.specialIn K (.ref pp_rc) "__get__" = some (some (.builtin "property.__get__")))
    (pt_rc : PySem.W.takesIn K (.ref pp_rc) = some true)
    (pr_rc : PySem.W.recIn K pp_rc "property" = some (.ref f_rc :: rs_rc))
    (pa_rr : PySem.W.findIn K (.ref RO) "ruling" = some (some (.ref pp_rr)))
    (pg_rr : PySem.W.specialIn K (.ref pp_rr) "__get__" = some (some (.builtin "property.__get__")))
    (pt_rr : PySem.W.takesIn K (.ref pp_rr) = some true)
    (pr_rr : PySem.W.recIn K pp_rr "property" = some (.ref f_rr :: rs_rr))
    (pa_re : PySem.W.findIn K (.ref RO) "exceptions" = some (some (.ref pp_re)))
    (pg_re : PySem.W.specialIn K (.ref pp_re) "__get__" = some (some (.builtin "property.__get__")))
    (pt_re : PySem.W.takesIn K (.ref pp_re) = some true)
    (pr_re : PySem.W.recIn K pp_re "property" = some (.ref f_re :: rs_re))
    (pa_rd : PySem.W.findIn K (.ref RO) "depth" = some (some (.ref pp_rd)))
    (pg_rd : PySem.W.specialIn K (.ref pp_rd) "__get__" = some (some (.builtin "property.__get__")))
    (pt_rd : PySem.W.takesIn K (.ref pp_rd) = some true)
    (pr_rd : PySem.W.recIn K pp_rd "property" = some (.ref f_rd :: rs_rd))
    (bo : PySem.W.nsIn K mainGlobals "Book" = some (some (.ref BO)))
    (bo_mk : PySem.W.makesIn K BO = true)
    (bo_in : PySem.W.findIn K (.ref BO) "__init__" = some (some (.ref f_bi)))
    (bo_fn : PySem.W.isFn K (.ref f_bi) = true)
    (bo_kp : PySem.W.keepIn K (.ref BO) = true)
    (bo_pg : PySem.W.plainGet K BO Str.empty = true)
    (bo_hd : PySem.W.hasDictIn K BO = true)
    (bo_po : PySem.W.plainOver K BO = true)
    (bo_sa : PySem.W.findIn K (.ref BO) "__setattr__" = some (some (.builtin "object.__setattr__")))
    (bo_n1 : PySem.W.findIn K (.ref BO) "_facts" = some none)
    (bo_n2 : PySem.W.findIn K (.ref BO) "_rules" = some none)
    (bo_n3 : PySem.W.findIn K (.ref BO) "_ruling" = some none)
    (bo_n4 : PySem.W.findIn K (.ref BO) "_numbered" = some none)
    (pa_bf : PySem.W.findIn K (.ref BO) "facts" = some (some (.ref pp_bf)))
    (pg_bf : PySem.W.specialIn K (.ref pp_bf) "__get__" = some (some (.builtin "property.__get__")))
    (pt_bf : PySem.W.takesIn K (.ref pp_bf) = some true)
    (pr_bf : PySem.W.recIn K pp_bf "property" = some (.ref f_bf :: rs_bf))
    (pa_bs : PySem.W.findIn K (.ref BO) "rules" = some (some (.ref pp_bs)))
    (pg_bs : PySem.W.specialIn K (.ref pp_bs) "__get__" = some (some (.builtin "property.__get__")))
    (pt_bs : PySem.W.takesIn K (.ref pp_bs) = some true)
    (pr_bs : PySem.W.recIn K pp_bs "property" = some (.ref f_bs :: rs_bs))
    (pa_br : PySem.W.findIn K (.ref BO) "ruling" = some (some (.ref pp_br)))
    (pg_br : PySem.W.specialIn K (.ref pp_br) "__get__" = some (some (.builtin "property.__get__")))
    (pt_br : PySem.W.takesIn K (.ref pp_br) = some true)
    (pr_br : PySem.W.recIn K pp_br "property" = some (.ref f_br :: rs_br))
    (wo : PySem.W.nsIn K mainGlobals "ConditionWatcher" = some (some (.ref CW)))
    (wo_mk : PySem.W.makesIn K CW = true)
    (wo_in : PySem.W.findIn K (.ref CW) "__init__" = some (some (.ref f_wi)))
    (wo_fn : PySem.W.isFn K (.ref f_wi) = true)
    (wo_kp : PySem.W.keepIn K (.ref CW) = true)
    (wo_pg : PySem.W.plainGet K CW Str.empty = true)
    (wo_hd : PySem.W.hasDictIn K CW = true)
    (wo_po : PySem.W.plainOver K CW = true)
    (wo_sa : PySem.W.findIn K (.ref CW) "__setattr__" = some (some (.builtin "object.__setattr__")))
    (wo_n1 : PySem.W.findIn K (.ref CW) "_with_rule" = some none)
    (wo_n2 : PySem.W.findIn K (.ref CW) "_without_rule" = some none)
    (wo_n3 : PySem.W.findIn K (.ref CW) "_left" = some none)
    (wo_n4 : PySem.W.findIn K (.ref CW) "_seen" = some none)
    (pa_wc : PySem.W.findIn K (.ref CW) "candidates" = some (some (.ref pp_wc)))
    (pg_wc : PySem.W.specialIn K (.ref pp_wc) "__get__" = some (some (.builtin "property.__get__")))
    (pt_wc : PySem.W.takesIn K (.ref pp_wc) = some true)
    (pr_wc : PySem.W.recIn K pp_wc "property" = some (.ref f_wc :: rs_wc))
    (pa_wr : PySem.W.findIn K (.ref CW) "records" = some (some (.ref pp_wr)))
    (pg_wr : PySem.W.specialIn K (.ref pp_wr) "__get__" = some (some (.builtin "property.__get__")))
    (pt_wr : PySem.W.takesIn K (.ref pp_wr) = some true)
    (pr_wr : PySem.W.recIn K pp_wr "property" = some (.ref f_wr :: rs_wr))
    (oo : PySem.W.nsIn K mainGlobals "OrderWatcher" = some (some (.ref OW)))
    (oo_mk : PySem.W.makesIn K OW = true)
    (oo_in : PySem.W.findIn K (.ref OW) "__init__" = some (some (.ref f_oi)))
    (oo_fn : PySem.W.isFn K (.ref f_oi) = true)
    (oo_kp : PySem.W.keepIn K (.ref OW) = true)
    (oo_pg : PySem.W.plainGet K OW Str.empty = true)
    (oo_hd : PySem.W.hasDictIn K OW = true)
    (oo_po : PySem.W.plainOver K OW = true)
    (oo_sa : PySem.W.findIn K (.ref OW) "__setattr__" = some (some (.builtin "object.__setattr__")))
    (oo_n1 : PySem.W.findIn K (.ref OW) "_book" = some none)
    (oo_n2 : PySem.W.findIn K (.ref OW) "_left" = some none)
    (oo_n3 : PySem.W.findIn K (.ref OW) "_seen" = some none)
    (pa_oc : PySem.W.findIn K (.ref OW) "order_count" = some (some (.ref pp_oc)))
    (pg_oc : PySem.W.specialIn K (.ref pp_oc) "__get__" = some (some (.builtin "property.__get__")))
    (pt_oc : PySem.W.takesIn K (.ref pp_oc) = some true)
    (pr_oc : PySem.W.recIn K pp_oc "property" = some (.ref f_oc :: rs_oc))
    (pa_or : PySem.W.findIn K (.ref OW) "records" = some (some (.ref pp_or)))
    (pg_or : PySem.W.specialIn K (.ref pp_or) "__get__" = some (some (.builtin "property.__get__")))
    (pt_or : PySem.W.takesIn K (.ref pp_or) = some true)
    (pr_or : PySem.W.recIn K pp_or "property" = some (.ref f_or :: rs_or))
    (at_gc : PySem.W.findIn K (.ref BO) "__contains__" = some (some (.ref f_gc)))
    (fn_gc : PySem.W.isFn K (.ref f_gc) = true)
    (at_gi : PySem.W.findIn K (.ref BO) "__getitem__" = some (some (.ref f_gi)))
    (fn_gi : PySem.W.isFn K (.ref f_gi) = true)
    (at_gs : PySem.W.findIn K (.ref BO) "__sub__" = some (some (.ref f_gs)))
    (fn_gs : PySem.W.isFn K (.ref f_gs) = true)
    (at_bc : PySem.W.findIn K (.ref BO) "__call__" = some (some (.ref f_bc)))
    (fn_bc : PySem.W.isFn K (.ref f_bc) = true)
    (fi_bc : PySem.W.fnIn K f_bc = true)
    (at_mc : PySem.W.findIn K (.ref CO) "__call__" = some (some (.ref f_mc)))
    (fn_mc : PySem.W.isFn K (.ref f_mc) = true)
    (fi_mc : PySem.W.fnIn K f_mc = true)
    (at_wq : PySem.W.findIn K (.ref CW) "_outcomes" = some (some (.ref f_wq)))
    (fn_wq : PySem.W.isFn K (.ref f_wq) = true)
    (at_wa : PySem.W.findIn K (.ref CW) "_accept" = some (some (.ref f_wa)))
    (fn_wa : PySem.W.isFn K (.ref f_wa) = true)
    (at_ws : PySem.W.findIn K (.ref CW) "see" = some (some (.ref f_ws)))
    (fn_ws : PySem.W.isFn K (.ref f_ws) = true)
    (at_wd : PySem.W.findIn K (.ref CW) "see_decider" = some (some (.ref f_wd)))
    (fn_wd : PySem.W.isFn K (.ref f_wd) = true)
    (at_wp : PySem.W.findIn K (.ref CW) "possible" = some (some (.ref f_wp)))
    (fn_wp : PySem.W.isFn K (.ref f_wp) = true)
    (at_os : PySem.W.findIn K (.ref OW) "see" = some (some (.ref f_os)))
    (fn_os : PySem.W.isFn K (.ref f_os) = true)
    (at_ou : PySem.W.findIn K (.ref OW) "sure" = some (some (.ref f_ou)))
    (fn_ou : PySem.W.isFn K (.ref f_ou) = true)
    (co_ca : PySem.W.findIn K (.ref CO) "__class__" = some (some (.builtin "object.__class__")))
    (co_ob : PySem.W.mroIn K CO (.type "object") = some true)
    (co_ss : PySem.W.subIn K (.ref CO) (.ref CO) = some true)
    (co_cl : PySem.W.isClsIn K CO = true)
    (co_ty : PySem.W.typeIn K (.ref CO) = some (.type "type"))
    (co_sR : PySem.W.subIn K (.ref CO) (.ref RO) = some false)
    (co_str : PySem.W.subIn K (.ref CO) (.type "str") = some false)
    (co_bstr : PySem.W.subIn K (.type "str") (.ref CO) = some false)
    (co_bNoneType : PySem.W.subIn K (.type "NoneType") (.ref CO) = some false)
    (co_bint : PySem.W.subIn K (.type "int") (.ref CO) = some false)
    (co_btuple : PySem.W.subIn K (.type "tuple") (.ref CO) = some false)
    (ro_ca : PySem.W.findIn K (.ref RO) "__class__" = some (some (.builtin "object.__class__")))
    (ro_ob : PySem.W.mroIn K RO (.type "object") = some true)
    (ro_ss : PySem.W.subIn K (.ref RO) (.ref RO) = some true)
    (ro_cl : PySem.W.isClsIn K RO = true)
    (ro_ty : PySem.W.typeIn K (.ref RO) = some (.type "type"))
    (ro_sC : PySem.W.subIn K (.ref RO) (.ref CO) = some false)
    (ro_str : PySem.W.subIn K (.ref RO) (.type "str") = some false)
    (ro_bstr : PySem.W.subIn K (.type "str") (.ref RO) = some false)
    (ro_bNoneType : PySem.W.subIn K (.type "NoneType") (.ref RO) = some false)
    (ro_bint : PySem.W.subIn K (.type "int") (.ref RO) = some false)
    (ro_btuple : PySem.W.subIn K (.type "tuple") (.ref RO) = some false)
    (bo_bstr : PySem.W.subIn K (.type "str") (.ref BO) = some false)
    (bo_sf : PySem.W.selfFirst K BO = true)
    (bo_rs : PySem.W.findIn K (.ref BO) "__rsub__" = some none)
    (st_s : PySem.W.findIn K (.type "str") "__sub__" = some fo_s)
    (st_r : PySem.W.findIn K (.type "str") "__rsub__" = some fo_r)
    (fi_gc : PySem.W.fnIn K f_gc = true)
    (fi_gi : PySem.W.fnIn K f_gi = true)
    (fi_gs : PySem.W.fnIn K f_gs = true)
    (m_WORDS_WITH_NAME : PySem.W.nsIn K mainGlobals "WORDS_WITH_NAME" = some (some (.ref w1A)))
    (w1_l : K.lookup w1A = some ⟨.type "tuple", odW1, .seq #[.str "strike" uW10, .str "swap" uW11] nW1, slW1⟩)
    (m_WORDS_WITH_MORE : PySem.W.nsIn K mainGlobals "WORDS_WITH_MORE" = some (some (.ref w2A)))
    (w2_l : K.lookup w2A = some ⟨.type "tuple", odW2, .seq #[.str "add" uW20, .str "before" uW21, .str "ruling" uW22, .str "condition" uW23] nW2, slW2⟩)
    (m_WORDS_FOR_BOOKS : PySem.W.nsIn K mainGlobals "WORDS_FOR_BOOKS" = some (some (.ref w3A)))
    (w3_l : K.lookup w3A = some ⟨.type "tuple", odW3, .seq #[.str "add" uW30, .str "ruling" uW31] nW3, slW3⟩)
    (l_mi : K.lookup f_mi = some ⟨oc_mi, od_mi, .func (PySem.W.fnOf "__init__" "Condition.__init__" (defArgs s_Condition___init__) (defBody s_Condition___init__) (defScope s_Condition___init__) .none kV_mi dc_mi pm_mi an_mi cd_mi ct_mi), sl_mi⟩)
    (c_mi : PySem.W.codeIn K cd_mi "Condition.__init__" = true)
    (k_mi : PySem.W.keepIn K (.ref f_mi) = true)
    (l_mh : K.lookup f_mh = some ⟨oc_mh, od_mh, .func (PySem.W.fnOf "holding" "Condition.holding" (defArgs s_Condition_holding) (defBody s_Condition_holding) (defScope s_Condition_holding) .none kV_mh dc_mh pm_mh an_mh cd_mh ct_mh), sl_mh⟩)
    (c_mh : PySem.W.codeIn K cd_mh "Condition.holding" = true)
    (k_mh : PySem.W.keepIn K (.ref f_mh) = true)
    (l_mf : K.lookup f_mf = some ⟨oc_mf, od_mf, .func (PySem.W.fnOf "failing" "Condition.failing" (defArgs s_Condition_failing) (defBody s_Condition_failing) (defScope s_Condition_failing) .none kV_mf dc_mf pm_mf an_mf cd_mf ct_mf), sl_mf⟩)
    (c_mf : PySem.W.codeIn K cd_mf "Condition.failing" = true)
    (k_mf : PySem.W.keepIn K (.ref f_mf) = true)
    (l_mn : K.lookup f_mn = some ⟨oc_mn, od_mn, .func (PySem.W.fnOf "names" "Condition.names" (defArgs s_Condition_names) (defBody s_Condition_names) (defScope s_Condition_names) .none kV_mn dc_mn pm_mn an_mn cd_mn ct_mn), sl_mn⟩)
    (c_mn : PySem.W.codeIn K cd_mn "Condition.names" = true)
    (k_mn : PySem.W.keepIn K (.ref f_mn) = true)
    (l_ri : K.lookup f_ri = some ⟨oc_ri, od_ri, .func (PySem.W.fnOf "__init__" "Rule.__init__" (defArgs s_Rule___init__) (defBody s_Rule___init__) (defScope s_Rule___init__) .none kV_ri dc_ri pm_ri an_ri cd_ri ct_ri), sl_ri⟩)
    (c_ri : PySem.W.codeIn K cd_ri "Rule.__init__" = true)
    (k_ri : PySem.W.keepIn K (.ref f_ri) = true)
    (l_rn : K.lookup f_rn = some ⟨oc_rn, od_rn, .func (PySem.W.fnOf "name" "Rule.name" (defArgs s_Rule_name) (defBody s_Rule_name) (defScope s_Rule_name) .none kV_rn dc_rn pm_rn an_rn cd_rn ct_rn), sl_rn⟩)
    (c_rn : PySem.W.codeIn K cd_rn "Rule.name" = true)
    (k_rn : PySem.W.keepIn K (.ref f_rn) = true)
    (l_rc : K.lookup f_rc = some ⟨oc_rc, od_rc, .func (PySem.W.fnOf "condition" "Rule.condition" (defArgs s_Rule_condition) (defBody s_Rule_condition) (defScope s_Rule_condition) .none kV_rc dc_rc pm_rc an_rc cd_rc ct_rc), sl_rc⟩)
    (c_rc : PySem.W.codeIn K cd_rc "Rule.condition" = true)
    (k_rc : PySem.W.keepIn K (.ref f_rc) = true)
    (l_rr : K.lookup f_rr = some ⟨oc_rr, od_rr, .func (PySem.W.fnOf "ruling" "Rule.ruling" (defArgs s_Rule_ruling) (defBody s_Rule_ruling) (defScope s_Rule_ruling) .none kV_rr dc_rr pm_rr an_rr cd_rr ct_rr), sl_rr⟩)
    (c_rr : PySem.W.codeIn K cd_rr "Rule.ruling" = true)
    (k_rr : PySem.W.keepIn K (.ref f_rr) = true)
    (l_re : K.lookup f_re = some ⟨oc_re, od_re, .func (PySem.W.fnOf "exceptions" "Rule.exceptions" (defArgs s_Rule_exceptions) (defBody s_Rule_exceptions) (defScope s_Rule_exceptions) .none kV_re dc_re pm_re an_re cd_re ct_re), sl_re⟩)
    (c_re : PySem.W.codeIn K cd_re "Rule.exceptions" = true)
    (k_re : PySem.W.keepIn K (.ref f_re) = true)
    (l_rd : K.lookup f_rd = some ⟨oc_rd, od_rd, .func (PySem.W.fnOf "depth" "Rule.depth" (defArgs s_Rule_depth) (defBody s_Rule_depth) (defScope s_Rule_depth) .none kV_rd dc_rd pm_rd an_rd cd_rd ct_rd), sl_rd⟩)
    (c_rd : PySem.W.codeIn K cd_rd "Rule.depth" = true)
    (k_rd : PySem.W.keepIn K (.ref f_rd) = true)
    (l_bi : K.lookup f_bi = some ⟨oc_bi, od_bi, .func (PySem.W.fnOf "__init__" "Book.__init__" (defArgs s_Book___init__) (defBody s_Book___init__) (defScope s_Book___init__) .none kV_bi dc_bi pm_bi an_bi cd_bi ct_bi), sl_bi⟩)
    (c_bi : PySem.W.codeIn K cd_bi "Book.__init__" = true)
    (k_bi : PySem.W.keepIn K (.ref f_bi) = true)
    (l_bf : K.lookup f_bf = some ⟨oc_bf, od_bf, .func (PySem.W.fnOf "facts" "Book.facts" (defArgs s_Book_facts) (defBody s_Book_facts) (defScope s_Book_facts) .none kV_bf dc_bf pm_bf an_bf cd_bf ct_bf), sl_bf⟩)
    (c_bf : PySem.W.codeIn K cd_bf "Book.facts" = true)
    (k_bf : PySem.W.keepIn K (.ref f_bf) = true)
    (l_bs : K.lookup f_bs = some ⟨oc_bs, od_bs, .func (PySem.W.fnOf "rules" "Book.rules" (defArgs s_Book_rules) (defBody s_Book_rules) (defScope s_Book_rules) .none kV_bs dc_bs pm_bs an_bs cd_bs ct_bs), sl_bs⟩)
    (c_bs : PySem.W.codeIn K cd_bs "Book.rules" = true)
    (k_bs : PySem.W.keepIn K (.ref f_bs) = true)
    (l_br : K.lookup f_br = some ⟨oc_br, od_br, .func (PySem.W.fnOf "ruling" "Book.ruling" (defArgs s_Book_ruling) (defBody s_Book_ruling) (defScope s_Book_ruling) .none kV_br dc_br pm_br an_br cd_br ct_br), sl_br⟩)
    (c_br : PySem.W.codeIn K cd_br "Book.ruling" = true)
    (k_br : PySem.W.keepIn K (.ref f_br) = true)
    (l_wi : K.lookup f_wi = some ⟨oc_wi, od_wi, .func (PySem.W.fnOf "__init__" "ConditionWatcher.__init__" (defArgs s_ConditionWatcher___init__) (defBody s_ConditionWatcher___init__) (defScope s_ConditionWatcher___init__) .none kV_wi dc_wi pm_wi an_wi cd_wi ct_wi), sl_wi⟩)
    (c_wi : PySem.W.codeIn K cd_wi "ConditionWatcher.__init__" = true)
    (k_wi : PySem.W.keepIn K (.ref f_wi) = true)
    (l_wc : K.lookup f_wc = some ⟨oc_wc, od_wc, .func (PySem.W.fnOf "candidates" "ConditionWatcher.candidates" (defArgs s_ConditionWatcher_candidates) (defBody s_ConditionWatcher_candidates) (defScope s_ConditionWatcher_candidates) .none kV_wc dc_wc pm_wc an_wc cd_wc ct_wc), sl_wc⟩)
    (c_wc : PySem.W.codeIn K cd_wc "ConditionWatcher.candidates" = true)
    (k_wc : PySem.W.keepIn K (.ref f_wc) = true)
    (l_wr : K.lookup f_wr = some ⟨oc_wr, od_wr, .func (PySem.W.fnOf "records" "ConditionWatcher.records" (defArgs s_ConditionWatcher_records) (defBody s_ConditionWatcher_records) (defScope s_ConditionWatcher_records) .none kV_wr dc_wr pm_wr an_wr cd_wr ct_wr), sl_wr⟩)
    (c_wr : PySem.W.codeIn K cd_wr "ConditionWatcher.records" = true)
    (k_wr : PySem.W.keepIn K (.ref f_wr) = true)
    (l_oi : K.lookup f_oi = some ⟨oc_oi, od_oi, .func (PySem.W.fnOf "__init__" "OrderWatcher.__init__" (defArgs s_OrderWatcher___init__) (defBody s_OrderWatcher___init__) (defScope s_OrderWatcher___init__) .none kV_oi dc_oi pm_oi an_oi cd_oi ct_oi), sl_oi⟩)
    (c_oi : PySem.W.codeIn K cd_oi "OrderWatcher.__init__" = true)
    (k_oi : PySem.W.keepIn K (.ref f_oi) = true)
    (l_oc : K.lookup f_oc = some ⟨oc_oc, od_oc, .func (PySem.W.fnOf "order_count" "OrderWatcher.order_count" (defArgs s_OrderWatcher_order_count) (defBody s_OrderWatcher_order_count) (defScope s_OrderWatcher_order_count) .none kV_oc dc_oc pm_oc an_oc cd_oc ct_oc), sl_oc⟩)
    (c_oc : PySem.W.codeIn K cd_oc "OrderWatcher.order_count" = true)
    (k_oc : PySem.W.keepIn K (.ref f_oc) = true)
    (l_or : K.lookup f_or = some ⟨oc_or, od_or, .func (PySem.W.fnOf "records" "OrderWatcher.records" (defArgs s_OrderWatcher_records) (defBody s_OrderWatcher_records) (defScope s_OrderWatcher_records) .none kV_or dc_or pm_or an_or cd_or ct_or), sl_or⟩)
    (c_or : PySem.W.codeIn K cd_or "OrderWatcher.records" = true)
    (k_or : PySem.W.keepIn K (.ref f_or) = true)
    (l_gc : K.lookup f_gc = some ⟨oc_gc, od_gc, .func (PySem.W.fnOf "__contains__" "Book.__contains__" (defArgs s_Book___contains__) (defBody s_Book___contains__) (defScope s_Book___contains__) .none kV_gc dc_gc pm_gc an_gc cd_gc ct_gc), sl_gc⟩)
    (c_gc : PySem.W.codeIn K cd_gc "Book.__contains__" = true)
    (k_gc : PySem.W.keepIn K (.ref f_gc) = true)
    (l_gi : K.lookup f_gi = some ⟨oc_gi, od_gi, .func (PySem.W.fnOf "__getitem__" "Book.__getitem__" (defArgs s_Book___getitem__) (defBody s_Book___getitem__) (defScope s_Book___getitem__) .none kV_gi dc_gi pm_gi an_gi cd_gi ct_gi), sl_gi⟩)
    (c_gi : PySem.W.codeIn K cd_gi "Book.__getitem__" = true)
    (k_gi : PySem.W.keepIn K (.ref f_gi) = true)
    (l_gs : K.lookup f_gs = some ⟨oc_gs, od_gs, .func (PySem.W.fnOf "__sub__" "Book.__sub__" (defArgs s_Book___sub__) (defBody s_Book___sub__) (defScope s_Book___sub__) .none kV_gs dc_gs pm_gs an_gs cd_gs ct_gs), sl_gs⟩)
    (c_gs : PySem.W.codeIn K cd_gs "Book.__sub__" = true)
    (k_gs : PySem.W.keepIn K (.ref f_gs) = true)
    (l_bc : K.lookup f_bc = some ⟨oc_bc, od_bc, .func (PySem.W.fnOf "__call__" "Book.__call__" (defArgs s_Book___call__) (defBody s_Book___call__) (defScope s_Book___call__) .none kV_bc dc_bc pm_bc an_bc cd_bc ct_bc), sl_bc⟩)
    (c_bc : PySem.W.codeIn K cd_bc "Book.__call__" = true)
    (k_bc : PySem.W.keepIn K (.ref f_bc) = true)
    (l_mc : K.lookup f_mc = some ⟨oc_mc, od_mc, .func (PySem.W.fnOf "__call__" "Condition.__call__" (defArgs s_Condition___call__) (defBody s_Condition___call__) (defScope s_Condition___call__) .none kV_mc dc_mc pm_mc an_mc cd_mc ct_mc), sl_mc⟩)
    (c_mc : PySem.W.codeIn K cd_mc "Condition.__call__" = true)
    (k_mc : PySem.W.keepIn K (.ref f_mc) = true)
    (l_wq : K.lookup f_wq = some ⟨oc_wq, od_wq, .func (PySem.W.fnOf "_outcomes" "ConditionWatcher._outcomes" (defArgs s_ConditionWatcher__outcomes) (defBody s_ConditionWatcher__outcomes) (defScope s_ConditionWatcher__outcomes) .none kV_wq dc_wq pm_wq an_wq cd_wq ct_wq), sl_wq⟩)
    (c_wq : PySem.W.codeIn K cd_wq "ConditionWatcher._outcomes" = true)
    (k_wq : PySem.W.keepIn K (.ref f_wq) = true)
    (l_wa : K.lookup f_wa = some ⟨oc_wa, od_wa, .func (PySem.W.fnOf "_accept" "ConditionWatcher._accept" (defArgs s_ConditionWatcher__accept) (defBody s_ConditionWatcher__accept) (defScope s_ConditionWatcher__accept) .none kV_wa dc_wa pm_wa an_wa cd_wa ct_wa), sl_wa⟩)
    (c_wa : PySem.W.codeIn K cd_wa "ConditionWatcher._accept" = true)
    (k_wa : PySem.W.keepIn K (.ref f_wa) = true)
    (l_ws : K.lookup f_ws = some ⟨oc_ws, od_ws, .func (PySem.W.fnOf "see" "ConditionWatcher.see" (defArgs s_ConditionWatcher_see) (defBody s_ConditionWatcher_see) (defScope s_ConditionWatcher_see) .none kV_ws dc_ws pm_ws an_ws cd_ws ct_ws), sl_ws⟩)
    (c_ws : PySem.W.codeIn K cd_ws "ConditionWatcher.see" = true)
    (k_ws : PySem.W.keepIn K (.ref f_ws) = true)
    (l_wd : K.lookup f_wd = some ⟨oc_wd, od_wd, .func (PySem.W.fnOf "see_decider" "ConditionWatcher.see_decider" (defArgs s_ConditionWatcher_see_decider) (defBody s_ConditionWatcher_see_decider) (defScope s_ConditionWatcher_see_decider) .none kV_wd dc_wd pm_wd an_wd cd_wd ct_wd), sl_wd⟩)
    (c_wd : PySem.W.codeIn K cd_wd "ConditionWatcher.see_decider" = true)
    (k_wd : PySem.W.keepIn K (.ref f_wd) = true)
    (l_wp : K.lookup f_wp = some ⟨oc_wp, od_wp, .func (PySem.W.fnOf "possible" "ConditionWatcher.possible" (defArgs s_ConditionWatcher_possible) (defBody s_ConditionWatcher_possible) (defScope s_ConditionWatcher_possible) .none kV_wp dc_wp pm_wp an_wp cd_wp ct_wp), sl_wp⟩)
    (c_wp : PySem.W.codeIn K cd_wp "ConditionWatcher.possible" = true)
    (k_wp : PySem.W.keepIn K (.ref f_wp) = true)
    (l_os : K.lookup f_os = some ⟨oc_os, od_os, .func (PySem.W.fnOf "see" "OrderWatcher.see" (defArgs s_OrderWatcher_see) (defBody s_OrderWatcher_see) (defScope s_OrderWatcher_see) .none kV_os dc_os pm_os an_os cd_os ct_os), sl_os⟩)
    (c_os : PySem.W.codeIn K cd_os "OrderWatcher.see" = true)
    (k_os : PySem.W.keepIn K (.ref f_os) = true)
    (l_ou : K.lookup f_ou = some ⟨oc_ou, od_ou, .func (PySem.W.fnOf "sure" "OrderWatcher.sure" (defArgs s_OrderWatcher_sure) (defBody s_OrderWatcher_sure) (defScope s_OrderWatcher_sure) .none kV_ou dc_ou pm_ou an_ou cd_ou ct_ou), sl_ou⟩)
    (c_ou : PySem.W.codeIn K cd_ou "OrderWatcher.sure" = true)
    (k_ou : PySem.W.keepIn K (.ref f_ou) = true)
    (b_isinstance : PySem.W.nsIn K mainGlobals "isinstance" = some none)
    (b_len : PySem.W.nsIn K mainGlobals "len" = some none)
    (b_all : PySem.W.nsIn K mainGlobals "all" = some none)
    (b_any : PySem.W.nsIn K mainGlobals "any" = some none)
    (b_sum : PySem.W.nsIn K mainGlobals "sum" = some none)
    (b_max : PySem.W.nsIn K mainGlobals "max" = some none)
    (b_min : PySem.W.nsIn K mainGlobals "min" = some none)
    (b_int : PySem.W.nsIn K mainGlobals "int" = some none)
    (b_str : PySem.W.nsIn K mainGlobals "str" = some none)
    (b_bool : PySem.W.nsIn K mainGlobals "bool" = some none)
    (b_list : PySem.W.nsIn K mainGlobals "list" = some none)
    (b_tuple : PySem.W.nsIn K mainGlobals "tuple" = some none)
    (b_dict : PySem.W.nsIn K mainGlobals "dict" = some none)
    (b_range : PySem.W.nsIn K mainGlobals "range" = some none)
    (b_enumerate : PySem.W.nsIn K mainGlobals "enumerate" = some none)
    (b_sorted : PySem.W.nsIn K mainGlobals "sorted" = some none)
    (b_reversed : PySem.W.nsIn K mainGlobals "reversed" = some none)
    (b_zip : PySem.W.nsIn K mainGlobals "zip" = some none)
    (b_set : PySem.W.nsIn K mainGlobals "set" = some none)
    (b_ValueError : PySem.W.nsIn K mainGlobals "ValueError" = some none)
    (m_LETTERS : PySem.W.nsIn K mainGlobals "LETTERS" = some (some (.str letters t_LETTERS)))
    (m_LONGEST_NAME : PySem.W.nsIn K mainGlobals "LONGEST_NAME" = some (some (.int 8 t_LONGEST_NAME)))
    (m_MOST_FACTS_facts : PySem.W.nsIn K mainGlobals "MOST_FACTS_facts" = some (some (.int 60 t_MOST_FACTS_facts)))
    (m_MOST_NAMES : PySem.W.nsIn K mainGlobals "MOST_NAMES" = some (some (.int 8 t_MOST_NAMES)))
    (m_MOST_AROUND : PySem.W.nsIn K mainGlobals "MOST_AROUND" = some (some (.int 5 t_MOST_AROUND)))
    (m_MOST_RULES : PySem.W.nsIn K mainGlobals "MOST_RULES" = some (some (.int 60 t_MOST_RULES)))
    (m_MOST_OUTERMOST : PySem.W.nsIn K mainGlobals "MOST_OUTERMOST" = some (some (.int 40 t_MOST_OUTERMOST)))
    (m_MOST_ORDERED : PySem.W.nsIn K mainGlobals "MOST_ORDERED" = some (some (.int 6 t_MOST_ORDERED)))
    (m_MOST_FACTS_watchers : PySem.W.nsIn K mainGlobals "MOST_FACTS_watchers" = some (some (.int 10 t_MOST_FACTS_watchers)))
    (m_CourtError : PySem.W.nsIn K mainGlobals "CourtError" = some (some (.ref CE)))
    (m_Contradiction : PySem.W.nsIn K mainGlobals "Contradiction" = some (some (.ref E0)))
    (m_InvalidCase : PySem.W.nsIn K mainGlobals "InvalidCase" = some (some (.ref E1)))
    (m_InvalidRuling : PySem.W.nsIn K mainGlobals "InvalidRuling" = some (some (.ref E2)))
    (m_TooMany : PySem.W.nsIn K mainGlobals "TooMany" = some (some (.ref E3)))
    (m_UnknownRule : PySem.W.nsIn K mainGlobals "UnknownRule" = some (some (.ref E4)))
    (m_NoNeighbor : PySem.W.nsIn K mainGlobals "NoNeighbor" = some (some (.ref E5)))
    (m_InvalidAmendment : PySem.W.nsIn K mainGlobals "InvalidAmendment" = some (some (.ref E6)))
    (m_InvalidFacts : PySem.W.nsIn K mainGlobals "InvalidFacts" = some (some (.ref E7)))
    (m_InvalidCondition : PySem.W.nsIn K mainGlobals "InvalidCondition" = some (some (.ref E8)))
    (m_InvalidRule : PySem.W.nsIn K mainGlobals "InvalidRule" = some (some (.ref E9)))
    (m_InvalidBook : PySem.W.nsIn K mainGlobals "InvalidBook" = some (some (.ref E10)))
    (CEbe : PySem.W.subIn K (.ref CE) (.type "BaseException") = some true)
    (CEcl : PySem.W.isClsIn K CE = true)
    (CEty : PySem.W.typeIn K (.ref CE) = some (.type "type"))
    (u_0 : PySem.W.isClsIn K E0 = true)
    (v_0 : PySem.W.typeIn K (.ref E0) = some (.type "type"))
    (u_1 : PySem.W.isClsIn K E1 = true)
    (v_1 : PySem.W.typeIn K (.ref E1) = some (.type "type"))
    (u_2 : PySem.W.isClsIn K E2 = true)
    (v_2 : PySem.W.typeIn K (.ref E2) = some (.type "type"))
    (u_3 : PySem.W.isClsIn K E3 = true)
    (v_3 : PySem.W.typeIn K (.ref E3) = some (.type "type"))
    (u_4 : PySem.W.isClsIn K E4 = true)
    (v_4 : PySem.W.typeIn K (.ref E4) = some (.type "type"))
    (u_5 : PySem.W.isClsIn K E5 = true)
    (v_5 : PySem.W.typeIn K (.ref E5) = some (.type "type"))
    (u_6 : PySem.W.isClsIn K E6 = true)
    (v_6 : PySem.W.typeIn K (.ref E6) = some (.type "type"))
    (u_7 : PySem.W.isClsIn K E7 = true)
    (v_7 : PySem.W.typeIn K (.ref E7) = some (.type "type"))
    (u_8 : PySem.W.isClsIn K E8 = true)
    (v_8 : PySem.W.typeIn K (.ref E8) = some (.type "type"))
    (u_9 : PySem.W.isClsIn K E9 = true)
    (v_9 : PySem.W.typeIn K (.ref E9) = some (.type "type"))
    (u_10 : PySem.W.isClsIn K E10 = true)
    (v_10 : PySem.W.typeIn K (.ref E10) = some (.type "type"))
    (r0_cl : PySem.W.isClsIn K E0 = true)
    (r0_ga : PySem.W.findIn K (.ref E0) "__getattribute__" = some (some (.builtin "BaseException.__getattribute__")))
    (r0_gt : PySem.W.findIn K (.ref E0) "__getattr__" = some none)
    (r0_be : PySem.W.subIn K (.ref E0) (.type "BaseException") = some true)
    (r0_kc : PySem.W.findIn K (.ref E0) "__class__" = some (some (.builtin "object.__class__")))
    (r0_ob : PySem.W.mroIn K E0 (.type "object") = some true)
    (r0_hd : PySem.W.hasDictIn K E0 = true)
    (r0_sC : PySem.W.subIn K (.ref E0) (.ref CE) = some true)
    (r0_ve : PySem.W.subIn K (.ref E0) (.type "ValueError") = some true)
    (r0_k0 : PySem.W.subIn K (.ref E0) (.ref E0) = some true)
    (r0_k1 : PySem.W.subIn K (.ref E0) (.ref E1) = some false)
    (r0_k2 : PySem.W.subIn K (.ref E0) (.ref E2) = some false)
    (r0_k3 : PySem.W.subIn K (.ref E0) (.ref E3) = some false)
    (r0_k4 : PySem.W.subIn K (.ref E0) (.ref E4) = some false)
    (r0_k5 : PySem.W.subIn K (.ref E0) (.ref E5) = some false)
    (r0_k6 : PySem.W.subIn K (.ref E0) (.ref E6) = some false)
    (r0_k7 : PySem.W.subIn K (.ref E0) (.ref E7) = some false)
    (r0_k8 : PySem.W.subIn K (.ref E0) (.ref E8) = some false)
    (r0_k9 : PySem.W.subIn K (.ref E0) (.ref E9) = some false)
    (r0_k10 : PySem.W.subIn K (.ref E0) (.ref E10) = some false)
    (r0_n_index : PySem.W.findIn K (.ref E0) "index" = some none)
    (r0_n_part : PySem.W.findIn K (.ref E0) "part" = some none)
    (r0_n_word : PySem.W.findIn K (.ref E0) "word" = some none)
    (r0_n_fact : PySem.W.findIn K (.ref E0) "fact" = some none)
    (r1_cl : PySem.W.isClsIn K E1 = true)
    (r1_ga : PySem.W.findIn K (.ref E1) "__getattribute__" = some (some (.builtin "BaseException.__getattribute__")))
    (r1_gt : PySem.W.findIn K (.ref E1) "__getattr__" = some none)
    (r1_be : PySem.W.subIn K (.ref E1) (.type "BaseException") = some true)
    (r1_kc : PySem.W.findIn K (.ref E1) "__class__" = some (some (.builtin "object.__class__")))
    (r1_ob : PySem.W.mroIn K E1 (.type "object") = some true)
    (r1_hd : PySem.W.hasDictIn K E1 = true)
    (r1_sC : PySem.W.subIn K (.ref E1) (.ref CE) = some true)
    (r1_ve : PySem.W.subIn K (.ref E1) (.type "ValueError") = some true)
    (r1_k0 : PySem.W.subIn K (.ref E1) (.ref E0) = some false)
    (r1_k1 : PySem.W.subIn K (.ref E1) (.ref E1) = some true)
    (r1_k2 : PySem.W.subIn K (.ref E1) (.ref E2) = some false)
    (r1_k3 : PySem.W.subIn K (.ref E1) (.ref E3) = some false)
    (r1_k4 : PySem.W.subIn K (.ref E1) (.ref E4) = some false)
    (r1_k5 : PySem.W.subIn K (.ref E1) (.ref E5) = some false)
    (r1_k6 : PySem.W.subIn K (.ref E1) (.ref E6) = some false)
    (r1_k7 : PySem.W.subIn K (.ref E1) (.ref E7) = some false)
    (r1_k8 : PySem.W.subIn K (.ref E1) (.ref E8) = some false)
    (r1_k9 : PySem.W.subIn K (.ref E1) (.ref E9) = some false)
    (r1_k10 : PySem.W.subIn K (.ref E1) (.ref E10) = some false)
    (r1_n_index : PySem.W.findIn K (.ref E1) "index" = some none)
    (r1_n_part : PySem.W.findIn K (.ref E1) "part" = some none)
    (r1_n_word : PySem.W.findIn K (.ref E1) "word" = some none)
    (r1_n_fact : PySem.W.findIn K (.ref E1) "fact" = some none)
    (r2_cl : PySem.W.isClsIn K E2 = true)
    (r2_ga : PySem.W.findIn K (.ref E2) "__getattribute__" = some (some (.builtin "BaseException.__getattribute__")))
    (r2_gt : PySem.W.findIn K (.ref E2) "__getattr__" = some none)
    (r2_be : PySem.W.subIn K (.ref E2) (.type "BaseException") = some true)
    (r2_kc : PySem.W.findIn K (.ref E2) "__class__" = some (some (.builtin "object.__class__")))
    (r2_ob : PySem.W.mroIn K E2 (.type "object") = some true)
    (r2_hd : PySem.W.hasDictIn K E2 = true)
    (r2_sC : PySem.W.subIn K (.ref E2) (.ref CE) = some true)
    (r2_ve : PySem.W.subIn K (.ref E2) (.type "ValueError") = some true)
    (r2_k0 : PySem.W.subIn K (.ref E2) (.ref E0) = some false)
    (r2_k1 : PySem.W.subIn K (.ref E2) (.ref E1) = some false)
    (r2_k2 : PySem.W.subIn K (.ref E2) (.ref E2) = some true)
    (r2_k3 : PySem.W.subIn K (.ref E2) (.ref E3) = some false)
    (r2_k4 : PySem.W.subIn K (.ref E2) (.ref E4) = some false)
    (r2_k5 : PySem.W.subIn K (.ref E2) (.ref E5) = some false)
    (r2_k6 : PySem.W.subIn K (.ref E2) (.ref E6) = some false)
    (r2_k7 : PySem.W.subIn K (.ref E2) (.ref E7) = some false)
    (r2_k8 : PySem.W.subIn K (.ref E2) (.ref E8) = some false)
    (r2_k9 : PySem.W.subIn K (.ref E2) (.ref E9) = some false)
    (r2_k10 : PySem.W.subIn K (.ref E2) (.ref E10) = some false)
    (r2_n_index : PySem.W.findIn K (.ref E2) "index" = some none)
    (r2_n_part : PySem.W.findIn K (.ref E2) "part" = some none)
    (r2_n_word : PySem.W.findIn K (.ref E2) "word" = some none)
    (r2_n_fact : PySem.W.findIn K (.ref E2) "fact" = some none)
    (r3_cl : PySem.W.isClsIn K E3 = true)
    (r3_ga : PySem.W.findIn K (.ref E3) "__getattribute__" = some (some (.builtin "BaseException.__getattribute__")))
    (r3_gt : PySem.W.findIn K (.ref E3) "__getattr__" = some none)
    (r3_be : PySem.W.subIn K (.ref E3) (.type "BaseException") = some true)
    (r3_kc : PySem.W.findIn K (.ref E3) "__class__" = some (some (.builtin "object.__class__")))
    (r3_ob : PySem.W.mroIn K E3 (.type "object") = some true)
    (r3_hd : PySem.W.hasDictIn K E3 = true)
    (r3_sC : PySem.W.subIn K (.ref E3) (.ref CE) = some true)
    (r3_ve : PySem.W.subIn K (.ref E3) (.type "ValueError") = some true)
    (r3_k0 : PySem.W.subIn K (.ref E3) (.ref E0) = some false)
    (r3_k1 : PySem.W.subIn K (.ref E3) (.ref E1) = some false)
    (r3_k2 : PySem.W.subIn K (.ref E3) (.ref E2) = some false)
    (r3_k3 : PySem.W.subIn K (.ref E3) (.ref E3) = some true)
    (r3_k4 : PySem.W.subIn K (.ref E3) (.ref E4) = some false)
    (r3_k5 : PySem.W.subIn K (.ref E3) (.ref E5) = some false)
    (r3_k6 : PySem.W.subIn K (.ref E3) (.ref E6) = some false)
    (r3_k7 : PySem.W.subIn K (.ref E3) (.ref E7) = some false)
    (r3_k8 : PySem.W.subIn K (.ref E3) (.ref E8) = some false)
    (r3_k9 : PySem.W.subIn K (.ref E3) (.ref E9) = some false)
    (r3_k10 : PySem.W.subIn K (.ref E3) (.ref E10) = some false)
    (r3_n_index : PySem.W.findIn K (.ref E3) "index" = some none)
    (r3_n_part : PySem.W.findIn K (.ref E3) "part" = some none)
    (r3_n_word : PySem.W.findIn K (.ref E3) "word" = some none)
    (r3_n_fact : PySem.W.findIn K (.ref E3) "fact" = some none)
    (r4_cl : PySem.W.isClsIn K E4 = true)
    (r4_ga : PySem.W.findIn K (.ref E4) "__getattribute__" = some (some (.builtin "BaseException.__getattribute__")))
    (r4_gt : PySem.W.findIn K (.ref E4) "__getattr__" = some none)
    (r4_be : PySem.W.subIn K (.ref E4) (.type "BaseException") = some true)
    (r4_kc : PySem.W.findIn K (.ref E4) "__class__" = some (some (.builtin "object.__class__")))
    (r4_ob : PySem.W.mroIn K E4 (.type "object") = some true)
    (r4_hd : PySem.W.hasDictIn K E4 = true)
    (r4_sC : PySem.W.subIn K (.ref E4) (.ref CE) = some true)
    (r4_ve : PySem.W.subIn K (.ref E4) (.type "ValueError") = some true)
    (r4_k0 : PySem.W.subIn K (.ref E4) (.ref E0) = some false)
    (r4_k1 : PySem.W.subIn K (.ref E4) (.ref E1) = some false)
    (r4_k2 : PySem.W.subIn K (.ref E4) (.ref E2) = some false)
    (r4_k3 : PySem.W.subIn K (.ref E4) (.ref E3) = some false)
    (r4_k4 : PySem.W.subIn K (.ref E4) (.ref E4) = some true)
    (r4_k5 : PySem.W.subIn K (.ref E4) (.ref E5) = some false)
    (r4_k6 : PySem.W.subIn K (.ref E4) (.ref E6) = some false)
    (r4_k7 : PySem.W.subIn K (.ref E4) (.ref E7) = some false)
    (r4_k8 : PySem.W.subIn K (.ref E4) (.ref E8) = some false)
    (r4_k9 : PySem.W.subIn K (.ref E4) (.ref E9) = some false)
    (r4_k10 : PySem.W.subIn K (.ref E4) (.ref E10) = some false)
    (r4_n_index : PySem.W.findIn K (.ref E4) "index" = some none)
    (r4_n_part : PySem.W.findIn K (.ref E4) "part" = some none)
    (r4_n_word : PySem.W.findIn K (.ref E4) "word" = some none)
    (r4_n_fact : PySem.W.findIn K (.ref E4) "fact" = some none)
    (sg : PySem.W.specialIn K (.builtin "object.__class__") "__get__" = some (some (.builtin "getset_descriptor.__get__")))
    (tk : PySem.W.takesIn K (.builtin "object.__class__") = some true)
    (x_E : K.lookup CE = some (excClassObj nmE qE CE NE bsE bmE true snE suE abE colE ddE x0E x1E x2E x3E x5E "ValueError.__new__"))
    (f_E : PySem.W.findIn K (.ref CE) "__init__" = some (some (.builtin "ValueError.__init__")))
    (noS : PySem.W.nsIn K mainGlobals "super" = some none)
    (opq : PySem.W.nsIn K cStatics "thirdparty.any" = some none)
    (i1_x : K.lookup E1 = some (excClassObj nmi1 qi1 E1 Ni1 bsi1 bmi1 true sni1 sui1 abi1 coli1 ddi1 x0i1 x1i1 x2i1 x3i1 x5i1 "ValueError.__new__"))
    (i1_rv : HandSPX.refsVE bmi1 = true)
    (i1_sa : PySem.W.findIn K (.ref E1) "__setattr__" = some (some (.builtin "object.__setattr__")))
    (i1_ty : PySem.W.typeIn K (.ref E1) = some (.type "type"))
    (i1_kC : PySem.W.keepIn K (.ref E1) = true)
    (i1_in : PySem.W.findIn K (.ref E1) "__init__" = some (some (.ref fIi1)))
    (i1_tI : PySem.W.typeIn K (.ref fIi1) = some (.type "function"))
    (i1_lI : K.lookup fIi1 = some ⟨ocii1, odii1, .func (supFd (nf_InvalidCase celi1 codi1) kVii1 dcii1 pmii1 anii1 ctii1), slii1⟩)
    (i1_cI : PySem.W.codeIn K (.ref codi1) "InvalidCase.__init__" = true)
    (i1_ce : K.lookup celi1 = some ⟨clci1, ccddi1, .cell (some (.ref E1)), csli1⟩)
    (i1_co : K.lookup codi1 = some ⟨ccli1, cddi1, .fields vsi1, ccsi1⟩)
    (i1_fi : vsi1[2]? = some (.str fili1 tfii1))
    (i1_fe : ((P.main.file : Str) == fili1) = true)
    (i1_sb : PySem.W.mroIn K E1 (.ref E1) = some true)
    (i1_bm : bmi1 = .ref CE :: bmE)
    (i1_vB : PySem.W.subIn K (.ref E1) (.type "ValueError") = some true)
    (i1_bE : PySem.W.subIn K (.ref E1) (.type "BaseException") = some true)
    (i1_f_index : PySem.W.findIn K (.ref E1) "index" = some none)
    (i7_x : K.lookup E7 = some (excClassObj nmi7 qi7 E7 Ni7 bsi7 bmi7 true sni7 sui7 abi7 coli7 ddi7 x0i7 x1i7 x2i7 x3i7 x5i7 "ValueError.__new__"))
    (i7_rv : HandSPX.refsVE bmi7 = true)
    (i7_sa : PySem.W.findIn K (.ref E7) "__setattr__" = some (some (.builtin "object.__setattr__")))
    (i7_ty : PySem.W.typeIn K (.ref E7) = some (.type "type"))
    (i7_kC : PySem.W.keepIn K (.ref E7) = true)
    (i7_in : PySem.W.findIn K (.ref E7) "__init__" = some (some (.ref fIi7)))
    (i7_tI : PySem.W.typeIn K (.ref fIi7) = some (.type "function"))
    (i7_lI : K.lookup fIi7 = some ⟨ocii7, odii7, .func (supFd (nf_InvalidFacts celi7 codi7) kVii7 dcii7 pmii7 anii7 ctii7), slii7⟩)
    (i7_cI : PySem.W.codeIn K (.ref codi7) "InvalidFacts.__init__" = true)
    (i7_ce : K.lookup celi7 = some ⟨clci7, ccddi7, .cell (some (.ref E7)), csli7⟩)
    (i7_co : K.lookup codi7 = some ⟨ccli7, cddi7, .fields vsi7, ccsi7⟩)
    (i7_fi : vsi7[2]? = some (.str fili7 tfii7))
    (i7_fe : ((P.main.file : Str) == fili7) = true)
    (i7_sb : PySem.W.mroIn K E7 (.ref E7) = some true)
    (i7_bm : bmi7 = .ref CE :: bmE)
    (i7_vB : PySem.W.subIn K (.ref E7) (.type "ValueError") = some true)
    (i7_bE : PySem.W.subIn K (.ref E7) (.type "BaseException") = some true)
    (i7_f_index : PySem.W.findIn K (.ref E7) "index" = some none)
    (i8_x : K.lookup E8 = some (excClassObj nmi8 qi8 E8 Ni8 bsi8 bmi8 true sni8 sui8 abi8 coli8 ddi8 x0i8 x1i8 x2i8 x3i8 x5i8 "ValueError.__new__"))
    (i8_rv : HandSPX.refsVE bmi8 = true)
    (i8_sa : PySem.W.findIn K (.ref E8) "__setattr__" = some (some (.builtin "object.__setattr__")))
    (i8_ty : PySem.W.typeIn K (.ref E8) = some (.type "type"))
    (i8_kC : PySem.W.keepIn K (.ref E8) = true)
    (i8_in : PySem.W.findIn K (.ref E8) "__init__" = some (some (.ref fIi8)))
    (i8_tI : PySem.W.typeIn K (.ref fIi8) = some (.type "function"))
    (i8_lI : K.lookup fIi8 = some ⟨ocii8, odii8, .func (supFd (nf_InvalidCondition celi8 codi8) kVii8 dcii8 pmii8 anii8 ctii8), slii8⟩)
    (i8_cI : PySem.W.codeIn K (.ref codi8) "InvalidCondition.__init__" = true)
    (i8_ce : K.lookup celi8 = some ⟨clci8, ccddi8, .cell (some (.ref E8)), csli8⟩)
    (i8_co : K.lookup codi8 = some ⟨ccli8, cddi8, .fields vsi8, ccsi8⟩)
    (i8_fi : vsi8[2]? = some (.str fili8 tfii8))
    (i8_fe : ((P.main.file : Str) == fili8) = true)
    (i8_sb : PySem.W.mroIn K E8 (.ref E8) = some true)
    (i8_bm : bmi8 = .ref CE :: bmE)
    (i8_vB : PySem.W.subIn K (.ref E8) (.type "ValueError") = some true)
    (i8_bE : PySem.W.subIn K (.ref E8) (.type "BaseException") = some true)
    (i8_f_part : PySem.W.findIn K (.ref E8) "part" = some none)
    (i8_f_index : PySem.W.findIn K (.ref E8) "index" = some none)
    (i9_x : K.lookup E9 = some (excClassObj nmi9 qi9 E9 Ni9 bsi9 bmi9 true sni9 sui9 abi9 coli9 ddi9 x0i9 x1i9 x2i9 x3i9 x5i9 "ValueError.__new__"))
    (i9_rv : HandSPX.refsVE bmi9 = true)
    (i9_sa : PySem.W.findIn K (.ref E9) "__setattr__" = some (some (.builtin "object.__setattr__")))
    (i9_ty : PySem.W.typeIn K (.ref E9) = some (.type "type"))
    (i9_kC : PySem.W.keepIn K (.ref E9) = true)
    (i9_in : PySem.W.findIn K (.ref E9) "__init__" = some (some (.ref fIi9)))
    (i9_tI : PySem.W.typeIn K (.ref fIi9) = some (.type "function"))
    (i9_lI : K.lookup fIi9 = some ⟨ocii9, odii9, .func (supFd (nf_InvalidRule celi9 codi9) kVii9 dcii9 pmii9 anii9 ctii9), slii9⟩)
    (i9_cI : PySem.W.codeIn K (.ref codi9) "InvalidRule.__init__" = true)
    (i9_ce : K.lookup celi9 = some ⟨clci9, ccddi9, .cell (some (.ref E9)), csli9⟩)
    (i9_co : K.lookup codi9 = some ⟨ccli9, cddi9, .fields vsi9, ccsi9⟩)
    (i9_fi : vsi9[2]? = some (.str fili9 tfii9))
    (i9_fe : ((P.main.file : Str) == fili9) = true)
    (i9_sb : PySem.W.mroIn K E9 (.ref E9) = some true)
    (i9_bm : bmi9 = .ref CE :: bmE)
    (i9_vB : PySem.W.subIn K (.ref E9) (.type "ValueError") = some true)
    (i9_bE : PySem.W.subIn K (.ref E9) (.type "BaseException") = some true)
    (i9_f_part : PySem.W.findIn K (.ref E9) "part" = some none)
    (i10_x : K.lookup E10 = some (excClassObj nmi10 qi10 E10 Ni10 bsi10 bmi10 true sni10 sui10 abi10 coli10 ddi10 x0i10 x1i10 x2i10 x3i10 x5i10 "ValueError.__new__"))
    (i10_rv : HandSPX.refsVE bmi10 = true)
    (i10_sa : PySem.W.findIn K (.ref E10) "__setattr__" = some (some (.builtin "object.__setattr__")))
    (i10_ty : PySem.W.typeIn K (.ref E10) = some (.type "type"))
    (i10_kC : PySem.W.keepIn K (.ref E10) = true)
    (i10_in : PySem.W.findIn K (.ref E10) "__init__" = some (some (.ref fIi10)))
    (i10_tI : PySem.W.typeIn K (.ref fIi10) = some (.type "function"))
    (i10_lI : K.lookup fIi10 = some ⟨ocii10, odii10, .func (supFd (nf_InvalidBook celi10 codi10) kVii10 dcii10 pmii10 anii10 ctii10), slii10⟩)
    (i10_cI : PySem.W.codeIn K (.ref codi10) "InvalidBook.__init__" = true)
    (i10_ce : K.lookup celi10 = some ⟨clci10, ccddi10, .cell (some (.ref E10)), csli10⟩)
    (i10_co : K.lookup codi10 = some ⟨ccli10, cddi10, .fields vsi10, ccsi10⟩)
    (i10_fi : vsi10[2]? = some (.str fili10 tfii10))
    (i10_fe : ((P.main.file : Str) == fili10) = true)
    (i10_sb : PySem.W.mroIn K E10 (.ref E10) = some true)
    (i10_bm : bmi10 = .ref CE :: bmE)
    (i10_vB : PySem.W.subIn K (.ref E10) (.type "ValueError") = some true)
    (i10_bE : PySem.W.subIn K (.ref E10) (.type "BaseException") = some true)
    (i10_f_word : PySem.W.findIn K (.ref E10) "word" = some none)
    (i10_f_index : PySem.W.findIn K (.ref E10) "index" = some none)
    (p0_q : PySem.W.excIn K E0 [.type "ValueError", .type "Exception", .type "BaseException", .type "object"] "ValueError.__new__" = true)
    (p0_k : PySem.W.keepIn K (.ref E0) = true)
    (p0_b : PySem.W.subIn K (.ref E0) (.type "BaseException") = some true)
    (p0_t : PySem.W.typeIn K (.ref E0) = some (.type "type"))
    (p2_q : PySem.W.excIn K E2 [.type "ValueError", .type "Exception", .type "BaseException", .type "object"] "ValueError.__new__" = true)
    (p2_k : PySem.W.keepIn K (.ref E2) = true)
    (p2_b : PySem.W.subIn K (.ref E2) (.type "BaseException") = some true)
    (p2_t : PySem.W.typeIn K (.ref E2) = some (.type "type"))
    (p3_q : PySem.W.excIn K E3 [.type "ValueError", .type "Exception", .type "BaseException", .type "object"] "ValueError.__new__" = true)
    (p3_k : PySem.W.keepIn K (.ref E3) = true)
    (p3_b : PySem.W.subIn K (.ref E3) (.type "BaseException") = some true)
    (p3_t : PySem.W.typeIn K (.ref E3) = some (.type "type"))
    (p4_q : PySem.W.excIn K E4 [.type "ValueError", .type "Exception", .type "BaseException", .type "object"] "ValueError.__new__" = true)
    (p4_k : PySem.W.keepIn K (.ref E4) = true)
    (p4_b : PySem.W.subIn K (.ref E4) (.type "BaseException") = some true)
    (p4_t : PySem.W.typeIn K (.ref E4) = some (.type "type"))
    (p5_q : PySem.W.excIn K E5 [.type "ValueError", .type "Exception", .type "BaseException", .type "object"] "ValueError.__new__" = true)
    (p5_k : PySem.W.keepIn K (.ref E5) = true)
    (p5_b : PySem.W.subIn K (.ref E5) (.type "BaseException") = some true)
    (p5_t : PySem.W.typeIn K (.ref E5) = some (.type "type"))
    (p6_q : PySem.W.excIn K E6 [.type "ValueError", .type "Exception", .type "BaseException", .type "object"] "ValueError.__new__" = true)
    (p6_k : PySem.W.keepIn K (.ref E6) = true)
    (p6_b : PySem.W.subIn K (.ref E6) (.type "BaseException") = some true)
    (p6_t : PySem.W.typeIn K (.ref E6) = some (.type "type"))
    (tbl : K.lookup cc_law = some ocl)
    (tb0 : PySem.W.codeHdIn [(cc_law, ocl)] cc_law Tb0 = true)
    (tb1 : h.get? Tb0 = some ⟨.none, none, .fields #[], #[]⟩)
    (tb2 : K.lookup Tb0 = none)
    (top0 : (P.main.scope.names.lookup ("super" : Str)).isSome = false) : LamX.LawAtS l w K CX0 42 63 "_law_script" mg fa h := by
  have e := hfa.symm.trans (PySem.W.mg_of X G a_law)
  cases e
  subst eP
  have B : Blt mg := ⟨PySem.W.mg_none_of X G b_isinstance, PySem.W.mg_none_of X G b_len, PySem.W.mg_none_of X G b_all, PySem.W.mg_none_of X G b_any, PySem.W.mg_none_of X G b_sum, PySem.W.mg_none_of X G b_max, PySem.W.mg_none_of X G b_min, PySem.W.mg_none_of X G b_int, PySem.W.mg_none_of X G b_str, PySem.W.mg_none_of X G b_bool, PySem.W.mg_none_of X G b_list, PySem.W.mg_none_of X G b_tuple, PySem.W.mg_none_of X G b_dict, PySem.W.mg_none_of X G b_range, PySem.W.mg_none_of X G b_enumerate, PySem.W.mg_none_of X G b_sorted, PySem.W.mg_none_of X G b_reversed, PySem.W.mg_none_of X G b_zip, PySem.W.mg_none_of X G b_set, PySem.W.mg_none_of X G b_ValueError⟩
  have F_is_name := fun_mk (st := s_is_name) l_is_name c_is_name k_is_name
  have b_is_name := F_is_name.binds (ps := ["value"]) fun _ _ _ _ _ _ us hl => match us, hl with | [_], _ => rfl
  have F_check_word := fun_mk (st := s_check_word) l_check_word c_check_word k_check_word
  have b_check_word := F_check_word.binds (ps := ["ruling"]) fun _ _ _ _ _ _ us hl => match us, hl with | [_], _ => rfl
  have F_rises := fun_mk (st := s_rises) l_rises c_rises k_rises
  have b_rises := F_rises.binds (ps := ["names", "index"]) fun _ _ _ _ _ _ us hl => match us, hl with | [_, _], _ => rfl
  have F_check_facts := fun_mk (st := s_check_facts) l_check_facts c_check_facts k_check_facts
  have b_check_facts := F_check_facts.binds (ps := ["facts"]) fun _ _ _ _ _ _ us hl => match us, hl with | [_], _ => rfl
  have F_check_case := fun_mk (st := s_check_case) l_check_case c_check_case k_check_case
  have b_check_case := F_check_case.binds (ps := ["facts", "case"]) fun _ _ _ _ _ _ us hl => match us, hl with | [_, _], _ => rfl
  have F_steps := fun_mk (st := s_steps) l_steps c_steps k_steps
  have b_steps := F_steps.binds (ps := ["rules", "case"]) fun _ _ _ _ _ _ us hl => match us, hl with | [_, _], _ => rfl
  have F_up_to_first_met := fun_mk (st := s_up_to_first_met) l_up_to_first_met c_up_to_first_met k_up_to_first_met
  have b_up_to_first_met := F_up_to_first_met.binds (ps := ["rules", "case"]) fun _ _ _ _ _ _ us hl => match us, hl with | [_, _], _ => rfl
  have F_looked_into := fun_mk (st := s_looked_into) l_looked_into c_looked_into k_looked_into
  have b_looked_into := F_looked_into.binds (ps := ["rules", "case"]) fun _ _ _ _ _ _ us hl => match us, hl with | [_, _], _ => rfl
  have F_nested := fun_mk (st := s_nested) l_nested c_nested k_nested
  have b_nested := F_nested.binds (ps := ["rules", "around"]) fun _ _ _ _ _ _ us hl => match us, hl with | [_, _], _ => rfl
  have F_check_rules := fun_mk (st := s_check_rules) l_check_rules c_check_rules k_check_rules
  have b_check_rules := F_check_rules.binds (ps := ["facts", "rules"]) fun _ _ _ _ _ _ us hl => match us, hl with | [_, _], _ => rfl
  have F_replaced := fun_mk (st := s_replaced) l_replaced c_replaced k_replaced
  have b_replaced := F_replaced.binds (ps := ["rules", "name", "others"]) fun _ _ _ _ _ _ us hl => match us, hl with | [_, _, _], _ => rfl
  have F_path_to := fun_mk (st := s_path_to) l_path_to c_path_to k_path_to
  have b_path_to := F_path_to.binds (ps := ["rules", "name"]) fun _ _ _ _ _ _ us hl => match us, hl with | [_, _], _ => rfl
  have F_next_beside := fun_mk (st := s_next_beside) l_next_beside c_next_beside k_next_beside
  have b_next_beside := F_next_beside.binds (ps := ["book", "name"]) fun _ _ _ _ _ _ us hl => match us, hl with | [_, _], _ => rfl
  have F_swapped := fun_mk (st := s_swapped) l_swapped c_swapped k_swapped
  have b_swapped := F_swapped.binds (ps := ["book", "name"]) fun _ _ _ _ _ _ us hl => match us, hl with | [_, _], _ => rfl
  have F_check_part := fun_mk (st := s_check_part) l_check_part c_check_part k_check_part
  have b_check_part := F_check_part.binds (ps := ["part", "names", "before"]) fun _ _ _ _ _ _ us hl => match us, hl with | [_, _, _], _ => rfl
  have F_merged := fun_mk (st := s_merged) l_merged c_merged k_merged
  have b_merged := F_merged.binds (ps := ["names", "others"]) fun _ _ _ _ _ _ us hl => match us, hl with | [_, _], _ => rfl
  have F_amended := fun_mk (st := s_amended) l_amended c_amended k_amended
  have b_amended := F_amended.binds (ps := ["book", "amendment"]) fun _ _ _ _ _ _ us hl => match us, hl with | [_, _], _ => rfl
  have F_amended_book := fun_mk (st := s_amended_book) l_amended_book c_amended_book k_amended_book
  have b_amended_book := F_amended_book.binds (ps := ["book", "word", "new"]) fun _ _ _ _ _ _ us hl => match us, hl with | [_, _, _], _ => rfl
  have F_amended_rule := fun_mk (st := s_amended_rule) l_amended_rule c_amended_rule k_amended_rule
  have b_amended_rule := F_amended_rule.binds (ps := ["rule", "word", "new"]) fun _ _ _ _ _ _ us hl => match us, hl with | [_, _, _], _ => rfl
  have F_is_amendment := fun_mk (st := s_is_amendment) l_is_amendment c_is_amendment k_is_amendment
  have b_is_amendment := F_is_amendment.binds (ps := ["value"]) fun _ _ _ _ _ _ us hl => match us, hl with | [_], _ => rfl
  have F_is_new := fun_mk (st := s_is_new) l_is_new c_is_new k_is_new
  have b_is_new := F_is_new.binds (ps := ["word", "value"]) fun _ _ _ _ _ _ us hl => match us, hl with | [_, _], _ => rfl
  have F_decider := fun_mk (st := s_decider) l_decider c_decider k_decider
  have b_decider := F_decider.binds (ps := ["book", "case"]) fun _ _ _ _ _ _ us hl => match us, hl with | [_, _], _ => rfl
  have F_outcome := fun_mk (st := s_outcome) l_outcome c_outcome k_outcome
  have b_outcome := F_outcome.binds (ps := ["book", "case"]) fun _ _ _ _ _ _ us hl => match us, hl with | [_, _], _ => rfl
  have F_way := fun_mk (st := s_way) l_way c_way k_way
  have b_way := F_way.binds (ps := ["book", "case"]) fun _ _ _ _ _ _ us hl => match us, hl with | [_, _], _ => rfl
  have F_small_conditions := fun_mk (st := s_small_conditions) l_small_conditions c_small_conditions k_small_conditions
  have b_small_conditions := F_small_conditions.binds (ps := ["facts"]) fun _ _ _ _ _ _ us hl => match us, hl with | [_], _ => rfl
  have F_orders_of := fun_mk (st := s_orders_of) l_orders_of c_orders_of k_orders_of
  have b_orders_of := F_orders_of.binds (ps := ["count"]) fun _ _ _ _ _ _ us hl => match us, hl with | [_], _ => rfl
  have F_check_left := fun_mk (st := s_check_left) l_check_left c_check_left k_check_left
  have b_check_left := F_check_left.binds (ps := ["left"]) fun _ _ _ _ _ _ us hl => match us, hl with | [_], _ => rfl
  have F__law_mix := fun_mk (st := s__law_mix) l__law_mix c__law_mix k__law_mix
  have b__law_mix := F__law_mix.binds (ps := ["_law_script", "_law_seed"]) fun _ _ _ _ _ _ us hl => match us, hl with | [_, _], _ => rfl
  have F__law_next := fun_mk (st := s__law_next) l__law_next c__law_next k__law_next
  have b__law_next := F__law_next.binds (ps := ["_law_h", "_law_limit"]) fun _ _ _ _ _ _ us hl => match us, hl with | [_, _], _ => rfl
  have F__law_word := fun_mk (st := s__law_word) l__law_word c__law_word k__law_word
  have b__law_word := F__law_word.binds (ps := ["_law_work"]) fun _ _ _ _ _ _ us hl => match us, hl with | [_], _ => rfl
  have ec_Contradiction : ErrC K E0 := ⟨r0_cl, r0_ga, r0_gt, r0_be, r0_kc, sg, tk, r0_ob, r0_hd⟩
  have ec_InvalidCase : ErrC K E1 := ⟨r1_cl, r1_ga, r1_gt, r1_be, r1_kc, sg, tk, r1_ob, r1_hd⟩
  have ec_InvalidRuling : ErrC K E2 := ⟨r2_cl, r2_ga, r2_gt, r2_be, r2_kc, sg, tk, r2_ob, r2_hd⟩
  have ec_TooMany : ErrC K E3 := ⟨r3_cl, r3_ga, r3_gt, r3_be, r3_kc, sg, tk, r3_ob, r3_hd⟩
  have ec_UnknownRule : ErrC K E4 := ⟨r4_cl, r4_ga, r4_gt, r4_be, r4_kc, sg, tk, r4_ob, r4_hd⟩
  have ox_InvalidCase : OexC K E1 := ⟨⟨_, _, _, _, _, _, _, _, _, _, _, _, _, _, _, i1_x, i1_rv⟩, i1_sa, i1_bE, i1_ty, i1_kC⟩
  have sp_InvalidCase : SupC l.prog K mg E1 celi1 codi1 := ⟨⟨_, _, _, i1_ce⟩, ⟨_, _, _, _, _, _, i1_co, i1_fi, i1_fe⟩, i1_sb, PySem.W.mg_none_of X G noS, opq, sup_by i1_x x_E i1_bm f_E, i1_vB, top0⟩
  have ox_InvalidFacts : OexC K E7 := ⟨⟨_, _, _, _, _, _, _, _, _, _, _, _, _, _, _, i7_x, i7_rv⟩, i7_sa, i7_bE, i7_ty, i7_kC⟩
  have sp_InvalidFacts : SupC l.prog K mg E7 celi7 codi7 := ⟨⟨_, _, _, i7_ce⟩, ⟨_, _, _, _, _, _, i7_co, i7_fi, i7_fe⟩, i7_sb, PySem.W.mg_none_of X G noS, opq, sup_by i7_x x_E i7_bm f_E, i7_vB, top0⟩
  have ox_InvalidCondition : OexC K E8 := ⟨⟨_, _, _, _, _, _, _, _, _, _, _, _, _, _, _, i8_x, i8_rv⟩, i8_sa, i8_bE, i8_ty, i8_kC⟩
  have sp_InvalidCondition : SupC l.prog K mg E8 celi8 codi8 := ⟨⟨_, _, _, i8_ce⟩, ⟨_, _, _, _, _, _, i8_co, i8_fi, i8_fe⟩, i8_sb, PySem.W.mg_none_of X G noS, opq, sup_by i8_x x_E i8_bm f_E, i8_vB, top0⟩
  have ox_InvalidRule : OexC K E9 := ⟨⟨_, _, _, _, _, _, _, _, _, _, _, _, _, _, _, i9_x, i9_rv⟩, i9_sa, i9_bE, i9_ty, i9_kC⟩
  have sp_InvalidRule : SupC l.prog K mg E9 celi9 codi9 := ⟨⟨_, _, _, i9_ce⟩, ⟨_, _, _, _, _, _, i9_co, i9_fi, i9_fe⟩, i9_sb, PySem.W.mg_none_of X G noS, opq, sup_by i9_x x_E i9_bm f_E, i9_vB, top0⟩
  have ox_InvalidBook : OexC K E10 := ⟨⟨_, _, _, _, _, _, _, _, _, _, _, _, _, _, _, i10_x, i10_rv⟩, i10_sa, i10_bE, i10_ty, i10_kC⟩
  have sp_InvalidBook : SupC l.prog K mg E10 celi10 codi10 := ⟨⟨_, _, _, i10_ce⟩, ⟨_, _, _, _, _, _, i10_co, i10_fi, i10_fe⟩, i10_sb, PySem.W.mg_none_of X G noS, opq, sup_by i10_x x_E i10_bm f_E, i10_vB, top0⟩
  have F_mi := fun_mk (st := s_Condition___init__) l_mi c_mi k_mi
  have b_mi := F_mi.binds (ps := ["self", "holding", "failing"]) fun _ _ _ _ _ _ us hl => match us, hl with | [_, _, _], _ => rfl
  have F_mh := fun_mk (st := s_Condition_holding) l_mh c_mh k_mh
  have b_mh := F_mh.binds (ps := ["self"]) fun _ _ _ _ _ _ us hl => match us, hl with | [_], _ => rfl
  have F_mf := fun_mk (st := s_Condition_failing) l_mf c_mf k_mf
  have b_mf := F_mf.binds (ps := ["self"]) fun _ _ _ _ _ _ us hl => match us, hl with | [_], _ => rfl
  have F_mn := fun_mk (st := s_Condition_names) l_mn c_mn k_mn
  have b_mn := F_mn.binds (ps := ["self"]) fun _ _ _ _ _ _ us hl => match us, hl with | [_], _ => rfl
  have F_ri := fun_mk (st := s_Rule___init__) l_ri c_ri k_ri
  have b_ri := F_ri.binds (ps := ["self", "name", "condition", "ruling", "exceptions"]) fun _ _ _ _ _ _ us hl => match us, hl with | [_, _, _, _, _], _ => rfl
  have F_rn := fun_mk (st := s_Rule_name) l_rn c_rn k_rn
  have b_rn := F_rn.binds (ps := ["self"]) fun _ _ _ _ _ _ us hl => match us, hl with | [_], _ => rfl
  have F_rc := fun_mk (st := s_Rule_condition) l_rc c_rc k_rc
  have b_rc := F_rc.binds (ps := ["self"]) fun _ _ _ _ _ _ us hl => match us, hl with | [_], _ => rfl
  have F_rr := fun_mk (st := s_Rule_ruling) l_rr c_rr k_rr
  have b_rr := F_rr.binds (ps := ["self"]) fun _ _ _ _ _ _ us hl => match us, hl with | [_], _ => rfl
  have F_re := fun_mk (st := s_Rule_exceptions) l_re c_re k_re
  have b_re := F_re.binds (ps := ["self"]) fun _ _ _ _ _ _ us hl => match us, hl with | [_], _ => rfl
  have F_rd := fun_mk (st := s_Rule_depth) l_rd c_rd k_rd
  have b_rd := F_rd.binds (ps := ["self"]) fun _ _ _ _ _ _ us hl => match us, hl with | [_], _ => rfl
  have F_bi := fun_mk (st := s_Book___init__) l_bi c_bi k_bi
  have b_bi := F_bi.binds (ps := ["self", "facts", "rules", "ruling"]) fun _ _ _ _ _ _ us hl => match us, hl with | [_, _, _, _], _ => rfl
  have F_bf := fun_mk (st := s_Book_facts) l_bf c_bf k_bf
  have b_bf := F_bf.binds (ps := ["self"]) fun _ _ _ _ _ _ us hl => match us, hl with | [_], _ => rfl
  have F_bs := fun_mk (st := s_Book_rules) l_bs c_bs k_bs
  have b_bs := F_bs.binds (ps := ["self"]) fun _ _ _ _ _ _ us hl => match us, hl with | [_], _ => rfl
  have F_br := fun_mk (st := s_Book_ruling) l_br c_br k_br
  have b_br := F_br.binds (ps := ["self"]) fun _ _ _ _ _ _ us hl => match us, hl with | [_], _ => rfl
  have F_wi := fun_mk (st := s_ConditionWatcher___init__) l_wi c_wi k_wi
  have b_wi := F_wi.binds (ps := ["self", "book", "name"]) fun _ _ _ _ _ _ us hl => match us, hl with | [_, _, _], _ => rfl
  have F_wc := fun_mk (st := s_ConditionWatcher_candidates) l_wc c_wc k_wc
  have b_wc := F_wc.binds (ps := ["self"]) fun _ _ _ _ _ _ us hl => match us, hl with | [_], _ => rfl
  have F_wr := fun_mk (st := s_ConditionWatcher_records) l_wr c_wr k_wr
  have b_wr := F_wr.binds (ps := ["self"]) fun _ _ _ _ _ _ us hl => match us, hl with | [_], _ => rfl
  have F_oi := fun_mk (st := s_OrderWatcher___init__) l_oi c_oi k_oi
  have b_oi := F_oi.binds (ps := ["self", "book"]) fun _ _ _ _ _ _ us hl => match us, hl with | [_, _], _ => rfl
  have F_oc := fun_mk (st := s_OrderWatcher_order_count) l_oc c_oc k_oc
  have b_oc := F_oc.binds (ps := ["self"]) fun _ _ _ _ _ _ us hl => match us, hl with | [_], _ => rfl
  have F_or := fun_mk (st := s_OrderWatcher_records) l_or c_or k_or
  have b_or := F_or.binds (ps := ["self"]) fun _ _ _ _ _ _ us hl => match us, hl with | [_], _ => rfl
  have F_gc := fun_mk (st := s_Book___contains__) l_gc c_gc k_gc
  have b_gc := F_gc.binds (ps := ["self", "name"]) fun _ _ _ _ _ _ us hl => match us, hl with | [_, _], _ => rfl
  have F_gi := fun_mk (st := s_Book___getitem__) l_gi c_gi k_gi
  have b_gi := F_gi.binds (ps := ["self", "name"]) fun _ _ _ _ _ _ us hl => match us, hl with | [_, _], _ => rfl
  have F_gs := fun_mk (st := s_Book___sub__) l_gs c_gs k_gs
  have b_gs := F_gs.binds (ps := ["self", "name"]) fun _ _ _ _ _ _ us hl => match us, hl with | [_, _], _ => rfl
  have F_bc := fun_mk (st := s_Book___call__) l_bc c_bc k_bc
  have b_bc := F_bc.binds (ps := ["self", "case"]) fun _ _ _ _ _ _ us hl => match us, hl with | [_, _], _ => rfl
  have F_mc := fun_mk (st := s_Condition___call__) l_mc c_mc k_mc
  have b_mc := F_mc.binds (ps := ["self", "case"]) fun _ _ _ _ _ _ us hl => match us, hl with | [_, _], _ => rfl
  have F_wq := fun_mk (st := s_ConditionWatcher__outcomes) l_wq c_wq k_wq
  have b_wq := F_wq.binds (ps := ["self", "case"]) fun _ _ _ _ _ _ us hl => match us, hl with | [_, _], _ => rfl
  have F_wa := fun_mk (st := s_ConditionWatcher__accept) l_wa c_wa k_wa
  have b_wa := F_wa.binds (ps := ["self", "record", "met", "unmet"]) fun _ _ _ _ _ _ us hl => match us, hl with | [_, _, _, _], _ => rfl
  have F_ws := fun_mk (st := s_ConditionWatcher_see) l_ws c_ws k_ws
  have b_ws := F_ws.binds (ps := ["self", "case", "ruling"]) fun _ _ _ _ _ _ us hl => match us, hl with | [_, _, _], _ => rfl
  have F_wd := fun_mk (st := s_ConditionWatcher_see_decider) l_wd c_wd k_wd
  have b_wd := F_wd.binds (ps := ["self", "case", "name"]) fun _ _ _ _ _ _ us hl => match us, hl with | [_, _, _], _ => rfl
  have F_wp := fun_mk (st := s_ConditionWatcher_possible) l_wp c_wp k_wp
  have b_wp := F_wp.binds (ps := ["self", "case"]) fun _ _ _ _ _ _ us hl => match us, hl with | [_, _], _ => rfl
  have F_os := fun_mk (st := s_OrderWatcher_see) l_os c_os k_os
  have b_os := F_os.binds (ps := ["self", "case", "ruling"]) fun _ _ _ _ _ _ us hl => match us, hl with | [_, _, _], _ => rfl
  have F_ou := fun_mk (st := s_OrderWatcher_sure) l_ou c_ou k_ou
  have b_ou := F_ou.binds (ps := ["self", "name", "other"]) fun _ _ _ _ _ _ us hl => match us, hl with | [_, _, _], _ => rfl
  have GN : GNames mg := ⟨⟨_, PySem.W.mg_of X G m_LETTERS⟩, ⟨_, PySem.W.mg_of X G m_LONGEST_NAME⟩⟩
  have CLc : Cls K CO := ⟨co_pg, co_hd, co_po, co_sa⟩
  have CLr : Cls K RO := ⟨ro_pg, ro_hd, ro_po, ro_sa⟩
  have CLb : Cls K BO := ⟨bo_pg, bo_hd, bo_po, bo_sa⟩
  have CLw : Cls K CW := ⟨wo_pg, wo_hd, wo_po, wo_sa⟩
  have CLo : Cls K OW := ⟨oo_pg, oo_hd, oo_po, oo_sa⟩
  refine ⟨PySem.W.fnOf "law" "law" (defArgs s_law) (defBody s_law) (defScope s_law) .none kV_law dc_law pm_law an_law (.ref cc_law) ct_law, [(cc_law, Tb0)], sp_law K Tb0, fun p hp => by rw [List.mem_singleton.mp hp]; exact tb1, fun p hp => by rw [List.mem_singleton.mp hp]; exact tb2, fun p hp => by rw [List.mem_singleton.mp hp]; exact PySem.W.codeHd_of_K X (codeHd_by tbl tb0), ?_, ?_, ?_⟩
  · exact fun s u => .of_eq rfl
  · exact fun H a ns hl hb ht hS => ⟨a, ns, rfl, hS, hl, hb, ht _ (List.mem_singleton.mpr rfl), fun _ => rfl⟩
  · intro base KB NB TBs
    have e_InvalidCase : ErrMk l.prog w K mg base "InvalidCase" E1 ["self", "index"] (sp_init1 E1 "index") := ⟨_, _, ox_InvalidCase, i1_in, i1_tI, ok_init_InvalidCase i1_lI i1_cI ox_InvalidCase sp_InvalidCase i1_f_index, fun s us _ hl => match us, hl with | [_, _], _ => .of_eq rfl, PySem.W.mg_of X G m_InvalidCase⟩
    have e_InvalidFacts : ErrMk l.prog w K mg base "InvalidFacts" E7 ["self", "index"] (sp_init1 E7 "index") := ⟨_, _, ox_InvalidFacts, i7_in, i7_tI, ok_init_InvalidFacts i7_lI i7_cI ox_InvalidFacts sp_InvalidFacts i7_f_index, fun s us _ hl => match us, hl with | [_, _], _ => .of_eq rfl, PySem.W.mg_of X G m_InvalidFacts⟩
    have e_InvalidCondition : ErrMk l.prog w K mg base "InvalidCondition" E8 ["self", "part", "index"] (sp_init2 E8 "part" "index") := ⟨_, _, ox_InvalidCondition, i8_in, i8_tI, ok_init_InvalidCondition i8_lI i8_cI ox_InvalidCondition sp_InvalidCondition i8_f_part i8_f_index, fun s us _ hl => match us, hl with | [_, _, _], _ => .of_eq rfl, PySem.W.mg_of X G m_InvalidCondition⟩
    have e_InvalidRule : ErrMk l.prog w K mg base "InvalidRule" E9 ["self", "part"] (sp_init1 E9 "part") := ⟨_, _, ox_InvalidRule, i9_in, i9_tI, ok_init_InvalidRule i9_lI i9_cI ox_InvalidRule sp_InvalidRule i9_f_part, fun s us _ hl => match us, hl with | [_, _], _ => .of_eq rfl, PySem.W.mg_of X G m_InvalidRule⟩
    have e_InvalidBook : ErrMk l.prog w K mg base "InvalidBook" E10 ["self", "word", "index"] (sp_init2 E10 "word" "index") := ⟨_, _, ox_InvalidBook, i10_in, i10_tI, ok_init_InvalidBook i10_lI i10_cI ox_InvalidBook sp_InvalidBook i10_f_word i10_f_index, fun s us _ hl => match us, hl with | [_, _, _], _ => .of_eq rfl, PySem.W.mg_of X G m_InvalidBook⟩
    have e_Contradiction : ErrMk0 K mg "Contradiction" E0 := ⟨p0_q, PySem.W.mg_of X G m_Contradiction, p0_k, p0_b, p0_t⟩
    have e_InvalidRuling : ErrMk0 K mg "InvalidRuling" E2 := ⟨p2_q, PySem.W.mg_of X G m_InvalidRuling, p2_k, p2_b, p2_t⟩
    have e_TooMany : ErrMk0 K mg "TooMany" E3 := ⟨p3_q, PySem.W.mg_of X G m_TooMany, p3_k, p3_b, p3_t⟩
    have e_UnknownRule : ErrMk0 K mg "UnknownRule" E4 := ⟨p4_q, PySem.W.mg_of X G m_UnknownRule, p4_k, p4_b, p4_t⟩
    have e_NoNeighbor : ErrMk0 K mg "NoNeighbor" E5 := ⟨p5_q, PySem.W.mg_of X G m_NoNeighbor, p5_k, p5_b, p5_t⟩
    have e_InvalidAmendment : ErrMk0 K mg "InvalidAmendment" E6 := ⟨p6_q, PySem.W.mg_of X G m_InvalidAmendment, p6_k, p6_b, p6_t⟩
    have c_is_name : Cal l.prog w K mg base CX0 1 "is_name" ["value"] (sp_is_name) := ⟨_, _, (ok_is_name F_is_name B GN), PySem.W.mg_of X G a_is_name, k_is_name, b_is_name⟩
    have c_rises : Cal l.prog w K mg base CX0 1 "rises" ["names", "index"] (sp_rises K) := ⟨_, _, (ok_rises F_rises ), PySem.W.mg_of X G a_rises, k_rises, b_rises⟩
    have c_check_facts : Cal l.prog w K mg base (L2.CX l.prog w) 3 "check_facts" ["facts"] (sp_check_facts K E7) := ⟨_, _, (ok_check_facts F_check_facts B ⟨_, PySem.W.mg_of X G m_MOST_FACTS_facts⟩ e_InvalidFacts c_is_name c_rises), PySem.W.mg_of X G a_check_facts, k_check_facts, b_check_facts⟩
    have c_check_case : Cal l.prog w K mg base (L2.CX l.prog w) 3 "check_case" ["facts", "case"] (sp_check_case K E1) := ⟨_, _, (ok_check_case F_check_case B e_InvalidCase c_rises), PySem.W.mg_of X G a_check_case, k_check_case, b_check_case⟩
    have c_check_part : Cal l.prog w K mg base (L2.CX l.prog w) 3 "check_part" ["part", "names", "before"] (sp_check_part K E8) := ⟨_, _, (ok_check_part F_check_part B ⟨_, PySem.W.mg_of X G m_MOST_NAMES⟩ e_InvalidCondition c_is_name c_rises), PySem.W.mg_of X G a_check_part, k_check_part, b_check_part⟩
    have c_merged : Cal l.prog w K mg base CX0 1 "merged" ["names", "others"] (sp_merged K) := ⟨_, _, (ok_merged F_merged B), PySem.W.mg_of X G a_merged, k_merged, b_merged⟩
    have pc_mh : PropC l.prog w K mg base CO pp_mh f_mh _ "holding" "_holding" := ⟨⟨pa_mh, pg_mh, pt_mh, ⟨_, pr_mh⟩⟩, ok_holding F_mh CLc co_n1, b_mh⟩
    have pc_mf : PropC l.prog w K mg base CO pp_mf f_mf _ "failing" "_failing" := ⟨⟨pa_mf, pg_mf, pt_mf, ⟨_, pr_mf⟩⟩, ok_failing F_mf CLc co_n2, b_mf⟩
    have pc_mn : PropC l.prog w K mg base CO pp_mn f_mn _ "names" "_names" := ⟨⟨pa_mn, pg_mn, pt_mn, ⟨_, pr_mn⟩⟩, ok_cnames F_mn CLc co_n3, b_mn⟩
    have pc_rn : PropC l.prog w K mg base RO pp_rn f_rn _ "name" "_name" := ⟨⟨pa_rn, pg_rn, pt_rn, ⟨_, pr_rn⟩⟩, ok_Rule_name F_rn CLr ro_n1, b_rn⟩
    have pc_rc : PropC l.prog w K mg base RO pp_rc f_rc _ "condition" "_condition" := ⟨⟨pa_rc, pg_rc, pt_rc, ⟨_, pr_rc⟩⟩, ok_Rule_condition F_rc CLr ro_n2, b_rc⟩
    have pc_rr : PropC l.prog w K mg base RO pp_rr f_rr _ "ruling" "_ruling" := ⟨⟨pa_rr, pg_rr, pt_rr, ⟨_, pr_rr⟩⟩, ok_Rule_ruling F_rr CLr ro_n3, b_rr⟩
    have pc_re : PropC l.prog w K mg base RO pp_re f_re _ "exceptions" "_exceptions" := ⟨⟨pa_re, pg_re, pt_re, ⟨_, pr_re⟩⟩, ok_Rule_exceptions F_re CLr ro_n4, b_re⟩
    have pc_rd : PropC l.prog w K mg base RO pp_rd f_rd _ "depth" "_depth" := ⟨⟨pa_rd, pg_rd, pt_rd, ⟨_, pr_rd⟩⟩, ok_Rule_depth F_rd CLr ro_n5, b_rd⟩
    have pc_bf : PropC l.prog w K mg base BO pp_bf f_bf _ "facts" "_facts" := ⟨⟨pa_bf, pg_bf, pt_bf, ⟨_, pr_bf⟩⟩, ok_Book_facts F_bf CLb bo_n1, b_bf⟩
    have pc_bs : PropC l.prog w K mg base BO pp_bs f_bs _ "rules" "_rules" := ⟨⟨pa_bs, pg_bs, pt_bs, ⟨_, pr_bs⟩⟩, ok_Book_rules F_bs CLb bo_n2, b_bs⟩
    have pc_br : PropC l.prog w K mg base BO pp_br f_br _ "ruling" "_ruling" := ⟨⟨pa_br, pg_br, pt_br, ⟨_, pr_br⟩⟩, ok_Book_ruling F_br CLb bo_n3, b_br⟩
    have kK : CondG l.prog w K mg base CO := ⟨CLc, ⟨_, _, _, pc_mh⟩, ⟨_, _, _, pc_mf⟩, ⟨_, _, _, pc_mn⟩⟩
    have kR : RuleX l.prog w K mg base RO := ⟨CLr, ⟨_, _, _, pc_rn⟩, ⟨_, _, _, pc_rc⟩, ⟨_, _, _, pc_rr⟩, ⟨_, _, _, pc_re⟩, ⟨_, _, _, pc_rd⟩⟩
    have kBX : BookX l.prog w K mg base BO := ⟨CLb, ⟨_, _, _, pc_bf⟩, ⟨_, _, _, pc_bs⟩, ⟨_, _, _, pc_br⟩⟩
    have c_nested : Cal l.prog w K mg base CX0 15 "nested" ["rules", "around"] (sp_nested K CO RO 12) := ⟨_, _, rec_all (S := sp_nested K CO RO) (k := 2) (fun d c => ok_nested F_nested kR c) (PySem.W.mg_of X G a_nested) k_nested b_nested 12, PySem.W.mg_of X G a_nested, k_nested, b_nested⟩
    have c_check_rules : Cal l.prog w K mg base (L2.CX l.prog w) 16 "check_rules" ["facts", "rules"] (sp_check_rules K CO RO E10) := ⟨_, _, (ok_check_rules F_check_rules B kR kK (PySem.W.mg_of X G m_MOST_AROUND) (PySem.W.mg_of X G m_MOST_RULES) (PySem.W.mg_of X G m_MOST_OUTERMOST) e_InvalidBook c_nested), PySem.W.mg_of X G a_check_rules, k_check_rules, b_check_rules⟩
    have kM : Mkr l.prog w K mg base 4 "Condition" CO ["self", "holding", "failing"] (sp_cond_init K CO E8) := ⟨_, _, ⟨co_mk, co_in, co_fn, co_kp⟩, ok_cond_init F_mi B CLc co_n1 co_n2 co_n3 c_check_part c_merged, PySem.W.mg_of X G co, b_mi⟩
    have kRM : Mkr l.prog w K mg base 16 "Rule" RO ["self", "name", "condition", "ruling", "exceptions"] (sp_rule_init K CO RO E9) := ⟨_, _, ⟨ro_mk, ro_in, ro_fn, ro_kp⟩, ok_rule_init F_ri B CLr ro_n1 ro_n2 ro_n3 ro_n4 ro_n5 ro_n6 kR e_InvalidRule c_is_name c_nested, PySem.W.mg_of X G ro, b_ri⟩
    have kBM : Mkr l.prog w K mg base 17 "Book" BO ["self", "facts", "rules", "ruling"] (sp_book_init K CO RO BO E7 E10) := ⟨_, _, ⟨bo_mk, bo_in, bo_fn, bo_kp⟩, ok_book_init F_bi B CLb bo_n1 bo_n2 bo_n3 bo_n4 e_InvalidBook c_is_name c_nested c_check_facts c_check_rules, PySem.W.mg_of X G bo, b_bi⟩
    have c__law_mix : Cal l.prog w K mg base CX0 1 "_law_mix" ["_law_script", "_law_seed"] (sp_mix K) := ⟨_, _, (ok_mix F__law_mix B), PySem.W.mg_of X G a__law_mix, k__law_mix, b__law_mix⟩
    have c__law_next : Cal l.prog w K mg base CX0 1 "_law_next" ["_law_h", "_law_limit"] (sp_next) := ⟨_, _, (ok_next F__law_next B), PySem.W.mg_of X G a__law_next, k__law_next, b__law_next⟩
    have ICc : IsiC K CO := ⟨co_ca, sg, tk, co_ob, kit_by co_ss co_cl co_ty co_ss⟩
    have ICr : IsiC K RO := ⟨ro_ca, sg, tk, ro_ob, kit_by ro_ss ro_cl ro_ty ro_ss⟩
    have AK : KitA K CO RO := ⟨ICc, ICr, CLc, CLr, fun k => match k with | .str _ => kit_ty (show kitB "str" "str" = some true by decide +kernel) | .non => kit_ty (show kitB "NoneType" "str" = some false by decide +kernel) | .els => kit_ty (show kitB "int" "str" = some false by decide +kernel) | .cond => kit_refT (by decide +kernel) co_str | .rule => kit_refT (by decide +kernel) ro_str | .tup => kit_ty (show kitB "tuple" "str" = some false by decide +kernel), fun k => match k with | .str _ => kit_tyC co_cl co_ty co_bstr | .non => kit_tyC co_cl co_ty co_bNoneType | .els => kit_tyC co_cl co_ty co_bint | .cond => kit_by co_ss co_cl co_ty co_ss | .rule => kit_by ro_ss co_cl co_ty ro_sC | .tup => kit_tyC co_cl co_ty co_btuple, fun k => match k with | .str _ => kit_tyC ro_cl ro_ty ro_bstr | .non => kit_tyC ro_cl ro_ty ro_bNoneType | .els => kit_tyC ro_cl ro_ty ro_bint | .cond => kit_by co_ss ro_cl ro_ty co_sR | .rule => kit_by ro_ss ro_cl ro_ty ro_ss | .tup => kit_tyC ro_cl ro_ty ro_btuple⟩
    have c_is_nameK : Cal l.prog w K mg base CX0 1 "is_name" ["value"] (sp_is_nameK CO RO) := ⟨_, _, ok_is_nameK F_is_name B GN AK, PySem.W.mg_of X G a_is_name, k_is_name, b_is_name⟩
    have c_is_new : Cal l.prog w K mg base CX0 2 "is_new" ["word", "value"] (sp_is_new CO RO) := ⟨_, _, (ok_is_new F_is_new B AK (PySem.W.mg_of X G co) (PySem.W.mg_of X G ro) c_is_nameK), PySem.W.mg_of X G a_is_new, k_is_new, b_is_new⟩
    have hW1 : ∀ H : Hp, SqT K H w1A (w1s.map V.str) := fun H => .inr ⟨_, _, _, w1_l, rfl, rfl, (by show 2 ≤ sizeLine; decide), vals_of_strs (.cons _ _ (.cons _ _ .nil))⟩
    have hW2 : ∀ H : Hp, SqT K H w2A (w2s.map V.str) := fun H => .inr ⟨_, _, _, w2_l, rfl, rfl, (by show 4 ≤ sizeLine; decide), vals_of_strs (.cons _ _ (.cons _ _ (.cons _ _ (.cons _ _ .nil))))⟩
    have hW3 : ∀ H : Hp, SqT K H w3A (w3s.map V.str) := fun H => .inr ⟨_, _, _, w3_l, rfl, rfl, (by show 2 ≤ sizeLine; decide), vals_of_strs (.cons _ _ (.cons _ _ .nil))⟩
    have c_is_amendment : Cal l.prog w K mg base CX0 3 "is_amendment" ["value"] (sp_is_amendment K CO RO) := ⟨_, _, (ok_is_amendment F_is_amendment B AK (PySem.W.mg_of X G m_WORDS_WITH_NAME) (PySem.W.mg_of X G m_WORDS_WITH_MORE) (PySem.W.mg_of X G m_WORDS_FOR_BOOKS) hW1 hW2 hW3 (kit_ty (by decide +kernel)) c_is_nameK c_is_new), PySem.W.mg_of X G a_is_amendment, k_is_amendment, b_is_amendment⟩
    have c_path_to : Cal l.prog w K mg base CX0 15 "path_to" ["rules", "name"] (sp_path K CO RO 12) := ⟨_, _, rec_all (S := sp_path K CO RO) (k := 2) (fun d c => ok_path F_path_to kR c) (PySem.W.mg_of X G a_path_to) k_path_to b_path_to 12, PySem.W.mg_of X G a_path_to, k_path_to, b_path_to⟩
    have c_next_beside : Cal l.prog w K mg base (L2.CX l.prog w) 16 "next_beside" ["book", "name"] (sp_beside K CO RO BO E4 E5) := ⟨_, _, (ok_beside F_next_beside B kR kBX e_UnknownRule e_NoNeighbor c_path_to), PySem.W.mg_of X G a_next_beside, k_next_beside, b_next_beside⟩
    have c_replaced : Cal l.prog w K mg base CX0 30 "replaced" ["rules", "name", "others"] (sp_replaced K CO RO 12) := ⟨_, _, rec_all (S := sp_replaced K CO RO) (k := 17) (fun d c => ok_replaced F_replaced B kR kRM c) (PySem.W.mg_of X G a_replaced) k_replaced b_replaced 12, PySem.W.mg_of X G a_replaced, k_replaced, b_replaced⟩
    have c_amended_rule : Cal l.prog w K mg base CX0 18 "amended_rule" ["rule", "word", "new"] (sp_arule K CO RO) := ⟨_, _, (ok_arule F_amended_rule B kR kRM), PySem.W.mg_of X G a_amended_rule, k_amended_rule, b_amended_rule⟩
    have mCon : MethO l.prog w K mg base CX0 3 BO "__contains__" ["self", "name"] (sp_contains K CO RO BO) := ⟨_, _, at_gc, fn_gc, fi_gc, ok_contains F_gc B CLb bo_n4 kR, b_gc⟩
    have mIt : MethO l.prog w K mg base (L2.CX l.prog w) 3 BO "__getitem__" ["self", "name"] (sp_getitem K CO RO BO E4) := ⟨_, _, at_gi, fn_gi, fi_gi, ok_getitem F_gi B CLb bo_n4 kR e_UnknownRule, b_gi⟩
    have mSub : MethO l.prog w K mg base (L2.CX l.prog w) 32 BO "__sub__" ["self", "name"] (sp_sub K CO RO BO E10 E4) := ⟨_, _, at_gs, fn_gs, fi_gs, ok_sub F_gs B CLb bo_n1 bo_n2 bo_n3 kBM mCon c_replaced e_UnknownRule, b_gs⟩
    have bT : BinT K BO .Sub := ⟨bo_sf, ⟨_, bo_rs, .inl rfl⟩, ⟨_, st_s⟩, ⟨_, st_r⟩, bo_bstr⟩
    have c_swapped : Cal l.prog w K mg base (L2.CX l.prog w) 32 "swapped" ["book", "name"] (sp_swapped K CO RO BO E10 E4 E5) := ⟨_, _, (ok_swapped F_swapped B kR kBX kBM mIt c_replaced c_next_beside), PySem.W.mg_of X G a_swapped, k_swapped, b_swapped⟩
    have c_amended_book : Cal l.prog w K mg base (L2.CX l.prog w) 19 "amended_book" ["book", "word", "new"] (sp_amended_book K CO RO BO E10) := ⟨_, _, (ok_amended_book F_amended_book B kBX kBM), PySem.W.mg_of X G a_amended_book, k_amended_book, b_amended_book⟩
    have c_amended : Cal l.prog w K mg base (L2.CX l.prog w) 34 "amended" ["book", "amendment"] (sp_amended K CO RO BO E10 E4 E5) := ⟨_, _, (ok_amended F_amended B kBX kBM mIt mSub bT c_replaced c_amended_rule c_swapped c_amended_book c_is_amendment e_InvalidAmendment), PySem.W.mg_of X G a_amended, k_amended, b_amended⟩
    have kW : CondW l.prog w K mg base CO := ⟨kK, ⟨_, _, at_mc, fn_mc, fi_mc, ok_ccall F_mc B CLc co_n1 co_n2, b_mc⟩⟩
    have c_up_to_first_met : Cal l.prog w K mg base CX0 6 "up_to_first_met" ["rules", "case"] (sp_upto K CO RO) := ⟨_, _, (ok_upto F_up_to_first_met B kR kW), PySem.W.mg_of X G a_up_to_first_met, k_up_to_first_met, b_up_to_first_met⟩
    have c_steps : Cal l.prog w K mg base CX0 8 "steps" ["rules", "case"] (sp_steps K CO RO) := ⟨_, _, (ok_steps F_steps B kR c_up_to_first_met), PySem.W.mg_of X G a_steps, k_steps, b_steps⟩
    have c_looked_into : Cal l.prog w K mg base CX0 9 "looked_into" ["rules", "case"] (sp_looked K CO RO) := ⟨_, _, (ok_looked F_looked_into B c_steps), PySem.W.mg_of X G a_looked_into, k_looked_into, b_looked_into⟩
    have mCallB : MethO l.prog w K mg base (L2.CX l.prog w) 11 BO "__call__" ["self", "case"] (sp_bcall K CO RO BO E1) := ⟨_, _, at_bc, fn_bc, fi_bc, ok_bcall F_bc B CLb bo_n1 bo_n2 bo_n3 kR c_check_case c_looked_into, b_bc⟩
    have c_way : Cal l.prog w K mg base (L2.CX l.prog w) 10 "way" ["book", "case"] (sp_ask K CO RO BO E1 ansWay) := ⟨_, _, (ok_way6 F_way B kR kBX c_check_case c_looked_into), PySem.W.mg_of X G a_way, k_way, b_way⟩
    have c_decider : Cal l.prog w K mg base (L2.CX l.prog w) 11 "decider" ["book", "case"] (sp_ask K CO RO BO E1 ansDecid) := ⟨_, _, (ok_decider6 F_decider B c_way), PySem.W.mg_of X G a_decider, k_decider, b_decider⟩
    have c_outcome : Cal l.prog w K mg base (L2.CX l.prog w) 12 "outcome" ["book", "case"] (sp_ask K CO RO BO E1 ansOut) := ⟨_, _, (ok_outcome6 F_outcome B mCallB c_decider), PySem.W.mg_of X G a_outcome, k_outcome, b_outcome⟩
    have c_small_conditions : Cal l.prog w K mg base CX0 6 "small_conditions" ["facts"] (sp_small K CO) := ⟨_, _, (ok_small F_small_conditions B kM), PySem.W.mg_of X G a_small_conditions, k_small_conditions, b_small_conditions⟩
    have c_check_word : Cal l.prog w K mg base (L2.CX l.prog w) 2 "check_word" ["ruling"] (sp_cword E2) := ⟨_, _, (ok_cword F_check_word B e_InvalidRuling c_is_name), PySem.W.mg_of X G a_check_word, k_check_word, b_check_word⟩
    have c_check_left : Cal l.prog w K mg base (L2.CX l.prog w) 1 "check_left" ["left"] (sp_cleft E0) := ⟨_, _, (ok_cleft F_check_left e_Contradiction), PySem.W.mg_of X G a_check_left, k_check_left, b_check_left⟩
    have c_orders_of : Cal l.prog w K mg base CX0 1 "orders_of" ["count"] (sp_orders K) := ⟨_, _, (ok_orders F_orders_of B), PySem.W.mg_of X G a_orders_of, k_orders_of, b_orders_of⟩
    have kCW : Mkr l.prog w K mg base 36 "ConditionWatcher" CW ["self", "book", "name"] (sp_cwInit K CO RO BO CW E4 E3) := ⟨_, _, ⟨wo_mk, wo_in, wo_fn, wo_kp⟩, ok_cwInit F_wi B CLw wo_n1 wo_n2 wo_n3 wo_n4 kBX (PySem.W.mg_of X G m_MOST_FACTS_watchers) kM mCon mSub bT e_UnknownRule e_TooMany c_amended c_small_conditions, PySem.W.mg_of X G wo, b_wi⟩
    have kOW : Mkr l.prog w K mg base 3 "OrderWatcher" OW ["self", "book"] (sp_owInitX K CO RO BO OW E3) := ⟨_, _, ⟨oo_mk, oo_in, oo_fn, oo_kp⟩, ok_owInitX F_oi B CLo oo_n1 oo_n2 oo_n3 kBX (PySem.W.mg_of X G m_MOST_ORDERED) e_TooMany c_orders_of, PySem.W.mg_of X G oo, b_oi⟩
    have mCand : PropM l.prog w K mg base CW "candidates" 1 (sp_cwCands K CO RO BO CW) := ⟨_, _, _, ⟨pa_wc, pg_wc, pt_wc, ⟨_, pr_wc⟩⟩, ok_cwCands F_wc B CLw wo_n3, b_wc⟩
    have mCRec : PropM l.prog w K mg base CW "records" 1 (sp_cwRecs K CO RO BO CW) := ⟨_, _, _, ⟨pa_wr, pg_wr, pt_wr, ⟨_, pr_wr⟩⟩, ok_cwRecs F_wr B CLw wo_n4, b_wr⟩
    have mCount : PropM l.prog w K mg base OW "order_count" 1 (sp_owCount K CO RO BO OW) := ⟨_, _, _, ⟨pa_oc, pg_oc, pt_oc, ⟨_, pr_oc⟩⟩, ok_owCount F_oc B CLo oo_n2, b_oc⟩
    have mRecs : PropM l.prog w K mg base OW "records" 1 (sp_owRecs K CO RO BO OW) := ⟨_, _, _, ⟨pa_or, pg_or, pt_or, ⟨_, pr_or⟩⟩, ok_owRecs F_or B CLo oo_n3, b_or⟩
    have mw_out : MethX l.prog w K mg base 13 CW "_outcomes" ["self", "case"] (sp_cwOut K CO RO BO CW E1) := ⟨_, _, ⟨at_wq, fn_wq, k_wq⟩, ok_cwOut F_wq B CLw wo_n1 wo_n2 c_outcome, b_wq⟩
    have mw_acc : MethX l.prog w K mg base 3 CW "_accept" ["self", "record", "met", "unmet"] (sp_cwAcc K CO RO BO CW E0) := ⟨_, _, ⟨at_wa, fn_wa, k_wa⟩, ok_cwAcc F_wa B CLw wo_n3 wo_n4 kW c_check_left, b_wa⟩
    have mw_see : MethX l.prog w K mg base 15 CW "see" ["self", "case", "ruling"] (sp_cwSee K CO RO BO CW E1 E2 E0) := ⟨_, _, ⟨at_ws, fn_ws, k_ws⟩, ok_cwSee F_ws B CLw mw_out mw_acc c_check_word, b_ws⟩
    have mw_dec : MethX l.prog w K mg base 15 CW "see_decider" ["self", "case", "name"] (sp_cwDec K CO RO BO CW E1 E4 E0) := ⟨_, _, ⟨at_wd, fn_wd, k_wd⟩, ok_cwDec F_wd B CLw wo_n1 mw_out mw_acc mCon e_UnknownRule, b_wd⟩
    have mw_poss : MethX l.prog w K mg base 15 CW "possible" ["self", "case"] (sp_cwPoss K CO RO BO CW E1) := ⟨_, _, ⟨at_wp, fn_wp, k_wp⟩, ok_cwPoss F_wp B CLw wo_n3 kW mw_out, b_wp⟩
    have mo_see : MethX l.prog w K mg base 11 OW "see" ["self", "case", "ruling"] (sp_owSeeE K CO RO BO OW E1 E2) := ⟨_, _, ⟨at_os, fn_os, k_os⟩, ok_owSeeE F_os B CLo oo_n1 kBX c_check_case c_check_word, b_os⟩
    have mo_sure : MethX l.prog w K mg base 3 OW "sure" ["self", "name", "other"] (sp_owSureE K CO RO BO OW E4) := ⟨_, _, ⟨at_ou, fn_ou, k_ou⟩, ok_owSureE F_ou B CLo oo_n1 kBX kR e_UnknownRule, b_ou⟩
    have GK : GWord mg (fun i => [E0, E1, E2, E3, E4].getD i E0) CE := ⟨PySem.W.mg_of X G m_CourtError, PySem.W.mg_of X G m_Contradiction, PySem.W.mg_of X G m_InvalidCase, PySem.W.mg_of X G m_InvalidRuling, PySem.W.mg_of X G m_TooMany, PySem.W.mg_of X G m_UnknownRule⟩
    have kr_0 : WordRow K (fun i => [E0, E1, E2, E3, E4].getD i E0) CE E0 0 := ⟨ec_Contradiction, exm_by CEbe CEcl CEty r0_sC, (fun i hi => match i, hi with | 0, _ => kit_by r0_k0 u_0 v_0 r0_k0 | 1, _ => kit_by r0_k0 u_1 v_1 r0_k1 | 2, _ => kit_by r0_k0 u_2 v_2 r0_k2 | 3, _ => kit_by r0_k0 u_3 v_3 r0_k3 | 4, _ => kit_by r0_k0 u_4 v_4 r0_k4 | x + 5, h => absurd h (by omega))⟩
    have kr_1 : WordRow K (fun i => [E0, E1, E2, E3, E4].getD i E0) CE E1 1 := ⟨ec_InvalidCase, exm_by CEbe CEcl CEty r1_sC, (fun i hi => match i, hi with | 0, _ => kit_by r1_k1 u_0 v_0 r1_k0 | 1, _ => kit_by r1_k1 u_1 v_1 r1_k1 | 2, _ => kit_by r1_k1 u_2 v_2 r1_k2 | 3, _ => kit_by r1_k1 u_3 v_3 r1_k3 | 4, _ => kit_by r1_k1 u_4 v_4 r1_k4 | x + 5, h => absurd h (by omega))⟩
    have kr_2 : WordRow K (fun i => [E0, E1, E2, E3, E4].getD i E0) CE E2 2 := ⟨ec_InvalidRuling, exm_by CEbe CEcl CEty r2_sC, (fun i hi => match i, hi with | 0, _ => kit_by r2_k2 u_0 v_0 r2_k0 | 1, _ => kit_by r2_k2 u_1 v_1 r2_k1 | 2, _ => kit_by r2_k2 u_2 v_2 r2_k2 | 3, _ => kit_by r2_k2 u_3 v_3 r2_k3 | 4, _ => kit_by r2_k2 u_4 v_4 r2_k4 | x + 5, h => absurd h (by omega))⟩
    have kr_3 : WordRow K (fun i => [E0, E1, E2, E3, E4].getD i E0) CE E3 3 := ⟨ec_TooMany, exm_by CEbe CEcl CEty r3_sC, (fun i hi => match i, hi with | 0, _ => kit_by r3_k3 u_0 v_0 r3_k0 | 1, _ => kit_by r3_k3 u_1 v_1 r3_k1 | 2, _ => kit_by r3_k3 u_2 v_2 r3_k2 | 3, _ => kit_by r3_k3 u_3 v_3 r3_k3 | 4, _ => kit_by r3_k3 u_4 v_4 r3_k4 | x + 5, h => absurd h (by omega))⟩
    have kr_4 : WordRow K (fun i => [E0, E1, E2, E3, E4].getD i E0) CE E4 4 := ⟨ec_UnknownRule, exm_by CEbe CEcl CEty r4_sC, (fun i hi => match i, hi with | 0, _ => kit_by r4_k4 u_0 v_0 r4_k0 | 1, _ => kit_by r4_k4 u_1 v_1 r4_k1 | 2, _ => kit_by r4_k4 u_2 v_2 r4_k2 | 3, _ => kit_by r4_k4 u_3 v_3 r4_k3 | 4, _ => kit_by r4_k4 u_4 v_4 r4_k4 | x + 5, h => absurd h (by omega))⟩
    exact ok_law ⟨⟨_, _, _, _, _, _, _, _, rfl, l_law, c_law⟩, k_law⟩ B GK F__law_word (PySem.W.mg_of X G a__law_word) b__law_word (TBs _ (List.mem_singleton.mpr rfl)) CLw CLo kr_0 kr_1 kr_2 kr_3 kr_4 c__law_mix c__law_next kM kRM kBM kCW kOW mw_see mw_dec mw_poss mo_see mo_sure mCand mCRec mCount mRecs
end Sc
/-! the head's facts read by a Hook of one's own: functions by address, all else by one Bool -/
namespace Sc
open PySem PySem.Spec PyProof.Rows L2 HeadY He
theorem all_y {w : World} {K : PySem.W.Frag} {h : Heap} {mg : Str → Option Value} {fa : Addr} (X : K.In h) (G : h.Ns mainGlobals mg) (hfa : mg "law" = some (.ref fa)) (S : SaysY fnL tfL exB h K) : LamX.LawAtS theLaw w K CX0 42 63 "_law_script" mg fa h := by
  obtain ⟨_, _, _, _, _, _, _, _, l_is_name, y_l_is_name⟩ := fn_ok (S.fn 0 rfl) (gx0 S).2.1
  obtain ⟨_, _, _, _, _, _, _, _, l_check_word, y_l_check_word⟩ := fn_ok (S.fn 1 rfl) (gx0 S).2.2.2.2.1
  obtain ⟨_, _, _, _, _, _, _, _, l_rises, y_l_rises⟩ := fn_ok (S.fn 2 rfl) (gx0 S).2.2.2.2.2.2.2.1
  obtain ⟨_, _, _, _, _, _, _, _, l_check_facts, y_l_check_facts⟩ := fn_ok (S.fn 3 rfl) (gx0 S).2.2.2.2.2.2.2.2.2.2.1
  obtain ⟨_, _, _, _, _, _, _, _, l_check_case, y_l_check_case⟩ := fn_ok (S.fn 4 rfl) (gx1 S).2.1
  obtain ⟨_, _, _, _, _, _, _, _, l_steps, y_l_steps⟩ := fn_ok (S.fn 5 rfl) (gx1 S).2.2.2.2.1
  obtain ⟨_, _, _, _, _, _, _, _, l_up_to_first_met, y_l_up_to_first_met⟩ := fn_ok (S.fn 6 rfl) (gx1 S).2.2.2.2.2.2.2.1
  obtain ⟨_, _, _, _, _, _, _, _, l_looked_into, y_l_looked_into⟩ := fn_ok (S.fn 7 rfl) (gx1 S).2.2.2.2.2.2.2.2.2.2.1
  obtain ⟨_, _, _, _, _, _, _, _, l_nested, y_l_nested⟩ := fn_ok (S.fn 8 rfl) (gx2 S).2.1
  obtain ⟨_, _, _, _, _, _, _, _, l_check_rules, y_l_check_rules⟩ := fn_ok (S.fn 9 rfl) (gx2 S).2.2.2.2.1
  obtain ⟨_, _, _, _, _, _, _, _, l_replaced, y_l_replaced⟩ := fn_ok (S.fn 10 rfl) (gx2 S).2.2.2.2.2.2.2.1
  obtain ⟨_, _, _, _, _, _, _, _, l_path_to, y_l_path_to⟩ := fn_ok (S.fn 11 rfl) (gx2 S).2.2.2.2.2.2.2.2.2.2.1
  obtain ⟨_, _, _, _, _, _, _, _, l_next_beside, y_l_next_beside⟩ := fn_ok (S.fn 12 rfl) (gx3 S).2.1
  obtain ⟨_, _, _, _, _, _, _, _, l_swapped, y_l_swapped⟩ := fn_ok (S.fn 13 rfl) (gx3 S).2.2.2.2.1
  obtain ⟨_, _, _, _, _, _, _, _, l_check_part, y_l_check_part⟩ := fn_ok (S.fn 14 rfl) (gx3 S).2.2.2.2.2.2.2.1
  obtain ⟨_, _, _, _, _, _, _, _, l_merged, y_l_merged⟩ := fn_ok (S.fn 15 rfl) (gx3 S).2.2.2.2.2.2.2.2.2.2.1
  obtain ⟨_, _, _, _, _, _, _, _, l_amended, y_l_amended⟩ := fn_ok (S.fn 16 rfl) (gx4 S).2.1
  obtain ⟨_, _, _, _, _, _, _, _, l_amended_book, y_l_amended_book⟩ := fn_ok (S.fn 17 rfl) (gx4 S).2.2.2.2.1
  obtain ⟨_, _, _, _, _, _, _, _, l_amended_rule, y_l_amended_rule⟩ := fn_ok (S.fn 18 rfl) (gx4 S).2.2.2.2.2.2.2.1
  obtain ⟨_, _, _, _, _, _, _, _, l_is_amendment, y_l_is_amendment⟩ := fn_ok (S.fn 19 rfl) (gx4 S).2.2.2.2.2.2.2.2.2.2.1
  obtain ⟨_, _, _, _, _, _, _, _, l_is_new, y_l_is_new⟩ := fn_ok (S.fn 20 rfl) (gx5 S).2.1
  obtain ⟨_, _, _, _, _, _, _, _, l_decider, y_l_decider⟩ := fn_ok (S.fn 21 rfl) (gx5 S).2.2.2.2.1
  obtain ⟨_, _, _, _, _, _, _, _, l_outcome, y_l_outcome⟩ := fn_ok (S.fn 22 rfl) (gx5 S).2.2.2.2.2.2.2.1
  obtain ⟨_, _, _, _, _, _, _, _, l_way, y_l_way⟩ := fn_ok (S.fn 23 rfl) (gx5 S).2.2.2.2.2.2.2.2.2.2.1
  obtain ⟨_, _, _, _, _, _, _, _, l_small_conditions, y_l_small_conditions⟩ := fn_ok (S.fn 24 rfl) (gx6 S).2.1
  obtain ⟨_, _, _, _, _, _, _, _, l_orders_of, y_l_orders_of⟩ := fn_ok (S.fn 25 rfl) (gx6 S).2.2.2.2.1
  obtain ⟨_, _, _, _, _, _, _, _, l_check_left, y_l_check_left⟩ := fn_ok (S.fn 26 rfl) (gx6 S).2.2.2.2.2.2.2.1
  obtain ⟨_, _, _, _, _, _, _, _, l__law_mix, y_l__law_mix⟩ := fn_ok (S.fn 27 rfl) (gx6 S).2.2.2.2.2.2.2.2.2.2.1
  obtain ⟨_, _, _, _, _, _, _, _, l__law_next, y_l__law_next⟩ := fn_ok (S.fn 28 rfl) (gx7 S).2.1
  obtain ⟨_, _, _, _, _, _, _, _, l__law_word, y_l__law_word⟩ := fn_ok (S.fn 29 rfl) (gx7 S).2.2.2.2.1
  obtain ⟨_, _, _, _, _, _, _, _, l_law, y_l_law⟩ := fn_ok (S.fn 30 rfl) (gx7 S).2.2.2.2.2.2.2.1
  obtain ⟨_, pr_mh⟩ := rec_is (gx9 S).1
  obtain ⟨_, pr_mf⟩ := rec_is (gx9 S).2.2.2.2.1
  obtain ⟨_, pr_mn⟩ := rec_is (gx9 S).2.2.2.2.2.2.2.2.1
  obtain ⟨_, pr_rn⟩ := rec_is (gx11 S).2.2.2.1
  obtain ⟨_, pr_rc⟩ := rec_is (gx11 S).2.2.2.2.2.2.2.1
  obtain ⟨_, pr_rr⟩ := rec_is (gx11 S).2.2.2.2.2.2.2.2.2.2.2
  obtain ⟨_, pr_re⟩ := rec_is (gx12 S).2.2.2.1
  obtain ⟨_, pr_rd⟩ := rec_is (gx12 S).2.2.2.2.2.2.2.1
  obtain ⟨_, pr_bf⟩ := rec_is (gx14 S).1
  obtain ⟨_, pr_bs⟩ := rec_is (gx14 S).2.2.2.2.1
  obtain ⟨_, pr_br⟩ := rec_is (gx14 S).2.2.2.2.2.2.2.2.1
  obtain ⟨_, pr_wc⟩ := rec_is (gx16 S).2.1
  obtain ⟨_, pr_wr⟩ := rec_is (gx16 S).2.2.2.2.2.1
  obtain ⟨_, pr_oc⟩ := rec_is (gx17 S).2.2.2.2.2.2.2.2.2.1
  obtain ⟨_, pr_or⟩ := rec_is (gx18 S).2.1
  obtain ⟨_, st_s⟩ := some_is (gx22 S).2.2.2.2.2.1
  obtain ⟨_, st_r⟩ := some_is (gx22 S).2.2.2.2.2.2.1
  obtain ⟨_, _, _, us_w1_l, hl_w1_l, w1_l⟩ := tup_is (gx22 S).2.2.2.2.2.2.2.2.2.2.2
  obtain ⟨_, _, rfl⟩ := len2 hl_w1_l
  obtain ⟨_, _, _, us_w2_l, hl_w2_l, w2_l⟩ := tup_is (gx23 S).2.1
  obtain ⟨_, _, _, _, rfl⟩ := len4 hl_w2_l
  obtain ⟨_, _, _, us_w3_l, hl_w3_l, w3_l⟩ := tup_is (gx23 S).2.2.2.1
  obtain ⟨_, _, rfl⟩ := len2 hl_w3_l
  obtain ⟨_, _, _, _, _, _, _, _, l_mi, y_l_mi⟩ := fn_ok (S.fn 31 rfl) (gx23 S).2.2.2.2.1
  obtain ⟨_, _, _, _, _, _, _, _, l_mh, y_l_mh⟩ := fn_ok (S.fn 32 rfl) (gx23 S).2.2.2.2.2.2.1
  obtain ⟨_, _, _, _, _, _, _, _, l_mf, y_l_mf⟩ := fn_ok (S.fn 33 rfl) (gx23 S).2.2.2.2.2.2.2.2.1
  obtain ⟨_, _, _, _, _, _, _, _, l_mn, y_l_mn⟩ := fn_ok (S.fn 34 rfl) (gx23 S).2.2.2.2.2.2.2.2.2.2.1
  obtain ⟨_, _, _, _, _, _, _, _, l_ri, y_l_ri⟩ := fn_ok (S.fn 35 rfl) (gx24 S).1
  obtain ⟨_, _, _, _, _, _, _, _, l_rn, y_l_rn⟩ := fn_ok (S.fn 36 rfl) (gx24 S).2.2.1
  obtain ⟨_, _, _, _, _, _, _, _, l_rc, y_l_rc⟩ := fn_ok (S.fn 37 rfl) (gx24 S).2.2.2.2.1
  obtain ⟨_, _, _, _, _, _, _, _, l_rr, y_l_rr⟩ := fn_ok (S.fn 38 rfl) (gx24 S).2.2.2.2.2.2.1
  obtain ⟨_, _, _, _, _, _, _, _, l_re, y_l_re⟩ := fn_ok (S.fn 39 rfl) (gx24 S).2.2.2.2.2.2.2.2.1
  obtain ⟨_, _, _, _, _, _, _, _, l_rd, y_l_rd⟩ := fn_ok (S.fn 40 rfl) (gx24 S).2.2.2.2.2.2.2.2.2.2.1
  obtain ⟨_, _, _, _, _, _, _, _, l_bi, y_l_bi⟩ := fn_ok (S.fn 41 rfl) (gx25 S).1
  obtain ⟨_, _, _, _, _, _, _, _, l_bf, y_l_bf⟩ := fn_ok (S.fn 42 rfl) (gx25 S).2.2.1
  obtain ⟨_, _, _, _, _, _, _, _, l_bs, y_l_bs⟩ := fn_ok (S.fn 43 rfl) (gx25 S).2.2.2.2.1
  obtain ⟨_, _, _, _, _, _, _, _, l_br, y_l_br⟩ := fn_ok (S.fn 44 rfl) (gx25 S).2.2.2.2.2.2.1
  obtain ⟨_, _, _, _, _, _, _, _, l_wi, y_l_wi⟩ := fn_ok (S.fn 45 rfl) (gx25 S).2.2.2.2.2.2.2.2.1
  obtain ⟨_, _, _, _, _, _, _, _, l_wc, y_l_wc⟩ := fn_ok (S.fn 46 rfl) (gx25 S).2.2.2.2.2.2.2.2.2.2.1
  obtain ⟨_, _, _, _, _, _, _, _, l_wr, y_l_wr⟩ := fn_ok (S.fn 47 rfl) (gx26 S).1
  obtain ⟨_, _, _, _, _, _, _, _, l_oi, y_l_oi⟩ := fn_ok (S.fn 48 rfl) (gx26 S).2.2.1
  obtain ⟨_, _, _, _, _, _, _, _, l_oc, y_l_oc⟩ := fn_ok (S.fn 49 rfl) (gx26 S).2.2.2.2.1
  obtain ⟨_, _, _, _, _, _, _, _, l_or, y_l_or⟩ := fn_ok (S.fn 50 rfl) (gx26 S).2.2.2.2.2.2.1
  obtain ⟨_, _, _, _, _, _, _, _, l_gc, y_l_gc⟩ := fn_ok (S.fn 51 rfl) (gx26 S).2.2.2.2.2.2.2.2.1
  obtain ⟨_, _, _, _, _, _, _, _, l_gi, y_l_gi⟩ := fn_ok (S.fn 52 rfl) (gx26 S).2.2.2.2.2.2.2.2.2.2.1
  obtain ⟨_, _, _, _, _, _, _, _, l_gs, y_l_gs⟩ := fn_ok (S.fn 53 rfl) (gx27 S).1
  obtain ⟨_, _, _, _, _, _, _, _, l_bc, y_l_bc⟩ := fn_ok (S.fn 54 rfl) (gx27 S).2.2.1
  obtain ⟨_, _, _, _, _, _, _, _, l_mc, y_l_mc⟩ := fn_ok (S.fn 55 rfl) (gx27 S).2.2.2.2.1
  obtain ⟨_, _, _, _, _, _, _, _, l_wq, y_l_wq⟩ := fn_ok (S.fn 56 rfl) (gx27 S).2.2.2.2.2.2.1
  obtain ⟨_, _, _, _, _, _, _, _, l_wa, y_l_wa⟩ := fn_ok (S.fn 57 rfl) (gx27 S).2.2.2.2.2.2.2.2.1
  obtain ⟨_, _, _, _, _, _, _, _, l_ws, y_l_ws⟩ := fn_ok (S.fn 58 rfl) (gx27 S).2.2.2.2.2.2.2.2.2.2.1
  obtain ⟨_, _, _, _, _, _, _, _, l_wd, y_l_wd⟩ := fn_ok (S.fn 59 rfl) (gx28 S).1
  obtain ⟨_, _, _, _, _, _, _, _, l_wp, y_l_wp⟩ := fn_ok (S.fn 60 rfl) (gx28 S).2.2.1
  obtain ⟨_, _, _, _, _, _, _, _, l_os, y_l_os⟩ := fn_ok (S.fn 61 rfl) (gx28 S).2.2.2.2.1
  obtain ⟨_, _, _, _, _, _, _, _, l_ou, y_l_ou⟩ := fn_ok (S.fn 62 rfl) (gx28 S).2.2.2.2.2.2.1
  obtain ⟨_, m_LETTERS⟩ := str_is (gx30 S).2.2.2.2.1
  obtain ⟨_, m_LONGEST_NAME⟩ := int_is (gx30 S).2.2.2.2.2.1
  obtain ⟨_, m_MOST_FACTS_facts⟩ := int_is (gx30 S).2.2.2.2.2.2.1
  obtain ⟨_, m_MOST_NAMES⟩ := int_is (gx30 S).2.2.2.2.2.2.2.1
  obtain ⟨_, m_MOST_AROUND⟩ := int_is (gx30 S).2.2.2.2.2.2.2.2.1
  obtain ⟨_, m_MOST_RULES⟩ := int_is (gx30 S).2.2.2.2.2.2.2.2.2.1
  obtain ⟨_, m_MOST_OUTERMOST⟩ := int_is (gx30 S).2.2.2.2.2.2.2.2.2.2.1
  obtain ⟨_, m_MOST_ORDERED⟩ := int_is (gx30 S).2.2.2.2.2.2.2.2.2.2.2
  obtain ⟨_, m_MOST_FACTS_watchers⟩ := int_is (gx31 S).1
  obtain ⟨_, _, _, _, _, _, _, _, _, _, _, _, _, _, x_E⟩ := exc_is (gx44 S).2.2.2.2.1
  obtain ⟨_, _, _, _, _, _, _, _, _, _, _, _, _, _, i1_x⟩ := exc_is (gx44 S).2.2.2.2.2.2.2.2.1
  obtain ⟨_, _, _, _, _, _, _, _, i1_lI, y_i1_lI⟩ := fn_okC (S.fn 63 rfl) (gx45 S).2.2.2.1
  obtain ⟨_, _, _, i1_ce⟩ := cell_is (gx45 S).2.2.2.2.1
  obtain ⟨_, _, _, _, _, _, i1_co, i1_fi, i1_fe⟩ := file_is (gx45 S).2.2.2.2.2.1
  obtain ⟨_, _, _, _, _, _, _, _, _, _, _, _, _, _, i7_x⟩ := exc_is (gx45 S).2.2.2.2.2.2.2.2.2.2.2
  obtain ⟨_, _, _, _, _, _, _, _, i7_lI, y_i7_lI⟩ := fn_okC (S.fn 64 rfl) (gx46 S).2.2.2.2.2.2.1
  obtain ⟨_, _, _, i7_ce⟩ := cell_is (gx46 S).2.2.2.2.2.2.2.1
  obtain ⟨_, _, _, _, _, _, i7_co, i7_fi, i7_fe⟩ := file_is (gx46 S).2.2.2.2.2.2.2.2.1
  obtain ⟨_, _, _, _, _, _, _, _, _, _, _, _, _, _, i8_x⟩ := exc_is (gx47 S).2.2.1
  obtain ⟨_, _, _, _, _, _, _, _, i8_lI, y_i8_lI⟩ := fn_okC (S.fn 65 rfl) (gx47 S).2.2.2.2.2.2.2.2.2.1
  obtain ⟨_, _, _, i8_ce⟩ := cell_is (gx47 S).2.2.2.2.2.2.2.2.2.2.1
  obtain ⟨_, _, _, _, _, _, i8_co, i8_fi, i8_fe⟩ := file_is (gx47 S).2.2.2.2.2.2.2.2.2.2.2
  obtain ⟨_, _, _, _, _, _, _, _, _, _, _, _, _, _, i9_x⟩ := exc_is (gx48 S).2.2.2.2.2.2.1
  obtain ⟨_, _, _, _, _, _, _, _, i9_lI, y_i9_lI⟩ := fn_okC (S.fn 66 rfl) (gx49 S).2.1
  obtain ⟨_, _, _, i9_ce⟩ := cell_is (gx49 S).2.2.1
  obtain ⟨_, _, _, _, _, _, i9_co, i9_fi, i9_fe⟩ := file_is (gx49 S).2.2.2.1
  obtain ⟨_, _, _, _, _, _, _, _, _, _, _, _, _, _, i10_x⟩ := exc_is (gx49 S).2.2.2.2.2.2.2.2.2.1
  obtain ⟨_, _, _, _, _, _, _, _, i10_lI, y_i10_lI⟩ := fn_okC (S.fn 67 rfl) (gx50 S).2.2.2.2.1
  obtain ⟨_, _, _, i10_ce⟩ := cell_is (gx50 S).2.2.2.2.2.1
  obtain ⟨_, _, _, _, _, _, i10_co, i10_fi, i10_fe⟩ := file_is (gx50 S).2.2.2.2.2.2.1
  obtain ⟨_, tbl, z_tbl⟩ := tbl_is (S.hd _ (mem_at (i := 0) rfl))
  exact all_mk (l := theLaw) (P := theRow.prog) (celi1 := (Ad_celi1 K)) (codi1 := (Ad_codi1 K)) (celi7 := (Ad_celi7 K)) (codi7 := (Ad_codi7 K)) (celi8 := (Ad_celi8 K)) (codi8 := (Ad_codi8 K)) (celi9 := (Ad_celi9 K)) (codi9 := (Ad_codi9 K)) (celi10 := (Ad_celi10 K)) (codi10 := (Ad_codi10 K)) (Tb0 := (Ad_Tb0 K)) rfl X G hfa (gx0 S).1 l_is_name y_l_is_name (gx0 S).2.2.1 (gx0 S).2.2.2.1 l_check_word y_l_check_word (gx0 S).2.2.2.2.2.1 (gx0 S).2.2.2.2.2.2.1 l_rises y_l_rises (gx0 S).2.2.2.2.2.2.2.2.1 (gx0 S).2.2.2.2.2.2.2.2.2.1 l_check_facts y_l_check_facts (gx0 S).2.2.2.2.2.2.2.2.2.2.2 (gx1 S).1 l_check_case y_l_check_case (gx1 S).2.2.1 (gx1 S).2.2.2.1 l_steps y_l_steps (gx1 S).2.2.2.2.2.1 (gx1 S).2.2.2.2.2.2.1 l_up_to_first_met y_l_up_to_first_met (gx1 S).2.2.2.2.2.2.2.2.1 (gx1 S).2.2.2.2.2.2.2.2.2.1 l_looked_into y_l_looked_into (gx1 S).2.2.2.2.2.2.2.2.2.2.2 (gx2 S).1 l_nested y_l_nested (gx2 S).2.2.1 (gx2 S).2.2.2.1 l_check_rules y_l_check_rules (gx2 S).2.2.2.2.2.1 (gx2 S).2.2.2.2.2.2.1 l_replaced y_l_replaced (gx2 S).2.2.2.2.2.2.2.2.1 (gx2 S).2.2.2.2.2.2.2.2.2.1 l_path_to y_l_path_to (gx2 S).2.2.2.2.2.2.2.2.2.2.2 (gx3 S).1 l_next_beside y_l_next_beside (gx3 S).2.2.1 (gx3 S).2.2.2.1 l_swapped y_l_swapped (gx3 S).2.2.2.2.2.1 (gx3 S).2.2.2.2.2.2.1 l_check_part y_l_check_part (gx3 S).2.2.2.2.2.2.2.2.1 (gx3 S).2.2.2.2.2.2.2.2.2.1 l_merged y_l_merged (gx3 S).2.2.2.2.2.2.2.2.2.2.2 (gx4 S).1 l_amended y_l_amended (gx4 S).2.2.1 (gx4 S).2.2.2.1 l_amended_book y_l_amended_book (gx4 S).2.2.2.2.2.1 (gx4 S).2.2.2.2.2.2.1 l_amended_rule y_l_amended_rule (gx4 S).2.2.2.2.2.2.2.2.1 (gx4 S).2.2.2.2.2.2.2.2.2.1 l_is_amendment y_l_is_amendment (gx4 S).2.2.2.2.2.2.2.2.2.2.2 (gx5 S).1 l_is_new y_l_is_new (gx5 S).2.2.1 (gx5 S).2.2.2.1 l_decider y_l_decider (gx5 S).2.2.2.2.2.1 (gx5 S).2.2.2.2.2.2.1 l_outcome y_l_outcome (gx5 S).2.2.2.2.2.2.2.2.1 (gx5 S).2.2.2.2.2.2.2.2.2.1 l_way y_l_way (gx5 S).2.2.2.2.2.2.2.2.2.2.2 (gx6 S).1 l_small_conditions y_l_small_conditions (gx6 S).2.2.1 (gx6 S).2.2.2.1 l_orders_of y_l_orders_of (gx6 S).2.2.2.2.2.1 (gx6 S).2.2.2.2.2.2.1 l_check_left y_l_check_left (gx6 S).2.2.2.2.2.2.2.2.1 (gx6 S).2.2.2.2.2.2.2.2.2.1 l__law_mix y_l__law_mix (gx6 S).2.2.2.2.2.2.2.2.2.2.2 (gx7 S).1 l__law_next y_l__law_next (gx7 S).2.2.1 (gx7 S).2.2.2.1 l__law_word y_l__law_word (gx7 S).2.2.2.2.2.1 (gx7 S).2.2.2.2.2.2.1 l_law y_l_law (gx7 S).2.2.2.2.2.2.2.2.1 (gx7 S).2.2.2.2.2.2.2.2.2.1 (gx7 S).2.2.2.2.2.2.2.2.2.2.1 (gx7 S).2.2.2.2.2.2.2.2.2.2.2 (gx8 S).1 (gx8 S).2.1 (gx8 S).2.2.1 (gx8 S).2.2.2.1 (gx8 S).2.2.2.2.1 (gx8 S).2.2.2.2.2.1 (gx8 S).2.2.2.2.2.2.1 (gx8 S).2.2.2.2.2.2.2.1 (gx8 S).2.2.2.2.2.2.2.2.1 (gx8 S).2.2.2.2.2.2.2.2.2.1 (gx8 S).2.2.2.2.2.2.2.2.2.2.1 (gx8 S).2.2.2.2.2.2.2.2.2.2.2 pr_mh (gx9 S).2.1 (gx9 S).2.2.1 (gx9 S).2.2.2.1 pr_mf (gx9 S).2.2.2.2.2.1 (gx9 S).2.2.2.2.2.2.1 (gx9 S).2.2.2.2.2.2.2.1 pr_mn (gx9 S).2.2.2.2.2.2.2.2.2.1 (gx9 S).2.2.2.2.2.2.2.2.2.2.1 (gx9 S).2.2.2.2.2.2.2.2.2.2.2 (gx10 S).1 (gx10 S).2.1 (gx10 S).2.2.1 (gx10 S).2.2.2.1 (gx10 S).2.2.2.2.1 (gx10 S).2.2.2.2.2.1 (gx10 S).2.2.2.2.2.2.1 (gx10 S).2.2.2.2.2.2.2.1 (gx10 S).2.2.2.2.2.2.2.2.1 (gx10 S).2.2.2.2.2.2.2.2.2.1 (gx10 S).2.2.2.2.2.2.2.2.2.2.1 (gx10 S).2.2.2.2.2.2.2.2.2.2.2 (gx11 S).1 (gx11 S).2.1 (gx11 S).2.2.1 pr_rn (gx11 S).2.2.2.2.1 (gx11 S).2.2.2.2.2.1 (gx11 S).2.2.2.2.2.2.1 pr_rc (gx11 S).2.2.2.2.2.2.2.2.1 (gx11 S).2.2.2.2.2.2.2.2.2.1 (gx11 S).2.2.2.2.2.2.2.2.2.2.1 pr_rr (gx12 S).1 (gx12 S).2.1 (gx12 S).2.2.1 pr_re (gx12 S).2.2.2.2.1 (gx12 S).2.2.2.2.2.1 (gx12 S).2.2.2.2.2.2.1 pr_rd (gx12 S).2.2.2.2.2.2.2.2.1 (gx12 S).2.2.2.2.2.2.2.2.2.1 (gx12 S).2.2.2.2.2.2.2.2.2.2.1 (gx12 S).2.2.2.2.2.2.2.2.2.2.2 (gx13 S).1 (gx13 S).2.1 (gx13 S).2.2.1 (gx13 S).2.2.2.1 (gx13 S).2.2.2.2.1 (gx13 S).2.2.2.2.2.1 (gx13 S).2.2.2.2.2.2.1 (gx13 S).2.2.2.2.2.2.2.1 (gx13 S).2.2.2.2.2.2.2.2.1 (gx13 S).2.2.2.2.2.2.2.2.2.1 (gx13 S).2.2.2.2.2.2.2.2.2.2.1 (gx13 S).2.2.2.2.2.2.2.2.2.2.2 pr_bf (gx14 S).2.1 (gx14 S).2.2.1 (gx14 S).2.2.2.1 pr_bs (gx14 S).2.2.2.2.2.1 (gx14 S).2.2.2.2.2.2.1 (gx14 S).2.2.2.2.2.2.2.1 pr_br (gx14 S).2.2.2.2.2.2.2.2.2.1 (gx14 S).2.2.2.2.2.2.2.2.2.2.1 (gx14 S).2.2.2.2.2.2.2.2.2.2.2 (gx15 S).1 (gx15 S).2.1 (gx15 S).2.2.1 (gx15 S).2.2.2.1 (gx15 S).2.2.2.2.1 (gx15 S).2.2.2.2.2.1 (gx15 S).2.2.2.2.2.2.1 (gx15 S).2.2.2.2.2.2.2.1 (gx15 S).2.2.2.2.2.2.2.2.1 (gx15 S).2.2.2.2.2.2.2.2.2.1 (gx15 S).2.2.2.2.2.2.2.2.2.2.1 (gx15 S).2.2.2.2.2.2.2.2.2.2.2 (gx16 S).1 pr_wc (gx16 S).2.2.1 (gx16 S).2.2.2.1 (gx16 S).2.2.2.2.1 pr_wr (gx16 S).2.2.2.2.2.2.1 (gx16 S).2.2.2.2.2.2.2.1 (gx16 S).2.2.2.2.2.2.2.2.1 (gx16 S).2.2.2.2.2.2.2.2.2.1 (gx16 S).2.2.2.2.2.2.2.2.2.2.1 (gx16 S).2.2.2.2.2.2.2.2.2.2.2 (gx17 S).1 (gx17 S).2.1 (gx17 S).2.2.1 (gx17 S).2.2.2.1 (gx17 S).2.2.2.2.1 (gx17 S).2.2.2.2.2.1 (gx17 S).2.2.2.2.2.2.1 (gx17 S).2.2.2.2.2.2.2.1 (gx17 S).2.2.2.2.2.2.2.2.1 pr_oc (gx17 S).2.2.2.2.2.2.2.2.2.2.1 (gx17 S).2.2.2.2.2.2.2.2.2.2.2 (gx18 S).1 pr_or (gx18 S).2.2.1 (gx18 S).2.2.2.1 (gx18 S).2.2.2.2.1 (gx18 S).2.2.2.2.2.1 (gx18 S).2.2.2.2.2.2.1 (gx18 S).2.2.2.2.2.2.2.1 (gx18 S).2.2.2.2.2.2.2.2.1 (gx18 S).2.2.2.2.2.2.2.2.2.1 (gx18 S).2.2.2.2.2.2.2.2.2.2.1 (gx18 S).2.2.2.2.2.2.2.2.2.2.2 (gx19 S).1 (gx19 S).2.1 (gx19 S).2.2.1 (gx19 S).2.2.2.1 (gx19 S).2.2.2.2.1 (gx19 S).2.2.2.2.2.1 (gx19 S).2.2.2.2.2.2.1 (gx19 S).2.2.2.2.2.2.2.1 (gx19 S).2.2.2.2.2.2.2.2.1 (gx19 S).2.2.2.2.2.2.2.2.2.1 (gx19 S).2.2.2.2.2.2.2.2.2.2.1 (gx19 S).2.2.2.2.2.2.2.2.2.2.2 (gx20 S).1 (gx20 S).2.1 (gx20 S).2.2.1 (gx20 S).2.2.2.1 (gx20 S).2.2.2.2.1 (gx20 S).2.2.2.2.2.1 (gx20 S).2.2.2.2.2.2.1 (gx20 S).2.2.2.2.2.2.2.1 (gx20 S).2.2.2.2.2.2.2.2.1 (gx20 S).2.2.2.2.2.2.2.2.2.1 (gx20 S).2.2.2.2.2.2.2.2.2.2.1 (gx20 S).2.2.2.2.2.2.2.2.2.2.2 (gx21 S).1 (gx21 S).2.1 (gx21 S).2.2.1 (gx21 S).2.2.2.1 (gx21 S).2.2.2.2.1 (gx21 S).2.2.2.2.2.1 (gx21 S).2.2.2.2.2.2.1 (gx21 S).2.2.2.2.2.2.2.1 (gx21 S).2.2.2.2.2.2.2.2.1 (gx21 S).2.2.2.2.2.2.2.2.2.1 (gx21 S).2.2.2.2.2.2.2.2.2.2.1 (gx21 S).2.2.2.2.2.2.2.2.2.2.2 (gx22 S).1 (gx22 S).2.1 (gx22 S).2.2.1 (gx22 S).2.2.2.1 (gx22 S).2.2.2.2.1 st_s st_r (gx22 S).2.2.2.2.2.2.2.1 (gx22 S).2.2.2.2.2.2.2.2.1 (gx22 S).2.2.2.2.2.2.2.2.2.1 (gx22 S).2.2.2.2.2.2.2.2.2.2.1 w1_l (gx23 S).1 w2_l (gx23 S).2.2.1 w3_l l_mi y_l_mi (gx23 S).2.2.2.2.2.1 l_mh y_l_mh (gx23 S).2.2.2.2.2.2.2.1 l_mf y_l_mf (gx23 S).2.2.2.2.2.2.2.2.2.1 l_mn y_l_mn (gx23 S).2.2.2.2.2.2.2.2.2.2.2 l_ri y_l_ri (gx24 S).2.1 l_rn y_l_rn (gx24 S).2.2.2.1 l_rc y_l_rc (gx24 S).2.2.2.2.2.1 l_rr y_l_rr (gx24 S).2.2.2.2.2.2.2.1 l_re y_l_re (gx24 S).2.2.2.2.2.2.2.2.2.1 l_rd y_l_rd (gx24 S).2.2.2.2.2.2.2.2.2.2.2 l_bi y_l_bi (gx25 S).2.1 l_bf y_l_bf (gx25 S).2.2.2.1 l_bs y_l_bs (gx25 S).2.2.2.2.2.1 l_br y_l_br (gx25 S).2.2.2.2.2.2.2.1 l_wi y_l_wi (gx25 S).2.2.2.2.2.2.2.2.2.1 l_wc y_l_wc (gx25 S).2.2.2.2.2.2.2.2.2.2.2 l_wr y_l_wr (gx26 S).2.1 l_oi y_l_oi (gx26 S).2.2.2.1 l_oc y_l_oc (gx26 S).2.2.2.2.2.1 l_or y_l_or (gx26 S).2.2.2.2.2.2.2.1 l_gc y_l_gc (gx26 S).2.2.2.2.2.2.2.2.2.1 l_gi y_l_gi (gx26 S).2.2.2.2.2.2.2.2.2.2.2 l_gs y_l_gs (gx27 S).2.1 l_bc y_l_bc (gx27 S).2.2.2.1 l_mc y_l_mc (gx27 S).2.2.2.2.2.1 l_wq y_l_wq (gx27 S).2.2.2.2.2.2.2.1 l_wa y_l_wa (gx27 S).2.2.2.2.2.2.2.2.2.1 l_ws y_l_ws (gx27 S).2.2.2.2.2.2.2.2.2.2.2 l_wd y_l_wd (gx28 S).2.1 l_wp y_l_wp (gx28 S).2.2.2.1 l_os y_l_os (gx28 S).2.2.2.2.2.1 l_ou y_l_ou (gx28 S).2.2.2.2.2.2.2.1 (gx28 S).2.2.2.2.2.2.2.2.1 (gx28 S).2.2.2.2.2.2.2.2.2.1 (gx28 S).2.2.2.2.2.2.2.2.2.2.1 (gx28 S).2.2.2.2.2.2.2.2.2.2.2 (gx29 S).1 (gx29 S).2.1 (gx29 S).2.2.1 (gx29 S).2.2.2.1 (gx29 S).2.2.2.2.1 (gx29 S).2.2.2.2.2.1 (gx29 S).2.2.2.2.2.2.1 (gx29 S).2.2.2.2.2.2.2.1 (gx29 S).2.2.2.2.2.2.2.2.1 (gx29 S).2.2.2.2.2.2.2.2.2.1 (gx29 S).2.2.2.2.2.2.2.2.2.2.1 (gx29 S).2.2.2.2.2.2.2.2.2.2.2 (gx30 S).1 (gx30 S).2.1 (gx30 S).2.2.1 (gx30 S).2.2.2.1 m_LETTERS m_LONGEST_NAME m_MOST_FACTS_facts m_MOST_NAMES m_MOST_AROUND m_MOST_RULES m_MOST_OUTERMOST m_MOST_ORDERED m_MOST_FACTS_watchers (gx31 S).2.1 (gx31 S).2.2.1 (gx31 S).2.2.2.1 (gx31 S).2.2.2.2.1 (gx31 S).2.2.2.2.2.1 (gx31 S).2.2.2.2.2.2.1 (gx31 S).2.2.2.2.2.2.2.1 (gx31 S).2.2.2.2.2.2.2.2.1 (gx31 S).2.2.2.2.2.2.2.2.2.1 (gx31 S).2.2.2.2.2.2.2.2.2.2.1 (gx31 S).2.2.2.2.2.2.2.2.2.2.2 (gx32 S).1 (gx32 S).2.1 (gx32 S).2.2.1 (gx32 S).2.2.2.1 (gx32 S).2.2.2.2.1 (gx32 S).2.2.2.2.2.1 (gx32 S).2.2.2.2.2.2.1 (gx32 S).2.2.2.2.2.2.2.1 (gx32 S).2.2.2.2.2.2.2.2.1 (gx32 S).2.2.2.2.2.2.2.2.2.1 (gx32 S).2.2.2.2.2.2.2.2.2.2.1 (gx32 S).2.2.2.2.2.2.2.2.2.2.2 (gx33 S).1 (gx33 S).2.1 (gx33 S).2.2.1 (gx33 S).2.2.2.1 (gx33 S).2.2.2.2.1 (gx33 S).2.2.2.2.2.1 (gx33 S).2.2.2.2.2.2.1 (gx33 S).2.2.2.2.2.2.2.1 (gx33 S).2.2.2.2.2.2.2.2.1 (gx33 S).2.2.2.2.2.2.2.2.2.1 (gx33 S).2.2.2.2.2.2.2.2.2.2.1 (gx33 S).2.2.2.2.2.2.2.2.2.2.2 (gx34 S).1 (gx34 S).2.1 (gx34 S).2.2.1 (gx34 S).2.2.2.1 (gx34 S).2.2.2.2.1 (gx34 S).2.2.2.2.2.1 (gx34 S).2.2.2.2.2.2.1 (gx34 S).2.2.2.2.2.2.2.1 (gx34 S).2.2.2.2.2.2.2.2.1 (gx34 S).2.2.2.2.2.2.2.2.2.1 (gx34 S).2.2.2.2.2.2.2.2.2.2.1 (gx34 S).2.2.2.2.2.2.2.2.2.2.2 (gx35 S).1 (gx35 S).2.1 (gx35 S).2.2.1 (gx35 S).2.2.2.1 (gx35 S).2.2.2.2.1 (gx35 S).2.2.2.2.2.1 (gx35 S).2.2.2.2.2.2.1 (gx35 S).2.2.2.2.2.2.2.1 (gx35 S).2.2.2.2.2.2.2.2.1 (gx35 S).2.2.2.2.2.2.2.2.2.1 (gx35 S).2.2.2.2.2.2.2.2.2.2.1 (gx35 S).2.2.2.2.2.2.2.2.2.2.2 (gx36 S).1 (gx36 S).2.1 (gx36 S).2.2.1 (gx36 S).2.2.2.1 (gx36 S).2.2.2.2.1 (gx36 S).2.2.2.2.2.1 (gx36 S).2.2.2.2.2.2.1 (gx36 S).2.2.2.2.2.2.2.1 (gx36 S).2.2.2.2.2.2.2.2.1 (gx36 S).2.2.2.2.2.2.2.2.2.1 (gx36 S).2.2.2.2.2.2.2.2.2.2.1 (gx36 S).2.2.2.2.2.2.2.2.2.2.2 (gx37 S).1 (gx37 S).2.1 (gx37 S).2.2.1 (gx37 S).2.2.2.1 (gx37 S).2.2.2.2.1 (gx37 S).2.2.2.2.2.1 (gx37 S).2.2.2.2.2.2.1 (gx37 S).2.2.2.2.2.2.2.1 (gx37 S).2.2.2.2.2.2.2.2.1 (gx37 S).2.2.2.2.2.2.2.2.2.1 (gx37 S).2.2.2.2.2.2.2.2.2.2.1 (gx37 S).2.2.2.2.2.2.2.2.2.2.2 (gx38 S).1 (gx38 S).2.1 (gx38 S).2.2.1 (gx38 S).2.2.2.1 (gx38 S).2.2.2.2.1 (gx38 S).2.2.2.2.2.1 (gx38 S).2.2.2.2.2.2.1 (gx38 S).2.2.2.2.2.2.2.1 (gx38 S).2.2.2.2.2.2.2.2.1 (gx38 S).2.2.2.2.2.2.2.2.2.1 (gx38 S).2.2.2.2.2.2.2.2.2.2.1 (gx38 S).2.2.2.2.2.2.2.2.2.2.2 (gx39 S).1 (gx39 S).2.1 (gx39 S).2.2.1 (gx39 S).2.2.2.1 (gx39 S).2.2.2.2.1 (gx39 S).2.2.2.2.2.1 (gx39 S).2.2.2.2.2.2.1 (gx39 S).2.2.2.2.2.2.2.1 (gx39 S).2.2.2.2.2.2.2.2.1 (gx39 S).2.2.2.2.2.2.2.2.2.1 (gx39 S).2.2.2.2.2.2.2.2.2.2.1 (gx39 S).2.2.2.2.2.2.2.2.2.2.2 (gx40 S).1 (gx40 S).2.1 (gx40 S).2.2.1 (gx40 S).2.2.2.1 (gx40 S).2.2.2.2.1 (gx40 S).2.2.2.2.2.1 (gx40 S).2.2.2.2.2.2.1 (gx40 S).2.2.2.2.2.2.2.1 (gx40 S).2.2.2.2.2.2.2.2.1 (gx40 S).2.2.2.2.2.2.2.2.2.1 (gx40 S).2.2.2.2.2.2.2.2.2.2.1 (gx40 S).2.2.2.2.2.2.2.2.2.2.2 (gx41 S).1 (gx41 S).2.1 (gx41 S).2.2.1 (gx41 S).2.2.2.1 (gx41 S).2.2.2.2.1 (gx41 S).2.2.2.2.2.1 (gx41 S).2.2.2.2.2.2.1 (gx41 S).2.2.2.2.2.2.2.1 (gx41 S).2.2.2.2.2.2.2.2.1 (gx41 S).2.2.2.2.2.2.2.2.2.1 (gx41 S).2.2.2.2.2.2.2.2.2.2.1 (gx41 S).2.2.2.2.2.2.2.2.2.2.2 (gx42 S).1 (gx42 S).2.1 (gx42 S).2.2.1 (gx42 S).2.2.2.1 (gx42 S).2.2.2.2.1 (gx42 S).2.2.2.2.2.1 (gx42 S).2.2.2.2.2.2.1 (gx42 S).2.2.2.2.2.2.2.1 (gx42 S).2.2.2.2.2.2.2.2.1 (gx42 S).2.2.2.2.2.2.2.2.2.1 (gx42 S).2.2.2.2.2.2.2.2.2.2.1 (gx42 S).2.2.2.2.2.2.2.2.2.2.2 (gx43 S).1 (gx43 S).2.1 (gx43 S).2.2.1 (gx43 S).2.2.2.1 (gx43 S).2.2.2.2.1 (gx43 S).2.2.2.2.2.1 (gx43 S).2.2.2.2.2.2.1 (gx43 S).2.2.2.2.2.2.2.1 (gx43 S).2.2.2.2.2.2.2.2.1 (gx43 S).2.2.2.2.2.2.2.2.2.1 (gx43 S).2.2.2.2.2.2.2.2.2.2.1 (gx43 S).2.2.2.2.2.2.2.2.2.2.2 (gx44 S).1 (gx44 S).2.1 (gx44 S).2.2.1 (gx44 S).2.2.2.1 x_E (gx44 S).2.2.2.2.2.1 (gx44 S).2.2.2.2.2.2.1 (gx44 S).2.2.2.2.2.2.2.1 i1_x (gx44 S).2.2.2.2.2.2.2.2.2.1 (gx44 S).2.2.2.2.2.2.2.2.2.2.1 (gx44 S).2.2.2.2.2.2.2.2.2.2.2 (gx45 S).1 (gx45 S).2.1 (gx45 S).2.2.1 i1_lI y_i1_lI i1_ce i1_co i1_fi i1_fe (gx45 S).2.2.2.2.2.2.1 (gx45 S).2.2.2.2.2.2.2.1 (gx45 S).2.2.2.2.2.2.2.2.1 (gx45 S).2.2.2.2.2.2.2.2.2.1 (gx45 S).2.2.2.2.2.2.2.2.2.2.1 i7_x (gx46 S).1 (gx46 S).2.1 (gx46 S).2.2.1 (gx46 S).2.2.2.1 (gx46 S).2.2.2.2.1 (gx46 S).2.2.2.2.2.1 i7_lI y_i7_lI i7_ce i7_co i7_fi i7_fe (gx46 S).2.2.2.2.2.2.2.2.2.1 (gx46 S).2.2.2.2.2.2.2.2.2.2.1 (gx46 S).2.2.2.2.2.2.2.2.2.2.2 (gx47 S).1 (gx47 S).2.1 i8_x (gx47 S).2.2.2.1 (gx47 S).2.2.2.2.1 (gx47 S).2.2.2.2.2.1 (gx47 S).2.2.2.2.2.2.1 (gx47 S).2.2.2.2.2.2.2.1 (gx47 S).2.2.2.2.2.2.2.2.1 i8_lI y_i8_lI i8_ce i8_co i8_fi i8_fe (gx48 S).1 (gx48 S).2.1 (gx48 S).2.2.1 (gx48 S).2.2.2.1 (gx48 S).2.2.2.2.1 (gx48 S).2.2.2.2.2.1 i9_x (gx48 S).2.2.2.2.2.2.2.1 (gx48 S).2.2.2.2.2.2.2.2.1 (gx48 S).2.2.2.2.2.2.2.2.2.1 (gx48 S).2.2.2.2.2.2.2.2.2.2.1 (gx48 S).2.2.2.2.2.2.2.2.2.2.2 (gx49 S).1 i9_lI y_i9_lI i9_ce i9_co i9_fi i9_fe (gx49 S).2.2.2.2.1 (gx49 S).2.2.2.2.2.1 (gx49 S).2.2.2.2.2.2.1 (gx49 S).2.2.2.2.2.2.2.1 (gx49 S).2.2.2.2.2.2.2.2.1 i10_x (gx49 S).2.2.2.2.2.2.2.2.2.2.1 (gx49 S).2.2.2.2.2.2.2.2.2.2.2 (gx50 S).1 (gx50 S).2.1 (gx50 S).2.2.1 (gx50 S).2.2.2.1 i10_lI y_i10_lI i10_ce i10_co i10_fi i10_fe (gx50 S).2.2.2.2.2.2.2.1 (gx50 S).2.2.2.2.2.2.2.2.1 (gx50 S).2.2.2.2.2.2.2.2.2.1 (gx50 S).2.2.2.2.2.2.2.2.2.2.1 (gx50 S).2.2.2.2.2.2.2.2.2.2.2 (gx51 S).1 (gx51 S).2.1 (gx51 S).2.2.1 (gx51 S).2.2.2.1 (gx51 S).2.2.2.2.1 (gx51 S).2.2.2.2.2.1 (gx51 S).2.2.2.2.2.2.1 (gx51 S).2.2.2.2.2.2.2.1 (gx51 S).2.2.2.2.2.2.2.2.1 (gx51 S).2.2.2.2.2.2.2.2.2.1 (gx51 S).2.2.2.2.2.2.2.2.2.2.1 (gx51 S).2.2.2.2.2.2.2.2.2.2.2 (gx52 S).1 (gx52 S).2.1 (gx52 S).2.2.1 (gx52 S).2.2.2.1 (gx52 S).2.2.2.2.1 (gx52 S).2.2.2.2.2.1 (gx52 S).2.2.2.2.2.2.1 (gx52 S).2.2.2.2.2.2.2.1 (gx52 S).2.2.2.2.2.2.2.2.1 (gx52 S).2.2.2.2.2.2.2.2.2.1 (gx52 S).2.2.2.2.2.2.2.2.2.2.1 (gx52 S).2.2.2.2.2.2.2.2.2.2.2 (gx53 S) tbl z_tbl (S.empty _ (mem_at (i := 0) rfl)) (S.out _ (mem_at (i := 0) rfl)) (by kernel_rfl)
end Sc
open PySem PySem.W PySem.Calls PyProof.Rows
theorem PySem.Challenge.cw_smallcourt_k52_watchers_refused_holds : PySem.Challenge.rw_smallcourt_k52_watchers_refused.Holds := by
  w_on; o_law
  refine HandSHeadRun.head_any (r := Sc.theRow) (q := view Sc.theRow.prog [Sc.lawI]) (H := Sc.hk) (ob := Sc.ob) (M := 9000) (loose := Sc.names) (d := HandSHeadRun.topDef Sc.theRow.prog Sc.lawI) (kwd := []) Sc.ob_eq (by kernel_rfl) (fun s => by kernel_rfl) Sc.run (by kernel_rfl) (by kernel_rfl) (by kernel_rfl) (by rfl) (by first | assumption | decide +kernel) (by decide +kernel) ⟨rfl, rfl, rfl, rfl, rfl, by decide +kernel⟩ ?hw ?hc
  case hw => w_witness2
  case hc =>
    refine LamX.walk_ofTsE (l := Sc.theLaw) (n := 63) (k := 42) (CX := fun _ => L2.CX0) (x := "_law_script") rfl (by decide) (by kernel_rfl) ⟨rfl, by decide, by decide⟩ ?F (fun _ _ _ _ _ z => z)
    intro w mg fa h Y G hmg0
    obtain ⟨K, KX, c⟩ := Y
    have hmg : mg ("law" : PySem.Str) = some (.ref fa) := by
      have e : (HandSHeadRun.topDef Sc.theRow.prog Sc.lawI).name = ("law" : PySem.Str) := by kernel_rfl
      rw [← e]
      exact hmg0
    exact ⟨K, KX, Sc.all_y KX G hmg c⟩
