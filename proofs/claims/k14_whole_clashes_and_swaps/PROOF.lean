import PyProof.Rows.All
import Wide.All
import OpenK.AllK
import Wide.FinOn
import KE.GoesMore
import HandS.Iter
import KE.KExcSuper
import HandS.Nested
import HandS.ExcInit
import HandS.FStr
import HandS.ForMost
import HandS.ForExc
import HandS.EndTab
import HandS.IsInst
import HandS.SetFor
import HandS.ExcIs
import HandS.ExcField
import HandS.TupAny
import HandS.Wide
import HandS.WideBits
import HandS.Walk
import HandS.Deep
import KE.KExcIs
import PySem.Challenge.RW_smallcourt_k14_whole_clashes_and_swaps
import HandS.Style
import KE.KBits
import HandS.Property
import HandS.NamedTupGet
import HandS.More
import HandS.SlotsOwn
import KE.KOpsOwn
import KE.KCallOwn
import HandS.WordsExc
import OpenK.KMeth
import PyProof.EqKinds
import PyProof.NeKinds
import HandS.List
import PyProof.AutoSeq1
import HandS.SortRule
import HandS.OwnEq
import HandS.Head2
import HandS.Head3
import HandS.HeadHook4
import HandS.HeadWalk
set_option Elab.async false
set_option linter.all false
set_option maxRecDepth 100000
set_option maxHeartbeats 4000000
namespace Sc
open PySem PySem.Spec PyProof.Rows L2 NdefX
def topS (i : Nat) : Stmt := PySem.Challenge.pw_smallcourt_k14_whole_clashes_and_swaps.main.body.getD i (.Pass ⟨0, 0, 0, 0⟩)
abbrev s_is_name : Stmt := topS 23
abbrev s_rises : Stmt := topS 24
abbrev s__law_mix : Stmt := topS 61
abbrev s__law_next : Stmt := topS 62
abbrev s__law_facts : Stmt := topS 65
abbrev s__law_alike : Stmt := topS 63
abbrev s_check_facts : Stmt := topS 27
abbrev s_check_case : Stmt := topS 28
abbrev s_bits_of : Stmt := topS 29
abbrev s_names_of : Stmt := topS 30
abbrev s_check_part : Stmt := topS 58
abbrev s_merged : Stmt := topS 59
abbrev s_Condition___init__ : Stmt := (inClass (topS 57) 0)
abbrev s_Condition_holding : Stmt := (inClass (topS 57) 1)
abbrev s_Condition_failing : Stmt := (inClass (topS 57) 2)
abbrev s_Condition_names : Stmt := (inClass (topS 57) 3)
abbrev s_Condition___len__ : Stmt := (inClass (topS 57) 5)
abbrev s_Condition___call__ : Stmt := (inClass (topS 57) 4)
abbrev s_Condition_within : Stmt := (inClass (topS 57) 8)
abbrev s_Condition___eq__ : Stmt := (inClass (topS 57) 7)
abbrev s_Condition___and__ : Stmt := (inClass (topS 57) 6)
abbrev s_nested : Stmt := topS 41
abbrev s_Rule___init__ : Stmt := (inClass (topS 39) 0)
abbrev s_Rule_name : Stmt := (inClass (topS 39) 1)
abbrev s_Rule_condition : Stmt := (inClass (topS 39) 2)
abbrev s_Rule_ruling : Stmt := (inClass (topS 39) 3)
abbrev s_Rule_exceptions : Stmt := (inClass (topS 39) 4)
abbrev s_Rule_depth : Stmt := (inClass (topS 39) 5)
abbrev s_check_rules : Stmt := topS 42
abbrev s_Book___init__ : Stmt := (inClass (topS 40) 0)
abbrev s_Book_facts : Stmt := (inClass (topS 40) 1)
abbrev s_Book_rules : Stmt := (inClass (topS 40) 2)
abbrev s_Book_ruling : Stmt := (inClass (topS 40) 3)
abbrev s_cube_of : Stmt := topS 45
abbrev s_clash : Stmt := topS 47
abbrev s_up_to_first_met : Stmt := topS 33
abbrev s_steps : Stmt := topS 32
abbrev s_looked_into : Stmt := topS 34
abbrev s__law_parts : Stmt := topS 66
abbrev s__law_meets : Stmt := topS 70
abbrev s__law_case : Stmt := topS 73
abbrev s__law_every : Stmt := topS 74
abbrev s__law_rules : Stmt := topS 67
abbrev s_Book___contains__ : Stmt := (inClass (topS 40) 7)
abbrev s_Book___getitem__ : Stmt := (inClass (topS 40) 8)
abbrev s_path_to : Stmt := topS 49
abbrev s_next_beside : Stmt := topS 50
abbrev s_joined : Stmt := topS 46
abbrev s_clashes_within : Stmt := topS 53
abbrev s_clashes : Stmt := topS 52
abbrev s__law_error : Stmt := topS 64
abbrev s__law_pairs : Stmt := topS 75
abbrev s_replaced : Stmt := topS 43
abbrev s_swapped : Stmt := topS 54
abbrev s__law_changed : Stmt := topS 76
abbrev s_Book_names : Stmt := (inClass (topS 40) 4)
abbrev s_Rule___eq__ : Stmt := (inClass (topS 39) 7)
abbrev s_Book___eq__ : Stmt := (inClass (topS 40) 11)
abbrev s__law_rule : Stmt := topS 68
abbrev s__law_book : Stmt := topS 69
abbrev s_law : Stmt := topS 77
abbrev nf_InvalidFacts (cc c : Addr) : NF := ⟨"__init__", "InvalidFacts.__init__", defArgs (inClass (topS 3) 0), defBody (inClass (topS 3) 0), defScope (inClass (topS 3) 0), [(("__class__" : Str), cc)], c⟩
abbrev nf_InvalidCase (cc c : Addr) : NF := ⟨"__init__", "InvalidCase.__init__", defArgs (inClass (topS 4) 0), defBody (inClass (topS 4) 0), defScope (inClass (topS 4) 0), [(("__class__" : Str), cc)], c⟩
abbrev nf_InvalidCondition (cc c : Addr) : NF := ⟨"__init__", "InvalidCondition.__init__", defArgs (inClass (topS 6) 0), defBody (inClass (topS 6) 0), defScope (inClass (topS 6) 0), [(("__class__" : Str), cc)], c⟩
abbrev nf_InvalidRule (cc c : Addr) : NF := ⟨"__init__", "InvalidRule.__init__", defArgs (inClass (topS 8) 0), defBody (inClass (topS 8) 0), defScope (inClass (topS 8) 0), [(("__class__" : Str), cc)], c⟩
abbrev nf_InvalidBook (cc c : Addr) : NF := ⟨"__init__", "InvalidBook.__init__", defArgs (inClass (topS 9) 0), defBody (inClass (topS 9) 0), defScope (inClass (topS 9) 0), [(("__class__" : Str), cc)], c⟩
abbrev nf_InvalidChance (cc c : Addr) : NF := ⟨"__init__", "InvalidChance.__init__", defArgs (inClass (topS 15) 0), defBody (inClass (topS 15) 0), defScope (inClass (topS 15) 0), [(("__class__" : Str), cc)], c⟩
def letters : Str := "abcdefghijklmnopqrstuvwxyz"
end Sc
namespace HeadY
open PySem PySem.Spec PyProof.Rows L2 He
/-! ### addresses -/
def recF (K : PySem.W.Frag) (p : Addr) : Addr := match PySem.W.recIn K p "property" with
  | some (.ref g :: _) => g
  | _ => 0
def codA (K : PySem.W.Frag) (f : Addr) : Addr := match K.lookup f with
  | some ⟨_, _, .func fd, _⟩ => (match fd.code with
    | .ref c => c
    | _ => 0)
  | _ => 0
def cloA (K : PySem.W.Frag) (f : Addr) : Addr := match K.lookup f with
  | some ⟨_, _, .func fd, _⟩ => (match fd.closure with
    | (_, c) :: _ => c
    | _ => 0)
  | _ => 0
def mroT (K : PySem.W.Frag) (C : Addr) : List Value := match K.lookup C with
  | some ⟨_, _, .cls cd, _⟩ => cd.mro.tail
  | _ => []
/-! ### functions -/
abbrev FnY : Type := Option (Str × Str × Arguments × FuncBody × Scope)
def fnY (K : PySem.W.Frag) (a : Addr) : FnY := match K.lookup a with
  | some ⟨_, _, .func fd, _⟩ => some (fd.name, fd.qualname, fd.params, fd.body, fd.scope)
  | _ => none
structure FnDY where
  at_ : PySem.W.Frag → Addr
  name : Str
  qual : Str
  params : Arguments
  body : List Stmt
  scope : Scope
def FnDY.val (d : FnDY) : FnY := some (d.name, d.qual, d.params, .stmts d.body, d.scope)
def fnB (K : PySem.W.Frag) (a : Addr) (q : Str) : Bool := match K.lookup a with
  | some ⟨_, _, .func fd, _⟩ => PySem.W.codeIn K (.ref (codA K a)) q && (decide (fd.code = .ref (codA K a)) && (decide (fd.globals = mainGlobals) && (fd.closure.isEmpty && (decide (fd.defaults = .none) && decide (fd.builtins = builtinsNs)))))
  | _ => false
def fnBC (K : PySem.W.Frag) (a : Addr) (q : Str) : Bool := match K.lookup a with
  | some ⟨_, _, .func fd, _⟩ => PySem.W.codeIn K (.ref (codA K a)) q && (decide (fd.code = .ref (codA K a)) && (decide (fd.globals = mainGlobals) && (decide (fd.closure = [(("__class__" : Str), cloA K a)]) && (decide (fd.defaults = .none) && decide (fd.builtins = builtinsNs)))))
  | _ => false
theorem fn_ok {K : PySem.W.Frag} {a : Addr} {n q : Str} {ps : Arguments} {b : List Stmt} {sc : Scope} (e : fnY K a = some (n, q, ps, .stmts b, sc)) (c : fnB K a q = true) :
    ∃ oc od kV dc pm an ct sl, K.lookup a = some ⟨oc, od, .func (PySem.W.fnOf n q ps b sc .none kV dc pm an (.ref (codA K a)) ct), sl⟩ ∧ PySem.W.codeIn K (.ref (codA K a)) q = true := by
  unfold fnB at c
  unfold fnY at e
  cases z : K.lookup a with
  | none => rw [z] at c; cases c
  | some o =>
    obtain ⟨oc, od, dt, sl⟩ := o
    rw [z] at c e
    cases dt with
    | func fd =>
      obtain ⟨n1, n2, n3, n4, n5, n6, n7, n8, n9, n10, n11, n12, n13, n14, n15⟩ := fd
      have e2 : (some (n1, n2, n3, n4, n5) : FnY) = some (n, q, ps, .stmts b, sc) := e
      simp only [Option.some.injEq, Prod.mk.injEq] at e2
      obtain ⟨h1, h2, h3, h4, h5⟩ := e2
      obtain ⟨c1, c⟩ := ba c
      obtain ⟨c2, c⟩ := ba c
      obtain ⟨c3, c⟩ := ba c
      obtain ⟨c4, c⟩ := ba c
      obtain ⟨c5, c6⟩ := ba c
      have c2 : n13 = _ := of_decide_eq_true c2
      have c3 : n6 = _ := of_decide_eq_true c3
      have c4 : n7 = [] := List.isEmpty_iff.mp c4
      have c5 : n8 = _ := of_decide_eq_true c5
      have c6 : n15 = _ := of_decide_eq_true c6
      exact ⟨oc, od, n9, n10, n11, n12, n14, sl, by rw [h1, h2, h3, h4, h5, c2, c3, c4, c5, c6], c1⟩
    | _ => cases c
theorem fn_okC {K : PySem.W.Frag} {a : Addr} {n q : Str} {ps : Arguments} {b : List Stmt} {sc : Scope} (e : fnY K a = some (n, q, ps, .stmts b, sc)) (c : fnBC K a q = true) :
    ∃ oc od kV dc pm an ct sl, K.lookup a = some ⟨oc, od, .func (PySem.W.fnX n q ps b sc [(("__class__" : Str), cloA K a)] .none kV dc pm an (.ref (codA K a)) ct), sl⟩ ∧ PySem.W.codeIn K (.ref (codA K a)) q = true := by
  unfold fnBC at c
  unfold fnY at e
  cases z : K.lookup a with
  | none => rw [z] at c; cases c
  | some o =>
    obtain ⟨oc, od, dt, sl⟩ := o
    rw [z] at c e
    cases dt with
    | func fd =>
      obtain ⟨n1, n2, n3, n4, n5, n6, n7, n8, n9, n10, n11, n12, n13, n14, n15⟩ := fd
      have e2 : (some (n1, n2, n3, n4, n5) : FnY) = some (n, q, ps, .stmts b, sc) := e
      simp only [Option.some.injEq, Prod.mk.injEq] at e2
      obtain ⟨h1, h2, h3, h4, h5⟩ := e2
      obtain ⟨c1, c⟩ := ba c
      obtain ⟨c2, c⟩ := ba c
      obtain ⟨c3, c⟩ := ba c
      obtain ⟨c4, c⟩ := ba c
      obtain ⟨c5, c6⟩ := ba c
      have c2 : n13 = _ := of_decide_eq_true c2
      have c3 : n6 = _ := of_decide_eq_true c3
      have c4 : n7 = _ := of_decide_eq_true c4
      have c5 : n8 = _ := of_decide_eq_true c5
      have c6 : n15 = _ := of_decide_eq_true c6
      exact ⟨oc, od, n9, n10, n11, n12, n14, sl, by rw [h1, h2, h3, h4, h5, c2, c3, c4, c5, c6], c1⟩
    | _ => cases c
/-! ### shapes -/
def intB (K : PySem.W.Frag) (x : Str) (i : Int) : Bool := match PySem.W.nsIn K mainGlobals x with
  | some (some (.int j _)) => decide (j = i)
  | _ => false
theorem int_is {K : PySem.W.Frag} {x : Str} {i : Int} (c : intB K x i = true) : ∃ t, PySem.W.nsIn K mainGlobals x = some (some (.int i t)) := by
  unfold intB at c
  split at c
  · rename_i j t e
    exact ⟨t, by rw [e, of_decide_eq_true c]⟩
  · cases c
def strB (K : PySem.W.Frag) (x s : Str) : Bool := match PySem.W.nsIn K mainGlobals x with
  | some (some (.str j _)) => decide (j = s)
  | _ => false
theorem str_is {K : PySem.W.Frag} {x s : Str} (c : strB K x s = true) : ∃ t, PySem.W.nsIn K mainGlobals x = some (some (.str s t)) := by
  unfold strB at c
  split at c
  · rename_i j t e
    exact ⟨t, by rw [e, of_decide_eq_true c]⟩
  · cases c
def recB (K : PySem.W.Frag) (p : Addr) : Bool := match PySem.W.recIn K p "property" with
  | some (.ref g :: _) => decide (g = recF K p)
  | _ => false
theorem rec_is {K : PySem.W.Frag} {p : Addr} (c : recB K p = true) : ∃ rs, PySem.W.recIn K p "property" = some (.ref (recF K p) :: rs) := by
  unfold recB at c
  split at c
  · rename_i g rs e
    exact ⟨rs, by rw [e, of_decide_eq_true c]⟩
  · cases c
theorem some_is {α : Type} {o : Option α} (c : o.isSome = true) : ∃ x, o = some x := Option.isSome_iff_exists.mp c
def sixB (id : String) : List (Option Value) → Bool
  | [_, _, _, _, some (.builtin b), _] => decide (b = id)
  | _ => false
theorem six_is {id : String} {l : List (Option Value)} (c : sixB id l = true) : ∃ x0 x1 x2 x3 x5, l = [x0, x1, x2, x3, some (.builtin id), x5] := by
  unfold sixB at c
  split at c
  · have c := of_decide_eq_true c
    exact ⟨_, _, _, _, _, by rw [c]⟩
  · cases c
def excB (K : PySem.W.Frag) (C : Addr) (id : String) : Bool := match K.lookup C with
  | some ⟨.type t, _, .cls cd, sl⟩ => decide (t = "type") && (decide (cd.mro = .ref C :: mroT K C) && (cd.hasDict && (!cd.hasDel && sixB id sl.toList)))
  | _ => false
theorem exc_is {K : PySem.W.Frag} {C : Addr} {id : String} (c : excB K C id = true) :
    ∃ nm q N bs sn su ab col dd x0 x1 x2 x3 x5, K.lookup C = some (excClassObj nm q C N bs (mroT K C) true sn su ab col dd x0 x1 x2 x3 x5 id) := by
  unfold excB at c
  cases z : K.lookup C with
  | none => rw [z] at c; cases c
  | some o =>
    obtain ⟨oc, od, dt, ⟨sl⟩⟩ := o
    rw [z] at c
    cases oc with
    | type t =>
      cases dt with
      | cls cd =>
        obtain ⟨n1, n2, n3, n4, n5, n6, n7, n8, n9, n10, n11⟩ := cd
        obtain ⟨c1, c⟩ := ba c
        obtain ⟨c2, c⟩ := ba c
        obtain ⟨c3, c⟩ := ba c
        obtain ⟨c4, c5⟩ := ba c
        have c1 : t = _ := of_decide_eq_true c1
        have c2 : n3 = _ := of_decide_eq_true c2
        have c3 : n6 = true := c3
        have c4 : n11 = false := by
          cases n11 with
          | false => rfl
          | true => cases c4
        obtain ⟨x0, x1, x2, x3, x5, c5⟩ := six_is (l := sl) c5
        exact ⟨n1, n5, n4, n2, n7, n8, n9, n10, od, x0, x1, x2, x3, x5, by rw [c1, c2, c3, c4, c5]⟩
      | _ => cases c
    | _ => cases dt <;> cases c
def cellB (K : PySem.W.Frag) (c E : Addr) : Bool := match K.lookup c with
  | some ⟨_, _, .cell (some (.ref a)), _⟩ => decide (a = E)
  | _ => false
theorem cell_is {K : PySem.W.Frag} {c E : Addr} (e : cellB K c E = true) : ∃ cl cd sl, K.lookup c = some ⟨cl, cd, .cell (some (.ref E)), sl⟩ := by
  unfold cellB at e
  split at e
  · rename_i a _ z
    exact ⟨_, _, _, by rw [z, of_decide_eq_true e]⟩
  · cases e
def fileB (K : PySem.W.Frag) (c : Addr) (f : Str) : Bool := match K.lookup c with
  | some ⟨_, _, .fields vs, _⟩ => (match (vs[2]? : Option Value) with
    | some (.str x _) => f == x
    | _ => false)
  | _ => false
theorem file_is {K : PySem.W.Frag} {c : Addr} {f : Str} (e : fileB K c f = true) : ∃ cl cd vs sl x t, K.lookup c = some ⟨cl, cd, .fields vs, sl⟩ ∧ vs[2]? = some (.str x t) ∧ (f == x) = true := by
  unfold fileB at e
  split at e
  · rename_i vs _ z
    split at e
    · rename_i x t y
      exact ⟨_, _, _, _, x, t, z, y, e⟩
    · cases e
  · cases e
def strsB : List Value → List Str → Bool
  | [], [] => true
  | .str x _ :: r, s :: ss => decide (x = s) && strsB r ss
  | _, _ => false
theorem strs_is : ∀ {l : List Value} {ss : List Str}, strsB l ss = true → ∃ us : List Tok, us.length = ss.length ∧ l = List.zipWith Value.str ss us
  | [], [], _ => ⟨[], rfl, rfl⟩
  | [], s :: ss, h => by cases h
  | v :: r, [], h => by cases v <;> cases h
  | v :: r, s :: ss, h => by
    cases v with
    | str x t =>
      obtain ⟨h1, h2⟩ := ba h
      obtain ⟨us, e1, e2⟩ := strs_is h2
      refine ⟨t :: us, by simp [e1], ?_⟩
      have h1 : x = s := of_decide_eq_true h1
      rw [h1, e2]
      rfl
    | _ => cases h
def tupB (K : PySem.W.Frag) (a : Addr) (ss : List Str) : Bool := match K.lookup a with
  | some ⟨.type c, _, .seq its _, _⟩ => decide (c = "tuple") && strsB its.toList ss
  | _ => false
theorem tup_is {K : PySem.W.Frag} {a : Addr} {ss : List Str} (e : tupB K a ss = true) : ∃ od n sl, ∃ us : List Tok, us.length = ss.length ∧ K.lookup a = some ⟨.type "tuple", od, .seq ⟨List.zipWith Value.str ss us⟩ n, sl⟩ := by
  unfold tupB at e
  cases z : K.lookup a with
  | none => rw [z] at e; cases e
  | some o =>
    obtain ⟨oc, od, dt, sl⟩ := o
    rw [z] at e
    cases oc with
    | type c =>
      cases dt with
      | seq its n =>
        obtain ⟨⟨its⟩⟩ : Nonempty { x : Array Value // x = its } := ⟨⟨its, rfl⟩⟩
        obtain ⟨e1, e2⟩ := ba e
        obtain ⟨us, h1, h2⟩ := strs_is e2
        have e1 : c = "tuple" := of_decide_eq_true e1
        refine ⟨od, n, sl, us, h1, ?_⟩
        rw [e1, ← h2]
      | _ => cases e
    | _ => cases dt <;> cases e
theorem len1 {α : Type} {us : List α} (h : us.length = 1) : ∃ a, us = [a] := by
  match us, h with
  | [a], _ => exact ⟨a, rfl⟩
theorem len2 {α : Type} {us : List α} (h : us.length = 2) : ∃ a b, us = [a, b] := by
  match us, h with
  | [a, b], _ => exact ⟨a, b, rfl⟩
theorem len3 {α : Type} {us : List α} (h : us.length = 3) : ∃ a b c, us = [a, b, c] := by
  match us, h with
  | [a, b, c], _ => exact ⟨a, b, c, rfl⟩
theorem len4 {α : Type} {us : List α} (h : us.length = 4) : ∃ a b c d, us = [a, b, c, d] := by
  match us, h with
  | [a, b, c, d], _ => exact ⟨a, b, c, d, rfl⟩
theorem len5 {α : Type} {us : List α} (h : us.length = 5) : ∃ a b c d e, us = [a, b, c, d, e] := by
  match us, h with
  | [a, b, c, d, e], _ => exact ⟨a, b, c, d, e, rfl⟩
theorem tbl_is {K : PySem.W.Frag} {c T : Addr} (e : PySem.W.codeHdIn K c T = true) : ∃ o, K.lookup c = some o ∧ PySem.W.codeHdIn [(c, o)] c T = true := by
  cases z : K.lookup c with
  | none =>
    unfold PySem.W.codeHdIn at e
    rw [z] at e
    cases e
  | some o =>
    refine ⟨o, rfl, ?_⟩
    unfold PySem.W.codeHdIn at e ⊢
    have q : ([(c, o)] : PySem.W.Frag).lookup c = some o := by simp [List.lookup]
    rw [q]
    rw [z] at e
    exact e
/-! ### the Hook -/
abbrev AlY : Type := List FnY × Bool
structure SaysY (fn : List FnDY) (tf : List (PySem.W.Frag → Addr)) (ex : PySem.W.Frag → Bool) (h : Heap) (K : PySem.W.Frag) : Prop where
  fns : fn.map (fun d => fnY K (d.at_ K)) = fn.map FnDY.val
  more : ex K = true
  hd : ∀ p ∈ tf, PySem.W.codeHdIn K (p K) (tabOf K (p K)) = true
  out : ∀ p ∈ tf, K.lookup (tabOf K (p K)) = none
  empty : ∀ p ∈ tf, h.get? (tabOf K (p K)) = some { cls := .none, data := .fields #[] }
def tabsY (g : Addr → Option Obj) (tf : List (PySem.W.Frag → Addr)) (K : PySem.W.Frag) : Bool := tf.all fun p => PySem.W.codeHdIn K (p K) (tabOf K (p K)) && (match g (tabOf K (p K)) with
  | some o => emptyTab o
  | none => false)
def obsY (as : List Addr) (fn : List FnDY) (tf : List (PySem.W.Frag → Addr)) (ex : PySem.W.Frag → Bool) (g : Addr → Option Obj) : AlY :=
  (fun K : PySem.W.Frag => (fn.map (fun d => fnY K (d.at_ K)), ex K && tabsY g tf K)) (frT g as)
def valY (fn : List FnDY) : AlY := (fn.map FnDY.val, true)
theorem saysY_of {as : List Addr} {fn : List FnDY} {tf : List (PySem.W.Frag → Addr)} {ex : PySem.W.Frag → Bool} {h : Heap} (e : obsY as fn tf ex h.get? = valY fn) : SaysY fn tf ex h (frT h.get? as) := by
  have e1 : fn.map (fun d => fnY (frT h.get? as) (d.at_ (frT h.get? as))) = fn.map FnDY.val := congrArg (fun z : AlY => z.1) e
  have e2 : (ex (frT h.get? as) && tabsY h.get? tf (frT h.get? as)) = true := congrArg (fun z : AlY => z.2) e
  obtain ⟨h1, h2⟩ := ba e2
  have key : ∀ p ∈ tf, PySem.W.codeHdIn (frT h.get? as) (p (frT h.get? as)) (tabOf (frT h.get? as) (p (frT h.get? as))) = true ∧ ∃ o, h.get? (tabOf (frT h.get? as) (p (frT h.get? as))) = some o ∧ emptyTab o = true := fun p hp => by
    obtain ⟨h3, h4⟩ := ba (List.all_eq_true.mp h2 p hp)
    refine ⟨h3, ?_⟩
    split at h4
    · rename_i o q
      exact ⟨o, q, h4⟩
    · cases h4
  exact ⟨e1, h1, fun p hp => (key p hp).1, fun p hp => by
    obtain ⟨_, o, q, z⟩ := key p hp
    exact frT_none q z, fun p hp => by
    obtain ⟨_, o, q, z⟩ := key p hp
    rw [q, emptyTab_eq z]⟩
def hookY (as : List Addr) (fn : List FnDY) (tf : List (PySem.W.Frag → Addr)) (ex : PySem.W.Frag → Bool) : PySem.W.Hook where
  α := AlY
  obs := fun s => obsY as fn tf ex s.heap.get?
  val := fun _ => valY fn
  says := fun _ h => ∃ K : PySem.W.Frag, K.In h ∧ SaysY fn tf ex h K
  of := fun _ _ e => ⟨_, frT_in, saysY_of e⟩
  keeps := fun _ _ _ ⟨K, hK, c⟩ k => ⟨K, PySem.W.Frag.In.keeps hK k, ⟨c.fns, c.more, c.hd, c.out, fun p hp => k _ _ (c.empty p hp)⟩⟩
theorem obsY_eq {as : List Addr} {fn : List FnDY} {tf : List (PySem.W.Frag → Addr)} {ex : PySem.W.Frag → Bool} {g : Addr → Option Obj} {s : Shared} (h : ∀ a, g a = s.heap.get? a) : obsY as fn tf ex g = (hookY as fn tf ex).obs s := by
  have e : g = s.heap.get? := funext h
  rw [e] <;> rfl
theorem map_join {α β γ δ ε : Type} {X : Option α} {a : α → β} {b : α → γ} {c : α → δ} {d : α → ε} {x : β} {y : γ} {z : δ} {u : ε} (h1 : X.map (fun s => (a s, b s, c s)) = some (x, y, z)) (h2 : X.map (fun s => (a s, b s, d s)) = some (x, y, u)) : ∃ s, X = some s ∧ a s = x ∧ b s = y ∧ c s = z ∧ d s = u := by
  cases X with
  | none => cases h1
  | some s =>
    have e1 : (a s, b s, c s) = (x, y, z) := Option.some.inj h1
    have e2 : (a s, b s, d s) = (x, y, u) := Option.some.inj h2
    simp only [Prod.mk.injEq] at e1 e2
    exact ⟨s, rfl, e1.1, e1.2.1, e1.2.2, e2.2.2⟩
/-- two runs, two parts of what is looked at -/
theorem run_join {r : PySem.W.OpenRow} {q : Program} {M : Nat} {loose : List Str} {w : World} {as : List Addr} {fn1 fn2 : List FnDY} {tf1 tf2 : List (PySem.W.Frag → Addr)} {ex1 ex2 : PySem.W.Frag → Bool}
    (h1 : HandSHeadRun.RunEq r q (hookY as fn1 tf1 ex1) (fun s => obsY as fn1 tf1 ex1 (HandSHeadRun.getT s)) M loose w) (h2 : HandSHeadRun.RunEq r q (hookY as fn2 tf2 ex2) (fun s => obsY as fn2 tf2 ex2 (HandSHeadRun.getT s)) M loose w) :
    HandSHeadRun.RunEq r q (hookY as (fn1 ++ fn2) (tf1 ++ tf2) (fun K => ex1 K && ex2 K)) (fun s => obsY as (fn1 ++ fn2) (tf1 ++ tf2) (fun K => ex1 K && ex2 K) (HandSHeadRun.getT s)) M loose w := by
  intro os
  obtain ⟨s, e, e1, e2, e3, e4⟩ := map_join (h1 os) (h2 os)
  rw [e]
  have e3 : obsY as fn1 tf1 ex1 (HandSHeadRun.getT s) = valY fn1 := e3
  have e4 : obsY as fn2 tf2 ex2 (HandSHeadRun.getT s) = valY fn2 := e4
  have a1 : fn1.map (fun d => fnY (frT (HandSHeadRun.getT s) as) (d.at_ (frT (HandSHeadRun.getT s) as))) = fn1.map FnDY.val := congrArg (fun z : AlY => z.1) e3
  have a2 : (ex1 (frT (HandSHeadRun.getT s) as) && tabsY (HandSHeadRun.getT s) tf1 (frT (HandSHeadRun.getT s) as)) = true := congrArg (fun z : AlY => z.2) e3
  have b1 : fn2.map (fun d => fnY (frT (HandSHeadRun.getT s) as) (d.at_ (frT (HandSHeadRun.getT s) as))) = fn2.map FnDY.val := congrArg (fun z : AlY => z.1) e4
  have b2 : (ex2 (frT (HandSHeadRun.getT s) as) && tabsY (HandSHeadRun.getT s) tf2 (frT (HandSHeadRun.getT s) as)) = true := congrArg (fun z : AlY => z.2) e4
  obtain ⟨a2, a3⟩ := ba a2
  obtain ⟨b2, b3⟩ := ba b2
  have c : obsY as (fn1 ++ fn2) (tf1 ++ tf2) (fun K => ex1 K && ex2 K) (HandSHeadRun.getT s) = valY (fn1 ++ fn2) := by
    show ((fn1 ++ fn2).map (fun d => fnY (frT (HandSHeadRun.getT s) as) (d.at_ (frT (HandSHeadRun.getT s) as))), (ex1 (frT (HandSHeadRun.getT s) as) && ex2 (frT (HandSHeadRun.getT s) as)) && tabsY (HandSHeadRun.getT s) (tf1 ++ tf2) (frT (HandSHeadRun.getT s) as)) = ((fn1 ++ fn2).map FnDY.val, true)
    have t : tabsY (HandSHeadRun.getT s) (tf1 ++ tf2) (frT (HandSHeadRun.getT s) as) = true := by
      unfold tabsY at a3 b3 ⊢
      rw [List.all_append, a3, b3] <;> rfl
    rw [List.map_append, List.map_append, a1, b1, a2, b2, t] <;> rfl
  show some (_, _, _) = some (_, _, _)
  rw [e1, e2]
  exact congrArg (fun z => some (true, PySem.W.openGood q loose, z)) c
/-- the same of a text with imports -/
theorem run_joinI {r : PySem.W.OpenRow} {q : Program} {M : Nat} {loose : List Str} {w : World} {as : List Addr} {fn1 fn2 : List FnDY} {tf1 tf2 : List (PySem.W.Frag → Addr)} {ex1 ex2 : PySem.W.Frag → Bool}
    (h1 : HandSHeadRun.RunEqI r q (hookY as fn1 tf1 ex1) (fun s => obsY as fn1 tf1 ex1 (HandSHeadRun.getT s)) M loose w) (h2 : HandSHeadRun.RunEqI r q (hookY as fn2 tf2 ex2) (fun s => obsY as fn2 tf2 ex2 (HandSHeadRun.getT s)) M loose w) :
    HandSHeadRun.RunEqI r q (hookY as (fn1 ++ fn2) (tf1 ++ tf2) (fun K => ex1 K && ex2 K)) (fun s => obsY as (fn1 ++ fn2) (tf1 ++ tf2) (fun K => ex1 K && ex2 K) (HandSHeadRun.getT s)) M loose w := by
  unfold HandSHeadRun.RunEqI at h1 h2 ⊢
  obtain ⟨⟨s0, s⟩, e, e1, e2, e3, e4⟩ := map_join h1 h2
  rw [e]
  have e3 : obsY as fn1 tf1 ex1 (HandSHeadRun.getT s) = valY fn1 := e3
  have e4 : obsY as fn2 tf2 ex2 (HandSHeadRun.getT s) = valY fn2 := e4
  have a1 : fn1.map (fun d => fnY (frT (HandSHeadRun.getT s) as) (d.at_ (frT (HandSHeadRun.getT s) as))) = fn1.map FnDY.val := congrArg (fun z : AlY => z.1) e3
  have a2 : (ex1 (frT (HandSHeadRun.getT s) as) && tabsY (HandSHeadRun.getT s) tf1 (frT (HandSHeadRun.getT s) as)) = true := congrArg (fun z : AlY => z.2) e3
  have b1 : fn2.map (fun d => fnY (frT (HandSHeadRun.getT s) as) (d.at_ (frT (HandSHeadRun.getT s) as))) = fn2.map FnDY.val := congrArg (fun z : AlY => z.1) e4
  have b2 : (ex2 (frT (HandSHeadRun.getT s) as) && tabsY (HandSHeadRun.getT s) tf2 (frT (HandSHeadRun.getT s) as)) = true := congrArg (fun z : AlY => z.2) e4
  obtain ⟨a2, a3⟩ := ba a2
  obtain ⟨b2, b3⟩ := ba b2
  have c : obsY as (fn1 ++ fn2) (tf1 ++ tf2) (fun K => ex1 K && ex2 K) (HandSHeadRun.getT s) = valY (fn1 ++ fn2) := by
    show ((fn1 ++ fn2).map (fun d => fnY (frT (HandSHeadRun.getT s) as) (d.at_ (frT (HandSHeadRun.getT s) as))), (ex1 (frT (HandSHeadRun.getT s) as) && ex2 (frT (HandSHeadRun.getT s) as)) && tabsY (HandSHeadRun.getT s) (tf1 ++ tf2) (frT (HandSHeadRun.getT s) as)) = ((fn1 ++ fn2).map FnDY.val, true)
    have t : tabsY (HandSHeadRun.getT s) (tf1 ++ tf2) (frT (HandSHeadRun.getT s) as) = true := by
      unfold tabsY at a3 b3 ⊢
      rw [List.all_append, a3, b3] <;> rfl
    rw [List.map_append, List.map_append, a1, b1, a2, b2, t] <;> rfl
  show some (_, _, _) = some (_, _, _)
  rw [e1, e2]
  exact congrArg (fun z => some (true, PySem.W.openGood q loose, z)) c
theorem SaysY.fn {fn : List FnDY} {tf : List (PySem.W.Frag → Addr)} {ex : PySem.W.Frag → Bool} {h : Heap} {K : PySem.W.Frag} (c : SaysY fn tf ex h K) (i : Nat) {d : FnDY} (e : fn[i]? = some d) : fnY K (d.at_ K) = some (d.name, d.qual, d.params, .stmts d.body, d.scope) := by
  have e2 : (fn.map fun d => fnY K (d.at_ K))[i]? = (fn.map FnDY.val)[i]? := by rw [c.fns]
  rw [List.getElem?_map, List.getElem?_map, e] at e2
  exact Option.some.inj e2
end HeadY
namespace Sc
open PySem PySem.Spec PyProof.Rows L2 HeadY He
abbrev theLaw : PySem.W.OpenLaw := PySem.Challenge.rw_smallcourt_k14_whole_clashes_and_swaps
abbrev theRow : PySem.W.OpenRow := PySem.W.OpenLaw.row PySem.Challenge.rw_smallcourt_k14_whole_clashes_and_swaps
def theFile : Str := theRow.prog.main.file
def Ad_f_is_name (K : PySem.W.Frag) : Addr := ga K "is_name"
def Ad_f_rises (K : PySem.W.Frag) : Addr := ga K "rises"
def Ad_f_check_facts (K : PySem.W.Frag) : Addr := ga K "check_facts"
def Ad_f_nested (K : PySem.W.Frag) : Addr := ga K "nested"
def Ad_f_check_rules (K : PySem.W.Frag) : Addr := ga K "check_rules"
def Ad_f_check_part (K : PySem.W.Frag) : Addr := ga K "check_part"
def Ad_f_merged (K : PySem.W.Frag) : Addr := ga K "merged"
def Ad_f_bits_of (K : PySem.W.Frag) : Addr := ga K "bits_of"
def Ad_f_names_of (K : PySem.W.Frag) : Addr := ga K "names_of"
def Ad_f_cube_of (K : PySem.W.Frag) : Addr := ga K "cube_of"
def Ad_f_clash (K : PySem.W.Frag) : Addr := ga K "clash"
def Ad_f_joined (K : PySem.W.Frag) : Addr := ga K "joined"
def Ad_f_clashes_within (K : PySem.W.Frag) : Addr := ga K "clashes_within"
def Ad_f_clashes (K : PySem.W.Frag) : Addr := ga K "clashes"
def Ad_f_path_to (K : PySem.W.Frag) : Addr := ga K "path_to"
def Ad_f_next_beside (K : PySem.W.Frag) : Addr := ga K "next_beside"
def Ad_f_replaced (K : PySem.W.Frag) : Addr := ga K "replaced"
def Ad_f_swapped (K : PySem.W.Frag) : Addr := ga K "swapped"
def Ad_f__law_mix (K : PySem.W.Frag) : Addr := ga K "_law_mix"
def Ad_f__law_next (K : PySem.W.Frag) : Addr := ga K "_law_next"
def Ad_f__law_alike (K : PySem.W.Frag) : Addr := ga K "_law_alike"
def Ad_f__law_error (K : PySem.W.Frag) : Addr := ga K "_law_error"
def Ad_f__law_facts (K : PySem.W.Frag) : Addr := ga K "_law_facts"
def Ad_f__law_parts (K : PySem.W.Frag) : Addr := ga K "_law_parts"
def Ad_f__law_rules (K : PySem.W.Frag) : Addr := ga K "_law_rules"
def Ad_f__law_rule (K : PySem.W.Frag) : Addr := ga K "_law_rule"
def Ad_f__law_book (K : PySem.W.Frag) : Addr := ga K "_law_book"
def Ad_f__law_case (K : PySem.W.Frag) : Addr := ga K "_law_case"
def Ad_f__law_every (K : PySem.W.Frag) : Addr := ga K "_law_every"
def Ad_f__law_meets (K : PySem.W.Frag) : Addr := ga K "_law_meets"
def Ad_f__law_pairs (K : PySem.W.Frag) : Addr := ga K "_law_pairs"
def Ad_f__law_changed (K : PySem.W.Frag) : Addr := ga K "_law_changed"
def Ad_f_law (K : PySem.W.Frag) : Addr := ga K "law"
def Ad_CO (K : PySem.W.Frag) : Addr := ga K "Condition"
def Ad_RO (K : PySem.W.Frag) : Addr := ga K "Rule"
def Ad_BO (K : PySem.W.Frag) : Addr := ga K "Book"
def Ad_CE (K : PySem.W.Frag) : Addr := ga K "CourtError"
def Ad_E0 (K : PySem.W.Frag) : Addr := ga K "InvalidFacts"
def Ad_E1 (K : PySem.W.Frag) : Addr := ga K "InvalidCase"
def Ad_E2 (K : PySem.W.Frag) : Addr := ga K "InvalidNumber"
def Ad_E3 (K : PySem.W.Frag) : Addr := ga K "InvalidCondition"
def Ad_E4 (K : PySem.W.Frag) : Addr := ga K "NeverMet"
def Ad_E5 (K : PySem.W.Frag) : Addr := ga K "InvalidRule"
def Ad_E6 (K : PySem.W.Frag) : Addr := ga K "InvalidBook"
def Ad_E7 (K : PySem.W.Frag) : Addr := ga K "UnknownRule"
def Ad_E8 (K : PySem.W.Frag) : Addr := ga K "InvalidRuling"
def Ad_E9 (K : PySem.W.Frag) : Addr := ga K "UnknownFact"
def Ad_E10 (K : PySem.W.Frag) : Addr := ga K "NoReason"
def Ad_E11 (K : PySem.W.Frag) : Addr := ga K "TooMany"
def Ad_E12 (K : PySem.W.Frag) : Addr := ga K "InvalidChance"
def Ad_E13 (K : PySem.W.Frag) : Addr := ga K "OtherFacts"
def Ad_E14 (K : PySem.W.Frag) : Addr := ga K "NoNeighbor"
def Ad_E15 (K : PySem.W.Frag) : Addr := ga K "NoFacts"
def Ad_E16 (K : PySem.W.Frag) : Addr := ga K "AlreadyKnown"
def Ad_f_mi (K : PySem.W.Frag) : Addr := ma K (Ad_CO K) "__init__"
def Ad_pp_mh (K : PySem.W.Frag) : Addr := ma K (Ad_CO K) "holding"
def Ad_pp_mf (K : PySem.W.Frag) : Addr := ma K (Ad_CO K) "failing"
def Ad_pp_mn (K : PySem.W.Frag) : Addr := ma K (Ad_CO K) "names"
def Ad_f_ri (K : PySem.W.Frag) : Addr := ma K (Ad_RO K) "__init__"
def Ad_pp_rn (K : PySem.W.Frag) : Addr := ma K (Ad_RO K) "name"
def Ad_pp_rc (K : PySem.W.Frag) : Addr := ma K (Ad_RO K) "condition"
def Ad_pp_rr (K : PySem.W.Frag) : Addr := ma K (Ad_RO K) "ruling"
def Ad_pp_re (K : PySem.W.Frag) : Addr := ma K (Ad_RO K) "exceptions"
def Ad_pp_rd (K : PySem.W.Frag) : Addr := ma K (Ad_RO K) "depth"
def Ad_f_bi (K : PySem.W.Frag) : Addr := ma K (Ad_BO K) "__init__"
def Ad_pp_bf (K : PySem.W.Frag) : Addr := ma K (Ad_BO K) "facts"
def Ad_pp_bs (K : PySem.W.Frag) : Addr := ma K (Ad_BO K) "rules"
def Ad_pp_br (K : PySem.W.Frag) : Addr := ma K (Ad_BO K) "ruling"
def Ad_pp_bn (K : PySem.W.Frag) : Addr := ma K (Ad_BO K) "names"
def Ad_f_gi (K : PySem.W.Frag) : Addr := ma K (Ad_BO K) "__getitem__"
def Ad_f_eb (K : PySem.W.Frag) : Addr := ma K (Ad_BO K) "__eq__"
def Ad_f_er (K : PySem.W.Frag) : Addr := ma K (Ad_RO K) "__eq__"
def Ad_f_ec (K : PySem.W.Frag) : Addr := ma K (Ad_CO K) "__eq__"
def Ad_fIi0 (K : PySem.W.Frag) : Addr := ma K (Ad_E0 K) "__init__"
def Ad_fIi3 (K : PySem.W.Frag) : Addr := ma K (Ad_E3 K) "__init__"
def Ad_fIi5 (K : PySem.W.Frag) : Addr := ma K (Ad_E5 K) "__init__"
def Ad_fIi6 (K : PySem.W.Frag) : Addr := ma K (Ad_E6 K) "__init__"
def Ad_f_mh (K : PySem.W.Frag) : Addr := recF K (Ad_pp_mh K)
def Ad_f_mf (K : PySem.W.Frag) : Addr := recF K (Ad_pp_mf K)
def Ad_f_mn (K : PySem.W.Frag) : Addr := recF K (Ad_pp_mn K)
def Ad_f_rn (K : PySem.W.Frag) : Addr := recF K (Ad_pp_rn K)
def Ad_f_rc (K : PySem.W.Frag) : Addr := recF K (Ad_pp_rc K)
def Ad_f_rr (K : PySem.W.Frag) : Addr := recF K (Ad_pp_rr K)
def Ad_f_re (K : PySem.W.Frag) : Addr := recF K (Ad_pp_re K)
def Ad_f_rd (K : PySem.W.Frag) : Addr := recF K (Ad_pp_rd K)
def Ad_f_bf (K : PySem.W.Frag) : Addr := recF K (Ad_pp_bf K)
def Ad_f_bs (K : PySem.W.Frag) : Addr := recF K (Ad_pp_bs K)
def Ad_f_br (K : PySem.W.Frag) : Addr := recF K (Ad_pp_br K)
def Ad_f_bn (K : PySem.W.Frag) : Addr := recF K (Ad_pp_bn K)
def Ad_cc_law (K : PySem.W.Frag) : Addr := codA K (Ad_f_law K)
def Ad_celi0 (K : PySem.W.Frag) : Addr := cloA K (Ad_fIi0 K)
def Ad_codi0 (K : PySem.W.Frag) : Addr := codA K (Ad_fIi0 K)
def Ad_celi3 (K : PySem.W.Frag) : Addr := cloA K (Ad_fIi3 K)
def Ad_codi3 (K : PySem.W.Frag) : Addr := codA K (Ad_fIi3 K)
def Ad_celi5 (K : PySem.W.Frag) : Addr := cloA K (Ad_fIi5 K)
def Ad_codi5 (K : PySem.W.Frag) : Addr := codA K (Ad_fIi5 K)
def Ad_celi6 (K : PySem.W.Frag) : Addr := cloA K (Ad_fIi6 K)
def Ad_codi6 (K : PySem.W.Frag) : Addr := codA K (Ad_fIi6 K)
def Ad_Tb0 (K : PySem.W.Frag) : Addr := tabOf K (Ad_cc_law K)
def Fx0 (K : PySem.W.Frag) : Prop := (PySem.W.nsIn K mainGlobals "is_name" = some (some (.ref (Ad_f_is_name K)))) ∧ (fnB K (Ad_f_is_name K) "is_name" = true) ∧ (PySem.W.keepIn K (.ref (Ad_f_is_name K)) = true) ∧ (PySem.W.nsIn K mainGlobals "rises" = some (some (.ref (Ad_f_rises K)))) ∧ (fnB K (Ad_f_rises K) "rises" = true) ∧ (PySem.W.keepIn K (.ref (Ad_f_rises K)) = true) ∧ (PySem.W.nsIn K mainGlobals "check_facts" = some (some (.ref (Ad_f_check_facts K)))) ∧ (fnB K (Ad_f_check_facts K) "check_facts" = true) ∧ (PySem.W.keepIn K (.ref (Ad_f_check_facts K)) = true) ∧ (PySem.W.nsIn K mainGlobals "nested" = some (some (.ref (Ad_f_nested K)))) ∧ (fnB K (Ad_f_nested K) "nested" = true) ∧ (PySem.W.keepIn K (.ref (Ad_f_nested K)) = true)
instance (K : PySem.W.Frag) : Decidable (Fx0 K) := by unfold Fx0; infer_instance
def Fx1 (K : PySem.W.Frag) : Prop := (PySem.W.nsIn K mainGlobals "check_rules" = some (some (.ref (Ad_f_check_rules K)))) ∧ (fnB K (Ad_f_check_rules K) "check_rules" = true) ∧ (PySem.W.keepIn K (.ref (Ad_f_check_rules K)) = true) ∧ (PySem.W.nsIn K mainGlobals "check_part" = some (some (.ref (Ad_f_check_part K)))) ∧ (fnB K (Ad_f_check_part K) "check_part" = true) ∧ (PySem.W.keepIn K (.ref (Ad_f_check_part K)) = true) ∧ (PySem.W.nsIn K mainGlobals "merged" = some (some (.ref (Ad_f_merged K)))) ∧ (fnB K (Ad_f_merged K) "merged" = true) ∧ (PySem.W.keepIn K (.ref (Ad_f_merged K)) = true) ∧ (PySem.W.nsIn K mainGlobals "bits_of" = some (some (.ref (Ad_f_bits_of K)))) ∧ (fnB K (Ad_f_bits_of K) "bits_of" = true) ∧ (PySem.W.keepIn K (.ref (Ad_f_bits_of K)) = true)
instance (K : PySem.W.Frag) : Decidable (Fx1 K) := by unfold Fx1; infer_instance
def Fx2 (K : PySem.W.Frag) : Prop := (PySem.W.nsIn K mainGlobals "names_of" = some (some (.ref (Ad_f_names_of K)))) ∧ (fnB K (Ad_f_names_of K) "names_of" = true) ∧ (PySem.W.keepIn K (.ref (Ad_f_names_of K)) = true) ∧ (PySem.W.nsIn K mainGlobals "cube_of" = some (some (.ref (Ad_f_cube_of K)))) ∧ (fnB K (Ad_f_cube_of K) "cube_of" = true) ∧ (PySem.W.keepIn K (.ref (Ad_f_cube_of K)) = true) ∧ (PySem.W.nsIn K mainGlobals "clash" = some (some (.ref (Ad_f_clash K)))) ∧ (fnB K (Ad_f_clash K) "clash" = true) ∧ (PySem.W.keepIn K (.ref (Ad_f_clash K)) = true) ∧ (PySem.W.nsIn K mainGlobals "joined" = some (some (.ref (Ad_f_joined K)))) ∧ (fnB K (Ad_f_joined K) "joined" = true) ∧ (PySem.W.keepIn K (.ref (Ad_f_joined K)) = true)
instance (K : PySem.W.Frag) : Decidable (Fx2 K) := by unfold Fx2; infer_instance
def Fx3 (K : PySem.W.Frag) : Prop := (PySem.W.nsIn K mainGlobals "clashes_within" = some (some (.ref (Ad_f_clashes_within K)))) ∧ (fnB K (Ad_f_clashes_within K) "clashes_within" = true) ∧ (PySem.W.keepIn K (.ref (Ad_f_clashes_within K)) = true) ∧ (PySem.W.nsIn K mainGlobals "clashes" = some (some (.ref (Ad_f_clashes K)))) ∧ (fnB K (Ad_f_clashes K) "clashes" = true) ∧ (PySem.W.keepIn K (.ref (Ad_f_clashes K)) = true) ∧ (PySem.W.nsIn K mainGlobals "path_to" = some (some (.ref (Ad_f_path_to K)))) ∧ (fnB K (Ad_f_path_to K) "path_to" = true) ∧ (PySem.W.keepIn K (.ref (Ad_f_path_to K)) = true) ∧ (PySem.W.nsIn K mainGlobals "next_beside" = some (some (.ref (Ad_f_next_beside K)))) ∧ (fnB K (Ad_f_next_beside K) "next_beside" = true) ∧ (PySem.W.keepIn K (.ref (Ad_f_next_beside K)) = true)
instance (K : PySem.W.Frag) : Decidable (Fx3 K) := by unfold Fx3; infer_instance
def Fx4 (K : PySem.W.Frag) : Prop := (PySem.W.nsIn K mainGlobals "replaced" = some (some (.ref (Ad_f_replaced K)))) ∧ (fnB K (Ad_f_replaced K) "replaced" = true) ∧ (PySem.W.keepIn K (.ref (Ad_f_replaced K)) = true) ∧ (PySem.W.nsIn K mainGlobals "swapped" = some (some (.ref (Ad_f_swapped K)))) ∧ (fnB K (Ad_f_swapped K) "swapped" = true) ∧ (PySem.W.keepIn K (.ref (Ad_f_swapped K)) = true) ∧ (PySem.W.nsIn K mainGlobals "_law_mix" = some (some (.ref (Ad_f__law_mix K)))) ∧ (fnB K (Ad_f__law_mix K) "_law_mix" = true) ∧ (PySem.W.keepIn K (.ref (Ad_f__law_mix K)) = true) ∧ (PySem.W.nsIn K mainGlobals "_law_next" = some (some (.ref (Ad_f__law_next K)))) ∧ (fnB K (Ad_f__law_next K) "_law_next" = true) ∧ (PySem.W.keepIn K (.ref (Ad_f__law_next K)) = true)
instance (K : PySem.W.Frag) : Decidable (Fx4 K) := by unfold Fx4; infer_instance
def Fx5 (K : PySem.W.Frag) : Prop := (PySem.W.nsIn K mainGlobals "_law_alike" = some (some (.ref (Ad_f__law_alike K)))) ∧ (fnB K (Ad_f__law_alike K) "_law_alike" = true) ∧ (PySem.W.keepIn K (.ref (Ad_f__law_alike K)) = true) ∧ (PySem.W.nsIn K mainGlobals "_law_error" = some (some (.ref (Ad_f__law_error K)))) ∧ (fnB K (Ad_f__law_error K) "_law_error" = true) ∧ (PySem.W.keepIn K (.ref (Ad_f__law_error K)) = true) ∧ (PySem.W.nsIn K mainGlobals "_law_facts" = some (some (.ref (Ad_f__law_facts K)))) ∧ (fnB K (Ad_f__law_facts K) "_law_facts" = true) ∧ (PySem.W.keepIn K (.ref (Ad_f__law_facts K)) = true) ∧ (PySem.W.nsIn K mainGlobals "_law_parts" = some (some (.ref (Ad_f__law_parts K)))) ∧ (fnB K (Ad_f__law_parts K) "_law_parts" = true) ∧ (PySem.W.keepIn K (.ref (Ad_f__law_parts K)) = true)
instance (K : PySem.W.Frag) : Decidable (Fx5 K) := by unfold Fx5; infer_instance
def Fx6 (K : PySem.W.Frag) : Prop := (PySem.W.nsIn K mainGlobals "_law_rules" = some (some (.ref (Ad_f__law_rules K)))) ∧ (fnB K (Ad_f__law_rules K) "_law_rules" = true) ∧ (PySem.W.keepIn K (.ref (Ad_f__law_rules K)) = true) ∧ (PySem.W.nsIn K mainGlobals "_law_rule" = some (some (.ref (Ad_f__law_rule K)))) ∧ (fnB K (Ad_f__law_rule K) "_law_rule" = true) ∧ (PySem.W.keepIn K (.ref (Ad_f__law_rule K)) = true) ∧ (PySem.W.nsIn K mainGlobals "_law_book" = some (some (.ref (Ad_f__law_book K)))) ∧ (fnB K (Ad_f__law_book K) "_law_book" = true) ∧ (PySem.W.keepIn K (.ref (Ad_f__law_book K)) = true) ∧ (PySem.W.nsIn K mainGlobals "_law_case" = some (some (.ref (Ad_f__law_case K)))) ∧ (fnB K (Ad_f__law_case K) "_law_case" = true) ∧ (PySem.W.keepIn K (.ref (Ad_f__law_case K)) = true)
instance (K : PySem.W.Frag) : Decidable (Fx6 K) := by unfold Fx6; infer_instance
def Fx7 (K : PySem.W.Frag) : Prop := (PySem.W.nsIn K mainGlobals "_law_every" = some (some (.ref (Ad_f__law_every K)))) ∧ (fnB K (Ad_f__law_every K) "_law_every" = true) ∧ (PySem.W.keepIn K (.ref (Ad_f__law_every K)) = true) ∧ (PySem.W.nsIn K mainGlobals "_law_meets" = some (some (.ref (Ad_f__law_meets K)))) ∧ (fnB K (Ad_f__law_meets K) "_law_meets" = true) ∧ (PySem.W.keepIn K (.ref (Ad_f__law_meets K)) = true) ∧ (PySem.W.nsIn K mainGlobals "_law_pairs" = some (some (.ref (Ad_f__law_pairs K)))) ∧ (fnB K (Ad_f__law_pairs K) "_law_pairs" = true) ∧ (PySem.W.keepIn K (.ref (Ad_f__law_pairs K)) = true) ∧ (PySem.W.nsIn K mainGlobals "_law_changed" = some (some (.ref (Ad_f__law_changed K)))) ∧ (fnB K (Ad_f__law_changed K) "_law_changed" = true) ∧ (PySem.W.keepIn K (.ref (Ad_f__law_changed K)) = true)
instance (K : PySem.W.Frag) : Decidable (Fx7 K) := by unfold Fx7; infer_instance
def Fx8 (K : PySem.W.Frag) : Prop := (PySem.W.nsIn K mainGlobals "law" = some (some (.ref (Ad_f_law K)))) ∧ (fnB K (Ad_f_law K) "law" = true) ∧ (PySem.W.keepIn K (.ref (Ad_f_law K)) = true) ∧ (PySem.W.nsIn K mainGlobals "Condition" = some (some (.ref (Ad_CO K)))) ∧ (PySem.W.makesIn K (Ad_CO K) = true) ∧ (PySem.W.findIn K (.ref (Ad_CO K)) "__init__" = some (some (.ref (Ad_f_mi K)))) ∧ (PySem.W.isFn K (.ref (Ad_f_mi K)) = true) ∧ (PySem.W.keepIn K (.ref (Ad_CO K)) = true) ∧ (PySem.W.plainGet K (Ad_CO K) Str.empty = true) ∧ (PySem.W.hasDictIn K (Ad_CO K) = true) ∧ (PySem.W.plainOver K (Ad_CO K) = true) ∧ (PySem.W.findIn K (.ref (Ad_CO K)) "__setattr__" = some (some (.builtin "object.__setattr__")))
instance (K : PySem.W.Frag) : Decidable (Fx8 K) := by unfold Fx8; infer_instance
def Fx9 (K : PySem.W.Frag) : Prop := (PySem.W.findIn K (.ref (Ad_CO K)) "_holding" = some none) ∧ (PySem.W.findIn K (.ref (Ad_CO K)) "_failing" = some none) ∧ (PySem.W.findIn K (.ref (Ad_CO K)) "_names" = some none) ∧ (PySem.W.findIn K (.ref (Ad_CO K)) "holding" = some (some (.ref (Ad_pp_mh K)))) ∧ (PySem.W.specialIn K (.ref (Ad_pp_mh K)) "__get__" = some (some (.builtin "property.__get__"))) ∧ (PySem.W.takesIn K (.ref (Ad_pp_mh K)) = some true) ∧ (recB K (Ad_pp_mh K) = true) ∧ (PySem.W.findIn K (.ref (Ad_CO K)) "failing" = some (some (.ref (Ad_pp_mf K)))) ∧ (PySem.W.specialIn K (.ref (Ad_pp_mf K)) "__get__" = some (some (.builtin "property.__get__"))) ∧ (PySem.W.takesIn K (.ref (Ad_pp_mf K)) = some true) ∧ (recB K (Ad_pp_mf K) = true) ∧ (PySem.W.findIn K (.ref (Ad_CO K)) "names" = some (some (.ref (Ad_pp_mn K))))
instance (K : PySem.W.Frag) : Decidable (Fx9 K) := by unfold Fx9; infer_instance
def Fx10 (K : PySem.W.Frag) : Prop := (PySem.W.specialIn K (.ref (Ad_pp_mn K)) "__get__" = some (some (.builtin "property.__get__"))) ∧ (PySem.W.takesIn K (.ref (Ad_pp_mn K)) = some true) ∧ (recB K (Ad_pp_mn K) = true) ∧ (PySem.W.nsIn K mainGlobals "Rule" = some (some (.ref (Ad_RO K)))) ∧ (PySem.W.makesIn K (Ad_RO K) = true) ∧ (PySem.W.findIn K (.ref (Ad_RO K)) "__init__" = some (some (.ref (Ad_f_ri K)))) ∧ (PySem.W.isFn K (.ref (Ad_f_ri K)) = true) ∧ (PySem.W.keepIn K (.ref (Ad_RO K)) = true) ∧ (PySem.W.plainGet K (Ad_RO K) Str.empty = true) ∧ (PySem.W.hasDictIn K (Ad_RO K) = true) ∧ (PySem.W.plainOver K (Ad_RO K) = true) ∧ (PySem.W.findIn K (.ref (Ad_RO K)) "__setattr__" = some (some (.builtin "object.__setattr__")))
instance (K : PySem.W.Frag) : Decidable (Fx10 K) := by unfold Fx10; infer_instance
def Fx11 (K : PySem.W.Frag) : Prop := (PySem.W.findIn K (.ref (Ad_RO K)) "_name" = some none) ∧ (PySem.W.findIn K (.ref (Ad_RO K)) "_condition" = some none) ∧ (PySem.W.findIn K (.ref (Ad_RO K)) "_ruling" = some none) ∧ (PySem.W.findIn K (.ref (Ad_RO K)) "_exceptions" = some none) ∧ (PySem.W.findIn K (.ref (Ad_RO K)) "_depth" = some none) ∧ (PySem.W.findIn K (.ref (Ad_RO K)) "_inside" = some none) ∧ (PySem.W.findIn K (.ref (Ad_RO K)) "name" = some (some (.ref (Ad_pp_rn K)))) ∧ (PySem.W.specialIn K (.ref (Ad_pp_rn K)) "__get__" = some (some (.builtin "property.__get__"))) ∧ (PySem.W.takesIn K (.ref (Ad_pp_rn K)) = some true) ∧ (recB K (Ad_pp_rn K) = true) ∧ (PySem.W.findIn K (.ref (Ad_RO K)) "condition" = some (some (.ref (Ad_pp_rc K)))) ∧ (PySem.W.specialIn K (.ref (Ad_pp_rc K)) "__get__" = some (some (.builtin "property.__get__")))
instance (K : PySem.W.Frag) : Decidable (Fx11 K) := by unfold Fx11; infer_instance
def Fx12 (K : PySem.W.Frag) : Prop := (PySem.W.takesIn K (.ref (Ad_pp_rc K)) = some true) ∧ (recB K (Ad_pp_rc K) = true) ∧ (PySem.W.findIn K (.ref (Ad_RO K)) "ruling" = some (some (.ref (Ad_pp_rr K)))) ∧ (PySem.W.specialIn K (.ref (Ad_pp_rr K)) "__get__" = some (some (.builtin "property.__get__"))) ∧ (PySem.W.takesIn K (.ref (Ad_pp_rr K)) = some true) ∧ (recB K (Ad_pp_rr K) = true) ∧ (PySem.W.findIn K (.ref (Ad_RO K)) "exceptions" = some (some (.ref (Ad_pp_re K)))) ∧ (PySem.W.specialIn K (.ref (Ad_pp_re K)) "__get__" = some (some (.builtin "property.__get__"))) ∧ (PySem.W.takesIn K (.ref (Ad_pp_re K)) = some true) ∧ (recB K (Ad_pp_re K) = true) ∧ (PySem.W.findIn K (.ref (Ad_RO K)) "depth" = some (some (.ref (Ad_pp_rd K)))) ∧ (PySem.W.specialIn K (.ref (Ad_pp_rd K)) "__get__" = some (some (.builtin "property.__get__")))
instance (K : PySem.W.Frag) : Decidable (Fx12 K) := by unfold Fx12; infer_instance
def Fx13 (K : PySem.W.Frag) : Prop := (PySem.W.takesIn K (.ref (Ad_pp_rd K)) = some true) ∧ (recB K (Ad_pp_rd K) = true) ∧ (PySem.W.nsIn K mainGlobals "Book" = some (some (.ref (Ad_BO K)))) ∧ (PySem.W.makesIn K (Ad_BO K) = true) ∧ (PySem.W.findIn K (.ref (Ad_BO K)) "__init__" = some (some (.ref (Ad_f_bi K)))) ∧ (PySem.W.isFn K (.ref (Ad_f_bi K)) = true) ∧ (PySem.W.keepIn K (.ref (Ad_BO K)) = true) ∧ (PySem.W.plainGet K (Ad_BO K) Str.empty = true) ∧ (PySem.W.hasDictIn K (Ad_BO K) = true) ∧ (PySem.W.plainOver K (Ad_BO K) = true) ∧ (PySem.W.findIn K (.ref (Ad_BO K)) "__setattr__" = some (some (.builtin "object.__setattr__"))) ∧ (PySem.W.findIn K (.ref (Ad_BO K)) "_facts" = some none)
instance (K : PySem.W.Frag) : Decidable (Fx13 K) := by unfold Fx13; infer_instance
def Fx14 (K : PySem.W.Frag) : Prop := (PySem.W.findIn K (.ref (Ad_BO K)) "_rules" = some none) ∧ (PySem.W.findIn K (.ref (Ad_BO K)) "_ruling" = some none) ∧ (PySem.W.findIn K (.ref (Ad_BO K)) "_numbered" = some none) ∧ (PySem.W.findIn K (.ref (Ad_BO K)) "facts" = some (some (.ref (Ad_pp_bf K)))) ∧ (PySem.W.specialIn K (.ref (Ad_pp_bf K)) "__get__" = some (some (.builtin "property.__get__"))) ∧ (PySem.W.takesIn K (.ref (Ad_pp_bf K)) = some true) ∧ (recB K (Ad_pp_bf K) = true) ∧ (PySem.W.findIn K (.ref (Ad_BO K)) "rules" = some (some (.ref (Ad_pp_bs K)))) ∧ (PySem.W.specialIn K (.ref (Ad_pp_bs K)) "__get__" = some (some (.builtin "property.__get__"))) ∧ (PySem.W.takesIn K (.ref (Ad_pp_bs K)) = some true) ∧ (recB K (Ad_pp_bs K) = true) ∧ (PySem.W.findIn K (.ref (Ad_BO K)) "ruling" = some (some (.ref (Ad_pp_br K))))
instance (K : PySem.W.Frag) : Decidable (Fx14 K) := by unfold Fx14; infer_instance
def Fx15 (K : PySem.W.Frag) : Prop := (PySem.W.specialIn K (.ref (Ad_pp_br K)) "__get__" = some (some (.builtin "property.__get__"))) ∧ (PySem.W.takesIn K (.ref (Ad_pp_br K)) = some true) ∧ (recB K (Ad_pp_br K) = true) ∧ (PySem.W.findIn K (.ref (Ad_BO K)) "names" = some (some (.ref (Ad_pp_bn K)))) ∧ (PySem.W.specialIn K (.ref (Ad_pp_bn K)) "__get__" = some (some (.builtin "property.__get__"))) ∧ (PySem.W.takesIn K (.ref (Ad_pp_bn K)) = some true) ∧ (recB K (Ad_pp_bn K) = true) ∧ (PySem.W.findIn K (.ref (Ad_BO K)) "__getitem__" = some (some (.ref (Ad_f_gi K)))) ∧ (PySem.W.isFn K (.ref (Ad_f_gi K)) = true) ∧ (PySem.W.findIn K (.ref (Ad_BO K)) "__eq__" = some (some (.ref (Ad_f_eb K)))) ∧ (PySem.W.isFn K (.ref (Ad_f_eb K)) = true) ∧ (PySem.W.findIn K (.ref (Ad_RO K)) "__eq__" = some (some (.ref (Ad_f_er K))))
instance (K : PySem.W.Frag) : Decidable (Fx15 K) := by unfold Fx15; infer_instance
def Fx16 (K : PySem.W.Frag) : Prop := (PySem.W.isFn K (.ref (Ad_f_er K)) = true) ∧ (PySem.W.findIn K (.ref (Ad_CO K)) "__eq__" = some (some (.ref (Ad_f_ec K)))) ∧ (PySem.W.isFn K (.ref (Ad_f_ec K)) = true) ∧ (PySem.W.findIn K (.ref (Ad_CO K)) "__class__" = some (some (.builtin "object.__class__"))) ∧ (PySem.W.mroIn K (Ad_CO K) (.type "object") = some true) ∧ (PySem.W.subIn K (.ref (Ad_CO K)) (.ref (Ad_CO K)) = some true) ∧ (PySem.W.isClsIn K (Ad_CO K) = true) ∧ (PySem.W.typeIn K (.ref (Ad_CO K)) = some (.type "type")) ∧ (PySem.W.findIn K (.ref (Ad_RO K)) "__class__" = some (some (.builtin "object.__class__"))) ∧ (PySem.W.mroIn K (Ad_RO K) (.type "object") = some true) ∧ (PySem.W.subIn K (.ref (Ad_RO K)) (.ref (Ad_RO K)) = some true) ∧ (PySem.W.isClsIn K (Ad_RO K) = true)
instance (K : PySem.W.Frag) : Decidable (Fx16 K) := by unfold Fx16; infer_instance
def Fx17 (K : PySem.W.Frag) : Prop := (PySem.W.typeIn K (.ref (Ad_RO K)) = some (.type "type")) ∧ (PySem.W.findIn K (.ref (Ad_BO K)) "__class__" = some (some (.builtin "object.__class__"))) ∧ (PySem.W.mroIn K (Ad_BO K) (.type "object") = some true) ∧ (PySem.W.subIn K (.ref (Ad_BO K)) (.ref (Ad_BO K)) = some true) ∧ (PySem.W.isClsIn K (Ad_BO K) = true) ∧ (PySem.W.typeIn K (.ref (Ad_BO K)) = some (.type "type")) ∧ (PySem.W.findIn K (.ref (Ad_BO K)) "__ne__" = some (some (.builtin "object.__ne__"))) ∧ (PySem.W.fnIn K (Ad_f_gi K) = true) ∧ (fnB K (Ad_f_mi K) "Condition.__init__" = true) ∧ (PySem.W.keepIn K (.ref (Ad_f_mi K)) = true) ∧ (fnB K (Ad_f_mh K) "Condition.holding" = true) ∧ (PySem.W.keepIn K (.ref (Ad_f_mh K)) = true)
instance (K : PySem.W.Frag) : Decidable (Fx17 K) := by unfold Fx17; infer_instance
def Fx18 (K : PySem.W.Frag) : Prop := (fnB K (Ad_f_mf K) "Condition.failing" = true) ∧ (PySem.W.keepIn K (.ref (Ad_f_mf K)) = true) ∧ (fnB K (Ad_f_mn K) "Condition.names" = true) ∧ (PySem.W.keepIn K (.ref (Ad_f_mn K)) = true) ∧ (fnB K (Ad_f_ri K) "Rule.__init__" = true) ∧ (PySem.W.keepIn K (.ref (Ad_f_ri K)) = true) ∧ (fnB K (Ad_f_rn K) "Rule.name" = true) ∧ (PySem.W.keepIn K (.ref (Ad_f_rn K)) = true) ∧ (fnB K (Ad_f_rc K) "Rule.condition" = true) ∧ (PySem.W.keepIn K (.ref (Ad_f_rc K)) = true) ∧ (fnB K (Ad_f_rr K) "Rule.ruling" = true) ∧ (PySem.W.keepIn K (.ref (Ad_f_rr K)) = true)
instance (K : PySem.W.Frag) : Decidable (Fx18 K) := by unfold Fx18; infer_instance
def Fx19 (K : PySem.W.Frag) : Prop := (fnB K (Ad_f_re K) "Rule.exceptions" = true) ∧ (PySem.W.keepIn K (.ref (Ad_f_re K)) = true) ∧ (fnB K (Ad_f_rd K) "Rule.depth" = true) ∧ (PySem.W.keepIn K (.ref (Ad_f_rd K)) = true) ∧ (fnB K (Ad_f_bi K) "Book.__init__" = true) ∧ (PySem.W.keepIn K (.ref (Ad_f_bi K)) = true) ∧ (fnB K (Ad_f_bf K) "Book.facts" = true) ∧ (PySem.W.keepIn K (.ref (Ad_f_bf K)) = true) ∧ (fnB K (Ad_f_bs K) "Book.rules" = true) ∧ (PySem.W.keepIn K (.ref (Ad_f_bs K)) = true) ∧ (fnB K (Ad_f_br K) "Book.ruling" = true) ∧ (PySem.W.keepIn K (.ref (Ad_f_br K)) = true)
instance (K : PySem.W.Frag) : Decidable (Fx19 K) := by unfold Fx19; infer_instance
def Fx20 (K : PySem.W.Frag) : Prop := (fnB K (Ad_f_bn K) "Book.names" = true) ∧ (PySem.W.keepIn K (.ref (Ad_f_bn K)) = true) ∧ (fnB K (Ad_f_gi K) "Book.__getitem__" = true) ∧ (PySem.W.keepIn K (.ref (Ad_f_gi K)) = true) ∧ (fnB K (Ad_f_eb K) "Book.__eq__" = true) ∧ (PySem.W.keepIn K (.ref (Ad_f_eb K)) = true) ∧ (fnB K (Ad_f_er K) "Rule.__eq__" = true) ∧ (PySem.W.keepIn K (.ref (Ad_f_er K)) = true) ∧ (fnB K (Ad_f_ec K) "Condition.__eq__" = true) ∧ (PySem.W.keepIn K (.ref (Ad_f_ec K)) = true) ∧ (PySem.W.nsIn K mainGlobals "isinstance" = some none) ∧ (PySem.W.nsIn K mainGlobals "len" = some none)
instance (K : PySem.W.Frag) : Decidable (Fx20 K) := by unfold Fx20; infer_instance
def Fx21 (K : PySem.W.Frag) : Prop := (PySem.W.nsIn K mainGlobals "all" = some none) ∧ (PySem.W.nsIn K mainGlobals "any" = some none) ∧ (PySem.W.nsIn K mainGlobals "sum" = some none) ∧ (PySem.W.nsIn K mainGlobals "max" = some none) ∧ (PySem.W.nsIn K mainGlobals "min" = some none) ∧ (PySem.W.nsIn K mainGlobals "int" = some none) ∧ (PySem.W.nsIn K mainGlobals "str" = some none) ∧ (PySem.W.nsIn K mainGlobals "bool" = some none) ∧ (PySem.W.nsIn K mainGlobals "list" = some none) ∧ (PySem.W.nsIn K mainGlobals "tuple" = some none) ∧ (PySem.W.nsIn K mainGlobals "dict" = some none) ∧ (PySem.W.nsIn K mainGlobals "range" = some none)
instance (K : PySem.W.Frag) : Decidable (Fx21 K) := by unfold Fx21; infer_instance
def Fx22 (K : PySem.W.Frag) : Prop := (PySem.W.nsIn K mainGlobals "enumerate" = some none) ∧ (PySem.W.nsIn K mainGlobals "sorted" = some none) ∧ (PySem.W.nsIn K mainGlobals "reversed" = some none) ∧ (PySem.W.nsIn K mainGlobals "zip" = some none) ∧ (PySem.W.nsIn K mainGlobals "set" = some none) ∧ (PySem.W.nsIn K mainGlobals "ValueError" = some none) ∧ (strB K "LETTERS" letters = true) ∧ (intB K "LONGEST_NAME" 8 = true) ∧ (intB K "MOST_FACTS" 60 = true) ∧ (intB K "MOST_NAMES" 8 = true) ∧ (intB K "MOST_AROUND" 5 = true) ∧ (intB K "MOST_RULES" 60 = true)
instance (K : PySem.W.Frag) : Decidable (Fx22 K) := by unfold Fx22; infer_instance
def Fx23 (K : PySem.W.Frag) : Prop := (intB K "MOST_OUTERMOST" 40 = true) ∧ (PySem.W.nsIn K mainGlobals "CourtError" = some (some (.ref (Ad_CE K)))) ∧ (PySem.W.nsIn K mainGlobals "InvalidFacts" = some (some (.ref (Ad_E0 K)))) ∧ (PySem.W.nsIn K mainGlobals "InvalidCase" = some (some (.ref (Ad_E1 K)))) ∧ (PySem.W.nsIn K mainGlobals "InvalidNumber" = some (some (.ref (Ad_E2 K)))) ∧ (PySem.W.nsIn K mainGlobals "InvalidCondition" = some (some (.ref (Ad_E3 K)))) ∧ (PySem.W.nsIn K mainGlobals "NeverMet" = some (some (.ref (Ad_E4 K)))) ∧ (PySem.W.nsIn K mainGlobals "InvalidRule" = some (some (.ref (Ad_E5 K)))) ∧ (PySem.W.nsIn K mainGlobals "InvalidBook" = some (some (.ref (Ad_E6 K)))) ∧ (PySem.W.nsIn K mainGlobals "UnknownRule" = some (some (.ref (Ad_E7 K)))) ∧ (PySem.W.nsIn K mainGlobals "InvalidRuling" = some (some (.ref (Ad_E8 K)))) ∧ (PySem.W.nsIn K mainGlobals "UnknownFact" = some (some (.ref (Ad_E9 K))))
instance (K : PySem.W.Frag) : Decidable (Fx23 K) := by unfold Fx23; infer_instance
def Fx24 (K : PySem.W.Frag) : Prop := (PySem.W.nsIn K mainGlobals "NoReason" = some (some (.ref (Ad_E10 K)))) ∧ (PySem.W.nsIn K mainGlobals "TooMany" = some (some (.ref (Ad_E11 K)))) ∧ (PySem.W.nsIn K mainGlobals "InvalidChance" = some (some (.ref (Ad_E12 K)))) ∧ (PySem.W.nsIn K mainGlobals "OtherFacts" = some (some (.ref (Ad_E13 K)))) ∧ (PySem.W.nsIn K mainGlobals "NoNeighbor" = some (some (.ref (Ad_E14 K)))) ∧ (PySem.W.nsIn K mainGlobals "NoFacts" = some (some (.ref (Ad_E15 K)))) ∧ (PySem.W.nsIn K mainGlobals "AlreadyKnown" = some (some (.ref (Ad_E16 K)))) ∧ (PySem.W.subIn K (.ref (Ad_CE K)) (.type "BaseException") = some true) ∧ (PySem.W.isClsIn K (Ad_CE K) = true) ∧ (PySem.W.typeIn K (.ref (Ad_CE K)) = some (.type "type")) ∧ (PySem.W.isClsIn K (Ad_E0 K) = true) ∧ (PySem.W.typeIn K (.ref (Ad_E0 K)) = some (.type "type"))
instance (K : PySem.W.Frag) : Decidable (Fx24 K) := by unfold Fx24; infer_instance
def Fx25 (K : PySem.W.Frag) : Prop := (PySem.W.isClsIn K (Ad_E1 K) = true) ∧ (PySem.W.typeIn K (.ref (Ad_E1 K)) = some (.type "type")) ∧ (PySem.W.isClsIn K (Ad_E2 K) = true) ∧ (PySem.W.typeIn K (.ref (Ad_E2 K)) = some (.type "type")) ∧ (PySem.W.isClsIn K (Ad_E3 K) = true) ∧ (PySem.W.typeIn K (.ref (Ad_E3 K)) = some (.type "type")) ∧ (PySem.W.isClsIn K (Ad_E4 K) = true) ∧ (PySem.W.typeIn K (.ref (Ad_E4 K)) = some (.type "type")) ∧ (PySem.W.isClsIn K (Ad_E5 K) = true) ∧ (PySem.W.typeIn K (.ref (Ad_E5 K)) = some (.type "type")) ∧ (PySem.W.isClsIn K (Ad_E6 K) = true) ∧ (PySem.W.typeIn K (.ref (Ad_E6 K)) = some (.type "type"))
instance (K : PySem.W.Frag) : Decidable (Fx25 K) := by unfold Fx25; infer_instance
def Fx26 (K : PySem.W.Frag) : Prop := (PySem.W.isClsIn K (Ad_E7 K) = true) ∧ (PySem.W.typeIn K (.ref (Ad_E7 K)) = some (.type "type")) ∧ (PySem.W.isClsIn K (Ad_E8 K) = true) ∧ (PySem.W.typeIn K (.ref (Ad_E8 K)) = some (.type "type")) ∧ (PySem.W.isClsIn K (Ad_E9 K) = true) ∧ (PySem.W.typeIn K (.ref (Ad_E9 K)) = some (.type "type")) ∧ (PySem.W.isClsIn K (Ad_E10 K) = true) ∧ (PySem.W.typeIn K (.ref (Ad_E10 K)) = some (.type "type")) ∧ (PySem.W.isClsIn K (Ad_E11 K) = true) ∧ (PySem.W.typeIn K (.ref (Ad_E11 K)) = some (.type "type")) ∧ (PySem.W.isClsIn K (Ad_E12 K) = true) ∧ (PySem.W.typeIn K (.ref (Ad_E12 K)) = some (.type "type"))
instance (K : PySem.W.Frag) : Decidable (Fx26 K) := by unfold Fx26; infer_instance
def Fx27 (K : PySem.W.Frag) : Prop := (PySem.W.isClsIn K (Ad_E13 K) = true) ∧ (PySem.W.typeIn K (.ref (Ad_E13 K)) = some (.type "type")) ∧ (PySem.W.isClsIn K (Ad_E14 K) = true) ∧ (PySem.W.typeIn K (.ref (Ad_E14 K)) = some (.type "type")) ∧ (PySem.W.isClsIn K (Ad_E15 K) = true) ∧ (PySem.W.typeIn K (.ref (Ad_E15 K)) = some (.type "type")) ∧ (PySem.W.isClsIn K (Ad_E16 K) = true) ∧ (PySem.W.typeIn K (.ref (Ad_E16 K)) = some (.type "type")) ∧ (PySem.W.isClsIn K (Ad_E7 K) = true) ∧ (PySem.W.findIn K (.ref (Ad_E7 K)) "__getattribute__" = some (some (.builtin "BaseException.__getattribute__"))) ∧ (PySem.W.findIn K (.ref (Ad_E7 K)) "__getattr__" = some none) ∧ (PySem.W.subIn K (.ref (Ad_E7 K)) (.type "BaseException") = some true)
instance (K : PySem.W.Frag) : Decidable (Fx27 K) := by unfold Fx27; infer_instance
def Fx28 (K : PySem.W.Frag) : Prop := (PySem.W.findIn K (.ref (Ad_E7 K)) "__class__" = some (some (.builtin "object.__class__"))) ∧ (PySem.W.mroIn K (Ad_E7 K) (.type "object") = some true) ∧ (PySem.W.hasDictIn K (Ad_E7 K) = true) ∧ (PySem.W.subIn K (.ref (Ad_E7 K)) (.ref (Ad_CE K)) = some true) ∧ (PySem.W.subIn K (.ref (Ad_E7 K)) (.type "ValueError") = some true) ∧ (PySem.W.subIn K (.ref (Ad_E7 K)) (.ref (Ad_E0 K)) = some false) ∧ (PySem.W.subIn K (.ref (Ad_E7 K)) (.ref (Ad_E1 K)) = some false) ∧ (PySem.W.subIn K (.ref (Ad_E7 K)) (.ref (Ad_E2 K)) = some false) ∧ (PySem.W.subIn K (.ref (Ad_E7 K)) (.ref (Ad_E3 K)) = some false) ∧ (PySem.W.subIn K (.ref (Ad_E7 K)) (.ref (Ad_E4 K)) = some false) ∧ (PySem.W.subIn K (.ref (Ad_E7 K)) (.ref (Ad_E5 K)) = some false) ∧ (PySem.W.subIn K (.ref (Ad_E7 K)) (.ref (Ad_E6 K)) = some false)
instance (K : PySem.W.Frag) : Decidable (Fx28 K) := by unfold Fx28; infer_instance
def Fx29 (K : PySem.W.Frag) : Prop := (PySem.W.subIn K (.ref (Ad_E7 K)) (.ref (Ad_E7 K)) = some true) ∧ (PySem.W.subIn K (.ref (Ad_E7 K)) (.ref (Ad_E8 K)) = some false) ∧ (PySem.W.subIn K (.ref (Ad_E7 K)) (.ref (Ad_E9 K)) = some false) ∧ (PySem.W.subIn K (.ref (Ad_E7 K)) (.ref (Ad_E10 K)) = some false) ∧ (PySem.W.subIn K (.ref (Ad_E7 K)) (.ref (Ad_E11 K)) = some false) ∧ (PySem.W.subIn K (.ref (Ad_E7 K)) (.ref (Ad_E12 K)) = some false) ∧ (PySem.W.subIn K (.ref (Ad_E7 K)) (.ref (Ad_E13 K)) = some false) ∧ (PySem.W.subIn K (.ref (Ad_E7 K)) (.ref (Ad_E14 K)) = some false) ∧ (PySem.W.subIn K (.ref (Ad_E7 K)) (.ref (Ad_E15 K)) = some false) ∧ (PySem.W.subIn K (.ref (Ad_E7 K)) (.ref (Ad_E16 K)) = some false) ∧ (PySem.W.findIn K (.ref (Ad_E7 K)) "index" = some none) ∧ (PySem.W.findIn K (.ref (Ad_E7 K)) "part" = some none)
instance (K : PySem.W.Frag) : Decidable (Fx29 K) := by unfold Fx29; infer_instance
def Fx30 (K : PySem.W.Frag) : Prop := (PySem.W.findIn K (.ref (Ad_E7 K)) "word" = some none) ∧ (PySem.W.findIn K (.ref (Ad_E7 K)) "fact" = some none) ∧ (PySem.W.isClsIn K (Ad_E14 K) = true) ∧ (PySem.W.findIn K (.ref (Ad_E14 K)) "__getattribute__" = some (some (.builtin "BaseException.__getattribute__"))) ∧ (PySem.W.findIn K (.ref (Ad_E14 K)) "__getattr__" = some none) ∧ (PySem.W.subIn K (.ref (Ad_E14 K)) (.type "BaseException") = some true) ∧ (PySem.W.findIn K (.ref (Ad_E14 K)) "__class__" = some (some (.builtin "object.__class__"))) ∧ (PySem.W.mroIn K (Ad_E14 K) (.type "object") = some true) ∧ (PySem.W.hasDictIn K (Ad_E14 K) = true) ∧ (PySem.W.subIn K (.ref (Ad_E14 K)) (.ref (Ad_CE K)) = some true) ∧ (PySem.W.subIn K (.ref (Ad_E14 K)) (.type "ValueError") = some true) ∧ (PySem.W.subIn K (.ref (Ad_E14 K)) (.ref (Ad_E0 K)) = some false)
instance (K : PySem.W.Frag) : Decidable (Fx30 K) := by unfold Fx30; infer_instance
def Fx31 (K : PySem.W.Frag) : Prop := (PySem.W.subIn K (.ref (Ad_E14 K)) (.ref (Ad_E1 K)) = some false) ∧ (PySem.W.subIn K (.ref (Ad_E14 K)) (.ref (Ad_E2 K)) = some false) ∧ (PySem.W.subIn K (.ref (Ad_E14 K)) (.ref (Ad_E3 K)) = some false) ∧ (PySem.W.subIn K (.ref (Ad_E14 K)) (.ref (Ad_E4 K)) = some false) ∧ (PySem.W.subIn K (.ref (Ad_E14 K)) (.ref (Ad_E5 K)) = some false) ∧ (PySem.W.subIn K (.ref (Ad_E14 K)) (.ref (Ad_E6 K)) = some false) ∧ (PySem.W.subIn K (.ref (Ad_E14 K)) (.ref (Ad_E7 K)) = some false) ∧ (PySem.W.subIn K (.ref (Ad_E14 K)) (.ref (Ad_E8 K)) = some false) ∧ (PySem.W.subIn K (.ref (Ad_E14 K)) (.ref (Ad_E9 K)) = some false) ∧ (PySem.W.subIn K (.ref (Ad_E14 K)) (.ref (Ad_E10 K)) = some false) ∧ (PySem.W.subIn K (.ref (Ad_E14 K)) (.ref (Ad_E11 K)) = some false) ∧ (PySem.W.subIn K (.ref (Ad_E14 K)) (.ref (Ad_E12 K)) = some false)
instance (K : PySem.W.Frag) : Decidable (Fx31 K) := by unfold Fx31; infer_instance
def Fx32 (K : PySem.W.Frag) : Prop := (PySem.W.subIn K (.ref (Ad_E14 K)) (.ref (Ad_E13 K)) = some false) ∧ (PySem.W.subIn K (.ref (Ad_E14 K)) (.ref (Ad_E14 K)) = some true) ∧ (PySem.W.subIn K (.ref (Ad_E14 K)) (.ref (Ad_E15 K)) = some false) ∧ (PySem.W.subIn K (.ref (Ad_E14 K)) (.ref (Ad_E16 K)) = some false) ∧ (PySem.W.findIn K (.ref (Ad_E14 K)) "index" = some none) ∧ (PySem.W.findIn K (.ref (Ad_E14 K)) "part" = some none) ∧ (PySem.W.findIn K (.ref (Ad_E14 K)) "word" = some none) ∧ (PySem.W.findIn K (.ref (Ad_E14 K)) "fact" = some none) ∧ (PySem.W.specialIn K (.builtin "object.__class__") "__get__" = some (some (.builtin "getset_descriptor.__get__"))) ∧ (PySem.W.takesIn K (.builtin "object.__class__") = some true) ∧ (excB K (Ad_CE K) "ValueError.__new__" = true) ∧ (PySem.W.findIn K (.ref (Ad_CE K)) "__init__" = some (some (.builtin "ValueError.__init__")))
instance (K : PySem.W.Frag) : Decidable (Fx32 K) := by unfold Fx32; infer_instance
def Fx33 (K : PySem.W.Frag) : Prop := (PySem.W.nsIn K mainGlobals "super" = some none) ∧ (PySem.W.nsIn K cStatics "thirdparty.any" = some none) ∧ (excB K (Ad_E0 K) "ValueError.__new__" = true) ∧ (HandSPX.refsVE (mroT K (Ad_E0 K)) = true) ∧ (PySem.W.findIn K (.ref (Ad_E0 K)) "__setattr__" = some (some (.builtin "object.__setattr__"))) ∧ (PySem.W.typeIn K (.ref (Ad_E0 K)) = some (.type "type")) ∧ (PySem.W.keepIn K (.ref (Ad_E0 K)) = true) ∧ (PySem.W.findIn K (.ref (Ad_E0 K)) "__init__" = some (some (.ref (Ad_fIi0 K)))) ∧ (PySem.W.typeIn K (.ref (Ad_fIi0 K)) = some (.type "function")) ∧ (fnBC K (Ad_fIi0 K) "InvalidFacts.__init__" = true) ∧ (cellB K (Ad_celi0 K) (Ad_E0 K) = true) ∧ (fileB K (Ad_codi0 K) theFile = true)
instance (K : PySem.W.Frag) : Decidable (Fx33 K) := by unfold Fx33; infer_instance
def Fx34 (K : PySem.W.Frag) : Prop := (PySem.W.mroIn K (Ad_E0 K) (.ref (Ad_E0 K)) = some true) ∧ ((mroT K (Ad_E0 K)) = .ref (Ad_CE K) :: (mroT K (Ad_CE K))) ∧ (PySem.W.subIn K (.ref (Ad_E0 K)) (.type "ValueError") = some true) ∧ (PySem.W.subIn K (.ref (Ad_E0 K)) (.type "BaseException") = some true) ∧ (PySem.W.findIn K (.ref (Ad_E0 K)) "index" = some none) ∧ (excB K (Ad_E3 K) "ValueError.__new__" = true) ∧ (HandSPX.refsVE (mroT K (Ad_E3 K)) = true) ∧ (PySem.W.findIn K (.ref (Ad_E3 K)) "__setattr__" = some (some (.builtin "object.__setattr__"))) ∧ (PySem.W.typeIn K (.ref (Ad_E3 K)) = some (.type "type")) ∧ (PySem.W.keepIn K (.ref (Ad_E3 K)) = true) ∧ (PySem.W.findIn K (.ref (Ad_E3 K)) "__init__" = some (some (.ref (Ad_fIi3 K)))) ∧ (PySem.W.typeIn K (.ref (Ad_fIi3 K)) = some (.type "function"))
instance (K : PySem.W.Frag) : Decidable (Fx34 K) := by unfold Fx34; infer_instance
def Fx35 (K : PySem.W.Frag) : Prop := (fnBC K (Ad_fIi3 K) "InvalidCondition.__init__" = true) ∧ (cellB K (Ad_celi3 K) (Ad_E3 K) = true) ∧ (fileB K (Ad_codi3 K) theFile = true) ∧ (PySem.W.mroIn K (Ad_E3 K) (.ref (Ad_E3 K)) = some true) ∧ ((mroT K (Ad_E3 K)) = .ref (Ad_CE K) :: (mroT K (Ad_CE K))) ∧ (PySem.W.subIn K (.ref (Ad_E3 K)) (.type "ValueError") = some true) ∧ (PySem.W.subIn K (.ref (Ad_E3 K)) (.type "BaseException") = some true) ∧ (PySem.W.findIn K (.ref (Ad_E3 K)) "part" = some none) ∧ (PySem.W.findIn K (.ref (Ad_E3 K)) "index" = some none) ∧ (excB K (Ad_E5 K) "ValueError.__new__" = true) ∧ (HandSPX.refsVE (mroT K (Ad_E5 K)) = true) ∧ (PySem.W.findIn K (.ref (Ad_E5 K)) "__setattr__" = some (some (.builtin "object.__setattr__")))
instance (K : PySem.W.Frag) : Decidable (Fx35 K) := by unfold Fx35; infer_instance
def Fx36 (K : PySem.W.Frag) : Prop := (PySem.W.typeIn K (.ref (Ad_E5 K)) = some (.type "type")) ∧ (PySem.W.keepIn K (.ref (Ad_E5 K)) = true) ∧ (PySem.W.findIn K (.ref (Ad_E5 K)) "__init__" = some (some (.ref (Ad_fIi5 K)))) ∧ (PySem.W.typeIn K (.ref (Ad_fIi5 K)) = some (.type "function")) ∧ (fnBC K (Ad_fIi5 K) "InvalidRule.__init__" = true) ∧ (cellB K (Ad_celi5 K) (Ad_E5 K) = true) ∧ (fileB K (Ad_codi5 K) theFile = true) ∧ (PySem.W.mroIn K (Ad_E5 K) (.ref (Ad_E5 K)) = some true) ∧ ((mroT K (Ad_E5 K)) = .ref (Ad_CE K) :: (mroT K (Ad_CE K))) ∧ (PySem.W.subIn K (.ref (Ad_E5 K)) (.type "ValueError") = some true) ∧ (PySem.W.subIn K (.ref (Ad_E5 K)) (.type "BaseException") = some true) ∧ (PySem.W.findIn K (.ref (Ad_E5 K)) "part" = some none)
instance (K : PySem.W.Frag) : Decidable (Fx36 K) := by unfold Fx36; infer_instance
def Fx37 (K : PySem.W.Frag) : Prop := (excB K (Ad_E6 K) "ValueError.__new__" = true) ∧ (HandSPX.refsVE (mroT K (Ad_E6 K)) = true) ∧ (PySem.W.findIn K (.ref (Ad_E6 K)) "__setattr__" = some (some (.builtin "object.__setattr__"))) ∧ (PySem.W.typeIn K (.ref (Ad_E6 K)) = some (.type "type")) ∧ (PySem.W.keepIn K (.ref (Ad_E6 K)) = true) ∧ (PySem.W.findIn K (.ref (Ad_E6 K)) "__init__" = some (some (.ref (Ad_fIi6 K)))) ∧ (PySem.W.typeIn K (.ref (Ad_fIi6 K)) = some (.type "function")) ∧ (fnBC K (Ad_fIi6 K) "InvalidBook.__init__" = true) ∧ (cellB K (Ad_celi6 K) (Ad_E6 K) = true) ∧ (fileB K (Ad_codi6 K) theFile = true) ∧ (PySem.W.mroIn K (Ad_E6 K) (.ref (Ad_E6 K)) = some true) ∧ ((mroT K (Ad_E6 K)) = .ref (Ad_CE K) :: (mroT K (Ad_CE K)))
instance (K : PySem.W.Frag) : Decidable (Fx37 K) := by unfold Fx37; infer_instance
def Fx38 (K : PySem.W.Frag) : Prop := (PySem.W.subIn K (.ref (Ad_E6 K)) (.type "ValueError") = some true) ∧ (PySem.W.subIn K (.ref (Ad_E6 K)) (.type "BaseException") = some true) ∧ (PySem.W.findIn K (.ref (Ad_E6 K)) "word" = some none) ∧ (PySem.W.findIn K (.ref (Ad_E6 K)) "index" = some none) ∧ (PySem.W.excIn K (Ad_E7 K) [.type "ValueError", .type "Exception", .type "BaseException", .type "object"] "ValueError.__new__" = true) ∧ (PySem.W.keepIn K (.ref (Ad_E7 K)) = true) ∧ (PySem.W.subIn K (.ref (Ad_E7 K)) (.type "BaseException") = some true) ∧ (PySem.W.typeIn K (.ref (Ad_E7 K)) = some (.type "type")) ∧ (PySem.W.excIn K (Ad_E14 K) [.type "ValueError", .type "Exception", .type "BaseException", .type "object"] "ValueError.__new__" = true) ∧ (PySem.W.keepIn K (.ref (Ad_E14 K)) = true) ∧ (PySem.W.subIn K (.ref (Ad_E14 K)) (.type "BaseException") = some true) ∧ (PySem.W.typeIn K (.ref (Ad_E14 K)) = some (.type "type"))
instance (K : PySem.W.Frag) : Decidable (Fx38 K) := by unfold Fx38; infer_instance
def fn0 : FnDY := ⟨Ad_f_is_name, "is_name", "is_name", defArgs s_is_name, defBody s_is_name, defScope s_is_name⟩
def fn1 : FnDY := ⟨Ad_f_rises, "rises", "rises", defArgs s_rises, defBody s_rises, defScope s_rises⟩
def fn2 : FnDY := ⟨Ad_f_check_facts, "check_facts", "check_facts", defArgs s_check_facts, defBody s_check_facts, defScope s_check_facts⟩
def fn3 : FnDY := ⟨Ad_f_nested, "nested", "nested", defArgs s_nested, defBody s_nested, defScope s_nested⟩
def fn4 : FnDY := ⟨Ad_f_check_rules, "check_rules", "check_rules", defArgs s_check_rules, defBody s_check_rules, defScope s_check_rules⟩
def fn5 : FnDY := ⟨Ad_f_check_part, "check_part", "check_part", defArgs s_check_part, defBody s_check_part, defScope s_check_part⟩
def fn6 : FnDY := ⟨Ad_f_merged, "merged", "merged", defArgs s_merged, defBody s_merged, defScope s_merged⟩
def fn7 : FnDY := ⟨Ad_f_bits_of, "bits_of", "bits_of", defArgs s_bits_of, defBody s_bits_of, defScope s_bits_of⟩
def fn8 : FnDY := ⟨Ad_f_names_of, "names_of", "names_of", defArgs s_names_of, defBody s_names_of, defScope s_names_of⟩
def fn9 : FnDY := ⟨Ad_f_cube_of, "cube_of", "cube_of", defArgs s_cube_of, defBody s_cube_of, defScope s_cube_of⟩
def fn10 : FnDY := ⟨Ad_f_clash, "clash", "clash", defArgs s_clash, defBody s_clash, defScope s_clash⟩
def fn11 : FnDY := ⟨Ad_f_joined, "joined", "joined", defArgs s_joined, defBody s_joined, defScope s_joined⟩
def fn12 : FnDY := ⟨Ad_f_clashes_within, "clashes_within", "clashes_within", defArgs s_clashes_within, defBody s_clashes_within, defScope s_clashes_within⟩
def fn13 : FnDY := ⟨Ad_f_clashes, "clashes", "clashes", defArgs s_clashes, defBody s_clashes, defScope s_clashes⟩
def fn14 : FnDY := ⟨Ad_f_path_to, "path_to", "path_to", defArgs s_path_to, defBody s_path_to, defScope s_path_to⟩
def fn15 : FnDY := ⟨Ad_f_next_beside, "next_beside", "next_beside", defArgs s_next_beside, defBody s_next_beside, defScope s_next_beside⟩
def fn16 : FnDY := ⟨Ad_f_replaced, "replaced", "replaced", defArgs s_replaced, defBody s_replaced, defScope s_replaced⟩
def fn17 : FnDY := ⟨Ad_f_swapped, "swapped", "swapped", defArgs s_swapped, defBody s_swapped, defScope s_swapped⟩
def fn18 : FnDY := ⟨Ad_f__law_mix, "_law_mix", "_law_mix", defArgs s__law_mix, defBody s__law_mix, defScope s__law_mix⟩
def fn19 : FnDY := ⟨Ad_f__law_next, "_law_next", "_law_next", defArgs s__law_next, defBody s__law_next, defScope s__law_next⟩
def fn20 : FnDY := ⟨Ad_f__law_alike, "_law_alike", "_law_alike", defArgs s__law_alike, defBody s__law_alike, defScope s__law_alike⟩
def fn21 : FnDY := ⟨Ad_f__law_error, "_law_error", "_law_error", defArgs s__law_error, defBody s__law_error, defScope s__law_error⟩
def fn22 : FnDY := ⟨Ad_f__law_facts, "_law_facts", "_law_facts", defArgs s__law_facts, defBody s__law_facts, defScope s__law_facts⟩
def fn23 : FnDY := ⟨Ad_f__law_parts, "_law_parts", "_law_parts", defArgs s__law_parts, defBody s__law_parts, defScope s__law_parts⟩
def fn24 : FnDY := ⟨Ad_f__law_rules, "_law_rules", "_law_rules", defArgs s__law_rules, defBody s__law_rules, defScope s__law_rules⟩
def fn25 : FnDY := ⟨Ad_f__law_rule, "_law_rule", "_law_rule", defArgs s__law_rule, defBody s__law_rule, defScope s__law_rule⟩
def fn26 : FnDY := ⟨Ad_f__law_book, "_law_book", "_law_book", defArgs s__law_book, defBody s__law_book, defScope s__law_book⟩
def fn27 : FnDY := ⟨Ad_f__law_case, "_law_case", "_law_case", defArgs s__law_case, defBody s__law_case, defScope s__law_case⟩
def fn28 : FnDY := ⟨Ad_f__law_every, "_law_every", "_law_every", defArgs s__law_every, defBody s__law_every, defScope s__law_every⟩
def fn29 : FnDY := ⟨Ad_f__law_meets, "_law_meets", "_law_meets", defArgs s__law_meets, defBody s__law_meets, defScope s__law_meets⟩
def fn30 : FnDY := ⟨Ad_f__law_pairs, "_law_pairs", "_law_pairs", defArgs s__law_pairs, defBody s__law_pairs, defScope s__law_pairs⟩
def fn31 : FnDY := ⟨Ad_f__law_changed, "_law_changed", "_law_changed", defArgs s__law_changed, defBody s__law_changed, defScope s__law_changed⟩
def fn32 : FnDY := ⟨Ad_f_law, "law", "law", defArgs s_law, defBody s_law, defScope s_law⟩
def fn33 : FnDY := ⟨Ad_f_mi, "__init__", "Condition.__init__", defArgs s_Condition___init__, defBody s_Condition___init__, defScope s_Condition___init__⟩
def fn34 : FnDY := ⟨Ad_f_mh, "holding", "Condition.holding", defArgs s_Condition_holding, defBody s_Condition_holding, defScope s_Condition_holding⟩
def fn35 : FnDY := ⟨Ad_f_mf, "failing", "Condition.failing", defArgs s_Condition_failing, defBody s_Condition_failing, defScope s_Condition_failing⟩
def fn36 : FnDY := ⟨Ad_f_mn, "names", "Condition.names", defArgs s_Condition_names, defBody s_Condition_names, defScope s_Condition_names⟩
def fn37 : FnDY := ⟨Ad_f_ri, "__init__", "Rule.__init__", defArgs s_Rule___init__, defBody s_Rule___init__, defScope s_Rule___init__⟩
def fn38 : FnDY := ⟨Ad_f_rn, "name", "Rule.name", defArgs s_Rule_name, defBody s_Rule_name, defScope s_Rule_name⟩
def fn39 : FnDY := ⟨Ad_f_rc, "condition", "Rule.condition", defArgs s_Rule_condition, defBody s_Rule_condition, defScope s_Rule_condition⟩
def fn40 : FnDY := ⟨Ad_f_rr, "ruling", "Rule.ruling", defArgs s_Rule_ruling, defBody s_Rule_ruling, defScope s_Rule_ruling⟩
def fn41 : FnDY := ⟨Ad_f_re, "exceptions", "Rule.exceptions", defArgs s_Rule_exceptions, defBody s_Rule_exceptions, defScope s_Rule_exceptions⟩
def fn42 : FnDY := ⟨Ad_f_rd, "depth", "Rule.depth", defArgs s_Rule_depth, defBody s_Rule_depth, defScope s_Rule_depth⟩
def fn43 : FnDY := ⟨Ad_f_bi, "__init__", "Book.__init__", defArgs s_Book___init__, defBody s_Book___init__, defScope s_Book___init__⟩
def fn44 : FnDY := ⟨Ad_f_bf, "facts", "Book.facts", defArgs s_Book_facts, defBody s_Book_facts, defScope s_Book_facts⟩
def fn45 : FnDY := ⟨Ad_f_bs, "rules", "Book.rules", defArgs s_Book_rules, defBody s_Book_rules, defScope s_Book_rules⟩
def fn46 : FnDY := ⟨Ad_f_br, "ruling", "Book.ruling", defArgs s_Book_ruling, defBody s_Book_ruling, defScope s_Book_ruling⟩
def fn47 : FnDY := ⟨Ad_f_bn, "names", "Book.names", defArgs s_Book_names, defBody s_Book_names, defScope s_Book_names⟩
def fn48 : FnDY := ⟨Ad_f_gi, "__getitem__", "Book.__getitem__", defArgs s_Book___getitem__, defBody s_Book___getitem__, defScope s_Book___getitem__⟩
def fn49 : FnDY := ⟨Ad_f_eb, "__eq__", "Book.__eq__", defArgs s_Book___eq__, defBody s_Book___eq__, defScope s_Book___eq__⟩
def fn50 : FnDY := ⟨Ad_f_er, "__eq__", "Rule.__eq__", defArgs s_Rule___eq__, defBody s_Rule___eq__, defScope s_Rule___eq__⟩
def fn51 : FnDY := ⟨Ad_f_ec, "__eq__", "Condition.__eq__", defArgs s_Condition___eq__, defBody s_Condition___eq__, defScope s_Condition___eq__⟩
def fn52 : FnDY := ⟨Ad_fIi0, (nf_InvalidFacts 0 0).name, (nf_InvalidFacts 0 0).qual, (nf_InvalidFacts 0 0).params, (nf_InvalidFacts 0 0).body, (nf_InvalidFacts 0 0).scope⟩
def fn53 : FnDY := ⟨Ad_fIi3, (nf_InvalidCondition 0 0).name, (nf_InvalidCondition 0 0).qual, (nf_InvalidCondition 0 0).params, (nf_InvalidCondition 0 0).body, (nf_InvalidCondition 0 0).scope⟩
def fn54 : FnDY := ⟨Ad_fIi5, (nf_InvalidRule 0 0).name, (nf_InvalidRule 0 0).qual, (nf_InvalidRule 0 0).params, (nf_InvalidRule 0 0).body, (nf_InvalidRule 0 0).scope⟩
def fn55 : FnDY := ⟨Ad_fIi6, (nf_InvalidBook 0 0).name, (nf_InvalidBook 0 0).qual, (nf_InvalidBook 0 0).params, (nf_InvalidBook 0 0).body, (nf_InvalidBook 0 0).scope⟩
def ex_0 (K : PySem.W.Frag) : Bool := ([fun K => decide (Fx0 K), fun K => decide (Fx1 K), fun K => decide (Fx2 K), fun K => decide (Fx3 K), fun K => decide (Fx4 K)] : List (PySem.W.Frag → Bool)).all fun f => f K
def fn_0 : List FnDY := [fn0, fn1, fn2, fn3, fn4, fn5, fn6]
def tf_0 : List (PySem.W.Frag → Addr) := [Ad_cc_law]
def ex_1 (K : PySem.W.Frag) : Bool := ([fun K => decide (Fx5 K), fun K => decide (Fx6 K), fun K => decide (Fx7 K), fun K => decide (Fx8 K), fun K => decide (Fx9 K)] : List (PySem.W.Frag → Bool)).all fun f => f K
def fn_1 : List FnDY := [fn7, fn8, fn9, fn10, fn11, fn12, fn13]
def tf_1 : List (PySem.W.Frag → Addr) := []
def ex_2 (K : PySem.W.Frag) : Bool := ([fun K => decide (Fx10 K), fun K => decide (Fx11 K), fun K => decide (Fx12 K), fun K => decide (Fx13 K), fun K => decide (Fx14 K)] : List (PySem.W.Frag → Bool)).all fun f => f K
def fn_2 : List FnDY := [fn14, fn15, fn16, fn17, fn18, fn19, fn20]
def tf_2 : List (PySem.W.Frag → Addr) := []
def ex_3 (K : PySem.W.Frag) : Bool := ([fun K => decide (Fx15 K), fun K => decide (Fx16 K), fun K => decide (Fx17 K), fun K => decide (Fx18 K), fun K => decide (Fx19 K)] : List (PySem.W.Frag → Bool)).all fun f => f K
def fn_3 : List FnDY := [fn21, fn22, fn23, fn24, fn25, fn26, fn27]
def tf_3 : List (PySem.W.Frag → Addr) := []
def ex_4 (K : PySem.W.Frag) : Bool := ([fun K => decide (Fx20 K), fun K => decide (Fx21 K), fun K => decide (Fx22 K), fun K => decide (Fx23 K), fun K => decide (Fx24 K)] : List (PySem.W.Frag → Bool)).all fun f => f K
def fn_4 : List FnDY := [fn28, fn29, fn30, fn31, fn32, fn33, fn34]
def tf_4 : List (PySem.W.Frag → Addr) := []
def ex_5 (K : PySem.W.Frag) : Bool := ([fun K => decide (Fx25 K), fun K => decide (Fx26 K), fun K => decide (Fx27 K), fun K => decide (Fx28 K), fun K => decide (Fx29 K)] : List (PySem.W.Frag → Bool)).all fun f => f K
def fn_5 : List FnDY := [fn35, fn36, fn37, fn38, fn39, fn40, fn41]
def tf_5 : List (PySem.W.Frag → Addr) := []
def ex_6 (K : PySem.W.Frag) : Bool := ([fun K => decide (Fx30 K), fun K => decide (Fx31 K), fun K => decide (Fx32 K), fun K => decide (Fx33 K), fun K => decide (Fx34 K)] : List (PySem.W.Frag → Bool)).all fun f => f K
def fn_6 : List FnDY := [fn42, fn43, fn44, fn45, fn46, fn47, fn48]
def tf_6 : List (PySem.W.Frag → Addr) := []
def ex_7 (K : PySem.W.Frag) : Bool := ([fun K => decide (Fx35 K), fun K => decide (Fx36 K), fun K => decide (Fx37 K), fun K => decide (Fx38 K)] : List (PySem.W.Frag → Bool)).all fun f => f K
def fn_7 : List FnDY := [fn49, fn50, fn51, fn52, fn53, fn54, fn55]
def tf_7 : List (PySem.W.Frag → Addr) := []
abbrev fnL : List FnDY := (((((((fn_0 ++ fn_1) ++ fn_2) ++ fn_3) ++ fn_4) ++ fn_5) ++ fn_6) ++ fn_7)
abbrev tfL : List (PySem.W.Frag → Addr) := (((((((tf_0 ++ tf_1) ++ tf_2) ++ tf_3) ++ tf_4) ++ tf_5) ++ tf_6) ++ tf_7)
abbrev exB : PySem.W.Frag → Bool := (fun K => (fun K => (fun K => (fun K => (fun K => (fun K => (fun K => ex_0 K && ex_1 K) K && ex_2 K) K && ex_3 K) K && ex_4 K) K && ex_5 K) K && ex_6 K) K && ex_7 K)
theorem mem_at {α : Type} {l : List α} {i : Nat} {a : α} (h : l[i]? = some a) : a ∈ l := List.mem_of_getElem? h
theorem all_at {K : PySem.W.Frag} {L : List (PySem.W.Frag → Bool)} (h : (L.all fun f => f K) = true) (i : Nat) {f : PySem.W.Frag → Bool} (e : L[i]? = some f) : f K = true := List.all_eq_true.mp h f (List.mem_of_getElem? e)
theorem more_0 {h : Heap} {K : PySem.W.Frag} (S : SaysY fnL tfL exB h K) : ex_0 K = true := (ba (ba (ba (ba (ba (ba (ba S.more).1).1).1).1).1).1).1
theorem more_1 {h : Heap} {K : PySem.W.Frag} (S : SaysY fnL tfL exB h K) : ex_1 K = true := (ba (ba (ba (ba (ba (ba (ba S.more).1).1).1).1).1).1).2
theorem more_2 {h : Heap} {K : PySem.W.Frag} (S : SaysY fnL tfL exB h K) : ex_2 K = true := (ba (ba (ba (ba (ba (ba S.more).1).1).1).1).1).2
theorem more_3 {h : Heap} {K : PySem.W.Frag} (S : SaysY fnL tfL exB h K) : ex_3 K = true := (ba (ba (ba (ba (ba S.more).1).1).1).1).2
theorem more_4 {h : Heap} {K : PySem.W.Frag} (S : SaysY fnL tfL exB h K) : ex_4 K = true := (ba (ba (ba (ba S.more).1).1).1).2
theorem more_5 {h : Heap} {K : PySem.W.Frag} (S : SaysY fnL tfL exB h K) : ex_5 K = true := (ba (ba (ba S.more).1).1).2
theorem more_6 {h : Heap} {K : PySem.W.Frag} (S : SaysY fnL tfL exB h K) : ex_6 K = true := (ba (ba S.more).1).2
theorem more_7 {h : Heap} {K : PySem.W.Frag} (S : SaysY fnL tfL exB h K) : ex_7 K = true := (ba S.more).2
theorem gx0 {h : Heap} {K : PySem.W.Frag} (S : SaysY fnL tfL exB h K) : Fx0 K := of_decide_eq_true (all_at (more_0 S) 0 rfl)
theorem gx1 {h : Heap} {K : PySem.W.Frag} (S : SaysY fnL tfL exB h K) : Fx1 K := of_decide_eq_true (all_at (more_0 S) 1 rfl)
theorem gx2 {h : Heap} {K : PySem.W.Frag} (S : SaysY fnL tfL exB h K) : Fx2 K := of_decide_eq_true (all_at (more_0 S) 2 rfl)
theorem gx3 {h : Heap} {K : PySem.W.Frag} (S : SaysY fnL tfL exB h K) : Fx3 K := of_decide_eq_true (all_at (more_0 S) 3 rfl)
theorem gx4 {h : Heap} {K : PySem.W.Frag} (S : SaysY fnL tfL exB h K) : Fx4 K := of_decide_eq_true (all_at (more_0 S) 4 rfl)
theorem gx5 {h : Heap} {K : PySem.W.Frag} (S : SaysY fnL tfL exB h K) : Fx5 K := of_decide_eq_true (all_at (more_1 S) 0 rfl)
theorem gx6 {h : Heap} {K : PySem.W.Frag} (S : SaysY fnL tfL exB h K) : Fx6 K := of_decide_eq_true (all_at (more_1 S) 1 rfl)
theorem gx7 {h : Heap} {K : PySem.W.Frag} (S : SaysY fnL tfL exB h K) : Fx7 K := of_decide_eq_true (all_at (more_1 S) 2 rfl)
theorem gx8 {h : Heap} {K : PySem.W.Frag} (S : SaysY fnL tfL exB h K) : Fx8 K := of_decide_eq_true (all_at (more_1 S) 3 rfl)
theorem gx9 {h : Heap} {K : PySem.W.Frag} (S : SaysY fnL tfL exB h K) : Fx9 K := of_decide_eq_true (all_at (more_1 S) 4 rfl)
theorem gx10 {h : Heap} {K : PySem.W.Frag} (S : SaysY fnL tfL exB h K) : Fx10 K := of_decide_eq_true (all_at (more_2 S) 0 rfl)
theorem gx11 {h : Heap} {K : PySem.W.Frag} (S : SaysY fnL tfL exB h K) : Fx11 K := of_decide_eq_true (all_at (more_2 S) 1 rfl)
theorem gx12 {h : Heap} {K : PySem.W.Frag} (S : SaysY fnL tfL exB h K) : Fx12 K := of_decide_eq_true (all_at (more_2 S) 2 rfl)
theorem gx13 {h : Heap} {K : PySem.W.Frag} (S : SaysY fnL tfL exB h K) : Fx13 K := of_decide_eq_true (all_at (more_2 S) 3 rfl)
theorem gx14 {h : Heap} {K : PySem.W.Frag} (S : SaysY fnL tfL exB h K) : Fx14 K := of_decide_eq_true (all_at (more_2 S) 4 rfl)
theorem gx15 {h : Heap} {K : PySem.W.Frag} (S : SaysY fnL tfL exB h K) : Fx15 K := of_decide_eq_true (all_at (more_3 S) 0 rfl)
theorem gx16 {h : Heap} {K : PySem.W.Frag} (S : SaysY fnL tfL exB h K) : Fx16 K := of_decide_eq_true (all_at (more_3 S) 1 rfl)
theorem gx17 {h : Heap} {K : PySem.W.Frag} (S : SaysY fnL tfL exB h K) : Fx17 K := of_decide_eq_true (all_at (more_3 S) 2 rfl)
theorem gx18 {h : Heap} {K : PySem.W.Frag} (S : SaysY fnL tfL exB h K) : Fx18 K := of_decide_eq_true (all_at (more_3 S) 3 rfl)
theorem gx19 {h : Heap} {K : PySem.W.Frag} (S : SaysY fnL tfL exB h K) : Fx19 K := of_decide_eq_true (all_at (more_3 S) 4 rfl)
theorem gx20 {h : Heap} {K : PySem.W.Frag} (S : SaysY fnL tfL exB h K) : Fx20 K := of_decide_eq_true (all_at (more_4 S) 0 rfl)
theorem gx21 {h : Heap} {K : PySem.W.Frag} (S : SaysY fnL tfL exB h K) : Fx21 K := of_decide_eq_true (all_at (more_4 S) 1 rfl)
theorem gx22 {h : Heap} {K : PySem.W.Frag} (S : SaysY fnL tfL exB h K) : Fx22 K := of_decide_eq_true (all_at (more_4 S) 2 rfl)
theorem gx23 {h : Heap} {K : PySem.W.Frag} (S : SaysY fnL tfL exB h K) : Fx23 K := of_decide_eq_true (all_at (more_4 S) 3 rfl)
theorem gx24 {h : Heap} {K : PySem.W.Frag} (S : SaysY fnL tfL exB h K) : Fx24 K := of_decide_eq_true (all_at (more_4 S) 4 rfl)
theorem gx25 {h : Heap} {K : PySem.W.Frag} (S : SaysY fnL tfL exB h K) : Fx25 K := of_decide_eq_true (all_at (more_5 S) 0 rfl)
theorem gx26 {h : Heap} {K : PySem.W.Frag} (S : SaysY fnL tfL exB h K) : Fx26 K := of_decide_eq_true (all_at (more_5 S) 1 rfl)
theorem gx27 {h : Heap} {K : PySem.W.Frag} (S : SaysY fnL tfL exB h K) : Fx27 K := of_decide_eq_true (all_at (more_5 S) 2 rfl)
theorem gx28 {h : Heap} {K : PySem.W.Frag} (S : SaysY fnL tfL exB h K) : Fx28 K := of_decide_eq_true (all_at (more_5 S) 3 rfl)
theorem gx29 {h : Heap} {K : PySem.W.Frag} (S : SaysY fnL tfL exB h K) : Fx29 K := of_decide_eq_true (all_at (more_5 S) 4 rfl)
theorem gx30 {h : Heap} {K : PySem.W.Frag} (S : SaysY fnL tfL exB h K) : Fx30 K := of_decide_eq_true (all_at (more_6 S) 0 rfl)
theorem gx31 {h : Heap} {K : PySem.W.Frag} (S : SaysY fnL tfL exB h K) : Fx31 K := of_decide_eq_true (all_at (more_6 S) 1 rfl)
theorem gx32 {h : Heap} {K : PySem.W.Frag} (S : SaysY fnL tfL exB h K) : Fx32 K := of_decide_eq_true (all_at (more_6 S) 2 rfl)
theorem gx33 {h : Heap} {K : PySem.W.Frag} (S : SaysY fnL tfL exB h K) : Fx33 K := of_decide_eq_true (all_at (more_6 S) 3 rfl)
theorem gx34 {h : Heap} {K : PySem.W.Frag} (S : SaysY fnL tfL exB h K) : Fx34 K := of_decide_eq_true (all_at (more_6 S) 4 rfl)
theorem gx35 {h : Heap} {K : PySem.W.Frag} (S : SaysY fnL tfL exB h K) : Fx35 K := of_decide_eq_true (all_at (more_7 S) 0 rfl)
theorem gx36 {h : Heap} {K : PySem.W.Frag} (S : SaysY fnL tfL exB h K) : Fx36 K := of_decide_eq_true (all_at (more_7 S) 1 rfl)
theorem gx37 {h : Heap} {K : PySem.W.Frag} (S : SaysY fnL tfL exB h K) : Fx37 K := of_decide_eq_true (all_at (more_7 S) 2 rfl)
theorem gx38 {h : Heap} {K : PySem.W.Frag} (S : SaysY fnL tfL exB h K) : Fx38 K := of_decide_eq_true (all_at (more_7 S) 3 rfl)
def nameOf (s : Stmt) : List Str := match s with
  | .FunctionDef n .. => [n]
  | .ClassDef n .. => [n]
  | .Assign [.Name n _] _ _ => [n]
  | _ => []
def lawI : Nat := theRow.prog.main.body.length - 1
def names : List Str := (theRow.prog.main.body.take lawI).flatMap nameOf
def asL : List Addr := [3, 2, 31, 53, 74, 86, 107, 119, 140, 161, 173, 185, 197, 209, 221, 242, 254, 266, 278, 290, 416, 520, 667, 0, 6, 30, 52, 73, 85, 106, 118, 139, 160, 172, 184, 196, 208, 220, 241, 253] ++ [265, 277, 289, 415, 519, 666, 19, 21, 48, 50, 69, 71, 102, 104, 135, 137, 156, 158, 237, 239, 295, 297, 302, 304, 309, 311, 316, 318, 321, 323, 326, 328, 333, 335, 340, 342, 345, 347, 357, 359] ++ [366, 374, 382, 390, 398, 404, 406, 411, 413, 430, 432, 439, 447, 455, 461, 469, 475, 477, 480, 482, 487, 489, 494, 496, 501, 503, 508, 510, 515, 517, 529, 531, 534, 536, 541, 543, 548, 550, 555, 557] ++ [562, 564, 569, 571, 574, 576, 581, 583, 588, 590, 595, 597, 609, 611, 618, 626, 634, 638, 640, 645, 647, 650, 652, 657, 659, 662, 664, 676, 678, 681, 683, 688, 690, 695, 697, 700, 702, 707, 709, 714] ++ [716, 721, 723, 728, 730, 733, 735, 738, 740, 743, 745, 750, 752, 757, 759, 762, 764, 767, 769, 772, 774, 779, 781, 784, 786, 38, 59, 92, 125, 146, 227, 20, 32, 49, 70, 103, 136, 157, 238, 296] ++ [303, 310, 317, 322, 327, 334, 341, 346, 358, 365, 367, 373, 375, 381, 383, 389, 391, 397, 399, 405, 412, 417, 418, 431, 438, 440, 446, 448, 454, 456, 460, 462, 468, 470, 476, 481, 488, 495, 502, 509] ++ [516, 521, 522, 530, 535, 542, 549, 556, 563, 570, 575, 582, 589, 596, 610, 617, 619, 625, 627, 633, 635, 639, 646, 651, 658, 663, 668, 669, 677, 682, 689, 696, 701, 708, 715, 722, 729, 734, 739, 744] ++ [751, 758, 763, 768, 773, 780, 785, 4]
abbrev hk : PySem.W.Hook := hookY asL fnL tfL exB
def ob (s : PySem.W.SharedT) : AlY := obsY asL fnL tfL exB (HandSHeadRun.getT s)
theorem ob_eq (s : PySem.W.SharedT) : ob s = hk.obs s.abs := obsY_eq (HandSHeadRun.getT_eq s)
theorem run_0 (w : World) : HandSHeadRun.RunEq theRow (PySem.W.view theRow.prog [lawI]) (hookY asL fn_0 tf_0 ex_0) (fun s => obsY asL fn_0 tf_0 ex_0 (HandSHeadRun.getT s)) 9000 names w := by
  intro os
  kernel_rfl
theorem run_1 (w : World) : HandSHeadRun.RunEq theRow (PySem.W.view theRow.prog [lawI]) (hookY asL fn_1 tf_1 ex_1) (fun s => obsY asL fn_1 tf_1 ex_1 (HandSHeadRun.getT s)) 9000 names w := by
  intro os
  kernel_rfl
theorem run_2 (w : World) : HandSHeadRun.RunEq theRow (PySem.W.view theRow.prog [lawI]) (hookY asL fn_2 tf_2 ex_2) (fun s => obsY asL fn_2 tf_2 ex_2 (HandSHeadRun.getT s)) 9000 names w := by
  intro os
  kernel_rfl
theorem run_3 (w : World) : HandSHeadRun.RunEq theRow (PySem.W.view theRow.prog [lawI]) (hookY asL fn_3 tf_3 ex_3) (fun s => obsY asL fn_3 tf_3 ex_3 (HandSHeadRun.getT s)) 9000 names w := by
  intro os
  kernel_rfl
theorem run_4 (w : World) : HandSHeadRun.RunEq theRow (PySem.W.view theRow.prog [lawI]) (hookY asL fn_4 tf_4 ex_4) (fun s => obsY asL fn_4 tf_4 ex_4 (HandSHeadRun.getT s)) 9000 names w := by
  intro os
  kernel_rfl
theorem run_5 (w : World) : HandSHeadRun.RunEq theRow (PySem.W.view theRow.prog [lawI]) (hookY asL fn_5 tf_5 ex_5) (fun s => obsY asL fn_5 tf_5 ex_5 (HandSHeadRun.getT s)) 9000 names w := by
  intro os
  kernel_rfl
theorem run_6 (w : World) : HandSHeadRun.RunEq theRow (PySem.W.view theRow.prog [lawI]) (hookY asL fn_6 tf_6 ex_6) (fun s => obsY asL fn_6 tf_6 ex_6 (HandSHeadRun.getT s)) 9000 names w := by
  intro os
  kernel_rfl
theorem run_7 (w : World) : HandSHeadRun.RunEq theRow (PySem.W.view theRow.prog [lawI]) (hookY asL fn_7 tf_7 ex_7) (fun s => obsY asL fn_7 tf_7 ex_7 (HandSHeadRun.getT s)) 9000 names w := by
  intro os
  kernel_rfl
theorem run (w : World) : HandSHeadRun.RunEq theRow (PySem.W.view theRow.prog [lawI]) hk ob 9000 names w := run_join (run_join (run_join (run_join (run_join (run_join (run_join (run_0 w) (run_1 w)) (run_2 w)) (run_3 w)) (run_4 w)) (run_5 w)) (run_6 w)) (run_7 w)
end Sc
namespace Sc
open PySem PySem.Spec PySem.Calls PyProof.Rows L2
/-! ### enumerate(tuple) -/
theorem enumT_new (l : Addr) (items : Array Value) (n : Nat) (dct : Option Addr) (sl : Array (Option Value)) :
    Meets (Builtin.«enumerate.__new__» ⟨[.type "enumerate", .ref l], []⟩) (fun _ R s =>
      s.heap.get? l = some { cls := .type "tuple", dict := dct, data := .seq items n, slots := sl } ∧
      R (.ok (.ret (.ref (s.heap.objs.size + 1)))) { s with heap := (s.heap.push { cls := .type "tuple_iterator", data := .fields #[.ref l, .int 0 0] }).push { cls := .type "enumerate", data := .fields #[.none, .bool false, .ref s.heap.objs.size, rawInt 0, .none, .none] } }) :=
  .of_wp fun prog w A R s h => by
    obtain ⟨hp, g, d, tk, os⟩ := s
    obtain ⟨hl, hR⟩ := h
    have hsub := sub_enumerate
    have hT : Heap.IsTuple hp l items := ⟨_, hl, rfl, n, rfl⟩
    have hz : (hp.push { cls := .type "tuple_iterator", data := .fields #[.ref l, .int 0 0] }).objs.size = hp.objs.size + 1 := Heap.size_push ..
    rw [← hz] at hR
    have it1 : ∀ {A' : Around} {E : Value → Shared → Prop} {Q : Value → Shared → Prop}, Q (.ref hp.objs.size) ⟨hp.push { cls := .type "tuple_iterator", data := .fields #[.ref l, .int 0 0] }, g, d, tk, os⟩ →
        wpAny (model prog w) A' (pyIter (.ref l)) Q E ⟨hp, g, d, tk, os⟩ := fun q => wpAny_pyIter_tuple (s := ⟨hp, g, d, tk, os⟩) hT q
    wp_walk using AutoSeq1.wpAny_loadPart' hl, it1
    refine wpAny_stack_any fun st => wpAny_pure ?_
    split
    · rename_i c _ _ _ _ _
      cases (c == Value.type "enumerate") <;>
      · wp_walk using AutoSeq1.wpAny_loadPart' hl, it1
        exact ⟨_, rfl, hR⟩
    · wp_walk using AutoSeq1.wpAny_loadPart' hl, it1
      exact ⟨_, rfl, hR⟩
section
variable {prog : Program} {w : World} {A : Around} {E : Value → Shared → Prop} {s : Shared}
theorem enumT_call {l : Addr} {items : Array Value} {Q : Value → Shared → Prop} (hL : s.heap.IsTuple l items)
    (h : ∀ h', IsEnum h' (s.heap.objs.size + 1) s.heap.objs.size 0 .none → h'.IsTupleIter s.heap.objs.size l 0 → (∀ b o, s.heap.get? b = some o → h'.get? b = some o) →
      Q (.ref (s.heap.objs.size + 1)) { s with heap := h' }) : wpAny (model prog w) A (call (.type "enumerate") [.ref l]) Q E s := by
  obtain ⟨⟨c, dct, dt, sl⟩, hl, hc, n, hd⟩ := hL
  dsimp only at hc hd
  subst hc hd
  refine callType_new F.called_enumerate (by decide) (F.typeCall_enumerate_1 _) (F.newCall_enumerate_1 _) (fun obj => F.args_object_init_2 obj _) F.entry_enumerate_new (enumT_new l items n dct sl) ⟨hl, ?_⟩
  have hz : (s.heap.push { cls := .type "tuple_iterator", data := .fields #[.ref l, .int 0 0] }).objs.size = s.heap.objs.size + 1 := Heap.size_push ..
  have he := Heap.get?_push_size (s.heap.push { cls := .type "tuple_iterator", data := .fields #[.ref l, .int 0 0] })
    (o := { cls := .type "enumerate", data := .fields #[.none, .bool false, .ref s.heap.objs.size, rawInt 0, .none, .none] }) rfl
  rw [hz] at he
  exact ⟨⟨_, he, rfl⟩, h _ he ⟨_, Heap.get?_push_of_some _ (Heap.get?_push_size _ rfl), rfl, rfl⟩ fun b o x => Heap.get?_push_of_some _ (Heap.get?_push_of_some _ x)⟩
end
/-- the tuple at a, each item in a new pair -/
def IteT (K : PySem.W.Frag) (a : Addr) : It where
  go := fun i H => ∃ (xs : List V) (x : V), SqT K H a xs ∧ xs[i]? = some x
  yld := fun i H v H' => ∃ T x, v = .ref T ∧ H T = none ∧ H' = upd H T (.tup [.int (i : Nat), x]) ∧ ∀ xs, SqT K H a xs → xs[i]? = some x
  stop := fun i H => ∃ xs : List V, SqT K H a xs ∧ xs.length ≤ i
theorem enumT_turn {P : Program} {w : World} {K : PySem.W.Frag} {elts : List Expr} {kk : Nat} {tpos : Pos} (a e it : Addr) :
    Turn P w K (.Tuple elts kk tpos) (IteT K a) [e, it] e (fun i h => (∃ old, IsEnum h e it ((i : Nat) : Int) old) ∧ h.IsTupleIter it a i ∧ e ≠ it) where
  mem := List.mem_cons_self
  obj := fun i h st b hb => by
    obtain ⟨⟨old, he⟩, ⟨o, ho, hc, hd⟩, _⟩ := st
    rcases List.mem_cons.mp hb with rfl | hb
    · exact ⟨_, he, fun v q => nomatch q⟩
    · rcases List.mem_cons.mp hb with rfl | hb
      · exact ⟨o, ho, fun v q => by rw [hd] at q; cases q⟩
      · cases hb
  keep := fun i h h' st k => by
    obtain ⟨⟨old, he⟩, hi, hne⟩ := st
    exact ⟨⟨old, k e (by simp) _ he⟩, hi.at fun o q => k it (by simp) o q, hne⟩
  item := by
    intro X hP hw hK hc i pins s σ H E I hf st hg
    subst hP hw hK
    obtain ⟨⟨old, he⟩, hit, hne⟩ := st
    obtain ⟨xs, x, hq, hx⟩ := hg
    obtain ⟨its, rv, p, hz⟩ := I.tuple hq
    obtain ⟨u, hu, ru⟩ := rv.get hx
    have hel : e < s.heap.objs.size := Heap.lt_size he
    have hil : it < s.heap.objs.size := by obtain ⟨_, q, _⟩ := hit; exact Heap.lt_size q
    have p' : s.heap.IsTuple a its.toArray := p
    have hae : a ≠ e := fun z => by
      obtain ⟨o, ho, hcl, n, hd⟩ := p'
      rw [z, he] at ho
      cases ho
      cases hd
    have hai : a ≠ it := fun z => by
      obtain ⟨o, ho, hcl, n, hd⟩ := p'
      obtain ⟨o2, ho2, hcl2, hd2⟩ := hit
      rw [z, ho2] at ho
      cases ho
      rw [hd2] at hd
      cases hd
    have hlt : i < its.toArray.size := by
      rw [List.size_toArray]
      exact (List.getElem?_eq_some_iff.mp hu).1
    refine wpAny_pyNext_enum_itemD (Draws.tuple (A := X.A.in1) (I.ok.hd hc) it a hai its.toArray) he ⟨hit, p'⟩ hlt hne (by simp [hne, hae.symm]) fun y h' tk hy ho st' hT hsz hk => ?_
    obtain ⟨hit', hp'⟩ := st'
    have ey : y = u := by
      have z : its.toArray[i]? = some u := by simpa using hu
      rw [hy] at z
      exact Option.some.inj z
    subst ey
    refine ⟨_, rfl, wpAny_letOwnedTupleGo_enum (s := { s with heap := h', toks := tk + 1 }) ho fun h'' he' sb => ?_⟩
    have hT2 : h''.get? s.heap.objs.size = some { cls := .type "tuple", data := .seq #[.int i tk, y] } := (sb.2 _ (Nat.ne_of_gt hel)).trans hT
    have new : ObjOk X.prog X.w (upd H s.heap.objs.size (.tup [.int (i : Nat), x])) h'' s.heap.objs.size (.tup [.int (i : Nat), x]) :=
      ⟨by show 2 ≤ sizeLine; decide, [.int i tk, y], .cons ⟨_, rfl⟩ (.cons ru .nil), ⟨_, hT2, rfl, _, rfl⟩⟩
    have I1 : Inv X pins σ (upd H s.heap.objs.size (.tup [.int (i : Nat), x])) { s with heap := h'', toks := tk + 1 } :=
      I.turnedNew (ch := [e, it]) (fun b ob hb q => (sb.2 b (fun z => hb (by simp [z]))).trans (hk b ob (fun z => hb (by simp [z])) (fun z => hb (by simp [z])) q)) hf (Nat.le_refl _) new
    refine ⟨.ref s.heap.objs.size, _, I1, rfl, ⟨_, x, rfl, I.hok.fresh (Nat.le_refl _), rfl, fun ys hy => by rw [I.tuple_inj hy hq]; exact hx⟩, ⟨⟨y, ?_⟩, hit'.at fun o q => (sb.2 it (Ne.symm hne)).trans q, hne⟩, fun b hb => ?_⟩
    · have e1 : ((i + 1 : Nat) : Int) = (i : Int) + 1 := by omega
      rw [e1]
      exact he'
    · have hb' : b < s.heap.objs.size := by
        rcases List.mem_cons.mp hb with rfl | hb
        · exact hel
        · rcases List.mem_cons.mp hb with rfl | hb
          · exact hil
          · cases hb
      rw [upd_ne (Nat.ne_of_lt hb')]
      exact (hf b hb).1
  done := by
    intro X hP hw hK hc i pins s σ H E I hf st hg
    subst hP hw hK
    obtain ⟨⟨old, he⟩, hit, hne⟩ := st
    obtain ⟨xs, hq, hx⟩ := hg
    obtain ⟨its, rv, p, hz⟩ := I.tuple hq
    obtain ⟨f0, f1, f2, f3, f4, f5⟩ := hf it (by simp)
    have hl := rv.length
    have p' : s.heap.IsTuple a its.toArray := p
    have hai : a ≠ it := fun z => by
      obtain ⟨o, ho, hcl, n, hd⟩ := p'
      obtain ⟨o2, ho2, hcl2, hd2⟩ := hit
      rw [z, ho2] at ho
      cases ho
      rw [hd2] at hd
      cases hd
    have D : Draws X.prog X.w X.A.in1 it [it, a] i (fun _ _ => True) (fun j h => h.IsTupleIter it a j ∧ h.IsTuple a its.toArray ∧ j = i) :=
      { live := fun _ _ st => let ⟨o, ho, _⟩ := st.1; ⟨o, ho⟩
        frame := fun _ _ _ st hk => ⟨st.1.at fun o e => hk it (by simp) o e, st.2.1.at fun o e => hk a (by simp) o e, st.2.2⟩
        item := fun j s Q E hj stj hQ => absurd hj (by rw [stj.2.2]; exact Nat.lt_irrefl i)
        done := fun s Q E stj hE => wpAny_nextOf_tuple_end (I.ok.hd hc) stj.1 stj.2.1 (by simp; omega) hE }
    exact wpAny_pyNext_enum_endD D he ⟨hit, p', rfl⟩ fun h' eb => ⟨rfl, I.turned (t' := s.toks) (fun b o hb q => eb b o hb q) f0 f1 f3 f4 f5⟩
  self := fun A i s Q E st h => by
    obtain ⟨⟨_, he⟩, _⟩ := st
    exact wpAny_pyIter_enum he h
def iEnumT (K : PySem.W.Frag) (ta : TA) : TI := fun σ H R => ta σ H fun vs H1 => ∃ a xs, vs = [.ref a] ∧ SqT K H1 a xs ∧ R (IteT K a) H1
theorem pi_enumT {X : Cx} {e : Expr} {ta : TA} {p pos tpos : Pos} {elts : List Expr} {kk : Nat} (hg : Gl X "enumerate") (hm : X.mg "enumerate" = none) (ha : PA X [e] ta) (hs : starEach [e] X.env = [(false, eval e X.env)] := by rfl) :
    PI X (.Tuple elts kk tpos) (.Call (.Name "enumerate" p) [e] [] pos) (iEnumT X.K ta) := by
  refine ⟨fun pins s σ H R I h => ?_⟩
  refine Call_ (ld_blt I hg hm boot_enumerate (PyProof.Rows.callWith_type1 (thn (ha.run pos pins s σ H _ I h) fun us s1 ⟨vs, H1, I1, r1, a, xs, ex, hq, q⟩ => ?_) hs rfl))
  subst ex
  cases r1 with
  | cons r rr =>
    cases rr
    cases r
    obtain ⟨its, rv, p', hz⟩ := I1.tuple hq
    refine enumT_call (show s1.heap.IsTuple a its.toArray from p') fun h' he hit hk => wpAny_pyIter_enum he ?_
    have I2 : Inv X pins σ H1 { s1 with heap := h' } := I1.kept (t' := s1.toks) hk
    refine ⟨s1.heap.objs.size + 1, [s1.heap.objs.size + 1, s1.heap.objs.size], _, _, H1, rfl, I2, enumT_turn a (s1.heap.objs.size + 1) s1.heap.objs.size, ⟨⟨.none, he⟩, hit, Nat.succ_ne_self _⟩, fun b hb => ?_, q⟩
    have hle : s1.heap.objs.size ≤ b := by
      rcases List.mem_cons.mp hb with rfl | hb
      · exact Nat.le_succ _
      · rcases List.mem_cons.mp hb with rfl | hb
        · exact Nat.le_refl _
        · cases hb
    exact I1.fpOk hle (I1.hok.fresh hle)
end Sc
namespace Sc
open PySem PySem.Spec PySem.Calls PyProof.Rows L2 NdefX
/-! ### super().__init__(..) in an own error's __init__ -/
/-- what the written part tells for super() in the __init__ of the class at C: cc its cell, cda the code object of __init__ -/
structure SupC (prog : Program) (K : PySem.W.Frag) (mg : Str → Option Value) (C cc cda : Addr) : Prop where
  cell : ∃ cl cld csl, K.lookup cc = some ⟨cl, cld, .cell (some (.ref C)), csl⟩
  code : ∃ ccl cdd vs ccs file tf, K.lookup cda = some ⟨ccl, cdd, .fields vs, ccs⟩ ∧ vs[2]? = some (.str file tf) ∧ ((prog.main.file : Str) == file) = true
  sub : PySem.W.mroIn K C (.ref C) = some true
  noS : mg "super" = none
  opq : PySem.W.nsIn K cStatics "thirdparty.any" = some none
  up : PySem.W.ks_superIn K C C "__init__" = some (some (.builtin "ValueError.__init__"))
  isB : PySem.W.subIn K (.ref C) (.type "ValueError") = some true
  top : (prog.main.scope.names.lookup ("super" : Str)).isSome = false
section
variable {X : Cx} {pins : List (Addr × Obj)} {σ : L2.St} {H : Hp} {s : Shared} {a C cc cda f : Addr}
theorem sup_bound {u : Addr} {us : List Value} {A : Around} {E : Value → Shared → Prop} {Q : Value → Shared → Prop} (T : OexC X.K C) (I : Inv X pins σ H s) (e : H a = some (exo a C none)) (hu : s.heap.get? u = some (PySem.W.kxs_mw "ValueError.__init__" a)) (hl : us.length ≤ sizeLine)
    (h : ∀ s', Inv X pins σ H s' → Q .none s') : wpAny (model X.prog X.w) A (call (.ref u) us) Q E s := by
  obtain ⟨nm, q, N, bs, bm, sn, sub, ab, col, dd, k0, k1, k2, k3, k5, hC, hbm⟩ := T.cls
  obtain ⟨t1, ho⟩ := exo_at I.hok e
  have hC' := I.kIn _ _ hC
  obtain ⟨hp, g, d, tk, os⟩ := s
  refine wpAny_call (codeAny_of_tree ?_)
  show wpAny _ A.in1 (callAny (.ref u) ⟨us, []⟩) _ _ _
  simp only [callAny]
  refine wpAny_bind (wpAny_load hu ?_)
  have b1 : (Value.type "method-wrapper" == Value.type "method" || Value.type "method-wrapper" == Value.type "builtin_function_or_method" || Value.type "method-wrapper" == Value.type "method-wrapper") = true := by decide
  simp only [PySem.W.kxs_mw, b1, if_true]
  refine PySem.W.KFB.if_so (by decide) (wpAny_bind (PySem.W.check_bound_init PySem.F.excBase_ValueError.toExcCallFacts hC' ho rfl (wpAny_bind (wpAny_pure (wpAny_pure ?_)))))
  refine ⟨plainId_quiet PySem.F.excBase_ValueError.init.plain _, codeAny_builtin PySem.F.excBase_ValueError.initEntry ?_⟩
  refine PySem.W.exc_init_tree (cls := .ref C) (t0 := t1) (dv := none) (c2 := .none) (c3 := .none) (b4 := .bool false) ho hl fun h' k hx _ => ?_
  have J := I.write (t' := tk) (x := a) (e := a) (o := exo a C none) (by rw [e]; exact True.intro) (.inl rfl) k ⟨_, hx⟩ (exo_ok hx)
  have eu : upd H a (exo a C none) = H := funext fun b => by
    by_cases hb : b = a
    · rw [hb, upd_same, e]
    · rw [upd_ne hb]
  rw [eu] at J
  exact h _ J
theorem at_super {pl : Sem Bool} {body : List Stmt} {e : Expr} {es : List Expr} {ta : TA} {D : Ends} {p0 p1 p2 p3 p4 : Pos} {fd : FuncData} {ar : Arg} {oc : Value} {od : Option Addr} {osl : Array (Option Value)}
    (T : OexC X.K C) (S : SupC X.prog X.K X.mg C cc cda) (hks : X.env.kindOf "super" = some .globalImplicit) (hkc : X.env.kindOf "__class__" = some .free) (hcl : X.env.cells.lookup ("__class__" : Str) = some cc)
    (hfu : X.env.func = some f) (hco : X.env.code = .ref cda) (lk : X.K.lookup f = some ⟨oc, od, .func fd, osl⟩) (hp : (fd.params.posonlyargs ++ fd.params.args).head? = some ar) (hN0 : X.N[0]? = some ar.arg) (hka : X.env.kindOf ar.arg = some .local)
    (hA : PA X (e :: es) ta) (I : Inv X pins σ H s) (hσ : σ[0]? = some (some (.ref a))) (ha : H a = some (exo a C none)) (q : ta σ H fun vs H1 => vs.length ≤ 1000 ∧ H1 a = some (exo a C none) ∧ D.nx σ H1)
    (he : starEach (e :: es) X.env = (false, eval e X.env) :: starEach es X.env := by rfl) (hpl : (backTo p3 (starEach es X.env)).any (·.1) = false := by rfl) (hi : interactive X.env = false := by rfl)
    (hev : eval (.Call (.Attribute (.Call (.Name "super" p0) [] [] p1) "__init__" p2) (e :: es) [] p3) X.env = (do
      let ov ← attributeBase (.Call (.Name "super" p0) [] [] p1) "__init__" X.env (eval (.Call (.Name "super" p0) [] [] p1) X.env)
      standAt p2.atName
      let (g, first) ← holding [ov] (getMethod ov "__init__" pl)
      callWith p3 g first (backTo p3 (starEach (e :: es) X.env)) []) := by rfl) (hsw : swapsWith (.Call (.Attribute (.Call (.Name "super" p0) [] [] p1) "__init__" p2) (e :: es) [] p3) none p4.line X.env = pure false := by rfl) :
    PySem.wpAt (model X.prog X.w) X.A (.func body X.env) (exec (.Expr (.Call (.Attribute (.Call (.Name "super" p0) [] [] p1) "__init__" p2) (e :: es) [] p3) p4) X.env) (SP X pins D) X.xe s := by
  obtain ⟨cl, cld, csl, hcell⟩ := S.cell
  obtain ⟨ccl, cdd, vs, ccs, file, tf, hcode, hvs, hfile⟩ := S.code
  have KX := I.kIn
  refine ks_wpAt_Expr_any (ks_wpAt_MethodCall (pl := pl) ?_ hev) hi hsw
  refine ks_wpAt_super_base hks hkc (by decide) hfu (KX _ _ lk) rfl hp hco (KX _ _ hcode) rfl hvs hfile S.top ?_
  obtain ⟨mb, b1, b2⟩ := I.mod.blt
  refine PySem.W.ks_loadName_global I.ok.kind hks (Calls.loadGlobal_builtin (v := .type "super") (by rw [I.ok.glob]; exact I.mod.glob.keeps I.bk) S.noS (by rw [I.ok.blt]; exact b1.keeps I.bk) ((b2 _ (by decide +kernel)).trans (by decide +kernel)) ⟨rfl, ?_⟩)
  refine wpAny_loadName_free I.ok.kind hkc hcl ⟨_, KX _ _ hcell, rfl⟩ ?_
  obtain ⟨m, hn, hloc⟩ := I.loc
  obtain ⟨u, ru, hlook⟩ := hloc 0 ar.arg (.ref a) hN0 hσ (.inl hka)
  obtain rfl : u = Value.ref a := ru
  have hm : m ar.arg = some (.ref a) := by
    rcases hlook with ⟨_, z⟩ | ⟨z, _⟩
    · exact z
    · rcases z with z | z <;> rw [show X.env.kindOf ar.arg = _ from hka] at z <;> cases z
  refine wpAny_loadName_local I.ok.kind hka hn hm ?_
  obtain ⟨nm, qn, N, bs, bm, sn, sub, ab, col, dd, k0, k1, k2, k3, k5, hC, hbm⟩ := T.cls
  have hcls : PySem.W.clsIn X.K C = some { name := nm, bases := bs, mro := .ref C :: bm, ns := N, qualname := qn, hasDict := true, slotNames := sn, subclasses := sub, abstract := ab, collection := col, hasDel := false } := by unfold PySem.W.clsIn; rw [hC] <;> rfl
  obtain ⟨t1, ho⟩ := exo_at I.hok ha
  have hC' := KX _ _ hC
  have ex := S.up
  unfold PySem.W.ks_superIn at ex
  rw [hcls] at ex
  obtain ⟨hp', g, d, tk, os⟩ := s
  refine ks_wpAny_isType_cls hC' rfl ⟨rfl, ?_⟩
  refine ks_wpAny_call_super hC' rfl ho rfl (fun c z => nomatch z) (PySem.W.looks_mroIn KX S.sub) (fun h' e1 k => ?_)
  have I1 : Inv X pins σ H ⟨h', g, d, tk, os⟩ := I.kept (t' := tk) k
  have IA : PySem.W.InstAt h' a { cls := .ref C, dict := none, data := .fields #[.ref t1, .none, .none, .none, .bool false, .none] } C none := ⟨k _ _ ho, rfl, rfl, trivial⟩
  have hIs : PySem.W.Looks (model X.prog X.w) h' (isInstance (.ref a) (.type "ValueError")) true := IA.type.andThen (PySem.W.looks_subIn I1.kIn S.isB)
  refine PySem.W.kxs_getMethod PySem.W.kxs_ValueError e1 (PySem.W.looks_opaque I1.kIn S.opq) (l₀ := .ref C :: bm) (fun A Q E s k q => wpAny_bind ((PySem.W.looks_clsIn I1.kIn hcls) A _ E s k (wpAny_pure q))) rfl I1.kIn ex hIs (PySem.W.ks_ne I1.kIn IA hcls) (by decide) ?_
  have I2 : Inv X pins σ H ⟨h'.push (PySem.W.kxs_mw "ValueError.__init__" a), g, d, tk + 1, os⟩ := I1.kept (t' := tk + 1) fun b o z => Heap.get?_push_of_some _ z
  have hu : (h'.push (PySem.W.kxs_mw "ValueError.__init__" a)).get? h'.objs.size = some (PySem.W.kxs_mw "ValueError.__init__" a) := Heap.get?_push_at rfl rfl
  have hun : H h'.objs.size = none := I1.hok.fresh (Nat.le_refl _)
  have hunf : h'.objs.size ∉ X.fs ∧ h'.objs.size ≠ X.env.locals := ⟨I1.nofs (Nat.le_refl _), fun z => Nat.lt_irrefl _ (by have := I1.lt; rw [← z] at this; exact this)⟩
  have I3 : Inv X ((h'.objs.size, PySem.W.kxs_mw "ValueError.__init__" a) :: pins) σ H ⟨h'.push (PySem.W.kxs_mw "ValueError.__init__" a), g, d, tk + 1, os⟩ := I2.pins_of fun p hp => by
    rcases List.mem_cons.mp hp with rfl | hp
    · exact ⟨hu, hun, hunf.2, hunf.1, fun v z => nomatch z⟩
    · exact I2.pin p (List.mem_append_right _ hp)
  rw [he]
  refine PySem.W.kxs_callWith (i := "ValueError.__init__") (x := a) (first := []) (by show (false || (backTo p3 (starEach es X.env)).any (·.1)) = false; rw [hpl]; rfl) (evalArgs_plain ?_)
  show wpAny _ _ (spliced (backTo p3 ((false, eval e X.env) :: starEach es X.env))) _ _ _
  rw [← he]
  refine thn (hA.run p3 _ _ σ H _ I3 q) fun us s1 ⟨vs, H1, I4, r1, hl, e4, q4⟩ => ?_
  have I5 : Inv X pins σ H1 s1 := I4.pins_of fun p hp => I4.pin p (List.mem_append_right _ (.tail _ hp))
  have hu4 := (I4.pin _ (List.mem_append_right _ List.mem_cons_self)).1
  refine ⟨hu4, ?_⟩
  refine sup_bound T I5 e4 hu4 (by show us.length ≤ sizeLine; rw [← Paired.length r1, sizeLine_eq]; omega) fun s' J => ?_
  exact ⟨σ, H1, J, q4⟩
end
/-! ### the __init__ as a def -/
/-- the reading of a body that begins with super().__init__(e ..) -/
def tInit (C : Addr) (ta : TA) (tr : TS) : TS := fun D σ H => ∃ a : Addr, σ[0]? = some (some (.ref a)) ∧ H a = some (exo a C none) ∧ ta σ H fun vs H1 => vs.length ≤ 1000 ∧ H1 a = some (exo a C none) ∧ tr D σ H1
section
variable {P : Program} {w : World} {K : PySem.W.Frag} {mg : Str → Option Value} {base : Heap} {N ps : List Str} {F : NF} {f C cc : Addr} {k : Nat} {sp : Sp} {kV doc pm ct oc : Value} {an od : Option Addr} {osl : Array (Option Value)}
/-- the def's data as it stands -/
abbrev supFd (F : NF) (kV doc pm : Value) (an : Option Addr) (ct : Value) : FuncData := PySem.W.fnX F.name F.qual F.params F.body F.scope F.cl .none kV doc pm an (.ref F.c) ct
theorem fn_sup {e : Expr} {es : List Expr} {rest : List Stmt} {ar : Arg} {p0 p1 p2 p3 p4 : Pos} (lk : K.lookup f = some ⟨oc, od, .func (supFd F kV doc pm an ct), osl⟩) (hcd : PySem.W.codeIn K (.ref F.c) F.qual = true) (hcl : F.cl = [(("__class__" : Str), cc)])
    (SC : NScope N ps ["__class__"] F.scope) (T : OexC K C) (S : SupC P K mg C cc F.c) (len : ∀ vs H Q E, sp vs H Q E → vs.length = ps.length)
    (hbd : F.body = .Expr (.Call (.Attribute (.Call (.Name "super" p0) [] [] p1) "__init__" p2) (e :: es) [] p3) p4 :: rest)
    (hp : (F.params.posonlyargs ++ F.params.args).head? = some ar) (hN0 : N[0]? = some ar.arg) (hka : F.scope.names.lookup ar.arg = some .local) (hks : F.scope.names.lookup ("super" : Str) = some .globalImplicit)
    (hbody : ∀ (A : Around) (outer : List Env) (s : Shared) (H : Hp) (vs : List V) (Q : VK) (E : XK), Room k (A.deeper (envF F f s.heap.objs.size)) → sp vs H Q E →
      ∃ ta tr, PA (ncx CX0 P w K mg base N F f A outer s H E) (e :: es) ta ∧ PSs (ncx CX0 P w K mg base N F f A outer s H E) rest tr ∧ tInit C ta tr { nx := fun _ H' => Q .non H', rt := Q } (startF N vs [none]) H)
    (hev : ∀ L, ∃ pl, eval (.Call (.Attribute (.Call (.Name "super" p0) [] [] p1) "__init__" p2) (e :: es) [] p3) (envF F f L) = (do
      let ov ← attributeBase (.Call (.Name "super" p0) [] [] p1) "__init__" (envF F f L) (eval (.Call (.Name "super" p0) [] [] p1) (envF F f L))
      standAt p2.atName
      let (g, first) ← holding [ov] (getMethod ov "__init__" pl)
      callWith p3 g first (backTo p3 (starEach (e :: es) (envF F f L))) []))
    (hsw : ∀ L, swapsWith (.Call (.Attribute (.Call (.Name "super" p0) [] [] p1) "__init__" p2) (e :: es) [] p3) none p4.line (envF F f L) = pure false) (he : ∀ L, starEach (e :: es) (envF F f L) = (false, eval e (envF F f L)) :: starEach es (envF F f L))
    (hpl : ∀ L, (backTo p3 (starEach es (envF F f L))).any (·.1) = false) (hi : ∀ L, interactive (envF F f L) = false) :
    FnOk P w K mg base CX0 (k + 1) f (supFd F kV doc pm an ct) ps sp := by
  refine ⟨len, fun A outer s H args us vs Q E hr e0 hb r hsp => ?_⟩
  have hl := len _ _ _ _ hsp
  have KX : K.In s.heap := e0.mod.kin.keeps fun b o e => (e0.bs b o e).1
  have lim : s.heap.NoLimit := e0.mod.nolimit.keeps fun b o e => (e0.bs b o e).1
  obtain ⟨cl, cld, csl, hcell⟩ := S.cell
  have hcH : H cc = none := by
    have z := e0.mod.kin _ _ hcell
    exact (e0.bs _ _ z).2
  have CA : CellsAt F.cl ["__class__"] [none] s.heap H := by
    rw [hcl]
    refine ⟨rfl, fun y c h => ?_, fun x y c h1 h2 => ?_, fun i y h => ?_⟩
    · have q : y = ("__class__" : Str) ∧ c = cc := by
        simp only [List.lookup] at h
        split at h
        · rename_i z; exact ⟨by simpa using z, (Option.some.inj h).symm⟩
        · cases h
      rw [q.2]
      exact ⟨hcH, some (.ref C), ⟨_, KX _ _ hcell, rfl⟩⟩
    · have q : ∀ z, List.lookup z [(("__class__" : Str), cc)] = some c → z = ("__class__" : Str) := fun z h => by
        simp only [List.lookup] at h
        split at h
        · rename_i z; simpa using z
        · cases h
      rw [q x h1, q y h2]
    · cases i with
      | zero =>
        have q : y = ("__class__" : Str) := (Option.some.inj h).symm
        subst q
        exact ⟨cc, by simp [List.lookup], fun v z => by cases z⟩
      | succ i => simp at h
  refine ks_codeAny_call_defAt (fd := supFd F kV doc pm an ct) (body := F.body) (binds := ps.zip us) hr.depth (KX _ _ lk) rfl lim (PySem.W.codeRec_of KX hcd) rfl hb SC.nocell (fun ⟨n, _⟩ hy => SC.par n (List.of_mem_zip hy).1) (fun h₁ hns kp => ?_) SC.co SC.gen SC.kind
  obtain ⟨ta, tr, hta, htr, a, hσ, ha, q⟩ := hbody A outer s H vs Q E (hr.deeper _) hsp
  have I : Inv (ncx CX0 P w K mg base N F f A outer s H E) [] (startF N vs [none]) H { s with heap := h₁, toks := s.toks + (ps.zip us).length } := inv_startN SC hr.hd e0 hl r CA hns kp
  obtain ⟨pl, hev⟩ := hev s.heap.objs.size
  have fin : ∀ {s' : Shared} {σ' : L2.St} {H' : Hp} {v : V} {u : Value}, Inv (ncx CX0 P w K mg base N F f A outer s H E) [] σ' H' s' → L2.RelV v u → Q v H' → CE outer P w H s Q u s' :=
    fun {s' σ' H' v u} J rv q => ⟨v, H', J.os, J.bare, J.base, J.hok, rv, q⟩
  rw [hbd]
  refine ks_wpAt_execs_cons (ks_wpAt_mono (at_super (X := ncx CX0 P w K mg base N F f A outer s H E) (D := { nx := fun σ' H' => tr { nx := fun _ H' => Q .non H', rt := Q } σ' H', rt := fun _ _ => False }) (pl := pl) (f := f) (ar := ar) (fd := supFd F kV doc pm an ct) T S hks (SC.frk _ List.mem_cons_self) (by show F.cl.lookup _ = _; rw [hcl]; simp [List.lookup]) rfl rfl lk hp hN0 hka hta I hσ ha q (he _) (hpl _) (hi _) hev (hsw _)) (fun fl s' hs => ?_) fun _ _ z => z)
  cases fl with
  | ret u =>
    obtain ⟨_, _, _, _, _, z⟩ := hs
    exact z.elim
  | brk =>
    obtain ⟨_, _, _, z⟩ := hs
    exact z.elim
  | cont =>
    obtain ⟨_, _, _, z⟩ := hs
    exact z.elim
  | next =>
    obtain ⟨σ', H', J, z⟩ := hs
    refine PySem.wpAt_of_wpAny (wpAny_mono (htr.run [] s' σ' H' _ J z) (fun fl2 s2 h2 => ?_) fun _ _ y => y)
    cases fl2 with
    | ret u =>
      obtain ⟨v, σ2, H2, J2, rv, q2⟩ := h2
      exact fin J2 rv q2
    | next =>
      obtain ⟨σ2, H2, J2, q2⟩ := h2
      exact fin (v := V.non) (u := Value.none) J2 rfl q2
    | brk =>
      obtain ⟨_, _, _, q2⟩ := h2
      exact q2.elim
    | cont =>
      obtain ⟨_, _, _, q2⟩ := h2
      exact q2.elim
end
end Sc
namespace Sc
open PySem PySem.Spec PyProof.Rows L2
/-- the built-ins are not hidden -/
structure Blt (mg : Str → Option Value) : Prop where
  b_isinstance : mg "isinstance" = none
  b_len : mg "len" = none
  b_all : mg "all" = none
  b_any : mg "any" = none
  b_sum : mg "sum" = none
  b_max : mg "max" = none
  b_min : mg "min" = none
  b_int : mg "int" = none
  b_str : mg "str" = none
  b_bool : mg "bool" = none
  b_list : mg "list" = none
  b_tuple : mg "tuple" = none
  b_dict : mg "dict" = none
  b_range : mg "range" = none
  b_enumerate : mg "enumerate" = none
  b_sorted : mg "sorted" = none
  b_reversed : mg "reversed" = none
  b_zip : mg "zip" = none
  b_set : mg "set" = none
  b_ValueError : mg "ValueError" = none
/-- a def as its callers see it -/
structure Cal (P : Program) (w : World) (K : PySem.W.Frag) (mg : Str → Option Value) (base : Heap) (CX : CXT) (k : Nat) (x : Str) (ps : List Str) (sp : Sp) : Prop where
  ex : ∃ (f : Addr) (fd : FuncData), FnOk P w K mg base CX k f fd ps sp ∧ mg x = some (.ref f) ∧ PySem.W.keepIn K (.ref f) = true ∧ Binds K fd ps []
section
variable {X : Cx} {k : Nat} {x : Str} {ps : List Str} {sp : Sp} {e : Expr} {es : List Expr} {t : TA} {p pos : Pos}
theorem pe_cal (C : Cal X.prog X.w X.K X.mg X.base CX0 k x ps sp) (hr : Room k X.A) (ha : PA X (e :: es) t) (hg : Gl X x := by rfl) (hdb : (x == ("__debug__" : Str)) = false := by decide)
    (he : starEach (e :: es) X.env = (false, eval e X.env) :: starEach es X.env := by rfl) (hpl : (backTo pos (starEach es X.env)).any (·.1) = false := by rfl) : PE X (.Call (.Name x p) (e :: es) [] pos) (tCall sp [] E0 t) := by
  obtain ⟨f, fd, F, hm, hk, hb⟩ := C.ex
  exact pe_call F hr hg hm hk hb .nil pass0 ha hdb he hpl
/-- a def that may raise, where it does not -/
theorem pe_calN (C : Cal X.prog X.w X.K X.mg X.base (L2.CX X.prog X.w) k x ps sp) (hr : Room k X.A) (ha : PA X (e :: es) t) (hg : Gl X x := by rfl) (hdb : (x == ("__debug__" : Str)) = false := by decide)
    (he : starEach (e :: es) X.env = (false, eval e X.env) :: starEach es X.env := by rfl) (hpl : (backTo pos (starEach es X.env)).any (·.1) = false := by rfl) : PE X (.Call (.Name x p) (e :: es) [] pos) (tCall sp [] E0 t) := by
  obtain ⟨f, fd, F, hm, hk, hb⟩ := C.ex
  exact pe_call F hr hg hm hk hb .nil passL ha hdb he hpl
/-- a def that may raise -/
theorem pe_calX {W : WX} (C : Cal X.prog X.w X.K X.mg X.base (L2.CX X.prog X.w) k x ps sp) (hr : Room k X.A) (tk : Takes X W) (ha : PA X (e :: es) t) (hg : Gl X x := by rfl) (hdb : (x == ("__debug__" : Str)) = false := by decide)
    (he : starEach (e :: es) X.env = (false, eval e X.env) :: starEach es X.env := by rfl) (hpl : (backTo pos (starEach es X.env)).any (·.1) = false := by rfl) : PE X (.Call (.Name x p) (e :: es) [] pos) (tCallS sp (WE W) t) := by
  obtain ⟨f, fd, F, hm, hk, hb⟩ := C.ex
  exact pe_callS F hr hg hm hk hb (fun σ => passAt tk σ) ha hdb he hpl
end
/-! ### a reading that does not lean on the state within which it is asked -/
theorem pe_.re {X : Cx} {e : Expr} {t t' : TE} (h : PE X e t) (q : t = t') : PE X e t' := q ▸ h
theorem pts_.re {X : Cx} {es : List Expr} {t t' : TT} (h : PTs X es t) (q : t = t') : PTs X es t' := q ▸ h
theorem pss_.re {X : Cx} {sts : List Stmt} {t t' : TS} (h : PSs X sts t) (q : t = t') : PSs X sts t' := q ▸ h
/-- a value's truth -/
def tTru (K : PySem.W.Frag) (ta : TE) : TT := fun σ H Q => ta σ H fun x H' => ∃ k, TruV K x H' k ∧ Q k H'
theorem pt_tru {X : Cx} {a : Expr} {ta : TE} (ha : PE X a ta) (he : ∀ whole, isTrue a X.env whole = (do let v ← whole; standAt a.pos; holding [v] (truthy v))) : PT X a (tTru X.K ta) := pt_truth ha he
/-! ### lists -/
theorem take_more {α : Type} {l : List α} {i : Nat} {x : α} (h : l[i]? = some x) : l.take (i + 1) = l.take i ++ [x] := by
  rw [List.take_add_one, h]
  rfl
/-! ### heaps -/
theorem _root_.L2.Same.put {H H' : Hp} {p : Addr} {o : HO} (s : Same H H') (n : H p = none) : Same H (upd H' p o) := fun b x e => by
  rw [upd_ne (ne_of_none e n)]
  exact s b x e
theorem _root_.L2.Same.put' {H H' : Hp} {p : Addr} {o : HO} (s : Same H H') (n : H' p = none) : Same H (upd H' p o) := s.put (s.free n)
theorem _root_.L2.Same.tup {K : PySem.W.Frag} {H H' : Hp} {a : Addr} {xs : List V} (e : Same H H') (h : SqT K H a xs) : SqT K H' a xs := by
  rcases h with (h | ⟨o, h⟩) | h
  · exact .inl (.inl (e _ _ h))
  · exact .inl (.inr ⟨o, e _ _ h⟩)
  · exact .inr h
theorem sqT_new {K : PySem.W.Frag} {H : Hp} {p : Addr} {xs : List V} : SqT K (upd H p (.tup xs)) p xs := .inl (.inl upd_same)
theorem sqL_new {K : PySem.W.Frag} {H : Hp} {p : Addr} {xs : List V} : SqL K (upd H p (.lst xs)) p xs := .inl (.inl upd_same)
theorem sqT_of {K : PySem.W.Frag} {H : Hp} {p : Addr} {xs : List V} (h : H p = some (.tup xs)) : SqT K H p xs := .inl (.inl h)
theorem sqL_of {K : PySem.W.Frag} {H : Hp} {p : Addr} {xs : List V} (h : H p = some (.lst xs)) : SqL K H p xs := .inl (.inl h)
/-- a comprehension's list grows -/
theorem grow {H1 H4 : Hp} {D : Addr} {acc : Nat → List V} {i : Nat} {y : V} (nD : H1 D = none) (s : Same H1 H4) (e : H4 D = some (.lst (acc i))) (l : (acc i).length < sizeLine) (n : acc (i + 1) = acc i ++ [y]) :
    ∃ a, H4 D = some (.lst a) ∧ a.length < sizeLine ∧ (Same H1 (upd H4 D (.lst (a ++ [y]))) ∧ (upd H4 D (.lst (a ++ [y]))) D = some (.lst (acc (i + 1)))) :=
  ⟨acc i, e, l, s.put nD, by rw [upd_same, n]⟩
theorem bcase {b : Bool} {A B : Prop} (h1 : b = true → A) (h2 : b = false → B) : if b = true then A else B := by
  cases b with
  | true => exact iteT (h1 rfl)
  | false => exact iteF (h2 rfl)
/-- isinstance(x, T), T a built-in class -/
def rIsT (K : PySem.W.Frag) (T : String) : List V → Hp → VK → Prop := fun xs H Q => ∃ (x : V) (t : String) (b : Bool), xs = [x, .ty T] ∧ TyOf K H x (.type t) ∧ kitB t T = some b ∧ Q (.bl b) H
theorem call_isT {X : Cx} (T : String) : CallR X (.builtin "isinstance") (rIsT X.K T) := by
  intro pins s σ H xs us Q I r h
  obtain ⟨x, t, b, ex, ht, hb, q⟩ := h
  exact call_isi pins s σ H xs us Q I r ⟨_, _, _, _, _, ex, .ty _, .base ht, kit_ty hb, q⟩
/-- a comprehension without a test -/
theorem yes_ {σ : L2.St} {H : Hp} {A : Hp → Prop} {B : Hp → Prop} (h : A H) : tYes σ H fun b H3 => if b = true then A H3 else B H3 := by
  show (if true = true then A H else B H)
  rw [if_pos rfl]
  exact h
/-- as many slots as names -/
theorem takes_len {X : Cx} {W : WX} (tk : Takes X W) : Takes X (fun cls d σ H => σ.length = X.N.length → W cls d σ H) := fun u s' ⟨a, B, sI, pins, σ, H, cls, d, e, I, nb, up, sky, na, os, ag, w⟩ =>
  tk u s' ⟨a, B, sI, pins, σ, H, cls, d, e, I, nb, up, sky, na, os, ag, w I.len⟩
/-! ### walks -/
theorem walk_enumT {K : PySem.W.Frag} {a : Addr} {xs : List V} : Walk (IteT K a) xs.length (fun H => SqT K H a xs) (YPair (fun i => some (.int (i : Nat))) (fun i => xs[i]?)) := by
  refine ⟨fun i _ hi q => ⟨xs, xs[i], q, by simp [hi]⟩, fun _ q => ⟨xs, q, Nat.le_refl _⟩, fun i H v H' _ q y => ?_⟩
  obtain ⟨T, x, h1, h2, h3, h4⟩ := y
  exact ⟨T, .int (i : Nat), x, h1, h2, h3, rfl, h4 xs q⟩
/-! ### list.count of truth values -/
section
variable {X : Cx}
theorem countP_eqU {x : V} : ∀ {xs : List V} {us : List Value}, Vals xs us → xs.all flatV = true → us.countP (eqU x) = xs.countP fun y => eqV y x
  | _, _, .nil, _ => rfl
  | y :: xs, u :: us, .cons r t, f => by
    rw [List.all_cons, Bool.and_eq_true] at f
    rw [List.countP_cons, List.countP_cons, eqU_of r f.1, countP_eqU t f.2]
def rCount (K : PySem.W.Frag) : V → List V → Hp → VK → Prop := fun x xs H Q => ∃ (p : Addr) (ys : List V) (y : V), x = .ref p ∧ xs = [y] ∧ SqL K H p ys ∧ flatV y = true ∧ ys.all flatV = true ∧ Q (.int (ys.countP (fun z => eqV z y) : Nat)) H
theorem mt_lcountB : MtR X "list.count" (rCount X.K) := by
  intro pins s σ H x xs v us Q I rx rxs h
  obtain ⟨p, ys, y, rfl, rfl, hs, fy, fys, q⟩ := h
  cases rx
  cases rxs with
  | cons ry rt =>
    rename_i uy ut
    cases rt
    obtain ⟨its, rv, ⟨⟨cls, dd, data, sl⟩, n, ho, hc, hdn, hd⟩, hlen⟩ := I.list hs
    simp only at hc hd
    subst hc hd
    refine call_meets PySem.F.slot_list_count ⟨_, ho, rfl⟩ PySem.F.entry_list_count (PySem.F.args_list_count_2 _ _)
      (SeqAt.list_countAt p its.toArray n dd sl uy (eqU y)) ⟨ho, fun u' hu' => mem_eqAt ry fy rv fys u' (by simpa using hu'), ?_⟩
    have ec : its.toArray.toList.countP (eqU y) = ys.countP fun z => eqV z y := countP_eqU rv fys
    refine ⟨.int (ys.countP (fun z => eqV z y) : Nat), H, I.tok _, ⟨s.toks, ?_⟩, q⟩
    show Value.int ((its.toArray.toList.countP (eqU y) : Nat) : Int) s.toks = Value.int ((ys.countP (fun z => eqV z y) : Nat) : Int) s.toks
    rw [ec]
end
/-! ### the caught error, whatever it bears -/
/-- an own class of errors, as isinstance and the reading of a field ask for it -/
structure ErrC (K : PySem.W.Frag) (D : Addr) : Prop where
  cl : (PySem.W.clsIn K D).isSome = true
  ga : PySem.W.findIn K (.ref D) "__getattribute__" = some (some (.builtin "BaseException.__getattribute__"))
  gt : PySem.W.findIn K (.ref D) "__getattr__" = some none
  be : PySem.W.subIn K (.ref D) (.type "BaseException") = some true
  kc : PySem.W.findIn K (.ref D) "__class__" = some (some (.builtin "object.__class__"))
  sg : PySem.W.specialIn K (.builtin "object.__class__") "__get__" = some (some (.builtin "getset_descriptor.__get__"))
  tk : PySem.W.takesIn K (.builtin "object.__class__") = some true
  ob : PySem.W.mroIn K D (.type "object") = some true
  hd : PySem.W.hasDictIn K D = true
def errB (K : PySem.W.Frag) (D : Addr) : Bool :=
  (PySem.W.clsIn K D).isSome && (decide (PySem.W.findIn K (.ref D) "__getattribute__" = some (some (.builtin "BaseException.__getattribute__"))) && (decide (PySem.W.findIn K (.ref D) "__getattr__" = some none) &&
  (decide (PySem.W.subIn K (.ref D) (.type "BaseException") = some true) && (decide (PySem.W.findIn K (.ref D) "__class__" = some (some (.builtin "object.__class__"))) &&
  (decide (PySem.W.specialIn K (.builtin "object.__class__") "__get__" = some (some (.builtin "getset_descriptor.__get__"))) && (decide (PySem.W.takesIn K (.builtin "object.__class__") = some true) &&
  (decide (PySem.W.mroIn K D (.type "object") = some true) && PySem.W.hasDictIn K D)))))))
theorem errC_of {K : PySem.W.Frag} {D : Addr} (h : errB K D = true) : ErrC K D := by
  unfold errB at h
  simp only [Bool.and_eq_true, decide_eq_true_eq] at h
  obtain ⟨h1, h2, h3, h4, h5, h6, h7, h8, h9⟩ := h
  exact ⟨h1, h2, h3, h4, h5, h6, h7, h8, h9⟩
section
variable {X : Cx} {a : Addr} {cls : Value} {oe : Obj} {pn : List (Addr × Obj)} {d : Option Addr}
theorem err_inst {D : Addr} {h : Heap} (hz : Zc (.ref D) d oe) (hf : ∃ vs, oe.data = .fields vs) (hget : h.get? a = some oe) (hd : ∀ dd, d = some dd → ∃ od, h.get? dd = some od) : ∃ od, PySem.W.InstAt h a oe D od := by
  obtain ⟨oc, odd, oda, osl⟩ := oe
  obtain ⟨h1, h2⟩ := hz
  obtain ⟨vs, hv⟩ := hf
  dsimp only at h1 h2 hv
  subst h1 h2 hv
  cases odd with
  | none => exact ⟨none, hget, rfl, rfl, trivial⟩
  | some dd =>
    obtain ⟨od, ho⟩ := hd dd rfl
    exact ⟨some od, hget, rfl, rfl, ho⟩
/-- its dict stands, where it has one -/
def XdOk (d : Option Addr) (H : Hp) : Prop := ∀ dd, d = some dd → ∃ fs, H dd = some (.xd fs)
def rIsG (K : PySem.W.Frag) (a : Addr) (cls : Value) (d : Option Addr) : List V → Hp → VK → Prop := fun xs H Q =>
  ∃ (D : Addr) (c : V) (cv : Value) (b : Bool), cls = .ref D ∧ ErrC K D ∧ XdOk d H ∧ xs = [.ref a, c] ∧ (∀ u, RelV c u → u = cv) ∧ PySem.W.kitOne K (.ref D) cv = some b ∧ Q (.bl b) H
theorem call_isG (hz : Zc cls d oe) (hf : ∃ vs, oe.data = .fields vs) : CallR (X.suite a ((a, oe) :: pn)) (.builtin "isinstance") (rIsG X.K a cls d) := by
  intro pins s σ H xs us Q I r h
  obtain ⟨D, c, cv, b, ec, C, hx, rfl, hcv, e, q⟩ := h
  subst ec
  obtain ⟨u1, u2, rfl, r1, r2⟩ := vals2 r
  obtain rfl : u1 = Value.ref a := r1
  have e2 := hcv _ r2
  subst e2
  obtain ⟨hget, _⟩ := I.pin (a, oe) (List.mem_append_left _ List.mem_cons_self)
  obtain ⟨od, J⟩ := err_inst (h := s.heap) hz hf hget fun dd ed => by
    obtain ⟨fs, e⟩ := hx dd ed
    obtain ⟨mA, ⟨o, _, _, ho, _⟩, _⟩ := (show ObjOk X.prog X.w H s.heap dd (.xd fs) from I.hok dd _ e)
    exact ⟨o, ho⟩
  exact PySem.W.kia_one (PySem.W.kitx_exc C.cl C.ga C.gt C.be C.kc C.sg C.tk C.ob) I.kIn J e (fun z => nomatch z) fun tk => ⟨.bl b, H, I.kept (t' := tk) fun _ _ z => z, rfl, q⟩
/-- e.n, e the error that the suite holds -/
def tXg (K : PySem.W.Frag) (a : Addr) (cls : Value) (d : Option Addr) (n : Str) (te : TE) : TE := fun σ H Q => te σ H fun x H1 => x = .ref a ∧ ∃ (D dd : Addr) (fs : List (Str × V)) (v : V), cls = .ref D ∧ ErrC K D ∧ PySem.W.findIn K (.ref D) n = some none ∧ d = some dd ∧ H1 dd = some (.xd fs) ∧ fs.lookup n = some v ∧ Q v H1
theorem pe_xg {e : Expr} {te : TE} {pos : Pos} {n : Str} (hz : Zc cls d oe) (hf : ∃ vs, oe.data = .fields vs) (he : PE (X.suite a ((a, oe) :: pn)) e te) (hb : attributeBase e n X.env (eval e X.env) = eval e X.env := by rfl) :
    PE (X.suite a ((a, oe) :: pn)) (.Attribute e n pos) (tXg X.K a cls d n te) := by
  refine ⟨fun pins s σ H Q I h => attr_of hb (thn (he.run pins s σ H _ I h) fun u s1 hh => ?_)⟩
  obtain ⟨x, H1, I1, rx, ex, D, dd, fs, v, ec, C, hno, ed, ea, l, q⟩ := hh
  subst ex ec ed
  obtain rfl : u = Value.ref a := rx
  obtain ⟨ha, _⟩ := I1.pin (a, oe) (List.mem_append_left _ List.mem_cons_self)
  obtain ⟨vs, hd⟩ := hf
  obtain ⟨mA, hns, hr⟩ := (show ObjOk X.prog X.w H1 s1.heap dd (.xd fs) from I1.hok dd _ ea)
  obtain ⟨od, ho, hl⟩ := lookIn_ns hns
  obtain ⟨u, hu, ru⟩ := RelO.some_of (v := v) (o := mA n) (by rw [← l]; exact hr n)
  have J : PySem.W.InstAt s1.heap a oe D (some od) := ⟨ha, hz.1, by unfold PySem.W.notCls; rw [hd] <;> rfl, by rw [hz.2]; exact ho⟩
  exact HandSPX.exc_get I1.kIn J C.ga C.gt C.be (PySem.W.findObj_own C.hd hno rfl (by rw [hl, hu])) (handed_of ru) ⟨v, H1, I1.tok _, ru, q⟩
end
end Sc
namespace Sc
open PySem PySem.Spec PyProof.Rows L2 NdefX
/-! ### own errors with fields, made and raised -/
/-- what an f-string takes -/
def FOk : V → Prop
  | .int i => i.natAbs.log2 < 1920
  | .str z => z.length ≤ 1000000
  | _ => False
theorem fmt_at {y : V} {R : Str → Prop} (ok : FOk y) (q : ∀ z : Str, z.length ≤ 1000000 → R z) : (∃ z : Str, y = .str z ∧ z.length ≤ sizeLine ∧ R z) ∨ ∃ i : Int, y = .int i ∧ i.natAbs.log2 < 1920 ∧ R (toString i) := by
  cases y with
  | str z => exact .inl ⟨z, rfl, Nat.le_trans ok (by rw [sizeLine_eq]; decide), q z ok⟩
  | int i =>
    refine .inr ⟨i, rfl, ok, q _ ?_⟩
    have e : (PySem.Str.ofString (toString i)).length ≤ 1921 := int_text_len_1921 ok
    exact Nat.le_trans e (by decide)
  | _ => exact ok.elim
theorem fok_nat {i : Nat} (hi : i ≤ 1000) : FOk (.int (i : Nat)) := by
  show (i : Int).natAbs.log2 < 1920
  have e1 : (i : Int).natAbs = i := rfl
  rw [e1]
  by_cases h0 : i = 0
  · subst h0
    decide
  · have := (Nat.log2_lt h0 (k := 10)).mpr (Nat.lt_of_le_of_lt hi (by decide))
    omega
theorem app_len {a b : Str} : (a ++ b).length = a.length + b.length := by
  show (a.cps ++ b.cps).size = a.cps.size + b.cps.size
  exact Array.size_append
/-- a rule of arguments, its reading made monotone -/
theorem pa_mono {X : Cx} {es : List Expr} {ta : TA} (h : PA X es ta) : PA X es (fun σ H Q => ∃ R, ta σ H R ∧ ∀ vs H1, R vs H1 → Q vs H1) := by
  refine ⟨fun pos pins s σ H Q I ⟨R, q, k⟩ => wpAny_mono (h.run pos pins s σ H R I q) (fun us s1 ⟨vs, H1, J, r, z⟩ => ⟨vs, H1, J, r, k vs H1 z⟩) fun _ _ z => z⟩
/-- the promise of an __init__ that keeps its fields fs, in their order -/
def sp_init1 (C : Addr) (f : Str) : Sp := fun vs H Q _ => ∃ (a : Addr) (y : V), vs = [.ref a, y] ∧ H a = some (exo a C none) ∧ FOk y ∧ ∀ dx, H dx = none → dx ≠ a → Q .non (upd (upd H dx (exd dx [(f, y)])) a (exo a C (some dx)))
def sp_init2 (C : Addr) (f g : Str) : Sp := fun vs H Q _ => ∃ (a : Addr) (y z : V), vs = [.ref a, y, z] ∧ H a = some (exo a C none) ∧ FOk y ∧ FOk z ∧
  ∀ dx, H dx = none → dx ≠ a → Q .non (upd (upd (upd H dx (exd dx [(f, y)])) a (exo a C (some dx))) dx (exd dx [(g, z), (f, y)]))
/-- the class x at C, its __init__ keeping sp -/
structure ErrMk (P : Program) (w : World) (K : PySem.W.Frag) (mg : Str → Option Value) (base : Heap) (x : Str) (C : Addr) (ps : List Str) (sp : Sp) : Prop where
  ex : ∃ (fI : Addr) (fd : FuncData), OexC K C ∧ PySem.W.findIn K (.ref C) "__init__" = some (some (.ref fI)) ∧ PySem.W.typeIn K (.ref fI) = some (.type "function") ∧ FnOk P w K mg base CX0 1 fI fd ps sp ∧ Binds K fd ps [] ∧ mg x = some (.ref C)
theorem let_go {H : Hp} {a d : Addr} {o o' u : HO} (n : H a = none) (ne : d ≠ a) : upd (del (upd (upd H d u) a o) a) d o' = upd H d o' := by
  funext b
  by_cases hd : b = d
  · rw [hd, upd_same, upd_same]
  · rw [upd_ne hd, upd_ne hd]
    by_cases ha : b = a
    · rw [ha, del_same, n]
    · rw [del_ne ha, upd_ne ha, upd_ne hd]
section
variable {X : Cx} {x f g : Str} {C : Addr} {ps : List Str} {e e2 : Expr} {te te2 : TE} {p pos : Pos}
/-- x(e): an error whose own dict, new, holds the field -/
def tErr1 (C : Addr) (f : Str) (te : TE) : L2.St → Hp → XK → Prop := fun σ H Q => te σ H fun y H1 => FOk y ∧ ∀ d, H1 d = none → Q (.ref C) (some d) (upd H1 d (.xd [(f, y)]))
theorem pmk_err1 (M : ErrMk X.prog X.w X.K X.mg X.base x C ps (sp_init1 C f)) (hr : Room 2 X.A) (he : PE X e te) (hg : Gl X x := by rfl) (hdb : (x == ("__debug__" : Str)) = false := by decide)
    (hs : starEach [e] X.env = (false, eval e X.env) :: starEach [] X.env := by rfl) : PMk X (.Call (.Name x p) [e] [] pos) (tErr1 C f te) := by
  obtain ⟨fI, fd, T, iC, tI, F, hb, hm⟩ := M.ex
  intro pins s σ H Q I h
  refine pmk_oex (CX := CX0) T iC tI F hr hb .nil (fun _ _ _ _ _ _ _ z => z.elim) hg hm (pa_mono (pa_cons he pa_nil hs)) hdb hs rfl pins s σ H Q I ?_
  refine ⟨fun vs H1 => match vs with
    | [y] => FOk y ∧ ∀ d, H1 d = none → Q (.ref C) (some d) (upd H1 d (.xd [(f, y)]))
    | _ => False, h, fun vs H1 r => ?_⟩
  match vs, r with
  | [y], ⟨ok, q⟩ =>
    refine ⟨by simp, fun a na => ⟨a, y, rfl, upd_same, ok, fun dx nd ne => ⟨rfl, dx, _, upd_same, by rw [upd_ne ne, upd_same], ?_, ?_⟩⟩⟩
    · rw [upd_ne ne] at nd
      exact nd
    · rw [upd_ne ne] at nd
      have e1 : upd (upd (upd H1 a (exo a C none)) dx (exd dx [(f, y)])) a (exo a C (some dx)) = upd (upd H1 dx (exd dx [(f, y)])) a (exo a C (some dx)) := by
        funext b
        by_cases ha : b = a
        · rw [ha, upd_same, upd_same]
        · rw [upd_ne ha, upd_ne ha]
          by_cases hb : b = dx
          · rw [hb, upd_same, upd_same]
          · rw [upd_ne hb, upd_ne hb, upd_ne ha]
      rw [e1, let_go na ne]
      exact q dx nd
/-- x(e, e2): two fields -/
def tErr2 (C : Addr) (f g : Str) (te te2 : TE) : L2.St → Hp → XK → Prop := fun σ H Q => te σ H fun y H0 => te2 σ H0 fun z H1 => (FOk y ∧ FOk z) ∧ ∀ d, H1 d = none → Q (.ref C) (some d) (upd H1 d (.xd [(g, z), (f, y)]))
theorem pmk_err2 (M : ErrMk X.prog X.w X.K X.mg X.base x C ps (sp_init2 C f g)) (hr : Room 2 X.A) (he : PE X e te) (he2 : PE X e2 te2) (hg : Gl X x := by rfl) (hdb : (x == ("__debug__" : Str)) = false := by decide)
    (hs : starEach [e, e2] X.env = (false, eval e X.env) :: starEach [e2] X.env := by rfl) (hs2 : starEach [e2] X.env = (false, eval e2 X.env) :: starEach [] X.env := by rfl) (hpl : (backTo pos (starEach [e2] X.env)).any (·.1) = false := by rfl) :
    PMk X (.Call (.Name x p) [e, e2] [] pos) (tErr2 C f g te te2) := by
  obtain ⟨fI, fd, T, iC, tI, F, hb, hm⟩ := M.ex
  intro pins s σ H Q I h
  refine pmk_oex (CX := CX0) T iC tI F hr hb .nil (fun _ _ _ _ _ _ _ z => z.elim) hg hm (pa_mono (pa_cons he (pa_cons he2 pa_nil hs2) hs)) hdb hs hpl pins s σ H Q I ?_
  refine ⟨fun vs H1 => match vs with
    | [y, z] => (FOk y ∧ FOk z) ∧ ∀ d, H1 d = none → Q (.ref C) (some d) (upd H1 d (.xd [(g, z), (f, y)]))
    | _ => False, h, fun vs H1 r => ?_⟩
  match vs, r with
  | [y, z], ⟨⟨ok, ok2⟩, q⟩ =>
    refine ⟨by simp, fun a na => ⟨a, y, z, rfl, upd_same, ok, ok2, fun dx nd ne => ⟨rfl, dx, _, by rw [upd_ne ne.symm, upd_same], upd_same, ?_, ?_⟩⟩⟩
    · rw [upd_ne ne] at nd
      exact nd
    · rw [upd_ne ne] at nd
      have e1 : upd (del (upd (upd (upd (upd H1 a (exo a C none)) dx (exd dx [(f, y)])) a (exo a C (some dx))) dx (exd dx [(g, z), (f, y)])) a) dx (.xd [(g, z), (f, y)]) = upd H1 dx (.xd [(g, z), (f, y)]) := by
        funext b
        by_cases hb : b = dx
        · rw [hb, upd_same, upd_same]
        · rw [upd_ne hb, upd_ne hb]
          by_cases ha : b = a
          · rw [ha, del_same, na]
          · rw [del_ne ha, upd_ne hb, upd_ne ha, upd_ne hb, upd_ne ha]
      rw [e1]
      exact q dx nd
/-- the class x at C, without an __init__ of its own -/
structure ErrMk0 (K : PySem.W.Frag) (mg : Str → Option Value) (x : Str) (C : Addr) : Prop where
  q : PySem.W.excIn K C [.type "ValueError", .type "Exception", .type "BaseException", .type "object"] "ValueError.__new__" = true
  g : mg x = some (.ref C)
  k : PySem.W.keepIn K (.ref C) = true
  b : PySem.W.subIn K (.ref C) (.type "BaseException") = some true
  t : PySem.W.typeIn K (.ref C) = some (.type "type")
theorem pmk_err0 {m : Str} {j : Nat} {p2 : Pos} (M : ErrMk0 X.K X.mg x C) (hg : Gl X x := by rfl) (hdb : (x == ("__debug__" : Str)) = false := by decide) :
    PMk X (.Call (.Name x p) [.Constant (.str m) j p2] [] pos) (fun _ H Q => Q (.ref C) none H) := pmk_own PySem.F.excBase_ValueError M.q M.g M.k (raises_own M.b M.t) hg hdb
end
end Sc
namespace Sc
open PySem PySem.Spec PyProof.Rows L2 NdefX
section
variable {P : Program} {w : World} {K : PySem.W.Frag} {mg : Str → Option Value} {base : Heap}
theorem sc_init_InvalidFacts : NScope ["self", "index", "__class__"] ["self", "index"] ["__class__"] (defScope (inClass (topS 3) 0)) := nscope_by (by decide +kernel)
theorem ok_init_InvalidFacts {fI C cc c : Addr} {oc kV doc pm ct : Value} {od an : Option Addr} {osl : Array (Option Value)} (lk : K.lookup fI = some ⟨oc, od, .func (supFd (nf_InvalidFacts cc c) kV doc pm an ct), osl⟩)
    (hcd : PySem.W.codeIn K (.ref c) "InvalidFacts.__init__" = true) (T : OexC K C) (S : SupC P K mg C cc c) (n0 : PySem.W.findIn K (.ref C) "index" = some none) : FnOk P w K mg base CX0 1 fI (supFd (nf_InvalidFacts cc c) kV doc pm an ct) ["self", "index"] (sp_init1 C "index") := by
  refine fn_sup (N := ["self", "index", "__class__"]) (ps := ["self", "index"]) lk hcd rfl sc_init_InvalidFacts T S (fun vs H Q E h => ?_) rfl rfl rfl rfl rfl (fun A outer s H vs Q E hr h => ?_) (fun L => ⟨_, rfl⟩) (fun L => rfl) (fun L => rfl) (fun L => rfl) (fun L => rfl)
  · obtain ⟨a, y0, rfl, ha, ok0, q⟩ := h
    rfl
  · obtain ⟨a, y0, rfl, ha, ok0, q⟩ := h
    refine ⟨_, _, pa_cons (pe_joined (PJ.cons pe_str (PJ.cons (pe_fmt (pv 1)) PJ.nil))) pa_nil, pss_one (ps_ost (pv 0) (pv 1)), a, rfl, ha, ?_⟩
    refine ⟨_, rfl, (by rw [sizeLine_eq]; simp only [app_len]; have e0 : Str.empty.length = 0 := rfl; have e1 : (("wrong fact at index " : Str)).length = 20 := (by decide +kernel); omega), ⟨y0, rfl, fmt_at ok0 fun z0 hz0 => ⟨_, rfl, (by rw [sizeLine_eq]; simp only [app_len]; have e0 : Str.empty.length = 0 := rfl; have e1 : (("wrong fact at index " : Str)).length = 20 := (by decide +kernel); omega), ⟨by simp, ha, y0, rfl, .ref a, rfl, a, C, rfl, T, n0, .inl ⟨ha, fun dx nd ne => q dx nd ne⟩⟩⟩⟩⟩

theorem sc_init_InvalidCase : NScope ["self", "index", "__class__"] ["self", "index"] ["__class__"] (defScope (inClass (topS 4) 0)) := nscope_by (by decide +kernel)
theorem ok_init_InvalidCase {fI C cc c : Addr} {oc kV doc pm ct : Value} {od an : Option Addr} {osl : Array (Option Value)} (lk : K.lookup fI = some ⟨oc, od, .func (supFd (nf_InvalidCase cc c) kV doc pm an ct), osl⟩)
    (hcd : PySem.W.codeIn K (.ref c) "InvalidCase.__init__" = true) (T : OexC K C) (S : SupC P K mg C cc c) (n0 : PySem.W.findIn K (.ref C) "index" = some none) : FnOk P w K mg base CX0 1 fI (supFd (nf_InvalidCase cc c) kV doc pm an ct) ["self", "index"] (sp_init1 C "index") := by
  refine fn_sup (N := ["self", "index", "__class__"]) (ps := ["self", "index"]) lk hcd rfl sc_init_InvalidCase T S (fun vs H Q E h => ?_) rfl rfl rfl rfl rfl (fun A outer s H vs Q E hr h => ?_) (fun L => ⟨_, rfl⟩) (fun L => rfl) (fun L => rfl) (fun L => rfl) (fun L => rfl)
  · obtain ⟨a, y0, rfl, ha, ok0, q⟩ := h
    rfl
  · obtain ⟨a, y0, rfl, ha, ok0, q⟩ := h
    refine ⟨_, _, pa_cons (pe_joined (PJ.cons pe_str (PJ.cons (pe_fmt (pv 1)) PJ.nil))) pa_nil, pss_one (ps_ost (pv 0) (pv 1)), a, rfl, ha, ?_⟩
    refine ⟨_, rfl, (by rw [sizeLine_eq]; simp only [app_len]; have e0 : Str.empty.length = 0 := rfl; have e1 : (("wrong name in the case at index " : Str)).length = 32 := (by decide +kernel); omega), ⟨y0, rfl, fmt_at ok0 fun z0 hz0 => ⟨_, rfl, (by rw [sizeLine_eq]; simp only [app_len]; have e0 : Str.empty.length = 0 := rfl; have e1 : (("wrong name in the case at index " : Str)).length = 32 := (by decide +kernel); omega), ⟨by simp, ha, y0, rfl, .ref a, rfl, a, C, rfl, T, n0, .inl ⟨ha, fun dx nd ne => q dx nd ne⟩⟩⟩⟩⟩

theorem sc_init_InvalidCondition : NScope ["self", "part", "index", "__class__"] ["self", "part", "index"] ["__class__"] (defScope (inClass (topS 6) 0)) := nscope_by (by decide +kernel)
theorem ok_init_InvalidCondition {fI C cc c : Addr} {oc kV doc pm ct : Value} {od an : Option Addr} {osl : Array (Option Value)} (lk : K.lookup fI = some ⟨oc, od, .func (supFd (nf_InvalidCondition cc c) kV doc pm an ct), osl⟩)
    (hcd : PySem.W.codeIn K (.ref c) "InvalidCondition.__init__" = true) (T : OexC K C) (S : SupC P K mg C cc c) (n0 : PySem.W.findIn K (.ref C) "part" = some none) (n1 : PySem.W.findIn K (.ref C) "index" = some none) : FnOk P w K mg base CX0 1 fI (supFd (nf_InvalidCondition cc c) kV doc pm an ct) ["self", "part", "index"] (sp_init2 C "part" "index") := by
  refine fn_sup (N := ["self", "part", "index", "__class__"]) (ps := ["self", "part", "index"]) lk hcd rfl sc_init_InvalidCondition T S (fun vs H Q E h => ?_) rfl rfl rfl rfl rfl (fun A outer s H vs Q E hr h => ?_) (fun L => ⟨_, rfl⟩) (fun L => rfl) (fun L => rfl) (fun L => rfl) (fun L => rfl)
  · obtain ⟨a, y0, y1, rfl, ha, ok0, ok1, q⟩ := h
    rfl
  · obtain ⟨a, y0, y1, rfl, ha, ok0, ok1, q⟩ := h
    refine ⟨_, _, pa_cons (pe_joined (PJ.cons pe_str (PJ.cons (pe_fmt (pv 1)) (PJ.cons pe_str (PJ.cons (pe_fmt (pv 2)) PJ.nil))))) pa_nil, pss_cons (ps_ost (pv 0) (pv 1)) (pss_one (ps_ost (pv 0) (pv 2))), a, rfl, ha, ?_⟩
    refine ⟨_, rfl, (by rw [sizeLine_eq]; simp only [app_len]; have e0 : Str.empty.length = 0 := rfl; have e1 : (("wrong name in part " : Str)).length = 19 := (by decide +kernel); have e2 : ((" of the condition at index " : Str)).length = 27 := (by decide +kernel); omega), ⟨y0, rfl, fmt_at ok0 fun z0 hz0 => ⟨_, rfl, (by rw [sizeLine_eq]; simp only [app_len]; have e0 : Str.empty.length = 0 := rfl; have e1 : (("wrong name in part " : Str)).length = 19 := (by decide +kernel); have e2 : ((" of the condition at index " : Str)).length = 27 := (by decide +kernel); omega), ⟨_, rfl, (by rw [sizeLine_eq]; simp only [app_len]; have e0 : Str.empty.length = 0 := rfl; have e1 : (("wrong name in part " : Str)).length = 19 := (by decide +kernel); have e2 : ((" of the condition at index " : Str)).length = 27 := (by decide +kernel); omega), ⟨y1, rfl, fmt_at ok1 fun z1 hz1 => ⟨_, rfl, (by rw [sizeLine_eq]; simp only [app_len]; have e0 : Str.empty.length = 0 := rfl; have e1 : (("wrong name in part " : Str)).length = 19 := (by decide +kernel); have e2 : ((" of the condition at index " : Str)).length = 27 := (by decide +kernel); omega), ⟨by simp, ha, y0, rfl, .ref a, rfl, a, C, rfl, T, n0, .inl ⟨ha, fun dx nd ne => ⟨y1, rfl, .ref a, rfl, a, C, rfl, T, n1, .inr ⟨dx, _, upd_same, by rw [upd_ne ne, upd_same], by simp, q dx nd ne⟩⟩⟩⟩⟩⟩⟩⟩⟩⟩

theorem sc_init_InvalidRule : NScope ["self", "part", "__class__"] ["self", "part"] ["__class__"] (defScope (inClass (topS 8) 0)) := nscope_by (by decide +kernel)
theorem ok_init_InvalidRule {fI C cc c : Addr} {oc kV doc pm ct : Value} {od an : Option Addr} {osl : Array (Option Value)} (lk : K.lookup fI = some ⟨oc, od, .func (supFd (nf_InvalidRule cc c) kV doc pm an ct), osl⟩)
    (hcd : PySem.W.codeIn K (.ref c) "InvalidRule.__init__" = true) (T : OexC K C) (S : SupC P K mg C cc c) (n0 : PySem.W.findIn K (.ref C) "part" = some none) : FnOk P w K mg base CX0 1 fI (supFd (nf_InvalidRule cc c) kV doc pm an ct) ["self", "part"] (sp_init1 C "part") := by
  refine fn_sup (N := ["self", "part", "__class__"]) (ps := ["self", "part"]) lk hcd rfl sc_init_InvalidRule T S (fun vs H Q E h => ?_) rfl rfl rfl rfl rfl (fun A outer s H vs Q E hr h => ?_) (fun L => ⟨_, rfl⟩) (fun L => rfl) (fun L => rfl) (fun L => rfl) (fun L => rfl)
  · obtain ⟨a, y0, rfl, ha, ok0, q⟩ := h
    rfl
  · obtain ⟨a, y0, rfl, ha, ok0, q⟩ := h
    refine ⟨_, _, pa_cons (pe_joined (PJ.cons pe_str (PJ.cons (pe_fmt (pv 1)) (PJ.cons pe_str PJ.nil)))) pa_nil, pss_one (ps_ost (pv 0) (pv 1)), a, rfl, ha, ?_⟩
    refine ⟨_, rfl, (by rw [sizeLine_eq]; simp only [app_len]; have e0 : Str.empty.length = 0 := rfl; have e1 : (("wrong " : Str)).length = 6 := (by decide +kernel); have e2 : ((" of a rule" : Str)).length = 10 := (by decide +kernel); omega), ⟨y0, rfl, fmt_at ok0 fun z0 hz0 => ⟨_, rfl, (by rw [sizeLine_eq]; simp only [app_len]; have e0 : Str.empty.length = 0 := rfl; have e1 : (("wrong " : Str)).length = 6 := (by decide +kernel); have e2 : ((" of a rule" : Str)).length = 10 := (by decide +kernel); omega), ⟨_, rfl, (by rw [sizeLine_eq]; simp only [app_len]; have e0 : Str.empty.length = 0 := rfl; have e1 : (("wrong " : Str)).length = 6 := (by decide +kernel); have e2 : ((" of a rule" : Str)).length = 10 := (by decide +kernel); omega), ⟨by simp, ha, y0, rfl, .ref a, rfl, a, C, rfl, T, n0, .inl ⟨ha, fun dx nd ne => q dx nd ne⟩⟩⟩⟩⟩⟩

theorem sc_init_InvalidBook : NScope ["self", "word", "index", "__class__"] ["self", "word", "index"] ["__class__"] (defScope (inClass (topS 9) 0)) := nscope_by (by decide +kernel)
theorem ok_init_InvalidBook {fI C cc c : Addr} {oc kV doc pm ct : Value} {od an : Option Addr} {osl : Array (Option Value)} (lk : K.lookup fI = some ⟨oc, od, .func (supFd (nf_InvalidBook cc c) kV doc pm an ct), osl⟩)
    (hcd : PySem.W.codeIn K (.ref c) "InvalidBook.__init__" = true) (T : OexC K C) (S : SupC P K mg C cc c) (n0 : PySem.W.findIn K (.ref C) "word" = some none) (n1 : PySem.W.findIn K (.ref C) "index" = some none) : FnOk P w K mg base CX0 1 fI (supFd (nf_InvalidBook cc c) kV doc pm an ct) ["self", "word", "index"] (sp_init2 C "word" "index") := by
  refine fn_sup (N := ["self", "word", "index", "__class__"]) (ps := ["self", "word", "index"]) lk hcd rfl sc_init_InvalidBook T S (fun vs H Q E h => ?_) rfl rfl rfl rfl rfl (fun A outer s H vs Q E hr h => ?_) (fun L => ⟨_, rfl⟩) (fun L => rfl) (fun L => rfl) (fun L => rfl) (fun L => rfl)
  · obtain ⟨a, y0, y1, rfl, ha, ok0, ok1, q⟩ := h
    rfl
  · obtain ⟨a, y0, y1, rfl, ha, ok0, ok1, q⟩ := h
    refine ⟨_, _, pa_cons (pe_joined (PJ.cons pe_str (PJ.cons (pe_fmt (pv 1)) (PJ.cons pe_str (PJ.cons (pe_fmt (pv 2)) PJ.nil))))) pa_nil, pss_cons (ps_ost (pv 0) (pv 1)) (pss_one (ps_ost (pv 0) (pv 2))), a, rfl, ha, ?_⟩
    refine ⟨_, rfl, (by rw [sizeLine_eq]; simp only [app_len]; have e0 : Str.empty.length = 0 := rfl; have e1 : (("wrong book by " : Str)).length = 14 := (by decide +kernel); have e2 : ((" at index " : Str)).length = 10 := (by decide +kernel); omega), ⟨y0, rfl, fmt_at ok0 fun z0 hz0 => ⟨_, rfl, (by rw [sizeLine_eq]; simp only [app_len]; have e0 : Str.empty.length = 0 := rfl; have e1 : (("wrong book by " : Str)).length = 14 := (by decide +kernel); have e2 : ((" at index " : Str)).length = 10 := (by decide +kernel); omega), ⟨_, rfl, (by rw [sizeLine_eq]; simp only [app_len]; have e0 : Str.empty.length = 0 := rfl; have e1 : (("wrong book by " : Str)).length = 14 := (by decide +kernel); have e2 : ((" at index " : Str)).length = 10 := (by decide +kernel); omega), ⟨y1, rfl, fmt_at ok1 fun z1 hz1 => ⟨_, rfl, (by rw [sizeLine_eq]; simp only [app_len]; have e0 : Str.empty.length = 0 := rfl; have e1 : (("wrong book by " : Str)).length = 14 := (by decide +kernel); have e2 : ((" at index " : Str)).length = 10 := (by decide +kernel); omega), ⟨by simp, ha, y0, rfl, .ref a, rfl, a, C, rfl, T, n0, .inl ⟨ha, fun dx nd ne => ⟨y1, rfl, .ref a, rfl, a, C, rfl, T, n1, .inr ⟨dx, _, upd_same, by rw [upd_ne ne, upd_same], by simp, q dx nd ne⟩⟩⟩⟩⟩⟩⟩⟩⟩⟩

theorem sc_init_InvalidChance : NScope ["self", "fact", "__class__"] ["self", "fact"] ["__class__"] (defScope (inClass (topS 15) 0)) := nscope_by (by decide +kernel)
theorem ok_init_InvalidChance {fI C cc c : Addr} {oc kV doc pm ct : Value} {od an : Option Addr} {osl : Array (Option Value)} (lk : K.lookup fI = some ⟨oc, od, .func (supFd (nf_InvalidChance cc c) kV doc pm an ct), osl⟩)
    (hcd : PySem.W.codeIn K (.ref c) "InvalidChance.__init__" = true) (T : OexC K C) (S : SupC P K mg C cc c) (n0 : PySem.W.findIn K (.ref C) "fact" = some none) : FnOk P w K mg base CX0 1 fI (supFd (nf_InvalidChance cc c) kV doc pm an ct) ["self", "fact"] (sp_init1 C "fact") := by
  refine fn_sup (N := ["self", "fact", "__class__"]) (ps := ["self", "fact"]) lk hcd rfl sc_init_InvalidChance T S (fun vs H Q E h => ?_) rfl rfl rfl rfl rfl (fun A outer s H vs Q E hr h => ?_) (fun L => ⟨_, rfl⟩) (fun L => rfl) (fun L => rfl) (fun L => rfl) (fun L => rfl)
  · obtain ⟨a, y0, rfl, ha, ok0, q⟩ := h
    rfl
  · obtain ⟨a, y0, rfl, ha, ok0, q⟩ := h
    refine ⟨_, _, pa_cons (pe_joined (PJ.cons pe_str (PJ.cons (pe_fmt (pv 1)) PJ.nil))) pa_nil, pss_one (ps_ost (pv 0) (pv 1)), a, rfl, ha, ?_⟩
    refine ⟨_, rfl, (by rw [sizeLine_eq]; simp only [app_len]; have e0 : Str.empty.length = 0 := rfl; have e1 : (("wrong chance of " : Str)).length = 16 := (by decide +kernel); omega), ⟨y0, rfl, fmt_at ok0 fun z0 hz0 => ⟨_, rfl, (by rw [sizeLine_eq]; simp only [app_len]; have e0 : Str.empty.length = 0 := rfl; have e1 : (("wrong chance of " : Str)).length = 16 := (by decide +kernel); omega), ⟨by simp, ha, y0, rfl, .ref a, rfl, a, C, rfl, T, n0, .inl ⟨ha, fun dx nd ne => q dx nd ne⟩⟩⟩⟩⟩

end
end Sc
namespace Sc
open PySem PySem.Spec PyProof.Rows L2
/-! ### names -/
theorem sc_is_name : FnScope ["value", "letter"] ["value"] (defScope s_is_name) := ⟨rfl, rfl, rfl, by decide +kernel, rfl, by decide +kernel, by decide +kernel⟩
theorem sc_rises : FnScope ["names", "index"] ["names", "index"] (defScope s_rises) := ⟨rfl, rfl, rfl, by decide +kernel, rfl, by decide +kernel, by decide +kernel⟩
def isLetters (x : Str) : Bool := x.cps.toList.all fun c => decide (c ∈ letters.cps.toList)
def isName (x : Str) : Bool := decide (1 ≤ x.length) && (decide (x.length ≤ 8) && isLetters x)
def isLetterV (c : Nat) : V := .bl (decide (c ∈ letters.cps.toList))
structure GNames (mg : Str → Option Value) : Prop where
  m_LETTERS : ∃ t, mg "LETTERS" = some (.str letters t)
  m_LONGEST : ∃ t, mg "LONGEST_NAME" = some (.int 8 t)
section
variable {P : Program} {w : World} {K : PySem.W.Frag} {mg : Str → Option Value} {base : Heap}
def sp_is_name : Sp := fun vs H Q _ => ∃ x : Str, vs = [.str x] ∧ x.length ≤ sizeLine ∧ ∀ H', Same H H' → Q (.bl (isName x)) H'
theorem ok_is_name {f : Addr} {fd : FuncData} (F : Fun K "is_name" "is_name" s_is_name f fd) (B : Blt mg) (G : GNames mg) : FnOk P w K mg base CX0 1 f fd ["value"] sp_is_name := by
  obtain ⟨⟨t1, mL⟩, ⟨t2, mN⟩⟩ := G
  refine F.ok sc_is_name (fun vs H Q E h => by obtain ⟨x, rfl, _⟩ := h; rfl) (fun cdv A outer s H vs Q E hr h => ?_)
  obtain ⟨x, rfl, hx, q⟩ := h
  refine ⟨_, (pss_cons (ps_if (PW.pt (pw_or (pt_not (pt_val (pe_callB (call_isT "str") (by rfl) B.b_isinstance PyProof.Rows.boot_isinstance (pa_cons (pv 0) (pa_cons (pe_bltn (v := .ty "str") (by rfl) B.b_str PyProof.Rows.boot_str rfl) pa_nil))))) (pw_or1 (pt_not (pt_chain op_le op_le pe_int (pe_callB call_len_str (by rfl) B.b_len PySem.boot_len (pa_cons (pv 0) pa_nil)) (pe_glob (v := .int 8) rfl mN ⟨_, rfl⟩)))))) (pss_one (ps_ret pe_bl)) pss_nil)
      (pss_one (ps_ret (pe_callB (cr_all rfl) (by rfl) B.b_all PyProof.Rows.boot_all (pa_cons (pe_lc (own := [("letter", 1)]) (g := gName 1) (tt := tYes) rfl sc_is_name.nd (pi_str (pv 0)) (blkOk_by (own := [("letter", 1)]) (N := ["value", "letter"]) (sc := defScope s_is_name) (by decide +kernel)) (fun _ _ _ _ _ => (pg_name (i := 1) sc_is_name.nd rfl (Or.inl rfl))) (fun _ _ _ _ _ => pts_nil) (fun _ _ _ _ _ => (pe_.re (pe_cmpR op_in_sign (pv 1) (pe_glob (v := .str "abcdefghijklmnopqrstuvwxyz") rfl mL ⟨_, rfl⟩) rfl) (by first | (dsimp only [Cx.blk]; done) | exact rfl)))) pa_nil))))), ?_⟩
  refine ⟨.str x, rfl, _, "str", true, rfl, .str _, by decide +kernel, _, rfl, iteF ?_⟩
  refine ⟨.str x, rfl, x, rfl, hx, 1, x.length, rfl, rfl, _, rfl, bcase (fun h1 => ?_) (fun h1 => ?_)⟩
  · refine ⟨_, _, rfl, rfl, _, rfl, ?_⟩
    have h1 : 1 ≤ x.length := by have := of_decide_eq_true h1; omega
    by_cases h2 : x.length ≤ 8
    · have e2 : decide ((x.length : Int) ≤ 8) = true := decide_eq_true (by omega)
      rw [e2]
      refine iteF ?_
      refine ⟨.str x, rfl, x, rfl, fun D nD => lc_it walk_str (fun i H' => Same H H' ∧ H' D = some (.lst ((x.cps.toList.take i).map isLetterV))) ⟨(Same.refl H).put nD, upd_same⟩ (fun _ _ _ _ => trivial) ?_ ?_⟩
      · rintro i y H2 H3 hi ⟨s, e⟩ ⟨rfl, c, hc, rfl⟩
        refine ⟨rfl, yes_ ⟨_, rfl, c, letters, rfl, rfl, grow (acc := fun i => .map isLetterV (x.cps.toList.take i)) nD s e ?_ ?_⟩⟩
        · rw [List.length_map, List.length_take]
          exact small1000 (by have : x.cps.toList.length = x.length := rfl; omega)
        · show List.map _ _ = _
          rw [take_more (x := c) (by rw [Array.getElem?_toList]; exact hc), List.map_append]
          rfl
      · rintro H2 ⟨s, e⟩
        have el : x.cps.toList.take x.cps.size = x.cps.toList := List.take_of_length_le (by rw [Array.length_toList]; exact Nat.le_refl _)
        rw [el] at e
        refine ⟨D, x.cps.toList.map fun c => decide (c ∈ letters.cps.toList), rfl, sqL_of (by rw [e, List.map_map]; rfl), ?_⟩
        have ea : isName x = (x.cps.toList.map fun c => decide (c ∈ letters.cps.toList)).all id := by
          unfold isName isLetters
          rw [decide_eq_true h1, decide_eq_true h2, Bool.true_and, Bool.true_and, List.all_map]
          rfl
        rw [← ea]
        exact q H2 s
    · have e2 : decide ((x.length : Int) ≤ 8) = false := decide_eq_false (by omega)
      rw [e2]
      refine iteT ?_
      have e : isName x = false := by unfold isName; rw [decide_eq_false h2, Bool.false_and, Bool.and_false]
      rw [← e]
      exact q H (Same.refl H)
  · have h1 : ¬ 1 ≤ x.length := by have := of_decide_eq_false h1; omega
    refine ⟨_, rfl, iteT ?_⟩
    have e : isName x = false := by unfold isName; rw [decide_eq_false h1, Bool.false_and]
    rw [← e]
    exact q H (Same.refl H)
/-- does the i-th name come behind the one before it -/
def risesAt (xs : List Str) (i : Nat) : Bool := decide (i = 0) || match xs[i - 1]?, xs[i]? with
  | some a, some b => decide (a.cps.toList < b.cps.toList)
  | _, _ => false
def sp_rises (K : PySem.W.Frag) : Sp := fun vs H Q _ => ∃ (a : Addr) (xs : List Str) (i : Nat), vs = [.ref a, .int i] ∧ SqT K H a (xs.map V.str) ∧ i < xs.length ∧ Q (.bl (risesAt xs i)) H
theorem ok_rises {f : Addr} {fd : FuncData} (F : Fun K "rises" "rises" s_rises f fd) : FnOk P w K mg base CX0 1 f fd ["names", "index"] (sp_rises K) := by
  refine F.ok sc_rises (fun vs H Q E h => by obtain ⟨a, xs, i, rfl, _⟩ := h; rfl) (fun cdv A outer s H vs Q E hr h => ?_)
  obtain ⟨a, xs, i, rfl, hS, hi, q⟩ := h
  refine ⟨_, (pss_one (ps_ret (pe_or (pe_cmpR op_eq (pv 1) pe_int (nomark _)) (pe_one (pe_cmpR op_lt_str (pe_ix ix_tup (pv 0) (pe_op op_sub (pv 1) pe_int) (fun _ _ => rfl)) (pe_ix ix_tup (pv 0) (pv 1) (fun _ _ => rfl)) (nomark _)))))), ?_⟩
  refine ⟨_, rfl, rfl, _, rfl, bcase (fun e => ?_) (fun e => ?_)⟩
  · have e0 : i = 0 := by have := V.int.inj (of_decide_eq_true e); omega
    have er : risesAt xs i = true := by unfold risesAt; rw [decide_eq_true e0, Bool.true_or]
    rw [er] at q
    exact q
  · have e0 : i ≠ 0 := fun z => by subst z; exact Bool.noConfusion (e.symm.trans (decide_eq_true rfl))
    have h1 : i - 1 < xs.length := by omega
    have g1 : (xs.map V.str)[i - 1]? = some (.str xs[i - 1]) := by rw [List.getElem?_map, List.getElem?_eq_getElem h1]; rfl
    have g2 : (xs.map V.str)[i]? = some (.str xs[i]) := by rw [List.getElem?_map, List.getElem?_eq_getElem hi]; rfl
    refine ⟨.ref a, rfl, .int i, rfl, i, 1, rfl, rfl, a, _, _, _, rfl, rfl, hS, at_of (j := i - 1) (by omega) g1, .ref a, rfl, .int i, rfl, a, _, _, _, rfl, rfl, hS, at_of rfl g2, xs[i - 1], xs[i], rfl, rfl, ?_⟩
    have er : risesAt xs i = decide (xs[i - 1].cps.toList < xs[i].cps.toList) := by
      unfold risesAt
      rw [decide_eq_false e0, Bool.false_or, List.getElem?_eq_getElem h1, List.getElem?_eq_getElem hi]
    rw [← er]
    exact q
end
end Sc
namespace Sc
open PySem PySem.Spec PyProof.Rows L2
/-! ### the law's draws -/
theorem sc__law_mix : FnScope ["_law_script", "_law_seed", "_law_state", "_law_cell"] ["_law_script", "_law_seed"] (defScope s__law_mix) := ⟨rfl, rfl, rfl, by decide +kernel, rfl, by decide +kernel, by decide +kernel⟩
theorem sc__law_next : FnScope ["_law_h", "_law_limit", "_law_cell"] ["_law_h", "_law_limit"] (defScope s__law_next) := ⟨rfl, rfl, rfl, by decide +kernel, rfl, by decide +kernel, by decide +kernel⟩
theorem sc__law_facts : FnScope ["_law_h", "_law_count", "_law_some"] ["_law_h", "_law_count"] (defScope s__law_facts) := ⟨rfl, rfl, rfl, by decide +kernel, rfl, by decide +kernel, by decide +kernel⟩
theorem sc__law_alike : FnScope ["_law_found", "_law_due", "_law_k"] ["_law_found", "_law_due"] (defScope s__law_alike) := ⟨rfl, rfl, rfl, by decide +kernel, rfl, by decide +kernel, by decide +kernel⟩
def twelve : List Str := ["age", "bad", "cold", "dear", "early", "first", "good", "hot", "idle", "just", "keen", "late"]
/-- the state of the draws: a list at a, its cells at l -/
def RS (H : Hp) (a l : Addr) : Prop := ∃ (st k : Int) (ns : List Int), H a = some (.lst [.int st, .ref l, .int k]) ∧ H l = some (.lst (ns.map V.int)) ∧ 0 ≤ st ∧ st < 2147483647 ∧ ns.length ≤ 63 ∧ ∀ z ∈ ns, Builtin.Int.intBits z ≤ 1048576
/-- all but the draws' state stands -/
structure Kp (a l : Addr) (H H' : Hp) : Prop where
  old : RS H a l
  new : RS H' a l
  keep : ∀ b o, b ≠ a → b ≠ l → H b = some o → H' b = some o
section
variable {P : Program} {w : World} {K : PySem.W.Frag} {mg : Str → Option Value} {base : Heap} {a l : Addr} {H H' H'' : Hp}
theorem RS.ne (r : RS H a l) : a ≠ l := fun z => by
  obtain ⟨st, k, ns, h1, h2, _⟩ := r
  subst z
  rw [h1] at h2
  have e := HO.lst.inj (Option.some.inj h2)
  match ns, e with
  | [x, y, z], e => cases (List.cons.inj (List.cons.inj e).2).1
theorem RS.same (r : RS H a l) (s : Same H H') : RS H' a l := by
  obtain ⟨st, k, ns, h1, h2, q⟩ := r
  exact ⟨st, k, ns, s _ _ h1, s _ _ h2, q⟩
theorem Kp.refl (r : RS H a l) : Kp a l H H := ⟨r, r, fun _ _ _ _ e => e⟩
theorem Kp.trans (k : Kp a l H H') (k' : Kp a l H' H'') : Kp a l H H'' := ⟨k.old, k'.new, fun b o n1 n2 e => k'.keep b o n1 n2 (k.keep b o n1 n2 e)⟩
theorem Kp.of (r : RS H a l) (s : Same H H') : Kp a l H H' := ⟨r, r.same s, fun b o _ _ e => s b o e⟩
theorem Kp.same (k : Kp a l H H') (s : Same H' H'') : Kp a l H H'' := k.trans (.of k.new s)
theorem RS.no {b : Addr} (r : RS H a l) (e : H b = none) : b ≠ a ∧ b ≠ l := by
  obtain ⟨st, k, ns, h1, h2, _⟩ := r
  exact ⟨fun z => (by rw [z, h1] at e; cases e), fun z => (by rw [z, h2] at e; cases e)⟩
theorem RS.not {b : Addr} {o : HO} (r : RS H a l) (e : H b = some o) (n : ∀ xs, o ≠ .lst xs) : b ≠ a ∧ b ≠ l := by
  obtain ⟨st, k, ns, h1, h2, _⟩ := r
  exact ⟨fun z => (by rw [z, h1] at e; exact n _ (Option.some.inj e).symm), fun z => (by rw [z, h2] at e; exact n _ (Option.some.inj e).symm)⟩
theorem Kp.free {b : Addr} (k : Kp a l H H') (e : H' b = none) : H b = none := by
  cases q : H b with
  | none => rfl
  | some o =>
    obtain ⟨n1, n2⟩ := k.new.no e
    rw [k.keep b o n1 n2 q] at e
    cases e
theorem Kp.put {p : Addr} {o : HO} (k : Kp a l H H') (n : H' p = none) : Kp a l H (upd H' p o) := k.same ((Same.refl H').put n)
theorem Kp.put0 {p : Addr} {o : HO} (k : Kp a l H H') (n : H p = none) : Kp a l H (upd H' p o) := by
  obtain ⟨n1, n2⟩ := k.old.no n
  obtain ⟨st, x, ns, h1, h2, q⟩ := k.new
  exact ⟨k.old, ⟨st, x, ns, by rw [upd_ne n1.symm]; exact h1, by rw [upd_ne n2.symm]; exact h2, q⟩, fun b o m1 m2 e => by rw [upd_ne (ne_of_none e n)]; exact k.keep b o m1 m2 e⟩
theorem ixN_of {n j : Nat} (hj : j < n) : ixN n (j : Int) = some j := by
  unfold ixN
  rw [if_pos (by omega), if_pos (by omega)]
  rfl
theorem Kp.obj {b : Addr} {o : HO} (k : Kp a l H H') (e : H b = some o) (n : ∀ xs, o ≠ .lst xs) : H' b = some o := by
  obtain ⟨n1, n2⟩ := k.old.not e n
  exact k.keep b o n1 n2 e
theorem Kp.tup {b : Addr} {xs : List V} (k : Kp a l H H') (h : SqT K H b xs) : SqT K H' b xs := by
  rcases h with (h | ⟨o, h⟩) | h
  · exact .inl (.inl (k.obj h fun _ z => nomatch z))
  · exact .inl (.inr ⟨o, k.obj h fun _ z => nomatch z⟩)
  · exact .inr h
theorem bits_div {x n : Int} (h0 : 0 ≤ x) (hn : 0 < n) : Builtin.Int.intBits (x / n) ≤ Builtin.Int.intBits x := by
  have h1 : 0 ≤ x / n := Int.ediv_nonneg h0 (Int.le_of_lt hn)
  have h2 : x / n ≤ x := Int.ediv_le_self n h0
  unfold Builtin.Int.intBits
  by_cases e : x / n = 0
  · rw [e]
    exact Nat.zero_le _
  · have e2 : x ≠ 0 := fun z => by rw [z, Int.zero_ediv] at e; exact e rfl
    rw [if_neg (by simpa using e), if_neg (by simpa using e2)]
    have e3 : (x / n).natAbs.log2 ≤ x.natAbs.log2 := (Nat.le_log2 (by omega)).mpr (Nat.le_trans (Nat.log2_self_le (by omega)) (by omega))
    omega
theorem small_bits {x : Int} {k : Nat} (h : x.natAbs < 2 ^ k) : Builtin.Int.intBits x ≤ k := by
  unfold Builtin.Int.intBits
  split
  · exact Nat.zero_le k
  · rename_i e
    have e : x ≠ 0 := by simpa using e
    have := (Nat.log2_lt (n := x.natAbs) (by omega)).mpr h
    omega
def sp_mix (K : PySem.W.Frag) : Sp := fun vs H Q _ => ∃ (s : Addr) (ns : List Int) (z : Int), vs = [.ref s, .int z] ∧ SqL K H s (ns.map V.int) ∧ ns.length ≤ 63 ∧ (∀ z ∈ ns, Builtin.Int.intBits z ≤ 1048576) ∧ 0 ≤ z ∧ z < 2147483647 ∧
  ∀ H' a l, Same H H' → RS H' a l → Q (.ref a) H'
theorem ok_mix {f : Addr} {fd : FuncData} (F : Fun K "_law_mix" "_law_mix" s__law_mix f fd) (B : Blt mg) : FnOk P w K mg base CX0 1 f fd ["_law_script", "_law_seed"] (sp_mix K) := by
  refine F.ok sc__law_mix (fun vs H Q E h => by obtain ⟨s, ns, z, rfl, _⟩ := h; rfl) (fun cdv A outer s H vs Q E hr h => ?_)
  obtain ⟨s, ns, z, rfl, hS, hl, hb, z0, z1, q⟩ := h
  refine ⟨_, (pss_cons (ps_set (i := 2) sc__law_mix.nd rfl (Or.inl rfl) (pv 1))
      (pss_cons (ps_for PassesOwn.never rfl (pi_list (pv 0)) (pg_name (i := 3) sc__law_mix.nd rfl (Or.inl rfl)) (pss_one (ps_set (i := 2) sc__law_mix.nd rfl (Or.inl rfl) (pe_op op_mod (pe_callTy call_int1 (by rfl) B.b_int PyProof.Rows.boot_int (pa_cons (pe_op op_add (pe_op op_add (pe_op op_mul (pv 2) pe_int) (pe_op op_mod (pe_callTy call_int1 (by rfl) B.b_int PyProof.Rows.boot_int (pa_cons (pv 3) pa_nil)) pe_int)) pe_int) pa_nil)) pe_int))))
      (pss_one (ps_ret (pe_lst (pa_cons (pv 2) (pa_cons (pe_callTy call_list_of (by rfl) B.b_list PyProof.Rows.boot_list (pa_cons (pv 0) pa_nil)) (pa_cons pe_int pa_nil)))))))), ?_⟩
  refine ⟨_, rfl, .ref s, rfl, s, rfl, ⟨_, hS⟩, for_it walk_list (fun i σ H' => ∃ (st : Int) (y : Option V), σ = [some (.ref s), some (.int z), some (.int st), y] ∧ H' = H ∧ 0 ≤ st ∧ st < 2147483647)
    ⟨z, none, rfl, rfl, z0, z1⟩ (fun i σ H' _ ⟨_, _, _, e, _⟩ => by rw [e]; exact hS) ?_ ?_⟩
  · rintro i x σ H2 H3 hi ⟨st, y, rfl, rfl, h0, h1⟩ ⟨rfl, hx⟩
    obtain ⟨c, hc, rfl⟩ : ∃ c, ns[i]? = some c ∧ x = V.int c := by
      rw [List.getElem?_map] at hx
      cases e : ns[i]? with
      | none => rw [e] at hx; cases hx
      | some c => rw [e] at hx; exact ⟨c, rfl, (Option.some.inj hx).symm⟩
    refine ⟨_, rfl, st, 48271, rfl, rfl, .inl ⟨by omega, by omega⟩, _, rfl, .inl ⟨c, rfl, c, 2147483629, rfl, rfl, (show (0 : Int) < 2147483629 by decide), _, _, rfl, rfl, _, _, rfl, rfl, .inl ⟨_, rfl, _, 2147483647, rfl, rfl, (show (0 : Int) < 2147483647 by decide), ?_⟩⟩⟩
    exact ⟨_, _, rfl, rfl, Int.emod_nonneg _ (by decide), Int.emod_lt_of_pos _ (by decide)⟩
  · rintro σ H2 ⟨st, y, rfl, rfl, h0, h1⟩
    refine ⟨_, rfl, .ref s, rfl, s, _, rfl, .inl hS, fun l nl => ⟨(by show 3 ≤ sizeLine; decide), fun a na => q _ a l ?_ ⟨st, 0, ns, upd_same, ?_, h0, h1, hl, hb⟩⟩⟩
    · exact ((Same.refl _).put nl).put' na
    · rw [upd_ne (ne_of_none upd_same na), upd_same]
def sp_next : Sp := fun vs H Q _ => ∃ (a l : Addr) (n : Int), vs = [.ref a, .int n] ∧ RS H a l ∧ 0 < n ∧ n.natAbs.log2 < 9000 ∧ ∀ H' r, Kp a l H H' → 0 ≤ r → r < n → Q (.int r) H'
theorem ok_next {f : Addr} {fd : FuncData} (F : Fun K "_law_next" "_law_next" s__law_next f fd) (B : Blt mg) : FnOk P w K mg base CX0 1 f fd ["_law_h", "_law_limit"] sp_next := by
  refine F.ok sc__law_next (fun vs H Q E h => by obtain ⟨a, l, n, rfl, _⟩ := h; rfl) (fun cdv A outer s H vs Q E hr h => ?_)
  obtain ⟨a, l, n, rfl, hR, n0, n9, q⟩ := h
  refine ⟨_, (pss_cons (ps_set (i := 2) sc__law_next.nd rfl (Or.inl rfl) (pe_ix ix_list (pe_op op_cat (pe_ix ix_list (pv 0) pe_int (fun _ _ => rfl)) (pe_lst (pa_cons pe_int pa_nil))) (pe_op op_mod (pe_callTy call_int1 (by rfl) B.b_int PyProof.Rows.boot_int (pa_cons (pe_ix ix_list (pv 0) pe_int (fun _ _ => rfl)) pa_nil)) (pe_callB (call_max2 rfl) (by rfl) B.b_max PyProof.Rows.boot_max (pa_cons pe_int (pa_cons (pe_callB call_len_seq (by rfl) B.b_len PySem.boot_len (pa_cons (pe_ix ix_list (pv 0) pe_int (fun _ _ => rfl)) pa_nil)) pa_nil)))) (fun _ _ => rfl)))
      (pss_cons (ps_if (pt_cmpR op_ge (pv 2) (pe_op op_pow pe_int pe_int) (nomark _)) (pss_cons (ps_asg (pe_op op_fdivW (pv 2) (pv 1)) (pg_sub (pe_ix ix_list (pv 0) pe_int (fun _ _ => rfl)) (pe_op op_mod (pe_callTy call_int1 (by rfl) B.b_int PyProof.Rows.boot_int (pa_cons (pe_ix ix_list (pv 0) pe_int (fun _ _ => rfl)) pa_nil)) (pe_callB call_len_seq (by rfl) B.b_len PySem.boot_len (pa_cons (pe_ix ix_list (pv 0) pe_int (fun _ _ => rfl)) pa_nil))) set_list))
      (pss_one (ps_ret (pe_op op_mod (pe_callTy call_int1 (by rfl) B.b_int PyProof.Rows.boot_int (pa_cons (pv 2) pa_nil)) (pv 1))))) pss_nil)
      (pss_cons (ps_asg (pe_op op_mod (pe_callTy call_int1 (by rfl) B.b_int PyProof.Rows.boot_int (pa_cons (pe_op op_add (pe_op op_add (pe_op op_mul (pe_ix ix_list (pv 0) pe_int (fun _ _ => rfl)) pe_int) (pe_op op_mulX (pv 2) pe_int)) pe_int) pa_nil)) pe_int) (pg_sub (pv 0) pe_int set_list))
      (pss_cons (ps_asg (pe_op op_add (pe_ix ix_list (pv 0) pe_int (fun _ _ => rfl)) pe_int) (pg_sub (pv 0) pe_int set_list))
      (pss_one (ps_ret (pe_op op_mod (pe_callTy call_int1 (by rfl) B.b_int PyProof.Rows.boot_int (pa_cons (pe_op op_fdiv (pe_ix ix_list (pv 0) pe_int (fun _ _ => rfl)) pe_int) pa_nil)) (pv 1)))))))), ?_⟩
  obtain ⟨st, k, ns, ha, hl, s0, s1, hlen, hb⟩ := id hR
  have nal := hR.ne
  have hm0 : 0 < (if ((ns.map V.int).length : Int) > 1 then ((ns.map V.int).length : Int) else 1) := by
    split <;> omega
  have hmx : (if ((ns.map V.int).length : Int) > 1 then ((ns.map V.int).length : Int) else 1) ≤ ns.length + 1 := by
    rw [List.length_map]
    split <;> omega
  have hcell : ∃ (j : Nat) (c : Int), k % (if ((ns.map V.int).length : Int) > 1 then ((ns.map V.int).length : Int) else 1) = j ∧ (ns.map V.int ++ [V.int 0])[j]? = some (.int c) ∧ (10 ^ 18 ≤ c → j < ns.length ∧ ns[j]? = some c ∧ k % (ns.length : Int) = j) ∧ Builtin.Int.intBits c ≤ 1048576 := by
    have r0 := Int.emod_nonneg k (Int.ne_of_gt hm0)
    have r1 := Int.emod_lt_of_pos k hm0
    obtain ⟨j, ej⟩ := Int.eq_ofNat_of_zero_le r0
    have ej : k % (if ((ns.map V.int).length : Int) > 1 then ((ns.map V.int).length : Int) else 1) = (j : Int) := ej
    by_cases hj : j < ns.length
    · refine ⟨j, ns[j], ej, ?_, fun _ => ⟨hj, List.getElem?_eq_getElem hj, ?_⟩, hb _ (List.getElem_mem hj)⟩
      · rw [List.getElem?_append_left (by rw [List.length_map]; exact hj), List.getElem?_map, List.getElem?_eq_getElem hj]
        rfl
      · rw [← ej, List.length_map]
        by_cases h1 : (ns.length : Int) > 1
        · rw [if_pos h1]
        · rw [if_neg h1]
          have e1 : (ns.length : Int) = 1 := by omega
          rw [e1]
    · have ejn : j = ns.length := by omega
      refine ⟨j, 0, ej, ?_, fun z => absurd z (by decide), by decide⟩
      rw [List.getElem?_append_right (by rw [List.length_map]; omega), List.length_map, ejn, Nat.sub_self]
      rfl
  obtain ⟨j, c, ej, gc, big, hc⟩ := hcell
  refine ⟨.ref a, rfl, a, _, 1, .ref l, rfl, rfl, sqL_of ha, atI_nat (j := 1) rfl, (by show 1 ≤ sizeLine; decide), fun p np => ?_⟩
  have npa := ne_of_none ha np
  have npl := ne_of_none hl np
  refine ⟨l, p, ns.map V.int, [.int 0], rfl, rfl, by rw [upd_ne npl]; exact hl, upd_same, by rw [List.length_map, sizeLine_eq]; show ns.length + 1 ≤ _; omega, fun p2 np2 => ?_⟩
  have np2' : H p2 = none := by
    cases e : H p2 with
    | none => rfl
    | some o => rw [upd_ne (ne_of_none e np)] at np2; rw [e] at np2; cases np2
  have s2 : Same H (upd (upd H p (.lst [.int 0])) p2 (.lst (ns.map V.int ++ [.int 0]))) := ((Same.refl H).put np).put np2'
  generalize hH2 : upd (upd H p (.lst [.int 0])) p2 (.lst (ns.map V.int ++ [.int 0])) = H2 at s2
  have hp2 : H2 p2 = some (.lst (ns.map V.int ++ [.int 0])) := by rw [← hH2, upd_same]
  have ha2 := s2 _ _ ha
  have hl2 := s2 _ _ hl
  refine ⟨.ref a, rfl, a, _, 2, .int k, rfl, rfl, sqL_of ha2, atI_nat (j := 2) rfl, .inl ⟨k, rfl, ?_⟩⟩
  refine ⟨.ref a, rfl, a, _, 1, .ref l, rfl, rfl, sqL_of ha2, atI_nat (j := 1) rfl, l, _, rfl, .inl (sqL_of hl2), 1, _, rfl, ?_⟩
  refine ⟨k, _, rfl, rfl, hm0, p2, _, _, .int c, rfl, rfl, sqL_of hp2, at_of ej gc, ?_⟩
  refine ⟨.int c, rfl, 10, 18, rfl, rfl, ⟨by decide, by decide, by decide⟩, c, 10 ^ 18, rfl, rfl, _, rfl, bcase (fun c1 => ?_) (fun c1 => ?_)⟩
  · have c1 : (10 : Int) ^ 18 ≤ c := of_decide_eq_true c1
    obtain ⟨hj, gj, ej2⟩ := big c1
    have hlp : 0 < (ns.length : Int) := by omega
    refine ⟨_, rfl, .int n, rfl, c, n, rfl, rfl, ⟨n0, n9⟩, .ref a, rfl, a, _, 1, .ref l, rfl, rfl, sqL_of ha2, atI_nat (j := 1) rfl, .ref a, rfl, a, _, 2, .int k, rfl, rfl, sqL_of ha2, atI_nat (j := 2) rfl, .inl ⟨k, rfl, ?_⟩⟩
    refine ⟨.ref a, rfl, a, _, 1, .ref l, rfl, rfl, sqL_of ha2, atI_nat (j := 1) rfl, l, _, rfl, .inl (sqL_of hl2), k, _, rfl, rfl, by rw [List.length_map]; exact hlp, l, _, _, j, rfl, rfl, hl2, ?_, ?_⟩
    · rw [List.length_map, ej2]
      unfold ixN
      rw [if_pos (by omega), if_pos (by omega)]
      rfl
    · refine ⟨.int c, rfl, .inl ⟨c, rfl, .int n, rfl, c, n, rfl, rfl, n0, q _ _ ⟨hR, ?_, fun b o n1 n2 e => ?_⟩ (Int.emod_nonneg _ (Int.ne_of_gt n0)) (Int.emod_lt_of_pos _ n0)⟩⟩
      · refine ⟨st, k, ns.set j (c / n), by rw [upd_ne nal]; exact ha2, by rw [upd_same, List.map_set], s0, s1, by rw [List.length_set]; exact hlen, fun z hz => ?_⟩
        rcases List.mem_or_eq_of_mem_set hz with h | h
        · exact hb z h
        · rw [h]
          exact Nat.le_trans (bits_div (by omega) n0) hc
      · rw [upd_ne n2]
        exact s2 b o e
  · refine ⟨.ref a, rfl, a, _, 0, .int st, rfl, rfl, sqL_of ha2, atI_nat (j := 0) rfl, st, 48271, rfl, rfl, .inl ⟨by omega, by omega⟩, .int c, rfl, c, 69621, rfl, rfl, ?_, _, _, rfl, rfl, _, 11, rfl, rfl, .inl ⟨_, rfl, _, 2147483647, rfl, rfl, (show (0 : Int) < 2147483647 by decide), .ref a, rfl, ?_⟩⟩
    · show (Builtin.Int.intBits c : Int) + (Builtin.Int.intBits 69621 : Int) ≤ 134217728
      have e1 : Builtin.Int.intBits 69621 ≤ 20 := small_bits (by decide)
      omega
    have z0 : 0 ≤ (st * 48271 + c * 69621 + 11) % 2147483647 := Int.emod_nonneg _ (by decide)
    have z1 : (st * 48271 + c * 69621 + 11) % 2147483647 < 2147483647 := Int.emod_lt_of_pos _ (by decide)
    refine ⟨a, _, 0, 0, rfl, rfl, ha2, rfl, ?_⟩
    refine ⟨.ref a, rfl, a, _, 2, .int k, rfl, rfl, sqL_of upd_same, atI_nat (j := 2) rfl, k, 1, rfl, rfl, .ref a, rfl, a, _, 2, 2, rfl, rfl, upd_same, rfl, ?_⟩
    refine ⟨.ref a, rfl, a, _, 0, .int ((st * 48271 + c * 69621 + 11) % 2147483647), rfl, rfl, sqL_of upd_same, atI_nat (j := 0) rfl, _, 7, rfl, rfl, ⟨by decide, by decide⟩, .inl ⟨_, rfl, .int n, rfl, _, n, rfl, rfl, n0, q _ _ ⟨hR, ?_, fun b o n1 n2 e => ?_⟩ (Int.emod_nonneg _ (Int.ne_of_gt n0)) (Int.emod_lt_of_pos _ n0)⟩⟩
    · exact ⟨_, k + 1, ns, upd_same, by rw [upd_ne nal.symm, upd_ne nal.symm]; exact hl2, z0, z1, hlen, hb⟩
    · rw [upd_ne n1, upd_ne n1]
      exact s2 b o e
theorem map_eraseIdx {α β : Type} {f : α → β} : ∀ (xs : List α) (j : Nat), (xs.map f).eraseIdx j = (xs.eraseIdx j).map f
  | [], _ => rfl
  | _ :: _, 0 => rfl
  | x :: r, j + 1 => by
    show f x :: (r.map f).eraseIdx j = f x :: (r.eraseIdx j).map f
    rw [map_eraseIdx r j]
/-- what stands at a value, read as data, at most n lists or tuples deep -/
inductive AD (H : Hp) : Nat → V → PyData → Prop where
  | non (n : Nat) : AD H n .non .none
  | bl (n : Nat) (b : Bool) : AD H n (.bl b) (.bool b)
  | int (n : Nat) (i : Int) : AD H n (.int i) (.int i)
  | str (n : Nat) (x : Str) : AD H n (.str x) (.str x)
  | lst {n : Nat} {a : Addr} {xs : List V} {ds : List PyData} (e : H a = some (.lst xs)) (l : xs.length = ds.length) (z : xs.length ≤ 1000000) (all : ∀ (i : Nat) (x : V) (d : PyData), xs[i]? = some x → ds[i]? = some d → AD H n x d) : AD H (n + 1) (.ref a) (.list ds)
  | tup {n : Nat} {a : Addr} {xs : List V} {ds : List PyData} (e : H a = some (.tup xs)) (l : xs.length = ds.length) (z : xs.length ≤ 1000000) (all : ∀ (i : Nat) (x : V) (d : PyData), xs[i]? = some x → ds[i]? = some d → AD H n x d) : AD H (n + 1) (.ref a) (.tuple ds)
theorem AD.same {n : Nat} {x : V} {d : PyData} (s : Same H H') (h : AD H n x d) : AD H' n x d := by
  induction h with
  | non n => exact .non n
  | bl n b => exact .bl n b
  | int n i => exact .int n i
  | str n x => exact .str n x
  | lst e l z all ih => exact .lst (s _ _ e) l z ih
  | tup e l z all ih => exact .tup (s _ _ e) l z ih
def sp_alike (n : Nat) : Sp := fun vs H Q _ => ∃ (x y : V) (d : PyData), vs = [x, y] ∧ AD H n x d ∧ AD H n y d ∧ ∀ H', Same H H' → Q (.bl true) H'
/-- the answer where no list or tuple stands -/
theorem ok_alike0 {f : Addr} {fd : FuncData} (F : Fun K "_law_alike" "_law_alike" s__law_alike f fd) (B : Blt mg) : FnOk P w K mg base CX0 1 f fd ["_law_found", "_law_due"] (sp_alike 0) := by
  refine F.ok sc__law_alike (fun vs H Q E h => by obtain ⟨x, y, d, rfl, _⟩ := h; rfl) (fun cdv A outer s H vs Q E hr h => ?_)
  obtain ⟨x, y, d, rfl, hx, hy, q⟩ := h
  refine ⟨_, (pss_cons (ps_if (pt_val (pe_callB (call_isT "dict") (by rfl) B.b_isinstance PyProof.Rows.boot_isinstance (pa_cons (pv 1) (pa_cons (pe_bltn (v := .ty "dict") (by rfl) B.b_dict (by decide +kernel) rfl) pa_nil)))) pss_never pss_nil)
      (pss_cons (ps_if (pt_val (pe_callB call_isiT (by rfl) B.b_isinstance PyProof.Rows.boot_isinstance (pa_cons (pv 1) (pa_cons (pe_tup (pa_cons (pe_bltn (v := .ty "tuple") (by rfl) B.b_tuple PyProof.Rows.boot_tuple rfl) (pa_cons (pe_bltn (v := .ty "list") (by rfl) B.b_list PyProof.Rows.boot_list rfl) pa_nil))) pa_nil)))) pss_never pss_nil)
      (pss_cons (ps_if (PW.pt (pw_or (pt_cmpR op_isN (pv 1) pe_non (nomark _)) (pw_or1 (pt_val (pe_callB (call_isT "str") (by rfl) B.b_isinstance PyProof.Rows.boot_isinstance (pa_cons (pv 1) (pa_cons (pe_bltn (v := .ty "str") (by rfl) B.b_str PyProof.Rows.boot_str rfl) pa_nil))))))) (pss_one (ps_ret (pe_and (pe_cmpR op_eq (pv 0) (pv 1) (nomark _)) (pe_one (pe_cmpR op_eq (pe_callB (call_isT "str") (by rfl) B.b_isinstance PyProof.Rows.boot_isinstance (pa_cons (pv 0) (pa_cons (pe_bltn (v := .ty "str") (by rfl) B.b_str PyProof.Rows.boot_str rfl) pa_nil))) (pe_callB (call_isT "str") (by rfl) B.b_isinstance PyProof.Rows.boot_isinstance (pa_cons (pv 1) (pa_cons (pe_bltn (v := .ty "str") (by rfl) B.b_str PyProof.Rows.boot_str rfl) pa_nil))) (nomark _)))))) pss_nil)
      (pss_one (ps_ret (pe_and (pe_callB (call_isT "int") (by rfl) B.b_isinstance PyProof.Rows.boot_isinstance (pa_cons (pv 0) (pa_cons (pe_bltn (v := .ty "int") (by rfl) B.b_int PyProof.Rows.boot_int rfl) pa_nil))) (pe_and (pe_cmpR op_eq (pe_callB (call_isT "bool") (by rfl) B.b_isinstance PyProof.Rows.boot_isinstance (pa_cons (pv 0) (pa_cons (pe_bltn (v := .ty "bool") (by rfl) B.b_bool PyProof.Rows.boot_bool rfl) pa_nil))) (pe_callB (call_isT "bool") (by rfl) B.b_isinstance PyProof.Rows.boot_isinstance (pa_cons (pv 1) (pa_cons (pe_bltn (v := .ty "bool") (by rfl) B.b_bool PyProof.Rows.boot_bool rfl) pa_nil))) (nomark _)) (pe_one (pe_cmpR op_eq (pv 0) (pv 1) (nomark _)))))))))), ?_⟩
  cases hx with
  | non _ =>
    cases hy
    refine ⟨_, rfl, _, "NoneType", false, rfl, .non, by decide +kernel, false, rfl, iteF ?_⟩
    refine ⟨_, rfl, (by show 2 ≤ sizeLine; decide), fun tp ntp => ⟨_, tp, _, .type "NoneType", [.type "tuple", .type "list"], false, rfl, upd_same, .cons (.ty _) (.cons (.ty _) .nil), .base (.non), kitAny_cons (b := false) (kit_ty (by decide +kernel)) (fun _ => kitAny_cons (b := false) (kit_ty (by decide +kernel)) (fun _ => kitAny_nil) (fun z => nomatch z)) (fun z => nomatch z), false, rfl, iteF ?_⟩⟩
    have s1 : Same H (upd H tp (.tup [.ty "tuple", .ty "list"])) := (Same.refl H).put ntp
    refine ⟨_, rfl, rfl, true, rfl, iteT (iteT ?_)⟩
    refine ⟨_, rfl, _, rfl, rfl, decide (V.non = V.non), rfl, ?_⟩
    rw [decide_eq_true rfl]
    refine iteT ?_
    refine ⟨_, rfl, _, "NoneType", false, rfl, .non, by decide +kernel, _, rfl, _, "NoneType", false, rfl, .non, by decide +kernel, rfl, ?_⟩
    exact q _ s1
  | bl _ b =>
    cases hy
    refine ⟨_, rfl, _, "bool", false, rfl, .bl b, by decide +kernel, false, rfl, iteF ?_⟩
    refine ⟨_, rfl, (by show 2 ≤ sizeLine; decide), fun tp ntp => ⟨_, tp, _, .type "bool", [.type "tuple", .type "list"], false, rfl, upd_same, .cons (.ty _) (.cons (.ty _) .nil), .base (.bl b), kitAny_cons (b := false) (kit_ty (by decide +kernel)) (fun _ => kitAny_cons (b := false) (kit_ty (by decide +kernel)) (fun _ => kitAny_nil) (fun z => nomatch z)) (fun z => nomatch z), false, rfl, iteF ?_⟩⟩
    have s1 : Same H (upd H tp (.tup [.ty "tuple", .ty "list"])) := (Same.refl H).put ntp
    refine ⟨_, rfl, rfl, false, rfl, iteF ⟨_, rfl, _, "bool", false, rfl, .bl b, by decide +kernel, false, rfl, iteF ?_⟩⟩
    refine ⟨_, rfl, _, "bool", true, rfl, .bl b, by decide +kernel, true, rfl, iteT ?_⟩
    refine ⟨_, rfl, _, "bool", true, rfl, .bl b, by decide +kernel, _, rfl, _, "bool", true, rfl, .bl b, by decide +kernel, rfl, true, rfl, iteT ?_⟩
    refine ⟨_, rfl, _, rfl, rfl, ?_⟩
    rw [decide_eq_true rfl]
    exact q _ s1
  | int _ i =>
    cases hy
    refine ⟨_, rfl, _, "int", false, rfl, .int i, by decide +kernel, false, rfl, iteF ?_⟩
    refine ⟨_, rfl, (by show 2 ≤ sizeLine; decide), fun tp ntp => ⟨_, tp, _, .type "int", [.type "tuple", .type "list"], false, rfl, upd_same, .cons (.ty _) (.cons (.ty _) .nil), .base (.int i), kitAny_cons (b := false) (kit_ty (by decide +kernel)) (fun _ => kitAny_cons (b := false) (kit_ty (by decide +kernel)) (fun _ => kitAny_nil) (fun z => nomatch z)) (fun z => nomatch z), false, rfl, iteF ?_⟩⟩
    have s1 : Same H (upd H tp (.tup [.ty "tuple", .ty "list"])) := (Same.refl H).put ntp
    refine ⟨_, rfl, rfl, false, rfl, iteF ⟨_, rfl, _, "int", false, rfl, .int i, by decide +kernel, false, rfl, iteF ?_⟩⟩
    refine ⟨_, rfl, _, "int", true, rfl, .int i, by decide +kernel, true, rfl, iteT ?_⟩
    refine ⟨_, rfl, _, "int", false, rfl, .int i, by decide +kernel, _, rfl, _, "int", false, rfl, .int i, by decide +kernel, rfl, true, rfl, iteT ?_⟩
    refine ⟨_, rfl, _, rfl, rfl, ?_⟩
    rw [decide_eq_true rfl]
    exact q _ s1
  | str _ x =>
    cases hy
    refine ⟨_, rfl, _, "str", false, rfl, .str x, by decide +kernel, false, rfl, iteF ?_⟩
    refine ⟨_, rfl, (by show 2 ≤ sizeLine; decide), fun tp ntp => ⟨_, tp, _, .type "str", [.type "tuple", .type "list"], false, rfl, upd_same, .cons (.ty _) (.cons (.ty _) .nil), .base (.str x), kitAny_cons (b := false) (kit_ty (by decide +kernel)) (fun _ => kitAny_cons (b := false) (kit_ty (by decide +kernel)) (fun _ => kitAny_nil) (fun z => nomatch z)) (fun z => nomatch z), false, rfl, iteF ?_⟩⟩
    have s1 : Same H (upd H tp (.tup [.ty "tuple", .ty "list"])) := (Same.refl H).put ntp
    refine ⟨_, rfl, rfl, false, rfl, iteF ⟨_, rfl, _, "str", true, rfl, .str x, by decide +kernel, true, rfl, iteT ?_⟩⟩
    refine ⟨_, rfl, _, rfl, rfl, decide (V.str x = V.str x), rfl, ?_⟩
    rw [decide_eq_true rfl]
    refine iteT ?_
    refine ⟨_, rfl, _, "str", true, rfl, .str x, by decide +kernel, _, rfl, _, "str", true, rfl, .str x, by decide +kernel, rfl, ?_⟩
    exact q _ s1
theorem ok_alike {n : Nat} {f : Addr} {fd : FuncData} (F : Fun K "_law_alike" "_law_alike" s__law_alike f fd) (B : Blt mg) (c__law_alike : Cal P w K mg base CX0 (n + 1) "_law_alike" ["_law_found", "_law_due"] (sp_alike n)) : FnOk P w K mg base CX0 (n + 2) f fd ["_law_found", "_law_due"] (sp_alike (n + 1)) := by
  refine F.ok sc__law_alike (fun vs H Q E h => by obtain ⟨x, y, d, rfl, _⟩ := h; rfl) (fun cdv A outer s H vs Q E hr h => ?_)
  obtain ⟨x, y, d, rfl, hx, hy, q⟩ := h
  refine ⟨_, (pss_cons (ps_if (pt_val (pe_callB (call_isT "dict") (by rfl) B.b_isinstance PyProof.Rows.boot_isinstance (pa_cons (pv 1) (pa_cons (pe_bltn (v := .ty "dict") (by rfl) B.b_dict (by decide +kernel) rfl) pa_nil)))) pss_never pss_nil)
      (pss_cons (ps_if (pt_val (pe_callB call_isiT (by rfl) B.b_isinstance PyProof.Rows.boot_isinstance (pa_cons (pv 1) (pa_cons (pe_tup (pa_cons (pe_bltn (v := .ty "tuple") (by rfl) B.b_tuple PyProof.Rows.boot_tuple rfl) (pa_cons (pe_bltn (v := .ty "list") (by rfl) B.b_list PyProof.Rows.boot_list rfl) pa_nil))) pa_nil)))) (pss_cons (ps_if (PW.pt (pw_or (pt_not (pt_val (pe_callB call_isiT (by rfl) B.b_isinstance PyProof.Rows.boot_isinstance (pa_cons (pv 0) (pa_cons (pe_tup (pa_cons (pe_bltn (v := .ty "tuple") (by rfl) B.b_tuple PyProof.Rows.boot_tuple rfl) (pa_cons (pe_bltn (v := .ty "list") (by rfl) B.b_list PyProof.Rows.boot_list rfl) pa_nil))) pa_nil))))) (pw_or1 (pt_cmpR op_ne (pe_callB (call_isT "list") (by rfl) B.b_isinstance PyProof.Rows.boot_isinstance (pa_cons (pv 0) (pa_cons (pe_bltn (v := .ty "list") (by rfl) B.b_list PyProof.Rows.boot_list rfl) pa_nil))) (pe_callB (call_isT "list") (by rfl) B.b_isinstance PyProof.Rows.boot_isinstance (pa_cons (pv 1) (pa_cons (pe_bltn (v := .ty "list") (by rfl) B.b_list PyProof.Rows.boot_list rfl) pa_nil))) (nomark _))))) (pss_one (ps_ret pe_bl)) pss_nil)
      (pss_cons (ps_if (pt_cmpR op_ne (pe_callB call_len_seq (by rfl) B.b_len PySem.boot_len (pa_cons (pv 0) pa_nil)) (pe_callB call_len_seq (by rfl) B.b_len PySem.boot_len (pa_cons (pv 1) pa_nil)) (nomark _)) (pss_one (ps_ret pe_bl)) pss_nil)
      (pss_one (ps_ret (pe_cmpR (op_eqD hr.units) (pe_lc (own := [("_law_k", 2)]) (g := gName 2) rfl sc__law_alike.nd (pi_range1 (by rfl) B.b_range (pa_cons (pe_callB call_len_seq (by rfl) B.b_len PySem.boot_len (pa_cons (pv 1) pa_nil)) pa_nil)) (blkOk_by (own := [("_law_k", 2)]) (N := ["_law_found", "_law_due", "_law_k"]) (sc := defScope s__law_alike) (by decide +kernel)) (fun _ _ _ _ _ => (pg_name (i := 2) sc__law_alike.nd rfl (Or.inl rfl))) (fun _ _ _ _ _ => (pts_.re (pts_one (pt_not (pt_val (pe_cal c__law_alike hr (pa_cons (pe_ix ix_seq (pv 0) (pv 2) (fun _ _ => rfl)) (pa_cons (pe_ix ix_seq (pv 1) (pv 2) (fun _ _ => rfl)) pa_nil)))))) (by first | (dsimp only [Cx.blk]; done) | exact rfl))) (fun _ _ _ _ _ => (pe_.re (pv 2) (by first | (dsimp only [Cx.blk]; done) | exact rfl)))) (pe_lst pa_nil) (nomark _)))))) pss_nil)
      (pss_cons (ps_if (PW.pt (pw_or (pt_cmpR op_isN (pv 1) pe_non (nomark _)) (pw_or1 (pt_val (pe_callB (call_isT "str") (by rfl) B.b_isinstance PyProof.Rows.boot_isinstance (pa_cons (pv 1) (pa_cons (pe_bltn (v := .ty "str") (by rfl) B.b_str PyProof.Rows.boot_str rfl) pa_nil))))))) (pss_one (ps_ret (pe_and (pe_cmpR op_eq (pv 0) (pv 1) (nomark _)) (pe_one (pe_cmpR op_eq (pe_callB (call_isT "str") (by rfl) B.b_isinstance PyProof.Rows.boot_isinstance (pa_cons (pv 0) (pa_cons (pe_bltn (v := .ty "str") (by rfl) B.b_str PyProof.Rows.boot_str rfl) pa_nil))) (pe_callB (call_isT "str") (by rfl) B.b_isinstance PyProof.Rows.boot_isinstance (pa_cons (pv 1) (pa_cons (pe_bltn (v := .ty "str") (by rfl) B.b_str PyProof.Rows.boot_str rfl) pa_nil))) (nomark _)))))) pss_nil)
      (pss_one (ps_ret (pe_and (pe_callB (call_isT "int") (by rfl) B.b_isinstance PyProof.Rows.boot_isinstance (pa_cons (pv 0) (pa_cons (pe_bltn (v := .ty "int") (by rfl) B.b_int PyProof.Rows.boot_int rfl) pa_nil))) (pe_and (pe_cmpR op_eq (pe_callB (call_isT "bool") (by rfl) B.b_isinstance PyProof.Rows.boot_isinstance (pa_cons (pv 0) (pa_cons (pe_bltn (v := .ty "bool") (by rfl) B.b_bool PyProof.Rows.boot_bool rfl) pa_nil))) (pe_callB (call_isT "bool") (by rfl) B.b_isinstance PyProof.Rows.boot_isinstance (pa_cons (pv 1) (pa_cons (pe_bltn (v := .ty "bool") (by rfl) B.b_bool PyProof.Rows.boot_bool rfl) pa_nil))) (nomark _)) (pe_one (pe_cmpR op_eq (pv 0) (pv 1) (nomark _)))))))))), ?_⟩
  cases hx with
  | non _ =>
    cases hy
    refine ⟨_, rfl, _, "NoneType", false, rfl, .non, by decide +kernel, false, rfl, iteF ?_⟩
    refine ⟨_, rfl, (by show 2 ≤ sizeLine; decide), fun tp ntp => ⟨_, tp, _, .type "NoneType", [.type "tuple", .type "list"], false, rfl, upd_same, .cons (.ty _) (.cons (.ty _) .nil), .base (.non), kitAny_cons (b := false) (kit_ty (by decide +kernel)) (fun _ => kitAny_cons (b := false) (kit_ty (by decide +kernel)) (fun _ => kitAny_nil) (fun z => nomatch z)) (fun z => nomatch z), false, rfl, iteF ?_⟩⟩
    have s1 : Same H (upd H tp (.tup [.ty "tuple", .ty "list"])) := (Same.refl H).put ntp
    refine ⟨_, rfl, rfl, true, rfl, iteT (iteT ?_)⟩
    refine ⟨_, rfl, _, rfl, rfl, decide (V.non = V.non), rfl, ?_⟩
    rw [decide_eq_true rfl]
    refine iteT ?_
    refine ⟨_, rfl, _, "NoneType", false, rfl, .non, by decide +kernel, _, rfl, _, "NoneType", false, rfl, .non, by decide +kernel, rfl, ?_⟩
    exact q _ s1
  | bl _ b =>
    cases hy
    refine ⟨_, rfl, _, "bool", false, rfl, .bl b, by decide +kernel, false, rfl, iteF ?_⟩
    refine ⟨_, rfl, (by show 2 ≤ sizeLine; decide), fun tp ntp => ⟨_, tp, _, .type "bool", [.type "tuple", .type "list"], false, rfl, upd_same, .cons (.ty _) (.cons (.ty _) .nil), .base (.bl b), kitAny_cons (b := false) (kit_ty (by decide +kernel)) (fun _ => kitAny_cons (b := false) (kit_ty (by decide +kernel)) (fun _ => kitAny_nil) (fun z => nomatch z)) (fun z => nomatch z), false, rfl, iteF ?_⟩⟩
    have s1 : Same H (upd H tp (.tup [.ty "tuple", .ty "list"])) := (Same.refl H).put ntp
    refine ⟨_, rfl, rfl, false, rfl, iteF ⟨_, rfl, _, "bool", false, rfl, .bl b, by decide +kernel, false, rfl, iteF ?_⟩⟩
    refine ⟨_, rfl, _, "bool", true, rfl, .bl b, by decide +kernel, true, rfl, iteT ?_⟩
    refine ⟨_, rfl, _, "bool", true, rfl, .bl b, by decide +kernel, _, rfl, _, "bool", true, rfl, .bl b, by decide +kernel, rfl, true, rfl, iteT ?_⟩
    refine ⟨_, rfl, _, rfl, rfl, ?_⟩
    rw [decide_eq_true rfl]
    exact q _ s1
  | int _ i =>
    cases hy
    refine ⟨_, rfl, _, "int", false, rfl, .int i, by decide +kernel, false, rfl, iteF ?_⟩
    refine ⟨_, rfl, (by show 2 ≤ sizeLine; decide), fun tp ntp => ⟨_, tp, _, .type "int", [.type "tuple", .type "list"], false, rfl, upd_same, .cons (.ty _) (.cons (.ty _) .nil), .base (.int i), kitAny_cons (b := false) (kit_ty (by decide +kernel)) (fun _ => kitAny_cons (b := false) (kit_ty (by decide +kernel)) (fun _ => kitAny_nil) (fun z => nomatch z)) (fun z => nomatch z), false, rfl, iteF ?_⟩⟩
    have s1 : Same H (upd H tp (.tup [.ty "tuple", .ty "list"])) := (Same.refl H).put ntp
    refine ⟨_, rfl, rfl, false, rfl, iteF ⟨_, rfl, _, "int", false, rfl, .int i, by decide +kernel, false, rfl, iteF ?_⟩⟩
    refine ⟨_, rfl, _, "int", true, rfl, .int i, by decide +kernel, true, rfl, iteT ?_⟩
    refine ⟨_, rfl, _, "int", false, rfl, .int i, by decide +kernel, _, rfl, _, "int", false, rfl, .int i, by decide +kernel, rfl, true, rfl, iteT ?_⟩
    refine ⟨_, rfl, _, rfl, rfl, ?_⟩
    rw [decide_eq_true rfl]
    exact q _ s1
  | str _ x =>
    cases hy
    refine ⟨_, rfl, _, "str", false, rfl, .str x, by decide +kernel, false, rfl, iteF ?_⟩
    refine ⟨_, rfl, (by show 2 ≤ sizeLine; decide), fun tp ntp => ⟨_, tp, _, .type "str", [.type "tuple", .type "list"], false, rfl, upd_same, .cons (.ty _) (.cons (.ty _) .nil), .base (.str x), kitAny_cons (b := false) (kit_ty (by decide +kernel)) (fun _ => kitAny_cons (b := false) (kit_ty (by decide +kernel)) (fun _ => kitAny_nil) (fun z => nomatch z)) (fun z => nomatch z), false, rfl, iteF ?_⟩⟩
    have s1 : Same H (upd H tp (.tup [.ty "tuple", .ty "list"])) := (Same.refl H).put ntp
    refine ⟨_, rfl, rfl, false, rfl, iteF ⟨_, rfl, _, "str", true, rfl, .str x, by decide +kernel, true, rfl, iteT ?_⟩⟩
    refine ⟨_, rfl, _, rfl, rfl, decide (V.str x = V.str x), rfl, ?_⟩
    rw [decide_eq_true rfl]
    refine iteT ?_
    refine ⟨_, rfl, _, "str", true, rfl, .str x, by decide +kernel, _, rfl, _, "str", true, rfl, .str x, by decide +kernel, rfl, ?_⟩
    exact q _ s1
  | lst e l z all =>
    rename_i p xs ds
    cases hy with
    | lst e2 l2 z2 all2 =>
      rename_i q0 ys
      refine ⟨_, rfl, _, "list", false, rfl, .lst e2, by decide +kernel, false, rfl, iteF ?_⟩
      refine ⟨_, rfl, (by show 2 ≤ sizeLine; decide), fun tp ntp => ?_⟩
      have s1 : Same H (upd H tp (.tup [.ty "tuple", .ty "list"])) := (Same.refl H).put ntp
      refine ⟨_, tp, _, .type "list", [.type "tuple", .type "list"], true, rfl, upd_same, .cons (.ty _) (.cons (.ty _) .nil), .base (.lst (s1 _ _ e2)), kitAny_cons (b := false) (kit_ty (by decide +kernel)) (fun _ => kitAny_cons (b := true) (kit_ty (by decide +kernel)) (fun z => nomatch z) (fun _ => rfl)) (fun z => nomatch z), true, rfl, iteT ?_⟩
      refine ⟨_, rfl, (by show 2 ≤ sizeLine; decide), fun tp2 ntp2 => ?_⟩
      have s2 := s1.put' (o := .tup [.ty "tuple", .ty "list"]) ntp2
      refine ⟨_, tp2, _, .type "list", [.type "tuple", .type "list"], true, rfl, upd_same, .cons (.ty _) (.cons (.ty _) .nil), .base (.lst (s2 _ _ e)), kitAny_cons (b := false) (kit_ty (by decide +kernel)) (fun _ => kitAny_cons (b := true) (kit_ty (by decide +kernel)) (fun z => nomatch z) (fun _ => rfl)) (fun z => nomatch z), true, rfl, iteF ?_⟩
      refine ⟨_, rfl, _, "list", true, rfl, .lst (s2 _ _ e), by decide +kernel, _, rfl, _, "list", true, rfl, .lst (s2 _ _ e2), by decide +kernel, rfl, _, rfl, iteF ?_⟩
      refine ⟨_, rfl, p, _, rfl, .inl (sqL_of (s2 _ _ e)), _, rfl, q0, _, rfl, .inl (sqL_of (s2 _ _ e2)), rfl, _, rfl, ?_⟩
      have el : ((xs.length : Nat) : Int) = (ys.length : Nat) := by rw [l, l2]
      rw [el, decide_eq_true rfl]
      refine iteF ?_
      refine ⟨_, rfl, q0, _, rfl, .inl (sqL_of (s2 _ _ e2)), _, rfl, by omega, by omega, fun D nD => lc_it walk_range (fun i H' => Same H H' ∧ H' D = some (.lst [])) ⟨s2.put' nD, upd_same⟩ (fun _ _ _ _ => trivial) ?_ ?_⟩
      · rintro i y H2 H3 hi ⟨s3, e3⟩ ⟨rfl, hy⟩
        have hy : y = V.int (i : Nat) := by
          rw [hy]
          show V.int (0 + (i : Nat)) = _
          rw [Int.zero_add]
        subst hy
        have hi : i < ys.length := by simpa using hi
        have hix : i < xs.length := by omega
        have hid : i < ds.length := by omega
        refine ⟨rfl, _, rfl, _, rfl, .inl ⟨_, _, (i : Nat), _, rfl, rfl, sqL_of (s3 _ _ e), atI_nat (List.getElem?_eq_getElem hix), ?_⟩⟩
        refine ⟨_, rfl, _, rfl, .inl ⟨_, _, (i : Nat), _, rfl, rfl, sqL_of (s3 _ _ e2), atI_nat (List.getElem?_eq_getElem hi), ?_⟩⟩
        refine ⟨_, _, ds[i], rfl, (all i _ _ (List.getElem?_eq_getElem hix) (List.getElem?_eq_getElem hid)).same s3, (all2 i _ _ (List.getElem?_eq_getElem hi) (List.getElem?_eq_getElem hid)).same s3, fun H4 s4 => ⟨true, rfl, iteF ⟨s3.trans s4, s4 _ _ e3⟩⟩⟩
      · rintro H2 ⟨s3, e3⟩
        refine ⟨Nat.zero_le _, fun p2 np2 => ⟨.list [], .list [], .lst (sqL_of (by rw [upd_ne (ne_of_none e3 np2)]; exact e3)) .nil, .lst sqL_new .nil, rfl, rfl, q _ (s3.put' np2)⟩⟩
  | tup e l z all =>
    rename_i p xs ds
    cases hy with
    | tup e2 l2 z2 all2 =>
      rename_i q0 ys
      refine ⟨_, rfl, _, "tuple", false, rfl, .tup e2, by decide +kernel, false, rfl, iteF ?_⟩
      refine ⟨_, rfl, (by show 2 ≤ sizeLine; decide), fun tp ntp => ?_⟩
      have s1 : Same H (upd H tp (.tup [.ty "tuple", .ty "list"])) := (Same.refl H).put ntp
      refine ⟨_, tp, _, .type "tuple", [.type "tuple", .type "list"], true, rfl, upd_same, .cons (.ty _) (.cons (.ty _) .nil), .base (.tup (s1 _ _ e2)), kitAny_cons (b := true) (kit_ty (by decide +kernel)) (fun z => nomatch z) (fun _ => rfl), true, rfl, iteT ?_⟩
      refine ⟨_, rfl, (by show 2 ≤ sizeLine; decide), fun tp2 ntp2 => ?_⟩
      have s2 := s1.put' (o := .tup [.ty "tuple", .ty "list"]) ntp2
      refine ⟨_, tp2, _, .type "tuple", [.type "tuple", .type "list"], true, rfl, upd_same, .cons (.ty _) (.cons (.ty _) .nil), .base (.tup (s2 _ _ e)), kitAny_cons (b := true) (kit_ty (by decide +kernel)) (fun z => nomatch z) (fun _ => rfl), true, rfl, iteF ?_⟩
      refine ⟨_, rfl, _, "tuple", false, rfl, .tup (s2 _ _ e), by decide +kernel, _, rfl, _, "tuple", false, rfl, .tup (s2 _ _ e2), by decide +kernel, rfl, _, rfl, iteF ?_⟩
      refine ⟨_, rfl, p, _, rfl, .inr (sqT_of (s2 _ _ e)), _, rfl, q0, _, rfl, .inr (sqT_of (s2 _ _ e2)), rfl, _, rfl, ?_⟩
      have el : ((xs.length : Nat) : Int) = (ys.length : Nat) := by rw [l, l2]
      rw [el, decide_eq_true rfl]
      refine iteF ?_
      refine ⟨_, rfl, q0, _, rfl, .inr (sqT_of (s2 _ _ e2)), _, rfl, by omega, by omega, fun D nD => lc_it walk_range (fun i H' => Same H H' ∧ H' D = some (.lst [])) ⟨s2.put' nD, upd_same⟩ (fun _ _ _ _ => trivial) ?_ ?_⟩
      · rintro i y H2 H3 hi ⟨s3, e3⟩ ⟨rfl, hy⟩
        have hy : y = V.int (i : Nat) := by
          rw [hy]
          show V.int (0 + (i : Nat)) = _
          rw [Int.zero_add]
        subst hy
        have hi : i < ys.length := by simpa using hi
        have hix : i < xs.length := by omega
        have hid : i < ds.length := by omega
        refine ⟨rfl, _, rfl, _, rfl, .inr (.inl ⟨_, _, (i : Nat), _, rfl, rfl, sqT_of (s3 _ _ e), atI_nat (List.getElem?_eq_getElem hix), ?_⟩)⟩
        refine ⟨_, rfl, _, rfl, .inr (.inl ⟨_, _, (i : Nat), _, rfl, rfl, sqT_of (s3 _ _ e2), atI_nat (List.getElem?_eq_getElem hi), ?_⟩)⟩
        refine ⟨_, _, ds[i], rfl, (all i _ _ (List.getElem?_eq_getElem hix) (List.getElem?_eq_getElem hid)).same s3, (all2 i _ _ (List.getElem?_eq_getElem hi) (List.getElem?_eq_getElem hid)).same s3, fun H4 s4 => ⟨true, rfl, iteF ⟨s3.trans s4, s4 _ _ e3⟩⟩⟩
      · rintro H2 ⟨s3, e3⟩
        refine ⟨Nat.zero_le _, fun p2 np2 => ⟨.list [], .list [], .lst (sqL_of (by rw [upd_ne (ne_of_none e3 np2)]; exact e3)) .nil, .lst sqL_new .nil, rfl, rfl, q _ (s3.put' np2)⟩⟩
end
end Sc
namespace Sc
open PySem PySem.Spec PyProof.Rows L2
theorem strAt_inj {xs : List Str} {i : Nat} {x : Str} {v : V} (hx : xs[i]? = some x) (h : (xs.map V.str)[i]? = some v) : V.str x = v := by
  rw [List.getElem?_map, hx] at h
  exact Option.some.inj h
theorem find_none {n : Nat} {p : Nat → Bool} (h : ∀ j, j < n → p j = false) : (List.range n).find? p = none := by
  rw [List.find?_eq_none]
  intro j hj
  rw [h j (List.mem_range.mp hj)]
  exact Bool.false_ne_true
theorem find_at {n i : Nat} {p : Nat → Bool} (hi : i < n) (hp : p i = true) (h : ∀ j, j < i → p j = false) : (List.range n).find? p = some i := by
  rw [List.find?_range_eq_some]
  exact ⟨hp, List.mem_range.mpr hi, fun j hj => by rw [h j hj]; rfl⟩
/-- names that texts of a program may have -/
def Txts (xs : List Str) : Prop := ∀ x ∈ xs, x.length ≤ 1000
def errIx (C : Addr) (i : Nat) (H : Hp) (E : XK) : Prop := ∀ H' d, Same H H' → H' d = none → E (.ref C) (some d) (upd H' d (.xd [(("index" : Str), .int i)]))
theorem flat_strs : ∀ xs : List Str, (xs.map V.str).all flatV = true
  | [] => rfl
  | _ :: r => flat_strs r
theorem inV_str {x : Str} : ∀ xs : List Str, inV (.str x) (xs.map V.str) = decide (x ∈ xs)
  | [] => rfl
  | y :: r => by
    show (eqV (.str y) (.str x) || inV (.str x) (r.map V.str)) = _
    rw [inV_str r]
    show ((y == x) || _) = _
    by_cases h : y = x
    · subst h
      simp
    · have e : (y == x) = false := by simpa using h
      rw [e, Bool.false_or]
      simp [List.mem_cons, show ¬ x = y from fun z => h z.symm]
end Sc
namespace Sc
open PySem PySem.Spec PyProof.Rows L2
/-! ### facts -/
theorem sc_check_facts : FnScope ["facts", "index", "name"] ["facts"] (defScope s_check_facts) := ⟨rfl, rfl, rfl, by decide +kernel, rfl, by decide +kernel, by decide +kernel⟩
theorem sc_check_case : FnScope ["facts", "case", "index", "name"] ["facts", "case"] (defScope s_check_case) := ⟨rfl, rfl, rfl, by decide +kernel, rfl, by decide +kernel, by decide +kernel⟩
/-- the i-th fact is wrong -/
def badAt (xs : List Str) (i : Nat) : Bool := decide (i = 60) || ((match xs[i]? with | some x => !isName x | none => false) || !risesAt xs i)
def firstBad (xs : List Str) : Option Nat := if xs = [] then some 0 else (List.range xs.length).find? (badAt xs)
section
variable {P : Program} {w : World} {K : PySem.W.Frag} {mg : Str → Option Value} {base : Heap} {CF CC CN : Addr}
def sp_check_facts (K : PySem.W.Frag) (C : Addr) : Sp := fun vs H Q E => ∃ (a : Addr) (xs : List Str), vs = [.ref a] ∧ SqT K H a (xs.map V.str) ∧ Txts xs ∧ xs.length ≤ 1000 ∧
  (firstBad xs = none → ∀ H', Same H H' → Q .non H') ∧ (∀ i, firstBad xs = some i → errIx C i H E)
theorem ok_check_facts {f : Addr} {fd : FuncData} (F : Fun K "check_facts" "check_facts" s_check_facts f fd) (B : Blt mg) (mM : ∃ t, mg "MOST_FACTS" = some (.int 60 t))
    (e_InvalidFacts : ErrMk P w K mg base "InvalidFacts" CF ["self", "index"] (sp_init1 CF "index")) (c_is_name : Cal P w K mg base CX0 1 "is_name" ["value"] sp_is_name) (c_rises : Cal P w K mg base CX0 1 "rises" ["names", "index"] (sp_rises K)) :
    FnOk P w K mg base (L2.CX P w) 3 f fd ["facts"] (sp_check_facts K CF) := by
  obtain ⟨t1, mM⟩ := mM
  refine F.okX sc_check_facts (fun vs H Q E h => by obtain ⟨a, xs, rfl, _⟩ := h; rfl) (fun cdv A outer s H vs Q E hr h => ?_)
  obtain ⟨a, xs, rfl, hS, hT, hl, q, e⟩ := h
  refine ⟨_, (pss_cons (ps_if (pt_not (pt_tru (pv 0) (by intro _; rfl))) (pss_one (ps_raise rfl (takes_of rfl rfl rfl rfl) (pmk_err1 e_InvalidFacts (hr.mono (by decide)) pe_int))) pss_nil)
      (pss_one (ps_for (passes_of rfl) rfl (pi_enumT (by rfl) B.b_enumerate (pa_cons (pv 0) pa_nil)) (pg_tup (by rfl) (pgs_cons (pg_name (i := 1) sc_check_facts.nd rfl (Or.inl rfl)) (pgs_cons (pg_name (i := 2) sc_check_facts.nd rfl (Or.inl rfl)) pgs_nil))) (pss_one (ps_if (PW.pt (pw_or (pt_cmpR op_eq (pv 1) (pe_glob (v := .int 60) rfl mM ⟨_, rfl⟩) (nomark _)) (pw_or (pt_not (pt_val (pe_cal c_is_name (hr.mono (by decide)) (pa_cons (pv 2) pa_nil)))) (pw_or1 (pt_not (pt_val (pe_cal c_rises (hr.mono (by decide)) (pa_cons (pv 0) (pa_cons (pv 1) pa_nil))))))))) (pss_one (ps_raise rfl (takes_of rfl rfl rfl rfl) (pmk_err1 e_InvalidFacts (hr.mono (by decide)) (pv 1)))) pss_nil))))), ?_⟩
  refine ⟨.ref a, rfl, _, .inr (.inl ⟨_, hS, rfl⟩), bcase (fun e0 => ?_) (fun e0 => ?_)⟩
  · have ex : xs = [] := by
      cases xs with
      | nil => rfl
      | cons x r => exact Bool.noConfusion (show false = true from e0)
    exact ⟨fok_nat (i := 0) (by decide), fun d nd => e 0 (by unfold firstBad; rw [if_pos ex]) H d (Same.refl H) nd⟩
  · have ex : xs ≠ [] := fun z => by
      subst z
      exact Bool.noConfusion (show true = false from e0)
    have rz : ∀ {i : Nat} {H' : Hp}, i < xs.length → (∀ j, j < i → badAt xs j = false) → badAt xs i = true → Same H H' → ∀ d, H' d = none → E (.ref CF) (some d) (upd H' d (.xd [(("index" : Str), .int (i : Nat))])) :=
      fun {i H'} hi hb hp s d nd => e i (by unfold firstBad; rw [if_neg ex]; exact find_at hi hp hb) H' d s nd
    refine ⟨.ref a, rfl, a, _, rfl, hS, for_it walk_enumT (fun i σ H' => ∃ y1 y2, σ = [some (.ref a), y1, y2] ∧ Same H H' ∧ ∀ j, j < i → badAt xs j = false)
      ⟨none, none, rfl, Same.refl H, fun j hj => absurd hj (Nat.not_lt_zero j)⟩ (fun i σ H' _ ⟨_, _, _, s, _⟩ => s.tup hS) ?_ ?_⟩
    · rintro i x σ H2 H3 hi ⟨y1, y2, rfl, s, hb⟩ ⟨T, v1, v2, rfl, nT, rfl, h1, h2⟩
      obtain rfl : V.int (i : Nat) = v1 := Option.some.inj h1
      rw [List.length_map] at hi
      have hx : xs[i]? = some xs[i] := List.getElem?_eq_getElem hi
      obtain rfl : V.str xs[i] = v2 := strAt_inj hx h2
      have s3 : Same H (upd H2 T (.tup [.int (i : Nat), .str xs[i]])) := s.put' nT
      have rz := fun {H' : Hp} (hp : badAt xs i = true) (sH : Same H H') => rz hi hb hp sH
      refine ⟨T, [.int (i : Nat), .str xs[i]], rfl, sqT_new, rfl, _, _, rfl, _, _, rfl, rfl, ?_⟩
      refine ⟨_, rfl, rfl, _, rfl, bcase (fun c1 => ?_) (fun c1 => ?_)⟩
      · have e60 : i = 60 := by have := V.int.inj (of_decide_eq_true c1); omega
        refine iteT ⟨_, rfl, fok_nat (by omega), rz (by unfold badAt; rw [decide_eq_true e60, Bool.true_or]) s3⟩
      · have n60 : i ≠ 60 := fun z => by subst z; exact Bool.noConfusion (c1.symm.trans (decide_eq_true rfl))
        refine ⟨_, rfl, xs[i], rfl, Nat.le_trans (hT _ (List.getElem_mem hi)) (by rw [sizeLine_eq]; decide), fun H4 s4 => ⟨_, rfl, bcase (fun c2 => ?_) (fun c2 => ?_)⟩⟩
        · refine iteT ⟨_, rfl, fok_nat (by omega), rz (by unfold badAt; rw [hx, decide_eq_false n60, Bool.false_or]; show (!isName xs[i] || _) = true; rw [c2, Bool.true_or]) (s3.trans s4)⟩
        · refine ⟨.ref a, rfl, _, rfl, a, xs, i, rfl, (s3.trans s4).tup hS, hi, _, rfl, bcase (fun c3 => ?_) (fun c3 => ?_)⟩
          · exact ⟨_, rfl, fok_nat (by omega), rz (by unfold badAt; rw [hx, c3, Bool.or_true, Bool.or_true]) (s3.trans s4)⟩
          · refine ⟨_, _, rfl, s3.trans s4, fun j hj => ?_⟩
            by_cases hj2 : j < i
            · exact hb j hj2
            · have ej : j = i := by omega
              subst ej
              unfold badAt
              rw [hx, decide_eq_false n60, c3, Bool.or_false, Bool.false_or]
              exact c2
    · rintro σ H2 ⟨y1, y2, rfl, s, hb⟩
      rw [List.length_map] at hb
      exact q (by unfold firstBad; rw [if_neg ex]; exact find_none hb) H2 s
/-- the i-th name of a case is wrong -/
def outAt (facts cs : List Str) (i : Nat) : Bool := (match cs[i]? with | some x => !decide (x ∈ facts) | none => false) || !risesAt cs i
def firstOut (facts cs : List Str) : Option Nat := (List.range cs.length).find? (outAt facts cs)
def sp_check_case (K : PySem.W.Frag) (C : Addr) : Sp := fun vs H Q E => ∃ (a b : Addr) (xs cs : List Str), vs = [.ref a, .ref b] ∧ SqT K H a (xs.map V.str) ∧ SqT K H b (cs.map V.str) ∧ cs.length ≤ 1000 ∧
  (firstOut xs cs = none → ∀ H', Same H H' → Q .non H') ∧ (∀ i, firstOut xs cs = some i → errIx C i H E)
theorem ok_check_case {f : Addr} {fd : FuncData} (F : Fun K "check_case" "check_case" s_check_case f fd) (B : Blt mg)
    (e_InvalidCase : ErrMk P w K mg base "InvalidCase" CC ["self", "index"] (sp_init1 CC "index")) (c_rises : Cal P w K mg base CX0 1 "rises" ["names", "index"] (sp_rises K)) :
    FnOk P w K mg base (L2.CX P w) 3 f fd ["facts", "case"] (sp_check_case K CC) := by
  refine F.okX sc_check_case (fun vs H Q E h => by obtain ⟨a, b, xs, cs, rfl, _⟩ := h; rfl) (fun cdv A outer s H vs Q E hr h => ?_)
  obtain ⟨a, b, xs, cs, rfl, hS, hC, hl, q, e⟩ := h
  refine ⟨_, (pss_one (ps_for (passes_of rfl) rfl (pi_enumT (by rfl) B.b_enumerate (pa_cons (pv 1) pa_nil)) (pg_tup (by rfl) (pgs_cons (pg_name (i := 2) sc_check_case.nd rfl (Or.inl rfl)) (pgs_cons (pg_name (i := 3) sc_check_case.nd rfl (Or.inl rfl)) pgs_nil))) (pss_one (ps_if (PW.pt (pw_or (pt_cmpR op_notIn_seq (pv 3) (pv 0) rfl) (pw_or1 (pt_not (pt_val (pe_cal c_rises (hr.mono (by decide)) (pa_cons (pv 1) (pa_cons (pv 2) pa_nil)))))))) (pss_one (ps_raise rfl (takes_of rfl rfl rfl rfl) (pmk_err1 e_InvalidCase (hr.mono (by decide)) (pv 2)))) pss_nil)))), ?_⟩
  refine ⟨.ref b, rfl, b, _, rfl, hC, for_it walk_enumT (fun i σ H' => ∃ y1 y2, σ = [some (.ref a), some (.ref b), y1, y2] ∧ Same H H' ∧ ∀ j, j < i → outAt xs cs j = false)
    ⟨none, none, rfl, Same.refl H, fun j hj => absurd hj (Nat.not_lt_zero j)⟩ (fun i σ H' _ ⟨_, _, _, s, _⟩ => s.tup hC) ?_ ?_⟩
  · rintro i x σ H2 H3 hi ⟨y1, y2, rfl, s, hb⟩ ⟨T, v1, v2, rfl, nT, rfl, h1, h2⟩
    obtain rfl : V.int (i : Nat) = v1 := Option.some.inj h1
    rw [List.length_map] at hi
    have hx : cs[i]? = some cs[i] := List.getElem?_eq_getElem hi
    obtain rfl : V.str cs[i] = v2 := strAt_inj hx h2
    have s3 : Same H (upd H2 T (.tup [.int (i : Nat), .str cs[i]])) := s.put' nT
    have rz : ∀ {H' : Hp}, outAt xs cs i = true → Same H H' → ∀ d, H' d = none → E (.ref CC) (some d) (upd H' d (.xd [(("index" : Str), .int (i : Nat))])) := fun {H'} hp sH d nd => e i (find_at hi hp hb) H' d sH nd
    refine ⟨T, [.int (i : Nat), .str cs[i]], rfl, sqT_new, rfl, _, _, rfl, _, _, rfl, rfl, ?_⟩
    refine ⟨.str cs[i], rfl, .ref a, rfl, a, _, rfl, .inr (s3.tup hS), rfl, flat_strs xs, _, rfl, bcase (fun c1 => ?_) (fun c1 => ?_)⟩
    · have c1 : (!decide (cs[i] ∈ xs)) = true := by rw [← inV_str]; exact c1
      exact iteT ⟨_, rfl, fok_nat (by omega), rz (by unfold outAt; rw [hx]; show (!decide (cs[i] ∈ xs) || _) = true; rw [c1, Bool.true_or]) s3⟩
    · have c1 : (!decide (cs[i] ∈ xs)) = false := by rw [← inV_str]; exact c1
      refine ⟨.ref b, rfl, _, rfl, b, cs, i, rfl, s3.tup hC, hi, _, rfl, bcase (fun c3 => ?_) (fun c3 => ?_)⟩
      · exact ⟨_, rfl, fok_nat (by omega), rz (by unfold outAt; rw [hx, c3, Bool.or_true]) s3⟩
      · refine ⟨_, _, rfl, s3, fun j hj => ?_⟩
        by_cases hj2 : j < i
        · exact hb j hj2
        · have ej : j = i := by omega
          subst ej
          unfold outAt
          rw [hx, c3, Bool.or_false]
          exact c1
  · rintro σ H2 ⟨y1, y2, rfl, s, hb⟩
    rw [List.length_map] at hb
    exact q (find_none hb) H2 s
end
end Sc
namespace Sc
open PySem PySem.Spec PyProof.Rows L2
theorem adjust_rev (n : Nat) : Builtin.Slice.sliceAdjust none none (-1) (n : Int) = ((n : Int) - 1, -1) := by
  unfold Builtin.Slice.sliceAdjust
  simp
theorem places_rev (n : Nat) : Builtin.Slice.slicePlaces ((n : Int) - 1) (-1) (-1) = n := by
  unfold Builtin.Slice.slicePlaces
  simp
  omega
section
variable {prog : Program} {w : World} {A : Around} {E : Value → Shared → Prop} {s : Shared}
theorem slApplied_rev {sl : Addr} {vl vu vs : Value} {n : Nat} {Q : Int × Int × Nat → Shared → Prop} (hs : s.heap.IsSliceOf sl vl vu vs) (pl : IsPart vl none) (pu : IsPart vu none) (ps : IsPart vs (some (-1)))
    (h : Q ((n : Int) - 1, -1, n) s) : wpAny (model prog w) A (Builtin.Slice.sliceApplied (.ref sl) (pure (n : Int))) Q E s := by
  obtain ⟨os, hos, hcs, hds⟩ := id hs
  unfold Builtin.Slice.sliceApplied
  refine wpAny_bind (wpAny_bind (wpAny_field hos hds rfl (wpAny_bind (wpAny_field hos hds rfl (wpAny_bind (wpAny_field hos hds rfl (wpAny_pure (wpAny_bind (HT.slicePart_ ps ?_)))))))))
  dsimp only [Option.getD]
  rw [if_neg (by decide)]
  refine wpAny_bind (HT.slicePart_ pl (wpAny_bind (HT.slicePart_ pu (wpAny_bind (wpAny_pure ?_)))))
  rw [adjust_rev]
  dsimp only
  rw [places_rev]
  exact wpAny_pure h
theorem fm_congr {α β : Type} {f g : α → Option β} : ∀ {l : List α}, (∀ x ∈ l, f x = g x) → l.filterMap f = l.filterMap g
  | [], _ => rfl
  | x :: r, h => by
    rw [List.filterMap_cons, List.filterMap_cons, h x List.mem_cons_self, fm_congr (l := r) fun y hy => h y (List.mem_cons_of_mem x hy)]
theorem pick_rev (xs : Array Value) : List.filterMap (fun (k : Nat) => xs[((xs.size : Int) - 1 + (k : Int) * -1).toNat]?) (List.range xs.size) = xs.toList.reverse := by
  have h : ∀ k ∈ List.range xs.size, xs[((xs.size : Int) - 1 + (k : Int) * -1).toNat]? = xs.toList.reverse[k]? := fun k hk => by
    have hk := List.mem_range.mp hk
    have e : ((xs.size : Int) - 1 + (k : Int) * -1).toNat = xs.size - 1 - k := by omega
    rw [e, List.getElem?_reverse (by rw [Array.length_toList]; exact hk), Array.length_toList, Array.getElem?_toList]
  rw [fm_congr h]
  have e : ∀ l : List Value, List.filterMap (fun k => l[k]?) (List.range l.length) = l := fun l => by
    apply List.ext_getElem?
    intro i
    have g : List.filterMap (fun k => l[k]?) (List.range l.length) = (List.range l.length).map (fun k => l[k]?.getD .none) := by
      rw [← List.filterMap_eq_map]
      apply fm_congr
      intro k hk
      have hk := List.mem_range.mp hk
      show l[k]? = some (l[k]?.getD .none)
      rw [List.getElem?_eq_getElem hk]
      rfl
    rw [g, List.getElem?_map]
    by_cases hi : i < l.length
    · rw [List.getElem?_range hi, List.getElem?_eq_getElem hi]
      show some (l[i]?.getD .none) = _
      rw [List.getElem?_eq_getElem hi]
      rfl
    · rw [List.getElem?_eq_none (by rw [List.length_range]; omega), List.getElem?_eq_none (by omega)]
      rfl
  have e2 := e xs.toList.reverse
  rw [List.length_reverse, Array.length_toList] at e2
  exact e2
theorem getItem_tuple_rev {t sl : Addr} {items : Array Value} {vl vu vs : Value} {Q : Value → Shared → Prop} (ht : IsTup s.heap t items) (hs : s.heap.IsSliceOf sl vl vu vs) (pl : IsPart vl none) (pu : IsPart vu none) (ps : IsPart vs (some (-1)))
    (h : Q (.ref s.heap.objs.size) { heap := s.heap.push { cls := .type "tuple", data := .seq items.toList.reverse.toArray }, gens := s.gens, drawn := s.drawn, toks := s.toks, os := s.os }) (hsz : items.size ≤ sizeLine) :
    wpAny (model prog w) A (getItem (.ref t) (.ref sl)) Q E s := by
  obtain ⟨os, hos, hcs, hds⟩ := id hs
  refine wpAny_holding (wpAny_bind (wpAny_sequenceKey ht.typeIs (by decide) (wpAny_bind (wpAny_callSpecial?_slot ht.typeIs slot_tuple_getitem (wpAny_call_entry slot_tuple_getitem ht.typeIs entry_tuple_getitem ?_)))))
  have hTs : s.TypeIs (.ref sl) "slice" := ⟨os, hos, hcs⟩
  unfold Builtin.«tuple.__getitem__»
  rw [show slotArgs "__getitem__" 1 { pos := [Value.ref t, Value.ref sl] } = pure (.ref t, [.ref sl]) from rfl, pure_bind]
  dsimp only
  refine wpAny_bind (tupleItemsOf_ ht (wpAny_bind (wpAny_typeOf hTs ?_)))
  rw [if_pos (by decide)]
  refine wpAny_bind (slApplied_rev hs pl pu ps ?_)
  dsimp only
  rw [if_neg (by simp)]
  rw [pick_rev]
  exact wpAny_bind (wpAny_newObj_type (wpAny_pure ⟨_, rfl, wpAny_pure h⟩) (by show _ ≤ sizeLine; rw [List.size_toArray, List.length_reverse, Array.length_toList]; exact hsz))
end
/-- t[::-1], t a tuple: a new tuple -/
def tRevT (K : PySem.W.Frag) (te : TE) : TE := fun σ H Q => te σ H fun x H1 => ∃ a xs, x = .ref a ∧ SqT K H1 a xs ∧ ∀ p, H1 p = none → Q (.ref p) (upd H1 p (.tup xs.reverse))
theorem pe_revT {X : Cx} {e : Expr} {te : TE} {k : Nat} {p1 p2 p3 pos : Pos} (he : PE X e te) :
    PE X (.Subscript e (.Slice none none (some (.UnaryOp .USub (.Constant (.int 1) k p1) p2)) p3) pos) (tRevT X.K te) := by
  refine ⟨fun pins s σ H Q I h => Subscript_ (thn (he.run pins s σ H _ I h) fun v s1 hh => ?_)⟩
  obtain ⟨x, H1, I1, r1, a, xs, rfl, hx, q⟩ := hh
  cases r1
  have hst : PO X (some (.UnaryOp .USub (.Constant (.int 1) k p1) p2)) _ := po_some (pe_un un_neg pe_int)
  refine wpAny_Slice (thn (po_none.run pins s1 σ H1 (fun o H2 => o = none ∧ H2 = H1) I1 ⟨rfl, rfl⟩) fun vl s2 h2 => ?_)
  obtain ⟨l, H2, I2, pl, rfl, rfl⟩ := h2
  refine thn (po_none.run pins s2 σ H2 (fun o H3 => o = none ∧ H3 = H2) I2 ⟨rfl, rfl⟩) fun vu s3 h3 => ?_
  obtain ⟨u, H3, I3, pu, rfl, rfl⟩ := h3
  refine thn (hst.run pins s3 σ H3 (fun o H4 => o = some (-1) ∧ H4 = H3) I3 ⟨1, rfl, -1, rfl, rfl, rfl⟩) fun vs s4 h4 => ?_
  obtain ⟨st, H4, I4, ps, rfl, rfl⟩ := h4
  have I5 := Inv.kept (t' := s4.toks) I4 fun b ob q => Heap.get?_push_of_some { cls := Value.type "slice", data := Data.fields #[vl, vu, vs] } q
  obtain ⟨its, r, ht, hz⟩ := Inv.tuple I5 hx
  have hl := Vals.length r
  refine tail_any (ops := [.ref a, .ref s4.heap.objs.size]) ht.typeIs slot_tuple_getitem.lookup (getItem_tuple_rev ht (Heap.IsSliceOf.new s4.heap vl vu vs) pl pu ps ?_ (by rw [List.size_toArray, ← hl]; exact hz)) rfl
  have hp : ∀ b u, (s4.heap.push { cls := Value.type "slice", data := Data.fields #[vl, vu, vs] }).get? b = some u → ((s4.heap.push { cls := Value.type "slice", data := Data.fields #[vl, vu, vs] }).push { cls := .type "tuple", data := .seq its.reverse.toArray }).get? b = some u := fun b ob q => Heap.get?_push_of_some _ q
  refine ⟨.ref _, _, Inv.laid I5 hp (Nat.le_refl _) ?_, rfl, q _ (I5.hok.fresh (Nat.le_refl _))⟩
  dsimp only [ObjOk]
  exact ⟨by rw [List.length_reverse]; exact hz, its.reverse, r.reverse, _, Heap.get?_push_size _ (ho := rfl), rfl, _, rfl⟩
end Sc
namespace Sc
open PySem PySem.Spec PyProof.Rows L2
theorem sc_bits_of : FnScope ["facts", "names", "place", "name"] ["facts", "names"] (defScope s_bits_of) := ⟨rfl, rfl, rfl, by decide +kernel, rfl, by decide +kernel, by decide +kernel⟩
theorem sc_names_of : FnScope ["facts", "bits", "place", "name"] ["facts", "bits"] (defScope s_names_of) := ⟨rfl, rfl, rfl, by decide +kernel, rfl, by decide +kernel, by decide +kernel⟩
section
variable {P : Program} {w : World} {K : PySem.W.Frag} {mg : Str → Option Value} {base : Heap}
/-- the j-th fact is among the names -/
def heldAt (facts names : List Str) (j : Nat) : Bool := match facts[j]? with | some x => decide (x ∈ names) | none => false
def bitsL (facts names : List Str) (i : Nat) : List Int := ((List.range i).filter (heldAt facts names)).map fun j => 2 ^ j
def bitsOf (facts names : List Str) : Int := (bitsL facts names facts.length).sum
theorem bitsL_more {facts names : List Str} {i : Nat} (h : heldAt facts names i = true) : bitsL facts names (i + 1) = bitsL facts names i ++ [2 ^ i] := by
  unfold bitsL
  rw [List.range_succ, List.filter_append, List.map_append]
  simp [h]
theorem bitsL_same {facts names : List Str} {i : Nat} (h : heldAt facts names i = false) : bitsL facts names (i + 1) = bitsL facts names i := by
  unfold bitsL
  rw [List.range_succ, List.filter_append, List.map_append]
  simp [h]
theorem bitsL_len {facts names : List Str} {i : Nat} : (bitsL facts names i).length ≤ i := by
  unfold bitsL
  rw [List.length_map]
  exact Nat.le_trans (List.length_filter_le _ _) (by rw [List.length_range]; exact Nat.le_refl i)
def sp_bits_of (K : PySem.W.Frag) : Sp := fun vs H Q _ => ∃ (a b : Addr) (xs cs : List Str), vs = [.ref a, .ref b] ∧ SqT K H a (xs.map V.str) ∧ SqT K H b (cs.map V.str) ∧ xs.length ≤ 1000 ∧ ∀ H', Same H H' → Q (.int (bitsOf xs cs)) H'
theorem ok_bits_of {f : Addr} {fd : FuncData} (F : Fun K "bits_of" "bits_of" s_bits_of f fd) (B : Blt mg) : FnOk P w K mg base CX0 1 f fd ["facts", "names"] (sp_bits_of K) := by
  refine F.ok sc_bits_of (fun vs H Q E h => by obtain ⟨a, b, xs, cs, rfl, _⟩ := h; rfl) (fun cdv A outer s H vs Q E hr h => ?_)
  obtain ⟨a, b, xs, cs, rfl, hS, hC, hl, q⟩ := h
  refine ⟨_, (pss_one (ps_ret (pe_callB (cr_sum rfl) (by rfl) B.b_sum PyProof.Rows.boot_sum (pa_cons (pe_lc (own := [("place", 2), ("name", 3)]) (g := gTup K 2 (gCons (gName 2) (gCons (gName 3) gNil))) rfl sc_bits_of.nd (pi_enumT (by rfl) B.b_enumerate (pa_cons (pv 0) pa_nil)) (blkOk_by (own := [("place", 2), ("name", 3)]) (N := ["facts", "names", "place", "name"]) (sc := defScope s_bits_of) (by decide +kernel)) (fun _ _ _ _ _ => (pg_tup (by rfl) (pgs_cons (pg_name (i := 2) sc_bits_of.nd rfl (Or.inl rfl)) (pgs_cons (pg_name (i := 3) sc_bits_of.nd rfl (Or.inl rfl)) pgs_nil)))) (fun _ _ _ _ _ => (pts_.re (pts_one (pt_cmpR op_in_seq (pv 3) (pv 1) rfl)) (by first | (dsimp only [Cx.blk]; done) | exact rfl))) (fun _ _ _ _ _ => (pe_.re (pe_op op_shl pe_int (pv 2)) (by first | (dsimp only [Cx.blk]; done) | exact rfl)))) pa_nil)))), ?_⟩
  refine ⟨.ref a, rfl, a, _, rfl, hS, fun D nD => lc_it walk_enumT (fun i H' => Same H H' ∧ H' D = some (.lst ((bitsL xs cs i).map V.int))) ⟨(Same.refl H).put nD, upd_same⟩ (fun _ _ _ h => h.1.tup hS) ?_ ?_⟩
  · rintro i y H2 H3 hi ⟨s, e⟩ ⟨T, v1, v2, rfl, nT, rfl, h1, h2⟩
    obtain rfl : V.int (i : Nat) = v1 := Option.some.inj h1
    rw [List.length_map] at hi
    have hx : xs[i]? = some xs[i] := List.getElem?_eq_getElem hi
    obtain rfl : V.str xs[i] = v2 := strAt_inj hx h2
    have s3 : Same H (upd H2 T (.tup [.int (i : Nat), .str xs[i]])) := s.put' nT
    have e3 : (upd H2 T (.tup [.int (i : Nat), .str xs[i]])) D = some (.lst ((bitsL xs cs i).map V.int)) := by rw [upd_ne (ne_of_none e nT)]; exact e
    have eh : heldAt xs cs i = decide (xs[i] ∈ cs) := by unfold heldAt; rw [hx]
    refine ⟨T, [.int (i : Nat), .str xs[i]], rfl, sqT_new, rfl, _, _, rfl, _, _, rfl, rfl, rfl, ?_⟩
    refine ⟨.str xs[i], rfl, .ref b, rfl, b, _, rfl, .inr (s3.tup hC), rfl, flat_strs cs, _, rfl, bcase (fun c1 => ?_) (fun c1 => ?_)⟩
    · have c1 : heldAt xs cs i = true := by rw [eh, ← inV_str]; exact c1
      refine ⟨.int (i : Nat), rfl, 1, i, rfl, rfl, ⟨by omega, by omega, by decide⟩, grow (acc := fun i => (bitsL xs cs i).map V.int) nD s3 e3 ?_ ?_⟩
      · rw [List.length_map]
        exact small1000 (Nat.le_trans bitsL_len (by omega))
      · show List.map V.int _ = _
        rw [bitsL_more c1, List.map_append]
        show _ ++ [V.int (2 ^ i)] = _ ++ [V.int (1 * 2 ^ i)]
        rw [Int.one_mul]
    · have c1 : heldAt xs cs i = false := by rw [eh, ← inV_str]; exact c1
      refine ⟨s3, ?_⟩
      rw [bitsL_same c1]
      exact e3
  · rintro H2 ⟨s, e⟩
    rw [List.length_map] at e
    exact ⟨D, bitsL xs cs xs.length, rfl, sqL_of e, q H2 s⟩
def bitAt (n : Int) (j : Nat) : Bool := Builtin.bitAnd (n / 2 ^ j) 1 != 0
def namesL (facts : List Str) (n : Int) (i : Nat) : List Str := (List.range i).filterMap fun j => if bitAt n j = true then facts[j]? else none
def namesOf (facts : List Str) (n : Int) : List Str := namesL facts n facts.length
theorem namesL_more {facts : List Str} {n : Int} {i : Nat} {x : Str} (h : bitAt n i = true) (hx : facts[i]? = some x) : namesL facts n (i + 1) = namesL facts n i ++ [x] := by
  unfold namesL
  rw [List.range_succ, List.filterMap_append]
  simp [h, hx]
theorem namesL_same {facts : List Str} {n : Int} {i : Nat} (h : bitAt n i = false) : namesL facts n (i + 1) = namesL facts n i := by
  unfold namesL
  rw [List.range_succ, List.filterMap_append]
  simp [h]
theorem namesL_len {facts : List Str} {n : Int} {i : Nat} : (namesL facts n i).length ≤ i := by
  unfold namesL
  exact Nat.le_trans (List.length_filterMap_le _ _) (by rw [List.length_range]; exact Nat.le_refl i)
def sp_names_of (K : PySem.W.Frag) : Sp := fun vs H Q _ => ∃ (a : Addr) (xs : List Str) (n : Int), vs = [.ref a, .int n] ∧ SqT K H a (xs.map V.str) ∧ xs.length ≤ 1000 ∧
  ∀ H' p, Same H H' → H' p = some (.tup ((namesOf xs n).map V.str)) → Q (.ref p) H'
theorem ok_names_of {f : Addr} {fd : FuncData} (F : Fun K "names_of" "names_of" s_names_of f fd) (B : Blt mg) : FnOk P w K mg base CX0 1 f fd ["facts", "bits"] (sp_names_of K) := by
  refine F.ok sc_names_of (fun vs H Q E h => by obtain ⟨a, xs, n, rfl, _⟩ := h; rfl) (fun cdv A outer s H vs Q E hr h => ?_)
  obtain ⟨a, xs, n, rfl, hS, hl, q⟩ := h
  refine ⟨_, (pss_one (ps_ret (pe_callTy call_tuple_of (by rfl) B.b_tuple PyProof.Rows.boot_tuple (pa_cons (pe_lc (own := [("place", 2), ("name", 3)]) (g := gTup K 2 (gCons (gName 2) (gCons (gName 3) gNil))) rfl sc_names_of.nd (pi_enumT (by rfl) B.b_enumerate (pa_cons (pv 0) pa_nil)) (blkOk_by (own := [("place", 2), ("name", 3)]) (N := ["facts", "bits", "place", "name"]) (sc := defScope s_names_of) (by decide +kernel)) (fun _ _ _ _ _ => (pg_tup (by rfl) (pgs_cons (pg_name (i := 2) sc_names_of.nd rfl (Or.inl rfl)) (pgs_cons (pg_name (i := 3) sc_names_of.nd rfl (Or.inl rfl)) pgs_nil)))) (fun _ _ _ _ _ => (pts_.re (pts_one (pt_tru (pe_op op_and (pe_op op_shr (pv 1) (pv 2)) pe_int) (by intro _; rfl))) (by first | (dsimp only [Cx.blk]; done) | exact rfl))) (fun _ _ _ _ _ => (pe_.re (pv 3) (by first | (dsimp only [Cx.blk]; done) | exact rfl)))) pa_nil)))), ?_⟩
  refine ⟨.ref a, rfl, a, _, rfl, hS, fun D nD => lc_it walk_enumT (fun i H' => Same H H' ∧ H' D = some (.lst ((namesL xs n i).map V.str))) ⟨(Same.refl H).put nD, upd_same⟩ (fun _ _ _ h => h.1.tup hS) ?_ ?_⟩
  · rintro i y H2 H3 hi ⟨s, e⟩ ⟨T, v1, v2, rfl, nT, rfl, h1, h2⟩
    obtain rfl : V.int (i : Nat) = v1 := Option.some.inj h1
    rw [List.length_map] at hi
    have hx : xs[i]? = some xs[i] := List.getElem?_eq_getElem hi
    obtain rfl : V.str xs[i] = v2 := strAt_inj hx h2
    have s3 : Same H (upd H2 T (.tup [.int (i : Nat), .str xs[i]])) := s.put' nT
    have e3 : (upd H2 T (.tup [.int (i : Nat), .str xs[i]])) D = some (.lst ((namesL xs n i).map V.str)) := by rw [upd_ne (ne_of_none e nT)]; exact e
    refine ⟨T, [.int (i : Nat), .str xs[i]], rfl, sqT_new, rfl, _, _, rfl, _, _, rfl, rfl, rfl, ?_⟩
    refine ⟨.int n, rfl, .int (i : Nat), rfl, n, i, rfl, rfl, by omega, _, 1, rfl, rfl, bitAt n i, rfl, bcase (fun c1 => ?_) (fun c1 => ?_)⟩
    · refine ⟨.str xs[i], rfl, grow (acc := fun i => (namesL xs n i).map V.str) nD s3 e3 ?_ ?_⟩
      · rw [List.length_map]
        exact small1000 (Nat.le_trans namesL_len (by omega))
      · show List.map V.str _ = _
        rw [namesL_more c1 hx, List.map_append]
        rfl
    · refine ⟨s3, ?_⟩
      rw [namesL_same c1]
      exact e3
  · rintro H2 ⟨s, e⟩
    rw [List.length_map] at e
    refine ⟨D, _, rfl, .inl ⟨sqL_of e, fun p np => q _ p (s.put' np) upd_same⟩⟩
theorem bit_mod (n : Int) (j : Nat) : bitAt n j = decide (n / 2 ^ j % 2 = 1) := by
  unfold bitAt
  have e : Builtin.bitAnd (n / 2 ^ j) 1 = n / 2 ^ j % 2 := bitAnd_m1 (n / 2 ^ j)
  rw [e]
  rcases Int.emod_two_eq (n / 2 ^ j) with h | h <;> rw [h] <;> rfl
def bsum (xs cs : List Str) (i : Nat) : Int := (bitsL xs cs i).sum
theorem bsum_succ {xs cs : List Str} {i : Nat} : bsum xs cs (i + 1) = bsum xs cs i + (if heldAt xs cs i = true then 2 ^ i else 0) := by
  unfold bsum
  split
  · rename_i h
    rw [bitsL_more h, List.sum_append]
    simp
  · rename_i h
    rw [bitsL_same (by simpa using h)]
    simp
theorem bsum_lt {xs cs : List Str} : ∀ i, 0 ≤ bsum xs cs i ∧ bsum xs cs i < 2 ^ i
  | 0 => by unfold bsum bitsL; simp
  | i + 1 => by
    obtain ⟨h0, h1⟩ := bsum_lt (xs := xs) (cs := cs) i
    rw [bsum_succ, Int.pow_succ]
    split <;> omega
theorem bsum_bit {xs cs : List Str} : ∀ i j, j < i → bitAt (bsum xs cs i) j = heldAt xs cs j
  | 0, j, h => absurd h (Nat.not_lt_zero j)
  | i + 1, j, h => by
    obtain ⟨h0, h1⟩ := bsum_lt (xs := xs) (cs := cs) i
    rw [bsum_succ, bit_mod]
    by_cases e : j = i
    · subst e
      have p : (0 : Int) < 2 ^ j := Int.pow_pos (by decide)
      split
      · rename_i hh
        have e1 : (bsum xs cs j + 2 ^ j) / 2 ^ j = 1 := by
          rw [Int.add_ediv_of_dvd_right (Int.dvd_refl _), Int.ediv_self (by omega), Int.ediv_eq_zero_of_lt h0 h1]
          rfl
        rw [e1, hh]
        rfl
      · rename_i hh
        rw [Int.add_zero, Int.ediv_eq_zero_of_lt h0 h1]
        have hh : heldAt xs cs j = false := by simpa using hh
        rw [hh]
        rfl
    · have hj : j < i := by omega
      rw [← bsum_bit i j hj, bit_mod]
      split
      · have p : (0 : Int) < 2 ^ j := Int.pow_pos (by decide)
        have e2 : (2 : Int) ^ i = 2 ^ j * (2 * 2 ^ (i - j - 1)) := by
          rw [← Int.pow_succ', ← Int.pow_add]
          congr 1
          omega
        rw [e2, Int.add_mul_ediv_left _ _ (by omega), Int.add_mul_emod_self_left]
      · rw [Int.add_zero]

theorem bit_0 (n : Int) : bitAt n 0 = decide (n % 2 = 1) := by
  rw [bit_mod]
  have : n / 2 ^ 0 = n := by rw [Int.pow_zero, Int.ediv_one]
  rw [this]
theorem bit_s (n : Int) (j : Nat) : bitAt n (j + 1) = bitAt (n / 2) j := by
  rw [bit_mod, bit_mod]
  have : n / 2 ^ (j + 1) = n / 2 / 2 ^ j := by
    rw [Int.pow_succ, Int.mul_comm, Int.ediv_ediv_of_nonneg (by decide)]
  rw [this]
theorem band_bit : ∀ (j : Nat) (x y : Int), bitAt (Builtin.bitAnd x y) j = (bitAt x j && bitAt y j)
  | 0, x, y => by
    rw [bit_0, bit_0, bit_0, PySem.W.kbt_halves x y]
    rcases Int.emod_two_eq x with h | h <;> rcases Int.emod_two_eq y with k | k <;> rw [h, k] <;> simp <;> omega
  | j + 1, x, y => by
    rw [bit_s, bit_s, bit_s, ← band_bit j]
    congr 1
    rw [PySem.W.kbt_halves x y]
    split <;> omega
theorem bnot_bit : ∀ (j : Nat) (x : Int), bitAt (Builtin.bitNot x) j = !bitAt x j
  | 0, x => by
    rw [bit_0, bit_0]
    show decide ((-x - 1) % 2 = 1) = !decide (x % 2 = 1)
    rcases Int.emod_two_eq x with h | h
    · rw [show (-x - 1) % 2 = 1 by omega, h]; rfl
    · rw [show (-x - 1) % 2 = 0 by omega, h]; rfl
  | j + 1, x => by
    rw [bit_s, bit_s, ← bnot_bit j]
    congr 1
    show (-x - 1) / 2 = -(x / 2) - 1
    omega
theorem held_bit {xs cs : List Str} {j : Nat} (h : j < xs.length) : bitAt (bitsOf xs cs) j = decide (xs[j] ∈ cs) := by
  have e : bitAt (bitsOf xs cs) j = heldAt xs cs j := bsum_bit (xs := xs) (cs := cs) xs.length j h
  rw [e]
  unfold heldAt
  rw [List.getElem?_eq_getElem h]
theorem names_filter {xs : List Str} {p : Str → Bool} {n : Int} (h : ∀ j (hj : j < xs.length), bitAt n j = p xs[j]) : namesOf xs n = xs.filter p := by
  unfold namesOf namesL
  have key : ∀ k, k ≤ xs.length → (List.range k).filterMap (fun j => if bitAt n j = true then xs[j]? else none) = (xs.take k).filter p := by
    intro k
    induction k with
    | zero => intro _; rfl
    | succ k ih =>
      intro hk
      have hx : xs[k]? = some xs[k] := List.getElem?_eq_getElem hk
      rw [List.range_succ, List.filterMap_append, ih (by omega), take_more hx, List.filter_append]
      congr 1
      rw [List.filterMap_cons, h k hk, hx]
      cases e : p xs[k] with
      | true => simp [e]
      | false => simp [e]
  have := key xs.length (Nat.le_refl _)
  rw [List.take_length] at this
  exact this
theorem small_zero : ∀ (k : Nat) (n : Int), 0 ≤ n → n < 2 ^ k → (∀ j, j < k → bitAt n j = false) → n = 0
  | 0, n, h0, h1, _ => by rw [Int.pow_zero] at h1; omega
  | k + 1, n, h0, h1, hb => by
    have h2 := hb 0 (Nat.succ_pos k)
    rw [bit_0, decide_eq_false_iff_not] at h2
    have h3 := small_zero k (n / 2) (by omega) (by rw [Int.pow_succ] at h1; omega) fun j hj => by rw [← bit_s]; exact hb (j + 1) (by omega)
    omega
theorem bits_range {xs cs : List Str} : 0 ≤ bitsOf xs cs ∧ bitsOf xs cs < 2 ^ xs.length := bsum_lt (xs := xs) (cs := cs) xs.length
/-- two numbers share no bit: the names share no fact -/
theorem band_zero {xs as bs : List Str} : Builtin.bitAnd (bitsOf xs as) (bitsOf xs bs) = 0 ↔ ∀ x ∈ xs, ¬ (x ∈ as ∧ x ∈ bs) := by
  obtain ⟨b0, b1⟩ := bits_range (xs := xs) (cs := bs)
  obtain ⟨r0, r1⟩ := bitAnd_range (bitsOf xs as) b0
  constructor
  · intro z x hx ⟨h1, h2⟩
    obtain ⟨j, hj, rfl⟩ := List.getElem_of_mem hx
    have := band_bit j (bitsOf xs as) (bitsOf xs bs)
    rw [z, held_bit hj, held_bit hj, decide_eq_true h1, decide_eq_true h2, bit_mod] at this
    rw [Int.zero_ediv] at this
    exact absurd this (by decide)
  · intro h
    refine small_zero xs.length _ r0 (by omega) fun j hj => ?_
    rw [band_bit, held_bit hj, held_bit hj, ← Bool.decide_and]
    exact decide_eq_false (h _ (List.getElem_mem hj))
/-- what is left of a part -/
theorem names_rest {xs as bs : List Str} : namesOf xs (Builtin.bitAnd (bitsOf xs as) (Builtin.bitNot (bitsOf xs bs))) = xs.filter fun x => decide (x ∈ as) && !decide (x ∈ bs) :=
  names_filter fun j hj => by rw [band_bit, bnot_bit, held_bit hj, held_bit hj]
end
end Sc
namespace Sc
open PySem PySem.Spec PyProof.Rows L2
/-! ### conditions -/
theorem sc_check_part : FnScope ["part", "names", "before", "index", "name", "wrong"] ["part", "names", "before"] (defScope s_check_part) := ⟨rfl, rfl, rfl, by decide +kernel, rfl, by decide +kernel, by decide +kernel⟩
theorem sc_merged : FnScope ["names", "others", "name"] ["names", "others"] (defScope s_merged) := ⟨rfl, rfl, rfl, by decide +kernel, rfl, by decide +kernel, by decide +kernel⟩
theorem filter1 {α : Type} (p : α → Bool) (y : α) : List.filter p [y] = if p y = true then [y] else [] := by cases h : p y <;> simp [List.filter, h]
section
variable {P : Program} {w : World} {K : PySem.W.Frag} {mg : Str → Option Value} {base : Heap} {CC : Addr}
/-- the i-th name of a part is wrong; ys the part ahead of it -/
def wrongAt (xs ys : List Str) (i : Nat) : Bool := match xs[i]? with
  | some x => (!isName x || !risesAt xs i) || (decide (8 ≤ ys.length + i) || decide (x ∈ ys))
  | none => false
def firstWrong (xs ys : List Str) : Option Nat := (List.range xs.length).find? (wrongAt xs ys)
def errPI (C : Addr) (part : Int) (i : Nat) (H : Hp) (E : XK) : Prop := ∀ H' d, Same H H' → H' d = none → E (.ref C) (some d) (upd H' d (.xd [(("index" : Str), .int i), (("part" : Str), .int part)]))
def sp_check_part (K : PySem.W.Frag) (C : Addr) : Sp := fun vs H Q E => ∃ (part : Nat) (a b : Addr) (xs ys : List Str), vs = [.int part, .ref a, .ref b] ∧ part ≤ 1 ∧ SqT K H a (xs.map V.str) ∧ SqT K H b (ys.map V.str) ∧ Txts xs ∧ xs.length ≤ 1000 ∧ ys.length ≤ 1000 ∧
  (firstWrong xs ys = none → ∀ H', Same H H' → Q .non H') ∧ (∀ i, firstWrong xs ys = some i → errPI C part i H E)
theorem ok_check_part {f : Addr} {fd : FuncData} (F : Fun K "check_part" "check_part" s_check_part f fd) (B : Blt mg) (mM : ∃ t, mg "MOST_NAMES" = some (.int 8 t))
    (e_InvalidCondition : ErrMk P w K mg base "InvalidCondition" CC ["self", "part", "index"] (sp_init2 CC "part" "index")) (c_is_name : Cal P w K mg base CX0 1 "is_name" ["value"] sp_is_name) (c_rises : Cal P w K mg base CX0 1 "rises" ["names", "index"] (sp_rises K)) :
    FnOk P w K mg base (L2.CX P w) 3 f fd ["part", "names", "before"] (sp_check_part K CC) := by
  obtain ⟨t1, mM⟩ := mM
  refine F.okX sc_check_part (fun vs H Q E h => by obtain ⟨part, a, b, xs, ys, rfl, _⟩ := h; rfl) (fun cdv A outer s H vs Q E hr h => ?_)
  obtain ⟨part, a, b, xs, ys, rfl, hp, hS, hY, hT, hl, hly, q, e⟩ := h
  refine ⟨_, (pss_one (ps_for (passes_of rfl) rfl (pi_enumT (by rfl) B.b_enumerate (pa_cons (pv 1) pa_nil)) (pg_tup (by rfl) (pgs_cons (pg_name (i := 3) sc_check_part.nd rfl (Or.inl rfl)) (pgs_cons (pg_name (i := 4) sc_check_part.nd rfl (Or.inl rfl)) pgs_nil))) (pss_cons (ps_set (i := 5) sc_check_part.nd rfl (Or.inl rfl) (pe_or (pe_not (pe_cal c_is_name (hr.mono (by decide)) (pa_cons (pv 4) pa_nil))) (pe_one (pe_not (pe_cal c_rises (hr.mono (by decide)) (pa_cons (pv 1) (pa_cons (pv 3) pa_nil)))))))
      (pss_one (ps_if (PW.pt (pw_or (pt_val (pv 5)) (pw_or (pt_cmpR op_ge (pe_op op_add (pe_callB call_len_seq (by rfl) B.b_len PySem.boot_len (pa_cons (pv 2) pa_nil)) (pv 3)) (pe_glob (v := .int 8) rfl mM ⟨_, rfl⟩) (nomark _)) (pw_or1 (pt_cmpR op_in_seq (pv 4) (pv 2) rfl))))) (pss_one (ps_raise rfl (takes_of rfl rfl rfl rfl) (pmk_err2 e_InvalidCondition (hr.mono (by decide)) (pv 0) (pv 3)))) pss_nil))))), ?_⟩
  refine ⟨.ref a, rfl, a, _, rfl, hS, for_it walk_enumT (fun i σ H' => ∃ y1 y2 y3, σ = [some (.int part), some (.ref a), some (.ref b), y1, y2, y3] ∧ Same H H' ∧ ∀ j, j < i → wrongAt xs ys j = false)
    ⟨none, none, none, rfl, Same.refl H, fun j hj => absurd hj (Nat.not_lt_zero j)⟩ (fun i σ H' _ ⟨_, _, _, _, s, _⟩ => s.tup hS) ?_ ?_⟩
  · rintro i x σ H2 H3 hi ⟨y1, y2, y3, rfl, s, hb⟩ ⟨T, v1, v2, rfl, nT, rfl, h1, h2⟩
    obtain rfl : V.int (i : Nat) = v1 := Option.some.inj h1
    rw [List.length_map] at hi
    have hx : xs[i]? = some xs[i] := List.getElem?_eq_getElem hi
    obtain rfl : V.str xs[i] = v2 := strAt_inj hx h2
    have s3 : Same H (upd H2 T (.tup [.int (i : Nat), .str xs[i]])) := s.put' nT
    have rz : ∀ {H' : Hp}, wrongAt xs ys i = true → Same H H' → ∀ d, H' d = none → E (.ref CC) (some d) (upd H' d (.xd [(("index" : Str), .int (i : Nat)), (("part" : Str), .int part)])) := fun {H'} hp sH d nd => e i (find_at hi hp hb) H' d sH nd
    refine ⟨T, [.int (i : Nat), .str xs[i]], rfl, sqT_new, rfl, _, _, rfl, _, _, rfl, rfl, ?_⟩
    have ew : wrongAt xs ys i = ((!isName xs[i] || !risesAt xs i) || (decide (8 ≤ ys.length + i) || decide (xs[i] ∈ ys))) := by unfold wrongAt; rw [hx]
    have fk : FOk (.int part) ∧ FOk (.int (i : Nat)) := ⟨fok_nat (by omega), fok_nat (by omega)⟩
    refine ⟨_, rfl, xs[i], rfl, Nat.le_trans (hT _ (List.getElem_mem hi)) (by rw [sizeLine_eq]; decide), fun H4 s4 => ⟨_, rfl, _, rfl, bcase (fun c1 => ?_) (fun c1 => ?_)⟩⟩
    · exact ⟨_, rfl, _, rfl, iteT (iteT ⟨_, rfl, _, rfl, fk, rz (by rw [ew, c1, Bool.true_or, Bool.true_or]) (s3.trans s4)⟩)⟩
    · have s5 := s3.trans s4
      rw [c1, Bool.false_or] at ew
      refine ⟨.ref a, rfl, .int i, rfl, a, xs, i, rfl, s5.tup hS, hi, _, rfl, ?_⟩
      refine ⟨_, rfl, _, rfl, bcase (fun c2 => ?_) (fun c2 => ?_)⟩
      · exact iteT ⟨_, rfl, _, rfl, fk, rz (by rw [ew, c2, Bool.true_or]) s5⟩
      · rw [c2, Bool.false_or] at ew
        refine ⟨.ref b, rfl, b, _, rfl, .inr (s5.tup hY), .int i, rfl, _, i, rfl, rfl, _, 8, rfl, rfl, _, rfl, ?_⟩
        rw [List.length_map]
        by_cases h8 : 8 ≤ ys.length + i
        · rw [decide_eq_true (show (8 : Int) ≤ (ys.length : Int) + (i : Int) by omega)]
          exact iteT (iteT ⟨_, rfl, _, rfl, fk, rz (by rw [ew, decide_eq_true h8, Bool.true_or]) s5⟩)
        · rw [decide_eq_false (show ¬ (8 : Int) ≤ (ys.length : Int) + (i : Int) by omega)]
          rw [decide_eq_false h8, Bool.false_or] at ew
          refine iteF ⟨.str xs[i], rfl, .ref b, rfl, b, _, rfl, .inr (s5.tup hY), rfl, flat_strs ys, _, rfl, bcase (fun c3 => ?_) (fun c3 => ?_)⟩
          · have c3 : decide (xs[i] ∈ ys) = true := by rw [← inV_str]; exact c3
            exact ⟨_, rfl, _, rfl, fk, rz (by rw [ew, c3]) s5⟩
          · have c3 : decide (xs[i] ∈ ys) = false := by rw [← inV_str]; exact c3
            refine ⟨_, _, _, rfl, s5, fun j hj => ?_⟩
            by_cases hj2 : j < i
            · exact hb j hj2
            · have ej : j = i := by omega
              subst ej
              rw [ew, c3]
  · rintro σ H2 ⟨y1, y2, y3, rfl, s, hb⟩
    rw [List.length_map] at hb
    exact q (find_none hb) H2 s
def sp_merged (K : PySem.W.Frag) : Sp := fun vs H Q _ => ∃ (a b : Addr) (xs ys : List Str), vs = [.ref a, .ref b] ∧ SqT K H a (xs.map V.str) ∧ SqT K H b (ys.map V.str) ∧ xs.length + ys.length < 64 ∧
  ∀ H' p (zs : List Str), Same H H' → H' p = some (.tup (zs.map V.str)) → zs.Perm (xs ++ ys.filter fun y => !decide (y ∈ xs)) → sortedS zs = true → Q (.ref p) H'
theorem ok_merged {f : Addr} {fd : FuncData} (F : Fun K "merged" "merged" s_merged f fd) (B : Blt mg) : FnOk P w K mg base CX0 1 f fd ["names", "others"] (sp_merged K) := by
  refine F.ok sc_merged (fun vs H Q E h => by obtain ⟨a, b, xs, ys, rfl, _⟩ := h; rfl) (fun cdv A outer s H vs Q E hr h => ?_)
  obtain ⟨a, b, xs, ys, rfl, hS, hY, hl, q⟩ := h
  refine ⟨_, (pss_one (ps_ret (pe_callTy call_tuple_of (by rfl) B.b_tuple PyProof.Rows.boot_tuple (pa_cons (pe_callB cr_sortedS (by rfl) B.b_sorted (by decide +kernel) (pa_cons (pe_op op_cat (pe_callTy call_list_of (by rfl) B.b_list PyProof.Rows.boot_list (pa_cons (pv 0) pa_nil)) (pe_lc (own := [("name", 2)]) (g := gName 2) rfl sc_merged.nd (pi_tup (pv 1)) (blkOk_by (own := [("name", 2)]) (N := ["names", "others", "name"]) (sc := defScope s_merged) (by decide +kernel)) (fun _ _ _ _ _ => (pg_name (i := 2) sc_merged.nd rfl (Or.inl rfl))) (fun _ _ _ _ _ => (pts_.re (pts_one (pt_cmpR op_notIn_seq (pv 2) (pv 0) rfl)) (by first | (dsimp only [Cx.blk]; done) | exact rfl))) (fun _ _ _ _ _ => (pe_.re (pv 2) (by first | (dsimp only [Cx.blk]; done) | exact rfl))))) pa_nil)) pa_nil)))), ?_⟩
  have big : ∀ {m : Nat}, m ≤ 1000 → m ≤ sizeLine := fun {m} h => by rw [sizeLine_eq]; omega
  refine ⟨.ref a, rfl, a, _, rfl, .inr hS, fun l nl => ?_⟩
  have s1 := (Same.refl H).put (o := .lst (xs.map V.str)) nl
  have e1 : (upd H l (.lst (xs.map V.str))) l = some (.lst (xs.map V.str)) := upd_same
  generalize upd H l (.lst (xs.map V.str)) = H1 at s1 e1 ⊢
  refine ⟨.ref b, rfl, b, rfl, ⟨_, s1.tup hY⟩, fun D nD => lc_it walk_tup (fun i H' => Same H1 H' ∧ H' D = some (.lst (((ys.take i).filter fun y => !decide (y ∈ xs)).map V.str))) ⟨(Same.refl H1).put nD, upd_same⟩ (fun _ _ _ h => (s1.trans h.1).tup hY) ?_ ?_⟩
  · rintro i y H2 H3 hi ⟨s, e⟩ ⟨rfl, hy⟩
    rw [List.length_map] at hi
    have hx : ys[i]? = some ys[i] := List.getElem?_eq_getElem hi
    obtain rfl : V.str ys[i] = y := strAt_inj hx hy
    refine ⟨rfl, .str ys[i], rfl, .ref a, rfl, a, _, rfl, .inr ((s1.trans s).tup hS), rfl, flat_strs xs, _, rfl, bcase (fun c1 => ?_) (fun c1 => ?_)⟩
    · have c1 : (!decide (ys[i] ∈ xs)) = true := by rw [← inV_str]; exact c1
      refine ⟨_, rfl, grow (acc := fun i => ((ys.take i).filter fun y => !decide (y ∈ xs)).map V.str) nD s e ?_ ?_⟩
      · rw [List.length_map]
        refine small1000 (Nat.le_trans (List.length_filter_le _ _) ?_)
        rw [List.length_take]
        omega
      · show List.map V.str _ = _
        rw [take_more hx, List.filter_append, List.map_append, filter1, if_pos c1]
        rfl
    · have c1 : (!decide (ys[i] ∈ xs)) = false := by rw [← inV_str]; exact c1
      refine ⟨s, ?_⟩
      rw [take_more hx, List.filter_append, filter1, if_neg (by rw [c1]; exact Bool.false_ne_true), List.append_nil]
      exact e
  · rintro H2 ⟨s, e⟩
    rw [List.length_map, List.take_length] at e
    have hfl := List.length_filter_le (fun y => !decide (y ∈ xs)) ys
    refine ⟨l, D, _, _, rfl, rfl, s _ _ e1, e, big (by rw [List.length_map, List.length_map]; omega), fun p np => ?_⟩
    have s2 := (s1.trans s).put' (o := .lst (xs.map V.str ++ (ys.filter fun y => !decide (y ∈ xs)).map V.str)) np
    refine ⟨p, xs ++ ys.filter fun y => !decide (y ∈ xs), rfl, ?_, ?_, fun zs p2 hp hs np2 => ?_⟩
    · rw [List.map_append]
      exact sqL_new
    · rw [List.length_append]
      omega
    · refine ⟨p2, _, rfl, .inl ⟨sqL_new, fun p3 np3 => q _ p3 zs ((s2.put' np2).put' np3) upd_same hp hs⟩⟩
end
end Sc
namespace Sc
open PySem PySem.Spec PyProof.Rows L2
/-! ### an object Condition -/
theorem sc_Condition___init__ : FnScope ["self", "holding", "failing"] ["self", "holding", "failing"] (defScope s_Condition___init__) := ⟨rfl, rfl, rfl, by decide +kernel, rfl, by decide +kernel, by decide +kernel⟩
section
variable {P : Program} {w : World} {K : PySem.W.Frag} {mg : Str → Option Value} {base : Heap} {CC C : Addr}
theorem wrongs_none {xs ys : List Str} (h : firstWrong xs ys = none) (i : Nat) (hi : i < xs.length) : ((!isName xs[i] || !risesAt xs i) = false ∧ ¬ 8 ≤ ys.length + i) ∧ ¬ xs[i] ∈ ys := by
  unfold firstWrong at h
  rw [List.find?_eq_none] at h
  have h := (Bool.not_eq_true _).mp (h i (List.mem_range.mpr hi))
  unfold wrongAt at h
  rw [List.getElem?_eq_getElem hi] at h
  dsimp only at h
  rw [Bool.or_eq_false_iff, Bool.or_eq_false_iff (x := decide _)] at h
  exact ⟨⟨h.1, of_decide_eq_false h.2.1⟩, of_decide_eq_false h.2.2⟩
theorem fw_len {xs ys : List Str} (h : firstWrong xs ys = none) : xs.length = 0 ∨ ys.length + xs.length ≤ 8 := by
  by_cases e : xs.length = 0
  · exact .inl e
  · have := (wrongs_none h (xs.length - 1) (by omega)).1.2
    exact .inr (by omega)
theorem fw_out {xs ys : List Str} (h : firstWrong xs ys = none) : ∀ x ∈ xs, ¬ x ∈ ys := by
  intro x hx
  obtain ⟨i, hi, rfl⟩ := List.getElem_of_mem hx
  exact (wrongs_none h i hi).2
theorem filter_out {xs ys : List Str} (h : ∀ x ∈ xs, ¬ x ∈ ys) : xs.filter (fun x => !decide (x ∈ ys)) = xs := by
  rw [List.filter_eq_self]
  intro x hx
  rw [decide_eq_false (h x hx)]
  rfl
/-- all but the object at x stands -/
def SameX (x : Addr) (H H' : Hp) : Prop := ∀ b o, b ≠ x → H b = some o → H' b = some o
/-- the fields of a condition -/
def condF (a b n : Addr) : List (Str × V) := putF "_names" (.ref n) (putF "_failing" (.ref b) (putF "_holding" (.ref a) []))
def sp_cond_init (K : PySem.W.Frag) (C CC : Addr) : Sp := fun vs H Q E => ∃ (x dx a b : Addr) (xs ys : List Str), vs = [.ref x, .ref a, .ref b] ∧ H x = some (.ins C dx []) ∧ SqT K H a (xs.map V.str) ∧ SqT K H b (ys.map V.str) ∧ Txts xs ∧ Txts ys ∧ xs.length ≤ 1000 ∧ ys.length ≤ 1000 ∧
  (∀ i, firstWrong xs [] = some i → errPI CC ((0 : Nat) : Int) i H E) ∧ (firstWrong xs [] = none → (∀ i, firstWrong ys xs = some i → errPI CC ((1 : Nat) : Int) i H E) ∧
  (firstWrong ys xs = none → ∀ H' n zs, SameX x H H' → H' x = some (.ins C dx (condF a b n)) → H' n = some (.tup (zs.map V.str)) → zs.Perm (xs ++ ys) → sortedS zs = true → Q .non H'))
theorem sqT_upd {H : Hp} {x dx a' : Addr} {fs : List (Str × V)} {o : HO} {vs : List V} (hx : H x = some (.ins C dx fs)) (h : SqT K H a' vs) : SqT K (upd H x o) a' vs := by
  rcases h with (h | ⟨ob, h⟩) | h
  · have ne : a' ≠ x := fun e => by rw [e, hx] at h; cases h
    exact .inl (.inl (by rw [upd_ne ne]; exact h))
  · have ne : a' ≠ x := fun e => by rw [e, hx] at h; cases h
    exact .inl (.inr ⟨ob, by rw [upd_ne ne]; exact h⟩)
  · exact .inr h
theorem putF_len (f : Str) (v : V) : ∀ fs : List (Str × V), (putF f v fs).length ≤ fs.length + 1
  | [] => Nat.le_refl 1
  | (g, x) :: r => by
    unfold putF
    split
    · exact Nat.le_succ _
    · show (putF f v r).length + 1 ≤ r.length + 1 + 1
      exact Nat.succ_le_succ (putF_len f v r)
theorem ok_cond_init {f : Addr} {fd : FuncData} (F : Fun K "__init__" "Condition.__init__" s_Condition___init__ f fd) (B : Blt mg) (T : Cls K C) (n1 : NoAttr K C "_holding") (n2 : NoAttr K C "_failing") (n3 : NoAttr K C "_names")
    (c_check_part : Cal P w K mg base (L2.CX P w) 3 "check_part" ["part", "names", "before"] (sp_check_part K CC)) (c_merged : Cal P w K mg base CX0 1 "merged" ["names", "others"] (sp_merged K)) :
    FnOk P w K mg base (L2.CX P w) 4 f fd ["self", "holding", "failing"] (sp_cond_init K C CC) := by
  refine F.okX sc_Condition___init__ (fun vs H Q E h => by obtain ⟨x, dx, a, b, xs, ys, rfl, _⟩ := h; rfl) (fun cdv A outer s H vs Q E hr h => ?_)
  obtain ⟨x, dx, a, b, xs, ys, rfl, hx, hA, hB, tA, tB, lA, lB, e0, q⟩ := h
  refine ⟨_, (pss_cons (ps_expr (pe_calX c_check_part (hr.mono (by decide)) (takes_of rfl rfl rfl rfl) (pa_cons pe_int (pa_cons (pv 1) (pa_cons (pe_tup pa_nil) pa_nil)))))
      (pss_cons (ps_expr (pe_calX c_check_part (hr.mono (by decide)) (takes_of rfl rfl rfl rfl) (pa_cons pe_int (pa_cons (pv 2) (pa_cons (pv 1) pa_nil)))))
      (pss_cons (ps_fld (pv 0) (pv 1) rfl)
      (pss_cons (ps_fld (pv 0) (pv 2) rfl)
      (pss_one (ps_fld (pv 0) (pe_cal c_merged (hr.mono (by decide)) (pa_cons (pv 1) (pa_cons (pv 2) pa_nil))) rfl)))))), ?_⟩
  refine ⟨.ref a, rfl, Nat.zero_le _, fun t nt => ⟨0, a, t, xs, [], rfl, by decide, ((Same.refl H).put nt).tup hA, sqT_new, tA, lA, by decide, fun e1 H1 s1 => ?_, fun i ei H' d sH nd => e0 i ei H' d (((Same.refl H).put nt).trans sH) nd⟩⟩
  obtain ⟨e1', q⟩ := q e1
  have s1 := ((Same.refl H).put nt).trans s1
  refine ⟨.ref b, rfl, .ref a, rfl, 1, b, a, ys, xs, rfl, by decide, s1.tup hB, s1.tup hA, tB, lB, lA, fun e2 H2 s2 => ?_, fun i ei H' d sH nd => e1' i ei H' d (s1.trans sH) nd⟩
  have s2 := s1.trans s2
  have q := q e2
  have hlen : xs.length + ys.length < 64 := by
    have h1 := fw_len e1
    have h2 := fw_len e2
    simp only [List.length_nil] at h1
    omega
  have hx2 := s2 _ _ hx
  refine ⟨.ref a, rfl, .ref x, rfl, x, C, dx, [], rfl, hx2, T, n1, by decide, ?_⟩
  refine ⟨.ref b, rfl, .ref x, rfl, x, C, dx, _, rfl, upd_same, T, n2, Nat.lt_of_le_of_lt (putF_len _ _ _) (by decide), ?_⟩
  refine ⟨.ref a, rfl, .ref b, rfl, a, b, xs, ys, rfl, ?_, ?_, hlen, fun H' p zs sH ep hperm hsort => ?_⟩
  · exact sqT_upd upd_same (sqT_upd hx2 (s2.tup hA))
  · exact sqT_upd upd_same (sqT_upd hx2 (s2.tup hB))
  · rw [filter_out (fw_out e2)] at hperm
    refine ⟨.ref x, rfl, x, C, dx, _, rfl, sH _ _ upd_same, T, n3, Nat.lt_of_le_of_lt (putF_len _ _ _) (Nat.lt_of_le_of_lt (Nat.succ_le_succ (putF_len _ _ _)) (by decide)), q _ p zs (fun b' o ne hb => ?_) upd_same ?_ hperm hsort⟩
    · rw [upd_ne ne]
      refine sH _ _ ?_
      rw [upd_ne ne, upd_ne ne]
      exact s2 _ _ hb
    · have ne : p ≠ x := fun e => by
        have h2 := sH _ _ (upd_same (H := upd H2 x (.ins C dx (putF "_holding" (.ref a) []))) (a := x) (o := .ins C dx (putF "_failing" (.ref b) (putF "_holding" (.ref a) []))))
        rw [e, h2] at ep
        cases ep
      rw [upd_ne ne]
      exact ep
end
end Sc
namespace Sc
open PySem PySem.Spec PyProof.Rows L2
/-- len(o), o an object whose class has its own __len__ -/
def rLenO (C : Addr) (sp : Sp) : List V → Hp → VK → Prop := fun xs H Q => ∃ (a dx : Addr) (fs : List (Str × V)), xs = [.ref a] ∧ H a = some (.ins C dx fs) ∧ sp [.ref a] H (fun v H' => ∃ n : Nat, v = .int n ∧ n < 2 ^ 62 ∧ Q (.int n) H') (fun _ _ _ => False)
theorem call_lenO {X : Cx} {C g : Addr} {k : Nat} {fd : FuncData} {ps : List Str} {sp : Sp} (at_ : PySem.W.findIn X.K (.ref C) "__len__" = some (some (.ref g))) (ty : PySem.W.typeIn X.K (.ref g) = some (.type "function"))
    (F : FnOk X.prog X.w X.K X.mg X.base CX0 k g fd ps sp) (hr : Room (k + 1) X.A) (hb : Binds X.K fd ps []) : CallR X (.builtin "len") (rLenO C sp) := by
  intro pins s σ H xs us Q I r h
  obtain ⟨a, dx, fs, rfl, ea, h⟩ := h
  obtain ⟨u, rfl, ru⟩ := vals1 r
  obtain rfl : u = Value.ref a := ru
  obtain ⟨mA, O, _⟩ := ins_get I.hok ea
  obtain ⟨od, J, _⟩ := ObjM.look O
  have hl : ([Value.ref a] ++ ([] : List Value)).length = ps.length := F.len _ _ _ _ h
  refine Calls.call_function_entry kind_len plain_len entry_len (args_len1 (.ref a)) ?_
  unfold Builtin.len
  rw [show oneArg "len" { pos := [Value.ref a] } = pure (.ref a) from rfl, pure_bind]
  refine wpAny_bind (PySem.W.special_fn I.kIn J at_ ty (wpAny_call (codeAny_mono (F.run X.A.in1 X.stack s H ⟨[.ref a], []⟩ [.ref a] [.ref a] _ _ (Room.in1 hr) (Env0.in1 I.env0) (hb s [.ref a] I.kIn hl) (Paired.cons rfl .nil) h) fun res s' hq => ?_)))
  cases res with
  | error e => exact hq.elim
  | ok fl =>
    cases fl with
    | ret v =>
      obtain ⟨y, H', I', ry, n, rfl, hn, q⟩ := I.after hq
      obtain ⟨t, rfl⟩ := ry
      dsimp only
      have e62 : (2 : Nat) ^ 62 < 2 ^ 63 := by decide
      refine wpAny_bind (wpAny_holding (wpAny_pure (wpAny_bind (wpAny_letGo ?_))))
      have h1 : ¬ (n : Int) < 0 := by omega
      have h2 : ¬ (n : Int) ≥ 2 ^ 63 := by
        have : (n : Int) < 2 ^ 62 := by exact_mod_cast hn
        omega
      rw [if_neg h1, if_neg h2]
      exact wpAny_bind (wpAny_mkInt (wpAny_pure ⟨_, rfl, .int n, H', I'.tok _, ⟨_, rfl⟩, q⟩))
    | next => exact hq.elim
    | brk => exact hq.elim
    | cont => exact hq.elim
end Sc
namespace Sc
open PySem PySem.Spec PyProof.Rows L2
section
variable {P : Program} {w : World} {K : PySem.W.Frag} {mg : Str → Option Value} {base : Heap} {a l : Addr} {H H' H'' : Hp}
theorem wk_ss {X : Cx} {st : List Stmt} {t : TS} (t' : TS) (h : PSs X st t) (w : ∀ D σ H, t' D σ H → t D σ H) : PSs X st t' := ⟨fun pins s σ H D I x => h.run pins s σ H D I (w D σ H x)⟩
/-- a class whose objects a def of its own makes -/
structure Mkr (P : Program) (w : World) (K : PySem.W.Frag) (mg : Str → Option Value) (base : Heap) (k : Nat) (x : Str) (C : Addr) (ps : List Str) (sp : Sp) : Prop where
  ex : ∃ (f : Addr) (fd : FuncData), Mk K C f ∧ FnOk P w K mg base (L2.CX P w) k f fd ps sp ∧ mg x = some (.ref C) ∧ Binds K fd ps []
section
variable {X : Cx} {k : Nat} {x : Str} {C : Addr} {ps : List Str} {sp : Sp} {e : Expr} {es : List Expr} {t : TA} {p pos : Pos}
theorem pe_mkN (M : Mkr X.prog X.w X.K X.mg X.base k x C ps sp) (hr : Room (k + 1) X.A) (ha : PA X (e :: es) t) (hg : Gl X x := by rfl) (hdb : (x == ("__debug__" : Str)) = false := by decide)
    (he : starEach (e :: es) X.env = (false, eval e X.env) :: starEach es X.env := by rfl) (hpl : (backTo pos (starEach es X.env)).any (·.1) = false := by rfl) : PE X (.Call (.Name x p) (e :: es) [] pos) (tMake C sp [] E0 t) := by
  obtain ⟨f, fd, hk, F, hm, hb⟩ := M.ex
  exact pe_make hk F hr hg hm hb .nil passL ha hdb he hpl
theorem pe_mkX {E : XK} (M : Mkr X.prog X.w X.K X.mg X.base k x C ps sp) (hr : Room (k + 1) X.A) (tk : Takes X (fun cls d _ H => E cls d H)) (ha : PA X (e :: es) t) (hg : Gl X x := by rfl) (hdb : (x == ("__debug__" : Str)) = false := by decide)
    (he : starEach (e :: es) X.env = (false, eval e X.env) :: starEach es X.env := by rfl) (hpl : (backTo pos (starEach es X.env)).any (·.1) = false := by rfl) : PE X (.Call (.Name x p) (e :: es) [] pos) (tMake C sp [] E t) := by
  obtain ⟨f, fd, hk, F, hm, hb⟩ := M.ex
  exact pe_make hk F hr hg hm hb .nil (fun pins σ H s e s' I h => passAt tk σ pins H s e s' I h) ha hdb he hpl
end
def sp_prop (C : Addr) (n : Str) : Sp := fun vs H Q _ => ∃ (x dx : Addr) (fs : List (Str × V)) (v : V), vs = [.ref x] ∧ H x = some (.ins C dx fs) ∧ fs.lookup n = some v ∧ Q v H
def sp_len (K : PySem.W.Frag) (C : Addr) : Sp := fun vs H Q _ => ∃ (x dx n : Addr) (fs : List (Str × V)) (zs : List V), vs = [.ref x] ∧ H x = some (.ins C dx fs) ∧ fs.lookup ("_names" : Str) = some (.ref n) ∧ SqT K H n zs ∧ Q (.int zs.length) H
structure CondC (P : Program) (w : World) (K : PySem.W.Frag) (mg : Str → Option Value) (base : Heap) (C p1 g1 p2 g2 p3 g3 g4 : Addr) (fd1 fd2 fd3 fd4 : FuncData) : Prop where
  cls : Cls K C
  p_holding : PropOf K C "holding" p1 g1 ∧ FnOk P w K mg base CX0 1 g1 fd1 ["self"] (sp_prop C "_holding") ∧ Binds K fd1 ["self"] []
  p_failing : PropOf K C "failing" p2 g2 ∧ FnOk P w K mg base CX0 1 g2 fd2 ["self"] (sp_prop C "_failing") ∧ Binds K fd2 ["self"] []
  p_names : PropOf K C "names" p3 g3 ∧ FnOk P w K mg base CX0 1 g3 fd3 ["self"] (sp_prop C "_names") ∧ Binds K fd3 ["self"] []
  lenAt : PySem.W.findIn K (.ref C) "__len__" = some (some (.ref g4))
  lenTy : PySem.W.typeIn K (.ref g4) = some (.type "function")
  lenF : FnOk P w K mg base CX0 1 g4 fd4 ["self"] (sp_len K C)
  lenB : Binds K fd4 ["self"] []
end
end Sc
namespace Sc
open PySem PySem.Spec PyProof.Rows L2
theorem sc_Condition_holding : FnScope ["self"] ["self"] (defScope s_Condition_holding) := ⟨rfl, rfl, rfl, by decide +kernel, rfl, by decide +kernel, by decide +kernel⟩
theorem sc_Condition_failing : FnScope ["self"] ["self"] (defScope s_Condition_failing) := ⟨rfl, rfl, rfl, by decide +kernel, rfl, by decide +kernel, by decide +kernel⟩
theorem sc_Condition_names : FnScope ["self"] ["self"] (defScope s_Condition_names) := ⟨rfl, rfl, rfl, by decide +kernel, rfl, by decide +kernel, by decide +kernel⟩
theorem sc_Condition___len__ : FnScope ["self"] ["self"] (defScope s_Condition___len__) := ⟨rfl, rfl, rfl, by decide +kernel, rfl, by decide +kernel, by decide +kernel⟩
section
variable {P : Program} {w : World} {K : PySem.W.Frag} {mg : Str → Option Value} {base : Heap} {C : Addr}
theorem ok_holding {f : Addr} {fd : FuncData} (F : Fun K "holding" "Condition.holding" s_Condition_holding f fd) (T : Cls K C) (n : NoAttr K C "_holding") : FnOk P w K mg base CX0 1 f fd ["self"] (sp_prop C "_holding") := by
  refine F.ok sc_Condition_holding (fun vs H Q E h => by obtain ⟨x, dx, fs, v, rfl, _⟩ := h; rfl) (fun cdv A outer s H vs Q E hr h => ?_)
  obtain ⟨x, dx, fs, v, rfl, hx, hl, q⟩ := h
  exact ⟨_, (pss_one (ps_ret (pe_fld (pv 0) rfl))), ⟨_, rfl, x, C, dx, fs, v, rfl, hx, T, n, hl, q⟩⟩
theorem ok_failing {f : Addr} {fd : FuncData} (F : Fun K "failing" "Condition.failing" s_Condition_failing f fd) (T : Cls K C) (n : NoAttr K C "_failing") : FnOk P w K mg base CX0 1 f fd ["self"] (sp_prop C "_failing") := by
  refine F.ok sc_Condition_failing (fun vs H Q E h => by obtain ⟨x, dx, fs, v, rfl, _⟩ := h; rfl) (fun cdv A outer s H vs Q E hr h => ?_)
  obtain ⟨x, dx, fs, v, rfl, hx, hl, q⟩ := h
  exact ⟨_, (pss_one (ps_ret (pe_fld (pv 0) rfl))), ⟨_, rfl, x, C, dx, fs, v, rfl, hx, T, n, hl, q⟩⟩
theorem ok_cnames {f : Addr} {fd : FuncData} (F : Fun K "names" "Condition.names" s_Condition_names f fd) (T : Cls K C) (n : NoAttr K C "_names") : FnOk P w K mg base CX0 1 f fd ["self"] (sp_prop C "_names") := by
  refine F.ok sc_Condition_names (fun vs H Q E h => by obtain ⟨x, dx, fs, v, rfl, _⟩ := h; rfl) (fun cdv A outer s H vs Q E hr h => ?_)
  obtain ⟨x, dx, fs, v, rfl, hx, hl, q⟩ := h
  exact ⟨_, (pss_one (ps_ret (pe_fld (pv 0) rfl))), ⟨_, rfl, x, C, dx, fs, v, rfl, hx, T, n, hl, q⟩⟩
theorem ok_clen {f : Addr} {fd : FuncData} (F : Fun K "__len__" "Condition.__len__" s_Condition___len__ f fd) (B : Blt mg) (T : Cls K C) (n : NoAttr K C "_names") : FnOk P w K mg base CX0 1 f fd ["self"] (sp_len K C) := by
  refine F.ok sc_Condition___len__ (fun vs H Q E h => by obtain ⟨x, dx, m, fs, zs, rfl, _⟩ := h; rfl) (fun cdv A outer s H vs Q E hr h => ?_)
  obtain ⟨x, dx, m, fs, zs, rfl, hx, hl, hz, q⟩ := h
  exact ⟨_, (pss_one (ps_ret (pe_callB call_len_seq (by rfl) B.b_len PySem.boot_len (pa_cons (pe_fld (pv 0) rfl) pa_nil)))), ⟨_, rfl, x, C, dx, fs, _, rfl, hx, T, n, hl, m, _, rfl, .inr hz, q⟩⟩
end
end Sc
namespace Sc
open PySem PySem.Spec PyProof.Rows L2
def SLe (a b : Str) : Prop := a.cps.toList ≤ b.cps.toList
theorem rising_pw : ∀ (x : Str) (r : List Str), risingS x r = true → (∀ y ∈ r, SLe x y) ∧ r.Pairwise SLe
  | _, [], _ => ⟨(fun _ h => nomatch h), List.Pairwise.nil⟩
  | x, y :: r, h => by
    have h : (!ltCps y.cps.toList x.cps.toList && risingS y r) = true := h
    rw [Bool.and_eq_true, ltCps_eq] at h
    obtain ⟨h1, h2⟩ := h
    obtain ⟨i1, i2⟩ := rising_pw y r h2
    have hxy : SLe x y := by
      have h1 : ¬ y.cps.toList < x.cps.toList := by simpa using h1
      exact h1
    refine ⟨fun z hz => ?_, List.pairwise_cons.mpr ⟨i1, i2⟩⟩
    rcases List.mem_cons.mp hz with rfl | h
    · exact hxy
    · exact List.le_trans hxy (i1 z h)
theorem sorted_pw : ∀ {r : List Str}, sortedS r = true → r.Pairwise SLe
  | [], _ => .nil
  | x :: r, h => List.pairwise_cons.mpr (rising_pw x r h)
theorem str_ext {a b : Str} (h : a.cps.toList = b.cps.toList) : a = b := by
  obtain ⟨x⟩ := a
  obtain ⟨y⟩ := b
  congr 1
  exact Array.toList_inj.mp h
theorem sorted_uniq {a b : List Str} (p : a.Perm b) (sa : sortedS a = true) (sb : sortedS b = true) : a = b :=
  List.Perm.eq_of_pairwise (le := SLe) (fun x y _ _ h1 h2 => str_ext (List.le_antisymm h1 h2)) (sorted_pw sa) (sorted_pw sb) p
end Sc
namespace OwnX
open PySem PySem.Spec PyProof.Rows PySem.W
section
variable {prog : Program} {w : World} {M : Model} {A : Around} {E : Value → Shared → Prop} {s : Shared} {K : Frag} {x C L f : Addr} {h₀ : Heap} {m : Str → Option Value} {ox : Obj} {od : Option Obj}
/-- x op b, both of the class at C -/
theorem bin_same {op : Operator} {b : Value} {Q : Value → Shared → Prop} (X : K.In s.heap) (I : InstAt s.heap x ox C od) (hb : Looks (model prog w) s.heap (typeOf b) (.ref C)) (hc : selfFirst K C = true)
    (hs : findIn K (.ref C) (PySem.dunder op.info.2) = some (some (.ref f))) (hf : isFn K (.ref f) = true)
    (h : wpAny (model prog w) A (call (.ref f) [.ref x, b]) (PySem.W.CmpBack Q) E s) : wpAny (model prog w) A (binaryOp op (.ref x) b) Q E s := by
  obtain ⟨cd, rest, hcd, hm⟩ := ksp_first hc
  rcases hi : op.info with ⟨sym, nm'⟩
  rw [hi] at hs
  dsimp only at hs
  have one := ksp_try X I hs hf h
  obtain ⟨hh, g, d, tt, os⟩ := s
  have L1 : Looks (model prog w) hh (typeOf (.ref x)) (.ref C) := I.type
  have L3 : Looks (model prog w) hh (fillsNumberSlot (.ref C) nm') true := fills_K X hcd hm hs
  simp only [binaryOp, hi]
  refine wpAny_holding (wpAny_bind ?_)
  unfold binaryOp1
  refine wpAny_bind (L1.at (wpAny_bind (hb.at (wpAny_bind (L3.at ?_)))))
  have e : (Value.ref C == Value.ref C) = true := beq_self_eq_true _
  simp only [e, if_true]
  ksp_lk
  refine wpAny_mono one (fun r s' hr' => ?_) fun _ _ e => e
  obtain ⟨v, rfl, hq⟩ := hr'
  ksp_lk
  exact hq
theorem ifBound_ne {args : List Value} {Q : Option Value → Shared → Prop} (X : K.In s.heap) (I : InstAt s.heap x ox C od) (hs : findIn K (.ref C) "__ne__" = some (some (.builtin "object.__ne__")))
    (h : wpAny M A (call (.builtin "object.__ne__") (.ref x :: args)) (fun v => Q (some v)) E s) : wpAny M A (callSpecialIfBound? (.ref x) "__ne__" args) Q E s := by
  simp only [callSpecialIfBound?, bindSpecialIfBound?]
  refine wpAny_holding (wpAny_bind (wpAny_bind (wpAny_bind (I.type.here ((looks_findIn X hs).here ?_)))))
  refine wpAny_bind (wpAny_askSetting (wpAny_ite ?_))
  have fin : wpAny M A (call (.builtin "object.__ne__") ([.ref x] ++ args) >>= fun v => pure (some v)) Q E s := wpAny_bind (wpAny_mono h (fun v s' h' => wpAny_pure h') fun _ _ h' => h')
  split
  · exact wpAny_bind (wpAny_of_eq (F.cmp_object.ne.bind _) (wpAny_pure (by exact fin)))
  · exact wpAny_tryCatch (wpAny_bind (wpAny_of_eq (F.cmp_object.ne.bind _) (wpAny_pure (by exact fin))))
theorem entry_ne {b : Value} {Q : Fin → Shared → Prop} (X : K.In s.heap) (I : InstAt s.heap x ox C od) (hs : findIn K (.ref C) "__eq__" = some (some (.ref f))) (hf : isFn K (.ref f) = true) (hu : A.units < cLine)
    (h : wpAny (model prog w) A (call (.ref f) [.ref x, b]) (fun v s' => ∃ b, v = .bool b ∧ Q (.done (.ret (.bool (!b)))) s') E s) : wpAny (model prog w) A (Builtin.«object.__ne__» ⟨[.ref x, b], []⟩) Q E s := by
  unfold Builtin.«object.__ne__»
  repeat (first
    | with_reducible refine wpAny_cRoomFor hu ?_
    | (refine wpAny_bind (m := callSpecialIfBound? (.ref x) (Str.ofString "__eq__") [b])
        (ifBound_K X I hs hf (wpAny_mono h (fun r s' hr => by
          obtain ⟨b, rfl, hq⟩ := hr
          repeat (first | exact hq | exact wpAny_pure hq | exact wpAny_truthy_bool hq | (refine wpAny_bind (m := truthy (.bool _)) (wpAny_truthy_bool ?_)) | wp_step)) fun _ _ e => e)))
    | wp_step)
theorem try_ne {b : Value} {Q : Option Value → Shared → Prop} (X : K.In s.heap) (I : InstAt s.heap x ox C od) (hm : mroIn K C (.type "object") = some true) (hn : findIn K (.ref C) "__ne__" = some (some (.builtin "object.__ne__")))
    (hs : findIn K (.ref C) "__eq__" = some (some (.ref f))) (hf : isFn K (.ref f) = true) (hu : A.units + 1 < cLine)
    (h : wpAny (model prog w) A.in1 (call (.ref f) [.ref x, b]) (fun v s' => ∃ b, v = .bool b ∧ Q (some (.bool (!b))) s') E s) : wpAny (model prog w) A (tryCompare (.ref x) "__ne__" b) Q E s := by
  unfold tryCompare
  refine wpAny_bind (ifBound_ne X I hn (wpAny_call (codeAny_call_builtin F.cmp_object.ne.plain F.cmpEntry_ne (check_slot F.cmpKind_ne F.cmpSplit_ne (I.type.andThen (looks_mroIn X hm)) (F.cmpArgs_ne _ _)
    (entry_ne (A := A.in1) X I hs hf hu (wpAny_mono h (fun v s' hv => ?_) fun _ _ e => e))))))
  obtain ⟨b, rfl, hq⟩ := hv
  first | exact ⟨b, rfl, wpAny_pure hq⟩ | exact ⟨b, rfl, wpAny_pure (wpAny_pure hq)⟩ | exact ⟨b, rfl, hq⟩
theorem ne_K {b tb : Value} {Q : Value → Shared → Prop} (hu : A.units + 1 < cLine) (X : K.In s.heap) (I : InstAt s.heap x ox C od) (hb : Looks (model prog w) s.heap (typeOf b) tb) (hnf : notFirst K C tb = true)
    (hm : mroIn K C (.type "object") = some true) (hn : findIn K (.ref C) "__ne__" = some (some (.builtin "object.__ne__"))) (hs : findIn K (.ref C) "__eq__" = some (some (.ref f))) (hf : isFn K (.ref f) = true)
    (h : wpAny (model prog w) A.in1 (call (.ref f) [.ref x, b]) (fun v s' => ∃ b, v = .bool b ∧ Q (.bool (!b)) s') E s) : wpAny (model prog w) A (richCompare .NotEq (.ref x) b) Q E s := by
  have one : wpAny (model prog w) A (tryCompare (.ref x) "__ne__" b) (fun r s' => ∃ v, r = some v ∧ Q v s') E s := try_ne X I hm hn hs hf hu (wpAny_mono h (fun v s' ⟨b, e, q⟩ => ⟨b, e, _, rfl, q⟩) fun _ _ e => e)
  unfold richCompare
  simp only [oneThing_ref]
  refine wpAny_holding (wpAny_bind (wpAny_cRoomFor (Nat.lt_of_succ_lt hu) ?_))
  rw [cmpInfo_NotEq]
  dsimp only
  refine wpAny_bind (I.type.here (wpAny_bind (hb.here ?_)))
  split
  · rename_i q
    have e : subIn K tb (.ref C) = some false := by
      rcases Bool.or_eq_true_iff.mp hnf with e | e
      · rw [beq_iff_eq.mp e] at q; simp at q
      · exact beq_iff_eq.mp e
    refine wpAny_bind ((looks_subIn X e).here ?_)
    simp only [Bool.false_eq_true, if_false]
    refine wpAny_bind (wpAny_mono one (fun r s' z => ?_) fun _ _ e => e)
    obtain ⟨v, rfl, hq⟩ := z
    exact wpAny_pure hq
  · refine wpAny_bind (wpAny_pure ?_)
    simp only [Bool.false_eq_true, if_false]
    refine wpAny_bind (wpAny_mono one (fun r s' z => ?_) fun _ _ e => e)
    obtain ⟨v, rfl, hq⟩ := z
    exact wpAny_pure hq
end
end OwnX
namespace Sc
open PySem PySem.Spec PyProof.Rows L2
/-- a value's type, as comparisons ask for it -/
inductive TyR (K : PySem.W.Frag) (H : Hp) : V → Value → Prop where
  | non : TyR K H .non (.type "NoneType")
  | int (i : Int) : TyR K H (.int i) (.type "int")
  | str (x : Str) : TyR K H (.str x) (.type "str")
  | lst {a : Addr} {xs : List V} (e : SqL K H a xs) : TyR K H (.ref a) (.type "list")
  | tup {a : Addr} {xs : List V} (e : SqT K H a xs) : TyR K H (.ref a) (.type "tuple")
  | ins {a C dx : Addr} {fs : List (Str × V)} (e : H a = some (.ins C dx fs)) : TyR K H (.ref a) (.ref C)
section
variable {X : Cx} {CX : CXT} {C g : Addr} {k : Nat} {fd : FuncData} {ps : List Str} {sp : Sp} {E : XK}
theorem TyR.looks {pins : List (Addr × Obj)} {σ : L2.St} {H : Hp} {s : Shared} {y : V} {t u : Value} (I : Inv X pins σ H s) (h : TyR X.K H y t) (r : RelV y u) {prog : Program} {w : World} : PySem.W.Looks (model prog w) s.heap (typeOf u) t := by
  cases h with
  | non => cases r; exact PySem.W.Looks.of_pure rfl
  | int i => obtain ⟨t, rfl⟩ := r; exact PySem.W.Looks.of_pure rfl
  | str i => obtain ⟨t, rfl⟩ := r; exact PySem.W.Looks.of_pure rfl
  | lst e =>
    cases r
    obtain ⟨its, _, ⟨o, n, ho, hc, _⟩, _⟩ := I.list e
    exact fun A Q E s k q => wpAny_typeOf_ref (k _ _ ho) (by rw [hc]; exact q)
  | tup e =>
    cases r
    obtain ⟨its, _, ⟨o, ho, hc, _⟩, _⟩ := I.tuple e
    exact fun A Q E s k q => wpAny_typeOf_ref (k _ _ ho) (by rw [hc]; exact q)
  | ins e =>
    cases r
    obtain ⟨mA, O, _⟩ := ins_get I.hok e
    obtain ⟨od, J, _⟩ := O.look
    exact J.type
/-- x == y, x of the class at C with its own __eq__ at g -/
def rEqO (K : PySem.W.Frag) (C : Addr) (sp : Sp) (E : XK) : R2 := fun x y H Q => ∃ (a dx : Addr) (fs : List (Str × V)) (tb : Value), x = .ref a ∧ H a = some (.ins C dx fs) ∧ TyR K H y tb ∧ PySem.W.notFirst K C tb = true ∧ sp [x, y] H Q E
theorem op_eqO (hs : PySem.W.findIn X.K (.ref C) "__eq__" = some (some (.ref g))) (hf : PySem.W.isFn X.K (.ref g) = true) (F : FnOk X.prog X.w X.K X.mg X.base CX k g fd ps sp) (hr : Room k X.A) (hb : Binds X.K fd ps []) (hx : Passes CX X E) : OpR X (compareOp .Eq) (rEqO X.K C sp E) := by
  intro pins s σ H x y v u Q I rx ry h
  obtain ⟨a, dx, fs, tb, rfl, ha, hy, hn, q⟩ := h
  cases (show v = Value.ref a from rx)
  obtain ⟨mA, O, _⟩ := ins_get I.hok ha
  obtain ⟨od, J, _⟩ := O.look
  obtain ⟨m, hF⟩ := I.fr
  show wpAny _ _ (richCompare .Eq _ _) _ _ _
  refine PySem.W.cmp_K (op := .Eq) (tb := tb) hr.units0 hF I.ok.mod.kin J (hy.looks I ry) hn hs hf ?_
  refine wpAny_mono (run_fn (us := [.ref a, u]) (vs := [.ref a, y]) (dvs := []) F hr hb .nil hx I (.cons rfl (.cons ry .nil)) q) (fun w s' z => ?_) fun _ _ x => x
  obtain ⟨z', H', I', rz, qz⟩ := z
  exact SlX.cmpback rz ⟨z', H', I', rz, qz⟩
/-- x != y by the same -/
def rNeO (K : PySem.W.Frag) (C : Addr) (sp : Sp) (E : XK) : R2 := fun x y H Q => ∃ (a dx : Addr) (fs : List (Str × V)) (tb : Value), x = .ref a ∧ H a = some (.ins C dx fs) ∧ TyR K H y tb ∧ PySem.W.notFirst K C tb = true ∧ sp [x, y] H (fun v H' => ∃ b, v = .bl b ∧ Q (.bl (!b)) H') E
theorem op_neO (hm : PySem.W.mroIn X.K C (.type "object") = some true) (hne : PySem.W.findIn X.K (.ref C) "__ne__" = some (some (.builtin "object.__ne__"))) (hs : PySem.W.findIn X.K (.ref C) "__eq__" = some (some (.ref g))) (hf : PySem.W.isFn X.K (.ref g) = true)
    (F : FnOk X.prog X.w X.K X.mg X.base CX k g fd ps sp) (hr : Room (k + 1) X.A) (hb : Binds X.K fd ps []) (hx : Passes CX X E) : OpR X (compareOp .NotEq) (rNeO X.K C sp E) := by
  intro pins s σ H x y v u Q I rx ry h
  obtain ⟨a, dx, fs, tb, rfl, ha, hy, hn, q⟩ := h
  cases (show v = Value.ref a from rx)
  obtain ⟨mA, O, _⟩ := ins_get I.hok ha
  obtain ⟨od, J, _⟩ := O.look
  show wpAny _ _ (richCompare .NotEq _ _) _ _ _
  have hu : X.A.units + 1 < cLine := by have := hr.un; omega
  refine OwnX.ne_K hu I.kIn J (hy.looks I ry) hn hm hne hs hf ?_
  have hl : ([Value.ref a, u] ++ ([] : List Value)).length = ps.length := F.len _ _ _ _ q
  refine wpAny_call (codeAny_mono (F.run X.A.in1 X.stack s H ⟨[.ref a, u], []⟩ [.ref a, u] [.ref a, y] _ _ hr.in1 I.env0.in1 (hb s [.ref a, u] I.kIn hl) (.cons rfl (.cons ry .nil)) q) fun r s' hq => ?_)
  cases r with
  | error e => exact hx pins σ H s e s' I hq
  | ok fl =>
    cases fl with
    | ret w =>
      obtain ⟨v, H', I', rv, b, rfl, qz⟩ := I.after hq
      cases rv
      exact ⟨b, rfl, .bl (!b), H', I', rfl, qz⟩
    | next => exact hq.elim
    | brk => exact hq.elim
    | cont => exact hq.elim
/-- x op y, both of the class at C, whose own method for op is at g -/
def rBinO (C : Addr) (sp : Sp) (E : XK) : R2 := fun x y H Q => ∃ (a dx : Addr) (fs : List (Str × V)) (b dy : Addr) (gs : List (Str × V)), x = .ref a ∧ y = .ref b ∧ H a = some (.ins C dx fs) ∧ H b = some (.ins C dy gs) ∧ sp [x, y] H Q E
theorem op_binO {op : Operator} (hc : PySem.W.selfFirst X.K C = true) (hs : PySem.W.findIn X.K (.ref C) (PySem.dunder op.info.2) = some (some (.ref g))) (hf : PySem.W.isFn X.K (.ref g) = true)
    (F : FnOk X.prog X.w X.K X.mg X.base CX k g fd ps sp) (hr : Room k X.A) (hb : Binds X.K fd ps []) (hx : Passes CX X E) : OpR X (binaryOp op) (rBinO C sp E) := by
  intro pins s σ H x y v u Q I rx ry h
  obtain ⟨a, dx, fs, b, dy, gs, rfl, rfl, ha, hy, q⟩ := h
  cases (show v = Value.ref a from rx)
  cases (show u = Value.ref b from ry)
  obtain ⟨mA, O, _⟩ := ins_get I.hok ha
  obtain ⟨od, J, _⟩ := O.look
  obtain ⟨mA', O', _⟩ := ins_get I.hok hy
  obtain ⟨od', J', _⟩ := O'.look
  refine OwnX.bin_same I.kIn J J'.type hc hs hf ?_
  refine wpAny_mono (run_fn (us := [.ref a, .ref b]) (vs := [.ref a, .ref b]) (dvs := []) F hr hb .nil hx I (.cons rfl (.cons rfl .nil)) q) (fun w s' z => ?_) fun _ _ x => x
  obtain ⟨z', H', I', rz, qz⟩ := z
  exact SlX.cmpback rz ⟨z', H', I', rz, qz⟩
end
end Sc
namespace Sc
open PySem PySem.Spec PyProof.Rows L2
/-- texts that can be compared and are not long -/
def Fine (x : Str) : Prop := x.length ≤ 1000 ∧ (PyData.str x).canLay0 = true
def Fines (xs : List Str) : Prop := ∀ x ∈ xs, Fine x
section
variable {P : Program} {w : World} {K : PySem.W.Frag} {mg : Str → Option Value} {base : Heap} {a l : Addr} {H H' H'' : Hp}
theorem Fines.txts {xs : List Str} (h : Fines xs) : Txts xs := fun x hx => (h x hx).1
theorem dps (K : PySem.W.Frag) (H : Hp) : ∀ xs : List Str, DpAll K H (xs.map V.str) (xs.map PyData.str)
  | [] => .nil
  | x :: r => .cons (.str x) (dps K H r)
theorem strs_lay : ∀ {xs : List Str}, Fines xs → PyData.canLayAll0 (xs.map PyData.str) = true
  | [], _ => rfl
  | x :: r, h => by
    show ((PyData.str x).canLay0 && PyData.canLayAll0 (r.map PyData.str)) = true
    rw [(h x List.mem_cons_self).2, strs_lay fun y hy => h y (List.mem_cons_of_mem x hy)]
    rfl
theorem strs_depth : ∀ xs : List Str, PyData.depthAll (xs.map PyData.str) = 0
  | [] => rfl
  | x :: r => by
    show max (PyData.str x).depth (PyData.depthAll (r.map PyData.str)) = 0
    rw [strs_depth r]
    rfl
theorem shT {xs : List Str} (h : Fines xs) : SeqAt.shaped (.tuple (xs.map PyData.str)) = true := by
  unfold SeqAt.shaped
  have e1 : (PyData.tuple (xs.map PyData.str)).canLay0 = true := strs_lay h
  have e2 : (PyData.tuple (xs.map PyData.str)).depth = 1 := by show PyData.depthAll (xs.map PyData.str) + 1 = 1; rw [strs_depth]
  rw [e1, e2]
  rfl
theorem shL {xs : List Str} (h : Fines xs) : SeqAt.shaped (.list (xs.map PyData.str)) = true := by
  unfold SeqAt.shaped
  have e1 : (PyData.list (xs.map PyData.str)).canLay0 = true := strs_lay h
  have e2 : (PyData.list (xs.map PyData.str)).depth = 1 := by show PyData.depthAll (xs.map PyData.str) + 1 = 1; rw [strs_depth]
  rw [e1, e2]
  rfl
theorem eqvA_nil : ∀ xs : List Str, PyData.eqvAll (xs.map PyData.str) [] = decide (xs = [])
  | [] => rfl
  | _ :: _ => rfl
theorem eqvA : ∀ xs ys : List Str, PyData.eqvAll (xs.map PyData.str) (ys.map PyData.str) = decide (xs = ys)
  | [], [] => rfl
  | [], _ :: _ => rfl
  | _ :: _, [] => rfl
  | x :: r, y :: t => by
    show ((x == y) && PyData.eqvAll (r.map PyData.str) (t.map PyData.str)) = _
    rw [eqvA r t]
    by_cases h : x = y
    · subst h
      simp
    · have e : (x == y) = false := by simpa using h
      rw [e, Bool.false_and, decide_eq_false fun z => h (List.cons.inj z).1]
def chr1 (c : Nat) : Str := ⟨#[c]⟩
def oddL (x : Str) (i : Nat) : List Str := ((x.cps.toList.take i).filter fun c => !decide (c ∈ letters.cps.toList)).map chr1
theorem oddL_len {x : Str} {i : Nat} : (oddL x i).length ≤ x.length := by
  unfold oddL
  rw [List.length_map]
  exact Nat.le_trans (List.length_filter_le _ _) (by rw [List.length_take]; exact Nat.min_le_right _ _)
theorem oddL_fine {x : Str} {i : Nat} (h : Fine x) : Fines (oddL x i) := by
  intro y hy
  unfold oddL at hy
  obtain ⟨c, hc, rfl⟩ := List.mem_map.mp hy
  have hc := List.mem_of_mem_take (List.mem_filter.mp hc).1
  refine ⟨(show 1 ≤ 1000 by decide), ?_⟩
  have h2 : PyData.strOk x = true := h.2
  show PyData.strOk (chr1 c) = true
  unfold PyData.strOk at h2 ⊢
  rw [Array.all_eq_true'] at h2
  have h3 := h2 c (by rw [← Array.mem_toList_iff]; exact hc)
  rw [Array.all_eq_true']
  intro y hy
  have ey : y = c := by
    have hy : y ∈ (#[c] : Array Nat) := hy
    simpa using hy
  subst ey
  exact h3
theorem oddL_nil {x : Str} : decide (oddL x x.length = []) = isLetters x := by
  have el : x.cps.toList.take x.length = x.cps.toList := List.take_of_length_le (by rw [Array.length_toList]; exact Nat.le_refl _)
  unfold oddL isLetters
  rw [el]
  cases h : x.cps.toList.all fun c => decide (c ∈ letters.cps.toList) with
  | true =>
    rw [List.all_eq_true] at h
    have e : (x.cps.toList.filter fun c => !decide (c ∈ letters.cps.toList)) = [] := by
      rw [List.filter_eq_nil_iff]
      intro c hc z
      rw [h c hc] at z
      cases z
    rw [e]
    rfl
  | false =>
    rw [decide_eq_false]
    intro z
    have z := List.map_eq_nil_iff.mp z
    rw [List.filter_eq_nil_iff] at z
    rw [List.all_eq_false] at h
    obtain ⟨c, hc, hn⟩ := h
    exact z c hc (by cases e : decide (c ∈ letters.cps.toList) with | true => exact absurd e hn | false => rfl)
theorem risesAt_eq {xs : List Str} {i : Nat} (hi : i < xs.length) (h0 : i ≠ 0) (h1 : i - 1 < xs.length) : risesAt xs i = decide (xs[i - 1].cps.toList < xs[i].cps.toList) := by
  unfold risesAt
  rw [decide_eq_false h0, Bool.false_or, List.getElem?_eq_getElem h1, List.getElem?_eq_getElem hi]
theorem risesAt_0 {xs : List Str} : risesAt xs 0 = true := rfl
theorem strG {xs : List Str} {i : Nat} (hi : i < xs.length) : (xs.map V.str)[i]? = some (.str xs[i]) := by rw [List.getElem?_map, List.getElem?_eq_getElem hi]; rfl
theorem small_lim {z : Int} (h0 : 0 ≤ z) (h1 : z ≤ 1000) : z.natAbs.log2 < 9000 := by
  by_cases e : z.natAbs = 0
  · rw [e]; decide
  · exact (Nat.log2_lt e).mpr (Nat.lt_of_le_of_lt (show z.natAbs ≤ 2 ^ 10 by omega) (Nat.pow_lt_pow_right (by decide) (by decide)))
end
end Sc
namespace Sc
open PySem PySem.Spec PyProof.Rows L2
/-! ### what a condition does -/
theorem sc_Condition___call__ : FnScope ["self", "case", "held", "name"] ["self", "case"] (defScope s_Condition___call__) := ⟨rfl, rfl, rfl, by decide +kernel, rfl, by decide +kernel, by decide +kernel⟩
/-- the texts in their order -/
def srt (l : List Str) : List Str := l.mergeSort fun a b => decide (a.cps.toList ≤ b.cps.toList)
theorem srt_perm (l : List Str) : (srt l).Perm l := List.mergeSort_perm _ _
theorem rising_of : ∀ (x : Str) (r : List Str), (∀ y ∈ r, SLe x y) → r.Pairwise SLe → risingS x r = true
  | _, [], _, _ => rfl
  | x, y :: r, h1, h2 => by
    have h2 := List.pairwise_cons.mp h2
    show (!ltCps y.cps.toList x.cps.toList && risingS y r) = true
    rw [Bool.and_eq_true, ltCps_eq]
    refine ⟨?_, rising_of y r h2.1 h2.2⟩
    have h3 : x.cps.toList ≤ y.cps.toList := h1 y List.mem_cons_self
    rw [decide_eq_false (show ¬ y.cps.toList < x.cps.toList from fun z => List.not_lt.mpr h3 z)]
    rfl
theorem sorted_of : ∀ {r : List Str}, r.Pairwise SLe → sortedS r = true
  | [], _ => rfl
  | x :: r, h => rising_of x r (List.pairwise_cons.mp h).1 (List.pairwise_cons.mp h).2
theorem srt_sorted (l : List Str) : sortedS (srt l) = true := by
  refine sorted_of ((List.pairwise_mergeSort (le := fun a b : Str => decide (a.cps.toList ≤ b.cps.toList)) (fun a b c h1 h2 => ?_) (fun a b => ?_) l).imp fun h => of_decide_eq_true h)
  · exact decide_eq_true (List.le_trans (of_decide_eq_true h1) (of_decide_eq_true h2))
  · rw [Bool.or_eq_true]
    rcases List.le_total a.cps.toList b.cps.toList with h | h
    · exact .inl (decide_eq_true h)
    · exact .inr (decide_eq_true h)
/-- an object Condition -/
structure CondAt (K : PySem.W.Frag) (C : Addr) (H : Hp) (o : Addr) (hs fs : List Str) : Prop where
  at_ : ∃ (dx a b n : Addr) (zs : List Str), H o = some (.ins C dx (condF a b n)) ∧ SqT K H a (hs.map V.str) ∧ SqT K H b (fs.map V.str) ∧ H n = some (.tup (zs.map V.str)) ∧ zs = srt (hs ++ fs)
theorem CondAt.same {K : PySem.W.Frag} {C : Addr} {H H' : Hp} {o : Addr} {hs fs : List Str} (h : CondAt K C H o hs fs) (s : Same H H') : CondAt K C H' o hs fs := by
  obtain ⟨dx, a, b, n, zs, h1, h2, h3, h4, h5⟩ := h.at_
  exact ⟨dx, a, b, n, zs, s _ _ h1, s.tup h2, s.tup h3, s _ _ h4, h5⟩
def meets (hs fs case : List Str) : Bool := (hs.all fun x => decide (x ∈ case)) && !(fs.any fun x => decide (x ∈ case))
section
variable {P : Program} {w : World} {K : PySem.W.Frag} {mg : Str → Option Value} {base : Heap} {CC C : Addr}
/-- [name in case for name in xs]: the truths -/
theorem inAll {H1 : Hp} {D c : Addr} {xs cs : List Str} {W : Nat} {X : Cx} {σ : L2.St} : True := trivial
def sp_ccall (K : PySem.W.Frag) (C : Addr) : Sp := fun vs H Q _ => ∃ (o c : Addr) (hs fs cs : List Str), vs = [.ref o, .ref c] ∧ CondAt K C H o hs fs ∧ SqT K H c (cs.map V.str) ∧ hs.length ≤ 1000 ∧ fs.length ≤ 1000 ∧ ∀ H', Same H H' → Q (.bl (meets hs fs cs)) H'
theorem ok_ccall {f : Addr} {fd : FuncData} (F : Fun K "__call__" "Condition.__call__" s_Condition___call__ f fd) (B : Blt mg) (T : Cls K C) (n1 : NoAttr K C "_holding") (n2 : NoAttr K C "_failing") : FnOk P w K mg base CX0 1 f fd ["self", "case"] (sp_ccall K C) := by
  refine F.ok sc_Condition___call__ (fun vs H Q E h => by obtain ⟨o, c, hs, fs, cs, rfl, _⟩ := h; rfl) (fun cdv A outer s H vs Q E hr h => ?_)
  obtain ⟨o, c, hs, fs, cs, rfl, hC, hc, l1, l2, q⟩ := h
  obtain ⟨dx, a, b, n, zs, ho, ha, hb, _⟩ := hC.at_
  refine ⟨_, (pss_cons (ps_set (i := 2) sc_Condition___call__.nd rfl (Or.inl rfl) (pe_callB (cr_all rfl) (by rfl) B.b_all PyProof.Rows.boot_all (pa_cons (pe_lc (own := [("name", 3)]) (g := gName 3) (tt := tYes) rfl sc_Condition___call__.nd (pi_tup (pe_fld (pv 0) rfl)) (blkOk_by (own := [("name", 3)]) (N := ["self", "case", "held", "name"]) (sc := defScope s_Condition___call__) (by decide +kernel)) (fun _ _ _ _ _ => (pg_name (i := 3) sc_Condition___call__.nd rfl (Or.inl rfl))) (fun _ _ _ _ _ => pts_nil) (fun _ _ _ _ _ => (pe_.re (pe_cmpR op_in_seq (pv 3) (pv 1) rfl) (by first | (dsimp only [Cx.blk]; done) | exact rfl)))) pa_nil)))
      (pss_one (ps_ret (pe_and (pv 2) (pe_one (pe_not (pe_callB (cr_any rfl) (by rfl) B.b_any (by decide +kernel) (pa_cons (pe_lc (own := [("name", 3)]) (g := gName 3) (tt := tYes) rfl sc_Condition___call__.nd (pi_tup (pe_fld (pv 0) rfl)) (blkOk_by (own := [("name", 3)]) (N := ["self", "case", "held", "name"]) (sc := defScope s_Condition___call__) (by decide +kernel)) (fun _ _ _ _ _ => (pg_name (i := 3) sc_Condition___call__.nd rfl (Or.inl rfl))) (fun _ _ _ _ _ => pts_nil) (fun _ _ _ _ _ => (pe_.re (pe_cmpR op_in_seq (pv 3) (pv 1) rfl) (by first | (dsimp only [Cx.blk]; done) | exact rfl)))) pa_nil)))))))), ?_⟩
  refine ⟨_, rfl, o, C, dx, _, .ref a, rfl, ho, T, n1, rfl, a, rfl, ⟨_, ha⟩, fun D nD => lc_it walk_tup (fun i H' => Same H H' ∧ H' D = some (.lst ((hs.take i).map fun x => V.bl (decide (x ∈ cs))))) ⟨(Same.refl H).put nD, upd_same⟩ (fun _ _ _ h => h.1.tup ha) ?_ ?_⟩
  · rintro i y H2 H3 hi ⟨s, e⟩ ⟨rfl, hy⟩
    rw [List.length_map] at hi
    have hx : hs[i]? = some hs[i] := List.getElem?_eq_getElem hi
    obtain rfl : V.str hs[i] = y := strAt_inj hx hy
    refine ⟨rfl, yes_ ⟨_, rfl, _, rfl, c, _, rfl, .inr (s.tup hc), rfl, flat_strs cs, grow (acc := fun i => (hs.take i).map fun x => V.bl (decide (x ∈ cs))) nD s e ?_ ?_⟩⟩
    · rw [List.length_map, List.length_take]
      exact small1000 (by omega)
    · show List.map _ _ = _
      rw [take_more hx, List.map_append]
      simp only [List.map_cons, List.map_nil, inV_str]
      rfl
  · rintro H2 ⟨s, e⟩
    rw [List.length_map, List.take_length] at e
    refine ⟨D, hs.map fun x => decide (x ∈ cs), rfl, sqL_of (by rw [e, List.map_map]; rfl), ?_⟩
    refine ⟨_, rfl, _, rfl, bcase (fun c1 => ?_) (fun c1 => ?_)⟩
    · refine ⟨_, rfl, o, C, dx, _, .ref b, rfl, s _ _ ho, T, n2, rfl, b, rfl, ⟨_, s.tup hb⟩, fun D2 nD2 => lc_it walk_tup (fun i H' => Same H2 H' ∧ H' D2 = some (.lst ((fs.take i).map fun x => V.bl (decide (x ∈ cs))))) ⟨(Same.refl H2).put nD2, upd_same⟩ (fun _ _ _ h => (s.trans h.1).tup hb) ?_ ?_⟩
      · rintro i y H4 H3 hi ⟨s2, e2⟩ ⟨rfl, hy⟩
        rw [List.length_map] at hi
        have hx : fs[i]? = some fs[i] := List.getElem?_eq_getElem hi
        obtain rfl : V.str fs[i] = y := strAt_inj hx hy
        refine ⟨rfl, yes_ ⟨_, rfl, _, rfl, c, _, rfl, .inr ((s.trans s2).tup hc), rfl, flat_strs cs, grow (acc := fun i => (fs.take i).map fun x => V.bl (decide (x ∈ cs))) nD2 s2 e2 ?_ ?_⟩⟩
        · rw [List.length_map, List.length_take]
          exact small1000 (by omega)
        · show List.map _ _ = _
          rw [take_more hx, List.map_append]
          simp only [List.map_cons, List.map_nil, inV_str]
          rfl
      · rintro H4 ⟨s2, e2⟩
        rw [List.length_map, List.take_length] at e2
        refine ⟨D2, fs.map fun x => decide (x ∈ cs), rfl, sqL_of (by rw [e2, List.map_map]; rfl), ?_⟩
        refine ⟨_, rfl, ?_⟩
        have em : meets hs fs cs = !((fs.map fun x => decide (x ∈ cs)).any id) := by
          unfold meets
          rw [List.any_map]
          have c1 : (hs.all fun x => decide (x ∈ cs)) = true := by rw [List.all_map] at c1; exact c1
          rw [c1, Bool.true_and]
          rfl
        rw [← em]
        exact q H4 (s.trans s2)
    · have em : meets hs fs cs = false := by
        unfold meets
        have c1 : (hs.all fun x => decide (x ∈ cs)) = false := by rw [List.all_map] at c1; exact c1
        rw [c1, Bool.false_and]
      rw [← em]
      exact q H2 s
/-! ### within -/
theorem sc_Condition_within : FnScope ["self", "other", "held", "name"] ["self", "other"] (defScope s_Condition_within) := ⟨rfl, rfl, rfl, by decide +kernel, rfl, by decide +kernel, by decide +kernel⟩
def withinC (hs fs gs ks : List Str) : Bool := (gs.all fun x => decide (x ∈ hs)) && (ks.all fun x => decide (x ∈ fs))
def sp_within (K : PySem.W.Frag) (C : Addr) : Sp := fun vs H Q _ => ∃ (o o2 : Addr) (hs fs gs ks : List Str), vs = [.ref o, .ref o2] ∧ CondAt K C H o hs fs ∧ CondAt K C H o2 gs ks ∧ gs.length ≤ 1000 ∧ ks.length ≤ 1000 ∧ ∀ H', Same H H' → Q (.bl (withinC hs fs gs ks)) H'
/-- the getters -/
abbrev PropC (P : Program) (w : World) (K : PySem.W.Frag) (mg : Str → Option Value) (base : Heap) (C p g : Addr) (fd : FuncData) (n f : Str) : Prop := PropOf K C n p g ∧ FnOk P w K mg base CX0 1 g fd ["self"] (sp_prop C f) ∧ Binds K fd ["self"] []
theorem ok_within {f p1' g1 p2' g2 : Addr} {fd fd1 fd2 : FuncData} (F : Fun K "within" "Condition.within" s_Condition_within f fd) (B : Blt mg) (T : Cls K C) (n1 : NoAttr K C "_holding") (n2 : NoAttr K C "_failing")
    (p1 : PropC P w K mg base C p1' g1 fd1 "holding" "_holding") (p2 : PropC P w K mg base C p2' g2 fd2 "failing" "_failing") : FnOk P w K mg base CX0 3 f fd ["self", "other"] (sp_within K C) := by
  refine F.ok sc_Condition_within (fun vs H Q E h => by obtain ⟨o, c, hs, fs, gs, ks, rfl, _⟩ := h; rfl) (fun cdv A outer s H vs Q E hr h => ?_)
  obtain ⟨o, o2, hs, fs, gs, ks, rfl, hC, hD, l1, l2, q⟩ := h
  obtain ⟨dx, a, b, n, zs, ho, ha, hb, _⟩ := hC.at_
  obtain ⟨dx2, a2, b2, n2', zs2, ho2, ha2, hb2, _⟩ := hD.at_
  have lk1 : (condF a2 b2 n2').lookup ("_holding" : Str) = some (.ref a2) := rfl
  have lk2 : (condF a2 b2 n2').lookup ("_failing" : Str) = some (.ref b2) := rfl
  refine ⟨_, (pss_cons (ps_set (i := 2) sc_Condition_within.nd rfl (Or.inl rfl) (pe_callB (cr_all rfl) (by rfl) B.b_all PyProof.Rows.boot_all (pa_cons (pe_lc (own := [("name", 3)]) (g := gName 3) (tt := tYes) rfl sc_Condition_within.nd (pi_tup (pe_prop (pv 1) T p1.1 p1.2.1 (hr.mono (by decide)) p1.2.2 .nil pass0 rfl)) (blkOk_by (own := [("name", 3)]) (N := ["self", "other", "held", "name"]) (sc := defScope s_Condition_within) (by decide +kernel)) (fun _ _ _ _ _ => (pg_name (i := 3) sc_Condition_within.nd rfl (Or.inl rfl))) (fun _ _ _ _ _ => pts_nil) (fun _ _ _ _ _ => (pe_.re (pe_cmpR op_in_seq (pv 3) (pe_fld (pv 0) rfl) rfl) (by first | (dsimp only [Cx.blk]; done) | exact rfl)))) pa_nil)))
      (pss_one (ps_ret (pe_and (pv 2) (pe_one (pe_callB (cr_all rfl) (by rfl) B.b_all PyProof.Rows.boot_all (pa_cons (pe_lc (own := [("name", 3)]) (g := gName 3) (tt := tYes) rfl sc_Condition_within.nd (pi_tup (pe_prop (pv 1) T p2.1 p2.2.1 (hr.mono (by decide)) p2.2.2 .nil pass0 rfl)) (blkOk_by (own := [("name", 3)]) (N := ["self", "other", "held", "name"]) (sc := defScope s_Condition_within) (by decide +kernel)) (fun _ _ _ _ _ => (pg_name (i := 3) sc_Condition_within.nd rfl (Or.inl rfl))) (fun _ _ _ _ _ => pts_nil) (fun _ _ _ _ _ => (pe_.re (pe_cmpR op_in_seq (pv 3) (pe_fld (pv 0) rfl) rfl) (by first | (dsimp only [Cx.blk]; done) | exact rfl)))) pa_nil))))))), ?_⟩
  refine ⟨_, rfl, o2, dx2, _, rfl, ho2, ⟨o2, dx2, _, _, rfl, ho2, lk1, ?_⟩⟩
  refine ⟨a2, rfl, ⟨_, ha2⟩, fun D nD => lc_it walk_tup (fun i H' => Same H H' ∧ H' D = some (.lst ((gs.take i).map fun x => V.bl (decide (x ∈ hs))))) ⟨(Same.refl H).put nD, upd_same⟩ (fun _ _ _ h => h.1.tup ha2) ?_ ?_⟩
  · rintro i y H2 H3 hi ⟨s, e⟩ ⟨rfl, hy⟩
    rw [List.length_map] at hi
    have hx : gs[i]? = some gs[i] := List.getElem?_eq_getElem hi
    obtain rfl : V.str gs[i] = y := strAt_inj hx hy
    refine ⟨rfl, yes_ ⟨_, rfl, _, rfl, o, C, dx, _, .ref a, rfl, s _ _ ho, T, n1, rfl, a, _, rfl, .inr (s.tup ha), rfl, flat_strs hs, grow (acc := fun i => (gs.take i).map fun x => V.bl (decide (x ∈ hs))) nD s e ?_ ?_⟩⟩
    · rw [List.length_map, List.length_take]
      exact small1000 (by omega)
    · show List.map _ _ = _
      rw [take_more hx, List.map_append]
      simp only [List.map_cons, List.map_nil, inV_str]
      rfl
  · rintro H2 ⟨s, e⟩
    rw [List.length_map, List.take_length] at e
    refine ⟨D, gs.map fun x => decide (x ∈ hs), rfl, sqL_of (by rw [e, List.map_map]; rfl), ?_⟩
    refine ⟨_, rfl, _, rfl, bcase (fun c1 => ?_) (fun c1 => ?_)⟩
    · refine ⟨_, rfl, o2, dx2, _, rfl, s _ _ ho2, ⟨o2, dx2, _, _, rfl, s _ _ ho2, lk2, ?_⟩⟩
      refine ⟨b2, rfl, ⟨_, s.tup hb2⟩, fun D2 nD2 => lc_it walk_tup (fun i H' => Same H2 H' ∧ H' D2 = some (.lst ((ks.take i).map fun x => V.bl (decide (x ∈ fs))))) ⟨(Same.refl H2).put nD2, upd_same⟩ (fun _ _ _ h => (s.trans h.1).tup hb2) ?_ ?_⟩
      · rintro i y H4 H3 hi ⟨s2, e2⟩ ⟨rfl, hy⟩
        rw [List.length_map] at hi
        have hx : ks[i]? = some ks[i] := List.getElem?_eq_getElem hi
        obtain rfl : V.str ks[i] = y := strAt_inj hx hy
        have s3 := s.trans s2
        refine ⟨rfl, yes_ ⟨_, rfl, _, rfl, o, C, dx, _, .ref b, rfl, s3 _ _ ho, T, n2, rfl, b, _, rfl, .inr (s3.tup hb), rfl, flat_strs fs, grow (acc := fun i => (ks.take i).map fun x => V.bl (decide (x ∈ fs))) nD2 s2 e2 ?_ ?_⟩⟩
        · rw [List.length_map, List.length_take]
          exact small1000 (by omega)
        · show List.map _ _ = _
          rw [take_more hx, List.map_append]
          simp only [List.map_cons, List.map_nil, inV_str]
          rfl
      · rintro H4 ⟨s2, e2⟩
        rw [List.length_map, List.take_length] at e2
        refine ⟨D2, ks.map fun x => decide (x ∈ fs), rfl, sqL_of (by rw [e2, List.map_map]; rfl), ?_⟩
        have em : withinC hs fs gs ks = (ks.map fun x => decide (x ∈ fs)).all id := by
          unfold withinC
          have c1 : (gs.all fun x => decide (x ∈ hs)) = true := by rw [List.all_map] at c1; exact c1
          rw [c1, Bool.true_and, List.all_map]
          rfl
        rw [← em]
        exact q H4 (s.trans s2)
    · have em : withinC hs fs gs ks = false := by
        unfold withinC
        have c1 : (gs.all fun x => decide (x ∈ hs)) = false := by rw [List.all_map] at c1; exact c1
        rw [c1, Bool.false_and]
      rw [← em]
      exact q H2 s
/-! ### == -/
theorem sc_Condition___eq__ : FnScope ["self", "other"] ["self", "other"] (defScope s_Condition___eq__) := ⟨rfl, rfl, rfl, by decide +kernel, rfl, by decide +kernel, by decide +kernel⟩
theorem dp_strs {H : Hp} {a : Addr} {xs : List Str} (h : SqT K H a (xs.map V.str)) : Dp K H (.ref a) (.tuple (xs.map PyData.str)) := .tup h (dps K H xs)
/-- what isinstance asks of the class at C -/
structure IsiC (K : PySem.W.Frag) (C : Addr) : Prop where
  ca : PySem.W.findIn K (.ref C) "__class__" = some (some (.builtin "object.__class__"))
  cn : PySem.W.specialIn K (.builtin "object.__class__") "__get__" = some (some (.builtin "getset_descriptor.__get__"))
  ct : PySem.W.takesIn K (.builtin "object.__class__") = some true
  cm : PySem.W.mroIn K C (.type "object") = some true
  me : PySem.W.kitOne K (.ref C) (.ref C) = some true
def sp_ceq (K : PySem.W.Frag) (C : Addr) : Sp := fun vs H Q _ => ∃ (o : Addr) (y : V) (hs fs : List Str), vs = [.ref o, y] ∧ CondAt K C H o hs fs ∧ Fines hs ∧ Fines fs ∧
  ((∃ (o2 : Addr) (gs ks : List Str), y = .ref o2 ∧ CondAt K C H o2 gs ks ∧ Fines gs ∧ Fines ks ∧ Q (.bl (decide (hs = gs) && decide (fs = ks))) H) ∨ (∃ t : Value, TyOf K H y t ∧ PySem.W.kitOne K t (.ref C) = some false ∧ Q (.bl false) H))
theorem ok_ceq {f : Addr} {fd : FuncData} (F : Fun K "__eq__" "Condition.__eq__" s_Condition___eq__ f fd) (B : Blt mg) (T : Cls K C) (n1 : NoAttr K C "_holding") (n2 : NoAttr K C "_failing") (mC : mg "Condition" = some (.ref C)) (I : IsiC K C) : FnOk P w K mg base CX0 1 f fd ["self", "other"] (sp_ceq K C) := by
  refine F.ok sc_Condition___eq__ (fun vs H Q E h => by obtain ⟨o, y, hs, fs, rfl, _⟩ := h; rfl) (fun cdv A outer s H vs Q E hr h => ?_)
  obtain ⟨o, y, hs, fs, rfl, hC, f1, f2, q⟩ := h
  obtain ⟨dx, a, b, n, zs, ho, ha, hb, _⟩ := hC.at_
  refine ⟨_, (pss_one (ps_ret (pe_and (pe_callB call_isi (by rfl) B.b_isinstance PyProof.Rows.boot_isinstance (pa_cons (pv 1) (pa_cons (pe_glob (v := .ref _) rfl mC rfl) pa_nil))) (pe_and (pe_cmpR (op_eqD hr.units) (pe_fld (pv 0) rfl) (pe_fld (pv 1) rfl) (nomark _)) (pe_one (pe_cmpR (op_eqD hr.units) (pe_fld (pv 0) rfl) (pe_fld (pv 1) rfl) (nomark _))))))), ?_⟩
  rcases q with ⟨o2, gs, ks, rfl, hD, f3, f4, q⟩ | ⟨t, ht, hk, q⟩
  · obtain ⟨dx2, a2, b2, n2', zs2, ho2, ha2, hb2, _⟩ := hD.at_
    refine ⟨_, rfl, _, _, _, _, _, rfl, .own _, .base (.ins ho2 T I.ca I.cn I.ct I.cm), I.me, _, rfl, iteT ?_⟩
    refine ⟨_, rfl, o, C, dx, _, .ref a, rfl, ho, T, n1, rfl, _, rfl, o2, C, dx2, _, .ref a2, rfl, ho2, T, n1, rfl, _, _, dp_strs ha, dp_strs ha2, shT f1, shT f3, _, rfl, ?_⟩
    have e1 : (PyData.tuple (hs.map PyData.str)).eqv (.tuple (gs.map PyData.str)) = decide (hs = gs) := eqvA hs gs
    rw [e1]
    by_cases c1 : hs = gs
    · rw [decide_eq_true c1]
      rw [decide_eq_true c1, Bool.true_and] at q
      refine iteT ⟨_, rfl, o, C, dx, _, .ref b, rfl, ho, T, n2, rfl, _, rfl, o2, C, dx2, _, .ref b2, rfl, ho2, T, n2, rfl, _, _, dp_strs hb, dp_strs hb2, shT f2, shT f4, ?_⟩
      have e2 : (PyData.tuple (fs.map PyData.str)).eqv (.tuple (ks.map PyData.str)) = decide (fs = ks) := eqvA fs ks
      rw [e2]
      exact q
    · rw [decide_eq_false c1]
      rw [decide_eq_false c1, Bool.false_and] at q
      exact iteF q
  · exact ⟨_, rfl, _, _, _, _, _, rfl, .own _, .base ht, hk, _, rfl, iteF q⟩
/-! ### & -/
theorem sc_Condition___and__ : FnScope ["self", "other", "holding", "failing", "name"] ["self", "other"] (defScope s_Condition___and__) := ⟨rfl, rfl, rfl, by decide +kernel, rfl, by decide +kernel, by decide +kernel⟩
def mrg (xs ys : List Str) : List Str := srt (xs ++ ys.filter fun y => !decide (y ∈ xs))
theorem mrg_txts {xs ys : List Str} (h1 : Txts xs) (h2 : Txts ys) : Txts (mrg xs ys) := fun x hx => by
  have hx := (srt_perm _).mem_iff.mp hx
  rcases List.mem_append.mp hx with h | h
  · exact h1 x h
  · exact h2 x (List.mem_filter.mp h).1
theorem mrg_len {xs ys : List Str} : (mrg xs ys).length ≤ xs.length + ys.length := by
  unfold mrg
  rw [(srt_perm _).length_eq, List.length_append]
  have := List.length_filter_le (fun y => !decide (y ∈ xs)) ys
  omega
theorem srt_uniq {zs l : List Str} (p : zs.Perm l) (s : sortedS zs = true) : zs = srt l := sorted_uniq (p.trans (srt_perm l).symm) s (srt_sorted l)
/-- a name of the one is in the other -/
def meetN (xs ys : List Str) : Bool := xs.any fun x => decide (x ∈ ys)
def sp_cand (K : PySem.W.Frag) (C CC CN : Addr) : Sp := fun vs H Q E => ∃ (o o2 : Addr) (hs fs gs ks : List Str), vs = [.ref o, .ref o2] ∧ CondAt K C H o hs fs ∧ CondAt K C H o2 gs ks ∧ Txts hs ∧ Txts fs ∧ Txts gs ∧ Txts ks ∧ hs.length + gs.length < 64 ∧ fs.length + ks.length < 64 ∧
  (meetN (mrg hs gs) (mrg fs ks) = true → ∀ H', Same H H' → E (.ref CN) none H') ∧ (meetN (mrg hs gs) (mrg fs ks) = false →
    (∀ i, firstWrong (mrg hs gs) [] = some i → errPI CC ((0 : Nat) : Int) i H E) ∧ (firstWrong (mrg hs gs) [] = none → (∀ i, firstWrong (mrg fs ks) (mrg hs gs) = some i → errPI CC ((1 : Nat) : Int) i H E) ∧
    (firstWrong (mrg fs ks) (mrg hs gs) = none → ∀ H' o3, Same H H' → H o3 = none → CondAt K C H' o3 (mrg hs gs) (mrg fs ks) → Q (.ref o3) H')))
theorem ok_cand {f p1' g1 p2' g2 CN : Addr} {fd fd1 fd2 : FuncData} (F : Fun K "__and__" "Condition.__and__" s_Condition___and__ f fd) (B : Blt mg) (T : Cls K C) (n1 : NoAttr K C "_holding") (n2 : NoAttr K C "_failing")
    (p1 : PropC P w K mg base C p1' g1 fd1 "holding" "_holding") (p2 : PropC P w K mg base C p2' g2 fd2 "failing" "_failing") (e_NeverMet : ErrMk0 K mg "NeverMet" CN)
    (c_merged : Cal P w K mg base CX0 1 "merged" ["names", "others"] (sp_merged K)) (k_Condition : Mkr P w K mg base 4 "Condition" C ["self", "holding", "failing"] (sp_cond_init K C CC)) : FnOk P w K mg base (L2.CX P w) 6 f fd ["self", "other"] (sp_cand K C CC CN) := by
  refine F.okX sc_Condition___and__ (fun vs H Q E h => by obtain ⟨o, o2, hs, fs, gs, ks, rfl, _⟩ := h; rfl) (fun cdv A outer s H vs Q E hr h => ?_)
  obtain ⟨o, o2, hs, fs, gs, ks, rfl, hC, hD, t1, t2, t3, t4, l1, l2, qE, q⟩ := h
  obtain ⟨dx, a, b, n, zs, ho, ha, hb, _⟩ := hC.at_
  obtain ⟨dx2, a2, b2, n2', zs2, ho2, ha2, hb2, _⟩ := hD.at_
  have lk1 : (condF a2 b2 n2').lookup ("_holding" : Str) = some (.ref a2) := rfl
  have lk2 : (condF a2 b2 n2').lookup ("_failing" : Str) = some (.ref b2) := rfl
  refine ⟨_, (pss_cons (ps_set (i := 2) sc_Condition___and__.nd rfl (Or.inl rfl) (pe_cal c_merged (hr.mono (by decide)) (pa_cons (pe_fld (pv 0) rfl) (pa_cons (pe_prop (pv 1) T p1.1 p1.2.1 (hr.mono (by decide)) p1.2.2 .nil pass0 rfl) pa_nil))))
      (pss_cons (ps_set (i := 3) sc_Condition___and__.nd rfl (Or.inr rfl) (pe_cal c_merged (hr.mono (by decide)) (pa_cons (pe_fld (pv 0) rfl) (pa_cons (pe_prop (pv 1) T p2.1 p2.2.1 (hr.mono (by decide)) p2.2.2 .nil pass0 rfl) pa_nil))))
      (pss_cons (ps_if (pt_val (pe_callB (cr_any rfl) (by rfl) B.b_any (by decide +kernel) (pa_cons (pe_lc (own := [("name", 4)]) (g := gName 4) (tt := tYes) rfl sc_Condition___and__.nd (pi_tup (pv 2)) (blkOk_by (own := [("name", 4)]) (N := ["self", "other", "holding", "failing", "name"]) (sc := defScope s_Condition___and__) (by decide +kernel)) (fun _ _ _ _ _ => (pg_name (i := 4) sc_Condition___and__.nd rfl (Or.inl rfl))) (fun _ _ _ _ _ => pts_nil) (fun _ _ _ _ _ => (pe_.re (pe_cmpR op_in_seq (pv 4) (pv 3) rfl) (by first | (dsimp only [Cx.blk]; done) | exact rfl)))) pa_nil))) (pss_one (ps_raise rfl (takes_of rfl rfl rfl rfl) (pmk_err0 e_NeverMet))) pss_nil)
      (pss_one (ps_ret (pe_mkX k_Condition (hr.mono (by decide)) (takes_of rfl rfl rfl rfl) (pa_cons (pv 2) (pa_cons (pv 3) pa_nil)))))))), ?_⟩
  refine ⟨_, rfl, o, C, dx, _, .ref a, rfl, ho, T, n1, rfl, _, rfl, o2, dx2, _, rfl, ho2, ⟨o2, dx2, _, _, rfl, ho2, lk1, ?_⟩⟩
  refine ⟨a, a2, hs, gs, rfl, ha, ha2, l1, fun H1 hA za s1 eA pA sA => ?_⟩
  obtain rfl : za = mrg hs gs := srt_uniq pA sA
  refine ⟨_, rfl, o, C, dx, _, .ref b, rfl, s1 _ _ ho, T, n2, rfl, _, rfl, o2, dx2, _, rfl, s1 _ _ ho2, ⟨o2, dx2, _, _, rfl, s1 _ _ ho2, lk2, ?_⟩⟩
  refine ⟨b, b2, fs, ks, rfl, s1.tup hb, s1.tup hb2, l2, fun H2 hB zb s2 eB pB sB => ?_⟩
  obtain rfl : zb = mrg fs ks := srt_uniq pB sB
  have s12 := s1.trans s2
  have eA2 := s2 _ _ eA
  refine ⟨_, rfl, hA, rfl, ⟨_, sqT_of eA2⟩, fun D nD => lc_it walk_tup (fun i H' => Same H2 H' ∧ H' D = some (.lst (((mrg hs gs).take i).map fun x => V.bl (decide (x ∈ mrg fs ks))))) ⟨(Same.refl H2).put nD, upd_same⟩ (fun _ _ _ h => h.1.tup (sqT_of eA2)) ?_ ?_⟩
  · rintro i y H4 H3 hi ⟨s, e⟩ ⟨rfl, hy⟩
    rw [List.length_map] at hi
    have hx : (mrg hs gs)[i]? = some (mrg hs gs)[i] := List.getElem?_eq_getElem hi
    obtain rfl : V.str (mrg hs gs)[i] = y := strAt_inj hx hy
    refine ⟨rfl, yes_ ⟨_, rfl, _, rfl, hB, _, rfl, .inr (sqT_of (s _ _ eB)), rfl, flat_strs _, grow (acc := fun i => ((mrg hs gs).take i).map fun x => V.bl (decide (x ∈ mrg fs ks))) nD s e ?_ ?_⟩⟩
    · rw [List.length_map, List.length_take]
      have := mrg_len (xs := hs) (ys := gs)
      exact small1000 (by omega)
    · show List.map _ _ = _
      rw [take_more hx, List.map_append]
      simp only [List.map_cons, List.map_nil, inV_str]
      rfl
  · rintro H4 ⟨s, e⟩
    rw [List.length_map, List.take_length] at e
    refine ⟨D, (mrg hs gs).map fun x => decide (x ∈ mrg fs ks), rfl, sqL_of (by rw [e, List.map_map]; rfl), ?_⟩
    have em : ((mrg hs gs).map fun x => decide (x ∈ mrg fs ks)).any id = meetN (mrg hs gs) (mrg fs ks) := by
      rw [List.any_map]
      rfl
    rw [em]
    refine ⟨_, rfl, bcase (fun c1 => ?_) (fun c1 => ?_)⟩
    · exact qE c1 H4 (s12.trans s)
    · obtain ⟨q0, q⟩ := q c1
      have s4 := s12.trans s
      have eA4 := s _ _ eA2
      have eB4 := s _ _ eB
      refine ⟨_, rfl, _, rfl, fun o3 dx3 nx ndx nex => ?_⟩
      have s5 : Same H4 (upd (upd H4 dx3 (.own o3)) o3 (.ins C dx3 [])) := ((Same.refl H4).put ndx).put nx
      have m1 := mrg_len (xs := hs) (ys := gs)
      have m2 := mrg_len (xs := fs) (ys := ks)
      refine ⟨o3, dx3, hA, hB, _, _, rfl, upd_same, sqT_of (s5 _ _ eA4), sqT_of (s5 _ _ eB4), mrg_txts t1 t3, mrg_txts t2 t4, by omega, by omega, fun i ei H' d sH nd => q0 i ei H' d ((s4.trans s5).trans sH) nd, fun en => ?_⟩
      obtain ⟨q1, q⟩ := q en
      refine ⟨fun i ei H' d sH nd => q1 i ei H' d ((s4.trans s5).trans sH) nd, fun en2 H' n3 zs3 sX hx hn hperm hsort => ⟨rfl, ?_⟩⟩
      have sS : Same H4 H' := fun b' o' h => sX b' o' (fun e => by rw [e, nx] at h; cases h) (s5 _ _ h)
      exact q en2 H' o3 (s4.trans sS) (s4.free nx) ⟨dx3, hA, hB, n3, zs3, hx, sqT_of (sS _ _ eA4), sqT_of (sS _ _ eB4), hn, srt_uniq hperm hsort⟩
end
end Sc
namespace Sc
open PySem PySem.Spec PyProof.Rows L2
/-- o(e, ..), o an object whose class has its own __call__; the arguments leave it as it is -/
def tCallO (C : Addr) (sp : Sp) (E : XK) (te : TE) (t : TA) : TE := fun σ H Q => te σ H fun x H1 => ∃ (a : Addr), x = .ref a ∧
  t σ H1 fun vs H2 => (∃ (dx : Addr) (fs : List (Str × V)), H2 a = some (.ins C dx fs)) ∧ sp (.ref a :: vs) H2 Q E
theorem callWith_o {M : Model} {A : Around} {E : Value → Shared → Prop} {s : Shared} {pos : Pos} {x C : Addr} {first : List Value} {Q : Value → Shared → Prop} {args : List (Bool × Sem Value)} (hplain : args.any (·.1) = false)
    (h : wpAny M A (evalArgs (.ref x) true args []) (fun a s₁ => (∃ ox od, PySem.W.InstAt s₁.heap x ox C od ∧ ox.data = Data.plain) ∧ wpAny M A (call (.ref x) (first ++ a.pos) a.kw) Q E s₁) E s) : wpAny M A (callWith pos (.ref x) first args []) Q E s := by
  unfold callWith
  refine wpAny_bind (wpAny_holding (wpAny_mono h (fun a s₁ h₁ => wpAny_bind (wpAny_standAt ?_)) (fun _ _ z => z)))
  obtain ⟨⟨ox, od, J, hd⟩, h₂⟩ := h₁
  have L := PySem.W.kco_keeper (M := M) J hd
  simp only [hplain, List.any_nil, Bool.or_false]
  exact wpAny_bind (PySem.W.Looks.here L (wpAny_bind (wpAny_mono (wpAny_operateT h₂) (fun r s₂ hr => wpAny_bind (wpAny_holding (wpAny_point (wpAny_pure hr)))) (fun _ _ z => z))))
theorem pe_callO {X : Cx} {CX : CXT} {C g : Addr} {k : Nat} {fd : FuncData} {ps : List Str} {sp : Sp} {E : XK} {te : TE} {t : TA} {x : Str} {e : Expr} {es : List Expr} {p pos : Pos}
    (at_ : PySem.W.findIn X.K (.ref C) "__call__" = some (some (.ref g))) (fn : PySem.W.isFn X.K (.ref g) = true) (fi : PySem.W.fnIn X.K g = true)
    (F : FnOk X.prog X.w X.K X.mg X.base CX k g fd ps sp) (hr : Room k X.A) (hb : Binds X.K fd ps []) (hx : Passes CX X E) (ho : PE X (.Name x p) te) (ha : PA X (e :: es) t)
    (he : starEach (e :: es) X.env = (false, eval e X.env) :: starEach es X.env := by rfl) (hpl : (backTo pos (starEach es X.env)).any (·.1) = false := by rfl) :
    PE X (.Call (.Name x p) (e :: es) [] pos) (tCallO C sp E te t) := by
  refine ⟨fun pins s σ H Q I h => wpAny_Call_NameR (thn (ho.run pins s σ H _ I h) fun u s1 hh => ?_)⟩
  obtain ⟨y, H1, I1, ry, a, rfl, h⟩ := hh
  obtain rfl : u = Value.ref a := ry
  have hr0 := ha.run pos pins s1 σ H1 _ I1 h
  have eb : backTo pos (starEach (e :: es) X.env) = (false, eval e X.env) :: backTo pos (starEach es X.env) := by rw [he]; rfl
  rw [eb] at hr0 ⊢
  refine callWith_o (C := C) (by rw [List.any_cons, hpl]; rfl) (Calls.evalArgs_plain (thn hr0 fun us s2 hh => ?_))
  obtain ⟨vs, H2, I2, rv, ⟨dx, fs, ea⟩, hq⟩ := hh
  obtain ⟨mA, O, _⟩ := ins_get I2.hok ea
  obtain ⟨od, J, _⟩ := ObjM.look O
  have hl : (Value.ref a :: us).length = ps.length := by
    have := F.len _ _ _ _ hq
    rw [← this, List.length_cons, List.length_cons, Vals.length rv]
  refine ⟨⟨_, _, J, rfl⟩, wpAny_call (PySem.W.kco_code I2.kIn J rfl at_ fn fi (codeAny_mono (F.run X.A X.stack s2 H2 ⟨.ref a :: us, []⟩ (.ref a :: us) (.ref a :: vs) Q E hr I2.env0 ?_ (Paired.cons rfl rv) hq) fun res s' hcr => ?_))⟩
  · have := hb s2 (.ref a :: us) I2.kIn (by rw [List.append_nil]; exact hl)
    rw [List.append_nil] at this
    exact this
  · cases res with
    | error er => exact hx pins σ H2 s2 er s' I2 hcr
    | ok fl =>
      cases fl with
      | ret v => exact I2.after hcr
      | next => exact hcr.elim
      | brk => exact hcr.elim
      | cont => exact hcr.elim
end Sc
namespace Sc
open PySem PySem.Spec PyProof.Rows L2
/-- the class Condition as its users see it -/
structure CondX (P : Program) (w : World) (K : PySem.W.Frag) (mg : Str → Option Value) (base : Heap) (C CC CN : Addr) : Prop where
  cls : Cls K C
  isi : IsiC K C
  holding : ∃ p g fd, PropC P w K mg base C p g fd "holding" "_holding"
  failing : ∃ p g fd, PropC P w K mg base C p g fd "failing" "_failing"
  names : ∃ p g fd, PropC P w K mg base C p g fd "names" "_names"
  call : ∃ g fd, PySem.W.findIn K (.ref C) "__call__" = some (some (.ref g)) ∧ PySem.W.isFn K (.ref g) = true ∧ PySem.W.fnIn K g = true ∧ FnOk P w K mg base CX0 1 g fd ["self", "case"] (sp_ccall K C) ∧ Binds K fd ["self", "case"] []
  eq : ∃ g fd, PySem.W.findIn K (.ref C) "__eq__" = some (some (.ref g)) ∧ PySem.W.isFn K (.ref g) = true ∧ FnOk P w K mg base CX0 1 g fd ["self", "other"] (sp_ceq K C) ∧ Binds K fd ["self", "other"] []
  ne : PySem.W.findIn K (.ref C) "__ne__" = some (some (.builtin "object.__ne__"))
  and_ : PySem.W.selfFirst K C = true ∧ ∃ g fd, PySem.W.findIn K (.ref C) "__and__" = some (some (.ref g)) ∧ PySem.W.isFn K (.ref g) = true ∧ FnOk P w K mg base (L2.CX P w) 6 g fd ["self", "other"] (sp_cand K C CC CN) ∧ Binds K fd ["self", "other"] []
  within_ : ∃ g fd, Meth K C "within" g ∧ FnOk P w K mg base CX0 3 g fd ["self", "other"] (sp_within K C) ∧ Binds K fd ["self", "other"] []
section
variable {X : Cx} {C CC CN : Addr} {e o : Expr} {es : List Expr} {ta te : TE} {t : TA} {x : Str} {p pos apos : Pos} {E : XK}
theorem pe_cprop {f n : Str} (M : ∃ p g fd, PropC X.prog X.w X.K X.mg X.base C p g fd n f) (c : Cls X.K C) (hr : Room 2 X.A) (he : PE X e ta) (hab : attributeBase e n X.env (eval e X.env) = eval e X.env := by rfl) : PE X (.Attribute e n pos) (tProp C (sp_prop C f) [] E0 ta) := by
  obtain ⟨p, g, fd, h1, h2, h3⟩ := M
  exact pe_prop he c h1 h2 hr h3 .nil pass0 hab
theorem pe_cc (M : CondX X.prog X.w X.K X.mg X.base C CC CN) (hr : Room 1 X.A) (ho : PE X (.Name x p) te) (ha : PA X (e :: es) t)
    (he : starEach (e :: es) X.env = (false, eval e X.env) :: starEach es X.env := by rfl) (hpl : (backTo pos (starEach es X.env)).any (·.1) = false := by rfl) : PE X (.Call (.Name x p) (e :: es) [] pos) (tCallO C (sp_ccall X.K C) E0 te t) := by
  obtain ⟨g, fd, h1, h2, h3, F, hb⟩ := M.call
  exact pe_callO h1 h2 h3 F hr hb pass0 ho ha he hpl
theorem op_ceq (M : CondX X.prog X.w X.K X.mg X.base C CC CN) (hr : Room 1 X.A) : OpR X (compareOp .Eq) (rEqO X.K C (sp_ceq X.K C) E0) := by
  obtain ⟨g, fd, h1, h2, F, hb⟩ := M.eq
  exact op_eqO h1 h2 F hr hb pass0
theorem op_cne (M : CondX X.prog X.w X.K X.mg X.base C CC CN) (hr : Room 2 X.A) : OpR X (compareOp .NotEq) (rNeO X.K C (sp_ceq X.K C) E0) := by
  obtain ⟨g, fd, h1, h2, F, hb⟩ := M.eq
  exact op_neO M.isi.cm M.ne h1 h2 F hr hb pass0
theorem op_candN (M : CondX X.prog X.w X.K X.mg X.base C CC CN) (hr : Room 6 X.A) : OpR X (binaryOp .BitAnd) (rBinO C (sp_cand X.K C CC CN) E0) := by
  obtain ⟨h0, g, fd, h1, h2, F, hb⟩ := M.and_
  exact op_binO h0 h1 h2 F hr hb passL
theorem op_candX (M : CondX X.prog X.w X.K X.mg X.base C CC CN) (hr : Room 6 X.A) (tk : Takes X (fun cls d _ H => E cls d H)) : OpR X (binaryOp .BitAnd) (rBinO C (sp_cand X.K C CC CN) E) := by
  obtain ⟨h0, g, fd, h1, h2, F, hb⟩ := M.and_
  exact op_binO h0 h1 h2 F hr hb (fun pins σ H s e s' I h => passAt tk σ pins H s e s' I h)
theorem pe_cwithin {pl : Sem Bool} (M : CondX X.prog X.w X.K X.mg X.base C CC CN) (hr : Room 3 X.A) (he : PE X o ta) (ha : PA X (e :: es) t)
    (hst : starEach (e :: es) X.env = (false, eval e X.env) :: starEach es X.env := by rfl) (hpl : (backTo pos (starEach es X.env)).any (·.1) = false := by rfl)
    (ht : eval (.Call (.Attribute o "within" apos) (e :: es) [] pos) X.env = (do
      let ov ← eval o X.env
      standAt apos.atName
      let (f, first) ← holding [ov] (getMethod ov "within" pl)
      callWith pos f first (backTo pos (starEach (e :: es) X.env)) (backToKw pos (keywordEach [] X.env))) := by rfl) : PE X (.Call (.Attribute o "within" apos) (e :: es) [] pos) (tMeth C "within" (sp_within X.K C) [] E0 ta t) := by
  obtain ⟨g, fd, h1, F, hb⟩ := M.within_
  exact pe_meth he M.cls h1 F hr hb .nil pass0 ha hst hpl ht
end
end Sc
namespace Sc
open PySem PySem.Spec PyProof.Rows L2
theorem wk_ps {X : Cx} {st : Stmt} {t : TS} (t' : TS) (h : PS X st t) (w : ∀ D σ H, t' D σ H → t D σ H) : PS X st t' := ⟨fun pins s σ H D I x => h.run pins s σ H D I (w D σ H x)⟩
/-! ### rules as data -/
inductive All2 {α β : Type} (R : α → β → Prop) : List α → List β → Prop where
  | nil : All2 R [] []
  | cons {a : α} {b : β} {as : List α} {bs : List β} (h : R a b) (t : All2 R as bs) : All2 R (a :: as) (b :: bs)
namespace All2
variable {α β : Type} {R S : α → β → Prop} {as as' : List α} {bs bs' : List β}
theorem len (h : All2 R as bs) : as.length = bs.length := by
  induction h with
  | nil => rfl
  | cons _ _ ih => rw [List.length_cons, List.length_cons, ih]
theorem mono (h : All2 R as bs) (f : ∀ a b, R a b → S a b) : All2 S as bs := by
  induction h with
  | nil => exact .nil
  | cons h _ ih => exact .cons (f _ _ h) ih
theorem monoM (h : All2 R as bs) (f : ∀ a b, b ∈ bs → R a b → S a b) : All2 S as bs := by
  induction h with
  | nil => exact .nil
  | cons h _ ih => exact .cons (f _ _ List.mem_cons_self h) (ih fun a b m => f a b (List.mem_cons_of_mem _ m))
theorem app (h : All2 R as bs) (k : All2 R as' bs') : All2 R (as ++ as') (bs ++ bs') := by
  induction h with
  | nil => exact k
  | cons h _ ih => exact .cons h ih
theorem one {a : α} {b : β} (h : R a b) : All2 R [a] [b] := .cons h .nil
theorem snoc {a : α} {b : β} (h : All2 R as bs) (r : R a b) : All2 R (as ++ [a]) (bs ++ [b]) := h.app (one r)
theorem get (h : All2 R as bs) : ∀ {i : Nat} {a : α}, as[i]? = some a → ∃ b, bs[i]? = some b ∧ R a b := by
  induction h with
  | nil => intro i a e; cases i <;> cases e
  | cons h _ ih =>
    intro i a e
    cases i with
    | zero => cases e; exact ⟨_, rfl, h⟩
    | succ i => exact ih e
theorem get' (h : All2 R as bs) : ∀ {i : Nat} {b : β}, bs[i]? = some b → ∃ a, as[i]? = some a ∧ R a b := by
  induction h with
  | nil => intro i a e; cases i <;> cases e
  | cons h _ ih =>
    intro i a e
    cases i with
    | zero => cases e; exact ⟨_, rfl, h⟩
    | succ i => exact ih e
theorem at' (h : All2 R as bs) {i : Nat} (hi : i < bs.length) : ∃ a, as[i]? = some a ∧ R a bs[i] := h.get' (List.getElem?_eq_getElem hi)
end All2
/-- a row of rules, each with its exceptions -/
inductive RF where
  | nil : RF
  | cons (nm : Str) (hs fs : List Str) (rl : Str) (exc rest : RF) : RF
structure Nd where
  nm : Str
  hs : List Str
  fs : List Str
  rl : Str
  exc : RF
namespace RF
def nodes : RF → List Nd
  | .nil => []
  | .cons nm hs fs rl exc rest => ⟨nm, hs, fs, rl, exc⟩ :: rest.nodes
def dep : RF → Nat
  | .nil => 0
  | .cons _ _ _ _ exc rest => max (exc.dep + 1) rest.dep
def size : RF → Nat
  | .nil => 0
  | .cons _ _ _ _ exc rest => exc.size + 1 + rest.size
/-- all rules by their numbers, and within how many they stand -/
def pre : RF → Nat → List (Nd × Nat)
  | .nil, _ => []
  | .cons nm hs fs rl exc rest, k => (⟨nm, hs, fs, rl, exc⟩, k) :: (exc.pre (k + 1) ++ rest.pre k)
def ofNodes : List Nd → RF
  | [] => .nil
  | n :: r => .cons n.nm n.hs n.fs n.rl n.exc (ofNodes r)
theorem nodes_of : ∀ ns : List Nd, (ofNodes ns).nodes = ns
  | [] => rfl
  | n :: r => by show n :: (ofNodes r).nodes = n :: r; rw [nodes_of r]
theorem of_nodes : ∀ f : RF, ofNodes f.nodes = f
  | .nil => rfl
  | .cons nm hs fs rl exc rest => by show RF.cons nm hs fs rl exc (ofNodes rest.nodes) = _; rw [of_nodes rest]
theorem pre_nodes : ∀ (f : RF) (k : Nat), f.pre k = f.nodes.flatMap fun n => (n, k) :: n.exc.pre (k + 1)
  | .nil, _ => rfl
  | .cons nm hs fs rl exc rest, k => by
    show (_, k) :: (exc.pre (k + 1) ++ rest.pre k) = _
    rw [pre_nodes rest k]
    rfl
theorem pre_len : ∀ (f : RF) (k : Nat), (f.pre k).length = f.size
  | .nil, _ => rfl
  | .cons nm hs fs rl exc rest, k => by
    show ((_, k) :: (exc.pre (k + 1) ++ rest.pre k)).length = exc.size + 1 + rest.size
    rw [List.length_cons, List.length_append, pre_len exc, pre_len rest]
    omega
theorem dep_nil : ∀ f : RF, f.dep = 0 → f = .nil
  | .nil, _ => rfl
  | .cons _ _ _ _ exc rest, h => by
    have h : max (exc.dep + 1) rest.dep = 0 := h
    omega
theorem dep_mem : ∀ (f : RF) (n : Nd), n ∈ f.nodes → n.exc.dep + 1 ≤ f.dep
  | .nil, n, h => nomatch h
  | .cons nm hs fs rl exc rest, n, h => by
    show _ ≤ max (exc.dep + 1) rest.dep
    rcases List.mem_cons.mp h with rfl | h
    · exact Nat.le_max_left _ _
    · exact Nat.le_trans (dep_mem rest n h) (Nat.le_max_right _ _)
theorem dep_le : ∀ (f : RF) (d : Nat), (∀ n ∈ f.nodes, n.exc.dep + 1 ≤ d) → f.dep ≤ d
  | .nil, d, _ => Nat.zero_le d
  | .cons nm hs fs rl exc rest, d, h => by
    show max (exc.dep + 1) rest.dep ≤ d
    exact Nat.max_le.mpr ⟨h _ List.mem_cons_self, dep_le rest d fun n m => h n (List.mem_cons_of_mem _ m)⟩
theorem size_mem : ∀ (f : RF) (n : Nd), n ∈ f.nodes → n.exc.size + 1 ≤ f.size
  | .nil, n, h => nomatch h
  | .cons nm hs fs rl exc rest, n, h => by
    show _ ≤ exc.size + 1 + rest.size
    rcases List.mem_cons.mp h with rfl | h
    · show exc.size + 1 ≤ _
      omega
    · have := size_mem rest n h
      omega
theorem nodes_le : ∀ f : RF, f.nodes.length ≤ f.size
  | .nil => Nat.le_refl 0
  | .cons nm hs fs rl exc rest => by
    show rest.nodes.length + 1 ≤ exc.size + 1 + rest.size
    have := nodes_le rest
    omega
/-- the names of all rules, by their numbers -/
def names (f : RF) : List Str := (f.pre 0).map fun p => p.1.nm
theorem pre_names : ∀ (f : RF) (k : Nat), (f.pre k).map (fun p => p.1.nm) = f.names
  | .nil, _ => rfl
  | .cons nm hs fs rl exc rest, k => by
    unfold names
    show nm :: ((exc.pre (k + 1) ++ rest.pre k).map fun p => p.1.nm) = nm :: ((exc.pre (0 + 1) ++ rest.pre 0).map fun p => p.1.nm)
    rw [List.map_append, List.map_append, pre_names exc, pre_names exc, pre_names rest, pre_names rest]
/-- the first rules of a row, with their exceptions, by their numbers -/
def preL (ns : List Nd) (k : Nat) : List (Nd × Nat) := ns.flatMap fun n => (n, k) :: n.exc.pre (k + 1)
theorem preL_more {f : RF} {i k : Nat} {n : Nd} (h : f.nodes[i]? = some n) : preL (f.nodes.take (i + 1)) k = preL (f.nodes.take i) k ++ ((n, k) :: n.exc.pre (k + 1)) := by
  unfold preL
  rw [take_more h, List.flatMap_append]
  simp
theorem preL_all {f : RF} {k : Nat} : preL (f.nodes.take f.nodes.length) k = f.pre k := by
  rw [List.take_length, pre_nodes]
  rfl
theorem preL_len {f : RF} {i k : Nat} : (preL (f.nodes.take i) k).length ≤ f.size := by
  have e : preL f.nodes k = preL (f.nodes.take i) k ++ preL (f.nodes.drop i) k := by
    unfold preL
    rw [← List.flatMap_append, List.take_append_drop]
  have e2 : (preL f.nodes k).length = f.size := by
    rw [← pre_len f k, pre_nodes]
    rfl
  rw [← e2, e, List.length_append]
  exact Nat.le_add_right _ _
end RF
/-! ### where they stand -/
/-- an object that is made, to its last field -/
def DoneF (fs : List (Str × V)) : Bool := (fs.lookup ("_inside" : Str)).isSome || ((fs.lookup ("_names" : Str)).isSome || (fs.lookup ("_numbered" : Str)).isSome)
/-- what steps that change only lists of the law's own, or an object that is being made, leave as it is -/
def Stays (N : Addr → Prop) (b : Addr) (o : HO) : Prop := (∀ xs, o = .lst xs → N b) ∧ (∀ C dx fs, o = .ins C dx fs → DoneF fs = true) ∧ ∀ ps, o ≠ .tbl ps
def Keeps (N : Addr → Prop) (H H' : Hp) : Prop := ∀ b o, Stays N b o → H b = some o → H' b = some o
section
variable {K : PySem.W.Frag} {C R : Addr} {N : Addr → Prop} {H H' H'' : Hp}
theorem _root_.L2.Same.keeps (s : Same H H') : Keeps N H H' := fun b o _ e => s b o e
theorem Keeps.trans (h : Keeps N H H') (k : Keeps N H' H'') : Keeps N H H'' := fun b o st e => k b o st (h b o st e)
theorem Kp.keeps {a l : Addr} (k : Kp a l H H') (na : ¬ N a) (nl : ¬ N l) : Keeps N H H' := fun b o st e => by
  by_cases z : ∃ xs, o = .lst xs
  · obtain ⟨xs, rfl⟩ := z
    have := st.1 xs rfl
    exact k.keep b _ (fun z => na (z ▸ this)) (fun z => nl (z ▸ this)) e
  · exact k.obj e fun xs z2 => z ⟨xs, z2⟩
theorem SameX.keeps {x dx : Addr} {fs : List (Str × V)} (s : SameX x H H') (e : H x = some (.ins R dx fs)) (n : DoneF fs = false := by rfl) : Keeps N H H' := fun b o st h => s b o (fun z => by rw [z, e] at h; exact Bool.noConfusion (n.symm.trans (st.2.1 R dx fs (Option.some.inj h).symm))) h
/-- an object that is being made changes -/
theorem keeps_make {x dx : Addr} {fs : List (Str × V)} {o : HO} (e : H x = some (.ins R dx fs)) (n : DoneF fs = false := by rfl) : Keeps N H (upd H x o) := SameX.keeps (fun b o' ne h => by rw [upd_ne ne]; exact h) e n
theorem stays_tup {b : Addr} {xs : List V} : Stays N b (.tup xs) := ⟨(fun _ z => nomatch z), (fun _ _ _ z => nomatch z), (fun _ z => nomatch z)⟩
theorem stays_ins {b C dx : Addr} {fs : List (Str × V)} (h : DoneF fs = true := by rfl) : Stays N b (.ins C dx fs) := ⟨(fun _ z => nomatch z), (fun _ _ _ z => by cases z; exact h), (fun _ z => nomatch z)⟩
theorem stays_lst {b : Addr} {xs : List V} (h : N b) : Stays N b (.lst xs) := ⟨(fun _ _ => h), (fun _ _ _ z => nomatch z), (fun _ z => nomatch z)⟩
theorem Keeps.tup {b : Addr} {xs : List V} (k : Keeps N H H') (h : SqT K H b xs) : SqT K H' b xs := by
  rcases h with (h | ⟨o, h⟩) | h
  · exact .inl (.inl (k _ _ stays_tup h))
  · exact .inl (.inr ⟨o, k _ _ ⟨(fun _ z => nomatch z), (fun _ _ _ z => nomatch z), (fun _ z => nomatch z)⟩ h⟩)
  · exact .inr h
theorem CondAt.keeps {o : Addr} {hs fs : List Str} (h : CondAt K C H o hs fs) (k : Keeps N H H') : CondAt K C H' o hs fs := by
  obtain ⟨dx, a, b, n, zs, h1, h2, h3, h4, h5⟩ := h.at_
  exact ⟨dx, a, b, n, zs, k _ _ stays_ins h1, k.tup h2, k.tup h3, k _ _ stays_tup h4, h5⟩
/-- the fields of a rule -/
def ruleF (nm : Str) (c : Addr) (rl : Str) (p : Addr) (d : Int) (l : Addr) : List (Str × V) :=
  putF "_inside" (.ref l) (putF "_depth" (.int d) (putF "_exceptions" (.ref p) (putF "_ruling" (.str rl) (putF "_condition" (.ref c) (putF "_name" (.str nm) [])))))
def ForAt (K : PySem.W.Frag) (C R : Addr) (N : Addr → Prop) (H : Hp) : RF → List V → Prop
  | .nil, vs => vs = []
  | .cons nm hs fs rl exc rest, vs => ∃ (o dx c p l : Addr) (ws vs' : List V), vs = .ref o :: vs' ∧ H o = some (.ins R dx (ruleF nm c rl p ((exc.dep + 1 : Nat) : Int) l)) ∧ CondAt K C H c hs fs ∧ SqT K H p ws ∧ (N l ∧ H l = some (.lst ((nm :: exc.names).map V.str))) ∧
      ForAt K C R N H exc ws ∧ ForAt K C R N H rest vs'
def NdAt (K : PySem.W.Frag) (C R : Addr) (N : Addr → Prop) (H : Hp) (o : Addr) (n : Nd) : Prop := ∃ (dx c p l : Addr) (ws : List V), H o = some (.ins R dx (ruleF n.nm c n.rl p ((n.exc.dep + 1 : Nat) : Int) l)) ∧ CondAt K C H c n.hs n.fs ∧ SqT K H p ws ∧ (N l ∧ H l = some (.lst ((n.nm :: n.exc.names).map V.str))) ∧ ForAt K C R N H n.exc ws
def RefAt (K : PySem.W.Frag) (C R : Addr) (N : Addr → Prop) (H : Hp) (v : V) (n : Nd) : Prop := ∃ o, v = .ref o ∧ NdAt K C R N H o n
theorem stays_rule {b : Addr} {dx c p l : Addr} {nm rl : Str} {d : Int} : Stays N b (.ins R dx (ruleF nm c rl p d l)) := stays_ins
theorem ForAt.keeps (k : Keeps N H H') : ∀ {f : RF} {vs : List V}, ForAt K C R N H f vs → ForAt K C R N H' f vs
  | .nil, _, h => h
  | .cons nm hs fs rl exc rest, vs, h => by
    obtain ⟨o, dx, c, p, l, ws, vs', e, h1, h2, h3, ⟨h4, h5⟩, h6, h7⟩ := h
    exact ⟨o, dx, c, p, l, ws, vs', e, k _ _ stays_rule h1, h2.keeps k, k.tup h3, ⟨h4, k _ _ (stays_lst h4) h5⟩, ForAt.keeps k h6, ForAt.keeps k h7⟩
theorem NdAt.keeps {o : Addr} {n : Nd} (h : NdAt K C R N H o n) (k : Keeps N H H') : NdAt K C R N H' o n := by
  obtain ⟨dx, c, p, l, ws, h1, h2, h3, ⟨h4, h5⟩, h6⟩ := h
  exact ⟨dx, c, p, l, ws, k _ _ stays_rule h1, h2.keeps k, k.tup h3, ⟨h4, k _ _ (stays_lst h4) h5⟩, h6.keeps k⟩
theorem RefAt.keeps {v : V} {n : Nd} (h : RefAt K C R N H v n) (k : Keeps N H H') : RefAt K C R N H' v n := by
  obtain ⟨o, e, h⟩ := h
  exact ⟨o, e, h.keeps k⟩
theorem ForAt.all : ∀ {f : RF} {vs : List V}, ForAt K C R N H f vs → All2 (RefAt K C R N H) vs f.nodes
  | .nil, _, h => by
    obtain rfl : _ = [] := h
    exact .nil
  | .cons nm hs fs rl exc rest, vs, h => by
    obtain ⟨o, dx, c, p, l, ws, vs', rfl, h1, h2, h3, h4, h6, h7⟩ := h
    exact .cons ⟨o, rfl, dx, c, p, l, ws, h1, h2, h3, h4, h6⟩ h7.all
theorem ForAt.of : ∀ {f : RF} {vs : List V}, All2 (RefAt K C R N H) vs f.nodes → ForAt K C R N H f vs
  | .nil, _, h => by
    cases h
    rfl
  | .cons nm hs fs rl exc rest, vs, h => by
    cases h with
    | cons h t =>
      obtain ⟨o, rfl, dx, c, p, l, ws, h1, h2, h3, h4, h6⟩ := h
      exact ⟨o, dx, c, p, l, ws, _, rfl, h1, h2, h3, h4, h6, ForAt.of t⟩
theorem ForAt.len {f : RF} {vs : List V} (h : ForAt K C R N H f vs) : vs.length = f.nodes.length := h.all.len
theorem ForAt.re {M : Addr → Prop} (g : ∀ b xs, N b → H b = some (.lst xs) → M b) : ∀ {f : RF} {vs : List V}, ForAt K C R N H f vs → ForAt K C R M H f vs
  | .nil, _, h => h
  | .cons nm hs fs rl exc rest, vs, h => by
    obtain ⟨o, dx, c, p, l, ws, vs', e, h1, h2, h3, ⟨h4, h5⟩, h6, h7⟩ := h
    exact ⟨o, dx, c, p, l, ws, vs', e, h1, h2, h3, ⟨g _ _ h4 h5, h5⟩, ForAt.re g h6, ForAt.re g h7⟩
theorem NdAt.re {M : Addr → Prop} (g : ∀ b xs, N b → H b = some (.lst xs) → M b) {o : Addr} {n : Nd} (h : NdAt K C R N H o n) : NdAt K C R M H o n := by
  obtain ⟨dx, c, p, l, ws, h1, h2, h3, ⟨h4, h5⟩, h6⟩ := h
  exact ⟨dx, c, p, l, ws, h1, h2, h3, ⟨g _ _ h4 h5, h5⟩, h6.re g⟩
/-- the addresses of N that are in use -/
def Used (N : Addr → Prop) (H : Hp) (b : Addr) : Prop := N b ∧ H b ≠ none
theorem ForAt.used {f : RF} {vs : List V} (h : ForAt K C R N H f vs) : ForAt K C R (Used N H) H f vs := h.re fun b xs n e => ⟨n, by rw [e]; exact fun z => nomatch z⟩
theorem used_not {D : Addr} (n : H D = none) : ¬ Used N H D := fun h => h.2 n
theorem SameX.keeps' {D : Addr} (s : SameX D H H') (n : ¬ N D) (z : ∀ o, H D = some o → ∃ xs, o = .lst xs) : Keeps N H H' := fun b o st h => s b o (fun e => by
  subst e
  obtain ⟨xs, rfl⟩ := z o h
  exact n (st.1 xs rfl)) h
/-- a list of one's own changes -/
theorem keeps_own {D : Addr} {xs : List V} {o : HO} (e : H D = some (.lst xs)) (n : ¬ N D) : Keeps N H (upd H D o) := SameX.keeps' (fun b o' ne h => by rw [upd_ne ne]; exact h) n fun o' h => by rw [e] at h; exact ⟨xs, (Option.some.inj h).symm⟩
/-- a list of tuples (rule, number of rules around) -/
def PairAt (K : PySem.W.Frag) (C R : Addr) (N : Addr → Prop) (H : Hp) (v : V) (n : Nd × Nat) : Prop := ∃ (t o : Addr), v = .ref t ∧ H t = some (.tup [.ref o, .int (n.2 : Nat)]) ∧ NdAt K C R N H o n.1
theorem PairAt.keeps {v : V} {n : Nd × Nat} (h : PairAt K C R N H v n) (k : Keeps N H H') : PairAt K C R N H' v n := by
  obtain ⟨t, o, e, h1, h2⟩ := h
  exact ⟨t, o, e, k _ _ stays_tup h1, h2.keeps k⟩
theorem PairAt.re {M : Addr → Prop} (g : ∀ b xs, N b → H b = some (.lst xs) → M b) {v : V} {n : Nd × Nat} (h : PairAt K C R N H v n) : PairAt K C R M H v n := by
  obtain ⟨t, o, e, h1, h2⟩ := h
  exact ⟨t, o, e, h1, h2.re g⟩
abbrev PreAt (K : PySem.W.Frag) (C R : Addr) (N : Addr → Prop) (H : Hp) (us : List V) (ps : List (Nd × Nat)) : Prop := All2 (PairAt K C R N H) us ps
theorem PreAt.keeps {us : List V} {ps : List (Nd × Nat)} (h : PreAt K C R N H us ps) (k : Keeps N H H') : PreAt K C R N H' us ps := h.mono fun _ _ x => x.keeps k
/-! ### the law's rows: tuples -/
def RowsAt (K : PySem.W.Frag) (H : Hp) : RF → List V → Prop
  | .nil, vs => vs = []
  | .cons nm hs fs rl exc rest, vs => ∃ (o w b p : Addr) (ws vs' : List V), vs = .ref o :: vs' ∧ SqT K H o [.str nm, .ref w, .ref b, .str rl, .ref p] ∧ SqT K H w (hs.map V.str) ∧ SqT K H b (fs.map V.str) ∧ SqT K H p ws ∧ RowsAt K H exc ws ∧ RowsAt K H rest vs'
def RowAt (K : PySem.W.Frag) (H : Hp) (v : V) (n : Nd) : Prop := ∃ (o w b p : Addr) (ws : List V), v = .ref o ∧ SqT K H o [.str n.nm, .ref w, .ref b, .str n.rl, .ref p] ∧ SqT K H w (n.hs.map V.str) ∧ SqT K H b (n.fs.map V.str) ∧ SqT K H p ws ∧ RowsAt K H n.exc ws
theorem RowsAt.keeps (k : Keeps N H H') : ∀ {f : RF} {vs : List V}, RowsAt K H f vs → RowsAt K H' f vs
  | .nil, _, h => h
  | .cons nm hs fs rl exc rest, vs, h => by
    obtain ⟨o, w, b, p, ws, vs', e, h1, h2, h3, h4, h6, h7⟩ := h
    exact ⟨o, w, b, p, ws, vs', e, k.tup h1, k.tup h2, k.tup h3, k.tup h4, RowsAt.keeps k h6, RowsAt.keeps k h7⟩
theorem RowAt.keeps {v : V} {n : Nd} (h : RowAt K H v n) (k : Keeps N H H') : RowAt K H' v n := by
  obtain ⟨o, w, b, p, ws, e, h1, h2, h3, h4, h6⟩ := h
  exact ⟨o, w, b, p, ws, e, k.tup h1, k.tup h2, k.tup h3, k.tup h4, h6.keeps k⟩
theorem RowsAt.all : ∀ {f : RF} {vs : List V}, RowsAt K H f vs → All2 (RowAt K H) vs f.nodes
  | .nil, _, h => by
    obtain rfl : _ = [] := h
    exact .nil
  | .cons nm hs fs rl exc rest, vs, h => by
    obtain ⟨o, w, b, p, ws, vs', rfl, h1, h2, h3, h4, h6, h7⟩ := h
    exact .cons ⟨o, w, b, p, ws, rfl, h1, h2, h3, h4, h6⟩ h7.all
theorem RowsAt.of : ∀ {f : RF} {vs : List V}, All2 (RowAt K H) vs f.nodes → RowsAt K H f vs
  | .nil, _, h => by
    cases h
    rfl
  | .cons nm hs fs rl exc rest, vs, h => by
    cases h with
    | cons h t =>
      obtain ⟨o, w, b, p, ws, rfl, h1, h2, h3, h4, h6⟩ := h
      exact ⟨o, w, b, p, ws, _, rfl, h1, h2, h3, h4, h6, RowsAt.of t⟩
theorem RowsAt.len {f : RF} {vs : List V} (h : RowsAt K H f vs) : vs.length = f.nodes.length := h.all.len
end
end Sc
namespace Sc
open PySem PySem.Spec PyProof.Rows L2
/-! ### rules -/
/-- a getter as its users see it -/
abbrev PropX (P : Program) (w : World) (K : PySem.W.Frag) (mg : Str → Option Value) (base : Heap) (C : Addr) (n f : Str) : Prop := ∃ p g fd, PropC P w K mg base C p g fd n f
/-- the class Rule as its users see it -/
structure RuleX (P : Program) (w : World) (K : PySem.W.Frag) (mg : Str → Option Value) (base : Heap) (R : Addr) : Prop where
  cls : Cls K R
  name : PropX P w K mg base R "name" "_name"
  condition : PropX P w K mg base R "condition" "_condition"
  ruling : PropX P w K mg base R "ruling" "_ruling"
  exceptions : PropX P w K mg base R "exceptions" "_exceptions"
  depth : PropX P w K mg base R "depth" "_depth"
/-- the getters of a condition -/
structure CondG (P : Program) (w : World) (K : PySem.W.Frag) (mg : Str → Option Value) (base : Heap) (C : Addr) : Prop where
  cls : Cls K C
  holding : PropX P w K mg base C "holding" "_holding"
  failing : PropX P w K mg base C "failing" "_failing"
  names : PropX P w K mg base C "names" "_names"
def Below (S : Nat → Sp) : Nat → Sp
  | 0 => fun _ _ _ _ => False
  | d + 1 => S d
theorem sc_nested : FnScope ["rules", "around", "found", "rule"] ["rules", "around"] (defScope s_nested) := ⟨rfl, rfl, rfl, by decide +kernel, rfl, by decide +kernel, by decide +kernel⟩
section
variable {P : Program} {w : World} {K : PySem.W.Frag} {mg : Str → Option Value} {base : Heap} {C R : Addr}
theorem FnOk.never {CX : CXT} {k : Nat} {f : Addr} {fd : FuncData} {ps : List Str} : FnOk P w K mg base CX k f fd ps (fun _ _ _ _ => False) := ⟨fun _ _ _ _ h => h.elim, fun _ _ _ _ _ _ _ _ _ _ _ _ _ h => h.elim⟩
def sp_nested (K : PySem.W.Frag) (C R : Addr) (d : Nat) : Sp := fun vs H Q _ => ∃ (N : Addr → Prop) (p : Addr) (k : Nat) (ws : List V) (f : RF), vs = [.ref p, .int (k : Nat)] ∧ SqT K H p ws ∧ ForAt K C R N H f ws ∧ f.dep ≤ d ∧ f.size ≤ 900 ∧
  ∀ H' D us, Same H H' → H D = none → H' D = some (.lst us) → PreAt K C R N H' us (f.pre k) → Q (.ref D) H'
theorem ok_nested {d : Nat} {f : Addr} {fd : FuncData} (F : Fun K "nested" "nested" s_nested f fd) (kR : RuleX P w K mg base R) (c_nested : Cal P w K mg base CX0 (d + 2) "nested" ["rules", "around"] (Below (sp_nested K C R) d)) :
    FnOk P w K mg base CX0 (d + 3) f fd ["rules", "around"] (sp_nested K C R d) := by
  refine F.ok sc_nested (fun vs H Q E h => by obtain ⟨N, p, k, ws, f, rfl, _⟩ := h; rfl) (fun cdv A outer s H vs Q E hr h => ?_)
  obtain ⟨N, p, k, ws, f, rfl, hP, hF, hd, hz, q⟩ := h
  have hA := hF.used.all
  have hln := hA.len
  have hlz := RF.nodes_le f
  refine ⟨_, (pss_cons (ps_set (i := 2) sc_nested.nd rfl (Or.inl rfl) (pe_lst pa_nil))
      (pss_cons (ps_for PassesOwn.never rfl (pi_tup (pv 0)) (pg_name (i := 3) sc_nested.nd rfl (Or.inl rfl)) (pss_cons (ps_expr (pe_bm PySem.F.plainAttrs_list PySem.F.slot_list_append PySem.F.type_list_append mt_append (pv 2) (pa_cons (pe_tup (pa_cons (pv 3) (pa_cons (pv 1) pa_nil))) pa_nil)))
      (pss_one (ps_expr (pe_bm PySem.F.plainAttrs_list PySem.F.slot_list_extend PySem.F.type_list_extend mt_extend (pv 2) (pa_cons (pe_cal c_nested hr (pa_cons (pe_cprop kR.exceptions kR.cls (hr.mono (by omega)) (pv 3)) (pa_cons (pe_op op_add (pv 1) pe_int) pa_nil))) pa_nil))))))
      (pss_one (ps_ret (pv 2))))), ?_⟩
  refine ⟨Nat.zero_le _, fun D nD => ⟨_, rfl, p, rfl, ⟨_, ((Same.refl H).put nD).tup hP⟩, for_it walk_tup (fun i σ H' => ∃ us y, σ = [some (.ref p), some (.int (k : Nat)), some (.ref D), y] ∧ Same H H' ∧ H' D = some (.lst us) ∧ PreAt K C R (Used N H) H' us (RF.preL (f.nodes.take i) k))
    ⟨[], none, rfl, (Same.refl H).put nD, upd_same, .nil⟩ (fun _ _ _ _ ⟨_, _, _, s, _⟩ => s.tup hP) ?_ ?_⟩⟩
  · rintro i y σ H3 H2 hi ⟨us, y', rfl, s, e, hu⟩ ⟨rfl, hy⟩
    have nU := used_not (N := N) nD
    obtain ⟨n, hn, o, rfl, hN⟩ := hA.get hy
    have hmem : n ∈ f.nodes := List.mem_of_getElem? hn
    have hdm := RF.dep_mem f n hmem
    have hsm := RF.size_mem f n hmem
    obtain ⟨d, rfl⟩ : ∃ d', d = d' + 1 := ⟨d - 1, by omega⟩
    have hul := hu.len
    have hpl := RF.preL_len (f := f) (i := i) (k := k)
    have hpl2 := RF.preL_len (f := f) (i := i + 1) (k := k)
    rw [RF.preL_more hn, List.length_append, List.length_cons, RF.pre_len] at hpl2
    refine ⟨_, rfl, .inl ⟨rfl, _, sqL_of e⟩, _, rfl, _, rfl, (by show 2 ≤ sizeLine; decide), fun t nt => ?_⟩
    have s3 := s.put' (o := .tup [.ref o, .int (k : Nat)]) nt
    have e3 : (upd H2 t (.tup [.ref o, .int (k : Nat)])) D = some (.lst us) := by rw [upd_ne (ne_of_none e nt)]; exact e
    have t3 : (upd H2 t (.tup [.ref o, .int (k : Nat)])) t = some (.tup [.ref o, .int (k : Nat)]) := upd_same
    have s23 : Same H2 (upd H2 t (.tup [.ref o, .int (k : Nat)])) := (Same.refl H2).put nt
    have hu3 := hu.keeps s23.keeps
    clear s23
    generalize upd H2 t (.tup [.ref o, .int (k : Nat)]) = H3 at s3 e3 t3 hu3 ⊢
    refine ⟨D, _, _, rfl, rfl, e3, small1000 (by omega), ?_⟩
    have s4 : Same H (upd H3 D (.lst (us ++ [.ref t]))) := s3.put nD
    have e4 : (upd H3 D (.lst (us ++ [.ref t]))) D = some (.lst (us ++ [.ref t])) := upd_same
    have tD : t ≠ D := fun z => by rw [z, e3] at t3; cases t3
    have hu4 : PreAt K C R (Used N H) (upd H3 D (.lst (us ++ [.ref t]))) (us ++ [.ref t]) (RF.preL (f.nodes.take i) k ++ [(n, k)]) :=
      (hu3.keeps (keeps_own e3 nU)).snoc ⟨t, o, rfl, by rw [upd_ne tD]; exact t3, hN.keeps s4.keeps⟩
    generalize upd H3 D (.lst (us ++ [.ref t])) = H4 at s4 e4 hu4 ⊢
    obtain ⟨dx, c, pe, l, ws', ho, hc, hpe, hl, hfe⟩ := hN
    refine ⟨_, rfl, .inl ⟨rfl, _, sqL_of e4⟩, _, rfl, o, dx, _, rfl, s4 _ _ ho, ⟨o, dx, _, _, rfl, s4 _ _ ho, rfl, ?_⟩⟩
    refine ⟨_, rfl, k, 1, rfl, rfl, ?_⟩
    refine ⟨_, pe, k + 1, ws', n.exc, rfl, s4.tup hpe, hfe.keeps s4.keeps, by omega, by omega, fun H5 D5 us5 s5 n5 e5 hu5 => ?_⟩
    have s45 := s4.trans s5
    have e45 := s5 _ _ e4
    refine ⟨D, D5, _, _, rfl, rfl, e45, e5, ?_, ?_⟩
    · have := hu5.len
      rw [RF.pre_len] at this
      have h4 := hu4.len
      rw [List.length_append (bs := [(n, k)]), List.length_singleton] at h4
      exact Nat.le_of_lt (small1000 (by omega))
    refine ⟨_, _, rfl, s45.put nD, upd_same, ?_⟩
    rw [RF.preL_more hn]
    have h1 := (hu4.keeps s5.keeps).app hu5
    have h2 := PreAt.keeps h1 (keeps_own (o := .lst (us ++ [.ref t] ++ us5)) e45 nU)
    rw [show RF.preL (f.nodes.take i) k ++ [(n, k)] ++ n.exc.pre (k + 1) = RF.preL (f.nodes.take i) k ++ ((n, k) :: n.exc.pre (k + 1)) by simp] at h2
    exact h2
  · rintro σ H2 ⟨us, y, rfl, s, e, hu⟩
    rw [hln, RF.preL_all] at hu
    exact ⟨_, rfl, q H2 D us s nD e (hu.mono fun _ _ x => x.re fun b xs h _ => h.1)⟩
end
end Sc
namespace Sc
open PySem PySem.Spec PyProof.Rows L2
/-! ### an object Rule -/
theorem sc_Rule___init__ : FnScope ["self", "name", "condition", "ruling", "exceptions", "rule", "_"] ["self", "name", "condition", "ruling", "exceptions"] (defScope s_Rule___init__) := ⟨rfl, rfl, rfl, by decide +kernel, rfl, by decide +kernel, by decide +kernel⟩
theorem sc_Rule_name : FnScope ["self"] ["self"] (defScope s_Rule_name) := ⟨rfl, rfl, rfl, by decide +kernel, rfl, by decide +kernel, by decide +kernel⟩
theorem sc_Rule_condition : FnScope ["self"] ["self"] (defScope s_Rule_condition) := ⟨rfl, rfl, rfl, by decide +kernel, rfl, by decide +kernel, by decide +kernel⟩
theorem sc_Rule_ruling : FnScope ["self"] ["self"] (defScope s_Rule_ruling) := ⟨rfl, rfl, rfl, by decide +kernel, rfl, by decide +kernel, by decide +kernel⟩
theorem sc_Rule_exceptions : FnScope ["self"] ["self"] (defScope s_Rule_exceptions) := ⟨rfl, rfl, rfl, by decide +kernel, rfl, by decide +kernel, by decide +kernel⟩
theorem sc_Rule_depth : FnScope ["self"] ["self"] (defScope s_Rule_depth) := ⟨rfl, rfl, rfl, by decide +kernel, rfl, by decide +kernel, by decide +kernel⟩
section
variable {P : Program} {w : World} {K : PySem.W.Frag} {mg : Str → Option Value} {base : Heap} {C R CR : Addr}
theorem ok_Rule_name {f : Addr} {fd : FuncData} (F : Fun K "name" "Rule.name" s_Rule_name f fd) (T : Cls K R) (n : NoAttr K R "_name") : FnOk P w K mg base CX0 1 f fd ["self"] (sp_prop R "_name") := by
  refine F.ok sc_Rule_name (fun vs H Q E h => by obtain ⟨x, dx, fs, v, rfl, _⟩ := h; rfl) (fun cdv A outer s H vs Q E hr h => ?_)
  obtain ⟨x, dx, fs, v, rfl, hx, hl, q⟩ := h
  exact ⟨_, (pss_one (ps_ret (pe_fld (pv 0) rfl))), ⟨_, rfl, x, R, dx, fs, v, rfl, hx, T, n, hl, q⟩⟩
theorem ok_Rule_condition {f : Addr} {fd : FuncData} (F : Fun K "condition" "Rule.condition" s_Rule_condition f fd) (T : Cls K R) (n : NoAttr K R "_condition") : FnOk P w K mg base CX0 1 f fd ["self"] (sp_prop R "_condition") := by
  refine F.ok sc_Rule_condition (fun vs H Q E h => by obtain ⟨x, dx, fs, v, rfl, _⟩ := h; rfl) (fun cdv A outer s H vs Q E hr h => ?_)
  obtain ⟨x, dx, fs, v, rfl, hx, hl, q⟩ := h
  exact ⟨_, (pss_one (ps_ret (pe_fld (pv 0) rfl))), ⟨_, rfl, x, R, dx, fs, v, rfl, hx, T, n, hl, q⟩⟩
theorem ok_Rule_ruling {f : Addr} {fd : FuncData} (F : Fun K "ruling" "Rule.ruling" s_Rule_ruling f fd) (T : Cls K R) (n : NoAttr K R "_ruling") : FnOk P w K mg base CX0 1 f fd ["self"] (sp_prop R "_ruling") := by
  refine F.ok sc_Rule_ruling (fun vs H Q E h => by obtain ⟨x, dx, fs, v, rfl, _⟩ := h; rfl) (fun cdv A outer s H vs Q E hr h => ?_)
  obtain ⟨x, dx, fs, v, rfl, hx, hl, q⟩ := h
  exact ⟨_, (pss_one (ps_ret (pe_fld (pv 0) rfl))), ⟨_, rfl, x, R, dx, fs, v, rfl, hx, T, n, hl, q⟩⟩
theorem ok_Rule_exceptions {f : Addr} {fd : FuncData} (F : Fun K "exceptions" "Rule.exceptions" s_Rule_exceptions f fd) (T : Cls K R) (n : NoAttr K R "_exceptions") : FnOk P w K mg base CX0 1 f fd ["self"] (sp_prop R "_exceptions") := by
  refine F.ok sc_Rule_exceptions (fun vs H Q E h => by obtain ⟨x, dx, fs, v, rfl, _⟩ := h; rfl) (fun cdv A outer s H vs Q E hr h => ?_)
  obtain ⟨x, dx, fs, v, rfl, hx, hl, q⟩ := h
  exact ⟨_, (pss_one (ps_ret (pe_fld (pv 0) rfl))), ⟨_, rfl, x, R, dx, fs, v, rfl, hx, T, n, hl, q⟩⟩
theorem ok_Rule_depth {f : Addr} {fd : FuncData} (F : Fun K "depth" "Rule.depth" s_Rule_depth f fd) (T : Cls K R) (n : NoAttr K R "_depth") : FnOk P w K mg base CX0 1 f fd ["self"] (sp_prop R "_depth") := by
  refine F.ok sc_Rule_depth (fun vs H Q E h => by obtain ⟨x, dx, fs, v, rfl, _⟩ := h; rfl) (fun cdv A outer s H vs Q E hr h => ?_)
  obtain ⟨x, dx, fs, v, rfl, hx, hl, q⟩ := h
  exact ⟨_, (pss_one (ps_ret (pe_fld (pv 0) rfl))), ⟨_, rfl, x, R, dx, fs, v, rfl, hx, T, n, hl, q⟩⟩
theorem putF_le {f : Str} {v : V} {fs : List (Str × V)} {n : Nat} (h : fs.length ≤ n) : (putF f v fs).length ≤ n + 1 := Nat.le_trans (putF_len f v fs) (Nat.succ_le_succ h)
theorem SameX.refl {x : Addr} {H : Hp} : SameX x H H := fun _ _ _ e => e
theorem SameX.put {x : Addr} {H H' : Hp} {o : HO} (s : SameX x H H') : SameX x H (upd H' x o) := fun b o' ne e => by rw [upd_ne ne]; exact s b o' ne e
theorem SameX.same {x : Addr} {H H' H'' : Hp} (s : SameX x H H') (k : Same H' H'') : SameX x H H'' := fun b o ne e => k _ _ (s b o ne e)
theorem SameX.of {x : Addr} {H H' : Hp} (k : Same H H') : SameX x H H' := fun b o _ e => k _ _ e
theorem SameX.free {x l : Addr} {H H' : Hp} (s : SameX x H H') (ne : l ≠ x) (n : H' l = none) : H l = none := by
  cases e : H l with
  | none => rfl
  | some o => rw [s l o ne e] at n; cases n
theorem dep_is {f : RF} {m : Int} (hm : m ∈ (0 : Int) :: f.nodes.map fun n => ((n.exc.dep + 1 : Nat) : Int)) (hle : ∀ y, y ∈ ((0 : Int) :: f.nodes.map fun n => ((n.exc.dep + 1 : Nat) : Int)) → y ≤ m) : m = (f.dep : Nat) := by
  have h0 := hle 0 List.mem_cons_self
  obtain ⟨k, rfl⟩ := Int.eq_ofNat_of_zero_le h0
  have h1 : f.dep ≤ k := RF.dep_le f k fun n hn => by
    have := hle _ (List.mem_cons_of_mem _ (List.mem_map.mpr ⟨n, hn, rfl⟩))
    omega
  have h2 : k ≤ f.dep := by
    rcases List.mem_cons.mp hm with h | h
    · omega
    · obtain ⟨n, hn, e⟩ := List.mem_map.mp h
      have := RF.dep_mem f n hn
      omega
  omega
def errPt (C : Addr) (w : Str) (H : Hp) (E : XK) : Prop := ∀ H' d, Same H H' → H' d = none → E (.ref C) (some d) (upd H' d (.xd [(("part" : Str), .str w)]))
def sp_rule_init (K : PySem.W.Frag) (C R CR : Addr) : Sp := fun vs H Q E => ∃ (N : Addr → Prop) (x dx c p : Addr) (nm rl : Str) (ws : List V) (exc : RF), vs = [.ref x, .str nm, .ref c, .str rl, .ref p] ∧ H x = some (.ins R dx []) ∧ SqT K H p ws ∧ ForAt K C R N H exc ws ∧ nm.length ≤ 1000 ∧ rl.length ≤ 1000 ∧ exc.dep ≤ 12 ∧ exc.size ≤ 900 ∧
  (isName nm = false → errPt CR "name" H E) ∧ (isName nm = true → (isName rl = false → errPt CR "ruling" H E) ∧ (isName rl = true →
    ∀ H' l, SameX x H H' → H' x = some (.ins R dx (ruleF nm c rl p ((exc.dep + 1 : Nat) : Int) l)) → l ≠ x → H l = none → H' l = some (.lst ((nm :: exc.names).map V.str)) → Q .non H'))
theorem ok_rule_init {f : Addr} {fd : FuncData} (F : Fun K "__init__" "Rule.__init__" s_Rule___init__ f fd) (B : Blt mg) (T : Cls K R) (n1 : NoAttr K R "_name") (n2 : NoAttr K R "_condition") (n3 : NoAttr K R "_ruling") (n4 : NoAttr K R "_exceptions") (n5 : NoAttr K R "_depth") (n6 : NoAttr K R "_inside")
    (kR : RuleX P w K mg base R) (e_InvalidRule : ErrMk P w K mg base "InvalidRule" CR ["self", "part"] (sp_init1 CR "part")) (c_is_name : Cal P w K mg base CX0 1 "is_name" ["value"] sp_is_name) (c_nested : Cal P w K mg base CX0 15 "nested" ["rules", "around"] (sp_nested K C R 12)) :
    FnOk P w K mg base (L2.CX P w) 16 f fd ["self", "name", "condition", "ruling", "exceptions"] (sp_rule_init K C R CR) := by
  refine F.okX sc_Rule___init__ (fun vs H Q E h => by obtain ⟨N, x, dx, c, p, nm, rl, ws, exc, rfl, _⟩ := h; rfl) (fun cdv A outer s H vs Q E hr h => ?_)
  obtain ⟨N, x, dx, c, p, nm, rl, ws, exc, rfl, hx, hP, hF, ln, lr, hd, hz, e1, q⟩ := h
  refine ⟨_, (pss_cons (ps_if (pt_not (pt_val (pe_cal c_is_name (hr.mono (by decide)) (pa_cons (pv 1) pa_nil)))) (pss_one (ps_raise rfl (takes_of rfl rfl rfl rfl) (pmk_err1 e_InvalidRule (hr.mono (by decide)) pe_str))) pss_nil)
      (pss_cons (ps_if (pt_not (pt_val (pe_cal c_is_name (hr.mono (by decide)) (pa_cons (pv 3) pa_nil)))) (pss_one (ps_raise rfl (takes_of rfl rfl rfl rfl) (pmk_err1 e_InvalidRule (hr.mono (by decide)) pe_str))) pss_nil)
      (pss_cons (ps_fld (pv 0) (pv 1) rfl)
      (pss_cons (ps_fld (pv 0) (pv 2) rfl)
      (pss_cons (ps_fld (pv 0) (pv 3) rfl)
      (pss_cons (ps_fld (pv 0) (pv 4) rfl)
      (pss_cons (ps_fld (pv 0) (pe_op op_add pe_int (pe_callB (cr_max rfl) (by rfl) B.b_max PyProof.Rows.boot_max (pa_cons (pe_op op_cat (pe_lst (pa_cons pe_int pa_nil)) (pe_lc (own := [("rule", 5)]) (g := gName 5) (tt := tYes) rfl sc_Rule___init__.nd (pi_tup (pv 4)) (blkOk_by (own := [("rule", 5)]) (N := ["self", "name", "condition", "ruling", "exceptions", "rule", "_"]) (sc := defScope s_Rule___init__) (by decide +kernel)) (fun _ _ _ _ _ => (pg_name (i := 5) sc_Rule___init__.nd rfl (Or.inl rfl))) (fun _ _ _ _ _ => pts_nil) (fun _ _ _ _ _ => (pe_.re (pe_cprop kR.depth kR.cls (hr.mono (by decide)) (pv 5)) (by first | (dsimp only [Cx.blk]; done) | exact rfl))))) pa_nil))) rfl)
      (pss_one (ps_fld (pv 0) (pe_op op_cat (pe_lst (pa_cons (pv 1) pa_nil)) (pe_lc (own := [("rule", 5), ("_", 6)]) (g := gTup K 2 (gCons (gName 5) (gCons (gName 6) gNil))) (tt := tYes) rfl sc_Rule___init__.nd (pi_list (pe_cal c_nested (hr.mono (by decide)) (pa_cons (pv 4) (pa_cons pe_int pa_nil)))) (blkOk_by (own := [("rule", 5), ("_", 6)]) (N := ["self", "name", "condition", "ruling", "exceptions", "rule", "_"]) (sc := defScope s_Rule___init__) (by decide +kernel)) (fun _ _ _ _ _ => (pg_tup (by rfl) (pgs_cons (pg_name (i := 5) sc_Rule___init__.nd rfl (Or.inl rfl)) (pgs_cons (pg_name (i := 6) sc_Rule___init__.nd rfl (Or.inl rfl)) pgs_nil)))) (fun _ _ _ _ _ => pts_nil) (fun _ _ _ _ _ => (pe_.re (pe_cprop kR.name kR.cls (hr.mono (by decide)) (pv 5)) (by first | (dsimp only [Cx.blk]; done) | exact rfl))))) rfl))))))))), ?_⟩
  have big : ∀ {m : Nat}, m ≤ 1000 → m ≤ sizeLine := fun {m} h => by rw [sizeLine_eq]; omega
  have fkp : ∀ wd : Str, wd.length ≤ 1000 → FOk (.str wd) := fun wd h => Nat.le_trans h (by decide)
  refine ⟨_, rfl, nm, rfl, big ln, fun H1 s1 => ⟨_, rfl, bcase (fun c1 => ?_) (fun c1 => ?_)⟩⟩
  · exact ⟨fkp "name" (by decide), fun d nd => e1 ((Bool.not_eq_true' _).mp c1) H1 d s1 nd⟩
  obtain ⟨e2, q⟩ := q ((Bool.not_eq_false' _).mp c1)
  refine ⟨_, rfl, rl, rfl, big lr, fun H2 s2 => ⟨_, rfl, bcase (fun c2 => ?_) (fun c2 => ?_)⟩⟩
  · exact ⟨fkp "ruling" (by decide), fun d nd => e2 ((Bool.not_eq_true' _).mp c2) H2 d (s1.trans s2) nd⟩
  have q := q ((Bool.not_eq_false' _).mp c2)
  have s12 := s1.trans s2
  have hx2 := s12 _ _ hx
  refine ⟨_, rfl, _, rfl, x, R, dx, _, rfl, hx2, T, n1, by decide, ?_⟩
  refine ⟨_, rfl, _, rfl, x, R, dx, _, rfl, upd_same, T, n2, Nat.lt_of_le_of_lt (putF_le (Nat.zero_le 0)) (by decide), ?_⟩
  refine ⟨_, rfl, _, rfl, x, R, dx, _, rfl, upd_same, T, n3, Nat.lt_of_le_of_lt (putF_le (putF_le (Nat.zero_le 0))) (by decide), ?_⟩
  refine ⟨_, rfl, _, rfl, x, R, dx, _, rfl, upd_same, T, n4, Nat.lt_of_le_of_lt (putF_le (putF_le (putF_le (Nat.zero_le 0)))) (by decide), ?_⟩
  have sx : SameX x H (upd (upd (upd (upd H2 x (.ins R dx (putF "_name" (.str nm) []))) x (.ins R dx (putF "_condition" (.ref c) (putF "_name" (.str nm) [])))) x (.ins R dx (putF "_ruling" (.str rl) (putF "_condition" (.ref c) (putF "_name" (.str nm) []))))) x (.ins R dx (putF "_exceptions" (.ref p) (putF "_ruling" (.str rl) (putF "_condition" (.ref c) (putF "_name" (.str nm) [])))))) := ((((SameX.of s12).put).put).put).put
  have hx6 : (upd (upd (upd (upd H2 x (.ins R dx (putF "_name" (.str nm) []))) x (.ins R dx (putF "_condition" (.ref c) (putF "_name" (.str nm) [])))) x (.ins R dx (putF "_ruling" (.str rl) (putF "_condition" (.ref c) (putF "_name" (.str nm) []))))) x (.ins R dx (putF "_exceptions" (.ref p) (putF "_ruling" (.str rl) (putF "_condition" (.ref c) (putF "_name" (.str nm) [])))))) x = some (.ins R dx (putF "_exceptions" (.ref p) (putF "_ruling" (.str rl) (putF "_condition" (.ref c) (putF "_name" (.str nm) []))))) := upd_same
  generalize upd (upd (upd (upd H2 x (.ins R dx (putF "_name" (.str nm) []))) x (.ins R dx (putF "_condition" (.ref c) (putF "_name" (.str nm) [])))) x (.ins R dx (putF "_ruling" (.str rl) (putF "_condition" (.ref c) (putF "_name" (.str nm) []))))) x (.ins R dx (putF "_exceptions" (.ref p) (putF "_ruling" (.str rl) (putF "_condition" (.ref c) (putF "_name" (.str nm) []))))) = H6 at sx hx6 ⊢
  have k6 : Keeps N H H6 := sx.keeps hx
  have hP6 := k6.tup hP
  have hF6 := hF.keeps k6
  have hA6 := hF6.all
  have hln := hA6.len
  have hlz := RF.nodes_le exc
  refine ⟨(by show 1 ≤ sizeLine; decide), fun l0 nl0 => ?_⟩
  have s0 : Same H6 (upd H6 l0 (.lst [.int 0])) := (Same.refl H6).put nl0
  have el0 : (upd H6 l0 (.lst [.int 0])) l0 = some (.lst [.int 0]) := upd_same
  generalize upd H6 l0 (.lst [.int 0]) = H7 at s0 el0 ⊢
  refine ⟨_, rfl, p, rfl, ⟨_, s0.tup hP6⟩, fun D nD => lc_it walk_tup (fun i H' => Same H7 H' ∧ H' D = some (.lst ((exc.nodes.take i).map fun n => V.int ((n.exc.dep + 1 : Nat) : Int)))) ⟨(Same.refl H7).put nD, upd_same⟩ (fun _ _ _ h => (s0.trans h.1).tup hP6) ?_ ?_⟩
  · rintro i y H8 H9 hi ⟨s, e⟩ ⟨rfl, hy⟩
    obtain ⟨n, hn, o, rfl, hN⟩ := hA6.get hy
    obtain ⟨dx', c', p', l', ws', ho, _⟩ := hN
    have ho := s _ _ (s0 _ _ ho)
    refine ⟨rfl, yes_ ⟨_, rfl, o, dx', _, rfl, ho, o, dx', _, _, rfl, ho, rfl, grow (acc := fun i => (exc.nodes.take i).map fun n => V.int ((n.exc.dep + 1 : Nat) : Int)) nD s e ?_ ?_⟩⟩
    · rw [List.length_map, List.length_take]
      exact small1000 (by omega)
    · show List.map _ _ = _
      rw [take_more hn, List.map_append]
      rfl
  rintro H8 ⟨s8, e8⟩
  rw [hln, List.take_length] at e8
  have el8 := s8 _ _ el0
  refine ⟨l0, D, _, _, rfl, rfl, el8, e8, ?_, fun l2 nl2 => ?_⟩
  · rw [List.length_map]
    exact big (by show 1 + _ ≤ _; omega)
  have s9 : Same H8 (upd H8 l2 (.lst ([V.int 0] ++ exc.nodes.map fun n => V.int ((n.exc.dep + 1 : Nat) : Int)))) := (Same.refl H8).put nl2
  have e9 : (upd H8 l2 (.lst ([V.int 0] ++ exc.nodes.map fun n => V.int ((n.exc.dep + 1 : Nat) : Int)))) l2 = some (.lst ([V.int 0] ++ exc.nodes.map fun n => V.int ((n.exc.dep + 1 : Nat) : Int))) := upd_same
  generalize upd H8 l2 (.lst ([V.int 0] ++ exc.nodes.map fun n => V.int ((n.exc.dep + 1 : Nat) : Int))) = H9 at s9 e9 ⊢
  refine ⟨l2, (0 : Int) :: exc.nodes.map (fun n => ((n.exc.dep + 1 : Nat) : Int)), rfl, sqL_of (by rw [e9, List.map_cons, List.map_map]; rfl), Nat.succ_pos _, fun m hm hle => ?_⟩
  obtain rfl := dep_is hm hle
  have s69 := (s0.trans s8).trans s9
  have hx9 := s69 _ _ hx6
  refine ⟨1, _, rfl, rfl, _, rfl, x, R, dx, _, rfl, hx9, T, n5, Nat.lt_of_le_of_lt (putF_le (putF_le (putF_le (putF_le (Nat.zero_le 0))))) (by decide), ?_⟩
  have sx10 : SameX x H (upd H9 x (.ins R dx (putF "_depth" (.int (1 + (exc.dep : Int))) (putF "_exceptions" (.ref p) (putF "_ruling" (.str rl) (putF "_condition" (.ref c) (putF "_name" (.str nm) []))))))) := (sx.same s69).put
  have hx10 : (upd H9 x (.ins R dx (putF "_depth" (.int (1 + (exc.dep : Int))) (putF "_exceptions" (.ref p) (putF "_ruling" (.str rl) (putF "_condition" (.ref c) (putF "_name" (.str nm) []))))))) x = some (.ins R dx (putF "_depth" (.int (1 + (exc.dep : Int))) (putF "_exceptions" (.ref p) (putF "_ruling" (.str rl) (putF "_condition" (.ref c) (putF "_name" (.str nm) [])))))) := upd_same
  generalize upd H9 x (.ins R dx (putF "_depth" (.int (1 + (exc.dep : Int))) (putF "_exceptions" (.ref p) (putF "_ruling" (.str rl) (putF "_condition" (.ref c) (putF "_name" (.str nm) [])))))) = H10 at sx10 hx10 ⊢
  rw [show 1 + (exc.dep : Int) = ((exc.dep + 1 : Nat) : Int) by omega] at hx10
  have k10 : Keeps N H H10 := sx10.keeps hx
  refine ⟨_, rfl, (by show 1 ≤ sizeLine; decide), fun l1 nl1 => ?_⟩
  have s11 : Same H10 (upd H10 l1 (.lst [.str nm])) := (Same.refl H10).put nl1
  have e11 : (upd H10 l1 (.lst [.str nm])) l1 = some (.lst [.str nm]) := upd_same
  generalize upd H10 l1 (.lst [.str nm]) = H11 at s11 e11 ⊢
  refine ⟨_, rfl, N, p, 1, ws, exc, rfl, s11.tup (k10.tup hP), (hF.keeps k10).keeps s11.keeps, hd, hz, fun H12 D3 us s12' nD3 eD3 hu => ?_⟩
  have hul := hu.len
  rw [RF.pre_len] at hul
  refine ⟨D3, rfl, ⟨_, sqL_of eD3⟩, fun D4 nD4 => lc_it walk_list (fun i H' => Same H12 H' ∧ H' D4 = some (.lst (((exc.pre 1).take i).map fun q => V.str q.1.nm))) ⟨(Same.refl H12).put nD4, upd_same⟩ (fun _ _ _ h => sqL_of (h.1 _ _ eD3)) ?_ ?_⟩
  · rintro i y H13 H14 hi ⟨s, e⟩ ⟨rfl, hy⟩
    obtain ⟨⟨n, k⟩, hq, t, o, rfl, ht, hN⟩ := hu.get hy
    obtain ⟨dx', c', p', l', ws', ho, _⟩ := hN
    have ho := s _ _ ho
    have ht := s _ _ ht
    refine ⟨t, [.ref o, .int (k : Nat)], rfl, sqT_of ht, rfl, _, _, rfl, _, _, rfl, rfl, rfl, yes_ ⟨_, rfl, o, dx', _, rfl, ho, o, dx', _, _, rfl, ho, rfl, grow (acc := fun i => ((exc.pre 1).take i).map fun q => V.str q.1.nm) nD4 s e ?_ ?_⟩⟩
    · rw [List.length_map, List.length_take, RF.pre_len]
      exact small1000 (by omega)
    · show List.map _ _ = _
      rw [take_more hq, List.map_append]
      rfl
  rintro H13 ⟨s13, e13⟩
  rw [hu.len, List.take_length] at e13
  have e13 : H13 D4 = some (.lst (exc.names.map V.str)) := by rw [e13, ← RF.pre_names exc 1, List.map_map]; rfl
  have s1013 := (s11.trans s12').trans s13
  refine ⟨l1, D4, _, _, rfl, rfl, s13 _ _ (s12' _ _ e11), e13, ?_, fun l2' nl2' => ?_⟩
  · rw [List.length_map, ← RF.pre_names exc 1, List.length_map, RF.pre_len]
    exact big (by show 1 + _ ≤ _; omega)
  have s14 : Same H13 (upd H13 l2' (.lst ([V.str nm] ++ exc.names.map V.str))) := (Same.refl H13).put nl2'
  have e14 : (upd H13 l2' (.lst ([V.str nm] ++ exc.names.map V.str))) l2' = some (.lst ((nm :: exc.names).map V.str)) := upd_same
  generalize upd H13 l2' (.lst ([V.str nm] ++ exc.names.map V.str)) = H14 at s14 e14 ⊢
  have s1014 := s1013.trans s14
  have hx14 := s1014 _ _ hx10
  have ne : l2' ≠ x := fun z => by rw [z, hx14] at e14; cases e14
  refine ⟨_, rfl, x, R, dx, _, rfl, hx14, T, n6, Nat.lt_of_le_of_lt (putF_le (putF_le (putF_le (putF_le (putF_le (Nat.zero_le 0)))))) (by decide), ?_⟩
  exact q _ l2' (sx10.same s1014).put upd_same ne (sx10.free ne (s1013.free nl2')) (by rw [upd_ne ne]; exact e14)
end
end Sc
namespace Sc
open PySem PySem.Spec PyProof.Rows L2
/-! ### xs[i] += e -/
def rGetL (K : PySem.W.Frag) : V → V → Hp → VK → Prop := fun x y H Q => ∃ (p : Addr) (xs : List V) (i : Nat) (v : V), x = .ref p ∧ y = .int i ∧ SqL K H p xs ∧ xs[i]? = some v ∧ Q v H
theorem get_list {X : Cx} : PGet X (rGetL X.K) := by
  intro pins s σ H x y v u Q I rx ry h
  obtain ⟨p, xs, i, z, rfl, rfl, hq, he, q⟩ := h
  cases rx
  obtain ⟨t, rfl⟩ := ry
  obtain ⟨its, r, pl, hz⟩ := I.list hq
  obtain ⟨w, ew, rw'⟩ := r.get he
  have hl := r.length
  have hn := line63
  have hi : i < its.length := by
    by_cases c : i < its.length
    · exact c
    · rw [List.getElem?_eq_none (by omega)] at ew; cases ew
  exact wpAny_getItem_list pl.isList (by omega) (by omega) (by simpa using ew) ⟨z, H, I, rw', q⟩
/-! ### rows of rules, longer and shorter -/
namespace RF
/-- something of all rules -/
def every (p : Nd → Prop) : RF → Prop
  | .nil => True
  | .cons nm hs fs rl exc rest => p ⟨nm, hs, fs, rl, exc⟩ ∧ exc.every p ∧ rest.every p
theorem every_nodes {p : Nd → Prop} : ∀ {f : RF}, f.every p ↔ ∀ n ∈ f.nodes, p n ∧ n.exc.every p
  | .nil => ⟨(fun _ _ h => nomatch h), fun _ => trivial⟩
  | .cons nm hs fs rl exc rest => by
    constructor
    · rintro ⟨h1, h2, h3⟩ n hn
      rcases List.mem_cons.mp hn with rfl | hn
      · exact ⟨h1, h2⟩
      · exact every_nodes.mp h3 n hn
    · intro h
      exact ⟨(h _ List.mem_cons_self).1, (h _ List.mem_cons_self).2, every_nodes.mpr fun n hn => h n (List.mem_cons_of_mem _ hn)⟩
theorem every_pre {p : Nd → Prop} : ∀ {f : RF} {k : Nat}, f.every p → ∀ q ∈ f.pre k, p q.1
  | .nil, k, _, q, h => nomatch h
  | .cons nm hs fs rl exc rest, k, h, q, hq => by
    rcases List.mem_cons.mp hq with rfl | hq
    · exact h.1
    rcases List.mem_append.mp hq with hq | hq
    · exact every_pre h.2.1 q hq
    · exact every_pre h.2.2 q hq
theorem every_mono {p r : Nd → Prop} (g : ∀ n, p n → r n) : ∀ {f : RF}, f.every p → f.every r
  | .nil, _ => trivial
  | .cons nm hs fs rl exc rest, h => ⟨g _ h.1, every_mono g h.2.1, every_mono g h.2.2⟩
def snoc : RF → Nd → RF
  | .nil, n => .cons n.nm n.hs n.fs n.rl n.exc .nil
  | .cons nm hs fs rl exc rest, n => .cons nm hs fs rl exc (rest.snoc n)
theorem snoc_nodes : ∀ (f : RF) (n : Nd), (f.snoc n).nodes = f.nodes ++ [n]
  | .nil, n => rfl
  | .cons nm hs fs rl exc rest, n => by show _ :: (rest.snoc n).nodes = _; rw [snoc_nodes rest n]; rfl
theorem snoc_size : ∀ (f : RF) (n : Nd), (f.snoc n).size = f.size + (n.exc.size + 1)
  | .nil, n => by show n.exc.size + 1 + 0 = 0 + _; omega
  | .cons nm hs fs rl exc rest, n => by show exc.size + 1 + (rest.snoc n).size = exc.size + 1 + rest.size + _; rw [snoc_size rest n]; omega
theorem snoc_dep : ∀ (f : RF) (n : Nd), (f.snoc n).dep = max f.dep (n.exc.dep + 1)
  | .nil, n => by show max (n.exc.dep + 1) 0 = max 0 _; omega
  | .cons nm hs fs rl exc rest, n => by show max (exc.dep + 1) (rest.snoc n).dep = max (max (exc.dep + 1) rest.dep) _; rw [snoc_dep rest n]; omega
theorem snoc_pre : ∀ (f : RF) (n : Nd) (k : Nat), (f.snoc n).pre k = f.pre k ++ ((n, k) :: n.exc.pre (k + 1))
  | .nil, n, k => by show (_, k) :: (n.exc.pre (k + 1) ++ []) = [] ++ _; rw [List.append_nil]; rfl
  | .cons nm hs fs rl exc rest, n, k => by show (_, k) :: (exc.pre (k + 1) ++ (rest.snoc n).pre k) = (_, k) :: (exc.pre (k + 1) ++ rest.pre k) ++ _; rw [snoc_pre rest n k]; simp
theorem snoc_names (f : RF) (n : Nd) : (f.snoc n).names = f.names ++ n.nm :: n.exc.names := by
  rw [← pre_names (f.snoc n) 0, snoc_pre, List.map_append, pre_names, List.map_cons, pre_names]
theorem snoc_every {p : Nd → Prop} {f : RF} {n : Nd} (h : f.every p) (h1 : p n) (h2 : n.exc.every p) : (f.snoc n).every p := every_nodes.mpr fun m hm => by
  rw [snoc_nodes] at hm
  rcases List.mem_append.mp hm with hm | hm
  · exact every_nodes.mp h m hm
  · rw [List.mem_singleton.mp hm]
    exact ⟨h1, h2⟩
end RF
theorem rows_snoc {K : PySem.W.Frag} {H : Hp} {f : RF} {vs : List V} {v : V} {n : Nd} (h : RowsAt K H f vs) (r : RowAt K H v n) : RowsAt K H (f.snoc n) (vs ++ [v]) := RowsAt.of (by rw [RF.snoc_nodes]; exact h.all.snoc r)
/-! ### all but the draws' state and a counter stands -/
structure Kc (a l c : Addr) (H H' : Hp) : Prop where
  old : RS H a l
  new : RS H' a l
  keep : ∀ b o, b ≠ a → b ≠ l → b ≠ c → H b = some o → H' b = some o
abbrev NoL : Addr → Prop := fun _ => False
section
variable {K : PySem.W.Frag} {a l c : Addr} {H H' H'' : Hp}
theorem Kp.kc (k : Kp a l H H') : Kc a l c H H' := ⟨k.old, k.new, fun b o n1 n2 _ e => k.keep b o n1 n2 e⟩
theorem Kc.trans (k : Kc a l c H H') (k' : Kc a l c H' H'') : Kc a l c H H'' := ⟨k.old, k'.new, fun b o n1 n2 n3 e => k'.keep b o n1 n2 n3 (k.keep b o n1 n2 n3 e)⟩
theorem Kc.of (r : RS H a l) (s : Same H H') : Kc a l c H H' := ⟨r, r.same s, fun b o _ _ _ e => s b o e⟩
theorem Kc.same (k : Kc a l c H H') (s : Same H' H'') : Kc a l c H H'' := k.trans (.of k.new s)
theorem Kc.put0 {p : Addr} {o : HO} (k : Kc a l c H H') (n : H p = none) : Kc a l c H (upd H' p o) := by
  obtain ⟨n1, n2⟩ := k.old.no n
  obtain ⟨st, x, ns, h1, h2, q⟩ := k.new
  exact ⟨k.old, ⟨st, x, ns, by rw [upd_ne n1.symm]; exact h1, by rw [upd_ne n2.symm]; exact h2, q⟩, fun b o m1 m2 m3 e => by rw [upd_ne (ne_of_none e n)]; exact k.keep b o m1 m2 m3 e⟩
/-- the counter changes -/
theorem Kc.count {o : HO} (k : Kc a l c H H') (n1 : c ≠ a) (n2 : c ≠ l) : Kc a l c H (upd H' c o) := by
  obtain ⟨st, x, ns, h1, h2, q⟩ := k.new
  exact ⟨k.old, ⟨st, x, ns, by rw [upd_ne n1.symm]; exact h1, by rw [upd_ne n2.symm]; exact h2, q⟩, fun b o m1 m2 m3 e => by rw [upd_ne m3]; exact k.keep b o m1 m2 m3 e⟩
theorem Kc.keeps {xs : List V} (k : Kc a l c H H') (e : H c = some (.lst xs)) : Keeps NoL H H' := fun b o st h => by
  obtain ⟨sd, x, ns, h1, h2, q⟩ := k.old
  have nl : ∀ zs, o ≠ .lst zs := fun zs z => st.1 zs z
  exact k.keep b o (fun z => by rw [z, h1] at h; exact nl _ (Option.some.inj h).symm) (fun z => by rw [z, h2] at h; exact nl _ (Option.some.inj h).symm) (fun z => by rw [z, e] at h; exact nl _ (Option.some.inj h).symm) h
theorem Kp.keepsN (k : Kp a l H H') : Keeps NoL H H' := k.keeps id id
theorem Kc.free {b : Addr} {xs : List V} (k : Kc a l c H H') (ec : H' c = some (.lst xs)) (e : H' b = none) : H b = none := by
  cases q : H b with
  | none => rfl
  | some o =>
    obtain ⟨n1, n2⟩ := k.new.no e
    rw [k.keep b o n1 n2 (fun z => by rw [z, ec] at e; cases e) q] at e
    cases e
end
/-! ### drawn rules -/
def fourR : List Str := ["pay", "warn", "free", "none"]
/-- the name of the i-th drawn rule -/
def rn (i : Nat) : Str := Str.ofString "r" ++ (⟨#[letters.cps.toList.getD i 0]⟩ : Str)
def rnames (c n : Nat) : List Str := (List.range' c n).map rn
theorem rnames_app {c n m : Nat} : rnames c n ++ rnames (c + n) m = rnames c (n + m) := by
  unfold rnames
  rw [← List.map_append, List.range'_append_1]
theorem rnames_one {c m : Nat} : rn c :: rnames (c + 1) m = rnames c (m + 1) := rfl
theorem rn_name : ∀ i, i < 24 → isName (rn i) = true := by decide +kernel
theorem four_name : ∀ x ∈ fourR, isName x = true := by decide +kernel
end Sc
namespace Sc
open PySem PySem.Spec PyProof.Rows L2
/-! ### slices of tuples -/
section
variable {K : PySem.W.Frag} {H : Hp}
theorem sl_any {b : Addr} {vs : List V} {lo hi : Option Int} {Q : VK} (hS : SqT K H b vs) (q : ∀ p H', Same H H' → SqT K H' p (cutV vs lo hi) → Q (.ref p) H') : rSlA K (.ref b) lo hi H Q :=
  ⟨b, vs, rfl, hS, fun c => q b H (Same.refl H) (by
    have e : cutV vs lo hi = vs := by
      unfold cutV
      rw [c.1, c.2, List.drop_zero, Nat.sub_zero, List.take_length]
    rw [e]
    exact hS), fun _ p np => q p _ ((Same.refl H).put np) sqT_new⟩
theorem cat_any {b c : Addr} {xs ys : List V} {Q : VK} (hA : SqT K H b xs) (hB : SqT K H c ys) (hl : xs.length + ys.length ≤ sizeLine) (q : ∀ p H', Same H H' → SqT K H' p (xs ++ ys) → Q (.ref p) H') : rCatA K (.ref b) (.ref c) H Q :=
  ⟨b, c, xs, ys, rfl, rfl, hA, hB, hl, fun e => q c H (Same.refl H) (by rw [e]; exact hB), fun _ e => q b H (Same.refl H) (by rw [e, List.append_nil]; exact hA), fun _ _ p np => q p _ ((Same.refl H).put np) sqT_new⟩
theorem sIx_nat (n d k : Nat) : HT.sIx n d (some (k : Int)) = min k n := by
  unfold HT.sIx
  first
    | (simp; done)
    | (simp; omega)
    | (split <;> omega)
theorem cut_to (vs : List V) (m : Nat) : cutV vs none (some (m : Int)) = vs.take m := by
  unfold cutV
  rw [sIx_nat]
  show (vs.drop 0).take (min m vs.length - 0) = _
  rw [List.drop_zero, Nat.sub_zero]
  by_cases h : m ≤ vs.length
  · rw [Nat.min_eq_left h]
  · rw [Nat.min_eq_right (by omega), List.take_length, List.take_of_length_le (by omega)]
theorem cut_from (vs : List V) (k : Nat) : cutV vs (some (k : Int)) none = vs.drop k := by
  unfold cutV
  rw [sIx_nat]
  show (vs.drop (min k vs.length)).take (vs.length - min k vs.length) = _
  by_cases h : k ≤ vs.length
  · rw [Nat.min_eq_left h, List.take_of_length_le (by rw [List.length_drop]; exact Nat.le_refl _)]
  · rw [Nat.min_eq_right (by omega), List.drop_length, List.drop_of_length_le (by omega)]
    exact List.take_nil
theorem cut_part (vs : List V) (k m : Nat) : cutV vs (some (k : Int)) (some (m : Int)) = (vs.drop k).take (m - k) := by
  unfold cutV
  rw [sIx_nat, sIx_nat]
  by_cases h : k ≤ vs.length
  · rw [Nat.min_eq_left h]
    by_cases h2 : m ≤ vs.length
    · rw [Nat.min_eq_left h2]
    · rw [Nat.min_eq_right (by omega), List.take_of_length_le (by rw [List.length_drop]; exact Nat.le_refl _), List.take_of_length_le (by rw [List.length_drop]; omega)]
  · rw [Nat.min_eq_right (show vs.length ≤ k by omega), List.drop_length, List.drop_of_length_le (show vs.length ≤ k by omega), List.take_nil, List.take_nil]
end
end Sc
namespace Sc
open PySem
/-! ### parts of a text -/
def stAt (b : List Stmt) (i : Nat) : Stmt := b.getD i (.Pass ⟨0, 0, 0, 0⟩)
def forB : Stmt → List Stmt
  | .For _ _ b _ _ => b
  | _ => []
def whileB : Stmt → List Stmt
  | .While _ b _ _ => b
  | _ => []
def ifB : Stmt → List Stmt
  | .If _ b _ _ => b
  | _ => []
def ifE : Stmt → List Stmt
  | .If _ _ b _ => b
  | _ => []
end Sc
namespace Sc
open PySem PySem.Spec PyProof.Rows L2
namespace RF
def app (f g : RF) : RF := ofNodes (f.nodes ++ g.nodes)
theorem app_nodes (f g : RF) : (f.app g).nodes = f.nodes ++ g.nodes := nodes_of _
theorem of_size : ∀ ns ms : List Nd, (ofNodes (ns ++ ms)).size = (ofNodes ns).size + (ofNodes ms).size
  | [], ms => by show (ofNodes ms).size = 0 + _; omega
  | n :: r, ms => by
    show n.exc.size + 1 + (ofNodes (r ++ ms)).size = n.exc.size + 1 + (ofNodes r).size + _
    rw [of_size r ms]
    omega
theorem app_size (f g : RF) : (f.app g).size = f.size + g.size := by
  unfold app
  rw [of_size, of_nodes, of_nodes]
theorem app_dep {f g : RF} {d : Nat} (h : f.dep ≤ d) (k : g.dep ≤ d) : (f.app g).dep ≤ d := dep_le _ d fun n hn => by
  rw [app_nodes] at hn
  rcases List.mem_append.mp hn with hn | hn
  · exact Nat.le_trans (dep_mem f n hn) h
  · exact Nat.le_trans (dep_mem g n hn) k
theorem app_every {p : Nd → Prop} {f g : RF} (h : f.every p) (k : g.every p) : (f.app g).every p := every_nodes.mpr fun n hn => by
  rw [app_nodes] at hn
  rcases List.mem_append.mp hn with hn | hn
  · exact every_nodes.mp h n hn
  · exact every_nodes.mp k n hn
/-- the first rules, the others -/
def head (f : RF) (i : Nat) : RF := ofNodes (f.nodes.take i)
def rest (f : RF) (i : Nat) : RF := ofNodes (f.nodes.drop i)
theorem head_nodes (f : RF) (i : Nat) : (f.head i).nodes = f.nodes.take i := nodes_of _
theorem rest_nodes (f : RF) (i : Nat) : (f.rest i).nodes = f.nodes.drop i := nodes_of _
theorem head_rest (f : RF) (i : Nat) : (f.head i).app (f.rest i) = f := by
  unfold app
  rw [head_nodes, rest_nodes, List.take_append_drop, of_nodes]
theorem cut_size (f : RF) (i : Nat) : (f.head i).size + (f.rest i).size = f.size := by rw [← app_size, head_rest]
theorem head_dep (f : RF) (i : Nat) : (f.head i).dep ≤ f.dep := dep_le _ _ fun n hn => dep_mem f n (List.mem_of_mem_take (by rw [head_nodes] at hn; exact hn))
theorem rest_dep (f : RF) (i : Nat) : (f.rest i).dep ≤ f.dep := dep_le _ _ fun n hn => dep_mem f n (List.mem_of_mem_drop (by rw [rest_nodes] at hn; exact hn))
theorem head_every {p : Nd → Prop} {f : RF} (h : f.every p) (i : Nat) : (f.head i).every p := every_nodes.mpr fun n hn => every_nodes.mp h n (List.mem_of_mem_take (by rw [head_nodes] at hn; exact hn))
theorem rest_every {p : Nd → Prop} {f : RF} (h : f.every p) (i : Nat) : (f.rest i).every p := every_nodes.mpr fun n hn => every_nodes.mp h n (List.mem_of_mem_drop (by rw [rest_nodes] at hn; exact hn))
/-- a row of one rule -/
def only (n : Nd) : RF := .cons n.nm n.hs n.fs n.rl n.exc .nil
theorem only_size (n : Nd) : (only n).size = n.exc.size + 1 := rfl
theorem only_dep (n : Nd) : (only n).dep = n.exc.dep + 1 := Nat.max_zero _
theorem only_every {p : Nd → Prop} {n : Nd} (h : p n) (k : n.exc.every p) : (only n).every p := ⟨h, k, trivial⟩
end RF
namespace All2
variable {α β : Type} {R : α → β → Prop}
theorem take {as : List α} {bs : List β} (h : All2 R as bs) : ∀ i, All2 R (as.take i) (bs.take i) := by
  induction h with
  | nil => intro i; rw [List.take_nil, List.take_nil]; exact .nil
  | cons h _ ih =>
    intro i
    cases i with
    | zero => exact .nil
    | succ i => exact .cons h (ih i)
theorem drop {as : List α} {bs : List β} (h : All2 R as bs) : ∀ i, All2 R (as.drop i) (bs.drop i) := by
  induction h with
  | nil => intro i; rw [List.drop_nil, List.drop_nil]; exact .nil
  | cons h t ih =>
    intro i
    cases i with
    | zero => exact .cons h t
    | succ i => exact ih i
end All2
section
variable {K : PySem.W.Frag} {H : Hp} {f g : RF} {vs us : List V} {v : V} {n : Nd}
theorem rows_app (h : RowsAt K H f vs) (k : RowsAt K H g us) : RowsAt K H (f.app g) (vs ++ us) := RowsAt.of (by rw [RF.app_nodes]; exact h.all.app k.all)
theorem rows_head (h : RowsAt K H f vs) (i : Nat) : RowsAt K H (f.head i) (vs.take i) := RowsAt.of (by rw [RF.head_nodes]; exact h.all.take i)
theorem rows_rest (h : RowsAt K H f vs) (i : Nat) : RowsAt K H (f.rest i) (vs.drop i) := RowsAt.of (by rw [RF.rest_nodes]; exact h.all.drop i)
theorem rows_only (h : RowAt K H v n) : RowsAt K H (.only n) [v] := RowsAt.of (.one h)
theorem cut_last (vs : List V) : cutV vs (some (-1)) none = vs.drop (vs.length - 1) := by
  unfold cutV
  have e1 : HT.sIx vs.length 0 (some (-1)) = vs.length - 1 := by
    unfold HT.sIx
    dsimp only
    rw [if_pos (by decide)]
    omega
  have e2 : HT.sIx vs.length vs.length none = vs.length := rfl
  rw [e1, e2, List.take_of_length_le]
  rw [List.length_drop]
  exact Nat.le_refl _
end
end Sc
namespace Sc
open PySem PySem.Spec PyProof.Rows L2
theorem sc_check_rules : FnScope ["facts", "rules", "names", "outermost", "index", "rule", "around", "name"] ["facts", "rules"] (defScope s_check_rules) := ⟨rfl, rfl, rfl, by decide +kernel, rfl, by decide +kernel, by decide +kernel⟩
/-- the word for a rule of a book that is wrong: met the names ahead of it, out how many are outermost -/
def faultAt (facts met : List Str) (out i : Nat) (n : Nd) (k : Nat) : Option Str :=
  if n.nm ∈ met then some "name" else if ((srt (n.hs ++ n.fs)).any fun x => !decide (x ∈ facts)) = true then some "condition" else if 5 < k then some "depth" else if i = 60 ∨ 40 < out then some "many" else none
def outNext (out k : Nat) : Nat := if k = 0 then out + 1 else out
def firstFault (facts : List Str) : List (Nd × Nat) → List Str → Nat → Nat → Option (Str × Nat)
  | [], _, _, _ => none
  | (n, k) :: r, met, out, i => match faultAt facts met (outNext out k) i n k with
    | some w => some (w, i)
    | none => firstFault facts r (met ++ [n.nm]) (outNext out k) (i + 1)
/-- the error that tells a word and an index -/
def errWI (C : Addr) (w : Str) (i : Int) (H : Hp) (E : XK) : Prop := ∀ H' d, Same H H' → H' d = none → E (.ref C) (some d) (upd H' d (.xd [(("index" : Str), .int i), (("word" : Str), .str w)]))
/-- parts that are no longer than those of a condition -/
def RF.Fit (f : RF) : Prop := ∀ q ∈ f.pre 0, q.1.hs.length + q.1.fs.length ≤ 100
section
variable {P : Program} {w : World} {K : PySem.W.Frag} {mg : Str → Option Value} {base : Heap} {C R CB : Addr}
theorem set_same' {σ : L2.St} {i : Nat} {v : Option V} (h : σ[i]? = some v) : σ.set i v = σ := by
  apply List.ext_getElem?
  intro j
  rw [List.getElem?_set]
  split
  · rename_i e
    subst e
    split
    · exact h.symm
    · rename_i c
      rw [List.getElem?_eq_none (by omega)] at h
      cases h
  · rfl
/-- if around == 0: outermost = outermost + 1 -/
def tOut (i j : Nat) : TS := fun D σ H => ∃ (out k : Nat), σ[i]? = some (some (.int (out : Nat))) ∧ σ[j]? = some (some (.int (k : Nat))) ∧ D.nx (σ.set i (some (.int (outNext out k : Nat)))) H
def sp_check_rules (K : PySem.W.Frag) (C R CB : Addr) : Sp := fun vs H Q E => ∃ (N : Addr → Prop) (a p : Addr) (xs : List Str) (ws : List V) (f : RF), vs = [.ref a, .ref p] ∧ SqT K H a (xs.map V.str) ∧ SqT K H p ws ∧ ForAt K C R N H f ws ∧ f.dep ≤ 12 ∧ f.size ≤ 900 ∧ f.Fit ∧
  (firstFault xs (f.pre 0) [] 0 0 = none → ∀ H', Same H H' → Q .non H') ∧ (∀ wd i, firstFault xs (f.pre 0) [] 0 0 = some (wd, i) → wd.length ≤ 1000 → errWI CB wd i H E)
theorem drop_at {α : Type} {l : List α} {i : Nat} {x : α} (h : l[i]? = some x) : l.drop i = x :: l.drop (i + 1) := by
  have hi : i < l.length := by
    by_cases c : i < l.length
    · exact c
    · rw [List.getElem?_eq_none (by omega)] at h; cases h
  rw [List.drop_eq_getElem_cons hi]
  rw [List.getElem?_eq_getElem hi] at h
  rw [Option.some.inj h]
theorem ok_check_rules {f : Addr} {fd : FuncData} {t1 t2 t3 : Tok} (F : Fun K "check_rules" "check_rules" s_check_rules f fd) (B : Blt mg) (kR : RuleX P w K mg base R) (kK : CondG P w K mg base C) (m_MOST_AROUND : mg "MOST_AROUND" = some (.int 5 t1)) (m_MOST_RULES : mg "MOST_RULES" = some (.int 60 t2)) (m_MOST_OUTERMOST : mg "MOST_OUTERMOST" = some (.int 40 t3))
    (e_InvalidBook : ErrMk P w K mg base "InvalidBook" CB ["self", "word", "index"] (sp_init2 CB "word" "index")) (c_nested : Cal P w K mg base CX0 15 "nested" ["rules", "around"] (sp_nested K C R 12)) :
    FnOk P w K mg base (L2.CX P w) 16 f fd ["facts", "rules"] (sp_check_rules K C R CB) := by
  refine F.okX sc_check_rules (fun vs H Q E h => by obtain ⟨N, a, p, xs, ws, f, rfl, _⟩ := h; rfl) (fun cdv A outer s H vs Q E hr h => ?_)
  obtain ⟨N, a, p, xs, ws, f, rfl, hA, hP, hF, hd, hz, hfit, q, er⟩ := h
  refine ⟨_, (pss_cons (ps_set (i := 2) sc_check_rules.nd rfl (Or.inl rfl) (pe_lst pa_nil))
      (pss_cons (ps_set (i := 3) sc_check_rules.nd rfl (Or.inl rfl) pe_int)
      (pss_one (ps_for (passes_of rfl) rfl (pi_enum (by rfl) B.b_enumerate (pa_cons (pe_cal c_nested (hr.mono (by decide)) (pa_cons (pv 1) (pa_cons pe_int pa_nil))) pa_nil)) (pg_tup (by rfl) (pgs_cons (pg_name (i := 4) sc_check_rules.nd rfl (Or.inl rfl)) (pgs_cons (pg_tup (by rfl) (pgs_cons (pg_name (i := 5) sc_check_rules.nd rfl (Or.inl rfl)) (pgs_cons (pg_name (i := 6) sc_check_rules.nd rfl (Or.inl rfl)) pgs_nil))) pgs_nil))) (pss_cons (wk_ps (tOut 3 6) (ps_if (pt_cmpR op_eq (pv 6) pe_int (nomark _)) (pss_one (ps_set (i := 3) sc_check_rules.nd rfl (Or.inl rfl) (pe_op op_add (pv 3) pe_int))) pss_nil) ?wo)
      (pss_cons (ps_if (pt_cmpR op_in_seq (pe_cprop kR.name kR.cls (hr.mono (by decide)) (pv 5)) (pv 2) rfl) (pss_one (ps_raise rfl (takes_of rfl rfl rfl rfl) (pmk_err2 e_InvalidBook (hr.mono (by decide)) pe_str (pv 4)))) pss_nil)
      (pss_cons (ps_if (pt_val (pe_callB (cr_any rfl) (by rfl) B.b_any (by decide +kernel) (pa_cons (pe_lc (own := [("name", 7)]) (g := gName 7) (tt := tYes) rfl sc_check_rules.nd (pi_tup (pe_cprop kK.names kK.cls (hr.mono (by decide)) (pe_cprop kR.condition kR.cls (hr.mono (by decide)) (pv 5)))) (blkOk_by (own := [("name", 7)]) (N := ["facts", "rules", "names", "outermost", "index", "rule", "around", "name"]) (sc := defScope s_check_rules) (by decide +kernel)) (fun _ _ _ _ _ => (pg_name (i := 7) sc_check_rules.nd rfl (Or.inl rfl))) (fun _ _ _ _ _ => pts_nil) (fun _ _ _ _ _ => (pe_.re (pe_cmpR op_notIn_seq (pv 7) (pv 0) rfl) (by first | (dsimp only [Cx.blk]; done) | exact rfl)))) pa_nil))) (pss_one (ps_raise rfl (takes_of rfl rfl rfl rfl) (pmk_err2 e_InvalidBook (hr.mono (by decide)) pe_str (pv 4)))) pss_nil)
      (pss_cons (ps_if (pt_cmpR op_gt (pv 6) (pe_glob (v := .int 5) rfl m_MOST_AROUND ⟨_, rfl⟩) (nomark _)) (pss_one (ps_raise rfl (takes_of rfl rfl rfl rfl) (pmk_err2 e_InvalidBook (hr.mono (by decide)) pe_str (pv 4)))) pss_nil)
      (pss_cons (ps_if (PW.pt (pw_or (pt_cmpR op_eq (pv 4) (pe_glob (v := .int 60) rfl m_MOST_RULES ⟨_, rfl⟩) (nomark _)) (pw_or1 (pt_cmpR op_gt (pv 3) (pe_glob (v := .int 40) rfl m_MOST_OUTERMOST ⟨_, rfl⟩) (nomark _))))) (pss_one (ps_raise rfl (takes_of rfl rfl rfl rfl) (pmk_err2 e_InvalidBook (hr.mono (by decide)) pe_str (pv 4)))) pss_nil)
      (pss_one (ps_expr (pe_bm PySem.F.plainAttrs_list PySem.F.slot_list_append PySem.F.type_list_append mt_append (pv 2) (pa_cons (pe_cprop kR.name kR.cls (hr.mono (by decide)) (pv 5)) pa_nil))))))))))))), ?_⟩
  case wo =>
    rintro D σ H1 ⟨out, k, h3, h6, q⟩
    refine ⟨_, h6, rfl, _, rfl, bcase (fun c => ?_) (fun c => ?_)⟩
    · have c : k = 0 := by have := V.int.inj (of_decide_eq_true c); omega
      subst c
      exact ⟨_, h3, out, 1, rfl, rfl, q⟩
    · have c : k ≠ 0 := fun z => by subst z; exact Bool.noConfusion (c.symm.trans (decide_eq_true rfl))
      unfold outNext at q
      rw [if_neg c, set_same' h3] at q
      exact q
  refine ⟨Nat.zero_le _, fun NL nNL => ?_⟩
  have s0 : Same H (upd H NL (.lst [])) := (Same.refl H).put nNL
  have e0 : (upd H NL (.lst [])) NL = some (.lst ([].map V.str)) := upd_same
  generalize upd H NL (.lst []) = H0 at s0 e0 ⊢
  refine ⟨_, rfl, Used N H, p, 0, ws, f, rfl, s0.tup hP, hF.used.keeps s0.keeps, hd, hz, fun H1 D us s1 nD e1 hu1 => ?_⟩
  have hul := hu1.len
  rw [RF.pre_len] at hul
  refine ⟨D, _, rfl, sqL_of e1, for_it walk_enum (fun i σ H' => ∃ (met : List Str) (out : Nat) (y4 y5 y6 y7 : Option V), σ = [some (.ref a), some (.ref p), some (.ref NL), some (.int (out : Nat)), y4, y5, y6, y7] ∧ Same H H' ∧ H' D = some (.lst us) ∧ PreAt K C R (Used N H) H' us (f.pre 0) ∧ H' NL = some (.lst (met.map V.str)) ∧ met.length = i ∧
      firstFault xs (f.pre 0) [] 0 0 = firstFault xs ((f.pre 0).drop i) met out i)
    ⟨[], 0, none, none, none, none, rfl, s0.trans s1, e1, hu1, s1 _ _ e0, rfl, rfl⟩ (fun _ _ _ _ ⟨_, _, _, _, _, _, _, _, e, _⟩ => sqL_of e) ?_ ?_⟩
  · rintro i x σ H2 H3 hi ⟨met, out, y4, y5, y6, y7, rfl, s, eD, hu, eN, hm, hff⟩ ⟨T, v1, v2, rfl, nT, rfl, h1, h2⟩
    obtain rfl : V.int (i : Nat) = v1 := Option.some.inj h1
    obtain ⟨⟨n, k⟩, hq, t, o, rfl, ht, hN⟩ := hu.get h2
    have hfitq := hfit _ (List.mem_of_getElem? hq)
    rw [drop_at hq] at hff
    dsimp only at ht hN hfitq
    have s23 : Same H2 (upd H2 T (.tup [.int (i : Nat), .ref t])) := (Same.refl H2).put nT
    have s3 := s.trans s23
    have eD3 := s23 _ _ eD
    have eN3 := s23 _ _ eN
    have ht3 := s23 _ _ ht
    have hN3 := hN.keeps s23.keeps
    have hu3 := hu.keeps s23.keeps
    have eT3 : (upd H2 T (.tup [.int (i : Nat), .ref t])) T = some (.tup [.int (i : Nat), .ref t]) := upd_same
    clear s23
    generalize upd H2 T (.tup [.int (i : Nat), .ref t]) = H3 at s3 eD3 eN3 ht3 hN3 hu3 eT3 ⊢
    refine ⟨T, [.int (i : Nat), .ref t], rfl, sqT_of eT3, rfl, _, _, rfl, _, _, rfl, t, [.ref o, .int (k : Nat)], rfl, sqT_of ht3, rfl, _, _, rfl, _, _, rfl, rfl, rfl, ?_⟩
    refine ⟨out, k, rfl, rfl, ?_⟩
    obtain ⟨dx, c, pe, l, ws', ho, hc, hpe, hl, hfe⟩ := hN3
    have hi9 : i ≤ 1000 := by omega
    have fkw : ∀ wd : Str, wd.length ≤ 1000 → FOk (.str wd) ∧ FOk (.int (i : Nat)) := fun wd h => ⟨Nat.le_trans h (by decide), fok_nat hi9⟩
    have rz : ∀ {wd : Str} {H' : Hp}, faultAt xs met (outNext out k) i n k = some wd → wd.length ≤ 1000 → Same H H' → ∀ d, H' d = none → E (.ref CB) (some d) (upd H' d (.xd [(("index" : Str), .int (i : Nat)), (("word" : Str), .str wd)])) := fun {wd H'} hf hw sH d nd => er wd i (by rw [hff]; unfold firstFault; rw [hf]) hw H' d sH nd
    refine ⟨_, rfl, o, dx, _, rfl, ho, o, dx, _, _, rfl, ho, rfl, _, rfl, NL, _, rfl, .inl (sqL_of eN3), rfl, flat_strs met, _, rfl, bcase (fun c1 => ?_) (fun c1 => ?_)⟩
    · have c1 : decide (n.nm ∈ met) = true := by rw [← inV_str]; exact c1
      exact ⟨_, rfl, fkw "name" (by decide), rz (by unfold faultAt; rw [if_pos (of_decide_eq_true c1)]) (by decide) s3⟩
    have c1 : decide (n.nm ∈ met) = false := by rw [← inV_str]; exact c1
    have f1 : faultAt xs met (outNext out k) i n k = if ((srt (n.hs ++ n.fs)).any fun x => !decide (x ∈ xs)) = true then some (Str.ofString "condition") else if 5 < k then some (Str.ofString "depth") else if i = 60 ∨ 40 < outNext out k then some (Str.ofString "many") else none := by
      unfold faultAt
      rw [if_neg (of_decide_eq_false c1)]
    obtain ⟨dxc, ca, cb, cn, zs, hco, hca, hcb, hcn, hzs⟩ := hc.at_
    have hzl : zs.length ≤ 100 := by
      rw [hzs, (srt_perm _).length_eq, List.length_append]
      exact hfitq
    refine ⟨_, rfl, o, dx, _, rfl, ho, o, dx, _, _, rfl, ho, rfl, c, dxc, _, rfl, hco, c, dxc, _, _, rfl, hco, rfl, cn, rfl, ⟨_, sqT_of hcn⟩, fun D2 nD2 => lc_it walk_tup (fun j H' => Same H3 H' ∧ H' D2 = some (.lst ((zs.take j).map fun x => V.bl (!decide (x ∈ xs))))) ⟨(Same.refl H3).put nD2, upd_same⟩ (fun _ _ _ h => h.1.tup (sqT_of hcn)) ?_ ?_⟩
    · rintro j y H4 H5 hj ⟨s4, e4⟩ ⟨rfl, hy⟩
      rw [List.length_map] at hj
      have hx : zs[j]? = some zs[j] := List.getElem?_eq_getElem hj
      obtain rfl : V.str zs[j] = y := strAt_inj hx hy
      refine ⟨rfl, yes_ ⟨_, rfl, _, rfl, a, _, rfl, .inr ((s3.trans s4).tup hA), rfl, flat_strs _, grow (acc := fun j => (zs.take j).map fun x => V.bl (!decide (x ∈ xs))) nD2 s4 e4 ?_ ?_⟩⟩
      · rw [List.length_map, List.length_take]
        exact small1000 (by omega)
      · show List.map _ _ = _
        rw [take_more hx, List.map_append]
        simp only [List.map_cons, List.map_nil, inV_str]
        rfl
    rintro H4 ⟨s4, e4⟩
    rw [List.length_map, List.take_length] at e4
    refine ⟨D2, zs.map fun x => !decide (x ∈ xs), rfl, sqL_of (by rw [e4, List.map_map]; rfl), ?_⟩
    have em : (zs.map fun x => !decide (x ∈ xs)).any id = (srt (n.hs ++ n.fs)).any fun x => !decide (x ∈ xs) := by
      rw [List.any_map, hzs]
      rfl
    rw [em]
    have s5 := s3.trans s4
    refine ⟨_, rfl, bcase (fun c2 => ?_) (fun c2 => ?_)⟩
    · exact ⟨_, rfl, fkw "condition" (by decide), rz (by rw [f1, if_pos c2]) (by decide) s5⟩
    have f2 : faultAt xs met (outNext out k) i n k = if 5 < k then some (Str.ofString "depth") else if i = 60 ∨ 40 < outNext out k then some (Str.ofString "many") else none := by
      rw [f1, if_neg (by rw [c2]; exact Bool.false_ne_true)]
    refine ⟨_, rfl, k, 5, rfl, rfl, _, rfl, bcase (fun c3 => ?_) (fun c3 => ?_)⟩
    · have c3 : 5 < k := by have := of_decide_eq_true c3; omega
      exact ⟨_, rfl, fkw "depth" (by decide), rz (by rw [f2, if_pos c3]) (by decide) s5⟩
    have c3 : ¬ 5 < k := by have := of_decide_eq_false c3; omega
    rw [if_neg c3] at f2
    refine ⟨_, rfl, rfl, _, rfl, bcase (fun c4 => ?_) (fun c4 => ?_)⟩
    · have e60 : i = 60 := by have := V.int.inj (of_decide_eq_true c4); omega
      exact iteT ⟨_, rfl, fkw "many" (by decide), rz (by rw [f2, if_pos (.inl e60)]) (by decide) s5⟩
    have n60 : i ≠ 60 := fun z => by subst z; exact Bool.noConfusion (c4.symm.trans (decide_eq_true rfl))
    refine ⟨_, rfl, outNext out k, 40, rfl, rfl, _, rfl, bcase (fun c5 => ?_) (fun c5 => ?_)⟩
    · have c5 : 40 < outNext out k := by have := of_decide_eq_true c5; omega
      exact ⟨_, rfl, fkw "many" (by decide), rz (by rw [f2, if_pos (.inr c5)]) (by decide) s5⟩
    have c5 : ¬ 40 < outNext out k := by have := of_decide_eq_false c5; omega
    rw [if_neg (fun z => z.elim n60 c5)] at f2
    have eN5 := s4 _ _ eN3
    have ho5 := s4 _ _ ho
    refine ⟨_, rfl, .inl ⟨rfl, _, sqL_of eN5⟩, _, rfl, o, dx, _, rfl, ho5, o, dx, _, _, rfl, ho5, rfl, NL, _, _, rfl, rfl, eN5, ?_, ?_⟩
    · rw [List.length_map]
      exact small1000 (by omega)
    have nDL : D ≠ NL := fun z => by rw [z, e0] at nD; cases nD
    refine ⟨met ++ [n.nm], outNext out k, _, _, _, _, rfl, s5.put nNL, by rw [upd_ne nDL]; exact s4 _ _ eD3, (hu3.keeps s4.keeps).keeps (keeps_own eN5 (used_not nNL)), by rw [upd_same, List.map_append]; rfl, by rw [List.length_append, List.length_singleton, hm], ?_⟩
    rw [hff]
    show (match faultAt xs met (outNext out k) i n k with | some w => some (w, i) | none => _) = _
    rw [f2]
  · rintro σ H2 ⟨met, out, y4, y5, y6, y7, rfl, s, eD, hu, eN, hm, hff⟩
    have hl : us.length = (f.pre 0).length := hu1.len
    rw [hl, List.drop_length] at hff
    exact q hff H2 s
end
end Sc
namespace Sc
open PySem PySem.Spec PyProof.Rows L2
/-! ### an object Book -/
theorem sc_Book___init__ : FnScope ["self", "facts", "rules", "ruling", "rule", "_"] ["self", "facts", "rules", "ruling"] (defScope s_Book___init__) := ⟨rfl, rfl, rfl, by decide +kernel, rfl, by decide +kernel, by decide +kernel⟩
theorem sc_Book_facts : FnScope ["self"] ["self"] (defScope s_Book_facts) := ⟨rfl, rfl, rfl, by decide +kernel, rfl, by decide +kernel, by decide +kernel⟩
theorem sc_Book_rules : FnScope ["self"] ["self"] (defScope s_Book_rules) := ⟨rfl, rfl, rfl, by decide +kernel, rfl, by decide +kernel, by decide +kernel⟩
theorem sc_Book_ruling : FnScope ["self"] ["self"] (defScope s_Book_ruling) := ⟨rfl, rfl, rfl, by decide +kernel, rfl, by decide +kernel, by decide +kernel⟩
section
variable {P : Program} {w : World} {K : PySem.W.Frag} {mg : Str → Option Value} {base : Heap} {C R B CF CB : Addr}
theorem ok_Book_facts {f : Addr} {fd : FuncData} (F : Fun K "facts" "Book.facts" s_Book_facts f fd) (T : Cls K B) (n : NoAttr K B "_facts") : FnOk P w K mg base CX0 1 f fd ["self"] (sp_prop B "_facts") := by
  refine F.ok sc_Book_facts (fun vs H Q E h => by obtain ⟨x, dx, fs, v, rfl, _⟩ := h; rfl) (fun cdv A outer s H vs Q E hr h => ?_)
  obtain ⟨x, dx, fs, v, rfl, hx, hl, q⟩ := h
  exact ⟨_, (pss_one (ps_ret (pe_fld (pv 0) rfl))), ⟨_, rfl, x, B, dx, fs, v, rfl, hx, T, n, hl, q⟩⟩
theorem ok_Book_rules {f : Addr} {fd : FuncData} (F : Fun K "rules" "Book.rules" s_Book_rules f fd) (T : Cls K B) (n : NoAttr K B "_rules") : FnOk P w K mg base CX0 1 f fd ["self"] (sp_prop B "_rules") := by
  refine F.ok sc_Book_rules (fun vs H Q E h => by obtain ⟨x, dx, fs, v, rfl, _⟩ := h; rfl) (fun cdv A outer s H vs Q E hr h => ?_)
  obtain ⟨x, dx, fs, v, rfl, hx, hl, q⟩ := h
  exact ⟨_, (pss_one (ps_ret (pe_fld (pv 0) rfl))), ⟨_, rfl, x, B, dx, fs, v, rfl, hx, T, n, hl, q⟩⟩
theorem ok_Book_ruling {f : Addr} {fd : FuncData} (F : Fun K "ruling" "Book.ruling" s_Book_ruling f fd) (T : Cls K B) (n : NoAttr K B "_ruling") : FnOk P w K mg base CX0 1 f fd ["self"] (sp_prop B "_ruling") := by
  refine F.ok sc_Book_ruling (fun vs H Q E h => by obtain ⟨x, dx, fs, v, rfl, _⟩ := h; rfl) (fun cdv A outer s H vs Q E hr h => ?_)
  obtain ⟨x, dx, fs, v, rfl, hx, hl, q⟩ := h
  exact ⟨_, (pss_one (ps_ret (pe_fld (pv 0) rfl))), ⟨_, rfl, x, B, dx, fs, v, rfl, hx, T, n, hl, q⟩⟩
/-- the fields of a book -/
def bookF (a p : Addr) (rl : Str) (l : Addr) : List (Str × V) := putF "_numbered" (.ref l) (putF "_ruling" (.str rl) (putF "_rules" (.ref p) (putF "_facts" (.ref a) [])))
def BookAt (K : PySem.W.Frag) (C R B : Addr) (N : Addr → Prop) (H : Hp) (o : Addr) (xs : List Str) (f : RF) (rl : Str) : Prop := ∃ (dx a p l : Addr) (ws us : List V), H o = some (.ins B dx (bookF a p rl l)) ∧ SqT K H a (xs.map V.str) ∧ SqT K H p ws ∧ ForAt K C R N H f ws ∧ (N l ∧ H l = some (.lst us)) ∧ All2 (RefAt K C R N H) us ((f.pre 0).map fun q => q.1)
theorem BookAt.keeps {N : Addr → Prop} {H H' : Hp} {o : Addr} {xs : List Str} {f : RF} {rl : Str} (h : BookAt K C R B N H o xs f rl) (k : Keeps N H H') : BookAt K C R B N H' o xs f rl := by
  obtain ⟨dx, a, p, l, ws, us, h1, h2, h3, h4, ⟨h5, h6⟩, h7⟩ := h
  exact ⟨dx, a, p, l, ws, us, k _ _ stays_ins h1, k.tup h2, k.tup h3, h4.keeps k, ⟨h5, k _ _ (stays_lst h5) h6⟩, h7.mono fun _ _ x => x.keeps k⟩
def sp_book_init (K : PySem.W.Frag) (C R B CF CB : Addr) : Sp := fun vs H Q E => ∃ (N : Addr → Prop) (x dx a p : Addr) (xs : List Str) (rl : Str) (ws : List V) (f : RF), vs = [.ref x, .ref a, .ref p, .str rl] ∧ H x = some (.ins B dx []) ∧ SqT K H a (xs.map V.str) ∧ Txts xs ∧ xs.length ≤ 1000 ∧ SqT K H p ws ∧ ForAt K C R N H f ws ∧ f.dep ≤ 12 ∧ f.size ≤ 900 ∧ f.Fit ∧ rl.length ≤ 1000 ∧
  (∀ i, firstBad xs = some i → errIx CF i H E) ∧ (firstBad xs = none → (∀ wd i, firstFault xs (f.pre 0) [] 0 0 = some (wd, i) → wd.length ≤ 1000 → errWI CB wd (i : Nat) H E) ∧ (firstFault xs (f.pre 0) [] 0 0 = none →
    (isName rl = false → errWI CB "ruling" (-1) H E) ∧ (isName rl = true → ∀ H' l us, SameX x H H' → H' x = some (.ins B dx (bookF a p rl l)) → l ≠ x → H l = none → H' l = some (.lst us) → All2 (RefAt K C R N H') us ((f.pre 0).map fun q => q.1) → Q .non H')))
theorem ok_book_init {f : Addr} {fd : FuncData} (F : Fun K "__init__" "Book.__init__" s_Book___init__ f fd) (Bl : Blt mg) (T : Cls K B) (n1 : NoAttr K B "_facts") (n2 : NoAttr K B "_rules") (n3 : NoAttr K B "_ruling") (n4 : NoAttr K B "_numbered")
    (e_InvalidBook : ErrMk P w K mg base "InvalidBook" CB ["self", "word", "index"] (sp_init2 CB "word" "index")) (c_is_name : Cal P w K mg base CX0 1 "is_name" ["value"] sp_is_name) (c_nested : Cal P w K mg base CX0 15 "nested" ["rules", "around"] (sp_nested K C R 12))
    (c_check_facts : Cal P w K mg base (L2.CX P w) 3 "check_facts" ["facts"] (sp_check_facts K CF)) (c_check_rules : Cal P w K mg base (L2.CX P w) 16 "check_rules" ["facts", "rules"] (sp_check_rules K C R CB)) :
    FnOk P w K mg base (L2.CX P w) 17 f fd ["self", "facts", "rules", "ruling"] (sp_book_init K C R B CF CB) := by
  refine F.okX sc_Book___init__ (fun vs H Q E h => by obtain ⟨N, x, dx, a, p, xs, rl, ws, f, rfl, _⟩ := h; rfl) (fun cdv A outer s H vs Q E hr h => ?_)
  obtain ⟨N, x, dx, a, p, xs, rl, ws, f, rfl, hx, hA, tA, lA, hP, hF, hd, hz, hfit, lr, e1, q⟩ := h
  refine ⟨_, (pss_cons (ps_expr (pe_calX c_check_facts (hr.mono (by decide)) (takes_of rfl rfl rfl rfl) (pa_cons (pv 1) pa_nil)))
      (pss_cons (ps_expr (pe_calX c_check_rules (hr.mono (by decide)) (takes_of rfl rfl rfl rfl) (pa_cons (pv 1) (pa_cons (pv 2) pa_nil))))
      (pss_cons (ps_if (pt_not (pt_val (pe_cal c_is_name (hr.mono (by decide)) (pa_cons (pv 3) pa_nil)))) (pss_one (ps_raise rfl (takes_of rfl rfl rfl rfl) (pmk_err2 e_InvalidBook (hr.mono (by decide)) pe_str (pe_un un_neg pe_int)))) pss_nil)
      (pss_cons (ps_fld (pv 0) (pv 1) rfl)
      (pss_cons (ps_fld (pv 0) (pv 2) rfl)
      (pss_cons (ps_fld (pv 0) (pv 3) rfl)
      (pss_one (ps_fld (pv 0) (pe_lc (own := [("rule", 4), ("_", 5)]) (g := gTup K 2 (gCons (gName 4) (gCons (gName 5) gNil))) (tt := tYes) rfl sc_Book___init__.nd (pi_list (pe_cal c_nested (hr.mono (by decide)) (pa_cons (pv 2) (pa_cons pe_int pa_nil)))) (blkOk_by (own := [("rule", 4), ("_", 5)]) (N := ["self", "facts", "rules", "ruling", "rule", "_"]) (sc := defScope s_Book___init__) (by decide +kernel)) (fun _ _ _ _ _ => (pg_tup (by rfl) (pgs_cons (pg_name (i := 4) sc_Book___init__.nd rfl (Or.inl rfl)) (pgs_cons (pg_name (i := 5) sc_Book___init__.nd rfl (Or.inl rfl)) pgs_nil)))) (fun _ _ _ _ _ => pts_nil) (fun _ _ _ _ _ => (pe_.re (pv 4) (by first | (dsimp only [Cx.blk]; done) | exact rfl)))) rfl)))))))), ?_⟩
  have big : ∀ {m : Nat}, m ≤ 1000 → m ≤ sizeLine := fun {m} h => by rw [sizeLine_eq]; omega
  refine ⟨_, rfl, a, xs, rfl, hA, tA, lA, fun z1 H1 s1 => ?_, e1⟩
  obtain ⟨e2, q⟩ := q z1
  refine ⟨_, rfl, _, rfl, N, a, p, xs, ws, f, rfl, s1.tup hA, s1.tup hP, hF.keeps s1.keeps, hd, hz, hfit, fun z2 H2 s2 => ?_, fun wd i ei hw H' d sH nd => e2 wd i ei hw H' d (s1.trans sH) nd⟩
  obtain ⟨e3, q⟩ := q z2
  have s12 := s1.trans s2
  refine ⟨_, rfl, rl, rfl, big lr, fun H3 s3 => ⟨_, rfl, bcase (fun c1 => ?_) (fun c1 => ?_)⟩⟩
  · exact ⟨1, rfl, ⟨Nat.le_trans (show (Str.ofString "ruling").length ≤ 1000 by decide) (by decide), (show (-1 : Int).natAbs.log2 < 1920 by decide)⟩, fun d nd => e3 ((Bool.not_eq_true' _).mp c1) H3 d (s12.trans s3) nd⟩
  have q := q ((Bool.not_eq_false' _).mp c1)
  have s13 := s12.trans s3
  have hx3 := s13 _ _ hx
  refine ⟨_, rfl, _, rfl, x, B, dx, _, rfl, hx3, T, n1, by decide, ?_⟩
  refine ⟨_, rfl, _, rfl, x, B, dx, _, rfl, upd_same, T, n2, Nat.lt_of_le_of_lt (putF_le (Nat.zero_le 0)) (by decide), ?_⟩
  refine ⟨_, rfl, _, rfl, x, B, dx, _, rfl, upd_same, T, n3, Nat.lt_of_le_of_lt (putF_le (putF_le (Nat.zero_le 0))) (by decide), ?_⟩
  have sx : SameX x H (upd (upd (upd H3 x (.ins B dx (putF "_facts" (.ref a) []))) x (.ins B dx (putF "_rules" (.ref p) (putF "_facts" (.ref a) [])))) x (.ins B dx (putF "_ruling" (.str rl) (putF "_rules" (.ref p) (putF "_facts" (.ref a) []))))) := (((SameX.of s13).put).put).put
  have hx6 : (upd (upd (upd H3 x (.ins B dx (putF "_facts" (.ref a) []))) x (.ins B dx (putF "_rules" (.ref p) (putF "_facts" (.ref a) [])))) x (.ins B dx (putF "_ruling" (.str rl) (putF "_rules" (.ref p) (putF "_facts" (.ref a) []))))) x = some (.ins B dx (putF "_ruling" (.str rl) (putF "_rules" (.ref p) (putF "_facts" (.ref a) [])))) := upd_same
  generalize upd (upd (upd H3 x (.ins B dx (putF "_facts" (.ref a) []))) x (.ins B dx (putF "_rules" (.ref p) (putF "_facts" (.ref a) [])))) x (.ins B dx (putF "_ruling" (.str rl) (putF "_rules" (.ref p) (putF "_facts" (.ref a) [])))) = H6 at sx hx6 ⊢
  have k6 : Keeps N H H6 := sx.keeps hx
  refine ⟨_, rfl, N, p, 0, ws, f, rfl, k6.tup hP, hF.keeps k6, hd, hz, fun H7 D us s7 nD eD hu => ?_⟩
  have hul := hu.len
  rw [RF.pre_len] at hul
  refine ⟨D, rfl, ⟨_, sqL_of eD⟩, fun D2 nD2 => lc_it walk_list (fun i H' => Same H7 H' ∧ ∃ rs, H' D2 = some (.lst rs) ∧ All2 (RefAt K C R N H7) rs (((f.pre 0).take i).map fun q => q.1)) ⟨(Same.refl H7).put nD2, [], upd_same, .nil⟩ (fun _ _ _ h => sqL_of (h.1 _ _ eD)) ?_ ?_⟩
  · rintro i y H8 H9 hi ⟨s, rs, e, hr2⟩ ⟨rfl, hy⟩
    obtain ⟨⟨n, k⟩, hq, t, o, rfl, ht, hN⟩ := hu.get hy
    have ht := s _ _ ht
    have hrl := hr2.len
    rw [List.length_map, List.length_take, RF.pre_len] at hrl
    refine ⟨t, [.ref o, .int (k : Nat)], rfl, sqT_of ht, rfl, _, _, rfl, _, _, rfl, rfl, rfl, yes_ ⟨_, rfl, rs, e, small1000 (by omega), s.put nD2, _, upd_same, ?_⟩⟩
    rw [take_more hq, List.map_append]
    exact hr2.snoc ⟨o, rfl, hN⟩
  rintro H8 ⟨s8, rs, e8, hr2⟩
  rw [hu.len, List.take_length] at hr2
  have s68 := s7.trans s8
  have hx8 := s68 _ _ hx6
  have ne : D2 ≠ x := fun z => by rw [z, hx8] at e8; cases e8
  refine ⟨_, rfl, x, B, dx, _, rfl, hx8, T, n4, Nat.lt_of_le_of_lt (putF_le (putF_le (putF_le (Nat.zero_le 0)))) (by decide), ?_⟩
  have kk : Keeps N H7 (upd H8 x (.ins B dx (putF "_numbered" (.ref D2) (putF "_ruling" (.str rl) (putF "_rules" (.ref p) (putF "_facts" (.ref a) [])))))) := Keeps.trans s8.keeps (keeps_make hx8)
  exact q _ D2 rs (sx.same s68).put upd_same ne (sx.free ne (s7.free nD2)) (by rw [upd_ne ne]; exact e8) (hr2.mono fun _ _ x => x.keeps kk)
end
end Sc
namespace Sc
open PySem
/-! ### cases by their numbers -/
def caseOf : List Str → Nat → List Str
  | [], _ => []
  | x :: r, n => (if n % 2 = 1 then [x] else []) ++ caseOf r (n / 2)
def bitN (n k : Nat) : Bool := decide (n / 2 ^ k % 2 = 1)
theorem bitN_succ {n k : Nat} : bitN n (k + 1) = bitN (n / 2) k := by
  unfold bitN
  rw [Nat.pow_succ, Nat.mul_comm, ← Nat.div_div_eq_div_mul]
theorem caseOf_more : ∀ (fs : List Str) (n i : Nat) (x : Str), fs[i]? = some x → caseOf (fs.take (i + 1)) n = caseOf (fs.take i) n ++ (if bitN n i = true then [x] else [])
  | y :: r, n, 0, x, h => by
    have h : y = x := Option.some.inj h
    subst h
    show (if n % 2 = 1 then [y] else []) ++ caseOf [] (n / 2) = [] ++ _
    unfold bitN caseOf
    rw [Nat.pow_zero, Nat.div_one, List.append_nil, List.nil_append]
    by_cases c : n % 2 = 1
    · rw [if_pos c, if_pos (decide_eq_true c)]
    · rw [if_neg c, if_neg (by rw [decide_eq_false c]; exact Bool.false_ne_true)]
  | y :: r, n, i + 1, x, h => by
    have h : r[i]? = some x := h
    show (if n % 2 = 1 then [y] else []) ++ caseOf (r.take (i + 1)) (n / 2) = ((if n % 2 = 1 then [y] else []) ++ caseOf (r.take i) (n / 2)) ++ _
    rw [caseOf_more r (n / 2) i x h, List.append_assoc, bitN_succ]
theorem caseOf_sub : ∀ (fs : List Str) (n : Nat), List.Sublist (caseOf fs n) fs
  | [], _ => .slnil
  | x :: r, n => by
    unfold caseOf
    by_cases c : n % 2 = 1
    · rw [if_pos c]
      exact (caseOf_sub r _).cons₂ x
    · rw [if_neg c]
      exact (caseOf_sub r _).cons x
/-- each choice of the facts is a case -/
theorem caseOf_all (p : Str → Bool) : ∀ fs : List Str, ∃ n, n < 2 ^ fs.length ∧ caseOf fs n = fs.filter p
  | [] => ⟨0, by decide, rfl⟩
  | x :: r => by
    obtain ⟨n, h1, h2⟩ := caseOf_all p r
    cases c : p x with
    | true =>
      refine ⟨2 * n + 1, by rw [List.length_cons, Nat.pow_succ]; omega, ?_⟩
      unfold caseOf
      rw [if_pos (by omega), show (2 * n + 1) / 2 = n by omega, h2, List.filter_cons, if_pos c]
      rfl
    | false =>
      refine ⟨2 * n, by rw [List.length_cons, Nat.pow_succ]; omega, ?_⟩
      unfold caseOf
      rw [if_neg (by omega), show (2 * n) / 2 = n by omega, h2, List.filter_cons, if_neg (by rw [c]; exact Bool.false_ne_true)]
      rfl
end Sc
namespace Sc
open PySem PySem.Spec PyProof.Rows L2
/-! ### rising rows of the twelve facts -/
def SLt (a b : Str) : Prop := a.cps.toList < b.cps.toList
instance (a b : Str) : Decidable (SLt a b) := inferInstanceAs (Decidable (a.cps.toList < b.cps.toList))
structure Good (xs : List Str) : Prop where
  up : xs.Pairwise SLt
  mem : ∀ x ∈ xs, x ∈ twelve
theorem twelve_up : twelve.Pairwise SLt := by decide +kernel
theorem twelve_name : ∀ x ∈ twelve, isName x = true := by decide +kernel
theorem twelve_good : Good twelve := ⟨twelve_up, fun _ h => h⟩
theorem Good.sub {xs ys : List Str} (h : Good ys) (s : List.Sublist xs ys) : Good xs := ⟨h.up.sublist s, fun x hx => h.mem x (s.subset hx)⟩
theorem Good.nodup {xs : List Str} (h : Good xs) : xs.Nodup := h.up.imp fun {a b} hl e => by subst e; exact List.lt_irrefl _ hl
theorem Good.fines {xs : List Str} (h : Good xs) (tf : Fines twelve) : Fines xs := fun x hx => tf x (h.mem x hx)
theorem Good.le {xs : List Str} (h : Good xs) : xs.Pairwise SLe := h.up.imp fun hl => List.le_of_lt hl
theorem good_nil : Good [] := ⟨.nil, fun _ h => nomatch h⟩
theorem Good.srt {xs : List Str} (h : Good xs) : srt xs = xs := sorted_uniq (srt_perm xs) (srt_sorted xs) (sorted_of h.le)
theorem lt_of {a b : Str} (h : SLe a b) (n : a ≠ b) : SLt a b := by
  by_cases c : a.cps.toList < b.cps.toList
  · exact c
  · exact absurd (str_ext (List.le_antisymm h (List.not_lt.mp c))) n
theorem srt_good {xs : List Str} (nd : xs.Nodup) (m : ∀ x ∈ xs, x ∈ twelve) : Good (srt xs) := by
  have nd2 : (Sc.srt xs).Nodup := (srt_perm xs).nodup_iff.mpr nd
  refine ⟨?_, fun x hx => m x ((srt_perm xs).mem_iff.mp hx)⟩
  exact ((sorted_pw (srt_sorted xs)).and nd2).imp fun h => lt_of h.1 h.2
theorem mem_mrg {xs ys : List Str} {x : Str} : x ∈ mrg xs ys ↔ x ∈ xs ∨ x ∈ ys := by
  unfold mrg
  rw [(srt_perm _).mem_iff, List.mem_append, List.mem_filter]
  constructor
  · rintro (h | h)
    · exact .inl h
    · exact .inr h.1
  · rintro (h | h)
    · exact .inl h
    · by_cases c : x ∈ xs
      · exact .inl c
      · exact .inr ⟨h, by rw [decide_eq_false c]; rfl⟩
theorem Good.mrg {xs ys : List Str} (h : Good xs) (k : Good ys) : Good (mrg xs ys) := by
  refine srt_good ?_ fun x hx => ?_
  · rw [List.nodup_append]
    refine ⟨h.nodup, (List.filter_sublist).nodup k.nodup, fun a ha b hb e => ?_⟩
    subst e
    have := (List.mem_filter.mp hb).2
    rw [decide_eq_true ha] at this
    cases this
  · rcases List.mem_append.mp hx with h1 | h1
    · exact h.mem x h1
    · exact k.mem x (List.mem_filter.mp h1).1
/-- a good row is told by its members -/
theorem Good.ext {xs ys : List Str} (h : Good xs) (k : Good ys) (e : ∀ x, x ∈ xs ↔ x ∈ ys) : xs = ys := by
  have p : xs.Perm ys := (List.perm_ext_iff_of_nodup h.nodup k.nodup).mpr e
  exact sorted_uniq p (sorted_of h.le) (sorted_of k.le)
theorem rises_pw {xs : List Str} (h : xs.Pairwise SLt) {i : Nat} (hi : i < xs.length) : risesAt xs i = true := by
  by_cases h0 : i = 0
  · subst h0
    rfl
  · rw [risesAt_eq hi h0 (by omega)]
    exact decide_eq_true (List.pairwise_iff_getElem.mp h (i - 1) i (by omega) hi (by omega))
theorem Good.none {xs ys : List Str} (h : Good xs) (l : ys.length + xs.length ≤ 8) (d : ∀ x ∈ xs, ¬ x ∈ ys) : firstWrong xs ys = none := by
  unfold firstWrong
  rw [List.find?_eq_none]
  intro i hi
  have hi := List.mem_range.mp hi
  unfold wrongAt
  rw [List.getElem?_eq_getElem hi]
  dsimp only
  rw [twelve_name _ (h.mem _ (List.getElem_mem hi)), rises_pw h.up hi, decide_eq_false (show ¬ 8 ≤ ys.length + i by omega), decide_eq_false (d _ (List.getElem_mem hi))]
  exact Bool.false_ne_true
/-! ### two conditions over the same cases -/
theorem meets_iff {hs fs cs : List Str} : meets hs fs cs = true ↔ (∀ x ∈ hs, x ∈ cs) ∧ ∀ x ∈ fs, ¬ x ∈ cs := by
  unfold meets
  rw [Bool.and_eq_true, List.all_eq_true, Bool.not_eq_true', List.any_eq_false]
  constructor
  · rintro ⟨h1, h2⟩
    exact ⟨fun x hx => of_decide_eq_true (h1 x hx), fun x hx hc => h2 x hx (decide_eq_true hc)⟩
  · rintro ⟨h1, h2⟩
    exact ⟨fun x hx => decide_eq_true (h1 x hx), fun x hx hc => h2 x hx (of_decide_eq_true hc)⟩
theorem meets_mrg {hs fs gs ks cs : List Str} : meets (mrg hs gs) (mrg fs ks) cs = (meets hs fs cs && meets gs ks cs) := by
  rw [Bool.eq_iff_iff, Bool.and_eq_true, meets_iff, meets_iff, meets_iff]
  constructor
  · rintro ⟨h1, h2⟩
    exact ⟨⟨fun x hx => h1 x (mem_mrg.mpr (.inl hx)), fun x hx => h2 x (mem_mrg.mpr (.inl hx))⟩, fun x hx => h1 x (mem_mrg.mpr (.inr hx)), fun x hx => h2 x (mem_mrg.mpr (.inr hx))⟩
  · rintro ⟨⟨h1, h2⟩, h3, h4⟩
    refine ⟨fun x hx => ?_, fun x hx => ?_⟩
    · rcases mem_mrg.mp hx with h | h
      · exact h1 x h
      · exact h3 x h
    · rcases mem_mrg.mp hx with h | h
      · exact h2 x h
      · exact h4 x h
/-- a case that meets the joined condition: what must hold, and no more -/
theorem met_case {fs ws bs : List Str} (s1 : ∀ x ∈ ws, x ∈ fs) (d : ∀ x ∈ ws, ¬ x ∈ bs) : meets ws bs (fs.filter fun x => decide (x ∈ ws)) = true := by
  rw [meets_iff]
  refine ⟨fun x hx => List.mem_filter.mpr ⟨s1 x hx, decide_eq_true hx⟩, fun x hx hc => ?_⟩
  exact d x (of_decide_eq_true (List.mem_filter.mp hc).2) hx
theorem both_iff {fs hs ks gs ls : List Str} (h1 : ∀ x ∈ hs, x ∈ fs) (h2 : ∀ x ∈ gs, x ∈ fs) :
    (∃ n, n < 2 ^ fs.length ∧ (meets hs ks (caseOf fs n) && meets gs ls (caseOf fs n)) = true) ↔ meetN (mrg hs gs) (mrg ks ls) = false := by
  constructor
  · rintro ⟨n, _, h⟩
    rw [← meets_mrg, meets_iff] at h
    unfold meetN
    rw [List.any_eq_false]
    intro x hx hc
    exact h.2 x (of_decide_eq_true hc) (h.1 x hx)
  · intro h
    obtain ⟨n, hn, e⟩ := caseOf_all (fun x => decide (x ∈ mrg hs gs)) fs
    refine ⟨n, hn, ?_⟩
    rw [← meets_mrg, e]
    refine met_case (fun x hx => ?_) (fun x hx hc => ?_)
    · rcases mem_mrg.mp hx with h' | h'
      · exact h1 x h'
      · exact h2 x h'
    · unfold meetN at h
      rw [List.any_eq_false] at h
      exact h x hx (decide_eq_true hc)
theorem within_iff {fs hs ks gs ls : List Str} (h1 : ∀ x ∈ hs, x ∈ fs) (h2 : ∀ x ∈ ls, x ∈ fs) (d : ∀ x ∈ hs, ¬ x ∈ ks) :
    withinC hs ks gs ls = true ↔ ∀ n, n < 2 ^ fs.length → (meets hs ks (caseOf fs n) && !meets gs ls (caseOf fs n)) = false := by
  unfold withinC
  rw [Bool.and_eq_true, List.all_eq_true, List.all_eq_true]
  constructor
  · rintro ⟨q1, q2⟩ n _
    cases c : meets hs ks (caseOf fs n) with
    | false => rfl
    | true =>
      have c := meets_iff.mp c
      have : meets gs ls (caseOf fs n) = true := meets_iff.mpr ⟨fun x hx => c.1 x (of_decide_eq_true (q1 x hx)), fun x hx => c.2 x (of_decide_eq_true (q2 x hx))⟩
      rw [this]
      rfl
  · intro q
    constructor
    · intro x hx
      obtain ⟨n, hn, e⟩ := caseOf_all (fun x => decide (x ∈ hs)) fs
      have h := q n hn
      rw [e, met_case h1 d, Bool.true_and] at h
      have h : meets gs ls (fs.filter fun x => decide (x ∈ hs)) = true := by
        cases c : meets gs ls (fs.filter fun x => decide (x ∈ hs)) with
        | true => rfl
        | false => rw [c] at h; cases h
      exact (List.mem_filter.mp ((meets_iff.mp h).1 x hx)).2
    · intro x hx
      obtain ⟨n, hn, e⟩ := caseOf_all (fun x => !decide (x ∈ ks)) fs
      have h := q n hn
      have m : meets hs ks (fs.filter fun x => !decide (x ∈ ks)) = true := by
        rw [meets_iff]
        refine ⟨fun y hy => List.mem_filter.mpr ⟨h1 y hy, by rw [decide_eq_false (d y hy)]; rfl⟩, fun y hy hc => ?_⟩
        have := (List.mem_filter.mp hc).2
        rw [decide_eq_true hy] at this
        cases this
      rw [e, m, Bool.true_and] at h
      have h : meets gs ls (fs.filter fun x => !decide (x ∈ ks)) = true := by
        cases c : meets gs ls (fs.filter fun x => !decide (x ∈ ks)) with
        | true => rfl
        | false => rw [c] at h; cases h
      refine decide_eq_true (Classical.byContradiction fun nk => ?_)
      exact (meets_iff.mp h).2 x hx (List.mem_filter.mpr ⟨h2 x hx, by rw [decide_eq_false nk]; rfl⟩)
end Sc
namespace Sc
open PySem PySem.Spec PyProof.Rows L2
/-! ### rules of right parts -/
structure NdOk (n : Nd) : Prop where
  nm : isName n.nm = true
  rl : isName n.rl = true
  c1 : firstWrong n.hs [] = none
  c2 : firstWrong n.fs n.hs = none
theorem name_len {x : Str} (h : isName x = true) : x.length ≤ 8 := by
  unfold isName at h
  rw [Bool.and_eq_true, Bool.and_eq_true] at h
  exact of_decide_eq_true h.2.1
theorem fw_names {xs ys : List Str} (h : firstWrong xs ys = none) : ∀ x ∈ xs, isName x = true := by
  intro x hx
  obtain ⟨i, hi, rfl⟩ := List.getElem_of_mem hx
  have := (wrongs_none h i hi).1.1
  rw [Bool.or_eq_false_iff] at this
  exact (Bool.not_eq_false' _).mp this.1
theorem fw_txts {xs ys : List Str} (h : firstWrong xs ys = none) : Txts xs := fun x hx => Nat.le_trans (name_len (fw_names h x hx)) (by decide)
theorem NdOk.len {n : Nd} (h : NdOk n) : n.hs.length ≤ 8 ∧ n.fs.length ≤ 8 := by
  have h1 := fw_len h.c1
  have h2 := fw_len h.c2
  simp only [List.length_nil] at h1
  omega
theorem fit_of {f : RF} (h : f.every NdOk) : f.Fit := fun q hq => by
  have := (RF.every_pre h q hq).len
  omega
theorem name_fine {x : Str} (h : isName x = true) : Fine x := by
  refine ⟨Nat.le_trans (name_len h) (by decide), ?_⟩
  unfold isName isLetters at h
  rw [Bool.and_eq_true, Bool.and_eq_true, List.all_eq_true] at h
  have hL : PyData.strOk letters = true := by decide +kernel
  show PyData.strOk x = true
  unfold PyData.strOk at hL ⊢
  rw [Array.all_eq_true'] at hL ⊢
  intro c hc
  exact hL c (by rw [← Array.mem_toList_iff]; exact of_decide_eq_true (h.2.2 c (by rw [Array.mem_toList_iff]; exact hc)))
theorem fw_fines {xs ys : List Str} (h : firstWrong xs ys = none) : Fines xs := fun x hx => name_fine (fw_names h x hx)
/-- names in their order -/
structure Right (xs : List Str) : Prop where
  up : xs.Pairwise SLt
  nm : ∀ x ∈ xs, isName x = true
theorem Right.sub {xs ys : List Str} (h : Right ys) (s : List.Sublist xs ys) : Right xs := ⟨h.up.sublist s, fun x hx => h.nm x (s.subset hx)⟩
theorem Right.nodup {xs : List Str} (h : Right xs) : xs.Nodup := h.up.imp fun {a b} hl e => by subst e; exact List.lt_irrefl _ hl
theorem Right.fines {xs : List Str} (h : Right xs) : Fines xs := fun x hx => name_fine (h.nm x hx)
theorem Right.none {xs ys : List Str} (h : Right xs) (l : ys.length + xs.length ≤ 8) (d : ∀ x ∈ xs, ¬ x ∈ ys) : firstWrong xs ys = none := by
  unfold firstWrong
  rw [List.find?_eq_none]
  intro i hi
  have hi := List.mem_range.mp hi
  unfold wrongAt
  rw [List.getElem?_eq_getElem hi]
  dsimp only
  rw [h.nm _ (List.getElem_mem hi), rises_pw h.up hi, decide_eq_false (show ¬ 8 ≤ ys.length + i by omega), decide_eq_false (d _ (List.getElem_mem hi))]
  exact Bool.false_ne_true
theorem Right.bad {xs : List Str} (g : Right xs) (h0 : xs ≠ []) (h1 : xs.length ≤ 60) : firstBad xs = Option.none := by
  unfold firstBad
  rw [if_neg h0, List.find?_eq_none]
  intro i hi
  have hi := List.mem_range.mp hi
  unfold badAt
  rw [List.getElem?_eq_getElem hi]
  dsimp only
  rw [g.nm _ (List.getElem_mem hi), rises_pw g.up hi, decide_eq_false (show ¬ i = 60 by omega)]
  exact Bool.false_ne_true
/-- a row of distinct names, sorted -/
theorem right_of {xs zs : List Str} (p : zs.Perm xs) (s : sortedS zs = true) (nd : xs.Nodup) (nm : ∀ x ∈ xs, isName x = true) : Right zs :=
  ⟨((sorted_pw s).and (p.nodup_iff.mpr nd)).imp fun h => lt_of h.1 h.2, fun x hx => nm x (p.mem_iff.mp hx)⟩
end Sc
namespace Sc
open PySem PySem.Spec PyProof.Rows L2
theorem sc_cube_of : FnScope ["facts", "condition"] ["facts", "condition"] (defScope s_cube_of) := ⟨rfl, rfl, rfl, by decide +kernel, rfl, by decide +kernel, by decide +kernel⟩
theorem sc_clash : FnScope ["cube", "other"] ["cube", "other"] (defScope s_clash) := ⟨rfl, rfl, rfl, by decide +kernel, rfl, by decide +kernel, by decide +kernel⟩
section
variable {P : Program} {w : World} {K : PySem.W.Frag} {mg : Str → Option Value} {base : Heap} {C R B : Addr}
def sp_cube_of (K : PySem.W.Frag) (C : Addr) : Sp := fun vs H Q _ => ∃ (a o : Addr) (xs hs fs : List Str), vs = [.ref a, .ref o] ∧ SqT K H a (xs.map V.str) ∧ xs.length ≤ 1000 ∧ CondAt K C H o hs fs ∧ ∀ H' p, Same H H' → SqT K H' p [.int (bitsOf xs hs), .int (bitsOf xs fs)] → Q (.ref p) H'
theorem ok_cube_of {f : Addr} {fd : FuncData} (F : Fun K "cube_of" "cube_of" s_cube_of f fd) (B : Blt mg) (kK : CondG P w K mg base C) (c_bits_of : Cal P w K mg base CX0 1 "bits_of" ["facts", "names"] (sp_bits_of K)) : FnOk P w K mg base CX0 3 f fd ["facts", "condition"] (sp_cube_of K C) := by
  refine F.ok sc_cube_of (fun vs H Q E h => by obtain ⟨a, o, xs, hs, fs, rfl, _⟩ := h; rfl) (fun cdv A outer s H vs Q E hr h => ?_)
  obtain ⟨a, o, xs, hs, fs, rfl, hS, hl, hC, q⟩ := h
  refine ⟨_, (pss_one (ps_ret (pe_tup (pa_cons (pe_cal c_bits_of (hr.mono (by decide)) (pa_cons (pv 0) (pa_cons (pe_cprop kK.holding kK.cls (hr.mono (by decide)) (pv 1)) pa_nil))) (pa_cons (pe_cal c_bits_of (hr.mono (by decide)) (pa_cons (pv 0) (pa_cons (pe_cprop kK.failing kK.cls (hr.mono (by decide)) (pv 1)) pa_nil))) pa_nil))))), ?_⟩
  obtain ⟨dx, ca, cb, cn, zs, ho, hca, hcb, _⟩ := hC.at_
  refine ⟨_, rfl, _, rfl, o, dx, _, rfl, ho, o, dx, _, _, rfl, ho, rfl, a, ca, xs, hs, rfl, hS, hca, hl, fun H1 s1 => ?_⟩
  refine ⟨_, rfl, _, rfl, o, dx, _, rfl, s1 _ _ ho, o, dx, _, _, rfl, s1 _ _ ho, rfl, a, cb, xs, fs, rfl, s1.tup hS, s1.tup hcb, hl, fun H2 s2 => ?_⟩
  exact ⟨(by show 2 ≤ sizeLine; decide), fun p np => q _ p ((s1.trans s2).trans ((Same.refl H2).put np)) sqT_new⟩
def sp_clash (K : PySem.W.Frag) : Sp := fun vs H Q _ => ∃ (a b : Addr) (x y u v : Int), vs = [.ref a, .ref b] ∧ SqT K H a [.int x, .int y] ∧ SqT K H b [.int u, .int v] ∧ Q (.bl (decide (Builtin.bitAnd x v ≠ 0) || decide (Builtin.bitAnd y u ≠ 0))) H
theorem ok_clash {f : Addr} {fd : FuncData} (F : Fun K "clash" "clash" s_clash f fd) (B : Blt mg) : FnOk P w K mg base CX0 1 f fd ["cube", "other"] (sp_clash K) := by
  refine F.ok sc_clash (fun vs H Q E h => by obtain ⟨a, b, x, y, u, v, rfl, _⟩ := h; rfl) (fun cdv A outer s H vs Q E hr h => ?_)
  obtain ⟨a, b, x, y, u, v, rfl, hA, hB, q⟩ := h
  refine ⟨_, (pss_one (ps_ret (pe_or (pe_cmpR op_ne (pe_op op_and (pe_ix ix_tup (pv 0) pe_int (fun _ _ => rfl)) (pe_ix ix_tup (pv 1) pe_int (fun _ _ => rfl))) pe_int (nomark _)) (pe_one (pe_cmpR op_ne (pe_op op_and (pe_ix ix_tup (pv 0) pe_int (fun _ _ => rfl)) (pe_ix ix_tup (pv 1) pe_int (fun _ _ => rfl))) pe_int (nomark _)))))), ?_⟩
  have z : ∀ n : Int, (!decide (V.int n = V.int 0)) = decide (n ≠ 0) := fun n => by rw [dec_int]; by_cases h : n = 0 <;> simp [h]
  refine ⟨_, rfl, a, _, 0, _, rfl, rfl, hA, atI_nat (j := 0) rfl, _, rfl, b, _, 1, _, rfl, rfl, hB, atI_nat (j := 1) rfl, _, _, rfl, rfl, rfl, _, rfl, ?_⟩
  rw [z]
  cases e : decide (Builtin.bitAnd x v ≠ 0) with
  | true =>
    rw [e] at q
    exact q
  | false =>
    rw [e] at q
    refine iteF ?_
    refine ⟨_, rfl, a, _, 1, _, rfl, rfl, hA, atI_nat (j := 1) rfl, _, rfl, b, _, 0, _, rfl, rfl, hB, atI_nat (j := 0) rfl, _, _, rfl, rfl, rfl, ?_⟩
    rw [z]
    exact q
end
end Sc
namespace Sc
open PySem PySem.Spec PyProof.Rows L2
section
variable {X : Cx} {CX : CXT} {k : Nat} {C g : Addr} {fd : FuncData} {ps : List Str} {sp : Sp} {E : XK}
/-- x in o, o of the class at C with its own __contains__ at g -/
def rInO (C : Addr) (sp : Sp) (E : XK) (neg : Bool) : R2 := fun x y H Q => ∃ (a dx : Addr) (fs : List (Str × V)), y = .ref a ∧ H a = some (.ins C dx fs) ∧ sp [y, x] H (fun v H' => ∃ b, v = .bl b ∧ Q (.bl (if neg then !b else b)) H') E
theorem op_inO (hs : PySem.W.findIn X.K (.ref C) "__contains__" = some (some (.ref g))) (hf : PySem.W.isFn X.K (.ref g) = true) (F : FnOk X.prog X.w X.K X.mg X.base CX k g fd ps sp) (hr : Room k X.A) (hb : Binds X.K fd ps []) (hx : Passes CX X E) : OpR X (compareOp .In) (rInO C sp E false) := by
  intro pins s σ H x y v u Q I rx ry h
  obtain ⟨a, dx, fs, rfl, ha, q⟩ := h
  cases (show u = Value.ref a from ry)
  obtain ⟨mA, O, _⟩ := ins_get I.hok ha
  obtain ⟨od, J, _⟩ := O.look
  obtain ⟨m, hF⟩ := I.fr
  refine PySem.W.in_K hF I.ok.mod.kin J hs hf ?_
  refine wpAny_mono (run_fn (us := [.ref a, v]) (vs := [.ref a, x]) (dvs := []) F hr hb .nil hx I (.cons rfl (.cons rx .nil)) q) (fun w s' z => ?_) fun _ _ x => x
  obtain ⟨z', H', I', rz, b, rfl, qz⟩ := z
  cases rz
  exact wpAny_pure ⟨.bl b, H', I', rfl, qz⟩
theorem op_ninO (hs : PySem.W.findIn X.K (.ref C) "__contains__" = some (some (.ref g))) (hf : PySem.W.isFn X.K (.ref g) = true) (F : FnOk X.prog X.w X.K X.mg X.base CX k g fd ps sp) (hr : Room k X.A) (hb : Binds X.K fd ps []) (hx : Passes CX X E) : OpR X (compareOp .NotIn) (rInO C sp E true) := by
  intro pins s σ H x y v u Q I rx ry h
  obtain ⟨a, dx, fs, rfl, ha, q⟩ := h
  cases (show u = Value.ref a from ry)
  obtain ⟨mA, O, _⟩ := ins_get I.hok ha
  obtain ⟨od, J, _⟩ := O.look
  obtain ⟨m, hF⟩ := I.fr
  refine PySem.W.notIn_K hF I.ok.mod.kin J hs hf ?_
  refine wpAny_mono (run_fn (us := [.ref a, v]) (vs := [.ref a, x]) (dvs := []) F hr hb .nil hx I (.cons rfl (.cons rx .nil)) q) (fun w s' z => ?_) fun _ _ x => x
  obtain ⟨z', H', I', rz, b, rfl, qz⟩ := z
  cases rz
  exact wpAny_pure ⟨.bl (!b), H', I', rfl, qz⟩
/-- o[k], o of the class at C with its own __getitem__ at g -/
def rIxO (C : Addr) (sp : Sp) (E : XK) : R2 := fun x y H Q => ∃ (a dx : Addr) (fs : List (Str × V)), x = .ref a ∧ H a = some (.ins C dx fs) ∧ sp [x, y] H Q E
theorem pe_ixO {a b : Expr} {pos : Pos} {ta tb : TE} (hs : PySem.W.findIn X.K (.ref C) "__getitem__" = some (some (.ref g))) (hfn : PySem.W.fnIn X.K g = true) (hf : PySem.W.isFn X.K (.ref g) = true) (F : FnOk X.prog X.w X.K X.mg X.base CX k g fd ps sp) (hr : Room (k + 1) X.A) (hbd : Binds X.K fd ps []) (hx : Passes CX X E)
    (ha : PE X a ta) (hb : PE X b tb) (hsl : ∀ v u, subscripted b true v u = runValue (.builtin "lifetime.subscript" ⟨[v, u], []⟩)) : PE X (.Subscript a b pos) (tOp (rIxO C sp E) ta tb) := by
  refine ⟨fun pins s σ H Q I h => ?_⟩
  refine Subscript_ (binT ha hb I h fun v u s2 x y H2 I2 rx ry q => ?_)
  obtain ⟨o, dx, fs, rfl, ho, q⟩ := q
  cases (show v = Value.ref o from rx)
  obtain ⟨mA, O, _⟩ := ins_get I2.hok ho
  obtain ⟨od, J, _⟩ := O.look
  obtain ⟨m, hF⟩ := I2.fr
  refine PySem.W.sub_K hF I2.ok.mod.kin J hs hfn hf ?_ (hsl _ _)
  have hl : ([Value.ref o, u] ++ ([] : List Value)).length = ps.length := F.len _ _ _ _ q
  refine wpAny_call (codeAny_mono (F.run X.A.in1 X.stack s2 H2 ⟨[.ref o, u], []⟩ [.ref o, u] [.ref o, y] _ _ hr.in1 I2.env0.in1 (hbd s2 [.ref o, u] I2.kIn hl) (.cons rfl (.cons ry .nil)) q) fun r s' hq => ?_)
  cases r with
  | error e => exact hx pins σ H2 s2 e s' I2 hq
  | ok fl =>
    cases fl with
    | ret w =>
      obtain ⟨v, H', I', rv, qz⟩ := I2.after hq
      exact ⟨v, H', I', rv, qz⟩
    | next => exact hq.elim
    | brk => exact hq.elim
    | cont => exact hq.elim
/-- o op x, o of the class at C with its own method, x a text -/
def rBinS (C : Addr) (sp : Sp) (E : XK) : R2 := fun x y H Q => ∃ (a dx : Addr) (fs : List (Str × V)) (z : Str), x = .ref a ∧ y = .str z ∧ H a = some (.ins C dx fs) ∧ sp [x, y] H Q E
theorem op_binS {op : Operator} {fo ro rc : Option Value} (hc : PySem.W.selfFirst X.K C = true) (hs : PySem.W.findIn X.K (.ref C) (PySem.dunder op.info.2) = some (some (.ref g))) (hf : PySem.W.isFn X.K (.ref g) = true)
    (hR : PySem.W.findIn X.K (.ref C) (dunderR op.info.2) = some rc) (hp : rc = none ∨ ∃ g : Addr, rc = some (.ref g)) (h1 : PySem.W.findIn X.K (.type "str") (PySem.dunder op.info.2) = some fo) (h2 : PySem.W.findIn X.K (.type "str") (dunderR op.info.2) = some ro)
    (hsub : PySem.W.subIn X.K (.type "str") (.ref C) = some false) (F : FnOk X.prog X.w X.K X.mg X.base CX k g fd ps sp) (hr : Room k X.A) (hb : Binds X.K fd ps []) (hx : Passes CX X E) : OpR X (binaryOp op) (rBinS C sp E) := by
  intro pins s σ H x y v u Q I rx ry h
  obtain ⟨a, dx, fs, z, rfl, rfl, ha, q⟩ := h
  cases (show v = Value.ref a from rx)
  obtain ⟨t, rfl⟩ := (show ∃ t, u = Value.str z t from ry)
  obtain ⟨mA, O, _⟩ := ins_get I.hok ha
  obtain ⟨od, J, _⟩ := O.look
  obtain ⟨m, hF⟩ := I.fr
  refine PySem.W.ksp_binT (T := "str") hF I.ok.mod.kin J rfl hc hs hf hR hp h1 h2 hsub ?_
  refine wpAny_mono (run_fn (us := [.ref a, .str z t]) (vs := [.ref a, .str z]) (dvs := []) F hr hb .nil hx I (.cons rfl (.cons ⟨t, rfl⟩ .nil)) q) (fun w s' z => ?_) fun _ _ x => x
  obtain ⟨z', H', I', rz, qz⟩ := z
  exact SlX.cmpback rz ⟨z', H', I', rz, qz⟩
end
end Sc
namespace Sc
open PySem PySem.Spec PyProof.Rows L2
/-- a def that keeps two promises keeps either -/
theorem _root_.L2.FnOk.either {P : Program} {w : World} {K : PySem.W.Frag} {mg : Str → Option Value} {base : Heap} {CX : CXT} {k : Nat} {f : Addr} {fd : FuncData} {ps : List Str} {sp sp' : Sp} (F : FnOk P w K mg base CX k f fd ps sp) (G : FnOk P w K mg base CX k f fd ps sp') :
    FnOk P w K mg base CX k f fd ps (fun vs H Q E => sp vs H Q E ∨ sp' vs H Q E) :=
  ⟨fun vs H Q E h => h.elim (F.len vs H Q E) (G.len vs H Q E), fun A outer s H args us vs Q E hr e b v h => h.elim (F.run A outer s H args us vs Q E hr e b v) (G.run A outer s H args us vs Q E hr e b v)⟩
section
variable {X : Cx}
theorem op_or {f : Value → Value → Sem Value} {r r' : R2} (h : OpR X f r) (h' : OpR X f r') : OpR X f (fun x y H Q => r x y H Q ∨ r' x y H Q) :=
  fun pins s σ H x y v u Q I rx ry q => q.elim (h pins s σ H x y v u Q I rx ry) (h' pins s σ H x y v u Q I rx ry)
/-- a tuple in a tuple of texts: no -/
def rInNo (K : PySem.W.Frag) (neg : Bool) : R2 := fun x y H Q => ∃ (a p : Addr) (ys : List V) (xs : List Str), x = .ref a ∧ y = .ref p ∧ SqT K H a ys ∧ SqT K H p (xs.map V.str) ∧ Q (.bl neg) H
theorem any_no : ∀ xs : List Value, xs.any (fun _ => false) = false
  | [] => rfl
  | _ :: r => by rw [List.any_cons, any_no r]; rfl
theorem strs_of : ∀ {xs : List Str} {us : List Value}, Vals (xs.map V.str) us → ∀ w ∈ us, ∃ z t, w = Value.str z t
  | [], _, .nil => fun w hw => by cases hw
  | x :: r, u :: us, .cons h t => fun w hw => by
    obtain ⟨tk, rfl⟩ := (show ∃ tk, u = Value.str x tk from h)
    rcases List.mem_cons.mp hw with rfl | hw
    · exact ⟨_, _, rfl⟩
    · exact strs_of t w hw
theorem op_in_no (hu : X.A.units + 64 < cLine) : OpR X (compareOp .In) (rInNo X.K false) := by
  intro pins s σ H x y v u Q I rx ry h
  obtain ⟨a, p, ys, xs, rfl, rfl, ha, hp, q⟩ := h
  cases rx
  cases ry
  obtain ⟨its, r, pl, hz⟩ := I.tuple hp
  obtain ⟨its2, r2, pl2, _⟩ := I.tuple ha
  refine SeqAt.in_tupleAt (fun _ => false) pl (fun w hw => ?_) ⟨.bl _, H, I, rfl, ?_⟩
  · obtain ⟨z, t, rfl⟩ := strs_of r w (by simpa using hw)
    exact SeqAt.EqAt.str_tuple z t pl2 (by show X.A.units + 1 < cLine; omega)
  · rw [show its.toArray.any (fun _ => false) = its.any (fun _ => false) by simp, any_no]
    exact q
theorem op_nin_no (hu : X.A.units + 64 < cLine) : OpR X (compareOp .NotIn) (rInNo X.K true) := by
  intro pins s σ H x y v u Q I rx ry h
  obtain ⟨a, p, ys, xs, rfl, rfl, ha, hp, q⟩ := h
  cases rx
  cases ry
  obtain ⟨its, r, pl, hz⟩ := I.tuple hp
  obtain ⟨its2, r2, pl2, _⟩ := I.tuple ha
  refine SeqAt.notIn_tupleAt (fun _ => false) pl (fun w hw => ?_) ⟨.bl _, H, I, rfl, ?_⟩
  · obtain ⟨z, t, rfl⟩ := strs_of r w (by simpa using hw)
    exact SeqAt.EqAt.str_tuple z t pl2 (by show X.A.units + 1 < cLine; omega)
  · rw [show its.toArray.any (fun _ => false) = its.any (fun _ => false) by simp, any_no]
    exact q
end
end Sc
namespace Sc
open PySem PySem.Spec PyProof.Rows L2
/-- a method that the class at C has of its own, as the operators find it -/
structure MethO (P : Program) (w : World) (K : PySem.W.Frag) (mg : Str → Option Value) (base : Heap) (CX : CXT) (k : Nat) (C : Addr) (n : Str) (ps : List Str) (sp : Sp) : Prop where
  ex : ∃ (g : Addr) (fd : FuncData), PySem.W.findIn K (.ref C) n = some (some (.ref g)) ∧ PySem.W.isFn K (.ref g) = true ∧ PySem.W.fnIn K g = true ∧ FnOk P w K mg base CX k g fd ps sp ∧ Binds K fd ps []
/-- what an operator against a text asks of the class besides -/
structure BinT (K : PySem.W.Frag) (C : Addr) (op : Operator) : Prop where
  first : PySem.W.selfFirst K C = true
  right : ∃ rc, PySem.W.findIn K (.ref C) (dunderR op.info.2) = some rc ∧ (rc = none ∨ ∃ g : Addr, rc = some (.ref g))
  t1 : ∃ fo, PySem.W.findIn K (.type "str") (PySem.dunder op.info.2) = some fo
  t2 : ∃ ro, PySem.W.findIn K (.type "str") (dunderR op.info.2) = some ro
  sub : PySem.W.subIn K (.type "str") (.ref C) = some false
section
variable {X : Cx} {k : Nat} {C : Addr} {ps : List Str} {sp : Sp} {E : XK}
theorem op_inM (M : MethO X.prog X.w X.K X.mg X.base CX0 k C "__contains__" ps sp) (hr : Room k X.A) : OpR X (compareOp .In) (rInO C sp E0 false) := by
  obtain ⟨g, fd, h1, h2, _, F, hb⟩ := M.ex
  exact op_inO h1 h2 F hr hb pass0
theorem op_ninM (M : MethO X.prog X.w X.K X.mg X.base CX0 k C "__contains__" ps sp) (hr : Room k X.A) : OpR X (compareOp .NotIn) (rInO C sp E0 true) := by
  obtain ⟨g, fd, h1, h2, _, F, hb⟩ := M.ex
  exact op_ninO h1 h2 F hr hb pass0
theorem pe_ixM {a b : Expr} {pos : Pos} {ta tb : TE} (M : MethO X.prog X.w X.K X.mg X.base (L2.CX X.prog X.w) k C "__getitem__" ps sp) (hr : Room (k + 1) X.A) (tk : Takes X (fun cls d _ H => E cls d H)) (ha : PE X a ta) (hb : PE X b tb)
    (hsl : ∀ v u, subscripted b true v u = runValue (.builtin "lifetime.subscript" ⟨[v, u], []⟩)) : PE X (.Subscript a b pos) (tOp (rIxO C sp E) ta tb) := by
  obtain ⟨g, fd, h1, h2, h3, F, hbd⟩ := M.ex
  exact pe_ixO h1 h3 h2 F hr hbd (fun pins σ H s e s' I h => passAt tk σ pins H s e s' I h) ha hb hsl
theorem op_subM {op : Operator} {n : Str} (M : MethO X.prog X.w X.K X.mg X.base (L2.CX X.prog X.w) k C n ps sp) (T : BinT X.K C op) (en : n = PySem.dunder op.info.2) (hr : Room k X.A) (tk : Takes X (fun cls d _ H => E cls d H)) : OpR X (binaryOp op) (rBinS C sp E) := by
  subst en
  obtain ⟨g, fd, h1, h2, h3, F, hbd⟩ := M.ex
  obtain ⟨rc, r1, r2⟩ := T.right
  obtain ⟨fo, f1⟩ := T.t1
  obtain ⟨ro, f2⟩ := T.t2
  exact op_binS T.first h1 h2 r1 r2 f1 f2 T.sub F hr hbd (fun pins σ H s e s' I h => passAt tk σ pins H s e s' I h)
end
end Sc
namespace Sc
open PySem PySem.Spec PyProof.Rows L2
/-! ### how rules are read -/
theorem sc_up_to_first_met : FnScope ["rules", "case", "looked", "rule", "condition", "met"] ["rules", "case"] (defScope s_up_to_first_met) := ⟨rfl, rfl, rfl, by decide +kernel, rfl, by decide +kernel, by decide +kernel⟩
theorem sc_steps : FnScope ["rules", "case", "looked", "rule", "met"] ["rules", "case"] (defScope s_steps) := ⟨rfl, rfl, rfl, by decide +kernel, rfl, by decide +kernel, by decide +kernel⟩
theorem sc_looked_into : FnScope ["rules", "case", "rule", "met"] ["rules", "case"] (defScope s_looked_into) := ⟨rfl, rfl, rfl, by decide +kernel, rfl, by decide +kernel, by decide +kernel⟩
/-- is a rule met -/
abbrev Nd.met (cs : List Str) (n : Nd) : Bool := meets n.hs n.fs cs
def uptoL (cs : List Str) : List Nd → List (Nd × Bool)
  | [] => []
  | n :: r => if n.met cs = true then [(n, true)] else (n, false) :: uptoL cs r
theorem uptoL_end {cs : List Str} : ∀ {l : List Nd}, (∀ n ∈ l, n.met cs = false) → uptoL cs l = l.map fun n => (n, false)
  | [], _ => rfl
  | n :: r, h => by
    show (if n.met cs = true then _ else _) = _
    rw [if_neg (by rw [h n List.mem_cons_self]; exact Bool.false_ne_true), uptoL_end fun m hm => h m (List.mem_cons_of_mem _ hm)]
    rfl
theorem uptoL_hit {cs : List Str} : ∀ {l : List Nd} {i : Nat} {n : Nd}, l[i]? = some n → n.met cs = true → (∀ m ∈ l.take i, m.met cs = false) → uptoL cs l = ((l.take i).map fun n => (n, false)) ++ [(n, true)]
  | m :: r, 0, n, hi, hm, _ => by
    cases hi
    show (if _ then _ else _) = _
    rw [if_pos hm]
    rfl
  | m :: r, i + 1, n, hi, hm, h => by
    show (if m.met cs = true then _ else _) = _
    rw [if_neg (by rw [h m (by rw [List.take_succ_cons]; exact List.mem_cons_self)]; exact Bool.false_ne_true), uptoL_hit (l := r) (i := i) (by simpa using hi) hm fun x hx => h x (by rw [List.take_succ_cons]; exact List.mem_cons_of_mem _ hx)]
    rw [List.take_succ_cons]
    rfl
theorem uptoL_len {cs : List Str} : ∀ l : List Nd, (uptoL cs l).length ≤ l.length
  | [] => Nat.le_refl _
  | n :: r => by
    show (if n.met cs = true then _ else _ : List (Nd × Bool)).length ≤ _
    split
    · show 1 ≤ r.length + 1; omega
    · show (uptoL cs r).length + 1 ≤ r.length + 1; have := uptoL_len (cs := cs) r; omega
theorem uptoL_mem {cs : List Str} : ∀ {l : List Nd} {q : Nd × Bool}, q ∈ uptoL cs l → q.1 ∈ l
  | n :: r, q, h => by
    have h : q ∈ (if n.met cs = true then [(n, true)] else (n, false) :: uptoL cs r) := h
    split at h
    · rw [List.mem_singleton.mp h]; exact List.mem_cons_self
    · rcases List.mem_cons.mp h with rfl | h
      · exact List.mem_cons_self
      · exact List.mem_cons_of_mem _ (uptoL_mem h)
theorem uptoL_ne {cs : List Str} : ∀ {l : List Nd}, l ≠ [] → uptoL cs l ≠ []
  | [], h => absurd rfl h
  | n :: r, _ => by
    show (if n.met cs = true then _ else _ : List (Nd × Bool)) ≠ []
    split <;> exact List.cons_ne_nil _ _
namespace RF
/-- the rules beside each other that are looked at -/
def upto (cs : List Str) (f : RF) : List (Nd × Bool) := uptoL cs f.nodes
/-- all rules that are looked at -/
def steps (cs : List Str) : RF → List (Nd × Bool)
  | .nil => []
  | .cons nm hs fs rl exc rest => if meets hs fs cs = true then (⟨nm, hs, fs, rl, exc⟩, true) :: exc.steps cs else (⟨nm, hs, fs, rl, exc⟩, false) :: rest.steps cs
/-- the rules that are looked into -/
def way (cs : List Str) : RF → List Nd
  | .nil => []
  | .cons nm hs fs rl exc rest => if meets hs fs cs = true then ⟨nm, hs, fs, rl, exc⟩ :: exc.way cs else rest.way cs
/-- the rules behind those that are looked at -/
def next (cs : List Str) (f : RF) : RF := match (f.upto cs).getLast? with
  | some (n, true) => n.exc
  | _ => .nil
theorem steps_upto (cs : List Str) : ∀ f : RF, f.steps cs = f.upto cs ++ (f.next cs).steps cs
  | .nil => rfl
  | .cons nm hs fs rl exc rest => by
    have ih := steps_upto cs rest
    unfold next upto at ih ⊢
    show (if meets hs fs cs = true then _ else _) = (if meets hs fs cs = true then _ else _ : List (Nd × Bool)) ++ _
    have e : uptoL cs (RF.cons nm hs fs rl exc rest).nodes = if meets hs fs cs = true then [(⟨nm, hs, fs, rl, exc⟩, true)] else (⟨nm, hs, fs, rl, exc⟩, false) :: uptoL cs rest.nodes := rfl
    rw [e]
    by_cases h : meets hs fs cs = true
    · rw [if_pos h, if_pos h]
      rfl
    · rw [if_neg h, if_neg h, ih, List.cons_append]
      cases h2 : uptoL cs rest.nodes with
      | nil => rfl
      | cons q r => rw [List.getLast?_cons_cons]
theorem next_of {cs : List Str} {f : RF} {qs : List (Nd × Bool)} {q : Nd × Bool} (h : f.upto cs = qs ++ [q]) : f.next cs = if q.2 = true then q.1.exc else .nil := by
  unfold next
  rw [h, List.getLast?_concat]
  obtain ⟨n, b⟩ := q
  cases b <;> rfl
theorem dep_pos : ∀ {f : RF}, f ≠ .nil → 1 ≤ f.dep
  | .nil, h => absurd rfl h
  | .cons nm hs fs rl exc rest, _ => by
    show 1 ≤ max (exc.dep + 1) rest.dep
    omega
theorem nodes_ne : ∀ {f : RF}, f ≠ .nil → f.nodes ≠ []
  | .nil, h => absurd rfl h
  | .cons nm hs fs rl exc rest, _ => List.cons_ne_nil _ _
theorem steps_way (cs : List Str) : ∀ f : RF, ((f.steps cs).filter fun q => q.2).map (fun q => q.1) = f.way cs
  | .nil => rfl
  | .cons nm hs fs rl exc rest => by
    have h1 := steps_way cs exc
    have h2 := steps_way cs rest
    unfold steps way
    by_cases h : meets hs fs cs = true
    · rw [if_pos h, if_pos h, List.filter_cons_of_pos rfl, List.map_cons, h1]
    · rw [if_neg h, if_neg h, List.filter_cons_of_neg Bool.false_ne_true, h2]
theorem steps_size (cs : List Str) : ∀ f : RF, (f.steps cs).length ≤ f.size
  | .nil => Nat.le_refl _
  | .cons nm hs fs rl exc rest => by
    have h1 := steps_size cs exc
    have h2 := steps_size cs rest
    unfold steps
    show _ ≤ exc.size + 1 + rest.size
    split
    · rw [List.length_cons]; omega
    · rw [List.length_cons]; omega
theorem way_dep (cs : List Str) : ∀ f : RF, (f.way cs).length ≤ f.dep
  | .nil => Nat.le_refl _
  | .cons nm hs fs rl exc rest => by
    have h1 := way_dep cs exc
    have h2 := way_dep cs rest
    unfold way
    show _ ≤ max (exc.dep + 1) rest.dep
    split
    · rw [List.length_cons]; omega
    · omega
theorem way_every {p : Nd → Prop} (cs : List Str) : ∀ {f : RF}, f.every p → ∀ n ∈ f.way cs, p n
  | .nil, _, n, h => nomatch h
  | .cons nm hs fs rl exc rest, hp, n, h => by
    unfold way at h
    split at h
    · rcases List.mem_cons.mp h with rfl | h
      · exact hp.1
      · exact way_every cs hp.2.1 n h
    · exact way_every cs hp.2.2 n h
end RF
section
variable {P : Program} {w : World} {K : PySem.W.Frag} {mg : Str → Option Value} {base : Heap} {C R : Addr}
/-- the class Condition, with its call -/
structure CondW (P : Program) (w : World) (K : PySem.W.Frag) (mg : Str → Option Value) (base : Heap) (C : Addr) : Prop extends CondG P w K mg base C where
  call : MethO P w K mg base CX0 1 C "__call__" ["self", "case"] (sp_ccall K C)
theorem pe_cK {X : Cx} {C : Addr} {te : TE} {t : TA} {x : Str} {e : Expr} {es : List Expr} {p pos : Pos} (M : CondW X.prog X.w X.K X.mg X.base C) (hr : Room 1 X.A) (ho : PE X (.Name x p) te) (ha : PA X (e :: es) t)
    (he : starEach (e :: es) X.env = (false, eval e X.env) :: starEach es X.env := by rfl) (hpl : (backTo pos (starEach es X.env)).any (·.1) = false := by rfl) : PE X (.Call (.Name x p) (e :: es) [] pos) (tCallO C (sp_ccall X.K C) E0 te t) := by
  obtain ⟨g, fd, h1, h2, h3, F, hb⟩ := M.call.ex
  exact pe_callO h1 h2 h3 F hr hb pass0 ho ha he hpl
/-- a rule, and whether it is met, in a tuple -/
def StepAt (K : PySem.W.Frag) (C R : Addr) (N : Addr → Prop) (H : Hp) (v : V) (q : Nd × Bool) : Prop := ∃ t o, v = .ref t ∧ H t = some (.tup [.ref o, .bl q.2]) ∧ NdAt K C R N H o q.1
theorem StepAt.keeps {N : Addr → Prop} {H H' : Hp} {v : V} {q : Nd × Bool} (h : StepAt K C R N H v q) (k : Keeps N H H') : StepAt K C R N H' v q := by
  obtain ⟨t, o, e, h1, h2⟩ := h
  exact ⟨t, o, e, k _ _ stays_tup h1, h2.keeps k⟩
theorem StepAt.re {N M : Addr → Prop} {H : Hp} (g : ∀ b xs, N b → H b = some (.lst xs) → M b) {v : V} {q : Nd × Bool} (h : StepAt K C R N H v q) : StepAt K C R M H v q := by
  obtain ⟨t, o, e, h1, h2⟩ := h
  exact ⟨t, o, e, h1, h2.re g⟩
def sp_upto (K : PySem.W.Frag) (C R : Addr) : Sp := fun vs H Q _ => ∃ (N : Addr → Prop) (p c : Addr) (cs : List Str) (ws : List V) (f : RF), vs = [.ref p, .ref c] ∧ SqT K H p ws ∧ ForAt K C R N H f ws ∧ SqT K H c (cs.map V.str) ∧ f.size ≤ 900 ∧ f.every NdOk ∧
  ∀ H' D us, Same H H' → H' D = some (.lst us) → All2 (StepAt K C R N H') us (f.upto cs) → Q (.ref D) H'
theorem ok_upto {f : Addr} {fd : FuncData} (F : Fun K "up_to_first_met" "up_to_first_met" s_up_to_first_met f fd) (Bl : Blt mg) (kR : RuleX P w K mg base R) (kK : CondW P w K mg base C) :
    FnOk P w K mg base CX0 6 f fd ["rules", "case"] (sp_upto K C R) := by
  refine F.ok sc_up_to_first_met (fun vs H Q E h => by obtain ⟨N, p, c, cs, ws, f, rfl, _⟩ := h; rfl) (fun cdv A outer s H vs Q E hr h => ?_)
  obtain ⟨N, p, c, cs, ws, f, rfl, hP, hF, hC, hz, hev, q⟩ := h
  refine ⟨_, (pss_cons (ps_set (i := 2) sc_up_to_first_met.nd rfl (Or.inl rfl) (pe_lst pa_nil))
      (pss_cons (ps_for PassesOwn.never rfl (pi_tup (pv 0)) (pg_name (i := 3) sc_up_to_first_met.nd rfl (Or.inl rfl)) (pss_cons (ps_set (i := 4) sc_up_to_first_met.nd rfl (Or.inl rfl) (pe_cprop kR.condition kR.cls (hr.mono (by decide)) (pv 3)))
      (pss_cons (ps_set (i := 5) sc_up_to_first_met.nd rfl (Or.inl rfl) (pe_cK kK (hr.mono (by decide)) (pv 4) (pa_cons (pv 1) pa_nil)))
      (pss_cons (ps_expr (pe_bm PySem.F.plainAttrs_list PySem.F.slot_list_append PySem.F.type_list_append mt_append (pv 2) (pa_cons (pe_tup (pa_cons (pv 3) (pa_cons (pv 5) pa_nil))) pa_nil)))
      (pss_one (ps_if (pt_val (pv 5)) (pss_one ps_break) pss_nil))))))
      (pss_one (ps_ret (pv 2))))), ?_⟩
  have hA := hF.used.all
  have hln := hA.len
  have hlz := RF.nodes_le f
  refine ⟨Nat.zero_le _, fun D nD => ⟨_, rfl, p, rfl, ⟨_, ((Same.refl H).put nD).tup hP⟩, for_it walk_tup (fun i σ H' => ∃ (us : List V) (y3 y4 y5 : Option V), σ = [some (.ref p), some (.ref c), some (.ref D), y3, y4, y5] ∧ Same H H' ∧ H' D = some (.lst us) ∧ All2 (StepAt K C R (Used N H) H') us ((f.nodes.take i).map fun n => (n, false)) ∧ ∀ m ∈ f.nodes.take i, m.met cs = false)
    ⟨[], none, none, none, rfl, (Same.refl H).put nD, upd_same, .nil, fun m hm => nomatch hm⟩ (fun _ _ _ _ ⟨_, _, _, _, _, s, _⟩ => s.tup hP) ?_ ?_⟩⟩
  · rintro i y σ H3 H2 hi ⟨us, y3, y4, y5, rfl, s, e, hu, hno⟩ ⟨rfl, hy⟩
    have nU := used_not (N := N) nD
    obtain ⟨n, hn, o, rfl, hN⟩ := hA.get hy
    have hmem : n ∈ f.nodes := List.mem_of_getElem? hn
    obtain ⟨hok, hne⟩ := RF.every_nodes.mp hev n hmem
    have hlen := hok.len
    have hul := hu.len
    rw [List.length_map, List.length_take] at hul
    have hN2 := hN.keeps (N := Used N H) s.keeps
    obtain ⟨dx, k, pe, l, ws', ho, hc, hpe, hl, hfe⟩ := id hN2
    obtain ⟨dxk, hk⟩ : ∃ (dxk : Addr) (fk : _), H2 k = some (.ins C dxk fk) := by obtain ⟨dxk, _, _, _, _, hk, _⟩ := id hc; exact ⟨_, _, hk⟩
    obtain ⟨fk, hk⟩ := hk
    refine ⟨_, rfl, o, dx, _, rfl, ho, ⟨o, dx, _, _, rfl, ho, rfl, ?_⟩⟩
    refine ⟨_, rfl, k, rfl, _, rfl, ⟨dxk, _, hk⟩, k, c, n.hs, n.fs, cs, rfl, hc, s.tup hC, by omega, by omega, fun H4 s4 => ?_⟩
    have s04 := s.trans s4
    refine ⟨_, rfl, .inl ⟨rfl, _, sqL_of (s4 _ _ e)⟩, _, rfl, _, rfl, (by show 2 ≤ sizeLine; decide), fun t nt => ?_⟩
    have s5 : Same H4 (upd H4 t (.tup [.ref o, .bl (n.met cs)])) := (Same.refl H4).put nt
    have t5 : (upd H4 t (.tup [.ref o, .bl (n.met cs)])) t = some (.tup [.ref o, .bl (n.met cs)]) := upd_same
    generalize upd H4 t (.tup [.ref o, .bl (n.met cs)]) = H5 at s5 t5 ⊢
    have s45 := s4.trans s5
    have e5 := s45 _ _ e
    refine ⟨D, _, _, rfl, rfl, e5, small1000 (by omega), ?_⟩
    have s06 : Same H (upd H5 D (.lst (us ++ [.ref t]))) := (s.trans s45).put nD
    have e6 : (upd H5 D (.lst (us ++ [.ref t]))) D = some (.lst (us ++ [.ref t])) := upd_same
    have tD : t ≠ D := fun z => by rw [z, e5] at t5; cases t5
    have hu6 : All2 (StepAt K C R (Used N H) (upd H5 D (.lst (us ++ [.ref t])))) (us ++ [.ref t]) (((f.nodes.take i).map fun n => (n, false)) ++ [(n, n.met cs)]) :=
      (hu.mono fun _ _ x => (x.keeps s45.keeps).keeps (keeps_own e5 nU)).snoc ⟨t, o, rfl, by rw [upd_ne tD]; exact t5, (hN2.keeps s45.keeps).keeps (keeps_own e5 nU)⟩
    generalize upd H5 D (.lst (us ++ [.ref t])) = H6 at s06 e6 hu6 ⊢
    refine ⟨_, rfl, _, rfl, bcase (fun c1 => ?_) (fun c1 => ?_)⟩
    · refine ⟨_, rfl, q H6 D _ s06 e6 ?_⟩
      unfold RF.upto
      rw [uptoL_hit hn c1 hno]
      have c1 : n.met cs = true := c1
      rw [c1] at hu6
      exact hu6.mono fun _ _ x => x.re fun b xs h _ => h.1
    · have c1 : n.met cs = false := c1
      rw [c1] at hu6
      refine ⟨_, _, _, _, rfl, s06, e6, ?_, ?_⟩
      · rw [take_more hn, List.map_append]
        exact hu6
      · rw [take_more hn]
        intro m hm
        rcases List.mem_append.mp hm with hm | hm
        · exact hno m hm
        · rw [List.mem_singleton.mp hm]; exact c1
  · rintro σ H2 ⟨us, y3, y4, y5, rfl, s, e, hu, hno⟩
    rw [hln, List.take_length] at hu hno
    refine ⟨_, rfl, q H2 D us s e ?_⟩
    unfold RF.upto
    rw [uptoL_end hno]
    exact hu.mono fun _ _ x => x.re fun b xs h _ => h.1
def sp_steps (K : PySem.W.Frag) (C R : Addr) : Sp := fun vs H Q _ => ∃ (N : Addr → Prop) (p c : Addr) (cs : List Str) (ws : List V) (f : RF), vs = [.ref p, .ref c] ∧ SqT K H p ws ∧ ForAt K C R N H f ws ∧ SqT K H c (cs.map V.str) ∧ f.size ≤ 900 ∧ f.every NdOk ∧
  ∀ H' D us, Same H H' → H' D = some (.lst us) → All2 (StepAt K C R N H') us (f.steps cs) → Q (.ref D) H'
theorem ok_steps {f : Addr} {fd : FuncData} (F : Fun K "steps" "steps" s_steps f fd) (Bl : Blt mg) (kR : RuleX P w K mg base R) (c_up_to_first_met : Cal P w K mg base CX0 6 "up_to_first_met" ["rules", "case"] (sp_upto K C R)) :
    FnOk P w K mg base CX0 8 f fd ["rules", "case"] (sp_steps K C R) := by
  refine F.ok sc_steps (fun vs H Q E h => by obtain ⟨N, p, c, cs, ws, f, rfl, _⟩ := h; rfl) (fun cdv A outer s H vs Q E hr h => ?_)
  obtain ⟨N, p, c, cs, ws, f, rfl, hP, hF, hC, hz, hev, q⟩ := h
  refine ⟨_, (pss_cons (ps_set (i := 2) sc_steps.nd rfl (Or.inl rfl) (pe_lst pa_nil))
      (pss_cons (ps_while PassesOwn.never (pt_tru (pv 0) (by intro _; rfl)) (pss_cons (ps_expr (pe_bm PySem.F.plainAttrs_list PySem.F.slot_list_extend PySem.F.type_list_extend mt_extend (pv 2) (pa_cons (pe_cal c_up_to_first_met (hr.mono (by decide)) (pa_cons (pv 0) (pa_cons (pv 1) pa_nil))) pa_nil)))
      (pss_cons (ps_asg (pe_ix ix_list (pv 2) (pe_un un_neg pe_int) (fun _ _ => rfl)) (pg_tup (by rfl) (pgs_cons (pg_name (i := 3) sc_steps.nd rfl (Or.inl rfl)) (pgs_cons (pg_name (i := 4) sc_steps.nd rfl (Or.inl rfl)) pgs_nil))))
      (pss_one (ps_set (i := 0) sc_steps.nd rfl (Or.inl rfl) (pe_ifExp (pt_val (pv 4)) (pe_cprop kR.exceptions kR.cls (hr.mono (by decide)) (pv 3)) (pe_tup pa_nil)))))))
      (pss_one (ps_ret (pv 2))))), ?_⟩
  have hmax := RF.steps_size cs f
  refine ⟨Nat.zero_le _, fun D nD => ⟨fun k σ H' => ∃ (g : RF) (p' : Addr) (ws us : List V) (acc : List (Nd × Bool)) (y3 y4 : Option V), k = g.dep ∧ σ = [some (.ref p'), some (.ref c), some (.ref D), y3, y4] ∧ Same H H' ∧ SqT K H' p' ws ∧ ForAt K C R (Used N H) H' g ws ∧ H' D = some (.lst us) ∧ All2 (StepAt K C R (Used N H) H') us acc ∧ f.steps cs = acc ++ g.steps cs ∧ g.size ≤ f.size ∧ g.every NdOk,
    ⟨_, f, p, ws, [], [], none, none, rfl, rfl, (Same.refl H).put nD, ((Same.refl H).put nD).tup hP, hF.used.keeps ((Same.refl H).put nD).keeps, upd_same, .nil, rfl, Nat.le_refl _, hev⟩, ?_⟩⟩
  have nU := used_not (N := N) nD
  rintro k σ H1 ⟨g, p', ws, us, acc, y3, y4, rfl, rfl, s, hP', hG, e, hu, hst, hsz, hgev⟩
  have hgl := hG.all.len
  refine ⟨_, rfl, _, .inr (.inl ⟨_, hP', rfl⟩), bcase (fun c1 => ?_) (fun c1 => ?_)⟩
  · have hg : g ≠ .nil := fun z => by
      subst z
      have hG : ws = [] := hG
      rw [hG] at c1
      cases c1
    have hne := uptoL_ne (cs := cs) (RF.nodes_ne hg)
    obtain ⟨qs, q', hq⟩ : ∃ qs q', g.upto cs = qs ++ [q'] := (List.eq_nil_or_concat (g.upto cs)).elim (fun z => absurd z hne) fun ⟨a, b, e⟩ => ⟨a, b, by rw [e, List.concat_eq_append]⟩
    have hmem : q'.1 ∈ g.nodes := uptoL_mem (cs := cs) (by show q' ∈ g.upto cs; rw [hq]; exact List.mem_append_right _ (List.mem_singleton.mpr rfl))
    have hdm := RF.dep_mem g q'.1 hmem
    have hsm := RF.size_mem g q'.1 hmem
    have hnx := RF.next_of hq
    have hsu := RF.steps_upto cs g
    have hslen : acc.length + (g.upto cs).length + ((g.next cs).steps cs).length = (f.steps cs).length := by rw [hst, hsu, List.length_append, List.length_append]; omega
    have hul := hu.len
    refine ⟨fun σ' H' => ∃ (g' : RF) (p2 : Addr) (ws2 us2 : List V) (acc2 : List (Nd × Bool)) (z3 z4 : Option V), g'.dep < g.dep ∧ σ' = [some (.ref p2), some (.ref c), some (.ref D), z3, z4] ∧ Same H H' ∧ SqT K H' p2 ws2 ∧ ForAt K C R (Used N H) H' g' ws2 ∧ H' D = some (.lst us2) ∧ All2 (StepAt K C R (Used N H) H') us2 acc2 ∧ f.steps cs = acc2 ++ g'.steps cs ∧ g'.size ≤ f.size ∧ g'.every NdOk,
      fun σ' H' ⟨g', p2, ws2, us2, acc2, z3, z4, lt, x⟩ => ⟨_, lt, g', p2, ws2, us2, acc2, z3, z4, rfl, x⟩, ?_⟩
    refine ⟨_, rfl, .inl ⟨rfl, _, sqL_of e⟩, _, rfl, _, rfl, Used N H, p', c, cs, ws, g, rfl, hP', hG, s.tup hC, by omega, hgev, fun H2 D2 us2 s2 e2 hu2 => ?_⟩
    have eD := s2 _ _ e
    have hul2 := hu2.len
    refine ⟨D, D2, _, _, rfl, rfl, eD, e2, by rw [sizeLine_eq]; omega, ?_⟩
    have s12 := s.trans s2
    have hk : Keeps (Used N H) H2 (upd H2 D (.lst (us ++ us2))) := keeps_own eD nU
    have s13 : Same H (upd H2 D (.lst (us ++ us2))) := s12.put nD
    have e3 : (upd H2 D (.lst (us ++ us2))) D = some (.lst (us ++ us2)) := upd_same
    have hu3 : All2 (StepAt K C R (Used N H) (upd H2 D (.lst (us ++ us2)))) (us ++ us2) (acc ++ g.upto cs) := (hu.mono fun _ _ x => (x.keeps s2.keeps).keeps hk).app (hu2.mono fun _ _ x => x.keeps hk)
    generalize upd H2 D (.lst (us ++ us2)) = H3 at s13 e3 hu3 ⊢
    rw [hq, List.length_append, List.length_singleton] at hul2
    obtain ⟨vs, v, hv⟩ : ∃ vs v, us2 = vs ++ [v] := (List.eq_nil_or_concat us2).elim (fun z => by rw [z] at hul2; cases hul2) fun ⟨a, b, e⟩ => ⟨a, b, by rw [e, List.concat_eq_append]⟩
    subst hv
    rw [List.length_append, List.length_singleton] at hul2
    have hlast : StepAt K C R (Used N H) H3 v q' := by
      have h1 : (us ++ (vs ++ [v]))[us.length + vs.length]? = some v := by rw [← List.append_assoc, ← List.length_append, List.getElem?_concat_length]
      obtain ⟨q2, h2, h3⟩ := hu3.get h1
      have h4 : (acc ++ g.upto cs)[us.length + vs.length]? = some q' := by rw [hq, ← List.append_assoc, show us.length + vs.length = (acc ++ qs).length by rw [List.length_append]; omega, List.getElem?_concat_length]
      rw [h4] at h2
      cases h2
      exact h3
    obtain ⟨t, o, rfl, ht, hN⟩ := hlast
    refine ⟨_, rfl, 1, rfl, D, _, _, _, rfl, rfl, sqL_of e3, (by rw [← List.append_assoc]; exact atI_last _ _), ?_⟩
    refine ⟨t, [.ref o, .bl q'.2], rfl, sqT_of ht, rfl, _, _, rfl, _, _, rfl, rfl, ?_⟩
    obtain ⟨dx, k', pe, l, ws', ho, hc, hpe, hl, hfe⟩ := id hN
    obtain ⟨hok', hne'⟩ := RF.every_nodes.mp hgev _ hmem
    refine ⟨_, rfl, _, rfl, bcase (fun c2 => ?_) (fun c2 => ?_)⟩
    · have c2 : q'.2 = true := c2
      rw [if_pos c2] at hnx
      refine ⟨_, rfl, o, dx, _, rfl, ho, ⟨o, dx, _, _, rfl, ho, rfl, ?_⟩⟩
      refine ⟨q'.1.exc, pe, ws', _, acc ++ g.upto cs, _, _, by omega, rfl, s13, hpe, hfe, e3, hu3, ?_, by omega, hne'⟩
      rw [hst, hsu, hnx, List.append_assoc]
    · have c2 : q'.2 = false := c2
      rw [if_neg (by rw [c2]; exact Bool.false_ne_true)] at hnx
      refine ⟨Nat.zero_le _, fun t0 n0 => ?_⟩
      have s4 : Same H3 (upd H3 t0 (.tup [])) := (Same.refl H3).put n0
      refine ⟨.nil, t0, [], _, acc ++ g.upto cs, _, _, RF.dep_pos hg, rfl, s13.trans s4, sqT_new, rfl, s4 _ _ e3, hu3.mono fun _ _ x => x.keeps s4.keeps, ?_, Nat.zero_le _, trivial⟩
      rw [hst, hsu, hnx, List.append_assoc]
  · have hg : g = .nil := by
      cases g with
      | nil => rfl
      | cons nm hs fs rl exc rest => 
        obtain ⟨o, dx, c', p2, l2, ws1, vs', rfl, _⟩ := hG
        cases c1
    subst hg
    have hst : f.steps cs = acc := by rw [hst]; exact List.append_nil _
    refine ⟨_, rfl, q H1 D us s e ?_⟩
    rw [hst]
    exact hu.mono fun _ _ x => x.re fun b xs h _ => h.1
def sp_looked (K : PySem.W.Frag) (C R : Addr) : Sp := fun vs H Q _ => ∃ (N : Addr → Prop) (p c : Addr) (cs : List Str) (ws : List V) (f : RF), vs = [.ref p, .ref c] ∧ SqT K H p ws ∧ ForAt K C R N H f ws ∧ SqT K H c (cs.map V.str) ∧ f.size ≤ 900 ∧ f.every NdOk ∧
  ∀ H' D us, Same H H' → H' D = some (.lst us) → All2 (RefAt K C R N H') us (f.way cs) → Q (.ref D) H'
def into (qs : List (Nd × Bool)) : List Nd := (qs.filter fun q => q.2).map fun q => q.1
theorem ok_looked {f : Addr} {fd : FuncData} (F : Fun K "looked_into" "looked_into" s_looked_into f fd) (Bl : Blt mg) (c_steps : Cal P w K mg base CX0 8 "steps" ["rules", "case"] (sp_steps K C R)) :
    FnOk P w K mg base CX0 9 f fd ["rules", "case"] (sp_looked K C R) := by
  refine F.ok sc_looked_into (fun vs H Q E h => by obtain ⟨N, p, c, cs, ws, f, rfl, _⟩ := h; rfl) (fun cdv A outer s H vs Q E hr h => ?_)
  obtain ⟨N, p, c, cs, ws, f, rfl, hP, hF, hC, hz, hev, q⟩ := h
  refine ⟨_, (pss_one (ps_ret (pe_lc (own := [("rule", 2), ("met", 3)]) (g := gTup K 2 (gCons (gName 2) (gCons (gName 3) gNil))) rfl sc_looked_into.nd (pi_list (pe_cal c_steps (hr.mono (by decide)) (pa_cons (pv 0) (pa_cons (pv 1) pa_nil)))) (blkOk_by (own := [("rule", 2), ("met", 3)]) (N := ["rules", "case", "rule", "met"]) (sc := defScope s_looked_into) (by decide +kernel)) (fun _ _ _ _ _ => (pg_tup (by rfl) (pgs_cons (pg_name (i := 2) sc_looked_into.nd rfl (Or.inl rfl)) (pgs_cons (pg_name (i := 3) sc_looked_into.nd rfl (Or.inl rfl)) pgs_nil)))) (fun _ _ _ _ _ => (pts_.re (pts_one (pt_val (pv 3))) (by first | (dsimp only [Cx.blk]; done) | exact rfl))) (fun _ _ _ _ _ => (pe_.re (pv 2) (by first | (dsimp only [Cx.blk]; done) | exact rfl)))))), ?_⟩
  have hmax := RF.steps_size cs f
  refine ⟨_, rfl, _, rfl, N, p, c, cs, ws, f, rfl, hP, hF, hC, hz, hev, fun H1 D us s1 eD hu => ?_⟩
  have hul := hu.len
  refine ⟨D, rfl, ⟨_, sqL_of eD⟩, fun D2 nD2 => lc_it walk_list (fun i H' => Same H1 H' ∧ ∃ rs, H' D2 = some (.lst rs) ∧ All2 (RefAt K C R N H1) rs (into ((f.steps cs).take i))) ⟨(Same.refl H1).put nD2, [], upd_same, .nil⟩ (fun _ _ _ h => sqL_of (h.1 _ _ eD)) ?_ ?_⟩
  · rintro i y H3 H2 hi ⟨s, rs, e, hr2⟩ ⟨rfl, hy⟩
    obtain ⟨⟨n, b⟩, hq, t, o, rfl, ht, hN⟩ := hu.get hy
    have ht := s _ _ ht
    have hrl := hr2.len
    have hil : (into ((f.steps cs).take i)).length ≤ 900 := by
      unfold into
      rw [List.length_map]
      exact Nat.le_trans (List.length_filter_le _ _) (by rw [List.length_take]; omega)
    refine ⟨t, [.ref o, .bl b], rfl, sqT_of ht, rfl, _, _, rfl, _, _, rfl, rfl, ?_⟩
    refine ⟨rfl, _, rfl, _, rfl, bcase (fun c1 => ?_) (fun c1 => ?_)⟩
    · have c1 : b = true := c1
      subst c1
      refine ⟨_, rfl, rs, e, small1000 (by omega), s.put nD2, _, upd_same, ?_⟩
      rw [take_more hq]
      unfold into at hr2 ⊢
      rw [List.filter_append, List.map_append]
      exact hr2.snoc ⟨o, rfl, hN⟩
    · have c1 : b = false := c1
      subst c1
      refine ⟨s, _, e, ?_⟩
      rw [take_more hq]
      unfold into at hr2 ⊢
      rw [List.filter_append, show List.filter (fun q : Nd × Bool => q.2) [(n, false)] = [] from rfl, List.append_nil]
      exact hr2
  rintro H2 ⟨s, rs, e, hr2⟩
  rw [hu.len, List.take_length] at hr2
  unfold into at hr2
  rw [RF.steps_way] at hr2
  exact q H2 D2 rs (s1.trans s) e (hr2.mono fun _ _ x => x.keeps s.keeps)
end
end Sc
namespace Sc
open PySem PySem.Spec PyProof.Rows L2
/-! ### two cubes as one -/
theorem bor_bit (j : Nat) (x y : Int) : bitAt (Builtin.bitOr x y) j = (bitAt x j || bitAt y j) := by
  unfold Builtin.bitOr
  rw [bnot_bit, band_bit, bnot_bit, bnot_bit]
  cases bitAt x j <;> cases bitAt y j <;> rfl
theorem bits_uniq : ∀ (k : Nat) (m n : Int), 0 ≤ m → m < 2 ^ k → 0 ≤ n → n < 2 ^ k → (∀ j, j < k → bitAt m j = bitAt n j) → m = n
  | 0, m, n, h0, h1, h2, h3, _ => by rw [Int.pow_zero] at h1 h3; omega
  | k + 1, m, n, h0, h1, h2, h3, hb => by
    have e := hb 0 (Nat.succ_pos k)
    rw [bit_0, bit_0, decide_eq_decide] at e
    rw [Int.pow_succ] at h1 h3
    have h4 := bits_uniq k (m / 2) (n / 2) (by omega) (by omega) (by omega) (by omega) fun j hj => by rw [← bit_s, ← bit_s]; exact hb (j + 1) (by omega)
    have r1 := Int.emod_two_eq m
    have r2 := Int.emod_two_eq n
    omega
theorem bits_nil {xs : List Str} : bitsOf xs [] = 0 := by
  obtain ⟨c0, c1⟩ := bits_range (xs := xs) (cs := [])
  refine small_zero xs.length _ c0 c1 fun j hj => ?_
  rw [held_bit hj]
  exact decide_eq_false fun h => nomatch h
/-- the facts of two parts, in the order of the facts -/
def joinF (xs as bs : List Str) : List Str := xs.filter fun x => decide (x ∈ as) || decide (x ∈ bs)
theorem mem_joinF {xs as bs : List Str} {x : Str} : x ∈ joinF xs as bs ↔ x ∈ xs ∧ (x ∈ as ∨ x ∈ bs) := by
  unfold joinF
  rw [List.mem_filter, Bool.or_eq_true, decide_eq_true_iff, decide_eq_true_iff]
theorem bor_join {xs as bs : List Str} : Builtin.bitOr (bitsOf xs as) (bitsOf xs bs) = bitsOf xs (joinF xs as bs) := by
  obtain ⟨a0, a1⟩ := bits_range (xs := xs) (cs := as)
  obtain ⟨b0, b1⟩ := bits_range (xs := xs) (cs := bs)
  obtain ⟨c0, c1⟩ := bits_range (xs := xs) (cs := joinF xs as bs)
  have e := bitOr_nn a0 b0
  have p : (((2 : Nat) ^ xs.length : Nat) : Int) = (2 : Int) ^ xs.length := by push_cast; rfl
  have l := Nat.or_lt_two_pow (n := xs.length) (x := (bitsOf xs as).toNat) (y := (bitsOf xs bs).toNat) (by omega) (by omega)
  refine bits_uniq xs.length _ _ (by rw [e]; exact Int.natCast_nonneg _) (by rw [e]; omega) c0 c1 fun j hj => ?_
  rw [bor_bit, held_bit hj, held_bit hj, held_bit hj, Bool.eq_iff_iff, Bool.or_eq_true, decide_eq_true_iff, decide_eq_true_iff, decide_eq_true_iff, mem_joinF]
  exact ⟨fun h => ⟨List.getElem_mem hj, h⟩, fun h => h.2⟩
/-- a rule that a given condition leaves nothing of -/
def cl (ws bs hs fs : List Str) : Bool := hs.any (fun x => decide (x ∈ bs)) || fs.any (fun x => decide (x ∈ ws))
/-- a rule over facts -/
structure Un (xs : List Str) (n : Nd) : Prop where
  nm : isName n.nm = true
  rl : isName n.rl = true
  s1 : List.Sublist n.hs xs
  s2 : List.Sublist n.fs xs
  dj : ∀ x ∈ n.hs, ¬ x ∈ n.fs
  l8 : n.hs.length + n.fs.length ≤ 8
theorem Un.ok {xs : List Str} {n : Nd} (h : Un xs n) (g : Good xs) : NdOk n :=
  ⟨h.nm, h.rl, (g.sub h.s1).none (by have := h.l8; show 0 + _ ≤ 8; omega) (fun _ _ h => nomatch h), (g.sub h.s2).none (by have := h.l8; omega) fun x hx z => h.dj x z hx⟩
theorem cl_bits {xs ws bs hs fs : List Str} (h1 : ∀ x ∈ hs, x ∈ xs) (h2 : ∀ x ∈ fs, x ∈ xs) :
    (decide (Builtin.bitAnd (bitsOf xs hs) (bitsOf xs bs) ≠ 0) || decide (Builtin.bitAnd (bitsOf xs fs) (bitsOf xs ws) ≠ 0)) = cl ws bs hs fs := by
  have e : ∀ {as cs : List Str}, (∀ x ∈ as, x ∈ xs) → decide (Builtin.bitAnd (bitsOf xs as) (bitsOf xs cs) ≠ 0) = as.any fun x => decide (x ∈ cs) := fun {as cs} h => by
    rw [Bool.eq_iff_iff, decide_eq_true_iff, List.any_eq_true, ne_eq, band_zero]
    constructor
    · intro z
      simp only [Classical.not_forall, Classical.not_not] at z
      obtain ⟨x, _, h1, h2⟩ := z
      exact ⟨x, h1, decide_eq_true h2⟩
    · rintro ⟨x, h1, h2⟩ z
      exact z x (h x h1) ⟨h1, of_decide_eq_true h2⟩
  rw [e h1, e h2]
  rfl
theorem meets_iff17 {hs fs cs : List Str} : meets hs fs cs = true ↔ (∀ x ∈ hs, x ∈ cs) ∧ ∀ x ∈ fs, ¬ x ∈ cs := by
  unfold meets
  rw [Bool.and_eq_true, List.all_eq_true, Bool.not_eq_true', List.any_eq_false]
  constructor
  · rintro ⟨h1, h2⟩
    exact ⟨fun x hx => of_decide_eq_true (h1 x hx), fun x hx z => h2 x hx (decide_eq_true z)⟩
  · rintro ⟨h1, h2⟩
    exact ⟨fun x hx => decide_eq_true (h1 x hx), fun x hx z => h2 x hx (of_decide_eq_true z)⟩
theorem cl_iff {ws bs hs fs : List Str} : cl ws bs hs fs = true ↔ (∃ x ∈ hs, x ∈ bs) ∨ ∃ x ∈ fs, x ∈ ws := by
  unfold cl
  rw [Bool.or_eq_true, List.any_eq_true, List.any_eq_true]
  simp only [decide_eq_true_iff]
/-! ### a book without exceptions -/
namespace RF
def flat (xs ws bs : List Str) : RF → List Nd
  | .nil => []
  | .cons nm hs fs rl exc rest => (if cl ws bs hs fs = true then [] else flat xs (joinF xs ws hs) (joinF xs bs fs) exc ++ [⟨nm, joinF xs ws hs, joinF xs bs fs, rl, .nil⟩]) ++ flat xs ws bs rest
theorem flat_len {xs : List Str} : ∀ {ws bs : List Str} (f : RF), (flat xs ws bs f).length ≤ f.size
  | _, _, .nil => Nat.le_refl 0
  | ws, bs, .cons nm hs fs rl exc rest => by
    have h1 := flat_len (xs := xs) (ws := joinF xs ws hs) (bs := joinF xs bs fs) exc
    have h2 := flat_len (xs := xs) (ws := ws) (bs := bs) rest
    show ((if cl ws bs hs fs = true then [] else flat xs (joinF xs ws hs) (joinF xs bs fs) exc ++ [_]) ++ flat xs ws bs rest).length ≤ exc.size + 1 + rest.size
    rw [List.length_append]
    split
    · show 0 + _ ≤ _; omega
    · rw [List.length_append]; show _ + 1 + _ ≤ _; omega
/-- each row is over the facts, and what must hold is apart from what must fail -/
theorem flat_dj {xs : List Str} : ∀ {ws bs : List Str} {f : RF}, (∀ x ∈ ws, ¬ x ∈ bs) → (f.every fun n => ∀ x ∈ n.hs, ¬ x ∈ n.fs) → ∀ n ∈ flat xs ws bs f, List.Sublist n.hs xs ∧ List.Sublist n.fs xs ∧ (∀ x ∈ n.hs, ¬ x ∈ n.fs) ∧ n.exc = .nil
  | _, _, .nil, _, _, n, h => nomatch h
  | ws, bs, .cons nm hs fs rl exc rest, d, ⟨e1, e2, e3⟩, n, h => by
    have h : n ∈ (if cl ws bs hs fs = true then [] else flat xs (joinF xs ws hs) (joinF xs bs fs) exc ++ [⟨nm, joinF xs ws hs, joinF xs bs fs, rl, .nil⟩]) ++ flat xs ws bs rest := h
    rcases List.mem_append.mp h with h | h
    · split at h
      · cases h
      rename_i nc
      rw [cl_iff] at nc
      have dj : ∀ x ∈ joinF xs ws hs, ¬ x ∈ joinF xs bs fs := fun x hx hy => by
        obtain ⟨_, p⟩ := mem_joinF.mp hx
        obtain ⟨_, q⟩ := mem_joinF.mp hy
        rcases p with p | p <;> rcases q with q | q
        · exact d x p q
        · exact nc (.inr ⟨x, q, p⟩)
        · exact nc (.inl ⟨x, p, q⟩)
        · exact e1 x p q
      rcases List.mem_append.mp h with h | h
      · exact flat_dj dj e2 n h
      · rw [List.mem_singleton.mp h]
        exact ⟨List.filter_sublist, List.filter_sublist, dj, rfl⟩
    · exact flat_dj d e3 n h
/-- each row names at least what stands around it -/
theorem flat_sup {xs : List Str} : ∀ {ws bs : List Str} {f : RF}, (∀ x ∈ ws, x ∈ xs) → (∀ x ∈ bs, x ∈ xs) → ∀ n ∈ flat xs ws bs f, (∀ x ∈ ws, x ∈ n.hs) ∧ ∀ x ∈ bs, x ∈ n.fs
  | _, _, .nil, _, _, n, h => nomatch h
  | ws, bs, .cons nm hs fs rl exc rest, h1, h2, n, h => by
    have h : n ∈ (if cl ws bs hs fs = true then [] else flat xs (joinF xs ws hs) (joinF xs bs fs) exc ++ [⟨nm, joinF xs ws hs, joinF xs bs fs, rl, .nil⟩]) ++ flat xs ws bs rest := h
    rcases List.mem_append.mp h with h | h
    · split at h
      · cases h
      rcases List.mem_append.mp h with h | h
      · obtain ⟨q1, q2⟩ := flat_sup (xs := xs) (ws := joinF xs ws hs) (bs := joinF xs bs fs) (f := exc) (fun x hx => (mem_joinF.mp hx).1) (fun x hx => (mem_joinF.mp hx).1) n h
        exact ⟨fun x hx => q1 x (mem_joinF.mpr ⟨h1 x hx, .inl hx⟩), fun x hx => q2 x (mem_joinF.mpr ⟨h2 x hx, .inl hx⟩)⟩
      · rw [List.mem_singleton.mp h]
        exact ⟨fun x hx => mem_joinF.mpr ⟨h1 x hx, .inl hx⟩, fun x hx => mem_joinF.mpr ⟨h2 x hx, .inl hx⟩⟩
    · exact flat_sup h1 h2 n h
/-- the first row that a case meets tells what the rules tell -/
theorem flat_find {xs cs : List Str} : ∀ {ws bs : List Str} {f : RF}, (∀ x ∈ ws, x ∈ xs) → (∀ x ∈ bs, x ∈ xs) → (∀ x ∈ ws, x ∈ cs) → (∀ x ∈ bs, ¬ x ∈ cs) → (f.every fun n => (∀ x ∈ n.hs, x ∈ xs) ∧ ∀ x ∈ n.fs, x ∈ xs) →
    ((flat xs ws bs f).find? fun n => n.met cs).map (fun n => (n.nm, n.rl)) = (f.way cs).getLast?.map fun n => (n.nm, n.rl)
  | _, _, .nil, _, _, _, _, _ => rfl
  | ws, bs, .cons nm hs fs rl exc rest, h1, h2, h3, h4, ⟨⟨e1, e2⟩, e3, e4⟩ => by
    have i1 := flat_find (xs := xs) (cs := cs) (ws := ws) (bs := bs) (f := rest) h1 h2 h3 h4 e4
    show (((if cl ws bs hs fs = true then [] else flat xs (joinF xs ws hs) (joinF xs bs fs) exc ++ [(⟨nm, joinF xs ws hs, joinF xs bs fs, rl, .nil⟩ : Nd)]) ++ flat xs ws bs rest).find? fun n : Nd => n.met cs).map (fun n : Nd => (n.nm, n.rl)) = (if meets hs fs cs = true then (⟨nm, hs, fs, rl, exc⟩ : Nd) :: exc.way cs else rest.way cs).getLast?.map fun n : Nd => (n.nm, n.rl)
    rw [List.find?_append]
    by_cases m : meets hs fs cs = true
    · rw [if_pos m]
      obtain ⟨m1, m2⟩ := meets_iff17.mp m
      have nc : ¬ cl ws bs hs fs = true := by
        rw [cl_iff]
        rintro (⟨x, hx, hb⟩ | ⟨x, hx, hw⟩)
        · exact h4 x hb (m1 x hx)
        · exact m2 x hx (h3 x hw)
      rw [if_neg nc, List.find?_append]
      have j1 : ∀ x ∈ joinF xs ws hs, x ∈ cs := fun x hx => (mem_joinF.mp hx).2.elim (h3 x) (m1 x)
      have j2 : ∀ x ∈ joinF xs bs fs, ¬ x ∈ cs := fun x hx => (mem_joinF.mp hx).2.elim (h4 x) (m2 x)
      have i2 := flat_find (xs := xs) (cs := cs) (ws := joinF xs ws hs) (bs := joinF xs bs fs) (f := exc) (fun x hx => (mem_joinF.mp hx).1) (fun x hx => (mem_joinF.mp hx).1) j1 j2 e3
      have own : (List.find? (fun n => Nd.met cs n) [(⟨nm, joinF xs ws hs, joinF xs bs fs, rl, .nil⟩ : Nd)]) = some ⟨nm, joinF xs ws hs, joinF xs bs fs, rl, .nil⟩ := by
        rw [List.find?_cons, show Nd.met cs (⟨nm, joinF xs ws hs, joinF xs bs fs, rl, .nil⟩ : Nd) = true from meets_iff17.mpr ⟨j1, j2⟩]
      rw [own]
      cases hw : exc.way cs with
      | nil =>
        rw [hw] at i2
        have i2 : (List.find? (fun n => Nd.met cs n) (flat xs (joinF xs ws hs) (joinF xs bs fs) exc)).map (fun n => (n.nm, n.rl)) = none := i2
        rw [Option.map_eq_none_iff] at i2
        rw [i2]
        rfl
      | cons w r =>
        rw [hw] at i2
        rw [List.getLast?_cons_cons, ← i2]
        cases h : List.find? (fun n => Nd.met cs n) (flat xs (joinF xs ws hs) (joinF xs bs fs) exc) with
        | none =>
          rw [h] at i2
          rw [List.getLast?_cons] at i2
          cases i2
        | some y => rfl
    · rw [if_neg m, ← i1]
      have none1 : List.find? (fun n => Nd.met cs n) (if cl ws bs hs fs = true then [] else flat xs (joinF xs ws hs) (joinF xs bs fs) exc ++ [⟨nm, joinF xs ws hs, joinF xs bs fs, rl, .nil⟩]) = none := by
        rw [List.find?_eq_none]
        intro n hn z
        obtain ⟨z1, z2⟩ := meets_iff17.mp z
        split at hn
        · cases hn
        have sup : (∀ x ∈ joinF xs ws hs, x ∈ n.hs) ∧ ∀ x ∈ joinF xs bs fs, x ∈ n.fs := by
          rcases List.mem_append.mp hn with hn | hn
          · exact flat_sup (fun x hx => (mem_joinF.mp hx).1) (fun x hx => (mem_joinF.mp hx).1) n hn
          · rw [List.mem_singleton.mp hn]
            exact ⟨fun x hx => hx, fun x hx => hx⟩
        exact m (meets_iff17.mpr ⟨fun x hx => z1 x (sup.1 x (mem_joinF.mpr ⟨e1 x hx, .inr hx⟩)), fun x hx => z2 x (sup.2 x (mem_joinF.mpr ⟨e2 x hx, .inr hx⟩))⟩)
      rw [none1]
      rfl
/-- rows one beside another: the first one that is met is the way -/
theorem ofNodes_way {cs : List Str} : ∀ {l : List Nd}, (∀ n ∈ l, n.exc = .nil) → (ofNodes l).way cs = (l.find? fun n => n.met cs).toList
  | [], _ => rfl
  | n :: r, h => by
    have ih := ofNodes_way (cs := cs) (l := r) fun m hm => h m (List.mem_cons_of_mem _ hm)
    have e := h n List.mem_cons_self
    obtain ⟨nm, hs, fs, rl, exc⟩ := n
    have e : exc = .nil := e
    subst e
    show (if meets hs fs cs = true then (⟨nm, hs, fs, rl, .nil⟩ : Nd) :: RF.way cs .nil else (ofNodes r).way cs) = _
    rw [List.find?_cons]
    by_cases m : meets hs fs cs = true
    · rw [if_pos m, show Nd.met cs (⟨nm, hs, fs, rl, .nil⟩ : Nd) = true from m]; rfl
    · rw [if_neg m, show Nd.met cs (⟨nm, hs, fs, rl, .nil⟩ : Nd) = false from (Bool.not_eq_true _).mp m]; exact ih
end RF
end Sc
namespace Sc
open PySem PySem.Spec PyProof.Rows L2
theorem sc__law_parts : FnScope ["_law_h", "_law_facts_here", "_law_most", "_law_wanted", "_law_barred", "_law_fact", "_law_kind"] ["_law_h", "_law_facts_here", "_law_most"] (defScope s__law_parts) := ⟨rfl, rfl, rfl, by decide +kernel, rfl, by decide +kernel, by decide +kernel⟩
theorem sc__law_meets : FnScope ["_law_row", "_law_case_here", "_law_missing", "_law_name"] ["_law_row", "_law_case_here"] (defScope s__law_meets) := ⟨rfl, rfl, rfl, by decide +kernel, rfl, by decide +kernel, by decide +kernel⟩
theorem sc__law_case : FnScope ["_law_facts_here", "_law_number", "_law_k"] ["_law_facts_here", "_law_number"] (defScope s__law_case) := ⟨rfl, rfl, rfl, by decide +kernel, rfl, by decide +kernel, by decide +kernel⟩
theorem sc__law_every : FnScope ["_law_facts_here", "_law_number"] ["_law_facts_here"] (defScope s__law_every) := ⟨rfl, rfl, rfl, by decide +kernel, rfl, by decide +kernel, by decide +kernel⟩
section
variable {P : Program} {w : World} {K : PySem.W.Frag} {mg : Str → Option Value} {base : Heap} {a l : Addr} {H H' H'' : Hp}
/-- the two parts of a drawn condition -/
structure Parts (fs ws bs : List Str) (m : Int) : Prop where
  s1 : List.Sublist ws fs
  s2 : List.Sublist bs fs
  dj : ∀ x ∈ ws, ¬ x ∈ bs
  le : ((ws.length + bs.length : Nat) : Int) ≤ m
  l8 : ws.length + bs.length ≤ 8
theorem Parts.skip {fs ws bs : List Str} {m : Int} {i : Nat} (p : Parts (fs.take i) ws bs m) : Parts (fs.take (i + 1)) ws bs m :=
  have s : List.Sublist (fs.take i) (fs.take (i + 1)) := by rw [List.take_add_one]; exact List.sublist_append_left _ _
  ⟨p.s1.trans s, p.s2.trans s, p.dj, p.le, p.l8⟩
theorem nin_take {fs : List Str} {i : Nat} (hi : i < fs.length) (nd : fs.Nodup) : ¬ fs[i] ∈ fs.take i := fun h => by
  have e : fs.take (i + 1) = fs.take i ++ [fs[i]] := take_more (List.getElem?_eq_getElem hi)
  have nd2 : (fs.take (i + 1)).Nodup := (List.take_sublist _ _).nodup nd
  rw [e, List.nodup_append] at nd2
  exact nd2.2.2 _ h _ List.mem_cons_self rfl
theorem Parts.left {fs ws bs : List Str} {m : Int} {i : Nat} (p : Parts (fs.take i) ws bs m) (hi : i < fs.length) (nd : fs.Nodup) (h1 : ((ws.length + bs.length : Nat) : Int) < m) (h2 : ws.length + bs.length < 8) : Parts (fs.take (i + 1)) (ws ++ [fs[i]]) bs m := by
  have e : fs.take (i + 1) = fs.take i ++ [fs[i]] := take_more (List.getElem?_eq_getElem hi)
  refine ⟨by rw [e]; exact p.s1.append (List.Sublist.refl _), p.skip.s2, fun x hx hb => ?_, by rw [List.length_append, List.length_singleton]; omega, by rw [List.length_append, List.length_singleton]; omega⟩
  rcases List.mem_append.mp hx with h | h
  · exact p.dj x h hb
  · rw [List.mem_singleton.mp h] at hb
    exact nin_take hi nd (p.s2.subset hb)
theorem Parts.right {fs ws bs : List Str} {m : Int} {i : Nat} (p : Parts (fs.take i) ws bs m) (hi : i < fs.length) (nd : fs.Nodup) (h1 : ((ws.length + bs.length : Nat) : Int) < m) (h2 : ws.length + bs.length < 8) : Parts (fs.take (i + 1)) ws (bs ++ [fs[i]]) m := by
  have e : fs.take (i + 1) = fs.take i ++ [fs[i]] := take_more (List.getElem?_eq_getElem hi)
  refine ⟨p.skip.s1, by rw [e]; exact p.s2.append (List.Sublist.refl _), fun x hx hb => ?_, by rw [List.length_append, List.length_singleton]; omega, by rw [List.length_append, List.length_singleton]; omega⟩
  rcases List.mem_append.mp hb with h | h
  · exact p.dj x hx h
  · rw [List.mem_singleton.mp h] at hx
    exact nin_take hi nd (p.s1.subset hx)
def sp_parts (K : PySem.W.Frag) : Sp := fun vs H Q _ => ∃ (a l fp : Addr) (fs : List Str) (m : Int), vs = [.ref a, .ref fp, .int m] ∧ RS H a l ∧ SqT K H fp (fs.map V.str) ∧ fs.length ≤ 100 ∧ fs.Nodup ∧ 0 ≤ m ∧ m ≤ 1000 ∧
  ∀ H' p pw pb ws bs, Kp a l H H' → H p = none → H pw = none → H pb = none → H' p = some (.tup [.ref pw, .ref pb]) → H' pw = some (.tup (ws.map V.str)) → H' pb = some (.tup (bs.map V.str)) → Parts fs ws bs m → Q (.ref p) H'
theorem ok_parts {f : Addr} {fd : FuncData} (F : Fun K "_law_parts" "_law_parts" s__law_parts f fd) (B : Blt mg) (c__law_next : Cal P w K mg base CX0 1 "_law_next" ["_law_h", "_law_limit"] sp_next) : FnOk P w K mg base CX0 2 f fd ["_law_h", "_law_facts_here", "_law_most"] (sp_parts K) := by
  refine F.ok sc__law_parts (fun vs H Q E h => by obtain ⟨a, l, fp, fs, m, rfl, _⟩ := h; rfl) (fun cdv A outer s H vs Q E hr h => ?_)
  obtain ⟨a, l, fp, fs, m, rfl, R, hS, hl, nd, m0, m1, q⟩ := h
  refine ⟨_, (pss_cons (ps_par (i := 3) (j := 4) rfl sc__law_parts.nd rfl rfl (by decide) rfl rfl (pa_cons (pe_lst pa_nil) (pa_cons (pe_lst pa_nil) pa_nil)) rfl)
      (pss_cons (ps_for PassesOwn.never rfl (pi_tup (pv 1)) (pg_name (i := 5) sc__law_parts.nd rfl (Or.inl rfl)) (pss_cons (ps_set (i := 6) sc__law_parts.nd rfl (Or.inl rfl) (pe_cal c__law_next (hr.mono (by decide)) (pa_cons (pv 0) (pa_cons (pe_op op_add pe_int (pe_op op_fdiv (pe_op op_mul pe_int (pe_callB call_len_seq (by rfl) B.b_len PySem.boot_len (pa_cons (pv 1) pa_nil))) (pe_callB (call_max2 rfl) (by rfl) B.b_max PyProof.Rows.boot_max (pa_cons pe_int (pa_cons (pv 2) pa_nil))))) pa_nil))))
      (pss_one (ps_if (PW.pt (pw_and (pt_cmpR op_lt (pv 6) pe_int (nomark _)) (pw_and1 (pt_cmpR op_lt (pe_op op_add (pe_callB call_len_seq (by rfl) B.b_len PySem.boot_len (pa_cons (pv 3) pa_nil)) (pe_callB call_len_seq (by rfl) B.b_len PySem.boot_len (pa_cons (pv 4) pa_nil))) (pe_callB (call_min2 rfl) (by rfl) B.b_min (by decide +kernel) (pa_cons pe_int (pa_cons (pv 2) pa_nil))) (nomark _))))) (pss_one (ps_expr (pe_bm PySem.F.plainAttrs_list PySem.F.slot_list_append PySem.F.type_list_append mt_append (pe_ix ix_list (pe_lst (pa_cons (pv 3) (pa_cons (pv 4) pa_nil))) (pv 6) (fun _ _ => rfl)) (pa_cons (pv 5) pa_nil)))) pss_nil))))
      (pss_one (ps_ret (pe_tup (pa_cons (pe_callTy call_tuple_of (by rfl) B.b_tuple PyProof.Rows.boot_tuple (pa_cons (pv 3) pa_nil)) (pa_cons (pe_callTy call_tuple_of (by rfl) B.b_tuple PyProof.Rows.boot_tuple (pa_cons (pv 4) pa_nil)) pa_nil))))))), ?_⟩
  refine ⟨(by show 0 ≤ sizeLine; exact Nat.zero_le _), fun lw nw => ⟨(by show 0 ≤ sizeLine; exact Nat.zero_le _), fun lb nb => ⟨_, _, rfl, ?_⟩⟩⟩
  obtain ⟨w1, w2⟩ := R.no nw
  have nb' : H lb = none := by
    cases e : H lb with
    | none => rfl
    | some o => rw [upd_ne (ne_of_none e nw)] at nb; rw [e] at nb; cases nb
  obtain ⟨b1, b2⟩ := R.no nb'
  have wb : lw ≠ lb := fun z => by rw [← z, upd_same] at nb; cases nb
  have s0 : Same H (upd (upd H lw (.lst [])) lb (.lst [])) := ((Same.refl H).put nw).put nb'
  have ew0 : (upd (upd H lw (.lst [])) lb (.lst [])) lw = some (.lst []) := by rw [upd_ne wb, upd_same]
  have eb0 : (upd (upd H lw (.lst [])) lb (.lst [])) lb = some (.lst []) := upd_same
  generalize upd (upd H lw (.lst [])) lb (.lst []) = H0 at s0 ew0 eb0 ⊢
  refine ⟨.ref fp, rfl, fp, rfl, ⟨_, s0.tup hS⟩, for_it walk_tup (fun i σ H' => ∃ (ws bs : List Str) (y5 y6 : Option V), σ = [some (.ref a), some (.ref fp), some (.int m), some (.ref lw), some (.ref lb), y5, y6] ∧ Kp a l H H' ∧ H' lw = some (.lst (ws.map V.str)) ∧ H' lb = some (.lst (bs.map V.str)) ∧ Parts (fs.take i) ws bs m)
    ⟨[], [], _, _, rfl, Kp.of R s0, ew0, eb0, ⟨List.nil_sublist _, List.nil_sublist _, fun x hx => (nomatch hx), by simpa using m0, by decide⟩⟩ (fun i σ H' _ ⟨_, _, _, _, _, k, _⟩ => k.tup hS) ?_ ?_⟩
  · rintro i y σ H2 H3 hi ⟨ws, bs, y5, y6, rfl, k, ew, eb, pt⟩ ⟨rfl, hy⟩
    rw [List.length_map] at hi
    have hx : fs[i]? = some fs[i] := List.getElem?_eq_getElem hi
    obtain rfl : V.str fs[i] = y := strAt_inj hx hy
    have hmx : 1 ≤ (if m > 1 then m else 1) ∧ (if m > 1 then m else 1) ≤ 1000 := by split <;> omega
    refine ⟨.ref a, rfl, .ref fp, rfl, fp, _, rfl, .inr (k.tup hS), 2, _, rfl, rfl, .inl ⟨by decide, by decide⟩, .int m, rfl, 1, m, rfl, _, _, rfl, rfl, ⟨by omega, by omega⟩, _, _, rfl, rfl, ?_⟩
    have hq0 : 0 ≤ (2 * ((fs.map V.str).length : Int)) / (if m > 1 then m else 1) := Int.ediv_nonneg (by omega) (by omega)
    have hq1 : (2 * ((fs.map V.str).length : Int)) / (if m > 1 then m else 1) ≤ 200 := by
      rw [List.length_map]
      exact Int.le_trans (Int.ediv_le_self _ (by omega)) (by omega)
    refine ⟨a, l, _, rfl, k.new, by omega, small_lim (by omega) (by omega), fun H4 r k4 r0 r1 => ?_⟩
    have kk := k.trans k4
    have ew4 : H4 lw = some (.lst (ws.map V.str)) := k4.keep _ _ w1 w2 ew
    have eb4 : H4 lb = some (.lst (bs.map V.str)) := k4.keep _ _ b1 b2 eb
    refine ⟨_, rfl, r, 2, rfl, rfl, _, rfl, bcase (fun c1 => ?_) (fun c1 => ?_)⟩
    · have c1 : r < 2 := of_decide_eq_true c1
      refine ⟨.ref lw, rfl, lw, _, rfl, .inl (sqL_of ew4), .ref lb, rfl, lb, _, rfl, .inl (sqL_of eb4), _, _, rfl, rfl, .int m, rfl, 8, m, rfl, _, _, rfl, rfl, _, rfl, bcase (fun c2 => ?_) (fun c2 => ?_)⟩
      · have c2 := of_decide_eq_true c2
        rw [List.length_map, List.length_map] at c2
        have h1 : ((ws.length + bs.length : Nat) : Int) < m := by split at c2 <;> omega
        have h2 : ws.length + bs.length < 8 := by split at c2 <;> omega
        obtain ⟨j, rfl⟩ := Int.eq_ofNat_of_zero_le r0
        refine ⟨.ref lw, rfl, .ref lb, rfl, (by show 2 ≤ sizeLine; decide), fun lp nlp => ?_⟩
        have s5 := (Same.refl H4).put (o := .lst [.ref lw, .ref lb]) nlp
        have e5 : (upd H4 lp (.lst [.ref lw, .ref lb])) lp = some (.lst [.ref lw, .ref lb]) := upd_same
        generalize upd H4 lp (.lst [.ref lw, .ref lb]) = H5 at s5 e5 ⊢
        have k5 := kk.same s5
        have ew5 := s5 _ _ ew4
        have eb5 := s5 _ _ eb4
        have hj : j < 2 := by omega
        match j, hj with
        | 0, _ =>
          refine ⟨.int (0 : Nat), rfl, lp, _, _, .ref lw, rfl, rfl, sqL_of e5, atI_nat (j := 0) rfl, .inl ⟨rfl, _, sqL_of ew5⟩, _, rfl, lw, _, _, rfl, rfl, ew5, by rw [List.length_map, sizeLine_eq]; omega, ?_⟩
          exact ⟨ws ++ [fs[i]], bs, _, _, rfl, k5.put0 nw, by rw [upd_same, List.map_append]; rfl, by rw [upd_ne wb.symm]; exact eb5, pt.left hi nd h1 h2⟩
        | 1, _ =>
          refine ⟨.int (1 : Nat), rfl, lp, _, _, .ref lb, rfl, rfl, sqL_of e5, atI_nat (j := 1) rfl, .inl ⟨rfl, _, sqL_of eb5⟩, _, rfl, lb, _, _, rfl, rfl, eb5, by rw [List.length_map, sizeLine_eq]; omega, ?_⟩
          exact ⟨ws, bs ++ [fs[i]], _, _, rfl, k5.put0 nb', by rw [upd_ne wb]; exact ew5, by rw [upd_same, List.map_append]; rfl, pt.right hi nd h1 h2⟩
      · exact ⟨ws, bs, _, _, rfl, kk, ew4, eb4, pt.skip⟩
    · exact iteF ⟨ws, bs, _, _, rfl, kk, ew4, eb4, pt.skip⟩
  · rintro σ H2 ⟨ws, bs, y5, y6, rfl, k, ew, eb, pt⟩
    rw [List.length_map, List.take_length] at pt
    refine ⟨.ref lw, rfl, lw, _, rfl, .inl ⟨sqL_of ew, fun tw ntw => ?_⟩⟩
    have s3 := (Same.refl H2).put (o := .tup (ws.map V.str)) ntw
    have etw : (upd H2 tw (.tup (ws.map V.str))) tw = some (.tup (ws.map V.str)) := upd_same
    generalize upd H2 tw (.tup (ws.map V.str)) = H3 at s3 etw ⊢
    refine ⟨.ref lb, rfl, lb, _, rfl, .inl ⟨sqL_of (s3 _ _ eb), fun tb ntb => ?_⟩⟩
    have s4 := s3.put' (o := .tup (bs.map V.str)) ntb
    have etw4 := ((Same.refl H3).put (o := .tup (bs.map V.str)) ntb) _ _ etw
    have etb : (upd H3 tb (.tup (bs.map V.str))) tb = some (.tup (bs.map V.str)) := upd_same
    have ntb' := s3.free ntb
    generalize upd H3 tb (.tup (bs.map V.str)) = H4 at s4 etw4 etb ⊢
    refine ⟨(by show 2 ≤ sizeLine; decide), fun p np => ?_⟩
    have s5 := (Same.refl H4).put (o := .tup [.ref tw, .ref tb]) np
    exact q _ p tw tb ws bs (k.same (s4.trans s5)) (k.free (s4.free np)) (k.free ntw) (k.free ntb') upd_same (s5 _ _ etw4) (s5 _ _ etb) pt
/-! ### _law_meets -/
theorem allf_out {xs cs : List Str} : decide (xs.filter (fun x => !decide (x ∈ cs)) = []) = xs.all fun x => decide (x ∈ cs) := by
  cases h : xs.all fun x => decide (x ∈ cs) with
  | true =>
    refine decide_eq_true (List.filter_eq_nil_iff.mpr fun x hx z => ?_)
    rw [List.all_eq_true.mp h x hx] at z
    cases z
  | false =>
    refine decide_eq_false fun z => ?_
    obtain ⟨x, hx, hn⟩ := List.all_eq_false.mp h
    have := List.filter_eq_nil_iff.mp z x hx
    cases e : decide (x ∈ cs) with
    | true => exact hn e
    | false => rw [e] at this; exact this rfl
theorem anyf_out {xs cs : List Str} : decide (xs.filter (fun x => decide (x ∈ cs)) = []) = !xs.any fun x => decide (x ∈ cs) := by
  cases h : xs.any fun x => decide (x ∈ cs) with
  | true =>
    refine decide_eq_false fun z => ?_
    obtain ⟨x, hx, hn⟩ := List.any_eq_true.mp h
    exact List.filter_eq_nil_iff.mp z x hx hn
  | false => exact decide_eq_true (List.filter_eq_nil_iff.mpr fun x hx z => List.any_eq_false.mp h x hx z)
theorem Fines.sub {xs ys : List Str} (h : Fines ys) (s : List.Sublist xs ys) : Fines xs := fun x hx => h x (s.subset hx)
def sp_meets (K : PySem.W.Frag) : Sp := fun vs H Q _ => ∃ (r w b c : Addr) (v : V) (rest : List V) (ws bs cs : List Str), vs = [.ref r, .ref c] ∧ SqT K H r (v :: .ref w :: .ref b :: rest) ∧ SqT K H w (ws.map V.str) ∧ SqT K H b (bs.map V.str) ∧ SqT K H c (cs.map V.str) ∧ Fines ws ∧ Fines bs ∧ ws.length ≤ 1000 ∧ bs.length ≤ 1000 ∧
  ∀ H', Same H H' → Q (.bl (meets ws bs cs)) H'
theorem ok_meets {f : Addr} {fd : FuncData} (F : Fun K "_law_meets" "_law_meets" s__law_meets f fd) (B : Blt mg) : FnOk P w K mg base CX0 1 f fd ["_law_row", "_law_case_here"] (sp_meets K) := by
  refine F.ok sc__law_meets (fun vs H Q E h => by obtain ⟨r, w, b, c, v, rest, ws, bs, cs, rfl, _⟩ := h; rfl) (fun cdv A outer s H vs Q E hr h => ?_)
  obtain ⟨r, w, b, c, v, rest, ws, bs, cs, rfl, hR, hW, hB, hC, f1, f2, l1, l2, q⟩ := h
  refine ⟨_, (pss_cons (ps_setLc (i := 2) (own := [("_law_name", 3)]) (g := gName 3) rfl sc__law_meets.nd rfl rfl (sw_true rfl rfl rfl (by decide +kernel)) (pi_tup (pe_ix ix_tup (pv 0) pe_int (fun _ _ => rfl))) (blkOk_by (own := [("_law_name", 3)]) (N := ["_law_row", "_law_case_here", "_law_missing", "_law_name"]) (sc := defScope s__law_meets) (by decide +kernel)) (fun _ _ _ _ _ => (pg_name (i := 3) sc__law_meets.nd rfl (Or.inl rfl))) (fun _ _ _ _ _ => (pts_.re (pts_one (pt_cmpR op_notIn_seq (pv 3) (pv 1) rfl)) (by first | (dsimp only [Cx.blk]; done) | exact rfl))) (fun _ _ _ _ _ => (pe_.re (pv 3) (by first | (dsimp only [Cx.blk]; done) | exact rfl))))
      (pss_one (ps_ret (pe_and (pe_cmpR (op_eqD hr.units) (pv 2) (pe_lst pa_nil) (nomark _)) (pe_one (pe_cmpR (op_eqD hr.units) (pe_lc (own := [("_law_name", 3)]) (g := gName 3) rfl sc__law_meets.nd (pi_tup (pe_ix ix_tup (pv 0) pe_int (fun _ _ => rfl))) (blkOk_by (own := [("_law_name", 3)]) (N := ["_law_row", "_law_case_here", "_law_missing", "_law_name"]) (sc := defScope s__law_meets) (by decide +kernel)) (fun _ _ _ _ _ => (pg_name (i := 3) sc__law_meets.nd rfl (Or.inl rfl))) (fun _ _ _ _ _ => (pts_.re (pts_one (pt_cmpR op_in_seq (pv 3) (pv 1) rfl)) (by first | (dsimp only [Cx.blk]; done) | exact rfl))) (fun _ _ _ _ _ => (pe_.re (pv 3) (by first | (dsimp only [Cx.blk]; done) | exact rfl)))) (pe_lst pa_nil) (nomark _))))))), ?_⟩
  refine ⟨.ref r, rfl, r, _, 1, .ref w, rfl, rfl, hR, atI_nat (j := 1) rfl, w, rfl, ⟨_, hW⟩, fun D nD => lc_it walk_tup (fun i H' => Same H H' ∧ H' D = some (.lst (((ws.take i).filter fun x => !decide (x ∈ cs)).map V.str))) ⟨(Same.refl H).put nD, upd_same⟩ (fun _ _ _ h => h.1.tup hW) ?_ ?_⟩
  · rintro i y H2 H3 hi ⟨s, e⟩ ⟨rfl, hy⟩
    rw [List.length_map] at hi
    have hx : ws[i]? = some ws[i] := List.getElem?_eq_getElem hi
    obtain rfl : V.str ws[i] = y := strAt_inj hx hy
    refine ⟨rfl, .str ws[i], rfl, .ref c, rfl, c, _, rfl, .inr (s.tup hC), rfl, flat_strs cs, _, rfl, bcase (fun c1 => ?_) (fun c1 => ?_)⟩
    · have c1 : (!decide (ws[i] ∈ cs)) = true := by rw [← inV_str]; exact c1
      refine ⟨_, rfl, grow (acc := fun i => ((ws.take i).filter fun x => !decide (x ∈ cs)).map V.str) nD s e ?_ ?_⟩
      · rw [List.length_map]
        refine small1000 (Nat.le_trans (List.length_filter_le _ _) ?_)
        rw [List.length_take]
        omega
      · show List.map V.str _ = _
        rw [take_more hx, List.filter_append, List.map_append, filter1, if_pos c1]
        rfl
    · have c1 : (!decide (ws[i] ∈ cs)) = false := by rw [← inV_str]; exact c1
      refine ⟨s, ?_⟩
      rw [take_more hx, List.filter_append, filter1, if_neg (by rw [c1]; exact Bool.false_ne_true), List.append_nil]
      exact e
  · rintro H2 ⟨s, e⟩
    rw [List.length_map, List.take_length] at e
    refine ⟨_, rfl, Nat.zero_le _, fun p np => ⟨.list ((ws.filter fun x => !decide (x ∈ cs)).map PyData.str), .list [], .lst (sqL_of (by rw [upd_ne (ne_of_none e np)]; exact e)) (dps K _ _), .lst sqL_new .nil, shL (f1.sub List.filter_sublist), rfl, _, rfl, ?_⟩⟩
    have e1 : (PyData.list ((ws.filter fun x => !decide (x ∈ cs)).map PyData.str)).eqv (.list []) = ws.all fun x => decide (x ∈ cs) := (eqvA_nil _).trans allf_out
    rw [e1]
    have s1 := s.put' (o := .lst []) np
    generalize upd H2 p (.lst []) = H3 at s1 ⊢
    refine bcase (fun c1 => ?_) (fun c1 => ?_)
    · refine ⟨.ref r, rfl, r, _, 2, .ref b, rfl, rfl, s1.tup hR, atI_nat (j := 2) rfl, b, rfl, ⟨_, s1.tup hB⟩, fun D2 nD2 => lc_it walk_tup (fun i H' => Same H3 H' ∧ H' D2 = some (.lst (((bs.take i).filter fun x => decide (x ∈ cs)).map V.str))) ⟨(Same.refl H3).put nD2, upd_same⟩ (fun _ _ _ h => (s1.trans h.1).tup hB) ?_ ?_⟩
      · rintro i y H4 H5 hi ⟨s2, e2⟩ ⟨rfl, hy⟩
        rw [List.length_map] at hi
        have hx : bs[i]? = some bs[i] := List.getElem?_eq_getElem hi
        obtain rfl : V.str bs[i] = y := strAt_inj hx hy
        refine ⟨rfl, .str bs[i], rfl, .ref c, rfl, c, _, rfl, .inr ((s1.trans s2).tup hC), rfl, flat_strs cs, _, rfl, bcase (fun c1 => ?_) (fun c1 => ?_)⟩
        · have c1 : decide (bs[i] ∈ cs) = true := by rw [← inV_str]; exact c1
          refine ⟨_, rfl, grow (acc := fun i => ((bs.take i).filter fun x => decide (x ∈ cs)).map V.str) nD2 s2 e2 ?_ ?_⟩
          · rw [List.length_map]
            refine small1000 (Nat.le_trans (List.length_filter_le _ _) ?_)
            rw [List.length_take]
            omega
          · show List.map V.str _ = _
            rw [take_more hx, List.filter_append, List.map_append, filter1, if_pos c1]
            rfl
        · have c1 : decide (bs[i] ∈ cs) = false := by rw [← inV_str]; exact c1
          refine ⟨s2, ?_⟩
          rw [take_more hx, List.filter_append, filter1, if_neg (by rw [c1]; exact Bool.false_ne_true), List.append_nil]
          exact e2
      · rintro H4 ⟨s2, e2⟩
        rw [List.length_map, List.take_length] at e2
        refine ⟨Nat.zero_le _, fun p2 np2 => ⟨.list ((bs.filter fun x => decide (x ∈ cs)).map PyData.str), .list [], .lst (sqL_of (by rw [upd_ne (ne_of_none e2 np2)]; exact e2)) (dps K _ _), .lst sqL_new .nil, shL (f2.sub List.filter_sublist), rfl, ?_⟩⟩
        have e3 : (PyData.list ((bs.filter fun x => decide (x ∈ cs)).map PyData.str)).eqv (.list []) = !bs.any fun x => decide (x ∈ cs) := (eqvA_nil _).trans anyf_out
        rw [e3]
        have em : meets ws bs cs = !bs.any fun x => decide (x ∈ cs) := by
          unfold meets
          rw [c1, Bool.true_and]
        rw [← em]
        exact q _ ((s1.trans s2).put' np2)
    · have em : meets ws bs cs = false := by
        unfold meets
        rw [c1, Bool.false_and]
      rw [← em]
      exact q _ s1
/-! ### _law_case, _law_every -/
theorem bit_eq (n i : Nat) : decide (V.int ((n : Int) / 2 ^ (i : Int).toNat % 2) = V.int 1) = bitN n i := by
  unfold bitN
  have e : (n : Int) / 2 ^ (i : Int).toNat % 2 = ((n / 2 ^ i % 2 : Nat) : Int) := by
    rw [Int.toNat_natCast]
    push_cast
    rfl
  rw [e]
  by_cases c : n / 2 ^ i % 2 = 1
  · rw [decide_eq_true c, c]
    rfl
  · rw [decide_eq_false c]
    exact decide_eq_false fun z => c (by have := V.int.inj z; omega)
def sp_case (K : PySem.W.Frag) : Sp := fun vs H Q _ => ∃ (fp : Addr) (fs : List Str) (n : Nat), vs = [.ref fp, .int n] ∧ SqT K H fp (fs.map V.str) ∧ fs.length ≤ 100 ∧ ∀ H' p, Same H H' → H p = none → H' p = some (.tup ((caseOf fs n).map V.str)) → Q (.ref p) H'
theorem ok_case {f : Addr} {fd : FuncData} (F : Fun K "_law_case" "_law_case" s__law_case f fd) (B : Blt mg) : FnOk P w K mg base CX0 1 f fd ["_law_facts_here", "_law_number"] (sp_case K) := by
  refine F.ok sc__law_case (fun vs H Q E h => by obtain ⟨fp, fs, n, rfl, _⟩ := h; rfl) (fun cdv A outer s H vs Q E hr h => ?_)
  obtain ⟨fp, fs, n, rfl, hS, hl, q⟩ := h
  refine ⟨_, (pss_one (ps_ret (pe_callTy call_tuple_of (by rfl) B.b_tuple PyProof.Rows.boot_tuple (pa_cons (pe_lc (own := [("_law_k", 2)]) (g := gName 2) rfl sc__law_case.nd (pi_range1 (by rfl) B.b_range (pa_cons (pe_callB call_len_seq (by rfl) B.b_len PySem.boot_len (pa_cons (pv 0) pa_nil)) pa_nil)) (blkOk_by (own := [("_law_k", 2)]) (N := ["_law_facts_here", "_law_number", "_law_k"]) (sc := defScope s__law_case) (by decide +kernel)) (fun _ _ _ _ _ => (pg_name (i := 2) sc__law_case.nd rfl (Or.inl rfl))) (fun _ _ _ _ _ => (pts_.re (pts_one (pt_cmpR op_eq (pe_op op_mod (pe_callTy call_int1 (by rfl) B.b_int PyProof.Rows.boot_int (pa_cons (pe_op op_shr (pv 1) (pv 2)) pa_nil)) pe_int) pe_int (nomark _))) (by first | (dsimp only [Cx.blk]; done) | exact rfl))) (fun _ _ _ _ _ => (pe_.re (pe_ix ix_tup (pv 0) (pv 2) (fun _ _ => rfl)) (by first | (dsimp only [Cx.blk]; done) | exact rfl)))) pa_nil)))), ?_⟩
  refine ⟨.ref fp, rfl, fp, _, rfl, .inr hS, _, rfl, by rw [List.length_map]; omega, by rw [List.length_map]; omega, fun D nD => lc_it walk_range (fun i H' => Same H H' ∧ H' D = some (.lst ((caseOf (fs.take i) n).map V.str))) ⟨(Same.refl H).put nD, upd_same⟩ (fun _ _ _ _ => trivial) ?_ ?_⟩
  · rintro i y H2 H3 hi ⟨s, e⟩ ⟨rfl, hy⟩
    have hy : y = V.int (i : Nat) := by
      rw [hy]
      show V.int (0 + (i : Nat)) = _
      rw [Int.zero_add]
    subst hy
    have hi : i < fs.length := by simpa using hi
    have hx : fs[i]? = some fs[i] := List.getElem?_eq_getElem hi
    refine ⟨rfl, .int n, rfl, .int (i : Nat), rfl, n, i, rfl, rfl, by omega, .inl ⟨_, rfl, _, 2, rfl, rfl, (show (0 : Int) < 2 by decide), rfl, _, rfl, ?_⟩⟩
    rw [bit_eq]
    refine bcase (fun c1 => ?_) (fun c1 => ?_)
    · refine ⟨.ref fp, rfl, .int (i : Nat), rfl, fp, _, _, _, rfl, rfl, s.tup hS, atI_nat (strG hi), grow (acc := fun i => (caseOf (fs.take i) n).map V.str) nD s e ?_ ?_⟩
      · rw [List.length_map]
        refine small1000 (Nat.le_trans (caseOf_sub _ _).length_le ?_)
        rw [List.length_take]
        omega
      · show List.map V.str _ = _
        rw [caseOf_more fs n i _ hx, if_pos c1, List.map_append]
        rfl
    · refine ⟨s, ?_⟩
      rw [caseOf_more fs n i _ hx, if_neg (by rw [c1]; exact Bool.false_ne_true), List.append_nil]
      exact e
  · rintro H2 ⟨s, e⟩
    have el : ((fs.map V.str).length : Int).toNat = fs.length := by rw [List.length_map]; rfl
    first
      | rw [el, List.take_length] at e
      | (simp only [List.length_map, Int.toNat_natCast, List.take_length] at e)
    refine ⟨D, _, rfl, .inl ⟨sqL_of e, fun p np => q _ p (s.put' np) (s.free np) upd_same⟩⟩
/-- the cases with the numbers below n stand in a list -/
structure Cases (H : Hp) (p : Addr) (fs : List Str) (n : Nat) : Prop where
  at_ : ∃ ps : List Addr, ps.length = n ∧ H p = some (.lst (ps.map V.ref)) ∧ ∀ (k : Nat) (b : Addr), ps[k]? = some b → H b = some (.tup ((caseOf fs k).map V.str))
theorem Cases.same {p : Addr} {fs : List Str} {n : Nat} (c : Cases H p fs n) (s : Same H H') : Cases H' p fs n := by
  obtain ⟨ps, h1, h2, h3⟩ := c.at_
  exact ⟨ps, h1, s _ _ h2, fun k b e => s _ _ (h3 k b e)⟩
def sp_every (K : PySem.W.Frag) : Sp := fun vs H Q _ => ∃ (fp : Addr) (fs : List Str), vs = [.ref fp] ∧ SqT K H fp (fs.map V.str) ∧ fs.length ≤ 12 ∧ ∀ H' p, Same H H' → H p = none → Cases H' p fs (2 ^ fs.length) → Q (.ref p) H'
theorem ok_every {f : Addr} {fd : FuncData} (F : Fun K "_law_every" "_law_every" s__law_every f fd) (B : Blt mg) (c__law_case : Cal P w K mg base CX0 1 "_law_case" ["_law_facts_here", "_law_number"] (sp_case K)) : FnOk P w K mg base CX0 2 f fd ["_law_facts_here"] (sp_every K) := by
  refine F.ok sc__law_every (fun vs H Q E h => by obtain ⟨fp, fs, rfl, _⟩ := h; rfl) (fun cdv A outer s H vs Q E hr h => ?_)
  obtain ⟨fp, fs, rfl, hS, hl, q⟩ := h
  have hp : (1 : Int) * 2 ^ ((fs.map V.str).length : Int).toNat = ((2 ^ fs.length : Nat) : Int) := by
    rw [Int.one_mul, List.length_map, Int.toNat_natCast]
    push_cast
    rfl
  have hp2 : 2 ^ fs.length ≤ 4096 := (Nat.pow_le_pow_right (by decide) hl : 2 ^ fs.length ≤ 2 ^ 12)
  generalize 2 ^ fs.length = N at hp hp2 q
  refine ⟨_, (pss_one (ps_ret (pe_lc (own := [("_law_number", 1)]) (g := gName 1) (tt := tYes) rfl sc__law_every.nd (pi_range1 (by rfl) B.b_range (pa_cons (pe_op op_shl pe_int (pe_callB call_len_seq (by rfl) B.b_len PySem.boot_len (pa_cons (pv 0) pa_nil))) pa_nil)) (blkOk_by (own := [("_law_number", 1)]) (N := ["_law_facts_here", "_law_number"]) (sc := defScope s__law_every) (by decide +kernel)) (fun _ _ _ _ _ => (pg_name (i := 1) sc__law_every.nd rfl (Or.inl rfl))) (fun _ _ _ _ _ => pts_nil) (fun _ _ _ _ _ => (pe_.re (pe_cal c__law_case (hr.mono (by decide)) (pa_cons (pv 0) (pa_cons (pv 1) pa_nil))) (by first | (dsimp only [Cx.blk]; done) | exact rfl)))))), ?_⟩
  refine ⟨.ref fp, rfl, fp, _, rfl, .inr hS, 1, _, rfl, rfl, ⟨by omega, by rw [List.length_map]; omega, by decide⟩, _, rfl, by rw [hp]; omega, by rw [hp]; omega, ?_⟩
  rw [hp]
  refine fun D nD => lc_it walk_range (fun i H' => Same H H' ∧ Cases H' D fs i) ⟨(Same.refl H).put nD, ⟨[], rfl, upd_same, fun k b e => nomatch e⟩⟩ (fun _ _ _ _ => trivial) ?_ ?_
  · rintro i y H2 H3 hi ⟨s, c⟩ ⟨rfl, hy⟩
    have hy : y = V.int (i : Nat) := by
      rw [hy]
      show V.int (0 + (i : Nat)) = _
      rw [Int.zero_add]
    subst hy
    have hi : i < N := by simpa using hi
    refine ⟨rfl, yes_ ⟨.ref fp, rfl, .int (i : Nat), rfl, fp, fs, i, rfl, s.tup hS, by omega, fun H4 p s4 np ep => ?_⟩⟩
    have c4 := c.same s4
    obtain ⟨ps, h1, h2, h3⟩ := c4.at_
    have nDp : ∀ (b : Addr) (xs : List V), H4 b = some (.tup xs) → b ≠ D := fun b xs e z => by rw [z, h2] at e; cases e
    refine ⟨_, h2, by rw [List.length_map, sizeLine_eq]; omega, (s.trans s4).put nD, ps ++ [p], by rw [List.length_append, h1]; rfl, by rw [upd_same, List.map_append]; rfl, fun k b e => ?_⟩
    by_cases hk : k < ps.length
    · rw [List.getElem?_append_left hk] at e
      have h := h3 k b e
      rw [upd_ne (nDp _ _ h)]
      exact h
    · rw [List.getElem?_append_right (by omega)] at e
      have ek : k = i := by
        have := (List.getElem?_eq_some_iff.mp e).1
        rw [List.length_singleton] at this
        omega
      rw [ek, h1, Nat.sub_self] at e
      cases e
      rw [upd_ne (nDp _ _ ep), ek]
      exact ep
  · rintro H2 ⟨s, c⟩
    exact q H2 D s nD c
end
end Sc
namespace Sc
open PySem PySem.Spec PyProof.Rows L2
theorem sc__law_rules : FnScope ["_law_h", "_law_facts_here", "_law_counter", "_law_deep", "_law_wide", "_law_found", "_law_k", "_law_name", "_law_wanted", "_law_barred", "_law_ruling", "_law_inner"] ["_law_h", "_law_facts_here", "_law_counter", "_law_deep", "_law_wide"] (defScope s__law_rules) := ⟨rfl, rfl, rfl, by decide +kernel, rfl, by decide +kernel, by decide +kernel⟩
/-- a drawn rule -/
structure DNd (fs : List Str) (n : Nd) : Prop where
  parts : Parts fs n.hs n.fs 3
  rl : n.rl ∈ fourR
/-- drawn rules stand in a tuple at p: the names from the c-th on -/
structure Drawn (K : PySem.W.Frag) (H : Hp) (p : Addr) (fs : List Str) (c d : Nat) (f : RF) : Prop where
  at_ : ∃ vs, SqT K H p vs ∧ RowsAt K H f vs
  dr : f.every (DNd fs)
  nm : f.names = rnames c f.size
  le : c + f.size ≤ 24
  dp : f.dep ≤ d
/-- what a call of _law_rules asks and gives -/
def askRules (K : PySem.W.Frag) (d : Nat) (x0 x1 x2 x3 : V) (H : Hp) (d0 : Nat) (Q : VK) : Prop := ∃ (a l ct fp : Addr) (fs : List Str) (deep c : Nat), x0 = .ref a ∧ x1 = .ref fp ∧ x2 = .ref ct ∧ x3 = .int (deep : Nat) ∧ RS H a l ∧ SqT K H fp (fs.map V.str) ∧ fs.length ≤ 100 ∧ fs.Nodup ∧ H ct = some (.lst [.int (c : Nat)]) ∧ ct ≠ a ∧ ct ≠ l ∧ c ≤ 24 ∧ 1 ≤ deep ∧ deep ≤ d + 1 ∧
  ∀ H' p f, Kc a l ct H H' → Drawn K H' p fs c (deep - d0) f → H' ct = some (.lst [.int ((c + f.size : Nat) : Int)]) → H p = none → Q (.ref p) H'
def sp_rules (K : PySem.W.Frag) (d : Nat) : Sp := fun vs H Q _ => ∃ (x0 x1 x2 x3 : V) (wide : Nat), vs = [x0, x1, x2, x3, .int (wide : Nat)] ∧ wide ≤ 100 ∧ askRules K d x0 x1 x2 x3 H 0 Q
def tInner (K : PySem.W.Frag) (d : Nat) : TS := fun D σ H => ∃ x0 x1 x2 x3, σ[0]? = some (some x0) ∧ σ[1]? = some (some x1) ∧ σ[2]? = some (some x2) ∧ σ[3]? = some (some x3) ∧ askRules K d x0 x1 x2 x3 H 1 fun v H' => D.nx (σ.set 11 (some v)) H'
section
variable {P : Program} {w : World} {K : PySem.W.Frag} {mg : Str → Option Value} {base : Heap}
theorem ok_rules {d : Nat} {f : Addr} {fd : FuncData} (F : Fun K "_law_rules" "_law_rules" s__law_rules f fd) (B : Blt mg) (c__law_next : Cal P w K mg base CX0 1 "_law_next" ["_law_h", "_law_limit"] sp_next) (c__law_parts : Cal P w K mg base CX0 2 "_law_parts" ["_law_h", "_law_facts_here", "_law_most"] (sp_parts K))
    (c__law_rules : Cal P w K mg base CX0 (d + 2) "_law_rules" ["_law_h", "_law_facts_here", "_law_counter", "_law_deep", "_law_wide"] (Below (sp_rules K) d)) :
    FnOk P w K mg base CX0 (d + 3) f fd ["_law_h", "_law_facts_here", "_law_counter", "_law_deep", "_law_wide"] (sp_rules K d) := by
  refine F.ok sc__law_rules (fun vs H Q E h => by obtain ⟨x0, x1, x2, x3, wide, rfl, _⟩ := h; rfl) (fun cdv A outer s H vs Q E hr h => ?_)
  obtain ⟨x0, x1, x2, x3, wide, rfl, hw, a, l, ct, fp, fs, deep, c, rfl, rfl, rfl, rfl, R, hS, hl, nd, hct, ca, cl, hc, d1, d2, q⟩ := h
  refine ⟨_, (pss_cons (ps_set (i := 5) sc__law_rules.nd rfl (Or.inl rfl) (pe_lst pa_nil))
      (pss_cons (ps_for PassesOwn.never rfl (pi_range1 (by rfl) B.b_range (pa_cons (pe_cal c__law_next (hr.mono (by omega)) (pa_cons (pv 0) (pa_cons (pe_op op_add (pv 4) pe_int) pa_nil))) pa_nil)) (pg_name (i := 6) sc__law_rules.nd rfl (Or.inl rfl)) (pss_one (ps_if (pt_cmpR op_lt (pe_ix ix_list (pv 2) pe_int (fun _ _ => rfl)) pe_int (nomark _)) (pss_cons (ps_set (i := 7) sc__law_rules.nd rfl (Or.inl rfl) (pe_op op_add_str pe_str (pe_ix ix_str pe_str (pe_ix ix_list (pv 2) pe_int (fun _ _ => rfl)) (fun _ _ => rfl))))
      (pss_cons (ps_augS (pv 2) pe_int get_list pe_int ip_add set_list)
      (pss_cons (ps_asg (pe_cal c__law_parts (hr.mono (by omega)) (pa_cons (pv 0) (pa_cons (pv 1) (pa_cons (pe_op op_add pe_int (pe_cal c__law_next (hr.mono (by omega)) (pa_cons (pv 0) (pa_cons pe_int pa_nil)))) pa_nil)))) (pg_tup (by rfl) (pgs_cons (pg_name (i := 8) sc__law_rules.nd rfl (Or.inl rfl)) (pgs_cons (pg_name (i := 9) sc__law_rules.nd rfl (Or.inl rfl)) pgs_nil))))
      (pss_cons (ps_set (i := 10) sc__law_rules.nd rfl (Or.inl rfl) (pe_ix ix_list (pe_lst (pa_cons pe_str (pa_cons pe_str (pa_cons pe_str (pa_cons pe_str pa_nil))))) (pe_cal c__law_next (hr.mono (by omega)) (pa_cons (pv 0) (pa_cons pe_int pa_nil))) (fun _ _ => rfl)))
      (pss_cons (wk_ps (tInner K d) (ps_set (i := 11) sc__law_rules.nd rfl (Or.inl rfl) (pe_ifExp (PW.pt (pw_and (pt_cmpR op_gt (pv 3) pe_int (nomark _)) (pw_and1 (pt_cmpR op_eq (pe_cal c__law_next (hr.mono (by omega)) (pa_cons (pv 0) (pa_cons pe_int pa_nil))) pe_int (nomark _))))) (pe_cal c__law_rules hr (pa_cons (pv 0) (pa_cons (pv 1) (pa_cons (pv 2) (pa_cons (pe_op op_sub (pv 3) pe_int) (pa_cons pe_int pa_nil)))))) (pe_tup pa_nil))) ?wi)
      (pss_one (ps_expr (pe_bm PySem.F.plainAttrs_list PySem.F.slot_list_append PySem.F.type_list_append mt_append (pv 5) (pa_cons (pe_tup (pa_cons (pv 7) (pa_cons (pv 8) (pa_cons (pv 9) (pa_cons (pv 10) (pa_cons (pv 11) pa_nil)))))) pa_nil))))))))) pss_nil)))
      (pss_one (ps_ret (pe_callTy call_tuple_of (by rfl) B.b_tuple PyProof.Rows.boot_tuple (pa_cons (pv 5) pa_nil)))))), ?_⟩
  case wi =>
    rintro D σ H1 ⟨x0, x1, x2, x3, g0, g1, g2, g3, a, l, ct, fp, fs, deep, c, rfl, rfl, rfl, rfl, R, hS, hl, nd, hct, ca, cl, hc, d1, d2, q⟩
    have none' : ∀ H2, Kp a l H1 H2 → ∀ t, H2 t = none → D.nx (σ.set 11 (some (.ref t))) (upd H2 t (.tup [])) := fun H2 k t nt =>
      q _ t .nil ((Kp.kc k).same ((Same.refl H2).put nt)) ⟨⟨[], sqT_new, rfl⟩, trivial, rfl, by show c + 0 ≤ 24; omega, Nat.zero_le _⟩ (by rw [upd_ne (ne_of_none (k.keep _ _ ca cl hct) nt)]; exact k.keep _ _ ca cl hct) (k.free nt)
    refine ⟨_, g3, deep, 1, rfl, rfl, _, rfl, bcase (fun c1 => ?_) (fun c1 => ?_)⟩
    · have c1 : 1 < deep := by have := of_decide_eq_true c1; omega
      refine ⟨_, g0, a, l, 2, rfl, R, by omega, small_lim (by omega) (by omega), fun H2 r k2 r0 r1 => ⟨rfl, _, rfl, bcase (fun c2 => ?_) (fun c2 => ?_)⟩⟩
      · obtain ⟨d, rfl⟩ : ∃ d', d = d' + 1 := ⟨d - 1, by omega⟩
        refine ⟨_, g0, _, g1, _, g2, _, g3, deep, 1, rfl, rfl, ?_⟩
        refine ⟨_, _, _, _, 3, rfl, by decide, a, l, ct, fp, fs, deep - 1, c, rfl, rfl, rfl, (by show V.int _ = V.int _; congr 1; omega), k2.new, k2.tup hS, hl, nd, k2.keep _ _ ca cl hct, ca, cl, hc, by omega, by omega, fun H' p f kc df hct' np => ?_⟩
        exact q H' p f ((Kp.kc k2).trans kc) df hct' (k2.free np)
      · exact ⟨Nat.zero_le _, fun t nt => none' H2 k2 t nt⟩
    · exact ⟨Nat.zero_le _, fun t nt => none' H1 (Kp.refl R) t nt⟩
  refine ⟨Nat.zero_le _, fun lf nlf => ?_⟩
  obtain ⟨fa, fl⟩ := R.no nlf
  have fc : lf ≠ ct := fun z => by rw [z, hct] at nlf; cases nlf
  have k0 : Kc a l ct H (upd H lf (.lst [])) := .of R ((Same.refl H).put nlf)
  have e0 : (upd H lf (.lst [])) lf = some (.lst []) := upd_same
  have ect0 : (upd H lf (.lst [])) ct = some (.lst [.int (c : Nat)]) := by rw [upd_ne fc.symm]; exact hct
  generalize upd H lf (.lst []) = H0 at k0 e0 ect0 ⊢
  refine ⟨_, rfl, _, rfl, wide, 1, rfl, rfl, a, l, _, rfl, k0.new, by omega, small_lim (by omega) (by omega), fun H1 r k1 r0 r1 => ?_⟩
  obtain ⟨m, rfl⟩ := Int.eq_ofNat_of_zero_le r0
  refine ⟨_, rfl, by omega, by omega, for_it walk_range (fun i σ H' => ∃ (g : RF) (vs : List V) (y6 y7 y8 y9 y10 y11 : Option V), σ = [some (.ref a), some (.ref fp), some (.ref ct), some (.int (deep : Nat)), some (.int (wide : Nat)), some (.ref lf), y6, y7, y8, y9, y10, y11] ∧ Kc a l ct H H' ∧ H' lf = some (.lst vs) ∧ RowsAt K H' g vs ∧ g.every (DNd fs) ∧
      g.names = rnames c g.size ∧ c + g.size ≤ 24 ∧ g.dep ≤ deep ∧ H' ct = some (.lst [.int ((c + g.size : Nat) : Int)]))
    ⟨.nil, [], none, none, none, none, none, none, rfl, k0.trans (Kp.kc k1), k1.keep _ _ fa fl e0, rfl, trivial, rfl, hc, Nat.zero_le _, k1.keep _ _ ca cl ect0⟩ (fun _ _ _ _ _ => trivial) ?_ ?_⟩
  · rintro i y σ H3 H2 hi ⟨g, vs, y6, y7, y8, y9, y10, y11, rfl, kc, elf, hR, hdr, hnm, hle, hdp, ect⟩ ⟨rfl, hy⟩
    refine ⟨_, rfl, ct, _, 0, _, rfl, rfl, sqL_of ect, atI_nat (j := 0) rfl, _, 24, rfl, rfl, _, rfl, bcase (fun c1 => ?_) (fun c1 => ?_)⟩
    · have c1 : c + g.size < 24 := by have := of_decide_eq_true c1; omega
      have hgd : letters.cps.toList[c + g.size]? = some (letters.cps.toList.getD (c + g.size) 0) := by
        have hL : letters.cps.toList.length = 26 := by decide +kernel
        rw [List.getD_eq_getElem?_getD, List.getElem?_eq_getElem (by omega)]
        rfl
      refine ⟨_, rfl, ct, _, 0, _, rfl, rfl, sqL_of ect, atI_nat (j := 0) rfl, letters, _, letters.cps.toList.getD (c + g.size) 0, rfl, rfl, by rw [sizeLine_eq]; decide +kernel, atI_nat hgd, ?_⟩
      refine ⟨_, _, rfl, rfl, by rw [sizeLine_eq]; show (Str.ofString "r").length + 1 ≤ _; decide, ?_⟩
      refine ⟨_, rfl, ct, _, 0, _, rfl, rfl, sqL_of ect, rfl, _, 1, rfl, rfl, ct, _, 0, 0, rfl, rfl, ect, rfl, ?_⟩
      have kc3 : Kc a l ct H2 (upd H2 ct (.lst [.int ((c + g.size : Nat) + 1 : Int)])) := (Kc.of kc.new (Same.refl H2)).count ca cl
      have ect3 : (upd H2 ct (.lst [.int ((c + g.size : Nat) + 1 : Int)])) ct = some (.lst [.int ((c + g.size : Nat) + 1 : Int)]) := upd_same
      have elf3 : (upd H2 ct (.lst [.int ((c + g.size : Nat) + 1 : Int)])) lf = some (.lst vs) := by rw [upd_ne fc]; exact elf
      refine ⟨_, rfl, _, rfl, _, rfl, a, l, 3, rfl, kc3.new, by decide, small_lim (by decide) (by decide), fun H4 r2 k4 r20 r21 => ?_⟩
      have ect4 := k4.keep _ _ ca cl ect3
      have elf4 := k4.keep _ _ fa fl elf3
      have kc4 := kc3.trans (Kp.kc k4)
      refine ⟨1, r2, rfl, rfl, a, l, fp, fs, _, rfl, kc4.new, (kc.trans kc4).keeps hct |>.tup hS, hl, nd, by omega, by omega, fun H5 p5 pw pb ws bs k5 np npw npb ep epw epb pt => ?_⟩
      have ect5 := k5.keep _ _ ca cl ect4
      have elf5 := k5.keep _ _ fa fl elf4
      have kc5 := kc4.trans (Kp.kc k5)
      refine ⟨p5, [.ref pw, .ref pb], rfl, sqT_of ep, rfl, _, _, rfl, _, _, rfl, rfl, ?_⟩
      refine ⟨(by show 4 ≤ sizeLine; decide), fun lp nlp => ?_⟩
      have s6 : Same H5 (upd H5 lp (.lst (fourR.map V.str))) := (Same.refl H5).put nlp
      have elp : (upd H5 lp (.lst (fourR.map V.str))) lp = some (.lst (fourR.map V.str)) := upd_same
      obtain ⟨la, ll⟩ := kc5.new.no nlp
      have kc6 := kc5.same s6
      refine ⟨_, rfl, a, l, 4, rfl, kc6.new, by decide, small_lim (by decide) (by decide), fun H7 r3 k7 r30 r31 => ?_⟩
      obtain ⟨j, rfl⟩ := Int.eq_ofNat_of_zero_le r30
      have hj : j < fourR.length := by show j < 4; omega
      have elp7 := k7.keep _ _ la ll elp
      refine ⟨lp, _, _, .str fourR[j], rfl, rfl, sqL_of elp7, atI_nat (j := j) (by rw [List.getElem?_map, List.getElem?_eq_getElem hj]; rfl), ?_⟩
      have ect7 := k7.keep _ _ ca cl (s6 _ _ ect5)
      have elf7 := k7.keep _ _ fa fl (s6 _ _ elf5)
      have kc7 := kc6.trans (Kp.kc k7)
      have kp57 : Keeps NoL H5 H7 := s6.keeps.trans k7.keepsN
      refine ⟨_, _, _, _, rfl, rfl, rfl, rfl, a, l, ct, fp, fs, deep, c + g.size + 1, rfl, rfl, rfl, rfl, kc7.new, (kc.trans kc7).keeps hct |>.tup hS, hl, nd, ect7, ca, cl, by omega, d1, d2, fun H8 pi gi kc8 df ect8 npi => ?_⟩
      have elf8 := kc8.keep _ _ fa fl fc elf7
      have kp58 := kp57.trans (kc8.keeps ect7)
      have kc28 := kc7.trans kc8
      refine ⟨_, rfl, .inl ⟨rfl, _, sqL_of elf8⟩, _, rfl, _, rfl, _, rfl, _, rfl, _, rfl, (by show 5 ≤ sizeLine; decide), fun t nt => ?_⟩
      have s9 : Same H8 (upd H8 t (.tup [.str (rn (c + g.size)), .ref pw, .ref pb, .str fourR[j], .ref pi])) := (Same.refl H8).put nt
      have e9 : (upd H8 t (.tup [.str (rn (c + g.size)), .ref pw, .ref pb, .str fourR[j], .ref pi])) t = some (.tup [.str (rn (c + g.size)), .ref pw, .ref pb, .str fourR[j], .ref pi]) := upd_same
      have elf9 := s9 _ _ elf8
      have hln := hR.len
      have hln2 := RF.nodes_le g
      refine ⟨lf, _, _, rfl, rfl, elf9, small1000 (by omega), ?_⟩
      have k10 : Keeps NoL H8 (upd (upd H8 t (.tup [.str (rn (c + g.size)), .ref pw, .ref pb, .str fourR[j], .ref pi])) lf (.lst (vs ++ [.ref t]))) := s9.keeps.trans (keeps_own elf9 id)
      have k9 : Keeps NoL (upd H8 t (.tup [.str (rn (c + g.size)), .ref pw, .ref pb, .str fourR[j], .ref pi])) (upd (upd H8 t (.tup [.str (rn (c + g.size)), .ref pw, .ref pb, .str fourR[j], .ref pi])) lf (.lst (vs ++ [.ref t]))) := keeps_own elf9 id
      obtain ⟨us, hpi, hgi⟩ := df.at_
      have hle8 := df.le
      have hdp8 := df.dp
      refine ⟨g.snoc ⟨rn (c + g.size), ws, bs, fourR[j], gi⟩, vs ++ [.ref t], _, _, _, _, _, _, rfl, ((kc.trans kc28).same s9).put0 nlf, upd_same, rows_snoc (hR.keeps ((kc28.keeps ect).trans k10)) ?_, RF.snoc_every hdr ?_ df.dr, ?_, ?_, ?_, ?_⟩
      · exact ⟨t, pw, pb, pi, us, rfl, k9.tup (sqT_of e9), (kp58.trans k10).tup (sqT_of epw), (kp58.trans k10).tup (sqT_of epb), k10.tup hpi, hgi.keeps k10⟩
      · exact ⟨⟨pt.s1, pt.s2, pt.dj, Int.le_trans pt.le (by omega), pt.l8⟩, List.getElem_mem hj⟩
      · rw [RF.snoc_names, hnm]
        show rnames c g.size ++ rn (c + g.size) :: gi.names = _
        rw [df.nm, rnames_one, rnames_app, RF.snoc_size]
      · rw [RF.snoc_size]
        show c + (g.size + (gi.size + 1)) ≤ 24
        omega
      · rw [RF.snoc_dep]
        show max g.dep (gi.dep + 1) ≤ deep
        omega
      · rw [upd_ne fc.symm]
        refine (s9 _ _ ect8).trans ?_
        rw [RF.snoc_size]
        show some (HO.lst [V.int ((c + g.size + 1 + gi.size : Nat) : Int)]) = some (HO.lst [V.int ((c + (g.size + (gi.size + 1)) : Nat) : Int)])
        congr 4
        omega
    · exact ⟨g, vs, _, _, _, _, _, _, rfl, kc, elf, hR, hdr, hnm, hle, hdp, ect⟩
  · rintro σ H2 ⟨g, vs, y6, y7, y8, y9, y10, y11, rfl, kc, elf, hR, hdr, hnm, hle, hdp, ect⟩
    refine ⟨_, rfl, lf, _, rfl, .inl ⟨sqL_of elf, fun t nt => ?_⟩⟩
    have s3 : Same H2 (upd H2 t (.tup vs)) := (Same.refl H2).put nt
    exact q _ t g (kc.same s3) ⟨⟨vs, sqT_new, hR.keeps (N := NoL) s3.keeps⟩, hdr, hnm, hle, hdp⟩ (s3 _ _ ect) (kc.free ect nt)
end
end Sc
namespace Sc
open PySem PySem.Spec PyProof.Rows L2
/-! ### what a book is asked -/
theorem sc_Book___contains__ : FnScope ["self", "name", "rule"] ["self", "name"] (defScope s_Book___contains__) := ⟨rfl, rfl, rfl, by decide +kernel, rfl, by decide +kernel, by decide +kernel⟩
theorem sc_Book___getitem__ : FnScope ["self", "name", "rule"] ["self", "name"] (defScope s_Book___getitem__) := ⟨rfl, rfl, rfl, by decide +kernel, rfl, by decide +kernel, by decide +kernel⟩
theorem decV_str {a b : Str} : decide (V.str a = V.str b) = decide (a = b) := by
  rw [decide_eq_decide]
  exact ⟨V.str.inj, fun h => by rw [h]⟩
section
variable {P : Program} {w : World} {K : PySem.W.Frag} {mg : Str → Option Value} {base : Heap} {C R B CF CB CU : Addr}
def sp_contains (K : PySem.W.Frag) (C R B : Addr) : Sp := fun vs H Q _ => ∃ (N : Addr → Prop) (o : Addr) (xs : List Str) (f : RF) (rl nm : Str), vs = [.ref o, .str nm] ∧ BookAt K C R B N H o xs f rl ∧ f.size ≤ 900 ∧ ∀ H', Same H H' → Q (.bl (decide (nm ∈ f.names))) H'
theorem ok_contains {f : Addr} {fd : FuncData} (F : Fun K "__contains__" "Book.__contains__" s_Book___contains__ f fd) (Bl : Blt mg) (T : Cls K B) (n4 : NoAttr K B "_numbered") (kR : RuleX P w K mg base R) :
    FnOk P w K mg base CX0 3 f fd ["self", "name"] (sp_contains K C R B) := by
  refine F.ok sc_Book___contains__ (fun vs H Q E h => by obtain ⟨N, o, xs, f, rl, nm, rfl, _⟩ := h; rfl) (fun cdv A outer s H vs Q E hr h => ?_)
  obtain ⟨N, o, xs, f, rl, nm, rfl, ⟨dx, a, p, l, ws, us, ho, hS, hP, hF, ⟨nl, hl⟩, hus⟩, hz, q⟩ := h
  have hlen := hus.len
  rw [List.length_map, RF.pre_len] at hlen
  refine ⟨_, (pss_one (ps_ret (pe_callB (cr_any rfl) (by rfl) Bl.b_any (by decide +kernel) (pa_cons (pe_lc (own := [("rule", 2)]) (g := gName 2) (tt := tYes) rfl sc_Book___contains__.nd (pi_list (pe_fld (pv 0) rfl)) (blkOk_by (own := [("rule", 2)]) (N := ["self", "name", "rule"]) (sc := defScope s_Book___contains__) (by decide +kernel)) (fun _ _ _ _ _ => (pg_name (i := 2) sc_Book___contains__.nd rfl (Or.inl rfl))) (fun _ _ _ _ _ => pts_nil) (fun _ _ _ _ _ => (pe_.re (pe_cmpR op_eq (pe_cprop kR.name kR.cls (hr.mono (by decide)) (pv 2)) (pv 1) (nomark _)) (by first | (dsimp only [Cx.blk]; done) | exact rfl)))) pa_nil)))), ?_⟩
  refine ⟨_, rfl, o, B, dx, _, _, rfl, ho, T, n4, rfl, l, rfl, ⟨_, sqL_of hl⟩, fun D nD => lc_it walk_list (fun i H' => Same H H' ∧ H' D = some (.lst ((((f.pre 0).map fun q => q.1).take i).map fun n => V.bl (decide (n.nm = nm))))) ⟨(Same.refl H).put nD, upd_same⟩ (fun _ _ _ h => sqL_of (h.1 _ _ hl)) ?_ ?_⟩
  · rintro i y H2 H3 hi ⟨s, e⟩ ⟨rfl, hy⟩
    obtain ⟨n, hn, o', rfl, hN⟩ := hus.get hy
    obtain ⟨dx', c', pe', l', ws', ho', _⟩ := hN.keeps (N := N) s.keeps
    refine ⟨rfl, yes_ ⟨_, rfl, o', dx', _, rfl, ho', o', dx', _, _, rfl, ho', rfl, _, rfl, rfl, ?_⟩⟩
    refine grow (acc := fun i => (((f.pre 0).map fun q => q.1).take i).map fun n => V.bl (decide (n.nm = nm))) nD s e ?_ ?_
    · rw [List.length_map, List.length_take, List.length_map, RF.pre_len]
      exact small1000 (by omega)
    · show List.map _ _ = List.map _ _ ++ _
      rw [take_more hn, List.map_append, decV_str]
      rfl
  rintro H2 ⟨s, e⟩
  rw [hus.len, List.take_length] at e
  refine ⟨D, ((f.pre 0).map fun q => q.1).map fun n => decide (n.nm = nm), rfl, sqL_of (by rw [e]; simp only [List.map_map]; rfl), ?_⟩
  have h := q H2 s
  rw [show decide (nm ∈ f.names) = (((f.pre 0).map fun q => q.1).map fun n => decide (n.nm = nm)).any id by
    rw [List.any_map, List.any_map, Bool.eq_iff_iff, decide_eq_true_iff, List.any_eq_true]
    unfold RF.names
    rw [List.mem_map]
    exact ⟨fun ⟨q, hq, e⟩ => ⟨q, hq, decide_eq_true e⟩, fun ⟨q, hq, e⟩ => ⟨q, hq, of_decide_eq_true e⟩⟩] at h
  exact h
/-- the first rule of a name -/
def RF.find (f : RF) (nm : Str) : Option Nd := ((f.pre 0).map fun q => q.1).find? fun n => decide (n.nm = nm)
def sp_getitem (K : PySem.W.Frag) (C R B CU : Addr) : Sp := fun vs H Q E => ∃ (N : Addr → Prop) (o : Addr) (xs : List Str) (f : RF) (rl nm : Str), vs = [.ref o, .str nm] ∧ BookAt K C R B N H o xs f rl ∧ f.size ≤ 900 ∧
  (∀ n v, f.find nm = some n → RefAt K C R N H v n → Q v H) ∧ (f.find nm = none → ∀ H', Same H H' → E (.ref CU) none H')
theorem ok_getitem {f : Addr} {fd : FuncData} (F : Fun K "__getitem__" "Book.__getitem__" s_Book___getitem__ f fd) (Bl : Blt mg) (T : Cls K B) (n4 : NoAttr K B "_numbered") (kR : RuleX P w K mg base R) (e_UnknownRule : ErrMk0 K mg "UnknownRule" CU) :
    FnOk P w K mg base (L2.CX P w) 3 f fd ["self", "name"] (sp_getitem K C R B CU) := by
  refine F.okX sc_Book___getitem__ (fun vs H Q E h => by obtain ⟨N, o, xs, f, rl, nm, rfl, _⟩ := h; rfl) (fun cdv A outer s H vs Q E hr h => ?_)
  obtain ⟨N, o, xs, f, rl, nm, rfl, ⟨dx, a, p, l, ws, us, ho, hS, hP, hF, ⟨nl, hl⟩, hus⟩, hz, q, er⟩ := h
  have hlen := hus.len
  rw [List.length_map, RF.pre_len] at hlen
  refine ⟨_, (pss_cons (ps_for (passes_of rfl) rfl (pi_list (pe_fld (pv 0) rfl)) (pg_name (i := 2) sc_Book___getitem__.nd rfl (Or.inl rfl)) (pss_one (ps_if (pt_cmpR op_eq (pe_cprop kR.name kR.cls (hr.mono (by decide)) (pv 2)) (pv 1) (nomark _)) (pss_one (ps_ret (pv 2))) pss_nil)))
      (pss_one (ps_raise rfl (takes_of rfl rfl rfl rfl) (pmk_err0 e_UnknownRule)))), ?_⟩
  refine ⟨_, rfl, o, B, dx, _, _, rfl, ho, T, n4, rfl, l, rfl, ⟨_, sqL_of hl⟩, for_it walk_list (fun i σ H' => ∃ y, σ = [some (.ref o), some (.str nm), y] ∧ H' = H ∧ ∀ (j : Nat) (n : Nd), j < i → ((f.pre 0).map fun q => q.1)[j]? = some n → n.nm ≠ nm) ⟨none, rfl, rfl, fun j n hj => absurd hj (Nat.not_lt_zero j)⟩ (fun _ _ _ _ ⟨_, _, e, _⟩ => by rw [e]; exact sqL_of hl) ?_ ?_⟩
  · rintro i y σ H2 H3 hi ⟨y', rfl, rfl, hne⟩ ⟨rfl, hy⟩
    obtain ⟨n, hn, o', rfl, hN⟩ := hus.get hy
    have hR : RefAt K C R N _ (.ref o') n := ⟨o', rfl, hN⟩
    obtain ⟨dx', c', pe', l', ws', ho', _⟩ := hN
    refine ⟨_, rfl, o', dx', _, rfl, ho', o', dx', _, _, rfl, ho', rfl, _, rfl, rfl, _, rfl, bcase (fun c1 => ?_) (fun c1 => ?_)⟩
    · have c1 := V.str.inj (of_decide_eq_true c1)
      refine ⟨_, rfl, q n _ ?_ hR⟩
      unfold RF.find
      rw [List.find?_eq_some_iff_getElem]
      obtain ⟨hil, e⟩ := List.getElem?_eq_some_iff.mp hn
      refine ⟨decide_eq_true c1, i, hil, e, fun j hj => ?_⟩
      rw [decide_eq_false (hne j _ hj (List.getElem?_eq_getElem (by omega)))]
      rfl
    · have c1 : n.nm ≠ nm := fun z => of_decide_eq_false c1 (by rw [z])
      refine ⟨_, rfl, rfl, fun j m hj hm => ?_⟩
      by_cases hji : j < i
      · exact hne j m hji hm
      · have e : j = i := by omega
        subst e
        rw [hn] at hm
        cases hm
        exact c1
  · rintro σ H2 ⟨y', rfl, rfl, hne⟩
    refine er ?_ H2 (Same.refl H2)
    unfold RF.find
    rw [List.find?_eq_none]
    intro m hm
    obtain ⟨j, hj, e⟩ := List.getElem_of_mem hm
    rw [decide_eq_false (hne j m (by rw [hus.len]; exact hj) (by rw [List.getElem?_eq_getElem hj, e]))]
    exact Bool.false_ne_true
end
end Sc
namespace Sc
open PySem PySem.Spec PyProof.Rows L2
theorem sc_path_to : FnScope ["rules", "name", "rule", "inner"] ["rules", "name"] (defScope s_path_to) := ⟨rfl, rfl, rfl, by decide +kernel, rfl, by decide +kernel, by decide +kernel⟩
theorem sc_next_beside : FnScope ["book", "name", "path", "beside", "place", "rule"] ["book", "name"] (defScope s_next_beside) := ⟨rfl, rfl, rfl, by decide +kernel, rfl, by decide +kernel, by decide +kernel⟩
/-- the way to a rule -/
def RF.path (nm : Str) : RF → List Nd
  | .nil => []
  | .cons n hs fs rl exc rest => if n = nm then [⟨n, hs, fs, rl, exc⟩] else if RF.path nm exc = [] then RF.path nm rest else ⟨n, hs, fs, rl, exc⟩ :: RF.path nm exc
theorem RF.path_len : ∀ (f : RF) (nm : Str), (f.path nm).length ≤ f.size
  | .nil, _ => Nat.le_refl 0
  | .cons n hs fs rl exc rest, nm => by
    have h1 := RF.path_len exc nm
    have h2 := RF.path_len rest nm
    show (if n = nm then _ else if RF.path nm exc = [] then RF.path nm rest else _).length ≤ exc.size + 1 + rest.size
    split
    · show 1 ≤ _; omega
    · split
      · omega
      · rw [List.length_cons]; omega
/-- such a rule is not on the way -/
def Off (nm : Str) (n : Nd) : Prop := n.nm ≠ nm ∧ n.exc.path nm = []
theorem RF.path_none {nm : Str} : ∀ {f : RF}, (∀ n ∈ f.nodes, Off nm n) → f.path nm = []
  | .nil, _ => rfl
  | .cons n hs fs rl exc rest, h => by
    obtain ⟨h1, h2⟩ := h ⟨n, hs, fs, rl, exc⟩ List.mem_cons_self
    show (if n = nm then _ else if RF.path nm exc = [] then RF.path nm rest else _) = _
    rw [if_neg h1, if_pos h2]
    exact RF.path_none fun m hm => h m (List.mem_cons_of_mem _ hm)
theorem RF.path_at {nm : Str} : ∀ {f : RF} {i : Nat} {n : Nd}, f.nodes[i]? = some n → (∀ (j : Nat) (m : Nd), j < i → f.nodes[j]? = some m → Off nm m) → ¬ Off nm n → f.path nm = if n.nm = nm then [n] else n :: n.exc.path nm
  | .nil, i, n, h, _, _ => by cases i <;> cases h
  | .cons x hs fs rl exc rest, 0, n, h, _, no => by
    cases h
    show (if x = nm then _ else if RF.path nm exc = [] then _ else _) = (if x = nm then _ else _)
    by_cases e : x = nm
    · rw [if_pos e, if_pos e]
    · rw [if_neg e, if_neg e, if_neg fun z => no ⟨e, z⟩]
  | .cons x hs fs rl exc rest, i + 1, n, h, off, no => by
    obtain ⟨h1, h2⟩ := off 0 ⟨x, hs, fs, rl, exc⟩ (Nat.zero_lt_succ i) rfl
    show (if x = nm then _ else if RF.path nm exc = [] then RF.path nm rest else _) = _
    rw [if_neg h1, if_pos h2]
    exact RF.path_at (i := i) h (fun j m hj hm => off (j + 1) m (by omega) hm) no
section
variable {P : Program} {w : World} {K : PySem.W.Frag} {mg : Str → Option Value} {base : Heap} {C R B CF CB CU CN : Addr}
def sp_path (K : PySem.W.Frag) (C R : Addr) (d : Nat) : Sp := fun vs H Q _ => ∃ (N : Addr → Prop) (p : Addr) (nm : Str) (ws : List V) (f : RF), vs = [.ref p, .str nm] ∧ SqT K H p ws ∧ ForAt K C R N H f ws ∧ f.dep ≤ d ∧ f.size ≤ 900 ∧
  ∀ H' D us, Same H H' → H' D = some (.lst us) → All2 (RefAt K C R N H') us (f.path nm) → Q (.ref D) H'
theorem ok_path {d : Nat} {f : Addr} {fd : FuncData} (F : Fun K "path_to" "path_to" s_path_to f fd) (kR : RuleX P w K mg base R) (c_path_to : Cal P w K mg base CX0 (d + 2) "path_to" ["rules", "name"] (Below (sp_path K C R) d)) :
    FnOk P w K mg base CX0 (d + 3) f fd ["rules", "name"] (sp_path K C R d) := by
  refine F.ok sc_path_to (fun vs H Q E h => by obtain ⟨N, p, nm, ws, f, rfl, _⟩ := h; rfl) (fun cdv A outer s H vs Q E hr h => ?_)
  obtain ⟨N, p, nm, ws, f, rfl, hP, hF, hd, hz, q⟩ := h
  have hA := hF.all
  have hln := hA.len
  refine ⟨_, (pss_cons (ps_for PassesOwn.never rfl (pi_tup (pv 0)) (pg_name (i := 2) sc_path_to.nd rfl (Or.inl rfl)) (pss_cons (ps_if (pt_cmpR op_eq (pe_cprop kR.name kR.cls (hr.mono (by omega)) (pv 2)) (pv 1) (nomark _)) (pss_one (ps_ret (pe_lst (pa_cons (pv 2) pa_nil)))) pss_nil)
      (pss_cons (ps_set (i := 3) sc_path_to.nd rfl (Or.inl rfl) (pe_cal c_path_to hr (pa_cons (pe_cprop kR.exceptions kR.cls (hr.mono (by omega)) (pv 2)) (pa_cons (pv 1) pa_nil))))
      (pss_one (ps_if (pt_tru (pv 3) (by intro _; rfl)) (pss_one (ps_ret (pe_op op_cat (pe_lst (pa_cons (pv 2) pa_nil)) (pv 3)))) pss_nil)))))
      (pss_one (ps_ret (pe_lst pa_nil)))), ?_⟩
  refine ⟨_, rfl, p, rfl, ⟨_, hP⟩, for_it walk_tup (fun i σ H' => ∃ y2 y3, σ = [some (.ref p), some (.str nm), y2, y3] ∧ Same H H' ∧ ∀ (j : Nat) (m : Nd), j < i → f.nodes[j]? = some m → Off nm m)
    ⟨none, none, rfl, Same.refl H, fun j m hj => absurd hj (Nat.not_lt_zero j)⟩ (fun _ _ _ _ ⟨_, _, _, s, _⟩ => s.tup hP) ?_ ?_⟩
  · rintro i y σ H3 H2 hi ⟨y2, y3, rfl, s, hoff⟩ ⟨rfl, hy⟩
    obtain ⟨n, hn, o, rfl, hN⟩ := hA.get hy
    have hmem : n ∈ f.nodes := List.mem_of_getElem? hn
    have hdm := RF.dep_mem f n hmem
    have hsm := RF.size_mem f n hmem
    obtain ⟨d, rfl⟩ : ∃ d', d = d' + 1 := ⟨d - 1, by omega⟩
    have hR : RefAt K C R N _ (.ref o) n := ⟨o, rfl, hN.keeps (N := N) s.keeps⟩
    obtain ⟨dx', c', pe', l', ws', ho', hc', hpe', hle', hfe'⟩ := hN.keeps (N := N) s.keeps
    refine ⟨_, rfl, o, dx', _, rfl, ho', o, dx', _, _, rfl, ho', rfl, _, rfl, rfl, _, rfl, bcase (fun c1 => ?_) (fun c1 => ?_)⟩
    · have c1 : n.nm = nm := V.str.inj (of_decide_eq_true c1)
      refine ⟨_, rfl, (by show 1 ≤ sizeLine; decide), fun D nD => ?_⟩
      have s9 := (Same.refl _).put (o := .lst [.ref o]) nD
      refine q _ D [.ref o] (s.trans s9) upd_same ?_
      rw [RF.path_at hn hoff (fun z => z.1 c1), if_pos c1]
      exact .one (hR.keeps (N := N) s9.keeps)
    have c1 : n.nm ≠ nm := fun z => of_decide_eq_false c1 (by rw [z])
    refine ⟨_, rfl, o, dx', _, rfl, ho', o, dx', _, _, rfl, ho', rfl, _, rfl, N, pe', nm, ws', n.exc, rfl, hpe', hfe', by omega, by omega, fun H5 D us s5 eD hu => ?_⟩
    refine ⟨_, rfl, _, .inl ⟨_, sqL_of eD, rfl⟩, bcase (fun c2 => ?_) (fun c2 => ?_)⟩
    · have hne : n.exc.path nm ≠ [] := fun z => by
        rw [z] at hu
        cases hu
        cases c2
      refine ⟨_, rfl, (by show 1 ≤ sizeLine; decide), fun l6 n6 => ?_⟩
      have s6 := (Same.refl _).put (o := .lst [.ref o]) n6
      have hul := hu.len
      have hpl := RF.path_len n.exc nm
      refine ⟨_, rfl, l6, D, _, _, rfl, rfl, upd_same, s6 _ _ eD, by rw [sizeLine_eq]; show 1 + us.length ≤ _; omega, fun l7 n7 => ?_⟩
      have s7 := s6.put' (o := .lst ([V.ref o] ++ us)) n7
      have s57 := s5.trans s7
      refine q _ l7 _ (s.trans s57) upd_same ?_
      rw [RF.path_at hn hoff (fun z => hne z.2), if_neg c1]
      exact .cons (hR.keeps (N := N) s57.keeps) (hu.mono fun _ _ x => x.keeps (N := N) s7.keeps)
    · have he : n.exc.path nm = [] := by
        cases us with
        | nil => have := hu.len; exact List.length_eq_zero_iff.mp this.symm
        | cons x r => cases c2
      refine ⟨_, _, rfl, s.trans s5, fun j m hj hm => ?_⟩
      by_cases hji : j < i
      · exact hoff j m hji hm
      · have e : j = i := by omega
        subst e
        rw [hn] at hm
        cases hm
        exact ⟨c1, he⟩
  · rintro σ H2 ⟨y2, y3, rfl, s, hoff⟩
    refine ⟨Nat.zero_le _, fun D nD => ?_⟩
    have s9 := (Same.refl _).put (o := .lst []) nD
    refine q _ D [] (s.trans s9) upd_same ?_
    rw [RF.path_none fun n hn => ?_]
    · exact .nil
    · obtain ⟨j, hj, e⟩ := List.getElem_of_mem hn
      exact hoff j n (by rw [hln]; exact hj) (by rw [List.getElem?_eq_getElem hj, e])
end
end Sc
namespace Sc
open PySem PySem.Spec PyProof.Rows L2
/-- the class Book as its users see it -/
structure BookX (P : Program) (w : World) (K : PySem.W.Frag) (mg : Str → Option Value) (base : Heap) (B : Addr) : Prop where
  cls : Cls K B
  facts : PropX P w K mg base B "facts" "_facts"
  rules : PropX P w K mg base B "rules" "_rules"
  ruling : PropX P w K mg base B "ruling" "_ruling"
theorem RF.path_no {nm : Str} : ∀ {f : RF}, ¬ nm ∈ f.names → f.path nm = []
  | .nil, _ => rfl
  | .cons n hs fs rl exc rest, h => by
    rw [← RF.pre_names _ 0] at h
    have e : ((RF.cons n hs fs rl exc rest).pre 0).map (fun p => p.1.nm) = n :: (exc.names ++ rest.names) := by
      show n :: ((exc.pre 1 ++ rest.pre 0).map _) = _
      rw [List.map_append, RF.pre_names, RF.pre_names]
    rw [e] at h
    have h1 : ¬ n = nm := fun z => h (by rw [z]; exact List.mem_cons_self)
    show (if n = nm then _ else if RF.path nm exc = [] then RF.path nm rest else _) = _
    rw [if_neg h1, if_pos (RF.path_no fun z => h (List.mem_cons_of_mem _ (List.mem_append_left _ z)))]
    exact RF.path_no fun z => h (List.mem_cons_of_mem _ (List.mem_append_right _ z))
section
variable {P : Program} {w : World} {K : PySem.W.Frag} {mg : Str → Option Value} {base : Heap} {C R B CF CB CU CN : Addr}
def sp_beside_no (K : PySem.W.Frag) (C R B CU : Addr) : Sp := fun vs H Q E => ∃ (N : Addr → Prop) (o : Addr) (xs : List Str) (f : RF) (rl nm : Str), vs = [.ref o, .str nm] ∧ BookAt K C R B N H o xs f rl ∧ f.dep ≤ 12 ∧ f.size ≤ 900 ∧ ¬ nm ∈ f.names ∧ ∀ H', Same H H' → E (.ref CU) none H'
theorem ok_beside_no {f : Addr} {fd : FuncData} (F : Fun K "next_beside" "next_beside" s_next_beside f fd) (Bl : Blt mg) (kR : RuleX P w K mg base R) (kB : BookX P w K mg base B) (e_UnknownRule : ErrMk0 K mg "UnknownRule" CU) (e_NoNeighbor : ErrMk0 K mg "NoNeighbor" CN)
    (c_path_to : Cal P w K mg base CX0 15 "path_to" ["rules", "name"] (sp_path K C R 12)) : FnOk P w K mg base (L2.CX P w) 16 f fd ["book", "name"] (sp_beside_no K C R B CU) := by
  refine F.okX sc_next_beside (fun vs H Q E h => by obtain ⟨N, o, xs, f, rl, nm, rfl, _⟩ := h; rfl) (fun cdv A outer s H vs Q E hr h => ?_)
  obtain ⟨N, o, xs, f, rl, nm, rfl, ⟨dx, a, p, l, ws, us, ho, hS, hP, hF, ⟨nl, hl⟩, hus⟩, hd, hz, hno, er⟩ := h
  refine ⟨_, (pss_cons (ps_set (i := 2) sc_next_beside.nd rfl (Or.inl rfl) (pe_cal c_path_to (hr.mono (by decide)) (pa_cons (pe_cprop kB.rules kB.cls (hr.mono (by decide)) (pv 0)) (pa_cons (pv 1) pa_nil))))
      (pss_cons (ps_if (pt_not (pt_tru (pv 2) (by intro _; rfl))) (pss_one (ps_raise rfl (takes_of rfl rfl rfl rfl) (pmk_err0 e_UnknownRule))) pss_nil)
      (pss_cons (ps_set (i := 3) sc_next_beside.nd rfl (Or.inl rfl) (pe_ifExp (pt_cmpR op_gt (pe_callB call_len_seq (by rfl) Bl.b_len PySem.boot_len (pa_cons (pv 2) pa_nil)) pe_int (nomark _)) (pe_cprop kR.exceptions kR.cls (hr.mono (by decide)) (pe_ix ix_list (pv 2) (pe_un un_neg pe_int) (fun _ _ => rfl))) (pe_cprop kB.rules kB.cls (hr.mono (by decide)) (pv 0))))
      (pss_cons (ps_set (i := 4) sc_next_beside.nd rfl (Or.inl rfl) (pe_op op_add (pe_bm PySem.F.plainAttrs_list PySem.F.slot_list_index PySem.F.type_list_index mt_index (pe_lc (own := [("rule", 5)]) (g := gName 5) (tt := tYes) rfl sc_next_beside.nd (pi_tup (pv 3)) (blkOk_by (own := [("rule", 5)]) (N := ["book", "name", "path", "beside", "place", "rule"]) (sc := defScope s_next_beside) (by decide +kernel)) (fun _ _ _ _ _ => (pg_name (i := 5) sc_next_beside.nd rfl (Or.inl rfl))) (fun _ _ _ _ _ => pts_nil) (fun _ _ _ _ _ => (pe_.re (pe_cprop kR.name kR.cls (hr.mono (by decide)) (pv 5)) (by first | (dsimp only [Cx.blk]; done) | exact rfl)))) (pa_cons (pv 1) pa_nil)) pe_int))
      (pss_cons (ps_if (pt_cmpR op_eq (pv 4) (pe_callB call_len_seq (by rfl) Bl.b_len PySem.boot_len (pa_cons (pv 3) pa_nil)) (nomark _)) (pss_one (ps_raise rfl (takes_of rfl rfl rfl rfl) (pmk_err0 e_NoNeighbor))) pss_nil)
      (pss_one (ps_ret (pe_ix ix_tup (pv 3) (pv 4) (fun _ _ => rfl))))))))), ?_⟩
  refine ⟨_, rfl, o, dx, _, rfl, ho, o, dx, _, _, rfl, ho, rfl, _, rfl, N, p, nm, ws, f, rfl, hP, hF, hd, hz, fun H5 D us s5 eD hu => ?_⟩
  rw [RF.path_no hno] at hu
  cases hu
  exact ⟨_, rfl, _, .inl ⟨_, sqL_of eD, rfl⟩, iteT (er H5 s5)⟩
end
end Sc
namespace Sc
open PySem PySem.Spec PyProof.Rows L2
theorem sc_joined : FnScope ["cube", "other"] ["cube", "other"] (defScope s_joined) := ⟨rfl, rfl, rfl, by decide +kernel, rfl, by decide +kernel, by decide +kernel⟩
theorem sc_clashes_within : FnScope ["facts", "rules", "around", "found", "index", "rule", "own", "other", "both"] ["facts", "rules", "around"] (defScope s_clashes_within) := ⟨rfl, rfl, rfl, by decide +kernel, rfl, by decide +kernel, by decide +kernel⟩
theorem sc_clashes : FnScope ["book"] ["book"] (defScope s_clashes) := ⟨rfl, rfl, rfl, by decide +kernel, rfl, by decide +kernel, by decide +kernel⟩
abbrev Tri : Type := Str × Str × List Str
/-- two parts leave a case -/
def clean (xs as bs : List Str) : Bool := decide (Builtin.bitAnd (bitsOf xs as) (bitsOf xs bs) = 0)
/-- how a rule clashes with another beside it -/
def besideO (xs : List Str) (a rl : Str) (ws bs : List Str) (m : Nd) : Option Tri :=
  if rl ≠ m.rl ∧ clean xs (joinF xs ws m.hs) (joinF xs bs m.fs) = true then some (a, m.nm, joinF xs ws m.hs) else none
def besideL (xs : List Str) (a rl : Str) (ws bs : List Str) (ms : List Nd) : List Tri := ms.filterMap (besideO xs a rl ws bs)
theorem besideL_len {xs : List Str} {a rl : Str} {ws bs : List Str} {ms : List Nd} : (besideL xs a rl ws bs ms).length ≤ ms.length := List.length_filterMap_le _ _
namespace RF
def clw (xs : List Str) : List Str → List Str → RF → List Tri
  | _, _, .nil => []
  | ws, bs, .cons n hs fs rl exc rest => besideL xs n rl (joinF xs hs ws) (joinF xs fs bs) rest.nodes ++ (clw xs (joinF xs hs ws) (joinF xs fs bs) exc ++ clw xs ws bs rest)
theorem rest_cons {f : RF} {i : Nat} {n : Nd} (h : f.nodes[i]? = some n) : f.rest i = .cons n.nm n.hs n.fs n.rl n.exc (f.rest (i + 1)) := by
  obtain ⟨hi, e⟩ := List.getElem?_eq_some_iff.mp h
  unfold rest
  rw [List.drop_eq_getElem_cons hi, e]
  rfl
theorem clw_step {xs ws bs : List Str} {f : RF} {i : Nat} {n : Nd} (h : f.nodes[i]? = some n) : (f.rest i).clw xs ws bs = besideL xs n.nm n.rl (joinF xs n.hs ws) (joinF xs n.fs bs) (f.nodes.drop (i + 1)) ++ (n.exc.clw xs (joinF xs n.hs ws) (joinF xs n.fs bs) ++ (f.rest (i + 1)).clw xs ws bs) := by
  rw [rest_cons h]
  show besideL xs n.nm n.rl _ _ (f.rest (i + 1)).nodes ++ _ = _
  rw [rest_nodes]
theorem clw_end {xs ws bs : List Str} {f : RF} : (f.rest f.nodes.length).clw xs ws bs = [] := by
  unfold rest
  rw [List.drop_length]
  rfl
theorem clw_len {xs : List Str} : ∀ (ws bs : List Str) (f : RF), (f.clw xs ws bs).length ≤ f.size * f.size
  | _, _, .nil => Nat.zero_le _
  | ws, bs, .cons n hs fs rl exc rest => by
    have h1 := clw_len (xs := xs) (joinF xs hs ws) (joinF xs fs bs) exc
    have h2 := clw_len (xs := xs) ws bs rest
    have h3 := besideL_len (xs := xs) (a := n) (rl := rl) (ws := joinF xs hs ws) (bs := joinF xs fs bs) (ms := rest.nodes)
    have h4 := nodes_le rest
    show (besideL xs n rl (joinF xs hs ws) (joinF xs fs bs) rest.nodes ++ (clw xs _ _ exc ++ clw xs ws bs rest)).length ≤ (exc.size + 1 + rest.size) * (exc.size + 1 + rest.size)
    rw [List.length_append, List.length_append]
    simp only [Nat.add_mul, Nat.mul_add, Nat.one_mul, Nat.mul_one]
    omega
end RF
/-- a clash told as a tuple -/
def TriAt (K : PySem.W.Frag) (H : Hp) (v : V) (q : Tri) : Prop := ∃ t c, v = .ref t ∧ SqT K H t [.str q.1, .str q.2.1, .ref c] ∧ SqT K H c (q.2.2.map V.str)
theorem TriAt.keeps {K : PySem.W.Frag} {N : Addr → Prop} {H H' : Hp} {v : V} {q : Tri} (h : TriAt K H v q) (k : Keeps N H H') : TriAt K H' v q := by
  obtain ⟨t, c, e, h1, h2⟩ := h
  exact ⟨t, c, e, k.tup h1, k.tup h2⟩
theorem names_join {xs as bs : List Str} : namesOf xs (bitsOf xs (joinF xs as bs)) = joinF xs as bs := by
  rw [names_filter (p := fun x => decide (x ∈ joinF xs as bs)) fun j hj => held_bit hj]
  unfold joinF
  refine List.filter_congr fun x hx => ?_
  rw [Bool.eq_iff_iff, decide_eq_true_iff, List.mem_filter]
  exact ⟨fun h => h.2, fun h => ⟨hx, h⟩⟩
theorem clash_clean {xs as bs : List Str} : (decide (Builtin.bitAnd (bitsOf xs as) (bitsOf xs bs) ≠ 0) || decide (Builtin.bitAnd (bitsOf xs bs) (bitsOf xs as) ≠ 0)) = !clean xs as bs := by
  have h : Builtin.bitAnd (bitsOf xs bs) (bitsOf xs as) = 0 ↔ Builtin.bitAnd (bitsOf xs as) (bitsOf xs bs) = 0 := by
    rw [band_zero, band_zero]
    exact ⟨fun h x hx z => h x hx z.symm, fun h x hx z => h x hx z.symm⟩
  unfold clean
  by_cases c : Builtin.bitAnd (bitsOf xs as) (bitsOf xs bs) = 0
  · rw [decide_eq_true c, decide_eq_false (fun z => z c), decide_eq_false (fun z => z (h.mpr c))]
    rfl
  · rw [decide_eq_false c, decide_eq_true c]
    rfl
theorem besideL_more {xs : List Str} {a rl : Str} {ws bs : List Str} {ms : List Nd} {j : Nat} {m : Nd} (h : ms[j]? = some m) : besideL xs a rl ws bs (ms.take (j + 1)) = besideL xs a rl ws bs (ms.take j) ++ (besideO xs a rl ws bs m).toList := by
  unfold besideL
  rw [take_more h, List.filterMap_append]
  congr 1
section
variable {P : Program} {w : World} {K : PySem.W.Frag} {mg : Str → Option Value} {base : Heap} {C R : Addr}
def sp_joined (K : PySem.W.Frag) : Sp := fun vs H Q _ => ∃ (a b : Addr) (x y u v : Int), vs = [.ref a, .ref b] ∧ SqT K H a [.int x, .int y] ∧ SqT K H b [.int u, .int v] ∧ ∀ H' p, Same H H' → SqT K H' p [.int (Builtin.bitOr x u), .int (Builtin.bitOr y v)] → Q (.ref p) H'
theorem ok_joined {f : Addr} {fd : FuncData} (F : Fun K "joined" "joined" s_joined f fd) (B : Blt mg) : FnOk P w K mg base CX0 1 f fd ["cube", "other"] (sp_joined K) := by
  refine F.ok sc_joined (fun vs H Q E h => by obtain ⟨a, b, x, y, u, v, rfl, _⟩ := h; rfl) (fun cdv A outer s H vs Q E hr h => ?_)
  obtain ⟨a, b, x, y, u, v, rfl, hA, hB, q⟩ := h
  refine ⟨_, (pss_one (ps_ret (pe_tup (pa_cons (pe_op L2.op_or (pe_ix ix_tup (pv 0) pe_int (fun _ _ => rfl)) (pe_ix ix_tup (pv 1) pe_int (fun _ _ => rfl))) (pa_cons (pe_op L2.op_or (pe_ix ix_tup (pv 0) pe_int (fun _ _ => rfl)) (pe_ix ix_tup (pv 1) pe_int (fun _ _ => rfl))) pa_nil))))), ?_⟩
  refine ⟨_, rfl, a, _, 0, _, rfl, rfl, hA, atI_nat (j := 0) rfl, _, rfl, b, _, 0, _, rfl, rfl, hB, atI_nat (j := 0) rfl, _, _, rfl, rfl, ?_⟩
  refine ⟨_, rfl, a, _, 1, _, rfl, rfl, hA, atI_nat (j := 1) rfl, _, rfl, b, _, 1, _, rfl, rfl, hB, atI_nat (j := 1) rfl, _, _, rfl, rfl, ?_⟩
  exact ⟨(by show 2 ≤ sizeLine; decide), fun p np => q _ p ((Same.refl H).put np) sqT_new⟩
def sp_cwithin (K : PySem.W.Frag) (C R : Addr) (d : Nat) : Sp := fun vs H Q _ => ∃ (N : Addr → Prop) (a p g : Addr) (xs ws bs : List Str) (rs : List V) (f : RF), vs = [.ref a, .ref p, .ref g] ∧ SqT K H a (xs.map V.str) ∧ xs.length ≤ 1000 ∧ SqT K H p rs ∧ ForAt K C R N H f rs ∧ SqT K H g [.int (bitsOf xs ws), .int (bitsOf xs bs)] ∧
  f.dep ≤ d ∧ f.dep ≤ 12 ∧ f.size ≤ 900 ∧ ∀ H' D us, Same H H' → H D = none → H' D = some (.lst us) → All2 (TriAt K H') us (f.clw xs ws bs) → Q (.ref D) H'
theorem ok_cwithin {d : Nat} {f : Addr} {fd : FuncData} (F : Fun K "clashes_within" "clashes_within" s_clashes_within f fd) (B : Blt mg) (kR : RuleX P w K mg base R)
    (c_cube_of : Cal P w K mg base CX0 3 "cube_of" ["facts", "condition"] (sp_cube_of K C)) (c_clash : Cal P w K mg base CX0 1 "clash" ["cube", "other"] (sp_clash K)) (c_joined : Cal P w K mg base CX0 1 "joined" ["cube", "other"] (sp_joined K)) (c_names_of : Cal P w K mg base CX0 1 "names_of" ["facts", "bits"] (sp_names_of K))
    (c_clashes_within : Cal P w K mg base CX0 (d + 3) "clashes_within" ["facts", "rules", "around"] (Below (sp_cwithin K C R) d)) :
    FnOk P w K mg base CX0 (d + 4) f fd ["facts", "rules", "around"] (sp_cwithin K C R d) := by
  refine F.ok sc_clashes_within (fun vs H Q E h => by obtain ⟨N, a, p, g, xs, ws, bs, rs, f, rfl, _⟩ := h; rfl) (fun cdv A outer s H vs Q E hr h => ?_)
  obtain ⟨N, a, p, g, xs, ws, bs, rs, f, rfl, hS, hl, hP, hF, hG, hd, hd12, hz, q⟩ := h
  refine ⟨_, (pss_cons (ps_set (i := 3) sc_clashes_within.nd rfl (Or.inl rfl) (pe_lst pa_nil))
      (pss_cons (ps_for PassesOwn.never rfl (pi_enumT (by rfl) B.b_enumerate (pa_cons (pv 1) pa_nil)) (pg_tup (by rfl) (pgs_cons (pg_name (i := 4) sc_clashes_within.nd rfl (Or.inl rfl)) (pgs_cons (pg_name (i := 5) sc_clashes_within.nd rfl (Or.inl rfl)) pgs_nil))) (pss_cons (ps_set (i := 6) sc_clashes_within.nd rfl (Or.inl rfl) (pe_cal c_joined (hr.mono (by omega)) (pa_cons (pe_cal c_cube_of (hr.mono (by omega)) (pa_cons (pv 0) (pa_cons (pe_cprop kR.condition kR.cls (hr.mono (by omega)) (pv 5)) pa_nil))) (pa_cons (pv 2) pa_nil))))
      (pss_cons (ps_for PassesOwn.never rfl (pi_tup (pe_slice sl_tupA (pv 1) (po_some (pe_op op_add (pv 4) pe_int)) po_none)) (pg_name (i := 7) sc_clashes_within.nd rfl (Or.inl rfl)) (pss_cons (ps_set (i := 8) sc_clashes_within.nd rfl (Or.inl rfl) (pe_cal c_joined (hr.mono (by omega)) (pa_cons (pv 6) (pa_cons (pe_cal c_cube_of (hr.mono (by omega)) (pa_cons (pv 0) (pa_cons (pe_cprop kR.condition kR.cls (hr.mono (by omega)) (pv 7)) pa_nil))) pa_nil))))
      (pss_one (ps_if (PW.pt (pw_and (pt_cmpR op_ne (pe_cprop kR.ruling kR.cls (hr.mono (by omega)) (pv 5)) (pe_cprop kR.ruling kR.cls (hr.mono (by omega)) (pv 7)) (nomark _)) (pw_and1 (pt_not (pt_val (pe_cal c_clash (hr.mono (by omega)) (pa_cons (pv 8) (pa_cons (pv 8) pa_nil)))))))) (pss_one (ps_expr (pe_bm PySem.F.plainAttrs_list PySem.F.slot_list_append PySem.F.type_list_append mt_append (pv 3) (pa_cons (pe_tup (pa_cons (pe_cprop kR.name kR.cls (hr.mono (by omega)) (pv 5)) (pa_cons (pe_cprop kR.name kR.cls (hr.mono (by omega)) (pv 7)) (pa_cons (pe_cal c_names_of (hr.mono (by omega)) (pa_cons (pv 0) (pa_cons (pe_ix ix_tup (pv 8) pe_int (fun _ _ => rfl)) pa_nil))) pa_nil)))) pa_nil)))) pss_nil))))
      (pss_one (ps_expr (pe_bm PySem.F.plainAttrs_list PySem.F.slot_list_extend PySem.F.type_list_extend mt_extend (pv 3) (pa_cons (pe_cal c_clashes_within hr (pa_cons (pv 0) (pa_cons (pe_cprop kR.exceptions kR.cls (hr.mono (by omega)) (pv 5)) (pa_cons (pv 6) pa_nil)))) pa_nil)))))))
      (pss_one (ps_ret (pv 3))))), ?_⟩
  have hA := hF.all
  have hln := hA.len
  have hnl := RF.nodes_le f
  have htot := RF.clw_len (xs := xs) ws bs f
  have hsq : f.size * f.size ≤ 900 * 900 := Nat.mul_le_mul hz hz
  refine ⟨Nat.zero_le _, fun D nD => ?_⟩
  have s0 : Same H (upd H D (.lst [])) := (Same.refl H).put nD
  have e0 : (upd H D (.lst [])) D = some (.lst []) := upd_same
  generalize upd H D (.lst []) = H0 at s0 e0 ⊢
  refine ⟨.ref p, rfl, p, _, rfl, s0.tup hP, for_it walk_enumT (fun i σ H' => ∃ (us : List V) (acc : List Tri) (y4 y5 y6 y7 y8 : Option V), σ = [some (.ref a), some (.ref p), some (.ref g), some (.ref D), y4, y5, y6, y7, y8] ∧ Same H H' ∧ H' D = some (.lst us) ∧ All2 (TriAt K H') us acc ∧ f.clw xs ws bs = acc ++ (f.rest i).clw xs ws bs)
    ⟨[], [], _, _, _, _, _, rfl, s0, e0, .nil, by unfold RF.rest; rw [List.drop_zero, RF.of_nodes]; rfl⟩ (fun _ _ _ _ ⟨_, _, _, _, _, _, _, _, s, _⟩ => s.tup hP) ?_ ?_⟩
  · rintro i x σ H2 H3 hi ⟨us, acc, y4, y5, y6, y7, y8, rfl, s, e, hus, hcl⟩ ⟨T, v1, v2, rfl, nT, rfl, h1, h2⟩
    obtain rfl : V.int (i : Nat) = v1 := Option.some.inj h1
    obtain ⟨n, hn, o, rfl, hNd⟩ := hA.get h2
    have hi' : i < f.nodes.length := (List.getElem?_eq_some_iff.mp hn).1
    have hmem : n ∈ f.nodes := List.mem_of_getElem? hn
    have hdm := RF.dep_mem _ n hmem
    have hsm := RF.size_mem _ n hmem
    have s3 : Same H (upd H2 T (.tup [.int (i : Nat), .ref o])) := s.put' nT
    have s23 : Same H2 (upd H2 T (.tup [.int (i : Nat), .ref o])) := (Same.refl H2).put nT
    have hT3 : SqT K (upd H2 T (.tup [.int (i : Nat), .ref o])) T [.int (i : Nat), .ref o] := sqT_new
    have e3 := s23 _ _ e
    have hus3 := hus.mono fun _ _ x => TriAt.keeps (N := NoL) x s23.keeps
    generalize upd H2 T (.tup [.int (i : Nat), .ref o]) = H3 at s3 s23 hT3 e3 hus3 ⊢
    refine ⟨T, _, rfl, hT3, rfl, _, _, rfl, _, _, rfl, rfl, ?_⟩
    obtain ⟨dx', c', pe', l', ws', ho', hc', hpe', hle', hfe'⟩ := id hNd
    have ho3 := s3 _ _ ho'
    refine ⟨_, rfl, _, rfl, o, dx', _, rfl, ho3, o, dx', _, _, rfl, ho3, rfl, a, c', xs, n.hs, n.fs, rfl, s3.tup hS, hl, hc'.keeps (N := NoL) s3.keeps, fun H5 cu s5 hcu => ?_⟩
    have s05 := s3.trans s5
    refine ⟨_, rfl, cu, g, _, _, _, _, rfl, hcu, s05.tup hG, fun H6 jo s6 hjo => ?_⟩
    rw [bor_join, bor_join] at hjo
    have s06 := s05.trans s6
    have s36 := s5.trans s6
    have e6 := s36 _ _ e3
    have hus6 := hus3.mono fun _ _ x => TriAt.keeps (N := NoL) x s36.keeps
    have hstep := RF.clw_step (xs := xs) (ws := ws) (bs := bs) hn
    rw [hstep] at hcl
    generalize hwj : joinF xs n.hs ws = wj at hjo hcl
    generalize hbj : joinF xs n.fs bs = bj at hjo hcl
    refine ⟨_, rfl, ?_⟩
    refine ⟨_, rfl, _, _, rfl, rfl, _, rfl, ?_⟩
    delta tNoPart
    refine sl_any (s06.tup hP) fun q7 H7 s7 hq7 => ?_
    rw [show (some ((i : Int) + 1)) = some ((i + 1 : Nat) : Int) from rfl, cut_from] at hq7
    have hB := hA.drop (i + 1)
    have hBl := hB.len
    have s07 := s06.trans s7
    have e7 := s7 _ _ e6
    have hus7 := hus6.mono fun _ _ x => TriAt.keeps (N := NoL) x s7.keeps
    have hjo7 := s7.tup hjo
    have htot2 : acc.length + ((besideL xs n.nm n.rl wj bj (f.nodes.drop (i + 1))).length + ((n.exc.clw xs wj bj).length + ((f.rest (i + 1)).clw xs ws bs).length)) ≤ 900 * 900 := by
      have h := htot
      rw [hcl, List.length_append, List.length_append, List.length_append] at h
      omega
    have hbt : ∀ j, (besideL xs n.nm n.rl wj bj ((f.nodes.drop (i + 1)).take j)).length ≤ (besideL xs n.nm n.rl wj bj (f.nodes.drop (i + 1))).length := fun j => ((List.take_sublist j _).filterMap _).length_le
    refine ⟨q7, rfl, ⟨_, hq7⟩, for_it walk_tup (fun j σ H' => ∃ (us2 : List V) (y7 y8 : Option V), σ = [some (.ref a), some (.ref p), some (.ref g), some (.ref D), some (.int (i : Nat)), some (.ref o), some (.ref jo), y7, y8] ∧ Same H H' ∧ SqT K H' jo [.int (bitsOf xs wj), .int (bitsOf xs bj)] ∧ SqT K H' q7 (rs.drop (i + 1)) ∧ H' D = some (.lst us2) ∧ All2 (TriAt K H') us2 (acc ++ besideL xs n.nm n.rl wj bj ((f.nodes.drop (i + 1)).take j)))
      ⟨us, _, _, rfl, s07, hjo7, hq7, e7, by rw [List.take_zero]; show All2 _ us (acc ++ []); rw [List.append_nil]; exact hus7⟩ (fun _ _ _ _ ⟨_, _, _, _, _, _, h, _⟩ => h) ?_ ?_⟩
    · rintro j y σ H8' H8 hj ⟨us2, y7, y8, rfl, s8, hjo8, hq8, e8, hus8⟩ ⟨rfl, hy⟩
      obtain ⟨m, hm, o2, rfl, hNd2⟩ := hB.get hy
      obtain ⟨dx2, c2, pe2, l2, ws2, ho2, hc2, _⟩ := id hNd2
      have ho28 := s8 _ _ ho2
      have ho8 := s8 _ _ ho'
      refine ⟨_, rfl, _, rfl, _, rfl, o2, dx2, _, rfl, ho28, o2, dx2, _, _, rfl, ho28, rfl, a, c2, xs, m.hs, m.fs, rfl, s8.tup hS, hl, hc2.keeps (N := NoL) s8.keeps, fun H9 cu2 s9 hcu2 => ?_⟩
      refine ⟨jo, cu2, _, _, _, _, rfl, s9.tup hjo8, hcu2, fun H10 bo s10 hbo => ?_⟩
      rw [bor_join, bor_join] at hbo
      have s810 := s9.trans s10
      have s010 := s8.trans s810
      have ho10 := s810 _ _ ho8
      have ho210 := s810 _ _ ho28
      have e10 := s810 _ _ e8
      have hus10 := hus8.mono fun _ _ x => TriAt.keeps (N := NoL) x s810.keeps
      have hmore := besideL_more (xs := xs) (a := n.nm) (rl := n.rl) (ws := wj) (bs := bj) hm
      have hul10 := hus10.len
      rw [List.length_append] at hul10
      have hbj2 := hbt j
      have same : besideO xs n.nm n.rl wj bj m = none → All2 (TriAt K H10) us2 (acc ++ besideL xs n.nm n.rl wj bj ((f.nodes.drop (i + 1)).take (j + 1))) := fun h => by
        rw [hmore, h]
        show All2 _ us2 (acc ++ (_ ++ []))
        rw [List.append_nil]
        exact hus10
      refine ⟨_, rfl, o, dx', _, rfl, ho10, o, dx', _, _, rfl, ho10, rfl, _, rfl, o2, dx2, _, rfl, ho210, o2, dx2, _, _, rfl, ho210, rfl, rfl, _, rfl, ?_⟩
      by_cases hrl : n.rl = m.rl
      · rw [decide_eq_true (show V.str n.rl = V.str m.rl from congrArg V.str hrl)]
        refine iteF (iteF ⟨us2, _, _, rfl, s010, s810.tup hjo8, s810.tup hq8, e10, same ?_⟩)
        unfold besideO
        rw [if_neg (fun z => z.1 hrl)]
      rw [decide_eq_false (show ¬ V.str n.rl = V.str m.rl from fun z => hrl (V.str.inj z))]
      refine iteT ⟨_, rfl, _, rfl, bo, bo, _, _, _, _, rfl, hbo, hbo, _, rfl, ?_⟩
      rw [clash_clean]
      cases hcn : clean xs (joinF xs wj m.hs) (joinF xs bj m.fs) with
      | false =>
        refine iteF ⟨us2, _, _, rfl, s010, s810.tup hjo8, s810.tup hq8, e10, same ?_⟩
        unfold besideO
        rw [if_neg (fun z => by rw [hcn] at z; cases z.2)]
      | true =>
        have hO : besideO xs n.nm n.rl wj bj m = some (n.nm, m.nm, joinF xs wj m.hs) := by
          unfold besideO
          rw [if_pos ⟨hrl, hcn⟩]
        have hmore2 := besideL_more (xs := xs) (a := n.nm) (rl := n.rl) (ws := wj) (bs := bj) hm
        have hbj3 := hbt (j + 1)
        refine iteT ⟨_, rfl, .inl ⟨rfl, _, sqL_of e10⟩, _, rfl, o, dx', _, rfl, ho10, o, dx', _, _, rfl, ho10, rfl, _, rfl, o2, dx2, _, rfl, ho210, o2, dx2, _, _, rfl, ho210, rfl, _, rfl, _, rfl, bo, _, 0, _, rfl, rfl, hbo, atI_nat (j := 0) rfl, a, xs, _, rfl, s010.tup hS, hl, ?_⟩
        intro H11 pn s11 epn
        rw [names_join] at epn
        have e11 := s11 _ _ e10
        have hus11 := hus10.mono fun _ _ x => TriAt.keeps (N := NoL) x s11.keeps
        refine ⟨(by show 3 ≤ sizeLine; rw [sizeLine_eq]; decide), fun tt ntt => ?_⟩
        have s12 : Same H11 (upd H11 tt (.tup [.str n.nm, .str m.nm, .ref pn])) := (Same.refl H11).put ntt
        have ett : (upd H11 tt (.tup [.str n.nm, .str m.nm, .ref pn])) tt = some (.tup [.str n.nm, .str m.nm, .ref pn]) := upd_same
        have epn12 := s12 _ _ epn
        have e12 := s12 _ _ e11
        have hus12 := hus11.mono fun _ _ x => TriAt.keeps (N := NoL) x s12.keeps
        generalize upd H11 tt (.tup [.str n.nm, .str m.nm, .ref pn]) = H12 at s12 ett epn12 e12 hus12 ⊢
        have s812 := s810.trans (s11.trans s12)
        have s012 := s8.trans s812
        have kk : Keeps NoL H12 (upd H12 D (.lst (us2 ++ [.ref tt]))) := keeps_own e12 fun h => h
        refine ⟨D, us2, _, rfl, rfl, e12, (by rw [sizeLine_eq, hul10]; omega), us2 ++ [.ref tt], _, _, rfl, s012.put nD, kk.tup (s812.tup hjo8), kk.tup (s812.tup hq8), upd_same, ?_⟩
        rw [hmore2, hO]
        show All2 _ (us2 ++ [.ref tt]) (acc ++ (_ ++ [(n.nm, m.nm, joinF xs wj m.hs)]))
        rw [← List.append_assoc]
        exact (hus12.mono fun _ _ x => TriAt.keeps x kk).snoc ⟨tt, pn, rfl, kk.tup (sqT_of ett), kk.tup (sqT_of epn12)⟩
    · rintro σ H8 ⟨us2, y7, y8, rfl, s8, hjo8, hq8, e8, hus8⟩
      have hln2 : (rs.drop (i + 1)).length = (f.nodes.drop (i + 1)).length := hBl
      rw [hln2, List.take_length] at hus8
      have hul8 := hus8.len
      rw [List.length_append] at hul8
      obtain ⟨d, rfl⟩ : ∃ d', d = d' + 1 := ⟨d - 1, by omega⟩
      have ho8 := s8 _ _ ho'
      have hzz : n.exc.size * n.exc.size ≤ 900 * 900 := Nat.mul_le_mul (by omega) (by omega)
      refine ⟨_, rfl, .inl ⟨rfl, _, sqL_of e8⟩, _, rfl, _, rfl, o, dx', _, rfl, ho8, o, dx', _, _, rfl, ho8, rfl, _, rfl, N, a, pe', jo, xs, wj, bj, ws', n.exc, rfl, s8.tup hS, hl, s8.tup hpe', hfe'.keeps s8.keeps, hjo8, by omega, by omega, by omega, fun H9 D2 us3 s9 nD2 e9 hus9 => ?_⟩
      have eD9 := s9 _ _ e8
      have nDD : D2 ≠ D := fun z => by rw [z, e8] at nD2; cases nD2
      have hul9 := hus9.len
      refine ⟨D, D2, us2, us3, rfl, rfl, eD9, e9, by rw [sizeLine_eq, hul8, hul9]; omega, ?_⟩
      have kk : Keeps NoL H9 (upd H9 D (.lst (us2 ++ us3))) := keeps_own eD9 fun h => h
      refine ⟨us2 ++ us3, acc ++ besideL xs n.nm n.rl wj bj (f.nodes.drop (i + 1)) ++ n.exc.clw xs wj bj, _, _, _, _, _, rfl, (s8.trans s9).put nD, upd_same, (hus8.mono fun _ _ x => (TriAt.keeps (N := NoL) x s9.keeps).keeps kk).app (hus9.mono fun _ _ x => TriAt.keeps x kk), ?_⟩
      rw [hcl, List.append_assoc, List.append_assoc]
  · rintro σ H3 ⟨us, acc, y4, y5, y6, y7, y8, rfl, s, e, hus, hcl⟩
    rw [hln, RF.clw_end, List.append_nil] at hcl
    exact ⟨_, rfl, q H3 D us s nD e (by rw [hcl]; exact hus)⟩
def sp_clashes (K : PySem.W.Frag) (C R Bk : Addr) : Sp := fun vs H Q _ => ∃ (N : Addr → Prop) (o : Addr) (xs : List Str) (f : RF) (rl : Str), vs = [.ref o] ∧ BookAt K C R Bk N H o xs f rl ∧ xs.length ≤ 1000 ∧ f.dep ≤ 12 ∧ f.size ≤ 900 ∧ ∀ H' D us, Same H H' → H' D = some (.lst us) → All2 (TriAt K H') us (f.clw xs [] []) → Q (.ref D) H'
theorem ok_clashes {Bk : Addr} {f : Addr} {fd : FuncData} (F : Fun K "clashes" "clashes" s_clashes f fd) (Bl : Blt mg) (kB : BookX P w K mg base Bk) (c_clashes_within : Cal P w K mg base CX0 16 "clashes_within" ["facts", "rules", "around"] (sp_cwithin K C R 12)) :
    FnOk P w K mg base CX0 17 f fd ["book"] (sp_clashes K C R Bk) := by
  refine F.ok sc_clashes (fun vs H Q E h => by obtain ⟨N, o, xs, f, rl, rfl, _⟩ := h; rfl) (fun cdv A outer s H vs Q E hr h => ?_)
  obtain ⟨N, o, xs, f, rl, rfl, ⟨dx, a, p, l, ws, us, ho, hS, hP, hF, hl, hus⟩, hxl, hd, hz, q⟩ := h
  refine ⟨_, (pss_one (ps_ret (pe_cal c_clashes_within (hr.mono (by decide)) (pa_cons (pe_cprop kB.facts kB.cls (hr.mono (by decide)) (pv 0)) (pa_cons (pe_cprop kB.rules kB.cls (hr.mono (by decide)) (pv 0)) (pa_cons (pe_tup (pa_cons pe_int (pa_cons pe_int pa_nil))) pa_nil)))))), ?_⟩
  refine ⟨_, rfl, o, dx, _, rfl, ho, o, dx, _, _, rfl, ho, rfl, _, rfl, o, dx, _, rfl, ho, o, dx, _, _, rfl, ho, rfl, (by show 2 ≤ sizeLine; rw [sizeLine_eq]; decide), fun g ng => ?_⟩
  have s1 : Same H (upd H g (.tup [.int 0, .int 0])) := (Same.refl H).put ng
  have hg : SqT K (upd H g (.tup [.int 0, .int 0])) g [.int (bitsOf xs []), .int (bitsOf xs [])] := by rw [bits_nil]; exact sqT_new
  generalize upd H g (.tup [.int 0, .int 0]) = H1 at s1 hg ⊢
  exact ⟨N, a, p, g, xs, [], [], ws, f, rfl, s1.tup hS, hxl, s1.tup hP, hF.keeps s1.keeps, hg, hd, hd, hz, fun H2 D us2 s2 _ e2 hu2 => q H2 D us2 (s1.trans s2) e2 hu2⟩
end
end Sc
namespace Sc
open PySem PySem.Spec PyProof.Rows L2 LamX
/-! ### _law_error -/
theorem sc__law_error : FnScope ["_law_call", "e", "_law_kinds", "_law_names", "_law_name"] ["_law_call"] (defScope s__law_error) := ⟨rfl, rfl, rfl, by decide +kernel, rfl, by decide +kernel, by decide +kernel⟩
/-- the classes of errors that the law tells apart, by their places -/
structure GErr (mg : Str → Option Value) (cl : Nat → Addr) (CE : Addr) : Prop where
  m_CourtError : mg "CourtError" = some (.ref CE)
  m_InvalidFacts : mg "InvalidFacts" = some (.ref (cl 0))
  m_InvalidCase : mg "InvalidCase" = some (.ref (cl 1))
  m_InvalidNumber : mg "InvalidNumber" = some (.ref (cl 2))
  m_InvalidCondition : mg "InvalidCondition" = some (.ref (cl 3))
  m_NeverMet : mg "NeverMet" = some (.ref (cl 4))
  m_InvalidRule : mg "InvalidRule" = some (.ref (cl 5))
  m_InvalidBook : mg "InvalidBook" = some (.ref (cl 6))
  m_UnknownRule : mg "UnknownRule" = some (.ref (cl 7))
  m_InvalidRuling : mg "InvalidRuling" = some (.ref (cl 8))
  m_UnknownFact : mg "UnknownFact" = some (.ref (cl 9))
  m_NoReason : mg "NoReason" = some (.ref (cl 10))
  m_TooMany : mg "TooMany" = some (.ref (cl 11))
  m_InvalidChance : mg "InvalidChance" = some (.ref (cl 12))
  m_OtherFacts : mg "OtherFacts" = some (.ref (cl 13))
  m_NoNeighbor : mg "NoNeighbor" = some (.ref (cl 14))
  m_NoFacts : mg "NoFacts" = some (.ref (cl 15))
  m_AlreadyKnown : mg "AlreadyKnown" = some (.ref (cl 16))
def kindNames : List Str := ["facts", "case", "number", "condition", "never", "rule", "book", "norule", "ruling", "fact", "reason", "many", "chance", "other", "neighbor", "nofacts", "known"]
/-- the class at D is the k-th -/
structure ErrRow (K : PySem.W.Frag) (cl : Nat → Addr) (CE D : Addr) (k : Nat) : Prop where
  lt : k < 17
  err : ErrC K D
  ex : PySem.W.exmOne K (.ref D) (.ref CE) = some true
  kit : ∀ i, i < 17 → PySem.W.kitOne K (.ref D) (.ref (cl i)) = some (decide (i = k))
  ve : PySem.W.kitOne K (.ref D) (.type "ValueError") = some true
  noF : ∀ n ∈ (["index", "part", "word", "fact"] : List Str), PySem.W.findIn K (.ref D) n = some none
abbrev kb (k i : Nat) : V := .bl (decide (i = k))

def kname (k : Nat) : Str := kindNames.getD k "other"
/-- what the law tells of an error: its kind, and what it bears -/
inductive Pay (H : Hp) (d : Option Addr) : Nat → List V → Prop where
  | ix {k : Nat} {dd : Addr} {fs : List (Str × V)} {v : V} (hk : k < 2) (ed : d = some dd) (ea : H dd = some (.xd fs)) (l : fs.lookup ("index" : Str) = some v) : Pay H d k [.str (kname k), v]
  | cond {dd : Addr} {fs : List (Str × V)} {v u : V} (ed : d = some dd) (ea : H dd = some (.xd fs)) (l : fs.lookup ("part" : Str) = some v) (l2 : fs.lookup ("index" : Str) = some u) : Pay H d 3 [.str "condition", v, u]
  | book {dd : Addr} {fs : List (Str × V)} {v u : V} (ed : d = some dd) (ea : H dd = some (.xd fs)) (l : fs.lookup ("word" : Str) = some v) (l2 : fs.lookup ("index" : Str) = some u) : Pay H d 6 [.str "book", v, u]
  | rule {dd : Addr} {fs : List (Str × V)} {v : V} (ed : d = some dd) (ea : H dd = some (.xd fs)) (l : fs.lookup ("part" : Str) = some v) : Pay H d 5 [.str "rule", v]
  | chance {dd : Addr} {fs : List (Str × V)} {v : V} (ed : d = some dd) (ea : H dd = some (.xd fs)) (l : fs.lookup ("fact" : Str) = some v) : Pay H d 12 [.str "chance", v]
  | plain {k : Nat} (hx : XdOk d H) (hk : ¬ k < 2) (h3 : k ≠ 3) (h5 : k ≠ 5) (h6 : k ≠ 6) (h12 : k ≠ 12) : Pay H d k [.str (kname k)]
theorem Pay.xd {H : Hp} {d : Option Addr} {k : Nat} {vs : List V} (p : Pay H d k vs) : XdOk d H := by
  cases p with
  | ix hk ed ea l => intro dd e; rw [ed] at e; cases e; exact ⟨_, ea⟩
  | cond ed ea l l2 => intro dd e; rw [ed] at e; cases e; exact ⟨_, ea⟩
  | book ed ea l l2 => intro dd e; rw [ed] at e; cases e; exact ⟨_, ea⟩
  | rule ed ea l => intro dd e; rw [ed] at e; cases e; exact ⟨_, ea⟩
  | chance ed ea l => intro dd e; rw [ed] at e; cases e; exact ⟨_, ea⟩
  | plain hx => exact hx
/-- _law_error: the lambda is called; the answer is a new tuple -/
def TErr (K : PySem.W.Frag) (cl : Nat → Addr) (CE : Addr) : (XK → Hp → VK → Prop) → Hp → VK → Prop := fun tl H Q =>
  tl (fun cls d H1 => ∃ (D : Addr) (k : Nat) (vs : List V), cls = .ref D ∧ ErrRow K cl CE D k ∧ Pay H1 d k vs ∧ ∀ H2 p, Same H1 H2 → H2 p = some (.tup vs) → H1 p = none → Q (.ref p) H2)
    H fun _ H1 => ([V.str "none"].length ≤ sizeLine ∧ ∀ p, H1 p = none → Q (.ref p) (upd H1 p (.tup [.str "none"])))
def kinds (k : Nat) : List V := [kb k 0, kb k 1, kb k 2, kb k 3, kb k 4, kb k 5, kb k 6, kb k 7, kb k 8, kb k 9, kb k 10, kb k 11, kb k 12, kb k 13, kb k 14, kb k 15, kb k 16]
theorem kinds_count : ∀ k, k < 17 → (kinds k).countP (fun z => eqV z (.bl true)) = 1 := by decide +kernel
theorem kinds_at : ∀ k, k < 17 → (kinds k)[k]? = some (.bl true) := by decide +kernel
theorem kinds_off : ∀ k, k < 17 → ∀ m, m < k → (kinds k)[m]? = some (.bl false) := by decide +kernel
theorem names_at : ∀ k, k < 17 → (kindNames.map V.str)[k]? = some (.str (kname k)) := by decide +kernel
theorem in_two : ∀ k, k < 17 → inV (.str (kname k)) [.str "facts", .str "case"] = decide (k < 2) := by decide +kernel
theorem in_rule : ∀ k, k < 17 → inV (.str (kname k)) [.str "rule", .str "chance"] = (decide (k = 5) || decide (k = 12)) := by decide +kernel
theorem is_cond : ∀ k, k < 17 → decide (V.str (kname k) = V.str "condition") = decide (k = 3) := by decide +kernel
theorem is_book : ∀ k, k < 17 → decide (V.str (kname k) = V.str "book") = decide (k = 6) := by decide +kernel
theorem XdOk.same {H H' : Hp} {d : Option Addr} (x : XdOk d H) (s : Same H H') : XdOk d H' := fun dd e => by
  obtain ⟨fs, h⟩ := x dd e
  exact ⟨fs, s _ _ h⟩
theorem five {σ : L2.St} (h : σ.length = 5) : ∃ x0 x1 x2 x3 x4, σ = [x0, x1, x2, x3, x4] := by
  match σ, h with
  | [a, b, c, d, e], _ => exact ⟨a, b, c, d, e, rfl⟩
theorem err_gives {X : Cx} {g : Addr} {cdg : Value} {q : Str} {cl : Nat → Addr} {CE : Addr} (B : Blt X.mg) (G : GErr X.mg cl CE) : GivesTo X ["_law_call", "e", "_law_kinds", "_law_names", "_law_name"] "_law_error" (defScope s__law_error) g cdg (defBody s__law_error) "_law_call" q (TErr X.K cl CE) := by
  intro f c' s H Q tl act hc h
  refine ⟨_, pss_cons (ps_try_as (X := (cxOf C8.CX0 X.prog X.w X.K X.mg X.base ["_law_call", "e", "_law_kinds", "_law_names", "_law_name"] "_law_error" (defScope s__law_error) g cdg X.A X.stack s H C8.E0).nox) (i := 1) (c := .ref CE)
      (tb := fun W D σ H => ∃ Ech : XK, (∀ cls d σ' H', Ech cls d H' → σ'.length = 5 → W cls d σ' H') ∧ σ[0]? = some (some (.ref f)) ∧ H c' = some (CodeO c' q) ∧ tl Ech H fun _ H1 => D.nx σ H1)
      (Wout := fun _ _ _ _ => False) rfl rfl sc__law_error.nd rfl rfl ⟨rfl, by decide, .inl G.m_CourtError⟩ L2.takes0 (fun W pn xe tk _ => ?_)
      (fun a oe cls d pn hz hf => pss_.re (pss_cons (ps_set (i := 2) sc__law_error.nd rfl (Or.inl rfl) (pe_lst (pa_cons (pe_callB (call_isG hz hf) (by rfl) B.b_isinstance PyProof.Rows.boot_isinstance (pa_cons (pv 1) (pa_cons (pe_glob (v := .ref (cl 0)) rfl G.m_InvalidFacts rfl) pa_nil))) (pa_cons (pe_callB (call_isG hz hf) (by rfl) B.b_isinstance PyProof.Rows.boot_isinstance (pa_cons (pv 1) (pa_cons (pe_glob (v := .ref (cl 1)) rfl G.m_InvalidCase rfl) pa_nil))) (pa_cons (pe_callB (call_isG hz hf) (by rfl) B.b_isinstance PyProof.Rows.boot_isinstance (pa_cons (pv 1) (pa_cons (pe_glob (v := .ref (cl 2)) rfl G.m_InvalidNumber rfl) pa_nil))) pa_nil)))))
      (pss_cons (ps_expr (pe_bm PySem.F.plainAttrs_list PySem.F.slot_list_extend PySem.F.type_list_extend mt_extend (pv 2) (pa_cons (pe_lst (pa_cons (pe_callB (call_isG hz hf) (by rfl) B.b_isinstance PyProof.Rows.boot_isinstance (pa_cons (pv 1) (pa_cons (pe_glob (v := .ref (cl 3)) rfl G.m_InvalidCondition rfl) pa_nil))) (pa_cons (pe_callB (call_isG hz hf) (by rfl) B.b_isinstance PyProof.Rows.boot_isinstance (pa_cons (pv 1) (pa_cons (pe_glob (v := .ref (cl 4)) rfl G.m_NeverMet rfl) pa_nil))) (pa_cons (pe_callB (call_isG hz hf) (by rfl) B.b_isinstance PyProof.Rows.boot_isinstance (pa_cons (pv 1) (pa_cons (pe_glob (v := .ref (cl 5)) rfl G.m_InvalidRule rfl) pa_nil))) pa_nil)))) pa_nil)))
      (pss_cons (ps_expr (pe_bm PySem.F.plainAttrs_list PySem.F.slot_list_extend PySem.F.type_list_extend mt_extend (pv 2) (pa_cons (pe_lst (pa_cons (pe_callB (call_isG hz hf) (by rfl) B.b_isinstance PyProof.Rows.boot_isinstance (pa_cons (pv 1) (pa_cons (pe_glob (v := .ref (cl 6)) rfl G.m_InvalidBook rfl) pa_nil))) (pa_cons (pe_callB (call_isG hz hf) (by rfl) B.b_isinstance PyProof.Rows.boot_isinstance (pa_cons (pv 1) (pa_cons (pe_glob (v := .ref (cl 7)) rfl G.m_UnknownRule rfl) pa_nil))) (pa_cons (pe_callB (call_isG hz hf) (by rfl) B.b_isinstance PyProof.Rows.boot_isinstance (pa_cons (pv 1) (pa_cons (pe_glob (v := .ref (cl 8)) rfl G.m_InvalidRuling rfl) pa_nil))) pa_nil)))) pa_nil)))
      (pss_cons (ps_expr (pe_bm PySem.F.plainAttrs_list PySem.F.slot_list_extend PySem.F.type_list_extend mt_extend (pv 2) (pa_cons (pe_lst (pa_cons (pe_callB (call_isG hz hf) (by rfl) B.b_isinstance PyProof.Rows.boot_isinstance (pa_cons (pv 1) (pa_cons (pe_glob (v := .ref (cl 9)) rfl G.m_UnknownFact rfl) pa_nil))) (pa_cons (pe_callB (call_isG hz hf) (by rfl) B.b_isinstance PyProof.Rows.boot_isinstance (pa_cons (pv 1) (pa_cons (pe_glob (v := .ref (cl 10)) rfl G.m_NoReason rfl) pa_nil))) (pa_cons (pe_callB (call_isG hz hf) (by rfl) B.b_isinstance PyProof.Rows.boot_isinstance (pa_cons (pv 1) (pa_cons (pe_glob (v := .ref (cl 11)) rfl G.m_TooMany rfl) pa_nil))) pa_nil)))) pa_nil)))
      (pss_cons (ps_expr (pe_bm PySem.F.plainAttrs_list PySem.F.slot_list_extend PySem.F.type_list_extend mt_extend (pv 2) (pa_cons (pe_lst (pa_cons (pe_callB (call_isG hz hf) (by rfl) B.b_isinstance PyProof.Rows.boot_isinstance (pa_cons (pv 1) (pa_cons (pe_glob (v := .ref (cl 12)) rfl G.m_InvalidChance rfl) pa_nil))) (pa_cons (pe_callB (call_isG hz hf) (by rfl) B.b_isinstance PyProof.Rows.boot_isinstance (pa_cons (pv 1) (pa_cons (pe_glob (v := .ref (cl 13)) rfl G.m_OtherFacts rfl) pa_nil))) (pa_cons (pe_callB (call_isG hz hf) (by rfl) B.b_isinstance PyProof.Rows.boot_isinstance (pa_cons (pv 1) (pa_cons (pe_glob (v := .ref (cl 14)) rfl G.m_NoNeighbor rfl) pa_nil))) pa_nil)))) pa_nil)))
      (pss_cons (ps_expr (pe_bm PySem.F.plainAttrs_list PySem.F.slot_list_extend PySem.F.type_list_extend mt_extend (pv 2) (pa_cons (pe_lst (pa_cons (pe_callB (call_isG hz hf) (by rfl) B.b_isinstance PyProof.Rows.boot_isinstance (pa_cons (pv 1) (pa_cons (pe_glob (v := .ref (cl 15)) rfl G.m_NoFacts rfl) pa_nil))) (pa_cons (pe_callB (call_isG hz hf) (by rfl) B.b_isinstance PyProof.Rows.boot_isinstance (pa_cons (pv 1) (pa_cons (pe_glob (v := .ref (cl 16)) rfl G.m_AlreadyKnown rfl) pa_nil))) pa_nil))) pa_nil)))
      (pss_cons (ps_if (PW.pt (pw_or (pt_cmpR op_ne (pe_bm PySem.F.plainAttrs_list PySem.F.slot_list_count PySem.F.type_list_count mt_lcountB (pv 2) (pa_cons pe_bl pa_nil)) pe_int (nomark _)) (pw_or1 (pt_not (pt_val (pe_callB (call_isG hz hf) (by rfl) B.b_isinstance PyProof.Rows.boot_isinstance (pa_cons (pv 1) (pa_cons (pe_bltn (v := .ty "ValueError") (by rfl) B.b_ValueError (by decide +kernel) rfl) pa_nil)))))))) (pss_one (ps_ret (pe_tup (pa_cons pe_str pa_nil)))) pss_nil)
      (pss_cons (ps_set (i := 3) sc__law_error.nd rfl (Or.inl rfl) (pe_lst (pa_cons pe_str (pa_cons pe_str (pa_cons pe_str (pa_cons pe_str (pa_cons pe_str (pa_cons pe_str (pa_cons pe_str (pa_cons pe_str (pa_cons pe_str (pa_cons pe_str (pa_cons pe_str pa_nil)))))))))))))
      (pss_cons (ps_set (i := 4) sc__law_error.nd rfl (Or.inl rfl) (pe_ix ix_list (pe_op op_cat (pv 3) (pe_lst (pa_cons pe_str (pa_cons pe_str (pa_cons pe_str (pa_cons pe_str (pa_cons pe_str (pa_cons pe_str pa_nil)))))))) (pe_bm PySem.F.plainAttrs_list PySem.F.slot_list_index PySem.F.type_list_index mt_index (pv 2) (pa_cons pe_bl pa_nil)) (fun _ _ => rfl)))
      (pss_cons (ps_if (pt_cmpR op_in_seq (pv 4) (pe_tup (pa_cons pe_str (pa_cons pe_str pa_nil))) rfl) (pss_one (ps_ret (pe_tup (pa_cons (pv 4) (pa_cons (pe_xg hz hf (pv 1)) pa_nil))))) pss_nil)
      (pss_cons (ps_if (pt_cmpR op_eq (pv 4) pe_str (nomark _)) (pss_one (ps_ret (pe_tup (pa_cons (pv 4) (pa_cons (pe_xg hz hf (pv 1)) (pa_cons (pe_xg hz hf (pv 1)) pa_nil)))))) pss_nil)
      (pss_cons (ps_if (pt_cmpR op_eq (pv 4) pe_str (nomark _)) (pss_one (ps_ret (pe_tup (pa_cons (pv 4) (pa_cons (pe_xg hz hf (pv 1)) (pa_cons (pe_xg hz hf (pv 1)) pa_nil)))))) pss_nil)
      (pss_cons (ps_if (pt_cmpR op_in_seq (pv 4) (pe_tup (pa_cons pe_str (pa_cons pe_str pa_nil))) rfl) (pss_one (ps_ret (pe_tup (pa_cons (pv 4) (pa_cons (pe_ifExp (pt_cmpR op_eq (pv 4) pe_str (nomark _)) (pe_xg hz hf (pv 1)) (pe_xg hz hf (pv 1))) pa_nil))))) pss_nil)
      (pss_one (ps_ret (pe_tup (pa_cons (pv 4) pa_nil))))))))))))))))) (by first | (dsimp only [Cx.suite]; done) | exact rfl)))
      (pss_one (ps_ret (pe_tup (pa_cons pe_str pa_nil)))), ?_⟩
  · refine ⟨fun pins s' σ H' D I h' => ?_⟩
    obtain ⟨Ech, hW, h1, h2, h3⟩ := h'
    exact (pss_one (ps_expr (act _ pn xe Ech _ _ (takes_len tk) fun cls d σ' H'' z e => hW cls d σ' H'' z e))).run pins s' σ H' D I ⟨h1, h2, h3⟩
  · refine ⟨_, fun cls d σ' H1 z hl => ?_, rfl, hc, h⟩
    obtain ⟨D, k, vs, rfl, R, P, qq⟩ := z
    obtain ⟨x0, x1, x2, x3, x4, rfl⟩ := five hl
    have xd := P.xd
    refine ⟨true, R.ex, fun _ ea _ => ?_, fun z => nomatch z⟩
    refine ⟨_, rfl, D, _, _, _, rfl, R.err, xd, rfl, (fun u r => r), R.kit 0 (by decide), _, rfl, D, _, _, _, rfl, R.err, xd, rfl, (fun u r => r), R.kit 1 (by decide), _, rfl, D, _, _, _, rfl, R.err, xd, rfl, (fun u r => r), R.kit 2 (by decide), (by show 3 ≤ sizeLine; decide), fun p np => ?_⟩
    have s1 : Same H1 (upd H1 p (.lst [kb k 0, kb k 1, kb k 2])) := (Same.refl H1).put np
    have e1 : (upd H1 p (.lst [kb k 0, kb k 1, kb k 2])) p = some (.lst [kb k 0, kb k 1, kb k 2]) := upd_same
    generalize upd H1 p (.lst [kb k 0, kb k 1, kb k 2]) = G1 at s1 e1 ⊢
    refine ⟨.ref p, rfl, .inl ⟨rfl, _, sqL_of e1⟩, _, rfl, D, _, _, _, rfl, R.err, (xd.same s1), rfl, (fun u r => r), R.kit 3 (by decide), _, rfl, D, _, _, _, rfl, R.err, (xd.same s1), rfl, (fun u r => r), R.kit 4 (by decide), _, rfl, D, _, _, _, rfl, R.err, (xd.same s1), rfl, (fun u r => r), R.kit 5 (by decide), (by show 3 ≤ sizeLine; decide), fun q1 nq1 => ⟨p, q1, _, _, rfl, rfl, by rw [upd_ne (ne_of_none e1 nq1)]; exact e1, upd_same, (by show 6 ≤ sizeLine; decide), ?_⟩⟩
    have s2 : Same H1 (upd (upd G1 q1 (.lst [kb k 3, kb k 4, kb k 5])) p (.lst ([kb k 0, kb k 1, kb k 2] ++ [kb k 3, kb k 4, kb k 5]))) := (s1.put' nq1).put np
    have e2 : (upd (upd G1 q1 (.lst [kb k 3, kb k 4, kb k 5])) p (.lst ([kb k 0, kb k 1, kb k 2] ++ [kb k 3, kb k 4, kb k 5]))) p = some (.lst [kb k 0, kb k 1, kb k 2, kb k 3, kb k 4, kb k 5]) := upd_same
    generalize upd (upd G1 q1 (.lst [kb k 3, kb k 4, kb k 5])) p (.lst ([kb k 0, kb k 1, kb k 2] ++ [kb k 3, kb k 4, kb k 5])) = G2 at s2 e2 ⊢
    refine ⟨.ref p, rfl, .inl ⟨rfl, _, sqL_of e2⟩, _, rfl, D, _, _, _, rfl, R.err, (xd.same s2), rfl, (fun u r => r), R.kit 6 (by decide), _, rfl, D, _, _, _, rfl, R.err, (xd.same s2), rfl, (fun u r => r), R.kit 7 (by decide), _, rfl, D, _, _, _, rfl, R.err, (xd.same s2), rfl, (fun u r => r), R.kit 8 (by decide), (by show 3 ≤ sizeLine; decide), fun q2 nq2 => ⟨p, q2, _, _, rfl, rfl, by rw [upd_ne (ne_of_none e2 nq2)]; exact e2, upd_same, (by show 9 ≤ sizeLine; decide), ?_⟩⟩
    have s3 : Same H1 (upd (upd G2 q2 (.lst [kb k 6, kb k 7, kb k 8])) p (.lst ([kb k 0, kb k 1, kb k 2, kb k 3, kb k 4, kb k 5] ++ [kb k 6, kb k 7, kb k 8]))) := (s2.put' nq2).put np
    have e3 : (upd (upd G2 q2 (.lst [kb k 6, kb k 7, kb k 8])) p (.lst ([kb k 0, kb k 1, kb k 2, kb k 3, kb k 4, kb k 5] ++ [kb k 6, kb k 7, kb k 8]))) p = some (.lst [kb k 0, kb k 1, kb k 2, kb k 3, kb k 4, kb k 5, kb k 6, kb k 7, kb k 8]) := upd_same
    generalize upd (upd G2 q2 (.lst [kb k 6, kb k 7, kb k 8])) p (.lst ([kb k 0, kb k 1, kb k 2, kb k 3, kb k 4, kb k 5] ++ [kb k 6, kb k 7, kb k 8])) = G3 at s3 e3 ⊢
    refine ⟨.ref p, rfl, .inl ⟨rfl, _, sqL_of e3⟩, _, rfl, D, _, _, _, rfl, R.err, (xd.same s3), rfl, (fun u r => r), R.kit 9 (by decide), _, rfl, D, _, _, _, rfl, R.err, (xd.same s3), rfl, (fun u r => r), R.kit 10 (by decide), _, rfl, D, _, _, _, rfl, R.err, (xd.same s3), rfl, (fun u r => r), R.kit 11 (by decide), (by show 3 ≤ sizeLine; decide), fun q3 nq3 => ⟨p, q3, _, _, rfl, rfl, by rw [upd_ne (ne_of_none e3 nq3)]; exact e3, upd_same, (by show 12 ≤ sizeLine; decide), ?_⟩⟩
    have s4 : Same H1 (upd (upd G3 q3 (.lst [kb k 9, kb k 10, kb k 11])) p (.lst ([kb k 0, kb k 1, kb k 2, kb k 3, kb k 4, kb k 5, kb k 6, kb k 7, kb k 8] ++ [kb k 9, kb k 10, kb k 11]))) := (s3.put' nq3).put np
    have e4 : (upd (upd G3 q3 (.lst [kb k 9, kb k 10, kb k 11])) p (.lst ([kb k 0, kb k 1, kb k 2, kb k 3, kb k 4, kb k 5, kb k 6, kb k 7, kb k 8] ++ [kb k 9, kb k 10, kb k 11]))) p = some (.lst [kb k 0, kb k 1, kb k 2, kb k 3, kb k 4, kb k 5, kb k 6, kb k 7, kb k 8, kb k 9, kb k 10, kb k 11]) := upd_same
    generalize upd (upd G3 q3 (.lst [kb k 9, kb k 10, kb k 11])) p (.lst ([kb k 0, kb k 1, kb k 2, kb k 3, kb k 4, kb k 5, kb k 6, kb k 7, kb k 8] ++ [kb k 9, kb k 10, kb k 11])) = G4 at s4 e4 ⊢
    refine ⟨.ref p, rfl, .inl ⟨rfl, _, sqL_of e4⟩, _, rfl, D, _, _, _, rfl, R.err, (xd.same s4), rfl, (fun u r => r), R.kit 12 (by decide), _, rfl, D, _, _, _, rfl, R.err, (xd.same s4), rfl, (fun u r => r), R.kit 13 (by decide), _, rfl, D, _, _, _, rfl, R.err, (xd.same s4), rfl, (fun u r => r), R.kit 14 (by decide), (by show 3 ≤ sizeLine; decide), fun q4 nq4 => ⟨p, q4, _, _, rfl, rfl, by rw [upd_ne (ne_of_none e4 nq4)]; exact e4, upd_same, (by show 15 ≤ sizeLine; decide), ?_⟩⟩
    have s5 : Same H1 (upd (upd G4 q4 (.lst [kb k 12, kb k 13, kb k 14])) p (.lst ([kb k 0, kb k 1, kb k 2, kb k 3, kb k 4, kb k 5, kb k 6, kb k 7, kb k 8, kb k 9, kb k 10, kb k 11] ++ [kb k 12, kb k 13, kb k 14]))) := (s4.put' nq4).put np
    have e5 : (upd (upd G4 q4 (.lst [kb k 12, kb k 13, kb k 14])) p (.lst ([kb k 0, kb k 1, kb k 2, kb k 3, kb k 4, kb k 5, kb k 6, kb k 7, kb k 8, kb k 9, kb k 10, kb k 11] ++ [kb k 12, kb k 13, kb k 14]))) p = some (.lst [kb k 0, kb k 1, kb k 2, kb k 3, kb k 4, kb k 5, kb k 6, kb k 7, kb k 8, kb k 9, kb k 10, kb k 11, kb k 12, kb k 13, kb k 14]) := upd_same
    generalize upd (upd G4 q4 (.lst [kb k 12, kb k 13, kb k 14])) p (.lst ([kb k 0, kb k 1, kb k 2, kb k 3, kb k 4, kb k 5, kb k 6, kb k 7, kb k 8, kb k 9, kb k 10, kb k 11] ++ [kb k 12, kb k 13, kb k 14])) = G5 at s5 e5 ⊢
    refine ⟨.ref p, rfl, .inl ⟨rfl, _, sqL_of e5⟩, _, rfl, D, _, _, _, rfl, R.err, (xd.same s5), rfl, (fun u r => r), R.kit 15 (by decide), _, rfl, D, _, _, _, rfl, R.err, (xd.same s5), rfl, (fun u r => r), R.kit 16 (by decide), (by show 2 ≤ sizeLine; decide), fun q5 nq5 => ⟨p, q5, _, _, rfl, rfl, by rw [upd_ne (ne_of_none e5 nq5)]; exact e5, upd_same, (by show 17 ≤ sizeLine; decide), ?_⟩⟩
    have s6 : Same H1 (upd (upd G5 q5 (.lst [kb k 15, kb k 16])) p (.lst ([kb k 0, kb k 1, kb k 2, kb k 3, kb k 4, kb k 5, kb k 6, kb k 7, kb k 8, kb k 9, kb k 10, kb k 11, kb k 12, kb k 13, kb k 14] ++ [kb k 15, kb k 16]))) := (s5.put' nq5).put np
    have e6 : (upd (upd G5 q5 (.lst [kb k 15, kb k 16])) p (.lst ([kb k 0, kb k 1, kb k 2, kb k 3, kb k 4, kb k 5, kb k 6, kb k 7, kb k 8, kb k 9, kb k 10, kb k 11, kb k 12, kb k 13, kb k 14] ++ [kb k 15, kb k 16]))) p = some (.lst [kb k 0, kb k 1, kb k 2, kb k 3, kb k 4, kb k 5, kb k 6, kb k 7, kb k 8, kb k 9, kb k 10, kb k 11, kb k 12, kb k 13, kb k 14, kb k 15, kb k 16]) := upd_same
    generalize upd (upd G5 q5 (.lst [kb k 15, kb k 16])) p (.lst ([kb k 0, kb k 1, kb k 2, kb k 3, kb k 4, kb k 5, kb k 6, kb k 7, kb k 8, kb k 9, kb k 10, kb k 11, kb k 12, kb k 13, kb k 14] ++ [kb k 15, kb k 16])) = G6 at s6 e6 ⊢
    refine ⟨.ref p, rfl, .inl ⟨rfl, _, sqL_of e6⟩, p, _, .bl true, rfl, rfl, sqL_of e6, rfl, rfl, rfl, _, rfl, ?_⟩
    have kc : ([kb k 0, kb k 1, kb k 2, kb k 3, kb k 4, kb k 5, kb k 6, kb k 7, kb k 8, kb k 9, kb k 10, kb k 11, kb k 12, kb k 13, kb k 14, kb k 15, kb k 16]).countP (fun z => eqV z (.bl true)) = 1 := kinds_count k R.lt
    rw [kc]
    refine iteF ⟨_, rfl, D, .ty "ValueError", _, true, rfl, R.err, xd.same s6, rfl, (fun u r => r), R.ve, true, rfl, iteF ?_⟩
    refine ⟨(by show 11 ≤ sizeLine; decide), fun p2 np2 => ?_⟩
    have s7 : Same H1 (upd G6 p2 (.lst [.str "facts", .str "case", .str "number", .str "condition", .str "never", .str "rule", .str "book", .str "norule", .str "ruling", .str "fact", .str "reason"])) := s6.put' np2
    have e7 : (upd G6 p2 (.lst [.str "facts", .str "case", .str "number", .str "condition", .str "never", .str "rule", .str "book", .str "norule", .str "ruling", .str "fact", .str "reason"])) p = some (.lst [kb k 0, kb k 1, kb k 2, kb k 3, kb k 4, kb k 5, kb k 6, kb k 7, kb k 8, kb k 9, kb k 10, kb k 11, kb k 12, kb k 13, kb k 14, kb k 15, kb k 16]) := (upd_ne (ne_of_none e6 np2)).trans e6
    have f7 : (upd G6 p2 (.lst [.str "facts", .str "case", .str "number", .str "condition", .str "never", .str "rule", .str "book", .str "norule", .str "ruling", .str "fact", .str "reason"])) p2 = some (.lst [.str "facts", .str "case", .str "number", .str "condition", .str "never", .str "rule", .str "book", .str "norule", .str "ruling", .str "fact", .str "reason"]) := upd_same
    generalize upd G6 p2 (.lst [.str "facts", .str "case", .str "number", .str "condition", .str "never", .str "rule", .str "book", .str "norule", .str "ruling", .str "fact", .str "reason"]) = H7 at s7 e7 f7 ⊢
    refine ⟨.ref p2, rfl, (by show 6 ≤ sizeLine; decide), fun q8 nq8 => ?_⟩
    refine ⟨p2, q8, _, _, rfl, rfl, (upd_ne (ne_of_none f7 nq8)).trans f7, upd_same, (by show 17 ≤ sizeLine; decide), fun r nr => ?_⟩
    have s8 := s7.put' (o := .lst [.str "many", .str "chance", .str "other", .str "neighbor", .str "nofacts", .str "known"]) nq8
    have e8 := (upd_ne (o := .lst [.str "many", .str "chance", .str "other", .str "neighbor", .str "nofacts", .str "known"]) (ne_of_none e7 nq8)).trans e7
    have s9 : Same H1 (upd (upd H7 q8 (.lst [.str "many", .str "chance", .str "other", .str "neighbor", .str "nofacts", .str "known"])) r (.lst ([.str "facts", .str "case", .str "number", .str "condition", .str "never", .str "rule", .str "book", .str "norule", .str "ruling", .str "fact", .str "reason"] ++ [.str "many", .str "chance", .str "other", .str "neighbor", .str "nofacts", .str "known"]))) := s8.put' nr
    have e9 : (upd (upd H7 q8 (.lst [.str "many", .str "chance", .str "other", .str "neighbor", .str "nofacts", .str "known"])) r (.lst ([.str "facts", .str "case", .str "number", .str "condition", .str "never", .str "rule", .str "book", .str "norule", .str "ruling", .str "fact", .str "reason"] ++ [.str "many", .str "chance", .str "other", .str "neighbor", .str "nofacts", .str "known"]))) p = some (.lst [kb k 0, kb k 1, kb k 2, kb k 3, kb k 4, kb k 5, kb k 6, kb k 7, kb k 8, kb k 9, kb k 10, kb k 11, kb k 12, kb k 13, kb k 14, kb k 15, kb k 16]) := (upd_ne (ne_of_none e8 nr)).trans e8
    have f9 : (upd (upd H7 q8 (.lst [.str "many", .str "chance", .str "other", .str "neighbor", .str "nofacts", .str "known"])) r (.lst ([.str "facts", .str "case", .str "number", .str "condition", .str "never", .str "rule", .str "book", .str "norule", .str "ruling", .str "fact", .str "reason"] ++ [.str "many", .str "chance", .str "other", .str "neighbor", .str "nofacts", .str "known"]))) r = some (.lst (kindNames.map V.str)) := upd_same
    generalize upd (upd H7 q8 (.lst [.str "many", .str "chance", .str "other", .str "neighbor", .str "nofacts", .str "known"])) r (.lst ([.str "facts", .str "case", .str "number", .str "condition", .str "never", .str "rule", .str "book", .str "norule", .str "ruling", .str "fact", .str "reason"] ++ [.str "many", .str "chance", .str "other", .str "neighbor", .str "nofacts", .str "known"])) = H9 at s9 e9 f9 ⊢
    refine ⟨.ref p, rfl, .inl ⟨rfl, _, sqL_of e9⟩, p, _, .bl true, k, .bl true, rfl, rfl, sqL_of e9, rfl, rfl, kinds_at k R.lt, rfl, fun m z' hm hz => ?_, r, _, _, _, rfl, rfl, sqL_of f9, atI_nat (names_at k R.lt), ?_⟩
    · have := (kinds_off k R.lt m hm).symm.trans hz
      cases this
      rfl
    refine ⟨_, rfl, (by show 2 ≤ sizeLine; decide), fun t1 nt1 => ⟨t1, _, rfl, .inr sqT_new, rfl, rfl, _, rfl, ?_⟩⟩
    have s10 := s9.put' (o := .tup [.str "facts", .str "case"]) nt1
    rw [in_two k R.lt]
    cases P with
    | ix hk ed ea l =>
      rw [decide_eq_true hk]
      exact iteT ⟨_, rfl, _, rfl, rfl, D, _, _, _, rfl, R.err, R.noF "index" (by decide), ed, s10 _ _ ea, l, (by show 2 ≤ sizeLine; decide), fun t nt => qq _ t (s10.put' nt) upd_same (s10.free nt)⟩
    | cond ed ea l l2 =>
      exact iteF ⟨_, rfl, rfl, _, rfl, iteT ⟨_, rfl, _, rfl, rfl, D, _, _, _, rfl, R.err, R.noF "part" (by decide), ed, s10 _ _ ea, l, _, rfl, rfl, D, _, _, _, rfl, R.err, R.noF "index" (by decide), ed, s10 _ _ ea, l2, (by show 3 ≤ sizeLine; decide), fun t nt => qq _ t (s10.put' nt) upd_same (s10.free nt)⟩⟩
    | book ed ea l l2 =>
      exact iteF ⟨_, rfl, rfl, _, rfl, iteF ⟨_, rfl, rfl, _, rfl, iteT ⟨_, rfl, _, rfl, rfl, D, _, _, _, rfl, R.err, R.noF "word" (by decide), ed, s10 _ _ ea, l, _, rfl, rfl, D, _, _, _, rfl, R.err, R.noF "index" (by decide), ed, s10 _ _ ea, l2, (by show 3 ≤ sizeLine; decide), fun t nt => qq _ t (s10.put' nt) upd_same (s10.free nt)⟩⟩⟩
    | rule ed ea l =>
      exact iteF ⟨_, rfl, rfl, _, rfl, iteF ⟨_, rfl, rfl, _, rfl, iteF ⟨_, rfl, (by show 2 ≤ sizeLine; decide), fun t2 nt2 => ⟨t2, _, rfl, .inr sqT_new, rfl, rfl, _, rfl, iteT ⟨_, rfl, _, rfl, rfl, _, rfl, iteT ⟨_, rfl, rfl, D, _, _, _, rfl, R.err, R.noF "part" (by decide), ed, s10.put' nt2 _ _ ea, l, (by show 2 ≤ sizeLine; decide), fun t nt => qq _ t ((s10.put' nt2).put' nt) upd_same ((s10.put' nt2).free nt)⟩⟩⟩⟩⟩⟩
    | chance ed ea l =>
      exact iteF ⟨_, rfl, rfl, _, rfl, iteF ⟨_, rfl, rfl, _, rfl, iteF ⟨_, rfl, (by show 2 ≤ sizeLine; decide), fun t2 nt2 => ⟨t2, _, rfl, .inr sqT_new, rfl, rfl, _, rfl, iteT ⟨_, rfl, _, rfl, rfl, _, rfl, iteF ⟨_, rfl, rfl, D, _, _, _, rfl, R.err, R.noF "fact" (by decide), ed, s10.put' nt2 _ _ ea, l, (by show 2 ≤ sizeLine; decide), fun t nt => qq _ t ((s10.put' nt2).put' nt) upd_same ((s10.put' nt2).free nt)⟩⟩⟩⟩⟩⟩
    | plain hx hk h3 h5 h6 h12 =>
      rw [decide_eq_false hk]
      refine iteF ⟨_, rfl, rfl, _, rfl, ?_⟩
      rw [is_cond k R.lt, decide_eq_false h3]
      refine iteF ⟨_, rfl, rfl, _, rfl, ?_⟩
      rw [is_book k R.lt, decide_eq_false h6]
      refine iteF ⟨_, rfl, (by show 2 ≤ sizeLine; decide), fun t2 nt2 => ⟨t2, _, rfl, .inr sqT_new, rfl, rfl, _, rfl, ?_⟩⟩
      rw [in_rule k R.lt, decide_eq_false h5, decide_eq_false h12]
      exact iteF ⟨_, rfl, (by show 1 ≤ sizeLine; decide), fun t nt => qq _ t ((s10.put' nt2).put' nt) upd_same ((s10.put' nt2).free nt)⟩
end Sc
namespace Sc
open PySem PySem.Spec PyProof.Rows L2
section
variable {P : Program} {w : World} {K : PySem.W.Frag} {mg : Str → Option Value} {base : Heap} {a l : Addr} {H H' H'' : Hp}
/-- a def whose code is known -/
structure FunC (K : PySem.W.Frag) (x qual : Str) (st : Stmt) (f : Addr) (fd : FuncData) (c : Addr) : Prop where
  ex : ∃ (oc : Value) (od : Option Addr) (kV doc pm : Value) (an : Option Addr) (ct : Value) (osl : Array (Option Value)), fd = PySem.W.fnOf x qual (defArgs st) (defBody st) (defScope st) .none kV doc pm an (.ref c) ct ∧ K.lookup f = some ⟨oc, od, .func fd, osl⟩ ∧ PySem.W.codeIn K (.ref c) qual = true
  kp : PySem.W.keepIn K (.ref f) = true
theorem FunC.ok {x qual : Str} {st : Stmt} {f : Addr} {fd : FuncData} {c : Addr} {N ps : List Str} {k : Nat} {sp : Sp} (F : FunC K x qual st f fd c) (S : FnScope N ps (defScope st))
    (len : ∀ (vs : List V) (H : Hp) (Q : VK) (E : XK), sp vs H Q E → vs.length = ps.length)
    (hb : ∀ (A : Around) (outer : List Env) (s : Shared) (H : Hp) (vs : List V) (Q : VK) (E : XK), Room k (A.deeper (envOfC qual (defScope st) s.heap.objs.size f (.ref c))) → sp vs H Q E →
      ∃ t, PSs (cxOf CX0 P w K mg base N qual (defScope st) f (.ref c) A outer s H E).nox (defBody st) t ∧ t { nx := fun x H' => Q .non H', rt := Q } (L2.start N vs) H) : FnOk P w K mg base CX0 (k + 1) f fd ps sp := by
  obtain ⟨oc, od, kV, doc, pm, an, ct, osl, rfl, lk, hcd⟩ := F.ex
  exact fn_of lk hcd S len fun A outer s H vs Q E hr h => by
    obtain ⟨t, h1, h2⟩ := hb A outer s H vs Q E hr h
    exact ⟨t, PSs.nox h1, h2⟩
/-- _law_error(lambda: ..) -/
theorem pe_errlam {X : Cx} {c PT : Addr} {k : Nat} {g : Addr} {fd : FuncData} {cl : Nat → Addr} {CE : Addr} {params : Arguments} {body : Expr} {scope : Scope} {t : XK → TE} {p lpos pos : Pos}
    (F : Fun X.K "_law_error" "_law_error" s__law_error g fd) (hm : X.mg "_law_error" = some (.ref g)) (hb : Binds X.K fd ["_law_call"] []) (B : Blt X.mg) (G : GErr X.mg cl CE) (TB : LamX.TabB X.base X.mg c PT) (hcode : X.env.code = .ref c)
    (hr : Room (k + 2) X.A) (L : LamX.LamS X.env.scope scope) (hdef : defaultsOf params X.env = ([], []))
    (hbind : ∀ (q : Str) (cl : List (Str × Addr)) (pm cv ctv : Value), bindArgs (PySem.W.kla_fn "<lambda>" q params body scope cl pm cv ctv) {} = pure [])
    (hbody : ∀ (A : Around) (outer : List Env) (s : Shared) (H : Hp) (E : XK) (f c' : Addr), Room k (A.deeper (LamX.lamEnv X scope s.heap.objs.size f c')) → PE (LamX.lamCx X A outer s H E scope f c') body (t E)) (hg : Gl X "_law_error" := by rfl) :
    PE X (.Call (.Name "_law_error" p) [.Lambda params body scope lpos] [] pos) (LamX.tLam [(PT, X.env.qual ++ "<lambda>")] (TErr X.K cl CE) t) := by
  obtain ⟨oc, od, kV, doc, pm, an, cdv, ct, osl, rfl, lk, hcd⟩ := F.ex
  exact LamX.pe_lamcall hg hm F.kp lk hcd hb sc__law_error rfl (Or.inl rfl) (err_gives B G) TB hcode (List.mem_singleton.mpr rfl) (fun p hp _ => by rw [List.mem_singleton.mp hp]) hr L hdef hbind hbody
theorem twelve_fine : Fines twelve := by
  unfold Fines Fine
  decide +kernel
theorem tabs_kp {T : List (Addr × Str)} (k : Kp a l H H') (t : LamX.Tabs T H) : LamX.Tabs T H' := fun p hp => by
  obtain ⟨ps, h1, h2, h3⟩ := t p hp
  refine ⟨ps, k.obj h1 (fun _ z => nomatch z), h2, fun pos cv e => ?_⟩
  obtain ⟨c, e1, e2⟩ := h3 pos cv e
  exact ⟨c, e1, k.obj e2 (fun _ z => by unfold LamX.CodeO at z; cases z)⟩
theorem RS.ext (r : RS H a l) (e : LamX.ExtN H H') : RS H' a l := by
  obtain ⟨st, k, ns, h1, h2, q⟩ := r
  exact ⟨st, k, ns, e _ _ h1 (fun _ z => nomatch z), e _ _ h2 (fun _ z => nomatch z), q⟩
theorem sqT_ext {b : Addr} {xs : List V} (e : LamX.ExtN H H') (h : SqT K H b xs) : SqT K H' b xs := by
  rcases h with (h | ⟨o, h⟩) | h
  · exact .inl (.inl (e _ _ h fun _ z => nomatch z))
  · exact .inl (.inr ⟨o, e _ _ h fun _ z => nomatch z⟩)
  · exact .inr h
abbrev dOne (x : Str) : PyData := .tuple [.str x]
theorem dp_one {b : Addr} {x : Str} (h : SqT K H b [.str x]) : Dp K H (.ref b) (dOne x) := .tup h (.cons (.str _) .nil)
theorem lay_one {x : Str} (h : (PyData.str x).canLay0 = true) : (dOne x).canLay0 = true := by show ((PyData.str x).canLay0 && true) = true; rw [h]; rfl
theorem sh_one {x : Str} (h : (PyData.str x).canLay0 = true) : SeqAt.shaped (dOne x) = true := by
  unfold SeqAt.shaped
  rw [lay_one h]
  rfl
theorem eq_one {x : Str} (h : (PyData.str x).canLay0 = true) : (dOne x).eqv (dOne x) = true := SeqAt.eqv_refl _ (lay_one h)
theorem ad_strs {p : Addr} {cs : List Str} (e : H p = some (.tup (cs.map V.str))) (hl : cs.length ≤ 1000) : AD H 1 (.ref p) (.tuple (cs.map PyData.str)) := by
  refine .tup e (by rw [List.length_map, List.length_map]) (by rw [List.length_map]; omega) fun i x d hx hd => ?_
  rw [List.getElem?_map] at hx hd
  cases h : cs[i]? with
  | none => rw [h] at hx; cases hx
  | some z =>
    rw [h] at hx hd
    cases hx
    cases hd
    exact .str 0 z
abbrev qLam : Str := (Str.ofString "law" ++ Str.ofString ".<locals>.") ++ Str.ofString "<lambda>"
end
end Sc
namespace Sc
open PySem PySem.Spec PyProof.Rows L2
/-- a block within a block that uses no name from around -/
theorem blkOk_any {N : List Str} {sc sc' scope : Scope} {own : List (Str × Nat)} (h : BlkOk N sc scope own) (nf : (scope.names.all fun y => match y.2 with | .free => false | _ => true) = true) : BlkOk N sc' scope own :=
  ⟨h.kind, h.uniq, h.ix, fun y hy e => by
    have q := List.all_eq_true.mp nf y hy
    rw [e] at q
    exact Bool.noConfusion q, h.own⟩
/-! ### a list of whatever items against an empty one -/
def rNilE (neg : Bool) : R2 := fun x y H Q => ∃ (a b : Addr) (xs : List V), x = .ref a ∧ y = .ref b ∧ H a = some (.lst xs) ∧ H b = some (.lst []) ∧ Q (.bl (if neg then !xs.isEmpty else xs.isEmpty)) H
section
variable {X : Cx}
theorem op_neE (hu : X.A.units + 64 < cLine) : OpR X (compareOp .NotEq) (rNilE true) := by
  intro pins s σ H x y v u Q I rx ry h
  obtain ⟨a, b, xs, rfl, rfl, ha, hb, q⟩ := h
  cases rx
  cases ry
  obtain ⟨its, r, p1, _⟩ := I.list (.inl (.inl ha))
  obtain ⟨its2, r2, p2, _⟩ := I.list (.inl (.inl hb))
  have h1 := r.length
  have h2 := r2.length
  have z2 : its2 = [] := List.length_eq_zero_iff.mp (by rw [← h2]; rfl)
  subst z2
  cases xs with
  | nil =>
    have z1 : its = [] := List.length_eq_zero_iff.mp (by rw [← h1]; rfl)
    subst z1
    exact EqBoolInt.of_rcne (SeqAt.RcNeAt.lists (e := fun _ => true) p1.isList p2.isList rfl (by omega) (fun j hj _ => absurd hj (Nat.not_lt_zero j))) ⟨.bl _, H, I, rfl, q⟩
  | cons z r0 =>
    exact EqBoolInt.of_rcne (SeqAt.RcNeAt.lists_lengths p1.isList p2.isList (by
      have : its.length ≠ 0 := by rw [← h1, List.length_cons]; omega
      simpa using fun e => this (by rw [e]; rfl)) (by omega)) ⟨.bl _, H, I, rfl, q⟩
theorem op_eqE (hu : X.A.units + 64 < cLine) : OpR X (compareOp .Eq) (rNilE false) := by
  intro pins s σ H x y v u Q I rx ry h
  obtain ⟨a, b, xs, rfl, rfl, ha, hb, q⟩ := h
  cases rx
  cases ry
  obtain ⟨its, r, p1, _⟩ := I.list (.inl (.inl ha))
  obtain ⟨its2, r2, p2, _⟩ := I.list (.inl (.inl hb))
  have h1 := r.length
  have h2 := r2.length
  have z2 : its2 = [] := List.length_eq_zero_iff.mp (by rw [← h2]; rfl)
  subst z2
  cases xs with
  | nil =>
    have z1 : its = [] := List.length_eq_zero_iff.mp (by rw [← h1]; rfl)
    subst z1
    exact EqBoolInt.of_rc (SeqAt.RcAt.lists (e := fun _ => true) p1.isList p2.isList rfl (by omega) (fun j hj _ => absurd hj (Nat.not_lt_zero j))) ⟨.bl _, H, I, rfl, q⟩
  | cons z r0 =>
    exact EqBoolInt.of_rc (SeqAt.RcAt.lists_lengths p1.isList p2.isList (by
      have : its.length ≠ 0 := by rw [← h1, List.length_cons]; omega
      simpa using fun e => this (by rw [e]; rfl)) (by omega)) ⟨.bl _, H, I, rfl, q⟩
end
end Sc
namespace Sc
open PySem PySem.Spec PyProof.Rows L2
theorem sc__law_pairs : FnScope ["_law_rules_here", "_law_outer", "_law_every_here", "_law_found", "_law_k", "_law_j", "_law_some", "_law_met", "_law_case_here", "_law_row"] ["_law_rules_here", "_law_outer", "_law_every_here"] (defScope s__law_pairs) := ⟨rfl, rfl, rfl, by decide +kernel, rfl, by decide +kernel, by decide +kernel⟩
/-! ### the first case that meets some rules -/
def numOf (w : Str → Bool) : List Str → Nat
  | [] => 0
  | x :: r => (if w x = true then 1 else 0) + 2 * numOf w r
theorem numOf_lt {w : Str → Bool} : ∀ xs : List Str, numOf w xs < 2 ^ xs.length
  | [] => by show 0 < 1; decide
  | x :: r => by
    have h := numOf_lt (w := w) r
    show (if w x = true then 1 else 0) + 2 * numOf w r < 2 ^ (r.length + 1)
    rw [Nat.pow_succ]
    split <;> omega
theorem caseOf_cons {x : Str} {r : List Str} {n : Nat} : caseOf (x :: r) n = (if n % 2 = 1 then [x] else []) ++ caseOf r (n / 2) := rfl
theorem numOf_case {w : Str → Bool} : ∀ xs : List Str, caseOf xs (numOf w xs) = xs.filter w
  | [] => rfl
  | x :: r => by
    rw [caseOf_cons]
    show (if ((if w x = true then 1 else 0) + 2 * numOf w r) % 2 = 1 then [x] else []) ++ caseOf r (((if w x = true then 1 else 0) + 2 * numOf w r) / 2) = _
    cases h : w x with
    | true =>
      rw [if_pos (show true = true from rfl), if_pos (by omega), show (1 + 2 * numOf w r) / 2 = numOf w r by omega, numOf_case r, List.filter_cons_of_pos h]
      rfl
    | false =>
      rw [if_neg (show ¬ false = true from Bool.false_ne_true), if_neg (by omega), show (0 + 2 * numOf w r) / 2 = numOf w r by omega, numOf_case r, List.filter_cons_of_neg (by rw [h]; decide)]
      rfl
theorem numOf_le {w : Str → Bool} : ∀ {xs : List Str} {n : Nat}, xs.Nodup → (∀ x ∈ xs, w x = true → x ∈ caseOf xs n) → numOf w xs ≤ n
  | [], n, _, _ => Nat.zero_le n
  | x :: r, n, nd, h => by
    obtain ⟨n1, n2⟩ := List.nodup_cons.mp nd
    have h2 : numOf w r ≤ n / 2 := numOf_le n2 fun y hy hw => by
      have h3 := h y (List.mem_cons_of_mem _ hy) hw
      rw [caseOf_cons] at h3
      rcases List.mem_append.mp h3 with h3 | h3
      · split at h3
        · rw [List.mem_singleton.mp h3] at hy
          exact absurd hy n1
        · cases h3
      · exact h3
    have h1 : w x = true → n % 2 = 1 := fun hw => by
      have h3 := h x List.mem_cons_self hw
      rw [caseOf_cons] at h3
      rcases List.mem_append.mp h3 with h3 | h3
      · split at h3
        · assumption
        · cases h3
      · exact absurd ((caseOf_sub r _).subset h3) n1
    show (if w x = true then 1 else 0) + 2 * numOf w r ≤ n
    split
    · rename_i hw
      have := h1 hw
      omega
    · omega
def allMeet (ms : List Nd) (cs : List Str) : Bool := ms.all fun r => meets r.hs r.fs cs
theorem all_meet {ms : List Nd} {cs J JB : List Str} (hJ : ∀ x, x ∈ J ↔ ∃ r ∈ ms, x ∈ r.hs) (hB : ∀ x, x ∈ JB ↔ ∃ r ∈ ms, x ∈ r.fs) : allMeet ms cs = true ↔ (∀ x ∈ J, x ∈ cs) ∧ ∀ x ∈ JB, ¬ x ∈ cs := by
  unfold allMeet
  rw [List.all_eq_true]
  constructor
  · intro h
    refine ⟨fun x hx => ?_, fun x hx => ?_⟩
    · obtain ⟨r, hr, hx⟩ := (hJ x).mp hx
      have h := h r hr
      unfold meets at h
      rw [Bool.and_eq_true] at h
      exact of_decide_eq_true (List.all_eq_true.mp h.1 x hx)
    · obtain ⟨r, hr, hx⟩ := (hB x).mp hx
      have h := h r hr
      unfold meets at h
      rw [Bool.and_eq_true, Bool.not_eq_true'] at h
      intro z
      exact List.any_eq_false.mp h.2 x hx (decide_eq_true z)
  · rintro ⟨h1, h2⟩ r hr
    unfold meets
    rw [Bool.and_eq_true, Bool.not_eq_true']
    exact ⟨List.all_eq_true.mpr fun x hx => decide_eq_true (h1 x ((hJ x).mpr ⟨r, hr, hx⟩)), List.any_eq_false.mpr fun x hx z => h2 x ((hB x).mpr ⟨r, hr, hx⟩) (of_decide_eq_true z)⟩
def metL (xs : List Str) (ms : List Nd) (n : Nat) : List (List Str) := ((List.range n).map (caseOf xs)).filter (allMeet ms)
theorem first_met {xs J JB : List Str} {ms : List Nd} (nd : xs.Nodup) (hJ : ∀ x, x ∈ J ↔ ∃ r ∈ ms, x ∈ r.hs) (hB : ∀ x, x ∈ JB ↔ ∃ r ∈ ms, x ∈ r.fs) (sJ : xs.filter (fun x => decide (x ∈ J)) = J) (sB : ∀ x ∈ JB, x ∈ xs) :
    (metL xs ms (2 ^ xs.length)).take 1 = if clean xs J JB = true then [J] else [] := by
  unfold metL
  rw [List.take_one, List.head?_filter, List.find?_map]
  have subJ : ∀ x ∈ J, x ∈ xs := fun x hx => by rw [← sJ] at hx; exact (List.mem_filter.mp hx).1
  have hc : clean xs J JB = true ↔ ∀ x ∈ xs, ¬ (x ∈ J ∧ x ∈ JB) := by
    unfold clean
    rw [decide_eq_true_iff, band_zero]
  by_cases c : clean xs J JB = true
  · rw [if_pos c]
    have hc := hc.mp c
    have hN := numOf_case (w := fun x => decide (x ∈ J)) xs
    rw [sJ] at hN
    have hf : (List.range (2 ^ xs.length)).find? (allMeet ms ∘ caseOf xs) = some (numOf (fun x => decide (x ∈ J)) xs) := by
      rw [List.find?_range_eq_some]
      refine ⟨?_, List.mem_range.mpr (numOf_lt xs), fun j hj => ?_⟩
      · show allMeet ms (caseOf xs _) = true
        rw [hN, all_meet hJ hB]
        exact ⟨fun x hx => hx, fun x hx z => hc x (sB x hx) ⟨z, hx⟩⟩
      · show (!allMeet ms (caseOf xs j)) = true
        rw [Bool.not_eq_true']
        cases e : allMeet ms (caseOf xs j) with
        | false => rfl
        | true =>
          have := numOf_le (w := fun x => decide (x ∈ J)) nd fun x hx hw => ((all_meet hJ hB).mp e).1 x (of_decide_eq_true hw)
          omega
    rw [hf]
    show [caseOf xs _] = _
    rw [hN]
  · rw [if_neg c]
    have hf : (List.range (2 ^ xs.length)).find? (allMeet ms ∘ caseOf xs) = none := by
      rw [List.find?_eq_none]
      intro j _ hj
      have hj : allMeet ms (caseOf xs j) = true := hj
      rw [all_meet hJ hB] at hj
      exact c (hc.mpr fun x hx z => hj.2 x z.2 (hj.1 x z.1))
    rw [hf]
    rfl
section
variable {P : Program} {w : World} {K : PySem.W.Frag} {mg : Str → Option Value} {base : Heap}
/-- what the rules around join to -/
structure Cov (xs : List Str) (ns : List Nd) (ws bs : List Str) : Prop where
  h : ∀ x ∈ xs, x ∈ ws ↔ ∃ r ∈ ns, x ∈ r.hs
  b : ∀ x ∈ xs, x ∈ bs ↔ ∃ r ∈ ns, x ∈ r.fs
/-- a condition on the facts of a book -/
structure InF (xs : List Str) (n : Nd) : Prop where
  h : ∀ x ∈ n.hs, x ∈ xs
  b : ∀ x ∈ n.fs, x ∈ xs
  f1 : Fines n.hs
  f2 : Fines n.fs
  l1 : n.hs.length ≤ 1000
  l2 : n.fs.length ≤ 1000
theorem Cov.more {xs ws bs : List Str} {ns : List Nd} {n : Nd} (c : Cov xs ns ws bs) (i : InF xs n) : Cov xs (ns ++ [n]) (joinF xs n.hs ws) (joinF xs n.fs bs) := by
  refine ⟨fun x hx => ?_, fun x hx => ?_⟩
  · rw [mem_joinF, c.h x hx]
    constructor
    · rintro ⟨_, h | ⟨r, hr, h⟩⟩
      · exact ⟨n, List.mem_append_right _ List.mem_cons_self, h⟩
      · exact ⟨r, List.mem_append_left _ hr, h⟩
    · rintro ⟨r, hr, h⟩
      rcases List.mem_append.mp hr with hr | hr
      · exact ⟨hx, .inr ⟨r, hr, h⟩⟩
      · rw [List.mem_singleton.mp hr] at h
        exact ⟨hx, .inl h⟩
  · rw [mem_joinF, c.b x hx]
    constructor
    · rintro ⟨_, h | ⟨r, hr, h⟩⟩
      · exact ⟨n, List.mem_append_right _ List.mem_cons_self, h⟩
      · exact ⟨r, List.mem_append_left _ hr, h⟩
    · rintro ⟨r, hr, h⟩
      rcases List.mem_append.mp hr with hr | hr
      · exact ⟨hx, .inr ⟨r, hr, h⟩⟩
      · rw [List.mem_singleton.mp hr] at h
        exact ⟨hx, .inl h⟩
theorem joinF_comm {xs as bs : List Str} : joinF xs as bs = joinF xs bs as := by
  unfold joinF
  exact List.filter_congr fun x _ => Bool.or_comm _ _
theorem filter_join {xs as bs : List Str} : xs.filter (fun x => decide (x ∈ joinF xs as bs)) = joinF xs as bs := by
  unfold joinF
  refine List.filter_congr fun x hx => ?_
  rw [Bool.eq_iff_iff, decide_eq_true_iff, List.mem_filter]
  exact ⟨fun h => h.2, fun h => ⟨hx, h⟩⟩
/-- the first case that meets two rules and those around them -/
theorem met_pair {xs ws bs : List Str} {ns : List Nd} {n m : Nd} (nd : xs.Nodup) (c : Cov xs ns ws bs) (hns : ∀ r ∈ ns, InF xs r) (hn : InF xs n) (hm : InF xs m) (hrl : n.rl ≠ m.rl) :
    ((metL xs (ns ++ [n, m]) (2 ^ xs.length)).take 1).map (fun cs => (n.nm, m.nm, cs)) = (besideO xs n.nm n.rl (joinF xs n.hs ws) (joinF xs n.fs bs) m).toList := by
  have c2 := (c.more hn).more hm
  have e : ns ++ [n] ++ [m] = ns ++ [n, m] := by rw [List.append_assoc]; rfl
  rw [e] at c2
  have hin : ∀ r ∈ ns ++ [n, m], InF xs r := fun r hr => by
    rcases List.mem_append.mp hr with hr | hr
    · exact hns r hr
    · rcases List.mem_cons.mp hr with rfl | hr
      · exact hn
      · rw [List.mem_singleton.mp hr]; exact hm
  rw [joinF_comm (as := m.hs), joinF_comm (as := m.fs)] at c2
  rw [first_met (J := joinF xs (joinF xs n.hs ws) m.hs) (JB := joinF xs (joinF xs n.fs bs) m.fs) nd (fun x => ?_) (fun x => ?_) filter_join (fun x hx => (mem_joinF.mp hx).1)]
  · unfold besideO
    by_cases hc : clean xs (joinF xs (joinF xs n.hs ws) m.hs) (joinF xs (joinF xs n.fs bs) m.fs) = true
    · rw [if_pos hc, if_pos ⟨hrl, hc⟩]
      rfl
    · rw [if_neg hc, if_neg fun z => hc z.2]
      rfl
  · constructor
    · intro h
      exact (c2.h x (mem_joinF.mp h).1).mp h
    · rintro ⟨r, hr, h⟩
      exact (c2.h x ((hin r hr).h x h)).mpr ⟨r, hr, h⟩
  · constructor
    · intro h
      exact (c2.b x (mem_joinF.mp h).1).mp h
    · rintro ⟨r, hr, h⟩
      exact (c2.b x ((hin r hr).b x h)).mpr ⟨r, hr, h⟩
theorem metL_more {xs : List Str} {ms : List Nd} {i : Nat} : metL xs ms (i + 1) = metL xs ms i ++ (if allMeet ms (caseOf xs i) = true then [caseOf xs i] else []) := by
  unfold metL
  rw [List.range_succ, List.map_append, List.filter_append]
  congr 1
  show List.filter _ [caseOf xs i] = _
  rw [List.filter_cons]
  rfl
theorem metL_len {xs : List Str} {ms : List Nd} {i : Nat} : (metL xs ms i).length ≤ i := by
  have h := List.length_filter_le (allMeet ms) ((List.range i).map (caseOf xs))
  rw [List.length_map, List.length_range] at h
  exact h
def CasAt (K : PySem.W.Frag) (H : Hp) (v : V) (cs : List Str) : Prop := ∃ b, v = .ref b ∧ SqT K H b (cs.map V.str)
theorem CasAt.same {H H' : Hp} {v : V} {cs : List Str} (s : Same H H') (h : CasAt K H v cs) : CasAt K H' v cs := by
  obtain ⟨b, e, h⟩ := h
  exact ⟨b, e, s.tup h⟩
theorem CasAt.keeps {N : Addr → Prop} {H H' : Hp} {v : V} {cs : List Str} (h : CasAt K H v cs) (k : Keeps N H H') : CasAt K H' v cs := by
  obtain ⟨b, e, h⟩ := h
  exact ⟨b, e, k.tup h⟩
def sp_pairs (K : PySem.W.Frag) (d : Nat) : Sp := fun vs H Q _ => ∃ (p ol ev : Addr) (xs ws bs : List Str) (rs us : List V) (ns : List Nd) (f : RF), vs = [.ref p, .ref ol, .ref ev] ∧ SqT K H p rs ∧ RowsAt K H f rs ∧ H ol = some (.lst us) ∧ All2 (RowAt K H) us ns ∧ Cases H ev xs (2 ^ xs.length) ∧ xs.length ≤ 12 ∧ xs.Nodup ∧
  Cov xs ns ws bs ∧ (∀ n ∈ ns, InF xs n) ∧ f.every (InF xs) ∧ f.dep ≤ d ∧ f.size ≤ 900 ∧ ns.length + f.dep ≤ 100 ∧ ∀ H' D us', Same H H' → H' D = some (.lst us') → All2 (TriAt K H') us' (f.clw xs ws bs) → Q (.ref D) H'
theorem ok_pairs {d : Nat} {f : Addr} {fd : FuncData} (F : Fun K "_law_pairs" "_law_pairs" s__law_pairs f fd) (B : Blt mg) (c__law_meets : Cal P w K mg base CX0 1 "_law_meets" ["_law_row", "_law_case_here"] (sp_meets K)) (c__law_pairs : Cal P w K mg base CX0 (d + 2) "_law_pairs" ["_law_rules_here", "_law_outer", "_law_every_here"] (Below (sp_pairs K) d)) :
    FnOk P w K mg base CX0 (d + 3) f fd ["_law_rules_here", "_law_outer", "_law_every_here"] (sp_pairs K d) := by
  refine F.ok sc__law_pairs (fun vs H Q E h => by obtain ⟨p, ol, ev, xs, ws, bs, rs, us, ns, f, rfl, _⟩ := h; rfl) (fun cdv A outer s H vs Q E hr h => ?_)
  obtain ⟨p, ol, ev, xs, ws, bs, rs, us, ns, f, rfl, hP, hX, eo, hus, hev, hxl, hnd, hcov, hin, hfin, hd, hz, hnl, q⟩ := h
  have hA := hX.all
  have hln := hA.len
  have hlz := RF.nodes_le f
  refine ⟨_, (pss_cons (ps_set (i := 3) sc__law_pairs.nd rfl (Or.inl rfl) (pe_lst pa_nil))
      (pss_cons (ps_for PassesOwn.never rfl (pi_range1 (by rfl) B.b_range (pa_cons (pe_callB call_len_seq (by rfl) B.b_len PySem.boot_len (pa_cons (pv 0) pa_nil)) pa_nil)) (pg_name (i := 4) sc__law_pairs.nd rfl (Or.inr rfl)) (pss_cons (ps_for PassesOwn.never rfl (pi_range2 (by rfl) B.b_range (pa_cons (pe_op op_add (pv 4) pe_int) (pa_cons (pe_callB call_len_seq (by rfl) B.b_len PySem.boot_len (pa_cons (pv 0) pa_nil)) pa_nil))) (pg_name (i := 5) sc__law_pairs.nd rfl (Or.inr rfl)) (pss_one (ps_if (pt_cmpR op_ne (pe_ix ix_tup (pe_ix ix_tup (pv 0) (pv 4) (fun _ _ => rfl)) pe_int (fun _ _ => rfl)) (pe_ix ix_tup (pe_ix ix_tup (pv 0) (pv 5) (fun _ _ => rfl)) pe_int (fun _ _ => rfl)) (nomark _)) (pss_cons (ps_set (i := 6) sc__law_pairs.nd rfl (Or.inr rfl) (pe_op op_cat (pv 1) (pe_lst (pa_cons (pe_ix ix_tup (pv 0) (pv 4) (fun _ _ => rfl)) (pa_cons (pe_ix ix_tup (pv 0) (pv 5) (fun _ _ => rfl)) pa_nil)))))
      (pss_cons (ps_setLc (i := 7) (own := [("_law_case_here", 8)]) (g := gName 8) rfl sc__law_pairs.nd rfl rfl (sw_true rfl rfl rfl (by decide +kernel)) (pi_list (pv 2)) (blkOk_by (own := [("_law_case_here", 8)]) (N := ["_law_rules_here", "_law_outer", "_law_every_here", "_law_found", "_law_k", "_law_j", "_law_some", "_law_met", "_law_case_here", "_law_row"]) (sc := defScope s__law_pairs) (by decide +kernel)) (fun _ _ _ _ _ => (pg_name (i := 8) sc__law_pairs.nd rfl (by first | exact Or.inr rfl | exact Or.inl rfl))) (fun _ _ _ _ _ => (pts_.re (pts_one (pt_cmpR (op_eqE hr.units) (pe_lc (own := [("_law_row", 9)]) (g := gName 9) rfl sc__law_pairs.nd (pi_list (pv 6)) (blkOk_by (own := [("_law_row", 9)]) (N := ["_law_rules_here", "_law_outer", "_law_every_here", "_law_found", "_law_k", "_law_j", "_law_some", "_law_met", "_law_case_here", "_law_row"]) (by dsimp only [cxOf, Cx.nox, Cx.blk, compEnvC]; exact rfl)) (fun _ _ _ _ _ => (pg_name (i := 9) sc__law_pairs.nd rfl (Or.inl rfl))) (fun _ _ _ _ _ => (pts_.re (pts_one (pt_not (pt_val (pe_cal c__law_meets (hr.mono (by omega)) (pa_cons (pv 9) (pa_cons (pv 8) pa_nil)))))) (by first | (dsimp only [Cx.blk]; done) | exact rfl))) (fun _ _ _ _ _ => (pe_.re (pv 9) (by first | (dsimp only [Cx.blk]; done) | exact rfl)))) (pe_lst pa_nil) (nomark _))) (by first | (dsimp only [Cx.blk]; done) | exact rfl))) (fun _ _ _ _ _ => (pe_.re (pv 8) (by first | (dsimp only [Cx.blk]; done) | exact rfl))))
      (pss_one (ps_expr (pe_bm PySem.F.plainAttrs_list PySem.F.slot_list_extend PySem.F.type_list_extend mt_extend (pv 3) (pa_cons (pe_lc (own := [("_law_case_here", 8)]) (g := gName 8) (tt := tYes) rfl sc__law_pairs.nd (pi_list (pe_slice sl_list (pv 7) po_none (po_some pe_int))) (blkOk_by (own := [("_law_case_here", 8)]) (N := ["_law_rules_here", "_law_outer", "_law_every_here", "_law_found", "_law_k", "_law_j", "_law_some", "_law_met", "_law_case_here", "_law_row"]) (sc := defScope s__law_pairs) (by decide +kernel)) (fun _ _ _ _ _ => (pg_name (i := 8) sc__law_pairs.nd rfl (by first | exact Or.inr rfl | exact Or.inl rfl))) (fun _ _ _ _ _ => pts_nil) (fun _ _ _ _ _ => (pe_.re (pe_tup (pa_cons (pe_ix ix_tup (pe_ix ix_tup (pv 0) (pv 4) (fun _ _ => rfl)) pe_int (fun _ _ => rfl)) (pa_cons (pe_ix ix_tup (pe_ix ix_tup (pv 0) (pv 5) (fun _ _ => rfl)) pe_int (fun _ _ => rfl)) (pa_cons (pv 8) pa_nil)))) (by first | (dsimp only [Cx.blk]; done) | exact rfl)))) pa_nil)))))) pss_nil)))
      (pss_one (ps_expr (pe_bm PySem.F.plainAttrs_list PySem.F.slot_list_extend PySem.F.type_list_extend mt_extend (pv 3) (pa_cons (pe_cal c__law_pairs hr (pa_cons (pe_ix ix_tup (pe_ix ix_tup (pv 0) (pv 4) (fun _ _ => rfl)) pe_int (fun _ _ => rfl)) (pa_cons (pe_op op_cat (pv 1) (pe_lst (pa_cons (pe_ix ix_tup (pv 0) (pv 4) (fun _ _ => rfl)) pa_nil))) (pa_cons (pv 2) pa_nil)))) pa_nil))))))
      (pss_one (ps_ret (pv 3))))), ?_⟩
  have htot := RF.clw_len (xs := xs) ws bs f
  have hsq : f.size * f.size ≤ 900 * 900 := Nat.mul_le_mul hz hz
  have hp2 : 2 ^ xs.length ≤ 4096 := (Nat.pow_le_pow_right (by decide) hxl : 2 ^ xs.length ≤ 2 ^ 12)
  have hfe := RF.every_nodes.mp hfin
  have hul := hus.len
  have szl : sizeLine ≥ 1000000 := by rw [sizeLine_eq]; decide
  refine ⟨Nat.zero_le _, fun D nD => ?_⟩
  have s0 : Same H (upd H D (.lst [])) := (Same.refl H).put nD
  have e0 : (upd H D (.lst [])) D = some (.lst []) := upd_same
  generalize upd H D (.lst []) = H0 at s0 e0 ⊢
  refine ⟨_, rfl, p, rs, rfl, .inr (s0.tup hP), _, rfl, by omega, by omega, for_it walk_range (fun i σ H' => ∃ (us : List V) (acc : List Tri) (y4 y5 y6 y7 : Option V), σ = [some (.ref p), some (.ref ol), some (.ref ev), some (.ref D), y4, y5, y6, y7, none, none] ∧ Same H H' ∧ H' D = some (.lst us) ∧ All2 (TriAt K H') us acc ∧ f.clw xs ws bs = acc ++ (f.rest i).clw xs ws bs)
    ⟨[], [], _, _, _, _, rfl, s0, e0, .nil, by unfold RF.rest; rw [List.drop_zero, RF.of_nodes]; rfl⟩ (fun _ _ _ _ _ => trivial) ?_ ?_⟩
  · rintro i y σ H4 H3 hi ⟨ts, acc, y4, y5, y6, y7, rfl, s, e, hts, hcl⟩ ⟨rfl, hy⟩
    have hi : i < f.nodes.length := by
      have hi : i < ((rs.length : Nat) : Int).toNat := hi
      omega
    have hy : y = V.int (i : Nat) := by rw [hy]; show V.int (0 + (i : Nat)) = _; rw [Int.zero_add]
    subst hy
    obtain ⟨v, hv, hrow⟩ := hA.at' hi
    have hget : f.nodes[i]? = some f.nodes[i] := List.getElem?_eq_getElem hi
    generalize f.nodes[i] = n at hrow hget
    have hmem : n ∈ f.nodes := List.mem_of_getElem? hget
    have hdm := RF.dep_mem f n hmem
    have hsm := RF.size_mem f n hmem
    have hnI := hfe n hmem
    have hstep := RF.clw_step (xs := xs) (ws := ws) (bs := bs) hget
    rw [hstep] at hcl
    have hcov2 := hcov.more hnI.1
    have htot2 : acc.length + ((besideL xs n.nm n.rl (joinF xs n.hs ws) (joinF xs n.fs bs) (f.nodes.drop (i + 1))).length + ((n.exc.clw xs (joinF xs n.hs ws) (joinF xs n.fs bs)).length + ((f.rest (i + 1)).clw xs ws bs).length)) ≤ 900 * 900 := by
      have h := htot
      rw [hcl, List.length_append, List.length_append, List.length_append] at h
      omega
    have hbt : ∀ j, (besideL xs n.nm n.rl (joinF xs n.hs ws) (joinF xs n.fs bs) ((f.nodes.drop (i + 1)).take j)).length ≤ (besideL xs n.nm n.rl (joinF xs n.hs ws) (joinF xs n.fs bs) (f.nodes.drop (i + 1))).length := fun j => ((List.take_sublist j _).filterMap _).length_le
    have hB2 := hA.drop (i + 1)
    refine ⟨_, rfl, _, _, rfl, rfl, _, rfl, p, rs, rfl, .inr (s.tup hP), _, _, rfl, ⟨by omega, by omega, by omega, by omega⟩, for_it walk_range (fun j σ H' => ∃ (us2 : List V) (y5 y6 y7 : Option V), σ = [some (.ref p), some (.ref ol), some (.ref ev), some (.ref D), some (.int (i : Nat)), y5, y6, y7, none, none] ∧ Same H H' ∧ H' D = some (.lst us2) ∧ All2 (TriAt K H') us2 (acc ++ besideL xs n.nm n.rl (joinF xs n.hs ws) (joinF xs n.fs bs) ((f.nodes.drop (i + 1)).take j)))
      ⟨ts, _, _, _, rfl, s, e, by rw [List.take_zero]; show All2 _ ts (acc ++ []); rw [List.append_nil]; exact hts⟩ (fun _ _ _ _ _ => trivial) ?_ ?_⟩
    · clear s e hts
      rintro j y σ H5 H3 hj ⟨us2, y5, y6, y7, rfl, s, e, hus2⟩ ⟨rfl, hy⟩
      have hj : i + 1 + j < f.nodes.length := by
        have hj : j < (((rs.length : Nat) : Int) - ((i : Int) + 1)).toNat := hj
        omega
      have hy : y = V.int ((i + 1 + j : Nat) : Int) := by rw [hy]; show V.int ((i : Int) + 1 + (j : Nat)) = _; congr 1
      subst hy
      obtain ⟨v2, hv2, hrow2⟩ := hA.at' hj
      have hget2 : f.nodes[i + 1 + j]? = some f.nodes[i + 1 + j] := List.getElem?_eq_getElem hj
      generalize f.nodes[i + 1 + j] = m at hrow2 hget2
      have hm : (f.nodes.drop (i + 1))[j]? = some m := by rw [List.getElem?_drop]; exact hget2
      have hmI := hfe m (List.mem_of_getElem? hget2)
      have hmore := besideL_more (xs := xs) (a := n.nm) (rl := n.rl) (ws := joinF xs n.hs ws) (bs := joinF xs n.fs bs) hm
      have hbj := hbt j
      have hbj1 := hbt (j + 1)
      have hul2 := hus2.len
      rw [List.length_append] at hul2
      obtain ⟨o, wa, ba, pa, ws', rfl, hO, _⟩ := hrow.keeps (N := NoL) s.keeps
      obtain ⟨o2, wa2, ba2, pa2, ws2', rfl, hO2, _⟩ := hrow2.keeps (N := NoL) s.keeps
      refine ⟨_, rfl, _, rfl, p, _, _, _, rfl, rfl, s.tup hP, atI_nat (j := i) hv, o, _, 3, _, rfl, rfl, hO, atI_nat (j := 3) rfl, _, rfl, _, rfl, p, _, _, _, rfl, rfl, s.tup hP, atI_nat (j := i + 1 + j) hv2, o2, _, 3, _, rfl, rfl, hO2, atI_nat (j := 3) rfl, rfl, _, rfl, ?_⟩
      by_cases hrl : n.rl = m.rl
      · rw [decide_eq_true (show V.str n.rl = V.str m.rl from congrArg V.str hrl)]
        refine iteF ⟨us2, _, _, _, rfl, s, e, ?_⟩
        rw [hmore]
        have hO : besideO xs n.nm n.rl (joinF xs n.hs ws) (joinF xs n.fs bs) m = none := by
          unfold besideO
          rw [if_neg (fun z => z.1 hrl)]
        rw [hO]
        show All2 _ us2 (acc ++ (_ ++ []))
        rw [List.append_nil]
        exact hus2
      rw [decide_eq_false (show ¬ V.str n.rl = V.str m.rl from fun z => hrl (V.str.inj z))]
      refine iteT ?_
      refine ⟨_, rfl, _, rfl, _, rfl, p, _, _, _, rfl, rfl, s.tup hP, atI_nat (j := i) hv, _, rfl, _, rfl, p, _, _, _, rfl, rfl, s.tup hP, atI_nat (j := i + 1 + j) hv2, (by show 2 ≤ sizeLine; omega), fun t5 nt5 => ?_⟩
      have s5 : Same H3 (upd H3 t5 (.lst [.ref o, .ref o2])) := (Same.refl H3).put nt5
      have e5 : (upd H3 t5 (.lst [.ref o, .ref o2])) t5 = some (.lst [.ref o, .ref o2]) := upd_same
      generalize upd H3 t5 (.lst [.ref o, .ref o2]) = H5 at s5 e5 ⊢
      have eo5 := (s.trans s5) _ _ eo
      refine ⟨ol, t5, us, [.ref o, .ref o2], rfl, rfl, eo5, e5, (by show us.length + 2 ≤ _; omega), fun L6 nL6 => ?_⟩
      have s6 : Same H5 (upd H5 L6 (.lst (us ++ [.ref o, .ref o2]))) := (Same.refl H5).put nL6
      have e6 : (upd H5 L6 (.lst (us ++ [.ref o, .ref o2]))) L6 = some (.lst (us ++ [.ref o, .ref o2])) := upd_same
      generalize upd H5 L6 (.lst (us ++ [.ref o, .ref o2])) = H6 at s6 e6 ⊢
      have s36 := s5.trans s6
      have s06 := s.trans s36
      have hms : All2 (RowAt K H6) (us ++ [.ref o, .ref o2]) (ns ++ [n, m]) := (hus.mono fun _ _ x => x.keeps (N := NoL) s06.keeps).app (.cons (hrow.keeps (N := NoL) s06.keeps) (.cons (hrow2.keeps (N := NoL) s06.keeps) .nil))
      have hmsI : ∀ r ∈ ns ++ [n, m], InF xs r := fun r hr => by
        rcases List.mem_append.mp hr with hr | hr
        · exact hin r hr
        · rcases List.mem_cons.mp hr with rfl | hr
          · exact hnI.1
          · rw [List.mem_singleton.mp hr]; exact hmI.1
      have hmet := met_pair hnd hcov hin hnI.1 hmI.1 hrl
      have hmsl : (ns ++ [n, m]).length ≤ 102 := by rw [List.length_append]; show _ + 2 ≤ _; omega
      generalize hus6 : us ++ [.ref o, .ref o2] = us6 at e6 hms
      generalize hns6 : ns ++ [n, m] = ns6 at hms hmsI hmet hmsl
      have hul6 := hms.len
      obtain ⟨ps, hps1, hps2, hps3⟩ := (hev.same s06).at_
      refine ⟨_, rfl, ev, rfl, ⟨_, sqL_of hps2⟩, fun D7 nD7 => lc_it walk_list (fun c H' => Same H6 H' ∧ ∃ vs, H' D7 = some (.lst vs) ∧ All2 (CasAt K H') vs (metL xs ns6 c)) ⟨(Same.refl H6).put nD7, [], upd_same, .nil⟩ (fun _ _ _ h => sqL_of (h.1 _ _ hps2)) ?_ ?_⟩
      · rintro c y H7 H8 hc ⟨s7, vs, e7, hvs⟩ ⟨rfl, hy⟩
        rw [List.getElem?_map] at hy
        obtain ⟨b, hb, rfl⟩ : ∃ b, ps[c]? = some b ∧ V.ref b = y := by
          cases hb : ps[c]? with
          | none => rw [hb] at hy; cases hy
          | some b => rw [hb] at hy; exact ⟨b, rfl, Option.some.inj hy⟩
        have eb := s7 _ _ (hps3 c b hb)
        have hc' : c < 2 ^ xs.length := by
          have := (List.getElem?_eq_some_iff.mp hb).1
          omega
        refine ⟨rfl, _, rfl, L6, rfl, ⟨_, sqL_of (s7 _ _ e6)⟩, fun D9 nD9 => lc_it walk_list (fun r H' => Same H8 H' ∧ ∃ ls, H' D9 = some (.lst ls) ∧ ls.length ≤ r ∧ ls.isEmpty = (ns6.take r).all fun q => meets q.hs q.fs (caseOf xs c)) ⟨(Same.refl H8).put nD9, [], upd_same, Nat.le_refl _, rfl⟩ (fun _ _ _ h => sqL_of (h.1 _ _ (s7 _ _ e6))) ?_ ?_⟩
        · rintro r y H9 H10 hr ⟨s9, ls, e9, hll, hle⟩ ⟨rfl, hy⟩
          obtain ⟨q9, hq9, hrow9⟩ := hms.get hy
          have hI9 := hmsI q9 (List.mem_of_getElem? hq9)
          have hrr : r < 102 := by
            have := (List.getElem?_eq_some_iff.mp hq9).1
            omega
          have s69 := s7.trans s9
          obtain ⟨o9, wa9, ba9, pa9, ws9, rfl, hO9, hW9, hB9, _⟩ := hrow9.keeps (N := NoL) s69.keeps
          refine ⟨rfl, _, rfl, _, rfl, o9, wa9, ba9, b, .str q9.nm, [.str q9.rl, .ref pa9], q9.hs, q9.fs, caseOf xs c, rfl, hO9, hW9, hB9, sqT_of (s9 _ _ eb), hI9.f1, hI9.f2, hI9.l1, hI9.l2, fun H11 s11 => ?_⟩
          have e11 := s11 _ _ e9
          rw [take_more hq9, List.all_append]
          refine ⟨_, rfl, bcase (fun c1 => ?_) (fun c1 => ?_)⟩
          · have c1 : meets q9.hs q9.fs (caseOf xs c) = false := (Bool.not_eq_true' _).mp c1
            refine ⟨_, rfl, ls, e11, by omega, (s9.trans s11).put nD9, ls ++ [.ref o9], upd_same, by rw [List.length_append]; show _ + 1 ≤ _; omega, ?_⟩
            show _ = (_ && (meets q9.hs q9.fs (caseOf xs c) && true))
            rw [c1]
            cases ls <;> exact (Bool.and_false _).symm
          · have c1 : meets q9.hs q9.fs (caseOf xs c) = true := by
              cases h : meets q9.hs q9.fs (caseOf xs c) with
              | true => rfl
              | false => rw [h] at c1; cases c1
            refine ⟨s9.trans s11, ls, e11, by omega, ?_⟩
            show _ = (_ && (meets q9.hs q9.fs (caseOf xs c) && true))
            rw [c1, hle]
            exact (Bool.and_true _).symm
        · rintro H9 ⟨s9, ls, e9, hll, hle⟩
          rw [hul6, List.take_length] at hle
          refine ⟨Nat.zero_le _, fun t10 nt10 => ⟨D9, t10, ls, rfl, rfl, ?_, upd_same, ?_⟩⟩
          · rw [upd_ne (ne_of_none e9 nt10)]
            exact e9
          have s10 : Same H9 (upd H9 t10 (.lst [])) := (Same.refl H9).put nt10
          generalize upd H9 t10 (.lst []) = H10 at s10 ⊢
          have hle : ls.isEmpty = allMeet ns6 (caseOf xs c) := hle
          have s810 := s9.trans s10
          have e10 := s810 _ _ e7
          have hvs10 := hvs.mono fun _ _ x => CasAt.same s810 x
          have hvl := hvs.len
          have hml := metL_len (xs := xs) (ms := ns6) (i := c)
          refine ⟨_, rfl, ?_⟩
          show if ls.isEmpty = true then _ else _
          rw [hle]
          refine bcase (fun c1 => ?_) (fun c1 => ?_)
          · refine ⟨_, rfl, vs, e10, by omega, (s7.trans s810).put nD7, vs ++ [.ref b], upd_same, ?_⟩
            have kk : Keeps NoL H10 (upd H10 D7 (.lst (vs ++ [.ref b]))) := keeps_own e10 id
            rw [metL_more, if_pos c1]
            exact (hvs10.mono fun _ _ x => x.keeps kk).snoc ⟨b, rfl, kk.tup (sqT_of (s810 _ _ eb))⟩
          · refine ⟨s7.trans s810, vs, e10, ?_⟩
            rw [metL_more, if_neg (by rw [c1]; exact Bool.false_ne_true), List.append_nil]
            exact hvs10
      · rintro H7 ⟨s7, vs, e7, hvs⟩
        rw [List.length_map, hps1] at hvs
        have s37 := s36.trans s7
        have s07 := s.trans s37
        refine ⟨_, rfl, .inl ⟨rfl, _, sqL_of (s37 _ _ e)⟩, _, rfl, ?_⟩
        delta tNoPart
        refine ⟨_, rfl, D7, vs, rfl, sqL_of e7, fun L8 nL8 => ?_⟩
        rw [show (some (1 : Int)) = some ((1 : Nat) : Int) from rfl, cut_to]
        have s8 : Same H7 (upd H7 L8 (.lst (vs.take 1))) := (Same.refl H7).put nL8
        have e8 : (upd H7 L8 (.lst (vs.take 1))) L8 = some (.lst (vs.take 1)) := upd_same
        generalize upd H7 L8 (.lst (vs.take 1)) = H8 at s8 e8 ⊢
        have hv1 : All2 (CasAt K H8) (vs.take 1) ((metL xs ns6 (2 ^ xs.length)).take 1) := (hvs.mono fun _ _ x => CasAt.same s8 x).take 1
        generalize vs.take 1 = v1 at e8 hv1
        generalize hl1 : (metL xs ns6 (2 ^ xs.length)).take 1 = l1 at hv1 hmet
        have hl1l : l1.length ≤ 1 := by rw [← hl1, List.length_take]; omega
        have hv1l := hv1.len
        have s08 := s07.trans s8
        have e38 := (s37.trans s8) _ _ e
        refine ⟨L8, rfl, ⟨_, sqL_of e8⟩, fun D9 nD9 => lc_it walk_list (fun c H' => Same H8 H' ∧ ∃ ts2, H' D9 = some (.lst ts2) ∧ All2 (TriAt K H') ts2 ((l1.take c).map fun cs => (n.nm, m.nm, cs))) ⟨(Same.refl H8).put nD9, [], upd_same, .nil⟩ (fun _ _ _ h => sqL_of (h.1 _ _ e8)) ?_ ?_⟩
        · rintro c y H10 H9 hc ⟨s9, ts2, e9, hts2⟩ ⟨rfl, hy⟩
          obtain ⟨cs, hcs, b, rfl, hb⟩ := hv1.get hy
          have s09 := s08.trans s9
          obtain ⟨oq, _, _, _, _, eq1, hO', _⟩ := hrow.keeps (N := NoL) s09.keeps
          obtain rfl := V.ref.inj eq1
          obtain ⟨oq2, _, _, _, _, eq2, hO2', _⟩ := hrow2.keeps (N := NoL) s09.keeps
          obtain rfl := V.ref.inj eq2
          refine ⟨rfl, yes_ ⟨_, rfl, _, rfl, p, _, _, _, rfl, rfl, s09.tup hP, atI_nat (j := i) hv, o, _, 0, _, rfl, rfl, hO', atI_nat (j := 0) rfl, _, rfl, _, rfl, p, _, _, _, rfl, rfl, s09.tup hP, atI_nat (j := i + 1 + j) hv2, o2, _, 0, _, rfl, rfl, hO2', atI_nat (j := 0) rfl, _, rfl, (by show 3 ≤ sizeLine; omega), fun t11 nt11 => ?_⟩⟩
          have s11 : Same H9 (upd H9 t11 (.tup [.str n.nm, .str m.nm, .ref b])) := (Same.refl H9).put nt11
          have e11 : (upd H9 t11 (.tup [.str n.nm, .str m.nm, .ref b])) t11 = some (.tup [.str n.nm, .str m.nm, .ref b]) := upd_same
          generalize upd H9 t11 (.tup [.str n.nm, .str m.nm, .ref b]) = H11 at s11 e11 ⊢
          have e911 := s11 _ _ e9
          have hts11 := hts2.mono fun _ _ x => TriAt.keeps (N := NoL) x s11.keeps
          have htl := hts2.len
          rw [List.length_map, List.length_take] at htl
          have kk : Keeps NoL H11 (upd H11 D9 (.lst (ts2 ++ [.ref t11]))) := keeps_own e911 id
          refine ⟨ts2, e911, by omega, (s9.trans s11).put nD9, ts2 ++ [.ref t11], upd_same, ?_⟩
          rw [take_more hcs, List.map_append]
          exact (hts11.mono fun _ _ x => TriAt.keeps x kk).snoc ⟨t11, b, rfl, kk.tup (sqT_of e11), kk.tup ((s9.trans s11).tup hb)⟩
        · rintro H9 ⟨s9, ts2, e9, hts2⟩
          rw [hv1l, List.take_length, hmet] at hts2
          have eD9 := s9 _ _ e38
          have hne : D9 ≠ D := fun z => by rw [z, e38] at nD9; cases nD9
          have htl := hts2.len
          have hmore2 := congrArg List.length hmore
          rw [List.length_append] at hmore2
          refine ⟨D, D9, us2, ts2, rfl, rfl, eD9, e9, by omega, ?_⟩
          have kk : Keeps NoL H9 (upd H9 D (.lst (us2 ++ ts2))) := keeps_own eD9 id
          refine ⟨us2 ++ ts2, _, _, _, rfl, (s08.trans s9).put nD, upd_same, ?_⟩
          rw [hmore, ← List.append_assoc]
          exact (hus2.mono fun _ _ x => (TriAt.keeps (N := NoL) x ((s37.trans s8).trans s9).keeps).keeps kk).app (hts2.mono fun _ _ x => TriAt.keeps x kk)
    · clear s e hts
      rintro σ H3 ⟨us2, y5, y6, y7, rfl, s, e, hus2⟩
      have hfull : ((((rs.length : Nat) : Int) - ((i : Int) + 1)).toNat) = (f.nodes.drop (i + 1)).length := by rw [List.length_drop]; omega
      rw [hfull, List.take_length] at hus2
      obtain ⟨d, rfl⟩ : ∃ d', d = d' + 1 := ⟨d - 1, by omega⟩
      have hul2 := hus2.len
      rw [List.length_append] at hul2
      obtain ⟨o, wa, ba, pa, ws', rfl, hO, hW, hB, hPe, hXe⟩ := hrow.keeps (N := NoL) s.keeps
      refine ⟨_, rfl, .inl ⟨rfl, _, sqL_of e⟩, _, rfl, _, rfl, p, _, _, _, rfl, rfl, s.tup hP, atI_nat (j := i) hv, o, _, 4, _, rfl, rfl, hO, atI_nat (j := 4) rfl, _, rfl, _, rfl, _, rfl, p, _, _, _, rfl, rfl, s.tup hP, atI_nat (j := i) hv, (by show 1 ≤ sizeLine; omega), fun t5 nt5 => ?_⟩
      have s5 : Same H3 (upd H3 t5 (.lst [.ref o])) := (Same.refl H3).put nt5
      have e5 : (upd H3 t5 (.lst [.ref o])) t5 = some (.lst [.ref o]) := upd_same
      generalize upd H3 t5 (.lst [.ref o]) = H5 at s5 e5 ⊢
      refine ⟨ol, t5, us, [.ref o], rfl, rfl, (s.trans s5) _ _ eo, e5, (by show us.length + 1 ≤ _; omega), fun L6 nL6 => ?_⟩
      have s6 : Same H5 (upd H5 L6 (.lst (us ++ [.ref o]))) := (Same.refl H5).put nL6
      have e6 : (upd H5 L6 (.lst (us ++ [.ref o]))) L6 = some (.lst (us ++ [.ref o])) := upd_same
      generalize upd H5 L6 (.lst (us ++ [.ref o])) = H6 at s6 e6 ⊢
      have s36 := s5.trans s6
      have s06 := s.trans s36
      refine ⟨_, rfl, pa, L6, ev, xs, joinF xs n.hs ws, joinF xs n.fs bs, ws', us ++ [.ref o], ns ++ [n], n.exc, rfl, s36.tup hPe, hXe.keeps (N := NoL) s36.keeps, e6, (hus.mono fun _ _ x => x.keeps (N := NoL) s06.keeps).snoc (hrow.keeps (N := NoL) s06.keeps), hev.same s06, hxl, hnd, hcov2, fun r hr => ?_, hnI.2, by omega, by omega, by rw [List.length_append]; show _ + 1 + _ ≤ _; omega, fun H7 D2 us3 s7 e7 hus3 => ?_⟩
      · rcases List.mem_append.mp hr with hr | hr
        · exact hin r hr
        · rw [List.mem_singleton.mp hr]; exact hnI.1
      have s37 := s36.trans s7
      have eD := s37 _ _ e
      have hl3 := hus3.len
      refine ⟨D, D2, us2, us3, rfl, rfl, eD, e7, by omega, ?_⟩
      have kk : Keeps NoL H7 (upd H7 D (.lst (us2 ++ us3))) := keeps_own eD id
      refine ⟨us2 ++ us3, acc ++ besideL xs n.nm n.rl (joinF xs n.hs ws) (joinF xs n.fs bs) (f.nodes.drop (i + 1)) ++ n.exc.clw xs (joinF xs n.hs ws) (joinF xs n.fs bs), _, _, _, _, rfl, (s.trans s37).put nD, upd_same, (hus2.mono fun _ _ x => (TriAt.keeps (N := NoL) x s37.keeps).keeps kk).app (hus3.mono fun _ _ x => TriAt.keeps x kk), ?_⟩
      rw [hcl, List.append_assoc, List.append_assoc]
  · rintro σ H3 ⟨us, acc, y4, y5, y6, y7, rfl, s, e, hus, hcl⟩
    rw [show ((rs.length : Nat) : Int).toNat = f.nodes.length by omega, RF.clw_end, List.append_nil] at hcl
    exact ⟨_, rfl, q H3 D us s e (by rw [hcl]; exact hus)⟩
end
end Sc
namespace Sc
open PySem PySem.Spec PyProof.Rows L2
/-! ### rows of rules that are edited -/
/-- the same rule with other exceptions -/
def Nd.wE (n : Nd) (e : RF) : Nd := ⟨n.nm, n.hs, n.fs, n.rl, e⟩
namespace RF
theorem ext_nodes {f g : RF} (h : f.nodes = g.nodes) : f = g := by rw [← of_nodes f, h, of_nodes]
theorem names_cons {n : Str} {hs fs : List Str} {rl : Str} {exc rest : RF} : (RF.cons n hs fs rl exc rest).names = n :: (exc.names ++ rest.names) := by
  rw [← pre_names _ 0]
  show n :: ((exc.pre 1 ++ rest.pre 0).map _) = _
  rw [List.map_append, pre_names, pre_names]
theorem names_nil : RF.nil.names = [] := rfl
theorem names_flat : ∀ f : RF, f.names = f.nodes.flatMap fun n => n.nm :: n.exc.names
  | .nil => rfl
  | .cons n hs fs rl exc rest => by
    rw [names_cons, names_flat rest]
    rfl
theorem mem_names {f : RF} {x : Str} : x ∈ f.names ↔ ∃ n ∈ f.nodes, x = n.nm ∨ x ∈ n.exc.names := by
  rw [names_flat, List.mem_flatMap]
  simp only [List.mem_cons]
/-- others ahead of a row -/
def put : List Nd → RF → RF
  | [], f => f
  | n :: r, f => .cons n.nm n.hs n.fs n.rl n.exc (put r f)
theorem put_nodes : ∀ (os : List Nd) (f : RF), (put os f).nodes = os ++ f.nodes
  | [], _ => rfl
  | n :: r, f => by
    show n :: (put r f).nodes = _
    rw [put_nodes r f]
    rfl
theorem put_of (os ns : List Nd) : put os (ofNodes ns) = ofNodes (os ++ ns) := ext_nodes (by rw [put_nodes, nodes_of, nodes_of])
/-- a change at the rule of a name -/
def upd (nm : Str) (G : Nd → RF → RF) : RF → RF
  | .nil => .nil
  | .cons n hs fs rl exc rest => if n = nm then G ⟨n, hs, fs, rl, exc⟩ rest else .cons n hs fs rl (upd nm G exc) (upd nm G rest)
theorem upd_no {nm : Str} {G : Nd → RF → RF} : ∀ {f : RF}, ¬ nm ∈ f.names → upd nm G f = f
  | .nil, _ => rfl
  | .cons n hs fs rl exc rest, h => by
    rw [names_cons] at h
    show (if n = nm then _ else RF.cons n hs fs rl (upd nm G exc) (upd nm G rest)) = _
    rw [if_neg fun z => h (by rw [z]; exact List.mem_cons_self), upd_no fun z => h (List.mem_cons_of_mem _ (List.mem_append_left _ z)), upd_no fun z => h (List.mem_cons_of_mem _ (List.mem_append_right _ z))]
theorem upd_at {nm : Str} {G : Nd → RF → RF} : ∀ {f : RF} {k : Nat} {n : Nd}, f.nodes[k]? = some n → n.nm = nm → (∀ m ∈ f.nodes.take k, m.nm ≠ nm ∧ ¬ nm ∈ m.exc.names) → upd nm G f = put (f.nodes.take k) (G n (ofNodes (f.nodes.drop (k + 1))))
  | .nil, k, n, h, _, _ => by cases k <;> cases h
  | .cons x hs fs rl exc rest, 0, n, h, e, _ => by
    cases h
    show (if x = nm then _ else _) = G ⟨x, hs, fs, rl, exc⟩ (ofNodes rest.nodes)
    rw [if_pos e, of_nodes]
  | .cons x hs fs rl exc rest, k + 1, n, h, e, off => by
    have h0 := off ⟨x, hs, fs, rl, exc⟩ List.mem_cons_self
    show (if x = nm then _ else RF.cons x hs fs rl (upd nm G exc) (upd nm G rest)) = _
    rw [if_neg h0.1, upd_no h0.2, upd_at (f := rest) (k := k) h e fun m hm => off m (List.mem_cons_of_mem _ hm)]
    rfl
theorem upd_map {nm : Str} {G : Nd → RF → RF} : ∀ {f : RF}, (∀ n ∈ f.nodes, n.nm ≠ nm) → (upd nm G f).nodes = f.nodes.map fun n => n.wE (upd nm G n.exc)
  | .nil, _ => rfl
  | .cons x hs fs rl exc rest, h => by
    show (if x = nm then G _ _ else RF.cons x hs fs rl (upd nm G exc) (upd nm G rest)).nodes = _
    rw [if_neg (h _ List.mem_cons_self)]
    show _ :: (upd nm G rest).nodes = _
    rw [upd_map (f := rest) fun m hm => h m (List.mem_cons_of_mem _ hm)]
    rfl
/-- others in the place of the rules of a name, as the program does it -/
def repl (nm : Str) (os : List Nd) : RF → RF
  | .nil => .nil
  | .cons n hs fs rl exc rest => if n = nm then put os (repl nm os rest) else .cons n hs fs rl (repl nm os exc) (repl nm os rest)
def replL (nm : Str) (os : List Nd) (ns : List Nd) : List Nd := ns.flatMap fun n => if n.nm = nm then os else [n.wE (repl nm os n.exc)]
theorem repl_nodes {nm : Str} {os : List Nd} : ∀ f : RF, (repl nm os f).nodes = replL nm os f.nodes
  | .nil => rfl
  | .cons n hs fs rl exc rest => by
    have ih := repl_nodes (nm := nm) (os := os) rest
    show (if n = nm then put os (repl nm os rest) else RF.cons n hs fs rl (repl nm os exc) (repl nm os rest)).nodes = (if n = nm then os else [Nd.wE ⟨n, hs, fs, rl, exc⟩ (repl nm os exc)]) ++ replL nm os rest.nodes
    by_cases e : n = nm
    · rw [if_pos e, if_pos e, put_nodes, ih]
    · rw [if_neg e, if_neg e, ← ih]
      rfl
theorem replL_more {nm : Str} {os : List Nd} {ns : List Nd} {i : Nat} {n : Nd} (h : ns[i]? = some n) : replL nm os (ns.take (i + 1)) = replL nm os (ns.take i) ++ (if n.nm = nm then os else [n.wE (repl nm os n.exc)]) := by
  unfold replL
  rw [take_more h, List.flatMap_append]
  simp
theorem repl_no {nm : Str} {os : List Nd} : ∀ {f : RF}, ¬ nm ∈ f.names → repl nm os f = f
  | .nil, _ => rfl
  | .cons n hs fs rl exc rest, h => by
    rw [names_cons] at h
    show (if n = nm then _ else RF.cons n hs fs rl (repl nm os exc) (repl nm os rest)) = _
    rw [if_neg fun z => h (by rw [z]; exact List.mem_cons_self), repl_no fun z => h (List.mem_cons_of_mem _ (List.mem_append_left _ z)), repl_no fun z => h (List.mem_cons_of_mem _ (List.mem_append_right _ z))]
theorem nodup_cons {n : Str} {hs fs : List Str} {rl : Str} {exc rest : RF} (h : (RF.cons n hs fs rl exc rest).names.Nodup) :
    ¬ n ∈ exc.names ∧ ¬ n ∈ rest.names ∧ exc.names.Nodup ∧ rest.names.Nodup ∧ ∀ x ∈ exc.names, ¬ x ∈ rest.names := by
  rw [names_cons, List.nodup_cons, List.nodup_append] at h
  obtain ⟨h1, h2, h3, h4⟩ := h
  exact ⟨fun z => h1 (List.mem_append_left _ z), fun z => h1 (List.mem_append_right _ z), h2, h3, fun x hx hy => h4 x hx x hy rfl⟩
theorem nodup_node : ∀ {f : RF}, f.names.Nodup → ∀ n ∈ f.nodes, n.exc.names.Nodup ∧ ¬ n.nm ∈ n.exc.names
  | .nil, _, _, hn => nomatch hn
  | .cons x hs fs rl exc rest, h, n, hn => by
    obtain ⟨h1, h2, h3, h4, h5⟩ := nodup_cons h
    rcases List.mem_cons.mp hn with rfl | hn
    · exact ⟨h3, h1⟩
    · exact nodup_node h4 n hn
theorem repl_upd {nm : Str} {os : List Nd} : ∀ {f : RF}, f.names.Nodup → repl nm os f = upd nm (fun _ rest => put os rest) f
  | .nil, _ => rfl
  | .cons n hs fs rl exc rest, h => by
    obtain ⟨h1, h2, h3, h4, h5⟩ := nodup_cons h
    show (if n = nm then put os (repl nm os rest) else RF.cons n hs fs rl (repl nm os exc) (repl nm os rest)) = (if n = nm then put os rest else RF.cons n hs fs rl (upd nm _ exc) (upd nm _ rest))
    by_cases e : n = nm
    · subst e
      rw [if_pos rfl, if_pos rfl, repl_no h2]
    · rw [if_neg e, if_neg e, repl_upd h3, repl_upd h4]
theorem find_nil {nm : Str} : RF.nil.find nm = none := rfl
theorem pre_fst' : ∀ (f : RF) (k j : Nat), (f.pre k).map (fun q => q.1) = (f.pre j).map fun q => q.1
  | .nil, _, _ => rfl
  | .cons nm hs fs rl exc rest, k, j => by
    show _ :: (exc.pre (k + 1) ++ rest.pre k).map _ = _ :: (exc.pre (j + 1) ++ rest.pre j).map _
    rw [List.map_append, List.map_append, pre_fst' exc (k + 1) (j + 1), pre_fst' rest k j]
theorem find_cons {n nm : Str} {hs fs : List Str} {rl : Str} {exc rest : RF} : (RF.cons n hs fs rl exc rest).find nm = if n = nm then some ⟨n, hs, fs, rl, exc⟩ else (exc.find nm).or (rest.find nm) := by
  unfold find
  show (_ :: (exc.pre 1 ++ rest.pre 0).map _).find? _ = _
  rw [List.find?_cons]
  by_cases e : n = nm
  · rw [if_pos e]
    dsimp only
    rw [decide_eq_true e]
  · rw [if_neg e]
    dsimp only
    rw [decide_eq_false e, List.map_append, List.find?_append, pre_fst' exc 1 0]
theorem find_none {nm : Str} : ∀ {f : RF}, ¬ nm ∈ f.names → f.find nm = none
  | .nil, _ => rfl
  | .cons n hs fs rl exc rest, h => by
    rw [names_cons] at h
    rw [find_cons, if_neg fun z => h (by rw [z]; exact List.mem_cons_self), find_none fun z => h (List.mem_cons_of_mem _ (List.mem_append_left _ z)), find_none fun z => h (List.mem_cons_of_mem _ (List.mem_append_right _ z))]
    rfl
theorem find_some {nm : Str} : ∀ {f : RF}, nm ∈ f.names → ∃ n, f.find nm = some n ∧ n.nm = nm
  | .nil, h => nomatch h
  | .cons n hs fs rl exc rest, h => by
    rw [find_cons]
    by_cases e : n = nm
    · rw [if_pos e]
      exact ⟨_, rfl, e⟩
    · rw [if_neg e]
      by_cases c : nm ∈ exc.names
      · obtain ⟨m, h1, h2⟩ := find_some c
        rw [h1]
        exact ⟨m, rfl, h2⟩
      · rw [names_cons] at h
        have hr : nm ∈ rest.names := by
          rcases List.mem_cons.mp h with h | h
          · exact absurd h.symm e
          · rcases List.mem_append.mp h with h | h
            · exact absurd h c
            · exact h
        rw [find_none c]
        exact find_some hr
/-- a change leans on the one rule of that name -/
theorem upd_find {nm : Str} {G G' : Nd → RF → RF} {n0 : Nd} (g : G n0 = G' n0) : ∀ {f : RF}, f.names.Nodup → (nm ∈ f.names → f.find nm = some n0) → upd nm G f = upd nm G' f
  | .nil, _, _ => rfl
  | .cons n hs fs rl exc rest, h, hf => by
    obtain ⟨h1, h2, h3, h4, h5⟩ := nodup_cons h
    rw [find_cons, names_cons] at hf
    show (if n = nm then G _ _ else RF.cons n hs fs rl (upd nm G exc) (upd nm G rest)) = (if n = nm then G' _ _ else RF.cons n hs fs rl (upd nm G' exc) (upd nm G' rest))
    by_cases e : n = nm
    · rw [if_pos e, if_pos e]
      rw [if_pos e] at hf
      rw [Option.some.inj (hf (by rw [e]; exact List.mem_cons_self)), g]
    · rw [if_neg e, if_neg e]
      rw [if_neg e] at hf
      rw [upd_find g h3 (fun c => ?_), upd_find g h4 (fun c => ?_)]
      · have hc : ¬ nm ∈ exc.names := fun z => h5 _ z c
        have hf := hf (List.mem_cons_of_mem _ (List.mem_append_right _ c))
        rw [find_none hc] at hf
        exact hf
      · have hf := hf (List.mem_cons_of_mem _ (List.mem_append_left _ c))
        obtain ⟨m, e1, _⟩ := find_some c
        rw [e1] at hf
        rw [e1]
        exact hf
end RF
/-- what an amendment makes of a rule -/
inductive Op where
  | strike
  | swap
  | before (m : Nd)
  | add (m : Nd)
  | ruling (s : Str)
  | cond (hs fs : List Str)
def Op.news : Op → Nd → List Nd
  | .strike, _ => []
  | .swap, n => [n]
  | .before m, n => [m, n]
  | .add m, n => [n.wE (n.exc.snoc m)]
  | .ruling s, n => [⟨n.nm, n.hs, n.fs, s, n.exc⟩]
  | .cond hs fs, n => [⟨n.nm, hs, fs, n.rl, n.exc⟩]
def swapG (n : Nd) : RF → RF
  | .nil => RF.put [n] .nil
  | .cons a b c d e r => .cons a b c d e (RF.put [n] r)
def Op.G : Op → Nd → RF → RF
  | .swap, n, rest => swapG n rest
  | op, n, rest => RF.put (op.news n) rest
namespace RF
/-- the rule directly behind, beside it -/
def nxt (nm : Str) : RF → Option Nd
  | .nil => none
  | .cons n hs fs rl exc rest => if n = nm then rest.nodes.head? else if nm ∈ exc.names then nxt nm exc else nxt nm rest
theorem nxt_mem {nm : Str} : ∀ {f : RF} {b : Nd}, nxt nm f = some b → b.nm ∈ f.names
  | .nil, b, h => nomatch h
  | .cons n hs fs rl exc rest, b, h => by
    unfold nxt at h
    rw [names_cons]
    by_cases e : n = nm
    · rw [if_pos e] at h
      have hb : b ∈ rest.nodes := List.mem_of_mem_head? h
      exact List.mem_cons_of_mem _ (List.mem_append_right _ (mem_names.mpr ⟨b, hb, .inl rfl⟩))
    · rw [if_neg e] at h
      by_cases c : nm ∈ exc.names
      · rw [if_pos c] at h
        exact List.mem_cons_of_mem _ (List.mem_append_left _ (nxt_mem h))
      · rw [if_neg c] at h
        exact List.mem_cons_of_mem _ (List.mem_append_right _ (nxt_mem h))
/-- out of its place, and then in again, ahead of the other -/
theorem swap_two {nm : Str} {b n0 : Nd} : ∀ {f : RF}, f.names.Nodup → nm ∈ f.names → nxt nm f = some b → f.find nm = some n0 → upd nm (fun _ rest => put [b, n0] rest) (upd b.nm (fun _ rest => rest) f) = upd nm swapG f
  | .nil, _, h, _, _ => nomatch h
  | .cons n hs fs rl exc rest, h, hm, hx, hf => by
    obtain ⟨h1, h2, h3, h4, h5⟩ := nodup_cons h
    unfold nxt at hx
    rw [find_cons] at hf
    by_cases e : n = nm
    · subst e
      rw [if_pos rfl] at hx hf
      cases hf
      cases rest with
      | nil => exact nomatch hx
      | cons a g c d ex r =>
        cases hx
        have na : ¬ n = a := fun z => h2 (by rw [names_cons, z]; exact List.mem_cons_self)
        have ne : ¬ a ∈ exc.names := fun z => h5 _ z (by rw [names_cons]; exact List.mem_cons_self)
        show upd n _ (if n = a then _ else RF.cons n hs fs rl (upd a _ exc) (if a = a then r else _)) = (if n = n then _ else _)
        rw [if_neg na, if_pos rfl, if_pos rfl, upd_no ne]
        show (if n = n then _ else _) = _
        rw [if_pos rfl]
        rfl
    · rw [if_neg e] at hx hf
      by_cases c : nm ∈ exc.names
      · rw [if_pos c] at hx
        have hb := nxt_mem hx
        have nb : ¬ n = b.nm := fun z => h1 (by rw [z]; exact hb)
        have nr : ¬ b.nm ∈ rest.names := h5 _ hb
        have nr2 : ¬ nm ∈ rest.names := h5 _ c
        obtain ⟨m, e1, _⟩ := find_some c
        rw [e1] at hf
        have hf : exc.find nm = some n0 := by rw [e1]; exact hf
        show upd nm _ (if n = b.nm then _ else RF.cons n hs fs rl (upd b.nm _ exc) (upd b.nm _ rest)) = (if n = nm then _ else RF.cons n hs fs rl (upd nm swapG exc) (upd nm swapG rest))
        rw [if_neg nb, if_neg e, upd_no nr, upd_no (G := swapG) nr2, ← swap_two h3 c hx hf]
        show (if n = nm then _ else RF.cons n hs fs rl (upd nm _ _) (upd nm _ rest)) = _
        rw [if_neg e, upd_no (G := fun _ rest => put [b, n0] rest) nr2]
      · rw [if_neg c] at hx
        rw [find_none c] at hf
        have hb := nxt_mem hx
        have nb : ¬ n = b.nm := fun z => h2 (by rw [z]; exact hb)
        have ne : ¬ b.nm ∈ exc.names := fun z => h5 _ z hb
        have hr : nm ∈ rest.names := by
          rw [names_cons] at hm
          rcases List.mem_cons.mp hm with z | z
          · exact absurd z.symm e
          · rcases List.mem_append.mp z with z | z
            · exact absurd z c
            · exact z
        show upd nm _ (if n = b.nm then _ else RF.cons n hs fs rl (upd b.nm _ exc) (upd b.nm _ rest)) = (if n = nm then _ else RF.cons n hs fs rl (upd nm swapG exc) (upd nm swapG rest))
        rw [if_neg nb, if_neg e, upd_no ne, upd_no (G := swapG) c, ← swap_two h4 hr hx hf]
        show (if n = nm then _ else RF.cons n hs fs rl (upd nm _ exc) (upd nm _ _)) = _
        rw [if_neg e, upd_no (G := fun _ rest => put [b, n0] rest) c]
end RF
end Sc
namespace Sc
open PySem PySem.Spec PyProof.Rows L2
namespace RF
/-! ### how large, how deep, of which names -/
theorem put_size : ∀ (os : List Nd) (f : RF), (put os f).size = (ofNodes os).size + f.size
  | [], f => by show f.size = 0 + f.size; omega
  | n :: r, f => by
    show n.exc.size + 1 + (put r f).size = n.exc.size + 1 + (ofNodes r).size + f.size
    rw [put_size r f]
    omega
theorem put_dep : ∀ (os : List Nd) (f : RF), (put os f).dep = max (ofNodes os).dep f.dep
  | [], f => by show f.dep = max 0 f.dep; omega
  | n :: r, f => by
    show max (n.exc.dep + 1) (put r f).dep = max (max (n.exc.dep + 1) (ofNodes r).dep) f.dep
    rw [put_dep r f]
    omega
theorem put_every {p : Nd → Prop} {os : List Nd} {f : RF} (h : ∀ n ∈ os, p n ∧ n.exc.every p) (k : f.every p) : (put os f).every p := every_nodes.mpr fun n hn => by
  rw [put_nodes] at hn
  rcases List.mem_append.mp hn with hn | hn
  · exact h n hn
  · exact every_nodes.mp k n hn
theorem put_names (os : List Nd) (f : RF) : (put os f).names = (ofNodes os).names ++ f.names := by
  rw [names_flat, put_nodes, List.flatMap_append, ← names_flat, names_flat (ofNodes os), nodes_of]
theorem upd_size {nm : Str} {G : Nd → RF → RF} {e : Nat} (g : ∀ n rest, (G n rest).size ≤ n.exc.size + 1 + rest.size + e) : ∀ {f : RF}, f.names.Nodup → (upd nm G f).size ≤ f.size + e
  | .nil, _ => Nat.zero_le _
  | .cons n hs fs rl exc rest, h => by
    obtain ⟨h1, h2, h3, h4, h5⟩ := nodup_cons h
    show (if n = nm then G _ _ else RF.cons n hs fs rl (upd nm G exc) (upd nm G rest)).size ≤ exc.size + 1 + rest.size + e
    by_cases c : n = nm
    · rw [if_pos c]
      exact g _ _
    · rw [if_neg c]
      show (upd nm G exc).size + 1 + (upd nm G rest).size ≤ _
      by_cases d : nm ∈ exc.names
      · rw [upd_no (h5 _ d)]
        have := upd_size (nm := nm) g h3
        omega
      · rw [upd_no d]
        have := upd_size (nm := nm) g h4
        omega
theorem upd_dep {nm : Str} {G : Nd → RF → RF} {e : Nat} (g : ∀ n rest, (G n rest).dep ≤ max (n.exc.dep + 1) rest.dep + e) : ∀ {f : RF}, (upd nm G f).dep ≤ f.dep + e
  | .nil => Nat.zero_le _
  | .cons n hs fs rl exc rest => by
    show (if n = nm then G _ _ else RF.cons n hs fs rl (upd nm G exc) (upd nm G rest)).dep ≤ max (exc.dep + 1) rest.dep + e
    by_cases c : n = nm
    · rw [if_pos c]
      exact g _ _
    · rw [if_neg c]
      show max ((upd nm G exc).dep + 1) (upd nm G rest).dep ≤ _
      have h1 := upd_dep (nm := nm) (f := exc) g
      have h2 := upd_dep (nm := nm) (f := rest) g
      omega
theorem upd_every {nm : Str} {G : Nd → RF → RF} {p : Nd → Prop} (hp : ∀ n e, p n → p (n.wE e)) (g : ∀ n rest, p n → n.exc.every p → rest.every p → (G n rest).every p) : ∀ {f : RF}, f.every p → (upd nm G f).every p
  | .nil, _ => trivial
  | .cons n hs fs rl exc rest, h => by
    obtain ⟨h1, h2, h3⟩ := h
    show (if n = nm then G _ _ else RF.cons n hs fs rl (upd nm G exc) (upd nm G rest)).every p
    by_cases c : n = nm
    · rw [if_pos c]
      exact g _ _ h1 h2 h3
    · rw [if_neg c]
      exact ⟨hp _ _ h1, upd_every hp g h2, upd_every hp g h3⟩
theorem upd_names {nm : Str} {G : Nd → RF → RF} (g : ∀ n rest, (n.nm :: (n.exc.names ++ rest.names)).Nodup → (G n rest).names.Nodup ∧ ∀ x ∈ (G n rest).names, x ∈ n.nm :: (n.exc.names ++ rest.names)) : ∀ {f : RF}, f.names.Nodup → (upd nm G f).names.Nodup ∧ ∀ x ∈ (upd nm G f).names, x ∈ f.names
  | .nil, _ => ⟨.nil, fun _ h => h⟩
  | .cons n hs fs rl exc rest, h => by
    obtain ⟨h1, h2, h3, h4, h5⟩ := nodup_cons h
    show (if n = nm then G _ _ else RF.cons n hs fs rl (upd nm G exc) (upd nm G rest)).names.Nodup ∧ ∀ x ∈ (if n = nm then G _ _ else RF.cons n hs fs rl (upd nm G exc) (upd nm G rest)).names, x ∈ _
    by_cases c : n = nm
    · rw [if_pos c, names_cons]
      rw [names_cons] at h
      exact g ⟨n, hs, fs, rl, exc⟩ rest h
    · rw [if_neg c, names_cons, names_cons]
      obtain ⟨a1, a2⟩ := upd_names (nm := nm) g h3
      obtain ⟨b1, b2⟩ := upd_names (nm := nm) g h4
      refine ⟨List.nodup_cons.mpr ⟨fun z => ?_, List.nodup_append.mpr ⟨a1, b1, fun x hx y hy e => ?_⟩⟩, fun x hx => ?_⟩
      · rcases List.mem_append.mp z with z | z
        · exact h1 (a2 _ z)
        · exact h2 (b2 _ z)
      · subst e
        exact h5 x (a2 _ hx) (b2 _ hy)
      · rcases List.mem_cons.mp hx with rfl | hx
        · exact List.mem_cons_self
        · refine List.mem_cons_of_mem _ ?_
          rcases List.mem_append.mp hx with hx | hx
          · exact List.mem_append_left _ (a2 _ hx)
          · exact List.mem_append_right _ (b2 _ hx)
/-! ### where a rule stands -/
/-- the row in which a rule stands -/
def rowIn (nm : Str) (top : RF) : RF → RF
  | .nil => top
  | .cons n hs fs rl exc rest => if n = nm then top else if nm ∈ exc.names then rowIn nm exc exc else rowIn nm top rest
theorem path_some {nm : Str} : ∀ {f : RF}, nm ∈ f.names → f.path nm ≠ []
  | .nil, h => nomatch h
  | .cons n hs fs rl exc rest, h => by
    show (if n = nm then _ else if RF.path nm exc = [] then RF.path nm rest else _) ≠ []
    by_cases e : n = nm
    · rw [if_pos e]
      exact List.cons_ne_nil _ _
    · rw [if_neg e]
      by_cases c : RF.path nm exc = []
      · rw [if_pos c]
        refine path_some ?_
        rw [names_cons] at h
        rcases List.mem_cons.mp h with z | z
        · exact absurd z.symm e
        · rcases List.mem_append.mp z with z | z
          · exact absurd c (path_some z)
          · exact z
      · rw [if_neg c]
        exact List.cons_ne_nil _ _
theorem path_row {nm : Str} : ∀ {f : RF} (top : RF), nm ∈ f.names → (((f.path nm).length = 1 ∧ rowIn nm top f = top) ∨ ∃ q, (f.path nm)[(f.path nm).length - 2]? = some q ∧ 2 ≤ (f.path nm).length ∧ rowIn nm top f = q.exc)
  | .nil, _, h => nomatch h
  | .cons n hs fs rl exc rest, top, h => by
    have e0 : RF.path nm (RF.cons n hs fs rl exc rest) = (if n = nm then [⟨n, hs, fs, rl, exc⟩] else if RF.path nm exc = [] then RF.path nm rest else ⟨n, hs, fs, rl, exc⟩ :: RF.path nm exc) := rfl
    have e1 : rowIn nm top (RF.cons n hs fs rl exc rest) = (if n = nm then top else if nm ∈ exc.names then rowIn nm exc exc else rowIn nm top rest) := rfl
    rw [e0, e1]
    by_cases e : n = nm
    · rw [if_pos e, if_pos e]
      exact .inl ⟨rfl, rfl⟩
    · rw [if_neg e, if_neg e]
      by_cases c : nm ∈ exc.names
      · rw [if_neg (path_some c), if_pos c]
        refine .inr ?_
        rcases path_row exc c with ⟨h1, h2⟩ | ⟨q, h1, h2, h3⟩
        · refine ⟨⟨n, hs, fs, rl, exc⟩, ?_, by rw [List.length_cons]; omega, h2⟩
          rw [List.length_cons, h1]
          rfl
        · refine ⟨q, ?_, by rw [List.length_cons]; omega, h3⟩
          rw [List.length_cons, ← h1]
          show (_ :: RF.path nm exc)[(RF.path nm exc).length + 1 - 2]? = _
          rw [show (RF.path nm exc).length + 1 - 2 = (RF.path nm exc).length - 2 + 1 by omega]
          rfl
      · rw [if_pos (path_no c), if_neg c]
        refine path_row top ?_
        rw [names_cons] at h
        rcases List.mem_cons.mp h with z | z
        · exact absurd z.symm e
        · rcases List.mem_append.mp z with z | z
          · exact absurd z c
          · exact z
/-- how many stand beside the rule, and its place there -/
def besL (nm : Str) (m : Nat) : Nat → RF → Option (Nat × Nat)
  | _, .nil => none
  | k, .cons n hs fs rl exc rest => if n = nm then some (m, k) else match besL nm exc.nodes.length 0 exc with
    | some r => some r
    | none => besL nm m (k + 1) rest
def bes (nm : Str) (f : RF) : Option (Nat × Nat) := besL nm f.nodes.length 0 f
theorem besL_none {nm : Str} {m : Nat} : ∀ {f : RF} {k : Nat}, ¬ nm ∈ f.names → besL nm m k f = none
  | .nil, _, _ => rfl
  | .cons n hs fs rl exc rest, k, h => by
    rw [names_cons] at h
    show (if n = nm then _ else match besL nm exc.nodes.length 0 exc with | some r => some r | none => besL nm m (k + 1) rest) = _
    rw [if_neg fun z => h (by rw [z]; exact List.mem_cons_self), besL_none (f := exc) fun z => h (List.mem_cons_of_mem _ (List.mem_append_left _ z))]
    exact besL_none fun z => h (List.mem_cons_of_mem _ (List.mem_append_right _ z))
theorem row_at {nm : Str} : ∀ {f : RF} {top : RF} {pre : List Nd}, nm ∈ f.names → top.nodes = pre ++ f.nodes → (∀ p ∈ pre, p.nm ≠ nm) →
    ∃ (k : Nat) (n : Nd), besL nm top.nodes.length pre.length f = some ((rowIn nm top f).nodes.length, k) ∧ (rowIn nm top f).nodes[k]? = some n ∧ n.nm = nm ∧ (∀ (j : Nat) (p : Nd), j < k → (rowIn nm top f).nodes[j]? = some p → p.nm ≠ nm) ∧ nxt nm f = (rowIn nm top f).nodes[k + 1]?
  | .nil, _, _, h, _, _ => nomatch h
  | .cons n hs fs rl exc rest, top, pre, h, ht, hp => by
    have e1 : rowIn nm top (RF.cons n hs fs rl exc rest) = (if n = nm then top else if nm ∈ exc.names then rowIn nm exc exc else rowIn nm top rest) := rfl
    have e2 : besL nm top.nodes.length pre.length (RF.cons n hs fs rl exc rest) = (if n = nm then some (top.nodes.length, pre.length) else match besL nm exc.nodes.length 0 exc with | some r => some r | none => besL nm top.nodes.length (pre.length + 1) rest) := rfl
    have e3 : nxt nm (RF.cons n hs fs rl exc rest) = (if n = nm then rest.nodes.head? else if nm ∈ exc.names then nxt nm exc else nxt nm rest) := rfl
    rw [e1, e2, e3]
    by_cases e : n = nm
    · rw [if_pos e, if_pos e, if_pos e]
      refine ⟨pre.length, ⟨n, hs, fs, rl, exc⟩, rfl, ?_, e, fun j p hj hpj => ?_, ?_⟩
      · rw [ht, List.getElem?_append_right (Nat.le_refl _), Nat.sub_self]
        rfl
      · rw [ht, List.getElem?_append_left hj] at hpj
        exact hp p (List.mem_of_getElem? hpj)
      · rw [ht, List.getElem?_append_right (Nat.le_succ _), show pre.length + 1 - pre.length = 1 by omega]
        show rest.nodes.head? = rest.nodes[0]?
        cases rest.nodes <;> rfl
    · rw [if_neg e, if_neg e, if_neg e]
      by_cases c : nm ∈ exc.names
      · rw [if_pos c, if_pos c]
        obtain ⟨k, m, h1, h2, h3, h4, h5⟩ := row_at (f := exc) (top := exc) (pre := []) c rfl (fun _ h => nomatch h)
        have h1 : besL nm exc.nodes.length 0 exc = _ := h1
        rw [h1]
        exact ⟨k, m, rfl, h2, h3, h4, h5⟩
      · rw [if_neg c, if_neg c, besL_none (f := exc) c]
        have hr : nm ∈ rest.names := by
          rw [names_cons] at h
          rcases List.mem_cons.mp h with z | z
          · exact absurd z.symm e
          · rcases List.mem_append.mp z with z | z
            · exact absurd z c
            · exact z
        obtain ⟨k, m, h1, h2, h3, h4, h5⟩ := row_at (f := rest) (top := top) (pre := pre ++ [⟨n, hs, fs, rl, exc⟩]) hr (by rw [ht, List.append_assoc]; rfl) (fun p hpp => by
          rcases List.mem_append.mp hpp with z | z
          · exact hp p z
          · rw [List.mem_singleton.mp z]
            exact e)
        rw [List.length_append] at h1
        exact ⟨k, m, h1, h2, h3, h4, h5⟩
/-- beside, and the one behind -/
theorem bes_nxt {nm : Str} {f : RF} (h : nm ∈ f.names) : ∃ m k, bes nm f = some (m, k) ∧ k < m ∧ (nxt nm f = none ↔ k + 1 = m) := by
  obtain ⟨k, n, h1, h2, h3, h4, h5⟩ := row_at (f := f) (top := f) (pre := []) h rfl (fun _ h => nomatch h)
  have hk : k < (rowIn nm f f).nodes.length := by
    by_cases c : k < (rowIn nm f f).nodes.length
    · exact c
    · rw [List.getElem?_eq_none (by omega)] at h2
      cases h2
  refine ⟨_, k, h1, hk, ?_⟩
  rw [h5, List.getElem?_eq_none_iff]
  omega
/-- in the exceptions of a rule beside none of that name -/
theorem nxt_in {nm : Str} : ∀ {f : RF}, f.names.Nodup → (∀ n ∈ f.nodes, n.nm ≠ nm) → ∀ n ∈ f.nodes, nm ∈ n.exc.names → nxt nm f = nxt nm n.exc
  | .nil, _, _, _, h, _ => nomatch h
  | .cons x hs fs rl exc rest, h, hne, n, hn, hm => by
    obtain ⟨h1, h2, h3, h4, h5⟩ := nodup_cons h
    show (if x = nm then _ else if nm ∈ exc.names then nxt nm exc else nxt nm rest) = _
    rw [if_neg (hne _ List.mem_cons_self)]
    rcases List.mem_cons.mp hn with rfl | hn
    · rw [if_pos hm]
    · have hr : nm ∈ rest.names := mem_names.mpr ⟨n, hn, .inr hm⟩
      rw [if_neg fun z => h5 _ z hr]
      exact nxt_in h4 (fun m hm => hne m (List.mem_cons_of_mem _ hm)) n hn hm
/-- at its place in the row -/
theorem nxt_here {nm : Str} : ∀ {f : RF} {k : Nat} {n : Nd}, f.nodes[k]? = some n → n.nm = nm → (∀ m ∈ f.nodes.take k, m.nm ≠ nm ∧ ¬ nm ∈ m.exc.names) → nxt nm f = f.nodes[k + 1]?
  | .nil, k, n, h, _, _ => by cases k <;> cases h
  | .cons x hs fs rl exc rest, 0, n, h, e, _ => by
    cases h
    show (if x = nm then rest.nodes.head? else _) = rest.nodes[0]?
    rw [if_pos e]
    cases rest.nodes <;> rfl
  | .cons x hs fs rl exc rest, k + 1, n, h, e, off => by
    have h0 := off ⟨x, hs, fs, rl, exc⟩ List.mem_cons_self
    show (if x = nm then _ else if nm ∈ exc.names then nxt nm exc else nxt nm rest) = _
    rw [if_neg h0.1, if_neg h0.2]
    exact nxt_here (f := rest) (k := k) h e fun m hm => off m (List.mem_cons_of_mem _ hm)
/-- ahead of a rule, beside it, its name stands nowhere -/
theorem ahead {nm : Str} : ∀ {f : RF} {k : Nat} {n : Nd}, f.names.Nodup → f.nodes[k]? = some n → n.nm = nm → ∀ m ∈ f.nodes.take k, m.nm ≠ nm ∧ ¬ nm ∈ m.exc.names
  | .nil, k, n, _, h, _ => by cases k <;> cases h
  | .cons x hs fs rl exc rest, 0, n, _, _, _ => fun m hm => nomatch hm
  | .cons x hs fs rl exc rest, k + 1, n, h, hn, e => fun m hm => by
    obtain ⟨h1, h2, h3, h4, h5⟩ := nodup_cons h
    have hr : nm ∈ rest.names := mem_names.mpr ⟨n, List.mem_of_getElem? (show rest.nodes[k]? = some n from hn), .inl e.symm⟩
    rcases List.mem_cons.mp hm with rfl | hm
    · exact ⟨fun z => h2 (by rw [show x = nm from z]; exact hr), fun z => h5 _ z hr⟩
    · exact ahead (f := rest) (k := k) h4 hn e m hm
theorem pre_dep' : ∀ {f : RF} {k D : Nat}, (∀ q ∈ f.pre k, q.2 ≤ D) → k ≤ D + 1 → f.dep + k ≤ D + 1
  | .nil, k, D, _, h => by show 0 + k ≤ _; omega
  | .cons n hs fs rl exc rest, k, D, h, hk => by
    show max (exc.dep + 1) rest.dep + k ≤ D + 1
    have h0 : k ≤ D := h _ List.mem_cons_self
    have h1 := pre_dep' (f := exc) (k := k + 1) (D := D) (fun q hq => h q (List.mem_cons_of_mem _ (List.mem_append_left _ hq))) (by omega)
    have h2 := pre_dep' (f := rest) (k := k) (D := D) (fun q hq => h q (List.mem_cons_of_mem _ (List.mem_append_right _ hq))) hk
    omega
end RF
/-! ### faults -/
theorem fault_none {xs : List Str} : ∀ {ps : List (Nd × Nat)} {met : List Str} {out i : Nat}, met.Nodup → firstFault xs ps met out i = none → (met ++ ps.map fun q => q.1.nm).Nodup ∧ ∀ q ∈ ps, q.2 ≤ 5
  | [], met, _, _, hm, _ => by
    rw [List.map_nil, List.append_nil]
    exact ⟨hm, fun _ h => nomatch h⟩
  | (n, k) :: r, met, out, i, hm, h => by
    unfold firstFault at h
    cases e : faultAt xs met (outNext out k) i n k with
    | some w => rw [e] at h; cases h
    | none =>
      rw [e] at h
      unfold faultAt at e
      split at e
      · cases e
      · rename_i hn
        split at e
        · cases e
        · split at e
          · cases e
          · rename_i hk
            obtain ⟨h1, h2⟩ := fault_none (ps := r) (met := met ++ [n.nm]) (List.nodup_append.mpr ⟨hm, List.pairwise_singleton _ _, fun y hy z hz e => by
              rw [List.mem_singleton.mp hz] at e
              subst e
              exact hn hy⟩) h
            refine ⟨?_, fun q hq => ?_⟩
            · rw [List.append_assoc] at h1
              exact h1
            · rcases List.mem_cons.mp hq with rfl | hq
              · show k ≤ 5
                omega
              · exact h2 q hq
theorem fault_step {xs met : List Str} {out i k : Nat} {n : Nd} {r : List (Nd × Nat)} (hc : ((srt (n.hs ++ n.fs)).any fun x => !decide (x ∈ xs)) = false) (hi : i < 60) (ho : out + 1 ≤ 40) :
    firstFault xs ((n, k) :: r) met out i = if n.nm ∈ met then some ((Str.ofString "name"), i) else if 5 < k then some ((Str.ofString "depth"), i) else firstFault xs r (met ++ [n.nm]) (outNext out k) (i + 1) := by
  have hon : outNext out k ≤ out + 1 := by unfold outNext; split <;> omega
  show (match faultAt xs met (outNext out k) i n k with | some w => some (w, i) | none => firstFault xs r (met ++ [n.nm]) (outNext out k) (i + 1)) = _
  unfold faultAt
  rw [hc]
  by_cases h1 : n.nm ∈ met
  · rw [if_pos h1, if_pos h1]
  · rw [if_neg h1, if_neg h1, if_neg Bool.false_ne_true]
    by_cases h2 : 5 < k
    · rw [if_pos h2, if_pos h2]
    · rw [if_neg h2, if_neg h2, if_neg (by omega)]
end Sc
namespace PySem.AutoSeq1
theorem list_extend_list_tuple_any (l : Addr) (items : Array Value) (n : Nat) (b : Addr) (items2 : Array Value) (n2 : Nat) (od : Option Addr) (os2 : Array (Option Value)) (hs0 : ¬(!items.isEmpty && Builtin.List.listTooLong (items.size + items2.size)) = true) (hs1 : items.size ≤ sizeLine) (hs2 : items.size + items2.size ≤ sizeLine + 1) :
    Meets (Builtin.«list.extend» ⟨[.ref l, .ref b], []⟩) (fun _ R s => s.heap.get? l = some { cls := .type "list", dict := none, data := .seq items n, slots := #[] } ∧ s.heap.get? b = some { cls := .type "tuple", dict := od, data := .seq items2 n2, slots := os2 } ∧ R (.ok (.ret Value.none)) { s with heap := s.heap.update l (Obj.mapSeq fun x => x ++ items2), toks := s.toks }) :=
  .of_wp fun prog w A R s h => by
    obtain ⟨hp, g, d, tk, os⟩ := s; obtain ⟨hl, hb, h⟩ := h; have f1 := idx_int; have f2 := sub_tuple_tuple; have f3 := sub_list_list; have f4 := sub_tuple_list; have f5 := sub_list_tuple;
    have hz' : (items ++ items2).size ≤ sizeLine + 1 := by rw [Array.size_append]; exact hs2
    wp_walk using (wpAny_updateSeq hl rfl (hz := hs1) (_hz' := hz')), wpAny_loadPart' hl, wpAny_loadPart' hb; exact ⟨_, rfl, h⟩
end PySem.AutoSeq1
namespace Sc
open PySem PySem.Spec PyProof.Rows L2
/-! ### xs.extend(t) of a tuple -/
def rExtendT (K : PySem.W.Frag) : V → List V → Hp → VK → Prop := fun x vs H Q => ∃ l b xs zs, x = .ref l ∧ vs = [.ref b] ∧ H l = some (.lst xs) ∧ SqT K H b zs ∧ xs.length + zs.length ≤ sizeLine ∧ Q .non (upd H l (.lst (xs ++ zs)))
theorem mt_extendT {X : Cx} : MtM X "list.extend" (rExtendT X.K) := by
  intro pins s σ H x vs v us Q I rx rv h
  obtain ⟨l, b, xs, zs, rfl, rfl, hH, hB, hz, q⟩ := h
  cases rx
  obtain ⟨u, rfl, ru⟩ := rv.one
  cases ru
  obtain ⟨z, its, n, r, hl, e⟩ := I.lstM hH
  obtain ⟨its2, r2, ⟨⟨oc, od, oda, os2⟩, e2, hc, n2, hd⟩, _⟩ := I.tuple hB
  cases hc
  cases hd
  have hl2 := r2.length
  have hsz : its.toArray.size + its2.toArray.size ≤ sizeLine := by rw [List.size_toArray, List.size_toArray]; omega
  have hlong : ¬ (!its.toArray.isEmpty && Builtin.List.listTooLong (its.toArray.size + its2.toArray.size)) = true := by
    rw [notLongL hsz, Bool.and_false]
    exact Bool.false_ne_true
  refine call_meets F.slot_list_extend ⟨_, e, rfl⟩ F.entry_list_extend (F.args_list_extend_2 _ _)
    (AutoSeq1.list_extend_list_tuple_any l its.toArray n b its2.toArray n2 od os2 hlong (by rw [List.size_toArray]; omega) (by omega)) ⟨e, e2, ?_⟩
  refine ⟨.non, _, I.lset (its' := its ++ its2) hH e (by simp) (r.append r2) ?_, rfl, q⟩
  rw [List.length_append]
  omega
end Sc
namespace Sc
open PySem PySem.Spec PyProof.Rows L2
theorem sc_replaced : FnScope ["rules", "name", "others", "made", "rule", "inner"] ["rules", "name", "others"] (defScope s_replaced) := ⟨rfl, rfl, rfl, by decide +kernel, rfl, by decide +kernel, by decide +kernel⟩
theorem RF.repl_size {nm : Str} {os : List Nd} {f : RF} (h : f.names.Nodup) : (RF.repl nm os f).size ≤ f.size + (RF.ofNodes os).size := by
  rw [RF.repl_upd h]
  refine RF.upd_size (fun n rest => ?_) h
  rw [RF.put_size]
  omega
theorem RF.repl_dep {nm : Str} {os : List Nd} {f : RF} (h : f.names.Nodup) : (RF.repl nm os f).dep ≤ f.dep + (RF.ofNodes os).dep := by
  rw [RF.repl_upd h]
  refine RF.upd_dep (fun n rest => ?_)
  rw [RF.put_dep]
  omega
theorem RF.replL_le {nm : Str} {os : List Nd} {f : RF} {i : Nat} : (RF.replL nm os (f.nodes.take i)).length ≤ (RF.repl nm os f).size := by
  refine Nat.le_trans ?_ (RF.nodes_le _)
  rw [RF.repl_nodes]
  have e : RF.replL nm os f.nodes = RF.replL nm os (f.nodes.take i) ++ RF.replL nm os (f.nodes.drop i) := by
    unfold RF.replL
    rw [← List.flatMap_append, List.take_append_drop]
  rw [e, List.length_append]
  exact Nat.le_add_right _ _
section
variable {P : Program} {w : World} {K : PySem.W.Frag} {mg : Str → Option Value} {base : Heap} {C R B CC CR CF CB CU CN : Addr}
def sp_replaced (K : PySem.W.Frag) (C R : Addr) (d : Nat) : Sp := fun vs H Q _ => ∃ (N : Addr → Prop) (p q : Addr) (nm : Str) (ws us : List V) (f : RF) (os : List Nd), vs = [.ref p, .str nm, .ref q] ∧ SqT K H p ws ∧ ForAt K C R N H f ws ∧ SqT K H q us ∧ All2 (RefAt K C R N H) us os ∧ (∀ l, H l = none → N l) ∧
  f.names.Nodup ∧ f.dep ≤ d ∧ f.dep + (RF.ofNodes os).dep ≤ 12 ∧ f.size + (RF.ofNodes os).size ≤ 900 ∧ f.every NdOk ∧ ∀ H' p' rs, Same H H' → SqT K H' p' rs → ForAt K C R N H' (RF.repl nm os f) rs → Q (.ref p') H'
theorem ok_replaced {d : Nat} {f : Addr} {fd : FuncData} (F : Fun K "replaced" "replaced" s_replaced f fd) (B : Blt mg) (kR : RuleX P w K mg base R) (k_Rule : Mkr P w K mg base 16 "Rule" R ["self", "name", "condition", "ruling", "exceptions"] (sp_rule_init K C R CR))
    (c_replaced : Cal P w K mg base CX0 (d + 17) "replaced" ["rules", "name", "others"] (Below (sp_replaced K C R) d)) :
    FnOk P w K mg base CX0 (d + 18) f fd ["rules", "name", "others"] (sp_replaced K C R d) := by
  refine F.ok sc_replaced (fun vs H Q E h => by obtain ⟨N, p, q, nm, ws, us, f, os, rfl, _⟩ := h; rfl) (fun cdv A outer s H vs Q E hr h => ?_)
  obtain ⟨N, p, q0, nm, ws, us, f, os, rfl, hP, hF, hO, hos, hN, hnd, hd, hd12, hz, hev, q⟩ := h
  refine ⟨_, (pss_cons (ps_set (i := 3) sc_replaced.nd rfl (Or.inl rfl) (pe_lst pa_nil))
      (pss_cons (ps_for PassesOwn.never rfl (pi_tup (pv 0)) (pg_name (i := 4) sc_replaced.nd rfl (Or.inl rfl)) (pss_one (ps_if (pt_cmpR op_eq (pe_cprop kR.name kR.cls (hr.mono (by omega)) (pv 4)) (pv 1) (nomark _)) (pss_one (ps_expr (pe_bm PySem.F.plainAttrs_list PySem.F.slot_list_extend PySem.F.type_list_extend mt_extendT (pv 3) (pa_cons (pv 2) pa_nil)))) (pss_cons (ps_set (i := 5) sc_replaced.nd rfl (Or.inl rfl) (pe_cal c_replaced hr (pa_cons (pe_cprop kR.exceptions kR.cls (hr.mono (by omega)) (pv 4)) (pa_cons (pv 1) (pa_cons (pv 2) pa_nil)))))
      (pss_one (ps_expr (pe_bm PySem.F.plainAttrs_list PySem.F.slot_list_append PySem.F.type_list_append mt_append (pv 3) (pa_cons (pe_mkN k_Rule (hr.mono (by omega)) (pa_cons (pe_cprop kR.name kR.cls (hr.mono (by omega)) (pv 4)) (pa_cons (pe_cprop kR.condition kR.cls (hr.mono (by omega)) (pv 4)) (pa_cons (pe_cprop kR.ruling kR.cls (hr.mono (by omega)) (pv 4)) (pa_cons (pv 5) pa_nil))))) pa_nil))))))))
      (pss_one (ps_ret (pe_callTy call_tuple_of (by rfl) B.b_tuple PyProof.Rows.boot_tuple (pa_cons (pv 3) pa_nil)))))), ?_⟩
  have hrz := RF.repl_size (nm := nm) (os := os) hnd
  have hlo := hos.len
  have hoz : os.length ≤ (RF.ofNodes os).size := by
    have := RF.nodes_le (RF.ofNodes os)
    rw [RF.nodes_of] at this
    exact this
  refine ⟨Nat.zero_le _, fun D nD => ?_⟩
  have g0 : ∀ b xs, N b → H b = some (.lst xs) → N b ∧ b ≠ D := fun b xs h e => ⟨h, fun z => by rw [z, nD] at e; cases e⟩
  have hA := (hF.re g0).all
  have hos : All2 (RefAt K C R (fun l => N l ∧ l ≠ D) H) us os := hos.mono fun _ _ ⟨o, e, x⟩ => ⟨o, e, x.re g0⟩
  have hln := hA.len
  have s0 : Same H (upd H D (.lst [])) := (Same.refl H).put nD
  have e0 : (upd H D (.lst [])) D = some (.lst []) := upd_same
  generalize upd H D (.lst []) = H0 at s0 e0 ⊢
  refine ⟨_, rfl, p, rfl, ⟨_, s0.tup hP⟩, for_it walk_tup (fun i σ H' => ∃ (rs : List V) (y4 y5 : Option V), σ = [some (.ref p), some (.str nm), some (.ref q0), some (.ref D), y4, y5] ∧ Same H H' ∧ H' D = some (.lst rs) ∧ All2 (RefAt K C R (fun l => N l ∧ l ≠ D) H') rs (RF.replL nm os (f.nodes.take i)))
    ⟨[], none, none, rfl, s0, e0, .nil⟩ (fun _ _ _ _ ⟨_, _, _, _, s, _⟩ => s.tup hP) ?_ ?_⟩
  · rintro i y σ H4 H3 hi ⟨rs, y4, y5, rfl, s, e, hrs⟩ ⟨rfl, hy⟩
    obtain ⟨n, hn, o, rfl, hNd⟩ := hA.get hy
    have hmem : n ∈ f.nodes := List.mem_of_getElem? hn
    have hdm := RF.dep_mem _ n hmem
    have hsm := RF.size_mem _ n hmem
    obtain ⟨hok, hne⟩ := RF.every_nodes.mp hev n hmem
    obtain ⟨hndx, _⟩ := RF.nodup_node hnd n hmem
    have hrl := hrs.len
    have hrb := RF.replL_le (nm := nm) (os := os) (f := f) (i := i)
    have hrb2 := RF.replL_le (nm := nm) (os := os) (f := f) (i := i + 1)
    rw [RF.replL_more hn] at hrb2
    obtain ⟨dx', c', pe', l', ws', ho', hc', hpe', hle', hfe'⟩ := hNd
    have ho3 := s _ _ ho'
    refine ⟨_, rfl, o, dx', _, rfl, ho3, o, dx', _, _, rfl, ho3, rfl, _, rfl, rfl, _, rfl, bcase (fun c1 => ?_) (fun c1 => ?_)⟩
    · have c1 : n.nm = nm := V.str.inj (of_decide_eq_true c1)
      refine ⟨_, rfl, .inl ⟨rfl, _, sqL_of e⟩, _, rfl, D, q0, _, _, rfl, rfl, e, s.tup hO, ?_, ?_⟩
      · rw [if_pos c1, List.length_append] at hrb2
        rw [sizeLine_eq]
        omega
      have kk : Keeps (fun l => N l ∧ l ≠ D) H3 (upd H3 D (.lst (rs ++ us))) := keeps_own e fun z => z.2 rfl
      refine ⟨rs ++ us, _, _, rfl, s.put nD, upd_same, ?_⟩
      rw [RF.replL_more hn, if_pos c1]
      exact (hrs.mono fun _ _ x => x.keeps kk).app (hos.mono fun _ _ x => (x.keeps s.keeps).keeps kk)
    have c1 : n.nm ≠ nm := fun z => of_decide_eq_false c1 (by rw [z])
    obtain ⟨d, rfl⟩ : ∃ d', d = d' + 1 := ⟨d - 1, by omega⟩
    refine ⟨_, rfl, o, dx', _, rfl, ho3, o, dx', _, _, rfl, ho3, rfl, _, rfl, _, rfl, fun l => N l ∧ l ≠ D, pe', q0, nm, ws', us, n.exc, os, rfl, s.tup hpe', hfe'.keeps s.keeps, s.tup hO, hos.mono fun _ _ x => x.keeps s.keeps, fun l nl => ⟨hN l (s.free nl), (fun z => by rw [z, e] at nl; cases nl)⟩, hndx, by omega, by omega, by omega, hne, fun H6 t us6 s6 ht hF6 => ?_⟩
    have e6 := s6 _ _ e
    have s36 := s.trans s6
    have ho6 := s36 _ _ ho'
    refine ⟨_, rfl, .inl ⟨rfl, _, sqL_of e6⟩, _, rfl, o, dx', _, rfl, ho6, o, dx', _, _, rfl, ho6, rfl, _, rfl, o, dx', _, rfl, ho6, o, dx', _, _, rfl, ho6, rfl, _, rfl, o, dx', _, rfl, ho6, o, dx', _, _, rfl, ho6, rfl, _, rfl, fun x dx nx ndx nex => ?_⟩
    have s7 : Same H6 (upd (upd H6 dx (.own x)) x (.ins R dx [])) := ((Same.refl H6).put ndx).put nx
    have l1 := name_len hok.nm
    have l2 := name_len hok.rl
    have hrz2 := RF.repl_size (nm := nm) (os := os) hndx
    have hrd2 := RF.repl_dep (nm := nm) (os := os) hndx
    refine ⟨fun l => N l ∧ l ≠ D, x, dx, c', t, n.nm, n.rl, us6, RF.repl nm os n.exc, rfl, upd_same, s7.tup ht, hF6.keeps s7.keeps, by omega, by omega, by omega, by omega, (fun e => by rw [hok.nm] at e; cases e), fun _ => ⟨(fun e => by rw [hok.rl] at e; cases e), fun _ H8 l sX8 hx8 nelx nl el => ⟨rfl, ?_⟩⟩⟩
    have s8 : Same H6 H8 := fun b' o' h => sX8 b' o' (fun e => by rw [e, nx] at h; cases h) (s7 _ _ h)
    have s38 := s6.trans s8
    have s08 := s.trans s38
    have e8 := s8 _ _ e6
    have fl : H6 l = none := s7.free nl
    have hnd8 : NdAt K C R (fun l => N l ∧ l ≠ D) H8 x (n.wE (RF.repl nm os n.exc)) := ⟨dx, c', t, l, us6, hx8, hc'.keeps (N := NoL) s08.keeps, s8.tup ht, ⟨⟨hN l (s36.free fl), (fun z => by rw [z, e6] at fl; cases fl)⟩, el⟩, hF6.keeps s8.keeps⟩
    refine ⟨D, _, _, rfl, rfl, e8, small1000 (by omega), ?_⟩
    have kk : Keeps (fun l => N l ∧ l ≠ D) H8 (upd H8 D (.lst (rs ++ [.ref x]))) := keeps_own e8 fun z => z.2 rfl
    refine ⟨rs ++ [.ref x], _, _, rfl, s08.put nD, upd_same, ?_⟩
    rw [RF.replL_more hn, if_neg c1]
    exact (hrs.mono fun _ _ x => (x.keeps s38.keeps).keeps kk).snoc ⟨x, rfl, hnd8.keeps kk⟩
  · rintro σ H3 ⟨rs, y4, y5, rfl, s, e, hrs⟩
    rw [hln, List.take_length, ← RF.repl_nodes] at hrs
    refine ⟨_, rfl, D, _, rfl, .inl ⟨sqL_of e, fun t nt => ?_⟩⟩
    have s4 : Same H3 (upd H3 t (.tup rs)) := (Same.refl H3).put nt
    exact q _ t rs (s.trans s4) sqT_new (ForAt.of (hrs.mono fun _ _ ⟨o, e, x⟩ => ⟨o, e, (x.re fun b xs h _ => h.1).keeps s4.keeps⟩))
end
end Sc
namespace Sc
open PySem PySem.Spec PyProof.Rows L2
theorem sc_swapped : FnScope ["book", "name", "neighbor", "others"] ["book", "name"] (defScope s_swapped) := ⟨rfl, rfl, rfl, by decide +kernel, rfl, by decide +kernel, by decide +kernel⟩
/-! ### books that are amended -/
/-- a right book, not too large -/
structure BkOk (xs : List Str) (f : RF) (rl : Str) : Prop where
  tS : Txts xs
  lS : xs.length ≤ 60
  hb : firstBad xs = none
  hrl : isName rl = true
  nd : f.names.Nodup
  dep : f.dep ≤ 6
  size : f.size ≤ 100
  ev : f.every NdOk
namespace RF
/-- the rule behind, as a part of the whole -/
theorem nxt_part {nm : Str} {p : Nd → Prop} : ∀ {f : RF} {b : Nd}, nxt nm f = some b → f.every p → p b ∧ b.exc.every p ∧ b.exc.dep + 1 ≤ f.dep ∧ b.exc.size + 1 ≤ f.size
  | .nil, b, h, _ => nomatch h
  | .cons n hs fs rl exc rest, b, h, ⟨h1, h2, h3⟩ => by
    have h : (if n = nm then rest.nodes.head? else if nm ∈ exc.names then nxt nm exc else nxt nm rest) = some b := h
    show p b ∧ b.exc.every p ∧ b.exc.dep + 1 ≤ max (exc.dep + 1) rest.dep ∧ b.exc.size + 1 ≤ exc.size + 1 + rest.size
    split at h
    · have hb : b ∈ rest.nodes := List.mem_of_mem_head? h
      have h4 := every_nodes.mp h3 b hb
      have h5 := dep_mem rest b hb
      have h6 := size_mem rest b hb
      exact ⟨h4.1, h4.2, by omega, by omega⟩
    · split at h
      · obtain ⟨a1, a2, a3, a4⟩ := nxt_part h h2
        exact ⟨a1, a2, by omega, by omega⟩
      · obtain ⟨a1, a2, a3, a4⟩ := nxt_part h h3
        exact ⟨a1, a2, by omega, by omega⟩
theorem find_part {nm : Str} {p : Nd → Prop} : ∀ {f : RF} {b : Nd}, f.find nm = some b → f.every p → p b ∧ b.exc.every p ∧ b.exc.dep + 1 ≤ f.dep ∧ b.exc.size + 1 ≤ f.size
  | .nil, b, h, _ => nomatch h
  | .cons n hs fs rl exc rest, b, h, ⟨h1, h2, h3⟩ => by
    rw [find_cons] at h
    show p b ∧ b.exc.every p ∧ b.exc.dep + 1 ≤ max (exc.dep + 1) rest.dep ∧ b.exc.size + 1 ≤ exc.size + 1 + rest.size
    split at h
    · cases h
      exact ⟨h1, h2, by show exc.dep + 1 ≤ _; omega, by show exc.size + 1 ≤ _; omega⟩
    · cases e : exc.find nm with
      | some m =>
        rw [e] at h
        cases h
        obtain ⟨a1, a2, a3, a4⟩ := find_part e h2
        exact ⟨a1, a2, by omega, by omega⟩
      | none =>
        rw [e] at h
        obtain ⟨a1, a2, a3, a4⟩ := find_part (f := rest) h h3
        exact ⟨a1, a2, by omega, by omega⟩
theorem rowIn_size {nm : Str} : ∀ {f top : RF}, f.size ≤ top.size → (rowIn nm top f).size ≤ top.size
  | .nil, _, _ => Nat.le_refl _
  | .cons n hs fs rl exc rest, top, h => by
    have h : exc.size + 1 + rest.size ≤ top.size := h
    show (if n = nm then top else if nm ∈ exc.names then rowIn nm exc exc else rowIn nm top rest).size ≤ _
    split
    · exact Nat.le_refl _
    · split
      · have := rowIn_size (nm := nm) (f := exc) (top := exc) (Nat.le_refl _)
        omega
      · exact rowIn_size (by omega)
end RF
theorem NdOk.wE {n : Nd} {e : RF} (h : NdOk n) : NdOk (n.wE e) := ⟨h.nm, h.rl, h.c1, h.c2⟩
/-- out of its place -/
theorem BkOk.out {xs : List Str} {f : RF} {rl nm : Str} (h : BkOk xs f rl) : (RF.repl nm [] f).names.Nodup ∧ (RF.repl nm [] f).dep ≤ f.dep ∧ (RF.repl nm [] f).size ≤ f.size ∧ (RF.repl nm [] f).every NdOk := by
  refine ⟨?_, RF.repl_dep h.nd, RF.repl_size h.nd, ?_⟩
  · rw [RF.repl_upd h.nd]
    refine (RF.upd_names (fun n rest hn => ?_) h.nd).1
    rw [List.nodup_cons, List.nodup_append] at hn
    exact ⟨hn.2.2.1, fun x hx => List.mem_cons_of_mem _ (List.mem_append_right _ hx)⟩
  · rw [RF.repl_upd h.nd]
    exact RF.upd_every (fun n e hn => hn.wE) (fun n rest _ _ h3 => h3) h.ev
section
variable {P : Program} {w : World} {K : PySem.W.Frag} {mg : Str → Option Value} {base : Heap} {C R B CC CR CF CB CU CN CA : Addr}
/-- what comes of a book that is made -/
def Out (K : PySem.W.Frag) (C R B CB : Addr) (N : Addr → Prop) (xs : List Str) (f : RF) (rl : Str) (H : Hp) (Q : VK) (E : XK) : Prop := (∀ wd i, firstFault xs (f.pre 0) [] 0 0 = some (wd, i) → errWI CB wd (i : Nat) H E) ∧ (firstFault xs (f.pre 0) [] 0 0 = none → ∀ H' b, Same H H' → BookAt K C R B N H' b xs f rl → Q (.ref b) H')
theorem errWI.same {D : Addr} {wd : Str} {i : Int} {H H' : Hp} {E : XK} (s : Same H H') (h : errWI D wd i H E) : errWI D wd i H' E := fun H1 d s1 n => h H1 d (s.trans s1) n
theorem Out.same {N : Addr → Prop} {xs : List Str} {f : RF} {rl : Str} {H H' : Hp} {Q : VK} {E : XK} (s : Same H H') (h : Out K C R B CB N xs f rl H Q E) : Out K C R B CB N xs f rl H' Q E := ⟨fun wd i e => (h.1 wd i e).same s, fun e H1 b s1 hb => h.2 e H1 b (s.trans s1) hb⟩
theorem book_of {N : Addr → Prop} {H4 : Hp} {x dx a p : Addr} {xs : List Str} {rl : Str} {ws : List V} {f : RF} {Q : VK} {E : XK} (nx : H4 x = none) (ndx : H4 dx = none) (nex : dx ≠ x) (fr : ∀ l, H4 l = none → N l) (hA : SqT K H4 a (xs.map V.str)) (tS : Txts xs) (lS : xs.length ≤ 60) (hb : firstBad xs = none)
    (hP : SqT K H4 p ws) (hF : ForAt K C R N H4 f ws) (hd : f.dep ≤ 12) (hz : f.size ≤ 900) (hfit : f.Fit) (hrl : isName rl = true) (q : Out K C R B CB N xs f rl H4 Q E) :
    sp_book_init K C R B CF CB [.ref x, .ref a, .ref p, .str rl] (upd (upd H4 dx (.own x)) x (.ins B dx [])) (fun v H' => v = .non ∧ Q (.ref x) H') E := by
  have s5 : Same H4 (upd (upd H4 dx (.own x)) x (.ins B dx [])) := ((Same.refl H4).put ndx).put nx
  have ll := name_len hrl
  refine ⟨N, x, dx, a, p, xs, rl, ws, f, rfl, upd_same, s5.tup hA, tS, by omega, s5.tup hP, hF.keeps s5.keeps, hd, hz, hfit, by omega, (fun i ei => by rw [hb] at ei; cases ei), fun _ => ⟨(fun wd i ei _ => (q.1 wd i ei).same s5), fun hff => ⟨(fun e => by rw [hrl] at e; cases e), fun _ H6 l6 us2 sX6 hx6 nelx nl6 el hus6 => ⟨rfl, ?_⟩⟩⟩⟩
  have s6 : Same H4 H6 := fun b' o' h => sX6 b' o' (fun e => by rw [e, nx] at h; cases h) (s5 _ _ h)
  exact q.2 hff H6 x s6 ⟨dx, a, p, l6, ws, us2, hx6, s6.tup hA, s6.tup hP, hF.keeps s6.keeps, ⟨fr l6 (s5.free nl6), el⟩, hus6⟩
theorem flat_map {α : Type} {g : α → Str} : ∀ ns : List α, (ns.map fun n => V.str (g n)).all flatV = true
  | [] => rfl
  | _ :: r => flat_map r
theorem atI_2 {α : Type} {xs : List α} {v : α} (h : xs[xs.length - 2]? = some v) (l : 2 ≤ xs.length) : atI xs (-2) = some v := by
  unfold atI ixN
  rw [if_neg (by decide), if_pos (by omega)]
  show xs[((-2 : Int) + (xs.length : Int)).toNat]? = _
  rw [show ((-2 : Int) + (xs.length : Int)).toNat = xs.length - 2 by omega]
  exact h
/-- the row in which a rule stands -/
def tBeside (K : PySem.W.Frag) (C R B : Addr) : TS := fun D σ H => ∃ (N : Addr → Prop) (nm : Str) (f : RF) (o dx a p l Dp : Addr) (rl : Str) (ws us : List V), σ[0]? = some (some (.ref o)) ∧ σ[2]? = some (some (.ref Dp)) ∧ H o = some (.ins B dx (bookF a p rl l)) ∧ SqT K H p ws ∧ ForAt K C R N H f ws ∧ H Dp = some (.lst us) ∧ All2 (RefAt K C R N H) us (f.path nm) ∧ nm ∈ f.names ∧
  ∀ pr wr, SqT K H pr wr → ForAt K C R N H (RF.rowIn nm f f) wr → D.nx (σ.set 3 (some (.ref pr))) H
def sp_beside (K : PySem.W.Frag) (C R B CU CN : Addr) : Sp := fun vs H Q E => ∃ (N : Addr → Prop) (o : Addr) (xs : List Str) (f : RF) (rl nm : Str), vs = [.ref o, .str nm] ∧ BookAt K C R B N H o xs f rl ∧ BkOk xs f rl ∧
  (¬ nm ∈ f.names → ∀ H', Same H H' → E (.ref CU) none H') ∧ (nm ∈ f.names → (RF.nxt nm f = none → ∀ H', Same H H' → E (.ref CN) none H') ∧ ∀ b v H', RF.nxt nm f = some b → Same H H' → RefAt K C R N H' v b → Q v H')
theorem ok_beside {f : Addr} {fd : FuncData} (F : Fun K "next_beside" "next_beside" s_next_beside f fd) (Bl : Blt mg) (kR : RuleX P w K mg base R) (kB : BookX P w K mg base B) (e_UnknownRule : ErrMk0 K mg "UnknownRule" CU) (e_NoNeighbor : ErrMk0 K mg "NoNeighbor" CN)
    (c_path_to : Cal P w K mg base CX0 15 "path_to" ["rules", "name"] (sp_path K C R 12)) : FnOk P w K mg base (L2.CX P w) 16 f fd ["book", "name"] (sp_beside K C R B CU CN) := by
  refine F.okX sc_next_beside (fun vs H Q E h => by obtain ⟨N, o, xs, f, rl, nm, rfl, _⟩ := h; rfl) (fun cdv A outer s H vs Q E hr h => ?_)
  obtain ⟨N, o, xs, f, rl, nm, rfl, ⟨dx, a, p, l, ws, us, ho, hS, hP, hF, ⟨nl, hl⟩, hus⟩, hk, eu, h⟩ := h
  have hdep := hk.dep
  have hsz := hk.size
  refine ⟨_, (pss_cons (ps_set (i := 2) sc_next_beside.nd rfl (Or.inl rfl) (pe_cal c_path_to (hr.mono (by decide)) (pa_cons (pe_cprop kB.rules kB.cls (hr.mono (by decide)) (pv 0)) (pa_cons (pv 1) pa_nil))))
      (pss_cons (ps_if (pt_not (pt_tru (pv 2) (by intro _; rfl))) (pss_one (ps_raise rfl (takes_of rfl rfl rfl rfl) (pmk_err0 e_UnknownRule))) pss_nil)
      (pss_cons (wk_ps (tBeside K C R B) (ps_set (i := 3) sc_next_beside.nd rfl (Or.inl rfl) (pe_ifExp (pt_cmpR op_gt (pe_callB call_len_seq (by rfl) Bl.b_len PySem.boot_len (pa_cons (pv 2) pa_nil)) pe_int (nomark _)) (pe_cprop kR.exceptions kR.cls (hr.mono (by decide)) (pe_ix ix_list (pv 2) (pe_un un_neg pe_int) (fun _ _ => rfl))) (pe_cprop kB.rules kB.cls (hr.mono (by decide)) (pv 0)))) ?wb)
      (pss_cons (ps_set (i := 4) sc_next_beside.nd rfl (Or.inl rfl) (pe_op op_add (pe_bm PySem.F.plainAttrs_list PySem.F.slot_list_index PySem.F.type_list_index mt_index (pe_lc (own := [("rule", 5)]) (g := gName 5) (tt := tYes) rfl sc_next_beside.nd (pi_tup (pv 3)) (blkOk_by (own := [("rule", 5)]) (N := ["book", "name", "path", "beside", "place", "rule"]) (sc := defScope s_next_beside) (by decide +kernel)) (fun _ _ _ _ _ => (pg_name (i := 5) sc_next_beside.nd rfl (Or.inl rfl))) (fun _ _ _ _ _ => pts_nil) (fun _ _ _ _ _ => (pe_.re (pe_cprop kR.name kR.cls (hr.mono (by decide)) (pv 5)) (by first | (dsimp only [Cx.blk]; done) | exact rfl)))) (pa_cons (pv 1) pa_nil)) pe_int))
      (pss_cons (ps_if (pt_cmpR op_eq (pv 4) (pe_callB call_len_seq (by rfl) Bl.b_len PySem.boot_len (pa_cons (pv 3) pa_nil)) (nomark _)) (pss_one (ps_raise rfl (takes_of rfl rfl rfl rfl) (pmk_err0 e_NoNeighbor))) pss_nil)
      (pss_one (ps_ret (pe_ix ix_tup (pv 3) (pv 4) (fun _ _ => rfl))))))))), ?_⟩
  case wb =>
    rintro D σ H1 ⟨N, nm, f, o, dx, a, p, l, Dp, rl, ws, us, g0, g2, ho, hP, hF, eD, hu, hno, q⟩
    have hul := hu.len
    rcases RF.path_row f hno with ⟨h1, h2⟩ | ⟨q0, h1, h2, h3⟩
    · refine ⟨_, g2, Dp, _, rfl, .inl (sqL_of eD), _, _, rfl, rfl, _, rfl, bcase (fun c => absurd (of_decide_eq_true c) (by omega)) (fun _ => ?_)⟩
      refine ⟨_, g0, o, dx, _, rfl, ho, o, dx, _, _, rfl, ho, rfl, ?_⟩
      exact q p ws hP (by rw [h2]; exact hF)
    · obtain ⟨vq, hvq, oq, rfl, hq⟩ := hu.get' h1
      have hN := hq
      obtain ⟨dx', c', pe', l', ws', ho', hc', hpe', hle', hfe'⟩ := hN
      refine ⟨_, g2, Dp, _, rfl, .inl (sqL_of eD), _, _, rfl, rfl, _, rfl, bcase (fun _ => ?_) (fun c => absurd (of_decide_eq_false c) (by omega))⟩
      refine ⟨_, g2, 2, rfl, Dp, _, _, .ref oq, rfl, rfl, sqL_of eD, atI_2 (by rw [hul]; exact hvq) (by omega), oq, dx', _, rfl, ho', oq, dx', _, _, rfl, ho', rfl, ?_⟩
      exact q pe' ws' hpe' (by rw [h3]; exact hfe')
  refine ⟨_, rfl, o, dx, _, rfl, ho, o, dx, _, _, rfl, ho, rfl, _, rfl, N, p, nm, ws, f, rfl, hP, hF, by omega, by omega, fun H5 D us5 s5 eD hu => ?_⟩
  by_cases hno : nm ∈ f.names
  · have hpn := RF.path_some hno
    obtain ⟨en, q⟩ := h hno
    obtain ⟨u0, ur, rfl⟩ : ∃ u0 ur, us5 = u0 :: ur := by
      cases us5 with
      | nil => exact absurd (List.length_eq_zero_iff.mp hu.len.symm) hpn
      | cons x r => exact ⟨x, r, rfl⟩
    refine ⟨_, rfl, _, .inl ⟨_, sqL_of eD, rfl⟩, iteF ?_⟩
    refine ⟨N, nm, f, o, dx, a, p, l, D, rl, ws, _, rfl, rfl, s5 _ _ ho, s5.tup hP, hF.keeps s5.keeps, eD, hu, hno, fun pr wr hpr hFr => ?_⟩
    obtain ⟨k, n, _, hk1, hk2, hk3, hk4⟩ := RF.row_at (f := f) (top := f) (pre := []) hno rfl (fun _ h => nomatch h)
    have hrz := RF.rowIn_size (nm := nm) (f := f) (top := f) (Nat.le_refl _)
    generalize RF.rowIn nm f f = row at hFr hk1 hk3 hk4 hrz
    have hA := hFr.all
    have hln := hA.len
    have hrs := RF.nodes_le row
    refine ⟨_, rfl, pr, rfl, ⟨_, hpr⟩, fun D2 nD2 => lc_it walk_tup (fun i H' => Same H5 H' ∧ H' D2 = some (.lst ((row.nodes.take i).map fun n => V.str n.nm))) ⟨(Same.refl H5).put nD2, upd_same⟩ (fun _ _ _ h => h.1.tup hpr) ?_ ?_⟩
    · rintro i y H7 H8 hi ⟨s, e⟩ ⟨rfl, hy⟩
      obtain ⟨m, hm, o', rfl, hN⟩ := hA.get hy
      obtain ⟨dx', c', pe', l', ws', ho', _⟩ := hN.keeps (N := N) s.keeps
      refine ⟨rfl, yes_ ⟨_, rfl, o', dx', _, rfl, ho', o', dx', _, _, rfl, ho', rfl, ?_⟩⟩
      refine grow (acc := fun i => (row.nodes.take i).map fun n => V.str n.nm) nD2 s e ?_ ?_
      · rw [List.length_map, List.length_take]
        exact small1000 (by omega)
      · show List.map _ _ = List.map _ _ ++ _
        rw [take_more hm, List.map_append]
        rfl
    rintro H7 ⟨s7, e7⟩
    rw [hln, List.take_length] at e7
    have hks : (row.nodes.map fun n => V.str n.nm)[k]? = some (.str n.nm) := by rw [List.getElem?_map, hk1]; rfl
    refine ⟨.inl ⟨rfl, _, sqL_of e7⟩, _, rfl, D2, _, .str nm, k, .str n.nm, rfl, rfl, sqL_of e7, rfl, flat_map _, hks, by rw [hk2]; exact decide_eq_true rfl, fun m z hm hz => ?_, ?_⟩
    · rw [List.getElem?_map] at hz
      cases e : row.nodes[m]? with
      | none => rw [e] at hz; cases hz
      | some x => rw [e] at hz; cases hz; exact decide_eq_false (fun z => hk3 m x hm e z)
    refine ⟨_, _, rfl, rfl, _, rfl, _, rfl, pr, _, rfl, .inr (s7.tup hpr), rfl, _, rfl, bcase (fun c => ?_) (fun c => ?_)⟩
    · have c := V.int.inj (of_decide_eq_true c)
      refine en ?_ H7 (s5.trans s7)
      rw [hk4, List.getElem?_eq_none_iff, ← hln]
      omega
    · have c : ¬ ((k : Nat) : Int) + 1 = (wr.length : Nat) := fun z => of_decide_eq_false c (by show V.int ((k : Nat) + 1) = _; rw [z])
      obtain ⟨hkl, _⟩ := List.getElem?_eq_some_iff.mp hk1
      have hk1l : k + 1 < row.nodes.length := by omega
      obtain ⟨v, hv, hR⟩ := hA.at' hk1l
      refine ⟨_, rfl, _, rfl, pr, _, _, v, rfl, rfl, s7.tup hpr, atI_nat (j := k + 1) hv, ?_⟩
      exact q _ v H7 (by rw [hk4, List.getElem?_eq_getElem hk1l]) (s5.trans s7) (hR.keeps (N := N) s7.keeps)
  · rw [RF.path_no hno] at hu
    cases hu
    exact ⟨_, rfl, _, .inl ⟨_, sqL_of eD, rfl⟩, iteT (eu hno H5 s5)⟩
def sp_swapped (K : PySem.W.Frag) (C R B CB CU CN : Addr) : Sp := fun vs H Q E => ∃ (N : Addr → Prop) (o : Addr) (xs : List Str) (f : RF) (rl nm : Str), vs = [.ref o, .str nm] ∧ BookAt K C R B N H o xs f rl ∧ BkOk xs f rl ∧ (∀ l, H l = none → N l) ∧
  (¬ nm ∈ f.names → ∀ H', Same H H' → E (.ref CU) none H') ∧ (nm ∈ f.names → (RF.nxt nm f = none → ∀ H', Same H H' → E (.ref CN) none H') ∧ (RF.nxt nm f ≠ none → Out K C R B CB N xs (RF.upd nm Op.swap.G f) rl H Q E))
theorem ok_swapped {f : Addr} {fd : FuncData} (F : Fun K "swapped" "swapped" s_swapped f fd) (Bl : Blt mg) (kR : RuleX P w K mg base R) (kB : BookX P w K mg base B) (k_Book : Mkr P w K mg base 17 "Book" B ["self", "facts", "rules", "ruling"] (sp_book_init K C R B CF CB))
    (mIt : MethO P w K mg base (L2.CX P w) 3 B "__getitem__" ["self", "name"] (sp_getitem K C R B CU)) (c_replaced : Cal P w K mg base CX0 30 "replaced" ["rules", "name", "others"] (sp_replaced K C R 12)) (c_next_beside : Cal P w K mg base (L2.CX P w) 16 "next_beside" ["book", "name"] (sp_beside K C R B CU CN)) :
    FnOk P w K mg base (L2.CX P w) 32 f fd ["book", "name"] (sp_swapped K C R B CB CU CN) := by
  refine F.okX sc_swapped (fun vs H Q E h => by obtain ⟨N, o, xs, f, rl, nm, rfl, _⟩ := h; rfl) (fun cdv A outer s H vs Q E hr h => ?_)
  obtain ⟨N, o, xs, f, rl, nm, rfl, hB, hk, fr, eu, h⟩ := h
  refine ⟨_, (pss_cons (ps_set (i := 2) sc_swapped.nd rfl (Or.inl rfl) (pe_calX c_next_beside (hr.mono (by decide)) (takes_of rfl rfl rfl rfl) (pa_cons (pv 0) (pa_cons (pv 1) pa_nil))))
      (pss_cons (ps_set (i := 3) sc_swapped.nd rfl (Or.inl rfl) (pe_cal c_replaced (hr.mono (by decide)) (pa_cons (pe_cprop kB.rules kB.cls (hr.mono (by decide)) (pv 0)) (pa_cons (pe_cprop kR.name kR.cls (hr.mono (by decide)) (pv 2)) (pa_cons (pe_tup pa_nil) pa_nil)))))
      (pss_one (ps_ret (pe_mkX k_Book (hr.mono (by decide)) (takes_of rfl rfl rfl rfl) (pa_cons (pe_cprop kB.facts kB.cls (hr.mono (by decide)) (pv 0)) (pa_cons (pe_cal c_replaced (hr.mono (by decide)) (pa_cons (pv 3) (pa_cons (pv 1) (pa_cons (pe_tup (pa_cons (pv 2) (pa_cons (pe_ixM mIt (hr.mono (by decide)) (takes_of rfl rfl rfl rfl) (pv 0) (pv 1) (fun _ _ => rfl)) pa_nil))) pa_nil)))) (pa_cons (pe_cprop kB.ruling kB.cls (hr.mono (by decide)) (pv 0)) pa_nil)))))))), ?_⟩
  refine ⟨_, rfl, _, rfl, N, o, xs, f, rl, nm, rfl, hB, hk, eu, fun hno => ⟨fun e => (h hno).1 e, fun b v H1 hx s1 hb => ?_⟩⟩
  have q := (h hno).2 (by rw [hx]; exact fun z => nomatch z)
  obtain ⟨n0, hf0, hn0⟩ := RF.find_some hno
  obtain ⟨b1, b2, b3, b4⟩ := RF.nxt_part hx hk.ev
  obtain ⟨f1, f2, f3, f4⟩ := RF.find_part hf0 hk.ev
  obtain ⟨o1, o2, o3, o4⟩ := hk.out (nm := b.nm)
  have hdep := hk.dep
  have hsz := hk.size
  have hB1 := hB.keeps (N := N) s1.keeps
  obtain ⟨ob, rfl, hNb⟩ := hb
  have hb : RefAt K C R N H1 (.ref ob) b := ⟨ob, rfl, hNb⟩
  obtain ⟨dxb, cb, pb, lb, wsb, hob, _⟩ := id hNb
  obtain ⟨dx, a, p, l, ws, us, ho, hS, hP, hF, ⟨nl, hl⟩, hus⟩ := id hB1
  refine ⟨_, rfl, o, dx, _, rfl, ho, o, dx, _, _, rfl, ho, rfl, _, rfl, ob, dxb, _, rfl, hob, ob, dxb, _, _, rfl, hob, rfl, Nat.zero_le _, fun t0 n0' => ?_⟩
  have s2 : Same H1 (upd H1 t0 (.tup [])) := (Same.refl H1).put n0'
  have e2 : (upd H1 t0 (.tup [])) t0 = some (.tup []) := upd_same
  generalize upd H1 t0 (.tup []) = H2 at s2 e2 ⊢
  have e00 : (RF.ofNodes []).dep = 0 ∧ (RF.ofNodes []).size = 0 := ⟨rfl, rfl⟩
  refine ⟨N, p, t0, b.nm, ws, [], f, [], rfl, s2.tup hP, hF.keeps s2.keeps, sqT_of e2, .nil, (fun l nl => fr l ((s1.trans s2).free nl)), hk.nd, by omega, by omega, by omega, hk.ev, fun H3 p3 rs3 s3 hp3 hF3 => ?_⟩
  have s03 := (s1.trans s2).trans s3
  have hB3 := hB.keeps (N := N) s03.keeps
  have hb3 := hb.keeps (N := N) (s2.trans s3).keeps
  have ho3 := (s2.trans s3) _ _ ho
  clear hB hB1
  refine ⟨_, rfl, o, dx, _, rfl, ho3, o, dx, _, _, rfl, ho3, rfl, _, rfl, _, rfl, _, rfl, _, rfl, _, rfl, o, dx, _, rfl, ho3, N, o, xs, f, rl, nm, rfl, hB3, by omega, (fun n v hn hv => ?_), fun z => by rw [hf0] at z; cases z⟩
  rw [hf0] at hn
  cases hn
  refine ⟨(by show 2 ≤ sizeLine; decide), fun t4 n4 => ?_⟩
  have s4 : Same H3 (upd H3 t4 (.tup [.ref ob, v])) := (Same.refl H3).put n4
  have e4 : (upd H3 t4 (.tup [.ref ob, v])) t4 = some (.tup [.ref ob, v]) := upd_same
  generalize upd H3 t4 (.tup [.ref ob, v]) = H4 at s4 e4 ⊢
  have hds : (RF.ofNodes [b, n0]).dep ≤ 6 ∧ (RF.ofNodes [b, n0]).size ≤ 200 := by
    show max (b.exc.dep + 1) (max (n0.exc.dep + 1) 0) ≤ 6 ∧ b.exc.size + 1 + (n0.exc.size + 1 + 0) ≤ 200
    omega
  have s04 := s03.trans s4
  refine ⟨N, p3, t4, nm, rs3, [.ref ob, v], _, [b, n0], rfl, s4.tup hp3, hF3.keeps s4.keeps, sqT_of e4, .cons (hb3.keeps s4.keeps) (.cons (hv.keeps s4.keeps) .nil), (fun l nl => fr l (s04.free nl)), o1, by omega, by omega, by omega, o4, fun H5 p5 rs5 s5 hp5 hF5 => ?_⟩
  have hz5 := RF.repl_size (nm := nm) (os := [b, n0]) o1
  have hd5 := RF.repl_dep (nm := nm) (os := [b, n0]) o1
  have hev5 : (RF.repl nm [b, n0] (RF.repl b.nm [] f)).every NdOk := by
    rw [RF.repl_upd o1]
    refine RF.upd_every (fun n e hn => hn.wE) (fun n rest _ _ h3 => RF.put_every (fun m hm => ?_) h3) o4
    rcases List.mem_cons.mp hm with rfl | hm
    · exact ⟨b1, b2⟩
    · rw [List.mem_singleton.mp hm]
      exact ⟨f1, f2⟩
  have e5 : RF.repl nm [b, n0] (RF.repl b.nm [] f) = RF.upd nm Op.swap.G f := by
    rw [RF.repl_upd o1, RF.repl_upd hk.nd]
    exact RF.swap_two hk.nd hno hx hf0
  rw [e5] at hF5 hz5 hd5 hev5
  have s05 := s04.trans s5
  have ho5 := (s4.trans s5) _ _ ho3
  refine ⟨_, rfl, o, dx, _, rfl, ho5, o, dx, _, _, rfl, ho5, rfl, fun x dx2 nx ndx nex => ?_⟩
  exact book_of nx ndx nex (fun l nl => fr l (s05.free nl)) ((s2.trans (s3.trans (s4.trans s5))).tup hS) hk.tS hk.lS hk.hb hp5 hF5 (by omega) (by omega) (fit_of hev5) hk.hrl (q.same s05)
end
end Sc
namespace Sc
open PySem PySem.Spec PyProof.Rows L2
theorem sc__law_changed : FnScope ["_law_rules_here", "_law_name", "_law_found", "_law_done", "_law_k", "_law_inner", "_law_good"] ["_law_rules_here", "_law_name"] (defScope s__law_changed) := ⟨rfl, rfl, rfl, by decide +kernel, rfl, by decide +kernel, by decide +kernel⟩
/-! ### lists with entries put -/
namespace All2
variable {α β : Type} {R : α → β → Prop}
theorem set : ∀ {as : List α} {bs : List β} {i : Nat} {a : α} {b : β}, All2 R as bs → R a b → All2 R (as.set i a) (bs.set i b)
  | _, _, _, _, _, .nil, _ => .nil
  | _, _, 0, _, _, .cons _ t, r => .cons r t
  | _, _, i + 1, _, _, .cons h t, r => .cons h (t.set r)
end All2
theorem set_done {α : Type} {g : α → α} : ∀ {l : List α} {i : Nat} {n : α}, l[i]? = some n → ((l.take i).map g ++ l.drop i).set i (g n) = (l.take (i + 1)).map g ++ l.drop (i + 1)
  | [], i, n, h => by cases i <;> cases h
  | x :: r, 0, n, h => by cases h; rfl
  | x :: r, i + 1, n, h => by
    show g x :: (((r.take i).map g ++ r.drop i).set i (g n)) = g x :: ((r.take (i + 1)).map g ++ r.drop (i + 1))
    rw [set_done (l := r) h]
theorem set_two {α : Type} : ∀ {l : List α} {k : Nat} {x y : α}, l[k]? = some x → l[k + 1]? = some y → (l.set k y).set (k + 1) x = l.take k ++ (y :: x :: l.drop (k + 2))
  | [], k, x, y, h, _ => by cases k <;> cases h
  | [a], 0, x, y, _, h2 => by cases h2
  | a :: b :: r, 0, x, y, h1, h2 => by cases h1; cases h2; rfl
  | a :: r, k + 1, x, y, h1, h2 => by
    show a :: ((r.set k y).set (k + 1) x) = a :: (r.take k ++ (y :: x :: r.drop (k + 2)))
    rw [set_two (l := r) h1 h2]
namespace RF
theorem row_only {nm : Str} : ∀ {f : RF}, f.names.Nodup → (∃ n ∈ f.nodes, n.nm = nm) → ∀ m ∈ f.nodes, ¬ nm ∈ m.exc.names
  | .nil, _, _, _, h => nomatch h
  | .cons x hs fs rl exc rest, h, ⟨n, hn, e⟩, m, hm => by
    obtain ⟨h1, h2, h3, h4, h5⟩ := nodup_cons h
    rcases List.mem_cons.mp hn with rfl | hn
    · have e : x = nm := e
      rw [← e]
      rcases List.mem_cons.mp hm with rfl | hm
      · exact h1
      · exact fun z => h2 (mem_names.mpr ⟨m, hm, .inr z⟩)
    · have hr : nm ∈ rest.names := mem_names.mpr ⟨n, hn, .inl e.symm⟩
      rcases List.mem_cons.mp hm with rfl | hm
      · exact fun z => h5 _ z hr
      · exact row_only h4 ⟨n, hn, e⟩ m hm
theorem nxt_none {x : Str} : ∀ {f : RF}, ¬ x ∈ f.names → nxt x f = none
  | .nil, _ => rfl
  | .cons n hs fs rl exc rest, h => by
    rw [names_cons] at h
    show (if n = x then _ else if x ∈ exc.names then nxt x exc else nxt x rest) = _
    rw [if_neg fun z => h (by rw [z]; exact List.mem_cons_self), if_neg fun z => h (List.mem_cons_of_mem _ (List.mem_append_left _ z))]
    exact nxt_none fun z => h (List.mem_cons_of_mem _ (List.mem_append_right _ z))
end RF
/-- a row whose exceptions are changed -/
def inW (nm : Str) (n : Nd) : Nd := n.wE (RF.upd nm Op.swap.G n.exc)
def inD (nm : Str) (n : Nd) : Bool := (RF.nxt nm n.exc).isSome
theorem inW_id {nm : Str} {n : Nd} (h : ¬ nm ∈ n.exc.names) : inW nm n = n := by
  unfold inW
  rw [RF.upd_no h]
  rfl
theorem inD_no {nm : Str} {n : Nd} (h : ¬ nm ∈ n.exc.names) : inD nm n = false := by
  unfold inD
  rw [RF.nxt_none h]
  rfl
/-- no rule of that name in the row -/
theorem chg_off {nm : Str} {f : RF} (hnd : f.names.Nodup) (hoff : ∀ n ∈ f.nodes, n.nm ≠ nm) : (RF.upd nm Op.swap.G f).nodes = f.nodes.map (inW nm) ∧ (RF.nxt nm f).isSome = f.nodes.any (inD nm) := by
  refine ⟨RF.upd_map hoff, ?_⟩
  rw [Bool.eq_iff_iff, List.any_eq_true]
  constructor
  · intro h
    have hm : nm ∈ f.names := by
      by_cases c : nm ∈ f.names
      · exact c
      · rw [RF.nxt_none c] at h; cases h
    obtain ⟨n, hn, e⟩ := RF.mem_names.mp hm
    rcases e with e | e
    · exact absurd e.symm (hoff n hn)
    · exact ⟨n, hn, by unfold inD; rw [← RF.nxt_in hnd hoff n hn e]; exact h⟩
  · rintro ⟨n, hn, h⟩
    by_cases c : nm ∈ n.exc.names
    · rw [RF.nxt_in hnd hoff n hn c]; exact h
    · rw [inD_no c] at h; cases h
theorem chg_row {nm : Str} {f : RF} {k : Nat} {n : Nd} (hnd : f.names.Nodup) (hk : f.nodes[k]? = some n) (e : n.nm = nm) : f.nodes.map (inW nm) = f.nodes ∧ f.nodes.any (inD nm) = false ∧ RF.nxt nm f = f.nodes[k + 1]? ∧
    (∀ b, f.nodes[k + 1]? = some b → (RF.upd nm Op.swap.G f).nodes = f.nodes.take k ++ (b :: n :: f.nodes.drop (k + 2))) ∧ (f.nodes[k + 1]? = none → (RF.upd nm Op.swap.G f).nodes = f.nodes) := by
  have hm : n ∈ f.nodes := List.mem_of_getElem? hk
  have ho := RF.row_only hnd ⟨n, hm, e⟩
  have hah := RF.ahead hnd hk e
  refine ⟨?_, ?_, RF.nxt_here hk e hah, fun b hb => ?_, fun hb => ?_⟩
  · exact (List.map_congr_left fun m h => inW_id (ho m h)).trans (List.map_id _)
  · rw [List.any_eq_false]
    exact fun m h z => by rw [inD_no (ho m h)] at z; cases z
  · obtain ⟨hl, e2⟩ := List.getElem?_eq_some_iff.mp hb
    rw [RF.upd_at hk e hah, RF.put_nodes, List.drop_eq_getElem_cons hl, e2]
    show _ ++ (b :: (RF.put [n] (RF.ofNodes (f.nodes.drop (k + 1 + 1)))).nodes) = _
    rw [RF.put_nodes, RF.nodes_of]
    rfl
  · have hl := List.getElem?_eq_none_iff.mp hb
    rw [RF.upd_at hk e hah, RF.put_nodes, List.drop_eq_nil_of_le hl]
    show f.nodes.take k ++ [n] = f.nodes
    have h := take_more hk
    rw [← h, List.take_of_length_le hl]
theorem orv_ {i j : Nat} {σ : L2.St} {H : Hp} {Q : VK} {c d : Bool} (h1 : σ[i]? = some (some (.bl c))) (h2 : σ[j]? = some (some (.bl d))) (h : Q (.bl (c || d)) H) : tOrV (tVar i) (tVar j) σ H Q := by
  refine ⟨_, h1, c, rfl, ?_⟩
  cases c with
  | true => exact h
  | false => exact ⟨_, h2, h⟩
/-- the row after the second walk, as far as it came -/
def Swd (nm : Str) (f : RF) (rs : List V) (i : Nat) (us : List V) (b : Bool) : Prop :=
  ((∀ n ∈ f.nodes.take i, n.nm ≠ nm) ∧ us = rs ∧ b = f.nodes.any (inD nm)) ∨ ∃ k n m x y, k < i ∧ f.nodes[k]? = some n ∧ n.nm = nm ∧ f.nodes[k + 1]? = some m ∧ rs[k]? = some x ∧ rs[k + 1]? = some y ∧ us = rs.take k ++ (y :: x :: rs.drop (k + 2)) ∧ b = true
theorem swd_end {R : V → Nd → Prop} {nm : Str} {f : RF} {rs us : List V} {b : Bool} {i : Nat} (hi : i + 1 = f.nodes.length ∨ f.nodes.length = 0) (hnd : f.names.Nodup) (h : All2 R rs (f.nodes.map (inW nm))) (w : Swd nm f rs i us b) : b = (RF.nxt nm f).isSome ∧ All2 R us (RF.upd nm Op.swap.G f).nodes := by
  rcases w with ⟨hoff, rfl, rfl⟩ | ⟨k, n, m, x, y, hk, hn, e, hm, hx, hy, rfl, rfl⟩
  · by_cases c : ∃ n ∈ f.nodes, n.nm = nm
    · obtain ⟨n, hn, e⟩ := c
      obtain ⟨k, hkl, rfl⟩ := List.mem_iff_getElem.mp hn
      have hk : f.nodes[k]? = some f.nodes[k] := List.getElem?_eq_getElem hkl
      have hge : i ≤ k := by
        by_cases c : i ≤ k
        · exact c
        · refine absurd e (hoff _ (List.mem_of_getElem? (i := k) ?_))
          rw [List.getElem?_take, if_pos (by omega)]
          exact hk
      have hno : f.nodes[k + 1]? = none := List.getElem?_eq_none (by omega)
      obtain ⟨a1, a2, a3, a4, a5⟩ := chg_row hnd hk e
      rw [a1] at h
      rw [a2, a3, a5 hno, hno]
      exact ⟨rfl, h⟩
    · obtain ⟨a1, a2⟩ := chg_off hnd fun n hn e => c ⟨n, hn, e⟩
      rw [a1, a2]
      exact ⟨rfl, h⟩
  · obtain ⟨a1, a2, a3, a4, a5⟩ := chg_row hnd hn e
    rw [a1] at h
    rw [a3, a4 m hm, hm]
    obtain ⟨n', hn', rx⟩ := h.get hx
    obtain ⟨m', hm', ry⟩ := h.get hy
    rw [hn] at hn'
    rw [hm] at hm'
    cases hn'
    cases hm'
    exact ⟨rfl, (h.take k).app (.cons ry (.cons rx (h.drop (k + 2))))⟩
section
variable {P : Program} {w : World} {K : PySem.W.Frag} {mg : Str → Option Value} {base : Heap}
def sp_chg (K : PySem.W.Frag) (d : Nat) : Sp := fun vs H Q _ => ∃ (p : Addr) (nm : Str) (ws : List V) (f : RF), vs = [.ref p, .str nm] ∧ SqT K H p ws ∧ RowsAt K H f ws ∧ f.dep ≤ d ∧ f.size ≤ 900 ∧ f.names.Nodup ∧
  ∀ H' t p' us, Same H H' → H' t = some (.tup [.ref p', .bl (RF.nxt nm f).isSome]) → SqT K H' p' us → RowsAt K H' (RF.upd nm Op.swap.G f) us → Q (.ref t) H'
theorem ok_chg {d : Nat} {f : Addr} {fd : FuncData} (F : Fun K "_law_changed" "_law_changed" s__law_changed f fd) (B : Blt mg) (c__law_changed : Cal P w K mg base CX0 (d + 1) "_law_changed" ["_law_rules_here", "_law_name"] (Below (sp_chg K) d)) :
    FnOk P w K mg base CX0 (d + 2) f fd ["_law_rules_here", "_law_name"] (sp_chg K d) := by
  refine F.ok sc__law_changed (fun vs H Q E h => by obtain ⟨p, nm, ws, f, rfl, _⟩ := h; rfl) (fun cdv A outer s H vs Q E hr h => ?_)
  obtain ⟨p, nm, ws, f, rfl, hP, hX, hd, hz, hnd, q⟩ := h
  have hA := hX.all
  have hln := hA.len
  have hlz := RF.nodes_le f
  refine ⟨_, (pss_cons (ps_par (i := 2) (j := 3) rfl sc__law_changed.nd rfl rfl (by decide) rfl rfl (pa_cons (pe_callTy call_list_of (by rfl) B.b_list PyProof.Rows.boot_list (pa_cons (pv 0) pa_nil)) (pa_cons pe_bl pa_nil)) rfl)
      (pss_cons (ps_for PassesOwn.never rfl (pi_range1 (by rfl) B.b_range (pa_cons (pe_callB call_len_seq (by rfl) B.b_len PySem.boot_len (pa_cons (pv 0) pa_nil)) pa_nil)) (pg_name (i := 4) sc__law_changed.nd rfl (Or.inl rfl)) (pss_cons (ps_asg (pe_cal c__law_changed hr (pa_cons (pe_ix ix_tup (pe_ix ix_tup (pv 0) (pv 4) (fun _ _ => rfl)) pe_int (fun _ _ => rfl)) (pa_cons (pv 1) pa_nil))) (pg_tup (by rfl) (pgs_cons (pg_name (i := 5) sc__law_changed.nd rfl (Or.inl rfl)) (pgs_cons (pg_name (i := 6) sc__law_changed.nd rfl (Or.inl rfl)) pgs_nil))))
      (pss_one (ps_asg (pe_tup (pa_cons (pe_op op_catA (pe_slice sl_tupA (pe_ix ix_tup (pv 0) (pv 4) (fun _ _ => rfl)) po_none (po_some pe_int)) (pe_tup (pa_cons (pv 5) pa_nil))) (pa_cons (pe_or (pv 3) (pe_one (pv 6))) pa_nil))) (pg_tup (by rfl) (pgs_cons (pg_sub (pv 2) (pv 4) set_list) (pgs_cons (pg_name (i := 3) sc__law_changed.nd rfl (Or.inl rfl)) pgs_nil)))))))
      (pss_cons (ps_for PassesOwn.never rfl (pi_range1 (by rfl) B.b_range (pa_cons (pe_op op_sub (pe_callB call_len_seq (by rfl) B.b_len PySem.boot_len (pa_cons (pv 0) pa_nil)) pe_int) pa_nil)) (pg_name (i := 4) sc__law_changed.nd rfl (Or.inl rfl)) (pss_one (ps_if (pt_cmpR op_eq (pe_ix ix_tup (pe_ix ix_tup (pv 0) (pv 4) (fun _ _ => rfl)) pe_int (fun _ _ => rfl)) (pv 1) (nomark _)) (pss_one (ps_asg (pe_tup (pa_cons (pe_ix ix_list (pv 2) (pe_op op_add (pv 4) pe_int) (fun _ _ => rfl)) (pa_cons (pe_ix ix_list (pv 2) (pv 4) (fun _ _ => rfl)) (pa_cons pe_bl pa_nil)))) (pg_tup (by rfl) (pgs_cons (pg_sub (pv 2) (pv 4) set_list) (pgs_cons (pg_sub (pv 2) (pe_op op_add (pv 4) pe_int) set_list) (pgs_cons (pg_name (i := 3) sc__law_changed.nd rfl (Or.inl rfl)) pgs_nil)))))) pss_nil)))
      (pss_one (ps_ret (pe_tup (pa_cons (pe_callTy call_tuple_of (by rfl) B.b_tuple PyProof.Rows.boot_tuple (pa_cons (pv 2) pa_nil)) (pa_cons (pv 3) pa_nil)))))))), ?_⟩
  have nsm : sizeLine ≥ 3000 := by rw [sizeLine_eq]; decide
  refine ⟨_, rfl, p, ws, rfl, .inr hP, fun D nD => ⟨_, _, rfl, ?_⟩⟩
  have s0 : Same H (upd H D (.lst ws)) := (Same.refl H).put nD
  have e0 : (upd H D (.lst ws)) D = some (.lst ws) := upd_same
  generalize upd H D (.lst ws) = H0 at s0 e0 ⊢
  refine ⟨_, rfl, p, ws, rfl, .inr (s0.tup hP), _, rfl, by omega, by omega, for_it walk_range (fun i σ H' => ∃ (rs : List V) (y4 y5 y6 : Option V), σ = [some (.ref p), some (.str nm), some (.ref D), some (.bl ((f.nodes.take i).any (inD nm))), y4, y5, y6] ∧ Same H H' ∧ H' D = some (.lst rs) ∧ All2 (RowAt K H') rs ((f.nodes.take i).map (inW nm) ++ f.nodes.drop i))
    ⟨ws, _, _, _, rfl, s0, e0, hA.mono fun _ _ x => x.keeps (N := NoL) s0.keeps⟩ (fun _ _ _ _ _ => trivial) ?_ ?_⟩
  · rintro i y σ H3 H2 hi ⟨rs, y4, y5, y6, rfl, s, e, hrs⟩ ⟨rfl, hy⟩
    have hi : i < ws.length := by
      have hi : i < ((ws.length : Nat) : Int).toNat := hi
      omega
    have hin : i < f.nodes.length := by omega
    have hy : y = V.int (i : Nat) := by rw [hy]; show V.int (0 + (i : Nat)) = _; rw [Int.zero_add]
    subst hy
    obtain ⟨v, hv, hrow⟩ := hA.at' hin
    have hget : f.nodes[i]? = some f.nodes[i] := List.getElem?_eq_getElem hin
    generalize f.nodes[i] = n at hrow hget
    have hmem : n ∈ f.nodes := List.mem_of_getElem? hget
    have hdm := RF.dep_mem f n hmem
    have hsm := RF.size_mem f n hmem
    obtain ⟨hndx, _⟩ := RF.nodup_node hnd n hmem
    obtain ⟨d, rfl⟩ : ∃ d', d = d' + 1 := ⟨d - 1, by omega⟩
    obtain ⟨o, wa, ba, pa, ws', rfl, hO, hW, hB, hPe, hXe⟩ := hrow.keeps (N := NoL) s.keeps
    refine ⟨_, rfl, _, rfl, p, _, _, _, rfl, rfl, s.tup hP, atI_nat (j := i) hv, o, _, 4, _, rfl, rfl, hO, atI_nat (j := 4) rfl, _, rfl, pa, nm, ws', n.exc, rfl, hPe, hXe, by omega, by omega, hndx, fun H5 t p5 us5 s5 et hp5 hr5 => ?_⟩
    refine ⟨t, _, rfl, sqT_of et, rfl, _, _, rfl, _, _, rfl, rfl, ?_⟩
    have s05 := s.trans s5
    refine ⟨_, rfl, _, rfl, p, _, _, _, rfl, rfl, s05.tup hP, atI_nat (j := i) hv, ?_⟩
    delta tNoPart
    refine ⟨_, rfl, ?_⟩
    refine sl_any (s5.tup hO) fun p6 H6 s6 hp6 => ?_
    rw [show (4 : Int) = ((4 : Nat) : Int) from rfl, cut_to] at hp6
    refine ⟨_, rfl, (by show 1 ≤ sizeLine; decide), fun t7 nt7 => ?_⟩
    have s7 : Same H6 (upd H6 t7 (.tup [.ref p5])) := (Same.refl H6).put nt7
    have e7 : (upd H6 t7 (.tup [.ref p5])) t7 = some (.tup [.ref p5]) := upd_same
    generalize upd H6 t7 (.tup [.ref p5]) = H7 at s7 e7 ⊢
    refine cat_any (s7.tup hp6) (sqT_of e7) (by rw [sizeLine_eq]; show 4 + 1 ≤ _; omega) fun p8 H8 s8 hp8 => ?_
    have s58 := s6.trans (s7.trans s8)
    have hnew : RowAt K H8 (.ref p8) (inW nm n) := ⟨p8, wa, ba, p5, us5, rfl, hp8, (s5.trans s58).tup hW, (s5.trans s58).tup hB, s58.tup hp5, hr5.keeps (N := NoL) s58.keeps⟩
    show tOrV (tVar 3) (tVar 6) _ _ _
    refine orv_ (c := (f.nodes.take i).any (inD nm)) (d := inD nm n) rfl rfl ?_
    have han : ((f.nodes.take i).any (inD nm) || inD nm n) = (f.nodes.take (i + 1)).any (inD nm) := by
      rw [take_more hget, List.any_append]
      show (_ || inD nm n) = (_ || (inD nm n || false))
      rw [Bool.or_false]
    rw [han]
    generalize hb2 : (f.nodes.take (i + 1)).any (inD nm) = b2
    refine ⟨(by show 2 ≤ sizeLine; decide), fun t9 nt9 => ?_⟩
    have s9 : Same H8 (upd H8 t9 (.tup [.ref p8, .bl b2])) := (Same.refl H8).put nt9
    have e9 : (upd H8 t9 (.tup [.ref p8, .bl b2])) t9 = some (.tup [.ref p8, .bl b2]) := upd_same
    generalize upd H8 t9 (.tup [.ref p8, .bl b2]) = H9 at s9 e9 ⊢
    have s39 := s5.trans (s58.trans s9)
    have eD := s39 _ _ e
    have hrl := hrs.len
    rw [List.length_append, List.length_map, List.length_take, List.length_drop] at hrl
    refine ⟨t9, _, rfl, sqT_of e9, rfl, _, _, rfl, _, rfl, _, rfl, D, rs, (i : Nat), i, rfl, rfl, eD, ixN_of (by omega), _, _, rfl, rfl, ?_⟩
    have kk : Keeps NoL H9 (upd H9 D (.lst (rs.set i (.ref p8)))) := keeps_own eD id
    refine ⟨rs.set i (.ref p8), _, _, _, rfl, (s.trans s39).put nD, upd_same, ?_⟩
    rw [← set_done (g := inW nm) hget]
    exact All2.set (hrs.mono fun _ _ x => (x.keeps (N := NoL) s39.keeps).keeps kk) ((hnew.keeps (N := NoL) s9.keeps).keeps kk)
  rintro σ H2 ⟨rs, y4, y5, y6, rfl, s, e, hrs⟩
  have hrs : All2 (RowAt K H2) rs (f.nodes.map (inW nm)) := by
    rw [show ((ws.length : Nat) : Int).toNat = f.nodes.length by omega, List.take_length, List.drop_length, List.append_nil] at hrs
    exact hrs
  have hrl := hrs.len
  rw [List.length_map] at hrl
  have hfa : f.nodes.take ((ws.length : Nat) : Int).toNat = f.nodes := by rw [show ((ws.length : Nat) : Int).toNat = f.nodes.length by omega, List.take_length]
  rw [hfa]
  refine ⟨_, rfl, p, ws, rfl, .inr (s.tup hP), _, _, rfl, rfl, _, rfl, by omega, by omega, for_it walk_range (fun i σ H' => ∃ (us : List V) (b : Bool) (y4 y5 y6 : Option V), σ = [some (.ref p), some (.str nm), some (.ref D), some (.bl b), y4, y5, y6] ∧ Same H H' ∧ H' D = some (.lst us) ∧ All2 (RowAt K H') rs (f.nodes.map (inW nm)) ∧ Swd nm f rs i us b)
    ⟨rs, _, _, _, _, rfl, s, e, hrs, .inl ⟨(fun _ h => nomatch h), rfl, rfl⟩⟩ (fun _ _ _ _ _ => trivial) ?_ ?_⟩
  · clear s e hrs
    rintro i y σ H4 H3 hi ⟨us, b, y4, y5, y6, rfl, s, e, hrs, hw⟩ ⟨rfl, hy⟩
    have hi : i + 1 < f.nodes.length := by
      have hi : i < (((ws.length : Nat) : Int) - 1).toNat := hi
      omega
    have hy : y = V.int (i : Nat) := by rw [hy]; show V.int (0 + (i : Nat)) = _; rw [Int.zero_add]
    subst hy
    obtain ⟨v, hv, hrow⟩ := hA.at' (show i < f.nodes.length by omega)
    have hget : f.nodes[i]? = some f.nodes[i] := List.getElem?_eq_getElem (by omega)
    have hget1 : f.nodes[i + 1]? = some f.nodes[i + 1] := List.getElem?_eq_getElem hi
    generalize f.nodes[i + 1] = m at hget1
    generalize f.nodes[i] = n at hrow hget
    obtain ⟨o, wa, ba, pa, ws', rfl, hO, _⟩ := hrow.keeps (N := NoL) s.keeps
    refine ⟨_, rfl, _, rfl, p, _, _, _, rfl, rfl, s.tup hP, atI_nat (j := i) hv, o, _, 0, _, rfl, rfl, hO, atI_nat (j := 0) rfl, _, rfl, rfl, _, rfl, bcase (fun c1 => ?_) (fun c1 => ?_)⟩
    · have c1 : n.nm = nm := V.str.inj (of_decide_eq_true c1)
      have hah := RF.ahead hnd hget c1
      rcases hw with ⟨hoff, rfl, rfl⟩ | ⟨k, n', m', x, y, hk, hn, e', _⟩
      · obtain ⟨x, hx, _⟩ := hrs.get' (i := i) (by rw [List.getElem?_map, hget]; rfl)
        obtain ⟨y, hy, _⟩ := hrs.get' (i := i + 1) (by rw [List.getElem?_map, hget1]; rfl)
        refine ⟨_, rfl, _, rfl, _, _, rfl, rfl, D, _, _, y, rfl, rfl, sqL_of e, atI_nat (j := i + 1) hy, _, rfl, _, rfl, D, _, _, x, rfl, rfl, sqL_of e, atI_nat (j := i) hx, (by show 3 ≤ sizeLine; decide), fun t9 nt9 => ?_⟩
        have s9 : Same H3 (upd H3 t9 (.tup [y, x, .bl true])) := (Same.refl H3).put nt9
        have e9 : (upd H3 t9 (.tup [y, x, .bl true])) t9 = some (.tup [y, x, .bl true]) := upd_same
        generalize upd H3 t9 (.tup [y, x, .bl true]) = H9 at s9 e9 ⊢
        have eD := s9 _ _ e
        refine ⟨t9, _, rfl, sqT_of e9, rfl, _, _, rfl, _, rfl, _, rfl, D, us, (i : Nat), i, rfl, rfl, eD, ixN_of (by omega), _, _, rfl, _, rfl, _, rfl, _, _, rfl, rfl, D, us.set i y, ((i + 1 : Nat) : Int), i + 1, rfl, rfl, upd_same, ixN_of (by rw [List.length_set]; omega), _, _, rfl, rfl, ?_⟩
        have k1 : Keeps NoL H9 (upd H9 D (.lst (us.set i y))) := keeps_own eD id
        have k2 : Keeps NoL (upd H9 D (.lst (us.set i y))) (upd (upd H9 D (.lst (us.set i y))) D (.lst ((us.set i y).set (i + 1) x))) := keeps_own upd_same id
        refine ⟨(us.set i y).set (i + 1) x, true, _, _, _, rfl, ((s.trans s9).put nD).put nD, upd_same, hrs.mono fun _ _ x => ((x.keeps (N := NoL) s9.keeps).keeps k1).keeps k2, .inr ⟨i, n, m, x, y, by omega, hget, c1, hget1, hx, hy, set_two hx hy, rfl⟩⟩
      · refine absurd e' (hah n' (List.mem_of_getElem? (i := k) ?_)).1
        rw [List.getElem?_take, if_pos hk]
        exact hn
    · have c1 : n.nm ≠ nm := fun z => of_decide_eq_false c1 (by rw [z])
      refine ⟨us, b, _, _, _, rfl, s, e, hrs, ?_⟩
      rcases hw with ⟨hoff, h2, h3⟩ | ⟨k, n', m', x, y, hk, h⟩
      · refine .inl ⟨fun m hm => ?_, h2, h3⟩
        rw [take_more hget] at hm
        rcases List.mem_append.mp hm with hm | hm
        · exact hoff m hm
        · rw [List.mem_singleton.mp hm]
          exact c1
      · exact .inr ⟨k, n', m', x, y, by omega, h⟩
  · clear s e hrs
    rintro σ H3 ⟨us, b, y4, y5, y6, rfl, s, e, hrs, hw⟩
    obtain ⟨rfl, hus⟩ := swd_end (by omega) hnd hrs hw
    refine ⟨_, rfl, D, us, rfl, .inl ⟨sqL_of e, fun t8 nt8 => ?_⟩⟩
    have s8 : Same H3 (upd H3 t8 (.tup us)) := (Same.refl H3).put nt8
    have e8 : (upd H3 t8 (.tup us)) t8 = some (.tup us) := upd_same
    generalize upd H3 t8 (.tup us) = H8 at s8 e8 ⊢
    refine ⟨_, rfl, (by show 2 ≤ sizeLine; decide), fun t9 nt9 => ?_⟩
    have s9 : Same H8 (upd H8 t9 (.tup [.ref t8, .bl (RF.nxt nm f).isSome])) := (Same.refl H8).put nt9
    exact q _ t9 t8 us (s.trans (s8.trans s9)) upd_same (sqT_of (s9 _ _ e8)) (RowsAt.of (hus.mono fun _ _ x => x.keeps (N := NoL) (s8.trans s9).keeps))
end
end Sc
/-! sorted of triples whose first two are ints, no two triples alike in them -/
namespace TriS
open PySem PySem.Spec PySem.Calls PyProof.Rows Srt SrtO
/-- v is a tuple of two ints and something -/
def IsTri (h : Heap) (v : Value) (x y : Int) (z : Value) : Prop := ∃ a o t u n, v = .ref a ∧ h.get? a = some o ∧ o.cls = .type "tuple" ∧ o.data = .seq #[.int x t, .int y u, z] n
theorem IsTri.stay {h h' : Heap} {v z : Value} {x y : Int} (p : IsTri h v x y z) (k : ∀ b o, h.get? b = some o → o.cls = .type "tuple" → h'.get? b = some o) : IsTri h' v x y z := by
  obtain ⟨a, o, t, u, n, e, ho, hc, hd⟩ := p
  exact ⟨a, o, t, u, n, e, k a o ho hc, hc, hd⟩
theorem heads {h : Heap} {k : Value → Int × Int} : ∀ {vs : List Value}, (∀ v ∈ vs, ∃ z, IsTri h v (k v).1 (k v).2 z) → ∃ fs : List Value, PySem.W.KatTups h vs fs ∧ fs.length = vs.length ∧ ∀ f ∈ fs, ∃ x t, f = Value.int x t
  | [], _ => ⟨[], PySem.W.KatTups.nil, rfl, fun _ m => nomatch m⟩
  | v :: r, hp => by
    obtain ⟨fs, h1, h2, h3⟩ := heads (vs := r) (k := k) fun u m => hp u (List.mem_cons_of_mem _ m)
    obtain ⟨z, hz⟩ := hp v List.mem_cons_self
    generalize (k v).1 = x at hz
    generalize (k v).2 = y at hz
    obtain ⟨a, o, t, u, n, e, ho, hc, hd⟩ := hz
    subst e
    refine ⟨.int x t :: fs, PySem.W.KatTups.cons ho hc hd rfl h1, by rw [List.length_cons, List.length_cons, h2], fun f m => ?_⟩
    rcases List.mem_cons.mp m with e | m
    · exact ⟨x, t, e⟩
    · exact h3 f m
section
variable {prog : Program} {w : World} {A : Around} {s : Shared} {E : Value → Shared → Prop}
theorem tri_cmp {vs : List Value} {k : Value → Int × Int} (hp : ∀ v ∈ vs, ∃ z, IsTri s.heap v (k v).1 (k v).2 z) (hone : ∀ v ∈ vs, ∀ u ∈ vs, k v = k u → v = u) : Cmp prog w A s (tuples' true) (fun p => p.1 ∈ vs) (lt2 fun v u => lexB (k v) (k u)) := by
  intro p q m1 m2
  obtain ⟨z, h1⟩ := hp _ m1
  obtain ⟨z', h2⟩ := hp _ m2
  have same : (k p.1).1 = (k q.1).1 → (k p.1).2 = (k q.1).2 → p.1 = q.1 := fun e1 e2 => hone _ m1 _ m2 (Prod.ext e1 e2)
  show wpAny (model prog w) A (keyLt' (tuples' true) p.1 q.1) (fun r s' => s' = s ∧ r = lexB (k p.1) (k q.1)) (fun _ _ => False) s
  unfold lexB
  generalize (k p.1).1 = x at h1 same ⊢
  generalize (k p.1).2 = y at h1 same ⊢
  generalize (k q.1).1 = x' at h2 same ⊢
  generalize (k q.1).2 = y' at h2 same ⊢
  obtain ⟨a, o, t, u, n, e, ho, hc, hd⟩ := h1
  obtain ⟨a', o', t', u', n', e', ho', hc', hd'⟩ := h2
  rw [e, e'] at same
  rw [e, e']
  refine PySem.W.kat_lt ho hd ho' hd' ?_
  show PySem.W.KatLex prog w A true (decide (3 < 3)) _ [(.int x t, .int x' t'), (.int y u, .int y' u'), (z, z')] 0 s
  refine PySem.W.kat_cons (SeqAt.EqAt.int_int x t x' t' prog w _ _ ?_)
  refine PySem.W.kat_go (fun c1 => ?_) (fun c1 => ?_)
  · have ex : x = x' := by simpa using c1
    refine PySem.W.kat_yes (PySem.W.kat_cons (SeqAt.EqAt.int_int y u y' u' prog w _ _ ?_))
    refine PySem.W.kat_go (fun c2 => ?_) (fun c2 => ?_)
    · have ey : y = y' := by simpa using c2
      have no : (if x = x' then decide (y < y') else decide (x < x')) = false := by
        rw [if_pos ex, ey]
        exact decide_eq_false (Int.lt_irrefl _)
      have ea : a = a' := Value.ref.inj (same ex ey)
      subst ea
      rw [ho] at ho'
      cases ho'
      rw [hd] at hd'
      cases hd'
      refine PySem.W.kat_yes (PySem.W.kat_cons (SeqAt.EqAt.same z prog w _ _ ?_))
      refine PySem.W.kat_go (fun _ => PySem.W.kat_yes (PySem.W.kat_nil ⟨rfl, no.symm⟩)) (fun c3 => ?_)
      simp at c3
    · have yes : (if x = x' then decide (y < y') else decide (x < x')) = decide (y < y') := if_pos ex
      refine PySem.W.kat_no (PySem.W.kat_one _ _ (PyProof.Rows.lt_int ?_))
      exact (show s = s ∧ decide (y < y') = (if x = x' then decide (y < y') else decide (x < x')) from ⟨rfl, yes.symm⟩)
  · have ex : ¬ x = x' := by simpa using c1
    have yes : (if x = x' then decide (y < y') else decide (x < x')) = decide (x < x') := if_neg ex
    exact PySem.W.kat_no (oneLt_int ⟨rfl, yes.symm⟩)
theorem tri_sortable {a : Addr} {vs : List Value} {k : Value → Int × Int} (h0 : 0 < vs.length) (hp : ∀ v ∈ vs, ∃ z, IsTri s.heap v (k v).1 (k v).2 z) (hone : ∀ v ∈ vs, ∀ u ∈ vs, k v = k u → v = u) (ha : ∀ o, s.heap.get? a = some o → o.cls ≠ .type "tuple") :
    SortableO prog w A s a vs fun v u => lexB (k v) (k u) := by
  intro h' keep
  have hq : ∀ v ∈ vs, ∃ z, IsTri h' v (k v).1 (k v).2 z := fun v m => by
    obtain ⟨z, p⟩ := hp v m
    exact ⟨z, p.stay fun b o e c => keep b o (fun z => ha o (by rw [← z]; exact e) c) e⟩
  obtain ⟨fs, h1, h2, h3⟩ := heads hq
  refine ⟨tuples' true, fun Q E q => ?_, tri_cmp hq hone⟩
  refine PySem.W.kat_kind (T := .type "int") h1 (by omega) (fun f m => ?_) (by rfl) ?_
  · obtain ⟨x, t, rfl⟩ := h3 f m
    exact PySem.W.Looks.now
  · have ne : (Value.type "int" != Value.type "tuple") = true := by first | decide +kernel | rfl
    rw [ne]
    exact q
theorem sorted_tri {l : Addr} {vs : List Value} {k : Value → Int × Int} {Q : Value → Shared → Prop} (hl : s.heap.IsList l vs.toArray) (hz : vs.length ≤ sizeLine) (hp : ∀ v ∈ vs, ∃ z, IsTri s.heap v (k v).1 (k v).2 z) (hone : ∀ v ∈ vs, ∀ u ∈ vs, k v = k u → v = u)
    (h : ∀ (h' : Heap) (d : Addr) (out : List Value), Srtd (fun v u => lexB (k v) (k u)) out → Stb (fun v u => lexB (k v) (k u)) out vs → (∀ b o, s.heap.get? b = some o → h'.get? b = some o) → s.heap.objs.size ≤ d → (∃ n, h'.get? d = some (seqObj "list" out.toArray n)) → Q (.ref d) { s with heap := h' }) :
    wpAny (model prog w) A (call (.builtin "sorted") [.ref l]) Q E s := by
  refine sorted_ord (swo_lex k) hl hz (fun h2 h₁ a ha kk => ?_) fun out hs hb => h _ _ out hs hb (fun b o e => sortedAll_old e) (Nat.le_succ _) (sortedAll_at s.heap vs out.toArray)
  refine tri_sortable (s := { s with heap := h₁ }) (by omega) (fun v m => ?_) hone fun o e c => ?_
  · obtain ⟨z, p⟩ := hp v m
    exact ⟨z, p.stay fun b o e _ => (kk b o e).2⟩
  · cases (e.symm.trans ha : some o = some (seqObj "list" vs.toArray 0))
    exact absurd (Value.type.inj c) (by decide)
end
end TriS
namespace L2
open PySem PySem.Spec PyProof.Rows
/-- sorted(xs), xs a list of triples that stand in order already (k: their first two, ints): a new list of the same -/
def rSortedTri (K : PySem.W.Frag) : List V → Hp → VK → Prop := fun vs H Q => ∃ (a : Addr) (xs : List V) (k : V → Int × Int), vs = [V.ref a] ∧ SqL K H a xs ∧ (∀ x ∈ xs, ∃ t z, x = V.ref t ∧ H t = some (.tup [.int (k x).1, .int (k x).2, z])) ∧
  xs.Pairwise (fun x y => SrtO.lexB (k x) (k y) = true) ∧ ∀ p, H p = none → Q (.ref p) (upd H p (.lst xs))
section
variable {X : Cx}
theorem lex_ne {p q : Int × Int} (h : SrtO.lexB p q = true) : p ≠ q := fun e => by
  rw [e] at h
  have h := SrtO.lexB_iff.mp h
  omega
theorem cr_sortedTri : CallR X (.builtin "sorted") (rSortedTri X.K) := by
  intro pins s σ H vs us Q I r h
  obtain ⟨a, xs, k, rfl, hs, hx, hpw, q⟩ := h
  obtain ⟨its, rv, hl, hz⟩ := I.list hs
  obtain ⟨u, rfl, ru⟩ := vals1 r
  obtain rfl : u = Value.ref a := ru
  obtain ⟨e1, e2⟩ := refs_back rv fun x m => by
    obtain ⟨t, _, e, _⟩ := hx x m
    exact ⟨t, e⟩
  have keys : ∀ x ∈ xs, ∀ y ∈ xs, k x = k y → x = y := by
    have nd : xs.Pairwise (fun x y => k x ≠ k y) := hpw.imp fun h => lex_ne h
    intro x mx y my e
    obtain ⟨i, hi, rfl⟩ := List.mem_iff_getElem.mp mx
    obtain ⟨j, hj, rfl⟩ := List.mem_iff_getElem.mp my
    rcases Nat.lt_trichotomy i j with h | h | h
    · exact absurd e (List.pairwise_iff_getElem.mp nd i j hi hj h)
    · subst h
      rfl
    · exact absurd e.symm (List.pairwise_iff_getElem.mp nd j i hj hi h)
  refine TriS.sorted_tri (k := fun u => k (backV u)) hl.isList (by rw [← rv.length]; exact hz) (fun v hv => ?_) (fun v hv u hu e => ?_) fun h' d out h1 h2 kp hd hn => ?_
  · obtain ⟨t, rfl⟩ := e2 v hv
    have hm : V.ref t ∈ xs := by rw [e1]; exact List.mem_map.mpr ⟨_, hv, rfl⟩
    obtain ⟨t', z, e, ht⟩ := hx _ hm
    cases e
    obtain ⟨_, its2, r2, o, ho, hc, n, hd⟩ := I.hok _ _ ht
    cases r2 with
    | @cons _ u1 _ _ ri rr =>
      cases rr with
      | @cons _ u2 _ _ rj rr =>
        cases rr with
        | @cons _ u3 _ _ rz rr =>
          cases rr
          obtain ⟨t1, rfl⟩ := ri
          obtain ⟨t2, rfl⟩ := rj
          exact ⟨u3, t, o, t1, t2, n, rfl, ho, hc, hd⟩
  · obtain ⟨t, rfl⟩ := e2 v hv
    obtain ⟨t', rfl⟩ := e2 u hu
    have m1 : V.ref t ∈ xs := by rw [e1]; exact List.mem_map.mpr ⟨_, hv, rfl⟩
    have m2 : V.ref t' ∈ xs := by rw [e1]; exact List.mem_map.mpr ⟨_, hu, rfl⟩
    have := keys _ m1 _ m2 e
    cases this
    rfl
  · have h3 : ∀ u ∈ out, ∃ a, u = Value.ref a := fun u hu => e2 u (h2.perm.mem_iff.mp hu)
    obtain ⟨n, hn⟩ := hn
    have hb : SrtO.Stb (ltP k) (out.map backV) xs := by
      rw [e1]
      exact SrtO.Stb.map (ltP_swo k) backV h2
    have hsx : SrtO.Srtd (ltP k) xs := hpw.imp fun {x y} h => (ltP_swo k).1 _ _ h
    have heq : out.map backV = xs := SrtO.stb_uniq (ltP_swo k) (SrtO.srtd_map h1) hsx hb
    have ro : Vals xs out := by rw [← heq]; exact vals_back h3
    exact ⟨.ref d, upd H d (.lst xs), I.laid (t' := s.toks) kp hd ⟨hz, out, n, ro, hn⟩, rfl, q d (I.hok.fresh hd)⟩
end
end L2
namespace Sc
open PySem PySem.Spec PyProof.Rows L2
/-! ### clashes stand in order -/
def posN : List Str → Str → Nat
  | [], _ => 0
  | y :: r, x => if y = x then 0 else posN r x + 1
theorem posN_at : ∀ {l : List Str} {x : Str}, x ∈ l → l[posN l x]? = some x ∧ ∀ m z, m < posN l x → l[m]? = some z → z ≠ x
  | [], x, h => nomatch h
  | y :: r, x, h => by
    by_cases e : y = x
    · have : posN (y :: r) x = 0 := if_pos e
      rw [this, e]
      exact ⟨rfl, fun m z hm => absurd hm (Nat.not_lt_zero m)⟩
    · have hx : x ∈ r := by
        rcases List.mem_cons.mp h with h | h
        · exact absurd h.symm e
        · exact h
      obtain ⟨h1, h2⟩ := posN_at hx
      have : posN (y :: r) x = posN r x + 1 := if_neg e
      rw [this]
      refine ⟨h1, fun m z hm hz => ?_⟩
      cases m with
      | zero => cases hz; exact e
      | succ m => exact h2 m z (by omega) hz
theorem posN_up : ∀ {l : List Str}, l.Nodup → l.Pairwise fun a b => posN l a < posN l b
  | [], _ => .nil
  | y :: r, h => by
    obtain ⟨h1, h2⟩ := List.nodup_cons.mp h
    have ne : ∀ x ∈ r, posN (y :: r) x = posN r x + 1 := fun x hx => if_neg fun e => h1 (by rw [e]; exact hx)
    refine .cons (fun b hb => ?_) ((posN_up h2).imp_of_mem fun {a b} ha hb hl => by rw [ne a ha, ne b hb]; omega)
    rw [ne b hb, show posN (y :: r) y = 0 from if_pos rfl]
    omega
def triK (pos : Str → Nat) (q : Tri) : Int × Int := ((pos q.1 : Nat), (pos q.2.1 : Nat))
theorem triK_fst {pos : Str → Nat} {q r : Tri} (h : pos q.1 < pos r.1) : SrtO.lexB (triK pos q) (triK pos r) = true := by
  rw [SrtO.lexB_iff]
  show (((pos q.1 : Nat) : Int) < (pos r.1 : Nat)) ∨ _
  exact .inl (by omega)
theorem triK_snd {pos : Str → Nat} {q r : Tri} (e : q.1 = r.1) (h : pos q.2.1 < pos r.2.1) : SrtO.lexB (triK pos q) (triK pos r) = true := by
  rw [SrtO.lexB_iff]
  refine .inr ⟨?_, ?_⟩
  · show ((pos q.1 : Nat) : Int) = (pos r.1 : Nat)
    rw [e]
  · show ((pos q.2.1 : Nat) : Int) < (pos r.2.1 : Nat)
    omega
theorem beside_at {xs ws bs : List Str} {a rl : Str} {m : Nd} {q : Tri} (h : besideO xs a rl ws bs m = some q) : q.1 = a ∧ q.2.1 = m.nm := by
  unfold besideO at h
  split at h
  · cases h; exact ⟨rfl, rfl⟩
  · cases h
theorem besideL_mem {xs ws bs : List Str} {a rl : Str} {ms : List Nd} {q : Tri} (h : q ∈ besideL xs a rl ws bs ms) : q.1 = a ∧ ∃ m ∈ ms, q.2.1 = m.nm := by
  obtain ⟨m, hm, h⟩ := List.mem_filterMap.mp h
  obtain ⟨h1, h2⟩ := beside_at h
  exact ⟨h1, m, hm, h2⟩
theorem besideL_up {xs ws bs : List Str} {a rl : Str} {pos : Str → Nat} : ∀ {ms : List Nd}, ms.Pairwise (fun n m => pos n.nm < pos m.nm) → (besideL xs a rl ws bs ms).Pairwise fun q r => SrtO.lexB (triK pos q) (triK pos r) = true
  | [], _ => .nil
  | m :: r, h => by
    obtain ⟨h1, h2⟩ := List.pairwise_cons.mp h
    unfold besideL
    rw [List.filterMap_cons]
    cases e : besideO xs a rl ws bs m with
    | none => exact besideL_up h2
    | some q =>
      obtain ⟨e1, e2⟩ := beside_at e
      refine .cons (fun q' hq' => ?_) (besideL_up h2)
      obtain ⟨f1, m', hm', f2⟩ := besideL_mem hq'
      exact triK_snd (e1.trans f1.symm) (by rw [e2, f2]; exact h1 m' hm')
namespace RF
theorem nodes_sub : ∀ f : RF, List.Sublist (f.nodes.map fun n => n.nm) f.names
  | .nil => .slnil
  | .cons n hs fs rl exc rest => by
    rw [names_cons]
    show List.Sublist (n :: rest.nodes.map fun n => n.nm) _
    exact (List.Sublist.trans (nodes_sub rest) (List.sublist_append_right _ _)).cons₂ n
theorem clw_mem {xs : List Str} : ∀ {ws bs : List Str} {f : RF} {q : Tri}, q ∈ f.clw xs ws bs → q.1 ∈ f.names ∧ q.2.1 ∈ f.names
  | _, _, .nil, q, h => nomatch h
  | ws, bs, .cons n hs fs rl exc rest, q, h => by
    rw [names_cons]
    have h : q ∈ besideL xs n rl (joinF xs hs ws) (joinF xs fs bs) rest.nodes ++ (clw xs (joinF xs hs ws) (joinF xs fs bs) exc ++ clw xs ws bs rest) := h
    rcases List.mem_append.mp h with h | h
    · obtain ⟨h1, m, hm, h2⟩ := besideL_mem h
      refine ⟨by rw [h1]; exact List.mem_cons_self, List.mem_cons_of_mem _ (List.mem_append_right _ ?_)⟩
      rw [h2]
      exact (nodes_sub rest).subset (List.mem_map.mpr ⟨m, hm, rfl⟩)
    · rcases List.mem_append.mp h with h | h
      · obtain ⟨a, b⟩ := clw_mem h
        exact ⟨List.mem_cons_of_mem _ (List.mem_append_left _ a), List.mem_cons_of_mem _ (List.mem_append_left _ b)⟩
      · obtain ⟨a, b⟩ := clw_mem h
        exact ⟨List.mem_cons_of_mem _ (List.mem_append_right _ a), List.mem_cons_of_mem _ (List.mem_append_right _ b)⟩
theorem clw_up {xs : List Str} {pos : Str → Nat} : ∀ {ws bs : List Str} {f : RF}, f.names.Pairwise (fun a b => pos a < pos b) → (f.clw xs ws bs).Pairwise fun q r => SrtO.lexB (triK pos q) (triK pos r) = true
  | _, _, .nil, _ => .nil
  | ws, bs, .cons n hs fs rl exc rest, h => by
    rw [names_cons] at h
    obtain ⟨h1, h2⟩ := List.pairwise_cons.mp h
    obtain ⟨h3, h4, h5⟩ := List.pairwise_append.mp h2
    show (besideL xs n rl (joinF xs hs ws) (joinF xs fs bs) rest.nodes ++ (clw xs (joinF xs hs ws) (joinF xs fs bs) exc ++ clw xs ws bs rest)).Pairwise _
    rw [List.pairwise_append, List.pairwise_append]
    refine ⟨besideL_up ((List.pairwise_map (f := fun n : Nd => n.nm) (R := fun a b => pos a < pos b)).mp (h4.sublist (nodes_sub rest))), ⟨clw_up h3, clw_up h4, fun q hq r hr => triK_fst (h5 _ (clw_mem hq).1 _ (clw_mem hr).1)⟩, fun q hq r hr => triK_fst ?_⟩
    rw [(besideL_mem hq).1]
    rcases List.mem_append.mp hr with hr | hr
    · exact h1 _ (List.mem_append_left _ (clw_mem hr).1)
    · exact h1 _ (List.mem_append_right _ (clw_mem hr).1)
end RF
/-- a clash as data -/
def triD (q : Tri) : PyData := .tuple [.str q.1, .str q.2.1, .tuple (q.2.2.map PyData.str)]
end Sc
namespace Sc
open PySem PySem.Spec PyProof.Rows L2
theorem sc_Book_names : FnScope ["self", "rule"] ["self"] (defScope s_Book_names) := ⟨rfl, rfl, rfl, by decide +kernel, rfl, by decide +kernel, by decide +kernel⟩
section
variable {P : Program} {w : World} {K : PySem.W.Frag} {mg : Str → Option Value} {base : Heap} {C R B : Addr}
def sp_bnames (K : PySem.W.Frag) (C R B : Addr) : Sp := fun vs H Q _ => ∃ (N : Addr → Prop) (o : Addr) (xs : List Str) (f : RF) (rl : Str), vs = [.ref o] ∧ BookAt K C R B N H o xs f rl ∧ f.size ≤ 900 ∧ ∀ H' D, Same H H' → H' D = some (.lst (f.names.map V.str)) → Q (.ref D) H'
theorem names_map (f : RF) : ((f.pre 0).map fun q => q.1).map (fun n => n.nm) = f.names := by rw [← RF.pre_names _ 0, List.map_map]; rfl
theorem ok_bnames {f : Addr} {fd : FuncData} (F : Fun K "names" "Book.names" s_Book_names f fd) (Bl : Blt mg) (T : Cls K B) (n4 : NoAttr K B "_numbered") (kR : RuleX P w K mg base R) : FnOk P w K mg base CX0 3 f fd ["self"] (sp_bnames K C R B) := by
  refine F.ok sc_Book_names (fun vs H Q E h => by obtain ⟨N, o, xs, f, rl, rfl, _⟩ := h; rfl) (fun cdv A outer s H vs Q E hr h => ?_)
  obtain ⟨N, o, xs, f, rl, rfl, ⟨dx, a, p, l, ws, us, ho, hS, hP, hF, ⟨nl, hl⟩, hus⟩, hz, q⟩ := h
  have hlen := hus.len
  rw [List.length_map, RF.pre_len] at hlen
  refine ⟨_, (pss_one (ps_ret (pe_lc (own := [("rule", 1)]) (g := gName 1) (tt := tYes) rfl sc_Book_names.nd (pi_list (pe_fld (pv 0) rfl)) (blkOk_by (own := [("rule", 1)]) (N := ["self", "rule"]) (sc := defScope s_Book_names) (by decide +kernel)) (fun _ _ _ _ _ => (pg_name (i := 1) sc_Book_names.nd rfl (Or.inl rfl))) (fun _ _ _ _ _ => pts_nil) (fun _ _ _ _ _ => (pe_.re (pe_cprop kR.name kR.cls (hr.mono (by decide)) (pv 1)) (by first | (dsimp only [Cx.blk]; done) | exact rfl)))))), ?_⟩
  refine ⟨_, rfl, o, B, dx, _, _, rfl, ho, T, n4, rfl, l, rfl, ⟨_, sqL_of hl⟩, fun D nD => lc_it walk_list (fun i H' => Same H H' ∧ H' D = some (.lst (((((f.pre 0).map fun q => q.1).take i).map fun n => n.nm).map V.str))) ⟨(Same.refl H).put nD, upd_same⟩ (fun _ _ _ h => sqL_of (h.1 _ _ hl)) ?_ ?_⟩
  · rintro i y H2 H3 hi ⟨s, e⟩ ⟨rfl, hy⟩
    obtain ⟨n, hn, o', rfl, hN⟩ := hus.get hy
    obtain ⟨dx', c', pe', l', ws', ho', _⟩ := hN.keeps (N := N) s.keeps
    refine ⟨rfl, yes_ ⟨_, rfl, o', dx', _, rfl, ho', o', dx', _, _, rfl, ho', rfl, _, e, ?_, s.put nD, ?_⟩⟩
    · rw [List.length_map, List.length_map, List.length_take, List.length_map, RF.pre_len]
      exact small1000 (by omega)
    · rw [upd_same, take_more hn, List.map_append, List.map_append]
      rfl
  rintro H2 ⟨s, e⟩
  rw [hus.len, List.take_length, names_map] at e
  exact q H2 D s e
end
end Sc
namespace Sc
open PySem PySem.Spec PyProof.Rows L2
/-! ### alike, over lists and tuples wherever they come from -/
theorem tyT {K : PySem.W.Frag} {H : Hp} {a : Addr} {xs : List V} (h : SqT K H a xs) : TyX K H (.ref a) (.type "tuple") := by
  rcases h with (h | ⟨o, h⟩) | ⟨o, its, n, hk, hc, _⟩
  · exact .base (.tup h)
  · exact .fTuple h
  · exact .kTuple hk hc
theorem _root_.L2.TyX.lst {K : PySem.W.Frag} {H : Hp} {a : Addr} {xs : List V} (h : H a = some (.lst xs)) : TyX K H (.ref a) (.type "list") := .base (.lst h)
theorem _root_.L2.TyX.int {K : PySem.W.Frag} {H : Hp} (i : Int) : TyX K H (.int i) (.type "int") := .base (.int i)
theorem _root_.L2.TyX.str {K : PySem.W.Frag} {H : Hp} (x : Str) : TyX K H (.str x) (.type "str") := .base (.str x)
theorem _root_.L2.TyX.tup {K : PySem.W.Frag} {H : Hp} {a : Addr} {xs : List V} (h : SqT K H a xs) : TyX K H (.ref a) (.type "tuple") := tyT h
def rIsTX (K : PySem.W.Frag) (T : String) : List V → Hp → VK → Prop := fun xs H Q => ∃ (x : V) (t : String) (b : Bool), xs = [x, .ty T] ∧ TyX K H x (.type t) ∧ kitB t T = some b ∧ Q (.bl b) H
theorem call_isTX {X : Cx} (T : String) : CallR X (.builtin "isinstance") (rIsTX X.K T) := by
  intro pins s σ H xs us Q I r h
  obtain ⟨x, t, b, ex, ht, hb, q⟩ := h
  exact call_isi pins s σ H xs us Q I r ⟨_, _, _, _, _, ex, .ty _, ht, kit_ty hb, q⟩
inductive AT (K : PySem.W.Frag) (H : Hp) : Nat → V → PyData → Prop where
  | int (n : Nat) (i : Int) : AT K H n (.int i) (.int i)
  | str (n : Nat) (x : Str) : AT K H n (.str x) (.str x)
  | non (n : Nat) : AT K H n .non .none
  | lst {n : Nat} {a : Addr} {xs : List V} {ds : List PyData} (e : H a = some (.lst xs)) (l : xs.length = ds.length) (z : xs.length ≤ 1000000) (all : ∀ (i : Nat) (x : V) (d : PyData), xs[i]? = some x → ds[i]? = some d → AT K H n x d) : AT K H (n + 1) (.ref a) (.list ds)
  | tup {n : Nat} {a : Addr} {xs : List V} {ds : List PyData} (e : SqT K H a xs) (l : xs.length = ds.length) (z : xs.length ≤ 1000000) (all : ∀ (i : Nat) (x : V) (d : PyData), xs[i]? = some x → ds[i]? = some d → AT K H n x d) : AT K H (n + 1) (.ref a) (.tuple ds)
section
variable {P : Program} {w : World} {K : PySem.W.Frag} {mg : Str → Option Value} {base : Heap} {C R B : Addr}
theorem AT.same {H H' : Hp} {n : Nat} {x : V} {d : PyData} (s : Same H H') (h : AT K H n x d) : AT K H' n x d := by
  induction h with
  | int n i => exact .int n i
  | str n x => exact .str n x
  | non n => exact .non n
  | lst e l z all ih => exact .lst (s _ _ e) l z ih
  | tup e l z all ih => exact .tup (s.tup e) l z ih
def sp_alikeT (K : PySem.W.Frag) (n : Nat) : Sp := fun vs H Q _ => ∃ (x y : V) (d : PyData), vs = [x, y] ∧ AT K H n x d ∧ AT K H n y d ∧ ∀ H', Same H H' → Q (.bl true) H'
/-- the answer where no list or tuple stands -/
theorem ok_alikeT0 {f : Addr} {fd : FuncData} (F : Fun K "_law_alike" "_law_alike" s__law_alike f fd) (B : Blt mg) : FnOk P w K mg base CX0 1 f fd ["_law_found", "_law_due"] (sp_alikeT K 0) := by
  refine F.ok sc__law_alike (fun vs H Q E h => by obtain ⟨x, y, d, rfl, _⟩ := h; rfl) (fun cdv A outer s H vs Q E hr h => ?_)
  obtain ⟨x, y, d, rfl, hx, hy, q⟩ := h
  refine ⟨_, (pss_cons (ps_if (pt_val (pe_callB (call_isTX "dict") (by rfl) B.b_isinstance PyProof.Rows.boot_isinstance (pa_cons (pv 1) (pa_cons (pe_bltn (v := .ty "dict") (by rfl) B.b_dict (by decide +kernel) rfl) pa_nil)))) pss_never pss_nil)
      (pss_cons (ps_if (pt_val (pe_callB call_isiT (by rfl) B.b_isinstance PyProof.Rows.boot_isinstance (pa_cons (pv 1) (pa_cons (pe_tup (pa_cons (pe_bltn (v := .ty "tuple") (by rfl) B.b_tuple PyProof.Rows.boot_tuple rfl) (pa_cons (pe_bltn (v := .ty "list") (by rfl) B.b_list PyProof.Rows.boot_list rfl) pa_nil))) pa_nil)))) pss_never pss_nil)
      (pss_cons (ps_if (PW.pt (pw_or (pt_cmpR op_isN (pv 1) pe_non (nomark _)) (pw_or1 (pt_val (pe_callB (call_isTX "str") (by rfl) B.b_isinstance PyProof.Rows.boot_isinstance (pa_cons (pv 1) (pa_cons (pe_bltn (v := .ty "str") (by rfl) B.b_str PyProof.Rows.boot_str rfl) pa_nil))))))) (pss_one (ps_ret (pe_and (pe_cmpR op_eq (pv 0) (pv 1) (nomark _)) (pe_one (pe_cmpR op_eq (pe_callB (call_isTX "str") (by rfl) B.b_isinstance PyProof.Rows.boot_isinstance (pa_cons (pv 0) (pa_cons (pe_bltn (v := .ty "str") (by rfl) B.b_str PyProof.Rows.boot_str rfl) pa_nil))) (pe_callB (call_isTX "str") (by rfl) B.b_isinstance PyProof.Rows.boot_isinstance (pa_cons (pv 1) (pa_cons (pe_bltn (v := .ty "str") (by rfl) B.b_str PyProof.Rows.boot_str rfl) pa_nil))) (nomark _)))))) pss_nil)
      (pss_one (ps_ret (pe_and (pe_callB (call_isTX "int") (by rfl) B.b_isinstance PyProof.Rows.boot_isinstance (pa_cons (pv 0) (pa_cons (pe_bltn (v := .ty "int") (by rfl) B.b_int PyProof.Rows.boot_int rfl) pa_nil))) (pe_and (pe_cmpR op_eq (pe_callB (call_isTX "bool") (by rfl) B.b_isinstance PyProof.Rows.boot_isinstance (pa_cons (pv 0) (pa_cons (pe_bltn (v := .ty "bool") (by rfl) B.b_bool PyProof.Rows.boot_bool rfl) pa_nil))) (pe_callB (call_isTX "bool") (by rfl) B.b_isinstance PyProof.Rows.boot_isinstance (pa_cons (pv 1) (pa_cons (pe_bltn (v := .ty "bool") (by rfl) B.b_bool PyProof.Rows.boot_bool rfl) pa_nil))) (nomark _)) (pe_one (pe_cmpR op_eq (pv 0) (pv 1) (nomark _)))))))))), ?_⟩
  cases hx with
  | int _ i =>
    cases hy
    refine ⟨_, rfl, _, "int", false, rfl, .int i, by decide +kernel, false, rfl, iteF ?_⟩
    refine ⟨_, rfl, (by show 2 ≤ sizeLine; decide), fun tp ntp => ⟨_, tp, _, .type "int", [.type "tuple", .type "list"], false, rfl, upd_same, .cons (.ty _) (.cons (.ty _) .nil), .base (.int i), kitAny_cons (b := false) (kit_ty (by decide +kernel)) (fun _ => kitAny_cons (b := false) (kit_ty (by decide +kernel)) (fun _ => kitAny_nil) (fun z => nomatch z)) (fun z => nomatch z), false, rfl, iteF ?_⟩⟩
    have s1 : Same H (upd H tp (.tup [.ty "tuple", .ty "list"])) := (Same.refl H).put ntp
    refine ⟨_, rfl, rfl, false, rfl, iteF ⟨_, rfl, _, "int", false, rfl, .int i, by decide +kernel, false, rfl, iteF ?_⟩⟩
    refine ⟨_, rfl, _, "int", true, rfl, .int i, by decide +kernel, true, rfl, iteT ?_⟩
    refine ⟨_, rfl, _, "int", false, rfl, .int i, by decide +kernel, _, rfl, _, "int", false, rfl, .int i, by decide +kernel, rfl, true, rfl, iteT ?_⟩
    refine ⟨_, rfl, _, rfl, rfl, ?_⟩
    rw [decide_eq_true rfl]
    exact q _ s1
  | non _ =>
    cases hy
    refine ⟨_, rfl, _, "NoneType", false, rfl, .base .non, by decide +kernel, false, rfl, iteF ?_⟩
    refine ⟨_, rfl, (by show 2 ≤ sizeLine; decide), fun tp ntp => ⟨_, tp, _, .type "NoneType", [.type "tuple", .type "list"], false, rfl, upd_same, .cons (.ty _) (.cons (.ty _) .nil), .base .non, kitAny_cons (b := false) (kit_ty (by decide +kernel)) (fun _ => kitAny_cons (b := false) (kit_ty (by decide +kernel)) (fun _ => kitAny_nil) (fun z => nomatch z)) (fun z => nomatch z), false, rfl, iteF ?_⟩⟩
    have s1 : Same H (upd H tp (.tup [.ty "tuple", .ty "list"])) := (Same.refl H).put ntp
    refine ⟨_, rfl, rfl, true, rfl, iteT (iteT ?_)⟩
    refine ⟨_, rfl, _, rfl, rfl, decide (V.non = V.non), rfl, ?_⟩
    rw [decide_eq_true rfl]
    refine iteT ?_
    refine ⟨_, rfl, _, "NoneType", false, rfl, .base .non, by decide +kernel, _, rfl, _, "NoneType", false, rfl, .base .non, by decide +kernel, rfl, ?_⟩
    exact q _ s1
  | str _ x =>
    cases hy
    refine ⟨_, rfl, _, "str", false, rfl, .str x, by decide +kernel, false, rfl, iteF ?_⟩
    refine ⟨_, rfl, (by show 2 ≤ sizeLine; decide), fun tp ntp => ⟨_, tp, _, .type "str", [.type "tuple", .type "list"], false, rfl, upd_same, .cons (.ty _) (.cons (.ty _) .nil), .base (.str x), kitAny_cons (b := false) (kit_ty (by decide +kernel)) (fun _ => kitAny_cons (b := false) (kit_ty (by decide +kernel)) (fun _ => kitAny_nil) (fun z => nomatch z)) (fun z => nomatch z), false, rfl, iteF ?_⟩⟩
    have s1 : Same H (upd H tp (.tup [.ty "tuple", .ty "list"])) := (Same.refl H).put ntp
    refine ⟨_, rfl, rfl, false, rfl, iteF ⟨_, rfl, _, "str", true, rfl, .str x, by decide +kernel, true, rfl, iteT ?_⟩⟩
    refine ⟨_, rfl, _, rfl, rfl, decide (V.str x = V.str x), rfl, ?_⟩
    rw [decide_eq_true rfl]
    refine iteT ?_
    refine ⟨_, rfl, _, "str", true, rfl, .str x, by decide +kernel, _, rfl, _, "str", true, rfl, .str x, by decide +kernel, rfl, ?_⟩
    exact q _ s1
theorem ok_alikeT {n : Nat} {f : Addr} {fd : FuncData} (F : Fun K "_law_alike" "_law_alike" s__law_alike f fd) (B : Blt mg) (c__law_alike : Cal P w K mg base CX0 (n + 1) "_law_alike" ["_law_found", "_law_due"] (sp_alikeT K n)) : FnOk P w K mg base CX0 (n + 2) f fd ["_law_found", "_law_due"] (sp_alikeT K (n + 1)) := by
  refine F.ok sc__law_alike (fun vs H Q E h => by obtain ⟨x, y, d, rfl, _⟩ := h; rfl) (fun cdv A outer s H vs Q E hr h => ?_)
  obtain ⟨x, y, d, rfl, hx, hy, q⟩ := h
  refine ⟨_, (pss_cons (ps_if (pt_val (pe_callB (call_isTX "dict") (by rfl) B.b_isinstance PyProof.Rows.boot_isinstance (pa_cons (pv 1) (pa_cons (pe_bltn (v := .ty "dict") (by rfl) B.b_dict (by decide +kernel) rfl) pa_nil)))) pss_never pss_nil)
      (pss_cons (ps_if (pt_val (pe_callB call_isiT (by rfl) B.b_isinstance PyProof.Rows.boot_isinstance (pa_cons (pv 1) (pa_cons (pe_tup (pa_cons (pe_bltn (v := .ty "tuple") (by rfl) B.b_tuple PyProof.Rows.boot_tuple rfl) (pa_cons (pe_bltn (v := .ty "list") (by rfl) B.b_list PyProof.Rows.boot_list rfl) pa_nil))) pa_nil)))) (pss_cons (ps_if (PW.pt (pw_or (pt_not (pt_val (pe_callB call_isiT (by rfl) B.b_isinstance PyProof.Rows.boot_isinstance (pa_cons (pv 0) (pa_cons (pe_tup (pa_cons (pe_bltn (v := .ty "tuple") (by rfl) B.b_tuple PyProof.Rows.boot_tuple rfl) (pa_cons (pe_bltn (v := .ty "list") (by rfl) B.b_list PyProof.Rows.boot_list rfl) pa_nil))) pa_nil))))) (pw_or1 (pt_cmpR op_ne (pe_callB (call_isTX "list") (by rfl) B.b_isinstance PyProof.Rows.boot_isinstance (pa_cons (pv 0) (pa_cons (pe_bltn (v := .ty "list") (by rfl) B.b_list PyProof.Rows.boot_list rfl) pa_nil))) (pe_callB (call_isTX "list") (by rfl) B.b_isinstance PyProof.Rows.boot_isinstance (pa_cons (pv 1) (pa_cons (pe_bltn (v := .ty "list") (by rfl) B.b_list PyProof.Rows.boot_list rfl) pa_nil))) (nomark _))))) (pss_one (ps_ret pe_bl)) pss_nil)
      (pss_cons (ps_if (pt_cmpR op_ne (pe_callB call_len_seq (by rfl) B.b_len PySem.boot_len (pa_cons (pv 0) pa_nil)) (pe_callB call_len_seq (by rfl) B.b_len PySem.boot_len (pa_cons (pv 1) pa_nil)) (nomark _)) (pss_one (ps_ret pe_bl)) pss_nil)
      (pss_one (ps_ret (pe_cmpR (op_eqD hr.units) (pe_lc (own := [("_law_k", 2)]) (g := gName 2) rfl sc__law_alike.nd (pi_range1 (by rfl) B.b_range (pa_cons (pe_callB call_len_seq (by rfl) B.b_len PySem.boot_len (pa_cons (pv 1) pa_nil)) pa_nil)) (blkOk_by (own := [("_law_k", 2)]) (N := ["_law_found", "_law_due", "_law_k"]) (sc := defScope s__law_alike) (by decide +kernel)) (fun _ _ _ _ _ => (pg_name (i := 2) sc__law_alike.nd rfl (Or.inl rfl))) (fun _ _ _ _ _ => (pts_.re (pts_one (pt_not (pt_val (pe_cal c__law_alike hr (pa_cons (pe_ix ix_seq (pv 0) (pv 2) (fun _ _ => rfl)) (pa_cons (pe_ix ix_seq (pv 1) (pv 2) (fun _ _ => rfl)) pa_nil)))))) (by first | (dsimp only [Cx.blk]; done) | exact rfl))) (fun _ _ _ _ _ => (pe_.re (pv 2) (by first | (dsimp only [Cx.blk]; done) | exact rfl)))) (pe_lst pa_nil) (nomark _)))))) pss_nil)
      (pss_cons (ps_if (PW.pt (pw_or (pt_cmpR op_isN (pv 1) pe_non (nomark _)) (pw_or1 (pt_val (pe_callB (call_isTX "str") (by rfl) B.b_isinstance PyProof.Rows.boot_isinstance (pa_cons (pv 1) (pa_cons (pe_bltn (v := .ty "str") (by rfl) B.b_str PyProof.Rows.boot_str rfl) pa_nil))))))) (pss_one (ps_ret (pe_and (pe_cmpR op_eq (pv 0) (pv 1) (nomark _)) (pe_one (pe_cmpR op_eq (pe_callB (call_isTX "str") (by rfl) B.b_isinstance PyProof.Rows.boot_isinstance (pa_cons (pv 0) (pa_cons (pe_bltn (v := .ty "str") (by rfl) B.b_str PyProof.Rows.boot_str rfl) pa_nil))) (pe_callB (call_isTX "str") (by rfl) B.b_isinstance PyProof.Rows.boot_isinstance (pa_cons (pv 1) (pa_cons (pe_bltn (v := .ty "str") (by rfl) B.b_str PyProof.Rows.boot_str rfl) pa_nil))) (nomark _)))))) pss_nil)
      (pss_one (ps_ret (pe_and (pe_callB (call_isTX "int") (by rfl) B.b_isinstance PyProof.Rows.boot_isinstance (pa_cons (pv 0) (pa_cons (pe_bltn (v := .ty "int") (by rfl) B.b_int PyProof.Rows.boot_int rfl) pa_nil))) (pe_and (pe_cmpR op_eq (pe_callB (call_isTX "bool") (by rfl) B.b_isinstance PyProof.Rows.boot_isinstance (pa_cons (pv 0) (pa_cons (pe_bltn (v := .ty "bool") (by rfl) B.b_bool PyProof.Rows.boot_bool rfl) pa_nil))) (pe_callB (call_isTX "bool") (by rfl) B.b_isinstance PyProof.Rows.boot_isinstance (pa_cons (pv 1) (pa_cons (pe_bltn (v := .ty "bool") (by rfl) B.b_bool PyProof.Rows.boot_bool rfl) pa_nil))) (nomark _)) (pe_one (pe_cmpR op_eq (pv 0) (pv 1) (nomark _)))))))))), ?_⟩
  cases hx with
  | int _ i =>
    cases hy
    refine ⟨_, rfl, _, "int", false, rfl, .int i, by decide +kernel, false, rfl, iteF ?_⟩
    refine ⟨_, rfl, (by show 2 ≤ sizeLine; decide), fun tp ntp => ⟨_, tp, _, .type "int", [.type "tuple", .type "list"], false, rfl, upd_same, .cons (.ty _) (.cons (.ty _) .nil), .base (.int i), kitAny_cons (b := false) (kit_ty (by decide +kernel)) (fun _ => kitAny_cons (b := false) (kit_ty (by decide +kernel)) (fun _ => kitAny_nil) (fun z => nomatch z)) (fun z => nomatch z), false, rfl, iteF ?_⟩⟩
    have s1 : Same H (upd H tp (.tup [.ty "tuple", .ty "list"])) := (Same.refl H).put ntp
    refine ⟨_, rfl, rfl, false, rfl, iteF ⟨_, rfl, _, "int", false, rfl, .int i, by decide +kernel, false, rfl, iteF ?_⟩⟩
    refine ⟨_, rfl, _, "int", true, rfl, .int i, by decide +kernel, true, rfl, iteT ?_⟩
    refine ⟨_, rfl, _, "int", false, rfl, .int i, by decide +kernel, _, rfl, _, "int", false, rfl, .int i, by decide +kernel, rfl, true, rfl, iteT ?_⟩
    refine ⟨_, rfl, _, rfl, rfl, ?_⟩
    rw [decide_eq_true rfl]
    exact q _ s1
  | non _ =>
    cases hy
    refine ⟨_, rfl, _, "NoneType", false, rfl, .base .non, by decide +kernel, false, rfl, iteF ?_⟩
    refine ⟨_, rfl, (by show 2 ≤ sizeLine; decide), fun tp ntp => ⟨_, tp, _, .type "NoneType", [.type "tuple", .type "list"], false, rfl, upd_same, .cons (.ty _) (.cons (.ty _) .nil), .base .non, kitAny_cons (b := false) (kit_ty (by decide +kernel)) (fun _ => kitAny_cons (b := false) (kit_ty (by decide +kernel)) (fun _ => kitAny_nil) (fun z => nomatch z)) (fun z => nomatch z), false, rfl, iteF ?_⟩⟩
    have s1 : Same H (upd H tp (.tup [.ty "tuple", .ty "list"])) := (Same.refl H).put ntp
    refine ⟨_, rfl, rfl, true, rfl, iteT (iteT ?_)⟩
    refine ⟨_, rfl, _, rfl, rfl, decide (V.non = V.non), rfl, ?_⟩
    rw [decide_eq_true rfl]
    refine iteT ?_
    refine ⟨_, rfl, _, "NoneType", false, rfl, .base .non, by decide +kernel, _, rfl, _, "NoneType", false, rfl, .base .non, by decide +kernel, rfl, ?_⟩
    exact q _ s1
  | str _ x =>
    cases hy
    refine ⟨_, rfl, _, "str", false, rfl, .str x, by decide +kernel, false, rfl, iteF ?_⟩
    refine ⟨_, rfl, (by show 2 ≤ sizeLine; decide), fun tp ntp => ⟨_, tp, _, .type "str", [.type "tuple", .type "list"], false, rfl, upd_same, .cons (.ty _) (.cons (.ty _) .nil), .base (.str x), kitAny_cons (b := false) (kit_ty (by decide +kernel)) (fun _ => kitAny_cons (b := false) (kit_ty (by decide +kernel)) (fun _ => kitAny_nil) (fun z => nomatch z)) (fun z => nomatch z), false, rfl, iteF ?_⟩⟩
    have s1 : Same H (upd H tp (.tup [.ty "tuple", .ty "list"])) := (Same.refl H).put ntp
    refine ⟨_, rfl, rfl, false, rfl, iteF ⟨_, rfl, _, "str", true, rfl, .str x, by decide +kernel, true, rfl, iteT ?_⟩⟩
    refine ⟨_, rfl, _, rfl, rfl, decide (V.str x = V.str x), rfl, ?_⟩
    rw [decide_eq_true rfl]
    refine iteT ?_
    refine ⟨_, rfl, _, "str", true, rfl, .str x, by decide +kernel, _, rfl, _, "str", true, rfl, .str x, by decide +kernel, rfl, ?_⟩
    exact q _ s1
  | lst e l z all =>
    rename_i p xs ds
    cases hy with
    | lst e2 l2 z2 all2 =>
      rename_i q0 ys
      refine ⟨_, rfl, _, "list", false, rfl, .lst e2, by decide +kernel, false, rfl, iteF ?_⟩
      refine ⟨_, rfl, (by show 2 ≤ sizeLine; decide), fun tp ntp => ?_⟩
      have s1 : Same H (upd H tp (.tup [.ty "tuple", .ty "list"])) := (Same.refl H).put ntp
      refine ⟨_, tp, _, .type "list", [.type "tuple", .type "list"], true, rfl, upd_same, .cons (.ty _) (.cons (.ty _) .nil), .base (.lst (s1 _ _ e2)), kitAny_cons (b := false) (kit_ty (by decide +kernel)) (fun _ => kitAny_cons (b := true) (kit_ty (by decide +kernel)) (fun z => nomatch z) (fun _ => rfl)) (fun z => nomatch z), true, rfl, iteT ?_⟩
      refine ⟨_, rfl, (by show 2 ≤ sizeLine; decide), fun tp2 ntp2 => ?_⟩
      have s2 := s1.put' (o := .tup [.ty "tuple", .ty "list"]) ntp2
      refine ⟨_, tp2, _, .type "list", [.type "tuple", .type "list"], true, rfl, upd_same, .cons (.ty _) (.cons (.ty _) .nil), .base (.lst (s2 _ _ e)), kitAny_cons (b := false) (kit_ty (by decide +kernel)) (fun _ => kitAny_cons (b := true) (kit_ty (by decide +kernel)) (fun z => nomatch z) (fun _ => rfl)) (fun z => nomatch z), true, rfl, iteF ?_⟩
      refine ⟨_, rfl, _, "list", true, rfl, .lst (s2 _ _ e), by decide +kernel, _, rfl, _, "list", true, rfl, .lst (s2 _ _ e2), by decide +kernel, rfl, _, rfl, iteF ?_⟩
      refine ⟨_, rfl, p, _, rfl, .inl (sqL_of (s2 _ _ e)), _, rfl, q0, _, rfl, .inl (sqL_of (s2 _ _ e2)), rfl, _, rfl, ?_⟩
      have el : ((xs.length : Nat) : Int) = (ys.length : Nat) := by rw [l, l2]
      rw [el, decide_eq_true rfl]
      refine iteF ?_
      refine ⟨_, rfl, q0, _, rfl, .inl (sqL_of (s2 _ _ e2)), _, rfl, by omega, by omega, fun D nD => lc_it walk_range (fun i H' => Same H H' ∧ H' D = some (.lst [])) ⟨s2.put' nD, upd_same⟩ (fun _ _ _ _ => trivial) ?_ ?_⟩
      · rintro i y H2 H3 hi ⟨s3, e3⟩ ⟨rfl, hy⟩
        have hy : y = V.int (i : Nat) := by
          rw [hy]
          show V.int (0 + (i : Nat)) = _
          rw [Int.zero_add]
        subst hy
        have hi : i < ys.length := by simpa using hi
        have hix : i < xs.length := by omega
        have hid : i < ds.length := by omega
        refine ⟨rfl, _, rfl, _, rfl, .inl ⟨_, _, (i : Nat), _, rfl, rfl, sqL_of (s3 _ _ e), atI_nat (List.getElem?_eq_getElem hix), ?_⟩⟩
        refine ⟨_, rfl, _, rfl, .inl ⟨_, _, (i : Nat), _, rfl, rfl, sqL_of (s3 _ _ e2), atI_nat (List.getElem?_eq_getElem hi), ?_⟩⟩
        refine ⟨_, _, ds[i], rfl, (all i _ _ (List.getElem?_eq_getElem hix) (List.getElem?_eq_getElem hid)).same s3, (all2 i _ _ (List.getElem?_eq_getElem hi) (List.getElem?_eq_getElem hid)).same s3, fun H4 s4 => ⟨true, rfl, iteF ⟨s3.trans s4, s4 _ _ e3⟩⟩⟩
      · rintro H2 ⟨s3, e3⟩
        refine ⟨Nat.zero_le _, fun p2 np2 => ⟨.list [], .list [], .lst (sqL_of (by rw [upd_ne (ne_of_none e3 np2)]; exact e3)) .nil, .lst sqL_new .nil, rfl, rfl, q _ (s3.put' np2)⟩⟩
  | tup e l z all =>
    rename_i p xs ds
    cases hy with
    | tup e2 l2 z2 all2 =>
      rename_i q0 ys
      refine ⟨_, rfl, _, "tuple", false, rfl, .tup e2, by decide +kernel, false, rfl, iteF ?_⟩
      refine ⟨_, rfl, (by show 2 ≤ sizeLine; decide), fun tp ntp => ?_⟩
      have s1 : Same H (upd H tp (.tup [.ty "tuple", .ty "list"])) := (Same.refl H).put ntp
      refine ⟨_, tp, _, .type "tuple", [.type "tuple", .type "list"], true, rfl, upd_same, .cons (.ty _) (.cons (.ty _) .nil), tyT (s1.tup e2), kitAny_cons (b := true) (kit_ty (by decide +kernel)) (fun z => nomatch z) (fun _ => rfl), true, rfl, iteT ?_⟩
      refine ⟨_, rfl, (by show 2 ≤ sizeLine; decide), fun tp2 ntp2 => ?_⟩
      have s2 := s1.put' (o := .tup [.ty "tuple", .ty "list"]) ntp2
      refine ⟨_, tp2, _, .type "tuple", [.type "tuple", .type "list"], true, rfl, upd_same, .cons (.ty _) (.cons (.ty _) .nil), tyT (s2.tup e), kitAny_cons (b := true) (kit_ty (by decide +kernel)) (fun z => nomatch z) (fun _ => rfl), true, rfl, iteF ?_⟩
      refine ⟨_, rfl, _, "tuple", false, rfl, .tup (s2.tup e), by decide +kernel, _, rfl, _, "tuple", false, rfl, .tup (s2.tup e2), by decide +kernel, rfl, _, rfl, iteF ?_⟩
      refine ⟨_, rfl, p, _, rfl, .inr (s2.tup e), _, rfl, q0, _, rfl, .inr (s2.tup e2), rfl, _, rfl, ?_⟩
      have el : ((xs.length : Nat) : Int) = (ys.length : Nat) := by rw [l, l2]
      rw [el, decide_eq_true rfl]
      refine iteF ?_
      refine ⟨_, rfl, q0, _, rfl, .inr (s2.tup e2), _, rfl, by omega, by omega, fun D nD => lc_it walk_range (fun i H' => Same H H' ∧ H' D = some (.lst [])) ⟨s2.put' nD, upd_same⟩ (fun _ _ _ _ => trivial) ?_ ?_⟩
      · rintro i y H2 H3 hi ⟨s3, e3⟩ ⟨rfl, hy⟩
        have hy : y = V.int (i : Nat) := by
          rw [hy]
          show V.int (0 + (i : Nat)) = _
          rw [Int.zero_add]
        subst hy
        have hi : i < ys.length := by simpa using hi
        have hix : i < xs.length := by omega
        have hid : i < ds.length := by omega
        refine ⟨rfl, _, rfl, _, rfl, .inr (.inl ⟨_, _, (i : Nat), _, rfl, rfl, s3.tup e, atI_nat (List.getElem?_eq_getElem hix), ?_⟩)⟩
        refine ⟨_, rfl, _, rfl, .inr (.inl ⟨_, _, (i : Nat), _, rfl, rfl, s3.tup e2, atI_nat (List.getElem?_eq_getElem hi), ?_⟩)⟩
        refine ⟨_, _, ds[i], rfl, (all i _ _ (List.getElem?_eq_getElem hix) (List.getElem?_eq_getElem hid)).same s3, (all2 i _ _ (List.getElem?_eq_getElem hi) (List.getElem?_eq_getElem hid)).same s3, fun H4 s4 => ⟨true, rfl, iteF ⟨s3.trans s4, s4 _ _ e3⟩⟩⟩
      · rintro H2 ⟨s3, e3⟩
        refine ⟨Nat.zero_le _, fun p2 np2 => ⟨.list [], .list [], .lst (sqL_of (by rw [upd_ne (ne_of_none e3 np2)]; exact e3)) .nil, .lst sqL_new .nil, rfl, rfl, q _ (s3.put' np2)⟩⟩
end
end Sc
namespace Sc
open PySem PySem.Spec PyProof.Rows L2
theorem sc_Rule___eq__ : FnScope ["self", "other"] ["self", "other"] (defScope s_Rule___eq__) := ⟨rfl, rfl, rfl, by decide +kernel, rfl, by decide +kernel, by decide +kernel⟩
theorem sc_Book___eq__ : FnScope ["self", "other"] ["self", "other"] (defScope s_Book___eq__) := ⟨rfl, rfl, rfl, by decide +kernel, rfl, by decide +kernel, by decide +kernel⟩
/-- a tuple with items against one without -/
def rT0 (K : PySem.W.Frag) : R2 := fun x y H Q => ∃ (a b : Addr) (xs : List V), x = .ref a ∧ y = .ref b ∧ SqT K H a xs ∧ SqT K H b [] ∧ xs ≠ [] ∧ Q (.bl false) H
theorem op_eqT0 {X : Cx} (hu : X.A.units < cLine) : OpR X (compareOp .Eq) (rT0 X.K) := by
  intro pins s σ H x y v u Q I rx ry h
  obtain ⟨a, b, xs, rfl, rfl, ha, hb, hne, q⟩ := h
  cases rx
  cases ry
  obtain ⟨its, r, p1, _⟩ := I.tuple ha
  obtain ⟨its2, r2, p2, _⟩ := I.tuple hb
  have h1 := r.length
  have h2 := r2.length
  have z2 : its2 = [] := List.length_eq_zero_iff.mp (by rw [← h2]; rfl)
  subst z2
  have hz : (its.toArray.size == ([] : List Value).toArray.size) = false := by
    have : its.length ≠ 0 := by rw [← h1]; exact fun z => hne (List.length_eq_zero_iff.mp z)
    simpa using fun z : its = [] => this (by rw [z]; rfl)
  have hr := SeqAt.RcAt.tuples (A := X.A) (s := s) (e := fun _ => true) p1 p2 hu (fun j _ hj => absurd hj (Nat.not_lt_zero j))
  rw [hz, Bool.and_false] at hr
  exact EqBoolInt.of_rc hr ⟨.bl false, H, I, rfl, q⟩
section
variable {P : Program} {w : World} {K : PySem.W.Frag} {mg : Str → Option Value} {base : Heap} {C R B : Addr}
/-- two of the same rule -/
def RuEq (K : PySem.W.Frag) (C R : Addr) (d : Nat) (a b : Addr) (H : Hp) : Prop := ∃ (N : Addr → Prop) (n : Nd), NdAt K C R N H a n ∧ NdAt K C R N H b n ∧ NdOk n ∧ n.exc.every NdOk ∧ n.exc.dep + 1 ≤ d
theorem ruMon {d : Nat} : ∀ a b H H', Ext H H' → RuEq K C R d a b H → RuEq K C R d a b H' := fun a b H H' e ⟨N, n, h1, h2, h3⟩ =>
  ⟨N, n, h1.keeps (fun b o _ q => e b o q), h2.keeps (fun b o _ q => e b o q), h3⟩
def sp_req (K : PySem.W.Frag) (C R : Addr) (d : Nat) : Sp := fun vs H Q _ => ∃ (N : Addr → Prop) (a b : Addr) (n m : Nd), vs = [.ref a, .ref b] ∧ NdAt K C R N H a n ∧ NdAt K C R N H b m ∧ NdOk n ∧ n.exc.every NdOk ∧ n.exc.dep ≤ d ∧ m.nm = n.nm ∧ m.hs = n.hs ∧ m.fs = n.fs ∧
  ((m = n ∧ ∀ H', Same H H' → Q (.bl true) H') ∨ ((m.rl ≠ n.rl ∨ (m.rl = n.rl ∧ m.exc = .nil ∧ n.exc ≠ .nil)) ∧ ∀ H', Same H H' → Q (.bl false) H'))
theorem ok_req {d : Nat} {f : Addr} {fd : FuncData} {gc : Addr} {fc : FuncData} (F : Fun K "__eq__" "Rule.__eq__" s_Rule___eq__ f fd) (Bl : Blt mg) (T : Cls K R) (n1 : NoAttr K R "_name") (n2 : NoAttr K R "_condition") (n3 : NoAttr K R "_ruling") (n4 : NoAttr K R "_exceptions") (mR : mg "Rule" = some (.ref R)) (I : IsiC K R)
    (hc1 : PySem.W.findIn K (.ref C) "__eq__" = some (some (.ref gc))) (hc2 : PySem.W.isFn K (.ref gc) = true) (cF : FnOk P w K mg base CX0 1 gc fc ["self", "other"] (sp_ceq K C)) (cB : Binds K fc ["self", "other"] [])
    (hs : PySem.W.findIn K (.ref R) "__eq__" = some (some (.ref f))) (hf : PySem.W.isFn K (.ref f) = true) (hb : Binds K fd ["self", "other"] []) (hF : FnOk P w K mg base CX0 (2 * d + 1) f fd ["self", "other"] (spEq (RuEq K C R d))) :
    FnOk P w K mg base CX0 (2 * d + 3) f fd ["self", "other"] (sp_req K C R d) := by
  refine F.ok sc_Rule___eq__ (fun vs H Q E h => by obtain ⟨N, a, b, n, m, rfl, _⟩ := h; rfl) (fun cdv A outer s H vs Q E hr h => ?_)
  obtain ⟨N, a, b, n, m, rfl, hA, hB, hn, hne, hd, e1, e2, e3, q⟩ := h
  refine ⟨_, (pss_one (ps_ret (pe_and (pe_callB call_isi (by rfl) Bl.b_isinstance PyProof.Rows.boot_isinstance (pa_cons (pv 1) (pa_cons (pe_glob (v := .ref _) rfl mR rfl) pa_nil))) (pe_and (pe_cmpR op_eq (pe_fld (pv 0) rfl) (pe_fld (pv 1) rfl) (nomark _)) (pe_and (pe_cmpR (op_eqO hc1 hc2 cF (hr.mono (by omega)) cB pass0) (pe_fld (pv 0) rfl) (pe_fld (pv 1) rfl) (nomark _)) (pe_and (pe_cmpR op_eq (pe_fld (pv 0) rfl) (pe_fld (pv 1) rfl) (nomark _)) (pe_one (pe_cmpR (op_or (op_eqG (rcG_tup (mon_ins ruMon) (eqG_ins hF hs hf hb pass0)) (hr.mono (by omega))) (op_eqT0 (Nat.lt_of_le_of_lt (Nat.le_add_right _ 64) hr.units))) (pe_fld (pv 0) rfl) (pe_fld (pv 1) rfl) (nomark _))))))))), ?_⟩
  obtain ⟨dx, c, p, l, ws, ha, hc, hp, _, hfa⟩ := id hA
  obtain ⟨dx2, c2, p2, l2, ws2, hb0, hc0, hp2, _, hfb⟩ := id hB
  obtain ⟨dxc, ca, cb, cn, zs, hcc, _⟩ := hc.at_
  obtain ⟨dxc2, ca2, cb2, cn2, zs2, hcc2, _⟩ := hc0.at_
  refine ⟨_, rfl, _, _, _, _, _, rfl, .own _, .base (.ins hb0 T I.ca I.cn I.ct I.cm), I.me, _, rfl, iteT ?_⟩
  refine ⟨_, rfl, a, R, dx, _, _, rfl, ha, T, n1, rfl, _, rfl, b, R, dx2, _, _, rfl, hb0, T, n1, rfl, ?_⟩
  refine ⟨rfl, _, rfl, ?_⟩
  rw [e1, decide_eq_true rfl]
  refine iteT ?_
  have hcm : CondAt K C H c2 n.hs n.fs := by rw [← e2, ← e3]; exact hc0
  refine ⟨_, rfl, a, R, dx, _, _, rfl, ha, T, n2, rfl, _, rfl, b, R, dx2, _, _, rfl, hb0, T, n2, rfl, ?_⟩
  refine ⟨c, dxc, _, .ref C, rfl, hcc, .ins hcc2, (by simp [PySem.W.notFirst]), c, .ref c2, n.hs, n.fs, rfl, hc, fw_fines hn.c1, fw_fines hn.c2, .inl ⟨c2, n.hs, n.fs, rfl, hcm, fw_fines hn.c1, fw_fines hn.c2, ?_⟩⟩
  rw [decide_eq_true rfl, decide_eq_true rfl]
  refine ⟨_, rfl, iteT ?_⟩
  refine ⟨_, rfl, a, R, dx, _, _, rfl, ha, T, n3, rfl, _, rfl, b, R, dx2, _, _, rfl, hb0, T, n3, rfl, rfl, _, rfl, ?_⟩
  by_cases c3 : m.rl = n.rl
  · rw [c3, decide_eq_true rfl]
    refine iteT ⟨_, rfl, a, R, dx, _, _, rfl, ha, T, n4, rfl, _, rfl, b, R, dx2, _, _, rfl, hb0, T, n4, rfl, ?_⟩
    rcases q with ⟨rfl, q⟩ | ⟨hc4, q⟩
    · refine .inl ⟨⟨p, p2, ws, ws2, rfl, rfl, hp, hp2, ?_⟩, fun H' e => q H' e⟩
      have h1 := hfa.all
      have h2 := hfb.all
      refine ⟨h1.len.trans h2.len.symm, fun i x y hx hy => ?_⟩
      obtain ⟨n1', hn1, o1, rfl, hN1⟩ := h1.get hx
      obtain ⟨n2', hn2', o2, rfl, hN2⟩ := h2.get hy
      obtain rfl : n1' = n2' := Option.some.inj (hn1.symm.trans hn2')
      have hmem : n1' ∈ m.exc.nodes := List.mem_of_getElem? hn1
      obtain ⟨ho1, ho2⟩ := RF.every_nodes.mp hne n1' hmem
      have hdm := RF.dep_mem _ n1' hmem
      obtain ⟨dxa, c1', p1', l1', w1', ha1, _⟩ := id hN1
      obtain ⟨dxb, c2', p2', l2', w2', hb1, _⟩ := id hN2
      exact ⟨o1, o2, dxa, dxb, _, _, rfl, rfl, ha1, hb1, N, n1', hN1, hN2, ho1, ho2, by omega⟩
    · rcases hc4 with hc4 | ⟨_, hx1, hx2⟩
      · exact absurd c3 hc4
      · rw [hx1] at hfb
        have hfb : ws2 = [] := hfb
        subst hfb
        have hwl := hfa.all.len
        refine .inr ⟨p, p2, ws, rfl, rfl, hp, hp2, fun z => hx2 ?_, q H (Same.refl H)⟩
        rw [z] at hwl
        rw [← RF.of_nodes n.exc, List.length_eq_zero_iff.mp hwl.symm]
        rfl
  · rw [decide_eq_false (fun z => c3 (V.str.inj z).symm)]
    rcases q with ⟨rfl, q⟩ | ⟨_, q⟩
    · exact absurd rfl c3
    · exact iteF (q H (Same.refl H))
/-- by depth -/
theorem ruleEq_all {f : Addr} {fd : FuncData} {gc : Addr} {fc : FuncData} (F : Fun K "__eq__" "Rule.__eq__" s_Rule___eq__ f fd) (Bl : Blt mg) (T : Cls K R) (n1 : NoAttr K R "_name") (n2 : NoAttr K R "_condition") (n3 : NoAttr K R "_ruling") (n4 : NoAttr K R "_exceptions") (mR : mg "Rule" = some (.ref R)) (I : IsiC K R)
    (hc1 : PySem.W.findIn K (.ref C) "__eq__" = some (some (.ref gc))) (hc2 : PySem.W.isFn K (.ref gc) = true) (cF : FnOk P w K mg base CX0 1 gc fc ["self", "other"] (sp_ceq K C)) (cB : Binds K fc ["self", "other"] [])
    (hs : PySem.W.findIn K (.ref R) "__eq__" = some (some (.ref f))) (hf : PySem.W.isFn K (.ref f) = true) (hb : Binds K fd ["self", "other"] []) : ∀ d, FnOk P w K mg base CX0 (2 * d + 3) f fd ["self", "other"] (sp_req K C R d)
  | 0 => ok_req F Bl T n1 n2 n3 n4 mR I hc1 hc2 cF cB hs hf hb ((FnOk.never (ps := ["self", "other"])).imp fun vs H Q E h => by
      obtain ⟨a, b, _, ⟨N, n, _, _, _, _, hd⟩, _⟩ := h
      omega)
  | d + 1 => ok_req F Bl T n1 n2 n3 n4 mR I hc1 hc2 cF cB hs hf hb ((ruleEq_all F Bl T n1 n2 n3 n4 mR I hc1 hc2 cF cB hs hf hb d).imp fun vs H Q E h => by
      obtain ⟨a, b, rfl, ⟨N, n, hA, hB, hn, hne, hd⟩, q⟩ := h
      exact ⟨N, a, b, n, n, rfl, hA, hB, hn, hne, by omega, rfl, rfl, rfl, .inl ⟨rfl, fun H' s => q H' s⟩⟩)
def sp_beq (K : PySem.W.Frag) (C R B : Addr) : Sp := fun vs H Q _ => ∃ (N : Addr → Prop) (a : Addr) (y : V) (xs : List Str) (f : RF) (rl : Str), vs = [.ref a, y] ∧ BookAt K C R B N H a xs f rl ∧ f.every NdOk ∧ Fines xs ∧ f.dep ≤ 13 ∧
  ((∃ (b : Addr) (xs' : List Str) (f' : RF) (rl' : Str) (ans : Bool), y = .ref b ∧ BookAt K C R B N H b xs' f' rl' ∧ Fines xs' ∧ ((xs ≠ xs' ∧ ans = false) ∨ (xs = xs' ∧ f = f' ∧ ans = decide (rl = rl'))) ∧ ∀ H', Same H H' → Q (.bl ans) H') ∨
   (∃ t : Value, TyOf K H y t ∧ PySem.W.kitOne K t (.ref B) = some false ∧ Q (.bl false) H))
theorem ok_beq {f : Addr} {fd : FuncData} {g : Addr} {fg : FuncData} (F : Fun K "__eq__" "Book.__eq__" s_Book___eq__ f fd) (Bl : Blt mg) (T : Cls K B) (n1 : NoAttr K B "_facts") (n2 : NoAttr K B "_rules") (n3 : NoAttr K B "_ruling") (mB : mg "Book" = some (.ref B)) (I : IsiC K B)
    (hs : PySem.W.findIn K (.ref R) "__eq__" = some (some (.ref g))) (hf : PySem.W.isFn K (.ref g) = true) (hb : Binds K fg ["self", "other"] []) (hR : FnOk P w K mg base CX0 27 g fg ["self", "other"] (sp_req K C R 12)) :
    FnOk P w K mg base CX0 29 f fd ["self", "other"] (sp_beq K C R B) := by
  have hF : FnOk P w K mg base CX0 27 g fg ["self", "other"] (spEq (RuEq K C R 13)) := hR.imp fun vs H Q E h => by
    obtain ⟨a, b, rfl, ⟨N, n, hA, hB, hn, hne, hd⟩, q⟩ := h
    exact ⟨N, a, b, n, n, rfl, hA, hB, hn, hne, by omega, rfl, rfl, rfl, .inl ⟨rfl, fun H' s => q H' s⟩⟩
  refine F.ok sc_Book___eq__ (fun vs H Q E h => by obtain ⟨N, a, y, xs, f, rl, rfl, _⟩ := h; rfl) (fun cdv A outer s H vs Q E hr h => ?_)
  obtain ⟨N, a, y, xs, f, rl, rfl, hA, hev, hfx, hd, q⟩ := h
  obtain ⟨dx, fa, p, l, ws, us, ha, hS, hP, hFa, _, _⟩ := id hA
  refine ⟨_, (pss_one (ps_ret (pe_and (pe_callB call_isi (by rfl) Bl.b_isinstance PyProof.Rows.boot_isinstance (pa_cons (pv 1) (pa_cons (pe_glob (v := .ref _) rfl mB rfl) pa_nil))) (pe_and (pe_cmpR (op_eqD hr.units) (pe_fld (pv 0) rfl) (pe_fld (pv 1) rfl) (nomark _)) (pe_and (pe_cmpR (op_eqG (rcG_tup (mon_ins ruMon) (eqG_ins hF hs hf hb pass0)) (hr.mono (by decide))) (pe_fld (pv 0) rfl) (pe_fld (pv 1) rfl) (nomark _)) (pe_one (pe_cmpR op_eq (pe_fld (pv 0) rfl) (pe_fld (pv 1) rfl) (nomark _)))))))), ?_⟩
  rcases q with ⟨b, xs', f', rl', ans, rfl, hB, hfx', hc, q⟩ | ⟨t, ht, hk, q⟩
  · obtain ⟨dx2, fb, p2, l2, ws2, us2, hb0, hS2, hP2, hFb, _, _⟩ := id hB
    refine ⟨_, rfl, _, _, _, _, _, rfl, .own _, .base (.ins hb0 T I.ca I.cn I.ct I.cm), I.me, _, rfl, iteT ?_⟩
    refine ⟨_, rfl, a, B, dx, _, .ref fa, rfl, ha, T, n1, rfl, _, rfl, b, B, dx2, _, .ref fb, rfl, hb0, T, n1, rfl, _, _, dp_strs hS, dp_strs hS2, shT hfx, shT hfx', _, rfl, ?_⟩
    have e1 : (PyData.tuple (xs.map PyData.str)).eqv (.tuple (xs'.map PyData.str)) = decide (xs = xs') := eqvA xs xs'
    rw [e1]
    rcases hc with ⟨c1, rfl⟩ | ⟨rfl, rfl, rfl⟩
    · rw [decide_eq_false c1]
      exact iteF (q H (Same.refl H))
    · rw [decide_eq_true rfl]
      refine iteT ⟨_, rfl, a, B, dx, _, .ref p, rfl, ha, T, n2, rfl, _, rfl, b, B, dx2, _, .ref p2, rfl, hb0, T, n2, rfl, ⟨p, p2, ws, ws2, rfl, rfl, hP, hP2, ?_⟩, fun H1 s1 => ⟨_, rfl, iteT ?_⟩⟩
      · have h1 := hFa.all
        have h2 := hFb.all
        refine ⟨h1.len.trans h2.len.symm, fun i x y hx hy => ?_⟩
        obtain ⟨n1', hn1, o1, rfl, hN1⟩ := h1.get hx
        obtain ⟨n2', hn2', o2, rfl, hN2⟩ := h2.get hy
        obtain rfl : n1' = n2' := Option.some.inj (hn1.symm.trans hn2')
        have hmem : n1' ∈ f.nodes := List.mem_of_getElem? hn1
        obtain ⟨ho1, ho2⟩ := RF.every_nodes.mp hev n1' hmem
        have hdm := RF.dep_mem _ n1' hmem
        obtain ⟨dxa, c1', p1', l1', w1', ha1, _⟩ := id hN1
        obtain ⟨dxb, c2', p2', l2', w2', hb1, _⟩ := id hN2
        exact ⟨o1, o2, dxa, dxb, _, _, rfl, rfl, ha1, hb1, N, n1', hN1, hN2, ho1, ho2, by omega⟩
      · have s1 : Same H H1 := s1
        refine ⟨_, rfl, a, B, dx, _, _, rfl, s1 _ _ ha, T, n3, rfl, _, rfl, b, B, dx2, _, _, rfl, s1 _ _ hb0, T, n3, rfl, rfl, ?_⟩
        rw [decV_str]
        exact q H1 s1
  · exact ⟨_, rfl, _, _, _, _, _, rfl, .own _, .base ht, hk, _, rfl, iteF q⟩
end
end Sc
namespace Sc
open PySem PySem.Spec PyProof.Rows L2
/-! ### what the law holds in its hands -/
section
variable {K : PySem.W.Frag} {a l c : Addr} {H H' : Hp} {N : Addr → Prop}
theorem ExtN_keeps (x : LamX.ExtN H H') : Keeps N H H' := fun b o st h => x _ _ h fun ps z => st.2.2 ps z
theorem Kc.obj {b : Addr} {o : HO} {xs : List V} (k : Kc a l c H H') (ec : H c = some (.lst xs)) (e : H b = some o) (n : ∀ xs, o ≠ .lst xs) : H' b = some o := by
  obtain ⟨n1, n2⟩ := k.old.not e n
  exact k.keep b o n1 n2 (fun z => by rw [z, ec] at e; exact n _ (Option.some.inj e).symm) e
theorem tabs_kc {T : List (Addr × Str)} {xs : List V} (k : Kc a l c H H') (ec : H c = some (.lst xs)) (t : LamX.Tabs T H) : LamX.Tabs T H' := fun p hp => by
  obtain ⟨ps, h1, h2, h3⟩ := t p hp
  refine ⟨ps, k.obj ec h1 (fun _ z => nomatch z), h2, fun pos cv e => ?_⟩
  obtain ⟨cc, e1, e2⟩ := h3 pos cv e
  exact ⟨cc, e1, k.obj ec e2 (fun _ z => by unfold LamX.CodeO at z; cases z)⟩
/-- the draws, the tables, the facts -/
structure S4 (K : PySem.W.Frag) (a l fp : Addr) (fs : List Str) (T : List (Addr × Str)) (H : Hp) : Prop where
  rs : RS H a l
  tb : LamX.Tabs T H
  fp : SqT K H fp (fs.map V.str)
section
variable {fp : Addr} {fs : List Str} {T : List (Addr × Str)}
theorem S4.kp (s : S4 K a l fp fs T H) (k : Kp a l H H') : S4 K a l fp fs T H' := ⟨k.new, tabs_kp k s.tb, k.tup s.fp⟩
theorem S4.same (s : S4 K a l fp fs T H) (k : Same H H') : S4 K a l fp fs T H' := ⟨s.rs.same k, s.tb.ext k, k.tup s.fp⟩
theorem S4.kc {xs : List V} (s : S4 K a l fp fs T H) (k : Kc a l c H H') (ec : H c = some (.lst xs)) : S4 K a l fp fs T H' := ⟨k.new, tabs_kc k ec s.tb, (k.keeps ec).tup s.fp⟩
end
end
/-! ### tuples of texts and ints as data -/
def flatD : V → PyData
  | .str x => .str x
  | .int i => .int i
  | _ => .none
def FlatOk : V → Prop
  | .str x => (PyData.str x).canLay0 = true
  | .int _ => True
  | _ => False
section
variable {K : PySem.W.Frag} {H : Hp}
theorem dp_flat1 {v : V} (h : FlatOk v) : Dp K H v (flatD v) := by
  cases v with
  | str x => exact .str x
  | int i => exact .int i
  | _ => exact h.elim
theorem lay_flat1 {v : V} (h : FlatOk v) : (flatD v).canLay0 = true := by
  cases v with
  | str x => exact h
  | int i => rfl
  | _ => exact h.elim
theorem dep_flat1 {v : V} (h : FlatOk v) : (flatD v).depth = 0 := by
  cases v with
  | str x => rfl
  | int i => rfl
  | _ => exact h.elim
theorem dp_flats : ∀ {vs : List V}, (∀ v ∈ vs, FlatOk v) → DpAll K H vs (vs.map flatD)
  | [], _ => .nil
  | v :: r, h => .cons (dp_flat1 (h v List.mem_cons_self)) (dp_flats fun u hu => h u (List.mem_cons_of_mem _ hu))
theorem lay_flats : ∀ {vs : List V}, (∀ v ∈ vs, FlatOk v) → PyData.canLayAll0 (vs.map flatD) = true
  | [], _ => rfl
  | v :: r, h => by
    show ((flatD v).canLay0 && PyData.canLayAll0 (r.map flatD)) = true
    rw [lay_flat1 (h v List.mem_cons_self), lay_flats fun u hu => h u (List.mem_cons_of_mem _ hu)]
    rfl
theorem dep_flats : ∀ {vs : List V}, (∀ v ∈ vs, FlatOk v) → PyData.depthAll (vs.map flatD) = 0
  | [], _ => rfl
  | v :: r, h => by
    show max (flatD v).depth (PyData.depthAll (r.map flatD)) = 0
    rw [dep_flat1 (h v List.mem_cons_self), dep_flats fun u hu => h u (List.mem_cons_of_mem _ hu)]
    rfl
/-- two tuples of the same texts and ints are not unequal -/
theorem ne_flat {p q : Addr} {vs : List V} {Q : VK} (h : ∀ v ∈ vs, FlatOk v) (hp : SqT K H p vs) (hq : SqT K H q vs) (hQ : Q (.bl false) H) : rNeD K (.ref p) (.ref q) H Q := by
  have e1 : (PyData.tuple (vs.map flatD)).canLay0 = true := lay_flats h
  have e2 : (PyData.tuple (vs.map flatD)).depth = 1 := by show PyData.depthAll (vs.map flatD) + 1 = 1; rw [dep_flats h]
  have sh : SeqAt.shaped (.tuple (vs.map flatD)) = true := by
    unfold SeqAt.shaped
    rw [e1, e2]
    rfl
  refine ⟨_, _, .tup hp (dp_flats h), .tup hq (dp_flats h), sh, sh, ?_⟩
  rw [SeqAt.eqv_refl _ e1]
  exact hQ
end
/-! ### drawn facts and rules are right -/
theorem good_bad {fs : List Str} (g : Good fs) (h0 : fs ≠ []) (h1 : fs.length ≤ 12) : firstBad fs = none := by
  unfold firstBad
  rw [if_neg h0, List.find?_eq_none]
  intro i hi
  have hi := List.mem_range.mp hi
  unfold badAt
  rw [List.getElem?_eq_getElem hi]
  dsimp only
  rw [twelve_name _ (g.mem _ (List.getElem_mem hi)), rises_pw g.up hi, decide_eq_false (show ¬ i = 60 by omega)]
  exact Bool.false_ne_true
namespace RF
theorem every_of {p : Nd → Prop} : ∀ {f : RF} {k : Nat}, (∀ q ∈ f.pre k, p q.1) → f.every p
  | .nil, _, _ => trivial
  | .cons nm hs fs rl exc rest, k, h => ⟨h _ List.mem_cons_self, every_of (k := k + 1) fun q hq => h q (List.mem_cons_of_mem _ (List.mem_append_left _ hq)), every_of (k := k) fun q hq => h q (List.mem_cons_of_mem _ (List.mem_append_right _ hq))⟩
end RF
theorem drawn_ok {K : PySem.W.Frag} {H : Hp} {p : Addr} {fs : List Str} {c d : Nat} {f : RF} (g : Good fs) (df : Drawn K H p fs c d f) : f.every NdOk := by
  refine RF.every_of (k := 0) fun q hq => ?_
  obtain ⟨pt, rl⟩ := RF.every_pre df.dr q hq
  have hm : q.1.nm ∈ f.names := List.mem_map.mpr ⟨q, hq, rfl⟩
  rw [df.nm] at hm
  obtain ⟨i, hi, e⟩ := List.mem_map.mp hm
  have hi := List.mem_range'_1.mp hi
  have hle := df.le
  have h3 := pt.le
  refine ⟨by rw [← e]; exact rn_name i (by omega), four_name _ rl, (g.sub pt.s1).none (by have := pt.l8; simp; omega) (fun _ _ h => nomatch h), (g.sub pt.s2).none (by have := pt.l8; omega) fun x hx h => pt.dj x h hx⟩
theorem no_fault {xs : List Str} : ∀ {ps : List (Nd × Nat)} {met : List Str} {out i : Nat}, (∀ q ∈ ps, (∀ x ∈ q.1.hs, x ∈ xs) ∧ ∀ x ∈ q.1.fs, x ∈ xs) → (∀ q ∈ ps, q.2 ≤ 5) → (met ++ ps.map fun q => q.1.nm).Nodup → i + ps.length ≤ 60 → out + ps.length ≤ 40 → firstFault xs ps met out i = none
  | [], _, _, _, _, _, _, _, _ => rfl
  | (n, k) :: r, met, out, i, h1, h2, h3, h4, h5 => by
    have hs := h1 _ List.mem_cons_self
    have hk : k ≤ 5 := h2 _ List.mem_cons_self
    rw [List.length_cons] at h4 h5
    have hon : outNext out k ≤ out + 1 := by unfold outNext; split <;> omega
    have hm : ¬ n.nm ∈ met := fun z => (List.nodup_append.mp h3).2.2 _ z _ List.mem_cons_self rfl
    have f0 : faultAt xs met (outNext out k) i n k = none := by
      unfold faultAt
      rw [if_neg hm, if_neg, if_neg (by omega), if_neg (by omega)]
      rw [Bool.not_eq_true, List.any_eq_false]
      intro x hx
      have hx := (srt_perm _).mem_iff.mp hx
      rw [decide_eq_true (show x ∈ xs from (List.mem_append.mp hx).elim (hs.1 x) (hs.2 x))]
      decide
    unfold firstFault
    rw [f0]
    refine no_fault (fun q hq => h1 q (List.mem_cons_of_mem _ hq)) (fun q hq => h2 q (List.mem_cons_of_mem _ hq)) ?_ (by omega) (by omega)
    rw [List.append_assoc]
    exact h3
theorem pre_dep : ∀ (f : RF) (k : Nat), ∀ q ∈ f.pre k, q.2 + 1 ≤ k + f.dep
  | .nil, _, q, h => nomatch h
  | .cons n hs fs rl exc rest, k, q, h => by
    show q.2 + 1 ≤ k + max (exc.dep + 1) rest.dep
    rcases List.mem_cons.mp h with rfl | h
    · show k + 1 ≤ _
      omega
    · rcases List.mem_append.mp h with h | h
      · have := pre_dep exc (k + 1) q h
        omega
      · have := pre_dep rest k q h
        omega
theorem Kc.keepsM {a l c : Addr} {H H' : Hp} {N : Addr → Prop} {xs : List V} (k : Kc a l c H H') (e : H c = some (.lst xs)) (na : ¬ N a) (nl : ¬ N l) (nc : ¬ N c) : Keeps N H H' := fun b o st h => by
  obtain ⟨sd, x, ns, h1, h2, q⟩ := k.old
  exact k.keep b o (fun z => by subst z; rw [h1] at h; exact na (st.1 _ (Option.some.inj h).symm)) (fun z => by subst z; rw [h2] at h; exact nl (st.1 _ (Option.some.inj h).symm)) (fun z => by subst z; rw [e] at h; exact nc (st.1 _ (Option.some.inj h).symm)) h

namespace RF
theorem pre_in {p : Nd → Prop} : ∀ {f : RF} {k : Nat}, ∀ q ∈ f.pre k, q.1.exc.dep + 1 ≤ f.dep ∧ q.1.exc.size + 1 ≤ f.size ∧ (f.every p → p q.1 ∧ q.1.exc.every p)
  | .nil, _, q, h => nomatch h
  | .cons n hs fs rl exc rest, k, q, h => by
    show q.1.exc.dep + 1 ≤ max (exc.dep + 1) rest.dep ∧ q.1.exc.size + 1 ≤ exc.size + 1 + rest.size ∧ _
    rcases List.mem_cons.mp h with rfl | h
    · exact ⟨Nat.le_max_left _ _, Nat.le_add_right _ _, fun e => ⟨e.1, e.2.1⟩⟩
    · rcases List.mem_append.mp h with h | h
      · have ⟨h1, h2, h3⟩ := pre_in (p := p) (f := exc) q h
        exact ⟨by omega, by omega, fun e => h3 e.2.1⟩
      · have ⟨h1, h2, h3⟩ := pre_in (p := p) (f := rest) q h
        exact ⟨by omega, by omega, fun e => h3 e.2.2⟩
end RF
/-- the hands of a drawn rule are facts -/
theorem drawn_sub {K : PySem.W.Frag} {H : Hp} {p : Addr} {fs : List Str} {c d : Nat} {f : RF} (df : Drawn K H p fs c d f) : f.every fun n => (∀ x ∈ n.hs, x ∈ fs) ∧ ∀ x ∈ n.fs, x ∈ fs :=
  RF.every_mono (fun n h => ⟨fun x hx => h.parts.s1.subset hx, fun x hx => h.parts.s2.subset hx⟩) df.dr
theorem no_fault_of {xs : List Str} {f : RF} (h : f.every fun n => (∀ x ∈ n.hs, x ∈ xs) ∧ ∀ x ∈ n.fs, x ∈ xs) (nd : f.names.Nodup) (d : f.dep ≤ 6) (z : f.size ≤ 40) : firstFault xs (f.pre 0) [] 0 0 = none := by
  have hl := RF.pre_len f 0
  refine no_fault (fun q hq => RF.every_pre h q hq) (fun q hq => by have := pre_dep f 0 q hq; omega) ?_ (by omega) (by omega)
  rw [List.nil_append, RF.pre_names]
  exact nd
end Sc
namespace Sc
open PySem PySem.Spec PyProof.Rows L2
theorem sc__law_rule : FnScope ["_law_row", "_law_one"] ["_law_row"] (defScope s__law_rule) := ⟨rfl, rfl, rfl, by decide +kernel, rfl, by decide +kernel, by decide +kernel⟩
theorem sc__law_book : FnScope ["_law_facts_here", "_law_rules_here", "_law_last", "_law_row"] ["_law_facts_here", "_law_rules_here", "_law_last"] (defScope s__law_book) := ⟨rfl, rfl, rfl, by decide +kernel, rfl, by decide +kernel, by decide +kernel⟩
section
variable {P : Program} {w : World} {K : PySem.W.Frag} {mg : Str → Option Value} {base : Heap} {C R B CC CR CF CB : Addr}
def sp_rule (K : PySem.W.Frag) (C R : Addr) (d : Nat) : Sp := fun vs H Q _ => ∃ (N : Addr → Prop) (v : V) (n : Nd), vs = [v] ∧ RowAt K H v n ∧ (∀ l, H l = none → N l) ∧ n.exc.dep ≤ d ∧ d ≤ 12 ∧ n.exc.size ≤ 900 ∧ NdOk n ∧ n.exc.every NdOk ∧
  ∀ H' o, Same H H' → NdAt K C R N H' o n → Q (.ref o) H'
theorem ok_rule {d : Nat} {f : Addr} {fd : FuncData} (F : Fun K "_law_rule" "_law_rule" s__law_rule f fd) (Bl : Blt mg) (k_Condition : Mkr P w K mg base 4 "Condition" C ["self", "holding", "failing"] (sp_cond_init K C CC)) (k_Rule : Mkr P w K mg base 16 "Rule" R ["self", "name", "condition", "ruling", "exceptions"] (sp_rule_init K C R CR))
    (c__law_rule : Cal P w K mg base CX0 (d + 17) "_law_rule" ["_law_row"] (Below (sp_rule K C R) d)) :
    FnOk P w K mg base CX0 (d + 18) f fd ["_law_row"] (sp_rule K C R d) := by
  refine F.ok sc__law_rule (fun vs H Q E h => by obtain ⟨N, v, n, rfl, _⟩ := h; rfl) (fun cdv A outer s H vs Q E hr h => ?_)
  obtain ⟨N, v, n, rfl, hrow, hN, hd, hd12, hz, hok, hev, q⟩ := h
  obtain ⟨o, wa, ba, pa, ws, rfl, hO, hW, hB, hP, hX⟩ := hrow
  have B := Bl
  refine ⟨_, (pss_one (ps_ret (pe_mkN k_Rule (hr.mono (by omega)) (pa_cons (pe_ix ix_tup (pv 0) pe_int (fun _ _ => rfl)) (pa_cons (pe_mkN k_Condition (hr.mono (by omega)) (pa_cons (pe_ix ix_tup (pv 0) pe_int (fun _ _ => rfl)) (pa_cons (pe_ix ix_tup (pv 0) pe_int (fun _ _ => rfl)) pa_nil))) (pa_cons (pe_ix ix_tup (pv 0) pe_int (fun _ _ => rfl)) (pa_cons (pe_callTy call_tuple_of (by rfl) B.b_tuple PyProof.Rows.boot_tuple (pa_cons (pe_lc (own := [("_law_one", 1)]) (g := gName 1) (tt := tYes) rfl sc__law_rule.nd (pi_tup (pe_ix ix_tup (pv 0) pe_int (fun _ _ => rfl))) (blkOk_by (own := [("_law_one", 1)]) (N := ["_law_row", "_law_one"]) (sc := defScope s__law_rule) (by decide +kernel)) (fun _ _ _ _ _ => (pg_name (i := 1) sc__law_rule.nd rfl (Or.inl rfl))) (fun _ _ _ _ _ => pts_nil) (fun _ _ _ _ _ => (pe_.re (pe_cal c__law_rule hr (pa_cons (pv 1) pa_nil)) (by first | (dsimp only [Cx.blk]; done) | exact rfl)))) pa_nil)) pa_nil))))))), ?_⟩
  refine ⟨_, rfl, o, _, 0, _, rfl, rfl, hO, atI_nat (j := 0) rfl, ?_⟩
  refine ⟨_, rfl, o, _, 1, _, rfl, rfl, hO, atI_nat (j := 1) rfl, _, rfl, o, _, 2, _, rfl, rfl, hO, atI_nat (j := 2) rfl, fun c dxc nc ndc nec => ?_⟩
  have s1 : Same H (upd (upd H dxc (.own c)) c (.ins C dxc [])) := ((Same.refl H).put ndc).put nc
  have hlen := hok.len
  refine ⟨c, dxc, wa, ba, n.hs, n.fs, rfl, upd_same, s1.tup hW, s1.tup hB, fw_txts hok.c1, fw_txts hok.c2, by omega, by omega, (fun i e => by rw [hok.c1] at e; cases e), fun _ => ⟨(fun i e => by rw [hok.c2] at e; cases e), fun _ H2 nn zs sX hc hn hperm hsort => ⟨rfl, ?_⟩⟩⟩
  have s2 : Same H H2 := fun b' o' h => sX b' o' (fun e => by rw [e, nc] at h; cases h) (s1 _ _ h)
  have hcond : CondAt K C H2 c n.hs n.fs := ⟨dxc, wa, ba, nn, zs, hc, s2.tup hW, s2.tup hB, hn, srt_uniq hperm hsort⟩
  have hA := hX.all
  have hln := hA.len
  have hlz := RF.nodes_le n.exc
  refine ⟨_, rfl, o, _, 3, _, rfl, rfl, s2.tup hO, atI_nat (j := 3) rfl, ?_⟩
  refine ⟨_, rfl, o, _, 4, _, rfl, rfl, s2.tup hO, atI_nat (j := 4) rfl, pa, rfl, ⟨_, s2.tup hP⟩, fun D nD => lc_it walk_tup (fun i H' => Same H2 H' ∧ ∃ rs, H' D = some (.lst rs) ∧ All2 (RefAt K C R (fun l => N l ∧ l ≠ D) H') rs (n.exc.nodes.take i)) ⟨(Same.refl H2).put nD, [], upd_same, .nil⟩ (fun _ _ _ h => (s2.trans h.1).tup hP) ?_ ?_⟩
  · rintro i y H3 H4 hi ⟨s, rs, e, hrs⟩ ⟨rfl, hy⟩
    obtain ⟨m, hm, hrow⟩ := hA.get hy
    have hmem : m ∈ n.exc.nodes := List.mem_of_getElem? hm
    have hdm := RF.dep_mem _ m hmem
    have hsm := RF.size_mem _ m hmem
    obtain ⟨ho1, ho2⟩ := RF.every_nodes.mp hev m hmem
    obtain ⟨d, rfl⟩ : ∃ d', d = d' + 1 := ⟨d - 1, by omega⟩
    have s23 := s2.trans s
    have hrl := hrs.len
    rw [List.length_take] at hrl
    refine ⟨rfl, yes_ ⟨_, rfl, fun l => N l ∧ l ≠ D, _, m, rfl, hrow.keeps (N := NoL) s23.keeps, fun l nl => ⟨hN l (s23.free nl), (fun z => by rw [z, e] at nl; cases nl)⟩, by omega, by omega, by omega, ho1, ho2, fun H5 o5 s5 hnd => ?_⟩⟩
    have e5 := s5 _ _ e
    refine ⟨rs, e5, small1000 (by omega), (s.trans s5).put nD, _, upd_same, ?_⟩
    rw [take_more hm]
    have kk : Keeps (fun l => N l ∧ l ≠ D) H5 (upd H5 D (.lst (rs ++ [.ref o5]))) := keeps_own e5 fun z => z.2 rfl
    exact (hrs.mono fun _ _ x => (x.keeps s5.keeps).keeps kk).snoc ⟨o5, rfl, hnd.keeps kk⟩
  rintro H3 ⟨s3, rs, e3, hrs⟩
  rw [hln, List.take_length] at hrs
  have hrs : All2 (RefAt K C R N H3) rs n.exc.nodes := hrs.mono fun _ _ ⟨o, e, x⟩ => ⟨o, e, x.re fun b xs h _ => h.1⟩
  refine ⟨D, _, rfl, .inl ⟨sqL_of e3, fun t nt => ?_⟩⟩
  have s4 : Same H3 (upd H3 t (.tup rs)) := (Same.refl H3).put nt
  have e4 : (upd H3 t (.tup rs)) t = some (.tup rs) := upd_same
  generalize upd H3 t (.tup rs) = H4 at s4 e4 ⊢
  have hF : ForAt K C R N H4 n.exc rs := ForAt.of (hrs.mono fun _ _ x => x.keeps s4.keeps)
  have s04 := (s2.trans s3).trans s4
  have s24 := s3.trans s4
  intro x dx nx ndx nex
  have s5 : Same H4 (upd (upd H4 dx (.own x)) x (.ins R dx [])) := ((Same.refl H4).put ndx).put nx
  have l1 := name_len hok.nm
  have l2 := name_len hok.rl
  refine ⟨N, x, dx, c, t, n.nm, n.rl, rs, n.exc, rfl, upd_same, sqT_of (s5 _ _ e4), hF.keeps s5.keeps, by omega, by omega, by omega, hz, (fun e => by rw [hok.nm] at e; cases e), fun _ => ⟨(fun e => by rw [hok.rl] at e; cases e), fun _ H6 l sX6 hx6 nelx nl el => ⟨rfl, ?_⟩⟩⟩
  have s6 : Same H4 H6 := fun b' o' h => sX6 b' o' (fun e => by rw [e, nx] at h; cases h) (s5 _ _ h)
  exact q H6 x (s04.trans s6) ⟨dx, c, t, l, rs, hx6, (hcond.same s24).same s6, sqT_of (s6 _ _ e4), ⟨hN l (s04.free (s5.free nl)), el⟩, hF.keeps s6.keeps⟩
def sp_book (K : PySem.W.Frag) (C R B CF CB : Addr) : Sp := fun vs H Q E => ∃ (N : Addr → Prop) (fp p : Addr) (xs : List Str) (last : Str) (ws : List V) (f : RF), vs = [.ref fp, .ref p, .str last] ∧ SqT K H fp (xs.map V.str) ∧ Txts xs ∧ xs.length ≤ 1000 ∧ SqT K H p ws ∧ RowsAt K H f ws ∧ (∀ l, H l = none → N l) ∧ f.every NdOk ∧ f.dep ≤ 12 ∧ f.size ≤ 900 ∧ last.length ≤ 1000 ∧
  (∀ i, firstBad xs = some i → errIx CF i H E) ∧ (firstBad xs = none → (∀ wd i, firstFault xs (f.pre 0) [] 0 0 = some (wd, i) → wd.length ≤ 1000 → errWI CB wd (i : Nat) H E) ∧ (firstFault xs (f.pre 0) [] 0 0 = none →
    (isName last = false → errWI CB "ruling" (-1) H E) ∧ (isName last = true → ∀ H' o, Same H H' → H o = none → BookAt K C R B N H' o xs f last → Q (.ref o) H')))
theorem ok_book {f : Addr} {fd : FuncData} (F : Fun K "_law_book" "_law_book" s__law_book f fd) (Bl : Blt mg) (k_Book : Mkr P w K mg base 17 "Book" B ["self", "facts", "rules", "ruling"] (sp_book_init K C R B CF CB))
    (c__law_rule : Cal P w K mg base CX0 30 "_law_rule" ["_law_row"] (sp_rule K C R 12)) :
    FnOk P w K mg base (L2.CX P w) 31 f fd ["_law_facts_here", "_law_rules_here", "_law_last"] (sp_book K C R B CF CB) := by
  refine F.okX sc__law_book (fun vs H Q E h => by obtain ⟨N, fp, p, xs, last, ws, f, rfl, _⟩ := h; rfl) (fun cdv A outer s H vs Q E hr h => ?_)
  obtain ⟨N, fp, p, xs, last, ws, f, rfl, hS, tS, lS, hP, hX, hN, hev, hd, hz, ll, e1, q⟩ := h
  refine ⟨_, (pss_one (ps_ret (pe_mkX k_Book (hr.mono (by decide)) (takes_of rfl rfl rfl rfl) (pa_cons (pv 0) (pa_cons (pe_callTy call_tuple_of (by rfl) Bl.b_tuple PyProof.Rows.boot_tuple (pa_cons (pe_lc (own := [("_law_row", 3)]) (g := gName 3) (tt := tYes) rfl sc__law_book.nd (pi_tup (pv 1)) (blkOk_by (own := [("_law_row", 3)]) (N := ["_law_facts_here", "_law_rules_here", "_law_last", "_law_row"]) (sc := defScope s__law_book) (by decide +kernel)) (fun _ _ _ _ _ => (pg_name (i := 3) sc__law_book.nd rfl (Or.inl rfl))) (fun _ _ _ _ _ => pts_nil) (fun _ _ _ _ _ => (pe_.re (pe_cal c__law_rule (hr.mono (by decide)) (pa_cons (pv 3) pa_nil)) (by first | (dsimp only [Cx.blk]; done) | exact rfl)))) pa_nil)) (pa_cons (pv 2) pa_nil)))))), ?_⟩
  have hA := hX.all
  have hln := hA.len
  have hlz := RF.nodes_le f
  refine ⟨_, rfl, ?_⟩
  refine ⟨_, rfl, p, rfl, ⟨_, hP⟩, fun D nD => lc_it walk_tup (fun i H' => Same H H' ∧ ∃ rs, H' D = some (.lst rs) ∧ All2 (RefAt K C R (fun l => N l ∧ l ≠ D) H') rs (f.nodes.take i)) ⟨(Same.refl H).put nD, [], upd_same, .nil⟩ (fun _ _ _ h => h.1.tup hP) ?_ ?_⟩
  · rintro i y H3 H4 hi ⟨s, rs, e, hrs⟩ ⟨rfl, hy⟩
    obtain ⟨m, hm, hrow⟩ := hA.get hy
    have hmem : m ∈ f.nodes := List.mem_of_getElem? hm
    have hdm := RF.dep_mem _ m hmem
    have hsm := RF.size_mem _ m hmem
    obtain ⟨ho1, ho2⟩ := RF.every_nodes.mp hev m hmem
    have hrl := hrs.len
    rw [List.length_take] at hrl
    refine ⟨rfl, yes_ ⟨_, rfl, fun l => N l ∧ l ≠ D, _, m, rfl, hrow.keeps (N := NoL) s.keeps, fun l nl => ⟨hN l (s.free nl), (fun z => by rw [z, e] at nl; cases nl)⟩, by omega, by omega, by omega, ho1, ho2, fun H5 o5 s5 hnd => ?_⟩⟩
    have e5 := s5 _ _ e
    refine ⟨rs, e5, small1000 (by omega), (s.trans s5).put nD, _, upd_same, ?_⟩
    rw [take_more hm]
    have kk : Keeps (fun l => N l ∧ l ≠ D) H5 (upd H5 D (.lst (rs ++ [.ref o5]))) := keeps_own e5 fun z => z.2 rfl
    exact (hrs.mono fun _ _ x => (x.keeps s5.keeps).keeps kk).snoc ⟨o5, rfl, hnd.keeps kk⟩
  rintro H3 ⟨s3, rs, e3, hrs⟩
  rw [hln, List.take_length] at hrs
  have hrs : All2 (RefAt K C R N H3) rs f.nodes := hrs.mono fun _ _ ⟨o, e, x⟩ => ⟨o, e, x.re fun b xs h _ => h.1⟩
  refine ⟨D, _, rfl, .inl ⟨sqL_of e3, fun t nt => ?_⟩⟩
  have s4 : Same H3 (upd H3 t (.tup rs)) := (Same.refl H3).put nt
  have e4 : (upd H3 t (.tup rs)) t = some (.tup rs) := upd_same
  generalize upd H3 t (.tup rs) = H4 at s4 e4 ⊢
  have hF : ForAt K C R N H4 f rs := ForAt.of (hrs.mono fun _ _ x => x.keeps s4.keeps)
  have s04 := s3.trans s4
  refine ⟨_, rfl, fun x dx nx ndx nex => ?_⟩
  have s5 : Same H4 (upd (upd H4 dx (.own x)) x (.ins B dx [])) := ((Same.refl H4).put ndx).put nx
  have s05 := s04.trans s5
  refine ⟨N, x, dx, fp, t, xs, last, rs, f, rfl, upd_same, s05.tup hS, tS, lS, sqT_of (s5 _ _ e4), hF.keeps s5.keeps, hd, hz, fit_of hev, ll, fun i ei H' d sH nd => e1 i ei H' d (s05.trans sH) nd, fun z1 => ?_⟩
  obtain ⟨e2, q⟩ := q z1
  refine ⟨fun wd i ei hw H' d sH nd => e2 wd i ei hw H' d (s05.trans sH) nd, fun z2 => ?_⟩
  obtain ⟨e3', q⟩ := q z2
  refine ⟨fun z3 H' d sH nd => e3' z3 H' d (s05.trans sH) nd, fun z3 H6 l us sX6 hx6 nelx nl el hus => ⟨rfl, ?_⟩⟩
  have s6 : Same H4 H6 := fun b' o' h => sX6 b' o' (fun e => by rw [e, nx] at h; cases h) (s5 _ _ h)
  have s06 := s04.trans s6
  exact q z3 H6 x s06 (s04.free nx) ⟨dx, fp, t, l, rs, us, hx6, s06.tup hS, sqT_of (s6 _ _ e4), hF.keeps s6.keeps, ⟨hN l (s04.free (s5.free nl)), el⟩, hus⟩
end
end Sc
namespace Sc
open PySem PySem.Spec PyProof.Rows L2
section
variable {P : Program} {w : World} {K : PySem.W.Frag} {mg : Str → Option Value} {base : Heap}
/-- some of the twelve facts, in their order -/
def sp_facts : Sp := fun vs H Q _ => ∃ (a l : Addr) (c : Int), vs = [.ref a, .int c] ∧ RS H a l ∧ 0 ≤ c ∧ ∀ H' p fs, Kp a l H H' → H' p = some (.tup (fs.map V.str)) → H p = none → List.Sublist fs twelve → (fs.length : Int) ≤ c → (c ≤ 12 → (fs.length : Int) = c) → Q (.ref p) H'
theorem ok_facts {f : Addr} {fd : FuncData} (F : Fun K "_law_facts" "_law_facts" s__law_facts f fd) (B : Blt mg) (c__law_next : Cal P w K mg base CX0 1 "_law_next" ["_law_h", "_law_limit"] sp_next) : FnOk P w K mg base CX0 2 f fd ["_law_h", "_law_count"] sp_facts := by
  refine F.ok sc__law_facts (fun vs H Q E h => by obtain ⟨a, l, c, rfl, _⟩ := h; rfl) (fun cdv A outer s H vs Q E hr h => ?_)
  obtain ⟨a, l, c, rfl, hR, c0, q⟩ := h
  refine ⟨_, (pss_cons (ps_set (i := 2) sc__law_facts.nd rfl (Or.inl rfl) (pe_lst (pa_cons pe_str (pa_cons pe_str (pa_cons pe_str (pa_cons pe_str (pa_cons pe_str (pa_cons pe_str (pa_cons pe_str (pa_cons pe_str (pa_cons pe_str (pa_cons pe_str (pa_cons pe_str (pa_cons pe_str pa_nil))))))))))))))
      (pss_cons (ps_while PassesOwn.never (pt_cmpR op_gt (pe_callB call_len_seq (by rfl) B.b_len PySem.boot_len (pa_cons (pv 2) pa_nil)) (pv 1) (nomark _)) (pss_one (ps_expr (pe_bm PySem.F.plainAttrs_list PySem.F.slot_list_pop PySem.F.type_list_pop mt_popAt (pv 2) (pa_cons (pe_cal c__law_next (hr.mono (by decide)) (pa_cons (pv 0) (pa_cons (pe_callB call_len_seq (by rfl) B.b_len PySem.boot_len (pa_cons (pv 2) pa_nil)) pa_nil))) pa_nil)))))
      (pss_one (ps_ret (pe_callTy call_tuple_of (by rfl) B.b_tuple PyProof.Rows.boot_tuple (pa_cons (pv 2) pa_nil)))))), ?_⟩
  refine ⟨(by show 12 ≤ sizeLine; decide), fun p np => ?_⟩
  obtain ⟨npa, npl⟩ := hR.no np
  refine ⟨fun m σ H' => ∃ zs : List Str, m = zs.length ∧ σ = [some (.ref a), some (.int c), some (.ref p)] ∧ Kp a l H H' ∧ H' p = some (.lst (zs.map V.str)) ∧ List.Sublist zs twelve ∧ (c ≤ zs.length ∨ zs = twelve),
    ⟨_, twelve, rfl, rfl, (Kp.refl hR).put np, upd_same, List.Sublist.refl _, .inr rfl⟩, ?_⟩
  rintro m σ H1 ⟨zs, rfl, rfl, k1, e1, sb, hc⟩
  have hz : zs.length ≤ 12 := sb.length_le
  refine ⟨.ref p, rfl, p, _, rfl, .inl (sqL_of e1), .int c, rfl, _, c, rfl, rfl, _, rfl, bcase (fun t1 => ?_) (fun t1 => ?_)⟩
  · have t1 : c < ((zs.map V.str).length : Int) := of_decide_eq_true t1
    rw [List.length_map] at t1
    refine ⟨fun σ' H' => ∃ zs' : List Str, zs'.length < zs.length ∧ (σ' = [some (.ref a), some (.int c), some (.ref p)] ∧ Kp a l H H' ∧ H' p = some (.lst (zs'.map V.str)) ∧ List.Sublist zs' twelve ∧ (c ≤ zs'.length ∨ zs' = twelve)),
      fun σ' H' ⟨zs', lt, x⟩ => ⟨_, lt, zs', rfl, x⟩, ?_⟩
    refine ⟨.ref p, rfl, .inl ⟨rfl, _, sqL_of e1⟩, .ref a, rfl, .ref p, rfl, p, _, rfl, .inl (sqL_of e1), a, l, _, rfl, k1.new, by rw [List.length_map]; omega, ?_, fun H2 r k2 r0 r1 => ?_⟩
    · rw [List.length_map]
      exact Nat.lt_of_le_of_lt (Nat.log2_le_self _) (by show zs.length < 9000; omega)
    · have e2 : H2 p = some (.lst (zs.map V.str)) := k2.keep p _ npa npl e1
      rw [List.length_map] at r1
      obtain ⟨j, rfl⟩ := Int.eq_ofNat_of_zero_le r0
      have hj : j < zs.length := by omega
      have hj' : j < (zs.map V.str).length := by rw [List.length_map]; exact hj
      refine ⟨p, _, _, j, _, rfl, rfl, e2, by omega, by omega, (ixN_seq (ixN_of hj')).1, List.getElem?_eq_getElem hj', zs.eraseIdx j, ?_, rfl, (k1.trans k2).put0 np, ?_, (List.eraseIdx_sublist zs j).trans sb, ?_⟩
      · rw [List.length_eraseIdx_of_lt hj]
        omega
      · rw [upd_same, map_eraseIdx]
      · rw [List.length_eraseIdx_of_lt hj]
        exact .inl (by omega)
  · have t1 : ¬ c < ((zs.map V.str).length : Int) := of_decide_eq_false t1
    rw [List.length_map] at t1
    refine ⟨.ref p, rfl, p, _, rfl, .inl ⟨sqL_of e1, fun t nt => q _ t zs (k1.put nt) upd_same (k1.free nt) sb (by omega) (fun h => ?_)⟩⟩
    rcases hc with h2 | h2
    · omega
    · rw [h2] at t1 ⊢
      have : twelve.length = 12 := rfl
      omega
end
end Sc
namespace Sc
open PySem PySem.Spec PyProof.Rows L2
theorem sc_law : FnScope ["_law_script", "_law_h", "_law_time", "_law_facts_here", "_law_rules_here", "_law_last", "_law_every_here", "_law_names", "_law_order", "_law_due", "_law_good", "_law_book_here", "_law_name", "_law_one"] ["_law_script"] (defScope s_law) := ⟨rfl, rfl, rfl, by decide +kernel, rfl, by decide +kernel, by decide +kernel⟩
def sp_law (K : PySem.W.Frag) (PT : Addr) : Sp := fun vs H Q _ => ∃ (s : Addr) (ns : List Int), vs = [.ref s] ∧ SqL K H s (ns.map V.int) ∧ ns.length ≤ 63 ∧ (∀ z ∈ ns, Builtin.Int.intBits z ≤ 1048576) ∧ H PT = some (.tbl #[]) ∧ ∀ H', Q (.bl true) H'
/-- a property of a class that is worked out -/
def PropM (P : Program) (w : World) (K : PySem.W.Frag) (mg : Str → Option Value) (base : Heap) (C : Addr) (n : Str) (k : Nat) (sp : Sp) : Prop := ∃ p g fd, PropOf K C n p g ∧ FnOk P w K mg base CX0 k g fd ["self"] sp ∧ Binds K fd ["self"] []
theorem pe_propM {X : Cx} {k : Nat} {C : Addr} {n : Str} {sp : Sp} {e : Expr} {ta : TE} {pos : Pos} (M : PropM X.prog X.w X.K X.mg X.base C n k sp) (hr : Room (k + 1) X.A) (c : Cls X.K C) (he : PE X e ta) (hab : attributeBase e n X.env (eval e X.env) = eval e X.env := by rfl) : PE X (.Attribute e n pos) (tProp C sp [] E0 ta) := by
  obtain ⟨p, g, fd, h1, h2, h3⟩ := M
  exact pe_prop he c h1 h2 hr h3 .nil pass0 hab
/-- the == of a class -/
structure EqO (P : Program) (w : World) (K : PySem.W.Frag) (mg : Str → Option Value) (base : Heap) (k : Nat) (C : Addr) (sp : Sp) : Prop where
  ex : ∃ (g : Addr) (fd : FuncData), PySem.W.findIn K (.ref C) "__eq__" = some (some (.ref g)) ∧ PySem.W.isFn K (.ref g) = true ∧ FnOk P w K mg base CX0 k g fd ["self", "other"] sp ∧ Binds K fd ["self", "other"] []
  ob : PySem.W.mroIn K C (.type "object") = some true
  ne : PySem.W.findIn K (.ref C) "__ne__" = some (some (.builtin "object.__ne__"))
theorem op_neM {X : Cx} {k : Nat} {C : Addr} {sp : Sp} (M : EqO X.prog X.w X.K X.mg X.base k C sp) (hr : Room (k + 1) X.A) : OpR X (compareOp .NotEq) (rNeO X.K C sp E0) := by
  obtain ⟨g, fd, h1, h2, F, hb⟩ := M.ex
  exact op_neO M.ob M.ne h1 h2 F hr hb pass0
theorem norule_flat {x : Str} (h : (PyData.str x).canLay0 = true) : ∀ v ∈ ([V.str x] : List V), FlatOk v := by
  intro v hv
  rw [List.mem_singleton.mp hv]
  exact h
theorem names24 : ∀ n, n < 25 → (rnames 0 n).Nodup := by decide +kernel
/-- all but the draws' state -/
def NN (a l : Addr) : Addr → Prop := fun b => b ≠ a ∧ b ≠ l
/-- what a lap of the law leans on -/
structure S6 (K : PySem.W.Frag) (C R B PT a l : Addr) (fp pr ob : Addr) (fs : List Str) (ws : List V) (f : RF) (rl : Str) (H : Hp) : Prop where
  rs : RS H a l
  tb : LamX.Tabs [(PT, qLam)] H
  bk : BookAt K C R B (NN a l) H ob fs f rl
  s : SqT K H fp (fs.map V.str)
  p : SqT K H pr ws
  x : RowsAt K H f ws
section
variable {K : PySem.W.Frag} {C R B PT a l : Addr} {fp pr ob : Addr} {fs : List Str} {ws : List V} {f : RF} {rl : Str} {H H' : Hp}
theorem S6.fr (S : S6 K C R B PT a l fp pr ob fs ws f rl H) : ∀ b, H b = none → NN a l b := fun _ h => S.rs.no h
theorem S6.same (S : S6 K C R B PT a l fp pr ob fs ws f rl H) (s : Same H H') : S6 K C R B PT a l fp pr ob fs ws f rl H' := ⟨S.rs.same s, S.tb.ext s, S.bk.keeps s.keeps, s.tup S.s, s.tup S.p, S.x.keeps (N := NoL) s.keeps⟩
theorem S6.kp (S : S6 K C R B PT a l fp pr ob fs ws f rl H) (k : Kp a l H H') : S6 K C R B PT a l fp pr ob fs ws f rl H' := ⟨k.new, tabs_kp k S.tb, S.bk.keeps (k.keeps (fun h => h.1 rfl) (fun h => h.2 rfl)), k.keepsN.tup S.s, k.keepsN.tup S.p, S.x.keeps k.keepsN⟩
theorem S6.ext (S : S6 K C R B PT a l fp pr ob fs ws f rl H) (x : LamX.ExtN H H') (t : LamX.Tabs [(PT, qLam)] H') : S6 K C R B PT a l fp pr ob fs ws f rl H' :=
  ⟨S.rs.ext x, t, S.bk.keeps (ExtN_keeps x), (ExtN_keeps (N := NoL) x).tup S.s, (ExtN_keeps (N := NoL) x).tup S.p, S.x.keeps (ExtN_keeps (N := NoL) x)⟩
end
/-! ### a book whose rules changed places -/
theorem swapG_size (n : Nd) : ∀ rest : RF, (swapG n rest).size ≤ n.exc.size + 1 + rest.size + 0
  | .nil => Nat.le_refl _
  | .cons a b c d e r => by
    show e.size + 1 + (n.exc.size + 1 + r.size) ≤ n.exc.size + 1 + (e.size + 1 + r.size) + 0
    omega
theorem swapG_dep (n : Nd) : ∀ rest : RF, (swapG n rest).dep ≤ max (n.exc.dep + 1) rest.dep + 0
  | .nil => Nat.le_refl _
  | .cons a b c d e r => by
    show max (e.dep + 1) (max (n.exc.dep + 1) r.dep) ≤ max (n.exc.dep + 1) (max (e.dep + 1) r.dep) + 0
    omega
theorem swapG_every {p : Nd → Prop} {n : Nd} : ∀ {rest : RF}, p n → n.exc.every p → rest.every p → (swapG n rest).every p
  | .nil, h1, h2, _ => ⟨h1, h2, trivial⟩
  | .cons a b c d e r, h1, h2, ⟨k1, k2, k3⟩ => ⟨k1, k2, h1, h2, k3⟩
theorem swapG_perm (n : Nd) : ∀ rest : RF, (swapG n rest).names.Perm (n.nm :: (n.exc.names ++ rest.names))
  | .nil => by
    show (RF.cons n.nm n.hs n.fs n.rl n.exc .nil).names.Perm _
    rw [RF.names_cons]
  | .cons a b c d e r => by
    show (RF.cons a b c d e (RF.cons n.nm n.hs n.fs n.rl n.exc r)).names.Perm _
    rw [RF.names_cons, RF.names_cons, RF.names_cons]
    have h : ∀ (x y : Str) (X Y Z : List Str), (x :: (X ++ (y :: (Y ++ Z)))).Perm (y :: (Y ++ (x :: (X ++ Z)))) := fun x y X Y Z => by
      have e1 : x :: (X ++ (y :: (Y ++ Z))) = (x :: X) ++ ((y :: Y) ++ Z) := by simp
      have e2 : y :: (Y ++ (x :: (X ++ Z))) = (y :: Y) ++ ((x :: X) ++ Z) := by simp
      rw [e1, e2, ← List.append_assoc, ← List.append_assoc]
      exact List.perm_append_comm.append_right Z
    exact h _ _ _ _ _
structure SwOk (fs : List Str) (f U : RF) : Prop where
  nd : U.names.Nodup
  dp : U.dep ≤ f.dep
  sz : U.size ≤ f.size
  ok : U.every NdOk
  sub : U.every fun n => (∀ x ∈ n.hs, x ∈ fs) ∧ ∀ x ∈ n.fs, x ∈ fs
theorem swap_ok {fs : List Str} {f : RF} {nm : Str} (nd : f.names.Nodup) (ok : f.every NdOk) (sub : f.every fun n => (∀ x ∈ n.hs, x ∈ fs) ∧ ∀ x ∈ n.fs, x ∈ fs) : SwOk fs f (RF.upd nm Op.swap.G f) := by
  refine ⟨?_, RF.upd_dep (e := 0) swapG_dep, RF.upd_size (e := 0) swapG_size nd, RF.upd_every (fun n e h => h.wE) (fun n rest h1 h2 h3 => swapG_every h1 h2 h3) ok, RF.upd_every (fun n e h => h) (fun n rest h1 h2 h3 => swapG_every h1 h2 h3) sub⟩
  exact (RF.upd_names (fun n rest h => ⟨(swapG_perm n rest).nodup_iff.mpr h, fun x hx => (swapG_perm n rest).mem_iff.mp hx⟩) nd).1
theorem drawn_inF {K : PySem.W.Frag} {H : Hp} {p : Addr} {fs : List Str} {c d : Nat} {f : RF} (g : Good fs) (df : Drawn K H p fs c d f) : f.every (InF fs) :=
  RF.every_mono (fun n h => ⟨fun x hx => h.parts.s1.subset hx, fun x hx => h.parts.s2.subset hx, fun x hx => g.fines twelve_fine x (h.parts.s1.subset hx), fun x hx => g.fines twelve_fine x (h.parts.s2.subset hx), by have := h.parts.l8; omega, by have := h.parts.l8; omega⟩) df.dr
theorem zz_out : ∀ n, n < 25 → ¬ Str.ofString "zz" ∈ rnames 0 n := by decide +kernel
namespace RF
theorem clw_third {xs : List Str} : ∀ {ws bs : List Str} {f : RF} {q : Tri}, q ∈ f.clw xs ws bs → q.2.2.length ≤ xs.length
  | _, _, .nil, q, h => nomatch h
  | ws, bs, .cons n hs fs rl exc rest, q, h => by
    have h : q ∈ besideL xs n rl (joinF xs hs ws) (joinF xs fs bs) rest.nodes ++ (clw xs (joinF xs hs ws) (joinF xs fs bs) exc ++ clw xs ws bs rest) := h
    rcases List.mem_append.mp h with h | h
    · obtain ⟨m, hm, h⟩ := List.mem_filterMap.mp h
      unfold besideO at h
      split at h
      · cases h
        exact List.length_filter_le _ _
      · cases h
    · rcases List.mem_append.mp h with h | h
      · exact clw_third h
      · exact clw_third h
end RF
/-- the two ints at the head of a triple -/
def triH (H : Hp) : V → Int × Int
  | .ref t => match H t with
    | some (.tup [.int i, .int j, _]) => (i, j)
    | _ => (0, 0)
  | _ => (0, 0)
def OrdAt (pos : Str → Nat) (H : Hp) (o : V) (qz : Tri × V) : Prop := ∃ t, o = .ref t ∧ H t = some (.tup [.int (pos qz.1.1 : Nat), .int (pos qz.1.2.1 : Nat), qz.2])
theorem OrdAt.triH {pos : Str → Nat} {H : Hp} {o : V} {qz : Tri × V} (h : OrdAt pos H o qz) : triH H o = triK pos qz.1 := by
  obtain ⟨t, rfl, e⟩ := h
  show (match H t with | some (.tup [.int i, .int j, _]) => (i, j) | _ => (0, 0)) = _
  rw [e]
  rfl
theorem ord_map {pos : Str → Nat} {H : Hp} {os : List V} {l : List (Tri × V)} (h : All2 (OrdAt pos H) os l) : os.map (triH H) = l.map fun qz => triK pos qz.1 := by
  induction h with
  | nil => rfl
  | cons h _ ih => rw [List.map_cons, List.map_cons, ih, h.triH]
theorem ord_pw {pos : Str → Nat} {H : Hp} {os us : List V} {L : List Tri} (h : All2 (OrdAt pos H) os (L.zip us)) (hl : L.length = us.length) (pw : L.Pairwise fun q r => SrtO.lexB (triK pos q) (triK pos r) = true) : os.Pairwise fun x y => SrtO.lexB (triH H x) (triH H y) = true := by
  have e1 := ord_map h
  have e2 : (L.zip us).map (fun qz => triK pos qz.1) = L.map (triK pos) := by
    have : (L.zip us).map (fun qz => triK pos qz.1) = ((L.zip us).map Prod.fst).map (triK pos) := by rw [List.map_map]; rfl
    rw [this, List.map_fst_zip (by omega)]
  have p1 : (L.map (triK pos)).Pairwise fun x y => SrtO.lexB x y = true := List.pairwise_map.mpr pw
  rw [← e2, ← e1] at p1
  exact List.pairwise_map.mp p1
theorem at_tris {K : PySem.W.Frag} {H : Hp} {n : Nat} {D : Addr} {us : List V} {L : List Tri} (e : H D = some (.lst us)) (h : All2 (TriAt K H) us L) (z : L.length ≤ 1000000) (z2 : ∀ q ∈ L, q.2.2.length ≤ 1000000) : AT K H (n + 3) (.ref D) (.list (L.map triD)) := by
  have hl := h.len
  refine .lst e (by rw [List.length_map]; exact hl) (by omega) fun i x d hx hd => ?_
  obtain ⟨q, hq, t, c, rfl, ht, hc⟩ := h.get hx
  rw [List.getElem?_map, hq] at hd
  cases hd
  refine .tup ht rfl (by show 3 ≤ 1000000; decide) fun j y d hy hd => ?_
  match j, hy, hd with
  | 0, hy, hd => cases hy; cases hd; exact .str _ _
  | 1, hy, hd => cases hy; cases hd; exact .str _ _
  | 2, hy, hd =>
    cases hy
    cases hd
    refine .tup hc (by rw [List.length_map, List.length_map]) (by rw [List.length_map]; exact z2 q (List.mem_of_getElem? hq)) fun k y d hy hd => ?_
    rw [List.getElem?_map] at hy hd
    cases e : q.2.2[k]? with
    | none => rw [e] at hy; cases hy
    | some s =>
      rw [e] at hy hd
      cases hy
      cases hd
      exact .str _ _
  | j + 3, hy, hd => cases hy
section
variable {P : Program} {w : World} {K : PySem.W.Frag} {mg : Str → Option Value} {base : Heap}
theorem ok_law {f : Addr} {fd : FuncData} {c PT : Addr} {g : Addr} {fdE : FuncData} {cl : Nat → Addr} {CE C R Bk CF CB CU CN : Addr} (F : FunC K "law" "law" s_law f fd c) (B : Blt mg) (G : GErr mg cl CE)
    (FE : Fun K "_law_error" "_law_error" s__law_error g fdE) (mE : mg "_law_error" = some (.ref g)) (bE : Binds K fdE ["_law_call"] []) (TB : LamX.TabB base mg c PT) (eU : ErrRow K cl CE CU 7) (eN : ErrRow K cl CE CN 14)
    (kB : BookX P w K mg base Bk) (mNm : PropM P w K mg base Bk "names" 3 (sp_bnames K C R Bk)) (mBe : EqO P w K mg base 29 Bk (sp_beq K C R Bk))
    (c__law_mix : Cal P w K mg base CX0 1 "_law_mix" ["_law_script", "_law_seed"] (sp_mix K)) (c__law_next : Cal P w K mg base CX0 1 "_law_next" ["_law_h", "_law_limit"] sp_next)
    (c__law_facts : Cal P w K mg base CX0 2 "_law_facts" ["_law_h", "_law_count"] sp_facts) (c__law_rules : Cal P w K mg base CX0 6 "_law_rules" ["_law_h", "_law_facts_here", "_law_counter", "_law_deep", "_law_wide"] (sp_rules K 3)) (c__law_book : Cal P w K mg base (L2.CX P w) 31 "_law_book" ["_law_facts_here", "_law_rules_here", "_law_last"] (sp_book K C R Bk CF CB))
    (c__law_every : Cal P w K mg base CX0 2 "_law_every" ["_law_facts_here"] (sp_every K)) (c__law_pairs : Cal P w K mg base CX0 15 "_law_pairs" ["_law_rules_here", "_law_outer", "_law_every_here"] (sp_pairs K 12)) (c__law_changed : Cal P w K mg base CX0 14 "_law_changed" ["_law_rules_here", "_law_name"] (sp_chg K 12))
    (c__law_alike : Cal P w K mg base CX0 30 "_law_alike" ["_law_found", "_law_due"] (sp_alikeT K 29))
    (c_clashes : Cal P w K mg base CX0 17 "clashes" ["book"] (sp_clashes K C R Bk)) (c_swapped : Cal P w K mg base (L2.CX P w) 32 "swapped" ["book", "name"] (sp_swapped K C R Bk CB CU CN)) :
    FnOk P w K mg base CX0 36 f fd ["_law_script"] (sp_law K PT) := by
  refine F.ok sc_law (fun vs H Q E h => by obtain ⟨s, ns, rfl, _⟩ := h; rfl) (fun A outer s H vs Q E hr h => ?_)
  obtain ⟨s, ns, rfl, hS, hl, hb, hT, q⟩ := h
  refine ⟨_, (pss_cons (ps_set (i := 1) sc_law.nd rfl (Or.inl rfl) (pe_cal c__law_mix (hr.mono (by decide)) (pa_cons (pv 0) (pa_cons pe_int pa_nil))))
      (pss_cons (ps_for PassesOwn.never rfl (pi_range1 (by rfl) B.b_range (pa_cons pe_int pa_nil)) (pg_name (i := 2) sc_law.nd rfl (Or.inl rfl)) (pss_cons (ps_set (i := 3) sc_law.nd rfl (Or.inl rfl) (pe_cal c__law_facts (hr.mono (by decide)) (pa_cons (pv 1) (pa_cons (pe_op op_add pe_int (pe_cal c__law_next (hr.mono (by decide)) (pa_cons (pv 1) (pa_cons pe_int pa_nil)))) pa_nil))))
      (pss_cons (ps_par (i := 4) (j := 5) rfl sc_law.nd rfl rfl (by decide) rfl rfl (pa_cons (pe_cal c__law_rules (hr.mono (by decide)) (pa_cons (pv 1) (pa_cons (pv 3) (pa_cons (pe_lst (pa_cons pe_int pa_nil)) (pa_cons pe_int (pa_cons pe_int pa_nil)))))) (pa_cons pe_str pa_nil)) rfl)
      (pss_cons (ps_asg (pe_tup (pa_cons (pe_calN c__law_book (hr.mono (by decide)) (pa_cons (pv 3) (pa_cons (pv 4) (pa_cons (pv 5) pa_nil)))) (pa_cons (pe_cal c__law_every (hr.mono (by decide)) (pa_cons (pv 3) pa_nil)) pa_nil))) (pg_tup (by rfl) (pgs_cons (pg_name (i := 11) sc_law.nd rfl (Or.inr rfl)) (pgs_cons (pg_name (i := 6) sc_law.nd rfl (Or.inl rfl)) pgs_nil))))
      (pss_cons (ps_set (i := 7) sc_law.nd rfl (Or.inr rfl) (pe_propM mNm (hr.mono (by decide)) kB.cls (pv 11)))
      (pss_cons (ps_setLc (i := 8) (own := [("_law_one", 13)]) (g := gName 13) (tt := tYes) rfl sc_law.nd rfl rfl (sw_true rfl rfl rfl (by decide +kernel)) (pi_list (pe_cal c__law_pairs (hr.mono (by decide)) (pa_cons (pv 4) (pa_cons (pe_lst pa_nil) (pa_cons (pv 6) pa_nil))))) (blkOk_by (own := [("_law_one", 13)]) (N := ["_law_script", "_law_h", "_law_time", "_law_facts_here", "_law_rules_here", "_law_last", "_law_every_here", "_law_names", "_law_order", "_law_due", "_law_good", "_law_book_here", "_law_name", "_law_one"]) (sc := defScope s_law) (by decide +kernel)) (fun _ _ _ _ _ => (pg_name (i := 13) sc_law.nd rfl (Or.inl rfl))) (fun _ _ _ _ _ => pts_nil) (fun _ _ _ _ _ => (pe_.re (pe_tup (pa_cons (pe_bm PySem.F.plainAttrs_list PySem.F.slot_list_index PySem.F.type_list_index mt_index (pv 7) (pa_cons (pe_ix ix_tup (pv 13) pe_int (fun _ _ => rfl)) pa_nil)) (pa_cons (pe_bm PySem.F.plainAttrs_list PySem.F.slot_list_index PySem.F.type_list_index mt_index (pv 7) (pa_cons (pe_ix ix_tup (pv 13) pe_int (fun _ _ => rfl)) pa_nil)) (pa_cons (pv 13) pa_nil)))) (by first | (dsimp only [Cx.blk]; done) | exact rfl))))
      (pss_cons (ps_if (pt_not (pt_val (pe_cal c__law_alike (hr.mono (by decide)) (pa_cons (pe_cal c_clashes (hr.mono (by decide)) (pa_cons (pv 11) pa_nil)) (pa_cons (pe_lc (own := [("_law_one", 13)]) (g := gName 13) (tt := tYes) rfl sc_law.nd (pi_list (pe_callB cr_sortedTri (by rfl) B.b_sorted (by decide +kernel) (pa_cons (pv 8) pa_nil))) (blkOk_by (own := [("_law_one", 13)]) (N := ["_law_script", "_law_h", "_law_time", "_law_facts_here", "_law_rules_here", "_law_last", "_law_every_here", "_law_names", "_law_order", "_law_due", "_law_good", "_law_book_here", "_law_name", "_law_one"]) (sc := defScope s_law) (by decide +kernel)) (fun _ _ _ _ _ => (pg_name (i := 13) sc_law.nd rfl (Or.inl rfl))) (fun _ _ _ _ _ => pts_nil) (fun _ _ _ _ _ => (pe_.re (pe_ix ix_tup (pv 13) pe_int (fun _ _ => rfl)) (by first | (dsimp only [Cx.blk]; done) | exact rfl)))) pa_nil))))) (pss_one (ps_ret pe_bl)) pss_nil)
      (pss_cons (ps_for PassesOwn.never rfl (pi_list (pv 7)) (pg_name (i := 12) sc_law.nd rfl (Or.inr rfl)) (pss_cons (ps_asg (pe_cal c__law_changed (hr.mono (by decide)) (pa_cons (pv 4) (pa_cons (pv 12) pa_nil))) (pg_tup (by rfl) (pgs_cons (pg_name (i := 9) sc_law.nd rfl (Or.inl rfl)) (pgs_cons (pg_name (i := 10) sc_law.nd rfl (Or.inl rfl)) pgs_nil))))
      (pss_one (ps_if (pt_not (pt_val (pv 10))) (pss_one (ps_if (pt_cmpR (op_neD hr.units) (pe_errlam FE mE bE B G TB rfl (hr.mono (by decide)) (LamX.lamS_by (show LamX.lamSB (defScope s_law) _ = true by decide +kernel)) rfl (fun _ _ _ _ _ => rfl) (fun A' outer' s' H' E' f' c' hr' => (pe_.re (pe_calX c_swapped hr' (takes_of rfl rfl rfl rfl) (pa_cons (pv 11) (pa_cons (pv 12) pa_nil))) (by first | (dsimp only [LamX.lamCx]; done) | exact rfl)))) (pe_tup (pa_cons pe_str pa_nil)) (nomark _)) (pss_one (ps_ret pe_bl)) pss_nil)) (pss_one (ps_if (pt_cmpR (op_neM mBe (hr.mono (by decide))) (pe_calN c_swapped (hr.mono (by decide)) (pa_cons (pv 11) (pa_cons (pv 12) pa_nil))) (pe_calN c__law_book (hr.mono (by decide)) (pa_cons (pv 3) (pa_cons (pv 9) (pa_cons (pv 5) pa_nil)))) (nomark _)) (pss_one (ps_ret pe_bl)) pss_nil))))))
      (pss_one (ps_if (pt_cmpR (op_neD hr.units) (pe_errlam FE mE bE B G TB rfl (hr.mono (by decide)) (LamX.lamS_by (show LamX.lamSB (defScope s_law) _ = true by decide +kernel)) rfl (fun _ _ _ _ _ => rfl) (fun A' outer' s' H' E' f' c' hr' => (pe_.re (pe_calX c_swapped hr' (takes_of rfl rfl rfl rfl) (pa_cons (pv 11) (pa_cons pe_str pa_nil))) (by first | (dsimp only [LamX.lamCx]; done) | exact rfl)))) (pe_tup (pa_cons pe_str pa_nil)) (nomark _)) (pss_one (ps_ret pe_bl)) pss_nil))))))))))
      (pss_one (ps_ret pe_bl)))), ?_⟩
  refine ⟨.ref s, rfl, s, ns, 14, rfl, hS, hl, hb, by decide, by decide, fun H1 a l s1 R1 => ?_⟩
  have Tb1 : LamX.Tabs [(PT, qLam)] H1 := by
    intro p hp
    rw [List.mem_singleton.mp hp]
    exact LamX.TabS.nil (s1 _ _ hT)
  refine ⟨3, rfl, by decide, by decide, for_it walk_range (fun i σ H' => ∃ (y0 y2 y3 y4 y5 y6 y7 y8 y9 y10 y11 y12 y13 : Option V), σ = [y0, some (.ref a), y2, y3, y4, y5, y6, y7, y8, y9, y10, y11, y12, y13] ∧ RS H' a l ∧ LamX.Tabs [(PT, qLam)] H')
      ⟨_, _, _, _, _, _, _, _, _, _, _, _, _, rfl, R1, Tb1⟩ (fun _ _ _ _ _ => trivial) ?_ ?_⟩
  · rintro i x σ H3 H2 hi ⟨y0, y2, y3, y4, y5, y6, y7, y8, y9, y10, y11, y12, y13, rfl, Rd, Tb⟩ ⟨rfl, hy⟩
    refine ⟨.ref a, rfl, .ref a, rfl, a, l, 6, rfl, Rd, by decide, by decide, fun H4 r k4 r0 r1 => ?_⟩
    refine ⟨1, r, rfl, rfl, a, l, _, rfl, k4.new, by omega, fun H5 fp fs k5 ep _ sub hfl hfe => ?_⟩
    have hfe := hfe (by omega)
    have hg : Good fs := twelve_good.sub sub
    have hfs : 1 ≤ fs.length ∧ fs.length ≤ 6 := by omega
    have hf0 : fs ≠ [] := fun z => by rw [z] at hfs; exact absurd hfs.1 (by decide)
    have S5' : S4 K a l fp fs [(PT, qLam)] H5 := ⟨(k4.trans k5).new, tabs_kp (k4.trans k5) Tb, sqT_of ep⟩
    refine ⟨_, rfl, _, rfl, (by show 1 ≤ sizeLine; rw [sizeLine_eq]; decide), fun ct nct => ?_⟩
    have s6 : Same H5 (upd H5 ct (.lst [.int 0])) := (Same.refl H5).put nct
    have ect : (upd H5 ct (.lst [.int 0])) ct = some (.lst [.int ((0 : Nat) : Int)]) := upd_same
    obtain ⟨ca, cl'⟩ := S5'.rs.no nct
    have Sx := S5'.same s6
    generalize upd H5 ct (.lst [.int 0]) = H6 at s6 ect Sx ⊢
    refine ⟨_, _, _, _, 6, rfl, by decide, a, l, ct, fp, fs, 3, 0, rfl, rfl, rfl, rfl, Sx.rs, Sx.fp, by omega, hg.nodup, ect, ca, cl', by decide, by decide, by decide, fun H7 p f kc df ect7 _ => ?_⟩
    have S7 := Sx.kc kc ect
    obtain ⟨ws0, hP, hX⟩ := df.at_
    have hd := df.dp
    have hz := df.le
    have hnd := names24 f.size (by omega)
    have hzz := zz_out f.size (by omega)
    rw [← df.nm] at hnd hzz
    have hsub := drawn_sub df
    have hinf := drawn_inF hg df
    have hev : f.every NdOk := drawn_ok hg df
    have hbad := good_bad hg hf0 (by omega)
    have hff := no_fault_of hsub hnd (by omega) (by omega)
    have hfx := hg.fines twelve_fine
    have hnm : isName (Str.ofString "none") = true := by decide +kernel
    have hrln := name_len hnm
    have hbk : BkOk fs f (Str.ofString "none") := ⟨hfx.txts, by omega, hbad, hnm, hnd, by omega, by omega, hev⟩
    refine ⟨_, _, rfl, ?_⟩
    refine ⟨_, rfl, _, rfl, _, rfl, NN a l, fp, p, fs, _, ws0, f, rfl, S7.fp, hfx.txts, by omega, hP, hX, (fun _ h => S7.rs.no h), hev, by omega, by omega, by omega, (fun i hi => by rw [hbad] at hi; cases hi), fun _ => ⟨(fun wd i hw => by rw [hff] at hw; cases hw), fun _ => ⟨(fun e => by rw [hnm] at e; cases e), fun _ H10 ob s10 nob hB10 => ?_⟩⟩⟩
    have S10 : S6 K C R Bk PT a l fp p ob fs ws0 f (Str.ofString "none") H10 := ⟨S7.rs.same s10, S7.tb.ext s10, hB10, s10.tup S7.fp, s10.tup hP, hX.keeps (N := NoL) s10.keeps⟩
    clear hB10 s10 S7 hP hX ect7 kc ect Sx S5' s6 nob df
    refine ⟨_, rfl, fp, fs, rfl, S10.s, by omega, fun H11 D11 s11 nD11 cs11 => ?_⟩
    have S11 := S10.same s11
    refine ⟨(by show 2 ≤ sizeLine; rw [sizeLine_eq]; decide), fun tt ntt => ⟨tt, _, rfl, sqT_new, rfl, _, _, rfl, _, _, rfl, rfl, ?_⟩⟩
    have s12 : Same H11 (upd H11 tt (.tup [.ref ob, .ref D11])) := (Same.refl H11).put ntt
    have S12 := S11.same s12
    have cs12 := cs11.same s12
    generalize upd H11 tt (.tup [.ref ob, .ref D11]) = H12 at s12 S12 cs12 ⊢
    clear S11 S10 s11 s12 cs11
    obtain ⟨dxb, _, _, _, _, _, hob, _⟩ := id S12.bk
    refine ⟨_, rfl, ob, dxb, _, rfl, hob, NN a l, ob, fs, f, _, rfl, S12.bk, by omega, fun H13 DN s13 eNm => ?_⟩
    have S13 := S12.same s13
    have cs13 := cs12.same s13
    clear S12 cs12 s13 hob
    refine ⟨_, rfl, Nat.zero_le _, fun LE nLE => ?_⟩
    have s14 : Same H13 (upd H13 LE (.lst [])) := (Same.refl H13).put nLE
    have eLE : (upd H13 LE (.lst [])) LE = some (.lst []) := upd_same
    generalize upd H13 LE (.lst []) = H14 at s14 eLE ⊢
    have S14 := S13.same s14
    refine ⟨_, rfl, p, LE, D11, fs, [], [], ws0, [], [], f, rfl, S14.p, S14.x, eLE, .nil, cs13.same s14, by omega, hg.nodup, ⟨fun _ _ => ⟨(fun h => nomatch h), fun ⟨_, h, _⟩ => nomatch h⟩, fun _ _ => ⟨(fun h => nomatch h), fun ⟨_, h, _⟩ => nomatch h⟩⟩, (fun _ h => nomatch h), hinf, by omega, by omega, by show 0 + _ ≤ _; omega, fun H15 D15 us15 s15 e15 hus15 => ?_⟩
    have S15 := S14.same s15
    have eN15 := (s14.trans s15) _ _ eNm
    have hll := RF.clw_len (xs := fs) [] [] f
    have hsq : f.size * f.size ≤ 24 * 24 := Nat.mul_le_mul (by omega) (by omega)
    have hup := RF.clw_up (xs := fs) (ws := []) (bs := []) (posN_up hnd)
    have hmm : ∀ q ∈ f.clw fs [] [], q.1 ∈ f.names ∧ q.2.1 ∈ f.names := fun q hq => RF.clw_mem hq
    have hth : ∀ q ∈ f.clw fs [] [], q.2.2.length ≤ fs.length := fun q hq => RF.clw_third hq
    generalize hL : f.clw fs [] [] = L at hus15 hll hup hmm hth
    have hul := hus15.len
    refine ⟨D15, rfl, ⟨_, sqL_of e15⟩, fun D16 nD16 => lc_it walk_list (fun i H' => Same H15 H' ∧ ∃ os, H' D16 = some (.lst os) ∧ All2 (OrdAt (posN f.names) H') os ((L.zip us15).take i)) ⟨(Same.refl H15).put nD16, [], upd_same, .nil⟩ (fun _ _ _ h => sqL_of (h.1 _ _ e15)) ?_ ?_⟩
    · rintro j v Ha Hb hj ⟨sb, os, eo, hos⟩ ⟨rfl, hv⟩
      obtain ⟨q, hq, t, cc, rfl, ht, hc⟩ := hus15.get hv
      have ht := sb.tup ht
      have eNb := sb _ _ eN15
      obtain ⟨hq1, hq2⟩ := hmm q (List.mem_of_getElem? hq)
      obtain ⟨a1, a2⟩ := posN_at hq1
      obtain ⟨b1, b2⟩ := posN_at hq2
      have before : ∀ (x : Str) (pos : Nat), (∀ m z, m < pos → f.names[m]? = some z → z ≠ x) → ∀ (m : Nat) (z' : V), m < pos → (f.names.map V.str)[m]? = some z' → eqV z' (.str x) = false := fun x pos h m z' hm hz => by
        rw [List.getElem?_map] at hz
        cases e : f.names[m]? with
        | none => rw [e] at hz; cases hz
        | some y => rw [e] at hz; cases hz; exact decide_eq_false (h m y hm e)
      refine ⟨rfl, yes_ ⟨_, rfl, .inl ⟨rfl, _, sqL_of eNb⟩, _, rfl, t, _, 0, _, rfl, rfl, ht, atI_nat (j := 0) rfl, DN, _, .str q.1, posN f.names q.1, .str q.1, rfl, rfl, sqL_of eNb, rfl, flat_strs _, (by rw [List.getElem?_map, a1]; rfl), decide_eq_true rfl, before _ _ a2, ?_⟩⟩
      refine ⟨_, rfl, .inl ⟨rfl, _, sqL_of eNb⟩, _, rfl, t, _, 1, _, rfl, rfl, ht, atI_nat (j := 1) rfl, DN, _, .str q.2.1, posN f.names q.2.1, .str q.2.1, rfl, rfl, sqL_of eNb, rfl, flat_strs _, (by rw [List.getElem?_map, b1]; rfl), decide_eq_true rfl, before _ _ b2, ?_⟩
      refine ⟨_, rfl, (by show 3 ≤ sizeLine; rw [sizeLine_eq]; decide), fun t2 nt2 => ?_⟩
      have s2 : Same Hb (upd Hb t2 (.tup [.int (posN f.names q.1 : Nat), .int (posN f.names q.2.1 : Nat), .ref t])) := (Same.refl Hb).put nt2
      have e2 : (upd Hb t2 (.tup [.int (posN f.names q.1 : Nat), .int (posN f.names q.2.1 : Nat), .ref t])) t2 = some (.tup [.int (posN f.names q.1 : Nat), .int (posN f.names q.2.1 : Nat), .ref t]) := upd_same
      generalize upd Hb t2 (.tup [.int (posN f.names q.1 : Nat), .int (posN f.names q.2.1 : Nat), .ref t]) = Hc at s2 e2 ⊢
      have eo2 := s2 _ _ eo
      have hol := hos.len
      rw [List.length_take] at hol
      have hzl : (L.zip us15).length ≤ 576 := by rw [List.length_zip]; omega
      refine ⟨os, eo2, by rw [sizeLine_eq]; omega, (sb.trans s2).put nD16, os ++ [.ref t2], upd_same, ?_⟩
      rw [take_more (show (L.zip us15)[j]? = some (q, .ref t) from List.getElem?_zip_eq_some.mpr ⟨hq, hv⟩)]
      have st : ∀ (t' : Addr) (xs : List V), Hc t' = some (.tup xs) → (upd Hc D16 (.lst (os ++ [.ref t2]))) t' = some (.tup xs) := fun t' xs h => by
        rw [upd_ne (fun z => by rw [z, eo2] at h; cases h)]
        exact h
      exact (hos.mono fun _ _ ⟨t', e', h'⟩ => ⟨t', e', st _ _ (s2 _ _ h')⟩).snoc ⟨t2, rfl, st _ _ e2⟩
    rintro H16 ⟨s16, os, eo, hos⟩
    have hzl : (L.zip us15).length = us15.length := by rw [List.length_zip]; omega
    rw [← hzl, List.take_length] at hos
    have S16 := S15.same s16
    have eN16 := s16 _ _ eN15
    clear S15 eN15 eNm s14 s15 eLE cs13 S14 S13
    have e15' := s16 _ _ e15
    have hus16 : All2 (TriAt K H16) us15 L := hus15.mono fun _ _ x => TriAt.keeps (N := NoL) x s16.keeps
    clear e15 hus15 s16
    refine ⟨_, rfl, NN a l, ob, fs, f, _, rfl, S16.bk, by omega, by omega, by omega, fun H17 D17 us17 s17 e17 hus17 => ?_⟩
    have S17 := S16.same s17
    have eo17 := s17 _ _ eo
    have hos17 : All2 (OrdAt (posN f.names) H17) os (L.zip us15) := hos.mono fun _ _ ⟨t', e', h'⟩ => ⟨t', e', s17 _ _ h'⟩
    rw [hL] at hus17
    have hol := hos.len
    rw [hzl] at hol
    refine ⟨_, rfl, D16, os, triH H17, rfl, sqL_of eo17, fun o ho => ?_, ord_pw hos17 (by omega) hup, fun D18 nD18 => ?_⟩
    · obtain ⟨j, hj⟩ := List.mem_iff_getElem?.mp ho
      obtain ⟨qz, hqz, h⟩ := hos17.get hj
      have h2 := h.triH
      obtain ⟨t', e', h'⟩ := h
      refine ⟨t', qz.2, e', ?_⟩
      rw [h2]
      exact h'
    have s18 : Same H17 (upd H17 D18 (.lst os)) := (Same.refl H17).put nD18
    have e18 : (upd H17 D18 (.lst os)) D18 = some (.lst os) := upd_same
    generalize upd H17 D18 (.lst os) = H18 at s18 e18 ⊢
    have hos18 : All2 (OrdAt (posN f.names) H18) os (L.zip us15) := hos17.mono fun _ _ ⟨t', e', h'⟩ => ⟨t', e', s18 _ _ h'⟩
    refine ⟨D18, rfl, ⟨_, sqL_of e18⟩, fun D19 nD19 => lc_it walk_list (fun i H' => Same H18 H' ∧ H' D19 = some (.lst (us15.take i))) ⟨(Same.refl H18).put nD19, upd_same⟩ (fun _ _ _ h => sqL_of (h.1 _ _ e18)) ?_ ?_⟩
    · rintro j v Ha Hb hj ⟨sb, eb⟩ ⟨rfl, hv⟩
      obtain ⟨qz, hqz, t', rfl, h'⟩ := hos18.get hv
      have hz2 := (List.getElem?_zip_eq_some.mp hqz).2
      refine ⟨rfl, yes_ ⟨_, rfl, t', _, 2, _, rfl, rfl, sqT_of (sb _ _ h'), atI_nat (j := 2) rfl, us15.take j, eb, by rw [List.length_take, sizeLine_eq]; omega, sb.put nD19, ?_⟩⟩
      rw [upd_same, take_more hz2]
    rintro H19 ⟨s19, e19⟩
    rw [hol, List.take_length] at e19
    have s1719 := s18.trans s19
    have e17' := s1719 _ _ e17
    have hus19 := hus17.mono fun _ _ x => TriAt.keeps (N := NoL) x s1719.keeps
    have hus19b := hus16.mono fun _ _ x => TriAt.keeps (N := NoL) x (s17.trans s1719).keeps
    have hthb : ∀ q ∈ L, q.2.2.length ≤ 1000000 := fun q hq => by have := hth q hq; omega
    refine ⟨.ref D17, .ref D19, .list (L.map triD), rfl, at_tris (n := 26) e17' hus19 (by omega) hthb, at_tris (n := 26) e19 hus19b (by omega) hthb, fun H20 s20 => ⟨true, rfl, iteF ?_⟩⟩
    have S20 := (S17.same s1719).same s20
    have eN20 := s20 _ _ (s1719 _ _ (s17 _ _ eN16))
    clear hus19 hus19b e17' e19 s20 s19 s18 s17 e17 e18 hos18 hos17 hos eo17 eo S17 S16 eN16 hus17 hus16 e15' hol hzl hup
    refine ⟨_, rfl, DN, rfl, ⟨_, sqL_of eN20⟩, for_it walk_list (fun i σ H' => ∃ (y9 y10 y12 : Option V), σ = [y0, some (.ref a), some x, some (.ref fp), some (.ref p), some (.str (Str.ofString "none")), some (.ref D11), some (.ref DN), some (.ref D16), y9, y10, some (.ref ob), y12, y13] ∧ S6 K C R Bk PT a l fp p ob fs ws0 f (Str.ofString "none") H' ∧ H' DN = some (.lst (f.names.map V.str)))
      ⟨_, _, _, rfl, S20, eN20⟩ (fun _ _ _ _ ⟨_, _, _, _, _, h⟩ => sqL_of h) ?_ ?_⟩
    · clear S20 eN20
      rintro j v σ Ha Hb hj ⟨y9, y10, y12, rfl, S, eD⟩ ⟨rfl, hv⟩
      rw [List.getElem?_map] at hv
      obtain ⟨nm, hnmj, rfl⟩ := Option.map_eq_some_iff.mp hv
      have hmem : nm ∈ f.names := List.mem_of_getElem? hnmj
      have U := swap_ok (nm := nm) hnd hev hsub
      refine ⟨_, rfl, _, rfl, p, nm, ws0, f, rfl, S.p, S.x, by omega, by omega, hnd, fun Hc t pd us sc et hpd hus => ?_⟩
      have Sc := S.same sc
      have eDc := sc _ _ eD
      refine ⟨t, _, rfl, sqT_of et, rfl, _, _, rfl, _, _, rfl, rfl, ?_⟩
      cases hx : RF.nxt nm f with
      | none =>
        refine ⟨_, rfl, false, rfl, iteT ?_⟩
        refine ⟨Sc.tb, fun G1 x1 Tb1 => ?_⟩
        have S14 := Sc.ext x1 Tb1
        have eD1 := x1 _ _ eDc (fun _ z => nomatch z)
        refine ⟨_, rfl, _, rfl, NN a l, ob, fs, f, Str.ofString "none", nm, rfl, S14.bk, hbk, S14.fr, (fun hno => absurd hmem hno), fun _ => ⟨fun _ G2 s2 => ?_, fun z => absurd hx z⟩⟩
        refine ⟨CN, 14, _, rfl, eN, .plain (fun dd e => nomatch e) (by decide) (by decide) (by decide) (by decide) (by decide), fun HB p' sB epB _ => ?_⟩
        refine ⟨(by show 1 ≤ sizeLine; rw [sizeLine_eq]; decide), fun tq ntq => ?_⟩
        have sC := (s2.trans sB).put' (o := .tup [.str "neighbor"]) ntq
        refine ne_flat (vs := [.str "neighbor"]) (norule_flat (by decide +kernel)) (sqT_of (by rw [upd_ne (ne_of_none epB ntq)]; exact epB)) sqT_new ⟨_, rfl, iteF ?_⟩
        exact ⟨_, _, _, rfl, S14.same sC, sC _ _ eD1⟩
      | some b =>
        have hne : RF.nxt nm f ≠ none := fun z => by rw [z] at hx; cases hx
        refine ⟨_, rfl, true, rfl, iteF ?_⟩
        have hffU := no_fault_of U.sub U.nd (by have := U.dp; omega) (by have := U.sz; omega)
        have hU1 := U.dp
        have hU2 := U.sz
        have hU3 := U.ok
        refine ⟨_, rfl, _, rfl, NN a l, ob, fs, f, Str.ofString "none", nm, rfl, Sc.bk, hbk, Sc.fr, (fun hno => absurd hmem hno), fun _ => ⟨fun z => absurd z hne, fun _ => ⟨(fun wd i hw => by rw [hffU] at hw; cases hw), fun _ Hd ob2 sd hB2 => ?_⟩⟩⟩
        have Sd := Sc.same sd
        have hpd2 := sd.tup hpd
        have hus2 := hus.keeps (N := NoL) sd.keeps
        generalize RF.upd nm Op.swap.G f = U0 at hffU hU1 hU2 hU3 hB2 hus2
        refine ⟨_, rfl, _, rfl, _, rfl, NN a l, fp, pd, fs, _, us, U0, rfl, Sd.s, hfx.txts, by omega, hpd2, hus2, Sd.fr, hU3, by omega, by omega, by omega, (fun i hi => by rw [hbad] at hi; cases hi), fun _ => ⟨(fun wd i hw => by rw [hffU] at hw; cases hw), fun _ => ⟨(fun e => by rw [hnm] at e; cases e), fun _ He b5 se nb5 hB5 => ?_⟩⟩⟩
        have hB2' := hB2.keeps se.keeps
        obtain ⟨dx2, _, _, _, _, _, hob2, _⟩ := id hB2'
        obtain ⟨dx5, _, _, _, _, _, hb5, _⟩ := id hB5
        refine ⟨ob2, dx2, _, .ref Bk, rfl, hob2, .ins hb5, (by simp [PySem.W.notFirst]), NN a l, ob2, .ref b5, fs, U0, Str.ofString "none", rfl, hB2', hU3, hfx, by omega, .inl ⟨b5, fs, U0, Str.ofString "none", true, rfl, hB5, hfx, .inr ⟨rfl, rfl, (decide_eq_true rfl).symm⟩, fun Hf sf => ⟨_, rfl, _, rfl, iteF ?_⟩⟩⟩
        exact ⟨_, _, _, rfl, Sd.same (se.trans sf), sf _ _ (se _ _ (sd _ _ eDc))⟩
    · clear S20 eN20
      rintro σ Hb ⟨y9, y10, y12, rfl, S, eD⟩
      refine ⟨S.tb, fun G1 x1 Tb1 => ?_⟩
      have S14 := S.ext x1 Tb1
      refine ⟨_, rfl, NN a l, ob, fs, f, Str.ofString "none", Str.ofString "zz", rfl, S14.bk, hbk, S14.fr, (fun _ G2 s2 => ?_), fun z => absurd z hzz⟩
      refine ⟨CU, 7, _, rfl, eU, .plain (fun dd e => nomatch e) (by decide) (by decide) (by decide) (by decide) (by decide), fun HB p' sB epB _ => ?_⟩
      refine ⟨(by show 1 ≤ sizeLine; rw [sizeLine_eq]; decide), fun tq ntq => ?_⟩
      have sC := (s2.trans sB).put' (o := .tup [.str "norule"]) ntq
      refine ne_flat (vs := [.str "norule"]) (norule_flat (by decide +kernel)) (sqT_of (by rw [upd_ne (ne_of_none epB ntq)]; exact epB)) sqT_new ⟨_, rfl, iteF ?_⟩
      have S15' := S14.same sC
      exact ⟨_, _, _, _, _, _, _, _, _, _, _, _, _, rfl, S15'.rs, S15'.tb⟩
  · rintro σ H2 ⟨y0, y2, y3, y4, y5, y6, y7, y8, y9, y10, y11, y12, y13, rfl, Rd, Tb⟩
    exact q H2
end
end Sc
namespace Sc
open PySem PySem.Spec PyProof.Rows L2
theorem four {K : PySem.W.Frag} {D : Value} (h1 : PySem.W.findIn K D "index" = some none) (h2 : PySem.W.findIn K D "part" = some none) (h3 : PySem.W.findIn K D "word" = some none) (h4 : PySem.W.findIn K D "fact" = some none) :
    ∀ n ∈ (["index", "part", "word", "fact"] : List Str), PySem.W.findIn K D n = some none := by
  intro n hn
  simp only [List.mem_cons, List.not_mem_nil, or_false] at hn
  rcases hn with rfl | rfl | rfl | rfl
  · exact h1
  · exact h2
  · exact h3
  · exact h4
theorem exm_by {K : PySem.W.Frag} {D C : Addr} (h1 : PySem.W.subIn K (.ref C) (.type "BaseException") = some true) (h2 : PySem.W.isClsIn K C = true) (h3 : PySem.W.typeIn K (.ref C) = some (.type "type")) (h4 : PySem.W.subIn K (.ref D) (.ref C) = some true) : PySem.W.exmOne K (.ref D) (.ref C) = some true := by
  have e1 : (PySem.W.subIn K (.ref C) (.type "BaseException") == some true) = true := by rw [h1] <;> rfl
  have e2 : ((PySem.W.clsIn K C).isSome && PySem.W.typeIn K (.ref C) == some (.type "type")) = true := by
    have h2' : (PySem.W.clsIn K C).isSome = true := h2
    rw [h2', h3] <;> rfl
  unfold PySem.W.exmOne PySem.W.kitCls
  rw [if_pos e1]
  dsimp only
  rw [if_pos e2]
  exact h4
theorem kit_by {K : PySem.W.Frag} {D C : Addr} {b : Bool} (h1 : PySem.W.subIn K (.ref D) (.ref D) = some true) (h2 : PySem.W.isClsIn K C = true) (h3 : PySem.W.typeIn K (.ref C) = some (.type "type")) (h4 : PySem.W.subIn K (.ref D) (.ref C) = some b) : PySem.W.kitOne K (.ref D) (.ref C) = some b := by
  have e2 : ((PySem.W.clsIn K C).isSome && PySem.W.typeIn K (.ref C) == some (.type "type")) = true := by
    have h2' : (PySem.W.clsIn K C).isSome = true := h2
    rw [h2', h3] <;> rfl
  unfold PySem.W.kitOne
  split
  · rename_i e
    have e := eq_of_beq e
    cases e
    exact h1.symm.trans h4
  · unfold PySem.W.kitCls
    dsimp only
    rw [if_pos e2]
    exact h4
theorem kit_ve {K : PySem.W.Frag} {D : Addr} (h : PySem.W.subIn K (.ref D) (.type "ValueError") = some true) : PySem.W.kitOne K (.ref D) (.type "ValueError") = some true := by
  unfold PySem.W.kitOne PySem.W.kitCls
  rw [if_neg (by intro z; cases eq_of_beq z)]
  dsimp only
  rw [if_pos (by decide +kernel)]
  exact h
theorem codeHd_by {K : PySem.W.Frag} {c T : Addr} {o : Obj} (lk : K.lookup c = some o) (h : PySem.W.codeHdIn [(c, o)] c T = true) : PySem.W.codeHdIn K c T = true := by
  unfold PySem.W.codeHdIn at h ⊢
  rw [lk]
  have e : ([(c, o)] : PySem.W.Frag).lookup c = some o := by simp [List.lookup]
  rw [e] at h
  exact h
theorem lookup_no {K : PySem.W.Frag} {a : Addr} (h : (K.map (·.1)).contains a = false) : K.lookup a = none := by
  induction K with
  | nil => rfl
  | cons p r ih =>
    rw [List.map_cons, List.contains_cons, Bool.or_eq_false_iff] at h
    obtain ⟨x, o⟩ := p
    rw [List.lookup_cons, h.1]
    exact ih h.2
theorem sup_by {K : PySem.W.Frag} {C CE : Addr} {z : Value} {nm q nm2 q2 : Str} {N N2 : Addr} {bs bm su bs2 bm2 su2 : List Value} {sn sn2 : List Str} {ab ab2 : Bool} {col col2 : Option Bool} {dd dd2 : Option Addr} {x0 x1 x2 x3 x5 y0 y1 y2 y3 y5 : Option Value}
    (xC : K.lookup C = some (excClassObj nm q C N bs bm true sn su ab col dd x0 x1 x2 x3 x5 "ValueError.__new__")) (xE : K.lookup CE = some (excClassObj nm2 q2 CE N2 bs2 bm2 true sn2 su2 ab2 col2 dd2 y0 y1 y2 y3 y5 "ValueError.__new__"))
    (e : bm = .ref CE :: bm2) (f : PySem.W.findIn K (.ref CE) "__init__" = some (some z)) : PySem.W.ks_superIn K C C "__init__" = some (some z) := by
  subst e
  unfold PySem.W.ks_superIn PySem.W.clsIn
  unfold PySem.W.findIn at f
  dsimp only at f
  rw [xC]
  rw [xE] at f
  simp only [excClassObj] at f ⊢
  simp
  exact f
/-- a def that calls itself: depth by depth -/
theorem rec_all {P : Program} {w : World} {K : PySem.W.Frag} {mg : Str → Option Value} {base : Heap} {S : Nat → Sp} {k : Nat} {x : Str} {f : Addr} {fd : FuncData} {ps : List Str} (step : ∀ d, Cal P w K mg base CX0 (d + k) x ps (Below S d) → FnOk P w K mg base CX0 (d + k + 1) f fd ps (S d))
    (hm : mg x = some (.ref f)) (kp : PySem.W.keepIn K (.ref f) = true) (b : Binds K fd ps []) : ∀ d, FnOk P w K mg base CX0 (d + k + 1) f fd ps (S d)
  | 0 => step 0 ⟨_, _, FnOk.never, hm, kp, b⟩
  | d + 1 => step (d + 1) ⟨_, _, (by have h := rec_all step hm kp b d; rw [show d + k + 1 = d + 1 + k by omega] at h; exact h), hm, kp, b⟩
theorem alikeT_all {P : Program} {w : World} {K : PySem.W.Frag} {mg : Str → Option Value} {base : Heap} {f : Addr} {fd : FuncData} (F : Fun K "_law_alike" "_law_alike" s__law_alike f fd) (B : Blt mg) (hm : mg "_law_alike" = some (.ref f)) (kp : PySem.W.keepIn K (.ref f) = true) (b : Binds K fd ["_law_found", "_law_due"] []) :
    ∀ n, FnOk P w K mg base CX0 (n + 1) f fd ["_law_found", "_law_due"] (sp_alikeT K n)
  | 0 => ok_alikeT0 F B
  | n + 1 => ok_alikeT F B ⟨_, _, alikeT_all F B hm kp b n, hm, kp, b⟩
theorem all_mk {Tb0 : Addr} {l : PySem.W.OpenLaw} {P : Program} {w : World} {K : PySem.W.Frag} {h : Heap} {mg : Str → Option Value} {fa : Addr} (eP : l.prog = P) (X : K.In h) (G : h.Ns mainGlobals mg) (hfa : mg "law" = some (.ref fa))
    {f_is_name : Addr} {oc_is_name kV_is_name dc_is_name pm_is_name cd_is_name ct_is_name : Value} {od_is_name an_is_name : Option Addr} {sl_is_name : Array (Option Value)}
    {f_rises : Addr} {oc_rises kV_rises dc_rises pm_rises cd_rises ct_rises : Value} {od_rises an_rises : Option Addr} {sl_rises : Array (Option Value)}
    {f_check_facts : Addr} {oc_check_facts kV_check_facts dc_check_facts pm_check_facts cd_check_facts ct_check_facts : Value} {od_check_facts an_check_facts : Option Addr} {sl_check_facts : Array (Option Value)}
    {f_nested : Addr} {oc_nested kV_nested dc_nested pm_nested cd_nested ct_nested : Value} {od_nested an_nested : Option Addr} {sl_nested : Array (Option Value)}
    {f_check_rules : Addr} {oc_check_rules kV_check_rules dc_check_rules pm_check_rules cd_check_rules ct_check_rules : Value} {od_check_rules an_check_rules : Option Addr} {sl_check_rules : Array (Option Value)}
    {f_check_part : Addr} {oc_check_part kV_check_part dc_check_part pm_check_part cd_check_part ct_check_part : Value} {od_check_part an_check_part : Option Addr} {sl_check_part : Array (Option Value)}
    {f_merged : Addr} {oc_merged kV_merged dc_merged pm_merged cd_merged ct_merged : Value} {od_merged an_merged : Option Addr} {sl_merged : Array (Option Value)}
    {f_bits_of : Addr} {oc_bits_of kV_bits_of dc_bits_of pm_bits_of cd_bits_of ct_bits_of : Value} {od_bits_of an_bits_of : Option Addr} {sl_bits_of : Array (Option Value)}
    {f_names_of : Addr} {oc_names_of kV_names_of dc_names_of pm_names_of cd_names_of ct_names_of : Value} {od_names_of an_names_of : Option Addr} {sl_names_of : Array (Option Value)}
    {f_cube_of : Addr} {oc_cube_of kV_cube_of dc_cube_of pm_cube_of cd_cube_of ct_cube_of : Value} {od_cube_of an_cube_of : Option Addr} {sl_cube_of : Array (Option Value)}
    {f_clash : Addr} {oc_clash kV_clash dc_clash pm_clash cd_clash ct_clash : Value} {od_clash an_clash : Option Addr} {sl_clash : Array (Option Value)}
    {f_joined : Addr} {oc_joined kV_joined dc_joined pm_joined cd_joined ct_joined : Value} {od_joined an_joined : Option Addr} {sl_joined : Array (Option Value)}
    {f_clashes_within : Addr} {oc_clashes_within kV_clashes_within dc_clashes_within pm_clashes_within cd_clashes_within ct_clashes_within : Value} {od_clashes_within an_clashes_within : Option Addr} {sl_clashes_within : Array (Option Value)}
    {f_clashes : Addr} {oc_clashes kV_clashes dc_clashes pm_clashes cd_clashes ct_clashes : Value} {od_clashes an_clashes : Option Addr} {sl_clashes : Array (Option Value)}
    {f_path_to : Addr} {oc_path_to kV_path_to dc_path_to pm_path_to cd_path_to ct_path_to : Value} {od_path_to an_path_to : Option Addr} {sl_path_to : Array (Option Value)}
    {f_next_beside : Addr} {oc_next_beside kV_next_beside dc_next_beside pm_next_beside cd_next_beside ct_next_beside : Value} {od_next_beside an_next_beside : Option Addr} {sl_next_beside : Array (Option Value)}
    {f_replaced : Addr} {oc_replaced kV_replaced dc_replaced pm_replaced cd_replaced ct_replaced : Value} {od_replaced an_replaced : Option Addr} {sl_replaced : Array (Option Value)}
    {f_swapped : Addr} {oc_swapped kV_swapped dc_swapped pm_swapped cd_swapped ct_swapped : Value} {od_swapped an_swapped : Option Addr} {sl_swapped : Array (Option Value)}
    {f__law_mix : Addr} {oc__law_mix kV__law_mix dc__law_mix pm__law_mix cd__law_mix ct__law_mix : Value} {od__law_mix an__law_mix : Option Addr} {sl__law_mix : Array (Option Value)}
    {f__law_next : Addr} {oc__law_next kV__law_next dc__law_next pm__law_next cd__law_next ct__law_next : Value} {od__law_next an__law_next : Option Addr} {sl__law_next : Array (Option Value)}
    {f__law_alike : Addr} {oc__law_alike kV__law_alike dc__law_alike pm__law_alike cd__law_alike ct__law_alike : Value} {od__law_alike an__law_alike : Option Addr} {sl__law_alike : Array (Option Value)}
    {f__law_error : Addr} {oc__law_error kV__law_error dc__law_error pm__law_error cd__law_error ct__law_error : Value} {od__law_error an__law_error : Option Addr} {sl__law_error : Array (Option Value)}
    {f__law_facts : Addr} {oc__law_facts kV__law_facts dc__law_facts pm__law_facts cd__law_facts ct__law_facts : Value} {od__law_facts an__law_facts : Option Addr} {sl__law_facts : Array (Option Value)}
    {f__law_parts : Addr} {oc__law_parts kV__law_parts dc__law_parts pm__law_parts cd__law_parts ct__law_parts : Value} {od__law_parts an__law_parts : Option Addr} {sl__law_parts : Array (Option Value)}
    {f__law_rules : Addr} {oc__law_rules kV__law_rules dc__law_rules pm__law_rules cd__law_rules ct__law_rules : Value} {od__law_rules an__law_rules : Option Addr} {sl__law_rules : Array (Option Value)}
    {f__law_rule : Addr} {oc__law_rule kV__law_rule dc__law_rule pm__law_rule cd__law_rule ct__law_rule : Value} {od__law_rule an__law_rule : Option Addr} {sl__law_rule : Array (Option Value)}
    {f__law_book : Addr} {oc__law_book kV__law_book dc__law_book pm__law_book cd__law_book ct__law_book : Value} {od__law_book an__law_book : Option Addr} {sl__law_book : Array (Option Value)}
    {f__law_case : Addr} {oc__law_case kV__law_case dc__law_case pm__law_case cd__law_case ct__law_case : Value} {od__law_case an__law_case : Option Addr} {sl__law_case : Array (Option Value)}
    {f__law_every : Addr} {oc__law_every kV__law_every dc__law_every pm__law_every cd__law_every ct__law_every : Value} {od__law_every an__law_every : Option Addr} {sl__law_every : Array (Option Value)}
    {f__law_meets : Addr} {oc__law_meets kV__law_meets dc__law_meets pm__law_meets cd__law_meets ct__law_meets : Value} {od__law_meets an__law_meets : Option Addr} {sl__law_meets : Array (Option Value)}
    {f__law_pairs : Addr} {oc__law_pairs kV__law_pairs dc__law_pairs pm__law_pairs cd__law_pairs ct__law_pairs : Value} {od__law_pairs an__law_pairs : Option Addr} {sl__law_pairs : Array (Option Value)}
    {f__law_changed : Addr} {oc__law_changed kV__law_changed dc__law_changed pm__law_changed cd__law_changed ct__law_changed : Value} {od__law_changed an__law_changed : Option Addr} {sl__law_changed : Array (Option Value)}
    {f_law : Addr} {oc_law kV_law dc_law pm_law ct_law : Value} {od_law an_law : Option Addr} {sl_law : Array (Option Value)}
    {f_mi : Addr} {oc_mi kV_mi dc_mi pm_mi cd_mi ct_mi : Value} {od_mi an_mi : Option Addr} {sl_mi : Array (Option Value)}
    {f_mh : Addr} {oc_mh kV_mh dc_mh pm_mh cd_mh ct_mh : Value} {od_mh an_mh : Option Addr} {sl_mh : Array (Option Value)}
    {f_mf : Addr} {oc_mf kV_mf dc_mf pm_mf cd_mf ct_mf : Value} {od_mf an_mf : Option Addr} {sl_mf : Array (Option Value)}
    {f_mn : Addr} {oc_mn kV_mn dc_mn pm_mn cd_mn ct_mn : Value} {od_mn an_mn : Option Addr} {sl_mn : Array (Option Value)}
    {f_ri : Addr} {oc_ri kV_ri dc_ri pm_ri cd_ri ct_ri : Value} {od_ri an_ri : Option Addr} {sl_ri : Array (Option Value)}
    {f_rn : Addr} {oc_rn kV_rn dc_rn pm_rn cd_rn ct_rn : Value} {od_rn an_rn : Option Addr} {sl_rn : Array (Option Value)}
    {f_rc : Addr} {oc_rc kV_rc dc_rc pm_rc cd_rc ct_rc : Value} {od_rc an_rc : Option Addr} {sl_rc : Array (Option Value)}
    {f_rr : Addr} {oc_rr kV_rr dc_rr pm_rr cd_rr ct_rr : Value} {od_rr an_rr : Option Addr} {sl_rr : Array (Option Value)}
    {f_re : Addr} {oc_re kV_re dc_re pm_re cd_re ct_re : Value} {od_re an_re : Option Addr} {sl_re : Array (Option Value)}
    {f_rd : Addr} {oc_rd kV_rd dc_rd pm_rd cd_rd ct_rd : Value} {od_rd an_rd : Option Addr} {sl_rd : Array (Option Value)}
    {f_bi : Addr} {oc_bi kV_bi dc_bi pm_bi cd_bi ct_bi : Value} {od_bi an_bi : Option Addr} {sl_bi : Array (Option Value)}
    {f_bf : Addr} {oc_bf kV_bf dc_bf pm_bf cd_bf ct_bf : Value} {od_bf an_bf : Option Addr} {sl_bf : Array (Option Value)}
    {f_bs : Addr} {oc_bs kV_bs dc_bs pm_bs cd_bs ct_bs : Value} {od_bs an_bs : Option Addr} {sl_bs : Array (Option Value)}
    {f_br : Addr} {oc_br kV_br dc_br pm_br cd_br ct_br : Value} {od_br an_br : Option Addr} {sl_br : Array (Option Value)}
    {f_bn : Addr} {oc_bn kV_bn dc_bn pm_bn cd_bn ct_bn : Value} {od_bn an_bn : Option Addr} {sl_bn : Array (Option Value)}
    {f_gi : Addr} {oc_gi kV_gi dc_gi pm_gi cd_gi ct_gi : Value} {od_gi an_gi : Option Addr} {sl_gi : Array (Option Value)}
    {f_eb : Addr} {oc_eb kV_eb dc_eb pm_eb cd_eb ct_eb : Value} {od_eb an_eb : Option Addr} {sl_eb : Array (Option Value)}
    {f_er : Addr} {oc_er kV_er dc_er pm_er cd_er ct_er : Value} {od_er an_er : Option Addr} {sl_er : Array (Option Value)}
    {f_ec : Addr} {oc_ec kV_ec dc_ec pm_ec cd_ec ct_ec : Value} {od_ec an_ec : Option Addr} {sl_ec : Array (Option Value)}
    {CO : Addr}
    {pp_mh : Addr} {rs_mh : List Value}
    {pp_mf : Addr} {rs_mf : List Value}
    {pp_mn : Addr} {rs_mn : List Value}
    {RO : Addr}
    {pp_rn : Addr} {rs_rn : List Value}
    {pp_rc : Addr} {rs_rc : List Value}
    {pp_rr : Addr} {rs_rr : List Value}
    {pp_re : Addr} {rs_re : List Value}
    {pp_rd : Addr} {rs_rd : List Value}
    {BO : Addr}
    {pp_bf : Addr} {rs_bf : List Value}
    {pp_bs : Addr} {rs_bs : List Value}
    {pp_br : Addr} {rs_br : List Value}
    {pp_bn : Addr} {rs_bn : List Value}
    {cc_law : Addr} {ocl : Obj}
    {t_LETTERS : Tok}
    {t_LONGEST_NAME : Tok}
    {t_MOST_FACTS : Tok}
    {t_MOST_NAMES : Tok}
    {t_MOST_AROUND : Tok}
    {t_MOST_RULES : Tok}
    {t_MOST_OUTERMOST : Tok}
    {CE : Addr}
    {E0 : Addr}
    {E1 : Addr}
    {E2 : Addr}
    {E3 : Addr}
    {E4 : Addr}
    {E5 : Addr}
    {E6 : Addr}
    {E7 : Addr}
    {E8 : Addr}
    {E9 : Addr}
    {E10 : Addr}
    {E11 : Addr}
    {E12 : Addr}
    {E13 : Addr}
    {E14 : Addr}
    {E15 : Addr}
    {E16 : Addr}
    {nmE qE : Str} {NE : Addr} {bsE bmE suE : List Value} {snE : List Str} {abE : Bool} {colE : Option Bool} {ddE : Option Addr} {x0E x1E x2E x3E x5E : Option Value}
    {nmi0 qi0 : Str} {Ni0 : Addr} {bsi0 bmi0 sui0 : List Value} {sni0 : List Str} {abi0 : Bool} {coli0 : Option Bool} {ddi0 odii0 anii0 ccddi0 cddi0 : Option Addr} {x0i0 x1i0 x2i0 x3i0 x5i0 : Option Value} {fIi0 celi0 codi0 : Addr} {ocii0 kVii0 dcii0 pmii0 ctii0 clci0 ccli0 : Value} {slii0 csli0 ccsi0 : Array (Option Value)} {vsi0 : Array Value} {fili0 : Str} {tfii0 : Tok}
    {nmi3 qi3 : Str} {Ni3 : Addr} {bsi3 bmi3 sui3 : List Value} {sni3 : List Str} {abi3 : Bool} {coli3 : Option Bool} {ddi3 odii3 anii3 ccddi3 cddi3 : Option Addr} {x0i3 x1i3 x2i3 x3i3 x5i3 : Option Value} {fIi3 celi3 codi3 : Addr} {ocii3 kVii3 dcii3 pmii3 ctii3 clci3 ccli3 : Value} {slii3 csli3 ccsi3 : Array (Option Value)} {vsi3 : Array Value} {fili3 : Str} {tfii3 : Tok}
    {nmi5 qi5 : Str} {Ni5 : Addr} {bsi5 bmi5 sui5 : List Value} {sni5 : List Str} {abi5 : Bool} {coli5 : Option Bool} {ddi5 odii5 anii5 ccddi5 cddi5 : Option Addr} {x0i5 x1i5 x2i5 x3i5 x5i5 : Option Value} {fIi5 celi5 codi5 : Addr} {ocii5 kVii5 dcii5 pmii5 ctii5 clci5 ccli5 : Value} {slii5 csli5 ccsi5 : Array (Option Value)} {vsi5 : Array Value} {fili5 : Str} {tfii5 : Tok}
    {nmi6 qi6 : Str} {Ni6 : Addr} {bsi6 bmi6 sui6 : List Value} {sni6 : List Str} {abi6 : Bool} {coli6 : Option Bool} {ddi6 odii6 anii6 ccddi6 cddi6 : Option Addr} {x0i6 x1i6 x2i6 x3i6 x5i6 : Option Value} {fIi6 celi6 codi6 : Addr} {ocii6 kVii6 dcii6 pmii6 ctii6 clci6 ccli6 : Value} {slii6 csli6 ccsi6 : Array (Option Value)} {vsi6 : Array Value} {fili6 : Str} {tfii6 : Tok}
    (a_is_name : PySem.W.nsIn K mainGlobals "is_name" = some (some (.ref f_is_name)))
    (l_is_name : K.lookup f_is_name = some ⟨oc_is_name, od_is_name, .func (PySem.W.fnOf "is_name" "is_name" (defArgs s_is_name) (defBody s_is_name) (defScope s_is_name) .none kV_is_name dc_is_name pm_is_name an_is_name cd_is_name ct_is_name), sl_is_name⟩)
    (c_is_name : PySem.W.codeIn K cd_is_name "is_name" = true)
    (k_is_name : PySem.W.keepIn K (.ref f_is_name) = true)
    (a_rises : PySem.W.nsIn K mainGlobals "rises" = some (some (.ref f_rises)))
    (l_rises : K.lookup f_rises = some ⟨oc_rises, od_rises, .func (PySem.W.fnOf "rises" "rises" (defArgs s_rises) (defBody s_rises) (defScope s_rises) .none kV_rises dc_rises pm_rises an_rises cd_rises ct_rises), sl_rises⟩)
    (c_rises : PySem.W.codeIn K cd_rises "rises" = true)
    (k_rises : PySem.W.keepIn K (.ref f_rises) = true)
    (a_check_facts : PySem.W.nsIn K mainGlobals "check_facts" = some (some (.ref f_check_facts)))
    (l_check_facts : K.lookup f_check_facts = some ⟨oc_check_facts, od_check_facts, .func (PySem.W.fnOf "check_facts" "check_facts" (defArgs s_check_facts) (defBody s_check_facts) (defScope s_check_facts) .none kV_check_facts dc_check_facts pm_check_facts an_check_facts cd_check_facts ct_check_facts), sl_check_facts⟩)
    (c_check_facts : PySem.W.codeIn K cd_check_facts "check_facts" = true)
    (k_check_facts : PySem.W.keepIn K (.ref f_check_facts) = true)
    (a_nested : PySem.W.nsIn K mainGlobals "nested" = some (some (.ref f_nested)))
    (l_nested : K.lookup f_nested = some ⟨oc_nested, od_nested, .func (PySem.W.fnOf "nested" "nested" (defArgs s_nested) (defBody s_nested) (defScope s_nested) .none kV_nested dc_nested pm_nested an_nested cd_nested ct_nested), sl_nested⟩)
    (c_nested : PySem.W.codeIn K cd_nested "nested" = true)
    (k_nested : PySem.W.keepIn K (.ref f_nested) = true)
    (a_check_rules : PySem.W.nsIn K mainGlobals "check_rules" = some (some (.ref f_check_rules)))
    (l_check_rules : K.lookup f_check_rules = some ⟨oc_check_rules, od_check_rules, .func (PySem.W.fnOf "check_rules" "check_rules" (defArgs s_check_rules) (defBody s_check_rules) (defScope s_check_rules) .none kV_check_rules dc_check_rules pm_check_rules an_check_rules cd_check_rules ct_check_rules), sl_check_rules⟩)
    (c_check_rules : PySem.W.codeIn K cd_check_rules "check_rules" = true)
    (k_check_rules : PySem.W.keepIn K (.ref f_check_rules) = true)
    (a_check_part : PySem.W.nsIn K mainGlobals "check_part" = some (some (.ref f_check_part)))
    (l_check_part : K.lookup f_check_part = some ⟨oc_check_part, od_check_part, .func (PySem.W.fnOf "check_part" "check_part" (defArgs s_check_part) (defBody s_check_part) (defScope s_check_part) .none kV_check_part dc_check_part pm_check_part an_check_part cd_check_part ct_check_part), sl_check_part⟩)
    (c_check_part : PySem.W.codeIn K cd_check_part "check_part" = true)
    (k_check_part : PySem.W.keepIn K (.ref f_check_part) = true)
    (a_merged : PySem.W.nsIn K mainGlobals "merged" = some (some (.ref f_merged)))
    (l_merged : K.lookup f_merged = some ⟨oc_merged, od_merged, .func (PySem.W.fnOf "merged" "merged" (defArgs s_merged) (defBody s_merged) (defScope s_merged) .none kV_merged dc_merged pm_merged an_merged cd_merged ct_merged), sl_merged⟩)
    (c_merged : PySem.W.codeIn K cd_merged "merged" = true)
    (k_merged : PySem.W.keepIn K (.ref f_merged) = true)
    (a_bits_of : PySem.W.nsIn K mainGlobals "bits_of" = some (some (.ref f_bits_of)))
    (l_bits_of : K.lookup f_bits_of = some ⟨oc_bits_of, od_bits_of, .func (PySem.W.fnOf "bits_of" "bits_of" (defArgs s_bits_of) (defBody s_bits_of) (defScope s_bits_of) .none kV_bits_of dc_bits_of pm_bits_of an_bits_of cd_bits_of ct_bits_of), sl_bits_of⟩)
    (c_bits_of : PySem.W.codeIn K cd_bits_of "bits_of" = true)
    (k_bits_of : PySem.W.keepIn K (.ref f_bits_of) = true)
    (a_names_of : PySem.W.nsIn K mainGlobals "names_of" = some (some (.ref f_names_of)))
    (l_names_of : K.lookup f_names_of = some ⟨oc_names_of, od_names_of, .func (PySem.W.fnOf "names_of" "names_of" (defArgs s_names_of) (defBody s_names_of) (defScope s_names_of) .none kV_names_of dc_names_of pm_names_of an_names_of cd_names_of ct_names_of), sl_names_of⟩)
    (c_names_of : PySem.W.codeIn K cd_names_of "names_of" = true)
    (k_names_of : PySem.W.keepIn K (.ref f_names_of) = true)
    (a_cube_of : PySem.W.nsIn K mainGlobals "cube_of" = some (some (.ref f_cube_of)))
    (l_cube_of : K.lookup f_cube_of = some ⟨oc_cube_of, od_cube_of, .func (PySem.W.fnOf "cube_of" "cube_of" (defArgs s_cube_of) (defBody s_cube_of) (defScope s_cube_of) .none kV_cube_of dc_cube_of pm_cube_of an_cube_of cd_cube_of ct_cube_of), sl_cube_of⟩)
    (c_cube_of : PySem.W.codeIn K cd_cube_of "cube_of" = true)
    (k_cube_of : PySem.W.keepIn K (.ref f_cube_of) = true)
    (a_clash : PySem.W.nsIn K mainGlobals "clash" = some (some (.ref f_clash)))
    (l_clash : K.lookup f_clash = some ⟨oc_clash, od_clash, .func (PySem.W.fnOf "clash" "clash" (defArgs s_clash) (defBody s_clash) (defScope s_clash) .none kV_clash dc_clash pm_clash an_clash cd_clash ct_clash), sl_clash⟩)
    (c_clash : PySem.W.codeIn K cd_clash "clash" = true)
    (k_clash : PySem.W.keepIn K (.ref f_clash) = true)
    (a_joined : PySem.W.nsIn K mainGlobals "joined" = some (some (.ref f_joined)))
    (l_joined : K.lookup f_joined = some ⟨oc_joined, od_joined, .func (PySem.W.fnOf "joined" "joined" (defArgs s_joined) (defBody s_joined) (defScope s_joined) .none kV_joined dc_joined pm_joined an_joined cd_joined ct_joined), sl_joined⟩)
    (c_joined : PySem.W.codeIn K cd_joined "joined" = true)
    (k_joined : PySem.W.keepIn K (.ref f_joined) = true)
    (a_clashes_within : PySem.W.nsIn K mainGlobals "clashes_within" = some (some (.ref f_clashes_within)))
    (l_clashes_within : K.lookup f_clashes_within = some ⟨oc_clashes_within, od_clashes_within, .func (PySem.W.fnOf "clashes_within" "clashes_within" (defArgs s_clashes_within) (defBody s_clashes_within) (defScope s_clashes_within) .none kV_clashes_within dc_clashes_within pm_clashes_within an_clashes_within cd_clashes_within ct_clashes_within), sl_clashes_within⟩)
    (c_clashes_within : PySem.W.codeIn K cd_clashes_within "clashes_within" = true)
    (k_clashes_within : PySem.W.keepIn K (.ref f_clashes_within) = true)
    (a_clashes : PySem.W.nsIn K mainGlobals "clashes" = some (some (.ref f_clashes)))
    (l_clashes : K.lookup f_clashes = some ⟨oc_clashes, od_clashes, .func (PySem.W.fnOf "clashes" "clashes" (defArgs s_clashes) (defBody s_clashes) (defScope s_clashes) .none kV_clashes dc_clashes pm_clashes an_clashes cd_clashes ct_clashes), sl_clashes⟩)
    (c_clashes : PySem.W.codeIn K cd_clashes "clashes" = true)
    (k_clashes : PySem.W.keepIn K (.ref f_clashes) = true)
    (a_path_to : PySem.W.nsIn K mainGlobals "path_to" = some (some (.ref f_path_to)))
    (l_path_to : K.lookup f_path_to = some ⟨oc_path_to, od_path_to, .func (PySem.W.fnOf "path_to" "path_to" (defArgs s_path_to) (defBody s_path_to) (defScope s_path_to) .none kV_path_to dc_path_to pm_path_to an_path_to cd_path_to ct_path_to), sl_path_to⟩)
    (c_path_to : PySem.W.codeIn K cd_path_to "path_to" = true)
    (k_path_to : PySem.W.keepIn K (.ref f_path_to) = true)
    (a_next_beside : PySem.W.nsIn K mainGlobals "next_beside" = some (some (.ref f_next_beside)))
    (l_next_beside : K.lookup f_next_beside = some ⟨oc_next_beside, od_next_beside, .func (PySem.W.fnOf "next_beside" "next_beside" (defArgs s_next_beside) (defBody s_next_beside) (defScope s_next_beside) .none kV_next_beside dc_next_beside pm_next_beside an_next_beside cd_next_beside ct_next_beside), sl_next_beside⟩)
    (c_next_beside : PySem.W.codeIn K cd_next_beside "next_beside" = true)
    (k_next_beside : PySem.W.keepIn K (.ref f_next_beside) = true)
    (a_replaced : PySem.W.nsIn K mainGlobals "replaced" = some (some (.ref f_replaced)))
    (l_replaced : K.lookup f_replaced = some ⟨oc_replaced, od_replaced, .func (PySem.W.fnOf "replaced" "replaced" (defArgs s_replaced) (defBody s_replaced) (defScope s_replaced) .none kV_replaced dc_replaced pm_replaced an_replaced cd_replaced ct_replaced), sl_replaced⟩)
    (c_replaced : PySem.W.codeIn K cd_replaced "replaced" = true)
    (k_replaced : PySem.W.keepIn K (.ref f_replaced) = true)
    (a_swapped : PySem.W.nsIn K mainGlobals "swapped" = some (some (.ref f_swapped)))
    (l_swapped : K.lookup f_swapped = some ⟨oc_swapped, od_swapped, .func (PySem.W.fnOf "swapped" "swapped" (defArgs s_swapped) (defBody s_swapped) (defScope s_swapped) .none kV_swapped dc_swapped pm_swapped an_swapped cd_swapped ct_swapped), sl_swapped⟩)
    (c_swapped : PySem.W.codeIn K cd_swapped "swapped" = true)
    (k_swapped : PySem.W.keepIn K (.ref f_swapped) = true)
    (a__law_mix : PySem.W.nsIn K mainGlobals "_law_mix" = some (some (.ref f__law_mix)))
    (l__law_mix : K.lookup f__law_mix = some ⟨oc__law_mix, od__law_mix, .func (PySem.W.fnOf "_law_mix" "_law_mix" (defArgs s__law_mix) (defBody s__law_mix) (defScope s__law_mix) .none kV__law_mix dc__law_mix pm__law_mix an__law_mix cd__law_mix ct__law_mix), sl__law_mix⟩)
    (c__law_mix : PySem.W.codeIn K cd__law_mix "_law_mix" = true)
    (k__law_mix : PySem.W.keepIn K (.ref f__law_mix) = true)
    (a__law_next : PySem.W.nsIn K mainGlobals "_law_next" = some (some (.ref f__law_next)))
    (l__law_next : K.lookup f__law_next = some ⟨oc__law_next, od__law_next, .func (PySem.W.fnOf "_law_next" "_law_next" (defArgs s__law_next) (defBody s__law_next) (defScope s__law_next) .none kV__law_next dc__law_next pm__law_next an__law_next cd__law_next ct__law_next), sl__law_next⟩)
    (c__law_next : PySem.W.codeIn K cd__law_next "_law_next" = true)
    (k__law_next : PySem.W.keepIn K (.ref f__law_next) = true)
    (a__law_alike : PySem.W.nsIn K mainGlobals "_law_alike" = some (some (.ref f__law_alike)))
    (l__law_alike : K.lookup f__law_alike = some ⟨oc__law_alike, od__law_alike, .func (PySem.W.fnOf "_law_alike" "_law_alike" (defArgs s__law_alike) (defBody s__law_alike) (defScope s__law_alike) .none kV__law_alike dc__law_alike pm__law_alike an__law_alike cd__law_alike ct__law_alike), sl__law_alike⟩)
    (c__law_alike : PySem.W.codeIn K cd__law_alike "_law_alike" = true)
    (k__law_alike : PySem.W.keepIn K (.ref f__law_alike) = true)
    (a__law_error : PySem.W.nsIn K mainGlobals "_law_error" = some (some (.ref f__law_error)))
    (l__law_error : K.lookup f__law_error = some ⟨oc__law_error, od__law_error, .func (PySem.W.fnOf "_law_error" "_law_error" (defArgs s__law_error) (defBody s__law_error) (defScope s__law_error) .none kV__law_error dc__law_error pm__law_error an__law_error cd__law_error ct__law_error), sl__law_error⟩)
    (c__law_error : PySem.W.codeIn K cd__law_error "_law_error" = true)
    (k__law_error : PySem.W.keepIn K (.ref f__law_error) = true)
    (a__law_facts : PySem.W.nsIn K mainGlobals "_law_facts" = some (some (.ref f__law_facts)))
    (l__law_facts : K.lookup f__law_facts = some ⟨oc__law_facts, od__law_facts, .func (PySem.W.fnOf "_law_facts" "_law_facts" (defArgs s__law_facts) (defBody s__law_facts) (defScope s__law_facts) .none kV__law_facts dc__law_facts pm__law_facts an__law_facts cd__law_facts ct__law_facts), sl__law_facts⟩)
    (c__law_facts : PySem.W.codeIn K cd__law_facts "_law_facts" = true)
    (k__law_facts : PySem.W.keepIn K (.ref f__law_facts) = true)
    (a__law_parts : PySem.W.nsIn K mainGlobals "_law_parts" = some (some (.ref f__law_parts)))
    (l__law_parts : K.lookup f__law_parts = some ⟨oc__law_parts, od__law_parts, .func (PySem.W.fnOf "_law_parts" "_law_parts" (defArgs s__law_parts) (defBody s__law_parts) (defScope s__law_parts) .none kV__law_parts dc__law_parts pm__law_parts an__law_parts cd__law_parts ct__law_parts), sl__law_parts⟩)
    (c__law_parts : PySem.W.codeIn K cd__law_parts "_law_parts" = true)
    (k__law_parts : PySem.W.keepIn K (.ref f__law_parts) = true)
    (a__law_rules : PySem.W.nsIn K mainGlobals "_law_rules" = some (some (.ref f__law_rules)))
    (l__law_rules : K.lookup f__law_rules = some ⟨oc__law_rules, od__law_rules, .func (PySem.W.fnOf "_law_rules" "_law_rules" (defArgs s__law_rules) (defBody s__law_rules) (defScope s__law_rules) .none kV__law_rules dc__law_rules pm__law_rules an__law_rules cd__law_rules ct__law_rules), sl__law_rules⟩)
    (c__law_rules : PySem.W.codeIn K cd__law_rules "_law_rules" = true)
    (k__law_rules : PySem.W.keepIn K (.ref f__law_rules) = true)
    (a__law_rule : PySem.W.nsIn K mainGlobals "_law_rule" = some (some (.ref f__law_rule)))
    (l__law_rule : K.lookup f__law_rule = some ⟨oc__law_rule, od__law_rule, .func (PySem.W.fnOf "_law_rule" "_law_rule" (defArgs s__law_rule) (defBody s__law_rule) (defScope s__law_rule) .none kV__law_rule dc__law_rule pm__law_rule an__law_rule cd__law_rule ct__law_rule), sl__law_rule⟩)
    (c__law_rule : PySem.W.codeIn K cd__law_rule "_law_rule" = true)
    (k__law_rule : PySem.W.keepIn K (.ref f__law_rule) = true)
    (a__law_book : PySem.W.nsIn K mainGlobals "_law_book" = some (some (.ref f__law_book)))
    (l__law_book : K.lookup f__law_book = some ⟨oc__law_book, od__law_book, .func (PySem.W.fnOf "_law_book" "_law_book" (defArgs s__law_book) (defBody s__law_book) (defScope s__law_book) .none kV__law_book dc__law_book pm__law_book an__law_book cd__law_book ct__law_book), sl__law_book⟩)
    (c__law_book : PySem.W.codeIn K cd__law_book "_law_book" = true)
    (k__law_book : PySem.W.keepIn K (.ref f__law_book) = true)
    (a__law_case : PySem.W.nsIn K mainGlobals "_law_case" = some (some (.ref f__law_case)))
    (l__law_case : K.lookup f__law_case = some ⟨oc__law_case, od__law_case, .func (PySem.W.fnOf "_law_case" "_law_case" (defArgs s__law_case) (defBody s__law_case) (defScope s__law_case) .none kV__law_case dc__law_case pm__law_case an__law_case cd__law_case ct__law_case), sl__law_case⟩)
    (c__law_case : PySem.W.codeIn K cd__law_case "_law_case" = true)
    (k__law_case : PySem.W.keepIn K (.ref f__law_case) = true)
    (a__law_every : PySem.W.nsIn K mainGlobals "_law_every" = some (some (.ref f__law_every)))
    (l__law_every : K.lookup f__law_every = some ⟨oc__law_every, od__law_every, .func (PySem.W.fnOf "_law_every" "_law_every" (defArgs s__law_every) (defBody s__law_every) (defScope s__law_every) .none kV__law_every dc__law_every pm__law_every an__law_every cd__law_every ct__law_every), sl__law_every⟩)
    (c__law_every : PySem.W.codeIn K cd__law_every "_law_every" = true)
    (k__law_every : PySem.W.keepIn K (.ref f__law_every) = true)
    (a__law_meets : PySem.W.nsIn K mainGlobals "_law_meets" = some (some (.ref f__law_meets)))
    (l__law_meets : K.lookup f__law_meets = some ⟨oc__law_meets, od__law_meets, .func (PySem.W.fnOf "_law_meets" "_law_meets" (defArgs s__law_meets) (defBody s__law_meets) (defScope s__law_meets) .none kV__law_meets dc__law_meets pm__law_meets an__law_meets cd__law_meets ct__law_meets), sl__law_meets⟩)
    (c__law_meets : PySem.W.codeIn K cd__law_meets "_law_meets" = true)
    (k__law_meets : PySem.W.keepIn K (.ref f__law_meets) = true)
    (a__law_pairs : PySem.W.nsIn K mainGlobals "_law_pairs" = some (some (.ref f__law_pairs)))
    (l__law_pairs : K.lookup f__law_pairs = some ⟨oc__law_pairs, od__law_pairs, .func (PySem.W.fnOf "_law_pairs" "_law_pairs" (defArgs s__law_pairs) (defBody s__law_pairs) (defScope s__law_pairs) .none kV__law_pairs dc__law_pairs pm__law_pairs an__law_pairs cd__law_pairs ct__law_pairs), sl__law_pairs⟩)
    (c__law_pairs : PySem.W.codeIn K cd__law_pairs "_law_pairs" = true)
    (k__law_pairs : PySem.W.keepIn K (.ref f__law_pairs) = true)
    (a__law_changed : PySem.W.nsIn K mainGlobals "_law_changed" = some (some (.ref f__law_changed)))
    (l__law_changed : K.lookup f__law_changed = some ⟨oc__law_changed, od__law_changed, .func (PySem.W.fnOf "_law_changed" "_law_changed" (defArgs s__law_changed) (defBody s__law_changed) (defScope s__law_changed) .none kV__law_changed dc__law_changed pm__law_changed an__law_changed cd__law_changed ct__law_changed), sl__law_changed⟩)
    (c__law_changed : PySem.W.codeIn K cd__law_changed "_law_changed" = true)
    (k__law_changed : PySem.W.keepIn K (.ref f__law_changed) = true)
    (a_law : PySem.W.nsIn K mainGlobals "law" = some (some (.ref f_law)))
    (l_law : K.lookup f_law = some ⟨oc_law, od_law, .func (PySem.W.fnOf "law" "law" (defArgs s_law) (defBody s_law) (defScope s_law) .none kV_law dc_law pm_law an_law (.ref cc_law) ct_law), sl_law⟩)
    (c_law : PySem.W.codeIn K (.ref cc_law) "law" = true)
    (k_law : PySem.W.keepIn K (.ref f_law) = true)
    (co : PySem.W.nsIn K mainGlobals "Condition" = some (some (.ref CO)))
    (co_mk : PySem.W.makesIn K CO = true)
    (co_in : PySem.W.findIn K (.ref CO) "__init__" = some (some (.ref f_mi)))
    (co_fn : PySem.W.isFn K (.ref f_mi) = true)
    (co_kp : PySem.W.keepIn K (.ref CO) = true)
    (co_pg : PySem.W.plainGet K CO Str.empty = true)
    (co_hd : PySem.W.hasDictIn K CO = true)
    (co_po : PySem.W.plainOver K CO = true)
    (co_sa : PySem.W.findIn K (.ref CO) "__setattr__" = some (some (.builtin "object.__setattr__")))
    (co_n1 : PySem.W.findIn K (.ref CO) "_holding" = some none)
    (co_n2 : PySem.W.findIn K (.ref CO) "_failing" = some none)
    (co_n3 : PySem.W.findIn K (.ref CO) "_names" = some none)
    (pa_mh : PySem.W.findIn K (.ref CO) "holding" = some (some (.ref pp_mh)))
    (pg_mh : PySem.W.specialIn K (.ref pp_mh) "__get__" = some (some (.builtin "property.__get__")))
    (pt_mh : PySem.W.takesIn K (.ref pp_mh) = some true)
    (pr_mh : PySem.W.recIn K pp_mh "property" = some (.ref f_mh :: rs_mh))
    (pa_mf : PySem.W.findIn K (.ref CO) "failing" = some (some (.ref pp_mf)))
    (pg_mf : PySem.W.specialIn K (.ref pp_mf) "__get__" = some (some (.builtin "property.__get__")))
    (pt_mf : PySem.W.takesIn K (.ref pp_mf) = some true)
    (pr_mf : PySem.W.recIn K pp_mf "property" = some (.ref f_mf :: rs_mf))
    (pa_mn : PySem.W.findIn K (.ref CO) "names" = some (some (.ref pp_mn)))
    (pg_mn : PySem.W.specialIn K (.ref pp_mn) "__get__" = some (some (.builtin "property.__get__")))
    (pt_mn : PySem.W.takesIn K (.ref pp_mn) = some true)
    (pr_mn : PySem.W.recIn K pp_mn "property" = some (.ref f_mn :: rs_mn))
    (ro : PySem.W.nsIn K mainGlobals "Rule" = some (some (.ref RO)))
    (ro_mk : PySem.W.makesIn K RO = true)
    (ro_in : PySem.W.findIn K (.ref RO) "__init__" = some (some (.ref f_ri)))
    (ro_fn : PySem.W.isFn K (.ref f_ri) = true)
    (ro_kp : PySem.W.keepIn K (.ref RO) = true)
    (ro_pg : PySem.W.plainGet K RO Str.empty = true)
    (ro_hd : PySem.W.hasDictIn K RO = true)
    (ro_po : PySem.W.plainOver K RO = true)
    (ro_sa : PySem.W.findIn K (.ref RO) "__setattr__" = some (some (.builtin "object.__setattr__")))
    (ro_n1 : PySem.W.findIn K (.ref RO) "_name" = some none)
    (ro_n2 : PySem.W.findIn K (.ref RO) "_condition" = some none)
    (ro_n3 : PySem.W.findIn K (.ref RO) "_ruling" = some none)
    (ro_n4 : PySem.W.findIn K (.ref RO) "_exceptions" = some none)
    (ro_n5 : PySem.W.findIn K (.ref RO) "_depth" = some none)
    (ro_n6 : PySem.W.findIn K (.ref RO) "_inside" = some none)
    (pa_rn : PySem.W.findIn K (.ref RO) "name" = some (some (.ref pp_rn)))
    (pg_rn : PySem.W.specialIn K (.ref pp_rn) "__get__" = some (some (.builtin "property.__get__")))
    (pt_rn : PySem.W.takesIn K (.ref pp_rn) = some true)
    (pr_rn : PySem.W.recIn K pp_rn "property" = some (.ref f_rn :: rs_rn))
    (pa_rc : PySem.W.findIn K (.ref RO) "condition" = some (some (.ref pp_rc)))
    (pg_rc : PySem.W.specialIn K (.ref pp_rc) "__get__" = some (some (.builtin "property.__get__")))
    (pt_rc : PySem.W.takesIn K (.ref pp_rc) = some true)
    (pr_rc : PySem.W.recIn K pp_rc "property" = some (.ref f_rc :: rs_rc))
    (pa_rr : PySem.W.findIn K (.ref RO) "ruling" = some (some (.ref pp_rr)))
    (pg_rr : PySem.W.specialIn K (.ref pp_rr) "__get__" = some (some (.builtin "property.__get__")))
    (pt_rr : PySem.W.takesIn K (.ref pp_rr) = some true)
    (pr_rr : PySem.W.recIn K pp_rr "property" = some (.ref f_rr :: rs_rr))
    (pa_re : PySem.W.findIn K (.ref RO) "exceptions" = some (some (.ref pp_re)))
    (pg_re : PySem.W.specialIn K (.ref pp_re) "__get__" = some (some (.builtin "property.__get__")))
    (pt_re : PySem.W.takesIn K (.ref pp_re) = some true)
    (pr_re : PySem.W.recIn K pp_re "property" = some (.ref f_re :: rs_re))
    (pa_rd : PySem.W.findIn K (.ref RO) "depth" = some (some (.ref pp_rd)))
    (pg_rd : PySem.W.specialIn K (.ref pp_rd) "__get__" = some (some (.builtin "property.__get__")))
    (pt_rd : PySem.W.takesIn K (.ref pp_rd) = some true)
    (pr_rd : PySem.W.recIn K pp_rd "property" = some (.ref f_rd :: rs_rd))
    (bo : PySem.W.nsIn K mainGlobals "Book" = some (some (.ref BO)))
    (bo_mk : PySem.W.makesIn K BO = true)
    (bo_in : PySem.W.findIn K (.ref BO) "__init__" = some (some (.ref f_bi)))
    (bo_fn : PySem.W.isFn K (.ref f_bi) = true)
    (bo_kp : PySem.W.keepIn K (.ref BO) = true)
    (bo_pg : PySem.W.plainGet K BO Str.empty = true)
    (bo_hd : PySem.W.hasDictIn K BO = true)
    (bo_po : PySem.W.plainOver K BO = true)
    (bo_sa : PySem.W.findIn K (.ref BO) "__setattr__" = some (some (.builtin "object.__setattr__")))
    (bo_n1 : PySem.W.findIn K (.ref BO) "_facts" = some none)
    (bo_n2 : PySem.W.findIn K (.ref BO) "_rules" = some none)
    (bo_n3 : PySem.W.findIn K (.ref BO) "_ruling" = some none)
    (bo_n4 : PySem.W.findIn K (.ref BO) "_numbered" = some none)
    (pa_bf : PySem.W.findIn K (.ref BO) "facts" = some (some (.ref pp_bf)))
    (pg_bf : PySem.W.specialIn K (.ref pp_bf) "__get__" = some (some (.builtin "property.__get__")))
    (pt_bf : PySem.W.takesIn K (.ref pp_bf) = some true)
    (pr_bf : PySem.W.recIn K pp_bf "property" = some (.ref f_bf :: rs_bf))
    (pa_bs : PySem.W.findIn K (.ref BO) "rules" = some (some (.ref pp_bs)))
    (pg_bs : PySem.W.specialIn K (.ref pp_bs) "__get__" = some (some (.builtin "property.__get__")))
    (pt_bs : PySem.W.takesIn K (.ref pp_bs) = some true)
    (pr_bs : PySem.W.recIn K pp_bs "property" = some (.ref f_bs :: rs_bs))
    (pa_br : PySem.W.findIn K (.ref BO) "ruling" = some (some (.ref pp_br)))
    (pg_br : PySem.W.specialIn K (.ref pp_br) "__get__" = some (some (.builtin "property.__get__")))
    (pt_br : PySem.W.takesIn K (.ref pp_br) = some true)
    (pr_br : PySem.W.recIn K pp_br "property" = some (.ref f_br :: rs_br))
    (pa_bn : PySem.W.findIn K (.ref BO) "names" = some (some (.ref pp_bn)))
    (pg_bn : PySem.W.specialIn K (.ref pp_bn) "__get__" = some (some (.builtin "property.__get__")))
    (pt_bn : PySem.W.takesIn K (.ref pp_bn) = some true)
    (pr_bn : PySem.W.recIn K pp_bn "property" = some (.ref f_bn :: rs_bn))
    (at_gi : PySem.W.findIn K (.ref BO) "__getitem__" = some (some (.ref f_gi)))
    (fn_gi : PySem.W.isFn K (.ref f_gi) = true)
    (at_eb : PySem.W.findIn K (.ref BO) "__eq__" = some (some (.ref f_eb)))
    (fn_eb : PySem.W.isFn K (.ref f_eb) = true)
    (at_er : PySem.W.findIn K (.ref RO) "__eq__" = some (some (.ref f_er)))
    (fn_er : PySem.W.isFn K (.ref f_er) = true)
    (at_ec : PySem.W.findIn K (.ref CO) "__eq__" = some (some (.ref f_ec)))
    (fn_ec : PySem.W.isFn K (.ref f_ec) = true)
    (co_ca : PySem.W.findIn K (.ref CO) "__class__" = some (some (.builtin "object.__class__")))
    (co_ob : PySem.W.mroIn K CO (.type "object") = some true)
    (co_ss : PySem.W.subIn K (.ref CO) (.ref CO) = some true)
    (co_cl : PySem.W.isClsIn K CO = true)
    (co_ty : PySem.W.typeIn K (.ref CO) = some (.type "type"))
    (ro_ca : PySem.W.findIn K (.ref RO) "__class__" = some (some (.builtin "object.__class__")))
    (ro_ob : PySem.W.mroIn K RO (.type "object") = some true)
    (ro_ss : PySem.W.subIn K (.ref RO) (.ref RO) = some true)
    (ro_cl : PySem.W.isClsIn K RO = true)
    (ro_ty : PySem.W.typeIn K (.ref RO) = some (.type "type"))
    (bo_ca : PySem.W.findIn K (.ref BO) "__class__" = some (some (.builtin "object.__class__")))
    (bo_ob : PySem.W.mroIn K BO (.type "object") = some true)
    (bo_ss : PySem.W.subIn K (.ref BO) (.ref BO) = some true)
    (bo_cl : PySem.W.isClsIn K BO = true)
    (bo_ty : PySem.W.typeIn K (.ref BO) = some (.type "type"))
    (bo_ne : PySem.W.findIn K (.ref BO) "__ne__" = some (some (.builtin "object.__ne__")))
    (fi_gi : PySem.W.fnIn K f_gi = true)
    (l_mi : K.lookup f_mi = some ⟨oc_mi, od_mi, .func (PySem.W.fnOf "__init__" "Condition.__init__" (defArgs s_Condition___init__) (defBody s_Condition___init__) (defScope s_Condition___init__) .none kV_mi dc_mi pm_mi an_mi cd_mi ct_mi), sl_mi⟩)
    (c_mi : PySem.W.codeIn K cd_mi "Condition.__init__" = true)
    (k_mi : PySem.W.keepIn K (.ref f_mi) = true)
    (l_mh : K.lookup f_mh = some ⟨oc_mh, od_mh, .func (PySem.W.fnOf "holding" "Condition.holding" (defArgs s_Condition_holding) (defBody s_Condition_holding) (defScope s_Condition_holding) .none kV_mh dc_mh pm_mh an_mh cd_mh ct_mh), sl_mh⟩)
    (c_mh : PySem.W.codeIn K cd_mh "Condition.holding" = true)
    (k_mh : PySem.W.keepIn K (.ref f_mh) = true)
    (l_mf : K.lookup f_mf = some ⟨oc_mf, od_mf, .func (PySem.W.fnOf "failing" "Condition.failing" (defArgs s_Condition_failing) (defBody s_Condition_failing) (defScope s_Condition_failing) .none kV_mf dc_mf pm_mf an_mf cd_mf ct_mf), sl_mf⟩)
    (c_mf : PySem.W.codeIn K cd_mf "Condition.failing" = true)
    (k_mf : PySem.W.keepIn K (.ref f_mf) = true)
    (l_mn : K.lookup f_mn = some ⟨oc_mn, od_mn, .func (PySem.W.fnOf "names" "Condition.names" (defArgs s_Condition_names) (defBody s_Condition_names) (defScope s_Condition_names) .none kV_mn dc_mn pm_mn an_mn cd_mn ct_mn), sl_mn⟩)
    (c_mn : PySem.W.codeIn K cd_mn "Condition.names" = true)
    (k_mn : PySem.W.keepIn K (.ref f_mn) = true)
    (l_ri : K.lookup f_ri = some ⟨oc_ri, od_ri, .func (PySem.W.fnOf "__init__" "Rule.__init__" (defArgs s_Rule___init__) (defBody s_Rule___init__) (defScope s_Rule___init__) .none kV_ri dc_ri pm_ri an_ri cd_ri ct_ri), sl_ri⟩)
    (c_ri : PySem.W.codeIn K cd_ri "Rule.__init__" = true)
    (k_ri : PySem.W.keepIn K (.ref f_ri) = true)
    (l_rn : K.lookup f_rn = some ⟨oc_rn, od_rn, .func (PySem.W.fnOf "name" "Rule.name" (defArgs s_Rule_name) (defBody s_Rule_name) (defScope s_Rule_name) .none kV_rn dc_rn pm_rn an_rn cd_rn ct_rn), sl_rn⟩)
    (c_rn : PySem.W.codeIn K cd_rn "Rule.name" = true)
    (k_rn : PySem.W.keepIn K (.ref f_rn) = true)
    (l_rc : K.lookup f_rc = some ⟨oc_rc, od_rc, .func (PySem.W.fnOf "condition" "Rule.condition" (defArgs s_Rule_condition) (defBody s_Rule_condition) (defScope s_Rule_condition) .none kV_rc dc_rc pm_rc an_rc cd_rc ct_rc), sl_rc⟩)
    (c_rc : PySem.W.codeIn K cd_rc "Rule.condition" = true)
    (k_rc : PySem.W.keepIn K (.ref f_rc) = true)
    (l_rr : K.lookup f_rr = some ⟨oc_rr, od_rr, .func (PySem.W.fnOf "ruling" "Rule.ruling" (defArgs s_Rule_ruling) (defBody s_Rule_ruling) (defScope s_Rule_ruling) .none kV_rr dc_rr pm_rr an_rr cd_rr ct_rr), sl_rr⟩)
    (c_rr : PySem.W.codeIn K cd_rr "Rule.ruling" = true)
    (k_rr : PySem.W.keepIn K (.ref f_rr) = true)
    (l_re : K.lookup f_re = some ⟨oc_re, od_re, .func (PySem.W.fnOf "exceptions" "Rule.exceptions" (defArgs s_Rule_exceptions) (defBody s_Rule_exceptions) (defScope s_Rule_exceptions) .none kV_re dc_re pm_re an_re cd_re ct_re), sl_re⟩)
    (c_re : PySem.W.codeIn K cd_re "Rule.exceptions" = true)
    (k_re : PySem.W.keepIn K (.ref f_re) = true)
    (l_rd : K.lookup f_rd = some ⟨oc_rd, od_rd, .func (PySem.W.fnOf "depth" "Rule.depth" (defArgs s_Rule_depth) (defBody s_Rule_depth) (defScope s_Rule_depth) .none kV_rd dc_rd pm_rd an_rd cd_rd ct_rd), sl_rd⟩)
    (c_rd : PySem.W.codeIn K cd_rd "Rule.depth" = true)
    (k_rd : PySem.W.keepIn K (.ref f_rd) = true)
    (l_bi : K.lookup f_bi = some ⟨oc_bi, od_bi, .func (PySem.W.fnOf "__init__" "Book.__init__" (defArgs s_Book___init__) (defBody s_Book___init__) (defScope s_Book___init__) .none kV_bi dc_bi pm_bi an_bi cd_bi ct_bi), sl_bi⟩)
    (c_bi : PySem.W.codeIn K cd_bi "Book.__init__" = true)
    (k_bi : PySem.W.keepIn K (.ref f_bi) = true)
    (l_bf : K.lookup f_bf = some ⟨oc_bf, od_bf, .func (PySem.W.fnOf "facts" "Book.facts" (defArgs s_Book_facts) (defBody s_Book_facts) (defScope s_Book_facts) .none kV_bf dc_bf pm_bf an_bf cd_bf ct_bf), sl_bf⟩)
    (c_bf : PySem.W.codeIn K cd_bf "Book.facts" = true)
    (k_bf : PySem.W.keepIn K (.ref f_bf) = true)
    (l_bs : K.lookup f_bs = some ⟨oc_bs, od_bs, .func (PySem.W.fnOf "rules" "Book.rules" (defArgs s_Book_rules) (defBody s_Book_rules) (defScope s_Book_rules) .none kV_bs dc_bs pm_bs an_bs cd_bs ct_bs), sl_bs⟩)
    (c_bs : PySem.W.codeIn K cd_bs "Book.rules" = true)
    (k_bs : PySem.W.keepIn K (.ref f_bs) = true)
    (l_br : K.lookup f_br = some ⟨oc_br, od_br, .func (PySem.W.fnOf "ruling" "Book.ruling" (defArgs s_Book_ruling) (defBody s_Book_ruling) (defScope s_Book_ruling) .none kV_br dc_br pm_br an_br cd_br ct_br), sl_br⟩)
    (c_br : PySem.W.codeIn K cd_br "Book.ruling" = true)
    (k_br : PySem.W.keepIn K (.ref f_br) = true)
    (l_bn : K.lookup f_bn = some ⟨oc_bn, od_bn, .func (PySem.W.fnOf "names" "Book.names" (defArgs s_Book_names) (defBody s_Book_names) (defScope s_Book_names) .none kV_bn dc_bn pm_bn an_bn cd_bn ct_bn), sl_bn⟩)
    (c_bn : PySem.W.codeIn K cd_bn "Book.names" = true)
    (k_bn : PySem.W.keepIn K (.ref f_bn) = true)
    (l_gi : K.lookup f_gi = some ⟨oc_gi, od_gi, .func (PySem.W.fnOf "__getitem__" "Book.__getitem__" (defArgs s_Book___getitem__) (defBody s_Book___getitem__) (defScope s_Book___getitem__) .none kV_gi dc_gi pm_gi an_gi cd_gi ct_gi), sl_gi⟩)
    (c_gi : PySem.W.codeIn K cd_gi "Book.__getitem__" = true)
    (k_gi : PySem.W.keepIn K (.ref f_gi) = true)
    (l_eb : K.lookup f_eb = some ⟨oc_eb, od_eb, .func (PySem.W.fnOf "__eq__" "Book.__eq__" (defArgs s_Book___eq__) (defBody s_Book___eq__) (defScope s_Book___eq__) .none kV_eb dc_eb pm_eb an_eb cd_eb ct_eb), sl_eb⟩)
    (c_eb : PySem.W.codeIn K cd_eb "Book.__eq__" = true)
    (k_eb : PySem.W.keepIn K (.ref f_eb) = true)
    (l_er : K.lookup f_er = some ⟨oc_er, od_er, .func (PySem.W.fnOf "__eq__" "Rule.__eq__" (defArgs s_Rule___eq__) (defBody s_Rule___eq__) (defScope s_Rule___eq__) .none kV_er dc_er pm_er an_er cd_er ct_er), sl_er⟩)
    (c_er : PySem.W.codeIn K cd_er "Rule.__eq__" = true)
    (k_er : PySem.W.keepIn K (.ref f_er) = true)
    (l_ec : K.lookup f_ec = some ⟨oc_ec, od_ec, .func (PySem.W.fnOf "__eq__" "Condition.__eq__" (defArgs s_Condition___eq__) (defBody s_Condition___eq__) (defScope s_Condition___eq__) .none kV_ec dc_ec pm_ec an_ec cd_ec ct_ec), sl_ec⟩)
    (c_ec : PySem.W.codeIn K cd_ec "Condition.__eq__" = true)
    (k_ec : PySem.W.keepIn K (.ref f_ec) = true)
    (b_isinstance : PySem.W.nsIn K mainGlobals "isinstance" = some none)
    (b_len : PySem.W.nsIn K mainGlobals "len" = some none)
    (b_all : PySem.W.nsIn K mainGlobals "all" = some none)
    (b_any : PySem.W.nsIn K mainGlobals "any" = some none)
    (b_sum : PySem.W.nsIn K mainGlobals "sum" = some none)
    (b_max : PySem.W.nsIn K mainGlobals "max" = some none)
    (b_min : PySem.W.nsIn K mainGlobals "min" = some none)
    (b_int : PySem.W.nsIn K mainGlobals "int" = some none)
    (b_str : PySem.W.nsIn K mainGlobals "str" = some none)
    (b_bool : PySem.W.nsIn K mainGlobals "bool" = some none)
    (b_list : PySem.W.nsIn K mainGlobals "list" = some none)
    (b_tuple : PySem.W.nsIn K mainGlobals "tuple" = some none)
    (b_dict : PySem.W.nsIn K mainGlobals "dict" = some none)
    (b_range : PySem.W.nsIn K mainGlobals "range" = some none)
    (b_enumerate : PySem.W.nsIn K mainGlobals "enumerate" = some none)
    (b_sorted : PySem.W.nsIn K mainGlobals "sorted" = some none)
    (b_reversed : PySem.W.nsIn K mainGlobals "reversed" = some none)
    (b_zip : PySem.W.nsIn K mainGlobals "zip" = some none)
    (b_set : PySem.W.nsIn K mainGlobals "set" = some none)
    (b_ValueError : PySem.W.nsIn K mainGlobals "ValueError" = some none)
    (m_LETTERS : PySem.W.nsIn K mainGlobals "LETTERS" = some (some (.str letters t_LETTERS)))
    (m_LONGEST_NAME : PySem.W.nsIn K mainGlobals "LONGEST_NAME" = some (some (.int 8 t_LONGEST_NAME)))
    (m_MOST_FACTS : PySem.W.nsIn K mainGlobals "MOST_FACTS" = some (some (.int 60 t_MOST_FACTS)))
    (m_MOST_NAMES : PySem.W.nsIn K mainGlobals "MOST_NAMES" = some (some (.int 8 t_MOST_NAMES)))
    (m_MOST_AROUND : PySem.W.nsIn K mainGlobals "MOST_AROUND" = some (some (.int 5 t_MOST_AROUND)))
    (m_MOST_RULES : PySem.W.nsIn K mainGlobals "MOST_RULES" = some (some (.int 60 t_MOST_RULES)))
    (m_MOST_OUTERMOST : PySem.W.nsIn K mainGlobals "MOST_OUTERMOST" = some (some (.int 40 t_MOST_OUTERMOST)))
    (m_CourtError : PySem.W.nsIn K mainGlobals "CourtError" = some (some (.ref CE)))
    (m_InvalidFacts : PySem.W.nsIn K mainGlobals "InvalidFacts" = some (some (.ref E0)))
    (m_InvalidCase : PySem.W.nsIn K mainGlobals "InvalidCase" = some (some (.ref E1)))
    (m_InvalidNumber : PySem.W.nsIn K mainGlobals "InvalidNumber" = some (some (.ref E2)))
    (m_InvalidCondition : PySem.W.nsIn K mainGlobals "InvalidCondition" = some (some (.ref E3)))
    (m_NeverMet : PySem.W.nsIn K mainGlobals "NeverMet" = some (some (.ref E4)))
    (m_InvalidRule : PySem.W.nsIn K mainGlobals "InvalidRule" = some (some (.ref E5)))
    (m_InvalidBook : PySem.W.nsIn K mainGlobals "InvalidBook" = some (some (.ref E6)))
    (m_UnknownRule : PySem.W.nsIn K mainGlobals "UnknownRule" = some (some (.ref E7)))
    (m_InvalidRuling : PySem.W.nsIn K mainGlobals "InvalidRuling" = some (some (.ref E8)))
    (m_UnknownFact : PySem.W.nsIn K mainGlobals "UnknownFact" = some (some (.ref E9)))
    (m_NoReason : PySem.W.nsIn K mainGlobals "NoReason" = some (some (.ref E10)))
    (m_TooMany : PySem.W.nsIn K mainGlobals "TooMany" = some (some (.ref E11)))
    (m_InvalidChance : PySem.W.nsIn K mainGlobals "InvalidChance" = some (some (.ref E12)))
    (m_OtherFacts : PySem.W.nsIn K mainGlobals "OtherFacts" = some (some (.ref E13)))
    (m_NoNeighbor : PySem.W.nsIn K mainGlobals "NoNeighbor" = some (some (.ref E14)))
    (m_NoFacts : PySem.W.nsIn K mainGlobals "NoFacts" = some (some (.ref E15)))
    (m_AlreadyKnown : PySem.W.nsIn K mainGlobals "AlreadyKnown" = some (some (.ref E16)))
    (CEbe : PySem.W.subIn K (.ref CE) (.type "BaseException") = some true)
    (CEcl : PySem.W.isClsIn K CE = true)
    (CEty : PySem.W.typeIn K (.ref CE) = some (.type "type"))
    (u_0 : PySem.W.isClsIn K E0 = true)
    (v_0 : PySem.W.typeIn K (.ref E0) = some (.type "type"))
    (u_1 : PySem.W.isClsIn K E1 = true)
    (v_1 : PySem.W.typeIn K (.ref E1) = some (.type "type"))
    (u_2 : PySem.W.isClsIn K E2 = true)
    (v_2 : PySem.W.typeIn K (.ref E2) = some (.type "type"))
    (u_3 : PySem.W.isClsIn K E3 = true)
    (v_3 : PySem.W.typeIn K (.ref E3) = some (.type "type"))
    (u_4 : PySem.W.isClsIn K E4 = true)
    (v_4 : PySem.W.typeIn K (.ref E4) = some (.type "type"))
    (u_5 : PySem.W.isClsIn K E5 = true)
    (v_5 : PySem.W.typeIn K (.ref E5) = some (.type "type"))
    (u_6 : PySem.W.isClsIn K E6 = true)
    (v_6 : PySem.W.typeIn K (.ref E6) = some (.type "type"))
    (u_7 : PySem.W.isClsIn K E7 = true)
    (v_7 : PySem.W.typeIn K (.ref E7) = some (.type "type"))
    (u_8 : PySem.W.isClsIn K E8 = true)
    (v_8 : PySem.W.typeIn K (.ref E8) = some (.type "type"))
    (u_9 : PySem.W.isClsIn K E9 = true)
    (v_9 : PySem.W.typeIn K (.ref E9) = some (.type "type"))
    (u_10 : PySem.W.isClsIn K E10 = true)
    (v_10 : PySem.W.typeIn K (.ref E10) = some (.type "type"))
    (u_11 : PySem.W.isClsIn K E11 = true)
    (v_11 : PySem.W.typeIn K (.ref E11) = some (.type "type"))
    (u_12 : PySem.W.isClsIn K E12 = true)
    (v_12 : PySem.W.typeIn K (.ref E12) = some (.type "type"))
    (u_13 : PySem.W.isClsIn K E13 = true)
    (v_13 : PySem.W.typeIn K (.ref E13) = some (.type "type"))
    (u_14 : PySem.W.isClsIn K E14 = true)
    (v_14 : PySem.W.typeIn K (.ref E14) = some (.type "type"))
    (u_15 : PySem.W.isClsIn K E15 = true)
    (v_15 : PySem.W.typeIn K (.ref E15) = some (.type "type"))
    (u_16 : PySem.W.isClsIn K E16 = true)
    (v_16 : PySem.W.typeIn K (.ref E16) = some (.type "type"))
    (r7_cl : PySem.W.isClsIn K E7 = true)
    (r7_ga : PySem.W.findIn K (.ref E7) "__getattribute__" = some (some (.builtin "BaseException.__getattribute__")))
    (r7_gt : PySem.W.findIn K (.ref E7) "__getattr__" = some none)
    (r7_be : PySem.W.subIn K (.ref E7) (.type "BaseException") = some true)
    (r7_kc : PySem.W.findIn K (.ref E7) "__class__" = some (some (.builtin "object.__class__")))
    (r7_ob : PySem.W.mroIn K E7 (.type "object") = some true)
    (r7_hd : PySem.W.hasDictIn K E7 = true)
    (r7_sC : PySem.W.subIn K (.ref E7) (.ref CE) = some true)
    (r7_ve : PySem.W.subIn K (.ref E7) (.type "ValueError") = some true)
    (r7_k0 : PySem.W.subIn K (.ref E7) (.ref E0) = some false)
    (r7_k1 : PySem.W.subIn K (.ref E7) (.ref E1) = some false)
    (r7_k2 : PySem.W.subIn K (.ref E7) (.ref E2) = some false)
    (r7_k3 : PySem.W.subIn K (.ref E7) (.ref E3) = some false)
    (r7_k4 : PySem.W.subIn K (.ref E7) (.ref E4) = some false)
    (r7_k5 : PySem.W.subIn K (.ref E7) (.ref E5) = some false)
    (r7_k6 : PySem.W.subIn K (.ref E7) (.ref E6) = some false)
    (r7_k7 : PySem.W.subIn K (.ref E7) (.ref E7) = some true)
    (r7_k8 : PySem.W.subIn K (.ref E7) (.ref E8) = some false)
    (r7_k9 : PySem.W.subIn K (.ref E7) (.ref E9) = some false)
    (r7_k10 : PySem.W.subIn K (.ref E7) (.ref E10) = some false)
    (r7_k11 : PySem.W.subIn K (.ref E7) (.ref E11) = some false)
    (r7_k12 : PySem.W.subIn K (.ref E7) (.ref E12) = some false)
    (r7_k13 : PySem.W.subIn K (.ref E7) (.ref E13) = some false)
    (r7_k14 : PySem.W.subIn K (.ref E7) (.ref E14) = some false)
    (r7_k15 : PySem.W.subIn K (.ref E7) (.ref E15) = some false)
    (r7_k16 : PySem.W.subIn K (.ref E7) (.ref E16) = some false)
    (r7_n_index : PySem.W.findIn K (.ref E7) "index" = some none)
    (r7_n_part : PySem.W.findIn K (.ref E7) "part" = some none)
    (r7_n_word : PySem.W.findIn K (.ref E7) "word" = some none)
    (r7_n_fact : PySem.W.findIn K (.ref E7) "fact" = some none)
    (r14_cl : PySem.W.isClsIn K E14 = true)
    (r14_ga : PySem.W.findIn K (.ref E14) "__getattribute__" = some (some (.builtin "BaseException.__getattribute__")))
    (r14_gt : PySem.W.findIn K (.ref E14) "__getattr__" = some none)
    (r14_be : PySem.W.subIn K (.ref E14) (.type "BaseException") = some true)
    (r14_kc : PySem.W.findIn K (.ref E14) "__class__" = some (some (.builtin "object.__class__")))
    (r14_ob : PySem.W.mroIn K E14 (.type "object") = some true)
    (r14_hd : PySem.W.hasDictIn K E14 = true)
    (r14_sC : PySem.W.subIn K (.ref E14) (.ref CE) = some true)
    (r14_ve : PySem.W.subIn K (.ref E14) (.type "ValueError") = some true)
    (r14_k0 : PySem.W.subIn K (.ref E14) (.ref E0) = some false)
    (r14_k1 : PySem.W.subIn K (.ref E14) (.ref E1) = some false)
    (r14_k2 : PySem.W.subIn K (.ref E14) (.ref E2) = some false)
    (r14_k3 : PySem.W.subIn K (.ref E14) (.ref E3) = some false)
    (r14_k4 : PySem.W.subIn K (.ref E14) (.ref E4) = some false)
    (r14_k5 : PySem.W.subIn K (.ref E14) (.ref E5) = some false)
    (r14_k6 : PySem.W.subIn K (.ref E14) (.ref E6) = some false)
    (r14_k7 : PySem.W.subIn K (.ref E14) (.ref E7) = some false)
    (r14_k8 : PySem.W.subIn K (.ref E14) (.ref E8) = some false)
    (r14_k9 : PySem.W.subIn K (.ref E14) (.ref E9) = some false)
    (r14_k10 : PySem.W.subIn K (.ref E14) (.ref E10) = some false)
    (r14_k11 : PySem.W.subIn K (.ref E14) (.ref E11) = some false)
    (r14_k12 : PySem.W.subIn K (.ref E14) (.ref E12) = some false)
    (r14_k13 : PySem.W.subIn K (.ref E14) (.ref E13) = some false)
    (r14_k14 : PySem.W.subIn K (.ref E14) (.ref E14) = some true)
    (r14_k15 : PySem.W.subIn K (.ref E14) (.ref E15) = some false)
    (r14_k16 : PySem.W.subIn K (.ref E14) (.ref E16) = some false)
    (r14_n_index : PySem.W.findIn K (.ref E14) "index" = some none)
    (r14_n_part : PySem.W.findIn K (.ref E14) "part" = some none)
    (r14_n_word : PySem.W.findIn K (.ref E14) "word" = some none)
    (r14_n_fact : PySem.W.findIn K (.ref E14) "fact" = some none)
    (sg : PySem.W.specialIn K (.builtin "object.__class__") "__get__" = some (some (.builtin "getset_descriptor.__get__")))
    (tk : PySem.W.takesIn K (.builtin "object.__class__") = some true)
    (x_E : K.lookup CE = some (excClassObj nmE qE CE NE bsE bmE true snE suE abE colE ddE x0E x1E x2E x3E x5E "ValueError.__new__"))
    (f_E : PySem.W.findIn K (.ref CE) "__init__" = some (some (.builtin "ValueError.__init__")))
    (noS : PySem.W.nsIn K mainGlobals "super" = some none)
    (opq : PySem.W.nsIn K cStatics "thirdparty.any" = some none)
    (i0_x : K.lookup E0 = some (excClassObj nmi0 qi0 E0 Ni0 bsi0 bmi0 true sni0 sui0 abi0 coli0 ddi0 x0i0 x1i0 x2i0 x3i0 x5i0 "ValueError.__new__"))
    (i0_rv : HandSPX.refsVE bmi0 = true)
    (i0_sa : PySem.W.findIn K (.ref E0) "__setattr__" = some (some (.builtin "object.__setattr__")))
    (i0_ty : PySem.W.typeIn K (.ref E0) = some (.type "type"))
    (i0_kC : PySem.W.keepIn K (.ref E0) = true)
    (i0_in : PySem.W.findIn K (.ref E0) "__init__" = some (some (.ref fIi0)))
    (i0_tI : PySem.W.typeIn K (.ref fIi0) = some (.type "function"))
    (i0_lI : K.lookup fIi0 = some ⟨ocii0, odii0, .func (supFd (nf_InvalidFacts celi0 codi0) kVii0 dcii0 pmii0 anii0 ctii0), slii0⟩)
    (i0_cI : PySem.W.codeIn K (.ref codi0) "InvalidFacts.__init__" = true)
    (i0_ce : K.lookup celi0 = some ⟨clci0, ccddi0, .cell (some (.ref E0)), csli0⟩)
    (i0_co : K.lookup codi0 = some ⟨ccli0, cddi0, .fields vsi0, ccsi0⟩)
    (i0_fi : vsi0[2]? = some (.str fili0 tfii0))
    (i0_fe : ((P.main.file : Str) == fili0) = true)
    (i0_sb : PySem.W.mroIn K E0 (.ref E0) = some true)
    (i0_bm : bmi0 = .ref CE :: bmE)
    (i0_vB : PySem.W.subIn K (.ref E0) (.type "ValueError") = some true)
    (i0_bE : PySem.W.subIn K (.ref E0) (.type "BaseException") = some true)
    (i0_f_index : PySem.W.findIn K (.ref E0) "index" = some none)
    (i3_x : K.lookup E3 = some (excClassObj nmi3 qi3 E3 Ni3 bsi3 bmi3 true sni3 sui3 abi3 coli3 ddi3 x0i3 x1i3 x2i3 x3i3 x5i3 "ValueError.__new__"))
    (i3_rv : HandSPX.refsVE bmi3 = true)
    (i3_sa : PySem.W.findIn K (.ref E3) "__setattr__" = some (some (.builtin "object.__setattr__")))
    (i3_ty : PySem.W.typeIn K (.ref E3) = some (.type "type"))
    (i3_kC : PySem.W.keepIn K (.ref E3) = true)
    (i3_in : PySem.W.findIn K (.ref E3) "__init__" = some (some (.ref fIi3)))
    (i3_tI : PySem.W.typeIn K (.ref fIi3) = some (.type "function"))
    (i3_lI : K.lookup fIi3 = some ⟨ocii3, odii3, .func (supFd (nf_InvalidCondition celi3 codi3) kVii3 dcii3 pmii3 anii3 ctii3), slii3⟩)
    (i3_cI : PySem.W.codeIn K (.ref codi3) "InvalidCondition.__init__" = true)
    (i3_ce : K.lookup celi3 = some ⟨clci3, ccddi3, .cell (some (.ref E3)), csli3⟩)
    (i3_co : K.lookup codi3 = some ⟨ccli3, cddi3, .fields vsi3, ccsi3⟩)
    (i3_fi : vsi3[2]? = some (.str fili3 tfii3))
    (i3_fe : ((P.main.file : Str) == fili3) = true)
    (i3_sb : PySem.W.mroIn K E3 (.ref E3) = some true)
    (i3_bm : bmi3 = .ref CE :: bmE)
    (i3_vB : PySem.W.subIn K (.ref E3) (.type "ValueError") = some true)
    (i3_bE : PySem.W.subIn K (.ref E3) (.type "BaseException") = some true)
    (i3_f_part : PySem.W.findIn K (.ref E3) "part" = some none)
    (i3_f_index : PySem.W.findIn K (.ref E3) "index" = some none)
    (i5_x : K.lookup E5 = some (excClassObj nmi5 qi5 E5 Ni5 bsi5 bmi5 true sni5 sui5 abi5 coli5 ddi5 x0i5 x1i5 x2i5 x3i5 x5i5 "ValueError.__new__"))
    (i5_rv : HandSPX.refsVE bmi5 = true)
    (i5_sa : PySem.W.findIn K (.ref E5) "__setattr__" = some (some (.builtin "object.__setattr__")))
    (i5_ty : PySem.W.typeIn K (.ref E5) = some (.type "type"))
    (i5_kC : PySem.W.keepIn K (.ref E5) = true)
    (i5_in : PySem.W.findIn K (.ref E5) "__init__" = some (some (.ref fIi5)))
    (i5_tI : PySem.W.typeIn K (.ref fIi5) = some (.type "function"))
    (i5_lI : K.lookup fIi5 = some ⟨ocii5, odii5, .func (supFd (nf_InvalidRule celi5 codi5) kVii5 dcii5 pmii5 anii5 ctii5), slii5⟩)
    (i5_cI : PySem.W.codeIn K (.ref codi5) "InvalidRule.__init__" = true)
    (i5_ce : K.lookup celi5 = some ⟨clci5, ccddi5, .cell (some (.ref E5)), csli5⟩)
    (i5_co : K.lookup codi5 = some ⟨ccli5, cddi5, .fields vsi5, ccsi5⟩)
    (i5_fi : vsi5[2]? = some (.str fili5 tfii5))
    (i5_fe : ((P.main.file : Str) == fili5) = true)
    (i5_sb : PySem.W.mroIn K E5 (.ref E5) = some true)
    (i5_bm : bmi5 = .ref CE :: bmE)
    (i5_vB : PySem.W.subIn K (.ref E5) (.type "ValueError") = some true)
    (i5_bE : PySem.W.subIn K (.ref E5) (.type "BaseException") = some true)
    (i5_f_part : PySem.W.findIn K (.ref E5) "part" = some none)
    (i6_x : K.lookup E6 = some (excClassObj nmi6 qi6 E6 Ni6 bsi6 bmi6 true sni6 sui6 abi6 coli6 ddi6 x0i6 x1i6 x2i6 x3i6 x5i6 "ValueError.__new__"))
    (i6_rv : HandSPX.refsVE bmi6 = true)
    (i6_sa : PySem.W.findIn K (.ref E6) "__setattr__" = some (some (.builtin "object.__setattr__")))
    (i6_ty : PySem.W.typeIn K (.ref E6) = some (.type "type"))
    (i6_kC : PySem.W.keepIn K (.ref E6) = true)
    (i6_in : PySem.W.findIn K (.ref E6) "__init__" = some (some (.ref fIi6)))
    (i6_tI : PySem.W.typeIn K (.ref fIi6) = some (.type "function"))
    (i6_lI : K.lookup fIi6 = some ⟨ocii6, odii6, .func (supFd (nf_InvalidBook celi6 codi6) kVii6 dcii6 pmii6 anii6 ctii6), slii6⟩)
    (i6_cI : PySem.W.codeIn K (.ref codi6) "InvalidBook.__init__" = true)
    (i6_ce : K.lookup celi6 = some ⟨clci6, ccddi6, .cell (some (.ref E6)), csli6⟩)
    (i6_co : K.lookup codi6 = some ⟨ccli6, cddi6, .fields vsi6, ccsi6⟩)
    (i6_fi : vsi6[2]? = some (.str fili6 tfii6))
    (i6_fe : ((P.main.file : Str) == fili6) = true)
    (i6_sb : PySem.W.mroIn K E6 (.ref E6) = some true)
    (i6_bm : bmi6 = .ref CE :: bmE)
    (i6_vB : PySem.W.subIn K (.ref E6) (.type "ValueError") = some true)
    (i6_bE : PySem.W.subIn K (.ref E6) (.type "BaseException") = some true)
    (i6_f_word : PySem.W.findIn K (.ref E6) "word" = some none)
    (i6_f_index : PySem.W.findIn K (.ref E6) "index" = some none)
    (p7_q : PySem.W.excIn K E7 [.type "ValueError", .type "Exception", .type "BaseException", .type "object"] "ValueError.__new__" = true)
    (p7_k : PySem.W.keepIn K (.ref E7) = true)
    (p7_b : PySem.W.subIn K (.ref E7) (.type "BaseException") = some true)
    (p7_t : PySem.W.typeIn K (.ref E7) = some (.type "type"))
    (p14_q : PySem.W.excIn K E14 [.type "ValueError", .type "Exception", .type "BaseException", .type "object"] "ValueError.__new__" = true)
    (p14_k : PySem.W.keepIn K (.ref E14) = true)
    (p14_b : PySem.W.subIn K (.ref E14) (.type "BaseException") = some true)
    (p14_t : PySem.W.typeIn K (.ref E14) = some (.type "type"))
    (tbl : K.lookup cc_law = some ocl)
    (tb0 : PySem.W.codeHdIn [(cc_law, ocl)] cc_law Tb0 = true)
    (tb1 : h.get? Tb0 = some ⟨.none, none, .fields #[], #[]⟩)
    (tb2 : K.lookup Tb0 = none)
    (top0 : (P.main.scope.names.lookup ("super" : Str)).isSome = false) : LamX.LawAtS l w K CX0 36 63 "_law_script" mg fa h := by
  have e := hfa.symm.trans (PySem.W.mg_of X G a_law)
  cases e
  subst eP
  have B : Blt mg := ⟨PySem.W.mg_none_of X G b_isinstance, PySem.W.mg_none_of X G b_len, PySem.W.mg_none_of X G b_all, PySem.W.mg_none_of X G b_any, PySem.W.mg_none_of X G b_sum, PySem.W.mg_none_of X G b_max, PySem.W.mg_none_of X G b_min, PySem.W.mg_none_of X G b_int, PySem.W.mg_none_of X G b_str, PySem.W.mg_none_of X G b_bool, PySem.W.mg_none_of X G b_list, PySem.W.mg_none_of X G b_tuple, PySem.W.mg_none_of X G b_dict, PySem.W.mg_none_of X G b_range, PySem.W.mg_none_of X G b_enumerate, PySem.W.mg_none_of X G b_sorted, PySem.W.mg_none_of X G b_reversed, PySem.W.mg_none_of X G b_zip, PySem.W.mg_none_of X G b_set, PySem.W.mg_none_of X G b_ValueError⟩
  have GE : GErr mg (fun i => [E0, E1, E2, E3, E4, E5, E6, E7, E8, E9, E10, E11, E12, E13, E14, E15, E16].getD i E0) CE := ⟨PySem.W.mg_of X G m_CourtError, PySem.W.mg_of X G m_InvalidFacts, PySem.W.mg_of X G m_InvalidCase, PySem.W.mg_of X G m_InvalidNumber, PySem.W.mg_of X G m_InvalidCondition, PySem.W.mg_of X G m_NeverMet, PySem.W.mg_of X G m_InvalidRule, PySem.W.mg_of X G m_InvalidBook, PySem.W.mg_of X G m_UnknownRule, PySem.W.mg_of X G m_InvalidRuling, PySem.W.mg_of X G m_UnknownFact, PySem.W.mg_of X G m_NoReason, PySem.W.mg_of X G m_TooMany, PySem.W.mg_of X G m_InvalidChance, PySem.W.mg_of X G m_OtherFacts, PySem.W.mg_of X G m_NoNeighbor, PySem.W.mg_of X G m_NoFacts, PySem.W.mg_of X G m_AlreadyKnown⟩
  have F_is_name := fun_mk (st := s_is_name) l_is_name c_is_name k_is_name
  have b_is_name := F_is_name.binds (ps := ["value"]) fun _ _ _ _ _ _ us hl => match us, hl with | [_], _ => rfl
  have F_rises := fun_mk (st := s_rises) l_rises c_rises k_rises
  have b_rises := F_rises.binds (ps := ["names", "index"]) fun _ _ _ _ _ _ us hl => match us, hl with | [_, _], _ => rfl
  have F_check_facts := fun_mk (st := s_check_facts) l_check_facts c_check_facts k_check_facts
  have b_check_facts := F_check_facts.binds (ps := ["facts"]) fun _ _ _ _ _ _ us hl => match us, hl with | [_], _ => rfl
  have F_nested := fun_mk (st := s_nested) l_nested c_nested k_nested
  have b_nested := F_nested.binds (ps := ["rules", "around"]) fun _ _ _ _ _ _ us hl => match us, hl with | [_, _], _ => rfl
  have F_check_rules := fun_mk (st := s_check_rules) l_check_rules c_check_rules k_check_rules
  have b_check_rules := F_check_rules.binds (ps := ["facts", "rules"]) fun _ _ _ _ _ _ us hl => match us, hl with | [_, _], _ => rfl
  have F_check_part := fun_mk (st := s_check_part) l_check_part c_check_part k_check_part
  have b_check_part := F_check_part.binds (ps := ["part", "names", "before"]) fun _ _ _ _ _ _ us hl => match us, hl with | [_, _, _], _ => rfl
  have F_merged := fun_mk (st := s_merged) l_merged c_merged k_merged
  have b_merged := F_merged.binds (ps := ["names", "others"]) fun _ _ _ _ _ _ us hl => match us, hl with | [_, _], _ => rfl
  have F_bits_of := fun_mk (st := s_bits_of) l_bits_of c_bits_of k_bits_of
  have b_bits_of := F_bits_of.binds (ps := ["facts", "names"]) fun _ _ _ _ _ _ us hl => match us, hl with | [_, _], _ => rfl
  have F_names_of := fun_mk (st := s_names_of) l_names_of c_names_of k_names_of
  have b_names_of := F_names_of.binds (ps := ["facts", "bits"]) fun _ _ _ _ _ _ us hl => match us, hl with | [_, _], _ => rfl
  have F_cube_of := fun_mk (st := s_cube_of) l_cube_of c_cube_of k_cube_of
  have b_cube_of := F_cube_of.binds (ps := ["facts", "condition"]) fun _ _ _ _ _ _ us hl => match us, hl with | [_, _], _ => rfl
  have F_clash := fun_mk (st := s_clash) l_clash c_clash k_clash
  have b_clash := F_clash.binds (ps := ["cube", "other"]) fun _ _ _ _ _ _ us hl => match us, hl with | [_, _], _ => rfl
  have F_joined := fun_mk (st := s_joined) l_joined c_joined k_joined
  have b_joined := F_joined.binds (ps := ["cube", "other"]) fun _ _ _ _ _ _ us hl => match us, hl with | [_, _], _ => rfl
  have F_clashes_within := fun_mk (st := s_clashes_within) l_clashes_within c_clashes_within k_clashes_within
  have b_clashes_within := F_clashes_within.binds (ps := ["facts", "rules", "around"]) fun _ _ _ _ _ _ us hl => match us, hl with | [_, _, _], _ => rfl
  have F_clashes := fun_mk (st := s_clashes) l_clashes c_clashes k_clashes
  have b_clashes := F_clashes.binds (ps := ["book"]) fun _ _ _ _ _ _ us hl => match us, hl with | [_], _ => rfl
  have F_path_to := fun_mk (st := s_path_to) l_path_to c_path_to k_path_to
  have b_path_to := F_path_to.binds (ps := ["rules", "name"]) fun _ _ _ _ _ _ us hl => match us, hl with | [_, _], _ => rfl
  have F_next_beside := fun_mk (st := s_next_beside) l_next_beside c_next_beside k_next_beside
  have b_next_beside := F_next_beside.binds (ps := ["book", "name"]) fun _ _ _ _ _ _ us hl => match us, hl with | [_, _], _ => rfl
  have F_replaced := fun_mk (st := s_replaced) l_replaced c_replaced k_replaced
  have b_replaced := F_replaced.binds (ps := ["rules", "name", "others"]) fun _ _ _ _ _ _ us hl => match us, hl with | [_, _, _], _ => rfl
  have F_swapped := fun_mk (st := s_swapped) l_swapped c_swapped k_swapped
  have b_swapped := F_swapped.binds (ps := ["book", "name"]) fun _ _ _ _ _ _ us hl => match us, hl with | [_, _], _ => rfl
  have F__law_mix := fun_mk (st := s__law_mix) l__law_mix c__law_mix k__law_mix
  have b__law_mix := F__law_mix.binds (ps := ["_law_script", "_law_seed"]) fun _ _ _ _ _ _ us hl => match us, hl with | [_, _], _ => rfl
  have F__law_next := fun_mk (st := s__law_next) l__law_next c__law_next k__law_next
  have b__law_next := F__law_next.binds (ps := ["_law_h", "_law_limit"]) fun _ _ _ _ _ _ us hl => match us, hl with | [_, _], _ => rfl
  have F__law_alike := fun_mk (st := s__law_alike) l__law_alike c__law_alike k__law_alike
  have b__law_alike := F__law_alike.binds (ps := ["_law_found", "_law_due"]) fun _ _ _ _ _ _ us hl => match us, hl with | [_, _], _ => rfl
  have F__law_error := fun_mk (st := s__law_error) l__law_error c__law_error k__law_error
  have b__law_error := F__law_error.binds (ps := ["_law_call"]) fun _ _ _ _ _ _ us hl => match us, hl with | [_], _ => rfl
  have F__law_facts := fun_mk (st := s__law_facts) l__law_facts c__law_facts k__law_facts
  have b__law_facts := F__law_facts.binds (ps := ["_law_h", "_law_count"]) fun _ _ _ _ _ _ us hl => match us, hl with | [_, _], _ => rfl
  have F__law_parts := fun_mk (st := s__law_parts) l__law_parts c__law_parts k__law_parts
  have b__law_parts := F__law_parts.binds (ps := ["_law_h", "_law_facts_here", "_law_most"]) fun _ _ _ _ _ _ us hl => match us, hl with | [_, _, _], _ => rfl
  have F__law_rules := fun_mk (st := s__law_rules) l__law_rules c__law_rules k__law_rules
  have b__law_rules := F__law_rules.binds (ps := ["_law_h", "_law_facts_here", "_law_counter", "_law_deep", "_law_wide"]) fun _ _ _ _ _ _ us hl => match us, hl with | [_, _, _, _, _], _ => rfl
  have F__law_rule := fun_mk (st := s__law_rule) l__law_rule c__law_rule k__law_rule
  have b__law_rule := F__law_rule.binds (ps := ["_law_row"]) fun _ _ _ _ _ _ us hl => match us, hl with | [_], _ => rfl
  have F__law_book := fun_mk (st := s__law_book) l__law_book c__law_book k__law_book
  have b__law_book := F__law_book.binds (ps := ["_law_facts_here", "_law_rules_here", "_law_last"]) fun _ _ _ _ _ _ us hl => match us, hl with | [_, _, _], _ => rfl
  have F__law_case := fun_mk (st := s__law_case) l__law_case c__law_case k__law_case
  have b__law_case := F__law_case.binds (ps := ["_law_facts_here", "_law_number"]) fun _ _ _ _ _ _ us hl => match us, hl with | [_, _], _ => rfl
  have F__law_every := fun_mk (st := s__law_every) l__law_every c__law_every k__law_every
  have b__law_every := F__law_every.binds (ps := ["_law_facts_here"]) fun _ _ _ _ _ _ us hl => match us, hl with | [_], _ => rfl
  have F__law_meets := fun_mk (st := s__law_meets) l__law_meets c__law_meets k__law_meets
  have b__law_meets := F__law_meets.binds (ps := ["_law_row", "_law_case_here"]) fun _ _ _ _ _ _ us hl => match us, hl with | [_, _], _ => rfl
  have F__law_pairs := fun_mk (st := s__law_pairs) l__law_pairs c__law_pairs k__law_pairs
  have b__law_pairs := F__law_pairs.binds (ps := ["_law_rules_here", "_law_outer", "_law_every_here"]) fun _ _ _ _ _ _ us hl => match us, hl with | [_, _, _], _ => rfl
  have F__law_changed := fun_mk (st := s__law_changed) l__law_changed c__law_changed k__law_changed
  have b__law_changed := F__law_changed.binds (ps := ["_law_rules_here", "_law_name"]) fun _ _ _ _ _ _ us hl => match us, hl with | [_, _], _ => rfl
  have ec_UnknownRule : ErrC K E7 := ⟨r7_cl, r7_ga, r7_gt, r7_be, r7_kc, sg, tk, r7_ob, r7_hd⟩
  have er_UnknownRule : ErrRow K (fun i => [E0, E1, E2, E3, E4, E5, E6, E7, E8, E9, E10, E11, E12, E13, E14, E15, E16].getD i E0) CE E7 7 := ⟨by decide, ec_UnknownRule, exm_by CEbe CEcl CEty r7_sC, fun i hi => match i, hi with | 0, _ => kit_by r7_k7 u_0 v_0 r7_k0 | 1, _ => kit_by r7_k7 u_1 v_1 r7_k1 | 2, _ => kit_by r7_k7 u_2 v_2 r7_k2 | 3, _ => kit_by r7_k7 u_3 v_3 r7_k3 | 4, _ => kit_by r7_k7 u_4 v_4 r7_k4 | 5, _ => kit_by r7_k7 u_5 v_5 r7_k5 | 6, _ => kit_by r7_k7 u_6 v_6 r7_k6 | 7, _ => kit_by r7_k7 u_7 v_7 r7_k7 | 8, _ => kit_by r7_k7 u_8 v_8 r7_k8 | 9, _ => kit_by r7_k7 u_9 v_9 r7_k9 | 10, _ => kit_by r7_k7 u_10 v_10 r7_k10 | 11, _ => kit_by r7_k7 u_11 v_11 r7_k11 | 12, _ => kit_by r7_k7 u_12 v_12 r7_k12 | 13, _ => kit_by r7_k7 u_13 v_13 r7_k13 | 14, _ => kit_by r7_k7 u_14 v_14 r7_k14 | 15, _ => kit_by r7_k7 u_15 v_15 r7_k15 | 16, _ => kit_by r7_k7 u_16 v_16 r7_k16 | x + 17, h => absurd h (by omega), kit_ve r7_ve, four r7_n_index r7_n_part r7_n_word r7_n_fact⟩
  have ec_NoNeighbor : ErrC K E14 := ⟨r14_cl, r14_ga, r14_gt, r14_be, r14_kc, sg, tk, r14_ob, r14_hd⟩
  have er_NoNeighbor : ErrRow K (fun i => [E0, E1, E2, E3, E4, E5, E6, E7, E8, E9, E10, E11, E12, E13, E14, E15, E16].getD i E0) CE E14 14 := ⟨by decide, ec_NoNeighbor, exm_by CEbe CEcl CEty r14_sC, fun i hi => match i, hi with | 0, _ => kit_by r14_k14 u_0 v_0 r14_k0 | 1, _ => kit_by r14_k14 u_1 v_1 r14_k1 | 2, _ => kit_by r14_k14 u_2 v_2 r14_k2 | 3, _ => kit_by r14_k14 u_3 v_3 r14_k3 | 4, _ => kit_by r14_k14 u_4 v_4 r14_k4 | 5, _ => kit_by r14_k14 u_5 v_5 r14_k5 | 6, _ => kit_by r14_k14 u_6 v_6 r14_k6 | 7, _ => kit_by r14_k14 u_7 v_7 r14_k7 | 8, _ => kit_by r14_k14 u_8 v_8 r14_k8 | 9, _ => kit_by r14_k14 u_9 v_9 r14_k9 | 10, _ => kit_by r14_k14 u_10 v_10 r14_k10 | 11, _ => kit_by r14_k14 u_11 v_11 r14_k11 | 12, _ => kit_by r14_k14 u_12 v_12 r14_k12 | 13, _ => kit_by r14_k14 u_13 v_13 r14_k13 | 14, _ => kit_by r14_k14 u_14 v_14 r14_k14 | 15, _ => kit_by r14_k14 u_15 v_15 r14_k15 | 16, _ => kit_by r14_k14 u_16 v_16 r14_k16 | x + 17, h => absurd h (by omega), kit_ve r14_ve, four r14_n_index r14_n_part r14_n_word r14_n_fact⟩
  have ox_InvalidFacts : OexC K E0 := ⟨⟨_, _, _, _, _, _, _, _, _, _, _, _, _, _, _, i0_x, i0_rv⟩, i0_sa, i0_bE, i0_ty, i0_kC⟩
  have sp_InvalidFacts : SupC l.prog K mg E0 celi0 codi0 := ⟨⟨_, _, _, i0_ce⟩, ⟨_, _, _, _, _, _, i0_co, i0_fi, i0_fe⟩, i0_sb, PySem.W.mg_none_of X G noS, opq, sup_by i0_x x_E i0_bm f_E, i0_vB, top0⟩
  have ox_InvalidCondition : OexC K E3 := ⟨⟨_, _, _, _, _, _, _, _, _, _, _, _, _, _, _, i3_x, i3_rv⟩, i3_sa, i3_bE, i3_ty, i3_kC⟩
  have sp_InvalidCondition : SupC l.prog K mg E3 celi3 codi3 := ⟨⟨_, _, _, i3_ce⟩, ⟨_, _, _, _, _, _, i3_co, i3_fi, i3_fe⟩, i3_sb, PySem.W.mg_none_of X G noS, opq, sup_by i3_x x_E i3_bm f_E, i3_vB, top0⟩
  have ox_InvalidRule : OexC K E5 := ⟨⟨_, _, _, _, _, _, _, _, _, _, _, _, _, _, _, i5_x, i5_rv⟩, i5_sa, i5_bE, i5_ty, i5_kC⟩
  have sp_InvalidRule : SupC l.prog K mg E5 celi5 codi5 := ⟨⟨_, _, _, i5_ce⟩, ⟨_, _, _, _, _, _, i5_co, i5_fi, i5_fe⟩, i5_sb, PySem.W.mg_none_of X G noS, opq, sup_by i5_x x_E i5_bm f_E, i5_vB, top0⟩
  have ox_InvalidBook : OexC K E6 := ⟨⟨_, _, _, _, _, _, _, _, _, _, _, _, _, _, _, i6_x, i6_rv⟩, i6_sa, i6_bE, i6_ty, i6_kC⟩
  have sp_InvalidBook : SupC l.prog K mg E6 celi6 codi6 := ⟨⟨_, _, _, i6_ce⟩, ⟨_, _, _, _, _, _, i6_co, i6_fi, i6_fe⟩, i6_sb, PySem.W.mg_none_of X G noS, opq, sup_by i6_x x_E i6_bm f_E, i6_vB, top0⟩
  have F_mi := fun_mk (st := s_Condition___init__) l_mi c_mi k_mi
  have b_mi := F_mi.binds (ps := ["self", "holding", "failing"]) fun _ _ _ _ _ _ us hl => match us, hl with | [_, _, _], _ => rfl
  have F_mh := fun_mk (st := s_Condition_holding) l_mh c_mh k_mh
  have b_mh := F_mh.binds (ps := ["self"]) fun _ _ _ _ _ _ us hl => match us, hl with | [_], _ => rfl
  have F_mf := fun_mk (st := s_Condition_failing) l_mf c_mf k_mf
  have b_mf := F_mf.binds (ps := ["self"]) fun _ _ _ _ _ _ us hl => match us, hl with | [_], _ => rfl
  have F_mn := fun_mk (st := s_Condition_names) l_mn c_mn k_mn
  have b_mn := F_mn.binds (ps := ["self"]) fun _ _ _ _ _ _ us hl => match us, hl with | [_], _ => rfl
  have F_ri := fun_mk (st := s_Rule___init__) l_ri c_ri k_ri
  have b_ri := F_ri.binds (ps := ["self", "name", "condition", "ruling", "exceptions"]) fun _ _ _ _ _ _ us hl => match us, hl with | [_, _, _, _, _], _ => rfl
  have F_rn := fun_mk (st := s_Rule_name) l_rn c_rn k_rn
  have b_rn := F_rn.binds (ps := ["self"]) fun _ _ _ _ _ _ us hl => match us, hl with | [_], _ => rfl
  have F_rc := fun_mk (st := s_Rule_condition) l_rc c_rc k_rc
  have b_rc := F_rc.binds (ps := ["self"]) fun _ _ _ _ _ _ us hl => match us, hl with | [_], _ => rfl
  have F_rr := fun_mk (st := s_Rule_ruling) l_rr c_rr k_rr
  have b_rr := F_rr.binds (ps := ["self"]) fun _ _ _ _ _ _ us hl => match us, hl with | [_], _ => rfl
  have F_re := fun_mk (st := s_Rule_exceptions) l_re c_re k_re
  have b_re := F_re.binds (ps := ["self"]) fun _ _ _ _ _ _ us hl => match us, hl with | [_], _ => rfl
  have F_rd := fun_mk (st := s_Rule_depth) l_rd c_rd k_rd
  have b_rd := F_rd.binds (ps := ["self"]) fun _ _ _ _ _ _ us hl => match us, hl with | [_], _ => rfl
  have F_bi := fun_mk (st := s_Book___init__) l_bi c_bi k_bi
  have b_bi := F_bi.binds (ps := ["self", "facts", "rules", "ruling"]) fun _ _ _ _ _ _ us hl => match us, hl with | [_, _, _, _], _ => rfl
  have F_bf := fun_mk (st := s_Book_facts) l_bf c_bf k_bf
  have b_bf := F_bf.binds (ps := ["self"]) fun _ _ _ _ _ _ us hl => match us, hl with | [_], _ => rfl
  have F_bs := fun_mk (st := s_Book_rules) l_bs c_bs k_bs
  have b_bs := F_bs.binds (ps := ["self"]) fun _ _ _ _ _ _ us hl => match us, hl with | [_], _ => rfl
  have F_br := fun_mk (st := s_Book_ruling) l_br c_br k_br
  have b_br := F_br.binds (ps := ["self"]) fun _ _ _ _ _ _ us hl => match us, hl with | [_], _ => rfl
  have F_bn := fun_mk (st := s_Book_names) l_bn c_bn k_bn
  have b_bn := F_bn.binds (ps := ["self"]) fun _ _ _ _ _ _ us hl => match us, hl with | [_], _ => rfl
  have F_gi := fun_mk (st := s_Book___getitem__) l_gi c_gi k_gi
  have b_gi := F_gi.binds (ps := ["self", "name"]) fun _ _ _ _ _ _ us hl => match us, hl with | [_, _], _ => rfl
  have F_eb := fun_mk (st := s_Book___eq__) l_eb c_eb k_eb
  have b_eb := F_eb.binds (ps := ["self", "other"]) fun _ _ _ _ _ _ us hl => match us, hl with | [_, _], _ => rfl
  have F_er := fun_mk (st := s_Rule___eq__) l_er c_er k_er
  have b_er := F_er.binds (ps := ["self", "other"]) fun _ _ _ _ _ _ us hl => match us, hl with | [_, _], _ => rfl
  have F_ec := fun_mk (st := s_Condition___eq__) l_ec c_ec k_ec
  have b_ec := F_ec.binds (ps := ["self", "other"]) fun _ _ _ _ _ _ us hl => match us, hl with | [_, _], _ => rfl
  have GN : GNames mg := ⟨⟨_, PySem.W.mg_of X G m_LETTERS⟩, ⟨_, PySem.W.mg_of X G m_LONGEST_NAME⟩⟩
  have CLc : Cls K CO := ⟨co_pg, co_hd, co_po, co_sa⟩
  have CLr : Cls K RO := ⟨ro_pg, ro_hd, ro_po, ro_sa⟩
  have CLb : Cls K BO := ⟨bo_pg, bo_hd, bo_po, bo_sa⟩
  refine ⟨PySem.W.fnOf "law" "law" (defArgs s_law) (defBody s_law) (defScope s_law) .none kV_law dc_law pm_law an_law (.ref cc_law) ct_law, [(cc_law, Tb0)], sp_law K Tb0, fun p hp => by rw [List.mem_singleton.mp hp]; exact tb1, fun p hp => by rw [List.mem_singleton.mp hp]; exact tb2, fun p hp => by rw [List.mem_singleton.mp hp]; exact PySem.W.codeHd_of_K X (codeHd_by tbl tb0), ?_, ?_, ?_⟩
  · exact fun s u => .of_eq rfl
  · exact fun H a ns hl hb ht hS => ⟨a, ns, rfl, hS, hl, hb, ht _ (List.mem_singleton.mpr rfl), fun _ => rfl⟩
  · intro base KB NB TBs
    have e_InvalidFacts : ErrMk l.prog w K mg base "InvalidFacts" E0 ["self", "index"] (sp_init1 E0 "index") := ⟨_, _, ox_InvalidFacts, i0_in, i0_tI, ok_init_InvalidFacts i0_lI i0_cI ox_InvalidFacts sp_InvalidFacts i0_f_index, fun s us _ hl => match us, hl with | [_, _], _ => .of_eq rfl, PySem.W.mg_of X G m_InvalidFacts⟩
    have e_InvalidCondition : ErrMk l.prog w K mg base "InvalidCondition" E3 ["self", "part", "index"] (sp_init2 E3 "part" "index") := ⟨_, _, ox_InvalidCondition, i3_in, i3_tI, ok_init_InvalidCondition i3_lI i3_cI ox_InvalidCondition sp_InvalidCondition i3_f_part i3_f_index, fun s us _ hl => match us, hl with | [_, _, _], _ => .of_eq rfl, PySem.W.mg_of X G m_InvalidCondition⟩
    have e_InvalidRule : ErrMk l.prog w K mg base "InvalidRule" E5 ["self", "part"] (sp_init1 E5 "part") := ⟨_, _, ox_InvalidRule, i5_in, i5_tI, ok_init_InvalidRule i5_lI i5_cI ox_InvalidRule sp_InvalidRule i5_f_part, fun s us _ hl => match us, hl with | [_, _], _ => .of_eq rfl, PySem.W.mg_of X G m_InvalidRule⟩
    have e_InvalidBook : ErrMk l.prog w K mg base "InvalidBook" E6 ["self", "word", "index"] (sp_init2 E6 "word" "index") := ⟨_, _, ox_InvalidBook, i6_in, i6_tI, ok_init_InvalidBook i6_lI i6_cI ox_InvalidBook sp_InvalidBook i6_f_word i6_f_index, fun s us _ hl => match us, hl with | [_, _, _], _ => .of_eq rfl, PySem.W.mg_of X G m_InvalidBook⟩
    have e_UnknownRule : ErrMk0 K mg "UnknownRule" E7 := ⟨p7_q, PySem.W.mg_of X G m_UnknownRule, p7_k, p7_b, p7_t⟩
    have e_NoNeighbor : ErrMk0 K mg "NoNeighbor" E14 := ⟨p14_q, PySem.W.mg_of X G m_NoNeighbor, p14_k, p14_b, p14_t⟩
    have c_is_name : Cal l.prog w K mg base CX0 1 "is_name" ["value"] (sp_is_name) := ⟨_, _, (ok_is_name F_is_name B GN), PySem.W.mg_of X G a_is_name, k_is_name, b_is_name⟩
    have c_rises : Cal l.prog w K mg base CX0 1 "rises" ["names", "index"] (sp_rises K) := ⟨_, _, (ok_rises F_rises ), PySem.W.mg_of X G a_rises, k_rises, b_rises⟩
    have c_check_facts : Cal l.prog w K mg base (L2.CX l.prog w) 3 "check_facts" ["facts"] (sp_check_facts K E0) := ⟨_, _, (ok_check_facts F_check_facts B ⟨_, PySem.W.mg_of X G m_MOST_FACTS⟩ e_InvalidFacts c_is_name c_rises), PySem.W.mg_of X G a_check_facts, k_check_facts, b_check_facts⟩
    have c_check_part : Cal l.prog w K mg base (L2.CX l.prog w) 3 "check_part" ["part", "names", "before"] (sp_check_part K E3) := ⟨_, _, (ok_check_part F_check_part B ⟨_, PySem.W.mg_of X G m_MOST_NAMES⟩ e_InvalidCondition c_is_name c_rises), PySem.W.mg_of X G a_check_part, k_check_part, b_check_part⟩
    have c_merged : Cal l.prog w K mg base CX0 1 "merged" ["names", "others"] (sp_merged K) := ⟨_, _, (ok_merged F_merged B), PySem.W.mg_of X G a_merged, k_merged, b_merged⟩
    have pc_mh : PropC l.prog w K mg base CO pp_mh f_mh _ "holding" "_holding" := ⟨⟨pa_mh, pg_mh, pt_mh, ⟨_, pr_mh⟩⟩, ok_holding F_mh CLc co_n1, b_mh⟩
    have pc_mf : PropC l.prog w K mg base CO pp_mf f_mf _ "failing" "_failing" := ⟨⟨pa_mf, pg_mf, pt_mf, ⟨_, pr_mf⟩⟩, ok_failing F_mf CLc co_n2, b_mf⟩
    have pc_mn : PropC l.prog w K mg base CO pp_mn f_mn _ "names" "_names" := ⟨⟨pa_mn, pg_mn, pt_mn, ⟨_, pr_mn⟩⟩, ok_cnames F_mn CLc co_n3, b_mn⟩
    have pc_rn : PropC l.prog w K mg base RO pp_rn f_rn _ "name" "_name" := ⟨⟨pa_rn, pg_rn, pt_rn, ⟨_, pr_rn⟩⟩, ok_Rule_name F_rn CLr ro_n1, b_rn⟩
    have pc_rc : PropC l.prog w K mg base RO pp_rc f_rc _ "condition" "_condition" := ⟨⟨pa_rc, pg_rc, pt_rc, ⟨_, pr_rc⟩⟩, ok_Rule_condition F_rc CLr ro_n2, b_rc⟩
    have pc_rr : PropC l.prog w K mg base RO pp_rr f_rr _ "ruling" "_ruling" := ⟨⟨pa_rr, pg_rr, pt_rr, ⟨_, pr_rr⟩⟩, ok_Rule_ruling F_rr CLr ro_n3, b_rr⟩
    have pc_re : PropC l.prog w K mg base RO pp_re f_re _ "exceptions" "_exceptions" := ⟨⟨pa_re, pg_re, pt_re, ⟨_, pr_re⟩⟩, ok_Rule_exceptions F_re CLr ro_n4, b_re⟩
    have pc_rd : PropC l.prog w K mg base RO pp_rd f_rd _ "depth" "_depth" := ⟨⟨pa_rd, pg_rd, pt_rd, ⟨_, pr_rd⟩⟩, ok_Rule_depth F_rd CLr ro_n5, b_rd⟩
    have pc_bf : PropC l.prog w K mg base BO pp_bf f_bf _ "facts" "_facts" := ⟨⟨pa_bf, pg_bf, pt_bf, ⟨_, pr_bf⟩⟩, ok_Book_facts F_bf CLb bo_n1, b_bf⟩
    have pc_bs : PropC l.prog w K mg base BO pp_bs f_bs _ "rules" "_rules" := ⟨⟨pa_bs, pg_bs, pt_bs, ⟨_, pr_bs⟩⟩, ok_Book_rules F_bs CLb bo_n2, b_bs⟩
    have pc_br : PropC l.prog w K mg base BO pp_br f_br _ "ruling" "_ruling" := ⟨⟨pa_br, pg_br, pt_br, ⟨_, pr_br⟩⟩, ok_Book_ruling F_br CLb bo_n3, b_br⟩
    have kK : CondG l.prog w K mg base CO := ⟨CLc, ⟨_, _, _, pc_mh⟩, ⟨_, _, _, pc_mf⟩, ⟨_, _, _, pc_mn⟩⟩
    have kR : RuleX l.prog w K mg base RO := ⟨CLr, ⟨_, _, _, pc_rn⟩, ⟨_, _, _, pc_rc⟩, ⟨_, _, _, pc_rr⟩, ⟨_, _, _, pc_re⟩, ⟨_, _, _, pc_rd⟩⟩
    have kB : BookX l.prog w K mg base BO := ⟨CLb, ⟨_, _, _, pc_bf⟩, ⟨_, _, _, pc_bs⟩, ⟨_, _, _, pc_br⟩⟩
    have c_nested : Cal l.prog w K mg base CX0 15 "nested" ["rules", "around"] (sp_nested K CO RO 12) := ⟨_, _, rec_all (S := sp_nested K CO RO) (k := 2) (fun d c => ok_nested F_nested kR c) (PySem.W.mg_of X G a_nested) k_nested b_nested 12, PySem.W.mg_of X G a_nested, k_nested, b_nested⟩
    have c_check_rules : Cal l.prog w K mg base (L2.CX l.prog w) 16 "check_rules" ["facts", "rules"] (sp_check_rules K CO RO E6) := ⟨_, _, (ok_check_rules F_check_rules B kR kK (PySem.W.mg_of X G m_MOST_AROUND) (PySem.W.mg_of X G m_MOST_RULES) (PySem.W.mg_of X G m_MOST_OUTERMOST) e_InvalidBook c_nested), PySem.W.mg_of X G a_check_rules, k_check_rules, b_check_rules⟩
    have kM : Mkr l.prog w K mg base 4 "Condition" CO ["self", "holding", "failing"] (sp_cond_init K CO E3) := ⟨_, _, ⟨co_mk, co_in, co_fn, co_kp⟩, ok_cond_init F_mi B CLc co_n1 co_n2 co_n3 c_check_part c_merged, PySem.W.mg_of X G co, b_mi⟩
    have kRM : Mkr l.prog w K mg base 16 "Rule" RO ["self", "name", "condition", "ruling", "exceptions"] (sp_rule_init K CO RO E5) := ⟨_, _, ⟨ro_mk, ro_in, ro_fn, ro_kp⟩, ok_rule_init F_ri B CLr ro_n1 ro_n2 ro_n3 ro_n4 ro_n5 ro_n6 kR e_InvalidRule c_is_name c_nested, PySem.W.mg_of X G ro, b_ri⟩
    have kBM : Mkr l.prog w K mg base 17 "Book" BO ["self", "facts", "rules", "ruling"] (sp_book_init K CO RO BO E0 E6) := ⟨_, _, ⟨bo_mk, bo_in, bo_fn, bo_kp⟩, ok_book_init F_bi B CLb bo_n1 bo_n2 bo_n3 bo_n4 e_InvalidBook c_is_name c_nested c_check_facts c_check_rules, PySem.W.mg_of X G bo, b_bi⟩
    have c__law_mix : Cal l.prog w K mg base CX0 1 "_law_mix" ["_law_script", "_law_seed"] (sp_mix K) := ⟨_, _, (ok_mix F__law_mix B), PySem.W.mg_of X G a__law_mix, k__law_mix, b__law_mix⟩
    have c__law_next : Cal l.prog w K mg base CX0 1 "_law_next" ["_law_h", "_law_limit"] (sp_next) := ⟨_, _, (ok_next F__law_next B), PySem.W.mg_of X G a__law_next, k__law_next, b__law_next⟩
    have c__law_facts : Cal l.prog w K mg base CX0 2 "_law_facts" ["_law_h", "_law_count"] (sp_facts) := ⟨_, _, (ok_facts F__law_facts B c__law_next), PySem.W.mg_of X G a__law_facts, k__law_facts, b__law_facts⟩
    have c__law_parts : Cal l.prog w K mg base CX0 2 "_law_parts" ["_law_h", "_law_facts_here", "_law_most"] (sp_parts K) := ⟨_, _, (ok_parts F__law_parts B c__law_next), PySem.W.mg_of X G a__law_parts, k__law_parts, b__law_parts⟩
    have c__law_rules : Cal l.prog w K mg base CX0 6 "_law_rules" ["_law_h", "_law_facts_here", "_law_counter", "_law_deep", "_law_wide"] (sp_rules K 3) := ⟨_, _, rec_all (S := sp_rules K) (k := 2) (fun d c => ok_rules F__law_rules B c__law_next c__law_parts c) (PySem.W.mg_of X G a__law_rules) k__law_rules b__law_rules 3, PySem.W.mg_of X G a__law_rules, k__law_rules, b__law_rules⟩
    have c__law_rule : Cal l.prog w K mg base CX0 30 "_law_rule" ["_law_row"] (sp_rule K CO RO 12) := ⟨_, _, rec_all (S := sp_rule K CO RO) (k := 17) (fun d c => ok_rule F__law_rule B kM kRM c) (PySem.W.mg_of X G a__law_rule) k__law_rule b__law_rule 12, PySem.W.mg_of X G a__law_rule, k__law_rule, b__law_rule⟩
    have c__law_book : Cal l.prog w K mg base (L2.CX l.prog w) 31 "_law_book" ["_law_facts_here", "_law_rules_here", "_law_last"] (sp_book K CO RO BO E0 E6) := ⟨_, _, (ok_book F__law_book B kBM c__law_rule), PySem.W.mg_of X G a__law_book, k__law_book, b__law_book⟩
    have c__law_case : Cal l.prog w K mg base CX0 1 "_law_case" ["_law_facts_here", "_law_number"] (sp_case K) := ⟨_, _, (ok_case F__law_case B), PySem.W.mg_of X G a__law_case, k__law_case, b__law_case⟩
    have c__law_every : Cal l.prog w K mg base CX0 2 "_law_every" ["_law_facts_here"] (sp_every K) := ⟨_, _, (ok_every F__law_every B c__law_case), PySem.W.mg_of X G a__law_every, k__law_every, b__law_every⟩
    have c__law_meets : Cal l.prog w K mg base CX0 1 "_law_meets" ["_law_row", "_law_case_here"] (sp_meets K) := ⟨_, _, (ok_meets F__law_meets B), PySem.W.mg_of X G a__law_meets, k__law_meets, b__law_meets⟩
    have c__law_pairs : Cal l.prog w K mg base CX0 15 "_law_pairs" ["_law_rules_here", "_law_outer", "_law_every_here"] (sp_pairs K 12) := ⟨_, _, rec_all (S := sp_pairs K) (k := 2) (fun d c => ok_pairs F__law_pairs B c__law_meets c) (PySem.W.mg_of X G a__law_pairs) k__law_pairs b__law_pairs 12, PySem.W.mg_of X G a__law_pairs, k__law_pairs, b__law_pairs⟩
    have c__law_changed : Cal l.prog w K mg base CX0 14 "_law_changed" ["_law_rules_here", "_law_name"] (sp_chg K 12) := ⟨_, _, rec_all (S := sp_chg K) (k := 1) (fun d c => ok_chg F__law_changed B c) (PySem.W.mg_of X G a__law_changed) k__law_changed b__law_changed 12, PySem.W.mg_of X G a__law_changed, k__law_changed, b__law_changed⟩
    have c__law_alike : Cal l.prog w K mg base CX0 30 "_law_alike" ["_law_found", "_law_due"] (sp_alikeT K 29) := ⟨_, _, alikeT_all F__law_alike B (PySem.W.mg_of X G a__law_alike) k__law_alike b__law_alike 29, PySem.W.mg_of X G a__law_alike, k__law_alike, b__law_alike⟩
    have ICc : IsiC K CO := ⟨co_ca, sg, tk, co_ob, kit_by co_ss co_cl co_ty co_ss⟩
    have ICr : IsiC K RO := ⟨ro_ca, sg, tk, ro_ob, kit_by ro_ss ro_cl ro_ty ro_ss⟩
    have ICb : IsiC K BO := ⟨bo_ca, sg, tk, bo_ob, kit_by bo_ss bo_cl bo_ty bo_ss⟩
    have c_bits_of : Cal l.prog w K mg base CX0 1 "bits_of" ["facts", "names"] (sp_bits_of K) := ⟨_, _, (ok_bits_of F_bits_of B), PySem.W.mg_of X G a_bits_of, k_bits_of, b_bits_of⟩
    have c_names_of : Cal l.prog w K mg base CX0 1 "names_of" ["facts", "bits"] (sp_names_of K) := ⟨_, _, (ok_names_of F_names_of B), PySem.W.mg_of X G a_names_of, k_names_of, b_names_of⟩
    have c_cube_of : Cal l.prog w K mg base CX0 3 "cube_of" ["facts", "condition"] (sp_cube_of K CO) := ⟨_, _, (ok_cube_of F_cube_of B kK c_bits_of), PySem.W.mg_of X G a_cube_of, k_cube_of, b_cube_of⟩
    have c_clash : Cal l.prog w K mg base CX0 1 "clash" ["cube", "other"] (sp_clash K) := ⟨_, _, (ok_clash F_clash B), PySem.W.mg_of X G a_clash, k_clash, b_clash⟩
    have c_joined : Cal l.prog w K mg base CX0 1 "joined" ["cube", "other"] (sp_joined K) := ⟨_, _, (ok_joined F_joined B), PySem.W.mg_of X G a_joined, k_joined, b_joined⟩
    have c_clashes_within : Cal l.prog w K mg base CX0 16 "clashes_within" ["facts", "rules", "around"] (sp_cwithin K CO RO 12) := ⟨_, _, rec_all (S := sp_cwithin K CO RO) (k := 3) (fun d c => ok_cwithin F_clashes_within B kR c_cube_of c_clash c_joined c_names_of c) (PySem.W.mg_of X G a_clashes_within) k_clashes_within b_clashes_within 12, PySem.W.mg_of X G a_clashes_within, k_clashes_within, b_clashes_within⟩
    have c_clashes : Cal l.prog w K mg base CX0 17 "clashes" ["book"] (sp_clashes K CO RO BO) := ⟨_, _, (ok_clashes F_clashes B kB c_clashes_within), PySem.W.mg_of X G a_clashes, k_clashes, b_clashes⟩
    have c_path_to : Cal l.prog w K mg base CX0 15 "path_to" ["rules", "name"] (sp_path K CO RO 12) := ⟨_, _, rec_all (S := sp_path K CO RO) (k := 2) (fun d c => ok_path F_path_to kR c) (PySem.W.mg_of X G a_path_to) k_path_to b_path_to 12, PySem.W.mg_of X G a_path_to, k_path_to, b_path_to⟩
    have c_next_beside : Cal l.prog w K mg base (L2.CX l.prog w) 16 "next_beside" ["book", "name"] (sp_beside K CO RO BO E7 E14) := ⟨_, _, (ok_beside F_next_beside B kR kB e_UnknownRule e_NoNeighbor c_path_to), PySem.W.mg_of X G a_next_beside, k_next_beside, b_next_beside⟩
    have c_replaced : Cal l.prog w K mg base CX0 30 "replaced" ["rules", "name", "others"] (sp_replaced K CO RO 12) := ⟨_, _, rec_all (S := sp_replaced K CO RO) (k := 17) (fun d c => ok_replaced F_replaced B kR kRM c) (PySem.W.mg_of X G a_replaced) k_replaced b_replaced 12, PySem.W.mg_of X G a_replaced, k_replaced, b_replaced⟩
    have mIt : MethO l.prog w K mg base (L2.CX l.prog w) 3 BO "__getitem__" ["self", "name"] (sp_getitem K CO RO BO E7) := ⟨_, _, at_gi, fn_gi, fi_gi, ok_getitem F_gi B CLb bo_n4 kR e_UnknownRule, b_gi⟩
    have c_swapped : Cal l.prog w K mg base (L2.CX l.prog w) 32 "swapped" ["book", "name"] (sp_swapped K CO RO BO E6 E7 E14) := ⟨_, _, (ok_swapped F_swapped B kR kB kBM mIt c_replaced c_next_beside), PySem.W.mg_of X G a_swapped, k_swapped, b_swapped⟩
    have fR := ruleEq_all (P := l.prog) (w := w) (base := base) (C := CO) F_er B CLr ro_n1 ro_n2 ro_n3 ro_n4 (PySem.W.mg_of X G ro) ICr at_ec fn_ec (ok_ceq F_ec B CLc co_n1 co_n2 (PySem.W.mg_of X G co) ICc) b_ec at_er fn_er b_er 12
    have mBe : EqO l.prog w K mg base 29 BO (sp_beq K CO RO BO) := ⟨⟨_, _, at_eb, fn_eb, ok_beq F_eb B CLb bo_n1 bo_n2 bo_n3 (PySem.W.mg_of X G bo) ICb at_er fn_er b_er fR, b_eb⟩, bo_ob, bo_ne⟩
    have mNm : PropM l.prog w K mg base BO "names" 3 (sp_bnames K CO RO BO) := ⟨_, _, _, ⟨pa_bn, pg_bn, pt_bn, ⟨_, pr_bn⟩⟩, ok_bnames F_bn B CLb bo_n4 kR, b_bn⟩
    exact ok_law ⟨⟨_, _, _, _, _, _, _, _, rfl, l_law, c_law⟩, k_law⟩ B GE F__law_error (PySem.W.mg_of X G a__law_error) b__law_error (TBs _ (List.mem_singleton.mpr rfl)) er_UnknownRule er_NoNeighbor kB mNm mBe c__law_mix c__law_next c__law_facts c__law_rules c__law_book c__law_every c__law_pairs c__law_changed c__law_alike c_clashes c_swapped
end Sc
/-! the head's facts read by a Hook of one's own: functions by address, all else by one Bool -/
namespace Sc
open PySem PySem.Spec PyProof.Rows L2 HeadY He
theorem all_y {w : World} {K : PySem.W.Frag} {h : Heap} {mg : Str → Option Value} {fa : Addr} (X : K.In h) (G : h.Ns mainGlobals mg) (hfa : mg "law" = some (.ref fa)) (S : SaysY fnL tfL exB h K) : LamX.LawAtS theLaw w K CX0 36 63 "_law_script" mg fa h := by
  obtain ⟨_, _, _, _, _, _, _, _, l_is_name, y_l_is_name⟩ := fn_ok (S.fn 0 rfl) (gx0 S).2.1
  obtain ⟨_, _, _, _, _, _, _, _, l_rises, y_l_rises⟩ := fn_ok (S.fn 1 rfl) (gx0 S).2.2.2.2.1
  obtain ⟨_, _, _, _, _, _, _, _, l_check_facts, y_l_check_facts⟩ := fn_ok (S.fn 2 rfl) (gx0 S).2.2.2.2.2.2.2.1
  obtain ⟨_, _, _, _, _, _, _, _, l_nested, y_l_nested⟩ := fn_ok (S.fn 3 rfl) (gx0 S).2.2.2.2.2.2.2.2.2.2.1
  obtain ⟨_, _, _, _, _, _, _, _, l_check_rules, y_l_check_rules⟩ := fn_ok (S.fn 4 rfl) (gx1 S).2.1
  obtain ⟨_, _, _, _, _, _, _, _, l_check_part, y_l_check_part⟩ := fn_ok (S.fn 5 rfl) (gx1 S).2.2.2.2.1
  obtain ⟨_, _, _, _, _, _, _, _, l_merged, y_l_merged⟩ := fn_ok (S.fn 6 rfl) (gx1 S).2.2.2.2.2.2.2.1
  obtain ⟨_, _, _, _, _, _, _, _, l_bits_of, y_l_bits_of⟩ := fn_ok (S.fn 7 rfl) (gx1 S).2.2.2.2.2.2.2.2.2.2.1
  obtain ⟨_, _, _, _, _, _, _, _, l_names_of, y_l_names_of⟩ := fn_ok (S.fn 8 rfl) (gx2 S).2.1
  obtain ⟨_, _, _, _, _, _, _, _, l_cube_of, y_l_cube_of⟩ := fn_ok (S.fn 9 rfl) (gx2 S).2.2.2.2.1
  obtain ⟨_, _, _, _, _, _, _, _, l_clash, y_l_clash⟩ := fn_ok (S.fn 10 rfl) (gx2 S).2.2.2.2.2.2.2.1
  obtain ⟨_, _, _, _, _, _, _, _, l_joined, y_l_joined⟩ := fn_ok (S.fn 11 rfl) (gx2 S).2.2.2.2.2.2.2.2.2.2.1
  obtain ⟨_, _, _, _, _, _, _, _, l_clashes_within, y_l_clashes_within⟩ := fn_ok (S.fn 12 rfl) (gx3 S).2.1
  obtain ⟨_, _, _, _, _, _, _, _, l_clashes, y_l_clashes⟩ := fn_ok (S.fn 13 rfl) (gx3 S).2.2.2.2.1
  obtain ⟨_, _, _, _, _, _, _, _, l_path_to, y_l_path_to⟩ := fn_ok (S.fn 14 rfl) (gx3 S).2.2.2.2.2.2.2.1
  obtain ⟨_, _, _, _, _, _, _, _, l_next_beside, y_l_next_beside⟩ := fn_ok (S.fn 15 rfl) (gx3 S).2.2.2.2.2.2.2.2.2.2.1
  obtain ⟨_, _, _, _, _, _, _, _, l_replaced, y_l_replaced⟩ := fn_ok (S.fn 16 rfl) (gx4 S).2.1
  obtain ⟨_, _, _, _, _, _, _, _, l_swapped, y_l_swapped⟩ := fn_ok (S.fn 17 rfl) (gx4 S).2.2.2.2.1
  obtain ⟨_, _, _, _, _, _, _, _, l__law_mix, y_l__law_mix⟩ := fn_ok (S.fn 18 rfl) (gx4 S).2.2.2.2.2.2.2.1
  obtain ⟨_, _, _, _, _, _, _, _, l__law_next, y_l__law_next⟩ := fn_ok (S.fn 19 rfl) (gx4 S).2.2.2.2.2.2.2.2.2.2.1
  obtain ⟨_, _, _, _, _, _, _, _, l__law_alike, y_l__law_alike⟩ := fn_ok (S.fn 20 rfl) (gx5 S).2.1
  obtain ⟨_, _, _, _, _, _, _, _, l__law_error, y_l__law_error⟩ := fn_ok (S.fn 21 rfl) (gx5 S).2.2.2.2.1
  obtain ⟨_, _, _, _, _, _, _, _, l__law_facts, y_l__law_facts⟩ := fn_ok (S.fn 22 rfl) (gx5 S).2.2.2.2.2.2.2.1
  obtain ⟨_, _, _, _, _, _, _, _, l__law_parts, y_l__law_parts⟩ := fn_ok (S.fn 23 rfl) (gx5 S).2.2.2.2.2.2.2.2.2.2.1
  obtain ⟨_, _, _, _, _, _, _, _, l__law_rules, y_l__law_rules⟩ := fn_ok (S.fn 24 rfl) (gx6 S).2.1
  obtain ⟨_, _, _, _, _, _, _, _, l__law_rule, y_l__law_rule⟩ := fn_ok (S.fn 25 rfl) (gx6 S).2.2.2.2.1
  obtain ⟨_, _, _, _, _, _, _, _, l__law_book, y_l__law_book⟩ := fn_ok (S.fn 26 rfl) (gx6 S).2.2.2.2.2.2.2.1
  obtain ⟨_, _, _, _, _, _, _, _, l__law_case, y_l__law_case⟩ := fn_ok (S.fn 27 rfl) (gx6 S).2.2.2.2.2.2.2.2.2.2.1
  obtain ⟨_, _, _, _, _, _, _, _, l__law_every, y_l__law_every⟩ := fn_ok (S.fn 28 rfl) (gx7 S).2.1
  obtain ⟨_, _, _, _, _, _, _, _, l__law_meets, y_l__law_meets⟩ := fn_ok (S.fn 29 rfl) (gx7 S).2.2.2.2.1
  obtain ⟨_, _, _, _, _, _, _, _, l__law_pairs, y_l__law_pairs⟩ := fn_ok (S.fn 30 rfl) (gx7 S).2.2.2.2.2.2.2.1
  obtain ⟨_, _, _, _, _, _, _, _, l__law_changed, y_l__law_changed⟩ := fn_ok (S.fn 31 rfl) (gx7 S).2.2.2.2.2.2.2.2.2.2.1
  obtain ⟨_, _, _, _, _, _, _, _, l_law, y_l_law⟩ := fn_ok (S.fn 32 rfl) (gx8 S).2.1
  obtain ⟨_, pr_mh⟩ := rec_is (gx9 S).2.2.2.2.2.2.1
  obtain ⟨_, pr_mf⟩ := rec_is (gx9 S).2.2.2.2.2.2.2.2.2.2.1
  obtain ⟨_, pr_mn⟩ := rec_is (gx10 S).2.2.1
  obtain ⟨_, pr_rn⟩ := rec_is (gx11 S).2.2.2.2.2.2.2.2.2.1
  obtain ⟨_, pr_rc⟩ := rec_is (gx12 S).2.1
  obtain ⟨_, pr_rr⟩ := rec_is (gx12 S).2.2.2.2.2.1
  obtain ⟨_, pr_re⟩ := rec_is (gx12 S).2.2.2.2.2.2.2.2.2.1
  obtain ⟨_, pr_rd⟩ := rec_is (gx13 S).2.1
  obtain ⟨_, pr_bf⟩ := rec_is (gx14 S).2.2.2.2.2.2.1
  obtain ⟨_, pr_bs⟩ := rec_is (gx14 S).2.2.2.2.2.2.2.2.2.2.1
  obtain ⟨_, pr_br⟩ := rec_is (gx15 S).2.2.1
  obtain ⟨_, pr_bn⟩ := rec_is (gx15 S).2.2.2.2.2.2.1
  obtain ⟨_, _, _, _, _, _, _, _, l_mi, y_l_mi⟩ := fn_ok (S.fn 33 rfl) (gx17 S).2.2.2.2.2.2.2.2.1
  obtain ⟨_, _, _, _, _, _, _, _, l_mh, y_l_mh⟩ := fn_ok (S.fn 34 rfl) (gx17 S).2.2.2.2.2.2.2.2.2.2.1
  obtain ⟨_, _, _, _, _, _, _, _, l_mf, y_l_mf⟩ := fn_ok (S.fn 35 rfl) (gx18 S).1
  obtain ⟨_, _, _, _, _, _, _, _, l_mn, y_l_mn⟩ := fn_ok (S.fn 36 rfl) (gx18 S).2.2.1
  obtain ⟨_, _, _, _, _, _, _, _, l_ri, y_l_ri⟩ := fn_ok (S.fn 37 rfl) (gx18 S).2.2.2.2.1
  obtain ⟨_, _, _, _, _, _, _, _, l_rn, y_l_rn⟩ := fn_ok (S.fn 38 rfl) (gx18 S).2.2.2.2.2.2.1
  obtain ⟨_, _, _, _, _, _, _, _, l_rc, y_l_rc⟩ := fn_ok (S.fn 39 rfl) (gx18 S).2.2.2.2.2.2.2.2.1
  obtain ⟨_, _, _, _, _, _, _, _, l_rr, y_l_rr⟩ := fn_ok (S.fn 40 rfl) (gx18 S).2.2.2.2.2.2.2.2.2.2.1
  obtain ⟨_, _, _, _, _, _, _, _, l_re, y_l_re⟩ := fn_ok (S.fn 41 rfl) (gx19 S).1
  obtain ⟨_, _, _, _, _, _, _, _, l_rd, y_l_rd⟩ := fn_ok (S.fn 42 rfl) (gx19 S).2.2.1
  obtain ⟨_, _, _, _, _, _, _, _, l_bi, y_l_bi⟩ := fn_ok (S.fn 43 rfl) (gx19 S).2.2.2.2.1
  obtain ⟨_, _, _, _, _, _, _, _, l_bf, y_l_bf⟩ := fn_ok (S.fn 44 rfl) (gx19 S).2.2.2.2.2.2.1
  obtain ⟨_, _, _, _, _, _, _, _, l_bs, y_l_bs⟩ := fn_ok (S.fn 45 rfl) (gx19 S).2.2.2.2.2.2.2.2.1
  obtain ⟨_, _, _, _, _, _, _, _, l_br, y_l_br⟩ := fn_ok (S.fn 46 rfl) (gx19 S).2.2.2.2.2.2.2.2.2.2.1
  obtain ⟨_, _, _, _, _, _, _, _, l_bn, y_l_bn⟩ := fn_ok (S.fn 47 rfl) (gx20 S).1
  obtain ⟨_, _, _, _, _, _, _, _, l_gi, y_l_gi⟩ := fn_ok (S.fn 48 rfl) (gx20 S).2.2.1
  obtain ⟨_, _, _, _, _, _, _, _, l_eb, y_l_eb⟩ := fn_ok (S.fn 49 rfl) (gx20 S).2.2.2.2.1
  obtain ⟨_, _, _, _, _, _, _, _, l_er, y_l_er⟩ := fn_ok (S.fn 50 rfl) (gx20 S).2.2.2.2.2.2.1
  obtain ⟨_, _, _, _, _, _, _, _, l_ec, y_l_ec⟩ := fn_ok (S.fn 51 rfl) (gx20 S).2.2.2.2.2.2.2.2.1
  obtain ⟨_, m_LETTERS⟩ := str_is (gx22 S).2.2.2.2.2.2.1
  obtain ⟨_, m_LONGEST_NAME⟩ := int_is (gx22 S).2.2.2.2.2.2.2.1
  obtain ⟨_, m_MOST_FACTS⟩ := int_is (gx22 S).2.2.2.2.2.2.2.2.1
  obtain ⟨_, m_MOST_NAMES⟩ := int_is (gx22 S).2.2.2.2.2.2.2.2.2.1
  obtain ⟨_, m_MOST_AROUND⟩ := int_is (gx22 S).2.2.2.2.2.2.2.2.2.2.1
  obtain ⟨_, m_MOST_RULES⟩ := int_is (gx22 S).2.2.2.2.2.2.2.2.2.2.2
  obtain ⟨_, m_MOST_OUTERMOST⟩ := int_is (gx23 S).1
  obtain ⟨_, _, _, _, _, _, _, _, _, _, _, _, _, _, x_E⟩ := exc_is (gx32 S).2.2.2.2.2.2.2.2.2.2.1
  obtain ⟨_, _, _, _, _, _, _, _, _, _, _, _, _, _, i0_x⟩ := exc_is (gx33 S).2.2.1
  obtain ⟨_, _, _, _, _, _, _, _, i0_lI, y_i0_lI⟩ := fn_okC (S.fn 52 rfl) (gx33 S).2.2.2.2.2.2.2.2.2.1
  obtain ⟨_, _, _, i0_ce⟩ := cell_is (gx33 S).2.2.2.2.2.2.2.2.2.2.1
  obtain ⟨_, _, _, _, _, _, i0_co, i0_fi, i0_fe⟩ := file_is (gx33 S).2.2.2.2.2.2.2.2.2.2.2
  obtain ⟨_, _, _, _, _, _, _, _, _, _, _, _, _, _, i3_x⟩ := exc_is (gx34 S).2.2.2.2.2.1
  obtain ⟨_, _, _, _, _, _, _, _, i3_lI, y_i3_lI⟩ := fn_okC (S.fn 53 rfl) (gx35 S).1
  obtain ⟨_, _, _, i3_ce⟩ := cell_is (gx35 S).2.1
  obtain ⟨_, _, _, _, _, _, i3_co, i3_fi, i3_fe⟩ := file_is (gx35 S).2.2.1
  obtain ⟨_, _, _, _, _, _, _, _, _, _, _, _, _, _, i5_x⟩ := exc_is (gx35 S).2.2.2.2.2.2.2.2.2.1
  obtain ⟨_, _, _, _, _, _, _, _, i5_lI, y_i5_lI⟩ := fn_okC (S.fn 54 rfl) (gx36 S).2.2.2.2.1
  obtain ⟨_, _, _, i5_ce⟩ := cell_is (gx36 S).2.2.2.2.2.1
  obtain ⟨_, _, _, _, _, _, i5_co, i5_fi, i5_fe⟩ := file_is (gx36 S).2.2.2.2.2.2.1
  obtain ⟨_, _, _, _, _, _, _, _, _, _, _, _, _, _, i6_x⟩ := exc_is (gx37 S).1
  obtain ⟨_, _, _, _, _, _, _, _, i6_lI, y_i6_lI⟩ := fn_okC (S.fn 55 rfl) (gx37 S).2.2.2.2.2.2.2.1
  obtain ⟨_, _, _, i6_ce⟩ := cell_is (gx37 S).2.2.2.2.2.2.2.2.1
  obtain ⟨_, _, _, _, _, _, i6_co, i6_fi, i6_fe⟩ := file_is (gx37 S).2.2.2.2.2.2.2.2.2.1
  obtain ⟨_, tbl, z_tbl⟩ := tbl_is (S.hd _ (mem_at (i := 0) rfl))
  exact all_mk (l := theLaw) (P := theRow.prog) (celi0 := (Ad_celi0 K)) (codi0 := (Ad_codi0 K)) (celi3 := (Ad_celi3 K)) (codi3 := (Ad_codi3 K)) (celi5 := (Ad_celi5 K)) (codi5 := (Ad_codi5 K)) (celi6 := (Ad_celi6 K)) (codi6 := (Ad_codi6 K)) (Tb0 := (Ad_Tb0 K)) rfl X G hfa (gx0 S).1 l_is_name y_l_is_name (gx0 S).2.2.1 (gx0 S).2.2.2.1 l_rises y_l_rises (gx0 S).2.2.2.2.2.1 (gx0 S).2.2.2.2.2.2.1 l_check_facts y_l_check_facts (gx0 S).2.2.2.2.2.2.2.2.1 (gx0 S).2.2.2.2.2.2.2.2.2.1 l_nested y_l_nested (gx0 S).2.2.2.2.2.2.2.2.2.2.2 (gx1 S).1 l_check_rules y_l_check_rules (gx1 S).2.2.1 (gx1 S).2.2.2.1 l_check_part y_l_check_part (gx1 S).2.2.2.2.2.1 (gx1 S).2.2.2.2.2.2.1 l_merged y_l_merged (gx1 S).2.2.2.2.2.2.2.2.1 (gx1 S).2.2.2.2.2.2.2.2.2.1 l_bits_of y_l_bits_of (gx1 S).2.2.2.2.2.2.2.2.2.2.2 (gx2 S).1 l_names_of y_l_names_of (gx2 S).2.2.1 (gx2 S).2.2.2.1 l_cube_of y_l_cube_of (gx2 S).2.2.2.2.2.1 (gx2 S).2.2.2.2.2.2.1 l_clash y_l_clash (gx2 S).2.2.2.2.2.2.2.2.1 (gx2 S).2.2.2.2.2.2.2.2.2.1 l_joined y_l_joined (gx2 S).2.2.2.2.2.2.2.2.2.2.2 (gx3 S).1 l_clashes_within y_l_clashes_within (gx3 S).2.2.1 (gx3 S).2.2.2.1 l_clashes y_l_clashes (gx3 S).2.2.2.2.2.1 (gx3 S).2.2.2.2.2.2.1 l_path_to y_l_path_to (gx3 S).2.2.2.2.2.2.2.2.1 (gx3 S).2.2.2.2.2.2.2.2.2.1 l_next_beside y_l_next_beside (gx3 S).2.2.2.2.2.2.2.2.2.2.2 (gx4 S).1 l_replaced y_l_replaced (gx4 S).2.2.1 (gx4 S).2.2.2.1 l_swapped y_l_swapped (gx4 S).2.2.2.2.2.1 (gx4 S).2.2.2.2.2.2.1 l__law_mix y_l__law_mix (gx4 S).2.2.2.2.2.2.2.2.1 (gx4 S).2.2.2.2.2.2.2.2.2.1 l__law_next y_l__law_next (gx4 S).2.2.2.2.2.2.2.2.2.2.2 (gx5 S).1 l__law_alike y_l__law_alike (gx5 S).2.2.1 (gx5 S).2.2.2.1 l__law_error y_l__law_error (gx5 S).2.2.2.2.2.1 (gx5 S).2.2.2.2.2.2.1 l__law_facts y_l__law_facts (gx5 S).2.2.2.2.2.2.2.2.1 (gx5 S).2.2.2.2.2.2.2.2.2.1 l__law_parts y_l__law_parts (gx5 S).2.2.2.2.2.2.2.2.2.2.2 (gx6 S).1 l__law_rules y_l__law_rules (gx6 S).2.2.1 (gx6 S).2.2.2.1 l__law_rule y_l__law_rule (gx6 S).2.2.2.2.2.1 (gx6 S).2.2.2.2.2.2.1 l__law_book y_l__law_book (gx6 S).2.2.2.2.2.2.2.2.1 (gx6 S).2.2.2.2.2.2.2.2.2.1 l__law_case y_l__law_case (gx6 S).2.2.2.2.2.2.2.2.2.2.2 (gx7 S).1 l__law_every y_l__law_every (gx7 S).2.2.1 (gx7 S).2.2.2.1 l__law_meets y_l__law_meets (gx7 S).2.2.2.2.2.1 (gx7 S).2.2.2.2.2.2.1 l__law_pairs y_l__law_pairs (gx7 S).2.2.2.2.2.2.2.2.1 (gx7 S).2.2.2.2.2.2.2.2.2.1 l__law_changed y_l__law_changed (gx7 S).2.2.2.2.2.2.2.2.2.2.2 (gx8 S).1 l_law y_l_law (gx8 S).2.2.1 (gx8 S).2.2.2.1 (gx8 S).2.2.2.2.1 (gx8 S).2.2.2.2.2.1 (gx8 S).2.2.2.2.2.2.1 (gx8 S).2.2.2.2.2.2.2.1 (gx8 S).2.2.2.2.2.2.2.2.1 (gx8 S).2.2.2.2.2.2.2.2.2.1 (gx8 S).2.2.2.2.2.2.2.2.2.2.1 (gx8 S).2.2.2.2.2.2.2.2.2.2.2 (gx9 S).1 (gx9 S).2.1 (gx9 S).2.2.1 (gx9 S).2.2.2.1 (gx9 S).2.2.2.2.1 (gx9 S).2.2.2.2.2.1 pr_mh (gx9 S).2.2.2.2.2.2.2.1 (gx9 S).2.2.2.2.2.2.2.2.1 (gx9 S).2.2.2.2.2.2.2.2.2.1 pr_mf (gx9 S).2.2.2.2.2.2.2.2.2.2.2 (gx10 S).1 (gx10 S).2.1 pr_mn (gx10 S).2.2.2.1 (gx10 S).2.2.2.2.1 (gx10 S).2.2.2.2.2.1 (gx10 S).2.2.2.2.2.2.1 (gx10 S).2.2.2.2.2.2.2.1 (gx10 S).2.2.2.2.2.2.2.2.1 (gx10 S).2.2.2.2.2.2.2.2.2.1 (gx10 S).2.2.2.2.2.2.2.2.2.2.1 (gx10 S).2.2.2.2.2.2.2.2.2.2.2 (gx11 S).1 (gx11 S).2.1 (gx11 S).2.2.1 (gx11 S).2.2.2.1 (gx11 S).2.2.2.2.1 (gx11 S).2.2.2.2.2.1 (gx11 S).2.2.2.2.2.2.1 (gx11 S).2.2.2.2.2.2.2.1 (gx11 S).2.2.2.2.2.2.2.2.1 pr_rn (gx11 S).2.2.2.2.2.2.2.2.2.2.1 (gx11 S).2.2.2.2.2.2.2.2.2.2.2 (gx12 S).1 pr_rc (gx12 S).2.2.1 (gx12 S).2.2.2.1 (gx12 S).2.2.2.2.1 pr_rr (gx12 S).2.2.2.2.2.2.1 (gx12 S).2.2.2.2.2.2.2.1 (gx12 S).2.2.2.2.2.2.2.2.1 pr_re (gx12 S).2.2.2.2.2.2.2.2.2.2.1 (gx12 S).2.2.2.2.2.2.2.2.2.2.2 (gx13 S).1 pr_rd (gx13 S).2.2.1 (gx13 S).2.2.2.1 (gx13 S).2.2.2.2.1 (gx13 S).2.2.2.2.2.1 (gx13 S).2.2.2.2.2.2.1 (gx13 S).2.2.2.2.2.2.2.1 (gx13 S).2.2.2.2.2.2.2.2.1 (gx13 S).2.2.2.2.2.2.2.2.2.1 (gx13 S).2.2.2.2.2.2.2.2.2.2.1 (gx13 S).2.2.2.2.2.2.2.2.2.2.2 (gx14 S).1 (gx14 S).2.1 (gx14 S).2.2.1 (gx14 S).2.2.2.1 (gx14 S).2.2.2.2.1 (gx14 S).2.2.2.2.2.1 pr_bf (gx14 S).2.2.2.2.2.2.2.1 (gx14 S).2.2.2.2.2.2.2.2.1 (gx14 S).2.2.2.2.2.2.2.2.2.1 pr_bs (gx14 S).2.2.2.2.2.2.2.2.2.2.2 (gx15 S).1 (gx15 S).2.1 pr_br (gx15 S).2.2.2.1 (gx15 S).2.2.2.2.1 (gx15 S).2.2.2.2.2.1 pr_bn (gx15 S).2.2.2.2.2.2.2.1 (gx15 S).2.2.2.2.2.2.2.2.1 (gx15 S).2.2.2.2.2.2.2.2.2.1 (gx15 S).2.2.2.2.2.2.2.2.2.2.1 (gx15 S).2.2.2.2.2.2.2.2.2.2.2 (gx16 S).1 (gx16 S).2.1 (gx16 S).2.2.1 (gx16 S).2.2.2.1 (gx16 S).2.2.2.2.1 (gx16 S).2.2.2.2.2.1 (gx16 S).2.2.2.2.2.2.1 (gx16 S).2.2.2.2.2.2.2.1 (gx16 S).2.2.2.2.2.2.2.2.1 (gx16 S).2.2.2.2.2.2.2.2.2.1 (gx16 S).2.2.2.2.2.2.2.2.2.2.1 (gx16 S).2.2.2.2.2.2.2.2.2.2.2 (gx17 S).1 (gx17 S).2.1 (gx17 S).2.2.1 (gx17 S).2.2.2.1 (gx17 S).2.2.2.2.1 (gx17 S).2.2.2.2.2.1 (gx17 S).2.2.2.2.2.2.1 (gx17 S).2.2.2.2.2.2.2.1 l_mi y_l_mi (gx17 S).2.2.2.2.2.2.2.2.2.1 l_mh y_l_mh (gx17 S).2.2.2.2.2.2.2.2.2.2.2 l_mf y_l_mf (gx18 S).2.1 l_mn y_l_mn (gx18 S).2.2.2.1 l_ri y_l_ri (gx18 S).2.2.2.2.2.1 l_rn y_l_rn (gx18 S).2.2.2.2.2.2.2.1 l_rc y_l_rc (gx18 S).2.2.2.2.2.2.2.2.2.1 l_rr y_l_rr (gx18 S).2.2.2.2.2.2.2.2.2.2.2 l_re y_l_re (gx19 S).2.1 l_rd y_l_rd (gx19 S).2.2.2.1 l_bi y_l_bi (gx19 S).2.2.2.2.2.1 l_bf y_l_bf (gx19 S).2.2.2.2.2.2.2.1 l_bs y_l_bs (gx19 S).2.2.2.2.2.2.2.2.2.1 l_br y_l_br (gx19 S).2.2.2.2.2.2.2.2.2.2.2 l_bn y_l_bn (gx20 S).2.1 l_gi y_l_gi (gx20 S).2.2.2.1 l_eb y_l_eb (gx20 S).2.2.2.2.2.1 l_er y_l_er (gx20 S).2.2.2.2.2.2.2.1 l_ec y_l_ec (gx20 S).2.2.2.2.2.2.2.2.2.1 (gx20 S).2.2.2.2.2.2.2.2.2.2.1 (gx20 S).2.2.2.2.2.2.2.2.2.2.2 (gx21 S).1 (gx21 S).2.1 (gx21 S).2.2.1 (gx21 S).2.2.2.1 (gx21 S).2.2.2.2.1 (gx21 S).2.2.2.2.2.1 (gx21 S).2.2.2.2.2.2.1 (gx21 S).2.2.2.2.2.2.2.1 (gx21 S).2.2.2.2.2.2.2.2.1 (gx21 S).2.2.2.2.2.2.2.2.2.1 (gx21 S).2.2.2.2.2.2.2.2.2.2.1 (gx21 S).2.2.2.2.2.2.2.2.2.2.2 (gx22 S).1 (gx22 S).2.1 (gx22 S).2.2.1 (gx22 S).2.2.2.1 (gx22 S).2.2.2.2.1 (gx22 S).2.2.2.2.2.1 m_LETTERS m_LONGEST_NAME m_MOST_FACTS m_MOST_NAMES m_MOST_AROUND m_MOST_RULES m_MOST_OUTERMOST (gx23 S).2.1 (gx23 S).2.2.1 (gx23 S).2.2.2.1 (gx23 S).2.2.2.2.1 (gx23 S).2.2.2.2.2.1 (gx23 S).2.2.2.2.2.2.1 (gx23 S).2.2.2.2.2.2.2.1 (gx23 S).2.2.2.2.2.2.2.2.1 (gx23 S).2.2.2.2.2.2.2.2.2.1 (gx23 S).2.2.2.2.2.2.2.2.2.2.1 (gx23 S).2.2.2.2.2.2.2.2.2.2.2 (gx24 S).1 (gx24 S).2.1 (gx24 S).2.2.1 (gx24 S).2.2.2.1 (gx24 S).2.2.2.2.1 (gx24 S).2.2.2.2.2.1 (gx24 S).2.2.2.2.2.2.1 (gx24 S).2.2.2.2.2.2.2.1 (gx24 S).2.2.2.2.2.2.2.2.1 (gx24 S).2.2.2.2.2.2.2.2.2.1 (gx24 S).2.2.2.2.2.2.2.2.2.2.1 (gx24 S).2.2.2.2.2.2.2.2.2.2.2 (gx25 S).1 (gx25 S).2.1 (gx25 S).2.2.1 (gx25 S).2.2.2.1 (gx25 S).2.2.2.2.1 (gx25 S).2.2.2.2.2.1 (gx25 S).2.2.2.2.2.2.1 (gx25 S).2.2.2.2.2.2.2.1 (gx25 S).2.2.2.2.2.2.2.2.1 (gx25 S).2.2.2.2.2.2.2.2.2.1 (gx25 S).2.2.2.2.2.2.2.2.2.2.1 (gx25 S).2.2.2.2.2.2.2.2.2.2.2 (gx26 S).1 (gx26 S).2.1 (gx26 S).2.2.1 (gx26 S).2.2.2.1 (gx26 S).2.2.2.2.1 (gx26 S).2.2.2.2.2.1 (gx26 S).2.2.2.2.2.2.1 (gx26 S).2.2.2.2.2.2.2.1 (gx26 S).2.2.2.2.2.2.2.2.1 (gx26 S).2.2.2.2.2.2.2.2.2.1 (gx26 S).2.2.2.2.2.2.2.2.2.2.1 (gx26 S).2.2.2.2.2.2.2.2.2.2.2 (gx27 S).1 (gx27 S).2.1 (gx27 S).2.2.1 (gx27 S).2.2.2.1 (gx27 S).2.2.2.2.1 (gx27 S).2.2.2.2.2.1 (gx27 S).2.2.2.2.2.2.1 (gx27 S).2.2.2.2.2.2.2.1 (gx27 S).2.2.2.2.2.2.2.2.1 (gx27 S).2.2.2.2.2.2.2.2.2.1 (gx27 S).2.2.2.2.2.2.2.2.2.2.1 (gx27 S).2.2.2.2.2.2.2.2.2.2.2 (gx28 S).1 (gx28 S).2.1 (gx28 S).2.2.1 (gx28 S).2.2.2.1 (gx28 S).2.2.2.2.1 (gx28 S).2.2.2.2.2.1 (gx28 S).2.2.2.2.2.2.1 (gx28 S).2.2.2.2.2.2.2.1 (gx28 S).2.2.2.2.2.2.2.2.1 (gx28 S).2.2.2.2.2.2.2.2.2.1 (gx28 S).2.2.2.2.2.2.2.2.2.2.1 (gx28 S).2.2.2.2.2.2.2.2.2.2.2 (gx29 S).1 (gx29 S).2.1 (gx29 S).2.2.1 (gx29 S).2.2.2.1 (gx29 S).2.2.2.2.1 (gx29 S).2.2.2.2.2.1 (gx29 S).2.2.2.2.2.2.1 (gx29 S).2.2.2.2.2.2.2.1 (gx29 S).2.2.2.2.2.2.2.2.1 (gx29 S).2.2.2.2.2.2.2.2.2.1 (gx29 S).2.2.2.2.2.2.2.2.2.2.1 (gx29 S).2.2.2.2.2.2.2.2.2.2.2 (gx30 S).1 (gx30 S).2.1 (gx30 S).2.2.1 (gx30 S).2.2.2.1 (gx30 S).2.2.2.2.1 (gx30 S).2.2.2.2.2.1 (gx30 S).2.2.2.2.2.2.1 (gx30 S).2.2.2.2.2.2.2.1 (gx30 S).2.2.2.2.2.2.2.2.1 (gx30 S).2.2.2.2.2.2.2.2.2.1 (gx30 S).2.2.2.2.2.2.2.2.2.2.1 (gx30 S).2.2.2.2.2.2.2.2.2.2.2 (gx31 S).1 (gx31 S).2.1 (gx31 S).2.2.1 (gx31 S).2.2.2.1 (gx31 S).2.2.2.2.1 (gx31 S).2.2.2.2.2.1 (gx31 S).2.2.2.2.2.2.1 (gx31 S).2.2.2.2.2.2.2.1 (gx31 S).2.2.2.2.2.2.2.2.1 (gx31 S).2.2.2.2.2.2.2.2.2.1 (gx31 S).2.2.2.2.2.2.2.2.2.2.1 (gx31 S).2.2.2.2.2.2.2.2.2.2.2 (gx32 S).1 (gx32 S).2.1 (gx32 S).2.2.1 (gx32 S).2.2.2.1 (gx32 S).2.2.2.2.1 (gx32 S).2.2.2.2.2.1 (gx32 S).2.2.2.2.2.2.1 (gx32 S).2.2.2.2.2.2.2.1 (gx32 S).2.2.2.2.2.2.2.2.1 (gx32 S).2.2.2.2.2.2.2.2.2.1 x_E (gx32 S).2.2.2.2.2.2.2.2.2.2.2 (gx33 S).1 (gx33 S).2.1 i0_x (gx33 S).2.2.2.1 (gx33 S).2.2.2.2.1 (gx33 S).2.2.2.2.2.1 (gx33 S).2.2.2.2.2.2.1 (gx33 S).2.2.2.2.2.2.2.1 (gx33 S).2.2.2.2.2.2.2.2.1 i0_lI y_i0_lI i0_ce i0_co i0_fi i0_fe (gx34 S).1 (gx34 S).2.1 (gx34 S).2.2.1 (gx34 S).2.2.2.1 (gx34 S).2.2.2.2.1 i3_x (gx34 S).2.2.2.2.2.2.1 (gx34 S).2.2.2.2.2.2.2.1 (gx34 S).2.2.2.2.2.2.2.2.1 (gx34 S).2.2.2.2.2.2.2.2.2.1 (gx34 S).2.2.2.2.2.2.2.2.2.2.1 (gx34 S).2.2.2.2.2.2.2.2.2.2.2 i3_lI y_i3_lI i3_ce i3_co i3_fi i3_fe (gx35 S).2.2.2.1 (gx35 S).2.2.2.2.1 (gx35 S).2.2.2.2.2.1 (gx35 S).2.2.2.2.2.2.1 (gx35 S).2.2.2.2.2.2.2.1 (gx35 S).2.2.2.2.2.2.2.2.1 i5_x (gx35 S).2.2.2.2.2.2.2.2.2.2.1 (gx35 S).2.2.2.2.2.2.2.2.2.2.2 (gx36 S).1 (gx36 S).2.1 (gx36 S).2.2.1 (gx36 S).2.2.2.1 i5_lI y_i5_lI i5_ce i5_co i5_fi i5_fe (gx36 S).2.2.2.2.2.2.2.1 (gx36 S).2.2.2.2.2.2.2.2.1 (gx36 S).2.2.2.2.2.2.2.2.2.1 (gx36 S).2.2.2.2.2.2.2.2.2.2.1 (gx36 S).2.2.2.2.2.2.2.2.2.2.2 i6_x (gx37 S).2.1 (gx37 S).2.2.1 (gx37 S).2.2.2.1 (gx37 S).2.2.2.2.1 (gx37 S).2.2.2.2.2.1 (gx37 S).2.2.2.2.2.2.1 i6_lI y_i6_lI i6_ce i6_co i6_fi i6_fe (gx37 S).2.2.2.2.2.2.2.2.2.2.1 (gx37 S).2.2.2.2.2.2.2.2.2.2.2 (gx38 S).1 (gx38 S).2.1 (gx38 S).2.2.1 (gx38 S).2.2.2.1 (gx38 S).2.2.2.2.1 (gx38 S).2.2.2.2.2.1 (gx38 S).2.2.2.2.2.2.1 (gx38 S).2.2.2.2.2.2.2.1 (gx38 S).2.2.2.2.2.2.2.2.1 (gx38 S).2.2.2.2.2.2.2.2.2.1 (gx38 S).2.2.2.2.2.2.2.2.2.2.1 (gx38 S).2.2.2.2.2.2.2.2.2.2.2 tbl z_tbl (S.empty _ (mem_at (i := 0) rfl)) (S.out _ (mem_at (i := 0) rfl)) (by kernel_rfl)
end Sc
open PySem PySem.W PySem.Calls PyProof.Rows
theorem PySem.Challenge.cw_smallcourt_k14_whole_clashes_and_swaps_holds : PySem.Challenge.rw_smallcourt_k14_whole_clashes_and_swaps.Holds := by
  w_on; o_law
  refine HandSHeadRun.head_any (r := Sc.theRow) (q := view Sc.theRow.prog [Sc.lawI]) (H := Sc.hk) (ob := Sc.ob) (M := 9000) (loose := Sc.names) (d := HandSHeadRun.topDef Sc.theRow.prog Sc.lawI) (kwd := []) Sc.ob_eq (by kernel_rfl) (fun s => by kernel_rfl) Sc.run (by kernel_rfl) (by kernel_rfl) (by kernel_rfl) (by rfl) (by first | assumption | decide +kernel) (by decide +kernel) ⟨rfl, rfl, rfl, rfl, rfl, by decide +kernel⟩ ?hw ?hc
  case hw => w_witness2
  case hc =>
    refine LamX.walk_ofTsE (l := Sc.theLaw) (n := 63) (k := 36) (CX := fun _ => L2.CX0) (x := "_law_script") rfl (by decide) (by kernel_rfl) ⟨rfl, by decide, by decide⟩ ?F (fun _ _ _ _ _ z => z)
    intro w mg fa h Y G hmg0
    obtain ⟨K, KX, c⟩ := Y
    have hmg : mg ("law" : PySem.Str) = some (.ref fa) := by
      have e : (HandSHeadRun.topDef Sc.theRow.prog Sc.lawI).name = ("law" : PySem.Str) := by kernel_rfl
      rw [← e]
      exact hmg0
    exact ⟨K, KX, Sc.all_y KX G hmg c⟩
