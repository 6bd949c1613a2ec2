import PyProof.Rows.All
import Wide.All
import OpenK.AllK
import Wide.FinOn
import KE.GoesMore
import HandS.Iter
import KE.KExcSuper
import HandS.Nested
import HandS.ExcInit
import HandS.FStr
import HandS.ForMost
import HandS.ForExc
import HandS.EndTab
import HandS.IsInst
import HandS.SetFor
import HandS.ExcIs
import HandS.ExcField
import HandS.TupAny
import HandS.Wide
import HandS.WideBits
import HandS.Walk
import HandS.Deep
import KE.KExcIs
import PySem.Challenge.RW_smallcourt_k76_whole_amendments_taken_ba
import HandS.Property
import HandS.NamedTupGet
import HandS.More
import HandS.SlotsOwn
import KE.KOpsOwn
import KE.KCallOwn
import HandS.WordsExc
import HandS.List
import PyProof.AutoSeq1
import OpenK.KMeth
import HandS.Style
import PyProof.EqKinds
import PyProof.NeKinds
import HandS.OwnEq
import HandS.Set
import HandS.TupSets
import PyProof.Rows.SortShellAny
import HandS.Head2
import HandS.Head3
import HandS.HeadHook4
import HandS.HeadWalk
set_option Elab.async false
set_option linter.all false
set_option maxRecDepth 100000
set_option maxHeartbeats 4000000
namespace Sc
open PySem PySem.Spec PyProof.Rows L2 NdefX
def topS (i : Nat) : Stmt := PySem.Challenge.pw_smallcourt_k76_whole_amendments_taken_ba.main.body.getD i (.Pass ⟨0, 0, 0, 0⟩)
abbrev s_is_name : Stmt := topS 18
abbrev s_rises : Stmt := topS 19
abbrev s__law_mix : Stmt := topS 57
abbrev s__law_next : Stmt := topS 58
abbrev s__law_facts : Stmt := topS 59
abbrev s_check_part : Stmt := topS 45
abbrev s_merged : Stmt := topS 46
abbrev s_Condition___init__ : Stmt := (inClass (topS 44) 0)
abbrev s_Condition_holding : Stmt := (inClass (topS 44) 1)
abbrev s_Condition_failing : Stmt := (inClass (topS 44) 2)
abbrev s_Condition_names : Stmt := (inClass (topS 44) 3)
abbrev s_Condition___len__ : Stmt := (inClass (topS 44) 5)
abbrev s_Condition___call__ : Stmt := (inClass (topS 44) 4)
abbrev s_Condition_within : Stmt := (inClass (topS 44) 8)
abbrev s_Condition___eq__ : Stmt := (inClass (topS 44) 7)
abbrev s_Condition___and__ : Stmt := (inClass (topS 44) 6)
abbrev s_nested : Stmt := topS 34
abbrev s_Rule___init__ : Stmt := (inClass (topS 32) 0)
abbrev s_Rule_name : Stmt := (inClass (topS 32) 1)
abbrev s_Rule_condition : Stmt := (inClass (topS 32) 2)
abbrev s_Rule_ruling : Stmt := (inClass (topS 32) 3)
abbrev s_Rule_exceptions : Stmt := (inClass (topS 32) 4)
abbrev s_Rule_depth : Stmt := (inClass (topS 32) 5)
abbrev s_check_rules : Stmt := topS 35
abbrev s_check_facts : Stmt := topS 22
abbrev s_check_case : Stmt := topS 23
abbrev s_Book___init__ : Stmt := (inClass (topS 33) 0)
abbrev s_Book_facts : Stmt := (inClass (topS 33) 1)
abbrev s_Book_rules : Stmt := (inClass (topS 33) 2)
abbrev s_Book_ruling : Stmt := (inClass (topS 33) 3)
abbrev s_Book___contains__ : Stmt := (inClass (topS 33) 7)
abbrev s_Book___getitem__ : Stmt := (inClass (topS 33) 8)
abbrev s_path_to : Stmt := topS 38
abbrev s_next_beside : Stmt := topS 39
abbrev s_replaced : Stmt := topS 36
abbrev s_is_new : Stmt := topS 55
abbrev s_is_amendment : Stmt := topS 54
abbrev s_swapped : Stmt := topS 41
abbrev s_Book___sub__ : Stmt := (inClass (topS 33) 10)
abbrev s_amended_rule : Stmt := topS 53
abbrev s_amended_book : Stmt := topS 52
abbrev s_amended : Stmt := topS 51
abbrev s__law_sides : Stmt := topS 60
abbrev s__law_rule : Stmt := topS 61
abbrev s__law_drawn : Stmt := topS 62
abbrev s__law_made : Stmt := topS 63
abbrev s__law_book : Stmt := topS 64
abbrev s__law_all : Stmt := topS 65
abbrev s__law_depths : Stmt := topS 72
abbrev s__law_beside : Stmt := topS 69
abbrev s__law_changed : Stmt := topS 66
abbrev s__law_edit : Stmt := topS 67
abbrev s__law_after : Stmt := topS 68
abbrev s__law_stop : Stmt := topS 73
abbrev s__law_real : Stmt := topS 71
abbrev s__law_amendment : Stmt := topS 70
abbrev s__law_say : Stmt := topS 74
abbrev s_Rule___eq__ : Stmt := (inClass (topS 32) 7)
abbrev s_Book___eq__ : Stmt := (inClass (topS 33) 11)
abbrev s_Book_names : Stmt := (inClass (topS 33) 4)
abbrev s_Book___len__ : Stmt := (inClass (topS 33) 6)
abbrev s_Rule___len__ : Stmt := (inClass (topS 32) 6)
abbrev s__law_backs : Stmt := topS 75
abbrev s_law : Stmt := topS 76
abbrev nf_InvalidFacts (cc c : Addr) : NF := ⟨"__init__", "InvalidFacts.__init__", defArgs (inClass (topS 3) 0), defBody (inClass (topS 3) 0), defScope (inClass (topS 3) 0), [(("__class__" : Str), cc)], c⟩
abbrev nf_InvalidCase (cc c : Addr) : NF := ⟨"__init__", "InvalidCase.__init__", defArgs (inClass (topS 4) 0), defBody (inClass (topS 4) 0), defScope (inClass (topS 4) 0), [(("__class__" : Str), cc)], c⟩
abbrev nf_InvalidCondition (cc c : Addr) : NF := ⟨"__init__", "InvalidCondition.__init__", defArgs (inClass (topS 5) 0), defBody (inClass (topS 5) 0), defScope (inClass (topS 5) 0), [(("__class__" : Str), cc)], c⟩
abbrev nf_InvalidRule (cc c : Addr) : NF := ⟨"__init__", "InvalidRule.__init__", defArgs (inClass (topS 7) 0), defBody (inClass (topS 7) 0), defScope (inClass (topS 7) 0), [(("__class__" : Str), cc)], c⟩
abbrev nf_InvalidBook (cc c : Addr) : NF := ⟨"__init__", "InvalidBook.__init__", defArgs (inClass (topS 8) 0), defBody (inClass (topS 8) 0), defScope (inClass (topS 8) 0), [(("__class__" : Str), cc)], c⟩
abbrev nf_InvalidOperation (cc c : Addr) : NF := ⟨"__init__", "InvalidOperation.__init__", defArgs (inClass (topS 14) 0), defBody (inClass (topS 14) 0), defScope (inClass (topS 14) 0), [(("__class__" : Str), cc)], c⟩
def letters : Str := "abcdefghijklmnopqrstuvwxyz"
end Sc
namespace HeadY
open PySem PySem.Spec PyProof.Rows L2 He
/-! ### addresses -/
def recF (K : PySem.W.Frag) (p : Addr) : Addr := match PySem.W.recIn K p "property" with
  | some (.ref g :: _) => g
  | _ => 0
def codA (K : PySem.W.Frag) (f : Addr) : Addr := match K.lookup f with
  | some ⟨_, _, .func fd, _⟩ => (match fd.code with
    | .ref c => c
    | _ => 0)
  | _ => 0
def cloA (K : PySem.W.Frag) (f : Addr) : Addr := match K.lookup f with
  | some ⟨_, _, .func fd, _⟩ => (match fd.closure with
    | (_, c) :: _ => c
    | _ => 0)
  | _ => 0
def mroT (K : PySem.W.Frag) (C : Addr) : List Value := match K.lookup C with
  | some ⟨_, _, .cls cd, _⟩ => cd.mro.tail
  | _ => []
/-! ### functions -/
abbrev FnY : Type := Option (Str × Str × Arguments × FuncBody × Scope)
def fnY (K : PySem.W.Frag) (a : Addr) : FnY := match K.lookup a with
  | some ⟨_, _, .func fd, _⟩ => some (fd.name, fd.qualname, fd.params, fd.body, fd.scope)
  | _ => none
structure FnDY where
  at_ : PySem.W.Frag → Addr
  name : Str
  qual : Str
  params : Arguments
  body : List Stmt
  scope : Scope
def FnDY.val (d : FnDY) : FnY := some (d.name, d.qual, d.params, .stmts d.body, d.scope)
def fnB (K : PySem.W.Frag) (a : Addr) (q : Str) : Bool := match K.lookup a with
  | some ⟨_, _, .func fd, _⟩ => PySem.W.codeIn K (.ref (codA K a)) q && (decide (fd.code = .ref (codA K a)) && (decide (fd.globals = mainGlobals) && (fd.closure.isEmpty && (decide (fd.defaults = .none) && decide (fd.builtins = builtinsNs)))))
  | _ => false
def fnBC (K : PySem.W.Frag) (a : Addr) (q : Str) : Bool := match K.lookup a with
  | some ⟨_, _, .func fd, _⟩ => PySem.W.codeIn K (.ref (codA K a)) q && (decide (fd.code = .ref (codA K a)) && (decide (fd.globals = mainGlobals) && (decide (fd.closure = [(("__class__" : Str), cloA K a)]) && (decide (fd.defaults = .none) && decide (fd.builtins = builtinsNs)))))
  | _ => false
theorem fn_ok {K : PySem.W.Frag} {a : Addr} {n q : Str} {ps : Arguments} {b : List Stmt} {sc : Scope} (e : fnY K a = some (n, q, ps, .stmts b, sc)) (c : fnB K a q = true) :
    ∃ oc od kV dc pm an ct sl, K.lookup a = some ⟨oc, od, .func (PySem.W.fnOf n q ps b sc .none kV dc pm an (.ref (codA K a)) ct), sl⟩ ∧ PySem.W.codeIn K (.ref (codA K a)) q = true := by
  unfold fnB at c
  unfold fnY at e
  cases z : K.lookup a with
  | none => rw [z] at c; cases c
  | some o =>
    obtain ⟨oc, od, dt, sl⟩ := o
    rw [z] at c e
    cases dt with
    | func fd =>
      obtain ⟨n1, n2, n3, n4, n5, n6, n7, n8, n9, n10, n11, n12, n13, n14, n15⟩ := fd
      have e2 : (some (n1, n2, n3, n4, n5) : FnY) = some (n, q, ps, .stmts b, sc) := e
      simp only [Option.some.injEq, Prod.mk.injEq] at e2
      obtain ⟨h1, h2, h3, h4, h5⟩ := e2
      obtain ⟨c1, c⟩ := ba c
      obtain ⟨c2, c⟩ := ba c
      obtain ⟨c3, c⟩ := ba c
      obtain ⟨c4, c⟩ := ba c
      obtain ⟨c5, c6⟩ := ba c
      have c2 : n13 = _ := of_decide_eq_true c2
      have c3 : n6 = _ := of_decide_eq_true c3
      have c4 : n7 = [] := List.isEmpty_iff.mp c4
      have c5 : n8 = _ := of_decide_eq_true c5
      have c6 : n15 = _ := of_decide_eq_true c6
      exact ⟨oc, od, n9, n10, n11, n12, n14, sl, by rw [h1, h2, h3, h4, h5, c2, c3, c4, c5, c6], c1⟩
    | _ => cases c
theorem fn_okC {K : PySem.W.Frag} {a : Addr} {n q : Str} {ps : Arguments} {b : List Stmt} {sc : Scope} (e : fnY K a = some (n, q, ps, .stmts b, sc)) (c : fnBC K a q = true) :
    ∃ oc od kV dc pm an ct sl, K.lookup a = some ⟨oc, od, .func (PySem.W.fnX n q ps b sc [(("__class__" : Str), cloA K a)] .none kV dc pm an (.ref (codA K a)) ct), sl⟩ ∧ PySem.W.codeIn K (.ref (codA K a)) q = true := by
  unfold fnBC at c
  unfold fnY at e
  cases z : K.lookup a with
  | none => rw [z] at c; cases c
  | some o =>
    obtain ⟨oc, od, dt, sl⟩ := o
    rw [z] at c e
    cases dt with
    | func fd =>
      obtain ⟨n1, n2, n3, n4, n5, n6, n7, n8, n9, n10, n11, n12, n13, n14, n15⟩ := fd
      have e2 : (some (n1, n2, n3, n4, n5) : FnY) = some (n, q, ps, .stmts b, sc) := e
      simp only [Option.some.injEq, Prod.mk.injEq] at e2
      obtain ⟨h1, h2, h3, h4, h5⟩ := e2
      obtain ⟨c1, c⟩ := ba c
      obtain ⟨c2, c⟩ := ba c
      obtain ⟨c3, c⟩ := ba c
      obtain ⟨c4, c⟩ := ba c
      obtain ⟨c5, c6⟩ := ba c
      have c2 : n13 = _ := of_decide_eq_true c2
      have c3 : n6 = _ := of_decide_eq_true c3
      have c4 : n7 = _ := of_decide_eq_true c4
      have c5 : n8 = _ := of_decide_eq_true c5
      have c6 : n15 = _ := of_decide_eq_true c6
      exact ⟨oc, od, n9, n10, n11, n12, n14, sl, by rw [h1, h2, h3, h4, h5, c2, c3, c4, c5, c6], c1⟩
    | _ => cases c
/-! ### shapes -/
def intB (K : PySem.W.Frag) (x : Str) (i : Int) : Bool := match PySem.W.nsIn K mainGlobals x with
  | some (some (.int j _)) => decide (j = i)
  | _ => false
theorem int_is {K : PySem.W.Frag} {x : Str} {i : Int} (c : intB K x i = true) : ∃ t, PySem.W.nsIn K mainGlobals x = some (some (.int i t)) := by
  unfold intB at c
  split at c
  · rename_i j t e
    exact ⟨t, by rw [e, of_decide_eq_true c]⟩
  · cases c
def strB (K : PySem.W.Frag) (x s : Str) : Bool := match PySem.W.nsIn K mainGlobals x with
  | some (some (.str j _)) => decide (j = s)
  | _ => false
theorem str_is {K : PySem.W.Frag} {x s : Str} (c : strB K x s = true) : ∃ t, PySem.W.nsIn K mainGlobals x = some (some (.str s t)) := by
  unfold strB at c
  split at c
  · rename_i j t e
    exact ⟨t, by rw [e, of_decide_eq_true c]⟩
  · cases c
def recB (K : PySem.W.Frag) (p : Addr) : Bool := match PySem.W.recIn K p "property" with
  | some (.ref g :: _) => decide (g = recF K p)
  | _ => false
theorem rec_is {K : PySem.W.Frag} {p : Addr} (c : recB K p = true) : ∃ rs, PySem.W.recIn K p "property" = some (.ref (recF K p) :: rs) := by
  unfold recB at c
  split at c
  · rename_i g rs e
    exact ⟨rs, by rw [e, of_decide_eq_true c]⟩
  · cases c
theorem some_is {α : Type} {o : Option α} (c : o.isSome = true) : ∃ x, o = some x := Option.isSome_iff_exists.mp c
def sixB (id : String) : List (Option Value) → Bool
  | [_, _, _, _, some (.builtin b), _] => decide (b = id)
  | _ => false
theorem six_is {id : String} {l : List (Option Value)} (c : sixB id l = true) : ∃ x0 x1 x2 x3 x5, l = [x0, x1, x2, x3, some (.builtin id), x5] := by
  unfold sixB at c
  split at c
  · have c := of_decide_eq_true c
    exact ⟨_, _, _, _, _, by rw [c]⟩
  · cases c
def excB (K : PySem.W.Frag) (C : Addr) (id : String) : Bool := match K.lookup C with
  | some ⟨.type t, _, .cls cd, sl⟩ => decide (t = "type") && (decide (cd.mro = .ref C :: mroT K C) && (cd.hasDict && (!cd.hasDel && sixB id sl.toList)))
  | _ => false
theorem exc_is {K : PySem.W.Frag} {C : Addr} {id : String} (c : excB K C id = true) :
    ∃ nm q N bs sn su ab col dd x0 x1 x2 x3 x5, K.lookup C = some (excClassObj nm q C N bs (mroT K C) true sn su ab col dd x0 x1 x2 x3 x5 id) := by
  unfold excB at c
  cases z : K.lookup C with
  | none => rw [z] at c; cases c
  | some o =>
    obtain ⟨oc, od, dt, ⟨sl⟩⟩ := o
    rw [z] at c
    cases oc with
    | type t =>
      cases dt with
      | cls cd =>
        obtain ⟨n1, n2, n3, n4, n5, n6, n7, n8, n9, n10, n11⟩ := cd
        obtain ⟨c1, c⟩ := ba c
        obtain ⟨c2, c⟩ := ba c
        obtain ⟨c3, c⟩ := ba c
        obtain ⟨c4, c5⟩ := ba c
        have c1 : t = _ := of_decide_eq_true c1
        have c2 : n3 = _ := of_decide_eq_true c2
        have c3 : n6 = true := c3
        have c4 : n11 = false := by
          cases n11 with
          | false => rfl
          | true => cases c4
        obtain ⟨x0, x1, x2, x3, x5, c5⟩ := six_is (l := sl) c5
        exact ⟨n1, n5, n4, n2, n7, n8, n9, n10, od, x0, x1, x2, x3, x5, by rw [c1, c2, c3, c4, c5]⟩
      | _ => cases c
    | _ => cases dt <;> cases c
def cellB (K : PySem.W.Frag) (c E : Addr) : Bool := match K.lookup c with
  | some ⟨_, _, .cell (some (.ref a)), _⟩ => decide (a = E)
  | _ => false
theorem cell_is {K : PySem.W.Frag} {c E : Addr} (e : cellB K c E = true) : ∃ cl cd sl, K.lookup c = some ⟨cl, cd, .cell (some (.ref E)), sl⟩ := by
  unfold cellB at e
  split at e
  · rename_i a _ z
    exact ⟨_, _, _, by rw [z, of_decide_eq_true e]⟩
  · cases e
def fileB (K : PySem.W.Frag) (c : Addr) (f : Str) : Bool := match K.lookup c with
  | some ⟨_, _, .fields vs, _⟩ => (match (vs[2]? : Option Value) with
    | some (.str x _) => f == x
    | _ => false)
  | _ => false
theorem file_is {K : PySem.W.Frag} {c : Addr} {f : Str} (e : fileB K c f = true) : ∃ cl cd vs sl x t, K.lookup c = some ⟨cl, cd, .fields vs, sl⟩ ∧ vs[2]? = some (.str x t) ∧ (f == x) = true := by
  unfold fileB at e
  split at e
  · rename_i vs _ z
    split at e
    · rename_i x t y
      exact ⟨_, _, _, _, x, t, z, y, e⟩
    · cases e
  · cases e
def strsB : List Value → List Str → Bool
  | [], [] => true
  | .str x _ :: r, s :: ss => decide (x = s) && strsB r ss
  | _, _ => false
theorem strs_is : ∀ {l : List Value} {ss : List Str}, strsB l ss = true → ∃ us : List Tok, us.length = ss.length ∧ l = List.zipWith Value.str ss us
  | [], [], _ => ⟨[], rfl, rfl⟩
  | [], s :: ss, h => by cases h
  | v :: r, [], h => by cases v <;> cases h
  | v :: r, s :: ss, h => by
    cases v with
    | str x t =>
      obtain ⟨h1, h2⟩ := ba h
      obtain ⟨us, e1, e2⟩ := strs_is h2
      refine ⟨t :: us, by simp [e1], ?_⟩
      have h1 : x = s := of_decide_eq_true h1
      rw [h1, e2]
      rfl
    | _ => cases h
def tupB (K : PySem.W.Frag) (a : Addr) (ss : List Str) : Bool := match K.lookup a with
  | some ⟨.type c, _, .seq its _, _⟩ => decide (c = "tuple") && strsB its.toList ss
  | _ => false
theorem tup_is {K : PySem.W.Frag} {a : Addr} {ss : List Str} (e : tupB K a ss = true) : ∃ od n sl, ∃ us : List Tok, us.length = ss.length ∧ K.lookup a = some ⟨.type "tuple", od, .seq ⟨List.zipWith Value.str ss us⟩ n, sl⟩ := by
  unfold tupB at e
  cases z : K.lookup a with
  | none => rw [z] at e; cases e
  | some o =>
    obtain ⟨oc, od, dt, sl⟩ := o
    rw [z] at e
    cases oc with
    | type c =>
      cases dt with
      | seq its n =>
        obtain ⟨⟨its⟩⟩ : Nonempty { x : Array Value // x = its } := ⟨⟨its, rfl⟩⟩
        obtain ⟨e1, e2⟩ := ba e
        obtain ⟨us, h1, h2⟩ := strs_is e2
        have e1 : c = "tuple" := of_decide_eq_true e1
        refine ⟨od, n, sl, us, h1, ?_⟩
        rw [e1, ← h2]
      | _ => cases e
    | _ => cases dt <;> cases e
theorem len1 {α : Type} {us : List α} (h : us.length = 1) : ∃ a, us = [a] := by
  match us, h with
  | [a], _ => exact ⟨a, rfl⟩
theorem len2 {α : Type} {us : List α} (h : us.length = 2) : ∃ a b, us = [a, b] := by
  match us, h with
  | [a, b], _ => exact ⟨a, b, rfl⟩
theorem len3 {α : Type} {us : List α} (h : us.length = 3) : ∃ a b c, us = [a, b, c] := by
  match us, h with
  | [a, b, c], _ => exact ⟨a, b, c, rfl⟩
theorem len4 {α : Type} {us : List α} (h : us.length = 4) : ∃ a b c d, us = [a, b, c, d] := by
  match us, h with
  | [a, b, c, d], _ => exact ⟨a, b, c, d, rfl⟩
theorem len5 {α : Type} {us : List α} (h : us.length = 5) : ∃ a b c d e, us = [a, b, c, d, e] := by
  match us, h with
  | [a, b, c, d, e], _ => exact ⟨a, b, c, d, e, rfl⟩
theorem tbl_is {K : PySem.W.Frag} {c T : Addr} (e : PySem.W.codeHdIn K c T = true) : ∃ o, K.lookup c = some o ∧ PySem.W.codeHdIn [(c, o)] c T = true := by
  cases z : K.lookup c with
  | none =>
    unfold PySem.W.codeHdIn at e
    rw [z] at e
    cases e
  | some o =>
    refine ⟨o, rfl, ?_⟩
    unfold PySem.W.codeHdIn at e ⊢
    have q : ([(c, o)] : PySem.W.Frag).lookup c = some o := by simp [List.lookup]
    rw [q]
    rw [z] at e
    exact e
/-! ### the Hook -/
abbrev AlY : Type := List FnY × Bool
structure SaysY (fn : List FnDY) (tf : List (PySem.W.Frag → Addr)) (ex : PySem.W.Frag → Bool) (h : Heap) (K : PySem.W.Frag) : Prop where
  fns : fn.map (fun d => fnY K (d.at_ K)) = fn.map FnDY.val
  more : ex K = true
  hd : ∀ p ∈ tf, PySem.W.codeHdIn K (p K) (tabOf K (p K)) = true
  out : ∀ p ∈ tf, K.lookup (tabOf K (p K)) = none
  empty : ∀ p ∈ tf, h.get? (tabOf K (p K)) = some { cls := .none, data := .fields #[] }
def tabsY (g : Addr → Option Obj) (tf : List (PySem.W.Frag → Addr)) (K : PySem.W.Frag) : Bool := tf.all fun p => PySem.W.codeHdIn K (p K) (tabOf K (p K)) && (match g (tabOf K (p K)) with
  | some o => emptyTab o
  | none => false)
def obsY (as : List Addr) (fn : List FnDY) (tf : List (PySem.W.Frag → Addr)) (ex : PySem.W.Frag → Bool) (g : Addr → Option Obj) : AlY :=
  (fun K : PySem.W.Frag => (fn.map (fun d => fnY K (d.at_ K)), ex K && tabsY g tf K)) (frT g as)
def valY (fn : List FnDY) : AlY := (fn.map FnDY.val, true)
theorem saysY_of {as : List Addr} {fn : List FnDY} {tf : List (PySem.W.Frag → Addr)} {ex : PySem.W.Frag → Bool} {h : Heap} (e : obsY as fn tf ex h.get? = valY fn) : SaysY fn tf ex h (frT h.get? as) := by
  have e1 : fn.map (fun d => fnY (frT h.get? as) (d.at_ (frT h.get? as))) = fn.map FnDY.val := congrArg (fun z : AlY => z.1) e
  have e2 : (ex (frT h.get? as) && tabsY h.get? tf (frT h.get? as)) = true := congrArg (fun z : AlY => z.2) e
  obtain ⟨h1, h2⟩ := ba e2
  have key : ∀ p ∈ tf, PySem.W.codeHdIn (frT h.get? as) (p (frT h.get? as)) (tabOf (frT h.get? as) (p (frT h.get? as))) = true ∧ ∃ o, h.get? (tabOf (frT h.get? as) (p (frT h.get? as))) = some o ∧ emptyTab o = true := fun p hp => by
    obtain ⟨h3, h4⟩ := ba (List.all_eq_true.mp h2 p hp)
    refine ⟨h3, ?_⟩
    split at h4
    · rename_i o q
      exact ⟨o, q, h4⟩
    · cases h4
  exact ⟨e1, h1, fun p hp => (key p hp).1, fun p hp => by
    obtain ⟨_, o, q, z⟩ := key p hp
    exact frT_none q z, fun p hp => by
    obtain ⟨_, o, q, z⟩ := key p hp
    rw [q, emptyTab_eq z]⟩
def hookY (as : List Addr) (fn : List FnDY) (tf : List (PySem.W.Frag → Addr)) (ex : PySem.W.Frag → Bool) : PySem.W.Hook where
  α := AlY
  obs := fun s => obsY as fn tf ex s.heap.get?
  val := fun _ => valY fn
  says := fun _ h => ∃ K : PySem.W.Frag, K.In h ∧ SaysY fn tf ex h K
  of := fun _ _ e => ⟨_, frT_in, saysY_of e⟩
  keeps := fun _ _ _ ⟨K, hK, c⟩ k => ⟨K, PySem.W.Frag.In.keeps hK k, ⟨c.fns, c.more, c.hd, c.out, fun p hp => k _ _ (c.empty p hp)⟩⟩
theorem obsY_eq {as : List Addr} {fn : List FnDY} {tf : List (PySem.W.Frag → Addr)} {ex : PySem.W.Frag → Bool} {g : Addr → Option Obj} {s : Shared} (h : ∀ a, g a = s.heap.get? a) : obsY as fn tf ex g = (hookY as fn tf ex).obs s := by
  have e : g = s.heap.get? := funext h
  rw [e] <;> rfl
theorem map_join {α β γ δ ε : Type} {X : Option α} {a : α → β} {b : α → γ} {c : α → δ} {d : α → ε} {x : β} {y : γ} {z : δ} {u : ε} (h1 : X.map (fun s => (a s, b s, c s)) = some (x, y, z)) (h2 : X.map (fun s => (a s, b s, d s)) = some (x, y, u)) : ∃ s, X = some s ∧ a s = x ∧ b s = y ∧ c s = z ∧ d s = u := by
  cases X with
  | none => cases h1
  | some s =>
    have e1 : (a s, b s, c s) = (x, y, z) := Option.some.inj h1
    have e2 : (a s, b s, d s) = (x, y, u) := Option.some.inj h2
    simp only [Prod.mk.injEq] at e1 e2
    exact ⟨s, rfl, e1.1, e1.2.1, e1.2.2, e2.2.2⟩
/-- two runs, two parts of what is looked at -/
theorem run_join {r : PySem.W.OpenRow} {q : Program} {M : Nat} {loose : List Str} {w : World} {as : List Addr} {fn1 fn2 : List FnDY} {tf1 tf2 : List (PySem.W.Frag → Addr)} {ex1 ex2 : PySem.W.Frag → Bool}
    (h1 : HandSHeadRun.RunEq r q (hookY as fn1 tf1 ex1) (fun s => obsY as fn1 tf1 ex1 (HandSHeadRun.getT s)) M loose w) (h2 : HandSHeadRun.RunEq r q (hookY as fn2 tf2 ex2) (fun s => obsY as fn2 tf2 ex2 (HandSHeadRun.getT s)) M loose w) :
    HandSHeadRun.RunEq r q (hookY as (fn1 ++ fn2) (tf1 ++ tf2) (fun K => ex1 K && ex2 K)) (fun s => obsY as (fn1 ++ fn2) (tf1 ++ tf2) (fun K => ex1 K && ex2 K) (HandSHeadRun.getT s)) M loose w := by
  intro os
  obtain ⟨s, e, e1, e2, e3, e4⟩ := map_join (h1 os) (h2 os)
  rw [e]
  have e3 : obsY as fn1 tf1 ex1 (HandSHeadRun.getT s) = valY fn1 := e3
  have e4 : obsY as fn2 tf2 ex2 (HandSHeadRun.getT s) = valY fn2 := e4
  have a1 : fn1.map (fun d => fnY (frT (HandSHeadRun.getT s) as) (d.at_ (frT (HandSHeadRun.getT s) as))) = fn1.map FnDY.val := congrArg (fun z : AlY => z.1) e3
  have a2 : (ex1 (frT (HandSHeadRun.getT s) as) && tabsY (HandSHeadRun.getT s) tf1 (frT (HandSHeadRun.getT s) as)) = true := congrArg (fun z : AlY => z.2) e3
  have b1 : fn2.map (fun d => fnY (frT (HandSHeadRun.getT s) as) (d.at_ (frT (HandSHeadRun.getT s) as))) = fn2.map FnDY.val := congrArg (fun z : AlY => z.1) e4
  have b2 : (ex2 (frT (HandSHeadRun.getT s) as) && tabsY (HandSHeadRun.getT s) tf2 (frT (HandSHeadRun.getT s) as)) = true := congrArg (fun z : AlY => z.2) e4
  obtain ⟨a2, a3⟩ := ba a2
  obtain ⟨b2, b3⟩ := ba b2
  have c : obsY as (fn1 ++ fn2) (tf1 ++ tf2) (fun K => ex1 K && ex2 K) (HandSHeadRun.getT s) = valY (fn1 ++ fn2) := by
    show ((fn1 ++ fn2).map (fun d => fnY (frT (HandSHeadRun.getT s) as) (d.at_ (frT (HandSHeadRun.getT s) as))), (ex1 (frT (HandSHeadRun.getT s) as) && ex2 (frT (HandSHeadRun.getT s) as)) && tabsY (HandSHeadRun.getT s) (tf1 ++ tf2) (frT (HandSHeadRun.getT s) as)) = ((fn1 ++ fn2).map FnDY.val, true)
    have t : tabsY (HandSHeadRun.getT s) (tf1 ++ tf2) (frT (HandSHeadRun.getT s) as) = true := by
      unfold tabsY at a3 b3 ⊢
      rw [List.all_append, a3, b3] <;> rfl
    rw [List.map_append, List.map_append, a1, b1, a2, b2, t] <;> rfl
  show some (_, _, _) = some (_, _, _)
  rw [e1, e2]
  exact congrArg (fun z => some (true, PySem.W.openGood q loose, z)) c
/-- the same of a text with imports -/
theorem run_joinI {r : PySem.W.OpenRow} {q : Program} {M : Nat} {loose : List Str} {w : World} {as : List Addr} {fn1 fn2 : List FnDY} {tf1 tf2 : List (PySem.W.Frag → Addr)} {ex1 ex2 : PySem.W.Frag → Bool}
    (h1 : HandSHeadRun.RunEqI r q (hookY as fn1 tf1 ex1) (fun s => obsY as fn1 tf1 ex1 (HandSHeadRun.getT s)) M loose w) (h2 : HandSHeadRun.RunEqI r q (hookY as fn2 tf2 ex2) (fun s => obsY as fn2 tf2 ex2 (HandSHeadRun.getT s)) M loose w) :
    HandSHeadRun.RunEqI r q (hookY as (fn1 ++ fn2) (tf1 ++ tf2) (fun K => ex1 K && ex2 K)) (fun s => obsY as (fn1 ++ fn2) (tf1 ++ tf2) (fun K => ex1 K && ex2 K) (HandSHeadRun.getT s)) M loose w := by
  unfold HandSHeadRun.RunEqI at h1 h2 ⊢
  obtain ⟨⟨s0, s⟩, e, e1, e2, e3, e4⟩ := map_join h1 h2
  rw [e]
  have e3 : obsY as fn1 tf1 ex1 (HandSHeadRun.getT s) = valY fn1 := e3
  have e4 : obsY as fn2 tf2 ex2 (HandSHeadRun.getT s) = valY fn2 := e4
  have a1 : fn1.map (fun d => fnY (frT (HandSHeadRun.getT s) as) (d.at_ (frT (HandSHeadRun.getT s) as))) = fn1.map FnDY.val := congrArg (fun z : AlY => z.1) e3
  have a2 : (ex1 (frT (HandSHeadRun.getT s) as) && tabsY (HandSHeadRun.getT s) tf1 (frT (HandSHeadRun.getT s) as)) = true := congrArg (fun z : AlY => z.2) e3
  have b1 : fn2.map (fun d => fnY (frT (HandSHeadRun.getT s) as) (d.at_ (frT (HandSHeadRun.getT s) as))) = fn2.map FnDY.val := congrArg (fun z : AlY => z.1) e4
  have b2 : (ex2 (frT (HandSHeadRun.getT s) as) && tabsY (HandSHeadRun.getT s) tf2 (frT (HandSHeadRun.getT s) as)) = true := congrArg (fun z : AlY => z.2) e4
  obtain ⟨a2, a3⟩ := ba a2
  obtain ⟨b2, b3⟩ := ba b2
  have c : obsY as (fn1 ++ fn2) (tf1 ++ tf2) (fun K => ex1 K && ex2 K) (HandSHeadRun.getT s) = valY (fn1 ++ fn2) := by
    show ((fn1 ++ fn2).map (fun d => fnY (frT (HandSHeadRun.getT s) as) (d.at_ (frT (HandSHeadRun.getT s) as))), (ex1 (frT (HandSHeadRun.getT s) as) && ex2 (frT (HandSHeadRun.getT s) as)) && tabsY (HandSHeadRun.getT s) (tf1 ++ tf2) (frT (HandSHeadRun.getT s) as)) = ((fn1 ++ fn2).map FnDY.val, true)
    have t : tabsY (HandSHeadRun.getT s) (tf1 ++ tf2) (frT (HandSHeadRun.getT s) as) = true := by
      unfold tabsY at a3 b3 ⊢
      rw [List.all_append, a3, b3] <;> rfl
    rw [List.map_append, List.map_append, a1, b1, a2, b2, t] <;> rfl
  show some (_, _, _) = some (_, _, _)
  rw [e1, e2]
  exact congrArg (fun z => some (true, PySem.W.openGood q loose, z)) c
theorem SaysY.fn {fn : List FnDY} {tf : List (PySem.W.Frag → Addr)} {ex : PySem.W.Frag → Bool} {h : Heap} {K : PySem.W.Frag} (c : SaysY fn tf ex h K) (i : Nat) {d : FnDY} (e : fn[i]? = some d) : fnY K (d.at_ K) = some (d.name, d.qual, d.params, .stmts d.body, d.scope) := by
  have e2 : (fn.map fun d => fnY K (d.at_ K))[i]? = (fn.map FnDY.val)[i]? := by rw [c.fns]
  rw [List.getElem?_map, List.getElem?_map, e] at e2
  exact Option.some.inj e2
end HeadY
namespace Sc
open PySem PySem.Spec PyProof.Rows L2 HeadY He
abbrev theLaw : PySem.W.OpenLaw := PySem.Challenge.rw_smallcourt_k76_whole_amendments_taken_ba
abbrev theRow : PySem.W.OpenRow := PySem.W.OpenLaw.row PySem.Challenge.rw_smallcourt_k76_whole_amendments_taken_ba
def theFile : Str := theRow.prog.main.file
def Ad_f_is_name (K : PySem.W.Frag) : Addr := ga K "is_name"
def Ad_f_rises (K : PySem.W.Frag) : Addr := ga K "rises"
def Ad_f_check_facts (K : PySem.W.Frag) : Addr := ga K "check_facts"
def Ad_f_nested (K : PySem.W.Frag) : Addr := ga K "nested"
def Ad_f_check_rules (K : PySem.W.Frag) : Addr := ga K "check_rules"
def Ad_f_check_part (K : PySem.W.Frag) : Addr := ga K "check_part"
def Ad_f_merged (K : PySem.W.Frag) : Addr := ga K "merged"
def Ad_f_replaced (K : PySem.W.Frag) : Addr := ga K "replaced"
def Ad_f_path_to (K : PySem.W.Frag) : Addr := ga K "path_to"
def Ad_f_next_beside (K : PySem.W.Frag) : Addr := ga K "next_beside"
def Ad_f_swapped (K : PySem.W.Frag) : Addr := ga K "swapped"
def Ad_f_amended (K : PySem.W.Frag) : Addr := ga K "amended"
def Ad_f_amended_book (K : PySem.W.Frag) : Addr := ga K "amended_book"
def Ad_f_amended_rule (K : PySem.W.Frag) : Addr := ga K "amended_rule"
def Ad_f_is_amendment (K : PySem.W.Frag) : Addr := ga K "is_amendment"
def Ad_f_is_new (K : PySem.W.Frag) : Addr := ga K "is_new"
def Ad_f__law_mix (K : PySem.W.Frag) : Addr := ga K "_law_mix"
def Ad_f__law_next (K : PySem.W.Frag) : Addr := ga K "_law_next"
def Ad_f__law_facts (K : PySem.W.Frag) : Addr := ga K "_law_facts"
def Ad_f__law_sides (K : PySem.W.Frag) : Addr := ga K "_law_sides"
def Ad_f__law_rule (K : PySem.W.Frag) : Addr := ga K "_law_rule"
def Ad_f__law_drawn (K : PySem.W.Frag) : Addr := ga K "_law_drawn"
def Ad_f__law_made (K : PySem.W.Frag) : Addr := ga K "_law_made"
def Ad_f__law_book (K : PySem.W.Frag) : Addr := ga K "_law_book"
def Ad_f__law_all (K : PySem.W.Frag) : Addr := ga K "_law_all"
def Ad_f__law_changed (K : PySem.W.Frag) : Addr := ga K "_law_changed"
def Ad_f__law_edit (K : PySem.W.Frag) : Addr := ga K "_law_edit"
def Ad_f__law_after (K : PySem.W.Frag) : Addr := ga K "_law_after"
def Ad_f__law_beside (K : PySem.W.Frag) : Addr := ga K "_law_beside"
def Ad_f__law_amendment (K : PySem.W.Frag) : Addr := ga K "_law_amendment"
def Ad_f__law_real (K : PySem.W.Frag) : Addr := ga K "_law_real"
def Ad_f__law_depths (K : PySem.W.Frag) : Addr := ga K "_law_depths"
def Ad_f__law_stop (K : PySem.W.Frag) : Addr := ga K "_law_stop"
def Ad_f__law_say (K : PySem.W.Frag) : Addr := ga K "_law_say"
def Ad_f__law_backs (K : PySem.W.Frag) : Addr := ga K "_law_backs"
def Ad_f_law (K : PySem.W.Frag) : Addr := ga K "law"
def Ad_CO (K : PySem.W.Frag) : Addr := ga K "Condition"
def Ad_RO (K : PySem.W.Frag) : Addr := ga K "Rule"
def Ad_BO (K : PySem.W.Frag) : Addr := ga K "Book"
def Ad_w1A (K : PySem.W.Frag) : Addr := ga K "WORDS_WITH_NAME"
def Ad_w2A (K : PySem.W.Frag) : Addr := ga K "WORDS_WITH_MORE"
def Ad_w3A (K : PySem.W.Frag) : Addr := ga K "WORDS_FOR_BOOKS"
def Ad_CE (K : PySem.W.Frag) : Addr := ga K "CourtError"
def Ad_E0 (K : PySem.W.Frag) : Addr := ga K "InvalidBook"
def Ad_E1 (K : PySem.W.Frag) : Addr := ga K "UnknownRule"
def Ad_E2 (K : PySem.W.Frag) : Addr := ga K "NoNeighbor"
def Ad_E3 (K : PySem.W.Frag) : Addr := ga K "InvalidAmendment"
def Ad_E4 (K : PySem.W.Frag) : Addr := ga K "InvalidOperation"
def Ad_E5 (K : PySem.W.Frag) : Addr := ga K "InvalidCase"
def Ad_E6 (K : PySem.W.Frag) : Addr := ga K "InvalidLabel"
def Ad_E7 (K : PySem.W.Frag) : Addr := ga K "UnknownLabel"
def Ad_E8 (K : PySem.W.Frag) : Addr := ga K "InvalidFacts"
def Ad_E9 (K : PySem.W.Frag) : Addr := ga K "InvalidCondition"
def Ad_E10 (K : PySem.W.Frag) : Addr := ga K "InvalidRule"
def Ad_f_mi (K : PySem.W.Frag) : Addr := ma K (Ad_CO K) "__init__"
def Ad_pp_mh (K : PySem.W.Frag) : Addr := ma K (Ad_CO K) "holding"
def Ad_pp_mf (K : PySem.W.Frag) : Addr := ma K (Ad_CO K) "failing"
def Ad_pp_mn (K : PySem.W.Frag) : Addr := ma K (Ad_CO K) "names"
def Ad_f_ri (K : PySem.W.Frag) : Addr := ma K (Ad_RO K) "__init__"
def Ad_pp_rn (K : PySem.W.Frag) : Addr := ma K (Ad_RO K) "name"
def Ad_pp_rc (K : PySem.W.Frag) : Addr := ma K (Ad_RO K) "condition"
def Ad_pp_rr (K : PySem.W.Frag) : Addr := ma K (Ad_RO K) "ruling"
def Ad_pp_re (K : PySem.W.Frag) : Addr := ma K (Ad_RO K) "exceptions"
def Ad_pp_rd (K : PySem.W.Frag) : Addr := ma K (Ad_RO K) "depth"
def Ad_f_bi (K : PySem.W.Frag) : Addr := ma K (Ad_BO K) "__init__"
def Ad_pp_bf (K : PySem.W.Frag) : Addr := ma K (Ad_BO K) "facts"
def Ad_pp_bs (K : PySem.W.Frag) : Addr := ma K (Ad_BO K) "rules"
def Ad_pp_br (K : PySem.W.Frag) : Addr := ma K (Ad_BO K) "ruling"
def Ad_pp_bn (K : PySem.W.Frag) : Addr := ma K (Ad_BO K) "names"
def Ad_f_gc (K : PySem.W.Frag) : Addr := ma K (Ad_BO K) "__contains__"
def Ad_f_gi (K : PySem.W.Frag) : Addr := ma K (Ad_BO K) "__getitem__"
def Ad_f_gs (K : PySem.W.Frag) : Addr := ma K (Ad_BO K) "__sub__"
def Ad_f_eb (K : PySem.W.Frag) : Addr := ma K (Ad_BO K) "__eq__"
def Ad_f_er (K : PySem.W.Frag) : Addr := ma K (Ad_RO K) "__eq__"
def Ad_f_ec (K : PySem.W.Frag) : Addr := ma K (Ad_CO K) "__eq__"
def Ad_f_lr (K : PySem.W.Frag) : Addr := ma K (Ad_RO K) "__len__"
def Ad_f_lb (K : PySem.W.Frag) : Addr := ma K (Ad_BO K) "__len__"
def Ad_fIi8 (K : PySem.W.Frag) : Addr := ma K (Ad_E8 K) "__init__"
def Ad_fIi9 (K : PySem.W.Frag) : Addr := ma K (Ad_E9 K) "__init__"
def Ad_fIi10 (K : PySem.W.Frag) : Addr := ma K (Ad_E10 K) "__init__"
def Ad_fIi0 (K : PySem.W.Frag) : Addr := ma K (Ad_E0 K) "__init__"
def Ad_f_mh (K : PySem.W.Frag) : Addr := recF K (Ad_pp_mh K)
def Ad_f_mf (K : PySem.W.Frag) : Addr := recF K (Ad_pp_mf K)
def Ad_f_mn (K : PySem.W.Frag) : Addr := recF K (Ad_pp_mn K)
def Ad_f_rn (K : PySem.W.Frag) : Addr := recF K (Ad_pp_rn K)
def Ad_f_rc (K : PySem.W.Frag) : Addr := recF K (Ad_pp_rc K)
def Ad_f_rr (K : PySem.W.Frag) : Addr := recF K (Ad_pp_rr K)
def Ad_f_re (K : PySem.W.Frag) : Addr := recF K (Ad_pp_re K)
def Ad_f_rd (K : PySem.W.Frag) : Addr := recF K (Ad_pp_rd K)
def Ad_f_bf (K : PySem.W.Frag) : Addr := recF K (Ad_pp_bf K)
def Ad_f_bs (K : PySem.W.Frag) : Addr := recF K (Ad_pp_bs K)
def Ad_f_br (K : PySem.W.Frag) : Addr := recF K (Ad_pp_br K)
def Ad_f_bn (K : PySem.W.Frag) : Addr := recF K (Ad_pp_bn K)
def Ad_cc_law (K : PySem.W.Frag) : Addr := codA K (Ad_f_law K)
def Ad_celi8 (K : PySem.W.Frag) : Addr := cloA K (Ad_fIi8 K)
def Ad_codi8 (K : PySem.W.Frag) : Addr := codA K (Ad_fIi8 K)
def Ad_celi9 (K : PySem.W.Frag) : Addr := cloA K (Ad_fIi9 K)
def Ad_codi9 (K : PySem.W.Frag) : Addr := codA K (Ad_fIi9 K)
def Ad_celi10 (K : PySem.W.Frag) : Addr := cloA K (Ad_fIi10 K)
def Ad_codi10 (K : PySem.W.Frag) : Addr := codA K (Ad_fIi10 K)
def Ad_celi0 (K : PySem.W.Frag) : Addr := cloA K (Ad_fIi0 K)
def Ad_codi0 (K : PySem.W.Frag) : Addr := codA K (Ad_fIi0 K)
def Ad_Tb0 (K : PySem.W.Frag) : Addr := tabOf K (Ad_cc_law K)
def Fx0 (K : PySem.W.Frag) : Prop := (PySem.W.nsIn K mainGlobals "is_name" = some (some (.ref (Ad_f_is_name K)))) ∧ (fnB K (Ad_f_is_name K) "is_name" = true) ∧ (PySem.W.keepIn K (.ref (Ad_f_is_name K)) = true) ∧ (PySem.W.nsIn K mainGlobals "rises" = some (some (.ref (Ad_f_rises K)))) ∧ (fnB K (Ad_f_rises K) "rises" = true) ∧ (PySem.W.keepIn K (.ref (Ad_f_rises K)) = true) ∧ (PySem.W.nsIn K mainGlobals "check_facts" = some (some (.ref (Ad_f_check_facts K)))) ∧ (fnB K (Ad_f_check_facts K) "check_facts" = true) ∧ (PySem.W.keepIn K (.ref (Ad_f_check_facts K)) = true) ∧ (PySem.W.nsIn K mainGlobals "nested" = some (some (.ref (Ad_f_nested K)))) ∧ (fnB K (Ad_f_nested K) "nested" = true) ∧ (PySem.W.keepIn K (.ref (Ad_f_nested K)) = true)
instance (K : PySem.W.Frag) : Decidable (Fx0 K) := by unfold Fx0; infer_instance
def Fx1 (K : PySem.W.Frag) : Prop := (PySem.W.nsIn K mainGlobals "check_rules" = some (some (.ref (Ad_f_check_rules K)))) ∧ (fnB K (Ad_f_check_rules K) "check_rules" = true) ∧ (PySem.W.keepIn K (.ref (Ad_f_check_rules K)) = true) ∧ (PySem.W.nsIn K mainGlobals "check_part" = some (some (.ref (Ad_f_check_part K)))) ∧ (fnB K (Ad_f_check_part K) "check_part" = true) ∧ (PySem.W.keepIn K (.ref (Ad_f_check_part K)) = true) ∧ (PySem.W.nsIn K mainGlobals "merged" = some (some (.ref (Ad_f_merged K)))) ∧ (fnB K (Ad_f_merged K) "merged" = true) ∧ (PySem.W.keepIn K (.ref (Ad_f_merged K)) = true) ∧ (PySem.W.nsIn K mainGlobals "replaced" = some (some (.ref (Ad_f_replaced K)))) ∧ (fnB K (Ad_f_replaced K) "replaced" = true) ∧ (PySem.W.keepIn K (.ref (Ad_f_replaced K)) = true)
instance (K : PySem.W.Frag) : Decidable (Fx1 K) := by unfold Fx1; infer_instance
def Fx2 (K : PySem.W.Frag) : Prop := (PySem.W.nsIn K mainGlobals "path_to" = some (some (.ref (Ad_f_path_to K)))) ∧ (fnB K (Ad_f_path_to K) "path_to" = true) ∧ (PySem.W.keepIn K (.ref (Ad_f_path_to K)) = true) ∧ (PySem.W.nsIn K mainGlobals "next_beside" = some (some (.ref (Ad_f_next_beside K)))) ∧ (fnB K (Ad_f_next_beside K) "next_beside" = true) ∧ (PySem.W.keepIn K (.ref (Ad_f_next_beside K)) = true) ∧ (PySem.W.nsIn K mainGlobals "swapped" = some (some (.ref (Ad_f_swapped K)))) ∧ (fnB K (Ad_f_swapped K) "swapped" = true) ∧ (PySem.W.keepIn K (.ref (Ad_f_swapped K)) = true) ∧ (PySem.W.nsIn K mainGlobals "amended" = some (some (.ref (Ad_f_amended K)))) ∧ (fnB K (Ad_f_amended K) "amended" = true) ∧ (PySem.W.keepIn K (.ref (Ad_f_amended K)) = true)
instance (K : PySem.W.Frag) : Decidable (Fx2 K) := by unfold Fx2; infer_instance
def Fx3 (K : PySem.W.Frag) : Prop := (PySem.W.nsIn K mainGlobals "amended_book" = some (some (.ref (Ad_f_amended_book K)))) ∧ (fnB K (Ad_f_amended_book K) "amended_book" = true) ∧ (PySem.W.keepIn K (.ref (Ad_f_amended_book K)) = true) ∧ (PySem.W.nsIn K mainGlobals "amended_rule" = some (some (.ref (Ad_f_amended_rule K)))) ∧ (fnB K (Ad_f_amended_rule K) "amended_rule" = true) ∧ (PySem.W.keepIn K (.ref (Ad_f_amended_rule K)) = true) ∧ (PySem.W.nsIn K mainGlobals "is_amendment" = some (some (.ref (Ad_f_is_amendment K)))) ∧ (fnB K (Ad_f_is_amendment K) "is_amendment" = true) ∧ (PySem.W.keepIn K (.ref (Ad_f_is_amendment K)) = true) ∧ (PySem.W.nsIn K mainGlobals "is_new" = some (some (.ref (Ad_f_is_new K)))) ∧ (fnB K (Ad_f_is_new K) "is_new" = true) ∧ (PySem.W.keepIn K (.ref (Ad_f_is_new K)) = true)
instance (K : PySem.W.Frag) : Decidable (Fx3 K) := by unfold Fx3; infer_instance
def Fx4 (K : PySem.W.Frag) : Prop := (PySem.W.nsIn K mainGlobals "_law_mix" = some (some (.ref (Ad_f__law_mix K)))) ∧ (fnB K (Ad_f__law_mix K) "_law_mix" = true) ∧ (PySem.W.keepIn K (.ref (Ad_f__law_mix K)) = true) ∧ (PySem.W.nsIn K mainGlobals "_law_next" = some (some (.ref (Ad_f__law_next K)))) ∧ (fnB K (Ad_f__law_next K) "_law_next" = true) ∧ (PySem.W.keepIn K (.ref (Ad_f__law_next K)) = true) ∧ (PySem.W.nsIn K mainGlobals "_law_facts" = some (some (.ref (Ad_f__law_facts K)))) ∧ (fnB K (Ad_f__law_facts K) "_law_facts" = true) ∧ (PySem.W.keepIn K (.ref (Ad_f__law_facts K)) = true) ∧ (PySem.W.nsIn K mainGlobals "_law_sides" = some (some (.ref (Ad_f__law_sides K)))) ∧ (fnB K (Ad_f__law_sides K) "_law_sides" = true) ∧ (PySem.W.keepIn K (.ref (Ad_f__law_sides K)) = true)
instance (K : PySem.W.Frag) : Decidable (Fx4 K) := by unfold Fx4; infer_instance
def Fx5 (K : PySem.W.Frag) : Prop := (PySem.W.nsIn K mainGlobals "_law_rule" = some (some (.ref (Ad_f__law_rule K)))) ∧ (fnB K (Ad_f__law_rule K) "_law_rule" = true) ∧ (PySem.W.keepIn K (.ref (Ad_f__law_rule K)) = true) ∧ (PySem.W.nsIn K mainGlobals "_law_drawn" = some (some (.ref (Ad_f__law_drawn K)))) ∧ (fnB K (Ad_f__law_drawn K) "_law_drawn" = true) ∧ (PySem.W.keepIn K (.ref (Ad_f__law_drawn K)) = true) ∧ (PySem.W.nsIn K mainGlobals "_law_made" = some (some (.ref (Ad_f__law_made K)))) ∧ (fnB K (Ad_f__law_made K) "_law_made" = true) ∧ (PySem.W.keepIn K (.ref (Ad_f__law_made K)) = true) ∧ (PySem.W.nsIn K mainGlobals "_law_book" = some (some (.ref (Ad_f__law_book K)))) ∧ (fnB K (Ad_f__law_book K) "_law_book" = true) ∧ (PySem.W.keepIn K (.ref (Ad_f__law_book K)) = true)
instance (K : PySem.W.Frag) : Decidable (Fx5 K) := by unfold Fx5; infer_instance
def Fx6 (K : PySem.W.Frag) : Prop := (PySem.W.nsIn K mainGlobals "_law_all" = some (some (.ref (Ad_f__law_all K)))) ∧ (fnB K (Ad_f__law_all K) "_law_all" = true) ∧ (PySem.W.keepIn K (.ref (Ad_f__law_all K)) = true) ∧ (PySem.W.nsIn K mainGlobals "_law_changed" = some (some (.ref (Ad_f__law_changed K)))) ∧ (fnB K (Ad_f__law_changed K) "_law_changed" = true) ∧ (PySem.W.keepIn K (.ref (Ad_f__law_changed K)) = true) ∧ (PySem.W.nsIn K mainGlobals "_law_edit" = some (some (.ref (Ad_f__law_edit K)))) ∧ (fnB K (Ad_f__law_edit K) "_law_edit" = true) ∧ (PySem.W.keepIn K (.ref (Ad_f__law_edit K)) = true) ∧ (PySem.W.nsIn K mainGlobals "_law_after" = some (some (.ref (Ad_f__law_after K)))) ∧ (fnB K (Ad_f__law_after K) "_law_after" = true) ∧ (PySem.W.keepIn K (.ref (Ad_f__law_after K)) = true)
instance (K : PySem.W.Frag) : Decidable (Fx6 K) := by unfold Fx6; infer_instance
def Fx7 (K : PySem.W.Frag) : Prop := (PySem.W.nsIn K mainGlobals "_law_beside" = some (some (.ref (Ad_f__law_beside K)))) ∧ (fnB K (Ad_f__law_beside K) "_law_beside" = true) ∧ (PySem.W.keepIn K (.ref (Ad_f__law_beside K)) = true) ∧ (PySem.W.nsIn K mainGlobals "_law_amendment" = some (some (.ref (Ad_f__law_amendment K)))) ∧ (fnB K (Ad_f__law_amendment K) "_law_amendment" = true) ∧ (PySem.W.keepIn K (.ref (Ad_f__law_amendment K)) = true) ∧ (PySem.W.nsIn K mainGlobals "_law_real" = some (some (.ref (Ad_f__law_real K)))) ∧ (fnB K (Ad_f__law_real K) "_law_real" = true) ∧ (PySem.W.keepIn K (.ref (Ad_f__law_real K)) = true) ∧ (PySem.W.nsIn K mainGlobals "_law_depths" = some (some (.ref (Ad_f__law_depths K)))) ∧ (fnB K (Ad_f__law_depths K) "_law_depths" = true) ∧ (PySem.W.keepIn K (.ref (Ad_f__law_depths K)) = true)
instance (K : PySem.W.Frag) : Decidable (Fx7 K) := by unfold Fx7; infer_instance
def Fx8 (K : PySem.W.Frag) : Prop := (PySem.W.nsIn K mainGlobals "_law_stop" = some (some (.ref (Ad_f__law_stop K)))) ∧ (fnB K (Ad_f__law_stop K) "_law_stop" = true) ∧ (PySem.W.keepIn K (.ref (Ad_f__law_stop K)) = true) ∧ (PySem.W.nsIn K mainGlobals "_law_say" = some (some (.ref (Ad_f__law_say K)))) ∧ (fnB K (Ad_f__law_say K) "_law_say" = true) ∧ (PySem.W.keepIn K (.ref (Ad_f__law_say K)) = true) ∧ (PySem.W.nsIn K mainGlobals "_law_backs" = some (some (.ref (Ad_f__law_backs K)))) ∧ (fnB K (Ad_f__law_backs K) "_law_backs" = true) ∧ (PySem.W.keepIn K (.ref (Ad_f__law_backs K)) = true) ∧ (PySem.W.nsIn K mainGlobals "law" = some (some (.ref (Ad_f_law K)))) ∧ (fnB K (Ad_f_law K) "law" = true) ∧ (PySem.W.keepIn K (.ref (Ad_f_law K)) = true)
instance (K : PySem.W.Frag) : Decidable (Fx8 K) := by unfold Fx8; infer_instance
def Fx9 (K : PySem.W.Frag) : Prop := (PySem.W.nsIn K mainGlobals "Condition" = some (some (.ref (Ad_CO K)))) ∧ (PySem.W.makesIn K (Ad_CO K) = true) ∧ (PySem.W.findIn K (.ref (Ad_CO K)) "__init__" = some (some (.ref (Ad_f_mi K)))) ∧ (PySem.W.isFn K (.ref (Ad_f_mi K)) = true) ∧ (PySem.W.keepIn K (.ref (Ad_CO K)) = true) ∧ (PySem.W.plainGet K (Ad_CO K) Str.empty = true) ∧ (PySem.W.hasDictIn K (Ad_CO K) = true) ∧ (PySem.W.plainOver K (Ad_CO K) = true) ∧ (PySem.W.findIn K (.ref (Ad_CO K)) "__setattr__" = some (some (.builtin "object.__setattr__"))) ∧ (PySem.W.findIn K (.ref (Ad_CO K)) "_holding" = some none) ∧ (PySem.W.findIn K (.ref (Ad_CO K)) "_failing" = some none) ∧ (PySem.W.findIn K (.ref (Ad_CO K)) "_names" = some none)
instance (K : PySem.W.Frag) : Decidable (Fx9 K) := by unfold Fx9; infer_instance
def Fx10 (K : PySem.W.Frag) : Prop := (PySem.W.findIn K (.ref (Ad_CO K)) "holding" = some (some (.ref (Ad_pp_mh K)))) ∧ (PySem.W.specialIn K (.ref (Ad_pp_mh K)) "__get__" = some (some (.builtin "property.__get__"))) ∧ (PySem.W.takesIn K (.ref (Ad_pp_mh K)) = some true) ∧ (recB K (Ad_pp_mh K) = true) ∧ (PySem.W.findIn K (.ref (Ad_CO K)) "failing" = some (some (.ref (Ad_pp_mf K)))) ∧ (PySem.W.specialIn K (.ref (Ad_pp_mf K)) "__get__" = some (some (.builtin "property.__get__"))) ∧ (PySem.W.takesIn K (.ref (Ad_pp_mf K)) = some true) ∧ (recB K (Ad_pp_mf K) = true) ∧ (PySem.W.findIn K (.ref (Ad_CO K)) "names" = some (some (.ref (Ad_pp_mn K)))) ∧ (PySem.W.specialIn K (.ref (Ad_pp_mn K)) "__get__" = some (some (.builtin "property.__get__"))) ∧ (PySem.W.takesIn K (.ref (Ad_pp_mn K)) = some true) ∧ (recB K (Ad_pp_mn K) = true)
instance (K : PySem.W.Frag) : Decidable (Fx10 K) := by unfold Fx10; infer_instance
def Fx11 (K : PySem.W.Frag) : Prop := (PySem.W.nsIn K mainGlobals "Rule" = some (some (.ref (Ad_RO K)))) ∧ (PySem.W.makesIn K (Ad_RO K) = true) ∧ (PySem.W.findIn K (.ref (Ad_RO K)) "__init__" = some (some (.ref (Ad_f_ri K)))) ∧ (PySem.W.isFn K (.ref (Ad_f_ri K)) = true) ∧ (PySem.W.keepIn K (.ref (Ad_RO K)) = true) ∧ (PySem.W.plainGet K (Ad_RO K) Str.empty = true) ∧ (PySem.W.hasDictIn K (Ad_RO K) = true) ∧ (PySem.W.plainOver K (Ad_RO K) = true) ∧ (PySem.W.findIn K (.ref (Ad_RO K)) "__setattr__" = some (some (.builtin "object.__setattr__"))) ∧ (PySem.W.findIn K (.ref (Ad_RO K)) "_name" = some none) ∧ (PySem.W.findIn K (.ref (Ad_RO K)) "_condition" = some none) ∧ (PySem.W.findIn K (.ref (Ad_RO K)) "_ruling" = some none)
instance (K : PySem.W.Frag) : Decidable (Fx11 K) := by unfold Fx11; infer_instance
def Fx12 (K : PySem.W.Frag) : Prop := (PySem.W.findIn K (.ref (Ad_RO K)) "_exceptions" = some none) ∧ (PySem.W.findIn K (.ref (Ad_RO K)) "_depth" = some none) ∧ (PySem.W.findIn K (.ref (Ad_RO K)) "_inside" = some none) ∧ (PySem.W.findIn K (.ref (Ad_RO K)) "name" = some (some (.ref (Ad_pp_rn K)))) ∧ (PySem.W.specialIn K (.ref (Ad_pp_rn K)) "__get__" = some (some (.builtin "property.__get__"))) ∧ (PySem.W.takesIn K (.ref (Ad_pp_rn K)) = some true) ∧ (recB K (Ad_pp_rn K) = true) ∧ (PySem.W.findIn K (.ref (Ad_RO K)) "condition" = some (some (.ref (Ad_pp_rc K)))) ∧ (PySem.W.specialIn K (.ref (Ad_pp_rc K)) "__get__" = some (some (.builtin "property.__get__"))) ∧ (PySem.W.takesIn K (.ref (Ad_pp_rc K)) = some true) ∧ (recB K (Ad_pp_rc K) = true) ∧ (PySem.W.findIn K (.ref (Ad_RO K)) "ruling" = some (some (.ref (Ad_pp_rr K))))
instance (K : PySem.W.Frag) : Decidable (Fx12 K) := by unfold Fx12; infer_instance
def Fx13 (K : PySem.W.Frag) : Prop := (PySem.W.specialIn K (.ref (Ad_pp_rr K)) "__get__" = some (some (.builtin "property.__get__"))) ∧ (PySem.W.takesIn K (.ref (Ad_pp_rr K)) = some true) ∧ (recB K (Ad_pp_rr K) = true) ∧ (PySem.W.findIn K (.ref (Ad_RO K)) "exceptions" = some (some (.ref (Ad_pp_re K)))) ∧ (PySem.W.specialIn K (.ref (Ad_pp_re K)) "__get__" = some (some (.builtin "property.__get__"))) ∧ (PySem.W.takesIn K (.ref (Ad_pp_re K)) = some true) ∧ (recB K (Ad_pp_re K) = true) ∧ (PySem.W.findIn K (.ref (Ad_RO K)) "depth" = some (some (.ref (Ad_pp_rd K)))) ∧ (PySem.W.specialIn K (.ref (Ad_pp_rd K)) "__get__" = some (some (.builtin "property.__get__"))) ∧ (PySem.W.takesIn K (.ref (Ad_pp_rd K)) = some true) ∧ (recB K (Ad_pp_rd K) = true) ∧ (PySem.W.nsIn K mainGlobals "Book" = some (some (.ref (Ad_BO K))))
instance (K : PySem.W.Frag) : Decidable (Fx13 K) := by unfold Fx13; infer_instance
def Fx14 (K : PySem.W.Frag) : Prop := (PySem.W.makesIn K (Ad_BO K) = true) ∧ (PySem.W.findIn K (.ref (Ad_BO K)) "__init__" = some (some (.ref (Ad_f_bi K)))) ∧ (PySem.W.isFn K (.ref (Ad_f_bi K)) = true) ∧ (PySem.W.keepIn K (.ref (Ad_BO K)) = true) ∧ (PySem.W.plainGet K (Ad_BO K) Str.empty = true) ∧ (PySem.W.hasDictIn K (Ad_BO K) = true) ∧ (PySem.W.plainOver K (Ad_BO K) = true) ∧ (PySem.W.findIn K (.ref (Ad_BO K)) "__setattr__" = some (some (.builtin "object.__setattr__"))) ∧ (PySem.W.findIn K (.ref (Ad_BO K)) "_facts" = some none) ∧ (PySem.W.findIn K (.ref (Ad_BO K)) "_rules" = some none) ∧ (PySem.W.findIn K (.ref (Ad_BO K)) "_ruling" = some none) ∧ (PySem.W.findIn K (.ref (Ad_BO K)) "_numbered" = some none)
instance (K : PySem.W.Frag) : Decidable (Fx14 K) := by unfold Fx14; infer_instance
def Fx15 (K : PySem.W.Frag) : Prop := (PySem.W.findIn K (.ref (Ad_BO K)) "facts" = some (some (.ref (Ad_pp_bf K)))) ∧ (PySem.W.specialIn K (.ref (Ad_pp_bf K)) "__get__" = some (some (.builtin "property.__get__"))) ∧ (PySem.W.takesIn K (.ref (Ad_pp_bf K)) = some true) ∧ (recB K (Ad_pp_bf K) = true) ∧ (PySem.W.findIn K (.ref (Ad_BO K)) "rules" = some (some (.ref (Ad_pp_bs K)))) ∧ (PySem.W.specialIn K (.ref (Ad_pp_bs K)) "__get__" = some (some (.builtin "property.__get__"))) ∧ (PySem.W.takesIn K (.ref (Ad_pp_bs K)) = some true) ∧ (recB K (Ad_pp_bs K) = true) ∧ (PySem.W.findIn K (.ref (Ad_BO K)) "ruling" = some (some (.ref (Ad_pp_br K)))) ∧ (PySem.W.specialIn K (.ref (Ad_pp_br K)) "__get__" = some (some (.builtin "property.__get__"))) ∧ (PySem.W.takesIn K (.ref (Ad_pp_br K)) = some true) ∧ (recB K (Ad_pp_br K) = true)
instance (K : PySem.W.Frag) : Decidable (Fx15 K) := by unfold Fx15; infer_instance
def Fx16 (K : PySem.W.Frag) : Prop := (PySem.W.findIn K (.ref (Ad_BO K)) "names" = some (some (.ref (Ad_pp_bn K)))) ∧ (PySem.W.specialIn K (.ref (Ad_pp_bn K)) "__get__" = some (some (.builtin "property.__get__"))) ∧ (PySem.W.takesIn K (.ref (Ad_pp_bn K)) = some true) ∧ (recB K (Ad_pp_bn K) = true) ∧ (PySem.W.findIn K (.ref (Ad_BO K)) "__contains__" = some (some (.ref (Ad_f_gc K)))) ∧ (PySem.W.isFn K (.ref (Ad_f_gc K)) = true) ∧ (PySem.W.findIn K (.ref (Ad_BO K)) "__getitem__" = some (some (.ref (Ad_f_gi K)))) ∧ (PySem.W.isFn K (.ref (Ad_f_gi K)) = true) ∧ (PySem.W.findIn K (.ref (Ad_BO K)) "__sub__" = some (some (.ref (Ad_f_gs K)))) ∧ (PySem.W.isFn K (.ref (Ad_f_gs K)) = true) ∧ (PySem.W.findIn K (.ref (Ad_BO K)) "__eq__" = some (some (.ref (Ad_f_eb K)))) ∧ (PySem.W.isFn K (.ref (Ad_f_eb K)) = true)
instance (K : PySem.W.Frag) : Decidable (Fx16 K) := by unfold Fx16; infer_instance
def Fx17 (K : PySem.W.Frag) : Prop := (PySem.W.findIn K (.ref (Ad_RO K)) "__eq__" = some (some (.ref (Ad_f_er K)))) ∧ (PySem.W.isFn K (.ref (Ad_f_er K)) = true) ∧ (PySem.W.findIn K (.ref (Ad_CO K)) "__eq__" = some (some (.ref (Ad_f_ec K)))) ∧ (PySem.W.isFn K (.ref (Ad_f_ec K)) = true) ∧ (PySem.W.findIn K (.ref (Ad_RO K)) "__len__" = some (some (.ref (Ad_f_lr K)))) ∧ (PySem.W.isFn K (.ref (Ad_f_lr K)) = true) ∧ (PySem.W.findIn K (.ref (Ad_BO K)) "__len__" = some (some (.ref (Ad_f_lb K)))) ∧ (PySem.W.isFn K (.ref (Ad_f_lb K)) = true) ∧ (PySem.W.findIn K (.ref (Ad_CO K)) "__class__" = some (some (.builtin "object.__class__"))) ∧ (PySem.W.mroIn K (Ad_CO K) (.type "object") = some true) ∧ (PySem.W.subIn K (.ref (Ad_CO K)) (.ref (Ad_CO K)) = some true) ∧ (PySem.W.isClsIn K (Ad_CO K) = true)
instance (K : PySem.W.Frag) : Decidable (Fx17 K) := by unfold Fx17; infer_instance
def Fx18 (K : PySem.W.Frag) : Prop := (PySem.W.typeIn K (.ref (Ad_CO K)) = some (.type "type")) ∧ (PySem.W.subIn K (.ref (Ad_CO K)) (.ref (Ad_RO K)) = some false) ∧ (PySem.W.subIn K (.ref (Ad_CO K)) (.type "str") = some false) ∧ (PySem.W.subIn K (.type "str") (.ref (Ad_CO K)) = some false) ∧ (PySem.W.subIn K (.type "NoneType") (.ref (Ad_CO K)) = some false) ∧ (PySem.W.subIn K (.type "int") (.ref (Ad_CO K)) = some false) ∧ (PySem.W.subIn K (.type "tuple") (.ref (Ad_CO K)) = some false) ∧ (PySem.W.findIn K (.ref (Ad_RO K)) "__class__" = some (some (.builtin "object.__class__"))) ∧ (PySem.W.mroIn K (Ad_RO K) (.type "object") = some true) ∧ (PySem.W.subIn K (.ref (Ad_RO K)) (.ref (Ad_RO K)) = some true) ∧ (PySem.W.isClsIn K (Ad_RO K) = true) ∧ (PySem.W.typeIn K (.ref (Ad_RO K)) = some (.type "type"))
instance (K : PySem.W.Frag) : Decidable (Fx18 K) := by unfold Fx18; infer_instance
def Fx19 (K : PySem.W.Frag) : Prop := (PySem.W.subIn K (.ref (Ad_RO K)) (.ref (Ad_CO K)) = some false) ∧ (PySem.W.subIn K (.ref (Ad_RO K)) (.type "str") = some false) ∧ (PySem.W.subIn K (.type "str") (.ref (Ad_RO K)) = some false) ∧ (PySem.W.subIn K (.type "NoneType") (.ref (Ad_RO K)) = some false) ∧ (PySem.W.subIn K (.type "int") (.ref (Ad_RO K)) = some false) ∧ (PySem.W.subIn K (.type "tuple") (.ref (Ad_RO K)) = some false) ∧ (PySem.W.findIn K (.ref (Ad_BO K)) "__class__" = some (some (.builtin "object.__class__"))) ∧ (PySem.W.mroIn K (Ad_BO K) (.type "object") = some true) ∧ (PySem.W.subIn K (.ref (Ad_BO K)) (.ref (Ad_BO K)) = some true) ∧ (PySem.W.isClsIn K (Ad_BO K) = true) ∧ (PySem.W.typeIn K (.ref (Ad_BO K)) = some (.type "type")) ∧ (PySem.W.subIn K (.ref (Ad_BO K)) (.type "str") = some false)
instance (K : PySem.W.Frag) : Decidable (Fx19 K) := by unfold Fx19; infer_instance
def Fx20 (K : PySem.W.Frag) : Prop := (PySem.W.subIn K (.ref (Ad_BO K)) (.type "tuple") = some false) ∧ (PySem.W.findIn K (.ref (Ad_BO K)) "__ne__" = some (some (.builtin "object.__ne__"))) ∧ (PySem.W.typeIn K (.ref (Ad_f_lr K)) = some (.type "function")) ∧ (PySem.W.typeIn K (.ref (Ad_f_lb K)) = some (.type "function")) ∧ (PySem.W.subIn K (.type "str") (.ref (Ad_BO K)) = some false) ∧ (PySem.W.selfFirst K (Ad_BO K) = true) ∧ (PySem.W.findIn K (.ref (Ad_BO K)) "__rsub__" = some none) ∧ ((PySem.W.findIn K (.type "str") "__sub__").isSome = true) ∧ ((PySem.W.findIn K (.type "str") "__rsub__").isSome = true) ∧ (PySem.W.fnIn K (Ad_f_gc K) = true) ∧ (PySem.W.fnIn K (Ad_f_gi K) = true) ∧ (PySem.W.fnIn K (Ad_f_gs K) = true)
instance (K : PySem.W.Frag) : Decidable (Fx20 K) := by unfold Fx20; infer_instance
def Fx21 (K : PySem.W.Frag) : Prop := (PySem.W.nsIn K mainGlobals "WORDS_WITH_NAME" = some (some (.ref (Ad_w1A K)))) ∧ (HeadY.tupB K (Ad_w1A K) ["strike", "swap"] = true) ∧ (PySem.W.nsIn K mainGlobals "WORDS_WITH_MORE" = some (some (.ref (Ad_w2A K)))) ∧ (HeadY.tupB K (Ad_w2A K) ["add", "before", "ruling", "condition"] = true) ∧ (PySem.W.nsIn K mainGlobals "WORDS_FOR_BOOKS" = some (some (.ref (Ad_w3A K)))) ∧ (HeadY.tupB K (Ad_w3A K) ["add", "ruling"] = true) ∧ (fnB K (Ad_f_mi K) "Condition.__init__" = true) ∧ (PySem.W.keepIn K (.ref (Ad_f_mi K)) = true) ∧ (fnB K (Ad_f_mh K) "Condition.holding" = true) ∧ (PySem.W.keepIn K (.ref (Ad_f_mh K)) = true) ∧ (fnB K (Ad_f_mf K) "Condition.failing" = true) ∧ (PySem.W.keepIn K (.ref (Ad_f_mf K)) = true)
instance (K : PySem.W.Frag) : Decidable (Fx21 K) := by unfold Fx21; infer_instance
def Fx22 (K : PySem.W.Frag) : Prop := (fnB K (Ad_f_mn K) "Condition.names" = true) ∧ (PySem.W.keepIn K (.ref (Ad_f_mn K)) = true) ∧ (fnB K (Ad_f_ri K) "Rule.__init__" = true) ∧ (PySem.W.keepIn K (.ref (Ad_f_ri K)) = true) ∧ (fnB K (Ad_f_rn K) "Rule.name" = true) ∧ (PySem.W.keepIn K (.ref (Ad_f_rn K)) = true) ∧ (fnB K (Ad_f_rc K) "Rule.condition" = true) ∧ (PySem.W.keepIn K (.ref (Ad_f_rc K)) = true) ∧ (fnB K (Ad_f_rr K) "Rule.ruling" = true) ∧ (PySem.W.keepIn K (.ref (Ad_f_rr K)) = true) ∧ (fnB K (Ad_f_re K) "Rule.exceptions" = true) ∧ (PySem.W.keepIn K (.ref (Ad_f_re K)) = true)
instance (K : PySem.W.Frag) : Decidable (Fx22 K) := by unfold Fx22; infer_instance
def Fx23 (K : PySem.W.Frag) : Prop := (fnB K (Ad_f_rd K) "Rule.depth" = true) ∧ (PySem.W.keepIn K (.ref (Ad_f_rd K)) = true) ∧ (fnB K (Ad_f_bi K) "Book.__init__" = true) ∧ (PySem.W.keepIn K (.ref (Ad_f_bi K)) = true) ∧ (fnB K (Ad_f_bf K) "Book.facts" = true) ∧ (PySem.W.keepIn K (.ref (Ad_f_bf K)) = true) ∧ (fnB K (Ad_f_bs K) "Book.rules" = true) ∧ (PySem.W.keepIn K (.ref (Ad_f_bs K)) = true) ∧ (fnB K (Ad_f_br K) "Book.ruling" = true) ∧ (PySem.W.keepIn K (.ref (Ad_f_br K)) = true) ∧ (fnB K (Ad_f_bn K) "Book.names" = true) ∧ (PySem.W.keepIn K (.ref (Ad_f_bn K)) = true)
instance (K : PySem.W.Frag) : Decidable (Fx23 K) := by unfold Fx23; infer_instance
def Fx24 (K : PySem.W.Frag) : Prop := (fnB K (Ad_f_gc K) "Book.__contains__" = true) ∧ (PySem.W.keepIn K (.ref (Ad_f_gc K)) = true) ∧ (fnB K (Ad_f_gi K) "Book.__getitem__" = true) ∧ (PySem.W.keepIn K (.ref (Ad_f_gi K)) = true) ∧ (fnB K (Ad_f_gs K) "Book.__sub__" = true) ∧ (PySem.W.keepIn K (.ref (Ad_f_gs K)) = true) ∧ (fnB K (Ad_f_eb K) "Book.__eq__" = true) ∧ (PySem.W.keepIn K (.ref (Ad_f_eb K)) = true) ∧ (fnB K (Ad_f_er K) "Rule.__eq__" = true) ∧ (PySem.W.keepIn K (.ref (Ad_f_er K)) = true) ∧ (fnB K (Ad_f_ec K) "Condition.__eq__" = true) ∧ (PySem.W.keepIn K (.ref (Ad_f_ec K)) = true)
instance (K : PySem.W.Frag) : Decidable (Fx24 K) := by unfold Fx24; infer_instance
def Fx25 (K : PySem.W.Frag) : Prop := (fnB K (Ad_f_lr K) "Rule.__len__" = true) ∧ (PySem.W.keepIn K (.ref (Ad_f_lr K)) = true) ∧ (fnB K (Ad_f_lb K) "Book.__len__" = true) ∧ (PySem.W.keepIn K (.ref (Ad_f_lb K)) = true) ∧ (PySem.W.nsIn K mainGlobals "isinstance" = some none) ∧ (PySem.W.nsIn K mainGlobals "len" = some none) ∧ (PySem.W.nsIn K mainGlobals "all" = some none) ∧ (PySem.W.nsIn K mainGlobals "any" = some none) ∧ (PySem.W.nsIn K mainGlobals "sum" = some none) ∧ (PySem.W.nsIn K mainGlobals "max" = some none) ∧ (PySem.W.nsIn K mainGlobals "min" = some none) ∧ (PySem.W.nsIn K mainGlobals "int" = some none)
instance (K : PySem.W.Frag) : Decidable (Fx25 K) := by unfold Fx25; infer_instance
def Fx26 (K : PySem.W.Frag) : Prop := (PySem.W.nsIn K mainGlobals "str" = some none) ∧ (PySem.W.nsIn K mainGlobals "bool" = some none) ∧ (PySem.W.nsIn K mainGlobals "list" = some none) ∧ (PySem.W.nsIn K mainGlobals "tuple" = some none) ∧ (PySem.W.nsIn K mainGlobals "dict" = some none) ∧ (PySem.W.nsIn K mainGlobals "range" = some none) ∧ (PySem.W.nsIn K mainGlobals "enumerate" = some none) ∧ (PySem.W.nsIn K mainGlobals "sorted" = some none) ∧ (PySem.W.nsIn K mainGlobals "reversed" = some none) ∧ (PySem.W.nsIn K mainGlobals "zip" = some none) ∧ (PySem.W.nsIn K mainGlobals "set" = some none) ∧ (PySem.W.nsIn K mainGlobals "ValueError" = some none)
instance (K : PySem.W.Frag) : Decidable (Fx26 K) := by unfold Fx26; infer_instance
def Fx27 (K : PySem.W.Frag) : Prop := (strB K "LETTERS" letters = true) ∧ (intB K "LONGEST_NAME" 8 = true) ∧ (intB K "MOST_FACTS" 60 = true) ∧ (intB K "MOST_NAMES" 8 = true) ∧ (intB K "MOST_AROUND" 5 = true) ∧ (intB K "MOST_RULES" 60 = true) ∧ (intB K "MOST_OUTERMOST" 40 = true) ∧ (PySem.W.nsIn K mainGlobals "CourtError" = some (some (.ref (Ad_CE K)))) ∧ (PySem.W.nsIn K mainGlobals "InvalidBook" = some (some (.ref (Ad_E0 K)))) ∧ (PySem.W.nsIn K mainGlobals "UnknownRule" = some (some (.ref (Ad_E1 K)))) ∧ (PySem.W.nsIn K mainGlobals "NoNeighbor" = some (some (.ref (Ad_E2 K)))) ∧ (PySem.W.nsIn K mainGlobals "InvalidAmendment" = some (some (.ref (Ad_E3 K))))
instance (K : PySem.W.Frag) : Decidable (Fx27 K) := by unfold Fx27; infer_instance
def Fx28 (K : PySem.W.Frag) : Prop := (PySem.W.nsIn K mainGlobals "InvalidOperation" = some (some (.ref (Ad_E4 K)))) ∧ (PySem.W.nsIn K mainGlobals "InvalidCase" = some (some (.ref (Ad_E5 K)))) ∧ (PySem.W.nsIn K mainGlobals "InvalidLabel" = some (some (.ref (Ad_E6 K)))) ∧ (PySem.W.nsIn K mainGlobals "UnknownLabel" = some (some (.ref (Ad_E7 K)))) ∧ (PySem.W.nsIn K mainGlobals "InvalidFacts" = some (some (.ref (Ad_E8 K)))) ∧ (PySem.W.nsIn K mainGlobals "InvalidCondition" = some (some (.ref (Ad_E9 K)))) ∧ (PySem.W.nsIn K mainGlobals "InvalidRule" = some (some (.ref (Ad_E10 K)))) ∧ (PySem.W.subIn K (.ref (Ad_CE K)) (.type "BaseException") = some true) ∧ (PySem.W.isClsIn K (Ad_CE K) = true) ∧ (PySem.W.typeIn K (.ref (Ad_CE K)) = some (.type "type")) ∧ (PySem.W.isClsIn K (Ad_E0 K) = true) ∧ (PySem.W.typeIn K (.ref (Ad_E0 K)) = some (.type "type"))
instance (K : PySem.W.Frag) : Decidable (Fx28 K) := by unfold Fx28; infer_instance
def Fx29 (K : PySem.W.Frag) : Prop := (PySem.W.isClsIn K (Ad_E1 K) = true) ∧ (PySem.W.typeIn K (.ref (Ad_E1 K)) = some (.type "type")) ∧ (PySem.W.isClsIn K (Ad_E2 K) = true) ∧ (PySem.W.typeIn K (.ref (Ad_E2 K)) = some (.type "type")) ∧ (PySem.W.isClsIn K (Ad_E3 K) = true) ∧ (PySem.W.typeIn K (.ref (Ad_E3 K)) = some (.type "type")) ∧ (PySem.W.isClsIn K (Ad_E4 K) = true) ∧ (PySem.W.typeIn K (.ref (Ad_E4 K)) = some (.type "type")) ∧ (PySem.W.isClsIn K (Ad_E5 K) = true) ∧ (PySem.W.typeIn K (.ref (Ad_E5 K)) = some (.type "type")) ∧ (PySem.W.isClsIn K (Ad_E6 K) = true) ∧ (PySem.W.typeIn K (.ref (Ad_E6 K)) = some (.type "type"))
instance (K : PySem.W.Frag) : Decidable (Fx29 K) := by unfold Fx29; infer_instance
def Fx30 (K : PySem.W.Frag) : Prop := (PySem.W.isClsIn K (Ad_E7 K) = true) ∧ (PySem.W.typeIn K (.ref (Ad_E7 K)) = some (.type "type")) ∧ (PySem.W.isClsIn K (Ad_E8 K) = true) ∧ (PySem.W.typeIn K (.ref (Ad_E8 K)) = some (.type "type")) ∧ (PySem.W.isClsIn K (Ad_E9 K) = true) ∧ (PySem.W.typeIn K (.ref (Ad_E9 K)) = some (.type "type")) ∧ (PySem.W.isClsIn K (Ad_E10 K) = true) ∧ (PySem.W.typeIn K (.ref (Ad_E10 K)) = some (.type "type")) ∧ (PySem.W.isClsIn K (Ad_E0 K) = true) ∧ (PySem.W.findIn K (.ref (Ad_E0 K)) "__getattribute__" = some (some (.builtin "BaseException.__getattribute__"))) ∧ (PySem.W.findIn K (.ref (Ad_E0 K)) "__getattr__" = some none) ∧ (PySem.W.subIn K (.ref (Ad_E0 K)) (.type "BaseException") = some true)
instance (K : PySem.W.Frag) : Decidable (Fx30 K) := by unfold Fx30; infer_instance
def Fx31 (K : PySem.W.Frag) : Prop := (PySem.W.findIn K (.ref (Ad_E0 K)) "__class__" = some (some (.builtin "object.__class__"))) ∧ (PySem.W.mroIn K (Ad_E0 K) (.type "object") = some true) ∧ (PySem.W.hasDictIn K (Ad_E0 K) = true) ∧ (PySem.W.subIn K (.ref (Ad_E0 K)) (.ref (Ad_CE K)) = some true) ∧ (PySem.W.subIn K (.ref (Ad_E0 K)) (.type "ValueError") = some true) ∧ (PySem.W.subIn K (.ref (Ad_E0 K)) (.ref (Ad_E0 K)) = some true) ∧ (PySem.W.subIn K (.ref (Ad_E0 K)) (.ref (Ad_E1 K)) = some false) ∧ (PySem.W.subIn K (.ref (Ad_E0 K)) (.ref (Ad_E2 K)) = some false) ∧ (PySem.W.subIn K (.ref (Ad_E0 K)) (.ref (Ad_E3 K)) = some false) ∧ (PySem.W.subIn K (.ref (Ad_E0 K)) (.ref (Ad_E4 K)) = some false) ∧ (PySem.W.subIn K (.ref (Ad_E0 K)) (.ref (Ad_E5 K)) = some false) ∧ (PySem.W.subIn K (.ref (Ad_E0 K)) (.ref (Ad_E6 K)) = some false)
instance (K : PySem.W.Frag) : Decidable (Fx31 K) := by unfold Fx31; infer_instance
def Fx32 (K : PySem.W.Frag) : Prop := (PySem.W.subIn K (.ref (Ad_E0 K)) (.ref (Ad_E7 K)) = some false) ∧ (PySem.W.subIn K (.ref (Ad_E0 K)) (.ref (Ad_E8 K)) = some false) ∧ (PySem.W.subIn K (.ref (Ad_E0 K)) (.ref (Ad_E9 K)) = some false) ∧ (PySem.W.subIn K (.ref (Ad_E0 K)) (.ref (Ad_E10 K)) = some false) ∧ (PySem.W.findIn K (.ref (Ad_E0 K)) "index" = some none) ∧ (PySem.W.findIn K (.ref (Ad_E0 K)) "part" = some none) ∧ (PySem.W.findIn K (.ref (Ad_E0 K)) "word" = some none) ∧ (PySem.W.findIn K (.ref (Ad_E0 K)) "fact" = some none) ∧ (PySem.W.isClsIn K (Ad_E1 K) = true) ∧ (PySem.W.findIn K (.ref (Ad_E1 K)) "__getattribute__" = some (some (.builtin "BaseException.__getattribute__"))) ∧ (PySem.W.findIn K (.ref (Ad_E1 K)) "__getattr__" = some none) ∧ (PySem.W.subIn K (.ref (Ad_E1 K)) (.type "BaseException") = some true)
instance (K : PySem.W.Frag) : Decidable (Fx32 K) := by unfold Fx32; infer_instance
def Fx33 (K : PySem.W.Frag) : Prop := (PySem.W.findIn K (.ref (Ad_E1 K)) "__class__" = some (some (.builtin "object.__class__"))) ∧ (PySem.W.mroIn K (Ad_E1 K) (.type "object") = some true) ∧ (PySem.W.hasDictIn K (Ad_E1 K) = true) ∧ (PySem.W.subIn K (.ref (Ad_E1 K)) (.ref (Ad_CE K)) = some true) ∧ (PySem.W.subIn K (.ref (Ad_E1 K)) (.type "ValueError") = some true) ∧ (PySem.W.subIn K (.ref (Ad_E1 K)) (.ref (Ad_E0 K)) = some false) ∧ (PySem.W.subIn K (.ref (Ad_E1 K)) (.ref (Ad_E1 K)) = some true) ∧ (PySem.W.subIn K (.ref (Ad_E1 K)) (.ref (Ad_E2 K)) = some false) ∧ (PySem.W.subIn K (.ref (Ad_E1 K)) (.ref (Ad_E3 K)) = some false) ∧ (PySem.W.subIn K (.ref (Ad_E1 K)) (.ref (Ad_E4 K)) = some false) ∧ (PySem.W.subIn K (.ref (Ad_E1 K)) (.ref (Ad_E5 K)) = some false) ∧ (PySem.W.subIn K (.ref (Ad_E1 K)) (.ref (Ad_E6 K)) = some false)
instance (K : PySem.W.Frag) : Decidable (Fx33 K) := by unfold Fx33; infer_instance
def Fx34 (K : PySem.W.Frag) : Prop := (PySem.W.subIn K (.ref (Ad_E1 K)) (.ref (Ad_E7 K)) = some false) ∧ (PySem.W.subIn K (.ref (Ad_E1 K)) (.ref (Ad_E8 K)) = some false) ∧ (PySem.W.subIn K (.ref (Ad_E1 K)) (.ref (Ad_E9 K)) = some false) ∧ (PySem.W.subIn K (.ref (Ad_E1 K)) (.ref (Ad_E10 K)) = some false) ∧ (PySem.W.findIn K (.ref (Ad_E1 K)) "index" = some none) ∧ (PySem.W.findIn K (.ref (Ad_E1 K)) "part" = some none) ∧ (PySem.W.findIn K (.ref (Ad_E1 K)) "word" = some none) ∧ (PySem.W.findIn K (.ref (Ad_E1 K)) "fact" = some none) ∧ (PySem.W.isClsIn K (Ad_E2 K) = true) ∧ (PySem.W.findIn K (.ref (Ad_E2 K)) "__getattribute__" = some (some (.builtin "BaseException.__getattribute__"))) ∧ (PySem.W.findIn K (.ref (Ad_E2 K)) "__getattr__" = some none) ∧ (PySem.W.subIn K (.ref (Ad_E2 K)) (.type "BaseException") = some true)
instance (K : PySem.W.Frag) : Decidable (Fx34 K) := by unfold Fx34; infer_instance
def Fx35 (K : PySem.W.Frag) : Prop := (PySem.W.findIn K (.ref (Ad_E2 K)) "__class__" = some (some (.builtin "object.__class__"))) ∧ (PySem.W.mroIn K (Ad_E2 K) (.type "object") = some true) ∧ (PySem.W.hasDictIn K (Ad_E2 K) = true) ∧ (PySem.W.subIn K (.ref (Ad_E2 K)) (.ref (Ad_CE K)) = some true) ∧ (PySem.W.subIn K (.ref (Ad_E2 K)) (.type "ValueError") = some true) ∧ (PySem.W.subIn K (.ref (Ad_E2 K)) (.ref (Ad_E0 K)) = some false) ∧ (PySem.W.subIn K (.ref (Ad_E2 K)) (.ref (Ad_E1 K)) = some false) ∧ (PySem.W.subIn K (.ref (Ad_E2 K)) (.ref (Ad_E2 K)) = some true) ∧ (PySem.W.subIn K (.ref (Ad_E2 K)) (.ref (Ad_E3 K)) = some false) ∧ (PySem.W.subIn K (.ref (Ad_E2 K)) (.ref (Ad_E4 K)) = some false) ∧ (PySem.W.subIn K (.ref (Ad_E2 K)) (.ref (Ad_E5 K)) = some false) ∧ (PySem.W.subIn K (.ref (Ad_E2 K)) (.ref (Ad_E6 K)) = some false)
instance (K : PySem.W.Frag) : Decidable (Fx35 K) := by unfold Fx35; infer_instance
def Fx36 (K : PySem.W.Frag) : Prop := (PySem.W.subIn K (.ref (Ad_E2 K)) (.ref (Ad_E7 K)) = some false) ∧ (PySem.W.subIn K (.ref (Ad_E2 K)) (.ref (Ad_E8 K)) = some false) ∧ (PySem.W.subIn K (.ref (Ad_E2 K)) (.ref (Ad_E9 K)) = some false) ∧ (PySem.W.subIn K (.ref (Ad_E2 K)) (.ref (Ad_E10 K)) = some false) ∧ (PySem.W.findIn K (.ref (Ad_E2 K)) "index" = some none) ∧ (PySem.W.findIn K (.ref (Ad_E2 K)) "part" = some none) ∧ (PySem.W.findIn K (.ref (Ad_E2 K)) "word" = some none) ∧ (PySem.W.findIn K (.ref (Ad_E2 K)) "fact" = some none) ∧ (PySem.W.specialIn K (.builtin "object.__class__") "__get__" = some (some (.builtin "getset_descriptor.__get__"))) ∧ (PySem.W.takesIn K (.builtin "object.__class__") = some true) ∧ (excB K (Ad_CE K) "ValueError.__new__" = true) ∧ (PySem.W.findIn K (.ref (Ad_CE K)) "__init__" = some (some (.builtin "ValueError.__init__")))
instance (K : PySem.W.Frag) : Decidable (Fx36 K) := by unfold Fx36; infer_instance
def Fx37 (K : PySem.W.Frag) : Prop := (PySem.W.nsIn K mainGlobals "super" = some none) ∧ (PySem.W.nsIn K cStatics "thirdparty.any" = some none) ∧ (excB K (Ad_E8 K) "ValueError.__new__" = true) ∧ (HandSPX.refsVE (mroT K (Ad_E8 K)) = true) ∧ (PySem.W.findIn K (.ref (Ad_E8 K)) "__setattr__" = some (some (.builtin "object.__setattr__"))) ∧ (PySem.W.typeIn K (.ref (Ad_E8 K)) = some (.type "type")) ∧ (PySem.W.keepIn K (.ref (Ad_E8 K)) = true) ∧ (PySem.W.findIn K (.ref (Ad_E8 K)) "__init__" = some (some (.ref (Ad_fIi8 K)))) ∧ (PySem.W.typeIn K (.ref (Ad_fIi8 K)) = some (.type "function")) ∧ (fnBC K (Ad_fIi8 K) "InvalidFacts.__init__" = true) ∧ (cellB K (Ad_celi8 K) (Ad_E8 K) = true) ∧ (fileB K (Ad_codi8 K) theFile = true)
instance (K : PySem.W.Frag) : Decidable (Fx37 K) := by unfold Fx37; infer_instance
def Fx38 (K : PySem.W.Frag) : Prop := (PySem.W.mroIn K (Ad_E8 K) (.ref (Ad_E8 K)) = some true) ∧ ((mroT K (Ad_E8 K)) = .ref (Ad_CE K) :: (mroT K (Ad_CE K))) ∧ (PySem.W.subIn K (.ref (Ad_E8 K)) (.type "ValueError") = some true) ∧ (PySem.W.subIn K (.ref (Ad_E8 K)) (.type "BaseException") = some true) ∧ (PySem.W.findIn K (.ref (Ad_E8 K)) "index" = some none) ∧ (excB K (Ad_E9 K) "ValueError.__new__" = true) ∧ (HandSPX.refsVE (mroT K (Ad_E9 K)) = true) ∧ (PySem.W.findIn K (.ref (Ad_E9 K)) "__setattr__" = some (some (.builtin "object.__setattr__"))) ∧ (PySem.W.typeIn K (.ref (Ad_E9 K)) = some (.type "type")) ∧ (PySem.W.keepIn K (.ref (Ad_E9 K)) = true) ∧ (PySem.W.findIn K (.ref (Ad_E9 K)) "__init__" = some (some (.ref (Ad_fIi9 K)))) ∧ (PySem.W.typeIn K (.ref (Ad_fIi9 K)) = some (.type "function"))
instance (K : PySem.W.Frag) : Decidable (Fx38 K) := by unfold Fx38; infer_instance
def Fx39 (K : PySem.W.Frag) : Prop := (fnBC K (Ad_fIi9 K) "InvalidCondition.__init__" = true) ∧ (cellB K (Ad_celi9 K) (Ad_E9 K) = true) ∧ (fileB K (Ad_codi9 K) theFile = true) ∧ (PySem.W.mroIn K (Ad_E9 K) (.ref (Ad_E9 K)) = some true) ∧ ((mroT K (Ad_E9 K)) = .ref (Ad_CE K) :: (mroT K (Ad_CE K))) ∧ (PySem.W.subIn K (.ref (Ad_E9 K)) (.type "ValueError") = some true) ∧ (PySem.W.subIn K (.ref (Ad_E9 K)) (.type "BaseException") = some true) ∧ (PySem.W.findIn K (.ref (Ad_E9 K)) "part" = some none) ∧ (PySem.W.findIn K (.ref (Ad_E9 K)) "index" = some none) ∧ (excB K (Ad_E10 K) "ValueError.__new__" = true) ∧ (HandSPX.refsVE (mroT K (Ad_E10 K)) = true) ∧ (PySem.W.findIn K (.ref (Ad_E10 K)) "__setattr__" = some (some (.builtin "object.__setattr__")))
instance (K : PySem.W.Frag) : Decidable (Fx39 K) := by unfold Fx39; infer_instance
def Fx40 (K : PySem.W.Frag) : Prop := (PySem.W.typeIn K (.ref (Ad_E10 K)) = some (.type "type")) ∧ (PySem.W.keepIn K (.ref (Ad_E10 K)) = true) ∧ (PySem.W.findIn K (.ref (Ad_E10 K)) "__init__" = some (some (.ref (Ad_fIi10 K)))) ∧ (PySem.W.typeIn K (.ref (Ad_fIi10 K)) = some (.type "function")) ∧ (fnBC K (Ad_fIi10 K) "InvalidRule.__init__" = true) ∧ (cellB K (Ad_celi10 K) (Ad_E10 K) = true) ∧ (fileB K (Ad_codi10 K) theFile = true) ∧ (PySem.W.mroIn K (Ad_E10 K) (.ref (Ad_E10 K)) = some true) ∧ ((mroT K (Ad_E10 K)) = .ref (Ad_CE K) :: (mroT K (Ad_CE K))) ∧ (PySem.W.subIn K (.ref (Ad_E10 K)) (.type "ValueError") = some true) ∧ (PySem.W.subIn K (.ref (Ad_E10 K)) (.type "BaseException") = some true) ∧ (PySem.W.findIn K (.ref (Ad_E10 K)) "part" = some none)
instance (K : PySem.W.Frag) : Decidable (Fx40 K) := by unfold Fx40; infer_instance
def Fx41 (K : PySem.W.Frag) : Prop := (excB K (Ad_E0 K) "ValueError.__new__" = true) ∧ (HandSPX.refsVE (mroT K (Ad_E0 K)) = true) ∧ (PySem.W.findIn K (.ref (Ad_E0 K)) "__setattr__" = some (some (.builtin "object.__setattr__"))) ∧ (PySem.W.typeIn K (.ref (Ad_E0 K)) = some (.type "type")) ∧ (PySem.W.keepIn K (.ref (Ad_E0 K)) = true) ∧ (PySem.W.findIn K (.ref (Ad_E0 K)) "__init__" = some (some (.ref (Ad_fIi0 K)))) ∧ (PySem.W.typeIn K (.ref (Ad_fIi0 K)) = some (.type "function")) ∧ (fnBC K (Ad_fIi0 K) "InvalidBook.__init__" = true) ∧ (cellB K (Ad_celi0 K) (Ad_E0 K) = true) ∧ (fileB K (Ad_codi0 K) theFile = true) ∧ (PySem.W.mroIn K (Ad_E0 K) (.ref (Ad_E0 K)) = some true) ∧ ((mroT K (Ad_E0 K)) = .ref (Ad_CE K) :: (mroT K (Ad_CE K)))
instance (K : PySem.W.Frag) : Decidable (Fx41 K) := by unfold Fx41; infer_instance
def Fx42 (K : PySem.W.Frag) : Prop := (PySem.W.subIn K (.ref (Ad_E0 K)) (.type "ValueError") = some true) ∧ (PySem.W.subIn K (.ref (Ad_E0 K)) (.type "BaseException") = some true) ∧ (PySem.W.findIn K (.ref (Ad_E0 K)) "word" = some none) ∧ (PySem.W.findIn K (.ref (Ad_E0 K)) "index" = some none) ∧ (PySem.W.excIn K (Ad_E1 K) [.type "ValueError", .type "Exception", .type "BaseException", .type "object"] "ValueError.__new__" = true) ∧ (PySem.W.keepIn K (.ref (Ad_E1 K)) = true) ∧ (PySem.W.subIn K (.ref (Ad_E1 K)) (.type "BaseException") = some true) ∧ (PySem.W.typeIn K (.ref (Ad_E1 K)) = some (.type "type")) ∧ (PySem.W.excIn K (Ad_E2 K) [.type "ValueError", .type "Exception", .type "BaseException", .type "object"] "ValueError.__new__" = true) ∧ (PySem.W.keepIn K (.ref (Ad_E2 K)) = true) ∧ (PySem.W.subIn K (.ref (Ad_E2 K)) (.type "BaseException") = some true) ∧ (PySem.W.typeIn K (.ref (Ad_E2 K)) = some (.type "type"))
instance (K : PySem.W.Frag) : Decidable (Fx42 K) := by unfold Fx42; infer_instance
def Fx43 (K : PySem.W.Frag) : Prop := (PySem.W.excIn K (Ad_E3 K) [.type "ValueError", .type "Exception", .type "BaseException", .type "object"] "ValueError.__new__" = true) ∧ (PySem.W.keepIn K (.ref (Ad_E3 K)) = true) ∧ (PySem.W.subIn K (.ref (Ad_E3 K)) (.type "BaseException") = some true) ∧ (PySem.W.typeIn K (.ref (Ad_E3 K)) = some (.type "type"))
instance (K : PySem.W.Frag) : Decidable (Fx43 K) := by unfold Fx43; infer_instance
def fn0 : FnDY := ⟨Ad_f_is_name, "is_name", "is_name", defArgs s_is_name, defBody s_is_name, defScope s_is_name⟩
def fn1 : FnDY := ⟨Ad_f_rises, "rises", "rises", defArgs s_rises, defBody s_rises, defScope s_rises⟩
def fn2 : FnDY := ⟨Ad_f_check_facts, "check_facts", "check_facts", defArgs s_check_facts, defBody s_check_facts, defScope s_check_facts⟩
def fn3 : FnDY := ⟨Ad_f_nested, "nested", "nested", defArgs s_nested, defBody s_nested, defScope s_nested⟩
def fn4 : FnDY := ⟨Ad_f_check_rules, "check_rules", "check_rules", defArgs s_check_rules, defBody s_check_rules, defScope s_check_rules⟩
def fn5 : FnDY := ⟨Ad_f_check_part, "check_part", "check_part", defArgs s_check_part, defBody s_check_part, defScope s_check_part⟩
def fn6 : FnDY := ⟨Ad_f_merged, "merged", "merged", defArgs s_merged, defBody s_merged, defScope s_merged⟩
def fn7 : FnDY := ⟨Ad_f_replaced, "replaced", "replaced", defArgs s_replaced, defBody s_replaced, defScope s_replaced⟩
def fn8 : FnDY := ⟨Ad_f_path_to, "path_to", "path_to", defArgs s_path_to, defBody s_path_to, defScope s_path_to⟩
def fn9 : FnDY := ⟨Ad_f_next_beside, "next_beside", "next_beside", defArgs s_next_beside, defBody s_next_beside, defScope s_next_beside⟩
def fn10 : FnDY := ⟨Ad_f_swapped, "swapped", "swapped", defArgs s_swapped, defBody s_swapped, defScope s_swapped⟩
def fn11 : FnDY := ⟨Ad_f_amended, "amended", "amended", defArgs s_amended, defBody s_amended, defScope s_amended⟩
def fn12 : FnDY := ⟨Ad_f_amended_book, "amended_book", "amended_book", defArgs s_amended_book, defBody s_amended_book, defScope s_amended_book⟩
def fn13 : FnDY := ⟨Ad_f_amended_rule, "amended_rule", "amended_rule", defArgs s_amended_rule, defBody s_amended_rule, defScope s_amended_rule⟩
def fn14 : FnDY := ⟨Ad_f_is_amendment, "is_amendment", "is_amendment", defArgs s_is_amendment, defBody s_is_amendment, defScope s_is_amendment⟩
def fn15 : FnDY := ⟨Ad_f_is_new, "is_new", "is_new", defArgs s_is_new, defBody s_is_new, defScope s_is_new⟩
def fn16 : FnDY := ⟨Ad_f__law_mix, "_law_mix", "_law_mix", defArgs s__law_mix, defBody s__law_mix, defScope s__law_mix⟩
def fn17 : FnDY := ⟨Ad_f__law_next, "_law_next", "_law_next", defArgs s__law_next, defBody s__law_next, defScope s__law_next⟩
def fn18 : FnDY := ⟨Ad_f__law_facts, "_law_facts", "_law_facts", defArgs s__law_facts, defBody s__law_facts, defScope s__law_facts⟩
def fn19 : FnDY := ⟨Ad_f__law_sides, "_law_sides", "_law_sides", defArgs s__law_sides, defBody s__law_sides, defScope s__law_sides⟩
def fn20 : FnDY := ⟨Ad_f__law_rule, "_law_rule", "_law_rule", defArgs s__law_rule, defBody s__law_rule, defScope s__law_rule⟩
def fn21 : FnDY := ⟨Ad_f__law_drawn, "_law_drawn", "_law_drawn", defArgs s__law_drawn, defBody s__law_drawn, defScope s__law_drawn⟩
def fn22 : FnDY := ⟨Ad_f__law_made, "_law_made", "_law_made", defArgs s__law_made, defBody s__law_made, defScope s__law_made⟩
def fn23 : FnDY := ⟨Ad_f__law_book, "_law_book", "_law_book", defArgs s__law_book, defBody s__law_book, defScope s__law_book⟩
def fn24 : FnDY := ⟨Ad_f__law_all, "_law_all", "_law_all", defArgs s__law_all, defBody s__law_all, defScope s__law_all⟩
def fn25 : FnDY := ⟨Ad_f__law_changed, "_law_changed", "_law_changed", defArgs s__law_changed, defBody s__law_changed, defScope s__law_changed⟩
def fn26 : FnDY := ⟨Ad_f__law_edit, "_law_edit", "_law_edit", defArgs s__law_edit, defBody s__law_edit, defScope s__law_edit⟩
def fn27 : FnDY := ⟨Ad_f__law_after, "_law_after", "_law_after", defArgs s__law_after, defBody s__law_after, defScope s__law_after⟩
def fn28 : FnDY := ⟨Ad_f__law_beside, "_law_beside", "_law_beside", defArgs s__law_beside, defBody s__law_beside, defScope s__law_beside⟩
def fn29 : FnDY := ⟨Ad_f__law_amendment, "_law_amendment", "_law_amendment", defArgs s__law_amendment, defBody s__law_amendment, defScope s__law_amendment⟩
def fn30 : FnDY := ⟨Ad_f__law_real, "_law_real", "_law_real", defArgs s__law_real, defBody s__law_real, defScope s__law_real⟩
def fn31 : FnDY := ⟨Ad_f__law_depths, "_law_depths", "_law_depths", defArgs s__law_depths, defBody s__law_depths, defScope s__law_depths⟩
def fn32 : FnDY := ⟨Ad_f__law_stop, "_law_stop", "_law_stop", defArgs s__law_stop, defBody s__law_stop, defScope s__law_stop⟩
def fn33 : FnDY := ⟨Ad_f__law_say, "_law_say", "_law_say", defArgs s__law_say, defBody s__law_say, defScope s__law_say⟩
def fn34 : FnDY := ⟨Ad_f__law_backs, "_law_backs", "_law_backs", defArgs s__law_backs, defBody s__law_backs, defScope s__law_backs⟩
def fn35 : FnDY := ⟨Ad_f_law, "law", "law", defArgs s_law, defBody s_law, defScope s_law⟩
def fn36 : FnDY := ⟨Ad_f_mi, "__init__", "Condition.__init__", defArgs s_Condition___init__, defBody s_Condition___init__, defScope s_Condition___init__⟩
def fn37 : FnDY := ⟨Ad_f_mh, "holding", "Condition.holding", defArgs s_Condition_holding, defBody s_Condition_holding, defScope s_Condition_holding⟩
def fn38 : FnDY := ⟨Ad_f_mf, "failing", "Condition.failing", defArgs s_Condition_failing, defBody s_Condition_failing, defScope s_Condition_failing⟩
def fn39 : FnDY := ⟨Ad_f_mn, "names", "Condition.names", defArgs s_Condition_names, defBody s_Condition_names, defScope s_Condition_names⟩
def fn40 : FnDY := ⟨Ad_f_ri, "__init__", "Rule.__init__", defArgs s_Rule___init__, defBody s_Rule___init__, defScope s_Rule___init__⟩
def fn41 : FnDY := ⟨Ad_f_rn, "name", "Rule.name", defArgs s_Rule_name, defBody s_Rule_name, defScope s_Rule_name⟩
def fn42 : FnDY := ⟨Ad_f_rc, "condition", "Rule.condition", defArgs s_Rule_condition, defBody s_Rule_condition, defScope s_Rule_condition⟩
def fn43 : FnDY := ⟨Ad_f_rr, "ruling", "Rule.ruling", defArgs s_Rule_ruling, defBody s_Rule_ruling, defScope s_Rule_ruling⟩
def fn44 : FnDY := ⟨Ad_f_re, "exceptions", "Rule.exceptions", defArgs s_Rule_exceptions, defBody s_Rule_exceptions, defScope s_Rule_exceptions⟩
def fn45 : FnDY := ⟨Ad_f_rd, "depth", "Rule.depth", defArgs s_Rule_depth, defBody s_Rule_depth, defScope s_Rule_depth⟩
def fn46 : FnDY := ⟨Ad_f_bi, "__init__", "Book.__init__", defArgs s_Book___init__, defBody s_Book___init__, defScope s_Book___init__⟩
def fn47 : FnDY := ⟨Ad_f_bf, "facts", "Book.facts", defArgs s_Book_facts, defBody s_Book_facts, defScope s_Book_facts⟩
def fn48 : FnDY := ⟨Ad_f_bs, "rules", "Book.rules", defArgs s_Book_rules, defBody s_Book_rules, defScope s_Book_rules⟩
def fn49 : FnDY := ⟨Ad_f_br, "ruling", "Book.ruling", defArgs s_Book_ruling, defBody s_Book_ruling, defScope s_Book_ruling⟩
def fn50 : FnDY := ⟨Ad_f_bn, "names", "Book.names", defArgs s_Book_names, defBody s_Book_names, defScope s_Book_names⟩
def fn51 : FnDY := ⟨Ad_f_gc, "__contains__", "Book.__contains__", defArgs s_Book___contains__, defBody s_Book___contains__, defScope s_Book___contains__⟩
def fn52 : FnDY := ⟨Ad_f_gi, "__getitem__", "Book.__getitem__", defArgs s_Book___getitem__, defBody s_Book___getitem__, defScope s_Book___getitem__⟩
def fn53 : FnDY := ⟨Ad_f_gs, "__sub__", "Book.__sub__", defArgs s_Book___sub__, defBody s_Book___sub__, defScope s_Book___sub__⟩
def fn54 : FnDY := ⟨Ad_f_eb, "__eq__", "Book.__eq__", defArgs s_Book___eq__, defBody s_Book___eq__, defScope s_Book___eq__⟩
def fn55 : FnDY := ⟨Ad_f_er, "__eq__", "Rule.__eq__", defArgs s_Rule___eq__, defBody s_Rule___eq__, defScope s_Rule___eq__⟩
def fn56 : FnDY := ⟨Ad_f_ec, "__eq__", "Condition.__eq__", defArgs s_Condition___eq__, defBody s_Condition___eq__, defScope s_Condition___eq__⟩
def fn57 : FnDY := ⟨Ad_f_lr, "__len__", "Rule.__len__", defArgs s_Rule___len__, defBody s_Rule___len__, defScope s_Rule___len__⟩
def fn58 : FnDY := ⟨Ad_f_lb, "__len__", "Book.__len__", defArgs s_Book___len__, defBody s_Book___len__, defScope s_Book___len__⟩
def fn59 : FnDY := ⟨Ad_fIi8, (nf_InvalidFacts 0 0).name, (nf_InvalidFacts 0 0).qual, (nf_InvalidFacts 0 0).params, (nf_InvalidFacts 0 0).body, (nf_InvalidFacts 0 0).scope⟩
def fn60 : FnDY := ⟨Ad_fIi9, (nf_InvalidCondition 0 0).name, (nf_InvalidCondition 0 0).qual, (nf_InvalidCondition 0 0).params, (nf_InvalidCondition 0 0).body, (nf_InvalidCondition 0 0).scope⟩
def fn61 : FnDY := ⟨Ad_fIi10, (nf_InvalidRule 0 0).name, (nf_InvalidRule 0 0).qual, (nf_InvalidRule 0 0).params, (nf_InvalidRule 0 0).body, (nf_InvalidRule 0 0).scope⟩
def fn62 : FnDY := ⟨Ad_fIi0, (nf_InvalidBook 0 0).name, (nf_InvalidBook 0 0).qual, (nf_InvalidBook 0 0).params, (nf_InvalidBook 0 0).body, (nf_InvalidBook 0 0).scope⟩
def ex_0 (K : PySem.W.Frag) : Bool := ([fun K => decide (Fx0 K), fun K => decide (Fx1 K), fun K => decide (Fx2 K), fun K => decide (Fx3 K), fun K => decide (Fx4 K), fun K => decide (Fx5 K)] : List (PySem.W.Frag → Bool)).all fun f => f K
def fn_0 : List FnDY := [fn0, fn1, fn2, fn3, fn4, fn5, fn6, fn7]
def tf_0 : List (PySem.W.Frag → Addr) := [Ad_cc_law]
def ex_1 (K : PySem.W.Frag) : Bool := ([fun K => decide (Fx6 K), fun K => decide (Fx7 K), fun K => decide (Fx8 K), fun K => decide (Fx9 K), fun K => decide (Fx10 K), fun K => decide (Fx11 K)] : List (PySem.W.Frag → Bool)).all fun f => f K
def fn_1 : List FnDY := [fn8, fn9, fn10, fn11, fn12, fn13, fn14, fn15]
def tf_1 : List (PySem.W.Frag → Addr) := []
def ex_2 (K : PySem.W.Frag) : Bool := ([fun K => decide (Fx12 K), fun K => decide (Fx13 K), fun K => decide (Fx14 K), fun K => decide (Fx15 K), fun K => decide (Fx16 K), fun K => decide (Fx17 K)] : List (PySem.W.Frag → Bool)).all fun f => f K
def fn_2 : List FnDY := [fn16, fn17, fn18, fn19, fn20, fn21, fn22, fn23]
def tf_2 : List (PySem.W.Frag → Addr) := []
def ex_3 (K : PySem.W.Frag) : Bool := ([fun K => decide (Fx18 K), fun K => decide (Fx19 K), fun K => decide (Fx20 K), fun K => decide (Fx21 K), fun K => decide (Fx22 K), fun K => decide (Fx23 K)] : List (PySem.W.Frag → Bool)).all fun f => f K
def fn_3 : List FnDY := [fn24, fn25, fn26, fn27, fn28, fn29, fn30, fn31]
def tf_3 : List (PySem.W.Frag → Addr) := []
def ex_4 (K : PySem.W.Frag) : Bool := ([fun K => decide (Fx24 K), fun K => decide (Fx25 K), fun K => decide (Fx26 K), fun K => decide (Fx27 K), fun K => decide (Fx28 K), fun K => decide (Fx29 K)] : List (PySem.W.Frag → Bool)).all fun f => f K
def fn_4 : List FnDY := [fn32, fn33, fn34, fn35, fn36, fn37, fn38, fn39]
def tf_4 : List (PySem.W.Frag → Addr) := []
def ex_5 (K : PySem.W.Frag) : Bool := ([fun K => decide (Fx30 K), fun K => decide (Fx31 K), fun K => decide (Fx32 K), fun K => decide (Fx33 K), fun K => decide (Fx34 K), fun K => decide (Fx35 K)] : List (PySem.W.Frag → Bool)).all fun f => f K
def fn_5 : List FnDY := [fn40, fn41, fn42, fn43, fn44, fn45, fn46, fn47]
def tf_5 : List (PySem.W.Frag → Addr) := []
def ex_6 (K : PySem.W.Frag) : Bool := ([fun K => decide (Fx36 K), fun K => decide (Fx37 K), fun K => decide (Fx38 K), fun K => decide (Fx39 K), fun K => decide (Fx40 K), fun K => decide (Fx41 K)] : List (PySem.W.Frag → Bool)).all fun f => f K
def fn_6 : List FnDY := [fn48, fn49, fn50, fn51, fn52, fn53, fn54, fn55]
def tf_6 : List (PySem.W.Frag → Addr) := []
def ex_7 (K : PySem.W.Frag) : Bool := ([fun K => decide (Fx42 K), fun K => decide (Fx43 K)] : List (PySem.W.Frag → Bool)).all fun f => f K
def fn_7 : List FnDY := [fn56, fn57, fn58, fn59, fn60, fn61, fn62]
def tf_7 : List (PySem.W.Frag → Addr) := []
abbrev fnL : List FnDY := (((((((fn_0 ++ fn_1) ++ fn_2) ++ fn_3) ++ fn_4) ++ fn_5) ++ fn_6) ++ fn_7)
abbrev tfL : List (PySem.W.Frag → Addr) := (((((((tf_0 ++ tf_1) ++ tf_2) ++ tf_3) ++ tf_4) ++ tf_5) ++ tf_6) ++ tf_7)
abbrev exB : PySem.W.Frag → Bool := (fun K => (fun K => (fun K => (fun K => (fun K => (fun K => (fun K => ex_0 K && ex_1 K) K && ex_2 K) K && ex_3 K) K && ex_4 K) K && ex_5 K) K && ex_6 K) K && ex_7 K)
theorem mem_at {α : Type} {l : List α} {i : Nat} {a : α} (h : l[i]? = some a) : a ∈ l := List.mem_of_getElem? h
theorem all_at {K : PySem.W.Frag} {L : List (PySem.W.Frag → Bool)} (h : (L.all fun f => f K) = true) (i : Nat) {f : PySem.W.Frag → Bool} (e : L[i]? = some f) : f K = true := List.all_eq_true.mp h f (List.mem_of_getElem? e)
theorem more_0 {h : Heap} {K : PySem.W.Frag} (S : SaysY fnL tfL exB h K) : ex_0 K = true := (ba (ba (ba (ba (ba (ba (ba S.more).1).1).1).1).1).1).1
theorem more_1 {h : Heap} {K : PySem.W.Frag} (S : SaysY fnL tfL exB h K) : ex_1 K = true := (ba (ba (ba (ba (ba (ba (ba S.more).1).1).1).1).1).1).2
theorem more_2 {h : Heap} {K : PySem.W.Frag} (S : SaysY fnL tfL exB h K) : ex_2 K = true := (ba (ba (ba (ba (ba (ba S.more).1).1).1).1).1).2
theorem more_3 {h : Heap} {K : PySem.W.Frag} (S : SaysY fnL tfL exB h K) : ex_3 K = true := (ba (ba (ba (ba (ba S.more).1).1).1).1).2
theorem more_4 {h : Heap} {K : PySem.W.Frag} (S : SaysY fnL tfL exB h K) : ex_4 K = true := (ba (ba (ba (ba S.more).1).1).1).2
theorem more_5 {h : Heap} {K : PySem.W.Frag} (S : SaysY fnL tfL exB h K) : ex_5 K = true := (ba (ba (ba S.more).1).1).2
theorem more_6 {h : Heap} {K : PySem.W.Frag} (S : SaysY fnL tfL exB h K) : ex_6 K = true := (ba (ba S.more).1).2
theorem more_7 {h : Heap} {K : PySem.W.Frag} (S : SaysY fnL tfL exB h K) : ex_7 K = true := (ba S.more).2
theorem gx0 {h : Heap} {K : PySem.W.Frag} (S : SaysY fnL tfL exB h K) : Fx0 K := of_decide_eq_true (all_at (more_0 S) 0 rfl)
theorem gx1 {h : Heap} {K : PySem.W.Frag} (S : SaysY fnL tfL exB h K) : Fx1 K := of_decide_eq_true (all_at (more_0 S) 1 rfl)
theorem gx2 {h : Heap} {K : PySem.W.Frag} (S : SaysY fnL tfL exB h K) : Fx2 K := of_decide_eq_true (all_at (more_0 S) 2 rfl)
theorem gx3 {h : Heap} {K : PySem.W.Frag} (S : SaysY fnL tfL exB h K) : Fx3 K := of_decide_eq_true (all_at (more_0 S) 3 rfl)
theorem gx4 {h : Heap} {K : PySem.W.Frag} (S : SaysY fnL tfL exB h K) : Fx4 K := of_decide_eq_true (all_at (more_0 S) 4 rfl)
theorem gx5 {h : Heap} {K : PySem.W.Frag} (S : SaysY fnL tfL exB h K) : Fx5 K := of_decide_eq_true (all_at (more_0 S) 5 rfl)
theorem gx6 {h : Heap} {K : PySem.W.Frag} (S : SaysY fnL tfL exB h K) : Fx6 K := of_decide_eq_true (all_at (more_1 S) 0 rfl)
theorem gx7 {h : Heap} {K : PySem.W.Frag} (S : SaysY fnL tfL exB h K) : Fx7 K := of_decide_eq_true (all_at (more_1 S) 1 rfl)
theorem gx8 {h : Heap} {K : PySem.W.Frag} (S : SaysY fnL tfL exB h K) : Fx8 K := of_decide_eq_true (all_at (more_1 S) 2 rfl)
theorem gx9 {h : Heap} {K : PySem.W.Frag} (S : SaysY fnL tfL exB h K) : Fx9 K := of_decide_eq_true (all_at (more_1 S) 3 rfl)
theorem gx10 {h : Heap} {K : PySem.W.Frag} (S : SaysY fnL tfL exB h K) : Fx10 K := of_decide_eq_true (all_at (more_1 S) 4 rfl)
theorem gx11 {h : Heap} {K : PySem.W.Frag} (S : SaysY fnL tfL exB h K) : Fx11 K := of_decide_eq_true (all_at (more_1 S) 5 rfl)
theorem gx12 {h : Heap} {K : PySem.W.Frag} (S : SaysY fnL tfL exB h K) : Fx12 K := of_decide_eq_true (all_at (more_2 S) 0 rfl)
theorem gx13 {h : Heap} {K : PySem.W.Frag} (S : SaysY fnL tfL exB h K) : Fx13 K := of_decide_eq_true (all_at (more_2 S) 1 rfl)
theorem gx14 {h : Heap} {K : PySem.W.Frag} (S : SaysY fnL tfL exB h K) : Fx14 K := of_decide_eq_true (all_at (more_2 S) 2 rfl)
theorem gx15 {h : Heap} {K : PySem.W.Frag} (S : SaysY fnL tfL exB h K) : Fx15 K := of_decide_eq_true (all_at (more_2 S) 3 rfl)
theorem gx16 {h : Heap} {K : PySem.W.Frag} (S : SaysY fnL tfL exB h K) : Fx16 K := of_decide_eq_true (all_at (more_2 S) 4 rfl)
theorem gx17 {h : Heap} {K : PySem.W.Frag} (S : SaysY fnL tfL exB h K) : Fx17 K := of_decide_eq_true (all_at (more_2 S) 5 rfl)
theorem gx18 {h : Heap} {K : PySem.W.Frag} (S : SaysY fnL tfL exB h K) : Fx18 K := of_decide_eq_true (all_at (more_3 S) 0 rfl)
theorem gx19 {h : Heap} {K : PySem.W.Frag} (S : SaysY fnL tfL exB h K) : Fx19 K := of_decide_eq_true (all_at (more_3 S) 1 rfl)
theorem gx20 {h : Heap} {K : PySem.W.Frag} (S : SaysY fnL tfL exB h K) : Fx20 K := of_decide_eq_true (all_at (more_3 S) 2 rfl)
theorem gx21 {h : Heap} {K : PySem.W.Frag} (S : SaysY fnL tfL exB h K) : Fx21 K := of_decide_eq_true (all_at (more_3 S) 3 rfl)
theorem gx22 {h : Heap} {K : PySem.W.Frag} (S : SaysY fnL tfL exB h K) : Fx22 K := of_decide_eq_true (all_at (more_3 S) 4 rfl)
theorem gx23 {h : Heap} {K : PySem.W.Frag} (S : SaysY fnL tfL exB h K) : Fx23 K := of_decide_eq_true (all_at (more_3 S) 5 rfl)
theorem gx24 {h : Heap} {K : PySem.W.Frag} (S : SaysY fnL tfL exB h K) : Fx24 K := of_decide_eq_true (all_at (more_4 S) 0 rfl)
theorem gx25 {h : Heap} {K : PySem.W.Frag} (S : SaysY fnL tfL exB h K) : Fx25 K := of_decide_eq_true (all_at (more_4 S) 1 rfl)
theorem gx26 {h : Heap} {K : PySem.W.Frag} (S : SaysY fnL tfL exB h K) : Fx26 K := of_decide_eq_true (all_at (more_4 S) 2 rfl)
theorem gx27 {h : Heap} {K : PySem.W.Frag} (S : SaysY fnL tfL exB h K) : Fx27 K := of_decide_eq_true (all_at (more_4 S) 3 rfl)
theorem gx28 {h : Heap} {K : PySem.W.Frag} (S : SaysY fnL tfL exB h K) : Fx28 K := of_decide_eq_true (all_at (more_4 S) 4 rfl)
theorem gx29 {h : Heap} {K : PySem.W.Frag} (S : SaysY fnL tfL exB h K) : Fx29 K := of_decide_eq_true (all_at (more_4 S) 5 rfl)
theorem gx30 {h : Heap} {K : PySem.W.Frag} (S : SaysY fnL tfL exB h K) : Fx30 K := of_decide_eq_true (all_at (more_5 S) 0 rfl)
theorem gx31 {h : Heap} {K : PySem.W.Frag} (S : SaysY fnL tfL exB h K) : Fx31 K := of_decide_eq_true (all_at (more_5 S) 1 rfl)
theorem gx32 {h : Heap} {K : PySem.W.Frag} (S : SaysY fnL tfL exB h K) : Fx32 K := of_decide_eq_true (all_at (more_5 S) 2 rfl)
theorem gx33 {h : Heap} {K : PySem.W.Frag} (S : SaysY fnL tfL exB h K) : Fx33 K := of_decide_eq_true (all_at (more_5 S) 3 rfl)
theorem gx34 {h : Heap} {K : PySem.W.Frag} (S : SaysY fnL tfL exB h K) : Fx34 K := of_decide_eq_true (all_at (more_5 S) 4 rfl)
theorem gx35 {h : Heap} {K : PySem.W.Frag} (S : SaysY fnL tfL exB h K) : Fx35 K := of_decide_eq_true (all_at (more_5 S) 5 rfl)
theorem gx36 {h : Heap} {K : PySem.W.Frag} (S : SaysY fnL tfL exB h K) : Fx36 K := of_decide_eq_true (all_at (more_6 S) 0 rfl)
theorem gx37 {h : Heap} {K : PySem.W.Frag} (S : SaysY fnL tfL exB h K) : Fx37 K := of_decide_eq_true (all_at (more_6 S) 1 rfl)
theorem gx38 {h : Heap} {K : PySem.W.Frag} (S : SaysY fnL tfL exB h K) : Fx38 K := of_decide_eq_true (all_at (more_6 S) 2 rfl)
theorem gx39 {h : Heap} {K : PySem.W.Frag} (S : SaysY fnL tfL exB h K) : Fx39 K := of_decide_eq_true (all_at (more_6 S) 3 rfl)
theorem gx40 {h : Heap} {K : PySem.W.Frag} (S : SaysY fnL tfL exB h K) : Fx40 K := of_decide_eq_true (all_at (more_6 S) 4 rfl)
theorem gx41 {h : Heap} {K : PySem.W.Frag} (S : SaysY fnL tfL exB h K) : Fx41 K := of_decide_eq_true (all_at (more_6 S) 5 rfl)
theorem gx42 {h : Heap} {K : PySem.W.Frag} (S : SaysY fnL tfL exB h K) : Fx42 K := of_decide_eq_true (all_at (more_7 S) 0 rfl)
theorem gx43 {h : Heap} {K : PySem.W.Frag} (S : SaysY fnL tfL exB h K) : Fx43 K := of_decide_eq_true (all_at (more_7 S) 1 rfl)
def nameOf (s : Stmt) : List Str := match s with
  | .FunctionDef n .. => [n]
  | .ClassDef n .. => [n]
  | .Assign [.Name n _] _ _ => [n]
  | _ => []
def lawI : Nat := theRow.prog.main.body.length - 1
def names : List Str := (theRow.prog.main.body.take lawI).flatMap nameOf
def asL : List Addr := [3, 2, 31, 53, 74, 95, 107, 128, 149, 161, 173, 185, 197, 209, 230, 346, 450, 562, 0, 6, 30, 52, 73, 94, 106, 127, 148, 160, 172, 184, 196, 208, 229, 345, 449, 561, 579, 580, 581, 19] ++ [21, 48, 50, 69, 71, 90, 92, 123, 125, 144, 146, 225, 227, 235, 237, 242, 244, 249, 251, 256, 258, 263, 265, 270, 272, 275, 277, 287, 289, 296, 304, 312, 320, 328, 334, 336, 341, 343, 360, 362] ++ [369, 377, 385, 391, 399, 405, 407, 410, 412, 417, 419, 424, 426, 431, 433, 438, 440, 445, 447, 459, 461, 464, 466, 471, 473, 478, 480, 483, 485, 490, 492, 504, 506, 513, 521, 529, 533, 535, 540, 542] ++ [545, 547, 552, 554, 557, 559, 571, 573, 576, 578, 586, 588, 593, 595, 600, 602, 607, 609, 614, 616, 621, 623, 628, 630, 635, 637, 642, 644, 649, 651, 656, 658, 663, 665, 670, 672, 677, 679, 684, 686] ++ [689, 691, 696, 698, 703, 705, 708, 710, 715, 717, 722, 724, 727, 729, 734, 736, 739, 741, 746, 748, 38, 59, 80, 113, 134, 215, 20, 32, 49, 70, 91, 124, 145, 226, 236, 243, 250, 257, 264, 271] ++ [276, 288, 295, 297, 303, 305, 311, 313, 319, 321, 327, 329, 335, 342, 347, 348, 361, 368, 370, 376, 378, 384, 386, 390, 392, 398, 400, 406, 411, 418, 425, 432, 439, 446, 451, 452, 460, 465, 472, 479] ++ [484, 491, 505, 512, 514, 520, 522, 528, 530, 534, 541, 546, 553, 558, 563, 564, 572, 577, 587, 594, 601, 608, 615, 622, 629, 636, 643, 650, 657, 664, 671, 678, 685, 690, 697, 704, 709, 716, 723, 728] ++ [735, 740, 747, 4]
abbrev hk : PySem.W.Hook := hookY asL fnL tfL exB
def ob (s : PySem.W.SharedT) : AlY := obsY asL fnL tfL exB (HandSHeadRun.getT s)
theorem ob_eq (s : PySem.W.SharedT) : ob s = hk.obs s.abs := obsY_eq (HandSHeadRun.getT_eq s)
theorem run_0 (w : World) : HandSHeadRun.RunEq theRow (PySem.W.view theRow.prog [lawI]) (hookY asL fn_0 tf_0 ex_0) (fun s => obsY asL fn_0 tf_0 ex_0 (HandSHeadRun.getT s)) 9000 names w := by
  intro os
  kernel_rfl
theorem run_1 (w : World) : HandSHeadRun.RunEq theRow (PySem.W.view theRow.prog [lawI]) (hookY asL fn_1 tf_1 ex_1) (fun s => obsY asL fn_1 tf_1 ex_1 (HandSHeadRun.getT s)) 9000 names w := by
  intro os
  kernel_rfl
theorem run_2 (w : World) : HandSHeadRun.RunEq theRow (PySem.W.view theRow.prog [lawI]) (hookY asL fn_2 tf_2 ex_2) (fun s => obsY asL fn_2 tf_2 ex_2 (HandSHeadRun.getT s)) 9000 names w := by
  intro os
  kernel_rfl
theorem run_3 (w : World) : HandSHeadRun.RunEq theRow (PySem.W.view theRow.prog [lawI]) (hookY asL fn_3 tf_3 ex_3) (fun s => obsY asL fn_3 tf_3 ex_3 (HandSHeadRun.getT s)) 9000 names w := by
  intro os
  kernel_rfl
theorem run_4 (w : World) : HandSHeadRun.RunEq theRow (PySem.W.view theRow.prog [lawI]) (hookY asL fn_4 tf_4 ex_4) (fun s => obsY asL fn_4 tf_4 ex_4 (HandSHeadRun.getT s)) 9000 names w := by
  intro os
  kernel_rfl
theorem run_5 (w : World) : HandSHeadRun.RunEq theRow (PySem.W.view theRow.prog [lawI]) (hookY asL fn_5 tf_5 ex_5) (fun s => obsY asL fn_5 tf_5 ex_5 (HandSHeadRun.getT s)) 9000 names w := by
  intro os
  kernel_rfl
theorem run_6 (w : World) : HandSHeadRun.RunEq theRow (PySem.W.view theRow.prog [lawI]) (hookY asL fn_6 tf_6 ex_6) (fun s => obsY asL fn_6 tf_6 ex_6 (HandSHeadRun.getT s)) 9000 names w := by
  intro os
  kernel_rfl
theorem run_7 (w : World) : HandSHeadRun.RunEq theRow (PySem.W.view theRow.prog [lawI]) (hookY asL fn_7 tf_7 ex_7) (fun s => obsY asL fn_7 tf_7 ex_7 (HandSHeadRun.getT s)) 9000 names w := by
  intro os
  kernel_rfl
theorem run (w : World) : HandSHeadRun.RunEq theRow (PySem.W.view theRow.prog [lawI]) hk ob 9000 names w := run_join (run_join (run_join (run_join (run_join (run_join (run_join (run_0 w) (run_1 w)) (run_2 w)) (run_3 w)) (run_4 w)) (run_5 w)) (run_6 w)) (run_7 w)
end Sc
namespace Sc
open PySem PySem.Spec PySem.Calls PyProof.Rows L2
/-! ### enumerate(tuple) -/
theorem enumT_new (l : Addr) (items : Array Value) (n : Nat) (dct : Option Addr) (sl : Array (Option Value)) :
    Meets (Builtin.«enumerate.__new__» ⟨[.type "enumerate", .ref l], []⟩) (fun _ R s =>
      s.heap.get? l = some { cls := .type "tuple", dict := dct, data := .seq items n, slots := sl } ∧
      R (.ok (.ret (.ref (s.heap.objs.size + 1)))) { s with heap := (s.heap.push { cls := .type "tuple_iterator", data := .fields #[.ref l, .int 0 0] }).push { cls := .type "enumerate", data := .fields #[.none, .bool false, .ref s.heap.objs.size, rawInt 0, .none, .none] } }) :=
  .of_wp fun prog w A R s h => by
    obtain ⟨hp, g, d, tk, os⟩ := s
    obtain ⟨hl, hR⟩ := h
    have hsub := sub_enumerate
    have hT : Heap.IsTuple hp l items := ⟨_, hl, rfl, n, rfl⟩
    have hz : (hp.push { cls := .type "tuple_iterator", data := .fields #[.ref l, .int 0 0] }).objs.size = hp.objs.size + 1 := Heap.size_push ..
    rw [← hz] at hR
    have it1 : ∀ {A' : Around} {E : Value → Shared → Prop} {Q : Value → Shared → Prop}, Q (.ref hp.objs.size) ⟨hp.push { cls := .type "tuple_iterator", data := .fields #[.ref l, .int 0 0] }, g, d, tk, os⟩ →
        wpAny (model prog w) A' (pyIter (.ref l)) Q E ⟨hp, g, d, tk, os⟩ := fun q => wpAny_pyIter_tuple (s := ⟨hp, g, d, tk, os⟩) hT q
    wp_walk using AutoSeq1.wpAny_loadPart' hl, it1
    refine wpAny_stack_any fun st => wpAny_pure ?_
    split
    · rename_i c _ _ _ _ _
      cases (c == Value.type "enumerate") <;>
      · wp_walk using AutoSeq1.wpAny_loadPart' hl, it1
        exact ⟨_, rfl, hR⟩
    · wp_walk using AutoSeq1.wpAny_loadPart' hl, it1
      exact ⟨_, rfl, hR⟩
section
variable {prog : Program} {w : World} {A : Around} {E : Value → Shared → Prop} {s : Shared}
theorem enumT_call {l : Addr} {items : Array Value} {Q : Value → Shared → Prop} (hL : s.heap.IsTuple l items)
    (h : ∀ h', IsEnum h' (s.heap.objs.size + 1) s.heap.objs.size 0 .none → h'.IsTupleIter s.heap.objs.size l 0 → (∀ b o, s.heap.get? b = some o → h'.get? b = some o) →
      Q (.ref (s.heap.objs.size + 1)) { s with heap := h' }) : wpAny (model prog w) A (call (.type "enumerate") [.ref l]) Q E s := by
  obtain ⟨⟨c, dct, dt, sl⟩, hl, hc, n, hd⟩ := hL
  dsimp only at hc hd
  subst hc hd
  refine callType_new F.called_enumerate (by decide) (F.typeCall_enumerate_1 _) (F.newCall_enumerate_1 _) (fun obj => F.args_object_init_2 obj _) F.entry_enumerate_new (enumT_new l items n dct sl) ⟨hl, ?_⟩
  have hz : (s.heap.push { cls := .type "tuple_iterator", data := .fields #[.ref l, .int 0 0] }).objs.size = s.heap.objs.size + 1 := Heap.size_push ..
  have he := Heap.get?_push_size (s.heap.push { cls := .type "tuple_iterator", data := .fields #[.ref l, .int 0 0] })
    (o := { cls := .type "enumerate", data := .fields #[.none, .bool false, .ref s.heap.objs.size, rawInt 0, .none, .none] }) rfl
  rw [hz] at he
  exact ⟨⟨_, he, rfl⟩, h _ he ⟨_, Heap.get?_push_of_some _ (Heap.get?_push_size _ rfl), rfl, rfl⟩ fun b o x => Heap.get?_push_of_some _ (Heap.get?_push_of_some _ x)⟩
end
/-- the tuple at a, each item in a new pair -/
def IteT (K : PySem.W.Frag) (a : Addr) : It where
  go := fun i H => ∃ (xs : List V) (x : V), SqT K H a xs ∧ xs[i]? = some x
  yld := fun i H v H' => ∃ T x, v = .ref T ∧ H T = none ∧ H' = upd H T (.tup [.int (i : Nat), x]) ∧ ∀ xs, SqT K H a xs → xs[i]? = some x
  stop := fun i H => ∃ xs : List V, SqT K H a xs ∧ xs.length ≤ i
theorem enumT_turn {P : Program} {w : World} {K : PySem.W.Frag} {elts : List Expr} {kk : Nat} {tpos : Pos} (a e it : Addr) :
    Turn P w K (.Tuple elts kk tpos) (IteT K a) [e, it] e (fun i h => (∃ old, IsEnum h e it ((i : Nat) : Int) old) ∧ h.IsTupleIter it a i ∧ e ≠ it) where
  mem := List.mem_cons_self
  obj := fun i h st b hb => by
    obtain ⟨⟨old, he⟩, ⟨o, ho, hc, hd⟩, _⟩ := st
    rcases List.mem_cons.mp hb with rfl | hb
    · exact ⟨_, he, fun v q => nomatch q⟩
    · rcases List.mem_cons.mp hb with rfl | hb
      · exact ⟨o, ho, fun v q => by rw [hd] at q; cases q⟩
      · cases hb
  keep := fun i h h' st k => by
    obtain ⟨⟨old, he⟩, hi, hne⟩ := st
    exact ⟨⟨old, k e (by simp) _ he⟩, hi.at fun o q => k it (by simp) o q, hne⟩
  item := by
    intro X hP hw hK hc i pins s σ H E I hf st hg
    subst hP hw hK
    obtain ⟨⟨old, he⟩, hit, hne⟩ := st
    obtain ⟨xs, x, hq, hx⟩ := hg
    obtain ⟨its, rv, p, hz⟩ := I.tuple hq
    obtain ⟨u, hu, ru⟩ := rv.get hx
    have hel : e < s.heap.objs.size := Heap.lt_size he
    have hil : it < s.heap.objs.size := by obtain ⟨_, q, _⟩ := hit; exact Heap.lt_size q
    have p' : s.heap.IsTuple a its.toArray := p
    have hae : a ≠ e := fun z => by
      obtain ⟨o, ho, hcl, n, hd⟩ := p'
      rw [z, he] at ho
      cases ho
      cases hd
    have hai : a ≠ it := fun z => by
      obtain ⟨o, ho, hcl, n, hd⟩ := p'
      obtain ⟨o2, ho2, hcl2, hd2⟩ := hit
      rw [z, ho2] at ho
      cases ho
      rw [hd2] at hd
      cases hd
    have hlt : i < its.toArray.size := by
      rw [List.size_toArray]
      exact (List.getElem?_eq_some_iff.mp hu).1
    refine wpAny_pyNext_enum_itemD (Draws.tuple (A := X.A.in1) (I.ok.hd hc) it a hai its.toArray) he ⟨hit, p'⟩ hlt hne (by simp [hne, hae.symm]) fun y h' tk hy ho st' hT hsz hk => ?_
    obtain ⟨hit', hp'⟩ := st'
    have ey : y = u := by
      have z : its.toArray[i]? = some u := by simpa using hu
      rw [hy] at z
      exact Option.some.inj z
    subst ey
    refine ⟨_, rfl, wpAny_letOwnedTupleGo_enum (s := { s with heap := h', toks := tk + 1 }) ho fun h'' he' sb => ?_⟩
    have hT2 : h''.get? s.heap.objs.size = some { cls := .type "tuple", data := .seq #[.int i tk, y] } := (sb.2 _ (Nat.ne_of_gt hel)).trans hT
    have new : ObjOk X.prog X.w (upd H s.heap.objs.size (.tup [.int (i : Nat), x])) h'' s.heap.objs.size (.tup [.int (i : Nat), x]) :=
      ⟨by show 2 ≤ sizeLine; decide, [.int i tk, y], .cons ⟨_, rfl⟩ (.cons ru .nil), ⟨_, hT2, rfl, _, rfl⟩⟩
    have I1 : Inv X pins σ (upd H s.heap.objs.size (.tup [.int (i : Nat), x])) { s with heap := h'', toks := tk + 1 } :=
      I.turnedNew (ch := [e, it]) (fun b ob hb q => (sb.2 b (fun z => hb (by simp [z]))).trans (hk b ob (fun z => hb (by simp [z])) (fun z => hb (by simp [z])) q)) hf (Nat.le_refl _) new
    refine ⟨.ref s.heap.objs.size, _, I1, rfl, ⟨_, x, rfl, I.hok.fresh (Nat.le_refl _), rfl, fun ys hy => by rw [I.tuple_inj hy hq]; exact hx⟩, ⟨⟨y, ?_⟩, hit'.at fun o q => (sb.2 it (Ne.symm hne)).trans q, hne⟩, fun b hb => ?_⟩
    · have e1 : ((i + 1 : Nat) : Int) = (i : Int) + 1 := by omega
      rw [e1]
      exact he'
    · have hb' : b < s.heap.objs.size := by
        rcases List.mem_cons.mp hb with rfl | hb
        · exact hel
        · rcases List.mem_cons.mp hb with rfl | hb
          · exact hil
          · cases hb
      rw [upd_ne (Nat.ne_of_lt hb')]
      exact (hf b hb).1
  done := by
    intro X hP hw hK hc i pins s σ H E I hf st hg
    subst hP hw hK
    obtain ⟨⟨old, he⟩, hit, hne⟩ := st
    obtain ⟨xs, hq, hx⟩ := hg
    obtain ⟨its, rv, p, hz⟩ := I.tuple hq
    obtain ⟨f0, f1, f2, f3, f4, f5⟩ := hf it (by simp)
    have hl := rv.length
    have p' : s.heap.IsTuple a its.toArray := p
    have hai : a ≠ it := fun z => by
      obtain ⟨o, ho, hcl, n, hd⟩ := p'
      obtain ⟨o2, ho2, hcl2, hd2⟩ := hit
      rw [z, ho2] at ho
      cases ho
      rw [hd2] at hd
      cases hd
    have D : Draws X.prog X.w X.A.in1 it [it, a] i (fun _ _ => True) (fun j h => h.IsTupleIter it a j ∧ h.IsTuple a its.toArray ∧ j = i) :=
      { live := fun _ _ st => let ⟨o, ho, _⟩ := st.1; ⟨o, ho⟩
        frame := fun _ _ _ st hk => ⟨st.1.at fun o e => hk it (by simp) o e, st.2.1.at fun o e => hk a (by simp) o e, st.2.2⟩
        item := fun j s Q E hj stj hQ => absurd hj (by rw [stj.2.2]; exact Nat.lt_irrefl i)
        done := fun s Q E stj hE => wpAny_nextOf_tuple_end (I.ok.hd hc) stj.1 stj.2.1 (by simp; omega) hE }
    exact wpAny_pyNext_enum_endD D he ⟨hit, p', rfl⟩ fun h' eb => ⟨rfl, I.turned (t' := s.toks) (fun b o hb q => eb b o hb q) f0 f1 f3 f4 f5⟩
  self := fun A i s Q E st h => by
    obtain ⟨⟨_, he⟩, _⟩ := st
    exact wpAny_pyIter_enum he h
def iEnumT (K : PySem.W.Frag) (ta : TA) : TI := fun σ H R => ta σ H fun vs H1 => ∃ a xs, vs = [.ref a] ∧ SqT K H1 a xs ∧ R (IteT K a) H1
theorem pi_enumT {X : Cx} {e : Expr} {ta : TA} {p pos tpos : Pos} {elts : List Expr} {kk : Nat} (hg : Gl X "enumerate") (hm : X.mg "enumerate" = none) (ha : PA X [e] ta) (hs : starEach [e] X.env = [(false, eval e X.env)] := by rfl) :
    PI X (.Tuple elts kk tpos) (.Call (.Name "enumerate" p) [e] [] pos) (iEnumT X.K ta) := by
  refine ⟨fun pins s σ H R I h => ?_⟩
  refine Call_ (ld_blt I hg hm boot_enumerate (PyProof.Rows.callWith_type1 (thn (ha.run pos pins s σ H _ I h) fun us s1 ⟨vs, H1, I1, r1, a, xs, ex, hq, q⟩ => ?_) hs rfl))
  subst ex
  cases r1 with
  | cons r rr =>
    cases rr
    cases r
    obtain ⟨its, rv, p', hz⟩ := I1.tuple hq
    refine enumT_call (show s1.heap.IsTuple a its.toArray from p') fun h' he hit hk => wpAny_pyIter_enum he ?_
    have I2 : Inv X pins σ H1 { s1 with heap := h' } := I1.kept (t' := s1.toks) hk
    refine ⟨s1.heap.objs.size + 1, [s1.heap.objs.size + 1, s1.heap.objs.size], _, _, H1, rfl, I2, enumT_turn a (s1.heap.objs.size + 1) s1.heap.objs.size, ⟨⟨.none, he⟩, hit, Nat.succ_ne_self _⟩, fun b hb => ?_, q⟩
    have hle : s1.heap.objs.size ≤ b := by
      rcases List.mem_cons.mp hb with rfl | hb
      · exact Nat.le_succ _
      · rcases List.mem_cons.mp hb with rfl | hb
        · exact Nat.le_refl _
        · cases hb
    exact I1.fpOk hle (I1.hok.fresh hle)
end Sc
namespace Sc
open PySem PySem.Spec PySem.Calls PyProof.Rows L2 NdefX
/-! ### super().__init__(..) in an own error's __init__ -/
/-- what the written part tells for super() in the __init__ of the class at C: cc its cell, cda the code object of __init__ -/
structure SupC (prog : Program) (K : PySem.W.Frag) (mg : Str → Option Value) (C cc cda : Addr) : Prop where
  cell : ∃ cl cld csl, K.lookup cc = some ⟨cl, cld, .cell (some (.ref C)), csl⟩
  code : ∃ ccl cdd vs ccs file tf, K.lookup cda = some ⟨ccl, cdd, .fields vs, ccs⟩ ∧ vs[2]? = some (.str file tf) ∧ ((prog.main.file : Str) == file) = true
  sub : PySem.W.mroIn K C (.ref C) = some true
  noS : mg "super" = none
  opq : PySem.W.nsIn K cStatics "thirdparty.any" = some none
  up : PySem.W.ks_superIn K C C "__init__" = some (some (.builtin "ValueError.__init__"))
  isB : PySem.W.subIn K (.ref C) (.type "ValueError") = some true
  top : (prog.main.scope.names.lookup ("super" : Str)).isSome = false
section
variable {X : Cx} {pins : List (Addr × Obj)} {σ : L2.St} {H : Hp} {s : Shared} {a C cc cda f : Addr}
theorem sup_bound {u : Addr} {us : List Value} {A : Around} {E : Value → Shared → Prop} {Q : Value → Shared → Prop} (T : OexC X.K C) (I : Inv X pins σ H s) (e : H a = some (exo a C none)) (hu : s.heap.get? u = some (PySem.W.kxs_mw "ValueError.__init__" a)) (hl : us.length ≤ sizeLine)
    (h : ∀ s', Inv X pins σ H s' → Q .none s') : wpAny (model X.prog X.w) A (call (.ref u) us) Q E s := by
  obtain ⟨nm, q, N, bs, bm, sn, sub, ab, col, dd, k0, k1, k2, k3, k5, hC, hbm⟩ := T.cls
  obtain ⟨t1, ho⟩ := exo_at I.hok e
  have hC' := I.kIn _ _ hC
  obtain ⟨hp, g, d, tk, os⟩ := s
  refine wpAny_call (codeAny_of_tree ?_)
  show wpAny _ A.in1 (callAny (.ref u) ⟨us, []⟩) _ _ _
  simp only [callAny]
  refine wpAny_bind (wpAny_load hu ?_)
  have b1 : (Value.type "method-wrapper" == Value.type "method" || Value.type "method-wrapper" == Value.type "builtin_function_or_method" || Value.type "method-wrapper" == Value.type "method-wrapper") = true := by decide
  simp only [PySem.W.kxs_mw, b1, if_true]
  refine PySem.W.KFB.if_so (by decide) (wpAny_bind (PySem.W.check_bound_init PySem.F.excBase_ValueError.toExcCallFacts hC' ho rfl (wpAny_bind (wpAny_pure (wpAny_pure ?_)))))
  refine ⟨plainId_quiet PySem.F.excBase_ValueError.init.plain _, codeAny_builtin PySem.F.excBase_ValueError.initEntry ?_⟩
  refine PySem.W.exc_init_tree (cls := .ref C) (t0 := t1) (dv := none) (c2 := .none) (c3 := .none) (b4 := .bool false) ho hl fun h' k hx _ => ?_
  have J := I.write (t' := tk) (x := a) (e := a) (o := exo a C none) (by rw [e]; exact True.intro) (.inl rfl) k ⟨_, hx⟩ (exo_ok hx)
  have eu : upd H a (exo a C none) = H := funext fun b => by
    by_cases hb : b = a
    · rw [hb, upd_same, e]
    · rw [upd_ne hb]
  rw [eu] at J
  exact h _ J
theorem at_super {pl : Sem Bool} {body : List Stmt} {e : Expr} {es : List Expr} {ta : TA} {D : Ends} {p0 p1 p2 p3 p4 : Pos} {fd : FuncData} {ar : Arg} {oc : Value} {od : Option Addr} {osl : Array (Option Value)}
    (T : OexC X.K C) (S : SupC X.prog X.K X.mg C cc cda) (hks : X.env.kindOf "super" = some .globalImplicit) (hkc : X.env.kindOf "__class__" = some .free) (hcl : X.env.cells.lookup ("__class__" : Str) = some cc)
    (hfu : X.env.func = some f) (hco : X.env.code = .ref cda) (lk : X.K.lookup f = some ⟨oc, od, .func fd, osl⟩) (hp : (fd.params.posonlyargs ++ fd.params.args).head? = some ar) (hN0 : X.N[0]? = some ar.arg) (hka : X.env.kindOf ar.arg = some .local)
    (hA : PA X (e :: es) ta) (I : Inv X pins σ H s) (hσ : σ[0]? = some (some (.ref a))) (ha : H a = some (exo a C none)) (q : ta σ H fun vs H1 => vs.length ≤ 1000 ∧ H1 a = some (exo a C none) ∧ D.nx σ H1)
    (he : starEach (e :: es) X.env = (false, eval e X.env) :: starEach es X.env := by rfl) (hpl : (backTo p3 (starEach es X.env)).any (·.1) = false := by rfl) (hi : interactive X.env = false := by rfl)
    (hev : eval (.Call (.Attribute (.Call (.Name "super" p0) [] [] p1) "__init__" p2) (e :: es) [] p3) X.env = (do
      let ov ← attributeBase (.Call (.Name "super" p0) [] [] p1) "__init__" X.env (eval (.Call (.Name "super" p0) [] [] p1) X.env)
      standAt p2.atName
      let (g, first) ← holding [ov] (getMethod ov "__init__" pl)
      callWith p3 g first (backTo p3 (starEach (e :: es) X.env)) []) := by rfl) (hsw : swapsWith (.Call (.Attribute (.Call (.Name "super" p0) [] [] p1) "__init__" p2) (e :: es) [] p3) none p4.line X.env = pure false := by rfl) :
    PySem.wpAt (model X.prog X.w) X.A (.func body X.env) (exec (.Expr (.Call (.Attribute (.Call (.Name "super" p0) [] [] p1) "__init__" p2) (e :: es) [] p3) p4) X.env) (SP X pins D) X.xe s := by
  obtain ⟨cl, cld, csl, hcell⟩ := S.cell
  obtain ⟨ccl, cdd, vs, ccs, file, tf, hcode, hvs, hfile⟩ := S.code
  have KX := I.kIn
  refine ks_wpAt_Expr_any (ks_wpAt_MethodCall (pl := pl) ?_ hev) hi hsw
  refine ks_wpAt_super_base hks hkc (by decide) hfu (KX _ _ lk) rfl hp hco (KX _ _ hcode) rfl hvs hfile S.top ?_
  obtain ⟨mb, b1, b2⟩ := I.mod.blt
  refine PySem.W.ks_loadName_global I.ok.kind hks (Calls.loadGlobal_builtin (v := .type "super") (by rw [I.ok.glob]; exact I.mod.glob.keeps I.bk) S.noS (by rw [I.ok.blt]; exact b1.keeps I.bk) ((b2 _ (by decide +kernel)).trans (by decide +kernel)) ⟨rfl, ?_⟩)
  refine wpAny_loadName_free I.ok.kind hkc hcl ⟨_, KX _ _ hcell, rfl⟩ ?_
  obtain ⟨m, hn, hloc⟩ := I.loc
  obtain ⟨u, ru, hlook⟩ := hloc 0 ar.arg (.ref a) hN0 hσ (.inl hka)
  obtain rfl : u = Value.ref a := ru
  have hm : m ar.arg = some (.ref a) := by
    rcases hlook with ⟨_, z⟩ | ⟨z, _⟩
    · exact z
    · rcases z with z | z <;> rw [show X.env.kindOf ar.arg = _ from hka] at z <;> cases z
  refine wpAny_loadName_local I.ok.kind hka hn hm ?_
  obtain ⟨nm, qn, N, bs, bm, sn, sub, ab, col, dd, k0, k1, k2, k3, k5, hC, hbm⟩ := T.cls
  have hcls : PySem.W.clsIn X.K C = some { name := nm, bases := bs, mro := .ref C :: bm, ns := N, qualname := qn, hasDict := true, slotNames := sn, subclasses := sub, abstract := ab, collection := col, hasDel := false } := by unfold PySem.W.clsIn; rw [hC] <;> rfl
  obtain ⟨t1, ho⟩ := exo_at I.hok ha
  have hC' := KX _ _ hC
  have ex := S.up
  unfold PySem.W.ks_superIn at ex
  rw [hcls] at ex
  obtain ⟨hp', g, d, tk, os⟩ := s
  refine ks_wpAny_isType_cls hC' rfl ⟨rfl, ?_⟩
  refine ks_wpAny_call_super hC' rfl ho rfl (fun c z => nomatch z) (PySem.W.looks_mroIn KX S.sub) (fun h' e1 k => ?_)
  have I1 : Inv X pins σ H ⟨h', g, d, tk, os⟩ := I.kept (t' := tk) k
  have IA : PySem.W.InstAt h' a { cls := .ref C, dict := none, data := .fields #[.ref t1, .none, .none, .none, .bool false, .none] } C none := ⟨k _ _ ho, rfl, rfl, trivial⟩
  have hIs : PySem.W.Looks (model X.prog X.w) h' (isInstance (.ref a) (.type "ValueError")) true := IA.type.andThen (PySem.W.looks_subIn I1.kIn S.isB)
  refine PySem.W.kxs_getMethod PySem.W.kxs_ValueError e1 (PySem.W.looks_opaque I1.kIn S.opq) (l₀ := .ref C :: bm) (fun A Q E s k q => wpAny_bind ((PySem.W.looks_clsIn I1.kIn hcls) A _ E s k (wpAny_pure q))) rfl I1.kIn ex hIs (PySem.W.ks_ne I1.kIn IA hcls) (by decide) ?_
  have I2 : Inv X pins σ H ⟨h'.push (PySem.W.kxs_mw "ValueError.__init__" a), g, d, tk + 1, os⟩ := I1.kept (t' := tk + 1) fun b o z => Heap.get?_push_of_some _ z
  have hu : (h'.push (PySem.W.kxs_mw "ValueError.__init__" a)).get? h'.objs.size = some (PySem.W.kxs_mw "ValueError.__init__" a) := Heap.get?_push_at rfl rfl
  have hun : H h'.objs.size = none := I1.hok.fresh (Nat.le_refl _)
  have hunf : h'.objs.size ∉ X.fs ∧ h'.objs.size ≠ X.env.locals := ⟨I1.nofs (Nat.le_refl _), fun z => Nat.lt_irrefl _ (by have := I1.lt; rw [← z] at this; exact this)⟩
  have I3 : Inv X ((h'.objs.size, PySem.W.kxs_mw "ValueError.__init__" a) :: pins) σ H ⟨h'.push (PySem.W.kxs_mw "ValueError.__init__" a), g, d, tk + 1, os⟩ := I2.pins_of fun p hp => by
    rcases List.mem_cons.mp hp with rfl | hp
    · exact ⟨hu, hun, hunf.2, hunf.1, fun v z => nomatch z⟩
    · exact I2.pin p (List.mem_append_right _ hp)
  rw [he]
  refine PySem.W.kxs_callWith (i := "ValueError.__init__") (x := a) (first := []) (by show (false || (backTo p3 (starEach es X.env)).any (·.1)) = false; rw [hpl]; rfl) (evalArgs_plain ?_)
  show wpAny _ _ (spliced (backTo p3 ((false, eval e X.env) :: starEach es X.env))) _ _ _
  rw [← he]
  refine thn (hA.run p3 _ _ σ H _ I3 q) fun us s1 ⟨vs, H1, I4, r1, hl, e4, q4⟩ => ?_
  have I5 : Inv X pins σ H1 s1 := I4.pins_of fun p hp => I4.pin p (List.mem_append_right _ (.tail _ hp))
  have hu4 := (I4.pin _ (List.mem_append_right _ List.mem_cons_self)).1
  refine ⟨hu4, ?_⟩
  refine sup_bound T I5 e4 hu4 (by show us.length ≤ sizeLine; rw [← Paired.length r1, sizeLine_eq]; omega) fun s' J => ?_
  exact ⟨σ, H1, J, q4⟩
end
/-! ### the __init__ as a def -/
/-- the reading of a body that begins with super().__init__(e ..) -/
def tInit (C : Addr) (ta : TA) (tr : TS) : TS := fun D σ H => ∃ a : Addr, σ[0]? = some (some (.ref a)) ∧ H a = some (exo a C none) ∧ ta σ H fun vs H1 => vs.length ≤ 1000 ∧ H1 a = some (exo a C none) ∧ tr D σ H1
section
variable {P : Program} {w : World} {K : PySem.W.Frag} {mg : Str → Option Value} {base : Heap} {N ps : List Str} {F : NF} {f C cc : Addr} {k : Nat} {sp : Sp} {kV doc pm ct oc : Value} {an od : Option Addr} {osl : Array (Option Value)}
/-- the def's data as it stands -/
abbrev supFd (F : NF) (kV doc pm : Value) (an : Option Addr) (ct : Value) : FuncData := PySem.W.fnX F.name F.qual F.params F.body F.scope F.cl .none kV doc pm an (.ref F.c) ct
theorem fn_sup {e : Expr} {es : List Expr} {rest : List Stmt} {ar : Arg} {p0 p1 p2 p3 p4 : Pos} (lk : K.lookup f = some ⟨oc, od, .func (supFd F kV doc pm an ct), osl⟩) (hcd : PySem.W.codeIn K (.ref F.c) F.qual = true) (hcl : F.cl = [(("__class__" : Str), cc)])
    (SC : NScope N ps ["__class__"] F.scope) (T : OexC K C) (S : SupC P K mg C cc F.c) (len : ∀ vs H Q E, sp vs H Q E → vs.length = ps.length)
    (hbd : F.body = .Expr (.Call (.Attribute (.Call (.Name "super" p0) [] [] p1) "__init__" p2) (e :: es) [] p3) p4 :: rest)
    (hp : (F.params.posonlyargs ++ F.params.args).head? = some ar) (hN0 : N[0]? = some ar.arg) (hka : F.scope.names.lookup ar.arg = some .local) (hks : F.scope.names.lookup ("super" : Str) = some .globalImplicit)
    (hbody : ∀ (A : Around) (outer : List Env) (s : Shared) (H : Hp) (vs : List V) (Q : VK) (E : XK), Room k (A.deeper (envF F f s.heap.objs.size)) → sp vs H Q E →
      ∃ ta tr, PA (ncx CX0 P w K mg base N F f A outer s H E) (e :: es) ta ∧ PSs (ncx CX0 P w K mg base N F f A outer s H E) rest tr ∧ tInit C ta tr { nx := fun _ H' => Q .non H', rt := Q } (startF N vs [none]) H)
    (hev : ∀ L, ∃ pl, eval (.Call (.Attribute (.Call (.Name "super" p0) [] [] p1) "__init__" p2) (e :: es) [] p3) (envF F f L) = (do
      let ov ← attributeBase (.Call (.Name "super" p0) [] [] p1) "__init__" (envF F f L) (eval (.Call (.Name "super" p0) [] [] p1) (envF F f L))
      standAt p2.atName
      let (g, first) ← holding [ov] (getMethod ov "__init__" pl)
      callWith p3 g first (backTo p3 (starEach (e :: es) (envF F f L))) []))
    (hsw : ∀ L, swapsWith (.Call (.Attribute (.Call (.Name "super" p0) [] [] p1) "__init__" p2) (e :: es) [] p3) none p4.line (envF F f L) = pure false) (he : ∀ L, starEach (e :: es) (envF F f L) = (false, eval e (envF F f L)) :: starEach es (envF F f L))
    (hpl : ∀ L, (backTo p3 (starEach es (envF F f L))).any (·.1) = false) (hi : ∀ L, interactive (envF F f L) = false) :
    FnOk P w K mg base CX0 (k + 1) f (supFd F kV doc pm an ct) ps sp := by
  refine ⟨len, fun A outer s H args us vs Q E hr e0 hb r hsp => ?_⟩
  have hl := len _ _ _ _ hsp
  have KX : K.In s.heap := e0.mod.kin.keeps fun b o e => (e0.bs b o e).1
  have lim : s.heap.NoLimit := e0.mod.nolimit.keeps fun b o e => (e0.bs b o e).1
  obtain ⟨cl, cld, csl, hcell⟩ := S.cell
  have hcH : H cc = none := by
    have z := e0.mod.kin _ _ hcell
    exact (e0.bs _ _ z).2
  have CA : CellsAt F.cl ["__class__"] [none] s.heap H := by
    rw [hcl]
    refine ⟨rfl, fun y c h => ?_, fun x y c h1 h2 => ?_, fun i y h => ?_⟩
    · have q : y = ("__class__" : Str) ∧ c = cc := by
        simp only [List.lookup] at h
        split at h
        · rename_i z; exact ⟨by simpa using z, (Option.some.inj h).symm⟩
        · cases h
      rw [q.2]
      exact ⟨hcH, some (.ref C), ⟨_, KX _ _ hcell, rfl⟩⟩
    · have q : ∀ z, List.lookup z [(("__class__" : Str), cc)] = some c → z = ("__class__" : Str) := fun z h => by
        simp only [List.lookup] at h
        split at h
        · rename_i z; simpa using z
        · cases h
      rw [q x h1, q y h2]
    · cases i with
      | zero =>
        have q : y = ("__class__" : Str) := (Option.some.inj h).symm
        subst q
        exact ⟨cc, by simp [List.lookup], fun v z => by cases z⟩
      | succ i => simp at h
  refine ks_codeAny_call_defAt (fd := supFd F kV doc pm an ct) (body := F.body) (binds := ps.zip us) hr.depth (KX _ _ lk) rfl lim (PySem.W.codeRec_of KX hcd) rfl hb SC.nocell (fun ⟨n, _⟩ hy => SC.par n (List.of_mem_zip hy).1) (fun h₁ hns kp => ?_) SC.co SC.gen SC.kind
  obtain ⟨ta, tr, hta, htr, a, hσ, ha, q⟩ := hbody A outer s H vs Q E (hr.deeper _) hsp
  have I : Inv (ncx CX0 P w K mg base N F f A outer s H E) [] (startF N vs [none]) H { s with heap := h₁, toks := s.toks + (ps.zip us).length } := inv_startN SC hr.hd e0 hl r CA hns kp
  obtain ⟨pl, hev⟩ := hev s.heap.objs.size
  have fin : ∀ {s' : Shared} {σ' : L2.St} {H' : Hp} {v : V} {u : Value}, Inv (ncx CX0 P w K mg base N F f A outer s H E) [] σ' H' s' → L2.RelV v u → Q v H' → CE outer P w H s Q u s' :=
    fun {s' σ' H' v u} J rv q => ⟨v, H', J.os, J.bare, J.base, J.hok, rv, q⟩
  rw [hbd]
  refine ks_wpAt_execs_cons (ks_wpAt_mono (at_super (X := ncx CX0 P w K mg base N F f A outer s H E) (D := { nx := fun σ' H' => tr { nx := fun _ H' => Q .non H', rt := Q } σ' H', rt := fun _ _ => False }) (pl := pl) (f := f) (ar := ar) (fd := supFd F kV doc pm an ct) T S hks (SC.frk _ List.mem_cons_self) (by show F.cl.lookup _ = _; rw [hcl]; simp [List.lookup]) rfl rfl lk hp hN0 hka hta I hσ ha q (he _) (hpl _) (hi _) hev (hsw _)) (fun fl s' hs => ?_) fun _ _ z => z)
  cases fl with
  | ret u =>
    obtain ⟨_, _, _, _, _, z⟩ := hs
    exact z.elim
  | brk =>
    obtain ⟨_, _, _, z⟩ := hs
    exact z.elim
  | cont =>
    obtain ⟨_, _, _, z⟩ := hs
    exact z.elim
  | next =>
    obtain ⟨σ', H', J, z⟩ := hs
    refine PySem.wpAt_of_wpAny (wpAny_mono (htr.run [] s' σ' H' _ J z) (fun fl2 s2 h2 => ?_) fun _ _ y => y)
    cases fl2 with
    | ret u =>
      obtain ⟨v, σ2, H2, J2, rv, q2⟩ := h2
      exact fin J2 rv q2
    | next =>
      obtain ⟨σ2, H2, J2, q2⟩ := h2
      exact fin (v := V.non) (u := Value.none) J2 rfl q2
    | brk =>
      obtain ⟨_, _, _, q2⟩ := h2
      exact q2.elim
    | cont =>
      obtain ⟨_, _, _, q2⟩ := h2
      exact q2.elim
end
end Sc
namespace Sc
open PySem PySem.Spec PyProof.Rows L2
/-- the built-ins are not hidden -/
structure Blt (mg : Str → Option Value) : Prop where
  b_isinstance : mg "isinstance" = none
  b_len : mg "len" = none
  b_all : mg "all" = none
  b_any : mg "any" = none
  b_sum : mg "sum" = none
  b_max : mg "max" = none
  b_min : mg "min" = none
  b_int : mg "int" = none
  b_str : mg "str" = none
  b_bool : mg "bool" = none
  b_list : mg "list" = none
  b_tuple : mg "tuple" = none
  b_dict : mg "dict" = none
  b_range : mg "range" = none
  b_enumerate : mg "enumerate" = none
  b_sorted : mg "sorted" = none
  b_reversed : mg "reversed" = none
  b_zip : mg "zip" = none
  b_set : mg "set" = none
  b_ValueError : mg "ValueError" = none
/-- a def as its callers see it -/
structure Cal (P : Program) (w : World) (K : PySem.W.Frag) (mg : Str → Option Value) (base : Heap) (CX : CXT) (k : Nat) (x : Str) (ps : List Str) (sp : Sp) : Prop where
  ex : ∃ (f : Addr) (fd : FuncData), FnOk P w K mg base CX k f fd ps sp ∧ mg x = some (.ref f) ∧ PySem.W.keepIn K (.ref f) = true ∧ Binds K fd ps []
section
variable {X : Cx} {k : Nat} {x : Str} {ps : List Str} {sp : Sp} {e : Expr} {es : List Expr} {t : TA} {p pos : Pos}
theorem pe_cal (C : Cal X.prog X.w X.K X.mg X.base CX0 k x ps sp) (hr : Room k X.A) (ha : PA X (e :: es) t) (hg : Gl X x := by rfl) (hdb : (x == ("__debug__" : Str)) = false := by decide)
    (he : starEach (e :: es) X.env = (false, eval e X.env) :: starEach es X.env := by rfl) (hpl : (backTo pos (starEach es X.env)).any (·.1) = false := by rfl) : PE X (.Call (.Name x p) (e :: es) [] pos) (tCall sp [] E0 t) := by
  obtain ⟨f, fd, F, hm, hk, hb⟩ := C.ex
  exact pe_call F hr hg hm hk hb .nil pass0 ha hdb he hpl
/-- a def that may raise, where it does not -/
theorem pe_calN (C : Cal X.prog X.w X.K X.mg X.base (L2.CX X.prog X.w) k x ps sp) (hr : Room k X.A) (ha : PA X (e :: es) t) (hg : Gl X x := by rfl) (hdb : (x == ("__debug__" : Str)) = false := by decide)
    (he : starEach (e :: es) X.env = (false, eval e X.env) :: starEach es X.env := by rfl) (hpl : (backTo pos (starEach es X.env)).any (·.1) = false := by rfl) : PE X (.Call (.Name x p) (e :: es) [] pos) (tCall sp [] E0 t) := by
  obtain ⟨f, fd, F, hm, hk, hb⟩ := C.ex
  exact pe_call F hr hg hm hk hb .nil passL ha hdb he hpl
/-- a def that may raise -/
theorem pe_calX {W : WX} (C : Cal X.prog X.w X.K X.mg X.base (L2.CX X.prog X.w) k x ps sp) (hr : Room k X.A) (tk : Takes X W) (ha : PA X (e :: es) t) (hg : Gl X x := by rfl) (hdb : (x == ("__debug__" : Str)) = false := by decide)
    (he : starEach (e :: es) X.env = (false, eval e X.env) :: starEach es X.env := by rfl) (hpl : (backTo pos (starEach es X.env)).any (·.1) = false := by rfl) : PE X (.Call (.Name x p) (e :: es) [] pos) (tCallS sp (WE W) t) := by
  obtain ⟨f, fd, F, hm, hk, hb⟩ := C.ex
  exact pe_callS F hr hg hm hk hb (fun σ => passAt tk σ) ha hdb he hpl
end
/-! ### a reading that does not lean on the state within which it is asked -/
theorem pe_.re {X : Cx} {e : Expr} {t t' : TE} (h : PE X e t) (q : t = t') : PE X e t' := q ▸ h
theorem pts_.re {X : Cx} {es : List Expr} {t t' : TT} (h : PTs X es t) (q : t = t') : PTs X es t' := q ▸ h
theorem pss_.re {X : Cx} {sts : List Stmt} {t t' : TS} (h : PSs X sts t) (q : t = t') : PSs X sts t' := q ▸ h
/-- a value's truth -/
def tTru (K : PySem.W.Frag) (ta : TE) : TT := fun σ H Q => ta σ H fun x H' => ∃ k, TruV K x H' k ∧ Q k H'
theorem pt_tru {X : Cx} {a : Expr} {ta : TE} (ha : PE X a ta) (he : ∀ whole, isTrue a X.env whole = (do let v ← whole; standAt a.pos; holding [v] (truthy v))) : PT X a (tTru X.K ta) := pt_truth ha he
/-! ### lists -/
theorem take_more {α : Type} {l : List α} {i : Nat} {x : α} (h : l[i]? = some x) : l.take (i + 1) = l.take i ++ [x] := by
  rw [List.take_add_one, h]
  rfl
/-! ### heaps -/
theorem _root_.L2.Same.put {H H' : Hp} {p : Addr} {o : HO} (s : Same H H') (n : H p = none) : Same H (upd H' p o) := fun b x e => by
  rw [upd_ne (ne_of_none e n)]
  exact s b x e
theorem _root_.L2.Same.put' {H H' : Hp} {p : Addr} {o : HO} (s : Same H H') (n : H' p = none) : Same H (upd H' p o) := s.put (s.free n)
theorem _root_.L2.Same.tup {K : PySem.W.Frag} {H H' : Hp} {a : Addr} {xs : List V} (e : Same H H') (h : SqT K H a xs) : SqT K H' a xs := by
  rcases h with (h | ⟨o, h⟩) | h
  · exact .inl (.inl (e _ _ h))
  · exact .inl (.inr ⟨o, e _ _ h⟩)
  · exact .inr h
theorem sqT_new {K : PySem.W.Frag} {H : Hp} {p : Addr} {xs : List V} : SqT K (upd H p (.tup xs)) p xs := .inl (.inl upd_same)
theorem sqL_new {K : PySem.W.Frag} {H : Hp} {p : Addr} {xs : List V} : SqL K (upd H p (.lst xs)) p xs := .inl (.inl upd_same)
theorem sqT_of {K : PySem.W.Frag} {H : Hp} {p : Addr} {xs : List V} (h : H p = some (.tup xs)) : SqT K H p xs := .inl (.inl h)
theorem sqL_of {K : PySem.W.Frag} {H : Hp} {p : Addr} {xs : List V} (h : H p = some (.lst xs)) : SqL K H p xs := .inl (.inl h)
/-- a comprehension's list grows -/
theorem grow {H1 H4 : Hp} {D : Addr} {acc : Nat → List V} {i : Nat} {y : V} (nD : H1 D = none) (s : Same H1 H4) (e : H4 D = some (.lst (acc i))) (l : (acc i).length < sizeLine) (n : acc (i + 1) = acc i ++ [y]) :
    ∃ a, H4 D = some (.lst a) ∧ a.length < sizeLine ∧ (Same H1 (upd H4 D (.lst (a ++ [y]))) ∧ (upd H4 D (.lst (a ++ [y]))) D = some (.lst (acc (i + 1)))) :=
  ⟨acc i, e, l, s.put nD, by rw [upd_same, n]⟩
theorem bcase {b : Bool} {A B : Prop} (h1 : b = true → A) (h2 : b = false → B) : if b = true then A else B := by
  cases b with
  | true => exact iteT (h1 rfl)
  | false => exact iteF (h2 rfl)
/-- isinstance(x, T), T a built-in class -/
def rIsT (K : PySem.W.Frag) (T : String) : List V → Hp → VK → Prop := fun xs H Q => ∃ (x : V) (t : String) (b : Bool), xs = [x, .ty T] ∧ TyOf K H x (.type t) ∧ kitB t T = some b ∧ Q (.bl b) H
theorem call_isT {X : Cx} (T : String) : CallR X (.builtin "isinstance") (rIsT X.K T) := by
  intro pins s σ H xs us Q I r h
  obtain ⟨x, t, b, ex, ht, hb, q⟩ := h
  exact call_isi pins s σ H xs us Q I r ⟨_, _, _, _, _, ex, .ty _, .base ht, kit_ty hb, q⟩
/-- a comprehension without a test -/
theorem yes_ {σ : L2.St} {H : Hp} {A : Hp → Prop} {B : Hp → Prop} (h : A H) : tYes σ H fun b H3 => if b = true then A H3 else B H3 := by
  show (if true = true then A H else B H)
  rw [if_pos rfl]
  exact h
/-- as many slots as names -/
theorem takes_len {X : Cx} {W : WX} (tk : Takes X W) : Takes X (fun cls d σ H => σ.length = X.N.length → W cls d σ H) := fun u s' ⟨a, B, sI, pins, σ, H, cls, d, e, I, nb, up, sky, na, os, ag, w⟩ =>
  tk u s' ⟨a, B, sI, pins, σ, H, cls, d, e, I, nb, up, sky, na, os, ag, w I.len⟩
/-! ### walks -/
theorem walk_enumT {K : PySem.W.Frag} {a : Addr} {xs : List V} : Walk (IteT K a) xs.length (fun H => SqT K H a xs) (YPair (fun i => some (.int (i : Nat))) (fun i => xs[i]?)) := by
  refine ⟨fun i _ hi q => ⟨xs, xs[i], q, by simp [hi]⟩, fun _ q => ⟨xs, q, Nat.le_refl _⟩, fun i H v H' _ q y => ?_⟩
  obtain ⟨T, x, h1, h2, h3, h4⟩ := y
  exact ⟨T, .int (i : Nat), x, h1, h2, h3, rfl, h4 xs q⟩
/-! ### list.count of truth values -/
section
variable {X : Cx}
theorem countP_eqU {x : V} : ∀ {xs : List V} {us : List Value}, Vals xs us → xs.all flatV = true → us.countP (eqU x) = xs.countP fun y => eqV y x
  | _, _, .nil, _ => rfl
  | y :: xs, u :: us, .cons r t, f => by
    rw [List.all_cons, Bool.and_eq_true] at f
    rw [List.countP_cons, List.countP_cons, eqU_of r f.1, countP_eqU t f.2]
def rCount (K : PySem.W.Frag) : V → List V → Hp → VK → Prop := fun x xs H Q => ∃ (p : Addr) (ys : List V) (y : V), x = .ref p ∧ xs = [y] ∧ SqL K H p ys ∧ flatV y = true ∧ ys.all flatV = true ∧ Q (.int (ys.countP (fun z => eqV z y) : Nat)) H
theorem mt_lcountB : MtR X "list.count" (rCount X.K) := by
  intro pins s σ H x xs v us Q I rx rxs h
  obtain ⟨p, ys, y, rfl, rfl, hs, fy, fys, q⟩ := h
  cases rx
  cases rxs with
  | cons ry rt =>
    rename_i uy ut
    cases rt
    obtain ⟨its, rv, ⟨⟨cls, dd, data, sl⟩, n, ho, hc, hdn, hd⟩, hlen⟩ := I.list hs
    simp only at hc hd
    subst hc hd
    refine call_meets PySem.F.slot_list_count ⟨_, ho, rfl⟩ PySem.F.entry_list_count (PySem.F.args_list_count_2 _ _)
      (SeqAt.list_countAt p its.toArray n dd sl uy (eqU y)) ⟨ho, fun u' hu' => mem_eqAt ry fy rv fys u' (by simpa using hu'), ?_⟩
    have ec : its.toArray.toList.countP (eqU y) = ys.countP fun z => eqV z y := countP_eqU rv fys
    refine ⟨.int (ys.countP (fun z => eqV z y) : Nat), H, I.tok _, ⟨s.toks, ?_⟩, q⟩
    show Value.int ((its.toArray.toList.countP (eqU y) : Nat) : Int) s.toks = Value.int ((ys.countP (fun z => eqV z y) : Nat) : Int) s.toks
    rw [ec]
end
/-! ### the caught error, whatever it bears -/
/-- an own class of errors, as isinstance and the reading of a field ask for it -/
structure ErrC (K : PySem.W.Frag) (D : Addr) : Prop where
  cl : (PySem.W.clsIn K D).isSome = true
  ga : PySem.W.findIn K (.ref D) "__getattribute__" = some (some (.builtin "BaseException.__getattribute__"))
  gt : PySem.W.findIn K (.ref D) "__getattr__" = some none
  be : PySem.W.subIn K (.ref D) (.type "BaseException") = some true
  kc : PySem.W.findIn K (.ref D) "__class__" = some (some (.builtin "object.__class__"))
  sg : PySem.W.specialIn K (.builtin "object.__class__") "__get__" = some (some (.builtin "getset_descriptor.__get__"))
  tk : PySem.W.takesIn K (.builtin "object.__class__") = some true
  ob : PySem.W.mroIn K D (.type "object") = some true
  hd : PySem.W.hasDictIn K D = true
def errB (K : PySem.W.Frag) (D : Addr) : Bool :=
  (PySem.W.clsIn K D).isSome && (decide (PySem.W.findIn K (.ref D) "__getattribute__" = some (some (.builtin "BaseException.__getattribute__"))) && (decide (PySem.W.findIn K (.ref D) "__getattr__" = some none) &&
  (decide (PySem.W.subIn K (.ref D) (.type "BaseException") = some true) && (decide (PySem.W.findIn K (.ref D) "__class__" = some (some (.builtin "object.__class__"))) &&
  (decide (PySem.W.specialIn K (.builtin "object.__class__") "__get__" = some (some (.builtin "getset_descriptor.__get__"))) && (decide (PySem.W.takesIn K (.builtin "object.__class__") = some true) &&
  (decide (PySem.W.mroIn K D (.type "object") = some true) && PySem.W.hasDictIn K D)))))))
theorem errC_of {K : PySem.W.Frag} {D : Addr} (h : errB K D = true) : ErrC K D := by
  unfold errB at h
  simp only [Bool.and_eq_true, decide_eq_true_eq] at h
  obtain ⟨h1, h2, h3, h4, h5, h6, h7, h8, h9⟩ := h
  exact ⟨h1, h2, h3, h4, h5, h6, h7, h8, h9⟩
section
variable {X : Cx} {a : Addr} {cls : Value} {oe : Obj} {pn : List (Addr × Obj)} {d : Option Addr}
theorem err_inst {D : Addr} {h : Heap} (hz : Zc (.ref D) d oe) (hf : ∃ vs, oe.data = .fields vs) (hget : h.get? a = some oe) (hd : ∀ dd, d = some dd → ∃ od, h.get? dd = some od) : ∃ od, PySem.W.InstAt h a oe D od := by
  obtain ⟨oc, odd, oda, osl⟩ := oe
  obtain ⟨h1, h2⟩ := hz
  obtain ⟨vs, hv⟩ := hf
  dsimp only at h1 h2 hv
  subst h1 h2 hv
  cases odd with
  | none => exact ⟨none, hget, rfl, rfl, trivial⟩
  | some dd =>
    obtain ⟨od, ho⟩ := hd dd rfl
    exact ⟨some od, hget, rfl, rfl, ho⟩
/-- its dict stands, where it has one -/
def XdOk (d : Option Addr) (H : Hp) : Prop := ∀ dd, d = some dd → ∃ fs, H dd = some (.xd fs)
def rIsG (K : PySem.W.Frag) (a : Addr) (cls : Value) (d : Option Addr) : List V → Hp → VK → Prop := fun xs H Q =>
  ∃ (D : Addr) (c : V) (cv : Value) (b : Bool), cls = .ref D ∧ ErrC K D ∧ XdOk d H ∧ xs = [.ref a, c] ∧ (∀ u, RelV c u → u = cv) ∧ PySem.W.kitOne K (.ref D) cv = some b ∧ Q (.bl b) H
theorem call_isG (hz : Zc cls d oe) (hf : ∃ vs, oe.data = .fields vs) : CallR (X.suite a ((a, oe) :: pn)) (.builtin "isinstance") (rIsG X.K a cls d) := by
  intro pins s σ H xs us Q I r h
  obtain ⟨D, c, cv, b, ec, C, hx, rfl, hcv, e, q⟩ := h
  subst ec
  obtain ⟨u1, u2, rfl, r1, r2⟩ := vals2 r
  obtain rfl : u1 = Value.ref a := r1
  have e2 := hcv _ r2
  subst e2
  obtain ⟨hget, _⟩ := I.pin (a, oe) (List.mem_append_left _ List.mem_cons_self)
  obtain ⟨od, J⟩ := err_inst (h := s.heap) hz hf hget fun dd ed => by
    obtain ⟨fs, e⟩ := hx dd ed
    obtain ⟨mA, ⟨o, _, _, ho, _⟩, _⟩ := (show ObjOk X.prog X.w H s.heap dd (.xd fs) from I.hok dd _ e)
    exact ⟨o, ho⟩
  exact PySem.W.kia_one (PySem.W.kitx_exc C.cl C.ga C.gt C.be C.kc C.sg C.tk C.ob) I.kIn J e (fun z => nomatch z) fun tk => ⟨.bl b, H, I.kept (t' := tk) fun _ _ z => z, rfl, q⟩
/-- e.n, e the error that the suite holds -/
def tXg (K : PySem.W.Frag) (a : Addr) (cls : Value) (d : Option Addr) (n : Str) (te : TE) : TE := fun σ H Q => te σ H fun x H1 => x = .ref a ∧ ∃ (D dd : Addr) (fs : List (Str × V)) (v : V), cls = .ref D ∧ ErrC K D ∧ PySem.W.findIn K (.ref D) n = some none ∧ d = some dd ∧ H1 dd = some (.xd fs) ∧ fs.lookup n = some v ∧ Q v H1
theorem pe_xg {e : Expr} {te : TE} {pos : Pos} {n : Str} (hz : Zc cls d oe) (hf : ∃ vs, oe.data = .fields vs) (he : PE (X.suite a ((a, oe) :: pn)) e te) (hb : attributeBase e n X.env (eval e X.env) = eval e X.env := by rfl) :
    PE (X.suite a ((a, oe) :: pn)) (.Attribute e n pos) (tXg X.K a cls d n te) := by
  refine ⟨fun pins s σ H Q I h => attr_of hb (thn (he.run pins s σ H _ I h) fun u s1 hh => ?_)⟩
  obtain ⟨x, H1, I1, rx, ex, D, dd, fs, v, ec, C, hno, ed, ea, l, q⟩ := hh
  subst ex ec ed
  obtain rfl : u = Value.ref a := rx
  obtain ⟨ha, _⟩ := I1.pin (a, oe) (List.mem_append_left _ List.mem_cons_self)
  obtain ⟨vs, hd⟩ := hf
  obtain ⟨mA, hns, hr⟩ := (show ObjOk X.prog X.w H1 s1.heap dd (.xd fs) from I1.hok dd _ ea)
  obtain ⟨od, ho, hl⟩ := lookIn_ns hns
  obtain ⟨u, hu, ru⟩ := RelO.some_of (v := v) (o := mA n) (by rw [← l]; exact hr n)
  have J : PySem.W.InstAt s1.heap a oe D (some od) := ⟨ha, hz.1, by unfold PySem.W.notCls; rw [hd] <;> rfl, by rw [hz.2]; exact ho⟩
  exact HandSPX.exc_get I1.kIn J C.ga C.gt C.be (PySem.W.findObj_own C.hd hno rfl (by rw [hl, hu])) (handed_of ru) ⟨v, H1, I1.tok _, ru, q⟩
end
end Sc
namespace Sc
open PySem PySem.Spec PyProof.Rows L2 NdefX
/-! ### own errors with fields, made and raised -/
/-- what an f-string takes -/
def FOk : V → Prop
  | .int i => i.natAbs.log2 < 1920
  | .str z => z.length ≤ 1000000
  | _ => False
theorem fmt_at {y : V} {R : Str → Prop} (ok : FOk y) (q : ∀ z : Str, z.length ≤ 1000000 → R z) : (∃ z : Str, y = .str z ∧ z.length ≤ sizeLine ∧ R z) ∨ ∃ i : Int, y = .int i ∧ i.natAbs.log2 < 1920 ∧ R (toString i) := by
  cases y with
  | str z => exact .inl ⟨z, rfl, Nat.le_trans ok (by rw [sizeLine_eq]; decide), q z ok⟩
  | int i =>
    refine .inr ⟨i, rfl, ok, q _ ?_⟩
    have e : (PySem.Str.ofString (toString i)).length ≤ 1921 := int_text_len_1921 ok
    exact Nat.le_trans e (by decide)
  | _ => exact ok.elim
theorem fok_nat {i : Nat} (hi : i ≤ 1000) : FOk (.int (i : Nat)) := by
  show (i : Int).natAbs.log2 < 1920
  have e1 : (i : Int).natAbs = i := rfl
  rw [e1]
  by_cases h0 : i = 0
  · subst h0
    decide
  · have := (Nat.log2_lt h0 (k := 10)).mpr (Nat.lt_of_le_of_lt hi (by decide))
    omega
theorem app_len {a b : Str} : (a ++ b).length = a.length + b.length := by
  show (a.cps ++ b.cps).size = a.cps.size + b.cps.size
  exact Array.size_append
/-- a rule of arguments, its reading made monotone -/
theorem pa_mono {X : Cx} {es : List Expr} {ta : TA} (h : PA X es ta) : PA X es (fun σ H Q => ∃ R, ta σ H R ∧ ∀ vs H1, R vs H1 → Q vs H1) := by
  refine ⟨fun pos pins s σ H Q I ⟨R, q, k⟩ => wpAny_mono (h.run pos pins s σ H R I q) (fun us s1 ⟨vs, H1, J, r, z⟩ => ⟨vs, H1, J, r, k vs H1 z⟩) fun _ _ z => z⟩
/-- the promise of an __init__ that keeps its fields fs, in their order -/
def sp_init1 (C : Addr) (f : Str) : Sp := fun vs H Q _ => ∃ (a : Addr) (y : V), vs = [.ref a, y] ∧ H a = some (exo a C none) ∧ FOk y ∧ ∀ dx, H dx = none → dx ≠ a → Q .non (upd (upd H dx (exd dx [(f, y)])) a (exo a C (some dx)))
def sp_init2 (C : Addr) (f g : Str) : Sp := fun vs H Q _ => ∃ (a : Addr) (y z : V), vs = [.ref a, y, z] ∧ H a = some (exo a C none) ∧ FOk y ∧ FOk z ∧
  ∀ dx, H dx = none → dx ≠ a → Q .non (upd (upd (upd H dx (exd dx [(f, y)])) a (exo a C (some dx))) dx (exd dx [(g, z), (f, y)]))
/-- the class x at C, its __init__ keeping sp -/
structure ErrMk (P : Program) (w : World) (K : PySem.W.Frag) (mg : Str → Option Value) (base : Heap) (x : Str) (C : Addr) (ps : List Str) (sp : Sp) : Prop where
  ex : ∃ (fI : Addr) (fd : FuncData), OexC K C ∧ PySem.W.findIn K (.ref C) "__init__" = some (some (.ref fI)) ∧ PySem.W.typeIn K (.ref fI) = some (.type "function") ∧ FnOk P w K mg base CX0 1 fI fd ps sp ∧ Binds K fd ps [] ∧ mg x = some (.ref C)
theorem let_go {H : Hp} {a d : Addr} {o o' u : HO} (n : H a = none) (ne : d ≠ a) : upd (del (upd (upd H d u) a o) a) d o' = upd H d o' := by
  funext b
  by_cases hd : b = d
  · rw [hd, upd_same, upd_same]
  · rw [upd_ne hd, upd_ne hd]
    by_cases ha : b = a
    · rw [ha, del_same, n]
    · rw [del_ne ha, upd_ne ha, upd_ne hd]
section
variable {X : Cx} {x f g : Str} {C : Addr} {ps : List Str} {e e2 : Expr} {te te2 : TE} {p pos : Pos}
/-- x(e): an error whose own dict, new, holds the field -/
def tErr1 (C : Addr) (f : Str) (te : TE) : L2.St → Hp → XK → Prop := fun σ H Q => te σ H fun y H1 => FOk y ∧ ∀ d, H1 d = none → Q (.ref C) (some d) (upd H1 d (.xd [(f, y)]))
theorem pmk_err1 (M : ErrMk X.prog X.w X.K X.mg X.base x C ps (sp_init1 C f)) (hr : Room 2 X.A) (he : PE X e te) (hg : Gl X x := by rfl) (hdb : (x == ("__debug__" : Str)) = false := by decide)
    (hs : starEach [e] X.env = (false, eval e X.env) :: starEach [] X.env := by rfl) : PMk X (.Call (.Name x p) [e] [] pos) (tErr1 C f te) := by
  obtain ⟨fI, fd, T, iC, tI, F, hb, hm⟩ := M.ex
  intro pins s σ H Q I h
  refine pmk_oex (CX := CX0) T iC tI F hr hb .nil (fun _ _ _ _ _ _ _ z => z.elim) hg hm (pa_mono (pa_cons he pa_nil hs)) hdb hs rfl pins s σ H Q I ?_
  refine ⟨fun vs H1 => match vs with
    | [y] => FOk y ∧ ∀ d, H1 d = none → Q (.ref C) (some d) (upd H1 d (.xd [(f, y)]))
    | _ => False, h, fun vs H1 r => ?_⟩
  match vs, r with
  | [y], ⟨ok, q⟩ =>
    refine ⟨by simp, fun a na => ⟨a, y, rfl, upd_same, ok, fun dx nd ne => ⟨rfl, dx, _, upd_same, by rw [upd_ne ne, upd_same], ?_, ?_⟩⟩⟩
    · rw [upd_ne ne] at nd
      exact nd
    · rw [upd_ne ne] at nd
      have e1 : upd (upd (upd H1 a (exo a C none)) dx (exd dx [(f, y)])) a (exo a C (some dx)) = upd (upd H1 dx (exd dx [(f, y)])) a (exo a C (some dx)) := by
        funext b
        by_cases ha : b = a
        · rw [ha, upd_same, upd_same]
        · rw [upd_ne ha, upd_ne ha]
          by_cases hb : b = dx
          · rw [hb, upd_same, upd_same]
          · rw [upd_ne hb, upd_ne hb, upd_ne ha]
      rw [e1, let_go na ne]
      exact q dx nd
/-- x(e, e2): two fields -/
def tErr2 (C : Addr) (f g : Str) (te te2 : TE) : L2.St → Hp → XK → Prop := fun σ H Q => te σ H fun y H0 => te2 σ H0 fun z H1 => (FOk y ∧ FOk z) ∧ ∀ d, H1 d = none → Q (.ref C) (some d) (upd H1 d (.xd [(g, z), (f, y)]))
theorem pmk_err2 (M : ErrMk X.prog X.w X.K X.mg X.base x C ps (sp_init2 C f g)) (hr : Room 2 X.A) (he : PE X e te) (he2 : PE X e2 te2) (hg : Gl X x := by rfl) (hdb : (x == ("__debug__" : Str)) = false := by decide)
    (hs : starEach [e, e2] X.env = (false, eval e X.env) :: starEach [e2] X.env := by rfl) (hs2 : starEach [e2] X.env = (false, eval e2 X.env) :: starEach [] X.env := by rfl) (hpl : (backTo pos (starEach [e2] X.env)).any (·.1) = false := by rfl) :
    PMk X (.Call (.Name x p) [e, e2] [] pos) (tErr2 C f g te te2) := by
  obtain ⟨fI, fd, T, iC, tI, F, hb, hm⟩ := M.ex
  intro pins s σ H Q I h
  refine pmk_oex (CX := CX0) T iC tI F hr hb .nil (fun _ _ _ _ _ _ _ z => z.elim) hg hm (pa_mono (pa_cons he (pa_cons he2 pa_nil hs2) hs)) hdb hs hpl pins s σ H Q I ?_
  refine ⟨fun vs H1 => match vs with
    | [y, z] => (FOk y ∧ FOk z) ∧ ∀ d, H1 d = none → Q (.ref C) (some d) (upd H1 d (.xd [(g, z), (f, y)]))
    | _ => False, h, fun vs H1 r => ?_⟩
  match vs, r with
  | [y, z], ⟨⟨ok, ok2⟩, q⟩ =>
    refine ⟨by simp, fun a na => ⟨a, y, z, rfl, upd_same, ok, ok2, fun dx nd ne => ⟨rfl, dx, _, by rw [upd_ne ne.symm, upd_same], upd_same, ?_, ?_⟩⟩⟩
    · rw [upd_ne ne] at nd
      exact nd
    · rw [upd_ne ne] at nd
      have e1 : upd (del (upd (upd (upd (upd H1 a (exo a C none)) dx (exd dx [(f, y)])) a (exo a C (some dx))) dx (exd dx [(g, z), (f, y)])) a) dx (.xd [(g, z), (f, y)]) = upd H1 dx (.xd [(g, z), (f, y)]) := by
        funext b
        by_cases hb : b = dx
        · rw [hb, upd_same, upd_same]
        · rw [upd_ne hb, upd_ne hb]
          by_cases ha : b = a
          · rw [ha, del_same, na]
          · rw [del_ne ha, upd_ne hb, upd_ne ha, upd_ne hb, upd_ne ha]
      rw [e1]
      exact q dx nd
/-- the class x at C, without an __init__ of its own -/
structure ErrMk0 (K : PySem.W.Frag) (mg : Str → Option Value) (x : Str) (C : Addr) : Prop where
  q : PySem.W.excIn K C [.type "ValueError", .type "Exception", .type "BaseException", .type "object"] "ValueError.__new__" = true
  g : mg x = some (.ref C)
  k : PySem.W.keepIn K (.ref C) = true
  b : PySem.W.subIn K (.ref C) (.type "BaseException") = some true
  t : PySem.W.typeIn K (.ref C) = some (.type "type")
theorem pmk_err0 {m : Str} {j : Nat} {p2 : Pos} (M : ErrMk0 X.K X.mg x C) (hg : Gl X x := by rfl) (hdb : (x == ("__debug__" : Str)) = false := by decide) :
    PMk X (.Call (.Name x p) [.Constant (.str m) j p2] [] pos) (fun _ H Q => Q (.ref C) none H) := pmk_own PySem.F.excBase_ValueError M.q M.g M.k (raises_own M.b M.t) hg hdb
end
end Sc
namespace Sc
open PySem PySem.Spec PyProof.Rows L2 NdefX
section
variable {P : Program} {w : World} {K : PySem.W.Frag} {mg : Str → Option Value} {base : Heap}
theorem sc_init_InvalidFacts : NScope ["self", "index", "__class__"] ["self", "index"] ["__class__"] (defScope (inClass (topS 3) 0)) := nscope_by (by decide +kernel)
theorem ok_init_InvalidFacts {fI C cc c : Addr} {oc kV doc pm ct : Value} {od an : Option Addr} {osl : Array (Option Value)} (lk : K.lookup fI = some ⟨oc, od, .func (supFd (nf_InvalidFacts cc c) kV doc pm an ct), osl⟩)
    (hcd : PySem.W.codeIn K (.ref c) "InvalidFacts.__init__" = true) (T : OexC K C) (S : SupC P K mg C cc c) (n0 : PySem.W.findIn K (.ref C) "index" = some none) : FnOk P w K mg base CX0 1 fI (supFd (nf_InvalidFacts cc c) kV doc pm an ct) ["self", "index"] (sp_init1 C "index") := by
  refine fn_sup (N := ["self", "index", "__class__"]) (ps := ["self", "index"]) lk hcd rfl sc_init_InvalidFacts T S (fun vs H Q E h => ?_) rfl rfl rfl rfl rfl (fun A outer s H vs Q E hr h => ?_) (fun L => ⟨_, rfl⟩) (fun L => rfl) (fun L => rfl) (fun L => rfl) (fun L => rfl)
  · obtain ⟨a, y0, rfl, ha, ok0, q⟩ := h
    rfl
  · obtain ⟨a, y0, rfl, ha, ok0, q⟩ := h
    refine ⟨_, _, pa_cons (pe_joined (PJ.cons pe_str (PJ.cons (pe_fmt (pv 1)) PJ.nil))) pa_nil, pss_one (ps_ost (pv 0) (pv 1)), a, rfl, ha, ?_⟩
    refine ⟨_, rfl, (by rw [sizeLine_eq]; simp only [app_len]; have e0 : Str.empty.length = 0 := rfl; have e1 : (("wrong fact at index " : Str)).length = 20 := (by decide +kernel); omega), ⟨y0, rfl, fmt_at ok0 fun z0 hz0 => ⟨_, rfl, (by rw [sizeLine_eq]; simp only [app_len]; have e0 : Str.empty.length = 0 := rfl; have e1 : (("wrong fact at index " : Str)).length = 20 := (by decide +kernel); omega), ⟨by simp, ha, y0, rfl, .ref a, rfl, a, C, rfl, T, n0, .inl ⟨ha, fun dx nd ne => q dx nd ne⟩⟩⟩⟩⟩

theorem sc_init_InvalidCase : NScope ["self", "index", "__class__"] ["self", "index"] ["__class__"] (defScope (inClass (topS 4) 0)) := nscope_by (by decide +kernel)
theorem ok_init_InvalidCase {fI C cc c : Addr} {oc kV doc pm ct : Value} {od an : Option Addr} {osl : Array (Option Value)} (lk : K.lookup fI = some ⟨oc, od, .func (supFd (nf_InvalidCase cc c) kV doc pm an ct), osl⟩)
    (hcd : PySem.W.codeIn K (.ref c) "InvalidCase.__init__" = true) (T : OexC K C) (S : SupC P K mg C cc c) (n0 : PySem.W.findIn K (.ref C) "index" = some none) : FnOk P w K mg base CX0 1 fI (supFd (nf_InvalidCase cc c) kV doc pm an ct) ["self", "index"] (sp_init1 C "index") := by
  refine fn_sup (N := ["self", "index", "__class__"]) (ps := ["self", "index"]) lk hcd rfl sc_init_InvalidCase T S (fun vs H Q E h => ?_) rfl rfl rfl rfl rfl (fun A outer s H vs Q E hr h => ?_) (fun L => ⟨_, rfl⟩) (fun L => rfl) (fun L => rfl) (fun L => rfl) (fun L => rfl)
  · obtain ⟨a, y0, rfl, ha, ok0, q⟩ := h
    rfl
  · obtain ⟨a, y0, rfl, ha, ok0, q⟩ := h
    refine ⟨_, _, pa_cons (pe_joined (PJ.cons pe_str (PJ.cons (pe_fmt (pv 1)) PJ.nil))) pa_nil, pss_one (ps_ost (pv 0) (pv 1)), a, rfl, ha, ?_⟩
    refine ⟨_, rfl, (by rw [sizeLine_eq]; simp only [app_len]; have e0 : Str.empty.length = 0 := rfl; have e1 : (("wrong name in the case at index " : Str)).length = 32 := (by decide +kernel); omega), ⟨y0, rfl, fmt_at ok0 fun z0 hz0 => ⟨_, rfl, (by rw [sizeLine_eq]; simp only [app_len]; have e0 : Str.empty.length = 0 := rfl; have e1 : (("wrong name in the case at index " : Str)).length = 32 := (by decide +kernel); omega), ⟨by simp, ha, y0, rfl, .ref a, rfl, a, C, rfl, T, n0, .inl ⟨ha, fun dx nd ne => q dx nd ne⟩⟩⟩⟩⟩

theorem sc_init_InvalidCondition : NScope ["self", "part", "index", "__class__"] ["self", "part", "index"] ["__class__"] (defScope (inClass (topS 5) 0)) := nscope_by (by decide +kernel)
theorem ok_init_InvalidCondition {fI C cc c : Addr} {oc kV doc pm ct : Value} {od an : Option Addr} {osl : Array (Option Value)} (lk : K.lookup fI = some ⟨oc, od, .func (supFd (nf_InvalidCondition cc c) kV doc pm an ct), osl⟩)
    (hcd : PySem.W.codeIn K (.ref c) "InvalidCondition.__init__" = true) (T : OexC K C) (S : SupC P K mg C cc c) (n0 : PySem.W.findIn K (.ref C) "part" = some none) (n1 : PySem.W.findIn K (.ref C) "index" = some none) : FnOk P w K mg base CX0 1 fI (supFd (nf_InvalidCondition cc c) kV doc pm an ct) ["self", "part", "index"] (sp_init2 C "part" "index") := by
  refine fn_sup (N := ["self", "part", "index", "__class__"]) (ps := ["self", "part", "index"]) lk hcd rfl sc_init_InvalidCondition T S (fun vs H Q E h => ?_) rfl rfl rfl rfl rfl (fun A outer s H vs Q E hr h => ?_) (fun L => ⟨_, rfl⟩) (fun L => rfl) (fun L => rfl) (fun L => rfl) (fun L => rfl)
  · obtain ⟨a, y0, y1, rfl, ha, ok0, ok1, q⟩ := h
    rfl
  · obtain ⟨a, y0, y1, rfl, ha, ok0, ok1, q⟩ := h
    refine ⟨_, _, pa_cons (pe_joined (PJ.cons pe_str (PJ.cons (pe_fmt (pv 1)) (PJ.cons pe_str (PJ.cons (pe_fmt (pv 2)) PJ.nil))))) pa_nil, pss_cons (ps_ost (pv 0) (pv 1)) (pss_one (ps_ost (pv 0) (pv 2))), a, rfl, ha, ?_⟩
    refine ⟨_, rfl, (by rw [sizeLine_eq]; simp only [app_len]; have e0 : Str.empty.length = 0 := rfl; have e1 : (("wrong name in part " : Str)).length = 19 := (by decide +kernel); have e2 : ((" of the condition at index " : Str)).length = 27 := (by decide +kernel); omega), ⟨y0, rfl, fmt_at ok0 fun z0 hz0 => ⟨_, rfl, (by rw [sizeLine_eq]; simp only [app_len]; have e0 : Str.empty.length = 0 := rfl; have e1 : (("wrong name in part " : Str)).length = 19 := (by decide +kernel); have e2 : ((" of the condition at index " : Str)).length = 27 := (by decide +kernel); omega), ⟨_, rfl, (by rw [sizeLine_eq]; simp only [app_len]; have e0 : Str.empty.length = 0 := rfl; have e1 : (("wrong name in part " : Str)).length = 19 := (by decide +kernel); have e2 : ((" of the condition at index " : Str)).length = 27 := (by decide +kernel); omega), ⟨y1, rfl, fmt_at ok1 fun z1 hz1 => ⟨_, rfl, (by rw [sizeLine_eq]; simp only [app_len]; have e0 : Str.empty.length = 0 := rfl; have e1 : (("wrong name in part " : Str)).length = 19 := (by decide +kernel); have e2 : ((" of the condition at index " : Str)).length = 27 := (by decide +kernel); omega), ⟨by simp, ha, y0, rfl, .ref a, rfl, a, C, rfl, T, n0, .inl ⟨ha, fun dx nd ne => ⟨y1, rfl, .ref a, rfl, a, C, rfl, T, n1, .inr ⟨dx, _, upd_same, by rw [upd_ne ne, upd_same], by simp, q dx nd ne⟩⟩⟩⟩⟩⟩⟩⟩⟩⟩

theorem sc_init_InvalidRule : NScope ["self", "part", "__class__"] ["self", "part"] ["__class__"] (defScope (inClass (topS 7) 0)) := nscope_by (by decide +kernel)
theorem ok_init_InvalidRule {fI C cc c : Addr} {oc kV doc pm ct : Value} {od an : Option Addr} {osl : Array (Option Value)} (lk : K.lookup fI = some ⟨oc, od, .func (supFd (nf_InvalidRule cc c) kV doc pm an ct), osl⟩)
    (hcd : PySem.W.codeIn K (.ref c) "InvalidRule.__init__" = true) (T : OexC K C) (S : SupC P K mg C cc c) (n0 : PySem.W.findIn K (.ref C) "part" = some none) : FnOk P w K mg base CX0 1 fI (supFd (nf_InvalidRule cc c) kV doc pm an ct) ["self", "part"] (sp_init1 C "part") := by
  refine fn_sup (N := ["self", "part", "__class__"]) (ps := ["self", "part"]) lk hcd rfl sc_init_InvalidRule T S (fun vs H Q E h => ?_) rfl rfl rfl rfl rfl (fun A outer s H vs Q E hr h => ?_) (fun L => ⟨_, rfl⟩) (fun L => rfl) (fun L => rfl) (fun L => rfl) (fun L => rfl)
  · obtain ⟨a, y0, rfl, ha, ok0, q⟩ := h
    rfl
  · obtain ⟨a, y0, rfl, ha, ok0, q⟩ := h
    refine ⟨_, _, pa_cons (pe_joined (PJ.cons pe_str (PJ.cons (pe_fmt (pv 1)) (PJ.cons pe_str PJ.nil)))) pa_nil, pss_one (ps_ost (pv 0) (pv 1)), a, rfl, ha, ?_⟩
    refine ⟨_, rfl, (by rw [sizeLine_eq]; simp only [app_len]; have e0 : Str.empty.length = 0 := rfl; have e1 : (("wrong " : Str)).length = 6 := (by decide +kernel); have e2 : ((" of a rule" : Str)).length = 10 := (by decide +kernel); omega), ⟨y0, rfl, fmt_at ok0 fun z0 hz0 => ⟨_, rfl, (by rw [sizeLine_eq]; simp only [app_len]; have e0 : Str.empty.length = 0 := rfl; have e1 : (("wrong " : Str)).length = 6 := (by decide +kernel); have e2 : ((" of a rule" : Str)).length = 10 := (by decide +kernel); omega), ⟨_, rfl, (by rw [sizeLine_eq]; simp only [app_len]; have e0 : Str.empty.length = 0 := rfl; have e1 : (("wrong " : Str)).length = 6 := (by decide +kernel); have e2 : ((" of a rule" : Str)).length = 10 := (by decide +kernel); omega), ⟨by simp, ha, y0, rfl, .ref a, rfl, a, C, rfl, T, n0, .inl ⟨ha, fun dx nd ne => q dx nd ne⟩⟩⟩⟩⟩⟩

theorem sc_init_InvalidBook : NScope ["self", "word", "index", "__class__"] ["self", "word", "index"] ["__class__"] (defScope (inClass (topS 8) 0)) := nscope_by (by decide +kernel)
theorem ok_init_InvalidBook {fI C cc c : Addr} {oc kV doc pm ct : Value} {od an : Option Addr} {osl : Array (Option Value)} (lk : K.lookup fI = some ⟨oc, od, .func (supFd (nf_InvalidBook cc c) kV doc pm an ct), osl⟩)
    (hcd : PySem.W.codeIn K (.ref c) "InvalidBook.__init__" = true) (T : OexC K C) (S : SupC P K mg C cc c) (n0 : PySem.W.findIn K (.ref C) "word" = some none) (n1 : PySem.W.findIn K (.ref C) "index" = some none) : FnOk P w K mg base CX0 1 fI (supFd (nf_InvalidBook cc c) kV doc pm an ct) ["self", "word", "index"] (sp_init2 C "word" "index") := by
  refine fn_sup (N := ["self", "word", "index", "__class__"]) (ps := ["self", "word", "index"]) lk hcd rfl sc_init_InvalidBook T S (fun vs H Q E h => ?_) rfl rfl rfl rfl rfl (fun A outer s H vs Q E hr h => ?_) (fun L => ⟨_, rfl⟩) (fun L => rfl) (fun L => rfl) (fun L => rfl) (fun L => rfl)
  · obtain ⟨a, y0, y1, rfl, ha, ok0, ok1, q⟩ := h
    rfl
  · obtain ⟨a, y0, y1, rfl, ha, ok0, ok1, q⟩ := h
    refine ⟨_, _, pa_cons (pe_joined (PJ.cons pe_str (PJ.cons (pe_fmt (pv 1)) (PJ.cons pe_str (PJ.cons (pe_fmt (pv 2)) PJ.nil))))) pa_nil, pss_cons (ps_ost (pv 0) (pv 1)) (pss_one (ps_ost (pv 0) (pv 2))), a, rfl, ha, ?_⟩
    refine ⟨_, rfl, (by rw [sizeLine_eq]; simp only [app_len]; have e0 : Str.empty.length = 0 := rfl; have e1 : (("wrong book by " : Str)).length = 14 := (by decide +kernel); have e2 : ((" at index " : Str)).length = 10 := (by decide +kernel); omega), ⟨y0, rfl, fmt_at ok0 fun z0 hz0 => ⟨_, rfl, (by rw [sizeLine_eq]; simp only [app_len]; have e0 : Str.empty.length = 0 := rfl; have e1 : (("wrong book by " : Str)).length = 14 := (by decide +kernel); have e2 : ((" at index " : Str)).length = 10 := (by decide +kernel); omega), ⟨_, rfl, (by rw [sizeLine_eq]; simp only [app_len]; have e0 : Str.empty.length = 0 := rfl; have e1 : (("wrong book by " : Str)).length = 14 := (by decide +kernel); have e2 : ((" at index " : Str)).length = 10 := (by decide +kernel); omega), ⟨y1, rfl, fmt_at ok1 fun z1 hz1 => ⟨_, rfl, (by rw [sizeLine_eq]; simp only [app_len]; have e0 : Str.empty.length = 0 := rfl; have e1 : (("wrong book by " : Str)).length = 14 := (by decide +kernel); have e2 : ((" at index " : Str)).length = 10 := (by decide +kernel); omega), ⟨by simp, ha, y0, rfl, .ref a, rfl, a, C, rfl, T, n0, .inl ⟨ha, fun dx nd ne => ⟨y1, rfl, .ref a, rfl, a, C, rfl, T, n1, .inr ⟨dx, _, upd_same, by rw [upd_ne ne, upd_same], by simp, q dx nd ne⟩⟩⟩⟩⟩⟩⟩⟩⟩⟩

theorem sc_init_InvalidOperation : NScope ["self", "index", "__class__"] ["self", "index"] ["__class__"] (defScope (inClass (topS 14) 0)) := nscope_by (by decide +kernel)
theorem ok_init_InvalidOperation {fI C cc c : Addr} {oc kV doc pm ct : Value} {od an : Option Addr} {osl : Array (Option Value)} (lk : K.lookup fI = some ⟨oc, od, .func (supFd (nf_InvalidOperation cc c) kV doc pm an ct), osl⟩)
    (hcd : PySem.W.codeIn K (.ref c) "InvalidOperation.__init__" = true) (T : OexC K C) (S : SupC P K mg C cc c) (n0 : PySem.W.findIn K (.ref C) "index" = some none) : FnOk P w K mg base CX0 1 fI (supFd (nf_InvalidOperation cc c) kV doc pm an ct) ["self", "index"] (sp_init1 C "index") := by
  refine fn_sup (N := ["self", "index", "__class__"]) (ps := ["self", "index"]) lk hcd rfl sc_init_InvalidOperation T S (fun vs H Q E h => ?_) rfl rfl rfl rfl rfl (fun A outer s H vs Q E hr h => ?_) (fun L => ⟨_, rfl⟩) (fun L => rfl) (fun L => rfl) (fun L => rfl) (fun L => rfl)
  · obtain ⟨a, y0, rfl, ha, ok0, q⟩ := h
    rfl
  · obtain ⟨a, y0, rfl, ha, ok0, q⟩ := h
    refine ⟨_, _, pa_cons (pe_joined (PJ.cons pe_str (PJ.cons (pe_fmt (pv 1)) PJ.nil))) pa_nil, pss_one (ps_ost (pv 0) (pv 1)), a, rfl, ha, ?_⟩
    refine ⟨_, rfl, (by rw [sizeLine_eq]; simp only [app_len]; have e0 : Str.empty.length = 0 := rfl; have e1 : (("wrong operation at index " : Str)).length = 25 := (by decide +kernel); omega), ⟨y0, rfl, fmt_at ok0 fun z0 hz0 => ⟨_, rfl, (by rw [sizeLine_eq]; simp only [app_len]; have e0 : Str.empty.length = 0 := rfl; have e1 : (("wrong operation at index " : Str)).length = 25 := (by decide +kernel); omega), ⟨by simp, ha, y0, rfl, .ref a, rfl, a, C, rfl, T, n0, .inl ⟨ha, fun dx nd ne => q dx nd ne⟩⟩⟩⟩⟩

end
end Sc
namespace Sc
open PySem PySem.Spec PyProof.Rows L2
/-! ### names -/
theorem sc_is_name : FnScope ["value", "letter"] ["value"] (defScope s_is_name) := ⟨rfl, rfl, rfl, by decide +kernel, rfl, by decide +kernel, by decide +kernel⟩
theorem sc_rises : FnScope ["names", "index"] ["names", "index"] (defScope s_rises) := ⟨rfl, rfl, rfl, by decide +kernel, rfl, by decide +kernel, by decide +kernel⟩
def isLetters (x : Str) : Bool := x.cps.toList.all fun c => decide (c ∈ letters.cps.toList)
def isName (x : Str) : Bool := decide (1 ≤ x.length) && (decide (x.length ≤ 8) && isLetters x)
def isLetterV (c : Nat) : V := .bl (decide (c ∈ letters.cps.toList))
structure GNames (mg : Str → Option Value) : Prop where
  m_LETTERS : ∃ t, mg "LETTERS" = some (.str letters t)
  m_LONGEST : ∃ t, mg "LONGEST_NAME" = some (.int 8 t)
section
variable {P : Program} {w : World} {K : PySem.W.Frag} {mg : Str → Option Value} {base : Heap}
def sp_is_name : Sp := fun vs H Q _ => ∃ x : Str, vs = [.str x] ∧ x.length ≤ sizeLine ∧ ∀ H', Same H H' → Q (.bl (isName x)) H'
theorem ok_is_name {f : Addr} {fd : FuncData} (F : Fun K "is_name" "is_name" s_is_name f fd) (B : Blt mg) (G : GNames mg) : FnOk P w K mg base CX0 1 f fd ["value"] sp_is_name := by
  obtain ⟨⟨t1, mL⟩, ⟨t2, mN⟩⟩ := G
  refine F.ok sc_is_name (fun vs H Q E h => by obtain ⟨x, rfl, _⟩ := h; rfl) (fun cdv A outer s H vs Q E hr h => ?_)
  obtain ⟨x, rfl, hx, q⟩ := h
  refine ⟨_, (pss_cons (ps_if (PW.pt (pw_or (pt_not (pt_val (pe_callB (call_isT "str") (by rfl) B.b_isinstance PyProof.Rows.boot_isinstance (pa_cons (pv 0) (pa_cons (pe_bltn (v := .ty "str") (by rfl) B.b_str PyProof.Rows.boot_str rfl) pa_nil))))) (pw_or1 (pt_not (pt_chain op_le op_le pe_int (pe_callB call_len_str (by rfl) B.b_len PySem.boot_len (pa_cons (pv 0) pa_nil)) (pe_glob (v := .int 8) rfl mN ⟨_, rfl⟩)))))) (pss_one (ps_ret pe_bl)) pss_nil)
      (pss_one (ps_ret (pe_callB (cr_all rfl) (by rfl) B.b_all PyProof.Rows.boot_all (pa_cons (pe_lc (own := [("letter", 1)]) (g := gName 1) (tt := tYes) rfl sc_is_name.nd (pi_str (pv 0)) (blkOk_by (own := [("letter", 1)]) (N := ["value", "letter"]) (sc := defScope s_is_name) (by decide +kernel)) (fun _ _ _ _ _ => (pg_name (i := 1) sc_is_name.nd rfl (Or.inl rfl))) (fun _ _ _ _ _ => pts_nil) (fun _ _ _ _ _ => (pe_.re (pe_cmpR op_in_sign (pv 1) (pe_glob (v := .str "abcdefghijklmnopqrstuvwxyz") rfl mL ⟨_, rfl⟩) rfl) (by first | (dsimp only [Cx.blk]; done) | exact rfl)))) pa_nil))))), ?_⟩
  refine ⟨.str x, rfl, _, "str", true, rfl, .str _, by decide +kernel, _, rfl, iteF ?_⟩
  refine ⟨.str x, rfl, x, rfl, hx, 1, x.length, rfl, rfl, _, rfl, bcase (fun h1 => ?_) (fun h1 => ?_)⟩
  · refine ⟨_, _, rfl, rfl, _, rfl, ?_⟩
    have h1 : 1 ≤ x.length := by have := of_decide_eq_true h1; omega
    by_cases h2 : x.length ≤ 8
    · have e2 : decide ((x.length : Int) ≤ 8) = true := decide_eq_true (by omega)
      rw [e2]
      refine iteF ?_
      refine ⟨.str x, rfl, x, rfl, fun D nD => lc_it walk_str (fun i H' => Same H H' ∧ H' D = some (.lst ((x.cps.toList.take i).map isLetterV))) ⟨(Same.refl H).put nD, upd_same⟩ (fun _ _ _ _ => trivial) ?_ ?_⟩
      · rintro i y H2 H3 hi ⟨s, e⟩ ⟨rfl, c, hc, rfl⟩
        refine ⟨rfl, yes_ ⟨_, rfl, c, letters, rfl, rfl, grow (acc := fun i => .map isLetterV (x.cps.toList.take i)) nD s e ?_ ?_⟩⟩
        · rw [List.length_map, List.length_take]
          exact small1000 (by have : x.cps.toList.length = x.length := rfl; omega)
        · show List.map _ _ = _
          rw [take_more (x := c) (by rw [Array.getElem?_toList]; exact hc), List.map_append]
          rfl
      · rintro H2 ⟨s, e⟩
        have el : x.cps.toList.take x.cps.size = x.cps.toList := List.take_of_length_le (by rw [Array.length_toList]; exact Nat.le_refl _)
        rw [el] at e
        refine ⟨D, x.cps.toList.map fun c => decide (c ∈ letters.cps.toList), rfl, sqL_of (by rw [e, List.map_map]; rfl), ?_⟩
        have ea : isName x = (x.cps.toList.map fun c => decide (c ∈ letters.cps.toList)).all id := by
          unfold isName isLetters
          rw [decide_eq_true h1, decide_eq_true h2, Bool.true_and, Bool.true_and, List.all_map]
          rfl
        rw [← ea]
        exact q H2 s
    · have e2 : decide ((x.length : Int) ≤ 8) = false := decide_eq_false (by omega)
      rw [e2]
      refine iteT ?_
      have e : isName x = false := by unfold isName; rw [decide_eq_false h2, Bool.false_and, Bool.and_false]
      rw [← e]
      exact q H (Same.refl H)
  · have h1 : ¬ 1 ≤ x.length := by have := of_decide_eq_false h1; omega
    refine ⟨_, rfl, iteT ?_⟩
    have e : isName x = false := by unfold isName; rw [decide_eq_false h1, Bool.false_and]
    rw [← e]
    exact q H (Same.refl H)
/-- does the i-th name come behind the one before it -/
def risesAt (xs : List Str) (i : Nat) : Bool := decide (i = 0) || match xs[i - 1]?, xs[i]? with
  | some a, some b => decide (a.cps.toList < b.cps.toList)
  | _, _ => false
def sp_rises (K : PySem.W.Frag) : Sp := fun vs H Q _ => ∃ (a : Addr) (xs : List Str) (i : Nat), vs = [.ref a, .int i] ∧ SqT K H a (xs.map V.str) ∧ i < xs.length ∧ Q (.bl (risesAt xs i)) H
theorem ok_rises {f : Addr} {fd : FuncData} (F : Fun K "rises" "rises" s_rises f fd) : FnOk P w K mg base CX0 1 f fd ["names", "index"] (sp_rises K) := by
  refine F.ok sc_rises (fun vs H Q E h => by obtain ⟨a, xs, i, rfl, _⟩ := h; rfl) (fun cdv A outer s H vs Q E hr h => ?_)
  obtain ⟨a, xs, i, rfl, hS, hi, q⟩ := h
  refine ⟨_, (pss_one (ps_ret (pe_or (pe_cmpR op_eq (pv 1) pe_int (nomark _)) (pe_one (pe_cmpR op_lt_str (pe_ix ix_tup (pv 0) (pe_op op_sub (pv 1) pe_int) (fun _ _ => rfl)) (pe_ix ix_tup (pv 0) (pv 1) (fun _ _ => rfl)) (nomark _)))))), ?_⟩
  refine ⟨_, rfl, rfl, _, rfl, bcase (fun e => ?_) (fun e => ?_)⟩
  · have e0 : i = 0 := by have := V.int.inj (of_decide_eq_true e); omega
    have er : risesAt xs i = true := by unfold risesAt; rw [decide_eq_true e0, Bool.true_or]
    rw [er] at q
    exact q
  · have e0 : i ≠ 0 := fun z => by subst z; exact Bool.noConfusion (e.symm.trans (decide_eq_true rfl))
    have h1 : i - 1 < xs.length := by omega
    have g1 : (xs.map V.str)[i - 1]? = some (.str xs[i - 1]) := by rw [List.getElem?_map, List.getElem?_eq_getElem h1]; rfl
    have g2 : (xs.map V.str)[i]? = some (.str xs[i]) := by rw [List.getElem?_map, List.getElem?_eq_getElem hi]; rfl
    refine ⟨.ref a, rfl, .int i, rfl, i, 1, rfl, rfl, a, _, _, _, rfl, rfl, hS, at_of (j := i - 1) (by omega) g1, .ref a, rfl, .int i, rfl, a, _, _, _, rfl, rfl, hS, at_of rfl g2, xs[i - 1], xs[i], rfl, rfl, ?_⟩
    have er : risesAt xs i = decide (xs[i - 1].cps.toList < xs[i].cps.toList) := by
      unfold risesAt
      rw [decide_eq_false e0, Bool.false_or, List.getElem?_eq_getElem h1, List.getElem?_eq_getElem hi]
    rw [← er]
    exact q
end
end Sc
namespace Sc
open PySem PySem.Spec PyProof.Rows L2
/-! ### the law's draws -/
theorem sc__law_mix : FnScope ["_law_script", "_law_seed", "_law_state", "_law_cell"] ["_law_script", "_law_seed"] (defScope s__law_mix) := ⟨rfl, rfl, rfl, by decide +kernel, rfl, by decide +kernel, by decide +kernel⟩
theorem sc__law_next : FnScope ["_law_h", "_law_limit", "_law_cell"] ["_law_h", "_law_limit"] (defScope s__law_next) := ⟨rfl, rfl, rfl, by decide +kernel, rfl, by decide +kernel, by decide +kernel⟩
theorem sc__law_facts : FnScope ["_law_h", "_law_most", "_law_some", "_law_many"] ["_law_h", "_law_most"] (defScope s__law_facts) := ⟨rfl, rfl, rfl, by decide +kernel, rfl, by decide +kernel, by decide +kernel⟩
def twelve : List Str := ["age", "bad", "cold", "dear", "early", "first", "good", "hot", "idle", "just", "keen", "late"]
/-- the state of the draws: a list at a, its cells at l -/
def RS (H : Hp) (a l : Addr) : Prop := ∃ (st k : Int) (ns : List Int), H a = some (.lst [.int st, .ref l, .int k]) ∧ H l = some (.lst (ns.map V.int)) ∧ 0 ≤ st ∧ st < 2147483647 ∧ ns.length ≤ 63 ∧ ∀ z ∈ ns, Builtin.Int.intBits z ≤ 1048576
/-- all but the draws' state stands -/
structure Kp (a l : Addr) (H H' : Hp) : Prop where
  old : RS H a l
  new : RS H' a l
  keep : ∀ b o, b ≠ a → b ≠ l → H b = some o → H' b = some o
section
variable {P : Program} {w : World} {K : PySem.W.Frag} {mg : Str → Option Value} {base : Heap} {a l : Addr} {H H' H'' : Hp}
theorem RS.ne (r : RS H a l) : a ≠ l := fun z => by
  obtain ⟨st, k, ns, h1, h2, _⟩ := r
  subst z
  rw [h1] at h2
  have e := HO.lst.inj (Option.some.inj h2)
  match ns, e with
  | [x, y, z], e => cases (List.cons.inj (List.cons.inj e).2).1
theorem RS.same (r : RS H a l) (s : Same H H') : RS H' a l := by
  obtain ⟨st, k, ns, h1, h2, q⟩ := r
  exact ⟨st, k, ns, s _ _ h1, s _ _ h2, q⟩
theorem Kp.refl (r : RS H a l) : Kp a l H H := ⟨r, r, fun _ _ _ _ e => e⟩
theorem Kp.trans (k : Kp a l H H') (k' : Kp a l H' H'') : Kp a l H H'' := ⟨k.old, k'.new, fun b o n1 n2 e => k'.keep b o n1 n2 (k.keep b o n1 n2 e)⟩
theorem Kp.of (r : RS H a l) (s : Same H H') : Kp a l H H' := ⟨r, r.same s, fun b o _ _ e => s b o e⟩
theorem Kp.same (k : Kp a l H H') (s : Same H' H'') : Kp a l H H'' := k.trans (.of k.new s)
theorem RS.no {b : Addr} (r : RS H a l) (e : H b = none) : b ≠ a ∧ b ≠ l := by
  obtain ⟨st, k, ns, h1, h2, _⟩ := r
  exact ⟨fun z => (by rw [z, h1] at e; cases e), fun z => (by rw [z, h2] at e; cases e)⟩
theorem RS.not {b : Addr} {o : HO} (r : RS H a l) (e : H b = some o) (n : ∀ xs, o ≠ .lst xs) : b ≠ a ∧ b ≠ l := by
  obtain ⟨st, k, ns, h1, h2, _⟩ := r
  exact ⟨fun z => (by rw [z, h1] at e; exact n _ (Option.some.inj e).symm), fun z => (by rw [z, h2] at e; exact n _ (Option.some.inj e).symm)⟩
theorem Kp.free {b : Addr} (k : Kp a l H H') (e : H' b = none) : H b = none := by
  cases q : H b with
  | none => rfl
  | some o =>
    obtain ⟨n1, n2⟩ := k.new.no e
    rw [k.keep b o n1 n2 q] at e
    cases e
theorem Kp.put {p : Addr} {o : HO} (k : Kp a l H H') (n : H' p = none) : Kp a l H (upd H' p o) := k.same ((Same.refl H').put n)
theorem Kp.put0 {p : Addr} {o : HO} (k : Kp a l H H') (n : H p = none) : Kp a l H (upd H' p o) := by
  obtain ⟨n1, n2⟩ := k.old.no n
  obtain ⟨st, x, ns, h1, h2, q⟩ := k.new
  exact ⟨k.old, ⟨st, x, ns, by rw [upd_ne n1.symm]; exact h1, by rw [upd_ne n2.symm]; exact h2, q⟩, fun b o m1 m2 e => by rw [upd_ne (ne_of_none e n)]; exact k.keep b o m1 m2 e⟩
theorem ixN_of {n j : Nat} (hj : j < n) : ixN n (j : Int) = some j := by
  unfold ixN
  rw [if_pos (by omega), if_pos (by omega)]
  rfl
theorem Kp.obj {b : Addr} {o : HO} (k : Kp a l H H') (e : H b = some o) (n : ∀ xs, o ≠ .lst xs) : H' b = some o := by
  obtain ⟨n1, n2⟩ := k.old.not e n
  exact k.keep b o n1 n2 e
theorem Kp.tup {b : Addr} {xs : List V} (k : Kp a l H H') (h : SqT K H b xs) : SqT K H' b xs := by
  rcases h with (h | ⟨o, h⟩) | h
  · exact .inl (.inl (k.obj h fun _ z => nomatch z))
  · exact .inl (.inr ⟨o, k.obj h fun _ z => nomatch z⟩)
  · exact .inr h
theorem bits_div {x n : Int} (h0 : 0 ≤ x) (hn : 0 < n) : Builtin.Int.intBits (x / n) ≤ Builtin.Int.intBits x := by
  have h1 : 0 ≤ x / n := Int.ediv_nonneg h0 (Int.le_of_lt hn)
  have h2 : x / n ≤ x := Int.ediv_le_self n h0
  unfold Builtin.Int.intBits
  by_cases e : x / n = 0
  · rw [e]
    exact Nat.zero_le _
  · have e2 : x ≠ 0 := fun z => by rw [z, Int.zero_ediv] at e; exact e rfl
    rw [if_neg (by simpa using e), if_neg (by simpa using e2)]
    have e3 : (x / n).natAbs.log2 ≤ x.natAbs.log2 := (Nat.le_log2 (by omega)).mpr (Nat.le_trans (Nat.log2_self_le (by omega)) (by omega))
    omega
theorem small_bits {x : Int} {k : Nat} (h : x.natAbs < 2 ^ k) : Builtin.Int.intBits x ≤ k := by
  unfold Builtin.Int.intBits
  split
  · exact Nat.zero_le k
  · rename_i e
    have e : x ≠ 0 := by simpa using e
    have := (Nat.log2_lt (n := x.natAbs) (by omega)).mpr h
    omega
def sp_mix (K : PySem.W.Frag) : Sp := fun vs H Q _ => ∃ (s : Addr) (ns : List Int) (z : Int), vs = [.ref s, .int z] ∧ SqL K H s (ns.map V.int) ∧ ns.length ≤ 63 ∧ (∀ z ∈ ns, Builtin.Int.intBits z ≤ 1048576) ∧ 0 ≤ z ∧ z < 2147483647 ∧
  ∀ H' a l, Same H H' → RS H' a l → Q (.ref a) H'
theorem ok_mix {f : Addr} {fd : FuncData} (F : Fun K "_law_mix" "_law_mix" s__law_mix f fd) (B : Blt mg) : FnOk P w K mg base CX0 1 f fd ["_law_script", "_law_seed"] (sp_mix K) := by
  refine F.ok sc__law_mix (fun vs H Q E h => by obtain ⟨s, ns, z, rfl, _⟩ := h; rfl) (fun cdv A outer s H vs Q E hr h => ?_)
  obtain ⟨s, ns, z, rfl, hS, hl, hb, z0, z1, q⟩ := h
  refine ⟨_, (pss_cons (ps_set (i := 2) sc__law_mix.nd rfl (Or.inl rfl) (pv 1))
      (pss_cons (ps_for PassesOwn.never rfl (pi_list (pv 0)) (pg_name (i := 3) sc__law_mix.nd rfl (Or.inl rfl)) (pss_one (ps_set (i := 2) sc__law_mix.nd rfl (Or.inl rfl) (pe_op op_mod (pe_callTy call_int1 (by rfl) B.b_int PyProof.Rows.boot_int (pa_cons (pe_op op_add (pe_op op_add (pe_op op_mul (pv 2) pe_int) (pe_op op_mod (pe_callTy call_int1 (by rfl) B.b_int PyProof.Rows.boot_int (pa_cons (pv 3) pa_nil)) pe_int)) pe_int) pa_nil)) pe_int))))
      (pss_one (ps_ret (pe_lst (pa_cons (pv 2) (pa_cons (pe_callTy call_list_of (by rfl) B.b_list PyProof.Rows.boot_list (pa_cons (pv 0) pa_nil)) (pa_cons pe_int pa_nil)))))))), ?_⟩
  refine ⟨_, rfl, .ref s, rfl, s, rfl, ⟨_, hS⟩, for_it walk_list (fun i σ H' => ∃ (st : Int) (y : Option V), σ = [some (.ref s), some (.int z), some (.int st), y] ∧ H' = H ∧ 0 ≤ st ∧ st < 2147483647)
    ⟨z, none, rfl, rfl, z0, z1⟩ (fun i σ H' _ ⟨_, _, _, e, _⟩ => by rw [e]; exact hS) ?_ ?_⟩
  · rintro i x σ H2 H3 hi ⟨st, y, rfl, rfl, h0, h1⟩ ⟨rfl, hx⟩
    obtain ⟨c, hc, rfl⟩ : ∃ c, ns[i]? = some c ∧ x = V.int c := by
      rw [List.getElem?_map] at hx
      cases e : ns[i]? with
      | none => rw [e] at hx; cases hx
      | some c => rw [e] at hx; exact ⟨c, rfl, (Option.some.inj hx).symm⟩
    refine ⟨_, rfl, st, 48271, rfl, rfl, .inl ⟨by omega, by omega⟩, _, rfl, .inl ⟨c, rfl, c, 2147483629, rfl, rfl, (show (0 : Int) < 2147483629 by decide), _, _, rfl, rfl, _, _, rfl, rfl, .inl ⟨_, rfl, _, 2147483647, rfl, rfl, (show (0 : Int) < 2147483647 by decide), ?_⟩⟩⟩
    exact ⟨_, _, rfl, rfl, Int.emod_nonneg _ (by decide), Int.emod_lt_of_pos _ (by decide)⟩
  · rintro σ H2 ⟨st, y, rfl, rfl, h0, h1⟩
    refine ⟨_, rfl, .ref s, rfl, s, _, rfl, .inl hS, fun l nl => ⟨(by show 3 ≤ sizeLine; decide), fun a na => q _ a l ?_ ⟨st, 0, ns, upd_same, ?_, h0, h1, hl, hb⟩⟩⟩
    · exact ((Same.refl _).put nl).put' na
    · rw [upd_ne (ne_of_none upd_same na), upd_same]
def sp_next : Sp := fun vs H Q _ => ∃ (a l : Addr) (n : Int), vs = [.ref a, .int n] ∧ RS H a l ∧ 0 < n ∧ n.natAbs.log2 < 9000 ∧ ∀ H' r, Kp a l H H' → 0 ≤ r → r < n → Q (.int r) H'
theorem ok_next {f : Addr} {fd : FuncData} (F : Fun K "_law_next" "_law_next" s__law_next f fd) (B : Blt mg) : FnOk P w K mg base CX0 1 f fd ["_law_h", "_law_limit"] sp_next := by
  refine F.ok sc__law_next (fun vs H Q E h => by obtain ⟨a, l, n, rfl, _⟩ := h; rfl) (fun cdv A outer s H vs Q E hr h => ?_)
  obtain ⟨a, l, n, rfl, hR, n0, n9, q⟩ := h
  refine ⟨_, (pss_cons (ps_set (i := 2) sc__law_next.nd rfl (Or.inl rfl) (pe_ix ix_list (pe_op op_cat (pe_ix ix_list (pv 0) pe_int (fun _ _ => rfl)) (pe_lst (pa_cons pe_int pa_nil))) (pe_op op_mod (pe_callTy call_int1 (by rfl) B.b_int PyProof.Rows.boot_int (pa_cons (pe_ix ix_list (pv 0) pe_int (fun _ _ => rfl)) pa_nil)) (pe_callB (call_max2 rfl) (by rfl) B.b_max PyProof.Rows.boot_max (pa_cons pe_int (pa_cons (pe_callB call_len_seq (by rfl) B.b_len PySem.boot_len (pa_cons (pe_ix ix_list (pv 0) pe_int (fun _ _ => rfl)) pa_nil)) pa_nil)))) (fun _ _ => rfl)))
      (pss_cons (ps_if (pt_cmpR op_ge (pv 2) (pe_op op_pow pe_int pe_int) (nomark _)) (pss_cons (ps_asg (pe_op op_fdivW (pv 2) (pv 1)) (pg_sub (pe_ix ix_list (pv 0) pe_int (fun _ _ => rfl)) (pe_op op_mod (pe_callTy call_int1 (by rfl) B.b_int PyProof.Rows.boot_int (pa_cons (pe_ix ix_list (pv 0) pe_int (fun _ _ => rfl)) pa_nil)) (pe_callB call_len_seq (by rfl) B.b_len PySem.boot_len (pa_cons (pe_ix ix_list (pv 0) pe_int (fun _ _ => rfl)) pa_nil))) set_list))
      (pss_one (ps_ret (pe_op op_mod (pe_callTy call_int1 (by rfl) B.b_int PyProof.Rows.boot_int (pa_cons (pv 2) pa_nil)) (pv 1))))) pss_nil)
      (pss_cons (ps_asg (pe_op op_mod (pe_callTy call_int1 (by rfl) B.b_int PyProof.Rows.boot_int (pa_cons (pe_op op_add (pe_op op_add (pe_op op_mul (pe_ix ix_list (pv 0) pe_int (fun _ _ => rfl)) pe_int) (pe_op op_mulX (pv 2) pe_int)) pe_int) pa_nil)) pe_int) (pg_sub (pv 0) pe_int set_list))
      (pss_cons (ps_asg (pe_op op_add (pe_ix ix_list (pv 0) pe_int (fun _ _ => rfl)) pe_int) (pg_sub (pv 0) pe_int set_list))
      (pss_one (ps_ret (pe_op op_mod (pe_callTy call_int1 (by rfl) B.b_int PyProof.Rows.boot_int (pa_cons (pe_op op_fdiv (pe_ix ix_list (pv 0) pe_int (fun _ _ => rfl)) pe_int) pa_nil)) (pv 1)))))))), ?_⟩
  obtain ⟨st, k, ns, ha, hl, s0, s1, hlen, hb⟩ := id hR
  have nal := hR.ne
  have hm0 : 0 < (if ((ns.map V.int).length : Int) > 1 then ((ns.map V.int).length : Int) else 1) := by
    split <;> omega
  have hmx : (if ((ns.map V.int).length : Int) > 1 then ((ns.map V.int).length : Int) else 1) ≤ ns.length + 1 := by
    rw [List.length_map]
    split <;> omega
  have hcell : ∃ (j : Nat) (c : Int), k % (if ((ns.map V.int).length : Int) > 1 then ((ns.map V.int).length : Int) else 1) = j ∧ (ns.map V.int ++ [V.int 0])[j]? = some (.int c) ∧ (10 ^ 18 ≤ c → j < ns.length ∧ ns[j]? = some c ∧ k % (ns.length : Int) = j) ∧ Builtin.Int.intBits c ≤ 1048576 := by
    have r0 := Int.emod_nonneg k (Int.ne_of_gt hm0)
    have r1 := Int.emod_lt_of_pos k hm0
    obtain ⟨j, ej⟩ := Int.eq_ofNat_of_zero_le r0
    have ej : k % (if ((ns.map V.int).length : Int) > 1 then ((ns.map V.int).length : Int) else 1) = (j : Int) := ej
    by_cases hj : j < ns.length
    · refine ⟨j, ns[j], ej, ?_, fun _ => ⟨hj, List.getElem?_eq_getElem hj, ?_⟩, hb _ (List.getElem_mem hj)⟩
      · rw [List.getElem?_append_left (by rw [List.length_map]; exact hj), List.getElem?_map, List.getElem?_eq_getElem hj]
        rfl
      · rw [← ej, List.length_map]
        by_cases h1 : (ns.length : Int) > 1
        · rw [if_pos h1]
        · rw [if_neg h1]
          have e1 : (ns.length : Int) = 1 := by omega
          rw [e1]
    · have ejn : j = ns.length := by omega
      refine ⟨j, 0, ej, ?_, fun z => absurd z (by decide), by decide⟩
      rw [List.getElem?_append_right (by rw [List.length_map]; omega), List.length_map, ejn, Nat.sub_self]
      rfl
  obtain ⟨j, c, ej, gc, big, hc⟩ := hcell
  refine ⟨.ref a, rfl, a, _, 1, .ref l, rfl, rfl, sqL_of ha, atI_nat (j := 1) rfl, (by show 1 ≤ sizeLine; decide), fun p np => ?_⟩
  have npa := ne_of_none ha np
  have npl := ne_of_none hl np
  refine ⟨l, p, ns.map V.int, [.int 0], rfl, rfl, by rw [upd_ne npl]; exact hl, upd_same, by rw [List.length_map, sizeLine_eq]; show ns.length + 1 ≤ _; omega, fun p2 np2 => ?_⟩
  have np2' : H p2 = none := by
    cases e : H p2 with
    | none => rfl
    | some o => rw [upd_ne (ne_of_none e np)] at np2; rw [e] at np2; cases np2
  have s2 : Same H (upd (upd H p (.lst [.int 0])) p2 (.lst (ns.map V.int ++ [.int 0]))) := ((Same.refl H).put np).put np2'
  generalize hH2 : upd (upd H p (.lst [.int 0])) p2 (.lst (ns.map V.int ++ [.int 0])) = H2 at s2
  have hp2 : H2 p2 = some (.lst (ns.map V.int ++ [.int 0])) := by rw [← hH2, upd_same]
  have ha2 := s2 _ _ ha
  have hl2 := s2 _ _ hl
  refine ⟨.ref a, rfl, a, _, 2, .int k, rfl, rfl, sqL_of ha2, atI_nat (j := 2) rfl, .inl ⟨k, rfl, ?_⟩⟩
  refine ⟨.ref a, rfl, a, _, 1, .ref l, rfl, rfl, sqL_of ha2, atI_nat (j := 1) rfl, l, _, rfl, .inl (sqL_of hl2), 1, _, rfl, ?_⟩
  refine ⟨k, _, rfl, rfl, hm0, p2, _, _, .int c, rfl, rfl, sqL_of hp2, at_of ej gc, ?_⟩
  refine ⟨.int c, rfl, 10, 18, rfl, rfl, ⟨by decide, by decide, by decide⟩, c, 10 ^ 18, rfl, rfl, _, rfl, bcase (fun c1 => ?_) (fun c1 => ?_)⟩
  · have c1 : (10 : Int) ^ 18 ≤ c := of_decide_eq_true c1
    obtain ⟨hj, gj, ej2⟩ := big c1
    have hlp : 0 < (ns.length : Int) := by omega
    refine ⟨_, rfl, .int n, rfl, c, n, rfl, rfl, ⟨n0, n9⟩, .ref a, rfl, a, _, 1, .ref l, rfl, rfl, sqL_of ha2, atI_nat (j := 1) rfl, .ref a, rfl, a, _, 2, .int k, rfl, rfl, sqL_of ha2, atI_nat (j := 2) rfl, .inl ⟨k, rfl, ?_⟩⟩
    refine ⟨.ref a, rfl, a, _, 1, .ref l, rfl, rfl, sqL_of ha2, atI_nat (j := 1) rfl, l, _, rfl, .inl (sqL_of hl2), k, _, rfl, rfl, by rw [List.length_map]; exact hlp, l, _, _, j, rfl, rfl, hl2, ?_, ?_⟩
    · rw [List.length_map, ej2]
      unfold ixN
      rw [if_pos (by omega), if_pos (by omega)]
      rfl
    · refine ⟨.int c, rfl, .inl ⟨c, rfl, .int n, rfl, c, n, rfl, rfl, n0, q _ _ ⟨hR, ?_, fun b o n1 n2 e => ?_⟩ (Int.emod_nonneg _ (Int.ne_of_gt n0)) (Int.emod_lt_of_pos _ n0)⟩⟩
      · refine ⟨st, k, ns.set j (c / n), by rw [upd_ne nal]; exact ha2, by rw [upd_same, List.map_set], s0, s1, by rw [List.length_set]; exact hlen, fun z hz => ?_⟩
        rcases List.mem_or_eq_of_mem_set hz with h | h
        · exact hb z h
        · rw [h]
          exact Nat.le_trans (bits_div (by omega) n0) hc
      · rw [upd_ne n2]
        exact s2 b o e
  · refine ⟨.ref a, rfl, a, _, 0, .int st, rfl, rfl, sqL_of ha2, atI_nat (j := 0) rfl, st, 48271, rfl, rfl, .inl ⟨by omega, by omega⟩, .int c, rfl, c, 69621, rfl, rfl, ?_, _, _, rfl, rfl, _, 11, rfl, rfl, .inl ⟨_, rfl, _, 2147483647, rfl, rfl, (show (0 : Int) < 2147483647 by decide), .ref a, rfl, ?_⟩⟩
    · show (Builtin.Int.intBits c : Int) + (Builtin.Int.intBits 69621 : Int) ≤ 134217728
      have e1 : Builtin.Int.intBits 69621 ≤ 20 := small_bits (by decide)
      omega
    have z0 : 0 ≤ (st * 48271 + c * 69621 + 11) % 2147483647 := Int.emod_nonneg _ (by decide)
    have z1 : (st * 48271 + c * 69621 + 11) % 2147483647 < 2147483647 := Int.emod_lt_of_pos _ (by decide)
    refine ⟨a, _, 0, 0, rfl, rfl, ha2, rfl, ?_⟩
    refine ⟨.ref a, rfl, a, _, 2, .int k, rfl, rfl, sqL_of upd_same, atI_nat (j := 2) rfl, k, 1, rfl, rfl, .ref a, rfl, a, _, 2, 2, rfl, rfl, upd_same, rfl, ?_⟩
    refine ⟨.ref a, rfl, a, _, 0, .int ((st * 48271 + c * 69621 + 11) % 2147483647), rfl, rfl, sqL_of upd_same, atI_nat (j := 0) rfl, _, 7, rfl, rfl, ⟨by decide, by decide⟩, .inl ⟨_, rfl, .int n, rfl, _, n, rfl, rfl, n0, q _ _ ⟨hR, ?_, fun b o n1 n2 e => ?_⟩ (Int.emod_nonneg _ (Int.ne_of_gt n0)) (Int.emod_lt_of_pos _ n0)⟩⟩
    · exact ⟨_, k + 1, ns, upd_same, by rw [upd_ne nal.symm, upd_ne nal.symm]; exact hl2, z0, z1, hlen, hb⟩
    · rw [upd_ne n1, upd_ne n1]
      exact s2 b o e
theorem map_eraseIdx {α β : Type} {f : α → β} : ∀ (xs : List α) (j : Nat), (xs.map f).eraseIdx j = (xs.eraseIdx j).map f
  | [], _ => rfl
  | _ :: _, 0 => rfl
  | x :: r, j + 1 => by
    show f x :: (r.map f).eraseIdx j = f x :: (r.eraseIdx j).map f
    rw [map_eraseIdx r j]
/-- what stands at a value, read as data, at most n lists or tuples deep -/
inductive AD (H : Hp) : Nat → V → PyData → Prop where
  | non (n : Nat) : AD H n .non .none
  | bl (n : Nat) (b : Bool) : AD H n (.bl b) (.bool b)
  | int (n : Nat) (i : Int) : AD H n (.int i) (.int i)
  | str (n : Nat) (x : Str) : AD H n (.str x) (.str x)
  | lst {n : Nat} {a : Addr} {xs : List V} {ds : List PyData} (e : H a = some (.lst xs)) (l : xs.length = ds.length) (z : xs.length ≤ 1000000) (all : ∀ (i : Nat) (x : V) (d : PyData), xs[i]? = some x → ds[i]? = some d → AD H n x d) : AD H (n + 1) (.ref a) (.list ds)
  | tup {n : Nat} {a : Addr} {xs : List V} {ds : List PyData} (e : H a = some (.tup xs)) (l : xs.length = ds.length) (z : xs.length ≤ 1000000) (all : ∀ (i : Nat) (x : V) (d : PyData), xs[i]? = some x → ds[i]? = some d → AD H n x d) : AD H (n + 1) (.ref a) (.tuple ds)
theorem AD.same {n : Nat} {x : V} {d : PyData} (s : Same H H') (h : AD H n x d) : AD H' n x d := by
  induction h with
  | non n => exact .non n
  | bl n b => exact .bl n b
  | int n i => exact .int n i
  | str n x => exact .str n x
  | lst e l z all ih => exact .lst (s _ _ e) l z ih
  | tup e l z all ih => exact .tup (s _ _ e) l z ih
end
end Sc
namespace Sc
open PySem PySem.Spec PyProof.Rows L2
theorem strAt_inj {xs : List Str} {i : Nat} {x : Str} {v : V} (hx : xs[i]? = some x) (h : (xs.map V.str)[i]? = some v) : V.str x = v := by
  rw [List.getElem?_map, hx] at h
  exact Option.some.inj h
theorem find_none {n : Nat} {p : Nat → Bool} (h : ∀ j, j < n → p j = false) : (List.range n).find? p = none := by
  rw [List.find?_eq_none]
  intro j hj
  rw [h j (List.mem_range.mp hj)]
  exact Bool.false_ne_true
theorem find_at {n i : Nat} {p : Nat → Bool} (hi : i < n) (hp : p i = true) (h : ∀ j, j < i → p j = false) : (List.range n).find? p = some i := by
  rw [List.find?_range_eq_some]
  exact ⟨hp, List.mem_range.mpr hi, fun j hj => by rw [h j hj]; rfl⟩
/-- names that texts of a program may have -/
def Txts (xs : List Str) : Prop := ∀ x ∈ xs, x.length ≤ 1000
def errIx (C : Addr) (i : Nat) (H : Hp) (E : XK) : Prop := ∀ H' d, Same H H' → H' d = none → E (.ref C) (some d) (upd H' d (.xd [(("index" : Str), .int i)]))
theorem flat_strs : ∀ xs : List Str, (xs.map V.str).all flatV = true
  | [] => rfl
  | _ :: r => flat_strs r
theorem inV_str {x : Str} : ∀ xs : List Str, inV (.str x) (xs.map V.str) = decide (x ∈ xs)
  | [] => rfl
  | y :: r => by
    show (eqV (.str y) (.str x) || inV (.str x) (r.map V.str)) = _
    rw [inV_str r]
    show ((y == x) || _) = _
    by_cases h : y = x
    · subst h
      simp
    · have e : (y == x) = false := by simpa using h
      rw [e, Bool.false_or]
      simp [List.mem_cons, show ¬ x = y from fun z => h z.symm]
end Sc
namespace Sc
open PySem PySem.Spec PyProof.Rows L2
/-! ### conditions -/
theorem sc_check_part : FnScope ["part", "names", "before", "index", "name", "wrong"] ["part", "names", "before"] (defScope s_check_part) := ⟨rfl, rfl, rfl, by decide +kernel, rfl, by decide +kernel, by decide +kernel⟩
theorem sc_merged : FnScope ["names", "others", "name"] ["names", "others"] (defScope s_merged) := ⟨rfl, rfl, rfl, by decide +kernel, rfl, by decide +kernel, by decide +kernel⟩
theorem filter1 {α : Type} (p : α → Bool) (y : α) : List.filter p [y] = if p y = true then [y] else [] := by cases h : p y <;> simp [List.filter, h]
section
variable {P : Program} {w : World} {K : PySem.W.Frag} {mg : Str → Option Value} {base : Heap} {CC : Addr}
/-- the i-th name of a part is wrong; ys the part ahead of it -/
def wrongAt (xs ys : List Str) (i : Nat) : Bool := match xs[i]? with
  | some x => (!isName x || !risesAt xs i) || (decide (8 ≤ ys.length + i) || decide (x ∈ ys))
  | none => false
def firstWrong (xs ys : List Str) : Option Nat := (List.range xs.length).find? (wrongAt xs ys)
def errPI (C : Addr) (part : Int) (i : Nat) (H : Hp) (E : XK) : Prop := ∀ H' d, Same H H' → H' d = none → E (.ref C) (some d) (upd H' d (.xd [(("index" : Str), .int i), (("part" : Str), .int part)]))
def sp_check_part (K : PySem.W.Frag) (C : Addr) : Sp := fun vs H Q E => ∃ (part : Nat) (a b : Addr) (xs ys : List Str), vs = [.int part, .ref a, .ref b] ∧ part ≤ 1 ∧ SqT K H a (xs.map V.str) ∧ SqT K H b (ys.map V.str) ∧ Txts xs ∧ xs.length ≤ 1000 ∧ ys.length ≤ 1000 ∧
  (firstWrong xs ys = none → ∀ H', Same H H' → Q .non H') ∧ (∀ i, firstWrong xs ys = some i → errPI C part i H E)
theorem ok_check_part {f : Addr} {fd : FuncData} (F : Fun K "check_part" "check_part" s_check_part f fd) (B : Blt mg) (mM : ∃ t, mg "MOST_NAMES" = some (.int 8 t))
    (e_InvalidCondition : ErrMk P w K mg base "InvalidCondition" CC ["self", "part", "index"] (sp_init2 CC "part" "index")) (c_is_name : Cal P w K mg base CX0 1 "is_name" ["value"] sp_is_name) (c_rises : Cal P w K mg base CX0 1 "rises" ["names", "index"] (sp_rises K)) :
    FnOk P w K mg base (L2.CX P w) 3 f fd ["part", "names", "before"] (sp_check_part K CC) := by
  obtain ⟨t1, mM⟩ := mM
  refine F.okX sc_check_part (fun vs H Q E h => by obtain ⟨part, a, b, xs, ys, rfl, _⟩ := h; rfl) (fun cdv A outer s H vs Q E hr h => ?_)
  obtain ⟨part, a, b, xs, ys, rfl, hp, hS, hY, hT, hl, hly, q, e⟩ := h
  refine ⟨_, (pss_one (ps_for (passes_of rfl) rfl (pi_enumT (by rfl) B.b_enumerate (pa_cons (pv 1) pa_nil)) (pg_tup (by rfl) (pgs_cons (pg_name (i := 3) sc_check_part.nd rfl (Or.inl rfl)) (pgs_cons (pg_name (i := 4) sc_check_part.nd rfl (Or.inl rfl)) pgs_nil))) (pss_cons (ps_set (i := 5) sc_check_part.nd rfl (Or.inl rfl) (pe_or (pe_not (pe_cal c_is_name (hr.mono (by decide)) (pa_cons (pv 4) pa_nil))) (pe_one (pe_not (pe_cal c_rises (hr.mono (by decide)) (pa_cons (pv 1) (pa_cons (pv 3) pa_nil)))))))
      (pss_one (ps_if (PW.pt (pw_or (pt_val (pv 5)) (pw_or (pt_cmpR op_ge (pe_op op_add (pe_callB call_len_seq (by rfl) B.b_len PySem.boot_len (pa_cons (pv 2) pa_nil)) (pv 3)) (pe_glob (v := .int 8) rfl mM ⟨_, rfl⟩) (nomark _)) (pw_or1 (pt_cmpR op_in_seq (pv 4) (pv 2) rfl))))) (pss_one (ps_raise rfl (takes_of rfl rfl rfl rfl) (pmk_err2 e_InvalidCondition (hr.mono (by decide)) (pv 0) (pv 3)))) pss_nil))))), ?_⟩
  refine ⟨.ref a, rfl, a, _, rfl, hS, for_it walk_enumT (fun i σ H' => ∃ y1 y2 y3, σ = [some (.int part), some (.ref a), some (.ref b), y1, y2, y3] ∧ Same H H' ∧ ∀ j, j < i → wrongAt xs ys j = false)
    ⟨none, none, none, rfl, Same.refl H, fun j hj => absurd hj (Nat.not_lt_zero j)⟩ (fun i σ H' _ ⟨_, _, _, _, s, _⟩ => s.tup hS) ?_ ?_⟩
  · rintro i x σ H2 H3 hi ⟨y1, y2, y3, rfl, s, hb⟩ ⟨T, v1, v2, rfl, nT, rfl, h1, h2⟩
    obtain rfl : V.int (i : Nat) = v1 := Option.some.inj h1
    rw [List.length_map] at hi
    have hx : xs[i]? = some xs[i] := List.getElem?_eq_getElem hi
    obtain rfl : V.str xs[i] = v2 := strAt_inj hx h2
    have s3 : Same H (upd H2 T (.tup [.int (i : Nat), .str xs[i]])) := s.put' nT
    have rz : ∀ {H' : Hp}, wrongAt xs ys i = true → Same H H' → ∀ d, H' d = none → E (.ref CC) (some d) (upd H' d (.xd [(("index" : Str), .int (i : Nat)), (("part" : Str), .int part)])) := fun {H'} hp sH d nd => e i (find_at hi hp hb) H' d sH nd
    refine ⟨T, [.int (i : Nat), .str xs[i]], rfl, sqT_new, rfl, _, _, rfl, _, _, rfl, rfl, ?_⟩
    have ew : wrongAt xs ys i = ((!isName xs[i] || !risesAt xs i) || (decide (8 ≤ ys.length + i) || decide (xs[i] ∈ ys))) := by unfold wrongAt; rw [hx]
    have fk : FOk (.int part) ∧ FOk (.int (i : Nat)) := ⟨fok_nat (by omega), fok_nat (by omega)⟩
    refine ⟨_, rfl, xs[i], rfl, Nat.le_trans (hT _ (List.getElem_mem hi)) (by rw [sizeLine_eq]; decide), fun H4 s4 => ⟨_, rfl, _, rfl, bcase (fun c1 => ?_) (fun c1 => ?_)⟩⟩
    · exact ⟨_, rfl, _, rfl, iteT (iteT ⟨_, rfl, _, rfl, fk, rz (by rw [ew, c1, Bool.true_or, Bool.true_or]) (s3.trans s4)⟩)⟩
    · have s5 := s3.trans s4
      rw [c1, Bool.false_or] at ew
      refine ⟨.ref a, rfl, .int i, rfl, a, xs, i, rfl, s5.tup hS, hi, _, rfl, ?_⟩
      refine ⟨_, rfl, _, rfl, bcase (fun c2 => ?_) (fun c2 => ?_)⟩
      · exact iteT ⟨_, rfl, _, rfl, fk, rz (by rw [ew, c2, Bool.true_or]) s5⟩
      · rw [c2, Bool.false_or] at ew
        refine ⟨.ref b, rfl, b, _, rfl, .inr (s5.tup hY), .int i, rfl, _, i, rfl, rfl, _, 8, rfl, rfl, _, rfl, ?_⟩
        rw [List.length_map]
        by_cases h8 : 8 ≤ ys.length + i
        · rw [decide_eq_true (show (8 : Int) ≤ (ys.length : Int) + (i : Int) by omega)]
          exact iteT (iteT ⟨_, rfl, _, rfl, fk, rz (by rw [ew, decide_eq_true h8, Bool.true_or]) s5⟩)
        · rw [decide_eq_false (show ¬ (8 : Int) ≤ (ys.length : Int) + (i : Int) by omega)]
          rw [decide_eq_false h8, Bool.false_or] at ew
          refine iteF ⟨.str xs[i], rfl, .ref b, rfl, b, _, rfl, .inr (s5.tup hY), rfl, flat_strs ys, _, rfl, bcase (fun c3 => ?_) (fun c3 => ?_)⟩
          · have c3 : decide (xs[i] ∈ ys) = true := by rw [← inV_str]; exact c3
            exact ⟨_, rfl, _, rfl, fk, rz (by rw [ew, c3]) s5⟩
          · have c3 : decide (xs[i] ∈ ys) = false := by rw [← inV_str]; exact c3
            refine ⟨_, _, _, rfl, s5, fun j hj => ?_⟩
            by_cases hj2 : j < i
            · exact hb j hj2
            · have ej : j = i := by omega
              subst ej
              rw [ew, c3]
  · rintro σ H2 ⟨y1, y2, y3, rfl, s, hb⟩
    rw [List.length_map] at hb
    exact q (find_none hb) H2 s
def sp_merged (K : PySem.W.Frag) : Sp := fun vs H Q _ => ∃ (a b : Addr) (xs ys : List Str), vs = [.ref a, .ref b] ∧ SqT K H a (xs.map V.str) ∧ SqT K H b (ys.map V.str) ∧ xs.length + ys.length < 64 ∧
  ∀ H' p (zs : List Str), Same H H' → H' p = some (.tup (zs.map V.str)) → zs.Perm (xs ++ ys.filter fun y => !decide (y ∈ xs)) → sortedS zs = true → Q (.ref p) H'
theorem ok_merged {f : Addr} {fd : FuncData} (F : Fun K "merged" "merged" s_merged f fd) (B : Blt mg) : FnOk P w K mg base CX0 1 f fd ["names", "others"] (sp_merged K) := by
  refine F.ok sc_merged (fun vs H Q E h => by obtain ⟨a, b, xs, ys, rfl, _⟩ := h; rfl) (fun cdv A outer s H vs Q E hr h => ?_)
  obtain ⟨a, b, xs, ys, rfl, hS, hY, hl, q⟩ := h
  refine ⟨_, (pss_one (ps_ret (pe_callTy call_tuple_of (by rfl) B.b_tuple PyProof.Rows.boot_tuple (pa_cons (pe_callB cr_sortedS (by rfl) B.b_sorted (by decide +kernel) (pa_cons (pe_op op_cat (pe_callTy call_list_of (by rfl) B.b_list PyProof.Rows.boot_list (pa_cons (pv 0) pa_nil)) (pe_lc (own := [("name", 2)]) (g := gName 2) rfl sc_merged.nd (pi_tup (pv 1)) (blkOk_by (own := [("name", 2)]) (N := ["names", "others", "name"]) (sc := defScope s_merged) (by decide +kernel)) (fun _ _ _ _ _ => (pg_name (i := 2) sc_merged.nd rfl (Or.inl rfl))) (fun _ _ _ _ _ => (pts_.re (pts_one (pt_cmpR op_notIn_seq (pv 2) (pv 0) rfl)) (by first | (dsimp only [Cx.blk]; done) | exact rfl))) (fun _ _ _ _ _ => (pe_.re (pv 2) (by first | (dsimp only [Cx.blk]; done) | exact rfl))))) pa_nil)) pa_nil)))), ?_⟩
  have big : ∀ {m : Nat}, m ≤ 1000 → m ≤ sizeLine := fun {m} h => by rw [sizeLine_eq]; omega
  refine ⟨.ref a, rfl, a, _, rfl, .inr hS, fun l nl => ?_⟩
  have s1 := (Same.refl H).put (o := .lst (xs.map V.str)) nl
  have e1 : (upd H l (.lst (xs.map V.str))) l = some (.lst (xs.map V.str)) := upd_same
  generalize upd H l (.lst (xs.map V.str)) = H1 at s1 e1 ⊢
  refine ⟨.ref b, rfl, b, rfl, ⟨_, s1.tup hY⟩, fun D nD => lc_it walk_tup (fun i H' => Same H1 H' ∧ H' D = some (.lst (((ys.take i).filter fun y => !decide (y ∈ xs)).map V.str))) ⟨(Same.refl H1).put nD, upd_same⟩ (fun _ _ _ h => (s1.trans h.1).tup hY) ?_ ?_⟩
  · rintro i y H2 H3 hi ⟨s, e⟩ ⟨rfl, hy⟩
    rw [List.length_map] at hi
    have hx : ys[i]? = some ys[i] := List.getElem?_eq_getElem hi
    obtain rfl : V.str ys[i] = y := strAt_inj hx hy
    refine ⟨rfl, .str ys[i], rfl, .ref a, rfl, a, _, rfl, .inr ((s1.trans s).tup hS), rfl, flat_strs xs, _, rfl, bcase (fun c1 => ?_) (fun c1 => ?_)⟩
    · have c1 : (!decide (ys[i] ∈ xs)) = true := by rw [← inV_str]; exact c1
      refine ⟨_, rfl, grow (acc := fun i => ((ys.take i).filter fun y => !decide (y ∈ xs)).map V.str) nD s e ?_ ?_⟩
      · rw [List.length_map]
        refine small1000 (Nat.le_trans (List.length_filter_le _ _) ?_)
        rw [List.length_take]
        omega
      · show List.map V.str _ = _
        rw [take_more hx, List.filter_append, List.map_append, filter1, if_pos c1]
        rfl
    · have c1 : (!decide (ys[i] ∈ xs)) = false := by rw [← inV_str]; exact c1
      refine ⟨s, ?_⟩
      rw [take_more hx, List.filter_append, filter1, if_neg (by rw [c1]; exact Bool.false_ne_true), List.append_nil]
      exact e
  · rintro H2 ⟨s, e⟩
    rw [List.length_map, List.take_length] at e
    have hfl := List.length_filter_le (fun y => !decide (y ∈ xs)) ys
    refine ⟨l, D, _, _, rfl, rfl, s _ _ e1, e, big (by rw [List.length_map, List.length_map]; omega), fun p np => ?_⟩
    have s2 := (s1.trans s).put' (o := .lst (xs.map V.str ++ (ys.filter fun y => !decide (y ∈ xs)).map V.str)) np
    refine ⟨p, xs ++ ys.filter fun y => !decide (y ∈ xs), rfl, ?_, ?_, fun zs p2 hp hs np2 => ?_⟩
    · rw [List.map_append]
      exact sqL_new
    · rw [List.length_append]
      omega
    · refine ⟨p2, _, rfl, .inl ⟨sqL_new, fun p3 np3 => q _ p3 zs ((s2.put' np2).put' np3) upd_same hp hs⟩⟩
end
end Sc
namespace Sc
open PySem PySem.Spec PyProof.Rows L2
/-! ### an object Condition -/
theorem sc_Condition___init__ : FnScope ["self", "holding", "failing"] ["self", "holding", "failing"] (defScope s_Condition___init__) := ⟨rfl, rfl, rfl, by decide +kernel, rfl, by decide +kernel, by decide +kernel⟩
section
variable {P : Program} {w : World} {K : PySem.W.Frag} {mg : Str → Option Value} {base : Heap} {CC C : Addr}
theorem wrongs_none {xs ys : List Str} (h : firstWrong xs ys = none) (i : Nat) (hi : i < xs.length) : ((!isName xs[i] || !risesAt xs i) = false ∧ ¬ 8 ≤ ys.length + i) ∧ ¬ xs[i] ∈ ys := by
  unfold firstWrong at h
  rw [List.find?_eq_none] at h
  have h := (Bool.not_eq_true _).mp (h i (List.mem_range.mpr hi))
  unfold wrongAt at h
  rw [List.getElem?_eq_getElem hi] at h
  dsimp only at h
  rw [Bool.or_eq_false_iff, Bool.or_eq_false_iff (x := decide _)] at h
  exact ⟨⟨h.1, of_decide_eq_false h.2.1⟩, of_decide_eq_false h.2.2⟩
theorem fw_len {xs ys : List Str} (h : firstWrong xs ys = none) : xs.length = 0 ∨ ys.length + xs.length ≤ 8 := by
  by_cases e : xs.length = 0
  · exact .inl e
  · have := (wrongs_none h (xs.length - 1) (by omega)).1.2
    exact .inr (by omega)
theorem fw_out {xs ys : List Str} (h : firstWrong xs ys = none) : ∀ x ∈ xs, ¬ x ∈ ys := by
  intro x hx
  obtain ⟨i, hi, rfl⟩ := List.getElem_of_mem hx
  exact (wrongs_none h i hi).2
theorem filter_out {xs ys : List Str} (h : ∀ x ∈ xs, ¬ x ∈ ys) : xs.filter (fun x => !decide (x ∈ ys)) = xs := by
  rw [List.filter_eq_self]
  intro x hx
  rw [decide_eq_false (h x hx)]
  rfl
/-- all but the object at x stands -/
def SameX (x : Addr) (H H' : Hp) : Prop := ∀ b o, b ≠ x → H b = some o → H' b = some o
/-- the fields of a condition -/
def condF (a b n : Addr) : List (Str × V) := putF "_names" (.ref n) (putF "_failing" (.ref b) (putF "_holding" (.ref a) []))
def sp_cond_init (K : PySem.W.Frag) (C CC : Addr) : Sp := fun vs H Q E => ∃ (x dx a b : Addr) (xs ys : List Str), vs = [.ref x, .ref a, .ref b] ∧ H x = some (.ins C dx []) ∧ SqT K H a (xs.map V.str) ∧ SqT K H b (ys.map V.str) ∧ Txts xs ∧ Txts ys ∧ xs.length ≤ 1000 ∧ ys.length ≤ 1000 ∧
  (∀ i, firstWrong xs [] = some i → errPI CC ((0 : Nat) : Int) i H E) ∧ (firstWrong xs [] = none → (∀ i, firstWrong ys xs = some i → errPI CC ((1 : Nat) : Int) i H E) ∧
  (firstWrong ys xs = none → ∀ H' n zs, SameX x H H' → H' x = some (.ins C dx (condF a b n)) → H' n = some (.tup (zs.map V.str)) → zs.Perm (xs ++ ys) → sortedS zs = true → Q .non H'))
theorem sqT_upd {H : Hp} {x dx a' : Addr} {fs : List (Str × V)} {o : HO} {vs : List V} (hx : H x = some (.ins C dx fs)) (h : SqT K H a' vs) : SqT K (upd H x o) a' vs := by
  rcases h with (h | ⟨ob, h⟩) | h
  · have ne : a' ≠ x := fun e => by rw [e, hx] at h; cases h
    exact .inl (.inl (by rw [upd_ne ne]; exact h))
  · have ne : a' ≠ x := fun e => by rw [e, hx] at h; cases h
    exact .inl (.inr ⟨ob, by rw [upd_ne ne]; exact h⟩)
  · exact .inr h
theorem putF_len (f : Str) (v : V) : ∀ fs : List (Str × V), (putF f v fs).length ≤ fs.length + 1
  | [] => Nat.le_refl 1
  | (g, x) :: r => by
    unfold putF
    split
    · exact Nat.le_succ _
    · show (putF f v r).length + 1 ≤ r.length + 1 + 1
      exact Nat.succ_le_succ (putF_len f v r)
theorem ok_cond_init {f : Addr} {fd : FuncData} (F : Fun K "__init__" "Condition.__init__" s_Condition___init__ f fd) (B : Blt mg) (T : Cls K C) (n1 : NoAttr K C "_holding") (n2 : NoAttr K C "_failing") (n3 : NoAttr K C "_names")
    (c_check_part : Cal P w K mg base (L2.CX P w) 3 "check_part" ["part", "names", "before"] (sp_check_part K CC)) (c_merged : Cal P w K mg base CX0 1 "merged" ["names", "others"] (sp_merged K)) :
    FnOk P w K mg base (L2.CX P w) 4 f fd ["self", "holding", "failing"] (sp_cond_init K C CC) := by
  refine F.okX sc_Condition___init__ (fun vs H Q E h => by obtain ⟨x, dx, a, b, xs, ys, rfl, _⟩ := h; rfl) (fun cdv A outer s H vs Q E hr h => ?_)
  obtain ⟨x, dx, a, b, xs, ys, rfl, hx, hA, hB, tA, tB, lA, lB, e0, q⟩ := h
  refine ⟨_, (pss_cons (ps_expr (pe_calX c_check_part (hr.mono (by decide)) (takes_of rfl rfl rfl rfl) (pa_cons pe_int (pa_cons (pv 1) (pa_cons (pe_tup pa_nil) pa_nil)))))
      (pss_cons (ps_expr (pe_calX c_check_part (hr.mono (by decide)) (takes_of rfl rfl rfl rfl) (pa_cons pe_int (pa_cons (pv 2) (pa_cons (pv 1) pa_nil)))))
      (pss_cons (ps_fld (pv 0) (pv 1) rfl)
      (pss_cons (ps_fld (pv 0) (pv 2) rfl)
      (pss_one (ps_fld (pv 0) (pe_cal c_merged (hr.mono (by decide)) (pa_cons (pv 1) (pa_cons (pv 2) pa_nil))) rfl)))))), ?_⟩
  refine ⟨.ref a, rfl, Nat.zero_le _, fun t nt => ⟨0, a, t, xs, [], rfl, by decide, ((Same.refl H).put nt).tup hA, sqT_new, tA, lA, by decide, fun e1 H1 s1 => ?_, fun i ei H' d sH nd => e0 i ei H' d (((Same.refl H).put nt).trans sH) nd⟩⟩
  obtain ⟨e1', q⟩ := q e1
  have s1 := ((Same.refl H).put nt).trans s1
  refine ⟨.ref b, rfl, .ref a, rfl, 1, b, a, ys, xs, rfl, by decide, s1.tup hB, s1.tup hA, tB, lB, lA, fun e2 H2 s2 => ?_, fun i ei H' d sH nd => e1' i ei H' d (s1.trans sH) nd⟩
  have s2 := s1.trans s2
  have q := q e2
  have hlen : xs.length + ys.length < 64 := by
    have h1 := fw_len e1
    have h2 := fw_len e2
    simp only [List.length_nil] at h1
    omega
  have hx2 := s2 _ _ hx
  refine ⟨.ref a, rfl, .ref x, rfl, x, C, dx, [], rfl, hx2, T, n1, by decide, ?_⟩
  refine ⟨.ref b, rfl, .ref x, rfl, x, C, dx, _, rfl, upd_same, T, n2, Nat.lt_of_le_of_lt (putF_len _ _ _) (by decide), ?_⟩
  refine ⟨.ref a, rfl, .ref b, rfl, a, b, xs, ys, rfl, ?_, ?_, hlen, fun H' p zs sH ep hperm hsort => ?_⟩
  · exact sqT_upd upd_same (sqT_upd hx2 (s2.tup hA))
  · exact sqT_upd upd_same (sqT_upd hx2 (s2.tup hB))
  · rw [filter_out (fw_out e2)] at hperm
    refine ⟨.ref x, rfl, x, C, dx, _, rfl, sH _ _ upd_same, T, n3, Nat.lt_of_le_of_lt (putF_len _ _ _) (Nat.lt_of_le_of_lt (Nat.succ_le_succ (putF_len _ _ _)) (by decide)), q _ p zs (fun b' o ne hb => ?_) upd_same ?_ hperm hsort⟩
    · rw [upd_ne ne]
      refine sH _ _ ?_
      rw [upd_ne ne, upd_ne ne]
      exact s2 _ _ hb
    · have ne : p ≠ x := fun e => by
        have h2 := sH _ _ (upd_same (H := upd H2 x (.ins C dx (putF "_holding" (.ref a) []))) (a := x) (o := .ins C dx (putF "_failing" (.ref b) (putF "_holding" (.ref a) []))))
        rw [e, h2] at ep
        cases ep
      rw [upd_ne ne]
      exact ep
end
end Sc
namespace Sc
open PySem PySem.Spec PyProof.Rows L2
/-- len(o), o an object whose class has its own __len__ -/
def rLenO (C : Addr) (sp : Sp) : List V → Hp → VK → Prop := fun xs H Q => ∃ (a dx : Addr) (fs : List (Str × V)), xs = [.ref a] ∧ H a = some (.ins C dx fs) ∧ sp [.ref a] H (fun v H' => ∃ n : Nat, v = .int n ∧ n < 2 ^ 62 ∧ Q (.int n) H') (fun _ _ _ => False)
theorem call_lenO {X : Cx} {C g : Addr} {k : Nat} {fd : FuncData} {ps : List Str} {sp : Sp} (at_ : PySem.W.findIn X.K (.ref C) "__len__" = some (some (.ref g))) (ty : PySem.W.typeIn X.K (.ref g) = some (.type "function"))
    (F : FnOk X.prog X.w X.K X.mg X.base CX0 k g fd ps sp) (hr : Room (k + 1) X.A) (hb : Binds X.K fd ps []) : CallR X (.builtin "len") (rLenO C sp) := by
  intro pins s σ H xs us Q I r h
  obtain ⟨a, dx, fs, rfl, ea, h⟩ := h
  obtain ⟨u, rfl, ru⟩ := vals1 r
  obtain rfl : u = Value.ref a := ru
  obtain ⟨mA, O, _⟩ := ins_get I.hok ea
  obtain ⟨od, J, _⟩ := ObjM.look O
  have hl : ([Value.ref a] ++ ([] : List Value)).length = ps.length := F.len _ _ _ _ h
  refine Calls.call_function_entry kind_len plain_len entry_len (args_len1 (.ref a)) ?_
  unfold Builtin.len
  rw [show oneArg "len" { pos := [Value.ref a] } = pure (.ref a) from rfl, pure_bind]
  refine wpAny_bind (PySem.W.special_fn I.kIn J at_ ty (wpAny_call (codeAny_mono (F.run X.A.in1 X.stack s H ⟨[.ref a], []⟩ [.ref a] [.ref a] _ _ (Room.in1 hr) (Env0.in1 I.env0) (hb s [.ref a] I.kIn hl) (Paired.cons rfl .nil) h) fun res s' hq => ?_)))
  cases res with
  | error e => exact hq.elim
  | ok fl =>
    cases fl with
    | ret v =>
      obtain ⟨y, H', I', ry, n, rfl, hn, q⟩ := I.after hq
      obtain ⟨t, rfl⟩ := ry
      dsimp only
      have e62 : (2 : Nat) ^ 62 < 2 ^ 63 := by decide
      refine wpAny_bind (wpAny_holding (wpAny_pure (wpAny_bind (wpAny_letGo ?_))))
      have h1 : ¬ (n : Int) < 0 := by omega
      have h2 : ¬ (n : Int) ≥ 2 ^ 63 := by
        have : (n : Int) < 2 ^ 62 := by exact_mod_cast hn
        omega
      rw [if_neg h1, if_neg h2]
      exact wpAny_bind (wpAny_mkInt (wpAny_pure ⟨_, rfl, .int n, H', I'.tok _, ⟨_, rfl⟩, q⟩))
    | next => exact hq.elim
    | brk => exact hq.elim
    | cont => exact hq.elim
end Sc
namespace Sc
open PySem PySem.Spec PyProof.Rows L2
section
variable {P : Program} {w : World} {K : PySem.W.Frag} {mg : Str → Option Value} {base : Heap} {a l : Addr} {H H' H'' : Hp}
theorem wk_ss {X : Cx} {st : List Stmt} {t : TS} (t' : TS) (h : PSs X st t) (w : ∀ D σ H, t' D σ H → t D σ H) : PSs X st t' := ⟨fun pins s σ H D I x => h.run pins s σ H D I (w D σ H x)⟩
/-- a class whose objects a def of its own makes -/
structure Mkr (P : Program) (w : World) (K : PySem.W.Frag) (mg : Str → Option Value) (base : Heap) (k : Nat) (x : Str) (C : Addr) (ps : List Str) (sp : Sp) : Prop where
  ex : ∃ (f : Addr) (fd : FuncData), Mk K C f ∧ FnOk P w K mg base (L2.CX P w) k f fd ps sp ∧ mg x = some (.ref C) ∧ Binds K fd ps []
section
variable {X : Cx} {k : Nat} {x : Str} {C : Addr} {ps : List Str} {sp : Sp} {e : Expr} {es : List Expr} {t : TA} {p pos : Pos}
theorem pe_mkN (M : Mkr X.prog X.w X.K X.mg X.base k x C ps sp) (hr : Room (k + 1) X.A) (ha : PA X (e :: es) t) (hg : Gl X x := by rfl) (hdb : (x == ("__debug__" : Str)) = false := by decide)
    (he : starEach (e :: es) X.env = (false, eval e X.env) :: starEach es X.env := by rfl) (hpl : (backTo pos (starEach es X.env)).any (·.1) = false := by rfl) : PE X (.Call (.Name x p) (e :: es) [] pos) (tMake C sp [] E0 t) := by
  obtain ⟨f, fd, hk, F, hm, hb⟩ := M.ex
  exact pe_make hk F hr hg hm hb .nil passL ha hdb he hpl
theorem pe_mkX {E : XK} (M : Mkr X.prog X.w X.K X.mg X.base k x C ps sp) (hr : Room (k + 1) X.A) (tk : Takes X (fun cls d _ H => E cls d H)) (ha : PA X (e :: es) t) (hg : Gl X x := by rfl) (hdb : (x == ("__debug__" : Str)) = false := by decide)
    (he : starEach (e :: es) X.env = (false, eval e X.env) :: starEach es X.env := by rfl) (hpl : (backTo pos (starEach es X.env)).any (·.1) = false := by rfl) : PE X (.Call (.Name x p) (e :: es) [] pos) (tMake C sp [] E t) := by
  obtain ⟨f, fd, hk, F, hm, hb⟩ := M.ex
  exact pe_make hk F hr hg hm hb .nil (fun pins σ H s e s' I h => passAt tk σ pins H s e s' I h) ha hdb he hpl
end
def sp_prop (C : Addr) (n : Str) : Sp := fun vs H Q _ => ∃ (x dx : Addr) (fs : List (Str × V)) (v : V), vs = [.ref x] ∧ H x = some (.ins C dx fs) ∧ fs.lookup n = some v ∧ Q v H
def sp_len (K : PySem.W.Frag) (C : Addr) : Sp := fun vs H Q _ => ∃ (x dx n : Addr) (fs : List (Str × V)) (zs : List V), vs = [.ref x] ∧ H x = some (.ins C dx fs) ∧ fs.lookup ("_names" : Str) = some (.ref n) ∧ SqT K H n zs ∧ Q (.int zs.length) H
structure CondC (P : Program) (w : World) (K : PySem.W.Frag) (mg : Str → Option Value) (base : Heap) (C p1 g1 p2 g2 p3 g3 g4 : Addr) (fd1 fd2 fd3 fd4 : FuncData) : Prop where
  cls : Cls K C
  p_holding : PropOf K C "holding" p1 g1 ∧ FnOk P w K mg base CX0 1 g1 fd1 ["self"] (sp_prop C "_holding") ∧ Binds K fd1 ["self"] []
  p_failing : PropOf K C "failing" p2 g2 ∧ FnOk P w K mg base CX0 1 g2 fd2 ["self"] (sp_prop C "_failing") ∧ Binds K fd2 ["self"] []
  p_names : PropOf K C "names" p3 g3 ∧ FnOk P w K mg base CX0 1 g3 fd3 ["self"] (sp_prop C "_names") ∧ Binds K fd3 ["self"] []
  lenAt : PySem.W.findIn K (.ref C) "__len__" = some (some (.ref g4))
  lenTy : PySem.W.typeIn K (.ref g4) = some (.type "function")
  lenF : FnOk P w K mg base CX0 1 g4 fd4 ["self"] (sp_len K C)
  lenB : Binds K fd4 ["self"] []
end
end Sc
namespace Sc
open PySem PySem.Spec PyProof.Rows L2
theorem sc_Condition_holding : FnScope ["self"] ["self"] (defScope s_Condition_holding) := ⟨rfl, rfl, rfl, by decide +kernel, rfl, by decide +kernel, by decide +kernel⟩
theorem sc_Condition_failing : FnScope ["self"] ["self"] (defScope s_Condition_failing) := ⟨rfl, rfl, rfl, by decide +kernel, rfl, by decide +kernel, by decide +kernel⟩
theorem sc_Condition_names : FnScope ["self"] ["self"] (defScope s_Condition_names) := ⟨rfl, rfl, rfl, by decide +kernel, rfl, by decide +kernel, by decide +kernel⟩
theorem sc_Condition___len__ : FnScope ["self"] ["self"] (defScope s_Condition___len__) := ⟨rfl, rfl, rfl, by decide +kernel, rfl, by decide +kernel, by decide +kernel⟩
section
variable {P : Program} {w : World} {K : PySem.W.Frag} {mg : Str → Option Value} {base : Heap} {C : Addr}
theorem ok_holding {f : Addr} {fd : FuncData} (F : Fun K "holding" "Condition.holding" s_Condition_holding f fd) (T : Cls K C) (n : NoAttr K C "_holding") : FnOk P w K mg base CX0 1 f fd ["self"] (sp_prop C "_holding") := by
  refine F.ok sc_Condition_holding (fun vs H Q E h => by obtain ⟨x, dx, fs, v, rfl, _⟩ := h; rfl) (fun cdv A outer s H vs Q E hr h => ?_)
  obtain ⟨x, dx, fs, v, rfl, hx, hl, q⟩ := h
  exact ⟨_, (pss_one (ps_ret (pe_fld (pv 0) rfl))), ⟨_, rfl, x, C, dx, fs, v, rfl, hx, T, n, hl, q⟩⟩
theorem ok_failing {f : Addr} {fd : FuncData} (F : Fun K "failing" "Condition.failing" s_Condition_failing f fd) (T : Cls K C) (n : NoAttr K C "_failing") : FnOk P w K mg base CX0 1 f fd ["self"] (sp_prop C "_failing") := by
  refine F.ok sc_Condition_failing (fun vs H Q E h => by obtain ⟨x, dx, fs, v, rfl, _⟩ := h; rfl) (fun cdv A outer s H vs Q E hr h => ?_)
  obtain ⟨x, dx, fs, v, rfl, hx, hl, q⟩ := h
  exact ⟨_, (pss_one (ps_ret (pe_fld (pv 0) rfl))), ⟨_, rfl, x, C, dx, fs, v, rfl, hx, T, n, hl, q⟩⟩
theorem ok_cnames {f : Addr} {fd : FuncData} (F : Fun K "names" "Condition.names" s_Condition_names f fd) (T : Cls K C) (n : NoAttr K C "_names") : FnOk P w K mg base CX0 1 f fd ["self"] (sp_prop C "_names") := by
  refine F.ok sc_Condition_names (fun vs H Q E h => by obtain ⟨x, dx, fs, v, rfl, _⟩ := h; rfl) (fun cdv A outer s H vs Q E hr h => ?_)
  obtain ⟨x, dx, fs, v, rfl, hx, hl, q⟩ := h
  exact ⟨_, (pss_one (ps_ret (pe_fld (pv 0) rfl))), ⟨_, rfl, x, C, dx, fs, v, rfl, hx, T, n, hl, q⟩⟩
theorem ok_clen {f : Addr} {fd : FuncData} (F : Fun K "__len__" "Condition.__len__" s_Condition___len__ f fd) (B : Blt mg) (T : Cls K C) (n : NoAttr K C "_names") : FnOk P w K mg base CX0 1 f fd ["self"] (sp_len K C) := by
  refine F.ok sc_Condition___len__ (fun vs H Q E h => by obtain ⟨x, dx, m, fs, zs, rfl, _⟩ := h; rfl) (fun cdv A outer s H vs Q E hr h => ?_)
  obtain ⟨x, dx, m, fs, zs, rfl, hx, hl, hz, q⟩ := h
  exact ⟨_, (pss_one (ps_ret (pe_callB call_len_seq (by rfl) B.b_len PySem.boot_len (pa_cons (pe_fld (pv 0) rfl) pa_nil)))), ⟨_, rfl, x, C, dx, fs, _, rfl, hx, T, n, hl, m, _, rfl, .inr hz, q⟩⟩
end
end Sc
namespace Sc
open PySem PySem.Spec PyProof.Rows L2
def SLe (a b : Str) : Prop := a.cps.toList ≤ b.cps.toList
theorem rising_pw : ∀ (x : Str) (r : List Str), risingS x r = true → (∀ y ∈ r, SLe x y) ∧ r.Pairwise SLe
  | _, [], _ => ⟨(fun _ h => nomatch h), List.Pairwise.nil⟩
  | x, y :: r, h => by
    have h : (!ltCps y.cps.toList x.cps.toList && risingS y r) = true := h
    rw [Bool.and_eq_true, ltCps_eq] at h
    obtain ⟨h1, h2⟩ := h
    obtain ⟨i1, i2⟩ := rising_pw y r h2
    have hxy : SLe x y := by
      have h1 : ¬ y.cps.toList < x.cps.toList := by simpa using h1
      exact h1
    refine ⟨fun z hz => ?_, List.pairwise_cons.mpr ⟨i1, i2⟩⟩
    rcases List.mem_cons.mp hz with rfl | h
    · exact hxy
    · exact List.le_trans hxy (i1 z h)
theorem sorted_pw : ∀ {r : List Str}, sortedS r = true → r.Pairwise SLe
  | [], _ => .nil
  | x :: r, h => List.pairwise_cons.mpr (rising_pw x r h)
theorem str_ext {a b : Str} (h : a.cps.toList = b.cps.toList) : a = b := by
  obtain ⟨x⟩ := a
  obtain ⟨y⟩ := b
  congr 1
  exact Array.toList_inj.mp h
theorem sorted_uniq {a b : List Str} (p : a.Perm b) (sa : sortedS a = true) (sb : sortedS b = true) : a = b :=
  List.Perm.eq_of_pairwise (le := SLe) (fun x y _ _ h1 h2 => str_ext (List.le_antisymm h1 h2)) (sorted_pw sa) (sorted_pw sb) p
end Sc
namespace OwnX
open PySem PySem.Spec PyProof.Rows PySem.W
section
variable {prog : Program} {w : World} {M : Model} {A : Around} {E : Value → Shared → Prop} {s : Shared} {K : Frag} {x C L f : Addr} {h₀ : Heap} {m : Str → Option Value} {ox : Obj} {od : Option Obj}
/-- x op b, both of the class at C -/
theorem bin_same {op : Operator} {b : Value} {Q : Value → Shared → Prop} (X : K.In s.heap) (I : InstAt s.heap x ox C od) (hb : Looks (model prog w) s.heap (typeOf b) (.ref C)) (hc : selfFirst K C = true)
    (hs : findIn K (.ref C) (PySem.dunder op.info.2) = some (some (.ref f))) (hf : isFn K (.ref f) = true)
    (h : wpAny (model prog w) A (call (.ref f) [.ref x, b]) (PySem.W.CmpBack Q) E s) : wpAny (model prog w) A (binaryOp op (.ref x) b) Q E s := by
  obtain ⟨cd, rest, hcd, hm⟩ := ksp_first hc
  rcases hi : op.info with ⟨sym, nm'⟩
  rw [hi] at hs
  dsimp only at hs
  have one := ksp_try X I hs hf h
  obtain ⟨hh, g, d, tt, os⟩ := s
  have L1 : Looks (model prog w) hh (typeOf (.ref x)) (.ref C) := I.type
  have L3 : Looks (model prog w) hh (fillsNumberSlot (.ref C) nm') true := fills_K X hcd hm hs
  simp only [binaryOp, hi]
  refine wpAny_holding (wpAny_bind ?_)
  unfold binaryOp1
  refine wpAny_bind (L1.at (wpAny_bind (hb.at (wpAny_bind (L3.at ?_)))))
  have e : (Value.ref C == Value.ref C) = true := beq_self_eq_true _
  simp only [e, if_true]
  ksp_lk
  refine wpAny_mono one (fun r s' hr' => ?_) fun _ _ e => e
  obtain ⟨v, rfl, hq⟩ := hr'
  ksp_lk
  exact hq
theorem ifBound_ne {args : List Value} {Q : Option Value → Shared → Prop} (X : K.In s.heap) (I : InstAt s.heap x ox C od) (hs : findIn K (.ref C) "__ne__" = some (some (.builtin "object.__ne__")))
    (h : wpAny M A (call (.builtin "object.__ne__") (.ref x :: args)) (fun v => Q (some v)) E s) : wpAny M A (callSpecialIfBound? (.ref x) "__ne__" args) Q E s := by
  simp only [callSpecialIfBound?, bindSpecialIfBound?]
  refine wpAny_holding (wpAny_bind (wpAny_bind (wpAny_bind (I.type.here ((looks_findIn X hs).here ?_)))))
  refine wpAny_bind (wpAny_askSetting (wpAny_ite ?_))
  have fin : wpAny M A (call (.builtin "object.__ne__") ([.ref x] ++ args) >>= fun v => pure (some v)) Q E s := wpAny_bind (wpAny_mono h (fun v s' h' => wpAny_pure h') fun _ _ h' => h')
  split
  · exact wpAny_bind (wpAny_of_eq (F.cmp_object.ne.bind _) (wpAny_pure (by exact fin)))
  · exact wpAny_tryCatch (wpAny_bind (wpAny_of_eq (F.cmp_object.ne.bind _) (wpAny_pure (by exact fin))))
theorem entry_ne {b : Value} {Q : Fin → Shared → Prop} (X : K.In s.heap) (I : InstAt s.heap x ox C od) (hs : findIn K (.ref C) "__eq__" = some (some (.ref f))) (hf : isFn K (.ref f) = true) (hu : A.units < cLine)
    (h : wpAny (model prog w) A (call (.ref f) [.ref x, b]) (fun v s' => ∃ b, v = .bool b ∧ Q (.done (.ret (.bool (!b)))) s') E s) : wpAny (model prog w) A (Builtin.«object.__ne__» ⟨[.ref x, b], []⟩) Q E s := by
  unfold Builtin.«object.__ne__»
  repeat (first
    | with_reducible refine wpAny_cRoomFor hu ?_
    | (refine wpAny_bind (m := callSpecialIfBound? (.ref x) (Str.ofString "__eq__") [b])
        (ifBound_K X I hs hf (wpAny_mono h (fun r s' hr => by
          obtain ⟨b, rfl, hq⟩ := hr
          repeat (first | exact hq | exact wpAny_pure hq | exact wpAny_truthy_bool hq | (refine wpAny_bind (m := truthy (.bool _)) (wpAny_truthy_bool ?_)) | wp_step)) fun _ _ e => e)))
    | wp_step)
theorem try_ne {b : Value} {Q : Option Value → Shared → Prop} (X : K.In s.heap) (I : InstAt s.heap x ox C od) (hm : mroIn K C (.type "object") = some true) (hn : findIn K (.ref C) "__ne__" = some (some (.builtin "object.__ne__")))
    (hs : findIn K (.ref C) "__eq__" = some (some (.ref f))) (hf : isFn K (.ref f) = true) (hu : A.units + 1 < cLine)
    (h : wpAny (model prog w) A.in1 (call (.ref f) [.ref x, b]) (fun v s' => ∃ b, v = .bool b ∧ Q (some (.bool (!b))) s') E s) : wpAny (model prog w) A (tryCompare (.ref x) "__ne__" b) Q E s := by
  unfold tryCompare
  refine wpAny_bind (ifBound_ne X I hn (wpAny_call (codeAny_call_builtin F.cmp_object.ne.plain F.cmpEntry_ne (check_slot F.cmpKind_ne F.cmpSplit_ne (I.type.andThen (looks_mroIn X hm)) (F.cmpArgs_ne _ _)
    (entry_ne (A := A.in1) X I hs hf hu (wpAny_mono h (fun v s' hv => ?_) fun _ _ e => e))))))
  obtain ⟨b, rfl, hq⟩ := hv
  first | exact ⟨b, rfl, wpAny_pure hq⟩ | exact ⟨b, rfl, wpAny_pure (wpAny_pure hq)⟩ | exact ⟨b, rfl, hq⟩
theorem ne_K {b tb : Value} {Q : Value → Shared → Prop} (hu : A.units + 1 < cLine) (X : K.In s.heap) (I : InstAt s.heap x ox C od) (hb : Looks (model prog w) s.heap (typeOf b) tb) (hnf : notFirst K C tb = true)
    (hm : mroIn K C (.type "object") = some true) (hn : findIn K (.ref C) "__ne__" = some (some (.builtin "object.__ne__"))) (hs : findIn K (.ref C) "__eq__" = some (some (.ref f))) (hf : isFn K (.ref f) = true)
    (h : wpAny (model prog w) A.in1 (call (.ref f) [.ref x, b]) (fun v s' => ∃ b, v = .bool b ∧ Q (.bool (!b)) s') E s) : wpAny (model prog w) A (richCompare .NotEq (.ref x) b) Q E s := by
  have one : wpAny (model prog w) A (tryCompare (.ref x) "__ne__" b) (fun r s' => ∃ v, r = some v ∧ Q v s') E s := try_ne X I hm hn hs hf hu (wpAny_mono h (fun v s' ⟨b, e, q⟩ => ⟨b, e, _, rfl, q⟩) fun _ _ e => e)
  unfold richCompare
  simp only [oneThing_ref]
  refine wpAny_holding (wpAny_bind (wpAny_cRoomFor (Nat.lt_of_succ_lt hu) ?_))
  rw [cmpInfo_NotEq]
  dsimp only
  refine wpAny_bind (I.type.here (wpAny_bind (hb.here ?_)))
  split
  · rename_i q
    have e : subIn K tb (.ref C) = some false := by
      rcases Bool.or_eq_true_iff.mp hnf with e | e
      · rw [beq_iff_eq.mp e] at q; simp at q
      · exact beq_iff_eq.mp e
    refine wpAny_bind ((looks_subIn X e).here ?_)
    simp only [Bool.false_eq_true, if_false]
    refine wpAny_bind (wpAny_mono one (fun r s' z => ?_) fun _ _ e => e)
    obtain ⟨v, rfl, hq⟩ := z
    exact wpAny_pure hq
  · refine wpAny_bind (wpAny_pure ?_)
    simp only [Bool.false_eq_true, if_false]
    refine wpAny_bind (wpAny_mono one (fun r s' z => ?_) fun _ _ e => e)
    obtain ⟨v, rfl, hq⟩ := z
    exact wpAny_pure hq
end
end OwnX
namespace Sc
open PySem PySem.Spec PyProof.Rows L2
/-- a value's type, as comparisons ask for it -/
inductive TyR (K : PySem.W.Frag) (H : Hp) : V → Value → Prop where
  | non : TyR K H .non (.type "NoneType")
  | int (i : Int) : TyR K H (.int i) (.type "int")
  | str (x : Str) : TyR K H (.str x) (.type "str")
  | lst {a : Addr} {xs : List V} (e : SqL K H a xs) : TyR K H (.ref a) (.type "list")
  | tup {a : Addr} {xs : List V} (e : SqT K H a xs) : TyR K H (.ref a) (.type "tuple")
  | ins {a C dx : Addr} {fs : List (Str × V)} (e : H a = some (.ins C dx fs)) : TyR K H (.ref a) (.ref C)
section
variable {X : Cx} {CX : CXT} {C g : Addr} {k : Nat} {fd : FuncData} {ps : List Str} {sp : Sp} {E : XK}
theorem TyR.looks {pins : List (Addr × Obj)} {σ : L2.St} {H : Hp} {s : Shared} {y : V} {t u : Value} (I : Inv X pins σ H s) (h : TyR X.K H y t) (r : RelV y u) {prog : Program} {w : World} : PySem.W.Looks (model prog w) s.heap (typeOf u) t := by
  cases h with
  | non => cases r; exact PySem.W.Looks.of_pure rfl
  | int i => obtain ⟨t, rfl⟩ := r; exact PySem.W.Looks.of_pure rfl
  | str i => obtain ⟨t, rfl⟩ := r; exact PySem.W.Looks.of_pure rfl
  | lst e =>
    cases r
    obtain ⟨its, _, ⟨o, n, ho, hc, _⟩, _⟩ := I.list e
    exact fun A Q E s k q => wpAny_typeOf_ref (k _ _ ho) (by rw [hc]; exact q)
  | tup e =>
    cases r
    obtain ⟨its, _, ⟨o, ho, hc, _⟩, _⟩ := I.tuple e
    exact fun A Q E s k q => wpAny_typeOf_ref (k _ _ ho) (by rw [hc]; exact q)
  | ins e =>
    cases r
    obtain ⟨mA, O, _⟩ := ins_get I.hok e
    obtain ⟨od, J, _⟩ := O.look
    exact J.type
/-- x == y, x of the class at C with its own __eq__ at g -/
def rEqO (K : PySem.W.Frag) (C : Addr) (sp : Sp) (E : XK) : R2 := fun x y H Q => ∃ (a dx : Addr) (fs : List (Str × V)) (tb : Value), x = .ref a ∧ H a = some (.ins C dx fs) ∧ TyR K H y tb ∧ PySem.W.notFirst K C tb = true ∧ sp [x, y] H Q E
theorem op_eqO (hs : PySem.W.findIn X.K (.ref C) "__eq__" = some (some (.ref g))) (hf : PySem.W.isFn X.K (.ref g) = true) (F : FnOk X.prog X.w X.K X.mg X.base CX k g fd ps sp) (hr : Room k X.A) (hb : Binds X.K fd ps []) (hx : Passes CX X E) : OpR X (compareOp .Eq) (rEqO X.K C sp E) := by
  intro pins s σ H x y v u Q I rx ry h
  obtain ⟨a, dx, fs, tb, rfl, ha, hy, hn, q⟩ := h
  cases (show v = Value.ref a from rx)
  obtain ⟨mA, O, _⟩ := ins_get I.hok ha
  obtain ⟨od, J, _⟩ := O.look
  obtain ⟨m, hF⟩ := I.fr
  show wpAny _ _ (richCompare .Eq _ _) _ _ _
  refine PySem.W.cmp_K (op := .Eq) (tb := tb) hr.units0 hF I.ok.mod.kin J (hy.looks I ry) hn hs hf ?_
  refine wpAny_mono (run_fn (us := [.ref a, u]) (vs := [.ref a, y]) (dvs := []) F hr hb .nil hx I (.cons rfl (.cons ry .nil)) q) (fun w s' z => ?_) fun _ _ x => x
  obtain ⟨z', H', I', rz, qz⟩ := z
  exact SlX.cmpback rz ⟨z', H', I', rz, qz⟩
/-- x != y by the same -/
def rNeO (K : PySem.W.Frag) (C : Addr) (sp : Sp) (E : XK) : R2 := fun x y H Q => ∃ (a dx : Addr) (fs : List (Str × V)) (tb : Value), x = .ref a ∧ H a = some (.ins C dx fs) ∧ TyR K H y tb ∧ PySem.W.notFirst K C tb = true ∧ sp [x, y] H (fun v H' => ∃ b, v = .bl b ∧ Q (.bl (!b)) H') E
theorem op_neO (hm : PySem.W.mroIn X.K C (.type "object") = some true) (hne : PySem.W.findIn X.K (.ref C) "__ne__" = some (some (.builtin "object.__ne__"))) (hs : PySem.W.findIn X.K (.ref C) "__eq__" = some (some (.ref g))) (hf : PySem.W.isFn X.K (.ref g) = true)
    (F : FnOk X.prog X.w X.K X.mg X.base CX k g fd ps sp) (hr : Room (k + 1) X.A) (hb : Binds X.K fd ps []) (hx : Passes CX X E) : OpR X (compareOp .NotEq) (rNeO X.K C sp E) := by
  intro pins s σ H x y v u Q I rx ry h
  obtain ⟨a, dx, fs, tb, rfl, ha, hy, hn, q⟩ := h
  cases (show v = Value.ref a from rx)
  obtain ⟨mA, O, _⟩ := ins_get I.hok ha
  obtain ⟨od, J, _⟩ := O.look
  show wpAny _ _ (richCompare .NotEq _ _) _ _ _
  have hu : X.A.units + 1 < cLine := by have := hr.un; omega
  refine OwnX.ne_K hu I.kIn J (hy.looks I ry) hn hm hne hs hf ?_
  have hl : ([Value.ref a, u] ++ ([] : List Value)).length = ps.length := F.len _ _ _ _ q
  refine wpAny_call (codeAny_mono (F.run X.A.in1 X.stack s H ⟨[.ref a, u], []⟩ [.ref a, u] [.ref a, y] _ _ hr.in1 I.env0.in1 (hb s [.ref a, u] I.kIn hl) (.cons rfl (.cons ry .nil)) q) fun r s' hq => ?_)
  cases r with
  | error e => exact hx pins σ H s e s' I hq
  | ok fl =>
    cases fl with
    | ret w =>
      obtain ⟨v, H', I', rv, b, rfl, qz⟩ := I.after hq
      cases rv
      exact ⟨b, rfl, .bl (!b), H', I', rfl, qz⟩
    | next => exact hq.elim
    | brk => exact hq.elim
    | cont => exact hq.elim
/-- x op y, both of the class at C, whose own method for op is at g -/
def rBinO (C : Addr) (sp : Sp) (E : XK) : R2 := fun x y H Q => ∃ (a dx : Addr) (fs : List (Str × V)) (b dy : Addr) (gs : List (Str × V)), x = .ref a ∧ y = .ref b ∧ H a = some (.ins C dx fs) ∧ H b = some (.ins C dy gs) ∧ sp [x, y] H Q E
theorem op_binO {op : Operator} (hc : PySem.W.selfFirst X.K C = true) (hs : PySem.W.findIn X.K (.ref C) (PySem.dunder op.info.2) = some (some (.ref g))) (hf : PySem.W.isFn X.K (.ref g) = true)
    (F : FnOk X.prog X.w X.K X.mg X.base CX k g fd ps sp) (hr : Room k X.A) (hb : Binds X.K fd ps []) (hx : Passes CX X E) : OpR X (binaryOp op) (rBinO C sp E) := by
  intro pins s σ H x y v u Q I rx ry h
  obtain ⟨a, dx, fs, b, dy, gs, rfl, rfl, ha, hy, q⟩ := h
  cases (show v = Value.ref a from rx)
  cases (show u = Value.ref b from ry)
  obtain ⟨mA, O, _⟩ := ins_get I.hok ha
  obtain ⟨od, J, _⟩ := O.look
  obtain ⟨mA', O', _⟩ := ins_get I.hok hy
  obtain ⟨od', J', _⟩ := O'.look
  refine OwnX.bin_same I.kIn J J'.type hc hs hf ?_
  refine wpAny_mono (run_fn (us := [.ref a, .ref b]) (vs := [.ref a, .ref b]) (dvs := []) F hr hb .nil hx I (.cons rfl (.cons rfl .nil)) q) (fun w s' z => ?_) fun _ _ x => x
  obtain ⟨z', H', I', rz, qz⟩ := z
  exact SlX.cmpback rz ⟨z', H', I', rz, qz⟩
end
end Sc
namespace Sc
open PySem PySem.Spec PyProof.Rows L2
/-- texts that can be compared and are not long -/
def Fine (x : Str) : Prop := x.length ≤ 1000 ∧ (PyData.str x).canLay0 = true
def Fines (xs : List Str) : Prop := ∀ x ∈ xs, Fine x
section
variable {P : Program} {w : World} {K : PySem.W.Frag} {mg : Str → Option Value} {base : Heap} {a l : Addr} {H H' H'' : Hp}
theorem Fines.txts {xs : List Str} (h : Fines xs) : Txts xs := fun x hx => (h x hx).1
theorem dps (K : PySem.W.Frag) (H : Hp) : ∀ xs : List Str, DpAll K H (xs.map V.str) (xs.map PyData.str)
  | [] => .nil
  | x :: r => .cons (.str x) (dps K H r)
theorem strs_lay : ∀ {xs : List Str}, Fines xs → PyData.canLayAll0 (xs.map PyData.str) = true
  | [], _ => rfl
  | x :: r, h => by
    show ((PyData.str x).canLay0 && PyData.canLayAll0 (r.map PyData.str)) = true
    rw [(h x List.mem_cons_self).2, strs_lay fun y hy => h y (List.mem_cons_of_mem x hy)]
    rfl
theorem strs_depth : ∀ xs : List Str, PyData.depthAll (xs.map PyData.str) = 0
  | [] => rfl
  | x :: r => by
    show max (PyData.str x).depth (PyData.depthAll (r.map PyData.str)) = 0
    rw [strs_depth r]
    rfl
theorem shT {xs : List Str} (h : Fines xs) : SeqAt.shaped (.tuple (xs.map PyData.str)) = true := by
  unfold SeqAt.shaped
  have e1 : (PyData.tuple (xs.map PyData.str)).canLay0 = true := strs_lay h
  have e2 : (PyData.tuple (xs.map PyData.str)).depth = 1 := by show PyData.depthAll (xs.map PyData.str) + 1 = 1; rw [strs_depth]
  rw [e1, e2]
  rfl
theorem shL {xs : List Str} (h : Fines xs) : SeqAt.shaped (.list (xs.map PyData.str)) = true := by
  unfold SeqAt.shaped
  have e1 : (PyData.list (xs.map PyData.str)).canLay0 = true := strs_lay h
  have e2 : (PyData.list (xs.map PyData.str)).depth = 1 := by show PyData.depthAll (xs.map PyData.str) + 1 = 1; rw [strs_depth]
  rw [e1, e2]
  rfl
theorem eqvA_nil : ∀ xs : List Str, PyData.eqvAll (xs.map PyData.str) [] = decide (xs = [])
  | [] => rfl
  | _ :: _ => rfl
theorem eqvA : ∀ xs ys : List Str, PyData.eqvAll (xs.map PyData.str) (ys.map PyData.str) = decide (xs = ys)
  | [], [] => rfl
  | [], _ :: _ => rfl
  | _ :: _, [] => rfl
  | x :: r, y :: t => by
    show ((x == y) && PyData.eqvAll (r.map PyData.str) (t.map PyData.str)) = _
    rw [eqvA r t]
    by_cases h : x = y
    · subst h
      simp
    · have e : (x == y) = false := by simpa using h
      rw [e, Bool.false_and, decide_eq_false fun z => h (List.cons.inj z).1]
def chr1 (c : Nat) : Str := ⟨#[c]⟩
def oddL (x : Str) (i : Nat) : List Str := ((x.cps.toList.take i).filter fun c => !decide (c ∈ letters.cps.toList)).map chr1
theorem oddL_len {x : Str} {i : Nat} : (oddL x i).length ≤ x.length := by
  unfold oddL
  rw [List.length_map]
  exact Nat.le_trans (List.length_filter_le _ _) (by rw [List.length_take]; exact Nat.min_le_right _ _)
theorem oddL_fine {x : Str} {i : Nat} (h : Fine x) : Fines (oddL x i) := by
  intro y hy
  unfold oddL at hy
  obtain ⟨c, hc, rfl⟩ := List.mem_map.mp hy
  have hc := List.mem_of_mem_take (List.mem_filter.mp hc).1
  refine ⟨(show 1 ≤ 1000 by decide), ?_⟩
  have h2 : PyData.strOk x = true := h.2
  show PyData.strOk (chr1 c) = true
  unfold PyData.strOk at h2 ⊢
  rw [Array.all_eq_true'] at h2
  have h3 := h2 c (by rw [← Array.mem_toList_iff]; exact hc)
  rw [Array.all_eq_true']
  intro y hy
  have ey : y = c := by
    have hy : y ∈ (#[c] : Array Nat) := hy
    simpa using hy
  subst ey
  exact h3
theorem oddL_nil {x : Str} : decide (oddL x x.length = []) = isLetters x := by
  have el : x.cps.toList.take x.length = x.cps.toList := List.take_of_length_le (by rw [Array.length_toList]; exact Nat.le_refl _)
  unfold oddL isLetters
  rw [el]
  cases h : x.cps.toList.all fun c => decide (c ∈ letters.cps.toList) with
  | true =>
    rw [List.all_eq_true] at h
    have e : (x.cps.toList.filter fun c => !decide (c ∈ letters.cps.toList)) = [] := by
      rw [List.filter_eq_nil_iff]
      intro c hc z
      rw [h c hc] at z
      cases z
    rw [e]
    rfl
  | false =>
    rw [decide_eq_false]
    intro z
    have z := List.map_eq_nil_iff.mp z
    rw [List.filter_eq_nil_iff] at z
    rw [List.all_eq_false] at h
    obtain ⟨c, hc, hn⟩ := h
    exact z c hc (by cases e : decide (c ∈ letters.cps.toList) with | true => exact absurd e hn | false => rfl)
theorem risesAt_eq {xs : List Str} {i : Nat} (hi : i < xs.length) (h0 : i ≠ 0) (h1 : i - 1 < xs.length) : risesAt xs i = decide (xs[i - 1].cps.toList < xs[i].cps.toList) := by
  unfold risesAt
  rw [decide_eq_false h0, Bool.false_or, List.getElem?_eq_getElem h1, List.getElem?_eq_getElem hi]
theorem risesAt_0 {xs : List Str} : risesAt xs 0 = true := rfl
theorem strG {xs : List Str} {i : Nat} (hi : i < xs.length) : (xs.map V.str)[i]? = some (.str xs[i]) := by rw [List.getElem?_map, List.getElem?_eq_getElem hi]; rfl
theorem small_lim {z : Int} (h0 : 0 ≤ z) (h1 : z ≤ 1000) : z.natAbs.log2 < 9000 := by
  by_cases e : z.natAbs = 0
  · rw [e]; decide
  · exact (Nat.log2_lt e).mpr (Nat.lt_of_le_of_lt (show z.natAbs ≤ 2 ^ 10 by omega) (Nat.pow_lt_pow_right (by decide) (by decide)))
end
end Sc
namespace Sc
open PySem PySem.Spec PyProof.Rows L2
/-! ### what a condition does -/
theorem sc_Condition___call__ : FnScope ["self", "case", "held", "name"] ["self", "case"] (defScope s_Condition___call__) := ⟨rfl, rfl, rfl, by decide +kernel, rfl, by decide +kernel, by decide +kernel⟩
/-- the texts in their order -/
def srt (l : List Str) : List Str := l.mergeSort fun a b => decide (a.cps.toList ≤ b.cps.toList)
theorem srt_perm (l : List Str) : (srt l).Perm l := List.mergeSort_perm _ _
theorem rising_of : ∀ (x : Str) (r : List Str), (∀ y ∈ r, SLe x y) → r.Pairwise SLe → risingS x r = true
  | _, [], _, _ => rfl
  | x, y :: r, h1, h2 => by
    have h2 := List.pairwise_cons.mp h2
    show (!ltCps y.cps.toList x.cps.toList && risingS y r) = true
    rw [Bool.and_eq_true, ltCps_eq]
    refine ⟨?_, rising_of y r h2.1 h2.2⟩
    have h3 : x.cps.toList ≤ y.cps.toList := h1 y List.mem_cons_self
    rw [decide_eq_false (show ¬ y.cps.toList < x.cps.toList from fun z => List.not_lt.mpr h3 z)]
    rfl
theorem sorted_of : ∀ {r : List Str}, r.Pairwise SLe → sortedS r = true
  | [], _ => rfl
  | x :: r, h => rising_of x r (List.pairwise_cons.mp h).1 (List.pairwise_cons.mp h).2
theorem srt_sorted (l : List Str) : sortedS (srt l) = true := by
  refine sorted_of ((List.pairwise_mergeSort (le := fun a b : Str => decide (a.cps.toList ≤ b.cps.toList)) (fun a b c h1 h2 => ?_) (fun a b => ?_) l).imp fun h => of_decide_eq_true h)
  · exact decide_eq_true (List.le_trans (of_decide_eq_true h1) (of_decide_eq_true h2))
  · rw [Bool.or_eq_true]
    rcases List.le_total a.cps.toList b.cps.toList with h | h
    · exact .inl (decide_eq_true h)
    · exact .inr (decide_eq_true h)
/-- an object Condition -/
structure CondAt (K : PySem.W.Frag) (C : Addr) (H : Hp) (o : Addr) (hs fs : List Str) : Prop where
  at_ : ∃ (dx a b n : Addr) (zs : List Str), H o = some (.ins C dx (condF a b n)) ∧ SqT K H a (hs.map V.str) ∧ SqT K H b (fs.map V.str) ∧ H n = some (.tup (zs.map V.str)) ∧ zs = srt (hs ++ fs)
theorem CondAt.same {K : PySem.W.Frag} {C : Addr} {H H' : Hp} {o : Addr} {hs fs : List Str} (h : CondAt K C H o hs fs) (s : Same H H') : CondAt K C H' o hs fs := by
  obtain ⟨dx, a, b, n, zs, h1, h2, h3, h4, h5⟩ := h.at_
  exact ⟨dx, a, b, n, zs, s _ _ h1, s.tup h2, s.tup h3, s _ _ h4, h5⟩
def meets (hs fs case : List Str) : Bool := (hs.all fun x => decide (x ∈ case)) && !(fs.any fun x => decide (x ∈ case))
section
variable {P : Program} {w : World} {K : PySem.W.Frag} {mg : Str → Option Value} {base : Heap} {CC C : Addr}
/-- [name in case for name in xs]: the truths -/
theorem inAll {H1 : Hp} {D c : Addr} {xs cs : List Str} {W : Nat} {X : Cx} {σ : L2.St} : True := trivial
def sp_ccall (K : PySem.W.Frag) (C : Addr) : Sp := fun vs H Q _ => ∃ (o c : Addr) (hs fs cs : List Str), vs = [.ref o, .ref c] ∧ CondAt K C H o hs fs ∧ SqT K H c (cs.map V.str) ∧ hs.length ≤ 1000 ∧ fs.length ≤ 1000 ∧ ∀ H', Same H H' → Q (.bl (meets hs fs cs)) H'
theorem ok_ccall {f : Addr} {fd : FuncData} (F : Fun K "__call__" "Condition.__call__" s_Condition___call__ f fd) (B : Blt mg) (T : Cls K C) (n1 : NoAttr K C "_holding") (n2 : NoAttr K C "_failing") : FnOk P w K mg base CX0 1 f fd ["self", "case"] (sp_ccall K C) := by
  refine F.ok sc_Condition___call__ (fun vs H Q E h => by obtain ⟨o, c, hs, fs, cs, rfl, _⟩ := h; rfl) (fun cdv A outer s H vs Q E hr h => ?_)
  obtain ⟨o, c, hs, fs, cs, rfl, hC, hc, l1, l2, q⟩ := h
  obtain ⟨dx, a, b, n, zs, ho, ha, hb, _⟩ := hC.at_
  refine ⟨_, (pss_cons (ps_set (i := 2) sc_Condition___call__.nd rfl (Or.inl rfl) (pe_callB (cr_all rfl) (by rfl) B.b_all PyProof.Rows.boot_all (pa_cons (pe_lc (own := [("name", 3)]) (g := gName 3) (tt := tYes) rfl sc_Condition___call__.nd (pi_tup (pe_fld (pv 0) rfl)) (blkOk_by (own := [("name", 3)]) (N := ["self", "case", "held", "name"]) (sc := defScope s_Condition___call__) (by decide +kernel)) (fun _ _ _ _ _ => (pg_name (i := 3) sc_Condition___call__.nd rfl (Or.inl rfl))) (fun _ _ _ _ _ => pts_nil) (fun _ _ _ _ _ => (pe_.re (pe_cmpR op_in_seq (pv 3) (pv 1) rfl) (by first | (dsimp only [Cx.blk]; done) | exact rfl)))) pa_nil)))
      (pss_one (ps_ret (pe_and (pv 2) (pe_one (pe_not (pe_callB (cr_any rfl) (by rfl) B.b_any (by decide +kernel) (pa_cons (pe_lc (own := [("name", 3)]) (g := gName 3) (tt := tYes) rfl sc_Condition___call__.nd (pi_tup (pe_fld (pv 0) rfl)) (blkOk_by (own := [("name", 3)]) (N := ["self", "case", "held", "name"]) (sc := defScope s_Condition___call__) (by decide +kernel)) (fun _ _ _ _ _ => (pg_name (i := 3) sc_Condition___call__.nd rfl (Or.inl rfl))) (fun _ _ _ _ _ => pts_nil) (fun _ _ _ _ _ => (pe_.re (pe_cmpR op_in_seq (pv 3) (pv 1) rfl) (by first | (dsimp only [Cx.blk]; done) | exact rfl)))) pa_nil)))))))), ?_⟩
  refine ⟨_, rfl, o, C, dx, _, .ref a, rfl, ho, T, n1, rfl, a, rfl, ⟨_, ha⟩, fun D nD => lc_it walk_tup (fun i H' => Same H H' ∧ H' D = some (.lst ((hs.take i).map fun x => V.bl (decide (x ∈ cs))))) ⟨(Same.refl H).put nD, upd_same⟩ (fun _ _ _ h => h.1.tup ha) ?_ ?_⟩
  · rintro i y H2 H3 hi ⟨s, e⟩ ⟨rfl, hy⟩
    rw [List.length_map] at hi
    have hx : hs[i]? = some hs[i] := List.getElem?_eq_getElem hi
    obtain rfl : V.str hs[i] = y := strAt_inj hx hy
    refine ⟨rfl, yes_ ⟨_, rfl, _, rfl, c, _, rfl, .inr (s.tup hc), rfl, flat_strs cs, grow (acc := fun i => (hs.take i).map fun x => V.bl (decide (x ∈ cs))) nD s e ?_ ?_⟩⟩
    · rw [List.length_map, List.length_take]
      exact small1000 (by omega)
    · show List.map _ _ = _
      rw [take_more hx, List.map_append]
      simp only [List.map_cons, List.map_nil, inV_str]
      rfl
  · rintro H2 ⟨s, e⟩
    rw [List.length_map, List.take_length] at e
    refine ⟨D, hs.map fun x => decide (x ∈ cs), rfl, sqL_of (by rw [e, List.map_map]; rfl), ?_⟩
    refine ⟨_, rfl, _, rfl, bcase (fun c1 => ?_) (fun c1 => ?_)⟩
    · refine ⟨_, rfl, o, C, dx, _, .ref b, rfl, s _ _ ho, T, n2, rfl, b, rfl, ⟨_, s.tup hb⟩, fun D2 nD2 => lc_it walk_tup (fun i H' => Same H2 H' ∧ H' D2 = some (.lst ((fs.take i).map fun x => V.bl (decide (x ∈ cs))))) ⟨(Same.refl H2).put nD2, upd_same⟩ (fun _ _ _ h => (s.trans h.1).tup hb) ?_ ?_⟩
      · rintro i y H4 H3 hi ⟨s2, e2⟩ ⟨rfl, hy⟩
        rw [List.length_map] at hi
        have hx : fs[i]? = some fs[i] := List.getElem?_eq_getElem hi
        obtain rfl : V.str fs[i] = y := strAt_inj hx hy
        refine ⟨rfl, yes_ ⟨_, rfl, _, rfl, c, _, rfl, .inr ((s.trans s2).tup hc), rfl, flat_strs cs, grow (acc := fun i => (fs.take i).map fun x => V.bl (decide (x ∈ cs))) nD2 s2 e2 ?_ ?_⟩⟩
        · rw [List.length_map, List.length_take]
          exact small1000 (by omega)
        · show List.map _ _ = _
          rw [take_more hx, List.map_append]
          simp only [List.map_cons, List.map_nil, inV_str]
          rfl
      · rintro H4 ⟨s2, e2⟩
        rw [List.length_map, List.take_length] at e2
        refine ⟨D2, fs.map fun x => decide (x ∈ cs), rfl, sqL_of (by rw [e2, List.map_map]; rfl), ?_⟩
        refine ⟨_, rfl, ?_⟩
        have em : meets hs fs cs = !((fs.map fun x => decide (x ∈ cs)).any id) := by
          unfold meets
          rw [List.any_map]
          have c1 : (hs.all fun x => decide (x ∈ cs)) = true := by rw [List.all_map] at c1; exact c1
          rw [c1, Bool.true_and]
          rfl
        rw [← em]
        exact q H4 (s.trans s2)
    · have em : meets hs fs cs = false := by
        unfold meets
        have c1 : (hs.all fun x => decide (x ∈ cs)) = false := by rw [List.all_map] at c1; exact c1
        rw [c1, Bool.false_and]
      rw [← em]
      exact q H2 s
/-! ### within -/
theorem sc_Condition_within : FnScope ["self", "other", "held", "name"] ["self", "other"] (defScope s_Condition_within) := ⟨rfl, rfl, rfl, by decide +kernel, rfl, by decide +kernel, by decide +kernel⟩
def withinC (hs fs gs ks : List Str) : Bool := (gs.all fun x => decide (x ∈ hs)) && (ks.all fun x => decide (x ∈ fs))
def sp_within (K : PySem.W.Frag) (C : Addr) : Sp := fun vs H Q _ => ∃ (o o2 : Addr) (hs fs gs ks : List Str), vs = [.ref o, .ref o2] ∧ CondAt K C H o hs fs ∧ CondAt K C H o2 gs ks ∧ gs.length ≤ 1000 ∧ ks.length ≤ 1000 ∧ ∀ H', Same H H' → Q (.bl (withinC hs fs gs ks)) H'
/-- the getters -/
abbrev PropC (P : Program) (w : World) (K : PySem.W.Frag) (mg : Str → Option Value) (base : Heap) (C p g : Addr) (fd : FuncData) (n f : Str) : Prop := PropOf K C n p g ∧ FnOk P w K mg base CX0 1 g fd ["self"] (sp_prop C f) ∧ Binds K fd ["self"] []
theorem ok_within {f p1' g1 p2' g2 : Addr} {fd fd1 fd2 : FuncData} (F : Fun K "within" "Condition.within" s_Condition_within f fd) (B : Blt mg) (T : Cls K C) (n1 : NoAttr K C "_holding") (n2 : NoAttr K C "_failing")
    (p1 : PropC P w K mg base C p1' g1 fd1 "holding" "_holding") (p2 : PropC P w K mg base C p2' g2 fd2 "failing" "_failing") : FnOk P w K mg base CX0 3 f fd ["self", "other"] (sp_within K C) := by
  refine F.ok sc_Condition_within (fun vs H Q E h => by obtain ⟨o, c, hs, fs, gs, ks, rfl, _⟩ := h; rfl) (fun cdv A outer s H vs Q E hr h => ?_)
  obtain ⟨o, o2, hs, fs, gs, ks, rfl, hC, hD, l1, l2, q⟩ := h
  obtain ⟨dx, a, b, n, zs, ho, ha, hb, _⟩ := hC.at_
  obtain ⟨dx2, a2, b2, n2', zs2, ho2, ha2, hb2, _⟩ := hD.at_
  have lk1 : (condF a2 b2 n2').lookup ("_holding" : Str) = some (.ref a2) := rfl
  have lk2 : (condF a2 b2 n2').lookup ("_failing" : Str) = some (.ref b2) := rfl
  refine ⟨_, (pss_cons (ps_set (i := 2) sc_Condition_within.nd rfl (Or.inl rfl) (pe_callB (cr_all rfl) (by rfl) B.b_all PyProof.Rows.boot_all (pa_cons (pe_lc (own := [("name", 3)]) (g := gName 3) (tt := tYes) rfl sc_Condition_within.nd (pi_tup (pe_prop (pv 1) T p1.1 p1.2.1 (hr.mono (by decide)) p1.2.2 .nil pass0 rfl)) (blkOk_by (own := [("name", 3)]) (N := ["self", "other", "held", "name"]) (sc := defScope s_Condition_within) (by decide +kernel)) (fun _ _ _ _ _ => (pg_name (i := 3) sc_Condition_within.nd rfl (Or.inl rfl))) (fun _ _ _ _ _ => pts_nil) (fun _ _ _ _ _ => (pe_.re (pe_cmpR op_in_seq (pv 3) (pe_fld (pv 0) rfl) rfl) (by first | (dsimp only [Cx.blk]; done) | exact rfl)))) pa_nil)))
      (pss_one (ps_ret (pe_and (pv 2) (pe_one (pe_callB (cr_all rfl) (by rfl) B.b_all PyProof.Rows.boot_all (pa_cons (pe_lc (own := [("name", 3)]) (g := gName 3) (tt := tYes) rfl sc_Condition_within.nd (pi_tup (pe_prop (pv 1) T p2.1 p2.2.1 (hr.mono (by decide)) p2.2.2 .nil pass0 rfl)) (blkOk_by (own := [("name", 3)]) (N := ["self", "other", "held", "name"]) (sc := defScope s_Condition_within) (by decide +kernel)) (fun _ _ _ _ _ => (pg_name (i := 3) sc_Condition_within.nd rfl (Or.inl rfl))) (fun _ _ _ _ _ => pts_nil) (fun _ _ _ _ _ => (pe_.re (pe_cmpR op_in_seq (pv 3) (pe_fld (pv 0) rfl) rfl) (by first | (dsimp only [Cx.blk]; done) | exact rfl)))) pa_nil))))))), ?_⟩
  refine ⟨_, rfl, o2, dx2, _, rfl, ho2, ⟨o2, dx2, _, _, rfl, ho2, lk1, ?_⟩⟩
  refine ⟨a2, rfl, ⟨_, ha2⟩, fun D nD => lc_it walk_tup (fun i H' => Same H H' ∧ H' D = some (.lst ((gs.take i).map fun x => V.bl (decide (x ∈ hs))))) ⟨(Same.refl H).put nD, upd_same⟩ (fun _ _ _ h => h.1.tup ha2) ?_ ?_⟩
  · rintro i y H2 H3 hi ⟨s, e⟩ ⟨rfl, hy⟩
    rw [List.length_map] at hi
    have hx : gs[i]? = some gs[i] := List.getElem?_eq_getElem hi
    obtain rfl : V.str gs[i] = y := strAt_inj hx hy
    refine ⟨rfl, yes_ ⟨_, rfl, _, rfl, o, C, dx, _, .ref a, rfl, s _ _ ho, T, n1, rfl, a, _, rfl, .inr (s.tup ha), rfl, flat_strs hs, grow (acc := fun i => (gs.take i).map fun x => V.bl (decide (x ∈ hs))) nD s e ?_ ?_⟩⟩
    · rw [List.length_map, List.length_take]
      exact small1000 (by omega)
    · show List.map _ _ = _
      rw [take_more hx, List.map_append]
      simp only [List.map_cons, List.map_nil, inV_str]
      rfl
  · rintro H2 ⟨s, e⟩
    rw [List.length_map, List.take_length] at e
    refine ⟨D, gs.map fun x => decide (x ∈ hs), rfl, sqL_of (by rw [e, List.map_map]; rfl), ?_⟩
    refine ⟨_, rfl, _, rfl, bcase (fun c1 => ?_) (fun c1 => ?_)⟩
    · refine ⟨_, rfl, o2, dx2, _, rfl, s _ _ ho2, ⟨o2, dx2, _, _, rfl, s _ _ ho2, lk2, ?_⟩⟩
      refine ⟨b2, rfl, ⟨_, s.tup hb2⟩, fun D2 nD2 => lc_it walk_tup (fun i H' => Same H2 H' ∧ H' D2 = some (.lst ((ks.take i).map fun x => V.bl (decide (x ∈ fs))))) ⟨(Same.refl H2).put nD2, upd_same⟩ (fun _ _ _ h => (s.trans h.1).tup hb2) ?_ ?_⟩
      · rintro i y H4 H3 hi ⟨s2, e2⟩ ⟨rfl, hy⟩
        rw [List.length_map] at hi
        have hx : ks[i]? = some ks[i] := List.getElem?_eq_getElem hi
        obtain rfl : V.str ks[i] = y := strAt_inj hx hy
        have s3 := s.trans s2
        refine ⟨rfl, yes_ ⟨_, rfl, _, rfl, o, C, dx, _, .ref b, rfl, s3 _ _ ho, T, n2, rfl, b, _, rfl, .inr (s3.tup hb), rfl, flat_strs fs, grow (acc := fun i => (ks.take i).map fun x => V.bl (decide (x ∈ fs))) nD2 s2 e2 ?_ ?_⟩⟩
        · rw [List.length_map, List.length_take]
          exact small1000 (by omega)
        · show List.map _ _ = _
          rw [take_more hx, List.map_append]
          simp only [List.map_cons, List.map_nil, inV_str]
          rfl
      · rintro H4 ⟨s2, e2⟩
        rw [List.length_map, List.take_length] at e2
        refine ⟨D2, ks.map fun x => decide (x ∈ fs), rfl, sqL_of (by rw [e2, List.map_map]; rfl), ?_⟩
        have em : withinC hs fs gs ks = (ks.map fun x => decide (x ∈ fs)).all id := by
          unfold withinC
          have c1 : (gs.all fun x => decide (x ∈ hs)) = true := by rw [List.all_map] at c1; exact c1
          rw [c1, Bool.true_and, List.all_map]
          rfl
        rw [← em]
        exact q H4 (s.trans s2)
    · have em : withinC hs fs gs ks = false := by
        unfold withinC
        have c1 : (gs.all fun x => decide (x ∈ hs)) = false := by rw [List.all_map] at c1; exact c1
        rw [c1, Bool.false_and]
      rw [← em]
      exact q H2 s
/-! ### == -/
theorem sc_Condition___eq__ : FnScope ["self", "other"] ["self", "other"] (defScope s_Condition___eq__) := ⟨rfl, rfl, rfl, by decide +kernel, rfl, by decide +kernel, by decide +kernel⟩
theorem dp_strs {H : Hp} {a : Addr} {xs : List Str} (h : SqT K H a (xs.map V.str)) : Dp K H (.ref a) (.tuple (xs.map PyData.str)) := .tup h (dps K H xs)
/-- what isinstance asks of the class at C -/
structure IsiC (K : PySem.W.Frag) (C : Addr) : Prop where
  ca : PySem.W.findIn K (.ref C) "__class__" = some (some (.builtin "object.__class__"))
  cn : PySem.W.specialIn K (.builtin "object.__class__") "__get__" = some (some (.builtin "getset_descriptor.__get__"))
  ct : PySem.W.takesIn K (.builtin "object.__class__") = some true
  cm : PySem.W.mroIn K C (.type "object") = some true
  me : PySem.W.kitOne K (.ref C) (.ref C) = some true
def sp_ceq (K : PySem.W.Frag) (C : Addr) : Sp := fun vs H Q _ => ∃ (o : Addr) (y : V) (hs fs : List Str), vs = [.ref o, y] ∧ CondAt K C H o hs fs ∧ Fines hs ∧ Fines fs ∧
  ((∃ (o2 : Addr) (gs ks : List Str), y = .ref o2 ∧ CondAt K C H o2 gs ks ∧ Fines gs ∧ Fines ks ∧ Q (.bl (decide (hs = gs) && decide (fs = ks))) H) ∨ (∃ t : Value, TyOf K H y t ∧ PySem.W.kitOne K t (.ref C) = some false ∧ Q (.bl false) H))
theorem ok_ceq {f : Addr} {fd : FuncData} (F : Fun K "__eq__" "Condition.__eq__" s_Condition___eq__ f fd) (B : Blt mg) (T : Cls K C) (n1 : NoAttr K C "_holding") (n2 : NoAttr K C "_failing") (mC : mg "Condition" = some (.ref C)) (I : IsiC K C) : FnOk P w K mg base CX0 1 f fd ["self", "other"] (sp_ceq K C) := by
  refine F.ok sc_Condition___eq__ (fun vs H Q E h => by obtain ⟨o, y, hs, fs, rfl, _⟩ := h; rfl) (fun cdv A outer s H vs Q E hr h => ?_)
  obtain ⟨o, y, hs, fs, rfl, hC, f1, f2, q⟩ := h
  obtain ⟨dx, a, b, n, zs, ho, ha, hb, _⟩ := hC.at_
  refine ⟨_, (pss_one (ps_ret (pe_and (pe_callB call_isi (by rfl) B.b_isinstance PyProof.Rows.boot_isinstance (pa_cons (pv 1) (pa_cons (pe_glob (v := .ref _) rfl mC rfl) pa_nil))) (pe_and (pe_cmpR (op_eqD hr.units) (pe_fld (pv 0) rfl) (pe_fld (pv 1) rfl) (nomark _)) (pe_one (pe_cmpR (op_eqD hr.units) (pe_fld (pv 0) rfl) (pe_fld (pv 1) rfl) (nomark _))))))), ?_⟩
  rcases q with ⟨o2, gs, ks, rfl, hD, f3, f4, q⟩ | ⟨t, ht, hk, q⟩
  · obtain ⟨dx2, a2, b2, n2', zs2, ho2, ha2, hb2, _⟩ := hD.at_
    refine ⟨_, rfl, _, _, _, _, _, rfl, .own _, .base (.ins ho2 T I.ca I.cn I.ct I.cm), I.me, _, rfl, iteT ?_⟩
    refine ⟨_, rfl, o, C, dx, _, .ref a, rfl, ho, T, n1, rfl, _, rfl, o2, C, dx2, _, .ref a2, rfl, ho2, T, n1, rfl, _, _, dp_strs ha, dp_strs ha2, shT f1, shT f3, _, rfl, ?_⟩
    have e1 : (PyData.tuple (hs.map PyData.str)).eqv (.tuple (gs.map PyData.str)) = decide (hs = gs) := eqvA hs gs
    rw [e1]
    by_cases c1 : hs = gs
    · rw [decide_eq_true c1]
      rw [decide_eq_true c1, Bool.true_and] at q
      refine iteT ⟨_, rfl, o, C, dx, _, .ref b, rfl, ho, T, n2, rfl, _, rfl, o2, C, dx2, _, .ref b2, rfl, ho2, T, n2, rfl, _, _, dp_strs hb, dp_strs hb2, shT f2, shT f4, ?_⟩
      have e2 : (PyData.tuple (fs.map PyData.str)).eqv (.tuple (ks.map PyData.str)) = decide (fs = ks) := eqvA fs ks
      rw [e2]
      exact q
    · rw [decide_eq_false c1]
      rw [decide_eq_false c1, Bool.false_and] at q
      exact iteF q
  · exact ⟨_, rfl, _, _, _, _, _, rfl, .own _, .base ht, hk, _, rfl, iteF q⟩
/-! ### & -/
theorem sc_Condition___and__ : FnScope ["self", "other", "holding", "failing", "name"] ["self", "other"] (defScope s_Condition___and__) := ⟨rfl, rfl, rfl, by decide +kernel, rfl, by decide +kernel, by decide +kernel⟩
def mrg (xs ys : List Str) : List Str := srt (xs ++ ys.filter fun y => !decide (y ∈ xs))
theorem mrg_txts {xs ys : List Str} (h1 : Txts xs) (h2 : Txts ys) : Txts (mrg xs ys) := fun x hx => by
  have hx := (srt_perm _).mem_iff.mp hx
  rcases List.mem_append.mp hx with h | h
  · exact h1 x h
  · exact h2 x (List.mem_filter.mp h).1
theorem mrg_len {xs ys : List Str} : (mrg xs ys).length ≤ xs.length + ys.length := by
  unfold mrg
  rw [(srt_perm _).length_eq, List.length_append]
  have := List.length_filter_le (fun y => !decide (y ∈ xs)) ys
  omega
theorem srt_uniq {zs l : List Str} (p : zs.Perm l) (s : sortedS zs = true) : zs = srt l := sorted_uniq (p.trans (srt_perm l).symm) s (srt_sorted l)
/-- a name of the one is in the other -/
def meetN (xs ys : List Str) : Bool := xs.any fun x => decide (x ∈ ys)
def sp_cand (K : PySem.W.Frag) (C CC CN : Addr) : Sp := fun vs H Q E => ∃ (o o2 : Addr) (hs fs gs ks : List Str), vs = [.ref o, .ref o2] ∧ CondAt K C H o hs fs ∧ CondAt K C H o2 gs ks ∧ Txts hs ∧ Txts fs ∧ Txts gs ∧ Txts ks ∧ hs.length + gs.length < 64 ∧ fs.length + ks.length < 64 ∧
  (meetN (mrg hs gs) (mrg fs ks) = true → ∀ H', Same H H' → E (.ref CN) none H') ∧ (meetN (mrg hs gs) (mrg fs ks) = false →
    (∀ i, firstWrong (mrg hs gs) [] = some i → errPI CC ((0 : Nat) : Int) i H E) ∧ (firstWrong (mrg hs gs) [] = none → (∀ i, firstWrong (mrg fs ks) (mrg hs gs) = some i → errPI CC ((1 : Nat) : Int) i H E) ∧
    (firstWrong (mrg fs ks) (mrg hs gs) = none → ∀ H' o3, Same H H' → H o3 = none → CondAt K C H' o3 (mrg hs gs) (mrg fs ks) → Q (.ref o3) H')))
theorem ok_cand {f p1' g1 p2' g2 CN : Addr} {fd fd1 fd2 : FuncData} (F : Fun K "__and__" "Condition.__and__" s_Condition___and__ f fd) (B : Blt mg) (T : Cls K C) (n1 : NoAttr K C "_holding") (n2 : NoAttr K C "_failing")
    (p1 : PropC P w K mg base C p1' g1 fd1 "holding" "_holding") (p2 : PropC P w K mg base C p2' g2 fd2 "failing" "_failing") (e_NeverMet : ErrMk0 K mg "NeverMet" CN)
    (c_merged : Cal P w K mg base CX0 1 "merged" ["names", "others"] (sp_merged K)) (k_Condition : Mkr P w K mg base 4 "Condition" C ["self", "holding", "failing"] (sp_cond_init K C CC)) : FnOk P w K mg base (L2.CX P w) 6 f fd ["self", "other"] (sp_cand K C CC CN) := by
  refine F.okX sc_Condition___and__ (fun vs H Q E h => by obtain ⟨o, o2, hs, fs, gs, ks, rfl, _⟩ := h; rfl) (fun cdv A outer s H vs Q E hr h => ?_)
  obtain ⟨o, o2, hs, fs, gs, ks, rfl, hC, hD, t1, t2, t3, t4, l1, l2, qE, q⟩ := h
  obtain ⟨dx, a, b, n, zs, ho, ha, hb, _⟩ := hC.at_
  obtain ⟨dx2, a2, b2, n2', zs2, ho2, ha2, hb2, _⟩ := hD.at_
  have lk1 : (condF a2 b2 n2').lookup ("_holding" : Str) = some (.ref a2) := rfl
  have lk2 : (condF a2 b2 n2').lookup ("_failing" : Str) = some (.ref b2) := rfl
  refine ⟨_, (pss_cons (ps_set (i := 2) sc_Condition___and__.nd rfl (Or.inl rfl) (pe_cal c_merged (hr.mono (by decide)) (pa_cons (pe_fld (pv 0) rfl) (pa_cons (pe_prop (pv 1) T p1.1 p1.2.1 (hr.mono (by decide)) p1.2.2 .nil pass0 rfl) pa_nil))))
      (pss_cons (ps_set (i := 3) sc_Condition___and__.nd rfl (Or.inr rfl) (pe_cal c_merged (hr.mono (by decide)) (pa_cons (pe_fld (pv 0) rfl) (pa_cons (pe_prop (pv 1) T p2.1 p2.2.1 (hr.mono (by decide)) p2.2.2 .nil pass0 rfl) pa_nil))))
      (pss_cons (ps_if (pt_val (pe_callB (cr_any rfl) (by rfl) B.b_any (by decide +kernel) (pa_cons (pe_lc (own := [("name", 4)]) (g := gName 4) (tt := tYes) rfl sc_Condition___and__.nd (pi_tup (pv 2)) (blkOk_by (own := [("name", 4)]) (N := ["self", "other", "holding", "failing", "name"]) (sc := defScope s_Condition___and__) (by decide +kernel)) (fun _ _ _ _ _ => (pg_name (i := 4) sc_Condition___and__.nd rfl (Or.inl rfl))) (fun _ _ _ _ _ => pts_nil) (fun _ _ _ _ _ => (pe_.re (pe_cmpR op_in_seq (pv 4) (pv 3) rfl) (by first | (dsimp only [Cx.blk]; done) | exact rfl)))) pa_nil))) (pss_one (ps_raise rfl (takes_of rfl rfl rfl rfl) (pmk_err0 e_NeverMet))) pss_nil)
      (pss_one (ps_ret (pe_mkX k_Condition (hr.mono (by decide)) (takes_of rfl rfl rfl rfl) (pa_cons (pv 2) (pa_cons (pv 3) pa_nil)))))))), ?_⟩
  refine ⟨_, rfl, o, C, dx, _, .ref a, rfl, ho, T, n1, rfl, _, rfl, o2, dx2, _, rfl, ho2, ⟨o2, dx2, _, _, rfl, ho2, lk1, ?_⟩⟩
  refine ⟨a, a2, hs, gs, rfl, ha, ha2, l1, fun H1 hA za s1 eA pA sA => ?_⟩
  obtain rfl : za = mrg hs gs := srt_uniq pA sA
  refine ⟨_, rfl, o, C, dx, _, .ref b, rfl, s1 _ _ ho, T, n2, rfl, _, rfl, o2, dx2, _, rfl, s1 _ _ ho2, ⟨o2, dx2, _, _, rfl, s1 _ _ ho2, lk2, ?_⟩⟩
  refine ⟨b, b2, fs, ks, rfl, s1.tup hb, s1.tup hb2, l2, fun H2 hB zb s2 eB pB sB => ?_⟩
  obtain rfl : zb = mrg fs ks := srt_uniq pB sB
  have s12 := s1.trans s2
  have eA2 := s2 _ _ eA
  refine ⟨_, rfl, hA, rfl, ⟨_, sqT_of eA2⟩, fun D nD => lc_it walk_tup (fun i H' => Same H2 H' ∧ H' D = some (.lst (((mrg hs gs).take i).map fun x => V.bl (decide (x ∈ mrg fs ks))))) ⟨(Same.refl H2).put nD, upd_same⟩ (fun _ _ _ h => h.1.tup (sqT_of eA2)) ?_ ?_⟩
  · rintro i y H4 H3 hi ⟨s, e⟩ ⟨rfl, hy⟩
    rw [List.length_map] at hi
    have hx : (mrg hs gs)[i]? = some (mrg hs gs)[i] := List.getElem?_eq_getElem hi
    obtain rfl : V.str (mrg hs gs)[i] = y := strAt_inj hx hy
    refine ⟨rfl, yes_ ⟨_, rfl, _, rfl, hB, _, rfl, .inr (sqT_of (s _ _ eB)), rfl, flat_strs _, grow (acc := fun i => ((mrg hs gs).take i).map fun x => V.bl (decide (x ∈ mrg fs ks))) nD s e ?_ ?_⟩⟩
    · rw [List.length_map, List.length_take]
      have := mrg_len (xs := hs) (ys := gs)
      exact small1000 (by omega)
    · show List.map _ _ = _
      rw [take_more hx, List.map_append]
      simp only [List.map_cons, List.map_nil, inV_str]
      rfl
  · rintro H4 ⟨s, e⟩
    rw [List.length_map, List.take_length] at e
    refine ⟨D, (mrg hs gs).map fun x => decide (x ∈ mrg fs ks), rfl, sqL_of (by rw [e, List.map_map]; rfl), ?_⟩
    have em : ((mrg hs gs).map fun x => decide (x ∈ mrg fs ks)).any id = meetN (mrg hs gs) (mrg fs ks) := by
      rw [List.any_map]
      rfl
    rw [em]
    refine ⟨_, rfl, bcase (fun c1 => ?_) (fun c1 => ?_)⟩
    · exact qE c1 H4 (s12.trans s)
    · obtain ⟨q0, q⟩ := q c1
      have s4 := s12.trans s
      have eA4 := s _ _ eA2
      have eB4 := s _ _ eB
      refine ⟨_, rfl, _, rfl, fun o3 dx3 nx ndx nex => ?_⟩
      have s5 : Same H4 (upd (upd H4 dx3 (.own o3)) o3 (.ins C dx3 [])) := ((Same.refl H4).put ndx).put nx
      have m1 := mrg_len (xs := hs) (ys := gs)
      have m2 := mrg_len (xs := fs) (ys := ks)
      refine ⟨o3, dx3, hA, hB, _, _, rfl, upd_same, sqT_of (s5 _ _ eA4), sqT_of (s5 _ _ eB4), mrg_txts t1 t3, mrg_txts t2 t4, by omega, by omega, fun i ei H' d sH nd => q0 i ei H' d ((s4.trans s5).trans sH) nd, fun en => ?_⟩
      obtain ⟨q1, q⟩ := q en
      refine ⟨fun i ei H' d sH nd => q1 i ei H' d ((s4.trans s5).trans sH) nd, fun en2 H' n3 zs3 sX hx hn hperm hsort => ⟨rfl, ?_⟩⟩
      have sS : Same H4 H' := fun b' o' h => sX b' o' (fun e => by rw [e, nx] at h; cases h) (s5 _ _ h)
      exact q en2 H' o3 (s4.trans sS) (s4.free nx) ⟨dx3, hA, hB, n3, zs3, hx, sqT_of (sS _ _ eA4), sqT_of (sS _ _ eB4), hn, srt_uniq hperm hsort⟩
end
end Sc
namespace Sc
open PySem PySem.Spec PyProof.Rows L2
/-- o(e, ..), o an object whose class has its own __call__; the arguments leave it as it is -/
def tCallO (C : Addr) (sp : Sp) (E : XK) (te : TE) (t : TA) : TE := fun σ H Q => te σ H fun x H1 => ∃ (a : Addr), x = .ref a ∧
  t σ H1 fun vs H2 => (∃ (dx : Addr) (fs : List (Str × V)), H2 a = some (.ins C dx fs)) ∧ sp (.ref a :: vs) H2 Q E
theorem callWith_o {M : Model} {A : Around} {E : Value → Shared → Prop} {s : Shared} {pos : Pos} {x C : Addr} {first : List Value} {Q : Value → Shared → Prop} {args : List (Bool × Sem Value)} (hplain : args.any (·.1) = false)
    (h : wpAny M A (evalArgs (.ref x) true args []) (fun a s₁ => (∃ ox od, PySem.W.InstAt s₁.heap x ox C od ∧ ox.data = Data.plain) ∧ wpAny M A (call (.ref x) (first ++ a.pos) a.kw) Q E s₁) E s) : wpAny M A (callWith pos (.ref x) first args []) Q E s := by
  unfold callWith
  refine wpAny_bind (wpAny_holding (wpAny_mono h (fun a s₁ h₁ => wpAny_bind (wpAny_standAt ?_)) (fun _ _ z => z)))
  obtain ⟨⟨ox, od, J, hd⟩, h₂⟩ := h₁
  have L := PySem.W.kco_keeper (M := M) J hd
  simp only [hplain, List.any_nil, Bool.or_false]
  exact wpAny_bind (PySem.W.Looks.here L (wpAny_bind (wpAny_mono (wpAny_operateT h₂) (fun r s₂ hr => wpAny_bind (wpAny_holding (wpAny_point (wpAny_pure hr)))) (fun _ _ z => z))))
theorem pe_callO {X : Cx} {CX : CXT} {C g : Addr} {k : Nat} {fd : FuncData} {ps : List Str} {sp : Sp} {E : XK} {te : TE} {t : TA} {x : Str} {e : Expr} {es : List Expr} {p pos : Pos}
    (at_ : PySem.W.findIn X.K (.ref C) "__call__" = some (some (.ref g))) (fn : PySem.W.isFn X.K (.ref g) = true) (fi : PySem.W.fnIn X.K g = true)
    (F : FnOk X.prog X.w X.K X.mg X.base CX k g fd ps sp) (hr : Room k X.A) (hb : Binds X.K fd ps []) (hx : Passes CX X E) (ho : PE X (.Name x p) te) (ha : PA X (e :: es) t)
    (he : starEach (e :: es) X.env = (false, eval e X.env) :: starEach es X.env := by rfl) (hpl : (backTo pos (starEach es X.env)).any (·.1) = false := by rfl) :
    PE X (.Call (.Name x p) (e :: es) [] pos) (tCallO C sp E te t) := by
  refine ⟨fun pins s σ H Q I h => wpAny_Call_NameR (thn (ho.run pins s σ H _ I h) fun u s1 hh => ?_)⟩
  obtain ⟨y, H1, I1, ry, a, rfl, h⟩ := hh
  obtain rfl : u = Value.ref a := ry
  have hr0 := ha.run pos pins s1 σ H1 _ I1 h
  have eb : backTo pos (starEach (e :: es) X.env) = (false, eval e X.env) :: backTo pos (starEach es X.env) := by rw [he]; rfl
  rw [eb] at hr0 ⊢
  refine callWith_o (C := C) (by rw [List.any_cons, hpl]; rfl) (Calls.evalArgs_plain (thn hr0 fun us s2 hh => ?_))
  obtain ⟨vs, H2, I2, rv, ⟨dx, fs, ea⟩, hq⟩ := hh
  obtain ⟨mA, O, _⟩ := ins_get I2.hok ea
  obtain ⟨od, J, _⟩ := ObjM.look O
  have hl : (Value.ref a :: us).length = ps.length := by
    have := F.len _ _ _ _ hq
    rw [← this, List.length_cons, List.length_cons, Vals.length rv]
  refine ⟨⟨_, _, J, rfl⟩, wpAny_call (PySem.W.kco_code I2.kIn J rfl at_ fn fi (codeAny_mono (F.run X.A X.stack s2 H2 ⟨.ref a :: us, []⟩ (.ref a :: us) (.ref a :: vs) Q E hr I2.env0 ?_ (Paired.cons rfl rv) hq) fun res s' hcr => ?_))⟩
  · have := hb s2 (.ref a :: us) I2.kIn (by rw [List.append_nil]; exact hl)
    rw [List.append_nil] at this
    exact this
  · cases res with
    | error er => exact hx pins σ H2 s2 er s' I2 hcr
    | ok fl =>
      cases fl with
      | ret v => exact I2.after hcr
      | next => exact hcr.elim
      | brk => exact hcr.elim
      | cont => exact hcr.elim
end Sc
namespace Sc
open PySem PySem.Spec PyProof.Rows L2
/-- the class Condition as its users see it -/
structure CondX (P : Program) (w : World) (K : PySem.W.Frag) (mg : Str → Option Value) (base : Heap) (C CC CN : Addr) : Prop where
  cls : Cls K C
  isi : IsiC K C
  holding : ∃ p g fd, PropC P w K mg base C p g fd "holding" "_holding"
  failing : ∃ p g fd, PropC P w K mg base C p g fd "failing" "_failing"
  names : ∃ p g fd, PropC P w K mg base C p g fd "names" "_names"
  call : ∃ g fd, PySem.W.findIn K (.ref C) "__call__" = some (some (.ref g)) ∧ PySem.W.isFn K (.ref g) = true ∧ PySem.W.fnIn K g = true ∧ FnOk P w K mg base CX0 1 g fd ["self", "case"] (sp_ccall K C) ∧ Binds K fd ["self", "case"] []
  eq : ∃ g fd, PySem.W.findIn K (.ref C) "__eq__" = some (some (.ref g)) ∧ PySem.W.isFn K (.ref g) = true ∧ FnOk P w K mg base CX0 1 g fd ["self", "other"] (sp_ceq K C) ∧ Binds K fd ["self", "other"] []
  ne : PySem.W.findIn K (.ref C) "__ne__" = some (some (.builtin "object.__ne__"))
  and_ : PySem.W.selfFirst K C = true ∧ ∃ g fd, PySem.W.findIn K (.ref C) "__and__" = some (some (.ref g)) ∧ PySem.W.isFn K (.ref g) = true ∧ FnOk P w K mg base (L2.CX P w) 6 g fd ["self", "other"] (sp_cand K C CC CN) ∧ Binds K fd ["self", "other"] []
  within_ : ∃ g fd, Meth K C "within" g ∧ FnOk P w K mg base CX0 3 g fd ["self", "other"] (sp_within K C) ∧ Binds K fd ["self", "other"] []
section
variable {X : Cx} {C CC CN : Addr} {e o : Expr} {es : List Expr} {ta te : TE} {t : TA} {x : Str} {p pos apos : Pos} {E : XK}
theorem pe_cprop {f n : Str} (M : ∃ p g fd, PropC X.prog X.w X.K X.mg X.base C p g fd n f) (c : Cls X.K C) (hr : Room 2 X.A) (he : PE X e ta) (hab : attributeBase e n X.env (eval e X.env) = eval e X.env := by rfl) : PE X (.Attribute e n pos) (tProp C (sp_prop C f) [] E0 ta) := by
  obtain ⟨p, g, fd, h1, h2, h3⟩ := M
  exact pe_prop he c h1 h2 hr h3 .nil pass0 hab
theorem pe_cc (M : CondX X.prog X.w X.K X.mg X.base C CC CN) (hr : Room 1 X.A) (ho : PE X (.Name x p) te) (ha : PA X (e :: es) t)
    (he : starEach (e :: es) X.env = (false, eval e X.env) :: starEach es X.env := by rfl) (hpl : (backTo pos (starEach es X.env)).any (·.1) = false := by rfl) : PE X (.Call (.Name x p) (e :: es) [] pos) (tCallO C (sp_ccall X.K C) E0 te t) := by
  obtain ⟨g, fd, h1, h2, h3, F, hb⟩ := M.call
  exact pe_callO h1 h2 h3 F hr hb pass0 ho ha he hpl
theorem op_ceq (M : CondX X.prog X.w X.K X.mg X.base C CC CN) (hr : Room 1 X.A) : OpR X (compareOp .Eq) (rEqO X.K C (sp_ceq X.K C) E0) := by
  obtain ⟨g, fd, h1, h2, F, hb⟩ := M.eq
  exact op_eqO h1 h2 F hr hb pass0
theorem op_cne (M : CondX X.prog X.w X.K X.mg X.base C CC CN) (hr : Room 2 X.A) : OpR X (compareOp .NotEq) (rNeO X.K C (sp_ceq X.K C) E0) := by
  obtain ⟨g, fd, h1, h2, F, hb⟩ := M.eq
  exact op_neO M.isi.cm M.ne h1 h2 F hr hb pass0
theorem op_candN (M : CondX X.prog X.w X.K X.mg X.base C CC CN) (hr : Room 6 X.A) : OpR X (binaryOp .BitAnd) (rBinO C (sp_cand X.K C CC CN) E0) := by
  obtain ⟨h0, g, fd, h1, h2, F, hb⟩ := M.and_
  exact op_binO h0 h1 h2 F hr hb passL
theorem op_candX (M : CondX X.prog X.w X.K X.mg X.base C CC CN) (hr : Room 6 X.A) (tk : Takes X (fun cls d _ H => E cls d H)) : OpR X (binaryOp .BitAnd) (rBinO C (sp_cand X.K C CC CN) E) := by
  obtain ⟨h0, g, fd, h1, h2, F, hb⟩ := M.and_
  exact op_binO h0 h1 h2 F hr hb (fun pins σ H s e s' I h => passAt tk σ pins H s e s' I h)
theorem pe_cwithin {pl : Sem Bool} (M : CondX X.prog X.w X.K X.mg X.base C CC CN) (hr : Room 3 X.A) (he : PE X o ta) (ha : PA X (e :: es) t)
    (hst : starEach (e :: es) X.env = (false, eval e X.env) :: starEach es X.env := by rfl) (hpl : (backTo pos (starEach es X.env)).any (·.1) = false := by rfl)
    (ht : eval (.Call (.Attribute o "within" apos) (e :: es) [] pos) X.env = (do
      let ov ← eval o X.env
      standAt apos.atName
      let (f, first) ← holding [ov] (getMethod ov "within" pl)
      callWith pos f first (backTo pos (starEach (e :: es) X.env)) (backToKw pos (keywordEach [] X.env))) := by rfl) : PE X (.Call (.Attribute o "within" apos) (e :: es) [] pos) (tMeth C "within" (sp_within X.K C) [] E0 ta t) := by
  obtain ⟨g, fd, h1, F, hb⟩ := M.within_
  exact pe_meth he M.cls h1 F hr hb .nil pass0 ha hst hpl ht
end
end Sc
namespace Sc
open PySem PySem.Spec PyProof.Rows L2
theorem wk_ps {X : Cx} {st : Stmt} {t : TS} (t' : TS) (h : PS X st t) (w : ∀ D σ H, t' D σ H → t D σ H) : PS X st t' := ⟨fun pins s σ H D I x => h.run pins s σ H D I (w D σ H x)⟩
/-! ### rules as data -/
inductive All2 {α β : Type} (R : α → β → Prop) : List α → List β → Prop where
  | nil : All2 R [] []
  | cons {a : α} {b : β} {as : List α} {bs : List β} (h : R a b) (t : All2 R as bs) : All2 R (a :: as) (b :: bs)
namespace All2
variable {α β : Type} {R S : α → β → Prop} {as as' : List α} {bs bs' : List β}
theorem len (h : All2 R as bs) : as.length = bs.length := by
  induction h with
  | nil => rfl
  | cons _ _ ih => rw [List.length_cons, List.length_cons, ih]
theorem mono (h : All2 R as bs) (f : ∀ a b, R a b → S a b) : All2 S as bs := by
  induction h with
  | nil => exact .nil
  | cons h _ ih => exact .cons (f _ _ h) ih
theorem monoM (h : All2 R as bs) (f : ∀ a b, b ∈ bs → R a b → S a b) : All2 S as bs := by
  induction h with
  | nil => exact .nil
  | cons h _ ih => exact .cons (f _ _ List.mem_cons_self h) (ih fun a b m => f a b (List.mem_cons_of_mem _ m))
theorem app (h : All2 R as bs) (k : All2 R as' bs') : All2 R (as ++ as') (bs ++ bs') := by
  induction h with
  | nil => exact k
  | cons h _ ih => exact .cons h ih
theorem one {a : α} {b : β} (h : R a b) : All2 R [a] [b] := .cons h .nil
theorem snoc {a : α} {b : β} (h : All2 R as bs) (r : R a b) : All2 R (as ++ [a]) (bs ++ [b]) := h.app (one r)
theorem get (h : All2 R as bs) : ∀ {i : Nat} {a : α}, as[i]? = some a → ∃ b, bs[i]? = some b ∧ R a b := by
  induction h with
  | nil => intro i a e; cases i <;> cases e
  | cons h _ ih =>
    intro i a e
    cases i with
    | zero => cases e; exact ⟨_, rfl, h⟩
    | succ i => exact ih e
theorem get' (h : All2 R as bs) : ∀ {i : Nat} {b : β}, bs[i]? = some b → ∃ a, as[i]? = some a ∧ R a b := by
  induction h with
  | nil => intro i a e; cases i <;> cases e
  | cons h _ ih =>
    intro i a e
    cases i with
    | zero => cases e; exact ⟨_, rfl, h⟩
    | succ i => exact ih e
theorem at' (h : All2 R as bs) {i : Nat} (hi : i < bs.length) : ∃ a, as[i]? = some a ∧ R a bs[i] := h.get' (List.getElem?_eq_getElem hi)
end All2
/-- a row of rules, each with its exceptions -/
inductive RF where
  | nil : RF
  | cons (nm : Str) (hs fs : List Str) (rl : Str) (exc rest : RF) : RF
structure Nd where
  nm : Str
  hs : List Str
  fs : List Str
  rl : Str
  exc : RF
namespace RF
def nodes : RF → List Nd
  | .nil => []
  | .cons nm hs fs rl exc rest => ⟨nm, hs, fs, rl, exc⟩ :: rest.nodes
def dep : RF → Nat
  | .nil => 0
  | .cons _ _ _ _ exc rest => max (exc.dep + 1) rest.dep
def size : RF → Nat
  | .nil => 0
  | .cons _ _ _ _ exc rest => exc.size + 1 + rest.size
/-- all rules by their numbers, and within how many they stand -/
def pre : RF → Nat → List (Nd × Nat)
  | .nil, _ => []
  | .cons nm hs fs rl exc rest, k => (⟨nm, hs, fs, rl, exc⟩, k) :: (exc.pre (k + 1) ++ rest.pre k)
def ofNodes : List Nd → RF
  | [] => .nil
  | n :: r => .cons n.nm n.hs n.fs n.rl n.exc (ofNodes r)
theorem nodes_of : ∀ ns : List Nd, (ofNodes ns).nodes = ns
  | [] => rfl
  | n :: r => by show n :: (ofNodes r).nodes = n :: r; rw [nodes_of r]
theorem of_nodes : ∀ f : RF, ofNodes f.nodes = f
  | .nil => rfl
  | .cons nm hs fs rl exc rest => by show RF.cons nm hs fs rl exc (ofNodes rest.nodes) = _; rw [of_nodes rest]
theorem pre_nodes : ∀ (f : RF) (k : Nat), f.pre k = f.nodes.flatMap fun n => (n, k) :: n.exc.pre (k + 1)
  | .nil, _ => rfl
  | .cons nm hs fs rl exc rest, k => by
    show (_, k) :: (exc.pre (k + 1) ++ rest.pre k) = _
    rw [pre_nodes rest k]
    rfl
theorem pre_len : ∀ (f : RF) (k : Nat), (f.pre k).length = f.size
  | .nil, _ => rfl
  | .cons nm hs fs rl exc rest, k => by
    show ((_, k) :: (exc.pre (k + 1) ++ rest.pre k)).length = exc.size + 1 + rest.size
    rw [List.length_cons, List.length_append, pre_len exc, pre_len rest]
    omega
theorem dep_nil : ∀ f : RF, f.dep = 0 → f = .nil
  | .nil, _ => rfl
  | .cons _ _ _ _ exc rest, h => by
    have h : max (exc.dep + 1) rest.dep = 0 := h
    omega
theorem dep_mem : ∀ (f : RF) (n : Nd), n ∈ f.nodes → n.exc.dep + 1 ≤ f.dep
  | .nil, n, h => nomatch h
  | .cons nm hs fs rl exc rest, n, h => by
    show _ ≤ max (exc.dep + 1) rest.dep
    rcases List.mem_cons.mp h with rfl | h
    · exact Nat.le_max_left _ _
    · exact Nat.le_trans (dep_mem rest n h) (Nat.le_max_right _ _)
theorem dep_le : ∀ (f : RF) (d : Nat), (∀ n ∈ f.nodes, n.exc.dep + 1 ≤ d) → f.dep ≤ d
  | .nil, d, _ => Nat.zero_le d
  | .cons nm hs fs rl exc rest, d, h => by
    show max (exc.dep + 1) rest.dep ≤ d
    exact Nat.max_le.mpr ⟨h _ List.mem_cons_self, dep_le rest d fun n m => h n (List.mem_cons_of_mem _ m)⟩
theorem size_mem : ∀ (f : RF) (n : Nd), n ∈ f.nodes → n.exc.size + 1 ≤ f.size
  | .nil, n, h => nomatch h
  | .cons nm hs fs rl exc rest, n, h => by
    show _ ≤ exc.size + 1 + rest.size
    rcases List.mem_cons.mp h with rfl | h
    · show exc.size + 1 ≤ _
      omega
    · have := size_mem rest n h
      omega
theorem nodes_le : ∀ f : RF, f.nodes.length ≤ f.size
  | .nil => Nat.le_refl 0
  | .cons nm hs fs rl exc rest => by
    show rest.nodes.length + 1 ≤ exc.size + 1 + rest.size
    have := nodes_le rest
    omega
/-- the names of all rules, by their numbers -/
def names (f : RF) : List Str := (f.pre 0).map fun p => p.1.nm
theorem pre_names : ∀ (f : RF) (k : Nat), (f.pre k).map (fun p => p.1.nm) = f.names
  | .nil, _ => rfl
  | .cons nm hs fs rl exc rest, k => by
    unfold names
    show nm :: ((exc.pre (k + 1) ++ rest.pre k).map fun p => p.1.nm) = nm :: ((exc.pre (0 + 1) ++ rest.pre 0).map fun p => p.1.nm)
    rw [List.map_append, List.map_append, pre_names exc, pre_names exc, pre_names rest, pre_names rest]
/-- the first rules of a row, with their exceptions, by their numbers -/
def preL (ns : List Nd) (k : Nat) : List (Nd × Nat) := ns.flatMap fun n => (n, k) :: n.exc.pre (k + 1)
theorem preL_more {f : RF} {i k : Nat} {n : Nd} (h : f.nodes[i]? = some n) : preL (f.nodes.take (i + 1)) k = preL (f.nodes.take i) k ++ ((n, k) :: n.exc.pre (k + 1)) := by
  unfold preL
  rw [take_more h, List.flatMap_append]
  simp
theorem preL_all {f : RF} {k : Nat} : preL (f.nodes.take f.nodes.length) k = f.pre k := by
  rw [List.take_length, pre_nodes]
  rfl
theorem preL_len {f : RF} {i k : Nat} : (preL (f.nodes.take i) k).length ≤ f.size := by
  have e : preL f.nodes k = preL (f.nodes.take i) k ++ preL (f.nodes.drop i) k := by
    unfold preL
    rw [← List.flatMap_append, List.take_append_drop]
  have e2 : (preL f.nodes k).length = f.size := by
    rw [← pre_len f k, pre_nodes]
    rfl
  rw [← e2, e, List.length_append]
  exact Nat.le_add_right _ _
end RF
/-! ### where they stand -/
/-- an object that is made, to its last field -/
def DoneF (fs : List (Str × V)) : Bool := (fs.lookup ("_inside" : Str)).isSome || ((fs.lookup ("_names" : Str)).isSome || (fs.lookup ("_numbered" : Str)).isSome)
/-- what steps that change only lists of the law's own, or an object that is being made, leave as it is -/
def Stays (N : Addr → Prop) (b : Addr) (o : HO) : Prop := (∀ xs, o = .lst xs → N b) ∧ (∀ C dx fs, o = .ins C dx fs → DoneF fs = true) ∧ ∀ ps, o ≠ .tbl ps
def Keeps (N : Addr → Prop) (H H' : Hp) : Prop := ∀ b o, Stays N b o → H b = some o → H' b = some o
section
variable {K : PySem.W.Frag} {C R : Addr} {N : Addr → Prop} {H H' H'' : Hp}
theorem _root_.L2.Same.keeps (s : Same H H') : Keeps N H H' := fun b o _ e => s b o e
theorem Keeps.trans (h : Keeps N H H') (k : Keeps N H' H'') : Keeps N H H'' := fun b o st e => k b o st (h b o st e)
theorem Kp.keeps {a l : Addr} (k : Kp a l H H') (na : ¬ N a) (nl : ¬ N l) : Keeps N H H' := fun b o st e => by
  by_cases z : ∃ xs, o = .lst xs
  · obtain ⟨xs, rfl⟩ := z
    have := st.1 xs rfl
    exact k.keep b _ (fun z => na (z ▸ this)) (fun z => nl (z ▸ this)) e
  · exact k.obj e fun xs z2 => z ⟨xs, z2⟩
theorem SameX.keeps {x dx : Addr} {fs : List (Str × V)} (s : SameX x H H') (e : H x = some (.ins R dx fs)) (n : DoneF fs = false := by rfl) : Keeps N H H' := fun b o st h => s b o (fun z => by rw [z, e] at h; exact Bool.noConfusion (n.symm.trans (st.2.1 R dx fs (Option.some.inj h).symm))) h
/-- an object that is being made changes -/
theorem keeps_make {x dx : Addr} {fs : List (Str × V)} {o : HO} (e : H x = some (.ins R dx fs)) (n : DoneF fs = false := by rfl) : Keeps N H (upd H x o) := SameX.keeps (fun b o' ne h => by rw [upd_ne ne]; exact h) e n
theorem stays_tup {b : Addr} {xs : List V} : Stays N b (.tup xs) := ⟨(fun _ z => nomatch z), (fun _ _ _ z => nomatch z), (fun _ z => nomatch z)⟩
theorem stays_ins {b C dx : Addr} {fs : List (Str × V)} (h : DoneF fs = true := by rfl) : Stays N b (.ins C dx fs) := ⟨(fun _ z => nomatch z), (fun _ _ _ z => by cases z; exact h), (fun _ z => nomatch z)⟩
theorem stays_lst {b : Addr} {xs : List V} (h : N b) : Stays N b (.lst xs) := ⟨(fun _ _ => h), (fun _ _ _ z => nomatch z), (fun _ z => nomatch z)⟩
theorem Keeps.tup {b : Addr} {xs : List V} (k : Keeps N H H') (h : SqT K H b xs) : SqT K H' b xs := by
  rcases h with (h | ⟨o, h⟩) | h
  · exact .inl (.inl (k _ _ stays_tup h))
  · exact .inl (.inr ⟨o, k _ _ ⟨(fun _ z => nomatch z), (fun _ _ _ z => nomatch z), (fun _ z => nomatch z)⟩ h⟩)
  · exact .inr h
theorem CondAt.keeps {o : Addr} {hs fs : List Str} (h : CondAt K C H o hs fs) (k : Keeps N H H') : CondAt K C H' o hs fs := by
  obtain ⟨dx, a, b, n, zs, h1, h2, h3, h4, h5⟩ := h.at_
  exact ⟨dx, a, b, n, zs, k _ _ stays_ins h1, k.tup h2, k.tup h3, k _ _ stays_tup h4, h5⟩
/-- the fields of a rule -/
def ruleF (nm : Str) (c : Addr) (rl : Str) (p : Addr) (d : Int) (l : Addr) : List (Str × V) :=
  putF "_inside" (.ref l) (putF "_depth" (.int d) (putF "_exceptions" (.ref p) (putF "_ruling" (.str rl) (putF "_condition" (.ref c) (putF "_name" (.str nm) [])))))
def ForAt (K : PySem.W.Frag) (C R : Addr) (N : Addr → Prop) (H : Hp) : RF → List V → Prop
  | .nil, vs => vs = []
  | .cons nm hs fs rl exc rest, vs => ∃ (o dx c p l : Addr) (ws vs' : List V), vs = .ref o :: vs' ∧ H o = some (.ins R dx (ruleF nm c rl p ((exc.dep + 1 : Nat) : Int) l)) ∧ CondAt K C H c hs fs ∧ SqT K H p ws ∧ (N l ∧ H l = some (.lst ((nm :: exc.names).map V.str))) ∧
      ForAt K C R N H exc ws ∧ ForAt K C R N H rest vs'
def NdAt (K : PySem.W.Frag) (C R : Addr) (N : Addr → Prop) (H : Hp) (o : Addr) (n : Nd) : Prop := ∃ (dx c p l : Addr) (ws : List V), H o = some (.ins R dx (ruleF n.nm c n.rl p ((n.exc.dep + 1 : Nat) : Int) l)) ∧ CondAt K C H c n.hs n.fs ∧ SqT K H p ws ∧ (N l ∧ H l = some (.lst ((n.nm :: n.exc.names).map V.str))) ∧ ForAt K C R N H n.exc ws
def RefAt (K : PySem.W.Frag) (C R : Addr) (N : Addr → Prop) (H : Hp) (v : V) (n : Nd) : Prop := ∃ o, v = .ref o ∧ NdAt K C R N H o n
theorem stays_rule {b : Addr} {dx c p l : Addr} {nm rl : Str} {d : Int} : Stays N b (.ins R dx (ruleF nm c rl p d l)) := stays_ins
theorem ForAt.keeps (k : Keeps N H H') : ∀ {f : RF} {vs : List V}, ForAt K C R N H f vs → ForAt K C R N H' f vs
  | .nil, _, h => h
  | .cons nm hs fs rl exc rest, vs, h => by
    obtain ⟨o, dx, c, p, l, ws, vs', e, h1, h2, h3, ⟨h4, h5⟩, h6, h7⟩ := h
    exact ⟨o, dx, c, p, l, ws, vs', e, k _ _ stays_rule h1, h2.keeps k, k.tup h3, ⟨h4, k _ _ (stays_lst h4) h5⟩, ForAt.keeps k h6, ForAt.keeps k h7⟩
theorem NdAt.keeps {o : Addr} {n : Nd} (h : NdAt K C R N H o n) (k : Keeps N H H') : NdAt K C R N H' o n := by
  obtain ⟨dx, c, p, l, ws, h1, h2, h3, ⟨h4, h5⟩, h6⟩ := h
  exact ⟨dx, c, p, l, ws, k _ _ stays_rule h1, h2.keeps k, k.tup h3, ⟨h4, k _ _ (stays_lst h4) h5⟩, h6.keeps k⟩
theorem RefAt.keeps {v : V} {n : Nd} (h : RefAt K C R N H v n) (k : Keeps N H H') : RefAt K C R N H' v n := by
  obtain ⟨o, e, h⟩ := h
  exact ⟨o, e, h.keeps k⟩
theorem ForAt.all : ∀ {f : RF} {vs : List V}, ForAt K C R N H f vs → All2 (RefAt K C R N H) vs f.nodes
  | .nil, _, h => by
    obtain rfl : _ = [] := h
    exact .nil
  | .cons nm hs fs rl exc rest, vs, h => by
    obtain ⟨o, dx, c, p, l, ws, vs', rfl, h1, h2, h3, h4, h6, h7⟩ := h
    exact .cons ⟨o, rfl, dx, c, p, l, ws, h1, h2, h3, h4, h6⟩ h7.all
theorem ForAt.of : ∀ {f : RF} {vs : List V}, All2 (RefAt K C R N H) vs f.nodes → ForAt K C R N H f vs
  | .nil, _, h => by
    cases h
    rfl
  | .cons nm hs fs rl exc rest, vs, h => by
    cases h with
    | cons h t =>
      obtain ⟨o, rfl, dx, c, p, l, ws, h1, h2, h3, h4, h6⟩ := h
      exact ⟨o, dx, c, p, l, ws, _, rfl, h1, h2, h3, h4, h6, ForAt.of t⟩
theorem ForAt.len {f : RF} {vs : List V} (h : ForAt K C R N H f vs) : vs.length = f.nodes.length := h.all.len
theorem ForAt.re {M : Addr → Prop} (g : ∀ b xs, N b → H b = some (.lst xs) → M b) : ∀ {f : RF} {vs : List V}, ForAt K C R N H f vs → ForAt K C R M H f vs
  | .nil, _, h => h
  | .cons nm hs fs rl exc rest, vs, h => by
    obtain ⟨o, dx, c, p, l, ws, vs', e, h1, h2, h3, ⟨h4, h5⟩, h6, h7⟩ := h
    exact ⟨o, dx, c, p, l, ws, vs', e, h1, h2, h3, ⟨g _ _ h4 h5, h5⟩, ForAt.re g h6, ForAt.re g h7⟩
theorem NdAt.re {M : Addr → Prop} (g : ∀ b xs, N b → H b = some (.lst xs) → M b) {o : Addr} {n : Nd} (h : NdAt K C R N H o n) : NdAt K C R M H o n := by
  obtain ⟨dx, c, p, l, ws, h1, h2, h3, ⟨h4, h5⟩, h6⟩ := h
  exact ⟨dx, c, p, l, ws, h1, h2, h3, ⟨g _ _ h4 h5, h5⟩, h6.re g⟩
/-- the addresses of N that are in use -/
def Used (N : Addr → Prop) (H : Hp) (b : Addr) : Prop := N b ∧ H b ≠ none
theorem ForAt.used {f : RF} {vs : List V} (h : ForAt K C R N H f vs) : ForAt K C R (Used N H) H f vs := h.re fun b xs n e => ⟨n, by rw [e]; exact fun z => nomatch z⟩
theorem used_not {D : Addr} (n : H D = none) : ¬ Used N H D := fun h => h.2 n
theorem SameX.keeps' {D : Addr} (s : SameX D H H') (n : ¬ N D) (z : ∀ o, H D = some o → ∃ xs, o = .lst xs) : Keeps N H H' := fun b o st h => s b o (fun e => by
  subst e
  obtain ⟨xs, rfl⟩ := z o h
  exact n (st.1 xs rfl)) h
/-- a list of one's own changes -/
theorem keeps_own {D : Addr} {xs : List V} {o : HO} (e : H D = some (.lst xs)) (n : ¬ N D) : Keeps N H (upd H D o) := SameX.keeps' (fun b o' ne h => by rw [upd_ne ne]; exact h) n fun o' h => by rw [e] at h; exact ⟨xs, (Option.some.inj h).symm⟩
/-- a list of tuples (rule, number of rules around) -/
def PairAt (K : PySem.W.Frag) (C R : Addr) (N : Addr → Prop) (H : Hp) (v : V) (n : Nd × Nat) : Prop := ∃ (t o : Addr), v = .ref t ∧ H t = some (.tup [.ref o, .int (n.2 : Nat)]) ∧ NdAt K C R N H o n.1
theorem PairAt.keeps {v : V} {n : Nd × Nat} (h : PairAt K C R N H v n) (k : Keeps N H H') : PairAt K C R N H' v n := by
  obtain ⟨t, o, e, h1, h2⟩ := h
  exact ⟨t, o, e, k _ _ stays_tup h1, h2.keeps k⟩
theorem PairAt.re {M : Addr → Prop} (g : ∀ b xs, N b → H b = some (.lst xs) → M b) {v : V} {n : Nd × Nat} (h : PairAt K C R N H v n) : PairAt K C R M H v n := by
  obtain ⟨t, o, e, h1, h2⟩ := h
  exact ⟨t, o, e, h1, h2.re g⟩
abbrev PreAt (K : PySem.W.Frag) (C R : Addr) (N : Addr → Prop) (H : Hp) (us : List V) (ps : List (Nd × Nat)) : Prop := All2 (PairAt K C R N H) us ps
theorem PreAt.keeps {us : List V} {ps : List (Nd × Nat)} (h : PreAt K C R N H us ps) (k : Keeps N H H') : PreAt K C R N H' us ps := h.mono fun _ _ x => x.keeps k
/-! ### the law's rows: tuples -/
def RowsAt (K : PySem.W.Frag) (H : Hp) : RF → List V → Prop
  | .nil, vs => vs = []
  | .cons nm hs fs rl exc rest, vs => ∃ (o w b p : Addr) (ws vs' : List V), vs = .ref o :: vs' ∧ SqT K H o [.str nm, .ref w, .ref b, .str rl, .ref p] ∧ SqT K H w (hs.map V.str) ∧ SqT K H b (fs.map V.str) ∧ SqT K H p ws ∧ RowsAt K H exc ws ∧ RowsAt K H rest vs'
def RowAt (K : PySem.W.Frag) (H : Hp) (v : V) (n : Nd) : Prop := ∃ (o w b p : Addr) (ws : List V), v = .ref o ∧ SqT K H o [.str n.nm, .ref w, .ref b, .str n.rl, .ref p] ∧ SqT K H w (n.hs.map V.str) ∧ SqT K H b (n.fs.map V.str) ∧ SqT K H p ws ∧ RowsAt K H n.exc ws
theorem RowsAt.keeps (k : Keeps N H H') : ∀ {f : RF} {vs : List V}, RowsAt K H f vs → RowsAt K H' f vs
  | .nil, _, h => h
  | .cons nm hs fs rl exc rest, vs, h => by
    obtain ⟨o, w, b, p, ws, vs', e, h1, h2, h3, h4, h6, h7⟩ := h
    exact ⟨o, w, b, p, ws, vs', e, k.tup h1, k.tup h2, k.tup h3, k.tup h4, RowsAt.keeps k h6, RowsAt.keeps k h7⟩
theorem RowAt.keeps {v : V} {n : Nd} (h : RowAt K H v n) (k : Keeps N H H') : RowAt K H' v n := by
  obtain ⟨o, w, b, p, ws, e, h1, h2, h3, h4, h6⟩ := h
  exact ⟨o, w, b, p, ws, e, k.tup h1, k.tup h2, k.tup h3, k.tup h4, h6.keeps k⟩
theorem RowsAt.all : ∀ {f : RF} {vs : List V}, RowsAt K H f vs → All2 (RowAt K H) vs f.nodes
  | .nil, _, h => by
    obtain rfl : _ = [] := h
    exact .nil
  | .cons nm hs fs rl exc rest, vs, h => by
    obtain ⟨o, w, b, p, ws, vs', rfl, h1, h2, h3, h4, h6, h7⟩ := h
    exact .cons ⟨o, w, b, p, ws, rfl, h1, h2, h3, h4, h6⟩ h7.all
theorem RowsAt.of : ∀ {f : RF} {vs : List V}, All2 (RowAt K H) vs f.nodes → RowsAt K H f vs
  | .nil, _, h => by
    cases h
    rfl
  | .cons nm hs fs rl exc rest, vs, h => by
    cases h with
    | cons h t =>
      obtain ⟨o, w, b, p, ws, rfl, h1, h2, h3, h4, h6⟩ := h
      exact ⟨o, w, b, p, ws, _, rfl, h1, h2, h3, h4, h6, RowsAt.of t⟩
theorem RowsAt.len {f : RF} {vs : List V} (h : RowsAt K H f vs) : vs.length = f.nodes.length := h.all.len
end
end Sc
namespace Sc
open PySem PySem.Spec PyProof.Rows L2
/-! ### rules -/
/-- a getter as its users see it -/
abbrev PropX (P : Program) (w : World) (K : PySem.W.Frag) (mg : Str → Option Value) (base : Heap) (C : Addr) (n f : Str) : Prop := ∃ p g fd, PropC P w K mg base C p g fd n f
/-- the class Rule as its users see it -/
structure RuleX (P : Program) (w : World) (K : PySem.W.Frag) (mg : Str → Option Value) (base : Heap) (R : Addr) : Prop where
  cls : Cls K R
  name : PropX P w K mg base R "name" "_name"
  condition : PropX P w K mg base R "condition" "_condition"
  ruling : PropX P w K mg base R "ruling" "_ruling"
  exceptions : PropX P w K mg base R "exceptions" "_exceptions"
  depth : PropX P w K mg base R "depth" "_depth"
/-- the getters of a condition -/
structure CondG (P : Program) (w : World) (K : PySem.W.Frag) (mg : Str → Option Value) (base : Heap) (C : Addr) : Prop where
  cls : Cls K C
  holding : PropX P w K mg base C "holding" "_holding"
  failing : PropX P w K mg base C "failing" "_failing"
  names : PropX P w K mg base C "names" "_names"
def Below (S : Nat → Sp) : Nat → Sp
  | 0 => fun _ _ _ _ => False
  | d + 1 => S d
theorem sc_nested : FnScope ["rules", "around", "found", "rule"] ["rules", "around"] (defScope s_nested) := ⟨rfl, rfl, rfl, by decide +kernel, rfl, by decide +kernel, by decide +kernel⟩
section
variable {P : Program} {w : World} {K : PySem.W.Frag} {mg : Str → Option Value} {base : Heap} {C R : Addr}
theorem FnOk.never {CX : CXT} {k : Nat} {f : Addr} {fd : FuncData} {ps : List Str} : FnOk P w K mg base CX k f fd ps (fun _ _ _ _ => False) := ⟨fun _ _ _ _ h => h.elim, fun _ _ _ _ _ _ _ _ _ _ _ _ _ h => h.elim⟩
def sp_nested (K : PySem.W.Frag) (C R : Addr) (d : Nat) : Sp := fun vs H Q _ => ∃ (N : Addr → Prop) (p : Addr) (k : Nat) (ws : List V) (f : RF), vs = [.ref p, .int (k : Nat)] ∧ SqT K H p ws ∧ ForAt K C R N H f ws ∧ f.dep ≤ d ∧ f.size ≤ 900 ∧
  ∀ H' D us, Same H H' → H D = none → H' D = some (.lst us) → PreAt K C R N H' us (f.pre k) → Q (.ref D) H'
theorem ok_nested {d : Nat} {f : Addr} {fd : FuncData} (F : Fun K "nested" "nested" s_nested f fd) (kR : RuleX P w K mg base R) (c_nested : Cal P w K mg base CX0 (d + 2) "nested" ["rules", "around"] (Below (sp_nested K C R) d)) :
    FnOk P w K mg base CX0 (d + 3) f fd ["rules", "around"] (sp_nested K C R d) := by
  refine F.ok sc_nested (fun vs H Q E h => by obtain ⟨N, p, k, ws, f, rfl, _⟩ := h; rfl) (fun cdv A outer s H vs Q E hr h => ?_)
  obtain ⟨N, p, k, ws, f, rfl, hP, hF, hd, hz, q⟩ := h
  have hA := hF.used.all
  have hln := hA.len
  have hlz := RF.nodes_le f
  refine ⟨_, (pss_cons (ps_set (i := 2) sc_nested.nd rfl (Or.inl rfl) (pe_lst pa_nil))
      (pss_cons (ps_for PassesOwn.never rfl (pi_tup (pv 0)) (pg_name (i := 3) sc_nested.nd rfl (Or.inl rfl)) (pss_cons (ps_expr (pe_bm PySem.F.plainAttrs_list PySem.F.slot_list_append PySem.F.type_list_append mt_append (pv 2) (pa_cons (pe_tup (pa_cons (pv 3) (pa_cons (pv 1) pa_nil))) pa_nil)))
      (pss_one (ps_expr (pe_bm PySem.F.plainAttrs_list PySem.F.slot_list_extend PySem.F.type_list_extend mt_extend (pv 2) (pa_cons (pe_cal c_nested hr (pa_cons (pe_cprop kR.exceptions kR.cls (hr.mono (by omega)) (pv 3)) (pa_cons (pe_op op_add (pv 1) pe_int) pa_nil))) pa_nil))))))
      (pss_one (ps_ret (pv 2))))), ?_⟩
  refine ⟨Nat.zero_le _, fun D nD => ⟨_, rfl, p, rfl, ⟨_, ((Same.refl H).put nD).tup hP⟩, for_it walk_tup (fun i σ H' => ∃ us y, σ = [some (.ref p), some (.int (k : Nat)), some (.ref D), y] ∧ Same H H' ∧ H' D = some (.lst us) ∧ PreAt K C R (Used N H) H' us (RF.preL (f.nodes.take i) k))
    ⟨[], none, rfl, (Same.refl H).put nD, upd_same, .nil⟩ (fun _ _ _ _ ⟨_, _, _, s, _⟩ => s.tup hP) ?_ ?_⟩⟩
  · rintro i y σ H3 H2 hi ⟨us, y', rfl, s, e, hu⟩ ⟨rfl, hy⟩
    have nU := used_not (N := N) nD
    obtain ⟨n, hn, o, rfl, hN⟩ := hA.get hy
    have hmem : n ∈ f.nodes := List.mem_of_getElem? hn
    have hdm := RF.dep_mem f n hmem
    have hsm := RF.size_mem f n hmem
    obtain ⟨d, rfl⟩ : ∃ d', d = d' + 1 := ⟨d - 1, by omega⟩
    have hul := hu.len
    have hpl := RF.preL_len (f := f) (i := i) (k := k)
    have hpl2 := RF.preL_len (f := f) (i := i + 1) (k := k)
    rw [RF.preL_more hn, List.length_append, List.length_cons, RF.pre_len] at hpl2
    refine ⟨_, rfl, .inl ⟨rfl, _, sqL_of e⟩, _, rfl, _, rfl, (by show 2 ≤ sizeLine; decide), fun t nt => ?_⟩
    have s3 := s.put' (o := .tup [.ref o, .int (k : Nat)]) nt
    have e3 : (upd H2 t (.tup [.ref o, .int (k : Nat)])) D = some (.lst us) := by rw [upd_ne (ne_of_none e nt)]; exact e
    have t3 : (upd H2 t (.tup [.ref o, .int (k : Nat)])) t = some (.tup [.ref o, .int (k : Nat)]) := upd_same
    have s23 : Same H2 (upd H2 t (.tup [.ref o, .int (k : Nat)])) := (Same.refl H2).put nt
    have hu3 := hu.keeps s23.keeps
    clear s23
    generalize upd H2 t (.tup [.ref o, .int (k : Nat)]) = H3 at s3 e3 t3 hu3 ⊢
    refine ⟨D, _, _, rfl, rfl, e3, small1000 (by omega), ?_⟩
    have s4 : Same H (upd H3 D (.lst (us ++ [.ref t]))) := s3.put nD
    have e4 : (upd H3 D (.lst (us ++ [.ref t]))) D = some (.lst (us ++ [.ref t])) := upd_same
    have tD : t ≠ D := fun z => by rw [z, e3] at t3; cases t3
    have hu4 : PreAt K C R (Used N H) (upd H3 D (.lst (us ++ [.ref t]))) (us ++ [.ref t]) (RF.preL (f.nodes.take i) k ++ [(n, k)]) :=
      (hu3.keeps (keeps_own e3 nU)).snoc ⟨t, o, rfl, by rw [upd_ne tD]; exact t3, hN.keeps s4.keeps⟩
    generalize upd H3 D (.lst (us ++ [.ref t])) = H4 at s4 e4 hu4 ⊢
    obtain ⟨dx, c, pe, l, ws', ho, hc, hpe, hl, hfe⟩ := hN
    refine ⟨_, rfl, .inl ⟨rfl, _, sqL_of e4⟩, _, rfl, o, dx, _, rfl, s4 _ _ ho, ⟨o, dx, _, _, rfl, s4 _ _ ho, rfl, ?_⟩⟩
    refine ⟨_, rfl, k, 1, rfl, rfl, ?_⟩
    refine ⟨_, pe, k + 1, ws', n.exc, rfl, s4.tup hpe, hfe.keeps s4.keeps, by omega, by omega, fun H5 D5 us5 s5 n5 e5 hu5 => ?_⟩
    have s45 := s4.trans s5
    have e45 := s5 _ _ e4
    refine ⟨D, D5, _, _, rfl, rfl, e45, e5, ?_, ?_⟩
    · have := hu5.len
      rw [RF.pre_len] at this
      have h4 := hu4.len
      rw [List.length_append (bs := [(n, k)]), List.length_singleton] at h4
      exact Nat.le_of_lt (small1000 (by omega))
    refine ⟨_, _, rfl, s45.put nD, upd_same, ?_⟩
    rw [RF.preL_more hn]
    have h1 := (hu4.keeps s5.keeps).app hu5
    have h2 := PreAt.keeps h1 (keeps_own (o := .lst (us ++ [.ref t] ++ us5)) e45 nU)
    rw [show RF.preL (f.nodes.take i) k ++ [(n, k)] ++ n.exc.pre (k + 1) = RF.preL (f.nodes.take i) k ++ ((n, k) :: n.exc.pre (k + 1)) by simp] at h2
    exact h2
  · rintro σ H2 ⟨us, y, rfl, s, e, hu⟩
    rw [hln, RF.preL_all] at hu
    exact ⟨_, rfl, q H2 D us s nD e (hu.mono fun _ _ x => x.re fun b xs h _ => h.1)⟩
end
end Sc
namespace Sc
open PySem PySem.Spec PyProof.Rows L2
/-! ### an object Rule -/
theorem sc_Rule___init__ : FnScope ["self", "name", "condition", "ruling", "exceptions", "rule", "_"] ["self", "name", "condition", "ruling", "exceptions"] (defScope s_Rule___init__) := ⟨rfl, rfl, rfl, by decide +kernel, rfl, by decide +kernel, by decide +kernel⟩
theorem sc_Rule_name : FnScope ["self"] ["self"] (defScope s_Rule_name) := ⟨rfl, rfl, rfl, by decide +kernel, rfl, by decide +kernel, by decide +kernel⟩
theorem sc_Rule_condition : FnScope ["self"] ["self"] (defScope s_Rule_condition) := ⟨rfl, rfl, rfl, by decide +kernel, rfl, by decide +kernel, by decide +kernel⟩
theorem sc_Rule_ruling : FnScope ["self"] ["self"] (defScope s_Rule_ruling) := ⟨rfl, rfl, rfl, by decide +kernel, rfl, by decide +kernel, by decide +kernel⟩
theorem sc_Rule_exceptions : FnScope ["self"] ["self"] (defScope s_Rule_exceptions) := ⟨rfl, rfl, rfl, by decide +kernel, rfl, by decide +kernel, by decide +kernel⟩
theorem sc_Rule_depth : FnScope ["self"] ["self"] (defScope s_Rule_depth) := ⟨rfl, rfl, rfl, by decide +kernel, rfl, by decide +kernel, by decide +kernel⟩
section
variable {P : Program} {w : World} {K : PySem.W.Frag} {mg : Str → Option Value} {base : Heap} {C R CR : Addr}
theorem ok_Rule_name {f : Addr} {fd : FuncData} (F : Fun K "name" "Rule.name" s_Rule_name f fd) (T : Cls K R) (n : NoAttr K R "_name") : FnOk P w K mg base CX0 1 f fd ["self"] (sp_prop R "_name") := by
  refine F.ok sc_Rule_name (fun vs H Q E h => by obtain ⟨x, dx, fs, v, rfl, _⟩ := h; rfl) (fun cdv A outer s H vs Q E hr h => ?_)
  obtain ⟨x, dx, fs, v, rfl, hx, hl, q⟩ := h
  exact ⟨_, (pss_one (ps_ret (pe_fld (pv 0) rfl))), ⟨_, rfl, x, R, dx, fs, v, rfl, hx, T, n, hl, q⟩⟩
theorem ok_Rule_condition {f : Addr} {fd : FuncData} (F : Fun K "condition" "Rule.condition" s_Rule_condition f fd) (T : Cls K R) (n : NoAttr K R "_condition") : FnOk P w K mg base CX0 1 f fd ["self"] (sp_prop R "_condition") := by
  refine F.ok sc_Rule_condition (fun vs H Q E h => by obtain ⟨x, dx, fs, v, rfl, _⟩ := h; rfl) (fun cdv A outer s H vs Q E hr h => ?_)
  obtain ⟨x, dx, fs, v, rfl, hx, hl, q⟩ := h
  exact ⟨_, (pss_one (ps_ret (pe_fld (pv 0) rfl))), ⟨_, rfl, x, R, dx, fs, v, rfl, hx, T, n, hl, q⟩⟩
theorem ok_Rule_ruling {f : Addr} {fd : FuncData} (F : Fun K "ruling" "Rule.ruling" s_Rule_ruling f fd) (T : Cls K R) (n : NoAttr K R "_ruling") : FnOk P w K mg base CX0 1 f fd ["self"] (sp_prop R "_ruling") := by
  refine F.ok sc_Rule_ruling (fun vs H Q E h => by obtain ⟨x, dx, fs, v, rfl, _⟩ := h; rfl) (fun cdv A outer s H vs Q E hr h => ?_)
  obtain ⟨x, dx, fs, v, rfl, hx, hl, q⟩ := h
  exact ⟨_, (pss_one (ps_ret (pe_fld (pv 0) rfl))), ⟨_, rfl, x, R, dx, fs, v, rfl, hx, T, n, hl, q⟩⟩
theorem ok_Rule_exceptions {f : Addr} {fd : FuncData} (F : Fun K "exceptions" "Rule.exceptions" s_Rule_exceptions f fd) (T : Cls K R) (n : NoAttr K R "_exceptions") : FnOk P w K mg base CX0 1 f fd ["self"] (sp_prop R "_exceptions") := by
  refine F.ok sc_Rule_exceptions (fun vs H Q E h => by obtain ⟨x, dx, fs, v, rfl, _⟩ := h; rfl) (fun cdv A outer s H vs Q E hr h => ?_)
  obtain ⟨x, dx, fs, v, rfl, hx, hl, q⟩ := h
  exact ⟨_, (pss_one (ps_ret (pe_fld (pv 0) rfl))), ⟨_, rfl, x, R, dx, fs, v, rfl, hx, T, n, hl, q⟩⟩
theorem ok_Rule_depth {f : Addr} {fd : FuncData} (F : Fun K "depth" "Rule.depth" s_Rule_depth f fd) (T : Cls K R) (n : NoAttr K R "_depth") : FnOk P w K mg base CX0 1 f fd ["self"] (sp_prop R "_depth") := by
  refine F.ok sc_Rule_depth (fun vs H Q E h => by obtain ⟨x, dx, fs, v, rfl, _⟩ := h; rfl) (fun cdv A outer s H vs Q E hr h => ?_)
  obtain ⟨x, dx, fs, v, rfl, hx, hl, q⟩ := h
  exact ⟨_, (pss_one (ps_ret (pe_fld (pv 0) rfl))), ⟨_, rfl, x, R, dx, fs, v, rfl, hx, T, n, hl, q⟩⟩
theorem putF_le {f : Str} {v : V} {fs : List (Str × V)} {n : Nat} (h : fs.length ≤ n) : (putF f v fs).length ≤ n + 1 := Nat.le_trans (putF_len f v fs) (Nat.succ_le_succ h)
theorem SameX.refl {x : Addr} {H : Hp} : SameX x H H := fun _ _ _ e => e
theorem SameX.put {x : Addr} {H H' : Hp} {o : HO} (s : SameX x H H') : SameX x H (upd H' x o) := fun b o' ne e => by rw [upd_ne ne]; exact s b o' ne e
theorem SameX.same {x : Addr} {H H' H'' : Hp} (s : SameX x H H') (k : Same H' H'') : SameX x H H'' := fun b o ne e => k _ _ (s b o ne e)
theorem SameX.of {x : Addr} {H H' : Hp} (k : Same H H') : SameX x H H' := fun b o _ e => k _ _ e
theorem SameX.free {x l : Addr} {H H' : Hp} (s : SameX x H H') (ne : l ≠ x) (n : H' l = none) : H l = none := by
  cases e : H l with
  | none => rfl
  | some o => rw [s l o ne e] at n; cases n
theorem dep_is {f : RF} {m : Int} (hm : m ∈ (0 : Int) :: f.nodes.map fun n => ((n.exc.dep + 1 : Nat) : Int)) (hle : ∀ y, y ∈ ((0 : Int) :: f.nodes.map fun n => ((n.exc.dep + 1 : Nat) : Int)) → y ≤ m) : m = (f.dep : Nat) := by
  have h0 := hle 0 List.mem_cons_self
  obtain ⟨k, rfl⟩ := Int.eq_ofNat_of_zero_le h0
  have h1 : f.dep ≤ k := RF.dep_le f k fun n hn => by
    have := hle _ (List.mem_cons_of_mem _ (List.mem_map.mpr ⟨n, hn, rfl⟩))
    omega
  have h2 : k ≤ f.dep := by
    rcases List.mem_cons.mp hm with h | h
    · omega
    · obtain ⟨n, hn, e⟩ := List.mem_map.mp h
      have := RF.dep_mem f n hn
      omega
  omega
def errPt (C : Addr) (w : Str) (H : Hp) (E : XK) : Prop := ∀ H' d, Same H H' → H' d = none → E (.ref C) (some d) (upd H' d (.xd [(("part" : Str), .str w)]))
def sp_rule_init (K : PySem.W.Frag) (C R CR : Addr) : Sp := fun vs H Q E => ∃ (N : Addr → Prop) (x dx c p : Addr) (nm rl : Str) (ws : List V) (exc : RF), vs = [.ref x, .str nm, .ref c, .str rl, .ref p] ∧ H x = some (.ins R dx []) ∧ SqT K H p ws ∧ ForAt K C R N H exc ws ∧ nm.length ≤ 1000 ∧ rl.length ≤ 1000 ∧ exc.dep ≤ 12 ∧ exc.size ≤ 900 ∧
  (isName nm = false → errPt CR "name" H E) ∧ (isName nm = true → (isName rl = false → errPt CR "ruling" H E) ∧ (isName rl = true →
    ∀ H' l, SameX x H H' → H' x = some (.ins R dx (ruleF nm c rl p ((exc.dep + 1 : Nat) : Int) l)) → l ≠ x → H l = none → H' l = some (.lst ((nm :: exc.names).map V.str)) → Q .non H'))
theorem ok_rule_init {f : Addr} {fd : FuncData} (F : Fun K "__init__" "Rule.__init__" s_Rule___init__ f fd) (B : Blt mg) (T : Cls K R) (n1 : NoAttr K R "_name") (n2 : NoAttr K R "_condition") (n3 : NoAttr K R "_ruling") (n4 : NoAttr K R "_exceptions") (n5 : NoAttr K R "_depth") (n6 : NoAttr K R "_inside")
    (kR : RuleX P w K mg base R) (e_InvalidRule : ErrMk P w K mg base "InvalidRule" CR ["self", "part"] (sp_init1 CR "part")) (c_is_name : Cal P w K mg base CX0 1 "is_name" ["value"] sp_is_name) (c_nested : Cal P w K mg base CX0 15 "nested" ["rules", "around"] (sp_nested K C R 12)) :
    FnOk P w K mg base (L2.CX P w) 16 f fd ["self", "name", "condition", "ruling", "exceptions"] (sp_rule_init K C R CR) := by
  refine F.okX sc_Rule___init__ (fun vs H Q E h => by obtain ⟨N, x, dx, c, p, nm, rl, ws, exc, rfl, _⟩ := h; rfl) (fun cdv A outer s H vs Q E hr h => ?_)
  obtain ⟨N, x, dx, c, p, nm, rl, ws, exc, rfl, hx, hP, hF, ln, lr, hd, hz, e1, q⟩ := h
  refine ⟨_, (pss_cons (ps_if (pt_not (pt_val (pe_cal c_is_name (hr.mono (by decide)) (pa_cons (pv 1) pa_nil)))) (pss_one (ps_raise rfl (takes_of rfl rfl rfl rfl) (pmk_err1 e_InvalidRule (hr.mono (by decide)) pe_str))) pss_nil)
      (pss_cons (ps_if (pt_not (pt_val (pe_cal c_is_name (hr.mono (by decide)) (pa_cons (pv 3) pa_nil)))) (pss_one (ps_raise rfl (takes_of rfl rfl rfl rfl) (pmk_err1 e_InvalidRule (hr.mono (by decide)) pe_str))) pss_nil)
      (pss_cons (ps_fld (pv 0) (pv 1) rfl)
      (pss_cons (ps_fld (pv 0) (pv 2) rfl)
      (pss_cons (ps_fld (pv 0) (pv 3) rfl)
      (pss_cons (ps_fld (pv 0) (pv 4) rfl)
      (pss_cons (ps_fld (pv 0) (pe_op op_add pe_int (pe_callB (cr_max rfl) (by rfl) B.b_max PyProof.Rows.boot_max (pa_cons (pe_op op_cat (pe_lst (pa_cons pe_int pa_nil)) (pe_lc (own := [("rule", 5)]) (g := gName 5) (tt := tYes) rfl sc_Rule___init__.nd (pi_tup (pv 4)) (blkOk_by (own := [("rule", 5)]) (N := ["self", "name", "condition", "ruling", "exceptions", "rule", "_"]) (sc := defScope s_Rule___init__) (by decide +kernel)) (fun _ _ _ _ _ => (pg_name (i := 5) sc_Rule___init__.nd rfl (Or.inl rfl))) (fun _ _ _ _ _ => pts_nil) (fun _ _ _ _ _ => (pe_.re (pe_cprop kR.depth kR.cls (hr.mono (by decide)) (pv 5)) (by first | (dsimp only [Cx.blk]; done) | exact rfl))))) pa_nil))) rfl)
      (pss_one (ps_fld (pv 0) (pe_op op_cat (pe_lst (pa_cons (pv 1) pa_nil)) (pe_lc (own := [("rule", 5), ("_", 6)]) (g := gTup K 2 (gCons (gName 5) (gCons (gName 6) gNil))) (tt := tYes) rfl sc_Rule___init__.nd (pi_list (pe_cal c_nested (hr.mono (by decide)) (pa_cons (pv 4) (pa_cons pe_int pa_nil)))) (blkOk_by (own := [("rule", 5), ("_", 6)]) (N := ["self", "name", "condition", "ruling", "exceptions", "rule", "_"]) (sc := defScope s_Rule___init__) (by decide +kernel)) (fun _ _ _ _ _ => (pg_tup (by rfl) (pgs_cons (pg_name (i := 5) sc_Rule___init__.nd rfl (Or.inl rfl)) (pgs_cons (pg_name (i := 6) sc_Rule___init__.nd rfl (Or.inl rfl)) pgs_nil)))) (fun _ _ _ _ _ => pts_nil) (fun _ _ _ _ _ => (pe_.re (pe_cprop kR.name kR.cls (hr.mono (by decide)) (pv 5)) (by first | (dsimp only [Cx.blk]; done) | exact rfl))))) rfl))))))))), ?_⟩
  have big : ∀ {m : Nat}, m ≤ 1000 → m ≤ sizeLine := fun {m} h => by rw [sizeLine_eq]; omega
  have fkp : ∀ wd : Str, wd.length ≤ 1000 → FOk (.str wd) := fun wd h => Nat.le_trans h (by decide)
  refine ⟨_, rfl, nm, rfl, big ln, fun H1 s1 => ⟨_, rfl, bcase (fun c1 => ?_) (fun c1 => ?_)⟩⟩
  · exact ⟨fkp "name" (by decide), fun d nd => e1 ((Bool.not_eq_true' _).mp c1) H1 d s1 nd⟩
  obtain ⟨e2, q⟩ := q ((Bool.not_eq_false' _).mp c1)
  refine ⟨_, rfl, rl, rfl, big lr, fun H2 s2 => ⟨_, rfl, bcase (fun c2 => ?_) (fun c2 => ?_)⟩⟩
  · exact ⟨fkp "ruling" (by decide), fun d nd => e2 ((Bool.not_eq_true' _).mp c2) H2 d (s1.trans s2) nd⟩
  have q := q ((Bool.not_eq_false' _).mp c2)
  have s12 := s1.trans s2
  have hx2 := s12 _ _ hx
  refine ⟨_, rfl, _, rfl, x, R, dx, _, rfl, hx2, T, n1, by decide, ?_⟩
  refine ⟨_, rfl, _, rfl, x, R, dx, _, rfl, upd_same, T, n2, Nat.lt_of_le_of_lt (putF_le (Nat.zero_le 0)) (by decide), ?_⟩
  refine ⟨_, rfl, _, rfl, x, R, dx, _, rfl, upd_same, T, n3, Nat.lt_of_le_of_lt (putF_le (putF_le (Nat.zero_le 0))) (by decide), ?_⟩
  refine ⟨_, rfl, _, rfl, x, R, dx, _, rfl, upd_same, T, n4, Nat.lt_of_le_of_lt (putF_le (putF_le (putF_le (Nat.zero_le 0)))) (by decide), ?_⟩
  have sx : SameX x H (upd (upd (upd (upd H2 x (.ins R dx (putF "_name" (.str nm) []))) x (.ins R dx (putF "_condition" (.ref c) (putF "_name" (.str nm) [])))) x (.ins R dx (putF "_ruling" (.str rl) (putF "_condition" (.ref c) (putF "_name" (.str nm) []))))) x (.ins R dx (putF "_exceptions" (.ref p) (putF "_ruling" (.str rl) (putF "_condition" (.ref c) (putF "_name" (.str nm) [])))))) := ((((SameX.of s12).put).put).put).put
  have hx6 : (upd (upd (upd (upd H2 x (.ins R dx (putF "_name" (.str nm) []))) x (.ins R dx (putF "_condition" (.ref c) (putF "_name" (.str nm) [])))) x (.ins R dx (putF "_ruling" (.str rl) (putF "_condition" (.ref c) (putF "_name" (.str nm) []))))) x (.ins R dx (putF "_exceptions" (.ref p) (putF "_ruling" (.str rl) (putF "_condition" (.ref c) (putF "_name" (.str nm) [])))))) x = some (.ins R dx (putF "_exceptions" (.ref p) (putF "_ruling" (.str rl) (putF "_condition" (.ref c) (putF "_name" (.str nm) []))))) := upd_same
  generalize upd (upd (upd (upd H2 x (.ins R dx (putF "_name" (.str nm) []))) x (.ins R dx (putF "_condition" (.ref c) (putF "_name" (.str nm) [])))) x (.ins R dx (putF "_ruling" (.str rl) (putF "_condition" (.ref c) (putF "_name" (.str nm) []))))) x (.ins R dx (putF "_exceptions" (.ref p) (putF "_ruling" (.str rl) (putF "_condition" (.ref c) (putF "_name" (.str nm) []))))) = H6 at sx hx6 ⊢
  have k6 : Keeps N H H6 := sx.keeps hx
  have hP6 := k6.tup hP
  have hF6 := hF.keeps k6
  have hA6 := hF6.all
  have hln := hA6.len
  have hlz := RF.nodes_le exc
  refine ⟨(by show 1 ≤ sizeLine; decide), fun l0 nl0 => ?_⟩
  have s0 : Same H6 (upd H6 l0 (.lst [.int 0])) := (Same.refl H6).put nl0
  have el0 : (upd H6 l0 (.lst [.int 0])) l0 = some (.lst [.int 0]) := upd_same
  generalize upd H6 l0 (.lst [.int 0]) = H7 at s0 el0 ⊢
  refine ⟨_, rfl, p, rfl, ⟨_, s0.tup hP6⟩, fun D nD => lc_it walk_tup (fun i H' => Same H7 H' ∧ H' D = some (.lst ((exc.nodes.take i).map fun n => V.int ((n.exc.dep + 1 : Nat) : Int)))) ⟨(Same.refl H7).put nD, upd_same⟩ (fun _ _ _ h => (s0.trans h.1).tup hP6) ?_ ?_⟩
  · rintro i y H8 H9 hi ⟨s, e⟩ ⟨rfl, hy⟩
    obtain ⟨n, hn, o, rfl, hN⟩ := hA6.get hy
    obtain ⟨dx', c', p', l', ws', ho, _⟩ := hN
    have ho := s _ _ (s0 _ _ ho)
    refine ⟨rfl, yes_ ⟨_, rfl, o, dx', _, rfl, ho, o, dx', _, _, rfl, ho, rfl, grow (acc := fun i => (exc.nodes.take i).map fun n => V.int ((n.exc.dep + 1 : Nat) : Int)) nD s e ?_ ?_⟩⟩
    · rw [List.length_map, List.length_take]
      exact small1000 (by omega)
    · show List.map _ _ = _
      rw [take_more hn, List.map_append]
      rfl
  rintro H8 ⟨s8, e8⟩
  rw [hln, List.take_length] at e8
  have el8 := s8 _ _ el0
  refine ⟨l0, D, _, _, rfl, rfl, el8, e8, ?_, fun l2 nl2 => ?_⟩
  · rw [List.length_map]
    exact big (by show 1 + _ ≤ _; omega)
  have s9 : Same H8 (upd H8 l2 (.lst ([V.int 0] ++ exc.nodes.map fun n => V.int ((n.exc.dep + 1 : Nat) : Int)))) := (Same.refl H8).put nl2
  have e9 : (upd H8 l2 (.lst ([V.int 0] ++ exc.nodes.map fun n => V.int ((n.exc.dep + 1 : Nat) : Int)))) l2 = some (.lst ([V.int 0] ++ exc.nodes.map fun n => V.int ((n.exc.dep + 1 : Nat) : Int))) := upd_same
  generalize upd H8 l2 (.lst ([V.int 0] ++ exc.nodes.map fun n => V.int ((n.exc.dep + 1 : Nat) : Int))) = H9 at s9 e9 ⊢
  refine ⟨l2, (0 : Int) :: exc.nodes.map (fun n => ((n.exc.dep + 1 : Nat) : Int)), rfl, sqL_of (by rw [e9, List.map_cons, List.map_map]; rfl), Nat.succ_pos _, fun m hm hle => ?_⟩
  obtain rfl := dep_is hm hle
  have s69 := (s0.trans s8).trans s9
  have hx9 := s69 _ _ hx6
  refine ⟨1, _, rfl, rfl, _, rfl, x, R, dx, _, rfl, hx9, T, n5, Nat.lt_of_le_of_lt (putF_le (putF_le (putF_le (putF_le (Nat.zero_le 0))))) (by decide), ?_⟩
  have sx10 : SameX x H (upd H9 x (.ins R dx (putF "_depth" (.int (1 + (exc.dep : Int))) (putF "_exceptions" (.ref p) (putF "_ruling" (.str rl) (putF "_condition" (.ref c) (putF "_name" (.str nm) []))))))) := (sx.same s69).put
  have hx10 : (upd H9 x (.ins R dx (putF "_depth" (.int (1 + (exc.dep : Int))) (putF "_exceptions" (.ref p) (putF "_ruling" (.str rl) (putF "_condition" (.ref c) (putF "_name" (.str nm) []))))))) x = some (.ins R dx (putF "_depth" (.int (1 + (exc.dep : Int))) (putF "_exceptions" (.ref p) (putF "_ruling" (.str rl) (putF "_condition" (.ref c) (putF "_name" (.str nm) [])))))) := upd_same
  generalize upd H9 x (.ins R dx (putF "_depth" (.int (1 + (exc.dep : Int))) (putF "_exceptions" (.ref p) (putF "_ruling" (.str rl) (putF "_condition" (.ref c) (putF "_name" (.str nm) [])))))) = H10 at sx10 hx10 ⊢
  rw [show 1 + (exc.dep : Int) = ((exc.dep + 1 : Nat) : Int) by omega] at hx10
  have k10 : Keeps N H H10 := sx10.keeps hx
  refine ⟨_, rfl, (by show 1 ≤ sizeLine; decide), fun l1 nl1 => ?_⟩
  have s11 : Same H10 (upd H10 l1 (.lst [.str nm])) := (Same.refl H10).put nl1
  have e11 : (upd H10 l1 (.lst [.str nm])) l1 = some (.lst [.str nm]) := upd_same
  generalize upd H10 l1 (.lst [.str nm]) = H11 at s11 e11 ⊢
  refine ⟨_, rfl, N, p, 1, ws, exc, rfl, s11.tup (k10.tup hP), (hF.keeps k10).keeps s11.keeps, hd, hz, fun H12 D3 us s12' nD3 eD3 hu => ?_⟩
  have hul := hu.len
  rw [RF.pre_len] at hul
  refine ⟨D3, rfl, ⟨_, sqL_of eD3⟩, fun D4 nD4 => lc_it walk_list (fun i H' => Same H12 H' ∧ H' D4 = some (.lst (((exc.pre 1).take i).map fun q => V.str q.1.nm))) ⟨(Same.refl H12).put nD4, upd_same⟩ (fun _ _ _ h => sqL_of (h.1 _ _ eD3)) ?_ ?_⟩
  · rintro i y H13 H14 hi ⟨s, e⟩ ⟨rfl, hy⟩
    obtain ⟨⟨n, k⟩, hq, t, o, rfl, ht, hN⟩ := hu.get hy
    obtain ⟨dx', c', p', l', ws', ho, _⟩ := hN
    have ho := s _ _ ho
    have ht := s _ _ ht
    refine ⟨t, [.ref o, .int (k : Nat)], rfl, sqT_of ht, rfl, _, _, rfl, _, _, rfl, rfl, rfl, yes_ ⟨_, rfl, o, dx', _, rfl, ho, o, dx', _, _, rfl, ho, rfl, grow (acc := fun i => ((exc.pre 1).take i).map fun q => V.str q.1.nm) nD4 s e ?_ ?_⟩⟩
    · rw [List.length_map, List.length_take, RF.pre_len]
      exact small1000 (by omega)
    · show List.map _ _ = _
      rw [take_more hq, List.map_append]
      rfl
  rintro H13 ⟨s13, e13⟩
  rw [hu.len, List.take_length] at e13
  have e13 : H13 D4 = some (.lst (exc.names.map V.str)) := by rw [e13, ← RF.pre_names exc 1, List.map_map]; rfl
  have s1013 := (s11.trans s12').trans s13
  refine ⟨l1, D4, _, _, rfl, rfl, s13 _ _ (s12' _ _ e11), e13, ?_, fun l2' nl2' => ?_⟩
  · rw [List.length_map, ← RF.pre_names exc 1, List.length_map, RF.pre_len]
    exact big (by show 1 + _ ≤ _; omega)
  have s14 : Same H13 (upd H13 l2' (.lst ([V.str nm] ++ exc.names.map V.str))) := (Same.refl H13).put nl2'
  have e14 : (upd H13 l2' (.lst ([V.str nm] ++ exc.names.map V.str))) l2' = some (.lst ((nm :: exc.names).map V.str)) := upd_same
  generalize upd H13 l2' (.lst ([V.str nm] ++ exc.names.map V.str)) = H14 at s14 e14 ⊢
  have s1014 := s1013.trans s14
  have hx14 := s1014 _ _ hx10
  have ne : l2' ≠ x := fun z => by rw [z, hx14] at e14; cases e14
  refine ⟨_, rfl, x, R, dx, _, rfl, hx14, T, n6, Nat.lt_of_le_of_lt (putF_le (putF_le (putF_le (putF_le (putF_le (Nat.zero_le 0)))))) (by decide), ?_⟩
  exact q _ l2' (sx10.same s1014).put upd_same ne (sx10.free ne (s1013.free nl2')) (by rw [upd_ne ne]; exact e14)
end
end Sc
namespace Sc
open PySem PySem.Spec PyProof.Rows L2
theorem sc_check_rules : FnScope ["facts", "rules", "names", "outermost", "index", "rule", "around", "name"] ["facts", "rules"] (defScope s_check_rules) := ⟨rfl, rfl, rfl, by decide +kernel, rfl, by decide +kernel, by decide +kernel⟩
/-- the word for a rule of a book that is wrong: met the names ahead of it, out how many are outermost -/
def faultAt (facts met : List Str) (out i : Nat) (n : Nd) (k : Nat) : Option Str :=
  if n.nm ∈ met then some "name" else if ((srt (n.hs ++ n.fs)).any fun x => !decide (x ∈ facts)) = true then some "condition" else if 5 < k then some "depth" else if i = 60 ∨ 40 < out then some "many" else none
def outNext (out k : Nat) : Nat := if k = 0 then out + 1 else out
def firstFault (facts : List Str) : List (Nd × Nat) → List Str → Nat → Nat → Option (Str × Nat)
  | [], _, _, _ => none
  | (n, k) :: r, met, out, i => match faultAt facts met (outNext out k) i n k with
    | some w => some (w, i)
    | none => firstFault facts r (met ++ [n.nm]) (outNext out k) (i + 1)
/-- the error that tells a word and an index -/
def errWI (C : Addr) (w : Str) (i : Int) (H : Hp) (E : XK) : Prop := ∀ H' d, Same H H' → H' d = none → E (.ref C) (some d) (upd H' d (.xd [(("index" : Str), .int i), (("word" : Str), .str w)]))
/-- parts that are no longer than those of a condition -/
def RF.Fit (f : RF) : Prop := ∀ q ∈ f.pre 0, q.1.hs.length + q.1.fs.length ≤ 100
section
variable {P : Program} {w : World} {K : PySem.W.Frag} {mg : Str → Option Value} {base : Heap} {C R CB : Addr}
theorem set_same' {σ : L2.St} {i : Nat} {v : Option V} (h : σ[i]? = some v) : σ.set i v = σ := by
  apply List.ext_getElem?
  intro j
  rw [List.getElem?_set]
  split
  · rename_i e
    subst e
    split
    · exact h.symm
    · rename_i c
      rw [List.getElem?_eq_none (by omega)] at h
      cases h
  · rfl
/-- if around == 0: outermost = outermost + 1 -/
def tOut (i j : Nat) : TS := fun D σ H => ∃ (out k : Nat), σ[i]? = some (some (.int (out : Nat))) ∧ σ[j]? = some (some (.int (k : Nat))) ∧ D.nx (σ.set i (some (.int (outNext out k : Nat)))) H
def sp_check_rules (K : PySem.W.Frag) (C R CB : Addr) : Sp := fun vs H Q E => ∃ (N : Addr → Prop) (a p : Addr) (xs : List Str) (ws : List V) (f : RF), vs = [.ref a, .ref p] ∧ SqT K H a (xs.map V.str) ∧ SqT K H p ws ∧ ForAt K C R N H f ws ∧ f.dep ≤ 12 ∧ f.size ≤ 900 ∧ f.Fit ∧
  (firstFault xs (f.pre 0) [] 0 0 = none → ∀ H', Same H H' → Q .non H') ∧ (∀ wd i, firstFault xs (f.pre 0) [] 0 0 = some (wd, i) → wd.length ≤ 1000 → errWI CB wd i H E)
theorem drop_at {α : Type} {l : List α} {i : Nat} {x : α} (h : l[i]? = some x) : l.drop i = x :: l.drop (i + 1) := by
  have hi : i < l.length := by
    by_cases c : i < l.length
    · exact c
    · rw [List.getElem?_eq_none (by omega)] at h; cases h
  rw [List.drop_eq_getElem_cons hi]
  rw [List.getElem?_eq_getElem hi] at h
  rw [Option.some.inj h]
theorem ok_check_rules {f : Addr} {fd : FuncData} {t1 t2 t3 : Tok} (F : Fun K "check_rules" "check_rules" s_check_rules f fd) (B : Blt mg) (kR : RuleX P w K mg base R) (kK : CondG P w K mg base C) (m_MOST_AROUND : mg "MOST_AROUND" = some (.int 5 t1)) (m_MOST_RULES : mg "MOST_RULES" = some (.int 60 t2)) (m_MOST_OUTERMOST : mg "MOST_OUTERMOST" = some (.int 40 t3))
    (e_InvalidBook : ErrMk P w K mg base "InvalidBook" CB ["self", "word", "index"] (sp_init2 CB "word" "index")) (c_nested : Cal P w K mg base CX0 15 "nested" ["rules", "around"] (sp_nested K C R 12)) :
    FnOk P w K mg base (L2.CX P w) 16 f fd ["facts", "rules"] (sp_check_rules K C R CB) := by
  refine F.okX sc_check_rules (fun vs H Q E h => by obtain ⟨N, a, p, xs, ws, f, rfl, _⟩ := h; rfl) (fun cdv A outer s H vs Q E hr h => ?_)
  obtain ⟨N, a, p, xs, ws, f, rfl, hA, hP, hF, hd, hz, hfit, q, er⟩ := h
  refine ⟨_, (pss_cons (ps_set (i := 2) sc_check_rules.nd rfl (Or.inl rfl) (pe_lst pa_nil))
      (pss_cons (ps_set (i := 3) sc_check_rules.nd rfl (Or.inl rfl) pe_int)
      (pss_one (ps_for (passes_of rfl) rfl (pi_enum (by rfl) B.b_enumerate (pa_cons (pe_cal c_nested (hr.mono (by decide)) (pa_cons (pv 1) (pa_cons pe_int pa_nil))) pa_nil)) (pg_tup (by rfl) (pgs_cons (pg_name (i := 4) sc_check_rules.nd rfl (Or.inl rfl)) (pgs_cons (pg_tup (by rfl) (pgs_cons (pg_name (i := 5) sc_check_rules.nd rfl (Or.inl rfl)) (pgs_cons (pg_name (i := 6) sc_check_rules.nd rfl (Or.inl rfl)) pgs_nil))) pgs_nil))) (pss_cons (wk_ps (tOut 3 6) (ps_if (pt_cmpR op_eq (pv 6) pe_int (nomark _)) (pss_one (ps_set (i := 3) sc_check_rules.nd rfl (Or.inl rfl) (pe_op op_add (pv 3) pe_int))) pss_nil) ?wo)
      (pss_cons (ps_if (pt_cmpR op_in_seq (pe_cprop kR.name kR.cls (hr.mono (by decide)) (pv 5)) (pv 2) rfl) (pss_one (ps_raise rfl (takes_of rfl rfl rfl rfl) (pmk_err2 e_InvalidBook (hr.mono (by decide)) pe_str (pv 4)))) pss_nil)
      (pss_cons (ps_if (pt_val (pe_callB (cr_any rfl) (by rfl) B.b_any (by decide +kernel) (pa_cons (pe_lc (own := [("name", 7)]) (g := gName 7) (tt := tYes) rfl sc_check_rules.nd (pi_tup (pe_cprop kK.names kK.cls (hr.mono (by decide)) (pe_cprop kR.condition kR.cls (hr.mono (by decide)) (pv 5)))) (blkOk_by (own := [("name", 7)]) (N := ["facts", "rules", "names", "outermost", "index", "rule", "around", "name"]) (sc := defScope s_check_rules) (by decide +kernel)) (fun _ _ _ _ _ => (pg_name (i := 7) sc_check_rules.nd rfl (Or.inl rfl))) (fun _ _ _ _ _ => pts_nil) (fun _ _ _ _ _ => (pe_.re (pe_cmpR op_notIn_seq (pv 7) (pv 0) rfl) (by first | (dsimp only [Cx.blk]; done) | exact rfl)))) pa_nil))) (pss_one (ps_raise rfl (takes_of rfl rfl rfl rfl) (pmk_err2 e_InvalidBook (hr.mono (by decide)) pe_str (pv 4)))) pss_nil)
      (pss_cons (ps_if (pt_cmpR op_gt (pv 6) (pe_glob (v := .int 5) rfl m_MOST_AROUND ⟨_, rfl⟩) (nomark _)) (pss_one (ps_raise rfl (takes_of rfl rfl rfl rfl) (pmk_err2 e_InvalidBook (hr.mono (by decide)) pe_str (pv 4)))) pss_nil)
      (pss_cons (ps_if (PW.pt (pw_or (pt_cmpR op_eq (pv 4) (pe_glob (v := .int 60) rfl m_MOST_RULES ⟨_, rfl⟩) (nomark _)) (pw_or1 (pt_cmpR op_gt (pv 3) (pe_glob (v := .int 40) rfl m_MOST_OUTERMOST ⟨_, rfl⟩) (nomark _))))) (pss_one (ps_raise rfl (takes_of rfl rfl rfl rfl) (pmk_err2 e_InvalidBook (hr.mono (by decide)) pe_str (pv 4)))) pss_nil)
      (pss_one (ps_expr (pe_bm PySem.F.plainAttrs_list PySem.F.slot_list_append PySem.F.type_list_append mt_append (pv 2) (pa_cons (pe_cprop kR.name kR.cls (hr.mono (by decide)) (pv 5)) pa_nil))))))))))))), ?_⟩
  case wo =>
    rintro D σ H1 ⟨out, k, h3, h6, q⟩
    refine ⟨_, h6, rfl, _, rfl, bcase (fun c => ?_) (fun c => ?_)⟩
    · have c : k = 0 := by have := V.int.inj (of_decide_eq_true c); omega
      subst c
      exact ⟨_, h3, out, 1, rfl, rfl, q⟩
    · have c : k ≠ 0 := fun z => by subst z; exact Bool.noConfusion (c.symm.trans (decide_eq_true rfl))
      unfold outNext at q
      rw [if_neg c, set_same' h3] at q
      exact q
  refine ⟨Nat.zero_le _, fun NL nNL => ?_⟩
  have s0 : Same H (upd H NL (.lst [])) := (Same.refl H).put nNL
  have e0 : (upd H NL (.lst [])) NL = some (.lst ([].map V.str)) := upd_same
  generalize upd H NL (.lst []) = H0 at s0 e0 ⊢
  refine ⟨_, rfl, Used N H, p, 0, ws, f, rfl, s0.tup hP, hF.used.keeps s0.keeps, hd, hz, fun H1 D us s1 nD e1 hu1 => ?_⟩
  have hul := hu1.len
  rw [RF.pre_len] at hul
  refine ⟨D, _, rfl, sqL_of e1, for_it walk_enum (fun i σ H' => ∃ (met : List Str) (out : Nat) (y4 y5 y6 y7 : Option V), σ = [some (.ref a), some (.ref p), some (.ref NL), some (.int (out : Nat)), y4, y5, y6, y7] ∧ Same H H' ∧ H' D = some (.lst us) ∧ PreAt K C R (Used N H) H' us (f.pre 0) ∧ H' NL = some (.lst (met.map V.str)) ∧ met.length = i ∧
      firstFault xs (f.pre 0) [] 0 0 = firstFault xs ((f.pre 0).drop i) met out i)
    ⟨[], 0, none, none, none, none, rfl, s0.trans s1, e1, hu1, s1 _ _ e0, rfl, rfl⟩ (fun _ _ _ _ ⟨_, _, _, _, _, _, _, _, e, _⟩ => sqL_of e) ?_ ?_⟩
  · rintro i x σ H2 H3 hi ⟨met, out, y4, y5, y6, y7, rfl, s, eD, hu, eN, hm, hff⟩ ⟨T, v1, v2, rfl, nT, rfl, h1, h2⟩
    obtain rfl : V.int (i : Nat) = v1 := Option.some.inj h1
    obtain ⟨⟨n, k⟩, hq, t, o, rfl, ht, hN⟩ := hu.get h2
    have hfitq := hfit _ (List.mem_of_getElem? hq)
    rw [drop_at hq] at hff
    dsimp only at ht hN hfitq
    have s23 : Same H2 (upd H2 T (.tup [.int (i : Nat), .ref t])) := (Same.refl H2).put nT
    have s3 := s.trans s23
    have eD3 := s23 _ _ eD
    have eN3 := s23 _ _ eN
    have ht3 := s23 _ _ ht
    have hN3 := hN.keeps s23.keeps
    have hu3 := hu.keeps s23.keeps
    have eT3 : (upd H2 T (.tup [.int (i : Nat), .ref t])) T = some (.tup [.int (i : Nat), .ref t]) := upd_same
    clear s23
    generalize upd H2 T (.tup [.int (i : Nat), .ref t]) = H3 at s3 eD3 eN3 ht3 hN3 hu3 eT3 ⊢
    refine ⟨T, [.int (i : Nat), .ref t], rfl, sqT_of eT3, rfl, _, _, rfl, _, _, rfl, t, [.ref o, .int (k : Nat)], rfl, sqT_of ht3, rfl, _, _, rfl, _, _, rfl, rfl, rfl, ?_⟩
    refine ⟨out, k, rfl, rfl, ?_⟩
    obtain ⟨dx, c, pe, l, ws', ho, hc, hpe, hl, hfe⟩ := hN3
    have hi9 : i ≤ 1000 := by omega
    have fkw : ∀ wd : Str, wd.length ≤ 1000 → FOk (.str wd) ∧ FOk (.int (i : Nat)) := fun wd h => ⟨Nat.le_trans h (by decide), fok_nat hi9⟩
    have rz : ∀ {wd : Str} {H' : Hp}, faultAt xs met (outNext out k) i n k = some wd → wd.length ≤ 1000 → Same H H' → ∀ d, H' d = none → E (.ref CB) (some d) (upd H' d (.xd [(("index" : Str), .int (i : Nat)), (("word" : Str), .str wd)])) := fun {wd H'} hf hw sH d nd => er wd i (by rw [hff]; unfold firstFault; rw [hf]) hw H' d sH nd
    refine ⟨_, rfl, o, dx, _, rfl, ho, o, dx, _, _, rfl, ho, rfl, _, rfl, NL, _, rfl, .inl (sqL_of eN3), rfl, flat_strs met, _, rfl, bcase (fun c1 => ?_) (fun c1 => ?_)⟩
    · have c1 : decide (n.nm ∈ met) = true := by rw [← inV_str]; exact c1
      exact ⟨_, rfl, fkw "name" (by decide), rz (by unfold faultAt; rw [if_pos (of_decide_eq_true c1)]) (by decide) s3⟩
    have c1 : decide (n.nm ∈ met) = false := by rw [← inV_str]; exact c1
    have f1 : faultAt xs met (outNext out k) i n k = if ((srt (n.hs ++ n.fs)).any fun x => !decide (x ∈ xs)) = true then some (Str.ofString "condition") else if 5 < k then some (Str.ofString "depth") else if i = 60 ∨ 40 < outNext out k then some (Str.ofString "many") else none := by
      unfold faultAt
      rw [if_neg (of_decide_eq_false c1)]
    obtain ⟨dxc, ca, cb, cn, zs, hco, hca, hcb, hcn, hzs⟩ := hc.at_
    have hzl : zs.length ≤ 100 := by
      rw [hzs, (srt_perm _).length_eq, List.length_append]
      exact hfitq
    refine ⟨_, rfl, o, dx, _, rfl, ho, o, dx, _, _, rfl, ho, rfl, c, dxc, _, rfl, hco, c, dxc, _, _, rfl, hco, rfl, cn, rfl, ⟨_, sqT_of hcn⟩, fun D2 nD2 => lc_it walk_tup (fun j H' => Same H3 H' ∧ H' D2 = some (.lst ((zs.take j).map fun x => V.bl (!decide (x ∈ xs))))) ⟨(Same.refl H3).put nD2, upd_same⟩ (fun _ _ _ h => h.1.tup (sqT_of hcn)) ?_ ?_⟩
    · rintro j y H4 H5 hj ⟨s4, e4⟩ ⟨rfl, hy⟩
      rw [List.length_map] at hj
      have hx : zs[j]? = some zs[j] := List.getElem?_eq_getElem hj
      obtain rfl : V.str zs[j] = y := strAt_inj hx hy
      refine ⟨rfl, yes_ ⟨_, rfl, _, rfl, a, _, rfl, .inr ((s3.trans s4).tup hA), rfl, flat_strs _, grow (acc := fun j => (zs.take j).map fun x => V.bl (!decide (x ∈ xs))) nD2 s4 e4 ?_ ?_⟩⟩
      · rw [List.length_map, List.length_take]
        exact small1000 (by omega)
      · show List.map _ _ = _
        rw [take_more hx, List.map_append]
        simp only [List.map_cons, List.map_nil, inV_str]
        rfl
    rintro H4 ⟨s4, e4⟩
    rw [List.length_map, List.take_length] at e4
    refine ⟨D2, zs.map fun x => !decide (x ∈ xs), rfl, sqL_of (by rw [e4, List.map_map]; rfl), ?_⟩
    have em : (zs.map fun x => !decide (x ∈ xs)).any id = (srt (n.hs ++ n.fs)).any fun x => !decide (x ∈ xs) := by
      rw [List.any_map, hzs]
      rfl
    rw [em]
    have s5 := s3.trans s4
    refine ⟨_, rfl, bcase (fun c2 => ?_) (fun c2 => ?_)⟩
    · exact ⟨_, rfl, fkw "condition" (by decide), rz (by rw [f1, if_pos c2]) (by decide) s5⟩
    have f2 : faultAt xs met (outNext out k) i n k = if 5 < k then some (Str.ofString "depth") else if i = 60 ∨ 40 < outNext out k then some (Str.ofString "many") else none := by
      rw [f1, if_neg (by rw [c2]; exact Bool.false_ne_true)]
    refine ⟨_, rfl, k, 5, rfl, rfl, _, rfl, bcase (fun c3 => ?_) (fun c3 => ?_)⟩
    · have c3 : 5 < k := by have := of_decide_eq_true c3; omega
      exact ⟨_, rfl, fkw "depth" (by decide), rz (by rw [f2, if_pos c3]) (by decide) s5⟩
    have c3 : ¬ 5 < k := by have := of_decide_eq_false c3; omega
    rw [if_neg c3] at f2
    refine ⟨_, rfl, rfl, _, rfl, bcase (fun c4 => ?_) (fun c4 => ?_)⟩
    · have e60 : i = 60 := by have := V.int.inj (of_decide_eq_true c4); omega
      exact iteT ⟨_, rfl, fkw "many" (by decide), rz (by rw [f2, if_pos (.inl e60)]) (by decide) s5⟩
    have n60 : i ≠ 60 := fun z => by subst z; exact Bool.noConfusion (c4.symm.trans (decide_eq_true rfl))
    refine ⟨_, rfl, outNext out k, 40, rfl, rfl, _, rfl, bcase (fun c5 => ?_) (fun c5 => ?_)⟩
    · have c5 : 40 < outNext out k := by have := of_decide_eq_true c5; omega
      exact ⟨_, rfl, fkw "many" (by decide), rz (by rw [f2, if_pos (.inr c5)]) (by decide) s5⟩
    have c5 : ¬ 40 < outNext out k := by have := of_decide_eq_false c5; omega
    rw [if_neg (fun z => z.elim n60 c5)] at f2
    have eN5 := s4 _ _ eN3
    have ho5 := s4 _ _ ho
    refine ⟨_, rfl, .inl ⟨rfl, _, sqL_of eN5⟩, _, rfl, o, dx, _, rfl, ho5, o, dx, _, _, rfl, ho5, rfl, NL, _, _, rfl, rfl, eN5, ?_, ?_⟩
    · rw [List.length_map]
      exact small1000 (by omega)
    have nDL : D ≠ NL := fun z => by rw [z, e0] at nD; cases nD
    refine ⟨met ++ [n.nm], outNext out k, _, _, _, _, rfl, s5.put nNL, by rw [upd_ne nDL]; exact s4 _ _ eD3, (hu3.keeps s4.keeps).keeps (keeps_own eN5 (used_not nNL)), by rw [upd_same, List.map_append]; rfl, by rw [List.length_append, List.length_singleton, hm], ?_⟩
    rw [hff]
    show (match faultAt xs met (outNext out k) i n k with | some w => some (w, i) | none => _) = _
    rw [f2]
  · rintro σ H2 ⟨met, out, y4, y5, y6, y7, rfl, s, eD, hu, eN, hm, hff⟩
    have hl : us.length = (f.pre 0).length := hu1.len
    rw [hl, List.drop_length] at hff
    exact q hff H2 s
end
end Sc
namespace Sc
open PySem PySem.Spec PyProof.Rows L2
/-! ### facts -/
theorem sc_check_facts : FnScope ["facts", "index", "name"] ["facts"] (defScope s_check_facts) := ⟨rfl, rfl, rfl, by decide +kernel, rfl, by decide +kernel, by decide +kernel⟩
theorem sc_check_case : FnScope ["facts", "case", "index", "name"] ["facts", "case"] (defScope s_check_case) := ⟨rfl, rfl, rfl, by decide +kernel, rfl, by decide +kernel, by decide +kernel⟩
/-- the i-th fact is wrong -/
def badAt (xs : List Str) (i : Nat) : Bool := decide (i = 60) || ((match xs[i]? with | some x => !isName x | none => false) || !risesAt xs i)
def firstBad (xs : List Str) : Option Nat := if xs = [] then some 0 else (List.range xs.length).find? (badAt xs)
section
variable {P : Program} {w : World} {K : PySem.W.Frag} {mg : Str → Option Value} {base : Heap} {CF CC CN : Addr}
def sp_check_facts (K : PySem.W.Frag) (C : Addr) : Sp := fun vs H Q E => ∃ (a : Addr) (xs : List Str), vs = [.ref a] ∧ SqT K H a (xs.map V.str) ∧ Txts xs ∧ xs.length ≤ 1000 ∧
  (firstBad xs = none → ∀ H', Same H H' → Q .non H') ∧ (∀ i, firstBad xs = some i → errIx C i H E)
theorem ok_check_facts {f : Addr} {fd : FuncData} (F : Fun K "check_facts" "check_facts" s_check_facts f fd) (B : Blt mg) (mM : ∃ t, mg "MOST_FACTS" = some (.int 60 t))
    (e_InvalidFacts : ErrMk P w K mg base "InvalidFacts" CF ["self", "index"] (sp_init1 CF "index")) (c_is_name : Cal P w K mg base CX0 1 "is_name" ["value"] sp_is_name) (c_rises : Cal P w K mg base CX0 1 "rises" ["names", "index"] (sp_rises K)) :
    FnOk P w K mg base (L2.CX P w) 3 f fd ["facts"] (sp_check_facts K CF) := by
  obtain ⟨t1, mM⟩ := mM
  refine F.okX sc_check_facts (fun vs H Q E h => by obtain ⟨a, xs, rfl, _⟩ := h; rfl) (fun cdv A outer s H vs Q E hr h => ?_)
  obtain ⟨a, xs, rfl, hS, hT, hl, q, e⟩ := h
  refine ⟨_, (pss_cons (ps_if (pt_not (pt_tru (pv 0) (by intro _; rfl))) (pss_one (ps_raise rfl (takes_of rfl rfl rfl rfl) (pmk_err1 e_InvalidFacts (hr.mono (by decide)) pe_int))) pss_nil)
      (pss_one (ps_for (passes_of rfl) rfl (pi_enumT (by rfl) B.b_enumerate (pa_cons (pv 0) pa_nil)) (pg_tup (by rfl) (pgs_cons (pg_name (i := 1) sc_check_facts.nd rfl (Or.inl rfl)) (pgs_cons (pg_name (i := 2) sc_check_facts.nd rfl (Or.inl rfl)) pgs_nil))) (pss_one (ps_if (PW.pt (pw_or (pt_cmpR op_eq (pv 1) (pe_glob (v := .int 60) rfl mM ⟨_, rfl⟩) (nomark _)) (pw_or (pt_not (pt_val (pe_cal c_is_name (hr.mono (by decide)) (pa_cons (pv 2) pa_nil)))) (pw_or1 (pt_not (pt_val (pe_cal c_rises (hr.mono (by decide)) (pa_cons (pv 0) (pa_cons (pv 1) pa_nil))))))))) (pss_one (ps_raise rfl (takes_of rfl rfl rfl rfl) (pmk_err1 e_InvalidFacts (hr.mono (by decide)) (pv 1)))) pss_nil))))), ?_⟩
  refine ⟨.ref a, rfl, _, .inr (.inl ⟨_, hS, rfl⟩), bcase (fun e0 => ?_) (fun e0 => ?_)⟩
  · have ex : xs = [] := by
      cases xs with
      | nil => rfl
      | cons x r => exact Bool.noConfusion (show false = true from e0)
    exact ⟨fok_nat (i := 0) (by decide), fun d nd => e 0 (by unfold firstBad; rw [if_pos ex]) H d (Same.refl H) nd⟩
  · have ex : xs ≠ [] := fun z => by
      subst z
      exact Bool.noConfusion (show true = false from e0)
    have rz : ∀ {i : Nat} {H' : Hp}, i < xs.length → (∀ j, j < i → badAt xs j = false) → badAt xs i = true → Same H H' → ∀ d, H' d = none → E (.ref CF) (some d) (upd H' d (.xd [(("index" : Str), .int (i : Nat))])) :=
      fun {i H'} hi hb hp s d nd => e i (by unfold firstBad; rw [if_neg ex]; exact find_at hi hp hb) H' d s nd
    refine ⟨.ref a, rfl, a, _, rfl, hS, for_it walk_enumT (fun i σ H' => ∃ y1 y2, σ = [some (.ref a), y1, y2] ∧ Same H H' ∧ ∀ j, j < i → badAt xs j = false)
      ⟨none, none, rfl, Same.refl H, fun j hj => absurd hj (Nat.not_lt_zero j)⟩ (fun i σ H' _ ⟨_, _, _, s, _⟩ => s.tup hS) ?_ ?_⟩
    · rintro i x σ H2 H3 hi ⟨y1, y2, rfl, s, hb⟩ ⟨T, v1, v2, rfl, nT, rfl, h1, h2⟩
      obtain rfl : V.int (i : Nat) = v1 := Option.some.inj h1
      rw [List.length_map] at hi
      have hx : xs[i]? = some xs[i] := List.getElem?_eq_getElem hi
      obtain rfl : V.str xs[i] = v2 := strAt_inj hx h2
      have s3 : Same H (upd H2 T (.tup [.int (i : Nat), .str xs[i]])) := s.put' nT
      have rz := fun {H' : Hp} (hp : badAt xs i = true) (sH : Same H H') => rz hi hb hp sH
      refine ⟨T, [.int (i : Nat), .str xs[i]], rfl, sqT_new, rfl, _, _, rfl, _, _, rfl, rfl, ?_⟩
      refine ⟨_, rfl, rfl, _, rfl, bcase (fun c1 => ?_) (fun c1 => ?_)⟩
      · have e60 : i = 60 := by have := V.int.inj (of_decide_eq_true c1); omega
        refine iteT ⟨_, rfl, fok_nat (by omega), rz (by unfold badAt; rw [decide_eq_true e60, Bool.true_or]) s3⟩
      · have n60 : i ≠ 60 := fun z => by subst z; exact Bool.noConfusion (c1.symm.trans (decide_eq_true rfl))
        refine ⟨_, rfl, xs[i], rfl, Nat.le_trans (hT _ (List.getElem_mem hi)) (by rw [sizeLine_eq]; decide), fun H4 s4 => ⟨_, rfl, bcase (fun c2 => ?_) (fun c2 => ?_)⟩⟩
        · refine iteT ⟨_, rfl, fok_nat (by omega), rz (by unfold badAt; rw [hx, decide_eq_false n60, Bool.false_or]; show (!isName xs[i] || _) = true; rw [c2, Bool.true_or]) (s3.trans s4)⟩
        · refine ⟨.ref a, rfl, _, rfl, a, xs, i, rfl, (s3.trans s4).tup hS, hi, _, rfl, bcase (fun c3 => ?_) (fun c3 => ?_)⟩
          · exact ⟨_, rfl, fok_nat (by omega), rz (by unfold badAt; rw [hx, c3, Bool.or_true, Bool.or_true]) (s3.trans s4)⟩
          · refine ⟨_, _, rfl, s3.trans s4, fun j hj => ?_⟩
            by_cases hj2 : j < i
            · exact hb j hj2
            · have ej : j = i := by omega
              subst ej
              unfold badAt
              rw [hx, decide_eq_false n60, c3, Bool.or_false, Bool.false_or]
              exact c2
    · rintro σ H2 ⟨y1, y2, rfl, s, hb⟩
      rw [List.length_map] at hb
      exact q (by unfold firstBad; rw [if_neg ex]; exact find_none hb) H2 s
/-- the i-th name of a case is wrong -/
def outAt (facts cs : List Str) (i : Nat) : Bool := (match cs[i]? with | some x => !decide (x ∈ facts) | none => false) || !risesAt cs i
def firstOut (facts cs : List Str) : Option Nat := (List.range cs.length).find? (outAt facts cs)
def sp_check_case (K : PySem.W.Frag) (C : Addr) : Sp := fun vs H Q E => ∃ (a b : Addr) (xs cs : List Str), vs = [.ref a, .ref b] ∧ SqT K H a (xs.map V.str) ∧ SqT K H b (cs.map V.str) ∧ cs.length ≤ 1000 ∧
  (firstOut xs cs = none → ∀ H', Same H H' → Q .non H') ∧ (∀ i, firstOut xs cs = some i → errIx C i H E)
theorem ok_check_case {f : Addr} {fd : FuncData} (F : Fun K "check_case" "check_case" s_check_case f fd) (B : Blt mg)
    (e_InvalidCase : ErrMk P w K mg base "InvalidCase" CC ["self", "index"] (sp_init1 CC "index")) (c_rises : Cal P w K mg base CX0 1 "rises" ["names", "index"] (sp_rises K)) :
    FnOk P w K mg base (L2.CX P w) 3 f fd ["facts", "case"] (sp_check_case K CC) := by
  refine F.okX sc_check_case (fun vs H Q E h => by obtain ⟨a, b, xs, cs, rfl, _⟩ := h; rfl) (fun cdv A outer s H vs Q E hr h => ?_)
  obtain ⟨a, b, xs, cs, rfl, hS, hC, hl, q, e⟩ := h
  refine ⟨_, (pss_one (ps_for (passes_of rfl) rfl (pi_enumT (by rfl) B.b_enumerate (pa_cons (pv 1) pa_nil)) (pg_tup (by rfl) (pgs_cons (pg_name (i := 2) sc_check_case.nd rfl (Or.inl rfl)) (pgs_cons (pg_name (i := 3) sc_check_case.nd rfl (Or.inl rfl)) pgs_nil))) (pss_one (ps_if (PW.pt (pw_or (pt_cmpR op_notIn_seq (pv 3) (pv 0) rfl) (pw_or1 (pt_not (pt_val (pe_cal c_rises (hr.mono (by decide)) (pa_cons (pv 1) (pa_cons (pv 2) pa_nil)))))))) (pss_one (ps_raise rfl (takes_of rfl rfl rfl rfl) (pmk_err1 e_InvalidCase (hr.mono (by decide)) (pv 2)))) pss_nil)))), ?_⟩
  refine ⟨.ref b, rfl, b, _, rfl, hC, for_it walk_enumT (fun i σ H' => ∃ y1 y2, σ = [some (.ref a), some (.ref b), y1, y2] ∧ Same H H' ∧ ∀ j, j < i → outAt xs cs j = false)
    ⟨none, none, rfl, Same.refl H, fun j hj => absurd hj (Nat.not_lt_zero j)⟩ (fun i σ H' _ ⟨_, _, _, s, _⟩ => s.tup hC) ?_ ?_⟩
  · rintro i x σ H2 H3 hi ⟨y1, y2, rfl, s, hb⟩ ⟨T, v1, v2, rfl, nT, rfl, h1, h2⟩
    obtain rfl : V.int (i : Nat) = v1 := Option.some.inj h1
    rw [List.length_map] at hi
    have hx : cs[i]? = some cs[i] := List.getElem?_eq_getElem hi
    obtain rfl : V.str cs[i] = v2 := strAt_inj hx h2
    have s3 : Same H (upd H2 T (.tup [.int (i : Nat), .str cs[i]])) := s.put' nT
    have rz : ∀ {H' : Hp}, outAt xs cs i = true → Same H H' → ∀ d, H' d = none → E (.ref CC) (some d) (upd H' d (.xd [(("index" : Str), .int (i : Nat))])) := fun {H'} hp sH d nd => e i (find_at hi hp hb) H' d sH nd
    refine ⟨T, [.int (i : Nat), .str cs[i]], rfl, sqT_new, rfl, _, _, rfl, _, _, rfl, rfl, ?_⟩
    refine ⟨.str cs[i], rfl, .ref a, rfl, a, _, rfl, .inr (s3.tup hS), rfl, flat_strs xs, _, rfl, bcase (fun c1 => ?_) (fun c1 => ?_)⟩
    · have c1 : (!decide (cs[i] ∈ xs)) = true := by rw [← inV_str]; exact c1
      exact iteT ⟨_, rfl, fok_nat (by omega), rz (by unfold outAt; rw [hx]; show (!decide (cs[i] ∈ xs) || _) = true; rw [c1, Bool.true_or]) s3⟩
    · have c1 : (!decide (cs[i] ∈ xs)) = false := by rw [← inV_str]; exact c1
      refine ⟨.ref b, rfl, _, rfl, b, cs, i, rfl, s3.tup hC, hi, _, rfl, bcase (fun c3 => ?_) (fun c3 => ?_)⟩
      · exact ⟨_, rfl, fok_nat (by omega), rz (by unfold outAt; rw [hx, c3, Bool.or_true]) s3⟩
      · refine ⟨_, _, rfl, s3, fun j hj => ?_⟩
        by_cases hj2 : j < i
        · exact hb j hj2
        · have ej : j = i := by omega
          subst ej
          unfold outAt
          rw [hx, c3, Bool.or_false]
          exact c1
  · rintro σ H2 ⟨y1, y2, rfl, s, hb⟩
    rw [List.length_map] at hb
    exact q (find_none hb) H2 s
end
end Sc
namespace Sc
open PySem PySem.Spec PyProof.Rows L2
/-! ### an object Book -/
theorem sc_Book___init__ : FnScope ["self", "facts", "rules", "ruling", "rule", "_"] ["self", "facts", "rules", "ruling"] (defScope s_Book___init__) := ⟨rfl, rfl, rfl, by decide +kernel, rfl, by decide +kernel, by decide +kernel⟩
theorem sc_Book_facts : FnScope ["self"] ["self"] (defScope s_Book_facts) := ⟨rfl, rfl, rfl, by decide +kernel, rfl, by decide +kernel, by decide +kernel⟩
theorem sc_Book_rules : FnScope ["self"] ["self"] (defScope s_Book_rules) := ⟨rfl, rfl, rfl, by decide +kernel, rfl, by decide +kernel, by decide +kernel⟩
theorem sc_Book_ruling : FnScope ["self"] ["self"] (defScope s_Book_ruling) := ⟨rfl, rfl, rfl, by decide +kernel, rfl, by decide +kernel, by decide +kernel⟩
section
variable {P : Program} {w : World} {K : PySem.W.Frag} {mg : Str → Option Value} {base : Heap} {C R B CF CB : Addr}
theorem ok_Book_facts {f : Addr} {fd : FuncData} (F : Fun K "facts" "Book.facts" s_Book_facts f fd) (T : Cls K B) (n : NoAttr K B "_facts") : FnOk P w K mg base CX0 1 f fd ["self"] (sp_prop B "_facts") := by
  refine F.ok sc_Book_facts (fun vs H Q E h => by obtain ⟨x, dx, fs, v, rfl, _⟩ := h; rfl) (fun cdv A outer s H vs Q E hr h => ?_)
  obtain ⟨x, dx, fs, v, rfl, hx, hl, q⟩ := h
  exact ⟨_, (pss_one (ps_ret (pe_fld (pv 0) rfl))), ⟨_, rfl, x, B, dx, fs, v, rfl, hx, T, n, hl, q⟩⟩
theorem ok_Book_rules {f : Addr} {fd : FuncData} (F : Fun K "rules" "Book.rules" s_Book_rules f fd) (T : Cls K B) (n : NoAttr K B "_rules") : FnOk P w K mg base CX0 1 f fd ["self"] (sp_prop B "_rules") := by
  refine F.ok sc_Book_rules (fun vs H Q E h => by obtain ⟨x, dx, fs, v, rfl, _⟩ := h; rfl) (fun cdv A outer s H vs Q E hr h => ?_)
  obtain ⟨x, dx, fs, v, rfl, hx, hl, q⟩ := h
  exact ⟨_, (pss_one (ps_ret (pe_fld (pv 0) rfl))), ⟨_, rfl, x, B, dx, fs, v, rfl, hx, T, n, hl, q⟩⟩
theorem ok_Book_ruling {f : Addr} {fd : FuncData} (F : Fun K "ruling" "Book.ruling" s_Book_ruling f fd) (T : Cls K B) (n : NoAttr K B "_ruling") : FnOk P w K mg base CX0 1 f fd ["self"] (sp_prop B "_ruling") := by
  refine F.ok sc_Book_ruling (fun vs H Q E h => by obtain ⟨x, dx, fs, v, rfl, _⟩ := h; rfl) (fun cdv A outer s H vs Q E hr h => ?_)
  obtain ⟨x, dx, fs, v, rfl, hx, hl, q⟩ := h
  exact ⟨_, (pss_one (ps_ret (pe_fld (pv 0) rfl))), ⟨_, rfl, x, B, dx, fs, v, rfl, hx, T, n, hl, q⟩⟩
/-- the fields of a book -/
def bookF (a p : Addr) (rl : Str) (l : Addr) : List (Str × V) := putF "_numbered" (.ref l) (putF "_ruling" (.str rl) (putF "_rules" (.ref p) (putF "_facts" (.ref a) [])))
def BookAt (K : PySem.W.Frag) (C R B : Addr) (N : Addr → Prop) (H : Hp) (o : Addr) (xs : List Str) (f : RF) (rl : Str) : Prop := ∃ (dx a p l : Addr) (ws us : List V), H o = some (.ins B dx (bookF a p rl l)) ∧ SqT K H a (xs.map V.str) ∧ SqT K H p ws ∧ ForAt K C R N H f ws ∧ (N l ∧ H l = some (.lst us)) ∧ All2 (RefAt K C R N H) us ((f.pre 0).map fun q => q.1)
theorem BookAt.keeps {N : Addr → Prop} {H H' : Hp} {o : Addr} {xs : List Str} {f : RF} {rl : Str} (h : BookAt K C R B N H o xs f rl) (k : Keeps N H H') : BookAt K C R B N H' o xs f rl := by
  obtain ⟨dx, a, p, l, ws, us, h1, h2, h3, h4, ⟨h5, h6⟩, h7⟩ := h
  exact ⟨dx, a, p, l, ws, us, k _ _ stays_ins h1, k.tup h2, k.tup h3, h4.keeps k, ⟨h5, k _ _ (stays_lst h5) h6⟩, h7.mono fun _ _ x => x.keeps k⟩
def sp_book_init (K : PySem.W.Frag) (C R B CF CB : Addr) : Sp := fun vs H Q E => ∃ (N : Addr → Prop) (x dx a p : Addr) (xs : List Str) (rl : Str) (ws : List V) (f : RF), vs = [.ref x, .ref a, .ref p, .str rl] ∧ H x = some (.ins B dx []) ∧ SqT K H a (xs.map V.str) ∧ Txts xs ∧ xs.length ≤ 1000 ∧ SqT K H p ws ∧ ForAt K C R N H f ws ∧ f.dep ≤ 12 ∧ f.size ≤ 900 ∧ f.Fit ∧ rl.length ≤ 1000 ∧
  (∀ i, firstBad xs = some i → errIx CF i H E) ∧ (firstBad xs = none → (∀ wd i, firstFault xs (f.pre 0) [] 0 0 = some (wd, i) → wd.length ≤ 1000 → errWI CB wd (i : Nat) H E) ∧ (firstFault xs (f.pre 0) [] 0 0 = none →
    (isName rl = false → errWI CB "ruling" (-1) H E) ∧ (isName rl = true → ∀ H' l us, SameX x H H' → H' x = some (.ins B dx (bookF a p rl l)) → l ≠ x → H l = none → H' l = some (.lst us) → All2 (RefAt K C R N H') us ((f.pre 0).map fun q => q.1) → Q .non H')))
theorem ok_book_init {f : Addr} {fd : FuncData} (F : Fun K "__init__" "Book.__init__" s_Book___init__ f fd) (Bl : Blt mg) (T : Cls K B) (n1 : NoAttr K B "_facts") (n2 : NoAttr K B "_rules") (n3 : NoAttr K B "_ruling") (n4 : NoAttr K B "_numbered")
    (e_InvalidBook : ErrMk P w K mg base "InvalidBook" CB ["self", "word", "index"] (sp_init2 CB "word" "index")) (c_is_name : Cal P w K mg base CX0 1 "is_name" ["value"] sp_is_name) (c_nested : Cal P w K mg base CX0 15 "nested" ["rules", "around"] (sp_nested K C R 12))
    (c_check_facts : Cal P w K mg base (L2.CX P w) 3 "check_facts" ["facts"] (sp_check_facts K CF)) (c_check_rules : Cal P w K mg base (L2.CX P w) 16 "check_rules" ["facts", "rules"] (sp_check_rules K C R CB)) :
    FnOk P w K mg base (L2.CX P w) 17 f fd ["self", "facts", "rules", "ruling"] (sp_book_init K C R B CF CB) := by
  refine F.okX sc_Book___init__ (fun vs H Q E h => by obtain ⟨N, x, dx, a, p, xs, rl, ws, f, rfl, _⟩ := h; rfl) (fun cdv A outer s H vs Q E hr h => ?_)
  obtain ⟨N, x, dx, a, p, xs, rl, ws, f, rfl, hx, hA, tA, lA, hP, hF, hd, hz, hfit, lr, e1, q⟩ := h
  refine ⟨_, (pss_cons (ps_expr (pe_calX c_check_facts (hr.mono (by decide)) (takes_of rfl rfl rfl rfl) (pa_cons (pv 1) pa_nil)))
      (pss_cons (ps_expr (pe_calX c_check_rules (hr.mono (by decide)) (takes_of rfl rfl rfl rfl) (pa_cons (pv 1) (pa_cons (pv 2) pa_nil))))
      (pss_cons (ps_if (pt_not (pt_val (pe_cal c_is_name (hr.mono (by decide)) (pa_cons (pv 3) pa_nil)))) (pss_one (ps_raise rfl (takes_of rfl rfl rfl rfl) (pmk_err2 e_InvalidBook (hr.mono (by decide)) pe_str (pe_un un_neg pe_int)))) pss_nil)
      (pss_cons (ps_fld (pv 0) (pv 1) rfl)
      (pss_cons (ps_fld (pv 0) (pv 2) rfl)
      (pss_cons (ps_fld (pv 0) (pv 3) rfl)
      (pss_one (ps_fld (pv 0) (pe_lc (own := [("rule", 4), ("_", 5)]) (g := gTup K 2 (gCons (gName 4) (gCons (gName 5) gNil))) (tt := tYes) rfl sc_Book___init__.nd (pi_list (pe_cal c_nested (hr.mono (by decide)) (pa_cons (pv 2) (pa_cons pe_int pa_nil)))) (blkOk_by (own := [("rule", 4), ("_", 5)]) (N := ["self", "facts", "rules", "ruling", "rule", "_"]) (sc := defScope s_Book___init__) (by decide +kernel)) (fun _ _ _ _ _ => (pg_tup (by rfl) (pgs_cons (pg_name (i := 4) sc_Book___init__.nd rfl (Or.inl rfl)) (pgs_cons (pg_name (i := 5) sc_Book___init__.nd rfl (Or.inl rfl)) pgs_nil)))) (fun _ _ _ _ _ => pts_nil) (fun _ _ _ _ _ => (pe_.re (pv 4) (by first | (dsimp only [Cx.blk]; done) | exact rfl)))) rfl)))))))), ?_⟩
  have big : ∀ {m : Nat}, m ≤ 1000 → m ≤ sizeLine := fun {m} h => by rw [sizeLine_eq]; omega
  refine ⟨_, rfl, a, xs, rfl, hA, tA, lA, fun z1 H1 s1 => ?_, e1⟩
  obtain ⟨e2, q⟩ := q z1
  refine ⟨_, rfl, _, rfl, N, a, p, xs, ws, f, rfl, s1.tup hA, s1.tup hP, hF.keeps s1.keeps, hd, hz, hfit, fun z2 H2 s2 => ?_, fun wd i ei hw H' d sH nd => e2 wd i ei hw H' d (s1.trans sH) nd⟩
  obtain ⟨e3, q⟩ := q z2
  have s12 := s1.trans s2
  refine ⟨_, rfl, rl, rfl, big lr, fun H3 s3 => ⟨_, rfl, bcase (fun c1 => ?_) (fun c1 => ?_)⟩⟩
  · exact ⟨1, rfl, ⟨Nat.le_trans (show (Str.ofString "ruling").length ≤ 1000 by decide) (by decide), (show (-1 : Int).natAbs.log2 < 1920 by decide)⟩, fun d nd => e3 ((Bool.not_eq_true' _).mp c1) H3 d (s12.trans s3) nd⟩
  have q := q ((Bool.not_eq_false' _).mp c1)
  have s13 := s12.trans s3
  have hx3 := s13 _ _ hx
  refine ⟨_, rfl, _, rfl, x, B, dx, _, rfl, hx3, T, n1, by decide, ?_⟩
  refine ⟨_, rfl, _, rfl, x, B, dx, _, rfl, upd_same, T, n2, Nat.lt_of_le_of_lt (putF_le (Nat.zero_le 0)) (by decide), ?_⟩
  refine ⟨_, rfl, _, rfl, x, B, dx, _, rfl, upd_same, T, n3, Nat.lt_of_le_of_lt (putF_le (putF_le (Nat.zero_le 0))) (by decide), ?_⟩
  have sx : SameX x H (upd (upd (upd H3 x (.ins B dx (putF "_facts" (.ref a) []))) x (.ins B dx (putF "_rules" (.ref p) (putF "_facts" (.ref a) [])))) x (.ins B dx (putF "_ruling" (.str rl) (putF "_rules" (.ref p) (putF "_facts" (.ref a) []))))) := (((SameX.of s13).put).put).put
  have hx6 : (upd (upd (upd H3 x (.ins B dx (putF "_facts" (.ref a) []))) x (.ins B dx (putF "_rules" (.ref p) (putF "_facts" (.ref a) [])))) x (.ins B dx (putF "_ruling" (.str rl) (putF "_rules" (.ref p) (putF "_facts" (.ref a) []))))) x = some (.ins B dx (putF "_ruling" (.str rl) (putF "_rules" (.ref p) (putF "_facts" (.ref a) [])))) := upd_same
  generalize upd (upd (upd H3 x (.ins B dx (putF "_facts" (.ref a) []))) x (.ins B dx (putF "_rules" (.ref p) (putF "_facts" (.ref a) [])))) x (.ins B dx (putF "_ruling" (.str rl) (putF "_rules" (.ref p) (putF "_facts" (.ref a) [])))) = H6 at sx hx6 ⊢
  have k6 : Keeps N H H6 := sx.keeps hx
  refine ⟨_, rfl, N, p, 0, ws, f, rfl, k6.tup hP, hF.keeps k6, hd, hz, fun H7 D us s7 nD eD hu => ?_⟩
  have hul := hu.len
  rw [RF.pre_len] at hul
  refine ⟨D, rfl, ⟨_, sqL_of eD⟩, fun D2 nD2 => lc_it walk_list (fun i H' => Same H7 H' ∧ ∃ rs, H' D2 = some (.lst rs) ∧ All2 (RefAt K C R N H7) rs (((f.pre 0).take i).map fun q => q.1)) ⟨(Same.refl H7).put nD2, [], upd_same, .nil⟩ (fun _ _ _ h => sqL_of (h.1 _ _ eD)) ?_ ?_⟩
  · rintro i y H8 H9 hi ⟨s, rs, e, hr2⟩ ⟨rfl, hy⟩
    obtain ⟨⟨n, k⟩, hq, t, o, rfl, ht, hN⟩ := hu.get hy
    have ht := s _ _ ht
    have hrl := hr2.len
    rw [List.length_map, List.length_take, RF.pre_len] at hrl
    refine ⟨t, [.ref o, .int (k : Nat)], rfl, sqT_of ht, rfl, _, _, rfl, _, _, rfl, rfl, rfl, yes_ ⟨_, rfl, rs, e, small1000 (by omega), s.put nD2, _, upd_same, ?_⟩⟩
    rw [take_more hq, List.map_append]
    exact hr2.snoc ⟨o, rfl, hN⟩
  rintro H8 ⟨s8, rs, e8, hr2⟩
  rw [hu.len, List.take_length] at hr2
  have s68 := s7.trans s8
  have hx8 := s68 _ _ hx6
  have ne : D2 ≠ x := fun z => by rw [z, hx8] at e8; cases e8
  refine ⟨_, rfl, x, B, dx, _, rfl, hx8, T, n4, Nat.lt_of_le_of_lt (putF_le (putF_le (putF_le (Nat.zero_le 0)))) (by decide), ?_⟩
  have kk : Keeps N H7 (upd H8 x (.ins B dx (putF "_numbered" (.ref D2) (putF "_ruling" (.str rl) (putF "_rules" (.ref p) (putF "_facts" (.ref a) [])))))) := Keeps.trans s8.keeps (keeps_make hx8)
  exact q _ D2 rs (sx.same s68).put upd_same ne (sx.free ne (s7.free nD2)) (by rw [upd_ne ne]; exact e8) (hr2.mono fun _ _ x => x.keeps kk)
end
end Sc
namespace Sc
open PySem PySem.Spec PyProof.Rows L2
/-! ### xs[i] += e -/
def rGetL (K : PySem.W.Frag) : V → V → Hp → VK → Prop := fun x y H Q => ∃ (p : Addr) (xs : List V) (i : Nat) (v : V), x = .ref p ∧ y = .int i ∧ SqL K H p xs ∧ xs[i]? = some v ∧ Q v H
theorem get_list {X : Cx} : PGet X (rGetL X.K) := by
  intro pins s σ H x y v u Q I rx ry h
  obtain ⟨p, xs, i, z, rfl, rfl, hq, he, q⟩ := h
  cases rx
  obtain ⟨t, rfl⟩ := ry
  obtain ⟨its, r, pl, hz⟩ := I.list hq
  obtain ⟨w, ew, rw'⟩ := r.get he
  have hl := r.length
  have hn := line63
  have hi : i < its.length := by
    by_cases c : i < its.length
    · exact c
    · rw [List.getElem?_eq_none (by omega)] at ew; cases ew
  exact wpAny_getItem_list pl.isList (by omega) (by omega) (by simpa using ew) ⟨z, H, I, rw', q⟩
/-! ### rows of rules, longer and shorter -/
namespace RF
/-- something of all rules -/
def every (p : Nd → Prop) : RF → Prop
  | .nil => True
  | .cons nm hs fs rl exc rest => p ⟨nm, hs, fs, rl, exc⟩ ∧ exc.every p ∧ rest.every p
theorem every_nodes {p : Nd → Prop} : ∀ {f : RF}, f.every p ↔ ∀ n ∈ f.nodes, p n ∧ n.exc.every p
  | .nil => ⟨(fun _ _ h => nomatch h), fun _ => trivial⟩
  | .cons nm hs fs rl exc rest => by
    constructor
    · rintro ⟨h1, h2, h3⟩ n hn
      rcases List.mem_cons.mp hn with rfl | hn
      · exact ⟨h1, h2⟩
      · exact every_nodes.mp h3 n hn
    · intro h
      exact ⟨(h _ List.mem_cons_self).1, (h _ List.mem_cons_self).2, every_nodes.mpr fun n hn => h n (List.mem_cons_of_mem _ hn)⟩
theorem every_pre {p : Nd → Prop} : ∀ {f : RF} {k : Nat}, f.every p → ∀ q ∈ f.pre k, p q.1
  | .nil, k, _, q, h => nomatch h
  | .cons nm hs fs rl exc rest, k, h, q, hq => by
    rcases List.mem_cons.mp hq with rfl | hq
    · exact h.1
    rcases List.mem_append.mp hq with hq | hq
    · exact every_pre h.2.1 q hq
    · exact every_pre h.2.2 q hq
theorem every_mono {p r : Nd → Prop} (g : ∀ n, p n → r n) : ∀ {f : RF}, f.every p → f.every r
  | .nil, _ => trivial
  | .cons nm hs fs rl exc rest, h => ⟨g _ h.1, every_mono g h.2.1, every_mono g h.2.2⟩
def snoc : RF → Nd → RF
  | .nil, n => .cons n.nm n.hs n.fs n.rl n.exc .nil
  | .cons nm hs fs rl exc rest, n => .cons nm hs fs rl exc (rest.snoc n)
theorem snoc_nodes : ∀ (f : RF) (n : Nd), (f.snoc n).nodes = f.nodes ++ [n]
  | .nil, n => rfl
  | .cons nm hs fs rl exc rest, n => by show _ :: (rest.snoc n).nodes = _; rw [snoc_nodes rest n]; rfl
theorem snoc_size : ∀ (f : RF) (n : Nd), (f.snoc n).size = f.size + (n.exc.size + 1)
  | .nil, n => by show n.exc.size + 1 + 0 = 0 + _; omega
  | .cons nm hs fs rl exc rest, n => by show exc.size + 1 + (rest.snoc n).size = exc.size + 1 + rest.size + _; rw [snoc_size rest n]; omega
theorem snoc_dep : ∀ (f : RF) (n : Nd), (f.snoc n).dep = max f.dep (n.exc.dep + 1)
  | .nil, n => by show max (n.exc.dep + 1) 0 = max 0 _; omega
  | .cons nm hs fs rl exc rest, n => by show max (exc.dep + 1) (rest.snoc n).dep = max (max (exc.dep + 1) rest.dep) _; rw [snoc_dep rest n]; omega
theorem snoc_pre : ∀ (f : RF) (n : Nd) (k : Nat), (f.snoc n).pre k = f.pre k ++ ((n, k) :: n.exc.pre (k + 1))
  | .nil, n, k => by show (_, k) :: (n.exc.pre (k + 1) ++ []) = [] ++ _; rw [List.append_nil]; rfl
  | .cons nm hs fs rl exc rest, n, k => by show (_, k) :: (exc.pre (k + 1) ++ (rest.snoc n).pre k) = (_, k) :: (exc.pre (k + 1) ++ rest.pre k) ++ _; rw [snoc_pre rest n k]; simp
theorem snoc_names (f : RF) (n : Nd) : (f.snoc n).names = f.names ++ n.nm :: n.exc.names := by
  rw [← pre_names (f.snoc n) 0, snoc_pre, List.map_append, pre_names, List.map_cons, pre_names]
theorem snoc_every {p : Nd → Prop} {f : RF} {n : Nd} (h : f.every p) (h1 : p n) (h2 : n.exc.every p) : (f.snoc n).every p := every_nodes.mpr fun m hm => by
  rw [snoc_nodes] at hm
  rcases List.mem_append.mp hm with hm | hm
  · exact every_nodes.mp h m hm
  · rw [List.mem_singleton.mp hm]
    exact ⟨h1, h2⟩
end RF
theorem rows_snoc {K : PySem.W.Frag} {H : Hp} {f : RF} {vs : List V} {v : V} {n : Nd} (h : RowsAt K H f vs) (r : RowAt K H v n) : RowsAt K H (f.snoc n) (vs ++ [v]) := RowsAt.of (by rw [RF.snoc_nodes]; exact h.all.snoc r)
/-! ### all but the draws' state and a counter stands -/
structure Kc (a l c : Addr) (H H' : Hp) : Prop where
  old : RS H a l
  new : RS H' a l
  keep : ∀ b o, b ≠ a → b ≠ l → b ≠ c → H b = some o → H' b = some o
abbrev NoL : Addr → Prop := fun _ => False
section
variable {K : PySem.W.Frag} {a l c : Addr} {H H' H'' : Hp}
theorem Kp.kc (k : Kp a l H H') : Kc a l c H H' := ⟨k.old, k.new, fun b o n1 n2 _ e => k.keep b o n1 n2 e⟩
theorem Kc.trans (k : Kc a l c H H') (k' : Kc a l c H' H'') : Kc a l c H H'' := ⟨k.old, k'.new, fun b o n1 n2 n3 e => k'.keep b o n1 n2 n3 (k.keep b o n1 n2 n3 e)⟩
theorem Kc.of (r : RS H a l) (s : Same H H') : Kc a l c H H' := ⟨r, r.same s, fun b o _ _ _ e => s b o e⟩
theorem Kc.same (k : Kc a l c H H') (s : Same H' H'') : Kc a l c H H'' := k.trans (.of k.new s)
theorem Kc.put0 {p : Addr} {o : HO} (k : Kc a l c H H') (n : H p = none) : Kc a l c H (upd H' p o) := by
  obtain ⟨n1, n2⟩ := k.old.no n
  obtain ⟨st, x, ns, h1, h2, q⟩ := k.new
  exact ⟨k.old, ⟨st, x, ns, by rw [upd_ne n1.symm]; exact h1, by rw [upd_ne n2.symm]; exact h2, q⟩, fun b o m1 m2 m3 e => by rw [upd_ne (ne_of_none e n)]; exact k.keep b o m1 m2 m3 e⟩
/-- the counter changes -/
theorem Kc.count {o : HO} (k : Kc a l c H H') (n1 : c ≠ a) (n2 : c ≠ l) : Kc a l c H (upd H' c o) := by
  obtain ⟨st, x, ns, h1, h2, q⟩ := k.new
  exact ⟨k.old, ⟨st, x, ns, by rw [upd_ne n1.symm]; exact h1, by rw [upd_ne n2.symm]; exact h2, q⟩, fun b o m1 m2 m3 e => by rw [upd_ne m3]; exact k.keep b o m1 m2 m3 e⟩
theorem Kc.keeps {xs : List V} (k : Kc a l c H H') (e : H c = some (.lst xs)) : Keeps NoL H H' := fun b o st h => by
  obtain ⟨sd, x, ns, h1, h2, q⟩ := k.old
  have nl : ∀ zs, o ≠ .lst zs := fun zs z => st.1 zs z
  exact k.keep b o (fun z => by rw [z, h1] at h; exact nl _ (Option.some.inj h).symm) (fun z => by rw [z, h2] at h; exact nl _ (Option.some.inj h).symm) (fun z => by rw [z, e] at h; exact nl _ (Option.some.inj h).symm) h
theorem Kp.keepsN (k : Kp a l H H') : Keeps NoL H H' := k.keeps id id
theorem Kc.free {b : Addr} {xs : List V} (k : Kc a l c H H') (ec : H' c = some (.lst xs)) (e : H' b = none) : H b = none := by
  cases q : H b with
  | none => rfl
  | some o =>
    obtain ⟨n1, n2⟩ := k.new.no e
    rw [k.keep b o n1 n2 (fun z => by rw [z, ec] at e; cases e) q] at e
    cases e
end
/-! ### drawn rules -/
def fourR : List Str := ["pay", "warn", "free", "none"]
/-- the name of the i-th drawn rule -/
def rn (i : Nat) : Str := Str.ofString "r" ++ (⟨#[letters.cps.toList.getD i 0]⟩ : Str)
def rnames (c n : Nat) : List Str := (List.range' c n).map rn
theorem rnames_app {c n m : Nat} : rnames c n ++ rnames (c + n) m = rnames c (n + m) := by
  unfold rnames
  rw [← List.map_append, List.range'_append_1]
theorem rnames_one {c m : Nat} : rn c :: rnames (c + 1) m = rnames c (m + 1) := rfl
theorem rn_name : ∀ i, i < 24 → isName (rn i) = true := by decide +kernel
theorem four_name : ∀ x ∈ fourR, isName x = true := by decide +kernel
end Sc
namespace Sc
open PySem PySem.Spec PyProof.Rows L2
/-! ### what a book is asked -/
theorem sc_Book___contains__ : FnScope ["self", "name", "rule"] ["self", "name"] (defScope s_Book___contains__) := ⟨rfl, rfl, rfl, by decide +kernel, rfl, by decide +kernel, by decide +kernel⟩
theorem sc_Book___getitem__ : FnScope ["self", "name", "rule"] ["self", "name"] (defScope s_Book___getitem__) := ⟨rfl, rfl, rfl, by decide +kernel, rfl, by decide +kernel, by decide +kernel⟩
theorem decV_str {a b : Str} : decide (V.str a = V.str b) = decide (a = b) := by
  rw [decide_eq_decide]
  exact ⟨V.str.inj, fun h => by rw [h]⟩
section
variable {P : Program} {w : World} {K : PySem.W.Frag} {mg : Str → Option Value} {base : Heap} {C R B CF CB CU : Addr}
def sp_contains (K : PySem.W.Frag) (C R B : Addr) : Sp := fun vs H Q _ => ∃ (N : Addr → Prop) (o : Addr) (xs : List Str) (f : RF) (rl nm : Str), vs = [.ref o, .str nm] ∧ BookAt K C R B N H o xs f rl ∧ f.size ≤ 900 ∧ ∀ H', Same H H' → Q (.bl (decide (nm ∈ f.names))) H'
theorem ok_contains {f : Addr} {fd : FuncData} (F : Fun K "__contains__" "Book.__contains__" s_Book___contains__ f fd) (Bl : Blt mg) (T : Cls K B) (n4 : NoAttr K B "_numbered") (kR : RuleX P w K mg base R) :
    FnOk P w K mg base CX0 3 f fd ["self", "name"] (sp_contains K C R B) := by
  refine F.ok sc_Book___contains__ (fun vs H Q E h => by obtain ⟨N, o, xs, f, rl, nm, rfl, _⟩ := h; rfl) (fun cdv A outer s H vs Q E hr h => ?_)
  obtain ⟨N, o, xs, f, rl, nm, rfl, ⟨dx, a, p, l, ws, us, ho, hS, hP, hF, ⟨nl, hl⟩, hus⟩, hz, q⟩ := h
  have hlen := hus.len
  rw [List.length_map, RF.pre_len] at hlen
  refine ⟨_, (pss_one (ps_ret (pe_callB (cr_any rfl) (by rfl) Bl.b_any (by decide +kernel) (pa_cons (pe_lc (own := [("rule", 2)]) (g := gName 2) (tt := tYes) rfl sc_Book___contains__.nd (pi_list (pe_fld (pv 0) rfl)) (blkOk_by (own := [("rule", 2)]) (N := ["self", "name", "rule"]) (sc := defScope s_Book___contains__) (by decide +kernel)) (fun _ _ _ _ _ => (pg_name (i := 2) sc_Book___contains__.nd rfl (Or.inl rfl))) (fun _ _ _ _ _ => pts_nil) (fun _ _ _ _ _ => (pe_.re (pe_cmpR op_eq (pe_cprop kR.name kR.cls (hr.mono (by decide)) (pv 2)) (pv 1) (nomark _)) (by first | (dsimp only [Cx.blk]; done) | exact rfl)))) pa_nil)))), ?_⟩
  refine ⟨_, rfl, o, B, dx, _, _, rfl, ho, T, n4, rfl, l, rfl, ⟨_, sqL_of hl⟩, fun D nD => lc_it walk_list (fun i H' => Same H H' ∧ H' D = some (.lst ((((f.pre 0).map fun q => q.1).take i).map fun n => V.bl (decide (n.nm = nm))))) ⟨(Same.refl H).put nD, upd_same⟩ (fun _ _ _ h => sqL_of (h.1 _ _ hl)) ?_ ?_⟩
  · rintro i y H2 H3 hi ⟨s, e⟩ ⟨rfl, hy⟩
    obtain ⟨n, hn, o', rfl, hN⟩ := hus.get hy
    obtain ⟨dx', c', pe', l', ws', ho', _⟩ := hN.keeps (N := N) s.keeps
    refine ⟨rfl, yes_ ⟨_, rfl, o', dx', _, rfl, ho', o', dx', _, _, rfl, ho', rfl, _, rfl, rfl, ?_⟩⟩
    refine grow (acc := fun i => (((f.pre 0).map fun q => q.1).take i).map fun n => V.bl (decide (n.nm = nm))) nD s e ?_ ?_
    · rw [List.length_map, List.length_take, List.length_map, RF.pre_len]
      exact small1000 (by omega)
    · show List.map _ _ = List.map _ _ ++ _
      rw [take_more hn, List.map_append, decV_str]
      rfl
  rintro H2 ⟨s, e⟩
  rw [hus.len, List.take_length] at e
  refine ⟨D, ((f.pre 0).map fun q => q.1).map fun n => decide (n.nm = nm), rfl, sqL_of (by rw [e]; simp only [List.map_map]; rfl), ?_⟩
  have h := q H2 s
  rw [show decide (nm ∈ f.names) = (((f.pre 0).map fun q => q.1).map fun n => decide (n.nm = nm)).any id by
    rw [List.any_map, List.any_map, Bool.eq_iff_iff, decide_eq_true_iff, List.any_eq_true]
    unfold RF.names
    rw [List.mem_map]
    exact ⟨fun ⟨q, hq, e⟩ => ⟨q, hq, decide_eq_true e⟩, fun ⟨q, hq, e⟩ => ⟨q, hq, of_decide_eq_true e⟩⟩] at h
  exact h
/-- the first rule of a name -/
def RF.find (f : RF) (nm : Str) : Option Nd := ((f.pre 0).map fun q => q.1).find? fun n => decide (n.nm = nm)
def sp_getitem (K : PySem.W.Frag) (C R B CU : Addr) : Sp := fun vs H Q E => ∃ (N : Addr → Prop) (o : Addr) (xs : List Str) (f : RF) (rl nm : Str), vs = [.ref o, .str nm] ∧ BookAt K C R B N H o xs f rl ∧ f.size ≤ 900 ∧
  (∀ n v, f.find nm = some n → RefAt K C R N H v n → Q v H) ∧ (f.find nm = none → ∀ H', Same H H' → E (.ref CU) none H')
theorem ok_getitem {f : Addr} {fd : FuncData} (F : Fun K "__getitem__" "Book.__getitem__" s_Book___getitem__ f fd) (Bl : Blt mg) (T : Cls K B) (n4 : NoAttr K B "_numbered") (kR : RuleX P w K mg base R) (e_UnknownRule : ErrMk0 K mg "UnknownRule" CU) :
    FnOk P w K mg base (L2.CX P w) 3 f fd ["self", "name"] (sp_getitem K C R B CU) := by
  refine F.okX sc_Book___getitem__ (fun vs H Q E h => by obtain ⟨N, o, xs, f, rl, nm, rfl, _⟩ := h; rfl) (fun cdv A outer s H vs Q E hr h => ?_)
  obtain ⟨N, o, xs, f, rl, nm, rfl, ⟨dx, a, p, l, ws, us, ho, hS, hP, hF, ⟨nl, hl⟩, hus⟩, hz, q, er⟩ := h
  have hlen := hus.len
  rw [List.length_map, RF.pre_len] at hlen
  refine ⟨_, (pss_cons (ps_for (passes_of rfl) rfl (pi_list (pe_fld (pv 0) rfl)) (pg_name (i := 2) sc_Book___getitem__.nd rfl (Or.inl rfl)) (pss_one (ps_if (pt_cmpR op_eq (pe_cprop kR.name kR.cls (hr.mono (by decide)) (pv 2)) (pv 1) (nomark _)) (pss_one (ps_ret (pv 2))) pss_nil)))
      (pss_one (ps_raise rfl (takes_of rfl rfl rfl rfl) (pmk_err0 e_UnknownRule)))), ?_⟩
  refine ⟨_, rfl, o, B, dx, _, _, rfl, ho, T, n4, rfl, l, rfl, ⟨_, sqL_of hl⟩, for_it walk_list (fun i σ H' => ∃ y, σ = [some (.ref o), some (.str nm), y] ∧ H' = H ∧ ∀ (j : Nat) (n : Nd), j < i → ((f.pre 0).map fun q => q.1)[j]? = some n → n.nm ≠ nm) ⟨none, rfl, rfl, fun j n hj => absurd hj (Nat.not_lt_zero j)⟩ (fun _ _ _ _ ⟨_, _, e, _⟩ => by rw [e]; exact sqL_of hl) ?_ ?_⟩
  · rintro i y σ H2 H3 hi ⟨y', rfl, rfl, hne⟩ ⟨rfl, hy⟩
    obtain ⟨n, hn, o', rfl, hN⟩ := hus.get hy
    have hR : RefAt K C R N _ (.ref o') n := ⟨o', rfl, hN⟩
    obtain ⟨dx', c', pe', l', ws', ho', _⟩ := hN
    refine ⟨_, rfl, o', dx', _, rfl, ho', o', dx', _, _, rfl, ho', rfl, _, rfl, rfl, _, rfl, bcase (fun c1 => ?_) (fun c1 => ?_)⟩
    · have c1 := V.str.inj (of_decide_eq_true c1)
      refine ⟨_, rfl, q n _ ?_ hR⟩
      unfold RF.find
      rw [List.find?_eq_some_iff_getElem]
      obtain ⟨hil, e⟩ := List.getElem?_eq_some_iff.mp hn
      refine ⟨decide_eq_true c1, i, hil, e, fun j hj => ?_⟩
      rw [decide_eq_false (hne j _ hj (List.getElem?_eq_getElem (by omega)))]
      rfl
    · have c1 : n.nm ≠ nm := fun z => of_decide_eq_false c1 (by rw [z])
      refine ⟨_, rfl, rfl, fun j m hj hm => ?_⟩
      by_cases hji : j < i
      · exact hne j m hji hm
      · have e : j = i := by omega
        subst e
        rw [hn] at hm
        cases hm
        exact c1
  · rintro σ H2 ⟨y', rfl, rfl, hne⟩
    refine er ?_ H2 (Same.refl H2)
    unfold RF.find
    rw [List.find?_eq_none]
    intro m hm
    obtain ⟨j, hj, e⟩ := List.getElem_of_mem hm
    rw [decide_eq_false (hne j m (by rw [hus.len]; exact hj) (by rw [List.getElem?_eq_getElem hj, e]))]
    exact Bool.false_ne_true
end
end Sc
namespace Sc
open PySem PySem.Spec PyProof.Rows L2
theorem sc_path_to : FnScope ["rules", "name", "rule", "inner"] ["rules", "name"] (defScope s_path_to) := ⟨rfl, rfl, rfl, by decide +kernel, rfl, by decide +kernel, by decide +kernel⟩
theorem sc_next_beside : FnScope ["book", "name", "path", "beside", "place", "rule"] ["book", "name"] (defScope s_next_beside) := ⟨rfl, rfl, rfl, by decide +kernel, rfl, by decide +kernel, by decide +kernel⟩
/-- the way to a rule -/
def RF.path (nm : Str) : RF → List Nd
  | .nil => []
  | .cons n hs fs rl exc rest => if n = nm then [⟨n, hs, fs, rl, exc⟩] else if RF.path nm exc = [] then RF.path nm rest else ⟨n, hs, fs, rl, exc⟩ :: RF.path nm exc
theorem RF.path_len : ∀ (f : RF) (nm : Str), (f.path nm).length ≤ f.size
  | .nil, _ => Nat.le_refl 0
  | .cons n hs fs rl exc rest, nm => by
    have h1 := RF.path_len exc nm
    have h2 := RF.path_len rest nm
    show (if n = nm then _ else if RF.path nm exc = [] then RF.path nm rest else _).length ≤ exc.size + 1 + rest.size
    split
    · show 1 ≤ _; omega
    · split
      · omega
      · rw [List.length_cons]; omega
/-- such a rule is not on the way -/
def Off (nm : Str) (n : Nd) : Prop := n.nm ≠ nm ∧ n.exc.path nm = []
theorem RF.path_none {nm : Str} : ∀ {f : RF}, (∀ n ∈ f.nodes, Off nm n) → f.path nm = []
  | .nil, _ => rfl
  | .cons n hs fs rl exc rest, h => by
    obtain ⟨h1, h2⟩ := h ⟨n, hs, fs, rl, exc⟩ List.mem_cons_self
    show (if n = nm then _ else if RF.path nm exc = [] then RF.path nm rest else _) = _
    rw [if_neg h1, if_pos h2]
    exact RF.path_none fun m hm => h m (List.mem_cons_of_mem _ hm)
theorem RF.path_at {nm : Str} : ∀ {f : RF} {i : Nat} {n : Nd}, f.nodes[i]? = some n → (∀ (j : Nat) (m : Nd), j < i → f.nodes[j]? = some m → Off nm m) → ¬ Off nm n → f.path nm = if n.nm = nm then [n] else n :: n.exc.path nm
  | .nil, i, n, h, _, _ => by cases i <;> cases h
  | .cons x hs fs rl exc rest, 0, n, h, _, no => by
    cases h
    show (if x = nm then _ else if RF.path nm exc = [] then _ else _) = (if x = nm then _ else _)
    by_cases e : x = nm
    · rw [if_pos e, if_pos e]
    · rw [if_neg e, if_neg e, if_neg fun z => no ⟨e, z⟩]
  | .cons x hs fs rl exc rest, i + 1, n, h, off, no => by
    obtain ⟨h1, h2⟩ := off 0 ⟨x, hs, fs, rl, exc⟩ (Nat.zero_lt_succ i) rfl
    show (if x = nm then _ else if RF.path nm exc = [] then RF.path nm rest else _) = _
    rw [if_neg h1, if_pos h2]
    exact RF.path_at (i := i) h (fun j m hj hm => off (j + 1) m (by omega) hm) no
section
variable {P : Program} {w : World} {K : PySem.W.Frag} {mg : Str → Option Value} {base : Heap} {C R B CF CB CU CN : Addr}
def sp_path (K : PySem.W.Frag) (C R : Addr) (d : Nat) : Sp := fun vs H Q _ => ∃ (N : Addr → Prop) (p : Addr) (nm : Str) (ws : List V) (f : RF), vs = [.ref p, .str nm] ∧ SqT K H p ws ∧ ForAt K C R N H f ws ∧ f.dep ≤ d ∧ f.size ≤ 900 ∧
  ∀ H' D us, Same H H' → H' D = some (.lst us) → All2 (RefAt K C R N H') us (f.path nm) → Q (.ref D) H'
theorem ok_path {d : Nat} {f : Addr} {fd : FuncData} (F : Fun K "path_to" "path_to" s_path_to f fd) (kR : RuleX P w K mg base R) (c_path_to : Cal P w K mg base CX0 (d + 2) "path_to" ["rules", "name"] (Below (sp_path K C R) d)) :
    FnOk P w K mg base CX0 (d + 3) f fd ["rules", "name"] (sp_path K C R d) := by
  refine F.ok sc_path_to (fun vs H Q E h => by obtain ⟨N, p, nm, ws, f, rfl, _⟩ := h; rfl) (fun cdv A outer s H vs Q E hr h => ?_)
  obtain ⟨N, p, nm, ws, f, rfl, hP, hF, hd, hz, q⟩ := h
  have hA := hF.all
  have hln := hA.len
  refine ⟨_, (pss_cons (ps_for PassesOwn.never rfl (pi_tup (pv 0)) (pg_name (i := 2) sc_path_to.nd rfl (Or.inl rfl)) (pss_cons (ps_if (pt_cmpR op_eq (pe_cprop kR.name kR.cls (hr.mono (by omega)) (pv 2)) (pv 1) (nomark _)) (pss_one (ps_ret (pe_lst (pa_cons (pv 2) pa_nil)))) pss_nil)
      (pss_cons (ps_set (i := 3) sc_path_to.nd rfl (Or.inl rfl) (pe_cal c_path_to hr (pa_cons (pe_cprop kR.exceptions kR.cls (hr.mono (by omega)) (pv 2)) (pa_cons (pv 1) pa_nil))))
      (pss_one (ps_if (pt_tru (pv 3) (by intro _; rfl)) (pss_one (ps_ret (pe_op op_cat (pe_lst (pa_cons (pv 2) pa_nil)) (pv 3)))) pss_nil)))))
      (pss_one (ps_ret (pe_lst pa_nil)))), ?_⟩
  refine ⟨_, rfl, p, rfl, ⟨_, hP⟩, for_it walk_tup (fun i σ H' => ∃ y2 y3, σ = [some (.ref p), some (.str nm), y2, y3] ∧ Same H H' ∧ ∀ (j : Nat) (m : Nd), j < i → f.nodes[j]? = some m → Off nm m)
    ⟨none, none, rfl, Same.refl H, fun j m hj => absurd hj (Nat.not_lt_zero j)⟩ (fun _ _ _ _ ⟨_, _, _, s, _⟩ => s.tup hP) ?_ ?_⟩
  · rintro i y σ H3 H2 hi ⟨y2, y3, rfl, s, hoff⟩ ⟨rfl, hy⟩
    obtain ⟨n, hn, o, rfl, hN⟩ := hA.get hy
    have hmem : n ∈ f.nodes := List.mem_of_getElem? hn
    have hdm := RF.dep_mem f n hmem
    have hsm := RF.size_mem f n hmem
    obtain ⟨d, rfl⟩ : ∃ d', d = d' + 1 := ⟨d - 1, by omega⟩
    have hR : RefAt K C R N _ (.ref o) n := ⟨o, rfl, hN.keeps (N := N) s.keeps⟩
    obtain ⟨dx', c', pe', l', ws', ho', hc', hpe', hle', hfe'⟩ := hN.keeps (N := N) s.keeps
    refine ⟨_, rfl, o, dx', _, rfl, ho', o, dx', _, _, rfl, ho', rfl, _, rfl, rfl, _, rfl, bcase (fun c1 => ?_) (fun c1 => ?_)⟩
    · have c1 : n.nm = nm := V.str.inj (of_decide_eq_true c1)
      refine ⟨_, rfl, (by show 1 ≤ sizeLine; decide), fun D nD => ?_⟩
      have s9 := (Same.refl _).put (o := .lst [.ref o]) nD
      refine q _ D [.ref o] (s.trans s9) upd_same ?_
      rw [RF.path_at hn hoff (fun z => z.1 c1), if_pos c1]
      exact .one (hR.keeps (N := N) s9.keeps)
    have c1 : n.nm ≠ nm := fun z => of_decide_eq_false c1 (by rw [z])
    refine ⟨_, rfl, o, dx', _, rfl, ho', o, dx', _, _, rfl, ho', rfl, _, rfl, N, pe', nm, ws', n.exc, rfl, hpe', hfe', by omega, by omega, fun H5 D us s5 eD hu => ?_⟩
    refine ⟨_, rfl, _, .inl ⟨_, sqL_of eD, rfl⟩, bcase (fun c2 => ?_) (fun c2 => ?_)⟩
    · have hne : n.exc.path nm ≠ [] := fun z => by
        rw [z] at hu
        cases hu
        cases c2
      refine ⟨_, rfl, (by show 1 ≤ sizeLine; decide), fun l6 n6 => ?_⟩
      have s6 := (Same.refl _).put (o := .lst [.ref o]) n6
      have hul := hu.len
      have hpl := RF.path_len n.exc nm
      refine ⟨_, rfl, l6, D, _, _, rfl, rfl, upd_same, s6 _ _ eD, by rw [sizeLine_eq]; show 1 + us.length ≤ _; omega, fun l7 n7 => ?_⟩
      have s7 := s6.put' (o := .lst ([V.ref o] ++ us)) n7
      have s57 := s5.trans s7
      refine q _ l7 _ (s.trans s57) upd_same ?_
      rw [RF.path_at hn hoff (fun z => hne z.2), if_neg c1]
      exact .cons (hR.keeps (N := N) s57.keeps) (hu.mono fun _ _ x => x.keeps (N := N) s7.keeps)
    · have he : n.exc.path nm = [] := by
        cases us with
        | nil => have := hu.len; exact List.length_eq_zero_iff.mp this.symm
        | cons x r => cases c2
      refine ⟨_, _, rfl, s.trans s5, fun j m hj hm => ?_⟩
      by_cases hji : j < i
      · exact hoff j m hji hm
      · have e : j = i := by omega
        subst e
        rw [hn] at hm
        cases hm
        exact ⟨c1, he⟩
  · rintro σ H2 ⟨y2, y3, rfl, s, hoff⟩
    refine ⟨Nat.zero_le _, fun D nD => ?_⟩
    have s9 := (Same.refl _).put (o := .lst []) nD
    refine q _ D [] (s.trans s9) upd_same ?_
    rw [RF.path_none fun n hn => ?_]
    · exact .nil
    · obtain ⟨j, hj, e⟩ := List.getElem_of_mem hn
      exact hoff j n (by rw [hln]; exact hj) (by rw [List.getElem?_eq_getElem hj, e])
end
end Sc
namespace Sc
open PySem PySem.Spec PyProof.Rows L2
/-- the class Book as its users see it -/
structure BookX (P : Program) (w : World) (K : PySem.W.Frag) (mg : Str → Option Value) (base : Heap) (B : Addr) : Prop where
  cls : Cls K B
  facts : PropX P w K mg base B "facts" "_facts"
  rules : PropX P w K mg base B "rules" "_rules"
  ruling : PropX P w K mg base B "ruling" "_ruling"
theorem RF.path_no {nm : Str} : ∀ {f : RF}, ¬ nm ∈ f.names → f.path nm = []
  | .nil, _ => rfl
  | .cons n hs fs rl exc rest, h => by
    rw [← RF.pre_names _ 0] at h
    have e : ((RF.cons n hs fs rl exc rest).pre 0).map (fun p => p.1.nm) = n :: (exc.names ++ rest.names) := by
      show n :: ((exc.pre 1 ++ rest.pre 0).map _) = _
      rw [List.map_append, RF.pre_names, RF.pre_names]
    rw [e] at h
    have h1 : ¬ n = nm := fun z => h (by rw [z]; exact List.mem_cons_self)
    show (if n = nm then _ else if RF.path nm exc = [] then RF.path nm rest else _) = _
    rw [if_neg h1, if_pos (RF.path_no fun z => h (List.mem_cons_of_mem _ (List.mem_append_left _ z)))]
    exact RF.path_no fun z => h (List.mem_cons_of_mem _ (List.mem_append_right _ z))
section
variable {P : Program} {w : World} {K : PySem.W.Frag} {mg : Str → Option Value} {base : Heap} {C R B CF CB CU CN : Addr}
def sp_beside_no (K : PySem.W.Frag) (C R B CU : Addr) : Sp := fun vs H Q E => ∃ (N : Addr → Prop) (o : Addr) (xs : List Str) (f : RF) (rl nm : Str), vs = [.ref o, .str nm] ∧ BookAt K C R B N H o xs f rl ∧ f.dep ≤ 12 ∧ f.size ≤ 900 ∧ ¬ nm ∈ f.names ∧ ∀ H', Same H H' → E (.ref CU) none H'
theorem ok_beside_no {f : Addr} {fd : FuncData} (F : Fun K "next_beside" "next_beside" s_next_beside f fd) (Bl : Blt mg) (kR : RuleX P w K mg base R) (kB : BookX P w K mg base B) (e_UnknownRule : ErrMk0 K mg "UnknownRule" CU) (e_NoNeighbor : ErrMk0 K mg "NoNeighbor" CN)
    (c_path_to : Cal P w K mg base CX0 15 "path_to" ["rules", "name"] (sp_path K C R 12)) : FnOk P w K mg base (L2.CX P w) 16 f fd ["book", "name"] (sp_beside_no K C R B CU) := by
  refine F.okX sc_next_beside (fun vs H Q E h => by obtain ⟨N, o, xs, f, rl, nm, rfl, _⟩ := h; rfl) (fun cdv A outer s H vs Q E hr h => ?_)
  obtain ⟨N, o, xs, f, rl, nm, rfl, ⟨dx, a, p, l, ws, us, ho, hS, hP, hF, ⟨nl, hl⟩, hus⟩, hd, hz, hno, er⟩ := h
  refine ⟨_, (pss_cons (ps_set (i := 2) sc_next_beside.nd rfl (Or.inl rfl) (pe_cal c_path_to (hr.mono (by decide)) (pa_cons (pe_cprop kB.rules kB.cls (hr.mono (by decide)) (pv 0)) (pa_cons (pv 1) pa_nil))))
      (pss_cons (ps_if (pt_not (pt_tru (pv 2) (by intro _; rfl))) (pss_one (ps_raise rfl (takes_of rfl rfl rfl rfl) (pmk_err0 e_UnknownRule))) pss_nil)
      (pss_cons (ps_set (i := 3) sc_next_beside.nd rfl (Or.inl rfl) (pe_ifExp (pt_cmpR op_gt (pe_callB call_len_seq (by rfl) Bl.b_len PySem.boot_len (pa_cons (pv 2) pa_nil)) pe_int (nomark _)) (pe_cprop kR.exceptions kR.cls (hr.mono (by decide)) (pe_ix ix_list (pv 2) (pe_un un_neg pe_int) (fun _ _ => rfl))) (pe_cprop kB.rules kB.cls (hr.mono (by decide)) (pv 0))))
      (pss_cons (ps_set (i := 4) sc_next_beside.nd rfl (Or.inl rfl) (pe_op op_add (pe_bm PySem.F.plainAttrs_list PySem.F.slot_list_index PySem.F.type_list_index mt_index (pe_lc (own := [("rule", 5)]) (g := gName 5) (tt := tYes) rfl sc_next_beside.nd (pi_tup (pv 3)) (blkOk_by (own := [("rule", 5)]) (N := ["book", "name", "path", "beside", "place", "rule"]) (sc := defScope s_next_beside) (by decide +kernel)) (fun _ _ _ _ _ => (pg_name (i := 5) sc_next_beside.nd rfl (Or.inl rfl))) (fun _ _ _ _ _ => pts_nil) (fun _ _ _ _ _ => (pe_.re (pe_cprop kR.name kR.cls (hr.mono (by decide)) (pv 5)) (by first | (dsimp only [Cx.blk]; done) | exact rfl)))) (pa_cons (pv 1) pa_nil)) pe_int))
      (pss_cons (ps_if (pt_cmpR op_eq (pv 4) (pe_callB call_len_seq (by rfl) Bl.b_len PySem.boot_len (pa_cons (pv 3) pa_nil)) (nomark _)) (pss_one (ps_raise rfl (takes_of rfl rfl rfl rfl) (pmk_err0 e_NoNeighbor))) pss_nil)
      (pss_one (ps_ret (pe_ix ix_tup (pv 3) (pv 4) (fun _ _ => rfl))))))))), ?_⟩
  refine ⟨_, rfl, o, dx, _, rfl, ho, o, dx, _, _, rfl, ho, rfl, _, rfl, N, p, nm, ws, f, rfl, hP, hF, hd, hz, fun H5 D us s5 eD hu => ?_⟩
  rw [RF.path_no hno] at hu
  cases hu
  exact ⟨_, rfl, _, .inl ⟨_, sqL_of eD, rfl⟩, iteT (er H5 s5)⟩
end
end Sc
namespace Sc
open PySem PySem.Spec PyProof.Rows L2
/-! ### rows of rules that are edited -/
/-- the same rule with other exceptions -/
def Nd.wE (n : Nd) (e : RF) : Nd := ⟨n.nm, n.hs, n.fs, n.rl, e⟩
namespace RF
theorem ext_nodes {f g : RF} (h : f.nodes = g.nodes) : f = g := by rw [← of_nodes f, h, of_nodes]
theorem names_cons {n : Str} {hs fs : List Str} {rl : Str} {exc rest : RF} : (RF.cons n hs fs rl exc rest).names = n :: (exc.names ++ rest.names) := by
  rw [← pre_names _ 0]
  show n :: ((exc.pre 1 ++ rest.pre 0).map _) = _
  rw [List.map_append, pre_names, pre_names]
theorem names_nil : RF.nil.names = [] := rfl
theorem names_flat : ∀ f : RF, f.names = f.nodes.flatMap fun n => n.nm :: n.exc.names
  | .nil => rfl
  | .cons n hs fs rl exc rest => by
    rw [names_cons, names_flat rest]
    rfl
theorem mem_names {f : RF} {x : Str} : x ∈ f.names ↔ ∃ n ∈ f.nodes, x = n.nm ∨ x ∈ n.exc.names := by
  rw [names_flat, List.mem_flatMap]
  simp only [List.mem_cons]
/-- others ahead of a row -/
def put : List Nd → RF → RF
  | [], f => f
  | n :: r, f => .cons n.nm n.hs n.fs n.rl n.exc (put r f)
theorem put_nodes : ∀ (os : List Nd) (f : RF), (put os f).nodes = os ++ f.nodes
  | [], _ => rfl
  | n :: r, f => by
    show n :: (put r f).nodes = _
    rw [put_nodes r f]
    rfl
theorem put_of (os ns : List Nd) : put os (ofNodes ns) = ofNodes (os ++ ns) := ext_nodes (by rw [put_nodes, nodes_of, nodes_of])
/-- a change at the rule of a name -/
def upd (nm : Str) (G : Nd → RF → RF) : RF → RF
  | .nil => .nil
  | .cons n hs fs rl exc rest => if n = nm then G ⟨n, hs, fs, rl, exc⟩ rest else .cons n hs fs rl (upd nm G exc) (upd nm G rest)
theorem upd_no {nm : Str} {G : Nd → RF → RF} : ∀ {f : RF}, ¬ nm ∈ f.names → upd nm G f = f
  | .nil, _ => rfl
  | .cons n hs fs rl exc rest, h => by
    rw [names_cons] at h
    show (if n = nm then _ else RF.cons n hs fs rl (upd nm G exc) (upd nm G rest)) = _
    rw [if_neg fun z => h (by rw [z]; exact List.mem_cons_self), upd_no fun z => h (List.mem_cons_of_mem _ (List.mem_append_left _ z)), upd_no fun z => h (List.mem_cons_of_mem _ (List.mem_append_right _ z))]
theorem upd_at {nm : Str} {G : Nd → RF → RF} : ∀ {f : RF} {k : Nat} {n : Nd}, f.nodes[k]? = some n → n.nm = nm → (∀ m ∈ f.nodes.take k, m.nm ≠ nm ∧ ¬ nm ∈ m.exc.names) → upd nm G f = put (f.nodes.take k) (G n (ofNodes (f.nodes.drop (k + 1))))
  | .nil, k, n, h, _, _ => by cases k <;> cases h
  | .cons x hs fs rl exc rest, 0, n, h, e, _ => by
    cases h
    show (if x = nm then _ else _) = G ⟨x, hs, fs, rl, exc⟩ (ofNodes rest.nodes)
    rw [if_pos e, of_nodes]
  | .cons x hs fs rl exc rest, k + 1, n, h, e, off => by
    have h0 := off ⟨x, hs, fs, rl, exc⟩ List.mem_cons_self
    show (if x = nm then _ else RF.cons x hs fs rl (upd nm G exc) (upd nm G rest)) = _
    rw [if_neg h0.1, upd_no h0.2, upd_at (f := rest) (k := k) h e fun m hm => off m (List.mem_cons_of_mem _ hm)]
    rfl
theorem upd_map {nm : Str} {G : Nd → RF → RF} : ∀ {f : RF}, (∀ n ∈ f.nodes, n.nm ≠ nm) → (upd nm G f).nodes = f.nodes.map fun n => n.wE (upd nm G n.exc)
  | .nil, _ => rfl
  | .cons x hs fs rl exc rest, h => by
    show (if x = nm then G _ _ else RF.cons x hs fs rl (upd nm G exc) (upd nm G rest)).nodes = _
    rw [if_neg (h _ List.mem_cons_self)]
    show _ :: (upd nm G rest).nodes = _
    rw [upd_map (f := rest) fun m hm => h m (List.mem_cons_of_mem _ hm)]
    rfl
/-- others in the place of the rules of a name, as the program does it -/
def repl (nm : Str) (os : List Nd) : RF → RF
  | .nil => .nil
  | .cons n hs fs rl exc rest => if n = nm then put os (repl nm os rest) else .cons n hs fs rl (repl nm os exc) (repl nm os rest)
def replL (nm : Str) (os : List Nd) (ns : List Nd) : List Nd := ns.flatMap fun n => if n.nm = nm then os else [n.wE (repl nm os n.exc)]
theorem repl_nodes {nm : Str} {os : List Nd} : ∀ f : RF, (repl nm os f).nodes = replL nm os f.nodes
  | .nil => rfl
  | .cons n hs fs rl exc rest => by
    have ih := repl_nodes (nm := nm) (os := os) rest
    show (if n = nm then put os (repl nm os rest) else RF.cons n hs fs rl (repl nm os exc) (repl nm os rest)).nodes = (if n = nm then os else [Nd.wE ⟨n, hs, fs, rl, exc⟩ (repl nm os exc)]) ++ replL nm os rest.nodes
    by_cases e : n = nm
    · rw [if_pos e, if_pos e, put_nodes, ih]
    · rw [if_neg e, if_neg e, ← ih]
      rfl
theorem replL_more {nm : Str} {os : List Nd} {ns : List Nd} {i : Nat} {n : Nd} (h : ns[i]? = some n) : replL nm os (ns.take (i + 1)) = replL nm os (ns.take i) ++ (if n.nm = nm then os else [n.wE (repl nm os n.exc)]) := by
  unfold replL
  rw [take_more h, List.flatMap_append]
  simp
theorem repl_no {nm : Str} {os : List Nd} : ∀ {f : RF}, ¬ nm ∈ f.names → repl nm os f = f
  | .nil, _ => rfl
  | .cons n hs fs rl exc rest, h => by
    rw [names_cons] at h
    show (if n = nm then _ else RF.cons n hs fs rl (repl nm os exc) (repl nm os rest)) = _
    rw [if_neg fun z => h (by rw [z]; exact List.mem_cons_self), repl_no fun z => h (List.mem_cons_of_mem _ (List.mem_append_left _ z)), repl_no fun z => h (List.mem_cons_of_mem _ (List.mem_append_right _ z))]
theorem nodup_cons {n : Str} {hs fs : List Str} {rl : Str} {exc rest : RF} (h : (RF.cons n hs fs rl exc rest).names.Nodup) :
    ¬ n ∈ exc.names ∧ ¬ n ∈ rest.names ∧ exc.names.Nodup ∧ rest.names.Nodup ∧ ∀ x ∈ exc.names, ¬ x ∈ rest.names := by
  rw [names_cons, List.nodup_cons, List.nodup_append] at h
  obtain ⟨h1, h2, h3, h4⟩ := h
  exact ⟨fun z => h1 (List.mem_append_left _ z), fun z => h1 (List.mem_append_right _ z), h2, h3, fun x hx hy => h4 x hx x hy rfl⟩
theorem nodup_node : ∀ {f : RF}, f.names.Nodup → ∀ n ∈ f.nodes, n.exc.names.Nodup ∧ ¬ n.nm ∈ n.exc.names
  | .nil, _, _, hn => nomatch hn
  | .cons x hs fs rl exc rest, h, n, hn => by
    obtain ⟨h1, h2, h3, h4, h5⟩ := nodup_cons h
    rcases List.mem_cons.mp hn with rfl | hn
    · exact ⟨h3, h1⟩
    · exact nodup_node h4 n hn
theorem repl_upd {nm : Str} {os : List Nd} : ∀ {f : RF}, f.names.Nodup → repl nm os f = upd nm (fun _ rest => put os rest) f
  | .nil, _ => rfl
  | .cons n hs fs rl exc rest, h => by
    obtain ⟨h1, h2, h3, h4, h5⟩ := nodup_cons h
    show (if n = nm then put os (repl nm os rest) else RF.cons n hs fs rl (repl nm os exc) (repl nm os rest)) = (if n = nm then put os rest else RF.cons n hs fs rl (upd nm _ exc) (upd nm _ rest))
    by_cases e : n = nm
    · subst e
      rw [if_pos rfl, if_pos rfl, repl_no h2]
    · rw [if_neg e, if_neg e, repl_upd h3, repl_upd h4]
theorem find_nil {nm : Str} : RF.nil.find nm = none := rfl
theorem pre_fst' : ∀ (f : RF) (k j : Nat), (f.pre k).map (fun q => q.1) = (f.pre j).map fun q => q.1
  | .nil, _, _ => rfl
  | .cons nm hs fs rl exc rest, k, j => by
    show _ :: (exc.pre (k + 1) ++ rest.pre k).map _ = _ :: (exc.pre (j + 1) ++ rest.pre j).map _
    rw [List.map_append, List.map_append, pre_fst' exc (k + 1) (j + 1), pre_fst' rest k j]
theorem find_cons {n nm : Str} {hs fs : List Str} {rl : Str} {exc rest : RF} : (RF.cons n hs fs rl exc rest).find nm = if n = nm then some ⟨n, hs, fs, rl, exc⟩ else (exc.find nm).or (rest.find nm) := by
  unfold find
  show (_ :: (exc.pre 1 ++ rest.pre 0).map _).find? _ = _
  rw [List.find?_cons]
  by_cases e : n = nm
  · rw [if_pos e]
    dsimp only
    rw [decide_eq_true e]
  · rw [if_neg e]
    dsimp only
    rw [decide_eq_false e, List.map_append, List.find?_append, pre_fst' exc 1 0]
theorem find_none {nm : Str} : ∀ {f : RF}, ¬ nm ∈ f.names → f.find nm = none
  | .nil, _ => rfl
  | .cons n hs fs rl exc rest, h => by
    rw [names_cons] at h
    rw [find_cons, if_neg fun z => h (by rw [z]; exact List.mem_cons_self), find_none fun z => h (List.mem_cons_of_mem _ (List.mem_append_left _ z)), find_none fun z => h (List.mem_cons_of_mem _ (List.mem_append_right _ z))]
    rfl
theorem find_some {nm : Str} : ∀ {f : RF}, nm ∈ f.names → ∃ n, f.find nm = some n ∧ n.nm = nm
  | .nil, h => nomatch h
  | .cons n hs fs rl exc rest, h => by
    rw [find_cons]
    by_cases e : n = nm
    · rw [if_pos e]
      exact ⟨_, rfl, e⟩
    · rw [if_neg e]
      by_cases c : nm ∈ exc.names
      · obtain ⟨m, h1, h2⟩ := find_some c
        rw [h1]
        exact ⟨m, rfl, h2⟩
      · rw [names_cons] at h
        have hr : nm ∈ rest.names := by
          rcases List.mem_cons.mp h with h | h
          · exact absurd h.symm e
          · rcases List.mem_append.mp h with h | h
            · exact absurd h c
            · exact h
        rw [find_none c]
        exact find_some hr
/-- a change leans on the one rule of that name -/
theorem upd_find {nm : Str} {G G' : Nd → RF → RF} {n0 : Nd} (g : G n0 = G' n0) : ∀ {f : RF}, f.names.Nodup → (nm ∈ f.names → f.find nm = some n0) → upd nm G f = upd nm G' f
  | .nil, _, _ => rfl
  | .cons n hs fs rl exc rest, h, hf => by
    obtain ⟨h1, h2, h3, h4, h5⟩ := nodup_cons h
    rw [find_cons, names_cons] at hf
    show (if n = nm then G _ _ else RF.cons n hs fs rl (upd nm G exc) (upd nm G rest)) = (if n = nm then G' _ _ else RF.cons n hs fs rl (upd nm G' exc) (upd nm G' rest))
    by_cases e : n = nm
    · rw [if_pos e, if_pos e]
      rw [if_pos e] at hf
      rw [Option.some.inj (hf (by rw [e]; exact List.mem_cons_self)), g]
    · rw [if_neg e, if_neg e]
      rw [if_neg e] at hf
      rw [upd_find g h3 (fun c => ?_), upd_find g h4 (fun c => ?_)]
      · have hc : ¬ nm ∈ exc.names := fun z => h5 _ z c
        have hf := hf (List.mem_cons_of_mem _ (List.mem_append_right _ c))
        rw [find_none hc] at hf
        exact hf
      · have hf := hf (List.mem_cons_of_mem _ (List.mem_append_left _ c))
        obtain ⟨m, e1, _⟩ := find_some c
        rw [e1] at hf
        rw [e1]
        exact hf
end RF
/-- what an amendment makes of a rule -/
inductive Op where
  | strike
  | swap
  | before (m : Nd)
  | add (m : Nd)
  | ruling (s : Str)
  | cond (hs fs : List Str)
def Op.news : Op → Nd → List Nd
  | .strike, _ => []
  | .swap, n => [n]
  | .before m, n => [m, n]
  | .add m, n => [n.wE (n.exc.snoc m)]
  | .ruling s, n => [⟨n.nm, n.hs, n.fs, s, n.exc⟩]
  | .cond hs fs, n => [⟨n.nm, hs, fs, n.rl, n.exc⟩]
def swapG (n : Nd) : RF → RF
  | .nil => RF.put [n] .nil
  | .cons a b c d e r => .cons a b c d e (RF.put [n] r)
def Op.G : Op → Nd → RF → RF
  | .swap, n, rest => swapG n rest
  | op, n, rest => RF.put (op.news n) rest
namespace RF
/-- the rule directly behind, beside it -/
def nxt (nm : Str) : RF → Option Nd
  | .nil => none
  | .cons n hs fs rl exc rest => if n = nm then rest.nodes.head? else if nm ∈ exc.names then nxt nm exc else nxt nm rest
theorem nxt_mem {nm : Str} : ∀ {f : RF} {b : Nd}, nxt nm f = some b → b.nm ∈ f.names
  | .nil, b, h => nomatch h
  | .cons n hs fs rl exc rest, b, h => by
    unfold nxt at h
    rw [names_cons]
    by_cases e : n = nm
    · rw [if_pos e] at h
      have hb : b ∈ rest.nodes := List.mem_of_mem_head? h
      exact List.mem_cons_of_mem _ (List.mem_append_right _ (mem_names.mpr ⟨b, hb, .inl rfl⟩))
    · rw [if_neg e] at h
      by_cases c : nm ∈ exc.names
      · rw [if_pos c] at h
        exact List.mem_cons_of_mem _ (List.mem_append_left _ (nxt_mem h))
      · rw [if_neg c] at h
        exact List.mem_cons_of_mem _ (List.mem_append_right _ (nxt_mem h))
/-- out of its place, and then in again, ahead of the other -/
theorem swap_two {nm : Str} {b n0 : Nd} : ∀ {f : RF}, f.names.Nodup → nm ∈ f.names → nxt nm f = some b → f.find nm = some n0 → upd nm (fun _ rest => put [b, n0] rest) (upd b.nm (fun _ rest => rest) f) = upd nm swapG f
  | .nil, _, h, _, _ => nomatch h
  | .cons n hs fs rl exc rest, h, hm, hx, hf => by
    obtain ⟨h1, h2, h3, h4, h5⟩ := nodup_cons h
    unfold nxt at hx
    rw [find_cons] at hf
    by_cases e : n = nm
    · subst e
      rw [if_pos rfl] at hx hf
      cases hf
      cases rest with
      | nil => exact nomatch hx
      | cons a g c d ex r =>
        cases hx
        have na : ¬ n = a := fun z => h2 (by rw [names_cons, z]; exact List.mem_cons_self)
        have ne : ¬ a ∈ exc.names := fun z => h5 _ z (by rw [names_cons]; exact List.mem_cons_self)
        show upd n _ (if n = a then _ else RF.cons n hs fs rl (upd a _ exc) (if a = a then r else _)) = (if n = n then _ else _)
        rw [if_neg na, if_pos rfl, if_pos rfl, upd_no ne]
        show (if n = n then _ else _) = _
        rw [if_pos rfl]
        rfl
    · rw [if_neg e] at hx hf
      by_cases c : nm ∈ exc.names
      · rw [if_pos c] at hx
        have hb := nxt_mem hx
        have nb : ¬ n = b.nm := fun z => h1 (by rw [z]; exact hb)
        have nr : ¬ b.nm ∈ rest.names := h5 _ hb
        have nr2 : ¬ nm ∈ rest.names := h5 _ c
        obtain ⟨m, e1, _⟩ := find_some c
        rw [e1] at hf
        have hf : exc.find nm = some n0 := by rw [e1]; exact hf
        show upd nm _ (if n = b.nm then _ else RF.cons n hs fs rl (upd b.nm _ exc) (upd b.nm _ rest)) = (if n = nm then _ else RF.cons n hs fs rl (upd nm swapG exc) (upd nm swapG rest))
        rw [if_neg nb, if_neg e, upd_no nr, upd_no (G := swapG) nr2, ← swap_two h3 c hx hf]
        show (if n = nm then _ else RF.cons n hs fs rl (upd nm _ _) (upd nm _ rest)) = _
        rw [if_neg e, upd_no (G := fun _ rest => put [b, n0] rest) nr2]
      · rw [if_neg c] at hx
        rw [find_none c] at hf
        have hb := nxt_mem hx
        have nb : ¬ n = b.nm := fun z => h2 (by rw [z]; exact hb)
        have ne : ¬ b.nm ∈ exc.names := fun z => h5 _ z hb
        have hr : nm ∈ rest.names := by
          rw [names_cons] at hm
          rcases List.mem_cons.mp hm with z | z
          · exact absurd z.symm e
          · rcases List.mem_append.mp z with z | z
            · exact absurd z c
            · exact z
        show upd nm _ (if n = b.nm then _ else RF.cons n hs fs rl (upd b.nm _ exc) (upd b.nm _ rest)) = (if n = nm then _ else RF.cons n hs fs rl (upd nm swapG exc) (upd nm swapG rest))
        rw [if_neg nb, if_neg e, upd_no ne, upd_no (G := swapG) c, ← swap_two h4 hr hx hf]
        show (if n = nm then _ else RF.cons n hs fs rl (upd nm _ exc) (upd nm _ _)) = _
        rw [if_neg e, upd_no (G := fun _ rest => put [b, n0] rest) c]
end RF
end Sc
namespace Sc
open PySem PySem.Spec PyProof.Rows L2
namespace RF
/-! ### how large, how deep, of which names -/
theorem put_size : ∀ (os : List Nd) (f : RF), (put os f).size = (ofNodes os).size + f.size
  | [], f => by show f.size = 0 + f.size; omega
  | n :: r, f => by
    show n.exc.size + 1 + (put r f).size = n.exc.size + 1 + (ofNodes r).size + f.size
    rw [put_size r f]
    omega
theorem put_dep : ∀ (os : List Nd) (f : RF), (put os f).dep = max (ofNodes os).dep f.dep
  | [], f => by show f.dep = max 0 f.dep; omega
  | n :: r, f => by
    show max (n.exc.dep + 1) (put r f).dep = max (max (n.exc.dep + 1) (ofNodes r).dep) f.dep
    rw [put_dep r f]
    omega
theorem put_every {p : Nd → Prop} {os : List Nd} {f : RF} (h : ∀ n ∈ os, p n ∧ n.exc.every p) (k : f.every p) : (put os f).every p := every_nodes.mpr fun n hn => by
  rw [put_nodes] at hn
  rcases List.mem_append.mp hn with hn | hn
  · exact h n hn
  · exact every_nodes.mp k n hn
theorem put_names (os : List Nd) (f : RF) : (put os f).names = (ofNodes os).names ++ f.names := by
  rw [names_flat, put_nodes, List.flatMap_append, ← names_flat, names_flat (ofNodes os), nodes_of]
theorem upd_size {nm : Str} {G : Nd → RF → RF} {e : Nat} (g : ∀ n rest, (G n rest).size ≤ n.exc.size + 1 + rest.size + e) : ∀ {f : RF}, f.names.Nodup → (upd nm G f).size ≤ f.size + e
  | .nil, _ => Nat.zero_le _
  | .cons n hs fs rl exc rest, h => by
    obtain ⟨h1, h2, h3, h4, h5⟩ := nodup_cons h
    show (if n = nm then G _ _ else RF.cons n hs fs rl (upd nm G exc) (upd nm G rest)).size ≤ exc.size + 1 + rest.size + e
    by_cases c : n = nm
    · rw [if_pos c]
      exact g _ _
    · rw [if_neg c]
      show (upd nm G exc).size + 1 + (upd nm G rest).size ≤ _
      by_cases d : nm ∈ exc.names
      · rw [upd_no (h5 _ d)]
        have := upd_size (nm := nm) g h3
        omega
      · rw [upd_no d]
        have := upd_size (nm := nm) g h4
        omega
theorem upd_dep {nm : Str} {G : Nd → RF → RF} {e : Nat} (g : ∀ n rest, (G n rest).dep ≤ max (n.exc.dep + 1) rest.dep + e) : ∀ {f : RF}, (upd nm G f).dep ≤ f.dep + e
  | .nil => Nat.zero_le _
  | .cons n hs fs rl exc rest => by
    show (if n = nm then G _ _ else RF.cons n hs fs rl (upd nm G exc) (upd nm G rest)).dep ≤ max (exc.dep + 1) rest.dep + e
    by_cases c : n = nm
    · rw [if_pos c]
      exact g _ _
    · rw [if_neg c]
      show max ((upd nm G exc).dep + 1) (upd nm G rest).dep ≤ _
      have h1 := upd_dep (nm := nm) (f := exc) g
      have h2 := upd_dep (nm := nm) (f := rest) g
      omega
theorem upd_every {nm : Str} {G : Nd → RF → RF} {p : Nd → Prop} (hp : ∀ n e, p n → p (n.wE e)) (g : ∀ n rest, p n → n.exc.every p → rest.every p → (G n rest).every p) : ∀ {f : RF}, f.every p → (upd nm G f).every p
  | .nil, _ => trivial
  | .cons n hs fs rl exc rest, h => by
    obtain ⟨h1, h2, h3⟩ := h
    show (if n = nm then G _ _ else RF.cons n hs fs rl (upd nm G exc) (upd nm G rest)).every p
    by_cases c : n = nm
    · rw [if_pos c]
      exact g _ _ h1 h2 h3
    · rw [if_neg c]
      exact ⟨hp _ _ h1, upd_every hp g h2, upd_every hp g h3⟩
theorem upd_names {nm : Str} {G : Nd → RF → RF} (g : ∀ n rest, (n.nm :: (n.exc.names ++ rest.names)).Nodup → (G n rest).names.Nodup ∧ ∀ x ∈ (G n rest).names, x ∈ n.nm :: (n.exc.names ++ rest.names)) : ∀ {f : RF}, f.names.Nodup → (upd nm G f).names.Nodup ∧ ∀ x ∈ (upd nm G f).names, x ∈ f.names
  | .nil, _ => ⟨.nil, fun _ h => h⟩
  | .cons n hs fs rl exc rest, h => by
    obtain ⟨h1, h2, h3, h4, h5⟩ := nodup_cons h
    show (if n = nm then G _ _ else RF.cons n hs fs rl (upd nm G exc) (upd nm G rest)).names.Nodup ∧ ∀ x ∈ (if n = nm then G _ _ else RF.cons n hs fs rl (upd nm G exc) (upd nm G rest)).names, x ∈ _
    by_cases c : n = nm
    · rw [if_pos c, names_cons]
      rw [names_cons] at h
      exact g ⟨n, hs, fs, rl, exc⟩ rest h
    · rw [if_neg c, names_cons, names_cons]
      obtain ⟨a1, a2⟩ := upd_names (nm := nm) g h3
      obtain ⟨b1, b2⟩ := upd_names (nm := nm) g h4
      refine ⟨List.nodup_cons.mpr ⟨fun z => ?_, List.nodup_append.mpr ⟨a1, b1, fun x hx y hy e => ?_⟩⟩, fun x hx => ?_⟩
      · rcases List.mem_append.mp z with z | z
        · exact h1 (a2 _ z)
        · exact h2 (b2 _ z)
      · subst e
        exact h5 x (a2 _ hx) (b2 _ hy)
      · rcases List.mem_cons.mp hx with rfl | hx
        · exact List.mem_cons_self
        · refine List.mem_cons_of_mem _ ?_
          rcases List.mem_append.mp hx with hx | hx
          · exact List.mem_append_left _ (a2 _ hx)
          · exact List.mem_append_right _ (b2 _ hx)
/-! ### where a rule stands -/
/-- the row in which a rule stands -/
def rowIn (nm : Str) (top : RF) : RF → RF
  | .nil => top
  | .cons n hs fs rl exc rest => if n = nm then top else if nm ∈ exc.names then rowIn nm exc exc else rowIn nm top rest
theorem path_some {nm : Str} : ∀ {f : RF}, nm ∈ f.names → f.path nm ≠ []
  | .nil, h => nomatch h
  | .cons n hs fs rl exc rest, h => by
    show (if n = nm then _ else if RF.path nm exc = [] then RF.path nm rest else _) ≠ []
    by_cases e : n = nm
    · rw [if_pos e]
      exact List.cons_ne_nil _ _
    · rw [if_neg e]
      by_cases c : RF.path nm exc = []
      · rw [if_pos c]
        refine path_some ?_
        rw [names_cons] at h
        rcases List.mem_cons.mp h with z | z
        · exact absurd z.symm e
        · rcases List.mem_append.mp z with z | z
          · exact absurd c (path_some z)
          · exact z
      · rw [if_neg c]
        exact List.cons_ne_nil _ _
theorem path_row {nm : Str} : ∀ {f : RF} (top : RF), nm ∈ f.names → (((f.path nm).length = 1 ∧ rowIn nm top f = top) ∨ ∃ q, (f.path nm)[(f.path nm).length - 2]? = some q ∧ 2 ≤ (f.path nm).length ∧ rowIn nm top f = q.exc)
  | .nil, _, h => nomatch h
  | .cons n hs fs rl exc rest, top, h => by
    have e0 : RF.path nm (RF.cons n hs fs rl exc rest) = (if n = nm then [⟨n, hs, fs, rl, exc⟩] else if RF.path nm exc = [] then RF.path nm rest else ⟨n, hs, fs, rl, exc⟩ :: RF.path nm exc) := rfl
    have e1 : rowIn nm top (RF.cons n hs fs rl exc rest) = (if n = nm then top else if nm ∈ exc.names then rowIn nm exc exc else rowIn nm top rest) := rfl
    rw [e0, e1]
    by_cases e : n = nm
    · rw [if_pos e, if_pos e]
      exact .inl ⟨rfl, rfl⟩
    · rw [if_neg e, if_neg e]
      by_cases c : nm ∈ exc.names
      · rw [if_neg (path_some c), if_pos c]
        refine .inr ?_
        rcases path_row exc c with ⟨h1, h2⟩ | ⟨q, h1, h2, h3⟩
        · refine ⟨⟨n, hs, fs, rl, exc⟩, ?_, by rw [List.length_cons]; omega, h2⟩
          rw [List.length_cons, h1]
          rfl
        · refine ⟨q, ?_, by rw [List.length_cons]; omega, h3⟩
          rw [List.length_cons, ← h1]
          show (_ :: RF.path nm exc)[(RF.path nm exc).length + 1 - 2]? = _
          rw [show (RF.path nm exc).length + 1 - 2 = (RF.path nm exc).length - 2 + 1 by omega]
          rfl
      · rw [if_pos (path_no c), if_neg c]
        refine path_row top ?_
        rw [names_cons] at h
        rcases List.mem_cons.mp h with z | z
        · exact absurd z.symm e
        · rcases List.mem_append.mp z with z | z
          · exact absurd z c
          · exact z
/-- how many stand beside the rule, and its place there -/
def besL (nm : Str) (m : Nat) : Nat → RF → Option (Nat × Nat)
  | _, .nil => none
  | k, .cons n hs fs rl exc rest => if n = nm then some (m, k) else match besL nm exc.nodes.length 0 exc with
    | some r => some r
    | none => besL nm m (k + 1) rest
def bes (nm : Str) (f : RF) : Option (Nat × Nat) := besL nm f.nodes.length 0 f
theorem besL_none {nm : Str} {m : Nat} : ∀ {f : RF} {k : Nat}, ¬ nm ∈ f.names → besL nm m k f = none
  | .nil, _, _ => rfl
  | .cons n hs fs rl exc rest, k, h => by
    rw [names_cons] at h
    show (if n = nm then _ else match besL nm exc.nodes.length 0 exc with | some r => some r | none => besL nm m (k + 1) rest) = _
    rw [if_neg fun z => h (by rw [z]; exact List.mem_cons_self), besL_none (f := exc) fun z => h (List.mem_cons_of_mem _ (List.mem_append_left _ z))]
    exact besL_none fun z => h (List.mem_cons_of_mem _ (List.mem_append_right _ z))
theorem row_at {nm : Str} : ∀ {f : RF} {top : RF} {pre : List Nd}, nm ∈ f.names → top.nodes = pre ++ f.nodes → (∀ p ∈ pre, p.nm ≠ nm) →
    ∃ (k : Nat) (n : Nd), besL nm top.nodes.length pre.length f = some ((rowIn nm top f).nodes.length, k) ∧ (rowIn nm top f).nodes[k]? = some n ∧ n.nm = nm ∧ (∀ (j : Nat) (p : Nd), j < k → (rowIn nm top f).nodes[j]? = some p → p.nm ≠ nm) ∧ nxt nm f = (rowIn nm top f).nodes[k + 1]?
  | .nil, _, _, h, _, _ => nomatch h
  | .cons n hs fs rl exc rest, top, pre, h, ht, hp => by
    have e1 : rowIn nm top (RF.cons n hs fs rl exc rest) = (if n = nm then top else if nm ∈ exc.names then rowIn nm exc exc else rowIn nm top rest) := rfl
    have e2 : besL nm top.nodes.length pre.length (RF.cons n hs fs rl exc rest) = (if n = nm then some (top.nodes.length, pre.length) else match besL nm exc.nodes.length 0 exc with | some r => some r | none => besL nm top.nodes.length (pre.length + 1) rest) := rfl
    have e3 : nxt nm (RF.cons n hs fs rl exc rest) = (if n = nm then rest.nodes.head? else if nm ∈ exc.names then nxt nm exc else nxt nm rest) := rfl
    rw [e1, e2, e3]
    by_cases e : n = nm
    · rw [if_pos e, if_pos e, if_pos e]
      refine ⟨pre.length, ⟨n, hs, fs, rl, exc⟩, rfl, ?_, e, fun j p hj hpj => ?_, ?_⟩
      · rw [ht, List.getElem?_append_right (Nat.le_refl _), Nat.sub_self]
        rfl
      · rw [ht, List.getElem?_append_left hj] at hpj
        exact hp p (List.mem_of_getElem? hpj)
      · rw [ht, List.getElem?_append_right (Nat.le_succ _), show pre.length + 1 - pre.length = 1 by omega]
        show rest.nodes.head? = rest.nodes[0]?
        cases rest.nodes <;> rfl
    · rw [if_neg e, if_neg e, if_neg e]
      by_cases c : nm ∈ exc.names
      · rw [if_pos c, if_pos c]
        obtain ⟨k, m, h1, h2, h3, h4, h5⟩ := row_at (f := exc) (top := exc) (pre := []) c rfl (fun _ h => nomatch h)
        have h1 : besL nm exc.nodes.length 0 exc = _ := h1
        rw [h1]
        exact ⟨k, m, rfl, h2, h3, h4, h5⟩
      · rw [if_neg c, if_neg c, besL_none (f := exc) c]
        have hr : nm ∈ rest.names := by
          rw [names_cons] at h
          rcases List.mem_cons.mp h with z | z
          · exact absurd z.symm e
          · rcases List.mem_append.mp z with z | z
            · exact absurd z c
            · exact z
        obtain ⟨k, m, h1, h2, h3, h4, h5⟩ := row_at (f := rest) (top := top) (pre := pre ++ [⟨n, hs, fs, rl, exc⟩]) hr (by rw [ht, List.append_assoc]; rfl) (fun p hpp => by
          rcases List.mem_append.mp hpp with z | z
          · exact hp p z
          · rw [List.mem_singleton.mp z]
            exact e)
        rw [List.length_append] at h1
        exact ⟨k, m, h1, h2, h3, h4, h5⟩
/-- beside, and the one behind -/
theorem bes_nxt {nm : Str} {f : RF} (h : nm ∈ f.names) : ∃ m k, bes nm f = some (m, k) ∧ k < m ∧ (nxt nm f = none ↔ k + 1 = m) := by
  obtain ⟨k, n, h1, h2, h3, h4, h5⟩ := row_at (f := f) (top := f) (pre := []) h rfl (fun _ h => nomatch h)
  have hk : k < (rowIn nm f f).nodes.length := by
    by_cases c : k < (rowIn nm f f).nodes.length
    · exact c
    · rw [List.getElem?_eq_none (by omega)] at h2
      cases h2
  refine ⟨_, k, h1, hk, ?_⟩
  rw [h5, List.getElem?_eq_none_iff]
  omega
/-- in the exceptions of a rule beside none of that name -/
theorem nxt_in {nm : Str} : ∀ {f : RF}, f.names.Nodup → (∀ n ∈ f.nodes, n.nm ≠ nm) → ∀ n ∈ f.nodes, nm ∈ n.exc.names → nxt nm f = nxt nm n.exc
  | .nil, _, _, _, h, _ => nomatch h
  | .cons x hs fs rl exc rest, h, hne, n, hn, hm => by
    obtain ⟨h1, h2, h3, h4, h5⟩ := nodup_cons h
    show (if x = nm then _ else if nm ∈ exc.names then nxt nm exc else nxt nm rest) = _
    rw [if_neg (hne _ List.mem_cons_self)]
    rcases List.mem_cons.mp hn with rfl | hn
    · rw [if_pos hm]
    · have hr : nm ∈ rest.names := mem_names.mpr ⟨n, hn, .inr hm⟩
      rw [if_neg fun z => h5 _ z hr]
      exact nxt_in h4 (fun m hm => hne m (List.mem_cons_of_mem _ hm)) n hn hm
/-- at its place in the row -/
theorem nxt_here {nm : Str} : ∀ {f : RF} {k : Nat} {n : Nd}, f.nodes[k]? = some n → n.nm = nm → (∀ m ∈ f.nodes.take k, m.nm ≠ nm ∧ ¬ nm ∈ m.exc.names) → nxt nm f = f.nodes[k + 1]?
  | .nil, k, n, h, _, _ => by cases k <;> cases h
  | .cons x hs fs rl exc rest, 0, n, h, e, _ => by
    cases h
    show (if x = nm then rest.nodes.head? else _) = rest.nodes[0]?
    rw [if_pos e]
    cases rest.nodes <;> rfl
  | .cons x hs fs rl exc rest, k + 1, n, h, e, off => by
    have h0 := off ⟨x, hs, fs, rl, exc⟩ List.mem_cons_self
    show (if x = nm then _ else if nm ∈ exc.names then nxt nm exc else nxt nm rest) = _
    rw [if_neg h0.1, if_neg h0.2]
    exact nxt_here (f := rest) (k := k) h e fun m hm => off m (List.mem_cons_of_mem _ hm)
/-- ahead of a rule, beside it, its name stands nowhere -/
theorem ahead {nm : Str} : ∀ {f : RF} {k : Nat} {n : Nd}, f.names.Nodup → f.nodes[k]? = some n → n.nm = nm → ∀ m ∈ f.nodes.take k, m.nm ≠ nm ∧ ¬ nm ∈ m.exc.names
  | .nil, k, n, _, h, _ => by cases k <;> cases h
  | .cons x hs fs rl exc rest, 0, n, _, _, _ => fun m hm => nomatch hm
  | .cons x hs fs rl exc rest, k + 1, n, h, hn, e => fun m hm => by
    obtain ⟨h1, h2, h3, h4, h5⟩ := nodup_cons h
    have hr : nm ∈ rest.names := mem_names.mpr ⟨n, List.mem_of_getElem? (show rest.nodes[k]? = some n from hn), .inl e.symm⟩
    rcases List.mem_cons.mp hm with rfl | hm
    · exact ⟨fun z => h2 (by rw [show x = nm from z]; exact hr), fun z => h5 _ z hr⟩
    · exact ahead (f := rest) (k := k) h4 hn e m hm
theorem pre_dep' : ∀ {f : RF} {k D : Nat}, (∀ q ∈ f.pre k, q.2 ≤ D) → k ≤ D + 1 → f.dep + k ≤ D + 1
  | .nil, k, D, _, h => by show 0 + k ≤ _; omega
  | .cons n hs fs rl exc rest, k, D, h, hk => by
    show max (exc.dep + 1) rest.dep + k ≤ D + 1
    have h0 : k ≤ D := h _ List.mem_cons_self
    have h1 := pre_dep' (f := exc) (k := k + 1) (D := D) (fun q hq => h q (List.mem_cons_of_mem _ (List.mem_append_left _ hq))) (by omega)
    have h2 := pre_dep' (f := rest) (k := k) (D := D) (fun q hq => h q (List.mem_cons_of_mem _ (List.mem_append_right _ hq))) hk
    omega
end RF
/-! ### faults -/
theorem fault_none {xs : List Str} : ∀ {ps : List (Nd × Nat)} {met : List Str} {out i : Nat}, met.Nodup → firstFault xs ps met out i = none → (met ++ ps.map fun q => q.1.nm).Nodup ∧ ∀ q ∈ ps, q.2 ≤ 5
  | [], met, _, _, hm, _ => by
    rw [List.map_nil, List.append_nil]
    exact ⟨hm, fun _ h => nomatch h⟩
  | (n, k) :: r, met, out, i, hm, h => by
    unfold firstFault at h
    cases e : faultAt xs met (outNext out k) i n k with
    | some w => rw [e] at h; cases h
    | none =>
      rw [e] at h
      unfold faultAt at e
      split at e
      · cases e
      · rename_i hn
        split at e
        · cases e
        · split at e
          · cases e
          · rename_i hk
            obtain ⟨h1, h2⟩ := fault_none (ps := r) (met := met ++ [n.nm]) (List.nodup_append.mpr ⟨hm, List.pairwise_singleton _ _, fun y hy z hz e => by
              rw [List.mem_singleton.mp hz] at e
              subst e
              exact hn hy⟩) h
            refine ⟨?_, fun q hq => ?_⟩
            · rw [List.append_assoc] at h1
              exact h1
            · rcases List.mem_cons.mp hq with rfl | hq
              · show k ≤ 5
                omega
              · exact h2 q hq
theorem fault_step {xs met : List Str} {out i k : Nat} {n : Nd} {r : List (Nd × Nat)} (hc : ((srt (n.hs ++ n.fs)).any fun x => !decide (x ∈ xs)) = false) (hi : i < 60) (ho : out + 1 ≤ 40) :
    firstFault xs ((n, k) :: r) met out i = if n.nm ∈ met then some ((Str.ofString "name"), i) else if 5 < k then some ((Str.ofString "depth"), i) else firstFault xs r (met ++ [n.nm]) (outNext out k) (i + 1) := by
  have hon : outNext out k ≤ out + 1 := by unfold outNext; split <;> omega
  show (match faultAt xs met (outNext out k) i n k with | some w => some (w, i) | none => firstFault xs r (met ++ [n.nm]) (outNext out k) (i + 1)) = _
  unfold faultAt
  rw [hc]
  by_cases h1 : n.nm ∈ met
  · rw [if_pos h1, if_pos h1]
  · rw [if_neg h1, if_neg h1, if_neg Bool.false_ne_true]
    by_cases h2 : 5 < k
    · rw [if_pos h2, if_pos h2]
    · rw [if_neg h2, if_neg h2, if_neg (by omega)]
end Sc
namespace PySem.AutoSeq1
theorem list_extend_list_tuple_any (l : Addr) (items : Array Value) (n : Nat) (b : Addr) (items2 : Array Value) (n2 : Nat) (od : Option Addr) (os2 : Array (Option Value)) (hs0 : ¬(!items.isEmpty && Builtin.List.listTooLong (items.size + items2.size)) = true) (hs1 : items.size ≤ sizeLine) (hs2 : items.size + items2.size ≤ sizeLine + 1) :
    Meets (Builtin.«list.extend» ⟨[.ref l, .ref b], []⟩) (fun _ R s => s.heap.get? l = some { cls := .type "list", dict := none, data := .seq items n, slots := #[] } ∧ s.heap.get? b = some { cls := .type "tuple", dict := od, data := .seq items2 n2, slots := os2 } ∧ R (.ok (.ret Value.none)) { s with heap := s.heap.update l (Obj.mapSeq fun x => x ++ items2), toks := s.toks }) :=
  .of_wp fun prog w A R s h => by
    obtain ⟨hp, g, d, tk, os⟩ := s; obtain ⟨hl, hb, h⟩ := h; have f1 := idx_int; have f2 := sub_tuple_tuple; have f3 := sub_list_list; have f4 := sub_tuple_list; have f5 := sub_list_tuple;
    have hz' : (items ++ items2).size ≤ sizeLine + 1 := by rw [Array.size_append]; exact hs2
    wp_walk using (wpAny_updateSeq hl rfl (hz := hs1) (_hz' := hz')), wpAny_loadPart' hl, wpAny_loadPart' hb; exact ⟨_, rfl, h⟩
end PySem.AutoSeq1
namespace Sc
open PySem PySem.Spec PyProof.Rows L2
/-! ### xs.extend(t) of a tuple -/
def rExtendT (K : PySem.W.Frag) : V → List V → Hp → VK → Prop := fun x vs H Q => ∃ l b xs zs, x = .ref l ∧ vs = [.ref b] ∧ H l = some (.lst xs) ∧ SqT K H b zs ∧ xs.length + zs.length ≤ sizeLine ∧ Q .non (upd H l (.lst (xs ++ zs)))
theorem mt_extendT {X : Cx} : MtM X "list.extend" (rExtendT X.K) := by
  intro pins s σ H x vs v us Q I rx rv h
  obtain ⟨l, b, xs, zs, rfl, rfl, hH, hB, hz, q⟩ := h
  cases rx
  obtain ⟨u, rfl, ru⟩ := rv.one
  cases ru
  obtain ⟨z, its, n, r, hl, e⟩ := I.lstM hH
  obtain ⟨its2, r2, ⟨⟨oc, od, oda, os2⟩, e2, hc, n2, hd⟩, _⟩ := I.tuple hB
  cases hc
  cases hd
  have hl2 := r2.length
  have hsz : its.toArray.size + its2.toArray.size ≤ sizeLine := by rw [List.size_toArray, List.size_toArray]; omega
  have hlong : ¬ (!its.toArray.isEmpty && Builtin.List.listTooLong (its.toArray.size + its2.toArray.size)) = true := by
    rw [notLongL hsz, Bool.and_false]
    exact Bool.false_ne_true
  refine call_meets F.slot_list_extend ⟨_, e, rfl⟩ F.entry_list_extend (F.args_list_extend_2 _ _)
    (AutoSeq1.list_extend_list_tuple_any l its.toArray n b its2.toArray n2 od os2 hlong (by rw [List.size_toArray]; omega) (by omega)) ⟨e, e2, ?_⟩
  refine ⟨.non, _, I.lset (its' := its ++ its2) hH e (by simp) (r.append r2) ?_, rfl, q⟩
  rw [List.length_append]
  omega
end Sc
namespace Sc
open PySem PySem.Spec PyProof.Rows L2
/-! ### slices of tuples -/
section
variable {K : PySem.W.Frag} {H : Hp}
theorem sl_any {b : Addr} {vs : List V} {lo hi : Option Int} {Q : VK} (hS : SqT K H b vs) (q : ∀ p H', Same H H' → SqT K H' p (cutV vs lo hi) → Q (.ref p) H') : rSlA K (.ref b) lo hi H Q :=
  ⟨b, vs, rfl, hS, fun c => q b H (Same.refl H) (by
    have e : cutV vs lo hi = vs := by
      unfold cutV
      rw [c.1, c.2, List.drop_zero, Nat.sub_zero, List.take_length]
    rw [e]
    exact hS), fun _ p np => q p _ ((Same.refl H).put np) sqT_new⟩
theorem cat_any {b c : Addr} {xs ys : List V} {Q : VK} (hA : SqT K H b xs) (hB : SqT K H c ys) (hl : xs.length + ys.length ≤ sizeLine) (q : ∀ p H', Same H H' → SqT K H' p (xs ++ ys) → Q (.ref p) H') : rCatA K (.ref b) (.ref c) H Q :=
  ⟨b, c, xs, ys, rfl, rfl, hA, hB, hl, fun e => q c H (Same.refl H) (by rw [e]; exact hB), fun _ e => q b H (Same.refl H) (by rw [e, List.append_nil]; exact hA), fun _ _ p np => q p _ ((Same.refl H).put np) sqT_new⟩
theorem sIx_nat (n d k : Nat) : HT.sIx n d (some (k : Int)) = min k n := by
  unfold HT.sIx
  first
    | (simp; done)
    | (simp; omega)
    | (split <;> omega)
theorem cut_to (vs : List V) (m : Nat) : cutV vs none (some (m : Int)) = vs.take m := by
  unfold cutV
  rw [sIx_nat]
  show (vs.drop 0).take (min m vs.length - 0) = _
  rw [List.drop_zero, Nat.sub_zero]
  by_cases h : m ≤ vs.length
  · rw [Nat.min_eq_left h]
  · rw [Nat.min_eq_right (by omega), List.take_length, List.take_of_length_le (by omega)]
theorem cut_from (vs : List V) (k : Nat) : cutV vs (some (k : Int)) none = vs.drop k := by
  unfold cutV
  rw [sIx_nat]
  show (vs.drop (min k vs.length)).take (vs.length - min k vs.length) = _
  by_cases h : k ≤ vs.length
  · rw [Nat.min_eq_left h, List.take_of_length_le (by rw [List.length_drop]; exact Nat.le_refl _)]
  · rw [Nat.min_eq_right (by omega), List.drop_length, List.drop_of_length_le (by omega)]
    exact List.take_nil
theorem cut_part (vs : List V) (k m : Nat) : cutV vs (some (k : Int)) (some (m : Int)) = (vs.drop k).take (m - k) := by
  unfold cutV
  rw [sIx_nat, sIx_nat]
  by_cases h : k ≤ vs.length
  · rw [Nat.min_eq_left h]
    by_cases h2 : m ≤ vs.length
    · rw [Nat.min_eq_left h2]
    · rw [Nat.min_eq_right (by omega), List.take_of_length_le (by rw [List.length_drop]; exact Nat.le_refl _), List.take_of_length_le (by rw [List.length_drop]; omega)]
  · rw [Nat.min_eq_right (show vs.length ≤ k by omega), List.drop_length, List.drop_of_length_le (show vs.length ≤ k by omega), List.take_nil, List.take_nil]
end
end Sc
namespace Sc
open PySem
/-! ### parts of a text -/
def stAt (b : List Stmt) (i : Nat) : Stmt := b.getD i (.Pass ⟨0, 0, 0, 0⟩)
def forB : Stmt → List Stmt
  | .For _ _ b _ _ => b
  | _ => []
def whileB : Stmt → List Stmt
  | .While _ b _ _ => b
  | _ => []
def ifB : Stmt → List Stmt
  | .If _ b _ _ => b
  | _ => []
def ifE : Stmt → List Stmt
  | .If _ _ b _ => b
  | _ => []
end Sc
namespace Sc
open PySem PySem.Spec PyProof.Rows L2
namespace RF
def app (f g : RF) : RF := ofNodes (f.nodes ++ g.nodes)
theorem app_nodes (f g : RF) : (f.app g).nodes = f.nodes ++ g.nodes := nodes_of _
theorem of_size : ∀ ns ms : List Nd, (ofNodes (ns ++ ms)).size = (ofNodes ns).size + (ofNodes ms).size
  | [], ms => by show (ofNodes ms).size = 0 + _; omega
  | n :: r, ms => by
    show n.exc.size + 1 + (ofNodes (r ++ ms)).size = n.exc.size + 1 + (ofNodes r).size + _
    rw [of_size r ms]
    omega
theorem app_size (f g : RF) : (f.app g).size = f.size + g.size := by
  unfold app
  rw [of_size, of_nodes, of_nodes]
theorem app_dep {f g : RF} {d : Nat} (h : f.dep ≤ d) (k : g.dep ≤ d) : (f.app g).dep ≤ d := dep_le _ d fun n hn => by
  rw [app_nodes] at hn
  rcases List.mem_append.mp hn with hn | hn
  · exact Nat.le_trans (dep_mem f n hn) h
  · exact Nat.le_trans (dep_mem g n hn) k
theorem app_every {p : Nd → Prop} {f g : RF} (h : f.every p) (k : g.every p) : (f.app g).every p := every_nodes.mpr fun n hn => by
  rw [app_nodes] at hn
  rcases List.mem_append.mp hn with hn | hn
  · exact every_nodes.mp h n hn
  · exact every_nodes.mp k n hn
/-- the first rules, the others -/
def head (f : RF) (i : Nat) : RF := ofNodes (f.nodes.take i)
def rest (f : RF) (i : Nat) : RF := ofNodes (f.nodes.drop i)
theorem head_nodes (f : RF) (i : Nat) : (f.head i).nodes = f.nodes.take i := nodes_of _
theorem rest_nodes (f : RF) (i : Nat) : (f.rest i).nodes = f.nodes.drop i := nodes_of _
theorem head_rest (f : RF) (i : Nat) : (f.head i).app (f.rest i) = f := by
  unfold app
  rw [head_nodes, rest_nodes, List.take_append_drop, of_nodes]
theorem cut_size (f : RF) (i : Nat) : (f.head i).size + (f.rest i).size = f.size := by rw [← app_size, head_rest]
theorem head_dep (f : RF) (i : Nat) : (f.head i).dep ≤ f.dep := dep_le _ _ fun n hn => dep_mem f n (List.mem_of_mem_take (by rw [head_nodes] at hn; exact hn))
theorem rest_dep (f : RF) (i : Nat) : (f.rest i).dep ≤ f.dep := dep_le _ _ fun n hn => dep_mem f n (List.mem_of_mem_drop (by rw [rest_nodes] at hn; exact hn))
theorem head_every {p : Nd → Prop} {f : RF} (h : f.every p) (i : Nat) : (f.head i).every p := every_nodes.mpr fun n hn => every_nodes.mp h n (List.mem_of_mem_take (by rw [head_nodes] at hn; exact hn))
theorem rest_every {p : Nd → Prop} {f : RF} (h : f.every p) (i : Nat) : (f.rest i).every p := every_nodes.mpr fun n hn => every_nodes.mp h n (List.mem_of_mem_drop (by rw [rest_nodes] at hn; exact hn))
/-- a row of one rule -/
def only (n : Nd) : RF := .cons n.nm n.hs n.fs n.rl n.exc .nil
theorem only_size (n : Nd) : (only n).size = n.exc.size + 1 := rfl
theorem only_dep (n : Nd) : (only n).dep = n.exc.dep + 1 := Nat.max_zero _
theorem only_every {p : Nd → Prop} {n : Nd} (h : p n) (k : n.exc.every p) : (only n).every p := ⟨h, k, trivial⟩
end RF
namespace All2
variable {α β : Type} {R : α → β → Prop}
theorem take {as : List α} {bs : List β} (h : All2 R as bs) : ∀ i, All2 R (as.take i) (bs.take i) := by
  induction h with
  | nil => intro i; rw [List.take_nil, List.take_nil]; exact .nil
  | cons h _ ih =>
    intro i
    cases i with
    | zero => exact .nil
    | succ i => exact .cons h (ih i)
theorem drop {as : List α} {bs : List β} (h : All2 R as bs) : ∀ i, All2 R (as.drop i) (bs.drop i) := by
  induction h with
  | nil => intro i; rw [List.drop_nil, List.drop_nil]; exact .nil
  | cons h t ih =>
    intro i
    cases i with
    | zero => exact .cons h t
    | succ i => exact ih i
end All2
section
variable {K : PySem.W.Frag} {H : Hp} {f g : RF} {vs us : List V} {v : V} {n : Nd}
theorem rows_app (h : RowsAt K H f vs) (k : RowsAt K H g us) : RowsAt K H (f.app g) (vs ++ us) := RowsAt.of (by rw [RF.app_nodes]; exact h.all.app k.all)
theorem rows_head (h : RowsAt K H f vs) (i : Nat) : RowsAt K H (f.head i) (vs.take i) := RowsAt.of (by rw [RF.head_nodes]; exact h.all.take i)
theorem rows_rest (h : RowsAt K H f vs) (i : Nat) : RowsAt K H (f.rest i) (vs.drop i) := RowsAt.of (by rw [RF.rest_nodes]; exact h.all.drop i)
theorem rows_only (h : RowAt K H v n) : RowsAt K H (.only n) [v] := RowsAt.of (.one h)
theorem cut_last (vs : List V) : cutV vs (some (-1)) none = vs.drop (vs.length - 1) := by
  unfold cutV
  have e1 : HT.sIx vs.length 0 (some (-1)) = vs.length - 1 := by
    unfold HT.sIx
    dsimp only
    rw [if_pos (by decide)]
    omega
  have e2 : HT.sIx vs.length vs.length none = vs.length := rfl
  rw [e1, e2, List.take_of_length_le]
  rw [List.length_drop]
  exact Nat.le_refl _
end
end Sc
namespace Sc
open PySem
/-! ### cases by their numbers -/
def caseOf : List Str → Nat → List Str
  | [], _ => []
  | x :: r, n => (if n % 2 = 1 then [x] else []) ++ caseOf r (n / 2)
def bitN (n k : Nat) : Bool := decide (n / 2 ^ k % 2 = 1)
theorem bitN_succ {n k : Nat} : bitN n (k + 1) = bitN (n / 2) k := by
  unfold bitN
  rw [Nat.pow_succ, Nat.mul_comm, ← Nat.div_div_eq_div_mul]
theorem caseOf_more : ∀ (fs : List Str) (n i : Nat) (x : Str), fs[i]? = some x → caseOf (fs.take (i + 1)) n = caseOf (fs.take i) n ++ (if bitN n i = true then [x] else [])
  | y :: r, n, 0, x, h => by
    have h : y = x := Option.some.inj h
    subst h
    show (if n % 2 = 1 then [y] else []) ++ caseOf [] (n / 2) = [] ++ _
    unfold bitN caseOf
    rw [Nat.pow_zero, Nat.div_one, List.append_nil, List.nil_append]
    by_cases c : n % 2 = 1
    · rw [if_pos c, if_pos (decide_eq_true c)]
    · rw [if_neg c, if_neg (by rw [decide_eq_false c]; exact Bool.false_ne_true)]
  | y :: r, n, i + 1, x, h => by
    have h : r[i]? = some x := h
    show (if n % 2 = 1 then [y] else []) ++ caseOf (r.take (i + 1)) (n / 2) = ((if n % 2 = 1 then [y] else []) ++ caseOf (r.take i) (n / 2)) ++ _
    rw [caseOf_more r (n / 2) i x h, List.append_assoc, bitN_succ]
theorem caseOf_sub : ∀ (fs : List Str) (n : Nat), List.Sublist (caseOf fs n) fs
  | [], _ => .slnil
  | x :: r, n => by
    unfold caseOf
    by_cases c : n % 2 = 1
    · rw [if_pos c]
      exact (caseOf_sub r _).cons₂ x
    · rw [if_neg c]
      exact (caseOf_sub r _).cons x
/-- each choice of the facts is a case -/
theorem caseOf_all (p : Str → Bool) : ∀ fs : List Str, ∃ n, n < 2 ^ fs.length ∧ caseOf fs n = fs.filter p
  | [] => ⟨0, by decide, rfl⟩
  | x :: r => by
    obtain ⟨n, h1, h2⟩ := caseOf_all p r
    cases c : p x with
    | true =>
      refine ⟨2 * n + 1, by rw [List.length_cons, Nat.pow_succ]; omega, ?_⟩
      unfold caseOf
      rw [if_pos (by omega), show (2 * n + 1) / 2 = n by omega, h2, List.filter_cons, if_pos c]
      rfl
    | false =>
      refine ⟨2 * n, by rw [List.length_cons, Nat.pow_succ]; omega, ?_⟩
      unfold caseOf
      rw [if_neg (by omega), show (2 * n) / 2 = n by omega, h2, List.filter_cons, if_neg (by rw [c]; exact Bool.false_ne_true)]
      rfl
end Sc
namespace Sc
open PySem PySem.Spec PyProof.Rows L2
/-! ### rising rows of the twelve facts -/
def SLt (a b : Str) : Prop := a.cps.toList < b.cps.toList
instance (a b : Str) : Decidable (SLt a b) := inferInstanceAs (Decidable (a.cps.toList < b.cps.toList))
structure Good (xs : List Str) : Prop where
  up : xs.Pairwise SLt
  mem : ∀ x ∈ xs, x ∈ twelve
theorem twelve_up : twelve.Pairwise SLt := by decide +kernel
theorem twelve_name : ∀ x ∈ twelve, isName x = true := by decide +kernel
theorem twelve_good : Good twelve := ⟨twelve_up, fun _ h => h⟩
theorem Good.sub {xs ys : List Str} (h : Good ys) (s : List.Sublist xs ys) : Good xs := ⟨h.up.sublist s, fun x hx => h.mem x (s.subset hx)⟩
theorem Good.nodup {xs : List Str} (h : Good xs) : xs.Nodup := h.up.imp fun {a b} hl e => by subst e; exact List.lt_irrefl _ hl
theorem Good.fines {xs : List Str} (h : Good xs) (tf : Fines twelve) : Fines xs := fun x hx => tf x (h.mem x hx)
theorem Good.le {xs : List Str} (h : Good xs) : xs.Pairwise SLe := h.up.imp fun hl => List.le_of_lt hl
theorem good_nil : Good [] := ⟨.nil, fun _ h => nomatch h⟩
theorem Good.srt {xs : List Str} (h : Good xs) : srt xs = xs := sorted_uniq (srt_perm xs) (srt_sorted xs) (sorted_of h.le)
theorem lt_of {a b : Str} (h : SLe a b) (n : a ≠ b) : SLt a b := by
  by_cases c : a.cps.toList < b.cps.toList
  · exact c
  · exact absurd (str_ext (List.le_antisymm h (List.not_lt.mp c))) n
theorem srt_good {xs : List Str} (nd : xs.Nodup) (m : ∀ x ∈ xs, x ∈ twelve) : Good (srt xs) := by
  have nd2 : (Sc.srt xs).Nodup := (srt_perm xs).nodup_iff.mpr nd
  refine ⟨?_, fun x hx => m x ((srt_perm xs).mem_iff.mp hx)⟩
  exact ((sorted_pw (srt_sorted xs)).and nd2).imp fun h => lt_of h.1 h.2
theorem mem_mrg {xs ys : List Str} {x : Str} : x ∈ mrg xs ys ↔ x ∈ xs ∨ x ∈ ys := by
  unfold mrg
  rw [(srt_perm _).mem_iff, List.mem_append, List.mem_filter]
  constructor
  · rintro (h | h)
    · exact .inl h
    · exact .inr h.1
  · rintro (h | h)
    · exact .inl h
    · by_cases c : x ∈ xs
      · exact .inl c
      · exact .inr ⟨h, by rw [decide_eq_false c]; rfl⟩
theorem Good.mrg {xs ys : List Str} (h : Good xs) (k : Good ys) : Good (mrg xs ys) := by
  refine srt_good ?_ fun x hx => ?_
  · rw [List.nodup_append]
    refine ⟨h.nodup, (List.filter_sublist).nodup k.nodup, fun a ha b hb e => ?_⟩
    subst e
    have := (List.mem_filter.mp hb).2
    rw [decide_eq_true ha] at this
    cases this
  · rcases List.mem_append.mp hx with h1 | h1
    · exact h.mem x h1
    · exact k.mem x (List.mem_filter.mp h1).1
/-- a good row is told by its members -/
theorem Good.ext {xs ys : List Str} (h : Good xs) (k : Good ys) (e : ∀ x, x ∈ xs ↔ x ∈ ys) : xs = ys := by
  have p : xs.Perm ys := (List.perm_ext_iff_of_nodup h.nodup k.nodup).mpr e
  exact sorted_uniq p (sorted_of h.le) (sorted_of k.le)
theorem rises_pw {xs : List Str} (h : xs.Pairwise SLt) {i : Nat} (hi : i < xs.length) : risesAt xs i = true := by
  by_cases h0 : i = 0
  · subst h0
    rfl
  · rw [risesAt_eq hi h0 (by omega)]
    exact decide_eq_true (List.pairwise_iff_getElem.mp h (i - 1) i (by omega) hi (by omega))
theorem Good.none {xs ys : List Str} (h : Good xs) (l : ys.length + xs.length ≤ 8) (d : ∀ x ∈ xs, ¬ x ∈ ys) : firstWrong xs ys = none := by
  unfold firstWrong
  rw [List.find?_eq_none]
  intro i hi
  have hi := List.mem_range.mp hi
  unfold wrongAt
  rw [List.getElem?_eq_getElem hi]
  dsimp only
  rw [twelve_name _ (h.mem _ (List.getElem_mem hi)), rises_pw h.up hi, decide_eq_false (show ¬ 8 ≤ ys.length + i by omega), decide_eq_false (d _ (List.getElem_mem hi))]
  exact Bool.false_ne_true
/-! ### two conditions over the same cases -/
theorem meets_iff {hs fs cs : List Str} : meets hs fs cs = true ↔ (∀ x ∈ hs, x ∈ cs) ∧ ∀ x ∈ fs, ¬ x ∈ cs := by
  unfold meets
  rw [Bool.and_eq_true, List.all_eq_true, Bool.not_eq_true', List.any_eq_false]
  constructor
  · rintro ⟨h1, h2⟩
    exact ⟨fun x hx => of_decide_eq_true (h1 x hx), fun x hx hc => h2 x hx (decide_eq_true hc)⟩
  · rintro ⟨h1, h2⟩
    exact ⟨fun x hx => decide_eq_true (h1 x hx), fun x hx hc => h2 x hx (of_decide_eq_true hc)⟩
theorem meets_mrg {hs fs gs ks cs : List Str} : meets (mrg hs gs) (mrg fs ks) cs = (meets hs fs cs && meets gs ks cs) := by
  rw [Bool.eq_iff_iff, Bool.and_eq_true, meets_iff, meets_iff, meets_iff]
  constructor
  · rintro ⟨h1, h2⟩
    exact ⟨⟨fun x hx => h1 x (mem_mrg.mpr (.inl hx)), fun x hx => h2 x (mem_mrg.mpr (.inl hx))⟩, fun x hx => h1 x (mem_mrg.mpr (.inr hx)), fun x hx => h2 x (mem_mrg.mpr (.inr hx))⟩
  · rintro ⟨⟨h1, h2⟩, h3, h4⟩
    refine ⟨fun x hx => ?_, fun x hx => ?_⟩
    · rcases mem_mrg.mp hx with h | h
      · exact h1 x h
      · exact h3 x h
    · rcases mem_mrg.mp hx with h | h
      · exact h2 x h
      · exact h4 x h
/-- a case that meets the joined condition: what must hold, and no more -/
theorem met_case {fs ws bs : List Str} (s1 : ∀ x ∈ ws, x ∈ fs) (d : ∀ x ∈ ws, ¬ x ∈ bs) : meets ws bs (fs.filter fun x => decide (x ∈ ws)) = true := by
  rw [meets_iff]
  refine ⟨fun x hx => List.mem_filter.mpr ⟨s1 x hx, decide_eq_true hx⟩, fun x hx hc => ?_⟩
  exact d x (of_decide_eq_true (List.mem_filter.mp hc).2) hx
theorem both_iff {fs hs ks gs ls : List Str} (h1 : ∀ x ∈ hs, x ∈ fs) (h2 : ∀ x ∈ gs, x ∈ fs) :
    (∃ n, n < 2 ^ fs.length ∧ (meets hs ks (caseOf fs n) && meets gs ls (caseOf fs n)) = true) ↔ meetN (mrg hs gs) (mrg ks ls) = false := by
  constructor
  · rintro ⟨n, _, h⟩
    rw [← meets_mrg, meets_iff] at h
    unfold meetN
    rw [List.any_eq_false]
    intro x hx hc
    exact h.2 x (of_decide_eq_true hc) (h.1 x hx)
  · intro h
    obtain ⟨n, hn, e⟩ := caseOf_all (fun x => decide (x ∈ mrg hs gs)) fs
    refine ⟨n, hn, ?_⟩
    rw [← meets_mrg, e]
    refine met_case (fun x hx => ?_) (fun x hx hc => ?_)
    · rcases mem_mrg.mp hx with h' | h'
      · exact h1 x h'
      · exact h2 x h'
    · unfold meetN at h
      rw [List.any_eq_false] at h
      exact h x hx (decide_eq_true hc)
theorem within_iff {fs hs ks gs ls : List Str} (h1 : ∀ x ∈ hs, x ∈ fs) (h2 : ∀ x ∈ ls, x ∈ fs) (d : ∀ x ∈ hs, ¬ x ∈ ks) :
    withinC hs ks gs ls = true ↔ ∀ n, n < 2 ^ fs.length → (meets hs ks (caseOf fs n) && !meets gs ls (caseOf fs n)) = false := by
  unfold withinC
  rw [Bool.and_eq_true, List.all_eq_true, List.all_eq_true]
  constructor
  · rintro ⟨q1, q2⟩ n _
    cases c : meets hs ks (caseOf fs n) with
    | false => rfl
    | true =>
      have c := meets_iff.mp c
      have : meets gs ls (caseOf fs n) = true := meets_iff.mpr ⟨fun x hx => c.1 x (of_decide_eq_true (q1 x hx)), fun x hx => c.2 x (of_decide_eq_true (q2 x hx))⟩
      rw [this]
      rfl
  · intro q
    constructor
    · intro x hx
      obtain ⟨n, hn, e⟩ := caseOf_all (fun x => decide (x ∈ hs)) fs
      have h := q n hn
      rw [e, met_case h1 d, Bool.true_and] at h
      have h : meets gs ls (fs.filter fun x => decide (x ∈ hs)) = true := by
        cases c : meets gs ls (fs.filter fun x => decide (x ∈ hs)) with
        | true => rfl
        | false => rw [c] at h; cases h
      exact (List.mem_filter.mp ((meets_iff.mp h).1 x hx)).2
    · intro x hx
      obtain ⟨n, hn, e⟩ := caseOf_all (fun x => !decide (x ∈ ks)) fs
      have h := q n hn
      have m : meets hs ks (fs.filter fun x => !decide (x ∈ ks)) = true := by
        rw [meets_iff]
        refine ⟨fun y hy => List.mem_filter.mpr ⟨h1 y hy, by rw [decide_eq_false (d y hy)]; rfl⟩, fun y hy hc => ?_⟩
        have := (List.mem_filter.mp hc).2
        rw [decide_eq_true hy] at this
        cases this
      rw [e, m, Bool.true_and] at h
      have h : meets gs ls (fs.filter fun x => !decide (x ∈ ks)) = true := by
        cases c : meets gs ls (fs.filter fun x => !decide (x ∈ ks)) with
        | true => rfl
        | false => rw [c] at h; cases h
      refine decide_eq_true (Classical.byContradiction fun nk => ?_)
      exact (meets_iff.mp h).2 x hx (List.mem_filter.mpr ⟨h2 x hx, by rw [decide_eq_false nk]; rfl⟩)
end Sc
namespace Sc
open PySem PySem.Spec PyProof.Rows L2
/-! ### rules of right parts -/
structure NdOk (n : Nd) : Prop where
  nm : isName n.nm = true
  rl : isName n.rl = true
  c1 : firstWrong n.hs [] = none
  c2 : firstWrong n.fs n.hs = none
theorem name_len {x : Str} (h : isName x = true) : x.length ≤ 8 := by
  unfold isName at h
  rw [Bool.and_eq_true, Bool.and_eq_true] at h
  exact of_decide_eq_true h.2.1
theorem fw_names {xs ys : List Str} (h : firstWrong xs ys = none) : ∀ x ∈ xs, isName x = true := by
  intro x hx
  obtain ⟨i, hi, rfl⟩ := List.getElem_of_mem hx
  have := (wrongs_none h i hi).1.1
  rw [Bool.or_eq_false_iff] at this
  exact (Bool.not_eq_false' _).mp this.1
theorem fw_txts {xs ys : List Str} (h : firstWrong xs ys = none) : Txts xs := fun x hx => Nat.le_trans (name_len (fw_names h x hx)) (by decide)
theorem NdOk.len {n : Nd} (h : NdOk n) : n.hs.length ≤ 8 ∧ n.fs.length ≤ 8 := by
  have h1 := fw_len h.c1
  have h2 := fw_len h.c2
  simp only [List.length_nil] at h1
  omega
theorem fit_of {f : RF} (h : f.every NdOk) : f.Fit := fun q hq => by
  have := (RF.every_pre h q hq).len
  omega
theorem name_fine {x : Str} (h : isName x = true) : Fine x := by
  refine ⟨Nat.le_trans (name_len h) (by decide), ?_⟩
  unfold isName isLetters at h
  rw [Bool.and_eq_true, Bool.and_eq_true, List.all_eq_true] at h
  have hL : PyData.strOk letters = true := by decide +kernel
  show PyData.strOk x = true
  unfold PyData.strOk at hL ⊢
  rw [Array.all_eq_true'] at hL ⊢
  intro c hc
  exact hL c (by rw [← Array.mem_toList_iff]; exact of_decide_eq_true (h.2.2 c (by rw [Array.mem_toList_iff]; exact hc)))
theorem fw_fines {xs ys : List Str} (h : firstWrong xs ys = none) : Fines xs := fun x hx => name_fine (fw_names h x hx)
/-- names in their order -/
structure Right (xs : List Str) : Prop where
  up : xs.Pairwise SLt
  nm : ∀ x ∈ xs, isName x = true
theorem Right.sub {xs ys : List Str} (h : Right ys) (s : List.Sublist xs ys) : Right xs := ⟨h.up.sublist s, fun x hx => h.nm x (s.subset hx)⟩
theorem Right.nodup {xs : List Str} (h : Right xs) : xs.Nodup := h.up.imp fun {a b} hl e => by subst e; exact List.lt_irrefl _ hl
theorem Right.fines {xs : List Str} (h : Right xs) : Fines xs := fun x hx => name_fine (h.nm x hx)
theorem Right.none {xs ys : List Str} (h : Right xs) (l : ys.length + xs.length ≤ 8) (d : ∀ x ∈ xs, ¬ x ∈ ys) : firstWrong xs ys = none := by
  unfold firstWrong
  rw [List.find?_eq_none]
  intro i hi
  have hi := List.mem_range.mp hi
  unfold wrongAt
  rw [List.getElem?_eq_getElem hi]
  dsimp only
  rw [h.nm _ (List.getElem_mem hi), rises_pw h.up hi, decide_eq_false (show ¬ 8 ≤ ys.length + i by omega), decide_eq_false (d _ (List.getElem_mem hi))]
  exact Bool.false_ne_true
theorem Right.bad {xs : List Str} (g : Right xs) (h0 : xs ≠ []) (h1 : xs.length ≤ 60) : firstBad xs = Option.none := by
  unfold firstBad
  rw [if_neg h0, List.find?_eq_none]
  intro i hi
  have hi := List.mem_range.mp hi
  unfold badAt
  rw [List.getElem?_eq_getElem hi]
  dsimp only
  rw [g.nm _ (List.getElem_mem hi), rises_pw g.up hi, decide_eq_false (show ¬ i = 60 by omega)]
  exact Bool.false_ne_true
/-- a row of distinct names, sorted -/
theorem right_of {xs zs : List Str} (p : zs.Perm xs) (s : sortedS zs = true) (nd : xs.Nodup) (nm : ∀ x ∈ xs, isName x = true) : Right zs :=
  ⟨((sorted_pw s).and (p.nodup_iff.mpr nd)).imp fun h => lt_of h.1 h.2, fun x hx => nm x (p.mem_iff.mp hx)⟩
end Sc
namespace Sc
open PySem PySem.Spec PyProof.Rows L2
theorem sc_replaced : FnScope ["rules", "name", "others", "made", "rule", "inner"] ["rules", "name", "others"] (defScope s_replaced) := ⟨rfl, rfl, rfl, by decide +kernel, rfl, by decide +kernel, by decide +kernel⟩
theorem RF.repl_size {nm : Str} {os : List Nd} {f : RF} (h : f.names.Nodup) : (RF.repl nm os f).size ≤ f.size + (RF.ofNodes os).size := by
  rw [RF.repl_upd h]
  refine RF.upd_size (fun n rest => ?_) h
  rw [RF.put_size]
  omega
theorem RF.repl_dep {nm : Str} {os : List Nd} {f : RF} (h : f.names.Nodup) : (RF.repl nm os f).dep ≤ f.dep + (RF.ofNodes os).dep := by
  rw [RF.repl_upd h]
  refine RF.upd_dep (fun n rest => ?_)
  rw [RF.put_dep]
  omega
theorem RF.replL_le {nm : Str} {os : List Nd} {f : RF} {i : Nat} : (RF.replL nm os (f.nodes.take i)).length ≤ (RF.repl nm os f).size := by
  refine Nat.le_trans ?_ (RF.nodes_le _)
  rw [RF.repl_nodes]
  have e : RF.replL nm os f.nodes = RF.replL nm os (f.nodes.take i) ++ RF.replL nm os (f.nodes.drop i) := by
    unfold RF.replL
    rw [← List.flatMap_append, List.take_append_drop]
  rw [e, List.length_append]
  exact Nat.le_add_right _ _
section
variable {P : Program} {w : World} {K : PySem.W.Frag} {mg : Str → Option Value} {base : Heap} {C R B CC CR CF CB CU CN : Addr}
def sp_replaced (K : PySem.W.Frag) (C R : Addr) (d : Nat) : Sp := fun vs H Q _ => ∃ (N : Addr → Prop) (p q : Addr) (nm : Str) (ws us : List V) (f : RF) (os : List Nd), vs = [.ref p, .str nm, .ref q] ∧ SqT K H p ws ∧ ForAt K C R N H f ws ∧ SqT K H q us ∧ All2 (RefAt K C R N H) us os ∧ (∀ l, H l = none → N l) ∧
  f.names.Nodup ∧ f.dep ≤ d ∧ f.dep + (RF.ofNodes os).dep ≤ 13 ∧ f.size + (RF.ofNodes os).size ≤ 900 ∧ f.every NdOk ∧ ∀ H' p' rs, Same H H' → SqT K H' p' rs → ForAt K C R N H' (RF.repl nm os f) rs → Q (.ref p') H'
theorem ok_replaced {d : Nat} {f : Addr} {fd : FuncData} (F : Fun K "replaced" "replaced" s_replaced f fd) (B : Blt mg) (kR : RuleX P w K mg base R) (k_Rule : Mkr P w K mg base 16 "Rule" R ["self", "name", "condition", "ruling", "exceptions"] (sp_rule_init K C R CR))
    (c_replaced : Cal P w K mg base CX0 (d + 17) "replaced" ["rules", "name", "others"] (Below (sp_replaced K C R) d)) :
    FnOk P w K mg base CX0 (d + 18) f fd ["rules", "name", "others"] (sp_replaced K C R d) := by
  refine F.ok sc_replaced (fun vs H Q E h => by obtain ⟨N, p, q, nm, ws, us, f, os, rfl, _⟩ := h; rfl) (fun cdv A outer s H vs Q E hr h => ?_)
  obtain ⟨N, p, q0, nm, ws, us, f, os, rfl, hP, hF, hO, hos, hN, hnd, hd, hd12, hz, hev, q⟩ := h
  refine ⟨_, (pss_cons (ps_set (i := 3) sc_replaced.nd rfl (Or.inl rfl) (pe_lst pa_nil))
      (pss_cons (ps_for PassesOwn.never rfl (pi_tup (pv 0)) (pg_name (i := 4) sc_replaced.nd rfl (Or.inl rfl)) (pss_one (ps_if (pt_cmpR op_eq (pe_cprop kR.name kR.cls (hr.mono (by omega)) (pv 4)) (pv 1) (nomark _)) (pss_one (ps_expr (pe_bm PySem.F.plainAttrs_list PySem.F.slot_list_extend PySem.F.type_list_extend mt_extendT (pv 3) (pa_cons (pv 2) pa_nil)))) (pss_cons (ps_set (i := 5) sc_replaced.nd rfl (Or.inl rfl) (pe_cal c_replaced hr (pa_cons (pe_cprop kR.exceptions kR.cls (hr.mono (by omega)) (pv 4)) (pa_cons (pv 1) (pa_cons (pv 2) pa_nil)))))
      (pss_one (ps_expr (pe_bm PySem.F.plainAttrs_list PySem.F.slot_list_append PySem.F.type_list_append mt_append (pv 3) (pa_cons (pe_mkN k_Rule (hr.mono (by omega)) (pa_cons (pe_cprop kR.name kR.cls (hr.mono (by omega)) (pv 4)) (pa_cons (pe_cprop kR.condition kR.cls (hr.mono (by omega)) (pv 4)) (pa_cons (pe_cprop kR.ruling kR.cls (hr.mono (by omega)) (pv 4)) (pa_cons (pv 5) pa_nil))))) pa_nil))))))))
      (pss_one (ps_ret (pe_callTy call_tuple_of (by rfl) B.b_tuple PyProof.Rows.boot_tuple (pa_cons (pv 3) pa_nil)))))), ?_⟩
  have hrz := RF.repl_size (nm := nm) (os := os) hnd
  have hlo := hos.len
  have hoz : os.length ≤ (RF.ofNodes os).size := by
    have := RF.nodes_le (RF.ofNodes os)
    rw [RF.nodes_of] at this
    exact this
  refine ⟨Nat.zero_le _, fun D nD => ?_⟩
  have g0 : ∀ b xs, N b → H b = some (.lst xs) → N b ∧ b ≠ D := fun b xs h e => ⟨h, fun z => by rw [z, nD] at e; cases e⟩
  have hA := (hF.re g0).all
  have hos : All2 (RefAt K C R (fun l => N l ∧ l ≠ D) H) us os := hos.mono fun _ _ ⟨o, e, x⟩ => ⟨o, e, x.re g0⟩
  have hln := hA.len
  have s0 : Same H (upd H D (.lst [])) := (Same.refl H).put nD
  have e0 : (upd H D (.lst [])) D = some (.lst []) := upd_same
  generalize upd H D (.lst []) = H0 at s0 e0 ⊢
  refine ⟨_, rfl, p, rfl, ⟨_, s0.tup hP⟩, for_it walk_tup (fun i σ H' => ∃ (rs : List V) (y4 y5 : Option V), σ = [some (.ref p), some (.str nm), some (.ref q0), some (.ref D), y4, y5] ∧ Same H H' ∧ H' D = some (.lst rs) ∧ All2 (RefAt K C R (fun l => N l ∧ l ≠ D) H') rs (RF.replL nm os (f.nodes.take i)))
    ⟨[], none, none, rfl, s0, e0, .nil⟩ (fun _ _ _ _ ⟨_, _, _, _, s, _⟩ => s.tup hP) ?_ ?_⟩
  · rintro i y σ H4 H3 hi ⟨rs, y4, y5, rfl, s, e, hrs⟩ ⟨rfl, hy⟩
    obtain ⟨n, hn, o, rfl, hNd⟩ := hA.get hy
    have hmem : n ∈ f.nodes := List.mem_of_getElem? hn
    have hdm := RF.dep_mem _ n hmem
    have hsm := RF.size_mem _ n hmem
    obtain ⟨hok, hne⟩ := RF.every_nodes.mp hev n hmem
    obtain ⟨hndx, _⟩ := RF.nodup_node hnd n hmem
    have hrl := hrs.len
    have hrb := RF.replL_le (nm := nm) (os := os) (f := f) (i := i)
    have hrb2 := RF.replL_le (nm := nm) (os := os) (f := f) (i := i + 1)
    rw [RF.replL_more hn] at hrb2
    obtain ⟨dx', c', pe', l', ws', ho', hc', hpe', hle', hfe'⟩ := hNd
    have ho3 := s _ _ ho'
    refine ⟨_, rfl, o, dx', _, rfl, ho3, o, dx', _, _, rfl, ho3, rfl, _, rfl, rfl, _, rfl, bcase (fun c1 => ?_) (fun c1 => ?_)⟩
    · have c1 : n.nm = nm := V.str.inj (of_decide_eq_true c1)
      refine ⟨_, rfl, .inl ⟨rfl, _, sqL_of e⟩, _, rfl, D, q0, _, _, rfl, rfl, e, s.tup hO, ?_, ?_⟩
      · rw [if_pos c1, List.length_append] at hrb2
        rw [sizeLine_eq]
        omega
      have kk : Keeps (fun l => N l ∧ l ≠ D) H3 (upd H3 D (.lst (rs ++ us))) := keeps_own e fun z => z.2 rfl
      refine ⟨rs ++ us, _, _, rfl, s.put nD, upd_same, ?_⟩
      rw [RF.replL_more hn, if_pos c1]
      exact (hrs.mono fun _ _ x => x.keeps kk).app (hos.mono fun _ _ x => (x.keeps s.keeps).keeps kk)
    have c1 : n.nm ≠ nm := fun z => of_decide_eq_false c1 (by rw [z])
    obtain ⟨d, rfl⟩ : ∃ d', d = d' + 1 := ⟨d - 1, by omega⟩
    refine ⟨_, rfl, o, dx', _, rfl, ho3, o, dx', _, _, rfl, ho3, rfl, _, rfl, _, rfl, fun l => N l ∧ l ≠ D, pe', q0, nm, ws', us, n.exc, os, rfl, s.tup hpe', hfe'.keeps s.keeps, s.tup hO, hos.mono fun _ _ x => x.keeps s.keeps, fun l nl => ⟨hN l (s.free nl), (fun z => by rw [z, e] at nl; cases nl)⟩, hndx, by omega, by omega, by omega, hne, fun H6 t us6 s6 ht hF6 => ?_⟩
    have e6 := s6 _ _ e
    have s36 := s.trans s6
    have ho6 := s36 _ _ ho'
    refine ⟨_, rfl, .inl ⟨rfl, _, sqL_of e6⟩, _, rfl, o, dx', _, rfl, ho6, o, dx', _, _, rfl, ho6, rfl, _, rfl, o, dx', _, rfl, ho6, o, dx', _, _, rfl, ho6, rfl, _, rfl, o, dx', _, rfl, ho6, o, dx', _, _, rfl, ho6, rfl, _, rfl, fun x dx nx ndx nex => ?_⟩
    have s7 : Same H6 (upd (upd H6 dx (.own x)) x (.ins R dx [])) := ((Same.refl H6).put ndx).put nx
    have l1 := name_len hok.nm
    have l2 := name_len hok.rl
    have hrz2 := RF.repl_size (nm := nm) (os := os) hndx
    have hrd2 := RF.repl_dep (nm := nm) (os := os) hndx
    refine ⟨fun l => N l ∧ l ≠ D, x, dx, c', t, n.nm, n.rl, us6, RF.repl nm os n.exc, rfl, upd_same, s7.tup ht, hF6.keeps s7.keeps, by omega, by omega, by omega, by omega, (fun e => by rw [hok.nm] at e; cases e), fun _ => ⟨(fun e => by rw [hok.rl] at e; cases e), fun _ H8 l sX8 hx8 nelx nl el => ⟨rfl, ?_⟩⟩⟩
    have s8 : Same H6 H8 := fun b' o' h => sX8 b' o' (fun e => by rw [e, nx] at h; cases h) (s7 _ _ h)
    have s38 := s6.trans s8
    have s08 := s.trans s38
    have e8 := s8 _ _ e6
    have fl : H6 l = none := s7.free nl
    have hnd8 : NdAt K C R (fun l => N l ∧ l ≠ D) H8 x (n.wE (RF.repl nm os n.exc)) := ⟨dx, c', t, l, us6, hx8, hc'.keeps (N := NoL) s08.keeps, s8.tup ht, ⟨⟨hN l (s36.free fl), (fun z => by rw [z, e6] at fl; cases fl)⟩, el⟩, hF6.keeps s8.keeps⟩
    refine ⟨D, _, _, rfl, rfl, e8, small1000 (by omega), ?_⟩
    have kk : Keeps (fun l => N l ∧ l ≠ D) H8 (upd H8 D (.lst (rs ++ [.ref x]))) := keeps_own e8 fun z => z.2 rfl
    refine ⟨rs ++ [.ref x], _, _, rfl, s08.put nD, upd_same, ?_⟩
    rw [RF.replL_more hn, if_neg c1]
    exact (hrs.mono fun _ _ x => (x.keeps s38.keeps).keeps kk).snoc ⟨x, rfl, hnd8.keeps kk⟩
  · rintro σ H3 ⟨rs, y4, y5, rfl, s, e, hrs⟩
    rw [hln, List.take_length, ← RF.repl_nodes] at hrs
    refine ⟨_, rfl, D, _, rfl, .inl ⟨sqL_of e, fun t nt => ?_⟩⟩
    have s4 : Same H3 (upd H3 t (.tup rs)) := (Same.refl H3).put nt
    exact q _ t rs (s.trans s4) sqT_new (ForAt.of (hrs.mono fun _ _ ⟨o, e, x⟩ => ⟨o, e, (x.re fun b xs h _ => h.1).keeps s4.keeps⟩))
end
end Sc
namespace Sc
open PySem PySem.Spec PyProof.Rows L2
section
variable {X : Cx} {CX : CXT} {k : Nat} {C g : Addr} {fd : FuncData} {ps : List Str} {sp : Sp} {E : XK}
/-- x in o, o of the class at C with its own __contains__ at g -/
def rInO (C : Addr) (sp : Sp) (E : XK) (neg : Bool) : R2 := fun x y H Q => ∃ (a dx : Addr) (fs : List (Str × V)), y = .ref a ∧ H a = some (.ins C dx fs) ∧ sp [y, x] H (fun v H' => ∃ b, v = .bl b ∧ Q (.bl (if neg then !b else b)) H') E
theorem op_inO (hs : PySem.W.findIn X.K (.ref C) "__contains__" = some (some (.ref g))) (hf : PySem.W.isFn X.K (.ref g) = true) (F : FnOk X.prog X.w X.K X.mg X.base CX k g fd ps sp) (hr : Room k X.A) (hb : Binds X.K fd ps []) (hx : Passes CX X E) : OpR X (compareOp .In) (rInO C sp E false) := by
  intro pins s σ H x y v u Q I rx ry h
  obtain ⟨a, dx, fs, rfl, ha, q⟩ := h
  cases (show u = Value.ref a from ry)
  obtain ⟨mA, O, _⟩ := ins_get I.hok ha
  obtain ⟨od, J, _⟩ := O.look
  obtain ⟨m, hF⟩ := I.fr
  refine PySem.W.in_K hF I.ok.mod.kin J hs hf ?_
  refine wpAny_mono (run_fn (us := [.ref a, v]) (vs := [.ref a, x]) (dvs := []) F hr hb .nil hx I (.cons rfl (.cons rx .nil)) q) (fun w s' z => ?_) fun _ _ x => x
  obtain ⟨z', H', I', rz, b, rfl, qz⟩ := z
  cases rz
  exact wpAny_pure ⟨.bl b, H', I', rfl, qz⟩
theorem op_ninO (hs : PySem.W.findIn X.K (.ref C) "__contains__" = some (some (.ref g))) (hf : PySem.W.isFn X.K (.ref g) = true) (F : FnOk X.prog X.w X.K X.mg X.base CX k g fd ps sp) (hr : Room k X.A) (hb : Binds X.K fd ps []) (hx : Passes CX X E) : OpR X (compareOp .NotIn) (rInO C sp E true) := by
  intro pins s σ H x y v u Q I rx ry h
  obtain ⟨a, dx, fs, rfl, ha, q⟩ := h
  cases (show u = Value.ref a from ry)
  obtain ⟨mA, O, _⟩ := ins_get I.hok ha
  obtain ⟨od, J, _⟩ := O.look
  obtain ⟨m, hF⟩ := I.fr
  refine PySem.W.notIn_K hF I.ok.mod.kin J hs hf ?_
  refine wpAny_mono (run_fn (us := [.ref a, v]) (vs := [.ref a, x]) (dvs := []) F hr hb .nil hx I (.cons rfl (.cons rx .nil)) q) (fun w s' z => ?_) fun _ _ x => x
  obtain ⟨z', H', I', rz, b, rfl, qz⟩ := z
  cases rz
  exact wpAny_pure ⟨.bl (!b), H', I', rfl, qz⟩
/-- o[k], o of the class at C with its own __getitem__ at g -/
def rIxO (C : Addr) (sp : Sp) (E : XK) : R2 := fun x y H Q => ∃ (a dx : Addr) (fs : List (Str × V)), x = .ref a ∧ H a = some (.ins C dx fs) ∧ sp [x, y] H Q E
theorem pe_ixO {a b : Expr} {pos : Pos} {ta tb : TE} (hs : PySem.W.findIn X.K (.ref C) "__getitem__" = some (some (.ref g))) (hfn : PySem.W.fnIn X.K g = true) (hf : PySem.W.isFn X.K (.ref g) = true) (F : FnOk X.prog X.w X.K X.mg X.base CX k g fd ps sp) (hr : Room (k + 1) X.A) (hbd : Binds X.K fd ps []) (hx : Passes CX X E)
    (ha : PE X a ta) (hb : PE X b tb) (hsl : ∀ v u, subscripted b true v u = runValue (.builtin "lifetime.subscript" ⟨[v, u], []⟩)) : PE X (.Subscript a b pos) (tOp (rIxO C sp E) ta tb) := by
  refine ⟨fun pins s σ H Q I h => ?_⟩
  refine Subscript_ (binT ha hb I h fun v u s2 x y H2 I2 rx ry q => ?_)
  obtain ⟨o, dx, fs, rfl, ho, q⟩ := q
  cases (show v = Value.ref o from rx)
  obtain ⟨mA, O, _⟩ := ins_get I2.hok ho
  obtain ⟨od, J, _⟩ := O.look
  obtain ⟨m, hF⟩ := I2.fr
  refine PySem.W.sub_K hF I2.ok.mod.kin J hs hfn hf ?_ (hsl _ _)
  have hl : ([Value.ref o, u] ++ ([] : List Value)).length = ps.length := F.len _ _ _ _ q
  refine wpAny_call (codeAny_mono (F.run X.A.in1 X.stack s2 H2 ⟨[.ref o, u], []⟩ [.ref o, u] [.ref o, y] _ _ hr.in1 I2.env0.in1 (hbd s2 [.ref o, u] I2.kIn hl) (.cons rfl (.cons ry .nil)) q) fun r s' hq => ?_)
  cases r with
  | error e => exact hx pins σ H2 s2 e s' I2 hq
  | ok fl =>
    cases fl with
    | ret w =>
      obtain ⟨v, H', I', rv, qz⟩ := I2.after hq
      exact ⟨v, H', I', rv, qz⟩
    | next => exact hq.elim
    | brk => exact hq.elim
    | cont => exact hq.elim
/-- o op x, o of the class at C with its own method, x a text -/
def rBinS (C : Addr) (sp : Sp) (E : XK) : R2 := fun x y H Q => ∃ (a dx : Addr) (fs : List (Str × V)) (z : Str), x = .ref a ∧ y = .str z ∧ H a = some (.ins C dx fs) ∧ sp [x, y] H Q E
theorem op_binS {op : Operator} {fo ro rc : Option Value} (hc : PySem.W.selfFirst X.K C = true) (hs : PySem.W.findIn X.K (.ref C) (PySem.dunder op.info.2) = some (some (.ref g))) (hf : PySem.W.isFn X.K (.ref g) = true)
    (hR : PySem.W.findIn X.K (.ref C) (dunderR op.info.2) = some rc) (hp : rc = none ∨ ∃ g : Addr, rc = some (.ref g)) (h1 : PySem.W.findIn X.K (.type "str") (PySem.dunder op.info.2) = some fo) (h2 : PySem.W.findIn X.K (.type "str") (dunderR op.info.2) = some ro)
    (hsub : PySem.W.subIn X.K (.type "str") (.ref C) = some false) (F : FnOk X.prog X.w X.K X.mg X.base CX k g fd ps sp) (hr : Room k X.A) (hb : Binds X.K fd ps []) (hx : Passes CX X E) : OpR X (binaryOp op) (rBinS C sp E) := by
  intro pins s σ H x y v u Q I rx ry h
  obtain ⟨a, dx, fs, z, rfl, rfl, ha, q⟩ := h
  cases (show v = Value.ref a from rx)
  obtain ⟨t, rfl⟩ := (show ∃ t, u = Value.str z t from ry)
  obtain ⟨mA, O, _⟩ := ins_get I.hok ha
  obtain ⟨od, J, _⟩ := O.look
  obtain ⟨m, hF⟩ := I.fr
  refine PySem.W.ksp_binT (T := "str") hF I.ok.mod.kin J rfl hc hs hf hR hp h1 h2 hsub ?_
  refine wpAny_mono (run_fn (us := [.ref a, .str z t]) (vs := [.ref a, .str z]) (dvs := []) F hr hb .nil hx I (.cons rfl (.cons ⟨t, rfl⟩ .nil)) q) (fun w s' z => ?_) fun _ _ x => x
  obtain ⟨z', H', I', rz, qz⟩ := z
  exact SlX.cmpback rz ⟨z', H', I', rz, qz⟩
end
end Sc
namespace Sc
open PySem PySem.Spec PyProof.Rows L2
/-- a def that keeps two promises keeps either -/
theorem _root_.L2.FnOk.either {P : Program} {w : World} {K : PySem.W.Frag} {mg : Str → Option Value} {base : Heap} {CX : CXT} {k : Nat} {f : Addr} {fd : FuncData} {ps : List Str} {sp sp' : Sp} (F : FnOk P w K mg base CX k f fd ps sp) (G : FnOk P w K mg base CX k f fd ps sp') :
    FnOk P w K mg base CX k f fd ps (fun vs H Q E => sp vs H Q E ∨ sp' vs H Q E) :=
  ⟨fun vs H Q E h => h.elim (F.len vs H Q E) (G.len vs H Q E), fun A outer s H args us vs Q E hr e b v h => h.elim (F.run A outer s H args us vs Q E hr e b v) (G.run A outer s H args us vs Q E hr e b v)⟩
section
variable {X : Cx}
theorem op_or {f : Value → Value → Sem Value} {r r' : R2} (h : OpR X f r) (h' : OpR X f r') : OpR X f (fun x y H Q => r x y H Q ∨ r' x y H Q) :=
  fun pins s σ H x y v u Q I rx ry q => q.elim (h pins s σ H x y v u Q I rx ry) (h' pins s σ H x y v u Q I rx ry)
/-- a tuple in a tuple of texts: no -/
def rInNo (K : PySem.W.Frag) (neg : Bool) : R2 := fun x y H Q => ∃ (a p : Addr) (ys : List V) (xs : List Str), x = .ref a ∧ y = .ref p ∧ SqT K H a ys ∧ SqT K H p (xs.map V.str) ∧ Q (.bl neg) H
theorem any_no : ∀ xs : List Value, xs.any (fun _ => false) = false
  | [] => rfl
  | _ :: r => by rw [List.any_cons, any_no r]; rfl
theorem strs_of : ∀ {xs : List Str} {us : List Value}, Vals (xs.map V.str) us → ∀ w ∈ us, ∃ z t, w = Value.str z t
  | [], _, .nil => fun w hw => by cases hw
  | x :: r, u :: us, .cons h t => fun w hw => by
    obtain ⟨tk, rfl⟩ := (show ∃ tk, u = Value.str x tk from h)
    rcases List.mem_cons.mp hw with rfl | hw
    · exact ⟨_, _, rfl⟩
    · exact strs_of t w hw
theorem op_in_no (hu : X.A.units + 64 < cLine) : OpR X (compareOp .In) (rInNo X.K false) := by
  intro pins s σ H x y v u Q I rx ry h
  obtain ⟨a, p, ys, xs, rfl, rfl, ha, hp, q⟩ := h
  cases rx
  cases ry
  obtain ⟨its, r, pl, hz⟩ := I.tuple hp
  obtain ⟨its2, r2, pl2, _⟩ := I.tuple ha
  refine SeqAt.in_tupleAt (fun _ => false) pl (fun w hw => ?_) ⟨.bl _, H, I, rfl, ?_⟩
  · obtain ⟨z, t, rfl⟩ := strs_of r w (by simpa using hw)
    exact SeqAt.EqAt.str_tuple z t pl2 (by show X.A.units + 1 < cLine; omega)
  · rw [show its.toArray.any (fun _ => false) = its.any (fun _ => false) by simp, any_no]
    exact q
theorem op_nin_no (hu : X.A.units + 64 < cLine) : OpR X (compareOp .NotIn) (rInNo X.K true) := by
  intro pins s σ H x y v u Q I rx ry h
  obtain ⟨a, p, ys, xs, rfl, rfl, ha, hp, q⟩ := h
  cases rx
  cases ry
  obtain ⟨its, r, pl, hz⟩ := I.tuple hp
  obtain ⟨its2, r2, pl2, _⟩ := I.tuple ha
  refine SeqAt.notIn_tupleAt (fun _ => false) pl (fun w hw => ?_) ⟨.bl _, H, I, rfl, ?_⟩
  · obtain ⟨z, t, rfl⟩ := strs_of r w (by simpa using hw)
    exact SeqAt.EqAt.str_tuple z t pl2 (by show X.A.units + 1 < cLine; omega)
  · rw [show its.toArray.any (fun _ => false) = its.any (fun _ => false) by simp, any_no]
    exact q
end
end Sc
namespace Sc
open PySem PySem.Spec PyProof.Rows L2
theorem sc_is_new : FnScope ["word", "value"] ["word", "value"] (defScope s_is_new) := ⟨rfl, rfl, rfl, by decide +kernel, rfl, by decide +kernel, by decide +kernel⟩
theorem sc_is_amendment : FnScope ["value", "word", "name", "new"] ["value"] (defScope s_is_amendment) := ⟨rfl, rfl, rfl, by decide +kernel, rfl, by decide +kernel, by decide +kernel⟩
/-- what stands in an amendment -/
inductive IK where
  | str (x : Str)
  | non
  | els
  | cond
  | rule
  | tup
deriving DecidableEq
def ItAt (C R : Addr) (H : Hp) (v : V) : IK → Prop
  | .str x => v = .str x ∧ x.length ≤ sizeLine
  | .non => v = .non
  | .els => ∃ i, v = .int i
  | .cond => ∃ (o dx : Addr) (fs : List (Str × V)), v = .ref o ∧ H o = some (.ins C dx fs)
  | .rule => ∃ (o dx : Addr) (fs : List (Str × V)), v = .ref o ∧ H o = some (.ins R dx fs)
  | .tup => ∃ (a : Addr) (xs : List V), v = .ref a ∧ H a = some (.tup xs)
def tyK (C R : Addr) : IK → Value
  | .str _ => .type "str"
  | .non => .type "NoneType"
  | .els => .type "int"
  | .cond => .ref C
  | .rule => .ref R
  | .tup => .type "tuple"
def isNameK : IK → Bool
  | .str x => isName x
  | _ => false
def isNewK (word : Str) (k : IK) : Bool := if word = "ruling" then isNameK k else if word = "condition" then decide (k = .cond) else decide (k = .rule)
abbrev w1s : List Str := ["strike", "swap"]
abbrev w2s : List Str := ["add", "before", "ruling", "condition"]
abbrev w3s : List Str := ["add", "ruling"]
/-- is it an amendment -/
def isAm : List IK → Bool
  | .str x :: r => if x ∈ w1s then (match r with | [k] => isNameK k | _ => false) else if x ∈ w2s then (match r with | [k, l] => (isNameK k || (decide (k = .non) && decide (x ∈ w3s))) && isNewK x l | _ => false) else false
  | _ => false
/-- the kinds as isinstance sees them -/
structure KitA (K : PySem.W.Frag) (C R : Addr) : Prop where
  ic : IsiC K C
  ir : IsiC K R
  cc : Cls K C
  cr : Cls K R
  s : ∀ k, PySem.W.kitOne K (tyK C R k) (.type "str") = some (match k with | .str _ => true | _ => false)
  c : ∀ k, PySem.W.kitOne K (tyK C R k) (.ref C) = some (decide (k = .cond))
  r : ∀ k, PySem.W.kitOne K (tyK C R k) (.ref R) = some (decide (k = .rule))
section
variable {P : Program} {w : World} {K : PySem.W.Frag} {mg : Str → Option Value} {base : Heap} {C R : Addr}
theorem ItAt.ty {H : Hp} {v : V} {k : IK} (A : KitA K C R) (h : ItAt C R H v k) : TyX K H v (tyK C R k) := by
  cases k with
  | str x => obtain ⟨rfl, _⟩ := h; exact .base (.str x)
  | non => cases h; exact .base .non
  | els => obtain ⟨i, rfl⟩ := h; exact .base (.int i)
  | cond => obtain ⟨o, dx, fs, rfl, e⟩ := h; exact .base (.ins e A.cc A.ic.ca A.ic.cn A.ic.ct A.ic.cm)
  | rule => obtain ⟨o, dx, fs, rfl, e⟩ := h; exact .base (.ins e A.cr A.ir.ca A.ir.cn A.ir.ct A.ir.cm)
  | tup => obtain ⟨a, xs, rfl, e⟩ := h; exact .base (.tup e)
theorem ItAt.same {H H' : Hp} {v : V} {k : IK} (s : Same H H') (h : ItAt C R H v k) : ItAt C R H' v k := by
  cases k with
  | str x => exact h
  | non => exact h
  | els => exact h
  | cond => obtain ⟨o, dx, fs, e, h⟩ := h; exact ⟨o, dx, fs, e, s _ _ h⟩
  | rule => obtain ⟨o, dx, fs, e, h⟩ := h; exact ⟨o, dx, fs, e, s _ _ h⟩
  | tup => obtain ⟨a, xs, e, h⟩ := h; exact ⟨a, xs, e, s _ _ h⟩
theorem ItAt.none {H : Hp} {v : V} {k : IK} (h : ItAt C R H v k) (e : v = .non) : k = .non := by
  subst e
  cases k with
  | str x => exact nomatch h.1
  | non => rfl
  | els => obtain ⟨i, e⟩ := h; exact nomatch e
  | cond => obtain ⟨o, dx, fs, e, h⟩ := h; exact nomatch e
  | rule => obtain ⟨o, dx, fs, e, h⟩ := h; exact nomatch e
  | tup => obtain ⟨a, xs, e, h⟩ := h; exact nomatch e
def sp_is_name_no (C R : Addr) : Sp := fun vs H Q _ => ∃ (v : V) (k : IK), vs = [v] ∧ ItAt C R H v k ∧ (∀ x, k ≠ .str x) ∧ Q (.bl false) H
theorem ok_is_name_no {f : Addr} {fd : FuncData} (F : Fun K "is_name" "is_name" s_is_name f fd) (B : Blt mg) (G : GNames mg) (A : KitA K C R) : FnOk P w K mg base CX0 1 f fd ["value"] (sp_is_name_no C R) := by
  obtain ⟨⟨t1, m_LETTERS⟩, ⟨t2, m_LONGEST_NAME⟩⟩ := G
  refine F.ok sc_is_name (fun vs H Q E h => by obtain ⟨v, k, rfl, _⟩ := h; rfl) (fun cdv A' outer s H vs Q E hr h => ?_)
  obtain ⟨v, k, rfl, hk, hn, q⟩ := h
  refine ⟨_, (pss_cons (ps_if (PW.pt (pw_or (pt_not (pt_val (pe_callB call_isi (by rfl) B.b_isinstance PyProof.Rows.boot_isinstance (pa_cons (pv 0) (pa_cons (pe_bltn (v := .ty "str") (by rfl) B.b_str PyProof.Rows.boot_str rfl) pa_nil))))) (pw_or1 (pt_not (pt_chain op_le op_le pe_int (pe_callB call_len_str (by rfl) B.b_len PySem.boot_len (pa_cons (pv 0) pa_nil)) (pe_glob (v := .int 8) rfl m_LONGEST_NAME ⟨_, rfl⟩)))))) (pss_one (ps_ret pe_bl)) pss_nil)
      (pss_one (ps_ret (pe_callB (cr_all rfl) (by rfl) B.b_all PyProof.Rows.boot_all (pa_cons (pe_lc (own := [("letter", 1)]) (g := gName 1) (tt := tYes) rfl sc_is_name.nd (pi_str (pv 0)) (blkOk_by (own := [("letter", 1)]) (N := ["value", "letter"]) (sc := defScope s_is_name) (by decide +kernel)) (fun _ _ _ _ _ => (pg_name (i := 1) sc_is_name.nd rfl (Or.inl rfl))) (fun _ _ _ _ _ => pts_nil) (fun _ _ _ _ _ => (pe_.re (pe_cmpR op_in_sign (pv 1) (pe_glob (v := .str "abcdefghijklmnopqrstuvwxyz") rfl m_LETTERS ⟨_, rfl⟩) rfl) (by first | (dsimp only [Cx.blk]; done) | exact rfl)))) pa_nil))))), ?_⟩
  refine ⟨v, rfl, v, .ty "str", tyK C R k, .type "str", false, rfl, .ty _, hk.ty A, ?_, _, rfl, iteT q⟩
  refine (A.s k).trans ?_
  cases k with
  | str x => exact absurd rfl (hn x)
  | _ => rfl
def sp_is_nameK (C R : Addr) : Sp := fun vs H Q _ => ∃ (v : V) (k : IK), vs = [v] ∧ ItAt C R H v k ∧ ∀ H', Same H H' → Q (.bl (isNameK k)) H'
theorem ok_is_nameK {f : Addr} {fd : FuncData} (F : Fun K "is_name" "is_name" s_is_name f fd) (B : Blt mg) (G : GNames mg) (A : KitA K C R) : FnOk P w K mg base CX0 1 f fd ["value"] (sp_is_nameK C R) := by
  refine ((ok_is_name F B G).either (ok_is_name_no F B G A)).imp fun vs H Q E h => ?_
  obtain ⟨v, k, rfl, hk, q⟩ := h
  cases k with
  | str x => obtain ⟨rfl, hx⟩ := hk; exact .inl ⟨x, rfl, hx, q⟩
  | _ => exact .inr ⟨v, _, rfl, hk, (fun x z => nomatch z), q H (Same.refl H)⟩
def sp_is_new (C R : Addr) : Sp := fun vs H Q _ => ∃ (word : Str) (v : V) (k : IK), vs = [.str word, v] ∧ ItAt C R H v k ∧ ∀ H', Same H H' → Q (.bl (isNewK word k)) H'
theorem ok_is_new {f : Addr} {fd : FuncData} (F : Fun K "is_new" "is_new" s_is_new f fd) (B : Blt mg) (A : KitA K C R) (mC : mg "Condition" = some (.ref C)) (mR : mg "Rule" = some (.ref R)) (c_is_name : Cal P w K mg base CX0 1 "is_name" ["value"] (sp_is_nameK C R)) : FnOk P w K mg base CX0 2 f fd ["word", "value"] (sp_is_new C R) := by
  refine F.ok sc_is_new (fun vs H Q E h => by obtain ⟨wd, v, k, rfl, _⟩ := h; rfl) (fun cdv A' outer s H vs Q E hr h => ?_)
  obtain ⟨wd, v, k, rfl, hk, q⟩ := h
  refine ⟨_, (pss_cons (ps_if (pt_cmpR op_eq (pv 0) pe_str (nomark _)) (pss_one (ps_ret (pe_cal c_is_name (hr.mono (by decide)) (pa_cons (pv 1) pa_nil)))) pss_nil)
      (pss_cons (ps_if (pt_cmpR op_eq (pv 0) pe_str (nomark _)) (pss_one (ps_ret (pe_callB call_isi (by rfl) B.b_isinstance PyProof.Rows.boot_isinstance (pa_cons (pv 1) (pa_cons (pe_glob (v := .ref _) rfl mC rfl) pa_nil))))) pss_nil)
      (pss_one (ps_ret (pe_callB call_isi (by rfl) B.b_isinstance PyProof.Rows.boot_isinstance (pa_cons (pv 1) (pa_cons (pe_glob (v := .ref _) rfl mR rfl) pa_nil))))))), ?_⟩
  refine ⟨_, rfl, rfl, _, rfl, bcase (fun c1 => ?_) (fun c1 => ?_)⟩
  · have c1 : wd = "ruling" := V.str.inj (of_decide_eq_true c1)
    refine ⟨_, rfl, v, k, rfl, hk, fun H' s' => ?_⟩
    have h := q H' s'
    unfold isNewK at h
    rw [if_pos c1] at h
    exact h
  have c1 : ¬ wd = "ruling" := fun z => of_decide_eq_false c1 (by rw [z])
  refine ⟨_, rfl, rfl, _, rfl, bcase (fun c2 => ?_) (fun c2 => ?_)⟩
  · have c2 : wd = "condition" := V.str.inj (of_decide_eq_true c2)
    refine ⟨_, rfl, v, .ref C, tyK C R k, .ref C, _, rfl, .own C, hk.ty A, A.c k, ?_⟩
    have h := q H (Same.refl H)
    unfold isNewK at h
    rw [if_neg c1, if_pos c2] at h
    exact h
  have c2 : ¬ wd = "condition" := fun z => of_decide_eq_false c2 (by rw [z])
  refine ⟨_, rfl, v, .ref R, tyK C R k, .ref R, _, rfl, .own R, hk.ty A, A.r k, ?_⟩
  have h := q H (Same.refl H)
  unfold isNewK at h
  rw [if_neg c1, if_neg c2] at h
  exact h
def hdK (k : IK) (ws : List Str) : Bool := match k with | .str x => decide (x ∈ ws) | _ => false
theorem inV_no {x : V} (h : ∀ z, eqV (.str z) x = false) : ∀ ws : List Str, inV x (ws.map V.str) = false
  | [] => rfl
  | z :: r => by
    show (eqV (.str z) x || inV x (r.map V.str)) = false
    rw [h z, inV_no h r]
    rfl
theorem in_head {H : Hp} {v : V} {k : IK} {ws : List Str} {p : Addr} {Q : VK} (hk : ItAt C R H v k) (n : k ≠ .cond ∧ k ≠ .rule) (hw : SqT K H p (ws.map V.str)) (q : Q (.bl (hdK k ws)) H) : rIn K false v (.ref p) H Q ∨ rInNo K false v (.ref p) H Q := by
  cases k with
  | str x =>
    obtain ⟨rfl, _⟩ := hk
    exact .inl ⟨p, _, rfl, .inr hw, rfl, flat_strs _, by rw [if_neg Bool.false_ne_true, inV_str]; exact q⟩
  | non => cases hk; exact .inl ⟨p, _, rfl, .inr hw, rfl, flat_strs _, by rw [if_neg Bool.false_ne_true, inV_no fun _ => rfl]; exact q⟩
  | els => obtain ⟨i, rfl⟩ := hk; exact .inl ⟨p, _, rfl, .inr hw, rfl, flat_strs _, by rw [if_neg Bool.false_ne_true, inV_no fun _ => rfl]; exact q⟩
  | cond => exact absurd rfl n.1
  | rule => exact absurd rfl n.2
  | tup => obtain ⟨a, xs, rfl, e⟩ := hk; exact .inr ⟨a, p, xs, ws, rfl, rfl, sqT_of e, hw, q⟩
theorem nin_head {H : Hp} {v : V} {k : IK} {ws : List Str} {p : Addr} {Q : VK} (hk : ItAt C R H v k) (n : k ≠ .cond ∧ k ≠ .rule) (hw : SqT K H p (ws.map V.str)) (q : Q (.bl (!hdK k ws)) H) : rIn K true v (.ref p) H Q ∨ rInNo K true v (.ref p) H Q := by
  cases k with
  | str x =>
    obtain ⟨rfl, _⟩ := hk
    exact .inl ⟨p, _, rfl, .inr hw, rfl, flat_strs _, by rw [if_pos rfl, inV_str]; exact q⟩
  | non => cases hk; exact .inl ⟨p, _, rfl, .inr hw, rfl, flat_strs _, by rw [if_pos rfl, inV_no fun _ => rfl]; exact q⟩
  | els => obtain ⟨i, rfl⟩ := hk; exact .inl ⟨p, _, rfl, .inr hw, rfl, flat_strs _, by rw [if_pos rfl, inV_no fun _ => rfl]; exact q⟩
  | cond => exact absurd rfl n.1
  | rule => exact absurd rfl n.2
  | tup => obtain ⟨a, xs, rfl, e⟩ := hk; exact .inr ⟨a, p, xs, ws, rfl, rfl, sqT_of e, hw, q⟩
theorem hdK_true {k : IK} {ws : List Str} (h : hdK k ws = true) : ∃ x, k = .str x ∧ x ∈ ws := by
  cases k with
  | str x => exact ⟨x, rfl, of_decide_eq_true h⟩
  | _ => cases h
theorem isAm1 {x : Str} {ks : List IK} (h : x ∈ w1s) : isAm (.str x :: ks) = (match ks with | [k] => isNameK k | _ => false) := by
  show (if x ∈ w1s then _ else _) = _
  rw [if_pos h]
theorem isAm2 {x : Str} {ks : List IK} (h1 : ¬ x ∈ w1s) (h : x ∈ w2s) : isAm (.str x :: ks) = (match ks with | [k, l] => (isNameK k || (decide (k = .non) && decide (x ∈ w3s))) && isNewK x l | _ => false) := by
  show (if x ∈ w1s then _ else if x ∈ w2s then _ else _) = _
  rw [if_neg h1, if_pos h]
theorem isAm0 {k : IK} {ks : List IK} (h1 : hdK k w1s = false) (h2 : hdK k w2s = false) : isAm (k :: ks) = false := by
  cases k with
  | str x =>
    show (if x ∈ w1s then _ else if x ∈ w2s then _ else _) = _
    rw [if_neg (of_decide_eq_false h1), if_neg (of_decide_eq_false h2)]
  | _ => rfl
theorem tyT {H : Hp} {a : Addr} {xs : List V} (h : SqT K H a xs) : TyX K H (.ref a) (.type "tuple") := by
  rcases h with (h | ⟨o, h⟩) | ⟨o, its, n, hk, hc, _⟩
  · exact .base (.tup h)
  · exact .fTuple h
  · exact .kTuple hk hc
structure SqB (K : PySem.W.Frag) (H : Hp) (a : Addr) (xs : List V) : Prop where
  h : SqT K H a xs
theorem sqT_id {H : Hp} {a : Addr} {xs : List V} (h : SqT K H a xs) : SqT K H a xs := h
def sp_is_amendment (K : PySem.W.Frag) (C R : Addr) : Sp := fun vs H Q _ => ∃ (v : V), vs = [v] ∧ ((∃ t, TyX K H v t ∧ PySem.W.kitOne K t (.type "tuple") = some false ∧ Q (.bl false) H) ∨
  (∃ (a : Addr) (xs : List V) (ks : List IK), v = .ref a ∧ SqT K H a xs ∧ All2 (ItAt C R H) xs ks ∧ (∀ k ∈ ks.head?, k ≠ .cond ∧ k ≠ .rule) ∧ ∀ H', Same H H' → Q (.bl (isAm ks)) H'))
theorem all2_one {α β : Type} {S : α → β → Prop} {x : α} {ys : List β} (h : All2 S [x] ys) : ∃ y, ys = [y] ∧ S x y := by
  cases h with
  | cons h t => cases t; exact ⟨_, rfl, h⟩
theorem all2_two {α β : Type} {S : α → β → Prop} {x x' : α} {ys : List β} (h : All2 S [x, x'] ys) : ∃ y y', ys = [y, y'] ∧ S x y ∧ S x' y' := by
  cases h with
  | cons h t => cases t with
    | cons h' t' => cases t'; exact ⟨_, _, rfl, h, h'⟩
theorem len_two {α : Type} {xs : List α} (h : xs.length = 2) : ∃ x y, xs = [x, y] := by
  match xs, h with
  | [a, b], _ => exact ⟨a, b, rfl⟩
theorem am1_no {ks : List IK} {x : Str} (hx : x ∈ w1s) (h : ¬ ks.length = 1) : isAm (.str x :: ks) = false := by
  rw [isAm1 hx]
  match ks, h with
  | [_], h => exact absurd rfl h
  | [], _ => rfl
  | _ :: _ :: _, _ => rfl
theorem am2_no {ks : List IK} {x : Str} (h1 : ¬ x ∈ w1s) (hx : x ∈ w2s) (h : ¬ ks.length = 2) : isAm (.str x :: ks) = false := by
  rw [isAm2 h1 hx]
  match ks, h with
  | [_, _], h => exact absurd rfl h
  | [], _ => rfl
  | [_], _ => rfl
  | _ :: _ :: _ :: _, _ => rfl
theorem ok_is_amendment {f : Addr} {fd : FuncData} {w1 w2 w3 : Addr} (F : Fun K "is_amendment" "is_amendment" s_is_amendment f fd) (B : Blt mg) (A : KitA K C R) (m_W1 : mg "WORDS_WITH_NAME" = some (.ref w1)) (m_W2 : mg "WORDS_WITH_MORE" = some (.ref w2)) (m_W3 : mg "WORDS_FOR_BOOKS" = some (.ref w3))
    (h1 : ∀ H, SqT K H w1 (w1s.map V.str)) (h2 : ∀ H, SqT K H w2 (w2s.map V.str)) (h3 : ∀ H, SqT K H w3 (w3s.map V.str)) (kt : PySem.W.kitOne K (.type "tuple") (.type "tuple") = some true)
    (c_is_name : Cal P w K mg base CX0 1 "is_name" ["value"] (sp_is_nameK C R)) (c_is_new : Cal P w K mg base CX0 2 "is_new" ["word", "value"] (sp_is_new C R)) : FnOk P w K mg base CX0 3 f fd ["value"] (sp_is_amendment K C R) := by
  refine F.ok sc_is_amendment (fun vs H Q E h => by obtain ⟨v, rfl, _⟩ := h; rfl) (fun cdv A' outer s H vs Q E hr h => ?_)
  obtain ⟨v, rfl, h⟩ := h
  refine ⟨_, (pss_cons (ps_if (PW.pt (pw_or (pt_not (pt_val (pe_callB call_isi (by rfl) B.b_isinstance PyProof.Rows.boot_isinstance (pa_cons (pv 0) (pa_cons (pe_bltn (v := .ty "tuple") (by rfl) B.b_tuple PyProof.Rows.boot_tuple rfl) pa_nil))))) (pw_or1 (pt_not (pt_tru (pv 0) (by intro _; rfl)))))) (pss_one (ps_ret pe_bl)) pss_nil)
      (pss_cons (ps_if (pt_cmpR (op_or op_in_seq (op_in_no hr.units)) (pe_ix ix_tup (pv 0) pe_int (fun _ _ => rfl)) (pe_glob (v := .ref w1) rfl m_W1 rfl) rfl) (pss_one (ps_ret (pe_and (pe_cmpR op_eq (pe_callB call_len_seq (by rfl) B.b_len PySem.boot_len (pa_cons (pv 0) pa_nil)) pe_int (nomark _)) (pe_one (pe_cal c_is_name (hr.mono (by decide)) (pa_cons (pe_ix ix_tup (pv 0) pe_int (fun _ _ => rfl)) pa_nil)))))) pss_nil)
      (pss_cons (ps_if (PW.pt (pw_or (pt_cmpR (op_or op_notIn_seq (op_nin_no hr.units)) (pe_ix ix_tup (pv 0) pe_int (fun _ _ => rfl)) (pe_glob (v := .ref w2) rfl m_W2 rfl) rfl) (pw_or1 (pt_cmpR op_ne (pe_callB call_len_seq (by rfl) B.b_len PySem.boot_len (pa_cons (pv 0) pa_nil)) pe_int (nomark _))))) (pss_one (ps_ret pe_bl)) pss_nil)
      (pss_cons (ps_asg (pv 0) (pg_tup (by rfl) (pgs_cons (pg_name (i := 1) sc_is_amendment.nd rfl (Or.inl rfl)) (pgs_cons (pg_name (i := 2) sc_is_amendment.nd rfl (Or.inl rfl)) (pgs_cons (pg_name (i := 3) sc_is_amendment.nd rfl (Or.inl rfl)) pgs_nil)))))
      (pss_one (ps_ret (pe_and (pe_or (pe_cal c_is_name (hr.mono (by decide)) (pa_cons (pv 2) pa_nil)) (pe_one (pe_and (pe_cmpR op_isN (pv 2) pe_non (nomark _)) (pe_one (pe_cmpR op_in_seq (pv 1) (pe_glob (v := .ref w3) rfl m_W3 rfl) rfl))))) (pe_one (pe_cal c_is_new (hr.mono (by decide)) (pa_cons (pv 1) (pa_cons (pv 3) pa_nil))))))))))), ?_⟩
  rcases h with ⟨t, ht, hk, q⟩ | ⟨a, xs, ks, rfl, ha, hks, hhd, q⟩
  · exact ⟨v, rfl, v, .ty "tuple", t, .type "tuple", false, rfl, .ty _, ht, hk, _, rfl, iteT q⟩
  have hlen := hks.len
  refine ⟨_, rfl, _, .ty "tuple", .type "tuple", .type "tuple", true, rfl, .ty _, tyT ha, kt, _, rfl, iteF ?_⟩
  have hb : SqB K H a xs := ⟨ha⟩
  clear ha
  cases hks with
  | nil => exact ⟨_, rfl, _, .inr (.inl ⟨_, hb.h, rfl⟩), iteT (q H (Same.refl H))⟩
  | @cons v0 k0 xs ks h0 hks =>
    have hd0 := hhd k0 rfl
    refine ⟨_, rfl, _, .inr (.inl ⟨_, hb.h, rfl⟩), iteF ?_⟩
    refine ⟨_, rfl, a, _, 0, v0, rfl, rfl, hb.h, atI_nat (j := 0) rfl, in_head h0 hd0 (h1 _) ⟨_, rfl, bcase (fun c1 => ?_) (fun c1 => ?_)⟩⟩
    · obtain ⟨x, rfl, hx⟩ := hdK_true c1
      have hlen := hks.len
      refine ⟨_, rfl, a, _, rfl, .inr (hb.h), rfl, _, rfl, bcase (fun c2 => ?_) (fun c2 => ?_)⟩
      · have c2 := V.int.inj (of_decide_eq_true c2)
        have c2 : xs.length = 1 := by rw [List.length_cons] at c2; omega
        obtain ⟨v1, rfl⟩ := List.length_eq_one_iff.mp c2
        obtain ⟨k1, rfl, h1'⟩ := all2_one hks
        · refine ⟨_, rfl, a, _, 1, v1, rfl, rfl, hb.h, atI_nat (j := 1) rfl, v1, k1, rfl, h1', fun H' s' => ?_⟩
          have h := q H' s'
          rw [isAm1 hx] at h
          exact h
      · have h := q H (Same.refl H)
        have c2 : ¬ ks.length = 1 := fun z => of_decide_eq_false c2 (by rw [List.length_cons, hlen, z]; rfl)
        rw [am1_no hx c2] at h
        exact h
    · refine ⟨_, rfl, a, _, 0, v0, rfl, rfl, hb.h, atI_nat (j := 0) rfl, nin_head h0 hd0 (h2 _) ⟨_, rfl, bcase (fun c2 => ?_) (fun c2 => ?_)⟩⟩
      · have h := q H (Same.refl H)
        rw [isAm0 c1 ((Bool.not_eq_true' _).mp c2)] at h
        exact iteT h
      have c2 := (Bool.not_eq_false' _).mp c2
      obtain ⟨x, rfl, hx⟩ := hdK_true c2
      have hx1 : ¬ x ∈ w1s := of_decide_eq_false c1
      refine ⟨_, rfl, a, _, rfl, .inr (hb.h), rfl, _, rfl, bcase (fun c3 => ?_) (fun c3 => ?_)⟩
      · have c3 := of_decide_eq_false ((Bool.not_eq_true' _).mp c3)
        have h := q H (Same.refl H)
        have c3 : ¬ ks.length = 2 := fun z => c3 (by rw [List.length_cons, hks.len, z]; rfl)
        rw [am2_no hx1 hx c3] at h
        exact h
      · have c3 := V.int.inj (of_decide_eq_true ((Bool.not_eq_false' _).mp c3))
        have c3 : xs.length = 2 := by rw [List.length_cons] at c3; omega
        obtain ⟨v1, v2, rfl⟩ := len_two c3
        obtain ⟨k1, k2, rfl, h1', h2'⟩ := all2_two hks
        · obtain ⟨rfl, _⟩ := h0
          refine ⟨_, rfl, a, _, rfl, hb.h, rfl, _, _, rfl, _, _, rfl, _, _, rfl, rfl, ?_⟩
          refine ⟨_, rfl, v1, k1, rfl, h1', fun H1 s1 => ⟨_, rfl, bcase (fun c4 => ?_) (fun c4 => ?_)⟩⟩
          · refine ⟨_, rfl, bcase (fun _ => ?_) (fun z => nomatch z)⟩
            refine ⟨_, rfl, _, rfl, x, v2, k2, rfl, h2'.same s1, fun H3 s3 => ?_⟩
            have h := q H3 (s1.trans s3)
            rw [isAm2 hx1 hx] at h
            simp only [c4, Bool.true_or, Bool.true_and] at h
            exact h
          · refine ⟨_, rfl, rfl, _, rfl, bcase (fun c5 => ?_) (fun c5 => ?_)⟩
            · have c5 : k1 = .non := h1'.none (of_decide_eq_true c5)
              refine ⟨_, rfl, w3, _, rfl, .inr (h3 _), rfl, flat_strs _, _, rfl, ?_⟩
              rw [if_neg Bool.false_ne_true, inV_str]
              refine bcase (fun c6 => ?_) (fun c6 => ?_)
              · refine ⟨_, rfl, _, rfl, x, v2, k2, rfl, h2'.same s1, fun H3 s3 => ?_⟩
                have h := q H3 (s1.trans s3)
                rw [isAm2 hx1 hx] at h
                simp only [c4, decide_eq_true c5, c6, Bool.false_or, Bool.true_and] at h
                exact h
              · have h := q H1 s1
                rw [isAm2 hx1 hx] at h
                simp only [c4, c6, Bool.false_or, Bool.and_false, Bool.false_and] at h
                exact h
            · have c5 : ¬ k1 = .non := fun z => of_decide_eq_false c5 (by subst z; exact h1')
              refine ⟨_, rfl, ?_⟩
              have h := q H1 s1
              rw [isAm2 hx1 hx] at h
              simp only [c4, decide_eq_false c5, Bool.false_or, Bool.false_and] at h
              exact h
end
end Sc
namespace Sc
open PySem PySem.Spec PyProof.Rows L2
/-- a method that the class at C has of its own, as the operators find it -/
structure MethO (P : Program) (w : World) (K : PySem.W.Frag) (mg : Str → Option Value) (base : Heap) (CX : CXT) (k : Nat) (C : Addr) (n : Str) (ps : List Str) (sp : Sp) : Prop where
  ex : ∃ (g : Addr) (fd : FuncData), PySem.W.findIn K (.ref C) n = some (some (.ref g)) ∧ PySem.W.isFn K (.ref g) = true ∧ PySem.W.fnIn K g = true ∧ FnOk P w K mg base CX k g fd ps sp ∧ Binds K fd ps []
/-- what an operator against a text asks of the class besides -/
structure BinT (K : PySem.W.Frag) (C : Addr) (op : Operator) : Prop where
  first : PySem.W.selfFirst K C = true
  right : ∃ rc, PySem.W.findIn K (.ref C) (dunderR op.info.2) = some rc ∧ (rc = none ∨ ∃ g : Addr, rc = some (.ref g))
  t1 : ∃ fo, PySem.W.findIn K (.type "str") (PySem.dunder op.info.2) = some fo
  t2 : ∃ ro, PySem.W.findIn K (.type "str") (dunderR op.info.2) = some ro
  sub : PySem.W.subIn K (.type "str") (.ref C) = some false
section
variable {X : Cx} {k : Nat} {C : Addr} {ps : List Str} {sp : Sp} {E : XK}
theorem op_inM (M : MethO X.prog X.w X.K X.mg X.base CX0 k C "__contains__" ps sp) (hr : Room k X.A) : OpR X (compareOp .In) (rInO C sp E0 false) := by
  obtain ⟨g, fd, h1, h2, _, F, hb⟩ := M.ex
  exact op_inO h1 h2 F hr hb pass0
theorem op_ninM (M : MethO X.prog X.w X.K X.mg X.base CX0 k C "__contains__" ps sp) (hr : Room k X.A) : OpR X (compareOp .NotIn) (rInO C sp E0 true) := by
  obtain ⟨g, fd, h1, h2, _, F, hb⟩ := M.ex
  exact op_ninO h1 h2 F hr hb pass0
theorem pe_ixM {a b : Expr} {pos : Pos} {ta tb : TE} (M : MethO X.prog X.w X.K X.mg X.base (L2.CX X.prog X.w) k C "__getitem__" ps sp) (hr : Room (k + 1) X.A) (tk : Takes X (fun cls d _ H => E cls d H)) (ha : PE X a ta) (hb : PE X b tb)
    (hsl : ∀ v u, subscripted b true v u = runValue (.builtin "lifetime.subscript" ⟨[v, u], []⟩)) : PE X (.Subscript a b pos) (tOp (rIxO C sp E) ta tb) := by
  obtain ⟨g, fd, h1, h2, h3, F, hbd⟩ := M.ex
  exact pe_ixO h1 h3 h2 F hr hbd (fun pins σ H s e s' I h => passAt tk σ pins H s e s' I h) ha hb hsl
theorem op_subM {op : Operator} {n : Str} (M : MethO X.prog X.w X.K X.mg X.base (L2.CX X.prog X.w) k C n ps sp) (T : BinT X.K C op) (en : n = PySem.dunder op.info.2) (hr : Room k X.A) (tk : Takes X (fun cls d _ H => E cls d H)) : OpR X (binaryOp op) (rBinS C sp E) := by
  subst en
  obtain ⟨g, fd, h1, h2, h3, F, hbd⟩ := M.ex
  obtain ⟨rc, r1, r2⟩ := T.right
  obtain ⟨fo, f1⟩ := T.t1
  obtain ⟨ro, f2⟩ := T.t2
  exact op_binS T.first h1 h2 r1 r2 f1 f2 T.sub F hr hbd (fun pins σ H s e s' I h => passAt tk σ pins H s e s' I h)
end
end Sc
namespace Sc
open PySem PySem.Spec PyProof.Rows L2
theorem sc_swapped : FnScope ["book", "name", "neighbor", "others"] ["book", "name"] (defScope s_swapped) := ⟨rfl, rfl, rfl, by decide +kernel, rfl, by decide +kernel, by decide +kernel⟩
theorem sc_Book___sub__ : FnScope ["self", "name"] ["self", "name"] (defScope s_Book___sub__) := ⟨rfl, rfl, rfl, by decide +kernel, rfl, by decide +kernel, by decide +kernel⟩
theorem sc_amended_rule : FnScope ["rule", "word", "new"] ["rule", "word", "new"] (defScope s_amended_rule) := ⟨rfl, rfl, rfl, by decide +kernel, rfl, by decide +kernel, by decide +kernel⟩
theorem sc_amended_book : FnScope ["book", "word", "new"] ["book", "word", "new"] (defScope s_amended_book) := ⟨rfl, rfl, rfl, by decide +kernel, rfl, by decide +kernel, by decide +kernel⟩
theorem sc_amended : FnScope ["book", "amendment", "word", "name", "others"] ["book", "amendment"] (defScope s_amended) := ⟨rfl, rfl, rfl, by decide +kernel, rfl, by decide +kernel, by decide +kernel⟩
/-! ### books that are amended -/
/-- a right book, not too large -/
structure BkOk (xs : List Str) (f : RF) (rl : Str) : Prop where
  tS : Txts xs
  lS : xs.length ≤ 60
  hb : firstBad xs = none
  hrl : isName rl = true
  nd : f.names.Nodup
  dep : f.dep ≤ 6
  size : f.size ≤ 100
  ev : f.every NdOk
namespace RF
/-- the rule behind, as a part of the whole -/
theorem nxt_part {nm : Str} {p : Nd → Prop} : ∀ {f : RF} {b : Nd}, nxt nm f = some b → f.every p → p b ∧ b.exc.every p ∧ b.exc.dep + 1 ≤ f.dep ∧ b.exc.size + 1 ≤ f.size
  | .nil, b, h, _ => nomatch h
  | .cons n hs fs rl exc rest, b, h, ⟨h1, h2, h3⟩ => by
    have h : (if n = nm then rest.nodes.head? else if nm ∈ exc.names then nxt nm exc else nxt nm rest) = some b := h
    show p b ∧ b.exc.every p ∧ b.exc.dep + 1 ≤ max (exc.dep + 1) rest.dep ∧ b.exc.size + 1 ≤ exc.size + 1 + rest.size
    split at h
    · have hb : b ∈ rest.nodes := List.mem_of_mem_head? h
      have h4 := every_nodes.mp h3 b hb
      have h5 := dep_mem rest b hb
      have h6 := size_mem rest b hb
      exact ⟨h4.1, h4.2, by omega, by omega⟩
    · split at h
      · obtain ⟨a1, a2, a3, a4⟩ := nxt_part h h2
        exact ⟨a1, a2, by omega, by omega⟩
      · obtain ⟨a1, a2, a3, a4⟩ := nxt_part h h3
        exact ⟨a1, a2, by omega, by omega⟩
theorem find_part {nm : Str} {p : Nd → Prop} : ∀ {f : RF} {b : Nd}, f.find nm = some b → f.every p → p b ∧ b.exc.every p ∧ b.exc.dep + 1 ≤ f.dep ∧ b.exc.size + 1 ≤ f.size
  | .nil, b, h, _ => nomatch h
  | .cons n hs fs rl exc rest, b, h, ⟨h1, h2, h3⟩ => by
    rw [find_cons] at h
    show p b ∧ b.exc.every p ∧ b.exc.dep + 1 ≤ max (exc.dep + 1) rest.dep ∧ b.exc.size + 1 ≤ exc.size + 1 + rest.size
    split at h
    · cases h
      exact ⟨h1, h2, by show exc.dep + 1 ≤ _; omega, by show exc.size + 1 ≤ _; omega⟩
    · cases e : exc.find nm with
      | some m =>
        rw [e] at h
        cases h
        obtain ⟨a1, a2, a3, a4⟩ := find_part e h2
        exact ⟨a1, a2, by omega, by omega⟩
      | none =>
        rw [e] at h
        obtain ⟨a1, a2, a3, a4⟩ := find_part (f := rest) h h3
        exact ⟨a1, a2, by omega, by omega⟩
theorem rowIn_size {nm : Str} : ∀ {f top : RF}, f.size ≤ top.size → (rowIn nm top f).size ≤ top.size
  | .nil, _, _ => Nat.le_refl _
  | .cons n hs fs rl exc rest, top, h => by
    have h : exc.size + 1 + rest.size ≤ top.size := h
    show (if n = nm then top else if nm ∈ exc.names then rowIn nm exc exc else rowIn nm top rest).size ≤ _
    split
    · exact Nat.le_refl _
    · split
      · have := rowIn_size (nm := nm) (f := exc) (top := exc) (Nat.le_refl _)
        omega
      · exact rowIn_size (by omega)
end RF
theorem NdOk.wE {n : Nd} {e : RF} (h : NdOk n) : NdOk (n.wE e) := ⟨h.nm, h.rl, h.c1, h.c2⟩
/-- out of its place -/
theorem BkOk.out {xs : List Str} {f : RF} {rl nm : Str} (h : BkOk xs f rl) : (RF.repl nm [] f).names.Nodup ∧ (RF.repl nm [] f).dep ≤ f.dep ∧ (RF.repl nm [] f).size ≤ f.size ∧ (RF.repl nm [] f).every NdOk := by
  refine ⟨?_, RF.repl_dep h.nd, RF.repl_size h.nd, ?_⟩
  · rw [RF.repl_upd h.nd]
    refine (RF.upd_names (fun n rest hn => ?_) h.nd).1
    rw [List.nodup_cons, List.nodup_append] at hn
    exact ⟨hn.2.2.1, fun x hx => List.mem_cons_of_mem _ (List.mem_append_right _ hx)⟩
  · rw [RF.repl_upd h.nd]
    exact RF.upd_every (fun n e hn => hn.wE) (fun n rest _ _ h3 => h3) h.ev
section
variable {P : Program} {w : World} {K : PySem.W.Frag} {mg : Str → Option Value} {base : Heap} {C R B CC CR CF CB CU CN CA : Addr}
/-- what comes of a book that is made -/
def Out (K : PySem.W.Frag) (C R B CB : Addr) (N : Addr → Prop) (xs : List Str) (f : RF) (rl : Str) (H : Hp) (Q : VK) (E : XK) : Prop := (∀ wd i, firstFault xs (f.pre 0) [] 0 0 = some (wd, i) → errWI CB wd (i : Nat) H E) ∧ (firstFault xs (f.pre 0) [] 0 0 = none → ∀ H' b, Same H H' → BookAt K C R B N H' b xs f rl → Q (.ref b) H')
theorem errWI.same {D : Addr} {wd : Str} {i : Int} {H H' : Hp} {E : XK} (s : Same H H') (h : errWI D wd i H E) : errWI D wd i H' E := fun H1 d s1 n => h H1 d (s.trans s1) n
theorem Out.same {N : Addr → Prop} {xs : List Str} {f : RF} {rl : Str} {H H' : Hp} {Q : VK} {E : XK} (s : Same H H') (h : Out K C R B CB N xs f rl H Q E) : Out K C R B CB N xs f rl H' Q E := ⟨fun wd i e => (h.1 wd i e).same s, fun e H1 b s1 hb => h.2 e H1 b (s.trans s1) hb⟩
theorem book_of {N : Addr → Prop} {H4 : Hp} {x dx a p : Addr} {xs : List Str} {rl : Str} {ws : List V} {f : RF} {Q : VK} {E : XK} (nx : H4 x = none) (ndx : H4 dx = none) (nex : dx ≠ x) (fr : ∀ l, H4 l = none → N l) (hA : SqT K H4 a (xs.map V.str)) (tS : Txts xs) (lS : xs.length ≤ 60) (hb : firstBad xs = none)
    (hP : SqT K H4 p ws) (hF : ForAt K C R N H4 f ws) (hd : f.dep ≤ 12) (hz : f.size ≤ 900) (hfit : f.Fit) (hrl : isName rl = true) (q : Out K C R B CB N xs f rl H4 Q E) :
    sp_book_init K C R B CF CB [.ref x, .ref a, .ref p, .str rl] (upd (upd H4 dx (.own x)) x (.ins B dx [])) (fun v H' => v = .non ∧ Q (.ref x) H') E := by
  have s5 : Same H4 (upd (upd H4 dx (.own x)) x (.ins B dx [])) := ((Same.refl H4).put ndx).put nx
  have ll := name_len hrl
  refine ⟨N, x, dx, a, p, xs, rl, ws, f, rfl, upd_same, s5.tup hA, tS, by omega, s5.tup hP, hF.keeps s5.keeps, hd, hz, hfit, by omega, (fun i ei => by rw [hb] at ei; cases ei), fun _ => ⟨(fun wd i ei _ => (q.1 wd i ei).same s5), fun hff => ⟨(fun e => by rw [hrl] at e; cases e), fun _ H6 l6 us2 sX6 hx6 nelx nl6 el hus6 => ⟨rfl, ?_⟩⟩⟩⟩
  have s6 : Same H4 H6 := fun b' o' h => sX6 b' o' (fun e => by rw [e, nx] at h; cases h) (s5 _ _ h)
  exact q.2 hff H6 x s6 ⟨dx, a, p, l6, ws, us2, hx6, s6.tup hA, s6.tup hP, hF.keeps s6.keeps, ⟨fr l6 (s5.free nl6), el⟩, hus6⟩
theorem flat_map {α : Type} {g : α → Str} : ∀ ns : List α, (ns.map fun n => V.str (g n)).all flatV = true
  | [] => rfl
  | _ :: r => flat_map r
theorem atI_2 {α : Type} {xs : List α} {v : α} (h : xs[xs.length - 2]? = some v) (l : 2 ≤ xs.length) : atI xs (-2) = some v := by
  unfold atI ixN
  rw [if_neg (by decide), if_pos (by omega)]
  show xs[((-2 : Int) + (xs.length : Int)).toNat]? = _
  rw [show ((-2 : Int) + (xs.length : Int)).toNat = xs.length - 2 by omega]
  exact h
/-- the row in which a rule stands -/
def tBeside (K : PySem.W.Frag) (C R B : Addr) : TS := fun D σ H => ∃ (N : Addr → Prop) (nm : Str) (f : RF) (o dx a p l Dp : Addr) (rl : Str) (ws us : List V), σ[0]? = some (some (.ref o)) ∧ σ[2]? = some (some (.ref Dp)) ∧ H o = some (.ins B dx (bookF a p rl l)) ∧ SqT K H p ws ∧ ForAt K C R N H f ws ∧ H Dp = some (.lst us) ∧ All2 (RefAt K C R N H) us (f.path nm) ∧ nm ∈ f.names ∧
  ∀ pr wr, SqT K H pr wr → ForAt K C R N H (RF.rowIn nm f f) wr → D.nx (σ.set 3 (some (.ref pr))) H
def sp_beside (K : PySem.W.Frag) (C R B CU CN : Addr) : Sp := fun vs H Q E => ∃ (N : Addr → Prop) (o : Addr) (xs : List Str) (f : RF) (rl nm : Str), vs = [.ref o, .str nm] ∧ BookAt K C R B N H o xs f rl ∧ BkOk xs f rl ∧
  (¬ nm ∈ f.names → ∀ H', Same H H' → E (.ref CU) none H') ∧ (nm ∈ f.names → (RF.nxt nm f = none → ∀ H', Same H H' → E (.ref CN) none H') ∧ ∀ b v H', RF.nxt nm f = some b → Same H H' → RefAt K C R N H' v b → Q v H')
theorem ok_beside {f : Addr} {fd : FuncData} (F : Fun K "next_beside" "next_beside" s_next_beside f fd) (Bl : Blt mg) (kR : RuleX P w K mg base R) (kB : BookX P w K mg base B) (e_UnknownRule : ErrMk0 K mg "UnknownRule" CU) (e_NoNeighbor : ErrMk0 K mg "NoNeighbor" CN)
    (c_path_to : Cal P w K mg base CX0 15 "path_to" ["rules", "name"] (sp_path K C R 12)) : FnOk P w K mg base (L2.CX P w) 16 f fd ["book", "name"] (sp_beside K C R B CU CN) := by
  refine F.okX sc_next_beside (fun vs H Q E h => by obtain ⟨N, o, xs, f, rl, nm, rfl, _⟩ := h; rfl) (fun cdv A outer s H vs Q E hr h => ?_)
  obtain ⟨N, o, xs, f, rl, nm, rfl, ⟨dx, a, p, l, ws, us, ho, hS, hP, hF, ⟨nl, hl⟩, hus⟩, hk, eu, h⟩ := h
  have hdep := hk.dep
  have hsz := hk.size
  refine ⟨_, (pss_cons (ps_set (i := 2) sc_next_beside.nd rfl (Or.inl rfl) (pe_cal c_path_to (hr.mono (by decide)) (pa_cons (pe_cprop kB.rules kB.cls (hr.mono (by decide)) (pv 0)) (pa_cons (pv 1) pa_nil))))
      (pss_cons (ps_if (pt_not (pt_tru (pv 2) (by intro _; rfl))) (pss_one (ps_raise rfl (takes_of rfl rfl rfl rfl) (pmk_err0 e_UnknownRule))) pss_nil)
      (pss_cons (wk_ps (tBeside K C R B) (ps_set (i := 3) sc_next_beside.nd rfl (Or.inl rfl) (pe_ifExp (pt_cmpR op_gt (pe_callB call_len_seq (by rfl) Bl.b_len PySem.boot_len (pa_cons (pv 2) pa_nil)) pe_int (nomark _)) (pe_cprop kR.exceptions kR.cls (hr.mono (by decide)) (pe_ix ix_list (pv 2) (pe_un un_neg pe_int) (fun _ _ => rfl))) (pe_cprop kB.rules kB.cls (hr.mono (by decide)) (pv 0)))) ?wb)
      (pss_cons (ps_set (i := 4) sc_next_beside.nd rfl (Or.inl rfl) (pe_op op_add (pe_bm PySem.F.plainAttrs_list PySem.F.slot_list_index PySem.F.type_list_index mt_index (pe_lc (own := [("rule", 5)]) (g := gName 5) (tt := tYes) rfl sc_next_beside.nd (pi_tup (pv 3)) (blkOk_by (own := [("rule", 5)]) (N := ["book", "name", "path", "beside", "place", "rule"]) (sc := defScope s_next_beside) (by decide +kernel)) (fun _ _ _ _ _ => (pg_name (i := 5) sc_next_beside.nd rfl (Or.inl rfl))) (fun _ _ _ _ _ => pts_nil) (fun _ _ _ _ _ => (pe_.re (pe_cprop kR.name kR.cls (hr.mono (by decide)) (pv 5)) (by first | (dsimp only [Cx.blk]; done) | exact rfl)))) (pa_cons (pv 1) pa_nil)) pe_int))
      (pss_cons (ps_if (pt_cmpR op_eq (pv 4) (pe_callB call_len_seq (by rfl) Bl.b_len PySem.boot_len (pa_cons (pv 3) pa_nil)) (nomark _)) (pss_one (ps_raise rfl (takes_of rfl rfl rfl rfl) (pmk_err0 e_NoNeighbor))) pss_nil)
      (pss_one (ps_ret (pe_ix ix_tup (pv 3) (pv 4) (fun _ _ => rfl))))))))), ?_⟩
  case wb =>
    rintro D σ H1 ⟨N, nm, f, o, dx, a, p, l, Dp, rl, ws, us, g0, g2, ho, hP, hF, eD, hu, hno, q⟩
    have hul := hu.len
    rcases RF.path_row f hno with ⟨h1, h2⟩ | ⟨q0, h1, h2, h3⟩
    · refine ⟨_, g2, Dp, _, rfl, .inl (sqL_of eD), _, _, rfl, rfl, _, rfl, bcase (fun c => absurd (of_decide_eq_true c) (by omega)) (fun _ => ?_)⟩
      refine ⟨_, g0, o, dx, _, rfl, ho, o, dx, _, _, rfl, ho, rfl, ?_⟩
      exact q p ws hP (by rw [h2]; exact hF)
    · obtain ⟨vq, hvq, oq, rfl, hq⟩ := hu.get' h1
      have hN := hq
      obtain ⟨dx', c', pe', l', ws', ho', hc', hpe', hle', hfe'⟩ := hN
      refine ⟨_, g2, Dp, _, rfl, .inl (sqL_of eD), _, _, rfl, rfl, _, rfl, bcase (fun _ => ?_) (fun c => absurd (of_decide_eq_false c) (by omega))⟩
      refine ⟨_, g2, 2, rfl, Dp, _, _, .ref oq, rfl, rfl, sqL_of eD, atI_2 (by rw [hul]; exact hvq) (by omega), oq, dx', _, rfl, ho', oq, dx', _, _, rfl, ho', rfl, ?_⟩
      exact q pe' ws' hpe' (by rw [h3]; exact hfe')
  refine ⟨_, rfl, o, dx, _, rfl, ho, o, dx, _, _, rfl, ho, rfl, _, rfl, N, p, nm, ws, f, rfl, hP, hF, by omega, by omega, fun H5 D us5 s5 eD hu => ?_⟩
  by_cases hno : nm ∈ f.names
  · have hpn := RF.path_some hno
    obtain ⟨en, q⟩ := h hno
    obtain ⟨u0, ur, rfl⟩ : ∃ u0 ur, us5 = u0 :: ur := by
      cases us5 with
      | nil => exact absurd (List.length_eq_zero_iff.mp hu.len.symm) hpn
      | cons x r => exact ⟨x, r, rfl⟩
    refine ⟨_, rfl, _, .inl ⟨_, sqL_of eD, rfl⟩, iteF ?_⟩
    refine ⟨N, nm, f, o, dx, a, p, l, D, rl, ws, _, rfl, rfl, s5 _ _ ho, s5.tup hP, hF.keeps s5.keeps, eD, hu, hno, fun pr wr hpr hFr => ?_⟩
    obtain ⟨k, n, _, hk1, hk2, hk3, hk4⟩ := RF.row_at (f := f) (top := f) (pre := []) hno rfl (fun _ h => nomatch h)
    have hrz := RF.rowIn_size (nm := nm) (f := f) (top := f) (Nat.le_refl _)
    generalize RF.rowIn nm f f = row at hFr hk1 hk3 hk4 hrz
    have hA := hFr.all
    have hln := hA.len
    have hrs := RF.nodes_le row
    refine ⟨_, rfl, pr, rfl, ⟨_, hpr⟩, fun D2 nD2 => lc_it walk_tup (fun i H' => Same H5 H' ∧ H' D2 = some (.lst ((row.nodes.take i).map fun n => V.str n.nm))) ⟨(Same.refl H5).put nD2, upd_same⟩ (fun _ _ _ h => h.1.tup hpr) ?_ ?_⟩
    · rintro i y H7 H8 hi ⟨s, e⟩ ⟨rfl, hy⟩
      obtain ⟨m, hm, o', rfl, hN⟩ := hA.get hy
      obtain ⟨dx', c', pe', l', ws', ho', _⟩ := hN.keeps (N := N) s.keeps
      refine ⟨rfl, yes_ ⟨_, rfl, o', dx', _, rfl, ho', o', dx', _, _, rfl, ho', rfl, ?_⟩⟩
      refine grow (acc := fun i => (row.nodes.take i).map fun n => V.str n.nm) nD2 s e ?_ ?_
      · rw [List.length_map, List.length_take]
        exact small1000 (by omega)
      · show List.map _ _ = List.map _ _ ++ _
        rw [take_more hm, List.map_append]
        rfl
    rintro H7 ⟨s7, e7⟩
    rw [hln, List.take_length] at e7
    have hks : (row.nodes.map fun n => V.str n.nm)[k]? = some (.str n.nm) := by rw [List.getElem?_map, hk1]; rfl
    refine ⟨.inl ⟨rfl, _, sqL_of e7⟩, _, rfl, D2, _, .str nm, k, .str n.nm, rfl, rfl, sqL_of e7, rfl, flat_map _, hks, by rw [hk2]; exact decide_eq_true rfl, fun m z hm hz => ?_, ?_⟩
    · rw [List.getElem?_map] at hz
      cases e : row.nodes[m]? with
      | none => rw [e] at hz; cases hz
      | some x => rw [e] at hz; cases hz; exact decide_eq_false (fun z => hk3 m x hm e z)
    refine ⟨_, _, rfl, rfl, _, rfl, _, rfl, pr, _, rfl, .inr (s7.tup hpr), rfl, _, rfl, bcase (fun c => ?_) (fun c => ?_)⟩
    · have c := V.int.inj (of_decide_eq_true c)
      refine en ?_ H7 (s5.trans s7)
      rw [hk4, List.getElem?_eq_none_iff, ← hln]
      omega
    · have c : ¬ ((k : Nat) : Int) + 1 = (wr.length : Nat) := fun z => of_decide_eq_false c (by show V.int ((k : Nat) + 1) = _; rw [z])
      obtain ⟨hkl, _⟩ := List.getElem?_eq_some_iff.mp hk1
      have hk1l : k + 1 < row.nodes.length := by omega
      obtain ⟨v, hv, hR⟩ := hA.at' hk1l
      refine ⟨_, rfl, _, rfl, pr, _, _, v, rfl, rfl, s7.tup hpr, atI_nat (j := k + 1) hv, ?_⟩
      exact q _ v H7 (by rw [hk4, List.getElem?_eq_getElem hk1l]) (s5.trans s7) (hR.keeps (N := N) s7.keeps)
  · rw [RF.path_no hno] at hu
    cases hu
    exact ⟨_, rfl, _, .inl ⟨_, sqL_of eD, rfl⟩, iteT (eu hno H5 s5)⟩
def sp_swapped (K : PySem.W.Frag) (C R B CB CU CN : Addr) : Sp := fun vs H Q E => ∃ (N : Addr → Prop) (o : Addr) (xs : List Str) (f : RF) (rl nm : Str), vs = [.ref o, .str nm] ∧ BookAt K C R B N H o xs f rl ∧ BkOk xs f rl ∧ (∀ l, H l = none → N l) ∧
  (¬ nm ∈ f.names → ∀ H', Same H H' → E (.ref CU) none H') ∧ (nm ∈ f.names → (RF.nxt nm f = none → ∀ H', Same H H' → E (.ref CN) none H') ∧ (RF.nxt nm f ≠ none → Out K C R B CB N xs (RF.upd nm Op.swap.G f) rl H Q E))
theorem ok_swapped {f : Addr} {fd : FuncData} (F : Fun K "swapped" "swapped" s_swapped f fd) (Bl : Blt mg) (kR : RuleX P w K mg base R) (kB : BookX P w K mg base B) (k_Book : Mkr P w K mg base 17 "Book" B ["self", "facts", "rules", "ruling"] (sp_book_init K C R B CF CB))
    (mIt : MethO P w K mg base (L2.CX P w) 3 B "__getitem__" ["self", "name"] (sp_getitem K C R B CU)) (c_replaced : Cal P w K mg base CX0 30 "replaced" ["rules", "name", "others"] (sp_replaced K C R 12)) (c_next_beside : Cal P w K mg base (L2.CX P w) 16 "next_beside" ["book", "name"] (sp_beside K C R B CU CN)) :
    FnOk P w K mg base (L2.CX P w) 32 f fd ["book", "name"] (sp_swapped K C R B CB CU CN) := by
  refine F.okX sc_swapped (fun vs H Q E h => by obtain ⟨N, o, xs, f, rl, nm, rfl, _⟩ := h; rfl) (fun cdv A outer s H vs Q E hr h => ?_)
  obtain ⟨N, o, xs, f, rl, nm, rfl, hB, hk, fr, eu, h⟩ := h
  refine ⟨_, (pss_cons (ps_set (i := 2) sc_swapped.nd rfl (Or.inl rfl) (pe_calX c_next_beside (hr.mono (by decide)) (takes_of rfl rfl rfl rfl) (pa_cons (pv 0) (pa_cons (pv 1) pa_nil))))
      (pss_cons (ps_set (i := 3) sc_swapped.nd rfl (Or.inl rfl) (pe_cal c_replaced (hr.mono (by decide)) (pa_cons (pe_cprop kB.rules kB.cls (hr.mono (by decide)) (pv 0)) (pa_cons (pe_cprop kR.name kR.cls (hr.mono (by decide)) (pv 2)) (pa_cons (pe_tup pa_nil) pa_nil)))))
      (pss_one (ps_ret (pe_mkX k_Book (hr.mono (by decide)) (takes_of rfl rfl rfl rfl) (pa_cons (pe_cprop kB.facts kB.cls (hr.mono (by decide)) (pv 0)) (pa_cons (pe_cal c_replaced (hr.mono (by decide)) (pa_cons (pv 3) (pa_cons (pv 1) (pa_cons (pe_tup (pa_cons (pv 2) (pa_cons (pe_ixM mIt (hr.mono (by decide)) (takes_of rfl rfl rfl rfl) (pv 0) (pv 1) (fun _ _ => rfl)) pa_nil))) pa_nil)))) (pa_cons (pe_cprop kB.ruling kB.cls (hr.mono (by decide)) (pv 0)) pa_nil)))))))), ?_⟩
  refine ⟨_, rfl, _, rfl, N, o, xs, f, rl, nm, rfl, hB, hk, eu, fun hno => ⟨fun e => (h hno).1 e, fun b v H1 hx s1 hb => ?_⟩⟩
  have q := (h hno).2 (by rw [hx]; exact fun z => nomatch z)
  obtain ⟨n0, hf0, hn0⟩ := RF.find_some hno
  obtain ⟨b1, b2, b3, b4⟩ := RF.nxt_part hx hk.ev
  obtain ⟨f1, f2, f3, f4⟩ := RF.find_part hf0 hk.ev
  obtain ⟨o1, o2, o3, o4⟩ := hk.out (nm := b.nm)
  have hdep := hk.dep
  have hsz := hk.size
  have hB1 := hB.keeps (N := N) s1.keeps
  obtain ⟨ob, rfl, hNb⟩ := hb
  have hb : RefAt K C R N H1 (.ref ob) b := ⟨ob, rfl, hNb⟩
  obtain ⟨dxb, cb, pb, lb, wsb, hob, _⟩ := id hNb
  obtain ⟨dx, a, p, l, ws, us, ho, hS, hP, hF, ⟨nl, hl⟩, hus⟩ := id hB1
  refine ⟨_, rfl, o, dx, _, rfl, ho, o, dx, _, _, rfl, ho, rfl, _, rfl, ob, dxb, _, rfl, hob, ob, dxb, _, _, rfl, hob, rfl, Nat.zero_le _, fun t0 n0' => ?_⟩
  have s2 : Same H1 (upd H1 t0 (.tup [])) := (Same.refl H1).put n0'
  have e2 : (upd H1 t0 (.tup [])) t0 = some (.tup []) := upd_same
  generalize upd H1 t0 (.tup []) = H2 at s2 e2 ⊢
  have e00 : (RF.ofNodes []).dep = 0 ∧ (RF.ofNodes []).size = 0 := ⟨rfl, rfl⟩
  refine ⟨N, p, t0, b.nm, ws, [], f, [], rfl, s2.tup hP, hF.keeps s2.keeps, sqT_of e2, .nil, (fun l nl => fr l ((s1.trans s2).free nl)), hk.nd, by omega, by omega, by omega, hk.ev, fun H3 p3 rs3 s3 hp3 hF3 => ?_⟩
  have s03 := (s1.trans s2).trans s3
  have hB3 := hB.keeps (N := N) s03.keeps
  have hb3 := hb.keeps (N := N) (s2.trans s3).keeps
  have ho3 := (s2.trans s3) _ _ ho
  clear hB hB1
  refine ⟨_, rfl, o, dx, _, rfl, ho3, o, dx, _, _, rfl, ho3, rfl, _, rfl, _, rfl, _, rfl, _, rfl, _, rfl, o, dx, _, rfl, ho3, N, o, xs, f, rl, nm, rfl, hB3, by omega, (fun n v hn hv => ?_), fun z => by rw [hf0] at z; cases z⟩
  rw [hf0] at hn
  cases hn
  refine ⟨(by show 2 ≤ sizeLine; decide), fun t4 n4 => ?_⟩
  have s4 : Same H3 (upd H3 t4 (.tup [.ref ob, v])) := (Same.refl H3).put n4
  have e4 : (upd H3 t4 (.tup [.ref ob, v])) t4 = some (.tup [.ref ob, v]) := upd_same
  generalize upd H3 t4 (.tup [.ref ob, v]) = H4 at s4 e4 ⊢
  have hds : (RF.ofNodes [b, n0]).dep ≤ 6 ∧ (RF.ofNodes [b, n0]).size ≤ 200 := by
    show max (b.exc.dep + 1) (max (n0.exc.dep + 1) 0) ≤ 6 ∧ b.exc.size + 1 + (n0.exc.size + 1 + 0) ≤ 200
    omega
  have s04 := s03.trans s4
  refine ⟨N, p3, t4, nm, rs3, [.ref ob, v], _, [b, n0], rfl, s4.tup hp3, hF3.keeps s4.keeps, sqT_of e4, .cons (hb3.keeps s4.keeps) (.cons (hv.keeps s4.keeps) .nil), (fun l nl => fr l (s04.free nl)), o1, by omega, by omega, by omega, o4, fun H5 p5 rs5 s5 hp5 hF5 => ?_⟩
  have hz5 := RF.repl_size (nm := nm) (os := [b, n0]) o1
  have hd5 := RF.repl_dep (nm := nm) (os := [b, n0]) o1
  have hev5 : (RF.repl nm [b, n0] (RF.repl b.nm [] f)).every NdOk := by
    rw [RF.repl_upd o1]
    refine RF.upd_every (fun n e hn => hn.wE) (fun n rest _ _ h3 => RF.put_every (fun m hm => ?_) h3) o4
    rcases List.mem_cons.mp hm with rfl | hm
    · exact ⟨b1, b2⟩
    · rw [List.mem_singleton.mp hm]
      exact ⟨f1, f2⟩
  have e5 : RF.repl nm [b, n0] (RF.repl b.nm [] f) = RF.upd nm Op.swap.G f := by
    rw [RF.repl_upd o1, RF.repl_upd hk.nd]
    exact RF.swap_two hk.nd hno hx hf0
  rw [e5] at hF5 hz5 hd5 hev5
  have s05 := s04.trans s5
  have ho5 := (s4.trans s5) _ _ ho3
  refine ⟨_, rfl, o, dx, _, rfl, ho5, o, dx, _, _, rfl, ho5, rfl, fun x dx2 nx ndx nex => ?_⟩
  exact book_of nx ndx nex (fun l nl => fr l (s05.free nl)) ((s2.trans (s3.trans (s4.trans s5))).tup hS) hk.tS hk.lS hk.hb hp5 hF5 (by omega) (by omega) (fit_of hev5) hk.hrl (q.same s05)
def sp_sub (K : PySem.W.Frag) (C R B CB CU : Addr) : Sp := fun vs H Q E => ∃ (N : Addr → Prop) (o : Addr) (xs : List Str) (f : RF) (rl nm : Str), vs = [.ref o, .str nm] ∧ BookAt K C R B N H o xs f rl ∧ BkOk xs f rl ∧ (∀ l, H l = none → N l) ∧
  (¬ nm ∈ f.names → ∀ H', Same H H' → E (.ref CU) none H') ∧ (nm ∈ f.names → Out K C R B CB N xs (RF.upd nm Op.strike.G f) rl H Q E)
theorem ok_sub {f : Addr} {fd : FuncData} (F : Fun K "__sub__" "Book.__sub__" s_Book___sub__ f fd) (Bl : Blt mg) (T : Cls K B) (n1 : NoAttr K B "_facts") (n2 : NoAttr K B "_rules") (n3 : NoAttr K B "_ruling") (k_Book : Mkr P w K mg base 17 "Book" B ["self", "facts", "rules", "ruling"] (sp_book_init K C R B CF CB))
    (mCon : MethO P w K mg base CX0 3 B "__contains__" ["self", "name"] (sp_contains K C R B)) (c_replaced : Cal P w K mg base CX0 30 "replaced" ["rules", "name", "others"] (sp_replaced K C R 12)) (e_UnknownRule : ErrMk0 K mg "UnknownRule" CU) :
    FnOk P w K mg base (L2.CX P w) 32 f fd ["self", "name"] (sp_sub K C R B CB CU) := by
  refine F.okX sc_Book___sub__ (fun vs H Q E h => by obtain ⟨N, o, xs, f, rl, nm, rfl, _⟩ := h; rfl) (fun cdv A outer s H vs Q E hr h => ?_)
  obtain ⟨N, o, xs, f, rl, nm, rfl, hB, hk, fr, eu, q⟩ := h
  refine ⟨_, (pss_cons (ps_if (pt_cmpR (op_ninM mCon (hr.mono (by decide))) (pv 1) (pv 0) rfl) (pss_one (ps_raise rfl (takes_of rfl rfl rfl rfl) (pmk_err0 e_UnknownRule))) pss_nil)
      (pss_one (ps_ret (pe_mkX k_Book (hr.mono (by decide)) (takes_of rfl rfl rfl rfl) (pa_cons (pe_fld (pv 0) rfl) (pa_cons (pe_cal c_replaced (hr.mono (by decide)) (pa_cons (pe_fld (pv 0) rfl) (pa_cons (pv 1) (pa_cons (pe_tup pa_nil) pa_nil)))) (pa_cons (pe_fld (pv 0) rfl) pa_nil))))))), ?_⟩
  have hdep := hk.dep
  have hsz := hk.size
  obtain ⟨dx, a, p, l, ws, us, ho, hS, hP, hF, ⟨nl, hl⟩, hus⟩ := id hB
  refine ⟨_, rfl, _, rfl, o, dx, _, rfl, ho, N, o, xs, f, rl, nm, rfl, hB, by omega, fun H1 s1 => ⟨_, rfl, _, rfl, ?_⟩⟩
  rw [if_pos rfl]
  by_cases hno : nm ∈ f.names
  · rw [decide_eq_true hno]
    have q := q hno
    have ho1 := s1 _ _ ho
    obtain ⟨o1, o2, o3, o4⟩ := hk.out (nm := nm)
    refine iteF ?_
    refine ⟨_, rfl, o, B, dx, _, _, rfl, ho1, T, n1, rfl, _, rfl, o, B, dx, _, _, rfl, ho1, T, n2, rfl, _, rfl, Nat.zero_le _, fun t0 n0' => ?_⟩
    have s2 : Same H1 (upd H1 t0 (.tup [])) := (Same.refl H1).put n0'
    have e2 : (upd H1 t0 (.tup [])) t0 = some (.tup []) := upd_same
    generalize upd H1 t0 (.tup []) = H2 at s2 e2 ⊢
    have s02 := s1.trans s2
    have e00 : (RF.ofNodes []).dep = 0 ∧ (RF.ofNodes []).size = 0 := ⟨rfl, rfl⟩
    refine ⟨N, p, t0, nm, ws, [], f, [], rfl, s02.tup hP, hF.keeps s02.keeps, sqT_of e2, .nil, (fun l nl => fr l (s02.free nl)), hk.nd, by omega, by omega, by omega, hk.ev, fun H3 p3 rs3 s3 hp3 hF3 => ?_⟩
    have s03 := s02.trans s3
    have e5 : RF.repl nm [] f = RF.upd nm Op.strike.G f := RF.repl_upd hk.nd
    rw [e5] at hF3 o2 o3 o4
    have ho3 := s03 _ _ ho
    refine ⟨_, rfl, o, B, dx, _, _, rfl, ho3, T, n3, rfl, fun x dx2 nx ndx nex => ?_⟩
    exact book_of nx ndx nex (fun l nl => fr l (s03.free nl)) (s03.tup hS) hk.tS hk.lS hk.hb hp3 hF3 (by omega) (by omega) (fit_of o4) hk.hrl (q.same s03)
  · rw [decide_eq_false hno]
    exact iteT (eu hno H1 s1)
/-- what stands in an amendment of a rule -/
def OpV (K : PySem.W.Frag) (C R : Addr) (N : Addr → Prop) (H : Hp) (word : Str) (new : V) : Op → Prop
  | .before m => word = "before" ∧ RefAt K C R N H new m
  | .add m => word = "add" ∧ RefAt K C R N H new m
  | .ruling z => word = "ruling" ∧ new = .str z
  | .cond hs gs => word = "condition" ∧ ∃ c, new = .ref c ∧ CondAt K C H c hs gs
  | _ => False
/-- a right amendment of a rule -/
def Op.Okk : Op → Prop
  | .before m => NdOk m ∧ m.exc.every NdOk ∧ m.exc.dep ≤ 5 ∧ m.exc.size ≤ 60
  | .add m => NdOk m ∧ m.exc.every NdOk ∧ m.exc.dep ≤ 5 ∧ m.exc.size ≤ 60
  | .ruling z => isName z = true
  | .cond hs gs => firstWrong hs [] = none ∧ firstWrong gs hs = none
  | _ => True
theorem OpV.keeps {N : Addr → Prop} {H H' : Hp} {word : Str} {new : V} {op : Op} (k : Keeps N H H') (h : OpV K C R N H word new op) : OpV K C R N H' word new op := by
  cases op with
  | before m => exact ⟨h.1, h.2.keeps k⟩
  | add m => exact ⟨h.1, h.2.keeps k⟩
  | ruling z => exact h
  | cond hs gs => obtain ⟨h1, c, e, h2⟩ := h; exact ⟨h1, c, e, h2.keeps k⟩
  | _ => exact h
def sp_arule (K : PySem.W.Frag) (C R : Addr) : Sp := fun vs H Q _ => ∃ (N : Addr → Prop) (o : Addr) (word : Str) (new : V) (n : Nd) (op : Op), vs = [.ref o, .str word, new] ∧ NdAt K C R N H o n ∧ OpV K C R N H word new op ∧ op.Okk ∧ NdOk n ∧ n.exc.every NdOk ∧ n.exc.dep ≤ 6 ∧ n.exc.size ≤ 100 ∧ (∀ l, H l = none → N l) ∧
  ∀ H' t us, Same H H' → H' t = some (.tup us) → All2 (RefAt K C R N H') us (op.news n) → Q (.ref t) H'
theorem rule_of {N : Addr → Prop} {H4 : Hp} {x dx c p : Addr} {nm rl : Str} {ws : List V} {exc : RF} {hs gs : List Str} {Q : VK} {E : XK} (nx : H4 x = none) (ndx : H4 dx = none) (nex : dx ≠ x) (fr : ∀ l, H4 l = none → N l) (hc : CondAt K C H4 c hs gs) (hP : SqT K H4 p ws) (hF : ForAt K C R N H4 exc ws)
    (hn : isName nm = true) (hrl : isName rl = true) (hd : exc.dep ≤ 12) (hz : exc.size ≤ 900) (q : ∀ H', Same H4 H' → NdAt K C R N H' x ⟨nm, hs, gs, rl, exc⟩ → Q .non H') :
    sp_rule_init K C R CR [.ref x, .str nm, .ref c, .str rl, .ref p] (upd (upd H4 dx (.own x)) x (.ins R dx [])) Q E := by
  have s5 : Same H4 (upd (upd H4 dx (.own x)) x (.ins R dx [])) := ((Same.refl H4).put ndx).put nx
  have l1 := name_len hn
  have l2 := name_len hrl
  refine ⟨N, x, dx, c, p, nm, rl, ws, exc, rfl, upd_same, s5.tup hP, hF.keeps s5.keeps, by omega, by omega, hd, hz, (fun e => by rw [hn] at e; cases e), fun _ => ⟨(fun e => by rw [hrl] at e; cases e), fun _ H8 l sX8 hx8 nelx nl el => ?_⟩⟩
  have s8 : Same H4 H8 := fun b' o' h => sX8 b' o' (fun e => by rw [e, nx] at h; cases h) (s5 _ _ h)
  exact q H8 s8 ⟨dx, c, p, l, ws, hx8, hc.keeps (N := NoL) s8.keeps, s8.tup hP, ⟨fr l (s5.free nl), el⟩, hF.keeps s8.keeps⟩
theorem ok_arule {f : Addr} {fd : FuncData} (F : Fun K "amended_rule" "amended_rule" s_amended_rule f fd) (Bl : Blt mg) (kR : RuleX P w K mg base R) (k_Rule : Mkr P w K mg base 16 "Rule" R ["self", "name", "condition", "ruling", "exceptions"] (sp_rule_init K C R CR)) :
    FnOk P w K mg base CX0 18 f fd ["rule", "word", "new"] (sp_arule K C R) := by
  refine F.ok sc_amended_rule (fun vs H Q E h => by obtain ⟨N, o, word, new, n, op, rfl, _⟩ := h; rfl) (fun cdv A outer s H vs Q E hr h => ?_)
  obtain ⟨N, o, word, new, n, op, rfl, hN, hop, hok, hn, hne, hd, hz, fr, q⟩ := h
  obtain ⟨dx, c, pe, l, ws, ho, hc, hpe, hl, hfe⟩ := id hN
  have hR : RefAt K C R N H (.ref o) n := ⟨o, rfl, hN⟩
  refine ⟨_, (pss_cons (ps_if (pt_cmpR op_eq (pv 1) pe_str (nomark _)) (pss_one (ps_ret (pe_tup (pa_cons (pv 2) (pa_cons (pv 0) pa_nil))))) pss_nil)
      (pss_cons (ps_if (pt_cmpR op_eq (pv 1) pe_str (nomark _)) (pss_one (ps_ret (pe_tup (pa_cons (pe_mkN k_Rule (hr.mono (by decide)) (pa_cons (pe_cprop kR.name kR.cls (hr.mono (by decide)) (pv 0)) (pa_cons (pe_cprop kR.condition kR.cls (hr.mono (by decide)) (pv 0)) (pa_cons (pv 2) (pa_cons (pe_cprop kR.exceptions kR.cls (hr.mono (by decide)) (pv 0)) pa_nil))))) pa_nil)))) pss_nil)
      (pss_cons (ps_if (pt_cmpR op_eq (pv 1) pe_str (nomark _)) (pss_one (ps_ret (pe_tup (pa_cons (pe_mkN k_Rule (hr.mono (by decide)) (pa_cons (pe_cprop kR.name kR.cls (hr.mono (by decide)) (pv 0)) (pa_cons (pv 2) (pa_cons (pe_cprop kR.ruling kR.cls (hr.mono (by decide)) (pv 0)) (pa_cons (pe_cprop kR.exceptions kR.cls (hr.mono (by decide)) (pv 0)) pa_nil))))) pa_nil)))) pss_nil)
      (pss_one (ps_ret (pe_tup (pa_cons (pe_mkN k_Rule (hr.mono (by decide)) (pa_cons (pe_cprop kR.name kR.cls (hr.mono (by decide)) (pv 0)) (pa_cons (pe_cprop kR.condition kR.cls (hr.mono (by decide)) (pv 0)) (pa_cons (pe_cprop kR.ruling kR.cls (hr.mono (by decide)) (pv 0)) (pa_cons (pe_op op_catA (pe_cprop kR.exceptions kR.cls (hr.mono (by decide)) (pv 0)) (pe_tup (pa_cons (pv 2) pa_nil))) pa_nil))))) pa_nil))))))), ?_⟩
  cases op with
  | strike => exact hop.elim
  | swap => exact hop.elim
  | before m =>
    obtain ⟨rfl, hm⟩ := hop
    refine ⟨_, rfl, rfl, _, rfl, iteT ?_⟩
    refine ⟨_, rfl, _, rfl, (by show 2 ≤ sizeLine; decide), fun t nt => ?_⟩
    have s1 : Same H (upd H t (.tup [new, .ref o])) := (Same.refl H).put nt
    exact q _ t _ s1 upd_same (.cons (hm.keeps s1.keeps) (.cons (hR.keeps s1.keeps) .nil))
  | ruling z =>
    obtain ⟨rfl, rfl⟩ := hop
    refine ⟨_, rfl, rfl, _, rfl, iteF ⟨_, rfl, rfl, _, rfl, iteT ?_⟩⟩
    refine ⟨_, rfl, o, dx, _, rfl, ho, o, dx, _, _, rfl, ho, rfl, _, rfl, o, dx, _, rfl, ho, o, dx, _, _, rfl, ho, rfl, _, rfl, _, rfl, o, dx, _, rfl, ho, o, dx, _, _, rfl, ho, rfl, fun x dx2 nx ndx nex => ?_⟩
    refine rule_of nx ndx nex fr hc hpe hfe hn.nm hok (by omega) (by omega) fun H5 s5 h5 => ?_
    refine ⟨rfl, (by show 1 ≤ sizeLine; decide), fun t nt => ?_⟩
    have s6 : Same H5 (upd H5 t (.tup [.ref x])) := (Same.refl H5).put nt
    exact q _ t _ (s5.trans s6) upd_same (.one ⟨x, rfl, h5.keeps s6.keeps⟩)
  | cond hs gs =>
    obtain ⟨rfl, cn, rfl, hcn⟩ := hop
    refine ⟨_, rfl, rfl, _, rfl, iteF ⟨_, rfl, rfl, _, rfl, iteF ⟨_, rfl, rfl, _, rfl, iteT ?_⟩⟩⟩
    refine ⟨_, rfl, o, dx, _, rfl, ho, o, dx, _, _, rfl, ho, rfl, _, rfl, _, rfl, o, dx, _, rfl, ho, o, dx, _, _, rfl, ho, rfl, _, rfl, o, dx, _, rfl, ho, o, dx, _, _, rfl, ho, rfl, fun x dx2 nx ndx nex => ?_⟩
    refine rule_of nx ndx nex fr hcn hpe hfe hn.nm hn.rl (by omega) (by omega) fun H5 s5 h5 => ?_
    refine ⟨rfl, (by show 1 ≤ sizeLine; decide), fun t nt => ?_⟩
    have s6 : Same H5 (upd H5 t (.tup [.ref x])) := (Same.refl H5).put nt
    exact q _ t _ (s5.trans s6) upd_same (.one ⟨x, rfl, h5.keeps s6.keeps⟩)
  | add m =>
    obtain ⟨rfl, hm⟩ := hop
    obtain ⟨m1, m2, m3, m4⟩ := hok
    refine ⟨_, rfl, rfl, _, rfl, iteF ⟨_, rfl, rfl, _, rfl, iteF ⟨_, rfl, rfl, _, rfl, iteF ?_⟩⟩⟩
    refine ⟨_, rfl, o, dx, _, rfl, ho, o, dx, _, _, rfl, ho, rfl, _, rfl, o, dx, _, rfl, ho, o, dx, _, _, rfl, ho, rfl, _, rfl, o, dx, _, rfl, ho, o, dx, _, _, rfl, ho, rfl, _, rfl, o, dx, _, rfl, ho, o, dx, _, _, rfl, ho, rfl, _, rfl, (by show 1 ≤ sizeLine; decide), fun t nt => ?_⟩
    have s1 : Same H (upd H t (.tup [new])) := (Same.refl H).put nt
    have e1 : (upd H t (.tup [new])) t = some (.tup [new]) := upd_same
    generalize upd H t (.tup [new]) = H1 at s1 e1 ⊢
    have hln := hfe.len
    have hnl := RF.nodes_le n.exc
    refine cat_any (s1.tup hpe) (sqT_of e1) (by rw [hln, sizeLine_eq]; show _ + 1 ≤ _; omega) fun p2 H2 s2 hp2 => ?_
    have s02 := s1.trans s2
    intro x dx2 nx ndx nex
    have hF2 : ForAt K C R N H2 (n.exc.snoc m) (ws ++ [new]) := ForAt.of (by rw [RF.snoc_nodes]; exact (hfe.keeps s02.keeps).all.snoc (hm.keeps s02.keeps))
    have hzs := RF.snoc_size n.exc m
    have hds := RF.snoc_dep n.exc m
    refine rule_of nx ndx nex (fun l nl => fr l (s02.free nl)) (hc.keeps (N := NoL) s02.keeps) hp2 hF2 hn.nm hn.rl (by omega) (by omega) fun H5 s5 h5 => ?_
    refine ⟨rfl, (by show 1 ≤ sizeLine; decide), fun t nt => ?_⟩
    have s6 : Same H5 (upd H5 t (.tup [.ref x])) := (Same.refl H5).put nt
    exact q _ t _ ((s02.trans s5).trans s6) upd_same (.one ⟨x, rfl, h5.keeps s6.keeps⟩)
/-! ### amendments as data -/
inductive Am where
  | rul0 (z : Str)
  | add0 (m : Nd)
  | rule (nm : Str) (op : Op)
def Am.Okk : Am → Prop
  | .rul0 z => isName z = true
  | .add0 m => (Op.add m).Okk
  | .rule nm op => isName nm = true ∧ op.Okk
/-- a tuple with a rule or a condition -/
def RealAt (K : PySem.W.Frag) (C R : Addr) (N : Addr → Prop) (H : Hp) (v : V) : Am → Prop
  | .rul0 z => ∃ t, v = .ref t ∧ SqT K H t [.str "ruling", .non, .str z]
  | .add0 m => ∃ t r, v = .ref t ∧ SqT K H t [.str "add", .non, r] ∧ RefAt K C R N H r m
  | .rule nm .strike => ∃ t, v = .ref t ∧ SqT K H t [.str "strike", .str nm]
  | .rule nm .swap => ∃ t, v = .ref t ∧ SqT K H t [.str "swap", .str nm]
  | .rule nm op => ∃ t word new, v = .ref t ∧ SqT K H t [.str word, .str nm, new] ∧ OpV K C R N H word new op
def Am.aft (f : RF) (rl : Str) : Am → RF × Str
  | .rul0 z => (f, z)
  | .add0 m => (f.snoc m, rl)
  | .rule nm op => (RF.upd nm op.G f, rl)
/-- what comes of it -/
def AmOut (K : PySem.W.Frag) (C R B CB CU CN : Addr) (N : Addr → Prop) (xs : List Str) (f : RF) (rl : Str) (am : Am) (H : Hp) (Q : VK) (E : XK) : Prop :=
  match am with
  | .rule nm op => (¬ nm ∈ f.names → ∀ H', Same H H' → E (.ref CU) none H') ∧ (nm ∈ f.names → (op = .swap → RF.nxt nm f = none → ∀ H', Same H H' → E (.ref CN) none H') ∧ ((op = .swap → RF.nxt nm f ≠ none) → Out K C R B CB N xs (RF.upd nm op.G f) rl H Q E))
  | am => Out K C R B CB N xs (am.aft f rl).1 (am.aft f rl).2 H Q E
def sp_amended_book (K : PySem.W.Frag) (C R B CB : Addr) : Sp := fun vs H Q E => ∃ (N : Addr → Prop) (o : Addr) (xs : List Str) (f : RF) (rl word : Str) (new : V), vs = [.ref o, .str word, new] ∧ BookAt K C R B N H o xs f rl ∧ BkOk xs f rl ∧ (∀ l, H l = none → N l) ∧
  ((word = "ruling" ∧ ∃ z, new = .str z ∧ isName z = true ∧ Out K C R B CB N xs f z H Q E) ∨ (word = "add" ∧ ∃ m, RefAt K C R N H new m ∧ (Op.add m).Okk ∧ Out K C R B CB N xs (f.snoc m) rl H Q E))
theorem ok_amended_book {f : Addr} {fd : FuncData} (F : Fun K "amended_book" "amended_book" s_amended_book f fd) (Bl : Blt mg) (kB : BookX P w K mg base B) (k_Book : Mkr P w K mg base 17 "Book" B ["self", "facts", "rules", "ruling"] (sp_book_init K C R B CF CB)) :
    FnOk P w K mg base (L2.CX P w) 19 f fd ["book", "word", "new"] (sp_amended_book K C R B CB) := by
  refine F.okX sc_amended_book (fun vs H Q E h => by obtain ⟨N, o, xs, f, rl, word, new, rfl, _⟩ := h; rfl) (fun cdv A outer s H vs Q E hr h => ?_)
  obtain ⟨N, o, xs, f, rl, word, new, rfl, ⟨dx, a, p, l, ws, us, ho, hS, hP, hF, ⟨nl, hl⟩, hus⟩, hk, fr, h⟩ := h
  have hdep := hk.dep
  have hsz := hk.size
  refine ⟨_, (pss_cons (ps_if (pt_cmpR op_eq (pv 1) pe_str (nomark _)) (pss_one (ps_ret (pe_mkX k_Book (hr.mono (by decide)) (takes_of rfl rfl rfl rfl) (pa_cons (pe_cprop kB.facts kB.cls (hr.mono (by decide)) (pv 0)) (pa_cons (pe_cprop kB.rules kB.cls (hr.mono (by decide)) (pv 0)) (pa_cons (pv 2) pa_nil)))))) pss_nil)
      (pss_one (ps_ret (pe_mkX k_Book (hr.mono (by decide)) (takes_of rfl rfl rfl rfl) (pa_cons (pe_cprop kB.facts kB.cls (hr.mono (by decide)) (pv 0)) (pa_cons (pe_op op_catA (pe_cprop kB.rules kB.cls (hr.mono (by decide)) (pv 0)) (pe_tup (pa_cons (pv 2) pa_nil))) (pa_cons (pe_cprop kB.ruling kB.cls (hr.mono (by decide)) (pv 0)) pa_nil))))))), ?_⟩
  rcases h with ⟨rfl, z, rfl, hz1, q⟩ | ⟨rfl, m, hm, ⟨m1, m2, m3, m4⟩, q⟩
  · refine ⟨_, rfl, rfl, _, rfl, iteT ?_⟩
    refine ⟨_, rfl, o, dx, _, rfl, ho, o, dx, _, _, rfl, ho, rfl, _, rfl, o, dx, _, rfl, ho, o, dx, _, _, rfl, ho, rfl, _, rfl, fun x dx2 nx ndx nex => ?_⟩
    exact book_of nx ndx nex fr hS hk.tS hk.lS hk.hb hP hF (by omega) (by omega) (fit_of hk.ev) hz1 q
  · refine ⟨_, rfl, rfl, _, rfl, iteF ?_⟩
    refine ⟨_, rfl, o, dx, _, rfl, ho, o, dx, _, _, rfl, ho, rfl, _, rfl, o, dx, _, rfl, ho, o, dx, _, _, rfl, ho, rfl, _, rfl, (by show 1 ≤ sizeLine; decide), fun t nt => ?_⟩
    have s1 : Same H (upd H t (.tup [new])) := (Same.refl H).put nt
    have e1 : (upd H t (.tup [new])) t = some (.tup [new]) := upd_same
    generalize upd H t (.tup [new]) = H1 at s1 e1 ⊢
    have hln := hF.len
    have hnl := RF.nodes_le f
    refine cat_any (s1.tup hP) (sqT_of e1) (by rw [hln, sizeLine_eq]; show _ + 1 ≤ _; omega) fun p2 H2 s2 hp2 => ?_
    have s02 := s1.trans s2
    have ho2 := s02 _ _ ho
    refine ⟨_, rfl, o, dx, _, rfl, ho2, o, dx, _, _, rfl, ho2, rfl, fun x dx2 nx ndx nex => ?_⟩
    have hF2 : ForAt K C R N H2 (f.snoc m) (ws ++ [new]) := ForAt.of (by rw [RF.snoc_nodes]; exact (hF.keeps s02.keeps).all.snoc (hm.keeps s02.keeps))
    have hzs := RF.snoc_size f m
    have hds := RF.snoc_dep f m
    exact book_of nx ndx nex (fun l nl => fr l (s02.free nl)) (s02.tup hS) hk.tS hk.lS hk.hb hp2 hF2 (by omega) (by omega) (fit_of (RF.snoc_every hk.ev m1 m2)) hk.hrl (q.same s02)
def sp_amended (K : PySem.W.Frag) (C R B CB CU CN : Addr) : Sp := fun vs H Q E => ∃ (N : Addr → Prop) (o : Addr) (xs : List Str) (f : RF) (rl : Str) (v : V) (am : Am), vs = [.ref o, v] ∧ BookAt K C R B N H o xs f rl ∧ BkOk xs f rl ∧ (∀ l, H l = none → N l) ∧ RealAt K C R N H v am ∧ am.Okk ∧ AmOut K C R B CB CU CN N xs f rl am H Q E
/-- what stands in place of a rule is no deeper than the rule stood and what it holds -/
theorem RF.repl_dep1 {nm : Str} {os : List Nd} : ∀ {f : RF}, (RF.repl nm os f).dep ≤ max f.dep (f.dep - 1 + (RF.ofNodes os).dep)
  | .nil => Nat.zero_le _
  | .cons n hs fs rl exc rest => by
    have h2 := RF.repl_dep1 (nm := nm) (os := os) (f := rest)
    show (if n = nm then RF.put os (RF.repl nm os rest) else RF.cons n hs fs rl (RF.repl nm os exc) (RF.repl nm os rest)).dep ≤ max (max (exc.dep + 1) rest.dep) (max (exc.dep + 1) rest.dep - 1 + _)
    by_cases c : n = nm
    · rw [if_pos c, RF.put_dep]
      omega
    · rw [if_neg c]
      show max ((RF.repl nm os exc).dep + 1) (RF.repl nm os rest).dep ≤ _
      cases exc with
      | nil =>
        show max (0 + 1) (RF.repl nm os rest).dep ≤ max (max (0 + 1) rest.dep) (max (0 + 1) rest.dep - 1 + _)
        omega
      | cons a b c d e g =>
        have h1 := RF.repl_dep1 (nm := nm) (os := os) (f := .cons a b c d e g)
        have h3 : 1 ≤ (RF.cons a b c d e g).dep := by show 1 ≤ max (e.dep + 1) g.dep; omega
        omega
theorem news_dims {op : Op} {n : Nd} {f : RF} (h : op.Okk) (h1 : n.exc.dep + 1 ≤ 6) (h2 : n.exc.size + 1 ≤ 100) : (RF.ofNodes (op.news n)).dep ≤ 7 ∧ (RF.ofNodes (op.news n)).size ≤ 200 := by
  cases op with
  | strike => exact ⟨Nat.zero_le _, Nat.zero_le _⟩
  | swap => show max (n.exc.dep + 1) 0 ≤ 7 ∧ n.exc.size + 1 + 0 ≤ 200; omega
  | before m =>
    obtain ⟨_, _, m3, m4⟩ := h
    show max (m.exc.dep + 1) (max (n.exc.dep + 1) 0) ≤ 7 ∧ m.exc.size + 1 + (n.exc.size + 1 + 0) ≤ 200
    omega
  | add m =>
    obtain ⟨_, _, m3, m4⟩ := h
    have a1 := RF.snoc_dep n.exc m
    have a2 := RF.snoc_size n.exc m
    show max ((n.exc.snoc m).dep + 1) 0 ≤ 7 ∧ (n.exc.snoc m).size + 1 + 0 ≤ 200
    omega
  | ruling z => show max (n.exc.dep + 1) 0 ≤ 7 ∧ n.exc.size + 1 + 0 ≤ 200; omega
  | cond hs gs => show max (n.exc.dep + 1) 0 ≤ 7 ∧ n.exc.size + 1 + 0 ≤ 200; omega
theorem news_every {op : Op} {n : Nd} (h : op.Okk) (h1 : NdOk n) (h2 : n.exc.every NdOk) : ∀ m ∈ op.news n, NdOk m ∧ m.exc.every NdOk := by
  intro x hx
  cases op with
  | strike => exact nomatch hx
  | swap => rw [List.mem_singleton.mp hx]; exact ⟨h1, h2⟩
  | before m =>
    rcases List.mem_cons.mp hx with rfl | hx
    · exact ⟨h.1, h.2.1⟩
    · rw [List.mem_singleton.mp hx]; exact ⟨h1, h2⟩
  | add m => rw [List.mem_singleton.mp hx]; exact ⟨h1.wE, RF.snoc_every h2 h.1 h.2.1⟩
  | ruling z => rw [List.mem_singleton.mp hx]; exact ⟨⟨h1.nm, h, h1.c1, h1.c2⟩, h2⟩
  | cond hs gs => rw [List.mem_singleton.mp hx]; exact ⟨⟨h1.nm, h1.rl, h.1, h.2⟩, h2⟩
theorem opV_kind {N : Addr → Prop} {H : Hp} {word nm : Str} {new : V} {op : Op} (h : OpV K C R N H word new op) (hok : op.Okk) (hn : isName nm = true) : ∃ kn, ItAt C R H new kn ∧ isAm [.str word, .str nm, kn] = true ∧ word ≠ "strike" ∧ word ≠ "swap" ∧ op ≠ .swap := by
  have h2 : ∀ {x : Str} {k : IK}, ¬ x ∈ w1s → x ∈ w2s → isNewK x k = true → isAm [.str x, .str nm, k] = true := fun {x k} a b c => by
    rw [isAm2 a b]
    show ((isName nm || _) && isNewK x k) = true
    rw [hn, c]
    rfl
  cases op with
  | strike => exact h.elim
  | swap => exact h.elim
  | before m =>
    obtain ⟨rfl, o, rfl, dx, c, p, l, ws, ho, _⟩ := h
    exact ⟨.rule, ⟨o, dx, _, rfl, ho⟩, h2 (by decide) (by decide) (by decide +kernel), by decide, by decide, fun z => nomatch z⟩
  | add m =>
    obtain ⟨rfl, o, rfl, dx, c, p, l, ws, ho, _⟩ := h
    exact ⟨.rule, ⟨o, dx, _, rfl, ho⟩, h2 (by decide) (by decide) (by decide +kernel), by decide, by decide, fun z => nomatch z⟩
  | ruling z =>
    obtain ⟨rfl, rfl⟩ := h
    exact ⟨.str z, ⟨rfl, Nat.le_trans (name_len hok) (by decide)⟩, h2 (by decide) (by decide) (by unfold isNewK; rw [if_pos rfl]; exact hok), by decide, by decide, fun z => nomatch z⟩
  | cond hs gs =>
    obtain ⟨rfl, c, rfl, hc⟩ := h
    obtain ⟨dx, a, b, n, zs, h1, _⟩ := hc.at_
    exact ⟨.cond, ⟨c, dx, _, rfl, h1⟩, h2 (by decide) (by decide) (by decide +kernel), by decide, by decide, fun z => nomatch z⟩
theorem ok_amended {f : Addr} {fd : FuncData} (F : Fun K "amended" "amended" s_amended f fd) (Bl : Blt mg) (kB : BookX P w K mg base B) (k_Book : Mkr P w K mg base 17 "Book" B ["self", "facts", "rules", "ruling"] (sp_book_init K C R B CF CB))
    (mIt : MethO P w K mg base (L2.CX P w) 3 B "__getitem__" ["self", "name"] (sp_getitem K C R B CU)) (mSub : MethO P w K mg base (L2.CX P w) 32 B "__sub__" ["self", "name"] (sp_sub K C R B CB CU)) (bT : BinT K B .Sub)
    (c_replaced : Cal P w K mg base CX0 30 "replaced" ["rules", "name", "others"] (sp_replaced K C R 12)) (c_amended_rule : Cal P w K mg base CX0 18 "amended_rule" ["rule", "word", "new"] (sp_arule K C R)) (c_swapped : Cal P w K mg base (L2.CX P w) 32 "swapped" ["book", "name"] (sp_swapped K C R B CB CU CN))
    (c_amended_book : Cal P w K mg base (L2.CX P w) 19 "amended_book" ["book", "word", "new"] (sp_amended_book K C R B CB)) (c_is_amendment : Cal P w K mg base CX0 3 "is_amendment" ["value"] (sp_is_amendment K C R)) (e_InvalidAmendment : ErrMk0 K mg "InvalidAmendment" CA) :
    FnOk P w K mg base (L2.CX P w) 34 f fd ["book", "amendment"] (sp_amended K C R B CB CU CN) := by
  refine F.okX sc_amended (fun vs H Q E h => by obtain ⟨N, o, xs, f, rl, v, am, rfl, _⟩ := h; rfl) (fun cdv A outer s H vs Q E hr h => ?_)
  obtain ⟨N, o, xs, f, rl, v, am, rfl, hB, hk, fr, hv, hok, h⟩ := h
  have hdep := hk.dep
  have hsz := hk.size
  refine ⟨_, (pss_cons (ps_if (pt_not (pt_val (pe_cal c_is_amendment (hr.mono (by decide)) (pa_cons (pv 1) pa_nil)))) (pss_one (ps_raise rfl (takes_of rfl rfl rfl rfl) (pmk_err0 e_InvalidAmendment))) pss_nil)
      (pss_cons (ps_set (i := 2) sc_amended.nd rfl (Or.inl rfl) (pe_ix ix_tup (pv 1) pe_int (fun _ _ => rfl)))
      (pss_cons (ps_set (i := 3) sc_amended.nd rfl (Or.inl rfl) (pe_ix ix_tup (pv 1) pe_int (fun _ _ => rfl)))
      (pss_cons (ps_if (pt_cmpR op_isN (pv 3) pe_non (nomark _)) (pss_one (ps_ret (pe_calX c_amended_book (hr.mono (by decide)) (takes_of rfl rfl rfl rfl) (pa_cons (pv 0) (pa_cons (pv 2) (pa_cons (pe_ix ix_tup (pv 1) pe_int (fun _ _ => rfl)) pa_nil)))))) pss_nil)
      (pss_cons (ps_if (pt_cmpR op_eq (pv 2) pe_str (nomark _)) (pss_one (ps_ret (pe_op (op_subM mSub bT rfl (hr.mono (by decide)) (takes_of rfl rfl rfl rfl)) (pv 0) (pv 3)))) pss_nil)
      (pss_cons (ps_if (pt_cmpR op_eq (pv 2) pe_str (nomark _)) (pss_one (ps_ret (pe_calX c_swapped (hr.mono (by decide)) (takes_of rfl rfl rfl rfl) (pa_cons (pv 0) (pa_cons (pv 3) pa_nil))))) pss_nil)
      (pss_cons (ps_set (i := 4) sc_amended.nd rfl (Or.inl rfl) (pe_cal c_amended_rule (hr.mono (by decide)) (pa_cons (pe_ixM mIt (hr.mono (by decide)) (takes_of rfl rfl rfl rfl) (pv 0) (pv 3) (fun _ _ => rfl)) (pa_cons (pv 2) (pa_cons (pe_ix ix_tup (pv 1) pe_int (fun _ _ => rfl)) pa_nil)))))
      (pss_one (ps_ret (pe_mkX k_Book (hr.mono (by decide)) (takes_of rfl rfl rfl rfl) (pa_cons (pe_cprop kB.facts kB.cls (hr.mono (by decide)) (pv 0)) (pa_cons (pe_cal c_replaced (hr.mono (by decide)) (pa_cons (pe_cprop kB.rules kB.cls (hr.mono (by decide)) (pv 0)) (pa_cons (pv 3) (pa_cons (pv 4) pa_nil)))) (pa_cons (pe_cprop kB.ruling kB.cls (hr.mono (by decide)) (pv 0)) pa_nil))))))))))))), ?_⟩
  have hh : ∀ {x : Str} {r : List IK}, ∀ k ∈ (IK.str x :: r).head?, k ≠ .cond ∧ k ≠ .rule := fun k hk => by cases hk; exact ⟨(fun z => nomatch z), (fun z => nomatch z)⟩
  have nml : ∀ {x : Str}, isName x = true → x.length ≤ sizeLine := fun h => Nat.le_trans (name_len h) (by decide)
  cases am with
  | rul0 z =>
    obtain ⟨t, rfl, ht⟩ := hv
    have hz : isName z = true := hok
    refine ⟨_, rfl, _, rfl, .inr ⟨t, _, [.str "ruling", .non, .str z], rfl, ht, .cons ⟨rfl, by decide⟩ (.cons (show ItAt C R _ .non .non from rfl) (.cons ⟨rfl, nml hz⟩ .nil)), hh, fun H1 s1 => ⟨_, rfl, ?_⟩⟩⟩
    rw [show isAm [.str "ruling", .non, .str z] = true by rw [isAm2 (by decide) (by decide)]; show (_ && isNewK _ (.str z)) = true; rw [show isNewK "ruling" (.str z) = true by unfold isNewK; rw [if_pos rfl]; exact hz]; decide +kernel]
    refine iteF ?_
    have ht1 := s1.tup ht
    refine ⟨_, rfl, t, _, 0, _, rfl, rfl, ht1, atI_nat (j := 0) rfl, _, rfl, t, _, 1, _, rfl, rfl, ht1, atI_nat (j := 1) rfl, ?_⟩
    refine ⟨_, rfl, rfl, _, rfl, bcase (fun _ => ?_) (fun z => absurd rfl (of_decide_eq_false z))⟩
    exact ⟨_, rfl, _, rfl, _, rfl, t, _, 2, _, rfl, rfl, ht1, atI_nat (j := 2) rfl, N, o, xs, f, rl, _, _, rfl, hB.keeps s1.keeps, hk, (fun l nl => fr l (s1.free nl)), .inl ⟨rfl, z, rfl, hz, Out.same s1 h⟩⟩
  | add0 m =>
    obtain ⟨t, r, rfl, ht, hr0⟩ := hv
    obtain ⟨orr, rfl, hNr⟩ := id hr0
    obtain ⟨dxr, cr, pr, lr, wsr, hor, _⟩ := hNr
    refine ⟨_, rfl, _, rfl, .inr ⟨t, _, [.str "add", .non, .rule], rfl, ht, .cons ⟨rfl, by decide⟩ (.cons (show ItAt C R _ .non .non from rfl) (.cons ⟨orr, dxr, _, rfl, hor⟩ .nil)), hh, fun H1 s1 => ⟨_, rfl, ?_⟩⟩⟩
    rw [show isAm [.str "add", .non, .rule] = true by decide +kernel]
    refine iteF ?_
    have ht1 := s1.tup ht
    refine ⟨_, rfl, t, _, 0, _, rfl, rfl, ht1, atI_nat (j := 0) rfl, _, rfl, t, _, 1, _, rfl, rfl, ht1, atI_nat (j := 1) rfl, ?_⟩
    refine ⟨_, rfl, rfl, _, rfl, bcase (fun _ => ?_) (fun z => absurd rfl (of_decide_eq_false z))⟩
    exact ⟨_, rfl, _, rfl, _, rfl, t, _, 2, _, rfl, rfl, ht1, atI_nat (j := 2) rfl, N, o, xs, f, rl, _, _, rfl, hB.keeps s1.keeps, hk, (fun l nl => fr l (s1.free nl)), .inr ⟨rfl, m, hr0.keeps s1.keeps, hok, Out.same s1 h⟩⟩
  | rule nm op =>
    obtain ⟨hn, hok⟩ := hok
    obtain ⟨eu, q⟩ := h
    have hB0 := hB
    obtain ⟨dx, a6, p6, l6, ws6, us6, ho, hrest⟩ := id hB
    by_cases c1 : op = .strike
    · subst c1
      obtain ⟨t, rfl, ht⟩ := hv
      refine ⟨_, rfl, _, rfl, .inr ⟨t, _, [.str "strike", .str nm], rfl, ht, .cons ⟨rfl, by decide⟩ (.cons ⟨rfl, nml hn⟩ .nil), hh, fun H1 s1 => ⟨_, rfl, ?_⟩⟩⟩
      rw [show isAm [.str "strike", .str nm] = true by rw [isAm1 (by decide)]; exact hn]
      refine iteF ?_
      have ht1 := s1.tup ht
      refine ⟨_, rfl, t, _, 0, _, rfl, rfl, ht1, atI_nat (j := 0) rfl, _, rfl, t, _, 1, _, rfl, rfl, ht1, atI_nat (j := 1) rfl, ?_⟩
      refine ⟨_, rfl, rfl, _, rfl, bcase (fun z => nomatch (of_decide_eq_true z)) (fun _ => ?_)⟩
      refine ⟨_, rfl, rfl, _, rfl, iteT ?_⟩
      exact ⟨_, rfl, _, rfl, o, dx, _, nm, rfl, rfl, s1 _ _ ho, N, o, xs, f, rl, nm, rfl, hB.keeps s1.keeps, hk, (fun l nl => fr l (s1.free nl)), (fun hno H' s' => eu hno H' (s1.trans s')), fun hno => Out.same s1 ((q hno).2 (fun z => nomatch z))⟩
    by_cases c2 : op = .swap
    · subst c2
      obtain ⟨t, rfl, ht⟩ := hv
      refine ⟨_, rfl, _, rfl, .inr ⟨t, _, [.str "swap", .str nm], rfl, ht, .cons ⟨rfl, by decide⟩ (.cons ⟨rfl, nml hn⟩ .nil), hh, fun H1 s1 => ⟨_, rfl, ?_⟩⟩⟩
      rw [show isAm [.str "swap", .str nm] = true by rw [isAm1 (by decide)]; exact hn]
      refine iteF ?_
      have ht1 := s1.tup ht
      refine ⟨_, rfl, t, _, 0, _, rfl, rfl, ht1, atI_nat (j := 0) rfl, _, rfl, t, _, 1, _, rfl, rfl, ht1, atI_nat (j := 1) rfl, ?_⟩
      refine ⟨_, rfl, rfl, _, rfl, bcase (fun z => nomatch (of_decide_eq_true z)) (fun _ => ?_)⟩
      refine ⟨_, rfl, rfl, _, rfl, iteF ?_⟩
      refine ⟨_, rfl, rfl, _, rfl, iteT ?_⟩
      exact ⟨_, rfl, _, rfl, N, o, xs, f, rl, nm, rfl, hB.keeps s1.keeps, hk, (fun l nl => fr l (s1.free nl)), (fun hno H' s' => eu hno H' (s1.trans s')), fun hno => ⟨(fun e H' s' => (q hno).1 rfl e H' (s1.trans s')), fun e => Out.same s1 ((q hno).2 fun _ => e)⟩⟩
    obtain ⟨t, word, new, rfl, ht, hop⟩ : ∃ t word new, v = .ref t ∧ SqT K H t [.str word, .str nm, new] ∧ OpV K C R N H word new op := by
      cases op with
      | strike => exact absurd rfl c1
      | swap => exact absurd rfl c2
      | _ => exact hv
    obtain ⟨kn, hkn, ham, w1, w2, _⟩ := opV_kind hop hok hn
    have hwl : word.length ≤ sizeLine := by
      cases op with
      | strike => exact hop.elim
      | swap => exact hop.elim
      | _ => rw [hop.1]; decide
    refine ⟨_, rfl, _, rfl, .inr ⟨t, _, [.str word, .str nm, kn], rfl, ht, .cons ⟨rfl, hwl⟩ (.cons ⟨rfl, nml hn⟩ (.cons hkn .nil)), hh, fun H1 s1 => ⟨_, rfl, ?_⟩⟩⟩
    rw [ham]
    refine iteF ?_
    have ht1 := s1.tup ht
    have hB1 := hB.keeps (N := N) s1.keeps
    have ho1 := s1 _ _ ho
    refine ⟨_, rfl, t, _, 0, _, rfl, rfl, ht1, atI_nat (j := 0) rfl, _, rfl, t, _, 1, _, rfl, rfl, ht1, atI_nat (j := 1) rfl, ?_⟩
    refine ⟨_, rfl, rfl, _, rfl, bcase (fun z => nomatch (of_decide_eq_true z)) (fun _ => ?_)⟩
    refine ⟨_, rfl, rfl, _, rfl, bcase (fun z => absurd (V.str.inj (of_decide_eq_true z)) w1) (fun _ => ?_)⟩
    refine ⟨_, rfl, rfl, _, rfl, bcase (fun z => absurd (V.str.inj (of_decide_eq_true z)) w2) (fun _ => ?_)⟩
    refine ⟨_, rfl, _, rfl, o, dx, _, rfl, ho1, N, o, xs, f, rl, nm, rfl, hB1, by omega, (fun n0 v0 hf0 hv0 => ?_), fun e H' s' => ?_⟩
    · have hno : nm ∈ f.names := by
        by_cases c : nm ∈ f.names
        · exact c
        · rw [RF.find_none c] at hf0; cases hf0
      obtain ⟨f1, f2, f3, f4⟩ := RF.find_part hf0 hk.ev
      have q := (q hno).2 (fun z => absurd z c2)
      obtain ⟨o0, rfl, hN0⟩ := hv0
      have hnd := news_dims (n := n0) (f := f) hok (by omega) (by omega)
      refine ⟨_, rfl, _, rfl, t, _, 2, _, rfl, rfl, ht1, atI_nat (j := 2) rfl, N, o0, word, new, n0, op, rfl, hN0, hop.keeps s1.keeps, hok, f1, f2, by omega, by omega, (fun l nl => fr l (s1.free nl)), fun H2 t2 us2 s2 e2 hus2 => ?_⟩
      have s02 := s1.trans s2
      obtain ⟨dx', a, p, l, ws, us, ho', hS, hP, hF, ⟨nl, hl⟩, hus⟩ := hB.keeps (N := N) s02.keeps
      refine ⟨_, rfl, o, dx', _, rfl, ho', o, dx', _, _, rfl, ho', rfl, _, rfl, o, dx', _, rfl, ho', o, dx', _, _, rfl, ho', rfl, _, rfl, _, rfl, ?_⟩
      refine ⟨N, p, t2, nm, ws, us2, f, op.news n0, rfl, hP, hF, sqT_of e2, hus2, (fun l nl => fr l (s02.free nl)), hk.nd, by omega, by omega, by omega, hk.ev, fun H3 p3 rs3 s3 hp3 hF3 => ?_⟩
      have e5 : RF.repl nm (op.news n0) f = RF.upd nm op.G f := by
        rw [RF.repl_upd hk.nd]
        refine RF.upd_find ?_ hk.nd (fun _ => hf0)
        cases op with
        | swap => exact absurd rfl c2
        | _ => rfl
      have hz5 := RF.repl_size (nm := nm) (os := op.news n0) hk.nd
      have hd5 := RF.repl_dep1 (nm := nm) (os := op.news n0) (f := f)
      have hev5 : (RF.repl nm (op.news n0) f).every NdOk := by
        rw [RF.repl_upd hk.nd]
        exact RF.upd_every (fun n e hn => hn.wE) (fun n rest _ _ h3 => RF.put_every (news_every hok f1 f2) h3) hk.ev
      rw [e5] at hF3 hz5 hd5 hev5
      have s03 := s02.trans s3
      have ho3 := s3 _ _ ho'
      refine ⟨_, rfl, o, dx', _, rfl, ho3, o, dx', _, _, rfl, ho3, rfl, fun x dx2 nx ndx nex => ?_⟩
      exact book_of nx ndx nex (fun l nl => fr l (s03.free nl)) (s3.tup hS) hk.tS hk.lS hk.hb hp3 hF3 (by omega) (by omega) (fit_of hev5) hk.hrl (Out.same s03 q)
    · have hno : ¬ nm ∈ f.names := fun z => by
        obtain ⟨m, h1, _⟩ := RF.find_some z
        rw [h1] at e
        cases e
      exact eu hno H' (s1.trans s')
end
end Sc
namespace Sc
open PySem PySem.Spec PyProof.Rows L2
/-! ### the draws of the laws from k31 on -/
theorem sc__law_sides : FnScope ["_law_h", "_law_facts_here", "_law_most", "_law_rest", "_law_holding", "_law_failing", "_law_k", "_law_one"] ["_law_h", "_law_facts_here", "_law_most"] (defScope s__law_sides) := ⟨rfl, rfl, rfl, by decide +kernel, rfl, by decide +kernel, by decide +kernel⟩
def ten : List Str := ["crew", "debt", "fog", "gate", "late", "mail", "noon", "paid", "rain", "warm"]
theorem ten_right : Right ten := ⟨by decide +kernel, by decide +kernel⟩
section
variable {P : Program} {w : World} {K : PySem.W.Frag} {mg : Str → Option Value} {base : Heap}
def sp_facts : Sp := fun vs H Q _ => ∃ (a l : Addr) (m : Nat), vs = [.ref a, .int (m : Nat)] ∧ RS H a l ∧ 1 ≤ m ∧ m ≤ 10 ∧ ∀ H' p fs, Kp a l H H' → H' p = some (.tup (fs.map V.str)) → H p = none → List.Sublist fs ten → 1 ≤ fs.length → fs.length ≤ m → Q (.ref p) H'
theorem ok_facts {f : Addr} {fd : FuncData} (F : Fun K "_law_facts" "_law_facts" s__law_facts f fd) (B : Blt mg) (c__law_next : Cal P w K mg base CX0 1 "_law_next" ["_law_h", "_law_limit"] sp_next) : FnOk P w K mg base CX0 2 f fd ["_law_h", "_law_most"] sp_facts := by
  refine F.ok sc__law_facts (fun vs H Q E h => by obtain ⟨a, l, c, rfl, _⟩ := h; rfl) (fun cdv A outer s H vs Q E hr h => ?_)
  obtain ⟨a, l, c, rfl, hR, c0, c1, q⟩ := h
  refine ⟨_, (pss_cons (ps_set (i := 2) sc__law_facts.nd rfl (Or.inl rfl) (pe_lst (pa_cons pe_str (pa_cons pe_str (pa_cons pe_str (pa_cons pe_str (pa_cons pe_str (pa_cons pe_str (pa_cons pe_str (pa_cons pe_str (pa_cons pe_str (pa_cons pe_str pa_nil))))))))))))
      (pss_cons (ps_set (i := 3) sc__law_facts.nd rfl (Or.inl rfl) (pe_op op_add pe_int (pe_cal c__law_next (hr.mono (by decide)) (pa_cons (pv 0) (pa_cons (pv 1) pa_nil)))))
      (pss_cons (ps_while PassesOwn.never (pt_cmpR op_gt (pe_callB call_len_seq (by rfl) B.b_len PySem.boot_len (pa_cons (pv 2) pa_nil)) (pv 3) (nomark _)) (pss_one (ps_expr (pe_bm PySem.F.plainAttrs_list PySem.F.slot_list_pop PySem.F.type_list_pop mt_popAt (pv 2) (pa_cons (pe_cal c__law_next (hr.mono (by decide)) (pa_cons (pv 0) (pa_cons (pe_callB call_len_seq (by rfl) B.b_len PySem.boot_len (pa_cons (pv 2) pa_nil)) pa_nil))) pa_nil)))))
      (pss_one (ps_ret (pe_callTy call_tuple_of (by rfl) B.b_tuple PyProof.Rows.boot_tuple (pa_cons (pv 2) pa_nil))))))), ?_⟩
  refine ⟨(by show 10 ≤ sizeLine; decide), fun p np => ?_⟩
  obtain ⟨npa, npl⟩ := hR.no np
  have k0 := (Kp.refl hR).put (o := .lst (ten.map V.str)) np
  have e0 : (upd H p (.lst (ten.map V.str))) p = some (.lst (ten.map V.str)) := upd_same
  refine ⟨_, rfl, _, rfl, a, l, _, rfl, k0.new, by omega, small_lim (by omega) (by omega), fun H1 r k1 r0 r1 => ⟨1, r, rfl, rfl, ?_⟩⟩
  obtain ⟨m, rfl⟩ := Int.eq_ofNat_of_zero_le r0
  refine ⟨fun k σ H' => ∃ zs : List Str, k = zs.length ∧ σ = [some (.ref a), some (.int (c : Nat)), some (.ref p), some (.int (1 + (m : Nat)))] ∧ Kp a l H H' ∧ H' p = some (.lst (zs.map V.str)) ∧ List.Sublist zs ten ∧ m + 1 ≤ zs.length,
    ⟨_, ten, rfl, rfl, k0.trans k1, k1.keep p _ npa npl e0, List.Sublist.refl _, (by show m + 1 ≤ 10; omega)⟩, ?_⟩
  rintro k σ H1 ⟨zs, rfl, rfl, k1, e1, sb, hc⟩
  have hz : zs.length ≤ 10 := sb.length_le
  refine ⟨.ref p, rfl, p, _, rfl, .inl (sqL_of e1), _, rfl, _, _, rfl, rfl, _, rfl, bcase (fun t1 => ?_) (fun t1 => ?_)⟩
  · have t1 : 1 + (m : Int) < ((zs.map V.str).length : Int) := of_decide_eq_true t1
    rw [List.length_map] at t1
    refine ⟨fun σ' H' => ∃ zs' : List Str, zs'.length < zs.length ∧ (σ' = [some (.ref a), some (.int (c : Nat)), some (.ref p), some (.int (1 + (m : Nat)))] ∧ Kp a l H H' ∧ H' p = some (.lst (zs'.map V.str)) ∧ List.Sublist zs' ten ∧ m + 1 ≤ zs'.length),
      fun σ' H' ⟨zs', lt, x⟩ => ⟨_, lt, zs', rfl, x⟩, ?_⟩
    refine ⟨.ref p, rfl, .inl ⟨rfl, _, sqL_of e1⟩, .ref a, rfl, .ref p, rfl, p, _, rfl, .inl (sqL_of e1), a, l, _, rfl, k1.new, by rw [List.length_map]; omega, ?_, fun H2 r k2 r0 r1 => ?_⟩
    · rw [List.length_map]
      exact Nat.lt_of_le_of_lt (Nat.log2_le_self _) (by show zs.length < 9000; omega)
    · have e2 : H2 p = some (.lst (zs.map V.str)) := k2.keep p _ npa npl e1
      rw [List.length_map] at r1
      obtain ⟨j, rfl⟩ := Int.eq_ofNat_of_zero_le r0
      have hj : j < zs.length := by omega
      have hj' : j < (zs.map V.str).length := by rw [List.length_map]; exact hj
      refine ⟨p, _, _, j, _, rfl, rfl, e2, by omega, by omega, (ixN_seq (ixN_of hj')).1, List.getElem?_eq_getElem hj', zs.eraseIdx j, ?_, rfl, (k1.trans k2).put0 np, ?_, (List.eraseIdx_sublist zs j).trans sb, ?_⟩
      · rw [List.length_eraseIdx_of_lt hj]
        omega
      · rw [upd_same, map_eraseIdx]
      · rw [List.length_eraseIdx_of_lt hj]
        omega
  · have t1 : ¬ 1 + (m : Int) < ((zs.map V.str).length : Int) := of_decide_eq_false t1
    rw [List.length_map] at t1
    refine ⟨.ref p, rfl, p, _, rfl, .inl ⟨sqL_of e1, fun t nt => q _ t zs (k1.put nt) upd_same (k1.free nt) sb (by omega) (by omega)⟩⟩
/-- the parts of a drawn condition -/
structure Side (fs hs gs : List Str) (m : Nat) : Prop where
  r1 : Right hs
  r2 : Right gs
  s1 : ∀ x ∈ hs, x ∈ fs
  s2 : ∀ x ∈ gs, x ∈ fs
  dj : ∀ x ∈ gs, ¬ x ∈ hs
  le : hs.length + gs.length ≤ m
theorem erase_perm {α : Type} : ∀ {zs : List α} {j : Nat} (h : j < zs.length), (zs[j] :: zs.eraseIdx j).Perm zs
  | z :: r, 0, _ => List.Perm.refl _
  | z :: r, j + 1, h => by
    have hj : j < r.length := by simpa using h
    have ih := erase_perm hj
    show (r[j] :: z :: r.eraseIdx j).Perm (z :: r)
    exact (List.Perm.swap _ _ _).trans (ih.cons z)
def sp_sides (K : PySem.W.Frag) : Sp := fun vs H Q _ => ∃ (a l fp : Addr) (fs : List Str) (m : Nat), vs = [.ref a, .ref fp, .int (m : Nat)] ∧ RS H a l ∧ SqT K H fp (fs.map V.str) ∧ fs.length ≤ 60 ∧ Right fs ∧ m ≤ 8 ∧
  ∀ H' p pw pb hs gs, Kp a l H H' → H' p = some (.tup [.ref pw, .ref pb]) → H' pw = some (.tup (hs.map V.str)) → H' pb = some (.tup (gs.map V.str)) → Side fs hs gs m → Q (.ref p) H'
theorem ok_sides {f : Addr} {fd : FuncData} (F : Fun K "_law_sides" "_law_sides" s__law_sides f fd) (B : Blt mg) (c__law_next : Cal P w K mg base CX0 1 "_law_next" ["_law_h", "_law_limit"] sp_next) : FnOk P w K mg base CX0 2 f fd ["_law_h", "_law_facts_here", "_law_most"] (sp_sides K) := by
  refine F.ok sc__law_sides (fun vs H Q E h => by obtain ⟨a, l, fp, fs, m, rfl, _⟩ := h; rfl) (fun cdv A outer s H vs Q E hr h => ?_)
  obtain ⟨a, l, fp, fs, m, rfl, R, hS, hl, hfs, hm, q⟩ := h
  refine ⟨_, (pss_cons (ps_par3 (i := 3) (j := 4) (l := 5) rfl sc__law_sides.nd rfl rfl rfl (by decide) (by decide) (by decide) rfl rfl rfl (pa_cons (pe_callTy call_list_of (by rfl) B.b_list PyProof.Rows.boot_list (pa_cons (pv 1) pa_nil)) (pa_cons (pe_lst pa_nil) (pa_cons (pe_lst pa_nil) pa_nil))) rfl)
      (pss_cons (ps_for PassesOwn.never rfl (pi_range1 (by rfl) B.b_range (pa_cons (pe_cal c__law_next (hr.mono (by decide)) (pa_cons (pv 0) (pa_cons (pe_op op_add (pe_callB (call_min2 rfl) (by rfl) B.b_min (by decide +kernel) (pa_cons (pv 2) (pa_cons (pe_callB call_len_seq (by rfl) B.b_len PySem.boot_len (pa_cons (pv 1) pa_nil)) pa_nil))) pe_int) pa_nil))) pa_nil)) (pg_name (i := 6) sc__law_sides.nd rfl (Or.inl rfl)) (pss_cons (ps_set (i := 7) sc__law_sides.nd rfl (Or.inl rfl) (pe_bm PySem.F.plainAttrs_list PySem.F.slot_list_pop PySem.F.type_list_pop mt_popAt (pv 3) (pa_cons (pe_cal c__law_next (hr.mono (by decide)) (pa_cons (pv 0) (pa_cons (pe_callB call_len_seq (by rfl) B.b_len PySem.boot_len (pa_cons (pv 3) pa_nil)) pa_nil))) pa_nil)))
      (pss_one (ps_if (pt_cmpR op_gt (pe_cal c__law_next (hr.mono (by decide)) (pa_cons (pv 0) (pa_cons pe_int pa_nil))) pe_int (nomark _)) (pss_one (ps_expr (pe_bm PySem.F.plainAttrs_list PySem.F.slot_list_append PySem.F.type_list_append mt_append (pv 4) (pa_cons (pv 7) pa_nil)))) (pss_one (ps_expr (pe_bm PySem.F.plainAttrs_list PySem.F.slot_list_append PySem.F.type_list_append mt_append (pv 5) (pa_cons (pv 7) pa_nil))))))))
      (pss_one (ps_ret (pe_tup (pa_cons (pe_callTy call_tuple_of (by rfl) B.b_tuple PyProof.Rows.boot_tuple (pa_cons (pe_callB cr_sortedS (by rfl) B.b_sorted (by decide +kernel) (pa_cons (pv 4) pa_nil)) pa_nil)) (pa_cons (pe_callTy call_tuple_of (by rfl) B.b_tuple PyProof.Rows.boot_tuple (pa_cons (pe_callB cr_sortedS (by rfl) B.b_sorted (by decide +kernel) (pa_cons (pv 5) pa_nil)) pa_nil)) pa_nil))))))), ?_⟩
  refine ⟨_, rfl, fp, _, rfl, .inr hS, fun lr nr => ⟨Nat.zero_le _, fun lw nw => ⟨Nat.zero_le _, fun lb nb => ⟨_, _, _, rfl, ?_⟩⟩⟩⟩
  have s1 : Same H (upd H lr (.lst (fs.map V.str))) := (Same.refl H).put nr
  have s2 : Same H (upd (upd H lr (.lst (fs.map V.str))) lw (.lst [])) := s1.put' nw
  have s3 : Same H (upd (upd (upd H lr (.lst (fs.map V.str))) lw (.lst [])) lb (.lst [])) := s2.put' nb
  have wr : lr ≠ lw := ne_of_none upd_same nw
  have wb : lw ≠ lb := ne_of_none upd_same nb
  have rb : lr ≠ lb := ne_of_none (show _ = some (HO.lst (fs.map V.str)) by rw [upd_ne wr]; exact upd_same) nb
  have er : (upd (upd (upd H lr (.lst (fs.map V.str))) lw (.lst [])) lb (.lst [])) lr = some (.lst (fs.map V.str)) := by rw [upd_ne rb, upd_ne wr]; exact upd_same
  have ew : (upd (upd (upd H lr (.lst (fs.map V.str))) lw (.lst [])) lb (.lst [])) lw = some (.lst (([] : List Str).map V.str)) := by rw [upd_ne wb]; exact upd_same
  have eb : (upd (upd (upd H lr (.lst (fs.map V.str))) lw (.lst [])) lb (.lst [])) lb = some (.lst (([] : List Str).map V.str)) := upd_same
  have fw : H lw = none := s1.free nw
  have fb : H lb = none := s2.free nb
  generalize upd (upd (upd H lr (.lst (fs.map V.str))) lw (.lst [])) lb (.lst []) = H0 at s3 er ew eb ⊢
  obtain ⟨ra, rl⟩ := R.no nr
  obtain ⟨wa, wl⟩ := R.no fw
  obtain ⟨ba, bl⟩ := R.no fb
  have k0 := Kp.of R s3
  have hmn : (if (fs.length : Int) < m then (fs.length : Int) else m) = ((min fs.length m : Nat) : Int) := by split <;> omega
  refine ⟨_, rfl, _, rfl, _, rfl, fp, _, rfl, .inr (k0.tup hS), _, _, rfl, _, 1, rfl, rfl, ?_⟩
  rw [List.length_map, hmn]
  refine ⟨a, l, _, rfl, k0.new, by omega, small_lim (by omega) (by omega), fun H1 r k1 r0 r1 => ?_⟩
  obtain ⟨n, rfl⟩ := Int.eq_ofNat_of_zero_le r0
  have hn : n ≤ min fs.length m := by omega
  have hnd := hfs.nodup
  refine ⟨_, rfl, by omega, by omega, for_it walk_range (fun i σ H' => ∃ (rest ws bs : List Str) (y6 y7 : Option V), σ = [some (.ref a), some (.ref fp), some (.int (m : Nat)), some (.ref lr), some (.ref lw), some (.ref lb), y6, y7] ∧ Kp a l H H' ∧ H' lr = some (.lst (rest.map V.str)) ∧ H' lw = some (.lst (ws.map V.str)) ∧ H' lb = some (.lst (bs.map V.str)) ∧
      (rest ++ (ws ++ bs)).Perm fs ∧ ws.length + bs.length = i)
    ⟨fs, [], [], none, none, rfl, k0.trans k1, k1.keep _ _ ra rl er, k1.keep _ _ wa wl ew, k1.keep _ _ ba bl eb, by rw [List.append_nil, List.append_nil], rfl⟩ (fun _ _ _ _ _ => trivial) ?_ ?_⟩
  · rintro i y σ H3 H2 hi ⟨rest, ws, bs, y6, y7, rfl, k, er, ew, eb, hp, hlen⟩ ⟨rfl, hy⟩
    have hi : i < n := hi
    have hpl := hp.length_eq
    rw [List.length_append, List.length_append] at hpl
    refine ⟨_, rfl, .inl ⟨rfl, _, sqL_of er⟩, _, rfl, _, rfl, lr, _, rfl, .inl (sqL_of er), a, l, _, rfl, k.new, by rw [List.length_map]; omega, small_lim (by omega) (by rw [List.length_map]; omega), fun H4 r4 k4 r40 r41 => ?_⟩
    rw [List.length_map] at r41
    obtain ⟨j, rfl⟩ := Int.eq_ofNat_of_zero_le r40
    have hj : j < rest.length := by omega
    have hj' : j < (rest.map V.str).length := by rw [List.length_map]; exact hj
    have er4 := k4.keep _ _ ra rl er
    have ew4 := k4.keep _ _ wa wl ew
    have eb4 := k4.keep _ _ ba bl eb
    refine ⟨lr, _, _, j, _, rfl, rfl, er4, by omega, by omega, (ixN_seq (ixN_of hj')).1, List.getElem?_eq_getElem hj', ?_⟩
    rw [List.getElem_map]
    have k5 : Kp a l H (upd H4 lr (.lst ((rest.eraseIdx j).map V.str))) := (k.trans k4).put0 nr
    have er5 : (upd H4 lr (.lst ((rest.eraseIdx j).map V.str))) lr = some (.lst ((rest.eraseIdx j).map V.str)) := upd_same
    have ew5 : (upd H4 lr (.lst ((rest.eraseIdx j).map V.str))) lw = some (.lst (ws.map V.str)) := by rw [upd_ne wr.symm]; exact ew4
    have eb5 : (upd H4 lr (.lst ((rest.eraseIdx j).map V.str))) lb = some (.lst (bs.map V.str)) := by rw [upd_ne rb.symm]; exact eb4
    have hpe := erase_perm hj
    rw [map_eraseIdx]
    generalize upd H4 lr (.lst ((rest.eraseIdx j).map V.str)) = H5 at k5 er5 ew5 eb5 ⊢
    refine ⟨_, rfl, a, l, 3, rfl, k5.new, by decide, small_lim (by decide) (by decide), fun H6 r6 k6 r60 r61 => ⟨r6, 0, rfl, rfl, _, rfl, ?_⟩⟩
    have kk := k5.trans k6
    have er6 := k6.keep _ _ ra rl er5
    have ew6 := k6.keep _ _ wa wl ew5
    have eb6 := k6.keep _ _ ba bl eb5
    refine bcase (fun c1 => ?_) (fun c1 => ?_)
    · refine ⟨_, rfl, .inl ⟨rfl, _, sqL_of ew6⟩, _, rfl, lw, _, _, rfl, rfl, ew6, by rw [List.length_map]; exact small1000 (by omega), ?_⟩
      refine ⟨rest.eraseIdx j, ws ++ [rest[j]], bs, _, _, rfl, kk.put0 fw, by rw [upd_ne wr]; exact er6, by rw [upd_same, List.map_append]; rfl, by rw [upd_ne wb.symm]; exact eb6, ?_, by rw [List.length_append, List.length_singleton]; omega⟩
      refine List.Perm.trans ?_ hp
      refine List.Perm.trans ?_ (hpe.append_right (ws ++ bs))
      show (rest.eraseIdx j ++ ((ws ++ [rest[j]]) ++ bs)).Perm (rest[j] :: (rest.eraseIdx j ++ (ws ++ bs)))
      rw [List.append_assoc, ← List.append_assoc]
      have h1 : ((rest.eraseIdx j ++ ws) ++ ([rest[j]] ++ bs)).Perm (rest[j] :: ((rest.eraseIdx j ++ ws) ++ bs)) := List.perm_middle
      rw [List.append_assoc (rest.eraseIdx j) ws bs] at h1
      exact h1
    · refine ⟨_, rfl, .inl ⟨rfl, _, sqL_of eb6⟩, _, rfl, lb, _, _, rfl, rfl, eb6, by rw [List.length_map]; exact small1000 (by omega), ?_⟩
      refine ⟨rest.eraseIdx j, ws, bs ++ [rest[j]], _, _, rfl, kk.put0 fb, by rw [upd_ne rb]; exact er6, by rw [upd_ne wb]; exact ew6, by rw [upd_same, List.map_append]; rfl, ?_, by rw [List.length_append, List.length_singleton]; omega⟩
      refine List.Perm.trans ?_ hp
      refine List.Perm.trans ?_ (hpe.append_right (ws ++ bs))
      show (rest.eraseIdx j ++ (ws ++ (bs ++ [rest[j]]))).Perm (rest[j] :: (rest.eraseIdx j ++ (ws ++ bs)))
      rw [← List.append_assoc, ← List.append_assoc, ← List.append_assoc]
      exact List.perm_append_singleton _ _
  · rintro σ H2 ⟨rest, ws, bs, y6, y7, rfl, k, er, ew, eb, hp, hlen⟩
    have hlen : ws.length + bs.length = n := hlen
    have hsub : (ws ++ bs).Perm (ws ++ bs) := List.Perm.refl _
    have hnd2 : (rest ++ (ws ++ bs)).Nodup := hp.nodup_iff.mpr hnd
    have hin : ∀ x ∈ ws ++ bs, x ∈ fs := fun x hx => hp.mem_iff.mp (List.mem_append_right _ hx)
    have nd3 : (ws ++ bs).Nodup := (List.nodup_append.mp hnd2).2.1
    have ndw := (List.nodup_append.mp nd3).1
    have ndb := (List.nodup_append.mp nd3).2.1
    refine ⟨_, rfl, lw, ws, rfl, sqL_of ew, by omega, fun zs p hz1 hz2 np => ?_⟩
    have s4 : Same H2 (upd H2 p (.lst (zs.map V.str))) := (Same.refl H2).put np
    have e4 : (upd H2 p (.lst (zs.map V.str))) p = some (.lst (zs.map V.str)) := upd_same
    generalize upd H2 p (.lst (zs.map V.str)) = H3 at s4 e4 ⊢
    refine ⟨p, _, rfl, .inl ⟨sqL_of e4, fun t nt => ?_⟩⟩
    have s5 : Same H3 (upd H3 t (.tup (zs.map V.str))) := (Same.refl H3).put nt
    have e5 : (upd H3 t (.tup (zs.map V.str))) t = some (.tup (zs.map V.str)) := upd_same
    generalize upd H3 t (.tup (zs.map V.str)) = H4 at s5 e5 ⊢
    have s25 := s4.trans s5
    refine ⟨_, rfl, lb, bs, rfl, sqL_of (s25 _ _ eb), by omega, fun zs2 p2 hy1 hy2 np2 => ?_⟩
    have s6 : Same H4 (upd H4 p2 (.lst (zs2.map V.str))) := (Same.refl H4).put np2
    have e6 : (upd H4 p2 (.lst (zs2.map V.str))) p2 = some (.lst (zs2.map V.str)) := upd_same
    generalize upd H4 p2 (.lst (zs2.map V.str)) = H5 at s6 e6 ⊢
    refine ⟨p2, _, rfl, .inl ⟨sqL_of e6, fun t2 nt2 => ?_⟩⟩
    have s7 : Same H5 (upd H5 t2 (.tup (zs2.map V.str))) := (Same.refl H5).put nt2
    have e7 : (upd H5 t2 (.tup (zs2.map V.str))) t2 = some (.tup (zs2.map V.str)) := upd_same
    generalize upd H5 t2 (.tup (zs2.map V.str)) = H6 at s7 e7 ⊢
    refine ⟨(by show 2 ≤ sizeLine; decide), fun t3 nt3 => ?_⟩
    have s8 : Same H6 (upd H6 t3 (.tup [.ref t, .ref t2])) := (Same.refl H6).put nt3
    have s47 := (s6.trans s7).trans s8
    refine q _ t3 t t2 zs zs2 (k.same (s25.trans s47)) upd_same (s47 _ _ e5) (s8 _ _ e7) ⟨right_of hz1 hz2 ndw fun x hx => hfs.nm x (hin x (List.mem_append_left _ hx)), right_of hy1 hy2 ndb fun x hx => hfs.nm x (hin x (List.mem_append_right _ hx)), fun x hx => hin x (List.mem_append_left _ (hz1.mem_iff.mp hx)), fun x hx => hin x (List.mem_append_right _ (hy1.mem_iff.mp hx)), fun x hx hw => (List.nodup_append.mp nd3).2.2 x (hz1.mem_iff.mp hw) x (hy1.mem_iff.mp hx) rfl, ?_⟩
    rw [hz1.length_eq, hy1.length_eq]
    omega
end
end Sc
namespace Sc
open PySem PySem.Spec PyProof.Rows L2
theorem sc__law_rule : FnScope ["_law_h", "_law_facts_here", "_law_names", "_law_deep", "_law_name", "_law_sides_here", "_law_ruling", "_law_inner", "_law_k"] ["_law_h", "_law_facts_here", "_law_names", "_law_deep"] (defScope s__law_rule) := ⟨rfl, rfl, rfl, by decide +kernel, rfl, by decide +kernel, by decide +kernel⟩
theorem sc__law_drawn : FnScope ["_law_h", "_law_facts_here", "_law_most", "_law_names", "_law_rules", "_law_k"] ["_law_h", "_law_facts_here", "_law_most"] (defScope s__law_drawn) := ⟨rfl, rfl, rfl, by decide +kernel, rfl, by decide +kernel, by decide +kernel⟩
def three : List Str := ["fine", "free", "warn"]
theorem three_name : ∀ x ∈ three, isName x = true := by decide +kernel
theorem pe_wk {X : Cx} {e : Expr} {t : TE} (t' : TE) (h : PE X e t) (w : ∀ σ H Q, t' σ H Q → t σ H Q) : PE X e t' := ⟨fun pins s σ H Q I x => h.run pins s σ H Q I (w σ H Q x)⟩
/-- a drawn rule of such facts -/
structure N2 (fs : List Str) (n : Nd) : Prop where
  ok : NdOk n
  s1 : ∀ x ∈ n.hs, x ∈ fs
  s2 : ∀ x ∈ n.fs, x ∈ fs
/-- next(3) if deep > 0 else 0 -/
def tCount : TE := fun σ H Q => ∃ (a l : Addr) (deep : Nat), σ[0]? = some (some (.ref a)) ∧ σ[3]? = some (some (.int (deep : Nat))) ∧ RS H a l ∧ ∀ H' (n : Nat), Kp a l H H' → n ≤ 2 → (n = 0 ∨ 0 < deep) → Q (.int (n : Nat)) H'
section
variable {P : Program} {w : World} {K : PySem.W.Frag} {mg : Str → Option Value} {base : Heap}
def sp_rule2 (K : PySem.W.Frag) (d : Nat) : Sp := fun vs H Q _ => ∃ (a l fp nl : Addr) (fs : List Str) (x : Str) (ns : List Str) (deep : Nat), vs = [.ref a, .ref fp, .ref nl, .int (deep : Nat)] ∧ RS H a l ∧ SqT K H fp (fs.map V.str) ∧ Right fs ∧ fs.length ≤ 60 ∧ H nl = some (.lst ((x :: ns).map V.str)) ∧ nl ≠ a ∧ nl ≠ l ∧
  (∀ y ∈ x :: ns, isName y = true) ∧ ns.length ≤ 20 ∧ deep ≤ d ∧
  ∀ H' v n ns', Kc a l nl H H' → RowAt K H' v n → N2 fs n → n.exc.every (N2 fs) → n.nm :: (n.exc.names ++ ns') = x :: ns → H' nl = some (.lst (ns'.map V.str)) → n.exc.dep ≤ deep → Q v H'
theorem ok_rule2 {d : Nat} {f : Addr} {fd : FuncData} (F : Fun K "_law_rule" "_law_rule" s__law_rule f fd) (B : Blt mg) (c__law_next : Cal P w K mg base CX0 1 "_law_next" ["_law_h", "_law_limit"] sp_next) (c__law_sides : Cal P w K mg base CX0 2 "_law_sides" ["_law_h", "_law_facts_here", "_law_most"] (sp_sides K))
    (c__law_rule : Cal P w K mg base CX0 (d + 2) "_law_rule" ["_law_h", "_law_facts_here", "_law_names", "_law_deep"] (Below (sp_rule2 K) d)) : FnOk P w K mg base CX0 (d + 3) f fd ["_law_h", "_law_facts_here", "_law_names", "_law_deep"] (sp_rule2 K d) := by
  refine F.ok sc__law_rule (fun vs H Q E h => by obtain ⟨a, l, fp, nl, fs, x, ns, deep, rfl, _⟩ := h; rfl) (fun cdv A outer s H vs Q E hr h => ?_)
  obtain ⟨a, l, fp, nl, fs, x, ns, deep, rfl, R, hS, hfs, hfl, en, na, nl', hnm, hnl, hd, q⟩ := h
  refine ⟨_, (pss_cons (ps_par (i := 4) (j := 5) rfl sc__law_rule.nd rfl rfl (by decide) rfl rfl (pa_cons (pe_bm PySem.F.plainAttrs_list PySem.F.slot_list_pop PySem.F.type_list_pop mt_popAt (pv 2) (pa_cons pe_int pa_nil)) (pa_cons (pe_cal c__law_sides (hr.mono (by omega)) (pa_cons (pv 0) (pa_cons (pv 1) (pa_cons pe_int pa_nil)))) pa_nil)) rfl)
      (pss_cons (ps_par (i := 6) (j := 7) rfl sc__law_rule.nd rfl rfl (by decide) rfl rfl (pa_cons (pe_ix ix_list (pe_lst (pa_cons pe_str (pa_cons pe_str (pa_cons pe_str pa_nil)))) (pe_cal c__law_next (hr.mono (by omega)) (pa_cons (pv 0) (pa_cons pe_int pa_nil))) (fun _ _ => rfl)) (pa_cons (pe_lst pa_nil) pa_nil)) rfl)
      (pss_cons (ps_for PassesOwn.never rfl (pi_range1 (by rfl) B.b_range (pa_cons (pe_wk (tCount) (pe_ifExp (pt_cmpR op_gt (pv 3) pe_int (nomark _)) (pe_cal c__law_next (hr.mono (by omega)) (pa_cons (pv 0) (pa_cons pe_int pa_nil))) pe_int) ?we) pa_nil)) (pg_name (i := 8) sc__law_rule.nd rfl (Or.inl rfl)) (pss_one (ps_if (pt_cmpR (op_neD hr.units) (pv 2) (pe_lst pa_nil) (nomark _)) (pss_one (ps_expr (pe_bm PySem.F.plainAttrs_list PySem.F.slot_list_append PySem.F.type_list_append mt_append (pv 7) (pa_cons (pe_cal c__law_rule hr (pa_cons (pv 0) (pa_cons (pv 1) (pa_cons (pv 2) (pa_cons (pe_op op_sub (pv 3) pe_int) pa_nil))))) pa_nil)))) pss_nil)))
      (pss_one (ps_ret (pe_tup (pa_cons (pv 4) (pa_cons (pe_ix ix_tup (pv 5) pe_int (fun _ _ => rfl)) (pa_cons (pe_ix ix_tup (pv 5) pe_int (fun _ _ => rfl)) (pa_cons (pv 6) (pa_cons (pe_callTy call_tuple_of (by rfl) B.b_tuple PyProof.Rows.boot_tuple (pa_cons (pv 7) pa_nil)) pa_nil))))))))))), ?_⟩
  case we =>
    rintro σ H1 Q1 ⟨a, l, deep, g0, g3, R, q⟩
    refine ⟨_, g3, deep, 0, rfl, rfl, _, rfl, bcase (fun c1 => ?_) (fun c1 => ?_)⟩
    · have c1 : 0 < deep := by have := of_decide_eq_true c1; omega
      refine ⟨_, g0, a, l, 3, rfl, R, by decide, small_lim (by decide) (by decide), fun H2 r k r0 r1 => ?_⟩
      obtain ⟨m, rfl⟩ := Int.eq_ofNat_of_zero_le r0
      exact q H2 m k (by omega) (.inr c1)
    · exact q H1 0 (Kp.refl R) (by decide) (.inl rfl)
  have hix : 0 < ((x :: ns).map V.str).length := by rw [List.length_map, List.length_cons]; omega
  refine ⟨_, rfl, .inl ⟨rfl, _, sqL_of en⟩, nl, _, _, 0, .str x, rfl, rfl, en, by omega, by decide, (ixN_seq (ixN_of hix)).1, rfl, ?_⟩
  have k1 : Kc a l nl H (upd H nl (.lst (ns.map V.str))) := (Kc.of R (Same.refl H)).count na nl'
  have en1 : (upd H nl (.lst (ns.map V.str))) nl = some (.lst (ns.map V.str)) := upd_same
  rw [show ((x :: ns).map V.str).eraseIdx 0 = ns.map V.str from rfl]
  generalize upd H nl (.lst (ns.map V.str)) = H1 at k1 en1 ⊢
  refine ⟨_, rfl, _, rfl, a, l, fp, fs, 2, rfl, k1.new, (k1.keeps en).tup hS, hfl, hfs, by decide, fun H2 p pw pb hs gs k2 ep epw epb sd => ⟨_, _, rfl, ?_⟩⟩
  have kc2 := k1.trans (Kp.kc k2)
  have en2 := k2.keep _ _ na nl' en1
  refine ⟨(by show 3 ≤ sizeLine; decide), fun lp nlp => ?_⟩
  have s3 : Same H2 (upd H2 lp (.lst (three.map V.str))) := (Same.refl H2).put nlp
  have elp : (upd H2 lp (.lst (three.map V.str))) lp = some (.lst (three.map V.str)) := upd_same
  obtain ⟨la, ll⟩ := kc2.new.no nlp
  have R3 := kc2.new.same s3
  refine ⟨_, rfl, a, l, 3, rfl, R3, by decide, small_lim (by decide) (by decide), fun H4 r4 k4 r40 r41 => ?_⟩
  obtain ⟨j, rfl⟩ := Int.eq_ofNat_of_zero_le r40
  have hj : j < three.length := by show j < 3; omega
  have elp4 := k4.keep _ _ la ll elp
  refine ⟨lp, _, _, .str three[j], rfl, rfl, sqL_of elp4, atI_nat (j := j) (by rw [List.getElem?_map, List.getElem?_eq_getElem hj]; rfl), ?_⟩
  have hrl : three[j] ∈ three := List.getElem_mem hj
  generalize three[j] = rl at hrl ⊢
  refine ⟨Nat.zero_le _, fun li ni => ⟨_, _, rfl, ?_⟩⟩
  have kp24 : Keeps NoL H2 H4 := s3.keeps.trans k4.keepsN
  have kc4 := (kc2.same s3).trans (Kp.kc k4)
  have en4 := k4.keep _ _ na nl' (s3 _ _ en2)
  obtain ⟨ia, il⟩ := kc4.new.no ni
  have inl : li ≠ nl := fun z => by rw [z, en4] at ni; cases ni
  have s5 : Same H4 (upd H4 li (.lst [])) := (Same.refl H4).put ni
  have ei5 : (upd H4 li (.lst [])) li = some (.lst []) := upd_same
  have fi : H li = none := kc4.free en4 ni
  have kc5 := kc4.same s5
  have en5 := s5 _ _ en4
  have kp25 : Keeps NoL H2 (upd H4 li (.lst [])) := kp24.trans s5.keeps
  generalize upd H4 li (.lst []) = H5 at s5 ei5 kc5 en5 kp25 ⊢
  refine ⟨a, l, deep, rfl, rfl, kc5.new, fun H6 n6 k6 hn6 hdn => ?_⟩
  have hxn := hnm x List.mem_cons_self
  refine ⟨_, rfl, by omega, by omega, for_it walk_range (fun i σ H' => ∃ (g : RF) (us : List V) (ns' : List Str) (y8 : Option V), σ = [some (.ref a), some (.ref fp), some (.ref nl), some (.int (deep : Nat)), some (.str x), some (.ref p), some (.str rl), some (.ref li), y8] ∧ Kc a l nl H H' ∧ Keeps NoL H2 H' ∧ H' li = some (.lst us) ∧ RowsAt K H' g us ∧ g.every (N2 fs) ∧
      g.names ++ ns' = ns ∧ H' nl = some (.lst (ns'.map V.str)) ∧ g.dep ≤ deep)
    ⟨.nil, [], ns, none, rfl, kc5.trans (Kp.kc k6), kp25.trans k6.keepsN, k6.keep _ _ ia il ei5, rfl, trivial, rfl, k6.keep _ _ na nl' en5, Nat.zero_le _⟩ (fun _ _ _ _ _ => trivial) ?_ ?_⟩
  · rintro i y σ H8 H7 hi ⟨g, us, ns', y8, rfl, kc, kp, ei, hg, hev, hnn, en, hdp⟩ ⟨rfl, hy⟩
    have hi : i < n6 := hi
    have hd0 : 0 < deep := by omega
    have hsub : ∀ y ∈ ns', isName y = true := fun y hy => hnm y (List.mem_cons_of_mem _ (by rw [← hnn]; exact List.mem_append_right _ hy))
    have hln : g.names.length + ns'.length = ns.length := by rw [← List.length_append, hnn]
    refine ⟨_, rfl, Nat.zero_le _, fun te nte => ⟨.list (ns'.map PyData.str), .list [], .lst (sqL_of (by rw [upd_ne (ne_of_none en nte)]; exact en)) (dps K _ _), .lst sqL_new .nil, shL (fun z hz => name_fine (hsub z hz)), rfl, _, rfl, ?_⟩⟩
    have ed : (PyData.list (ns'.map PyData.str)).eqv (.list []) = decide (ns' = []) := eqvA_nil _
    rw [ed]
    have s9 : Same H7 (upd H7 te (.lst [])) := (Same.refl H7).put nte
    have en9 := s9 _ _ en
    have ei9 := s9 _ _ ei
    have kc9 := kc.same s9
    have kp9 : Keeps NoL H2 (upd H7 te (.lst [])) := kp.trans s9.keeps
    have hg9 := hg.keeps (N := NoL) s9.keeps
    generalize upd H7 te (.lst []) = H9 at s9 en9 ei9 kc9 kp9 hg9 ⊢
    refine bcase (fun c1 => ?_) (fun c1 => ?_)
    · have c1 : ns' ≠ [] := of_decide_eq_false ((Bool.not_eq_true' _).mp c1)
      obtain ⟨x', r', rfl⟩ := List.exists_cons_of_ne_nil c1
      obtain ⟨d, rfl⟩ : ∃ d', d = d' + 1 := ⟨d - 1, by omega⟩
      refine ⟨_, rfl, .inl ⟨rfl, _, sqL_of ei9⟩, _, rfl, _, rfl, _, rfl, _, rfl, deep, 1, rfl, rfl, ?_⟩
      rw [List.length_cons] at hln
      refine ⟨a, l, fp, nl, fs, x', r', deep - 1, (by show [V.ref a, V.ref fp, V.ref nl, V.int ((deep : Int) - 1)] = _; rw [show (deep : Int) - 1 = ((deep - 1 : Nat) : Int) by omega]), kc9.new, (kc9.keeps (show H nl = some (.lst ((x :: ns).map V.str)) by assumption)).tup hS, hfs, hfl, en9, na, nl', hsub, by omega, by omega, fun H10 v n ns2 k10 hrow hN hNe hnn2 en10 hdn2 => ?_⟩
      have ei10 := k10.keep _ _ ia il inl ei9
      have kk10 : Keeps NoL H9 H10 := k10.keeps en9
      refine ⟨li, _, _, rfl, rfl, ei10, ?_, ?_⟩
      · have := hg.len
        have h2 := RF.nodes_le g
        have h3 : g.names.length = g.size := by unfold RF.names; rw [List.length_map, RF.pre_len]
        exact small1000 (by omega)
      have kw : Keeps NoL H10 (upd H10 li (.lst (us ++ [v]))) := keeps_own ei10 id
      refine ⟨g.snoc n, us ++ [v], ns2, _, rfl, (kc9.trans k10).put0 fi, (kp9.trans kk10).trans kw, upd_same, rows_snoc ((hg9.keeps kk10).keeps kw) (hrow.keeps kw), RF.snoc_every hev hN hNe, ?_, by rw [upd_ne inl.symm]; exact en10, ?_⟩
      · rw [RF.snoc_names, ← hnn, ← hnn2, List.append_assoc]
        rfl
      · rw [RF.snoc_dep]
        omega
    · exact ⟨g, us, ns', _, rfl, kc9, kp9, ei9, hg9, hev, hnn, en9, hdp⟩
  · rintro σ H7 ⟨g, us, ns', y8, rfl, kc, kp, ei, hg, hev, hnn, en, hdp⟩
    have ep7 : SqT K H7 p [.ref pw, .ref pb] := kp.tup (sqT_of ep)
    refine ⟨_, rfl, _, rfl, p, _, 0, _, rfl, rfl, ep7, atI_nat (j := 0) rfl, _, rfl, p, _, 1, _, rfl, rfl, ep7, atI_nat (j := 1) rfl, _, rfl, _, rfl, li, _, rfl, .inl ⟨sqL_of ei, fun t nt => ?_⟩⟩
    have s8 : Same H7 (upd H7 t (.tup us)) := (Same.refl H7).put nt
    have e8 : (upd H7 t (.tup us)) t = some (.tup us) := upd_same
    generalize upd H7 t (.tup us) = H8 at s8 e8 ⊢
    refine ⟨(by show 5 ≤ sizeLine; decide), fun t2 nt2 => ?_⟩
    have s9 : Same H8 (upd H8 t2 (.tup [.str x, .ref pw, .ref pb, .str rl, .ref t])) := (Same.refl H8).put nt2
    have e9 : (upd H8 t2 (.tup [.str x, .ref pw, .ref pb, .str rl, .ref t])) t2 = some (.tup [.str x, .ref pw, .ref pb, .str rl, .ref t]) := upd_same
    have s79 := s8.trans s9
    have kp9 : Keeps NoL H2 _ := kp.trans s79.keeps
    have h8 := sd.le
    refine q _ (.ref t2) ⟨x, hs, gs, rl, g⟩ ns' (kc.same s79) ⟨t2, pw, pb, t, us, rfl, sqT_of e9, kp9.tup (sqT_of epw), kp9.tup (sqT_of epb), sqT_of (s9 _ _ e8), hg.keeps (N := NoL) s79.keeps⟩ ⟨⟨hxn, three_name _ hrl, sd.r1.none (by show 0 + hs.length ≤ 8; omega) (fun _ _ h => nomatch h), sd.r2.none (by show hs.length + gs.length ≤ 8; omega) sd.dj⟩, sd.s1, sd.s2⟩ hev ?_ (s79 _ _ en) hdp
    show x :: (g.names ++ ns') = x :: ns
    rw [hnn]
theorem Kc.kp {H H' : Hp} {a l c : Addr} (k : Kc a l c H H') (n : H c = none) : Kp a l H H' := ⟨k.old, k.new, fun b o m1 m2 e => k.keep b o m1 m2 (ne_of_none e n) e⟩
/-- the names that rules are drawn from -/
def names12 : List Str := ["hue", "ox", "ab", "ivy", "tar", "bay", "elm", "sun", "cat", "zed", "kin", "rye"]
theorem names12_name : ∀ x ∈ names12, isName x = true := by decide +kernel
theorem names12_nodup : names12.Nodup := by decide +kernel
/-- a drawn book -/
structure Drawn2 (K : PySem.W.Frag) (H : Hp) (p fp : Addr) (fs : List Str) (f : RF) (rl : Str) : Prop where
  at_ : ∃ (pr : Addr) (ws : List V), H p = some (.tup [.ref fp, .ref pr, .str rl]) ∧ SqT K H pr ws ∧ RowsAt K H f ws
  ev : f.every (N2 fs)
  nm : ∃ k ns, f.names ++ ns = names12.drop k
  dp : f.dep ≤ 3
  rl : rl ∈ three
def sp_drawn (K : PySem.W.Frag) : Sp := fun vs H Q _ => ∃ (a l fp : Addr) (fs : List Str) (m : Nat), vs = [.ref a, .ref fp, .int (m : Nat)] ∧ RS H a l ∧ SqT K H fp (fs.map V.str) ∧ Right fs ∧ fs.length ≤ 60 ∧ m ≤ 20 ∧
  ∀ H' p f rl, Kp a l H H' → Drawn2 K H' p fp fs f rl → f.nodes.length ≤ m → Q (.ref p) H'
theorem ok_drawn {f : Addr} {fd : FuncData} (F : Fun K "_law_drawn" "_law_drawn" s__law_drawn f fd) (B : Blt mg) (c__law_next : Cal P w K mg base CX0 1 "_law_next" ["_law_h", "_law_limit"] sp_next)
    (c__law_rule : Cal P w K mg base CX0 5 "_law_rule" ["_law_h", "_law_facts_here", "_law_names", "_law_deep"] (sp_rule2 K 2)) : FnOk P w K mg base CX0 6 f fd ["_law_h", "_law_facts_here", "_law_most"] (sp_drawn K) := by
  refine F.ok sc__law_drawn (fun vs H Q E h => by obtain ⟨a, l, fp, fs, m, rfl, _⟩ := h; rfl) (fun cdv A outer s H vs Q E hr h => ?_)
  obtain ⟨a, l, fp, fs, m, rfl, R, hS, hfs, hfl, hm, q⟩ := h
  refine ⟨_, (pss_cons (ps_par (i := 3) (j := 4) rfl sc__law_drawn.nd rfl rfl (by decide) rfl rfl (pa_cons (pe_lst (pa_cons pe_str (pa_cons pe_str (pa_cons pe_str (pa_cons pe_str (pa_cons pe_str (pa_cons pe_str (pa_cons pe_str (pa_cons pe_str (pa_cons pe_str (pa_cons pe_str (pa_cons pe_str (pa_cons pe_str pa_nil))))))))))))) (pa_cons (pe_lst pa_nil) pa_nil)) rfl)
      (pss_cons (ps_set (i := 3) sc__law_drawn.nd rfl (Or.inl rfl) (pe_slice sl_list (pv 3) (po_some (pe_cal c__law_next (hr.mono (by decide)) (pa_cons (pv 0) (pa_cons pe_int pa_nil)))) po_none))
      (pss_cons (ps_for PassesOwn.never rfl (pi_range1 (by rfl) B.b_range (pa_cons (pe_cal c__law_next (hr.mono (by decide)) (pa_cons (pv 0) (pa_cons (pe_op op_add (pv 2) pe_int) pa_nil))) pa_nil)) (pg_name (i := 5) sc__law_drawn.nd rfl (Or.inl rfl)) (pss_one (ps_if (pt_cmpR (op_neD hr.units) (pv 3) (pe_lst pa_nil) (nomark _)) (pss_one (ps_expr (pe_bm PySem.F.plainAttrs_list PySem.F.slot_list_append PySem.F.type_list_append mt_append (pv 4) (pa_cons (pe_cal c__law_rule (hr.mono (by decide)) (pa_cons (pv 0) (pa_cons (pv 1) (pa_cons (pv 3) (pa_cons pe_int pa_nil))))) pa_nil)))) pss_nil)))
      (pss_one (ps_ret (pe_tup (pa_cons (pv 1) (pa_cons (pe_callTy call_tuple_of (by rfl) B.b_tuple PyProof.Rows.boot_tuple (pa_cons (pv 4) pa_nil)) (pa_cons (pe_ix ix_list (pe_lst (pa_cons pe_str (pa_cons pe_str (pa_cons pe_str pa_nil)))) (pe_cal c__law_next (hr.mono (by decide)) (pa_cons (pv 0) (pa_cons pe_int pa_nil))) (fun _ _ => rfl)) pa_nil))))))))), ?_⟩
  refine ⟨(by show 12 ≤ sizeLine; decide), fun l0 n0 => ⟨Nat.zero_le _, fun li ni => ⟨_, _, rfl, ?_⟩⟩⟩
  have s1 : Same H (upd H l0 (.lst (names12.map V.str))) := (Same.refl H).put n0
  have s2 : Same H (upd (upd H l0 (.lst (names12.map V.str))) li (.lst [])) := s1.put' ni
  have i0 : l0 ≠ li := ne_of_none upd_same ni
  have e0 : (upd (upd H l0 (.lst (names12.map V.str))) li (.lst [])) l0 = some (.lst (names12.map V.str)) := by rw [upd_ne i0]; exact upd_same
  have ei : (upd (upd H l0 (.lst (names12.map V.str))) li (.lst [])) li = some (.lst []) := upd_same
  have fi : H li = none := s1.free ni
  obtain ⟨ia, il⟩ := R.no fi
  obtain ⟨za, zl⟩ := R.no n0
  have R2 := R.same s2
  refine ⟨_, rfl, _, rfl, a, l, 4, rfl, R2, by decide, small_lim (by decide) (by decide), fun H3 r k3 r0 r1 => ?_⟩
  obtain ⟨k, rfl⟩ := Int.eq_ofNat_of_zero_le r0
  have e03 : H3 l0 = some (.lst (names12.map V.str)) := k3.keep _ _ za zl e0
  have ei3 : H3 li = some (.lst []) := k3.keep _ _ ia il ei
  have k03 : Kp a l H H3 := (Kp.of R s2).trans k3
  refine ⟨_, rfl, ?_⟩
  dsimp only [tNoPart]
  refine ⟨l0, _, rfl, sqL_of e03, fun nl nnl => ?_⟩
  rw [cut_from, ← List.map_drop]
  have s4 : Same H3 (upd H3 nl (.lst ((names12.drop k).map V.str))) := (Same.refl H3).put nnl
  have en4 : (upd H3 nl (.lst ((names12.drop k).map V.str))) nl = some (.lst ((names12.drop k).map V.str)) := upd_same
  have ei4 := s4 _ _ ei3
  have fn : H nl = none := k03.free nnl
  have inl : li ≠ nl := fun z => by rw [z, nnl] at ei3; cases ei3
  have k04 := k03.same s4
  generalize upd H3 nl (.lst ((names12.drop k).map V.str)) = H4 at s4 en4 ei4 k04 ⊢
  obtain ⟨na, nl'⟩ := R.no fn
  refine ⟨_, rfl, _, rfl, m, 1, rfl, rfl, a, l, _, rfl, k04.new, by omega, small_lim (by omega) (by omega), fun H5 r5 k5 r50 r51 => ?_⟩
  obtain ⟨n5, rfl⟩ := Int.eq_ofNat_of_zero_le r50
  have hdl : (names12.drop k).length ≤ 12 := by rw [List.length_drop]; exact Nat.sub_le _ _
  have hdn : ∀ y ∈ names12.drop k, isName y = true := fun y hy => names12_name y (List.mem_of_mem_drop hy)
  refine ⟨_, rfl, by omega, by omega, for_it walk_range (fun i σ H' => ∃ (g : RF) (us : List V) (ns' : List Str) (y5 : Option V), σ = [some (.ref a), some (.ref fp), some (.int (m : Nat)), some (.ref nl), some (.ref li), y5] ∧ Kc a l nl H H' ∧ H' li = some (.lst us) ∧ RowsAt K H' g us ∧ g.every (N2 fs) ∧
      g.names ++ ns' = names12.drop k ∧ H' nl = some (.lst (ns'.map V.str)) ∧ g.dep ≤ 3 ∧ g.nodes.length ≤ i)
    ⟨.nil, [], _, none, rfl, Kp.kc (k04.trans k5), k5.keep _ _ ia il ei4, rfl, trivial, rfl, k5.keep _ _ na nl' en4, Nat.zero_le _, Nat.le_refl _⟩ (fun _ _ _ _ _ => trivial) ?_ ?_⟩
  · rintro i y σ H8 H7 hi ⟨g, us, ns', y5, rfl, kc, ei, hg, hev, hnn, en, hdp, hgl⟩ ⟨rfl, hy⟩
    have hsub : ∀ y ∈ ns', isName y = true := fun y hy => hdn y (by rw [← hnn]; exact List.mem_append_right _ hy)
    have hln : g.names.length + ns'.length = (names12.drop k).length := by rw [← List.length_append, hnn]
    refine ⟨_, rfl, Nat.zero_le _, fun te nte => ⟨.list (ns'.map PyData.str), .list [], .lst (sqL_of (by rw [upd_ne (ne_of_none en nte)]; exact en)) (dps K _ _), .lst sqL_new .nil, shL (fun z hz => name_fine (hsub z hz)), rfl, _, rfl, ?_⟩⟩
    have ed : (PyData.list (ns'.map PyData.str)).eqv (.list []) = decide (ns' = []) := eqvA_nil _
    rw [ed]
    have s9 : Same H7 (upd H7 te (.lst [])) := (Same.refl H7).put nte
    have en9 := s9 _ _ en
    have ei9 := s9 _ _ ei
    have kc9 := kc.same s9
    have hg9 := hg.keeps (N := NoL) s9.keeps
    generalize upd H7 te (.lst []) = H9 at s9 en9 ei9 kc9 hg9 ⊢
    refine bcase (fun c1 => ?_) (fun c1 => ?_)
    · have c1 : ns' ≠ [] := of_decide_eq_false ((Bool.not_eq_true' _).mp c1)
      obtain ⟨x', r', rfl⟩ := List.exists_cons_of_ne_nil c1
      refine ⟨_, rfl, .inl ⟨rfl, _, sqL_of ei9⟩, _, rfl, _, rfl, _, rfl, ?_⟩
      rw [List.length_cons] at hln
      refine ⟨a, l, fp, nl, fs, x', r', 2, rfl, kc9.new, ((kc9.kp fn).tup hS), hfs, hfl, en9, na, nl', hsub, by omega, by decide, fun H10 v n ns2 k10 hrow hN hNe hnn2 en10 hdn2 => ?_⟩
      have ei10 := k10.keep _ _ ia il inl ei9
      have kk10 : Keeps NoL H9 H10 := k10.keeps en9
      refine ⟨li, _, _, rfl, rfl, ei10, ?_, ?_⟩
      · have := hg.len
        have h2 := RF.nodes_le g
        have h3 : g.names.length = g.size := by unfold RF.names; rw [List.length_map, RF.pre_len]
        exact small1000 (by omega)
      have kw : Keeps NoL H10 (upd H10 li (.lst (us ++ [v]))) := keeps_own ei10 id
      refine ⟨g.snoc n, us ++ [v], ns2, _, rfl, (kc9.trans k10).put0 fi, upd_same, rows_snoc ((hg9.keeps kk10).keeps kw) (hrow.keeps kw), RF.snoc_every hev hN hNe, ?_, by rw [upd_ne inl.symm]; exact en10, ?_, by rw [RF.snoc_nodes, List.length_append, List.length_singleton]; omega⟩
      · rw [RF.snoc_names, ← hnn, ← hnn2, List.append_assoc]
        rfl
      · rw [RF.snoc_dep]
        omega
    · exact ⟨g, us, ns', _, rfl, kc9, ei9, hg9, hev, hnn, en9, hdp, Nat.le_succ_of_le hgl⟩
  · rintro σ H7 ⟨g, us, ns', y5, rfl, kc, ei, hg, hev, hnn, en, hdp, hgl⟩
    have hgl : g.nodes.length ≤ n5 := hgl
    refine ⟨_, rfl, _, rfl, li, _, rfl, .inl ⟨sqL_of ei, fun t nt => ?_⟩⟩
    have s8 : Same H7 (upd H7 t (.tup us)) := (Same.refl H7).put nt
    have e8 : (upd H7 t (.tup us)) t = some (.tup us) := upd_same
    have kc8 := kc.same s8
    have hg8 := hg.keeps (N := NoL) s8.keeps
    have en8 := s8 _ _ en
    generalize upd H7 t (.tup us) = H8 at s8 e8 kc8 hg8 en8 ⊢
    refine ⟨(by show 3 ≤ sizeLine; decide), fun lp nlp => ?_⟩
    have s9 : Same H8 (upd H8 lp (.lst (three.map V.str))) := (Same.refl H8).put nlp
    have elp : (upd H8 lp (.lst (three.map V.str))) lp = some (.lst (three.map V.str)) := upd_same
    obtain ⟨la, ll⟩ := kc8.new.no nlp
    have kc9 := kc8.same s9
    refine ⟨_, rfl, a, l, 3, rfl, kc9.new, by decide, small_lim (by decide) (by decide), fun H10 r10 k10 r100 r101 => ?_⟩
    obtain ⟨j, rfl⟩ := Int.eq_ofNat_of_zero_le r100
    have hj : j < three.length := by show j < 3; omega
    have elp10 := k10.keep _ _ la ll elp
    refine ⟨lp, _, _, .str three[j], rfl, rfl, sqL_of elp10, atI_nat (j := j) (by rw [List.getElem?_map, List.getElem?_eq_getElem hj]; rfl), ?_⟩
    have hrl : three[j] ∈ three := List.getElem_mem hj
    generalize three[j] = rl at hrl ⊢
    refine ⟨(by show 3 ≤ sizeLine; decide), fun t2 nt2 => ?_⟩
    have kk : Keeps NoL H8 H10 := s9.keeps.trans k10.keepsN
    have s11 : Same H10 (upd H10 t2 (.tup [.ref fp, .ref t, .str rl])) := (Same.refl H10).put nt2
    refine q _ t2 g rl ((((kc9.trans (Kp.kc k10)).kp fn)).same s11) ⟨⟨t, us, upd_same, s11.tup (kk.tup (sqT_of e8)), (hg8.keeps kk).keeps (N := NoL) s11.keeps⟩, hev, ⟨k, ns', hnn⟩, hdp, hrl⟩ (by omega)
end
end Sc
namespace Sc
open PySem PySem.Spec PyProof.Rows L2
theorem sc__law_made : FnScope ["_law_rules", "_law_found", "_law_name", "_law_holding", "_law_failing", "_law_ruling", "_law_inner"] ["_law_rules"] (defScope s__law_made) := ⟨rfl, rfl, rfl, by decide +kernel, rfl, by decide +kernel, by decide +kernel⟩
theorem sc__law_book : FnScope ["_law_drawn_here"] ["_law_drawn_here"] (defScope s__law_book) := ⟨rfl, rfl, rfl, by decide +kernel, rfl, by decide +kernel, by decide +kernel⟩
section
variable {P : Program} {w : World} {K : PySem.W.Frag} {mg : Str → Option Value} {base : Heap} {C R B CC CR CF CB : Addr}
def sp_made (K : PySem.W.Frag) (C R : Addr) (d : Nat) : Sp := fun vs H Q _ => ∃ (N : Addr → Prop) (p : Addr) (ws : List V) (f : RF), vs = [.ref p] ∧ SqT K H p ws ∧ RowsAt K H f ws ∧ (∀ l, H l = none → N l) ∧ f.dep ≤ d ∧ d ≤ 12 ∧ f.size ≤ 900 ∧ f.every NdOk ∧
  ∀ H' p' us, Same H H' → SqT K H' p' us → ForAt K C R N H' f us → Q (.ref p') H'
theorem ok_made {d : Nat} {f : Addr} {fd : FuncData} (F : Fun K "_law_made" "_law_made" s__law_made f fd) (B : Blt mg) (k_Condition : Mkr P w K mg base 4 "Condition" C ["self", "holding", "failing"] (sp_cond_init K C CC)) (k_Rule : Mkr P w K mg base 16 "Rule" R ["self", "name", "condition", "ruling", "exceptions"] (sp_rule_init K C R CR))
    (c__law_made : Cal P w K mg base CX0 (d + 17) "_law_made" ["_law_rules"] (Below (sp_made K C R) d)) :
    FnOk P w K mg base CX0 (d + 18) f fd ["_law_rules"] (sp_made K C R d) := by
  refine F.ok sc__law_made (fun vs H Q E h => by obtain ⟨N, p, ws, f, rfl, _⟩ := h; rfl) (fun cdv A outer s H vs Q E hr h => ?_)
  obtain ⟨N, p, ws, f, rfl, hP, hX, hN, hd, hd12, hz, hev, q⟩ := h
  refine ⟨_, (pss_cons (ps_set (i := 1) sc__law_made.nd rfl (Or.inl rfl) (pe_lst pa_nil))
      (pss_cons (ps_for PassesOwn.never rfl (pi_tup (pv 0)) (pg_tup (by rfl) (pgs_cons (pg_name (i := 2) sc__law_made.nd rfl (Or.inl rfl)) (pgs_cons (pg_name (i := 3) sc__law_made.nd rfl (Or.inl rfl)) (pgs_cons (pg_name (i := 4) sc__law_made.nd rfl (Or.inl rfl)) (pgs_cons (pg_name (i := 5) sc__law_made.nd rfl (Or.inl rfl)) (pgs_cons (pg_name (i := 6) sc__law_made.nd rfl (Or.inl rfl)) pgs_nil)))))) (pss_one (ps_expr (pe_bm PySem.F.plainAttrs_list PySem.F.slot_list_append PySem.F.type_list_append mt_append (pv 1) (pa_cons (pe_mkN k_Rule (hr.mono (by omega)) (pa_cons (pv 2) (pa_cons (pe_mkN k_Condition (hr.mono (by omega)) (pa_cons (pv 3) (pa_cons (pv 4) pa_nil))) (pa_cons (pv 5) (pa_cons (pe_cal c__law_made hr (pa_cons (pv 6) pa_nil)) pa_nil))))) pa_nil)))))
      (pss_one (ps_ret (pe_callTy call_tuple_of (by rfl) B.b_tuple PyProof.Rows.boot_tuple (pa_cons (pv 1) pa_nil)))))), ?_⟩
  have hA := hX.all
  have hln := hA.len
  have hlz := RF.nodes_le f
  refine ⟨Nat.zero_le _, fun D nD => ?_⟩
  have s0 : Same H (upd H D (.lst [])) := (Same.refl H).put nD
  have e0 : (upd H D (.lst [])) D = some (.lst []) := upd_same
  generalize upd H D (.lst []) = H0 at s0 e0 ⊢
  refine ⟨_, rfl, p, rfl, ⟨_, s0.tup hP⟩, for_it walk_tup (fun i σ H' => ∃ (rs : List V) (y2 y3 y4 y5 y6 : Option V), σ = [some (.ref p), some (.ref D), y2, y3, y4, y5, y6] ∧ Same H H' ∧ H' D = some (.lst rs) ∧ All2 (RefAt K C R (fun l => N l ∧ l ≠ D) H') rs (f.nodes.take i))
    ⟨[], none, none, none, none, none, rfl, s0, e0, .nil⟩ (fun _ _ _ _ ⟨_, _, _, _, _, _, _, s, _⟩ => s.tup hP) ?_ ?_⟩
  · rintro i y σ H4 H3 hi ⟨rs, y2, y3, y4, y5, y6, rfl, s, e, hrs⟩ ⟨rfl, hy⟩
    obtain ⟨n, hn, hrow⟩ := hA.get hy
    have hmem : n ∈ f.nodes := List.mem_of_getElem? hn
    have hdm := RF.dep_mem _ n hmem
    have hsm := RF.size_mem _ n hmem
    obtain ⟨hok, hne⟩ := RF.every_nodes.mp hev n hmem
    obtain ⟨d, rfl⟩ : ∃ d', d = d' + 1 := ⟨d - 1, by omega⟩
    have hrl := hrs.len
    rw [List.length_take] at hrl
    obtain ⟨o, wa, ba, pa, ws', rfl, hO, hW, hB, hPe, hXe⟩ := hrow.keeps (N := NoL) s.keeps
    refine ⟨o, _, rfl, hO, rfl, _, _, rfl, _, _, rfl, _, _, rfl, _, _, rfl, _, _, rfl, rfl, ?_⟩
    refine ⟨_, rfl, .inl ⟨rfl, _, sqL_of e⟩, _, rfl, _, rfl, _, rfl, fun c dxc nc ndc nec => ?_⟩
    have s1 : Same H3 (upd (upd H3 dxc (.own c)) c (.ins C dxc [])) := ((Same.refl H3).put ndc).put nc
    have hlen := hok.len
    refine ⟨c, dxc, wa, ba, n.hs, n.fs, rfl, upd_same, s1.tup hW, s1.tup hB, fw_txts hok.c1, fw_txts hok.c2, by omega, by omega, (fun i e => by rw [hok.c1] at e; cases e), fun _ => ⟨(fun i e => by rw [hok.c2] at e; cases e), fun _ H5 nn zs sX hc hnn hperm hsort => ⟨rfl, ?_⟩⟩⟩
    have s2 : Same H3 H5 := fun b' o' h => sX b' o' (fun e => by rw [e, nc] at h; cases h) (s1 _ _ h)
    have hcond : CondAt K C H5 c n.hs n.fs := ⟨dxc, wa, ba, nn, zs, hc, s2.tup hW, s2.tup hB, hnn, srt_uniq hperm hsort⟩
    have s05 := s.trans s2
    have e5 := s2 _ _ e
    refine ⟨_, rfl, _, rfl, fun l => N l ∧ l ≠ D, pa, ws', n.exc, rfl, s2.tup hPe, hXe.keeps (N := NoL) s2.keeps, fun l nl => ⟨hN l (s05.free nl), (fun z => by rw [z, e5] at nl; cases nl)⟩, by omega, by omega, by omega, hne, fun H6 t us s6 ht hF => ?_⟩
    have e6 := s6 _ _ e5
    intro x dx nx ndx nex
    have s7 : Same H6 (upd (upd H6 dx (.own x)) x (.ins R dx [])) := ((Same.refl H6).put ndx).put nx
    have l1 := name_len hok.nm
    have l2 := name_len hok.rl
    refine ⟨fun l => N l ∧ l ≠ D, x, dx, c, t, n.nm, n.rl, us, n.exc, rfl, upd_same, s7.tup ht, hF.keeps s7.keeps, by omega, by omega, by omega, by omega, (fun e => by rw [hok.nm] at e; cases e), fun _ => ⟨(fun e => by rw [hok.rl] at e; cases e), fun _ H8 l sX8 hx8 nelx nl el => ⟨rfl, ?_⟩⟩⟩
    have s8 : Same H6 H8 := fun b' o' h => sX8 b' o' (fun e => by rw [e, nx] at h; cases h) (s7 _ _ h)
    have s38 := (s2.trans s6).trans s8
    have s08 := s.trans s38
    have e8 := s8 _ _ e6
    have fl : H6 l = none := s7.free nl
    have hnd : NdAt K C R (fun l => N l ∧ l ≠ D) H8 x n := ⟨dx, c, t, l, us, hx8, (hcond.same s6).same s8, s8.tup ht, ⟨⟨hN l ((s05.trans s6).free fl), (fun z => by rw [z, e6] at fl; cases fl)⟩, el⟩, hF.keeps s8.keeps⟩
    refine ⟨D, _, _, rfl, rfl, e8, small1000 (by omega), ?_⟩
    have kk : Keeps (fun l => N l ∧ l ≠ D) H8 (upd H8 D (.lst (rs ++ [.ref x]))) := keeps_own e8 fun z => z.2 rfl
    refine ⟨rs ++ [.ref x], _, _, _, _, _, rfl, s08.put nD, upd_same, ?_⟩
    rw [take_more hn]
    exact (hrs.mono fun _ _ x => (x.keeps s38.keeps).keeps kk).snoc ⟨x, rfl, hnd.keeps kk⟩
  · rintro σ H3 ⟨rs, y2, y3, y4, y5, y6, rfl, s, e, hrs⟩
    rw [hln, List.take_length] at hrs
    refine ⟨_, rfl, D, _, rfl, .inl ⟨sqL_of e, fun t nt => ?_⟩⟩
    have s4 : Same H3 (upd H3 t (.tup rs)) := (Same.refl H3).put nt
    exact q _ t rs (s.trans s4) sqT_new (ForAt.of (hrs.mono fun _ _ ⟨o, e, x⟩ => ⟨o, e, (x.re fun b xs h _ => h.1).keeps s4.keeps⟩))
def sp_book2 (K : PySem.W.Frag) (C R B : Addr) : Sp := fun vs H Q _ => ∃ (N : Addr → Prop) (p fp pr : Addr) (xs : List Str) (last : Str) (ws : List V) (f : RF), vs = [.ref p] ∧ SqT K H p [.ref fp, .ref pr, .str last] ∧ SqT K H fp (xs.map V.str) ∧ Txts xs ∧ xs.length ≤ 1000 ∧ SqT K H pr ws ∧ RowsAt K H f ws ∧ (∀ l, H l = none → N l) ∧ f.every NdOk ∧ f.dep ≤ 12 ∧ f.size ≤ 900 ∧
  firstBad xs = none ∧ firstFault xs (f.pre 0) [] 0 0 = none ∧ isName last = true ∧ ∀ H' o, Same H H' → BookAt K C R B N H' o xs f last → Q (.ref o) H'
theorem ok_book2 {f : Addr} {fd : FuncData} (F : Fun K "_law_book" "_law_book" s__law_book f fd) (Bl : Blt mg) (k_Book : Mkr P w K mg base 17 "Book" B ["self", "facts", "rules", "ruling"] (sp_book_init K C R B CF CB))
    (c__law_made : Cal P w K mg base CX0 30 "_law_made" ["_law_rules"] (sp_made K C R 12)) :
    FnOk P w K mg base CX0 31 f fd ["_law_drawn_here"] (sp_book2 K C R B) := by
  refine F.ok sc__law_book (fun vs H Q E h => by obtain ⟨N, p, fp, pr, xs, last, ws, f, rfl, _⟩ := h; rfl) (fun cdv A outer s H vs Q E hr h => ?_)
  obtain ⟨N, p, fp, pr, xs, last, ws, f, rfl, hO, hS, tS, lS, hP, hX, hN, hev, hd, hz, hb, hff, hlast, q⟩ := h
  refine ⟨_, (pss_one (ps_ret (pe_mkN k_Book (hr.mono (by decide)) (pa_cons (pe_ix ix_tup (pv 0) pe_int (fun _ _ => rfl)) (pa_cons (pe_cal c__law_made (hr.mono (by decide)) (pa_cons (pe_ix ix_tup (pv 0) pe_int (fun _ _ => rfl)) pa_nil)) (pa_cons (pe_ix ix_tup (pv 0) pe_int (fun _ _ => rfl)) pa_nil)))))), ?_⟩
  refine ⟨_, rfl, p, _, 0, _, rfl, rfl, hO, atI_nat (j := 0) rfl, _, rfl, p, _, 1, _, rfl, rfl, hO, atI_nat (j := 1) rfl, N, pr, ws, f, rfl, hP, hX, hN, hd, by decide, hz, hev, fun H4 t us s4 ht hF => ?_⟩
  refine ⟨_, rfl, p, _, 2, _, rfl, rfl, s4.tup hO, atI_nat (j := 2) rfl, fun x dx nx ndx nex => ?_⟩
  have s5 : Same H4 (upd (upd H4 dx (.own x)) x (.ins B dx [])) := ((Same.refl H4).put ndx).put nx
  have s05 := s4.trans s5
  have ll := name_len hlast
  refine ⟨N, x, dx, fp, t, xs, last, us, f, rfl, upd_same, s05.tup hS, tS, lS, s5.tup ht, hF.keeps s5.keeps, hd, hz, fit_of hev, by omega, (fun i ei => by rw [hb] at ei; cases ei), fun _ => ⟨(fun wd i ei => by rw [hff] at ei; cases ei), fun _ => ⟨(fun z => by rw [hlast] at z; cases z), fun _ H6 l us2 sX6 hx6 nelx nl el hus => ⟨rfl, ?_⟩⟩⟩⟩
  have s6 : Same H4 H6 := fun b' o' h => sX6 b' o' (fun e => by rw [e, nx] at h; cases h) (s5 _ _ h)
  have s06 := s4.trans s6
  exact q H6 x s06 ⟨dx, fp, t, l, us, us2, hx6, s06.tup hS, s6.tup ht, hF.keeps s6.keeps, ⟨hN l (s4.free (s5.free nl)), el⟩, hus⟩
end
end Sc
namespace Sc
open PySem PySem.Spec PyProof.Rows L2
theorem sc__law_all : FnScope ["_law_rules", "_law_found", "_law_rule_here"] ["_law_rules"] (defScope s__law_all) := ⟨rfl, rfl, rfl, by decide +kernel, rfl, by decide +kernel, by decide +kernel⟩
section
variable {P : Program} {w : World} {K : PySem.W.Frag} {mg : Str → Option Value} {base : Heap}
def sp_all (K : PySem.W.Frag) (d : Nat) : Sp := fun vs H Q _ => ∃ (p : Addr) (ws : List V) (f : RF), vs = [.ref p] ∧ SqT K H p ws ∧ RowsAt K H f ws ∧ f.dep ≤ d ∧ f.size ≤ 900 ∧ ∀ H' D us, Same H H' → H' D = some (.lst us) → All2 (RowAt K H') us ((f.pre 0).map fun q => q.1) → Q (.ref D) H'
theorem pre_fst : ∀ (f : RF) (k : Nat), (f.pre k).map (fun q => q.1) = (f.pre 0).map fun q => q.1 := by
  intro f
  have h : ∀ (f : RF) (k j : Nat), (f.pre k).map (fun q => q.1) = (f.pre j).map fun q => q.1 := by
    intro f
    induction f with
    | nil => intro k j; rfl
    | cons nm hs fs rl exc rest ih1 ih2 =>
      intro k j
      show _ :: (exc.pre (k + 1) ++ rest.pre k).map _ = _ :: (exc.pre (j + 1) ++ rest.pre j).map _
      rw [List.map_append, List.map_append, ih1 (k + 1) (j + 1), ih2 k j]
  exact fun k => h f k 0
theorem ok_all {d : Nat} {f : Addr} {fd : FuncData} (F : Fun K "_law_all" "_law_all" s__law_all f fd) (B : Blt mg) (c__law_all : Cal P w K mg base CX0 (d + 1) "_law_all" ["_law_rules"] (Below (sp_all K) d)) :
    FnOk P w K mg base CX0 (d + 2) f fd ["_law_rules"] (sp_all K d) := by
  refine F.ok sc__law_all (fun vs H Q E h => by obtain ⟨p, ws, f, rfl, _⟩ := h; rfl) (fun cdv A outer s H vs Q E hr h => ?_)
  obtain ⟨p, ws, f, rfl, hP, hX, hd, hz, q⟩ := h
  have hA := hX.all
  have hln := hA.len
  have hlz := RF.nodes_le f
  refine ⟨_, (pss_cons (ps_set (i := 1) sc__law_all.nd rfl (Or.inl rfl) (pe_lst pa_nil))
      (pss_cons (ps_for PassesOwn.never rfl (pi_tup (pv 0)) (pg_name (i := 2) sc__law_all.nd rfl (Or.inl rfl)) (pss_one (ps_set (i := 1) sc__law_all.nd rfl (Or.inl rfl) (pe_op op_cat (pe_op op_cat (pv 1) (pe_lst (pa_cons (pv 2) pa_nil))) (pe_cal c__law_all hr (pa_cons (pe_ix ix_tup (pv 2) pe_int (fun _ _ => rfl)) pa_nil))))))
      (pss_one (ps_ret (pv 1))))), ?_⟩
  refine ⟨Nat.zero_le _, fun D0 nD0 => ⟨_, rfl, p, rfl, ⟨_, ((Same.refl H).put nD0).tup hP⟩, for_it walk_tup (fun i σ H' => ∃ (D : Addr) (us : List V) (y : Option V), σ = [some (.ref p), some (.ref D), y] ∧ Same H H' ∧ H' D = some (.lst us) ∧ All2 (RowAt K H') us ((RF.preL (f.nodes.take i) 0).map fun q => q.1))
    ⟨D0, [], none, rfl, (Same.refl H).put nD0, upd_same, .nil⟩ (fun _ _ _ _ ⟨_, _, _, _, s, _⟩ => s.tup hP) ?_ ?_⟩⟩
  · rintro i y σ H3 H2 hi ⟨D, us, y', rfl, s, e, hu⟩ ⟨rfl, hy⟩
    obtain ⟨n, hn, hrow⟩ := hA.get hy
    have hmem : n ∈ f.nodes := List.mem_of_getElem? hn
    have hdm := RF.dep_mem f n hmem
    have hsm := RF.size_mem f n hmem
    obtain ⟨d, rfl⟩ : ∃ d', d = d' + 1 := ⟨d - 1, by omega⟩
    have hul := hu.len
    rw [List.length_map] at hul
    have hpl := RF.preL_len (f := f) (i := i) (k := 0)
    have hrow2 := hrow.keeps (N := NoL) s.keeps
    refine ⟨_, rfl, _, rfl, (by show 1 ≤ sizeLine; decide), fun l1 n1 => ?_⟩
    have s1 : Same H2 (upd H2 l1 (.lst [y])) := (Same.refl H2).put n1
    have m1 : (upd H2 l1 (.lst [y])) l1 = some (.lst [y]) := upd_same
    generalize upd H2 l1 (.lst [y]) = H4 at s1 m1 ⊢
    refine ⟨D, l1, _, _, rfl, rfl, s1 _ _ e, m1, by rw [sizeLine_eq]; show us.length + 1 ≤ _; omega, fun l2 n2 => ?_⟩
    have s2 : Same H4 (upd H4 l2 (.lst (us ++ [y]))) := (Same.refl H4).put n2
    have m2 : (upd H4 l2 (.lst (us ++ [y]))) l2 = some (.lst (us ++ [y])) := upd_same
    generalize upd H4 l2 (.lst (us ++ [y])) = H5 at s2 m2 ⊢
    have s25 := s1.trans s2
    obtain ⟨o, wa, ba, pa, ws', ho, hO, hW, hB, hPe, hXe⟩ := hrow2.keeps (N := NoL) s25.keeps
    refine ⟨_, rfl, o, _, 4, _, ho, rfl, hO, atI_nat (j := 4) rfl, pa, ws', n.exc, rfl, hPe, hXe, by omega, by omega, fun H6 D6 us6 s6 e6 hu6 => ?_⟩
    have hl6 := hu6.len
    rw [List.length_map, RF.pre_len] at hl6
    refine ⟨l2, D6, _, _, rfl, rfl, s6 _ _ m2, e6, by rw [List.length_append, sizeLine_eq]; show us.length + 1 + _ ≤ _; omega, fun l7 n7 => ?_⟩
    have s7 : Same H6 (upd H6 l7 (.lst (us ++ [y] ++ us6))) := (Same.refl H6).put n7
    have s27 := (s25.trans s6).trans s7
    refine ⟨l7, _, _, rfl, s.trans s27, upd_same, ?_⟩
    rw [RF.preL_more hn, List.map_append, List.map_cons, pre_fst n.exc 1]
    have h1 := ((hu.mono fun _ _ x => x.keeps (N := NoL) s27.keeps).snoc (hrow2.keeps (N := NoL) s27.keeps)).app (hu6.mono fun _ _ x => x.keeps (N := NoL) s7.keeps)
    rw [List.append_assoc (List.map _ _)] at h1
    exact h1
  · rintro σ H2 ⟨D, us, y, rfl, s, e, hu⟩
    rw [hln, RF.preL_all] at hu
    exact ⟨_, rfl, q H2 D us s e hu⟩
end
end Sc
namespace Sc
open PySem PySem.Spec PyProof.Rows L2
section
variable {K : PySem.W.Frag} {H : Hp}
/-! ### rows as data -/
def RF.dats : RF → List PyData
  | .nil => []
  | .cons nm hs fs rl exc rest => .tuple [.str nm, .tuple (hs.map PyData.str), .tuple (fs.map PyData.str), .str rl, .tuple exc.dats] :: rest.dats
theorem dp_rows : ∀ {f : RF} {vs : List V}, RowsAt K H f vs → DpAll K H vs f.dats
  | .nil, _, h => by
    obtain rfl : _ = [] := h
    exact .nil
  | .cons nm hs fs rl exc rest, vs, h => by
    obtain ⟨o, w, b, p, ws, vs', rfl, h1, h2, h3, h4, h6, h7⟩ := h
    exact .cons (.tup h1 (.cons (.str _) (.cons (.tup h2 (dps K H hs)) (.cons (.tup h3 (dps K H fs)) (.cons (.str _) (.cons (.tup h4 (dp_rows h6)) .nil)))))) (dp_rows h7)
theorem lay_rows : ∀ {f : RF}, f.every NdOk → PyData.canLayAll0 f.dats = true
  | .nil, _ => rfl
  | .cons nm hs fs rl exc rest, h => by
    obtain ⟨h1, h2, h3⟩ := h
    show (((PyData.str nm).canLay0 && (PyData.canLayAll0 (hs.map PyData.str) && (PyData.canLayAll0 (fs.map PyData.str) && ((PyData.str rl).canLay0 && (PyData.canLayAll0 exc.dats && true))))) && PyData.canLayAll0 rest.dats) = true
    rw [(name_fine h1.nm).2, strs_lay (fw_fines h1.c1), strs_lay (fw_fines h1.c2), (name_fine h1.rl).2, lay_rows h2, lay_rows h3]
    rfl
theorem dep_rows : ∀ f : RF, PyData.depthAll f.dats ≤ 2 * f.dep
  | .nil => Nat.le_refl 0
  | .cons nm hs fs rl exc rest => by
    have h1 := dep_rows exc
    have h2 := dep_rows rest
    show max ((max (PyData.str nm).depth (max (PyData.depthAll (hs.map PyData.str) + 1) (max (PyData.depthAll (fs.map PyData.str) + 1) (max (PyData.str rl).depth (max (PyData.depthAll exc.dats + 1) 0))))) + 1) (PyData.depthAll rest.dats) ≤ 2 * max (exc.dep + 1) rest.dep
    rw [strs_depth, strs_depth]
    have e1 : (PyData.str nm).depth = 0 := rfl
    have e2 : (PyData.str rl).depth = 0 := rfl
    omega
theorem sh_rows {f : RF} (h : f.every NdOk) (d : f.dep ≤ 12) : SeqAt.shaped (.tuple f.dats) = true := by
  unfold SeqAt.shaped
  have e1 : (PyData.tuple f.dats).canLay0 = true := lay_rows h
  have e2 : (PyData.tuple f.dats).depth ≤ 64 := by
    have := dep_rows f
    show PyData.depthAll f.dats + 1 ≤ 64
    omega
  rw [e1, decide_eq_true e2]
  rfl
end
namespace RF
def ofL : List Nd → RF
  | [] => .nil
  | n :: r => .cons n.nm n.hs n.fs n.rl n.exc (ofL r)
theorem ofL_nodes : ∀ ns : List Nd, (ofL ns).nodes = ns
  | [] => rfl
  | n :: r => by show n :: (ofL r).nodes = _; rw [ofL_nodes r]
theorem ofL_every {p : Nd → Prop} : ∀ {ns : List Nd}, (∀ n ∈ ns, p n ∧ n.exc.every p) → (ofL ns).every p
  | [], _ => trivial
  | n :: r, h => ⟨(h n List.mem_cons_self).1, (h n List.mem_cons_self).2, ofL_every fun m hm => h m (List.mem_cons_of_mem _ hm)⟩
theorem ofL_dep {d : Nat} : ∀ {ns : List Nd}, (∀ n ∈ ns, n.exc.dep + 1 ≤ d) → (ofL ns).dep ≤ d
  | [], _ => Nat.zero_le _
  | n :: r, h => by
    have h1 := h n List.mem_cons_self
    have h2 := ofL_dep (ns := r) fun m hm => h m (List.mem_cons_of_mem _ hm)
    show max (n.exc.dep + 1) (ofL r).dep ≤ d
    omega
end RF
theorem sh_rowsL {f : RF} (h : f.every NdOk) (d : f.dep ≤ 12) : SeqAt.shaped (.list f.dats) = true := by
  unfold SeqAt.shaped
  have e1 : (PyData.list f.dats).canLay0 = true := lay_rows h
  have e2 : (PyData.list f.dats).depth ≤ 64 := by
    have := dep_rows f
    show PyData.depthAll f.dats + 1 ≤ 64
    omega
  rw [e1, decide_eq_true e2]
  rfl
theorem dats_nil {f : RF} : (PyData.list f.dats).eqv (.list []) = decide (f.nodes = []) := by
  cases f with
  | nil => rfl
  | cons nm hs fs rl exc rest => exact (decide_eq_false (List.cons_ne_nil _ _)).symm
end Sc
namespace Sc
open PySem PySem.Spec PyProof.Rows L2
/-- a book told in tuples -/
def SeenAt (K : PySem.W.Frag) (H : Hp) (p : Addr) (xs : List Str) (f : RF) (rl : Str) : Prop := ∃ (fp pr : Addr) (ws : List V), SqT K H p [.ref fp, .ref pr, .str rl] ∧ SqT K H fp (xs.map V.str) ∧ SqT K H pr ws ∧ RowsAt K H f ws
theorem SeenAt.keeps {K : PySem.W.Frag} {N : Addr → Prop} {H H' : Hp} {p : Addr} {xs : List Str} {f : RF} {rl : Str} (k : Keeps N H H') (h : SeenAt K H p xs f rl) : SeenAt K H' p xs f rl := by
  obtain ⟨fp, pr, ws, h1, h2, h3, h4⟩ := h
  exact ⟨fp, pr, ws, k.tup h1, k.tup h2, k.tup h3, h4.keeps k⟩
theorem sc__law_depths : FnScope ["_law_rules", "_law_deep", "_law_found", "_law_rule_here"] ["_law_rules", "_law_deep"] (defScope s__law_depths) := ⟨rfl, rfl, rfl, by decide +kernel, rfl, by decide +kernel, by decide +kernel⟩
theorem sc__law_beside : FnScope ["_law_rules", "_law_name", "_law_k", "_law_found"] ["_law_rules", "_law_name"] (defScope s__law_beside) := ⟨rfl, rfl, rfl, by decide +kernel, rfl, by decide +kernel, by decide +kernel⟩
section
variable {P : Program} {w : World} {K : PySem.W.Frag} {mg : Str → Option Value} {base : Heap} {C R B : Addr}
def sp_depths (K : PySem.W.Frag) (d : Nat) : Sp := fun vs H Q _ => ∃ (p : Addr) (k : Nat) (ws : List V) (f : RF), vs = [.ref p, .int (k : Nat)] ∧ SqT K H p ws ∧ RowsAt K H f ws ∧ f.dep ≤ d ∧ f.size ≤ 900 ∧ ∀ H' D, Same H H' → H' D = some (.lst ((f.pre k).map fun q => V.int (q.2 : Nat))) → Q (.ref D) H'
theorem ok_depths {d : Nat} {f : Addr} {fd : FuncData} (F : Fun K "_law_depths" "_law_depths" s__law_depths f fd) (B : Blt mg) (c__law_depths : Cal P w K mg base CX0 (d + 1) "_law_depths" ["_law_rules", "_law_deep"] (Below (sp_depths K) d)) :
    FnOk P w K mg base CX0 (d + 2) f fd ["_law_rules", "_law_deep"] (sp_depths K d) := by
  refine F.ok sc__law_depths (fun vs H Q E h => by obtain ⟨p, k, ws, f, rfl, _⟩ := h; rfl) (fun cdv A outer s H vs Q E hr h => ?_)
  obtain ⟨p, k, ws, f, rfl, hP, hX, hd, hz, q⟩ := h
  have hA := hX.all
  have hln := hA.len
  have hlz := RF.nodes_le f
  refine ⟨_, (pss_cons (ps_set (i := 2) sc__law_depths.nd rfl (Or.inl rfl) (pe_lst pa_nil))
      (pss_cons (ps_for PassesOwn.never rfl (pi_tup (pv 0)) (pg_name (i := 3) sc__law_depths.nd rfl (Or.inl rfl)) (pss_one (ps_set (i := 2) sc__law_depths.nd rfl (Or.inl rfl) (pe_op op_cat (pe_op op_cat (pv 2) (pe_lst (pa_cons (pv 1) pa_nil))) (pe_cal c__law_depths hr (pa_cons (pe_ix ix_tup (pv 3) pe_int (fun _ _ => rfl)) (pa_cons (pe_op op_add (pv 1) pe_int) pa_nil)))))))
      (pss_one (ps_ret (pv 2))))), ?_⟩
  refine ⟨Nat.zero_le _, fun D0 nD0 => ⟨_, rfl, p, rfl, ⟨_, ((Same.refl H).put nD0).tup hP⟩, for_it walk_tup (fun i σ H' => ∃ (D : Addr) (y : Option V), σ = [some (.ref p), some (.int (k : Nat)), some (.ref D), y] ∧ Same H H' ∧ H' D = some (.lst ((RF.preL (f.nodes.take i) k).map fun q => V.int (q.2 : Nat))))
    ⟨D0, none, rfl, (Same.refl H).put nD0, upd_same⟩ (fun _ _ _ _ ⟨_, _, _, s, _⟩ => s.tup hP) ?_ ?_⟩⟩
  · rintro i y σ H3 H2 hi ⟨D, y', rfl, s, e⟩ ⟨rfl, hy⟩
    obtain ⟨n, hn, hrow⟩ := hA.get hy
    have hmem : n ∈ f.nodes := List.mem_of_getElem? hn
    have hdm := RF.dep_mem f n hmem
    have hsm := RF.size_mem f n hmem
    obtain ⟨d, rfl⟩ : ∃ d', d = d' + 1 := ⟨d - 1, by omega⟩
    have hpl := RF.preL_len (f := f) (i := i) (k := k)
    have hpl2 := RF.preL_len (f := f) (i := i + 1) (k := k)
    rw [RF.preL_more hn, List.length_append, List.length_cons, RF.pre_len] at hpl2
    have hrow2 := hrow.keeps (N := NoL) s.keeps
    refine ⟨_, rfl, _, rfl, (by show 1 ≤ sizeLine; decide), fun l1 n1 => ?_⟩
    have s1 : Same H2 (upd H2 l1 (.lst [.int (k : Nat)])) := (Same.refl H2).put n1
    have m1 : (upd H2 l1 (.lst [.int (k : Nat)])) l1 = some (.lst [.int (k : Nat)]) := upd_same
    generalize upd H2 l1 (.lst [.int (k : Nat)]) = H4 at s1 m1 ⊢
    refine ⟨D, l1, _, _, rfl, rfl, s1 _ _ e, m1, by rw [sizeLine_eq, List.length_map]; show _ + 1 ≤ _; omega, fun l2 n2 => ?_⟩
    have s2 : Same H4 (upd H4 l2 (.lst ((RF.preL (f.nodes.take i) k).map (fun q => V.int (q.2 : Nat)) ++ [.int (k : Nat)]))) := (Same.refl H4).put n2
    have m2 : (upd H4 l2 (.lst ((RF.preL (f.nodes.take i) k).map (fun q => V.int (q.2 : Nat)) ++ [.int (k : Nat)]))) l2 = some (.lst ((RF.preL (f.nodes.take i) k).map (fun q => V.int (q.2 : Nat)) ++ [.int (k : Nat)])) := upd_same
    generalize upd H4 l2 (.lst ((RF.preL (f.nodes.take i) k).map (fun q => V.int (q.2 : Nat)) ++ [.int (k : Nat)])) = H5 at s2 m2 ⊢
    have s25 := s1.trans s2
    obtain ⟨o, wa, ba, pa, ws', ho, hO, hW, hB, hPe, hXe⟩ := hrow2.keeps (N := NoL) s25.keeps
    refine ⟨_, rfl, o, _, 4, _, ho, rfl, hO, atI_nat (j := 4) rfl, _, rfl, _, _, rfl, rfl, pa, k + 1, ws', n.exc, rfl, hPe, hXe, by omega, by omega, fun H6 D6 s6 e6 => ?_⟩
    refine ⟨l2, D6, _, _, rfl, rfl, s6 _ _ m2, e6, by rw [List.length_append, sizeLine_eq, List.length_map, List.length_map, RF.pre_len]; show _ + 1 + _ ≤ _; omega, fun l7 n7 => ?_⟩
    refine ⟨l7, _, rfl, s.trans (((s25.trans s6)).put' n7), ?_⟩
    rw [upd_same, RF.preL_more hn, List.map_append, List.map_cons]
    simp
  · rintro σ H2 ⟨D, y, rfl, s, e⟩
    rw [hln, RF.preL_all] at e
    exact ⟨_, rfl, q H2 D s e⟩
def sp_besideL (K : PySem.W.Frag) (d : Nat) : Sp := fun vs H Q _ => ∃ (p : Addr) (nm : Str) (ws : List V) (f : RF), vs = [.ref p, .str nm] ∧ SqT K H p ws ∧ RowsAt K H f ws ∧ f.dep ≤ d ∧ f.size ≤ 900 ∧ (RF.bes nm f = none → ∀ H', Same H H' → Q .non H') ∧
  ∀ m k, RF.bes nm f = some (m, k) → ∀ H' t (e : Nat), Same H H' → H' t = some (.tup [.int (m : Nat), .int (k : Nat), .int (e : Nat)]) → Q (.ref t) H'
theorem ok_besideL {d : Nat} {f : Addr} {fd : FuncData} (F : Fun K "_law_beside" "_law_beside" s__law_beside f fd) (B : Blt mg) (c__law_beside : Cal P w K mg base CX0 (d + 1) "_law_beside" ["_law_rules", "_law_name"] (Below (sp_besideL K) d)) :
    FnOk P w K mg base CX0 (d + 2) f fd ["_law_rules", "_law_name"] (sp_besideL K d) := by
  refine F.ok sc__law_beside (fun vs H Q E h => by obtain ⟨p, nm, ws, f, rfl, _⟩ := h; rfl) (fun cdv A outer s H vs Q E hr h => ?_)
  obtain ⟨p, nm, ws, f, rfl, hP, hX, hd, hz, q0, q1⟩ := h
  have hA := hX.all
  have hln := hA.len
  have hlz := RF.nodes_le f
  refine ⟨_, (pss_cons (ps_for PassesOwn.never rfl (pi_range1 (by rfl) B.b_range (pa_cons (pe_callB call_len_seq (by rfl) B.b_len PySem.boot_len (pa_cons (pv 0) pa_nil)) pa_nil)) (pg_name (i := 2) sc__law_beside.nd rfl (Or.inl rfl)) (pss_cons (ps_if (pt_cmpR op_eq (pe_ix ix_tup (pe_ix ix_tup (pv 0) (pv 2) (fun _ _ => rfl)) pe_int (fun _ _ => rfl)) (pv 1) (nomark _)) (pss_one (ps_ret (pe_tup (pa_cons (pe_callB call_len_seq (by rfl) B.b_len PySem.boot_len (pa_cons (pv 0) pa_nil)) (pa_cons (pv 2) (pa_cons pe_int pa_nil)))))) pss_nil)
      (pss_cons (ps_set (i := 3) sc__law_beside.nd rfl (Or.inl rfl) (pe_cal c__law_beside hr (pa_cons (pe_ix ix_tup (pe_ix ix_tup (pv 0) (pv 2) (fun _ _ => rfl)) pe_int (fun _ _ => rfl)) (pa_cons (pv 1) pa_nil))))
      (pss_one (ps_if (pt_cmpR op_notN (pv 3) pe_non (nomark _)) (pss_one (ps_ret (pe_tup (pa_cons (pe_ix ix_tup (pv 3) pe_int (fun _ _ => rfl)) (pa_cons (pe_ix ix_tup (pv 3) pe_int (fun _ _ => rfl)) (pa_cons (pe_op op_add (pe_ix ix_tup (pv 3) pe_int (fun _ _ => rfl)) pe_int) pa_nil)))))) pss_nil)))))
      (pss_one (ps_ret pe_non))), ?_⟩
  refine ⟨_, rfl, p, _, rfl, .inr hP, _, rfl, by omega, by omega, for_it walk_range (fun i σ H' => ∃ (y2 y3 : Option V), σ = [some (.ref p), some (.str nm), y2, y3] ∧ Same H H' ∧ RF.bes nm f = RF.besL nm f.nodes.length i (f.rest i))
    ⟨none, none, rfl, Same.refl H, by unfold RF.rest; rw [List.drop_zero, RF.of_nodes]; rfl⟩ (fun _ _ _ _ _ => trivial) ?_ ?_⟩
  · rintro i y σ H3 H2 hi ⟨y2, y3, rfl, s, hb⟩ ⟨rfl, hy⟩
    have hi : i < ws.length := by
      have hi : i < ((ws.length : Nat) : Int).toNat := hi
      omega
    have hin : i < f.nodes.length := by omega
    have hy : y = V.int (i : Nat) := by rw [hy]; show V.int (0 + (i : Nat)) = _; rw [Int.zero_add]
    subst hy
    obtain ⟨v, hv, hrow⟩ := hA.at' hin
    have hmem : f.nodes[i] ∈ f.nodes := List.getElem_mem hin
    have hdm := RF.dep_mem f _ hmem
    have hsm := RF.size_mem f _ hmem
    have hrest : f.rest i = RF.cons f.nodes[i].nm f.nodes[i].hs f.nodes[i].fs f.nodes[i].rl f.nodes[i].exc (f.rest (i + 1)) := by
      unfold RF.rest
      rw [List.drop_eq_getElem_cons hin]
      rfl
    generalize f.nodes[i] = n at hrow hmem hdm hsm hrest
    rw [hrest] at hb
    have hb : RF.bes nm f = (if n.nm = nm then some (f.nodes.length, i) else match RF.bes nm n.exc with | some r => some r | none => RF.besL nm f.nodes.length (i + 1) (f.rest (i + 1))) := hb
    obtain ⟨d, rfl⟩ : ∃ d', d = d' + 1 := ⟨d - 1, by omega⟩
    obtain ⟨o, wa, ba, pa, ws', rfl, hO, hW, hB, hPe, hXe⟩ := hrow.keeps (N := NoL) s.keeps
    refine ⟨_, rfl, _, rfl, p, _, _, _, rfl, rfl, s.tup hP, atI_nat (j := i) hv, o, _, 0, _, rfl, rfl, hO, atI_nat (j := 0) rfl, _, rfl, rfl, _, rfl, bcase (fun c1 => ?_) (fun c1 => ?_)⟩
    · have c1 : n.nm = nm := V.str.inj (of_decide_eq_true c1)
      rw [if_pos c1] at hb
      refine ⟨_, rfl, p, _, rfl, .inr (s.tup hP), _, rfl, (by show 3 ≤ sizeLine; decide), fun t nt => ?_⟩
      exact q1 _ _ hb _ t 0 (s.put' nt) (by rw [upd_same, hln]; rfl)
    have c1 : n.nm ≠ nm := fun z => of_decide_eq_false c1 (by rw [z])
    rw [if_neg c1] at hb
    refine ⟨_, rfl, _, rfl, p, _, _, _, rfl, rfl, s.tup hP, atI_nat (j := i) hv, o, _, 4, _, rfl, rfl, hO, atI_nat (j := 4) rfl, _, rfl, pa, nm, ws', n.exc, rfl, hPe, hXe, by omega, by omega, (fun e H' s' => ?_), fun m k e H' t z s' et => ?_⟩
    · rw [e] at hb
      refine ⟨_, rfl, rfl, _, rfl, iteF ?_⟩
      exact ⟨_, _, rfl, s.trans s', hb⟩
    · rw [e] at hb
      refine ⟨_, rfl, rfl, _, rfl, iteT ?_⟩
      refine ⟨_, rfl, t, _, 0, _, rfl, rfl, sqT_of et, atI_nat (j := 0) rfl, _, rfl, t, _, 1, _, rfl, rfl, sqT_of et, atI_nat (j := 1) rfl, _, rfl, t, _, 2, _, rfl, rfl, sqT_of et, atI_nat (j := 2) rfl, _, _, rfl, rfl, (by show 3 ≤ sizeLine; decide), fun t2 nt2 => ?_⟩
      exact q1 _ _ hb _ t2 (z + 1) ((s.trans s').put' nt2) upd_same
  · rintro σ H2 ⟨y2, y3, rfl, s, hb⟩
    refine q0 ?_ H2 s
    rw [hb]
    have e : f.rest ws.length = RF.nil := by
      unfold RF.rest
      rw [hln, List.drop_length]
      rfl
    first
      | (rw [e]; rfl)
      | (rw [show ((ws.length : Nat) : Int).toNat = ws.length by omega, e]; rfl)
end
end Sc
namespace Sc
open PySem PySem.Spec PyProof.Rows L2
theorem sc__law_changed : FnScope ["_law_row", "_law_k", "_law_word", "_law_what", "_law_head", "_law_one", "_law_tail"] ["_law_row", "_law_k", "_law_word", "_law_what"] (defScope s__law_changed) := ⟨rfl, rfl, rfl, by decide +kernel, rfl, by decide +kernel, by decide +kernel⟩
theorem sc__law_edit : FnScope ["_law_rules", "_law_name", "_law_word", "_law_what", "_law_k", "_law_rule_here"] ["_law_rules", "_law_name", "_law_word", "_law_what"] (defScope s__law_edit) := ⟨rfl, rfl, rfl, by decide +kernel, rfl, by decide +kernel, by decide +kernel⟩
section
variable {P : Program} {w : World} {K : PySem.W.Frag} {mg : Str → Option Value} {base : Heap} {C R B : Addr}
/-- what stands in a drawn amendment of a rule -/
def OpW (K : PySem.W.Frag) (H : Hp) (word : Str) (what : V) : Op → Prop
  | .strike => word = "strike" ∧ what = .non
  | .swap => word = "swap" ∧ what = .non
  | .before m => word = "before" ∧ RowAt K H what m
  | .add m => word = "add" ∧ RowAt K H what m
  | .ruling z => word = "ruling" ∧ what = .str z
  | .cond hs gs => word = "condition" ∧ ∃ t hp gp, what = .ref t ∧ SqT K H t [.ref hp, .ref gp] ∧ SqT K H hp (hs.map V.str) ∧ SqT K H gp (gs.map V.str)
theorem OpW.keeps {N : Addr → Prop} {H H' : Hp} {word : Str} {what : V} {op : Op} (k : Keeps N H H') (h : OpW K H word what op) : OpW K H' word what op := by
  cases op with
  | before m => exact ⟨h.1, h.2.keeps k⟩
  | add m => exact ⟨h.1, h.2.keeps k⟩
  | cond hs gs => obtain ⟨h1, t, hp, gp, e, h2, h3, h4⟩ := h; exact ⟨h1, t, hp, gp, e, k.tup h2, k.tup h3, k.tup h4⟩
  | _ => exact h
theorem rows_put {H : Hp} {us : List V} {g : RF} {ns : List Nd} (h : All2 (RowAt K H) us ns) (e : g.nodes = ns) : RowsAt K H g us := RowsAt.of (by rw [e]; exact h)
theorem upd_nodes {f : RF} {k : Nat} {n : Nd} {op : Op} (h : op ≠ .swap) : (RF.put (f.nodes.take k) (op.G n (RF.ofNodes (f.nodes.drop (k + 1))))).nodes = f.nodes.take k ++ (op.news n ++ f.nodes.drop (k + 1)) := by
  rw [RF.put_nodes]
  cases op with
  | swap => exact absurd rfl h
  | _ =>
    show _ ++ (RF.put _ _).nodes = _
    rw [RF.put_nodes, RF.nodes_of]
theorem upd_swap {f : RF} {k : Nat} {n b : Nd} (h : f.nodes[k + 1]? = some b) : (RF.put (f.nodes.take k) (Op.swap.G n (RF.ofNodes (f.nodes.drop (k + 1))))).nodes = f.nodes.take k ++ (b :: n :: f.nodes.drop (k + 2)) := by
  obtain ⟨hl, e⟩ := List.getElem?_eq_some_iff.mp h
  rw [RF.put_nodes, List.drop_eq_getElem_cons hl, e]
  show _ ++ (RF.cons b.nm b.hs b.fs b.rl b.exc (RF.put [n] (RF.ofNodes (f.nodes.drop (k + 1 + 1))))).nodes = _
  show _ ++ (b :: (RF.put [n] (RF.ofNodes (f.nodes.drop (k + 1 + 1)))).nodes) = _
  rw [RF.put_nodes, RF.nodes_of]
  rfl
def sp_changed (K : PySem.W.Frag) : Sp := fun vs H Q _ => ∃ (p : Addr) (k : Nat) (word : Str) (what : V) (ws : List V) (f : RF) (n : Nd) (op : Op), vs = [.ref p, .int (k : Nat), .str word, what] ∧ SqT K H p ws ∧ RowsAt K H f ws ∧ f.size ≤ 900 ∧ f.nodes[k]? = some n ∧ OpW K H word what op ∧
  (op = .swap → k + 1 < f.nodes.length) ∧ ∀ H' p' us, Same H H' → SqT K H' p' us → RowsAt K H' (RF.put (f.nodes.take k) (op.G n (RF.ofNodes (f.nodes.drop (k + 1))))) us → Q (.ref p') H'
theorem ok_changed {f : Addr} {fd : FuncData} (F : Fun K "_law_changed" "_law_changed" s__law_changed f fd) (B : Blt mg) : FnOk P w K mg base CX0 1 f fd ["_law_row", "_law_k", "_law_word", "_law_what"] (sp_changed K) := by
  refine F.ok sc__law_changed (fun vs H Q E h => by obtain ⟨p, k, word, what, ws, f, n, op, rfl, _⟩ := h; rfl) (fun cdv A outer s H vs Q E hr h => ?_)
  obtain ⟨p, k, word, what, ws, f, n, op, rfl, hP, hX, hz, hk, hop, hsw, q⟩ := h
  refine ⟨_, (pss_cons (ps_par3 (i := 4) (j := 5) (l := 6) rfl sc__law_changed.nd rfl rfl rfl (by decide) (by decide) (by decide) rfl rfl rfl (pa_cons (pe_slice sl_tupA (pv 0) po_none (po_some (pv 1))) (pa_cons (pe_ix ix_tup (pv 0) (pv 1) (fun _ _ => rfl)) (pa_cons (pe_slice sl_tupA (pv 0) (po_some (pe_op op_add (pv 1) pe_int)) po_none) pa_nil))) rfl)
      (pss_cons (ps_if (pt_cmpR op_eq (pv 2) pe_str (nomark _)) (pss_one (ps_ret (pe_op op_catA (pv 4) (pv 6)))) pss_nil)
      (pss_cons (ps_if (pt_cmpR op_eq (pv 2) pe_str (nomark _)) (pss_one (ps_ret (pe_op op_catA (pe_op op_catA (pv 4) (pe_tup (pa_cons (pe_ix ix_tup (pv 0) (pe_op op_add (pv 1) pe_int) (fun _ _ => rfl)) (pa_cons (pv 5) pa_nil)))) (pe_slice sl_tupA (pv 0) (po_some (pe_op op_add (pv 1) pe_int)) po_none)))) pss_nil)
      (pss_cons (ps_if (pt_cmpR op_eq (pv 2) pe_str (nomark _)) (pss_one (ps_ret (pe_op op_catA (pe_op op_catA (pv 4) (pe_tup (pa_cons (pv 3) (pa_cons (pv 5) pa_nil)))) (pv 6)))) pss_nil)
      (pss_cons (ps_if (pt_cmpR op_eq (pv 2) pe_str (nomark _)) (pss_one (ps_set (i := 5) sc__law_changed.nd rfl (Or.inl rfl) (pe_op op_catA (pe_slice sl_tupA (pv 5) po_none (po_some pe_int)) (pe_tup (pa_cons (pe_op op_catA (pe_ix ix_tup (pv 5) pe_int (fun _ _ => rfl)) (pe_tup (pa_cons (pv 3) pa_nil))) pa_nil))))) pss_nil)
      (pss_cons (ps_if (pt_cmpR op_eq (pv 2) pe_str (nomark _)) (pss_one (ps_set (i := 5) sc__law_changed.nd rfl (Or.inl rfl) (pe_op op_catA (pe_slice sl_tupA (pv 5) po_none (po_some pe_int)) (pe_tup (pa_cons (pv 3) (pa_cons (pe_ix ix_tup (pv 5) pe_int (fun _ _ => rfl)) pa_nil)))))) pss_nil)
      (pss_cons (ps_if (pt_cmpR op_eq (pv 2) pe_str (nomark _)) (pss_one (ps_set (i := 5) sc__law_changed.nd rfl (Or.inl rfl) (pe_op op_catA (pe_op op_catA (pe_tup (pa_cons (pe_ix ix_tup (pv 5) pe_int (fun _ _ => rfl)) pa_nil)) (pv 3)) (pe_slice sl_tupA (pv 5) (po_some pe_int) po_none)))) pss_nil)
      (pss_one (ps_ret (pe_op op_catA (pe_op op_catA (pv 4) (pe_tup (pa_cons (pv 5) pa_nil))) (pv 6))))))))))), ?_⟩
  have hA := hX.all
  have hln := hA.len
  have hlz := RF.nodes_le f
  obtain ⟨v, hv, hrow⟩ := hA.get' hk
  refine ⟨_, rfl, ?_⟩
  dsimp only [tNoPart]
  refine ⟨_, rfl, _, rfl, ?_⟩
  refine sl_any hP fun ph H1 s1 hph => ?_
  rw [cut_to] at hph
  refine ⟨_, rfl, _, rfl, p, _, _, v, rfl, rfl, s1.tup hP, atI_nat hv, _, rfl, _, rfl, _, _, rfl, rfl, _, rfl, ?_⟩
  dsimp only [tNoPart]
  refine sl_any (s1.tup hP) fun pt H2 s2 hpt => ?_
  rw [show ((k : Nat) : Int) + 1 = ((k + 1 : Nat) : Int) from rfl, cut_from] at hpt
  refine ⟨_, _, _, rfl, ?_⟩
  have s02 := s1.trans s2
  have hA2 : All2 (RowAt K H2) ws f.nodes := hA.mono fun _ _ x => x.keeps (N := NoL) s02.keeps
  have hh := hA2.take k
  have ht := hA2.drop (k + 1)
  have hw := hop.keeps (N := NoL) s02.keeps
  have hrow2 := hrow.keeps (N := NoL) s02.keeps
  have hph2 := s2.tup hph
  have hP2 := s02.tup hP
  have htl : (ws.take k).length ≤ 900 := by rw [List.length_take]; omega
  have hdl : (ws.drop (k + 1)).length ≤ 900 := by rw [List.length_drop]; omega
  have szl : 3000 ≤ sizeLine := by rw [sizeLine_eq]; decide
  clear hop hrow hA hX hph hP s1 s2
  cases op with
  | strike =>
    obtain ⟨rfl, rfl⟩ := hw
    refine ⟨_, rfl, rfl, _, rfl, iteT ?_⟩
    refine ⟨_, rfl, _, rfl, cat_any hph2 hpt (by omega) fun p3 H3 s3 hp3 => ?_⟩
    exact q _ p3 _ (s02.trans s3) hp3 (rows_put ((hh.app ht).mono fun _ _ x => x.keeps (N := NoL) s3.keeps) (upd_nodes (fun z => nomatch z)))
  | swap =>
    obtain ⟨rfl, rfl⟩ := hw
    have hk1 := hsw rfl
    obtain ⟨vb, hvb, hrb⟩ := hA2.at' hk1
    refine ⟨_, rfl, rfl, _, rfl, iteF ⟨_, rfl, rfl, _, rfl, iteT ?_⟩⟩
    refine ⟨_, rfl, _, rfl, _, rfl, _, _, rfl, rfl, p, _, _, vb, rfl, rfl, hP2, atI_nat (j := k + 1) hvb, _, rfl, (by show 2 ≤ sizeLine; decide), fun t nt => ?_⟩
    have s3 : Same H2 (upd H2 t (.tup [vb, v])) := (Same.refl H2).put nt
    have e3 : (upd H2 t (.tup [vb, v])) t = some (.tup [vb, v]) := upd_same
    generalize upd H2 t (.tup [vb, v]) = H3 at s3 e3 ⊢
    refine cat_any (s3.tup hph2) (sqT_of e3) (by show _ + 2 ≤ _; omega) fun p4 H4 s4 hp4 => ?_
    refine ⟨_, rfl, _, rfl, _, _, rfl, rfl, _, rfl, ?_⟩
    dsimp only [tNoPart]
    refine sl_any ((s3.trans s4).tup hP2) fun p5 H5 s5 hp5 => ?_
    rw [show ((k : Nat) : Int) + 2 = ((k + 2 : Nat) : Int) from rfl, cut_from] at hp5
    have hdl2 : (ws.drop (k + 2)).length ≤ 900 := by rw [List.length_drop]; omega
    refine cat_any (s5.tup hp4) hp5 (by rw [List.length_append]; show _ + 2 + _ ≤ _; omega) fun p6 H6 s6 hp6 => ?_
    have s26 := (s3.trans s4).trans (s5.trans s6)
    refine q _ p6 _ (s02.trans s26) hp6 (rows_put ?_ (upd_swap (List.getElem?_eq_getElem hk1)))
    rw [List.append_assoc]
    exact (hh.app (.cons hrb (.cons hrow2 (hA2.drop (k + 2))))).mono fun _ _ x => x.keeps (N := NoL) s26.keeps
  | before m =>
    obtain ⟨rfl, hm⟩ := hw
    refine ⟨_, rfl, rfl, _, rfl, iteF ⟨_, rfl, rfl, _, rfl, iteF ⟨_, rfl, rfl, _, rfl, iteT ?_⟩⟩⟩
    refine ⟨_, rfl, _, rfl, _, rfl, (by show 2 ≤ sizeLine; decide), fun t nt => ?_⟩
    have s3 : Same H2 (upd H2 t (.tup [what, v])) := (Same.refl H2).put nt
    have e3 : (upd H2 t (.tup [what, v])) t = some (.tup [what, v]) := upd_same
    generalize upd H2 t (.tup [what, v]) = H3 at s3 e3 ⊢
    refine cat_any (s3.tup hph2) (sqT_of e3) (by show _ + 2 ≤ _; omega) fun p4 H4 s4 hp4 => ?_
    refine ⟨_, rfl, cat_any hp4 ((s3.trans s4).tup hpt) (by rw [List.length_append]; show _ + 2 + _ ≤ _; omega) fun p6 H6 s6 hp6 => ?_⟩
    have s26 := (s3.trans s4).trans s6
    refine q _ p6 _ (s02.trans s26) hp6 (rows_put ?_ (upd_nodes (fun z => nomatch z)))
    rw [List.append_assoc]
    exact (hh.app (.cons hm (.cons hrow2 ht))).mono fun _ _ x => x.keeps (N := NoL) s26.keeps
  | add m =>
    obtain ⟨rfl, hm⟩ := hw
    obtain ⟨o, wa, ba, pa, ws', rfl, hO, hW, hB, hPe, hXe⟩ := id hrow2
    have hel := hXe.len
    have hez := RF.nodes_le n.exc
    have hnz := RF.size_mem f n (List.mem_of_getElem? hk)
    refine ⟨_, rfl, rfl, _, rfl, iteF ⟨_, rfl, rfl, _, rfl, iteF ⟨_, rfl, rfl, _, rfl, iteF ⟨_, rfl, rfl, _, rfl, iteT ?_⟩⟩⟩⟩
    refine ⟨_, rfl, ?_⟩
    dsimp only [tNoPart]
    refine ⟨_, rfl, ?_⟩
    refine sl_any hO fun p3 H3 s3 hp3 => ?_
    rw [show (4 : Int) = ((4 : Nat) : Int) from rfl, cut_to] at hp3
    refine ⟨_, rfl, o, _, 4, _, rfl, rfl, s3.tup hO, atI_nat (j := 4) rfl, _, rfl, (by show 1 ≤ sizeLine; decide), fun t4 nt4 => ?_⟩
    have s4 : Same H3 (upd H3 t4 (.tup [what])) := (Same.refl H3).put nt4
    have e4 : (upd H3 t4 (.tup [what])) t4 = some (.tup [what]) := upd_same
    generalize upd H3 t4 (.tup [what]) = H4 at s4 e4 ⊢
    refine cat_any ((s3.trans s4).tup hPe) (sqT_of e4) (by show _ + 1 ≤ _; omega) fun p5 H5 s5 hp5 => ?_
    refine ⟨(by show 1 ≤ sizeLine; decide), fun t6 nt6 => ?_⟩
    have s6 : Same H5 (upd H5 t6 (.tup [.ref p5])) := (Same.refl H5).put nt6
    have e6 : (upd H5 t6 (.tup [.ref p5])) t6 = some (.tup [.ref p5]) := upd_same
    generalize upd H5 t6 (.tup [.ref p5]) = H6 at s6 e6 ⊢
    have s36 := (s4.trans s5).trans s6
    refine cat_any (s36.tup hp3) (sqT_of e6) (by show 4 + 1 ≤ _; omega) fun p7 H7 s7 hp7 => ?_
    have s27 := (s3.trans s36).trans s7
    have hnew : RowAt K H7 (.ref p7) (n.wE (n.exc.snoc m)) := ⟨p7, wa, ba, p5, ws' ++ [what], rfl, hp7, s27.tup hW, s27.tup hB, (s6.trans s7).tup hp5, rows_snoc (hXe.keeps (N := NoL) s27.keeps) (hm.keeps (N := NoL) s27.keeps)⟩
    refine ⟨_, rfl, rfl, _, rfl, iteF ⟨_, rfl, rfl, _, rfl, iteF ?_⟩⟩
    refine ⟨_, rfl, _, rfl, (by show 1 ≤ sizeLine; decide), fun t8 nt8 => ?_⟩
    have s8 : Same H7 (upd H7 t8 (.tup [.ref p7])) := (Same.refl H7).put nt8
    have e8 : (upd H7 t8 (.tup [.ref p7])) t8 = some (.tup [.ref p7]) := upd_same
    generalize upd H7 t8 (.tup [.ref p7]) = H8 at s8 e8 ⊢
    refine cat_any ((s27.trans s8).tup hph2) (sqT_of e8) (by show _ + 1 ≤ _; omega) fun p9 H9 s9 hp9 => ?_
    refine ⟨_, rfl, cat_any hp9 (((s27.trans s8).trans s9).tup hpt) (by rw [List.length_append]; show _ + 1 + _ ≤ _; omega) fun p10 H10 s10 hp10 => ?_⟩
    have s29 := (s27.trans s8).trans (s9.trans s10)
    refine q _ p10 _ (s02.trans s29) hp10 (rows_put ?_ (upd_nodes (fun z => nomatch z)))
    rw [List.append_assoc]
    exact (hh.mono fun _ _ x => x.keeps (N := NoL) s29.keeps).app (.cons (hnew.keeps (N := NoL) (s8.trans (s9.trans s10)).keeps) (ht.mono fun _ _ x => x.keeps (N := NoL) s29.keeps))
  | ruling z =>
    obtain ⟨rfl, rfl⟩ := hw
    obtain ⟨o, wa, ba, pa, ws', rfl, hO, hW, hB, hPe, hXe⟩ := id hrow2
    refine ⟨_, rfl, rfl, _, rfl, iteF ⟨_, rfl, rfl, _, rfl, iteF ⟨_, rfl, rfl, _, rfl, iteF ⟨_, rfl, rfl, _, rfl, iteF ⟨_, rfl, rfl, _, rfl, iteT ?_⟩⟩⟩⟩⟩
    refine ⟨_, rfl, ?_⟩
    dsimp only [tNoPart]
    refine ⟨_, rfl, ?_⟩
    refine sl_any hO fun p3 H3 s3 hp3 => ?_
    rw [show (3 : Int) = ((3 : Nat) : Int) from rfl, cut_to] at hp3
    refine ⟨_, rfl, _, rfl, o, _, 4, _, rfl, rfl, s3.tup hO, atI_nat (j := 4) rfl, (by show 2 ≤ sizeLine; decide), fun t6 nt6 => ?_⟩
    have s6 : Same H3 (upd H3 t6 (.tup [.str z, .ref pa])) := (Same.refl H3).put nt6
    have e6 : (upd H3 t6 (.tup [.str z, .ref pa])) t6 = some (.tup [.str z, .ref pa]) := upd_same
    generalize upd H3 t6 (.tup [.str z, .ref pa]) = H6 at s6 e6 ⊢
    refine cat_any (s6.tup hp3) (sqT_of e6) (by show 3 + 2 ≤ _; omega) fun p7 H7 s7 hp7 => ?_
    have s27 := (s3.trans s6).trans s7
    have hnew : RowAt K H7 (.ref p7) ⟨n.nm, n.hs, n.fs, z, n.exc⟩ := ⟨p7, wa, ba, pa, ws', rfl, hp7, s27.tup hW, s27.tup hB, s27.tup hPe, hXe.keeps (N := NoL) s27.keeps⟩
    refine ⟨_, rfl, rfl, _, rfl, iteF ?_⟩
    refine ⟨_, rfl, _, rfl, (by show 1 ≤ sizeLine; decide), fun t8 nt8 => ?_⟩
    have s8 : Same H7 (upd H7 t8 (.tup [.ref p7])) := (Same.refl H7).put nt8
    have e8 : (upd H7 t8 (.tup [.ref p7])) t8 = some (.tup [.ref p7]) := upd_same
    generalize upd H7 t8 (.tup [.ref p7]) = H8 at s8 e8 ⊢
    refine cat_any ((s27.trans s8).tup hph2) (sqT_of e8) (by show _ + 1 ≤ _; omega) fun p9 H9 s9 hp9 => ?_
    refine ⟨_, rfl, cat_any hp9 (((s27.trans s8).trans s9).tup hpt) (by rw [List.length_append]; show _ + 1 + _ ≤ _; omega) fun p10 H10 s10 hp10 => ?_⟩
    have s29 := (s27.trans s8).trans (s9.trans s10)
    refine q _ p10 _ (s02.trans s29) hp10 (rows_put ?_ (upd_nodes (fun z => nomatch z)))
    rw [List.append_assoc]
    exact (hh.mono fun _ _ x => x.keeps (N := NoL) s29.keeps).app (.cons (hnew.keeps (N := NoL) (s8.trans (s9.trans s10)).keeps) (ht.mono fun _ _ x => x.keeps (N := NoL) s29.keeps))
  | cond hs gs =>
    obtain ⟨rfl, tc, hp, gp, rfl, htc, hhp, hgp⟩ := hw
    obtain ⟨o, wa, ba, pa, ws', rfl, hO, hW, hB, hPe, hXe⟩ := id hrow2
    refine ⟨_, rfl, rfl, _, rfl, iteF ⟨_, rfl, rfl, _, rfl, iteF ⟨_, rfl, rfl, _, rfl, iteF ⟨_, rfl, rfl, _, rfl, iteF ⟨_, rfl, rfl, _, rfl, iteF ⟨_, rfl, rfl, _, rfl, iteT ?_⟩⟩⟩⟩⟩⟩
    refine ⟨_, rfl, o, _, 0, _, rfl, rfl, hO, atI_nat (j := 0) rfl, (by show 1 ≤ sizeLine; decide), fun t3 nt3 => ?_⟩
    have s3 : Same H2 (upd H2 t3 (.tup [.str n.nm])) := (Same.refl H2).put nt3
    have e3 : (upd H2 t3 (.tup [.str n.nm])) t3 = some (.tup [.str n.nm]) := upd_same
    generalize upd H2 t3 (.tup [.str n.nm]) = H3 at s3 e3 ⊢
    refine ⟨_, rfl, cat_any (sqT_of e3) (s3.tup htc) (by show 1 + 2 ≤ _; omega) fun p4 H4 s4 hp4 => ?_⟩
    refine ⟨_, rfl, _, rfl, ?_⟩
    dsimp only [tNoPart]
    refine sl_any ((s3.trans s4).tup hO) fun p5 H5 s5 hp5 => ?_
    rw [show (3 : Int) = ((3 : Nat) : Int) from rfl, cut_from] at hp5
    refine cat_any (s5.tup hp4) hp5 (by show 3 + 2 ≤ _; omega) fun p7 H7 s7 hp7 => ?_
    have s27 := (s3.trans s4).trans (s5.trans s7)
    have hnew : RowAt K H7 (.ref p7) ⟨n.nm, hs, gs, n.rl, n.exc⟩ := ⟨p7, hp, gp, pa, ws', rfl, hp7, s27.tup hhp, s27.tup hgp, s27.tup hPe, hXe.keeps (N := NoL) s27.keeps⟩
    refine ⟨_, rfl, _, rfl, (by show 1 ≤ sizeLine; decide), fun t8 nt8 => ?_⟩
    have s8 : Same H7 (upd H7 t8 (.tup [.ref p7])) := (Same.refl H7).put nt8
    have e8 : (upd H7 t8 (.tup [.ref p7])) t8 = some (.tup [.ref p7]) := upd_same
    generalize upd H7 t8 (.tup [.ref p7]) = H8 at s8 e8 ⊢
    refine cat_any ((s27.trans s8).tup hph2) (sqT_of e8) (by show _ + 1 ≤ _; omega) fun p9 H9 s9 hp9 => ?_
    refine ⟨_, rfl, cat_any hp9 (((s27.trans s8).trans s9).tup hpt) (by rw [List.length_append]; show _ + 1 + _ ≤ _; omega) fun p10 H10 s10 hp10 => ?_⟩
    have s29 := (s27.trans s8).trans (s9.trans s10)
    refine q _ p10 _ (s02.trans s29) hp10 (rows_put ?_ (upd_nodes (fun z => nomatch z)))
    rw [List.append_assoc]
    exact (hh.mono fun _ _ x => x.keeps (N := NoL) s29.keeps).app (.cons (hnew.keeps (N := NoL) (s8.trans (s9.trans s10)).keeps) (ht.mono fun _ _ x => x.keeps (N := NoL) s29.keeps))
def sp_edit (K : PySem.W.Frag) (d : Nat) : Sp := fun vs H Q _ => ∃ (p : Addr) (nm word : Str) (what : V) (ws : List V) (f : RF) (op : Op), vs = [.ref p, .str nm, .str word, what] ∧ SqT K H p ws ∧ RowsAt K H f ws ∧ f.dep ≤ d ∧ f.size ≤ 900 ∧ f.names.Nodup ∧ OpW K H word what op ∧
  (op = .swap → nm ∈ f.names → RF.nxt nm f ≠ none) ∧ ∀ H' p' us, Same H H' → SqT K H' p' us → RowsAt K H' (RF.upd nm op.G f) us → Q (.ref p') H'
theorem ok_edit {d : Nat} {f : Addr} {fd : FuncData} (F : Fun K "_law_edit" "_law_edit" s__law_edit f fd) (B : Blt mg) (c__law_changed : Cal P w K mg base CX0 1 "_law_changed" ["_law_row", "_law_k", "_law_word", "_law_what"] (sp_changed K)) (c__law_edit : Cal P w K mg base CX0 (d + 1) "_law_edit" ["_law_rules", "_law_name", "_law_word", "_law_what"] (Below (sp_edit K) d)) :
    FnOk P w K mg base CX0 (d + 2) f fd ["_law_rules", "_law_name", "_law_word", "_law_what"] (sp_edit K d) := by
  refine F.ok sc__law_edit (fun vs H Q E h => by obtain ⟨p, nm, word, what, ws, f, op, rfl, _⟩ := h; rfl) (fun cdv A outer s H vs Q E hr h => ?_)
  obtain ⟨p, nm, word, what, ws, f, op, rfl, hP, hX, hd, hz, hnd, hop, hsw, q⟩ := h
  have hA := hX.all
  have hln := hA.len
  have hlz := RF.nodes_le f
  refine ⟨_, (pss_cons (ps_for PassesOwn.never rfl (pi_range1 (by rfl) B.b_range (pa_cons (pe_callB call_len_seq (by rfl) B.b_len PySem.boot_len (pa_cons (pv 0) pa_nil)) pa_nil)) (pg_name (i := 4) sc__law_edit.nd rfl (Or.inl rfl)) (pss_one (ps_if (pt_cmpR op_eq (pe_ix ix_tup (pe_ix ix_tup (pv 0) (pv 4) (fun _ _ => rfl)) pe_int (fun _ _ => rfl)) (pv 1) (nomark _)) (pss_one (ps_ret (pe_cal c__law_changed (hr.mono (by omega)) (pa_cons (pv 0) (pa_cons (pv 4) (pa_cons (pv 2) (pa_cons (pv 3) pa_nil))))))) pss_nil)))
      (pss_one (ps_ret (pe_callTy call_tuple_of (by rfl) B.b_tuple PyProof.Rows.boot_tuple (pa_cons (pe_lc (own := [("_law_rule_here", 5)]) (g := gName 5) (tt := tYes) rfl sc__law_edit.nd (pi_tup (pv 0)) (blkOk_by (own := [("_law_rule_here", 5)]) (N := ["_law_rules", "_law_name", "_law_word", "_law_what", "_law_k", "_law_rule_here"]) (sc := defScope s__law_edit) (by decide +kernel)) (fun _ _ _ _ _ => (pg_name (i := 5) sc__law_edit.nd rfl (Or.inl rfl))) (fun _ _ _ _ _ => pts_nil) (fun _ _ _ _ _ => (pe_.re (pe_op op_catA (pe_slice sl_tupA (pv 5) po_none (po_some pe_int)) (pe_tup (pa_cons (pe_cal c__law_edit hr (pa_cons (pe_ix ix_tup (pv 5) pe_int (fun _ _ => rfl)) (pa_cons (pv 1) (pa_cons (pv 2) (pa_cons (pv 3) pa_nil))))) pa_nil))) (by first | (dsimp only [Cx.blk]; done) | exact rfl)))) pa_nil))))), ?_⟩
  refine ⟨_, rfl, p, _, rfl, .inr hP, _, rfl, by omega, by omega, for_it walk_range (fun i σ H' => ∃ (y4 y5 : Option V), σ = [some (.ref p), some (.str nm), some (.str word), some what, y4, y5] ∧ Same H H' ∧ ∀ n ∈ f.nodes.take i, n.nm ≠ nm)
    ⟨none, none, rfl, Same.refl H, fun n hn => nomatch hn⟩ (fun _ _ _ _ _ => trivial) ?_ ?_⟩
  · rintro i y σ H3 H2 hi ⟨y4, y5, rfl, s, hoff⟩ ⟨rfl, hy⟩
    have hi : i < ws.length := by
      have hi : i < ((ws.length : Nat) : Int).toNat := hi
      omega
    have hin : i < f.nodes.length := by omega
    have hy : y = V.int (i : Nat) := by rw [hy]; show V.int (0 + (i : Nat)) = _; rw [Int.zero_add]
    subst hy
    obtain ⟨v, hv, hrow⟩ := hA.at' hin
    have hget : f.nodes[i]? = some f.nodes[i] := List.getElem?_eq_getElem hin
    generalize f.nodes[i] = n at hrow hget
    obtain ⟨o, wa, ba, pa, ws', rfl, hO, hW, hB, hPe, hXe⟩ := hrow.keeps (N := NoL) s.keeps
    refine ⟨_, rfl, _, rfl, p, _, _, _, rfl, rfl, s.tup hP, atI_nat (j := i) hv, o, _, 0, _, rfl, rfl, hO, atI_nat (j := 0) rfl, _, rfl, rfl, _, rfl, bcase (fun c1 => ?_) (fun c1 => ?_)⟩
    · have c1 : n.nm = nm := V.str.inj (of_decide_eq_true c1)
      have hah := RF.ahead hnd hget c1
      refine ⟨_, rfl, _, rfl, _, rfl, _, rfl, p, i, word, what, ws, f, n, op, rfl, s.tup hP, hX.keeps (N := NoL) s.keeps, hz, hget, hop.keeps (N := NoL) s.keeps, (fun e => ?_), fun H' p' us s' hp' hr' => ?_⟩
      · have h1 := hsw e (RF.mem_names.mpr ⟨n, List.mem_of_getElem? hget, .inl c1.symm⟩)
        rw [RF.nxt_here hget c1 hah] at h1
        by_cases c : i + 1 < f.nodes.length
        · exact c
        · exact absurd (List.getElem?_eq_none (by omega)) h1
      · refine q H' p' us (s.trans s') hp' ?_
        rw [RF.upd_at hget c1 hah]
        exact hr'
    · have c1 : n.nm ≠ nm := fun z => of_decide_eq_false c1 (by rw [z])
      refine ⟨_, _, rfl, s, fun m hm => ?_⟩
      rw [take_more hget] at hm
      rcases List.mem_append.mp hm with hm | hm
      · exact hoff m hm
      · rw [List.mem_singleton.mp hm]
        exact c1
  · rintro σ H2 ⟨y4, y5, rfl, s, hoff⟩
    have hoff : ∀ n ∈ f.nodes, n.nm ≠ nm := fun n hn => hoff n (by
      first
        | (rw [hln, List.take_length]; exact hn)
        | (rw [show ((ws.length : Nat) : Int).toNat = f.nodes.length by omega, List.take_length]; exact hn))
    refine ⟨_, rfl, p, rfl, ⟨_, s.tup hP⟩, fun D nD => lc_it walk_tup (fun i H' => Same H2 H' ∧ ∃ rs, H' D = some (.lst rs) ∧ All2 (RowAt K H') rs ((f.nodes.take i).map fun n => n.wE (RF.upd nm op.G n.exc))) ⟨(Same.refl H2).put nD, [], upd_same, .nil⟩ (fun _ _ _ h => (s.trans h.1).tup hP) ?_ ?_⟩
    · rintro i y H3 H4 hi ⟨s3, rs, e3, hrs⟩ ⟨rfl, hy⟩
      obtain ⟨n, hn, hrow⟩ := hA.get hy
      have hmem : n ∈ f.nodes := List.mem_of_getElem? hn
      have hdm := RF.dep_mem f n hmem
      have hsm := RF.size_mem f n hmem
      obtain ⟨hndx, _⟩ := RF.nodup_node hnd n hmem
      obtain ⟨d, rfl⟩ : ∃ d', d = d' + 1 := ⟨d - 1, by omega⟩
      have hrl := hrs.len
      rw [List.length_map, List.length_take] at hrl
      obtain ⟨o, wa, ba, pa, ws', rfl, hO, hW, hB, hPe, hXe⟩ := hrow.keeps (N := NoL) (s.trans s3).keeps
      refine ⟨rfl, yes_ ⟨_, rfl, ?_⟩⟩
      dsimp only [tNoPart]
      refine ⟨_, rfl, ?_⟩
      refine sl_any hO fun p5 H5 s5 hp5 => ?_
      rw [show (4 : Int) = ((4 : Nat) : Int) from rfl, cut_to] at hp5
      refine ⟨_, rfl, o, _, 4, _, rfl, rfl, s5.tup hO, atI_nat (j := 4) rfl, _, rfl, _, rfl, _, rfl, pa, nm, word, what, ws', n.exc, op, rfl, s5.tup hPe, hXe.keeps (N := NoL) s5.keeps, by omega, by omega, hndx, hop.keeps (N := NoL) ((s.trans s3).trans s5).keeps, (fun e z => ?_), fun H6 p6 us6 s6 hp6 hr6 => ?_⟩
      · rw [← RF.nxt_in hnd hoff n hmem z]
        exact hsw e (RF.mem_names.mpr ⟨n, hmem, .inr z⟩)
      refine ⟨(by show 1 ≤ sizeLine; decide), fun t7 nt7 => ?_⟩
      have s7 : Same H6 (upd H6 t7 (.tup [.ref p6])) := (Same.refl H6).put nt7
      have e7 : (upd H6 t7 (.tup [.ref p6])) t7 = some (.tup [.ref p6]) := upd_same
      generalize upd H6 t7 (.tup [.ref p6]) = H7 at s7 e7 ⊢
      refine cat_any ((s6.trans s7).tup hp5) (sqT_of e7) (by rw [sizeLine_eq]; show 4 + 1 ≤ _; omega) fun p8 H8 s8 hp8 => ?_
      have s48 := (s5.trans s6).trans (s7.trans s8)
      have hnew : RowAt K H8 (.ref p8) (n.wE (RF.upd nm op.G n.exc)) := ⟨p8, wa, ba, p6, us6, rfl, hp8, s48.tup hW, s48.tup hB, (s7.trans s8).tup hp6, hr6.keeps (N := NoL) (s7.trans s8).keeps⟩
      have e8 := s48 _ _ e3
      have kk : Keeps NoL H8 (upd H8 D (.lst (rs ++ [.ref p8]))) := keeps_own e8 id
      refine ⟨rs, e8, small1000 (by omega), (s3.trans s48).put nD, rs ++ [.ref p8], upd_same, ?_⟩
      rw [take_more hn, List.map_append]
      exact (hrs.mono fun _ _ x => (x.keeps (N := NoL) s48.keeps).keeps kk).snoc (hnew.keeps kk)
    rintro H3 ⟨s3, rs, e3, hrs⟩
    rw [hln, List.take_length, ← RF.upd_map hoff] at hrs
    refine ⟨D, _, rfl, .inl ⟨sqL_of e3, fun t nt => ?_⟩⟩
    have s4 : Same H3 (upd H3 t (.tup rs)) := (Same.refl H3).put nt
    exact q _ t rs ((s.trans s3).trans s4) sqT_new (RowsAt.of (hrs.mono fun _ _ x => x.keeps (N := NoL) s4.keeps))
end
end Sc
namespace Sc
open PySem PySem.Spec PyProof.Rows L2
theorem sc__law_after : FnScope ["_law_drawn_here", "_law_amendment_here", "_law_facts_here", "_law_rules", "_law_ruling", "_law_word", "_law_name"] ["_law_drawn_here", "_law_amendment_here"] (defScope s__law_after) := ⟨rfl, rfl, rfl, by decide +kernel, rfl, by decide +kernel, by decide +kernel⟩
theorem sc__law_stop : FnScope ["_law_drawn_here", "_law_amendment_here", "_law_names", "_law_word", "_law_name", "_law_many", "_law_k", "_law_deep", "_law_rules", "_law_found", "_law_rule_here", "_law_one"] ["_law_drawn_here", "_law_amendment_here"] (defScope s__law_stop) := ⟨rfl, rfl, rfl, by decide +kernel, rfl, by decide +kernel, by decide +kernel⟩
/-- the tuple has no third part -/
def Op.two : Op → Bool
  | .strike => true
  | .swap => true
  | _ => false
/-- a drawn amendment -/
def AmAt (K : PySem.W.Frag) (H : Hp) (v : V) : Am → Prop
  | .rul0 z => ∃ t, v = .ref t ∧ SqT K H t [.str "ruling", .non, .str z]
  | .add0 m => ∃ t r, v = .ref t ∧ SqT K H t [.str "add", .non, r] ∧ RowAt K H r m
  | .rule nm op => ∃ t word what, v = .ref t ∧ SqT K H t (.str word :: .str nm :: (if op.two = true then [] else [what])) ∧ OpW K H word what op
theorem AmAt.keeps {K : PySem.W.Frag} {N : Addr → Prop} {H H' : Hp} {v : V} {am : Am} (k : Keeps N H H') (h : AmAt K H v am) : AmAt K H' v am := by
  cases am with
  | rul0 z => obtain ⟨t, e, h1⟩ := h; exact ⟨t, e, k.tup h1⟩
  | add0 m => obtain ⟨t, r, e, h1, h2⟩ := h; exact ⟨t, r, e, k.tup h1, h2.keeps k⟩
  | rule nm op => obtain ⟨t, word, what, e, h1, h2⟩ := h; exact ⟨t, word, what, e, k.tup h1, h2.keeps k⟩
/-- right over such facts -/
def Op.Ok2 (fs : List Str) : Op → Prop
  | .before m => N2 fs m ∧ m.exc.every (N2 fs) ∧ m.exc.dep ≤ 1 ∧ m.exc.size ≤ 1
  | .add m => N2 fs m ∧ m.exc.every (N2 fs) ∧ m.exc.dep ≤ 1 ∧ m.exc.size ≤ 1
  | .ruling z => isName z = true
  | .cond hs gs => (firstWrong hs [] = none ∧ firstWrong gs hs = none) ∧ (∀ x ∈ hs, x ∈ fs) ∧ ∀ x ∈ gs, x ∈ fs
  | _ => True
def Am.Ok2 (fs : List Str) : Am → Prop
  | .rul0 z => isName z = true
  | .add0 m => (Op.add m).Ok2 fs
  | .rule nm op => isName nm = true ∧ op.Ok2 fs
theorem Op.Ok2.okk {fs : List Str} {op : Op} (h : op.Ok2 fs) : op.Okk := by
  cases op with
  | before m => exact ⟨h.1.ok, RF.every_mono (fun _ x => x.ok) h.2.1, Nat.le_trans h.2.2.1 (by decide), Nat.le_trans h.2.2.2 (by decide)⟩
  | add m => exact ⟨h.1.ok, RF.every_mono (fun _ x => x.ok) h.2.1, Nat.le_trans h.2.2.1 (by decide), Nat.le_trans h.2.2.2 (by decide)⟩
  | cond hs gs => exact h.1
  | _ => exact h
theorem Am.Ok2.okk {fs : List Str} {am : Am} (h : am.Ok2 fs) : am.Okk := by
  cases am with
  | rul0 z => exact h
  | add0 m => exact Op.Ok2.okk (op := .add m) (fs := fs) h
  | rule nm op => exact ⟨h.1, h.2.okk⟩
theorem N2.wE {fs : List Str} {n : Nd} {e : RF} (h : N2 fs n) : N2 fs (n.wE e) := ⟨h.ok.wE, h.s1, h.s2⟩
inductive Stp where
  | ok
  | unk
  | nonb
  | flt (wd : Str) (i : Nat)
deriving DecidableEq
def fltOf : Option (Str × Nat) → Stp
  | none => .ok
  | some (wd, i) => .flt wd i
def Op.stp (xs : List Str) (f : RF) (nm : Str) : Op → Stp
  | .swap => if (RF.nxt nm f).isNone = true then .nonb else .ok
  | .before m => fltOf (firstFault xs ((RF.upd nm (Op.before m).G f).pre 0) [] 0 0)
  | .add m => fltOf (firstFault xs ((RF.upd nm (Op.add m).G f).pre 0) [] 0 0)
  | _ => .ok
def Am.stp (xs : List Str) (f : RF) : Am → Stp
  | .rul0 _ => .ok
  | .add0 m => fltOf (firstFault xs ((f.snoc m).pre 0) [] 0 0)
  | .rule nm op => if nm ∈ f.names then op.stp xs f nm else .unk
def StpAt (K : PySem.W.Frag) (H : Hp) (r : V) : Stp → Prop
  | .ok => r = .str ""
  | .unk => r = .str "UnknownRule"
  | .nonb => r = .str "NoNeighbor"
  | .flt wd i => ∃ t, r = .ref t ∧ SqT K H t [.str "InvalidBook", .str wd, .int (i : Nat)]
section
variable {P : Program} {w : World} {K : PySem.W.Frag} {mg : Str → Option Value} {base : Heap} {C R B : Addr}
def sp_after (K : PySem.W.Frag) : Sp := fun vs H Q _ => ∃ (p : Addr) (v : V) (xs : List Str) (f : RF) (rl : Str) (am : Am), vs = [.ref p, v] ∧ SeenAt K H p xs f rl ∧ AmAt K H v am ∧ f.dep ≤ 12 ∧ f.size ≤ 900 ∧ f.names.Nodup ∧
  (∀ nm, am = .rule nm .swap → nm ∈ f.names → RF.nxt nm f ≠ none) ∧ ∀ H' p', Same H H' → SeenAt K H' p' xs (am.aft f rl).1 (am.aft f rl).2 → Q (.ref p') H'
theorem ok_after {f : Addr} {fd : FuncData} (F : Fun K "_law_after" "_law_after" s__law_after f fd) (B : Blt mg) (c__law_edit : Cal P w K mg base CX0 14 "_law_edit" ["_law_rules", "_law_name", "_law_word", "_law_what"] (sp_edit K 12)) : FnOk P w K mg base CX0 15 f fd ["_law_drawn_here", "_law_amendment_here"] (sp_after K) := by
  refine F.ok sc__law_after (fun vs H Q E h => by obtain ⟨p, v, xs, f, rl, am, rfl, _⟩ := h; rfl) (fun cdv A outer s H vs Q E hr h => ?_)
  obtain ⟨p, v, xs, f, rl, am, rfl, ⟨fp, pr, ws, hp, hfp, hpr, hX⟩, ham, hd, hz, hnd, hsw, q⟩ := h
  refine ⟨_, (pss_cons (ps_asg (pv 0) (pg_tup (by rfl) (pgs_cons (pg_name (i := 2) sc__law_after.nd rfl (Or.inl rfl)) (pgs_cons (pg_name (i := 3) sc__law_after.nd rfl (Or.inl rfl)) (pgs_cons (pg_name (i := 4) sc__law_after.nd rfl (Or.inl rfl)) pgs_nil)))))
      (pss_cons (ps_par (i := 5) (j := 6) rfl sc__law_after.nd rfl rfl (by decide) rfl rfl (pa_cons (pe_ix ix_tup (pv 1) pe_int (fun _ _ => rfl)) (pa_cons (pe_ix ix_tup (pv 1) pe_int (fun _ _ => rfl)) pa_nil)) rfl)
      (pss_cons (ps_if (pt_cmpR op_isN (pv 6) pe_non (nomark _)) (pss_one (ps_ret (pe_ifExp (pt_cmpR op_eq (pv 5) pe_str (nomark _)) (pe_tup (pa_cons (pv 2) (pa_cons (pe_op op_catA (pv 3) (pe_tup (pa_cons (pe_ix ix_tup (pv 1) pe_int (fun _ _ => rfl)) pa_nil))) (pa_cons (pv 4) pa_nil)))) (pe_tup (pa_cons (pv 2) (pa_cons (pv 3) (pa_cons (pe_ix ix_tup (pv 1) pe_int (fun _ _ => rfl)) pa_nil))))))) pss_nil)
      (pss_one (ps_ret (pe_tup (pa_cons (pv 2) (pa_cons (pe_cal c__law_edit (hr.mono (by decide)) (pa_cons (pv 3) (pa_cons (pv 6) (pa_cons (pv 5) (pa_cons (pe_ifExp (pt_cmpR op_gt (pe_callB call_len_seq (by rfl) B.b_len PySem.boot_len (pa_cons (pv 1) pa_nil)) pe_int (nomark _)) (pe_ix ix_tup (pv 1) pe_int (fun _ _ => rfl)) pe_non) pa_nil))))) (pa_cons (pv 4) pa_nil))))))))), ?_⟩
  have hln := hX.len
  have hlz := RF.nodes_le f
  refine ⟨_, rfl, p, _, rfl, hp, rfl, _, _, rfl, _, _, rfl, _, _, rfl, rfl, ?_⟩
  cases am with
  | rul0 z =>
    obtain ⟨t, rfl, ht⟩ := ham
    refine ⟨_, rfl, t, _, 0, _, rfl, rfl, ht, atI_nat (j := 0) rfl, _, rfl, t, _, 1, _, rfl, rfl, ht, atI_nat (j := 1) rfl, _, _, rfl, ?_⟩
    refine ⟨_, rfl, rfl, _, rfl, iteT ?_⟩
    refine ⟨_, rfl, rfl, _, rfl, iteF ?_⟩
    refine ⟨_, rfl, _, rfl, _, rfl, t, _, 2, _, rfl, rfl, ht, atI_nat (j := 2) rfl, (by show 3 ≤ sizeLine; decide), fun t4 nt4 => ?_⟩
    have s4 : Same H (upd H t4 (.tup [.ref fp, .ref pr, .str z])) := (Same.refl H).put nt4
    exact q _ t4 s4 ⟨fp, pr, ws, sqT_new, s4.tup hfp, s4.tup hpr, hX.keeps (N := NoL) s4.keeps⟩
  | add0 m =>
    obtain ⟨t, r, rfl, ht, hr0⟩ := ham
    refine ⟨_, rfl, t, _, 0, _, rfl, rfl, ht, atI_nat (j := 0) rfl, _, rfl, t, _, 1, _, rfl, rfl, ht, atI_nat (j := 1) rfl, _, _, rfl, ?_⟩
    refine ⟨_, rfl, rfl, _, rfl, iteT ?_⟩
    refine ⟨_, rfl, rfl, _, rfl, iteT ?_⟩
    refine ⟨_, rfl, _, rfl, _, rfl, t, _, 2, _, rfl, rfl, ht, atI_nat (j := 2) rfl, (by show 1 ≤ sizeLine; decide), fun t1 nt1 => ?_⟩
    have s1 : Same H (upd H t1 (.tup [r])) := (Same.refl H).put nt1
    have e1 : (upd H t1 (.tup [r])) t1 = some (.tup [r]) := upd_same
    generalize upd H t1 (.tup [r]) = H1 at s1 e1 ⊢
    refine cat_any (s1.tup hpr) (sqT_of e1) (by rw [hln, sizeLine_eq]; show _ + 1 ≤ _; omega) fun p2 H2 s2 hp2 => ?_
    refine ⟨_, rfl, (by show 3 ≤ sizeLine; decide), fun t4 nt4 => ?_⟩
    have s4 : Same H2 (upd H2 t4 (.tup [.ref fp, .ref p2, .str rl])) := (Same.refl H2).put nt4
    have s04 := (s1.trans s2).trans s4
    exact q _ t4 s04 ⟨fp, p2, ws ++ [r], sqT_new, s04.tup hfp, s4.tup hp2, rows_snoc (hX.keeps (N := NoL) s04.keeps) (hr0.keeps (N := NoL) s04.keeps)⟩
  | rule nm op =>
    obtain ⟨t, word, what, rfl, ht, hop⟩ := ham
    have hend : ∀ {H5 : Hp} {p5 : Addr} {us5 : List V}, Same H H5 → SqT K H5 p5 us5 → RowsAt K H5 (RF.upd nm op.G f) us5 → ∀ t4, H5 t4 = none → Q (.ref t4) (upd H5 t4 (.tup [.ref fp, .ref p5, .str rl])) := fun {H5 p5 us5} s5 hp5 hr5 t4 nt4 => by
      have s4 : Same H5 (upd H5 t4 (.tup [.ref fp, .ref p5, .str rl])) := (Same.refl H5).put nt4
      exact q _ t4 (s5.trans s4) ⟨fp, p5, us5, sqT_new, (s5.trans s4).tup hfp, s4.tup hp5, hr5.keeps (N := NoL) s4.keeps⟩
    have ht0 : (V.str word :: V.str nm :: (if op.two = true then [] else [what]))[0]? = some (.str word) := rfl
    have ht1 : (V.str word :: V.str nm :: (if op.two = true then [] else [what]))[1]? = some (.str nm) := rfl
    refine ⟨_, rfl, t, _, 0, _, rfl, rfl, ht, atI_nat (j := 0) ht0, _, rfl, t, _, 1, _, rfl, rfl, ht, atI_nat (j := 1) ht1, _, _, rfl, ?_⟩
    refine ⟨_, rfl, rfl, _, rfl, iteF ?_⟩
    refine ⟨_, rfl, _, rfl, _, rfl, _, rfl, _, rfl, t, _, rfl, .inr ht, _, _, rfl, rfl, _, rfl, ?_⟩
    have hsw' : op = .swap → nm ∈ f.names → RF.nxt nm f ≠ none := fun e => hsw nm (by rw [e])
    by_cases c : op.two = true
    · rw [if_pos c] at ht ⊢
      refine iteF ?_
      have hw : what = .non := by
        cases op with
        | strike => exact hop.2
        | swap => exact hop.2
        | _ => cases c
      subst hw
      exact ⟨pr, nm, word, _, ws, f, op, rfl, hpr, hX, hd, hz, hnd, hop, hsw', fun H5 p5 us5 s5 hp5 hr5 => ⟨_, rfl, (by show 3 ≤ sizeLine; decide), hend s5 hp5 hr5⟩⟩
    · rw [if_neg c] at ht ⊢
      refine iteT ?_
      refine ⟨_, rfl, t, _, 2, _, rfl, rfl, ht, atI_nat (j := 2) rfl, ?_⟩
      exact ⟨pr, nm, word, _, ws, f, op, rfl, hpr, hX, hd, hz, hnd, hop, hsw', fun H5 p5 us5 s5 hp5 hr5 => ⟨_, rfl, (by show 3 ≤ sizeLine; decide), hend s5 hp5 hr5⟩⟩
/-- is a rule put in, is the book still right -/
def tStop (K : PySem.W.Frag) : TS := fun D σ H => ∃ word : Str, σ[3]? = some (some (.str word)) ∧ σ.length = 12 ∧ ((¬ (word = "add" ∨ word = "before") ∧ ∀ H', Same H H' → D.nx σ H') ∨ ((word = "add" ∨ word = "before") ∧
  ∃ (p : Addr) (v : V) (xs : List Str) (f : RF) (rl : Str) (am : Am), σ[0]? = some (some (.ref p)) ∧ σ[1]? = some (some v) ∧ SeenAt K H p xs f rl ∧ AmAt K H v am ∧ f.dep ≤ 12 ∧ f.size ≤ 900 ∧ f.names.Nodup ∧ (∀ nm, am = .rule nm .swap → nm ∈ f.names → RF.nxt nm f ≠ none) ∧
    (am.aft f rl).1.dep ≤ 12 ∧ (am.aft f rl).1.size ≤ 39 ∧ (am.aft f rl).1.every (N2 xs) ∧ (∀ wd i, firstFault xs ((am.aft f rl).1.pre 0) [] 0 0 = some (wd, i) → ∀ H' t, Same H H' → H' t = some (.tup [.str "InvalidBook", .str wd, .int (i : Nat)]) → D.rt (.ref t) H') ∧
    (firstFault xs ((am.aft f rl).1.pre 0) [] 0 0 = none → ∀ σ' H', Same H H' → D.nx σ' H')))
def sp_stop (K : PySem.W.Frag) : Sp := fun vs H Q _ => ∃ (p : Addr) (v : V) (xs : List Str) (f : RF) (rl : Str) (am : Am), vs = [.ref p, v] ∧ SeenAt K H p xs f rl ∧ AmAt K H v am ∧ f.names.Nodup ∧ f.every (N2 xs) ∧ f.dep ≤ 6 ∧ f.size ≤ 36 ∧ am.Ok2 xs ∧ ∀ H' r, Same H H' → StpAt K H' r (am.stp xs f) → Q r H'
theorem G_dims {xs : List Str} {op : Op} {nm : Str} {f : RF} (hok : op.Ok2 xs) (hnd : f.names.Nodup) (hev : f.every (N2 xs)) : (RF.upd nm op.G f).size ≤ f.size + 2 ∧ (RF.upd nm op.G f).dep ≤ f.dep + 2 ∧ (RF.upd nm op.G f).every (N2 xs) := by
  have h3 : (∀ n rest, (op.G n rest).size ≤ n.exc.size + 1 + rest.size + 2) ∧ (∀ n rest, (op.G n rest).dep ≤ max (n.exc.dep + 1) rest.dep + 2) ∧ ∀ n rest, N2 xs n → n.exc.every (N2 xs) → rest.every (N2 xs) → (op.G n rest).every (N2 xs) := by
    refine ⟨fun n rest => ?_, fun n rest => ?_, fun n rest h1 h2 h3 => ?_⟩
    · cases op with
      | strike => show rest.size ≤ _; omega
      | swap =>
        show (swapG n rest).size ≤ _
        cases rest with
        | nil => show n.exc.size + 1 + 0 ≤ _ + 0 + 2; omega
        | cons a b c d e r => show e.size + 1 + (n.exc.size + 1 + r.size) ≤ n.exc.size + 1 + (e.size + 1 + r.size) + 2; omega
      | before m =>
        obtain ⟨_, _, m3, m4⟩ := hok
        show m.exc.size + 1 + (n.exc.size + 1 + rest.size) ≤ _
        omega
      | add m =>
        obtain ⟨_, _, m3, m4⟩ := hok
        show (n.exc.snoc m).size + 1 + rest.size ≤ _
        rw [RF.snoc_size]
        omega
      | ruling z => show n.exc.size + 1 + rest.size ≤ _; omega
      | cond hs gs => show n.exc.size + 1 + rest.size ≤ _; omega
    · cases op with
      | strike => show rest.dep ≤ _; omega
      | swap =>
        show (swapG n rest).dep ≤ _
        cases rest with
        | nil => show max (n.exc.dep + 1) 0 ≤ max (n.exc.dep + 1) 0 + 2; omega
        | cons a b c d e r => show max (e.dep + 1) (max (n.exc.dep + 1) r.dep) ≤ max (n.exc.dep + 1) (max (e.dep + 1) r.dep) + 2; omega
      | before m =>
        obtain ⟨_, _, m3, m4⟩ := hok
        show max (m.exc.dep + 1) (max (n.exc.dep + 1) rest.dep) ≤ _
        omega
      | add m =>
        obtain ⟨_, _, m3, m4⟩ := hok
        show max ((n.exc.snoc m).dep + 1) rest.dep ≤ _
        rw [RF.snoc_dep]
        omega
      | ruling z => show max (n.exc.dep + 1) rest.dep ≤ _; omega
      | cond hs gs => show max (n.exc.dep + 1) rest.dep ≤ _; omega
    · cases op with
      | strike => exact h3
      | swap =>
        show (swapG n rest).every _
        cases rest with
        | nil => exact ⟨h1, h2, trivial⟩
        | cons a b c d e r => exact ⟨h3.1, h3.2.1, h1, h2, h3.2.2⟩
      | before m => exact ⟨hok.1, hok.2.1, h1, h2, h3⟩
      | add m => exact ⟨h1.wE, RF.snoc_every h2 hok.1 hok.2.1, h3⟩
      | ruling z => exact ⟨⟨⟨h1.ok.nm, hok, h1.ok.c1, h1.ok.c2⟩, h1.s1, h1.s2⟩, h2, h3⟩
      | cond hs gs => exact ⟨⟨⟨h1.ok.nm, h1.ok.rl, hok.1.1, hok.1.2⟩, hok.2.1, hok.2.2⟩, h2, h3⟩
  exact ⟨RF.upd_size h3.1 hnd, RF.upd_dep h3.2.1, RF.upd_every (fun n e hn => hn.wE) h3.2.2 hev⟩
theorem aft_dims {xs : List Str} {f : RF} {rl : Str} {am : Am} (hok : am.Ok2 xs) (hnd : f.names.Nodup) (hev : f.every (N2 xs)) : (am.aft f rl).1.size ≤ f.size + 2 ∧ (am.aft f rl).1.dep ≤ f.dep + 2 ∧ (am.aft f rl).1.every (N2 xs) := by
  cases am with
  | rul0 z => exact ⟨Nat.le_add_right _ _, Nat.le_add_right _ _, hev⟩
  | add0 m =>
    obtain ⟨m1, m2, m3, m4⟩ := hok
    show (f.snoc m).size ≤ _ ∧ (f.snoc m).dep ≤ _ ∧ (f.snoc m).every _
    rw [RF.snoc_size, RF.snoc_dep]
    exact ⟨by omega, by omega, RF.snoc_every hev m1 m2⟩
  | rule nm op => exact G_dims hok.2 hnd hev
theorem len12 {σ : L2.St} (h : σ.length = 12) : ∃ x0 x1 x2 x3 x4 x5 x6 x7 x8 x9 x10 x11, σ = [x0, x1, x2, x3, x4, x5, x6, x7, x8, x9, x10, x11] := by
  match σ, h with
  | [x0, x1, x2, x3, x4, x5, x6, x7, x8, x9, x10, x11], _ => exact ⟨x0, x1, x2, x3, x4, x5, x6, x7, x8, x9, x10, x11, rfl⟩
theorem ok_stop {f : Addr} {fd : FuncData} (F : Fun K "_law_stop" "_law_stop" s__law_stop f fd) (B : Blt mg) (c__law_all : Cal P w K mg base CX0 14 "_law_all" ["_law_rules"] (sp_all K 12)) (c__law_depths : Cal P w K mg base CX0 14 "_law_depths" ["_law_rules", "_law_deep"] (sp_depths K 12)) (c__law_beside : Cal P w K mg base CX0 14 "_law_beside" ["_law_rules", "_law_name"] (sp_besideL K 12))
    (c__law_after : Cal P w K mg base CX0 15 "_law_after" ["_law_drawn_here", "_law_amendment_here"] (sp_after K)) : FnOk P w K mg base CX0 16 f fd ["_law_drawn_here", "_law_amendment_here"] (sp_stop K) := by
  refine F.ok sc__law_stop (fun vs H Q E h => by obtain ⟨p, v, xs, f, rl, am, rfl, _⟩ := h; rfl) (fun cdv A outer s H vs Q E hr h => ?_)
  obtain ⟨p, v, xs, f, rl, am, rfl, hS, ham, hnd, hev, hd, hz, hok, q⟩ := h
  refine ⟨_, (pss_cons (ps_setLc (i := 2) (own := [("_law_rule_here", 10)]) (g := gName 10) (tt := tYes) rfl sc__law_stop.nd rfl rfl (sw_true rfl rfl rfl (by decide +kernel)) (pi_list (pe_cal c__law_all (hr.mono (by decide)) (pa_cons (pe_ix ix_tup (pv 0) pe_int (fun _ _ => rfl)) pa_nil))) (blkOk_by (own := [("_law_rule_here", 10)]) (N := ["_law_drawn_here", "_law_amendment_here", "_law_names", "_law_word", "_law_name", "_law_many", "_law_k", "_law_deep", "_law_rules", "_law_found", "_law_rule_here", "_law_one"]) (sc := defScope s__law_stop) (by decide +kernel)) (fun _ _ _ _ _ => (pg_name (i := 10) sc__law_stop.nd rfl (Or.inl rfl))) (fun _ _ _ _ _ => pts_nil) (fun _ _ _ _ _ => (pe_.re (pe_ix ix_tup (pv 10) pe_int (fun _ _ => rfl)) (by first | (dsimp only [Cx.blk]; done) | exact rfl))))
      (pss_cons (ps_par (i := 3) (j := 4) rfl sc__law_stop.nd rfl rfl (by decide) rfl rfl (pa_cons (pe_ix ix_tup (pv 1) pe_int (fun _ _ => rfl)) (pa_cons (pe_ix ix_tup (pv 1) pe_int (fun _ _ => rfl)) pa_nil)) rfl)
      (pss_cons (ps_if (PW.pt (pw_and (pt_cmpR op_notN (pv 4) pe_non (nomark _)) (pw_and1 (pt_cmpR op_notIn_seq (pv 4) (pv 2) rfl)))) (pss_one (ps_ret pe_str)) pss_nil)
      (pss_cons (ps_if (pt_cmpR op_eq (pv 3) pe_str (nomark _)) (pss_cons (ps_asg (pe_cal c__law_beside (hr.mono (by decide)) (pa_cons (pe_ix ix_tup (pv 0) pe_int (fun _ _ => rfl)) (pa_cons (pv 4) pa_nil))) (pg_tup (by rfl) (pgs_cons (pg_name (i := 5) sc__law_stop.nd rfl (Or.inl rfl)) (pgs_cons (pg_name (i := 6) sc__law_stop.nd rfl (Or.inl rfl)) (pgs_cons (pg_name (i := 7) sc__law_stop.nd rfl (Or.inl rfl)) pgs_nil)))))
      (pss_one (ps_ret (pe_ifExp (pt_cmpR op_eq (pe_op op_add (pv 6) pe_int) (pv 5) (nomark _)) pe_str pe_str)))) pss_nil)
      (pss_cons (wk_ps (tStop K) (ps_if (pt_cmpR op_in_seq (pv 3) (pe_tup (pa_cons pe_str (pa_cons pe_str pa_nil))) rfl) (pss_cons (ps_set (i := 8) sc__law_stop.nd rfl (Or.inl rfl) (pe_ix ix_tup (pe_cal c__law_after (hr.mono (by decide)) (pa_cons (pv 0) (pa_cons (pv 1) pa_nil))) pe_int (fun _ _ => rfl)))
      (pss_cons (ps_par (i := 9) (j := 7) rfl sc__law_stop.nd rfl rfl (by decide) rfl rfl (pa_cons (pe_cal c__law_all (hr.mono (by decide)) (pa_cons (pv 8) pa_nil)) (pa_cons (pe_cal c__law_depths (hr.mono (by decide)) (pa_cons (pv 8) (pa_cons pe_int pa_nil))) pa_nil)) rfl)
      (pss_one (ps_for PassesOwn.never rfl (pi_range1 (by rfl) B.b_range (pa_cons (pe_callB call_len_seq (by rfl) B.b_len PySem.boot_len (pa_cons (pv 9) pa_nil)) pa_nil)) (pg_name (i := 6) sc__law_stop.nd rfl (Or.inl rfl)) (pss_cons (ps_if (pt_cmpR op_in_seq (pe_ix ix_tup (pe_ix ix_list (pv 9) (pv 6) (fun _ _ => rfl)) pe_int (fun _ _ => rfl)) (pe_lc (own := [("_law_one", 11)]) (g := gName 11) (tt := tYes) rfl sc__law_stop.nd (pi_list (pe_slice sl_list (pv 9) po_none (po_some (pv 6)))) (blkOk_by (own := [("_law_one", 11)]) (N := ["_law_drawn_here", "_law_amendment_here", "_law_names", "_law_word", "_law_name", "_law_many", "_law_k", "_law_deep", "_law_rules", "_law_found", "_law_rule_here", "_law_one"]) (sc := defScope s__law_stop) (by decide +kernel)) (fun _ _ _ _ _ => (pg_name (i := 11) sc__law_stop.nd rfl (Or.inl rfl))) (fun _ _ _ _ _ => pts_nil) (fun _ _ _ _ _ => (pe_.re (pe_ix ix_tup (pv 11) pe_int (fun _ _ => rfl)) (by first | (dsimp only [Cx.blk]; done) | exact rfl)))) rfl) (pss_one (ps_ret (pe_tup (pa_cons pe_str (pa_cons pe_str (pa_cons (pv 6) pa_nil)))))) pss_nil)
      (pss_one (ps_if (pt_cmpR op_gt (pe_ix ix_list (pv 7) (pv 6) (fun _ _ => rfl)) pe_int (nomark _)) (pss_one (ps_ret (pe_tup (pa_cons pe_str (pa_cons pe_str (pa_cons (pv 6) pa_nil)))))) pss_nil))))))) pss_nil) ?ws)
      (pss_one (ps_ret pe_str))))))), ?_⟩
  case ws =>
    rintro D σ H1 ⟨word, g3, hσ, h⟩
    refine ⟨_, g3, (by show 2 ≤ sizeLine; decide), fun tt ntt => ?_⟩
    have hin : inV (.str word) [V.str "add", V.str "before"] = decide (word = "add" ∨ word = "before") := by
      show inV _ ((["add", "before"] : List Str).map V.str) = _
      rw [inV_str]
      simp
    refine ⟨tt, _, rfl, .inr sqT_new, rfl, rfl, ?_⟩
    rw [if_neg Bool.false_ne_true, hin]
    have s1 : Same H1 (upd H1 tt (.tup [V.str "add", V.str "before"])) := (Same.refl H1).put ntt
    generalize upd H1 tt (.tup [V.str "add", V.str "before"]) = H2 at s1 ⊢
    rcases h with ⟨hno, q⟩ | ⟨hyes, p, v, xs, f, rl, am, g0, g1, hS, ham, hd, hz, hnd, hsw, hd2, hz2, hev2, qf, qn⟩
    · rw [decide_eq_false hno]
      exact ⟨_, rfl, iteF (q H2 s1)⟩
    rw [decide_eq_true hyes]
    refine ⟨_, rfl, iteT ?_⟩
    obtain ⟨x0, x1, x2, x3, x4, x5, x6, x7, x8, x9, x10, x11, rfl⟩ := len12 hσ
    obtain rfl : x0 = some (.ref p) := Option.some.inj g0
    obtain rfl : x1 = some v := Option.some.inj g1
    refine ⟨_, rfl, _, rfl, p, v, xs, f, rl, am, rfl, hS.keeps (N := NoL) s1.keeps, ham.keeps (N := NoL) s1.keeps, hd, hz, hnd, hsw, fun H3 p3 s3 hS3 => ?_⟩
    generalize (am.aft f rl).1 = g at hd2 hz2 hev2 qf qn hS3
    obtain ⟨fp, pr, ws, hp, hfp, hpr, hX⟩ := hS3
    refine ⟨p3, _, 1, _, rfl, rfl, hp, atI_nat (j := 1) rfl, ?_⟩
    refine ⟨_, rfl, pr, ws, g, rfl, hpr, hX, hd2, by omega, fun H4 D4 us4 s4 e4 hu4 => ?_⟩
    refine ⟨_, rfl, pr, 0, ws, g, rfl, s4.tup hpr, hX.keeps (N := NoL) s4.keeps, hd2, by omega, fun H5 D5 s5 e5 => ?_⟩
    refine ⟨_, _, rfl, ?_⟩
    have e4 := s5 _ _ e4
    have hu4 : All2 (RowAt K H5) us4 ((g.pre 0).map fun q => q.1) := hu4.mono fun _ _ x => x.keeps (N := NoL) s5.keeps
    have s15 := (s1.trans s3).trans (s4.trans s5)
    have hul := hu4.len
    rw [List.length_map, RF.pre_len] at hul
    have hcond : ∀ q ∈ g.pre 0, ((srt (q.1.hs ++ q.1.fs)).any fun x => !decide (x ∈ xs)) = false := fun q hq => by
      have h := RF.every_pre hev2 q hq
      rw [List.any_eq_false]
      intro x hx
      have hx := (srt_perm _).mem_iff.mp hx
      rw [decide_eq_true (show x ∈ xs from (List.mem_append.mp hx).elim (h.s1 x) (h.s2 x))]
      decide
    have hpl := RF.pre_len g 0
    generalize g.pre 0 = ps at hcond hpl qf qn e5 hu4
    refine ⟨_, rfl, D4, _, rfl, .inl (sqL_of e4), _, rfl, by omega, by omega, for_it walk_range (fun i σ H' => ∃ (y6 : Option V), σ = [some (.ref p), some v, x2, x3, x4, x5, y6, some (.ref D5), some (.ref pr), some (.ref D4), x10, x11] ∧ Same H5 H' ∧ ∃ out, out ≤ i ∧ firstFault xs ps [] 0 0 = firstFault xs (ps.drop i) ((ps.take i).map fun q => q.1.nm) out i)
      ⟨x6, rfl, Same.refl H5, 0, Nat.le_refl _, rfl⟩ (fun _ _ _ _ _ => trivial) ?_ ?_⟩
    · rintro i y σ H7 H6 hi ⟨y6, rfl, s, out, ho, hff⟩ ⟨rfl, hy⟩
      have hi : i < us4.length := by
        have hi : i < ((us4.length : Nat) : Int).toNat := hi
        omega
      have hip : i < ps.length := by omega
      have hy : y = V.int (i : Nat) := by rw [hy]; show V.int (0 + (i : Nat)) = _; rw [Int.zero_add]
      subst hy
      have hget : ps[i]? = some ps[i] := List.getElem?_eq_getElem hip
      have hget2 : (ps.map fun q => q.1)[i]? = some ps[i].1 := by rw [List.getElem?_map, hget]; rfl
      have hget3 : (ps.map fun q => V.int (q.2 : Nat))[i]? = some (.int (ps[i].2 : Nat)) := by rw [List.getElem?_map, hget]; rfl
      rw [List.drop_eq_getElem_cons hip] at hff
      have hcn := hcond _ (List.getElem_mem hip)
      generalize ps[i] = q0 at hget hget2 hget3 hff hcn
      obtain ⟨n, k⟩ := q0
      rw [fault_step hcn (by omega) (by omega)] at hff
      obtain ⟨v0, hv0, hrow⟩ := hu4.get' hget2
      obtain ⟨o, wa, ba, pa, ws', rfl, hO, _⟩ := hrow.keeps (N := NoL) s.keeps
      have e4' := s _ _ e4
      have e5' := s _ _ e5
      refine ⟨_, rfl, _, rfl, D4, _, _, _, rfl, rfl, sqL_of e4', atI_nat (j := i) hv0, o, _, 0, _, rfl, rfl, hO, atI_nat (j := 0) rfl, _, rfl, ?_⟩
      dsimp only [tNoPart]
      refine ⟨_, rfl, _, rfl, D4, _, rfl, sqL_of e4', fun Dn nDn => ?_⟩
      rw [cut_to]
      have s8 : Same H6 (upd H6 Dn (.lst (us4.take i))) := (Same.refl H6).put nDn
      have e8 : (upd H6 Dn (.lst (us4.take i))) Dn = some (.lst (us4.take i)) := upd_same
      generalize upd H6 Dn (.lst (us4.take i)) = H8 at s8 e8 ⊢
      have hut : All2 (RowAt K H8) (us4.take i) (((ps.map fun q => q.1)).take i) := (hu4.take i).mono fun _ _ x => x.keeps (N := NoL) (s.trans s8).keeps
      refine ⟨Dn, rfl, ⟨_, sqL_of e8⟩, fun D nD => lc_it walk_list (fun j H' => Same H8 H' ∧ H' D = some (.lst ((((ps.map fun q => q.1).take i).take j).map fun n => V.str n.nm))) ⟨(Same.refl H8).put nD, upd_same⟩ (fun _ _ _ h => sqL_of (h.1 _ _ e8)) ?_ ?_⟩
      · rintro j y H9 H10 hj ⟨s9, e9⟩ ⟨rfl, hy⟩
        obtain ⟨m, hm, o', wa', ba', pa', ws2, rfl, hO', _⟩ := hut.get hy
        refine ⟨rfl, yes_ ⟨_, rfl, o', _, 0, _, rfl, rfl, s9.tup hO', atI_nat (j := 0) rfl, ?_⟩⟩
        refine grow (acc := fun j => (((ps.map fun q => q.1).take i).take j).map fun n => V.str n.nm) nD s9 e9 ?_ ?_
        · rw [List.length_map, List.length_take, List.length_take, List.length_map]
          exact small1000 (by omega)
        · show List.map _ _ = List.map _ _ ++ _
          rw [take_more hm, List.map_append]
          rfl
      rintro H9 ⟨s9, e9⟩
      rw [hut.len, List.take_length] at e9
      have e9 : H9 D = some (.lst (((ps.take i).map fun q => q.1.nm).map V.str)) := by rw [e9, ← List.map_take, List.map_map, List.map_map]; rfl
      have s69 := s.trans (s8.trans s9)
      refine ⟨D, _, rfl, .inl (sqL_of e9), rfl, flat_strs _, ?_⟩
      rw [if_neg Bool.false_ne_true, inV_str]
      refine ⟨_, rfl, bcase (fun c1 => ?_) (fun c1 => ?_)⟩
      · rw [if_pos (of_decide_eq_true c1)] at hff
        refine ⟨_, rfl, (by show 3 ≤ sizeLine; decide), fun t nt => ?_⟩
        exact qf _ _ hff _ t ((s15.trans s69).put' nt) upd_same
      rw [if_neg (of_decide_eq_false c1)] at hff
      refine ⟨_, rfl, _, rfl, D5, _, _, _, rfl, rfl, sqL_of (s69.trans (Same.refl _) |> fun z => (s8.trans s9) _ _ e5'), atI_nat (j := i) hget3, _, _, rfl, rfl, _, rfl, bcase (fun c2 => ?_) (fun c2 => ?_)⟩
      · have c2 := of_decide_eq_true c2
        rw [if_pos (by omega)] at hff
        refine ⟨_, rfl, (by show 3 ≤ sizeLine; decide), fun t nt => ?_⟩
        exact qf _ _ hff _ t ((s15.trans s69).put' nt) upd_same
      have c2 := of_decide_eq_false c2
      rw [if_neg (by omega)] at hff
      refine ⟨_, rfl, s69, outNext out k, (by unfold outNext; split <;> omega), ?_⟩
      rw [hff, take_more hget, List.map_append]
      rfl
    · rintro σ H6 ⟨y6, rfl, s, out, ho, hff⟩
      refine qn ?_ _ H6 (s15.trans s)
      rw [hff, List.drop_of_length_le (by
        first
          | omega
          | (show ps.length ≤ ((us4.length : Nat) : Int).toNat; omega))]
      rfl
  obtain ⟨fp, pr, ws, hp, hfp, hpr, hX⟩ := id hS
  have hln := hX.len
  have hlz := RF.nodes_le f
  refine ⟨_, rfl, p, _, 1, _, rfl, rfl, hp, atI_nat (j := 1) rfl, pr, ws, f, rfl, hpr, hX, by omega, by omega, fun H1 D1 us1 s1 e1 hu1 => ?_⟩
  have hul := hu1.len
  rw [List.length_map, RF.pre_len] at hul
  refine ⟨D1, rfl, ⟨_, sqL_of e1⟩, fun D nD => lc_it walk_list (fun i H' => Same H1 H' ∧ H' D = some (.lst ((((f.pre 0).map fun q => q.1).take i).map fun n => V.str n.nm))) ⟨(Same.refl H1).put nD, upd_same⟩ (fun _ _ _ h => sqL_of (h.1 _ _ e1)) ?_ ?_⟩
  · rintro i y H3 H4 hi ⟨s, e⟩ ⟨rfl, hy⟩
    obtain ⟨n, hn, o, wa, ba, pa, ws', rfl, hO, _⟩ := hu1.get hy
    refine ⟨rfl, yes_ ⟨_, rfl, o, _, 0, _, rfl, rfl, s.tup hO, atI_nat (j := 0) rfl, ?_⟩⟩
    refine grow (acc := fun i => (((f.pre 0).map fun q => q.1).take i).map fun n => V.str n.nm) nD s e ?_ ?_
    · rw [List.length_map, List.length_take, List.length_map, RF.pre_len]
      exact small1000 (by omega)
    · show List.map _ _ = List.map _ _ ++ _
      rw [take_more hn, List.map_append]
      rfl
  rintro H2 ⟨s2, e2⟩
  rw [hu1.len, List.take_length] at e2
  have e2 : H2 D = some (.lst (f.names.map V.str)) := by rw [e2, ← RF.pre_names f 0, List.map_map, List.map_map]; rfl
  have s02 := s1.trans s2
  have hS2 := hS.keeps (N := NoL) s02.keeps
  have ham2 := ham.keeps (N := NoL) s02.keeps
  obtain ⟨a1, a2, a3⟩ := aft_dims (rl := rl) hok hnd hev
  clear hu1 e1
  cases am with
  | rul0 z =>
    obtain ⟨t, rfl, ht⟩ := ham2
    refine ⟨_, rfl, t, _, 0, _, rfl, rfl, ht, atI_nat (j := 0) rfl, _, rfl, t, _, 1, _, rfl, rfl, ht, atI_nat (j := 1) rfl, _, _, rfl, ?_⟩
    refine ⟨_, rfl, rfl, _, rfl, iteF (iteF ?_)⟩
    refine ⟨_, rfl, rfl, _, rfl, iteF ?_⟩
    exact ⟨"ruling", rfl, rfl, .inl ⟨by decide, fun H' s' => q H' _ (s02.trans s') rfl⟩⟩
  | add0 m =>
    obtain ⟨t, r, rfl, ht, hr0⟩ := id ham2
    refine ⟨_, rfl, t, _, 0, _, rfl, rfl, ht, atI_nat (j := 0) rfl, _, rfl, t, _, 1, _, rfl, rfl, ht, atI_nat (j := 1) rfl, _, _, rfl, ?_⟩
    refine ⟨_, rfl, rfl, _, rfl, iteF (iteF ?_)⟩
    refine ⟨_, rfl, rfl, _, rfl, iteF ?_⟩
    exact ⟨"add", rfl, rfl, .inr ⟨.inl rfl, p, .ref t, xs, f, rl, .add0 m, rfl, rfl, hS2, ham2, by omega, by omega, hnd, (fun nm e => nomatch e), by omega, by omega, a3,
      fun wd i e H' t s' et => q H' _ (s02.trans s') (by
        show StpAt K H' _ (fltOf (firstFault xs ((f.snoc m).pre 0) [] 0 0))
        have e : firstFault xs ((f.snoc m).pre 0) [] 0 0 = some (wd, i) := e
        rw [e]
        exact ⟨t, rfl, sqT_of et⟩),
      fun e σ' H' s' => q H' _ (s02.trans s') (by
        show StpAt K H' _ (fltOf (firstFault xs ((f.snoc m).pre 0) [] 0 0))
        have e : firstFault xs ((f.snoc m).pre 0) [] 0 0 = none := e
        rw [e]
        rfl)⟩⟩
  | rule nm op =>
    obtain ⟨t, word, what, rfl, ht, hop⟩ := id ham2
    have ht0 : (V.str word :: V.str nm :: (if op.two = true then [] else [what]))[0]? = some (.str word) := rfl
    have ht1 : (V.str word :: V.str nm :: (if op.two = true then [] else [what]))[1]? = some (.str nm) := rfl
    refine ⟨_, rfl, t, _, 0, _, rfl, rfl, ht, atI_nat (j := 0) ht0, _, rfl, t, _, 1, _, rfl, rfl, ht, atI_nat (j := 1) ht1, _, _, rfl, ?_⟩
    refine ⟨_, rfl, rfl, _, rfl, iteT ?_⟩
    refine ⟨_, rfl, _, rfl, D, _, rfl, .inl (sqL_of e2), rfl, flat_strs _, ?_⟩
    rw [if_pos rfl, inV_str]
    have hstp : (Am.rule nm op).stp xs f = if nm ∈ f.names then op.stp xs f nm else .unk := rfl
    refine ⟨_, rfl, bcase (fun c1 => ?_) (fun c1 => ?_)⟩
    · have c1 := of_decide_eq_false ((Bool.not_eq_true' _).mp c1)
      refine q _ _ s02 ?_
      rw [hstp, if_neg c1]
      rfl
    have c1 := of_decide_eq_true ((Bool.not_eq_false' _).mp c1)
    rw [if_pos c1] at hstp
    by_cases c2 : op = .swap
    · subst c2
      obtain ⟨rfl, rfl⟩ := hop
      obtain ⟨fp2, pr2, ws2, hp2, hfp2, hpr2, hX2⟩ := id hS2
      refine ⟨_, rfl, rfl, _, rfl, iteT ?_⟩
      obtain ⟨m0, k0, hb, hkm, hnx⟩ := RF.bes_nxt c1
      refine ⟨_, rfl, p, _, 1, _, rfl, rfl, hp2, atI_nat (j := 1) rfl, _, rfl, pr2, nm, ws2, f, rfl, hpr2, hX2, by omega, by omega, (fun e => by rw [hb] at e; cases e), fun m k e H' t' z s' et => ?_⟩
      rw [hb] at e
      cases e
      refine ⟨t', _, rfl, sqT_of et, rfl, _, _, rfl, _, _, rfl, _, _, rfl, rfl, ?_⟩
      refine ⟨_, rfl, _, _, rfl, rfl, _, rfl, rfl, _, rfl, bcase (fun c3 => ?_) (fun c3 => ?_)⟩
      · have c3 : ((k0 : Nat) : Int) + 1 = (m0 : Nat) := V.int.inj (of_decide_eq_true c3)
        refine q H' _ (s02.trans s') ?_
        rw [hstp]
        show StpAt K H' _ (if (RF.nxt nm f).isNone = true then .nonb else .ok)
        rw [hnx.mpr (by omega)]
        rfl
      · have c3 : ¬ ((k0 : Nat) : Int) + 1 = (m0 : Nat) := fun z => of_decide_eq_false c3 (by show V.int ((k0 : Nat) + 1) = _; rw [z])
        refine q H' _ (s02.trans s') ?_
        rw [hstp]
        show StpAt K H' _ (if (RF.nxt nm f).isNone = true then .nonb else .ok)
        cases hx : RF.nxt nm f with
        | none => exact absurd (hnx.mp hx) (by omega)
        | some b => rfl
    have hws : word ≠ "swap" := by
      cases op with
      | swap => exact absurd rfl c2
      | _ => rw [hop.1]; decide
    refine ⟨_, rfl, rfl, _, rfl, bcase (fun z => absurd (V.str.inj (of_decide_eq_true z)) hws) (fun _ => ?_)⟩
    have hrest : (∃ m, op = .before m ∨ op = .add m) → (word = "add" ∨ word = "before") ∧ (Am.rule nm op).stp xs f = fltOf (firstFault xs ((RF.upd nm op.G f).pre 0) [] 0 0) := by
      rintro ⟨m, rfl | rfl⟩
      · exact ⟨.inr hop.1, hstp⟩
      · exact ⟨.inl hop.1, hstp⟩
    by_cases c3 : ∃ m, op = .before m ∨ op = .add m
    · obtain ⟨h1, h2⟩ := hrest c3
      exact ⟨word, rfl, rfl, .inr ⟨h1, p, .ref t, xs, f, rl, .rule nm op, rfl, rfl, hS2, ham2, by omega, by omega, hnd, (fun nm' e => absurd (by injection e) c2), by omega, by omega, a3,
        fun wd i e H' t s' et => q H' _ (s02.trans s') (by
          have e : firstFault xs ((RF.upd nm op.G f).pre 0) [] 0 0 = some (wd, i) := e
          rw [h2, e]
          exact ⟨t, rfl, sqT_of et⟩),
        fun e σ' H' s' => q H' _ (s02.trans s') (by
          have e : firstFault xs ((RF.upd nm op.G f).pre 0) [] 0 0 = none := e
          rw [h2, e]
          rfl)⟩⟩
    · have h3 : ¬ (word = "add" ∨ word = "before") ∧ (Am.rule nm op).stp xs f = .ok := by
        cases op with
        | swap => exact absurd rfl c2
        | before m => exact absurd ⟨m, .inl rfl⟩ c3
        | add m => exact absurd ⟨m, .inr rfl⟩ c3
        | _ => rw [hop.1]; exact ⟨by decide, hstp⟩
      refine ⟨word, rfl, rfl, .inl ⟨h3.1, fun H' s' => q H' _ (s02.trans s') (by rw [h3.2]; rfl)⟩⟩
end
end Sc
namespace Sc
open PySem PySem.Spec PyProof.Rows L2
theorem sc__law_real : FnScope ["_law_amendment_here"] ["_law_amendment_here"] (defScope s__law_real) := ⟨rfl, rfl, rfl, by decide +kernel, rfl, by decide +kernel, by decide +kernel⟩
theorem all2_last {α β : Type} {S : α → β → Prop} {xs : List α} {y : β} (h : All2 S xs [y]) : ∃ x, xs = [x] ∧ S x y := by
  cases h with
  | cons h t => cases t; exact ⟨_, rfl, h⟩
section
variable {P : Program} {w : World} {K : PySem.W.Frag} {mg : Str → Option Value} {base : Heap} {C R B CC : Addr}
/-- a rule in the place of a drawn one -/
def tReal1 (K : PySem.W.Frag) (C R : Addr) : TS := fun D σ H => ∃ (t : Addr) (word : Str) (rest : List V), σ[0]? = some (some (.ref t)) ∧ SqT K H t (.str word :: rest) ∧ ((¬ (word = "add" ∨ word = "before") ∧ ∀ H', Same H H' → D.nx σ H') ∨ ((word = "add" ∨ word = "before") ∧
  ∃ (N : Addr → Prop) (y r : V) (m : Nd), rest = [y, r] ∧ RowAt K H r m ∧ (Op.add m).Okk ∧ (∀ l, H l = none → N l) ∧ ∀ H2 t2 r2, Same H H2 → SqT K H2 t2 [.str word, y, r2] → RefAt K C R N H2 r2 m → D.rt (.ref t2) H2))
def sp_real (K : PySem.W.Frag) (C R : Addr) : Sp := fun vs H Q _ => ∃ (N : Addr → Prop) (v : V) (am : Am), vs = [v] ∧ AmAt K H v am ∧ am.Okk ∧ (∀ l, H l = none → N l) ∧ ∀ H' v', Same H H' → RealAt K C R N H' v' am → Q v' H'
theorem ok_real {f : Addr} {fd : FuncData} (F : Fun K "_law_real" "_law_real" s__law_real f fd) (B : Blt mg) (c__law_made : Cal P w K mg base CX0 30 "_law_made" ["_law_rules"] (sp_made K C R 12)) (k_Condition : Mkr P w K mg base 4 "Condition" C ["self", "holding", "failing"] (sp_cond_init K C CC)) :
    FnOk P w K mg base CX0 31 f fd ["_law_amendment_here"] (sp_real K C R) := by
  refine F.ok sc__law_real (fun vs H Q E h => by obtain ⟨N, v, am, rfl, _⟩ := h; rfl) (fun cdv A outer s H vs Q E hr h => ?_)
  obtain ⟨N, v, am, rfl, ham, hok, fr, q⟩ := h
  refine ⟨_, (pss_cons (wk_ps (tReal1 K C R) (ps_if (pt_cmpR op_in_seq (pe_ix ix_tup (pv 0) pe_int (fun _ _ => rfl)) (pe_tup (pa_cons pe_str (pa_cons pe_str pa_nil))) rfl) (pss_one (ps_ret (pe_op op_catA (pe_slice sl_tupA (pv 0) po_none (po_some pe_int)) (pe_tup (pa_cons (pe_ix ix_tup (pe_cal c__law_made (hr.mono (by decide)) (pa_cons (pe_tup (pa_cons (pe_ix ix_tup (pv 0) pe_int (fun _ _ => rfl)) pa_nil)) pa_nil)) pe_int (fun _ _ => rfl)) pa_nil))))) pss_nil) ?w1)
      (pss_cons (ps_if (pt_cmpR op_eq (pe_ix ix_tup (pv 0) pe_int (fun _ _ => rfl)) pe_str (nomark _)) (pss_one (ps_ret (pe_op op_catA (pe_slice sl_tupA (pv 0) po_none (po_some pe_int)) (pe_tup (pa_cons (pe_mkN k_Condition (hr.mono (by decide)) (pa_cons (pe_ix ix_tup (pe_ix ix_tup (pv 0) pe_int (fun _ _ => rfl)) pe_int (fun _ _ => rfl)) (pa_cons (pe_ix ix_tup (pe_ix ix_tup (pv 0) pe_int (fun _ _ => rfl)) pe_int (fun _ _ => rfl)) pa_nil))) pa_nil))))) pss_nil)
      (pss_one (ps_ret (pv 0))))), ?_⟩
  case w1 =>
    rintro D σ H1 ⟨t, word, rest, g0, ht, h⟩
    have hin : inV (.str word) [V.str "add", V.str "before"] = decide (word = "add" ∨ word = "before") := by
      show inV _ ((["add", "before"] : List Str).map V.str) = _
      rw [inV_str]
      simp
    have hw0 : (V.str word :: rest)[0]? = some (.str word) := rfl
    refine ⟨_, g0, t, _, 0, _, rfl, rfl, ht, atI_nat (j := 0) hw0, (by show 2 ≤ sizeLine; decide), fun tt ntt => ?_⟩
    refine ⟨tt, _, rfl, .inr sqT_new, rfl, rfl, ?_⟩
    rw [if_neg Bool.false_ne_true, hin]
    have s1 : Same H1 (upd H1 tt (.tup [V.str "add", V.str "before"])) := (Same.refl H1).put ntt
    generalize upd H1 tt (.tup [V.str "add", V.str "before"]) = H2 at s1 ⊢
    rcases h with ⟨hno, q⟩ | ⟨hyes, N, y, r, m, rfl, hr0, hm, fr, q⟩
    · rw [decide_eq_false hno]
      exact ⟨_, rfl, iteF (q H2 s1)⟩
    rw [decide_eq_true hyes]
    refine ⟨_, rfl, iteT ?_⟩
    obtain ⟨m1, m2, m3, m4⟩ := hm
    have ht2 := s1.tup ht
    refine ⟨_, g0, ?_⟩
    dsimp only [tNoPart]
    refine ⟨_, rfl, ?_⟩
    refine sl_any ht2 fun p3 H3 s3 hp3 => ?_
    rw [show (2 : Int) = ((2 : Nat) : Int) from rfl, cut_to] at hp3
    refine ⟨_, g0, t, _, 2, _, rfl, rfl, s3.tup ht2, atI_nat (j := 2) rfl, (by show 1 ≤ sizeLine; decide), fun t4 nt4 => ?_⟩
    have s4 : Same H3 (upd H3 t4 (.tup [r])) := (Same.refl H3).put nt4
    have e4 : (upd H3 t4 (.tup [r])) t4 = some (.tup [r]) := upd_same
    generalize upd H3 t4 (.tup [r]) = H4 at s4 e4 ⊢
    have s14 := (s1.trans s3).trans s4
    refine ⟨N, t4, [r], RF.only m, rfl, sqT_of e4, rows_only (hr0.keeps (N := NoL) s14.keeps), (fun l nl => fr l (s14.free nl)), (by rw [RF.only_dep]; omega), by decide, (by rw [RF.only_size]; omega), RF.only_every m1 m2, fun H5 p5 us5 s5 hp5 hF5 => ?_⟩
    obtain ⟨x5, rfl, hx5⟩ := all2_last hF5.all
    refine ⟨p5, _, 0, _, rfl, rfl, hp5, atI_nat (j := 0) rfl, (by show 1 ≤ sizeLine; decide), fun t6 nt6 => ?_⟩
    have s6 : Same H5 (upd H5 t6 (.tup [x5])) := (Same.refl H5).put nt6
    have e6 : (upd H5 t6 (.tup [x5])) t6 = some (.tup [x5]) := upd_same
    generalize upd H5 t6 (.tup [x5]) = H6 at s6 e6 ⊢
    refine cat_any ((s4.trans (s5.trans s6)).tup hp3) (sqT_of e6) (by rw [sizeLine_eq]; show 2 + 1 ≤ _; omega) fun p7 H7 s7 hp7 => ?_
    exact q H7 p7 x5 (s14.trans (s5.trans (s6.trans s7))) hp7 (hx5.keeps (N := N) (s6.trans s7).keeps)
  cases am with
  | rul0 z =>
    obtain ⟨t, rfl, ht⟩ := ham
    refine ⟨t, _, _, rfl, ht, .inl ⟨by decide, fun H1 s1 => ?_⟩⟩
    refine ⟨_, rfl, t, _, 0, _, rfl, rfl, s1.tup ht, atI_nat (j := 0) rfl, rfl, _, rfl, iteF ?_⟩
    exact ⟨_, rfl, q _ _ s1 ⟨t, rfl, s1.tup ht⟩⟩
  | add0 m =>
    obtain ⟨t, r, rfl, ht, hr0⟩ := ham
    exact ⟨t, _, _, rfl, ht, .inr ⟨.inl rfl, N, _, r, m, rfl, hr0, hok, fr, fun H2 t2 r2 s2 ht2 hr2 => q H2 _ s2 ⟨t2, r2, rfl, ht2, hr2⟩⟩⟩
  | rule nm op =>
    obtain ⟨t, word, what, rfl, ht, hop⟩ := ham
    obtain ⟨hn, hok⟩ := hok
    have hskip : ∀ {rest : List V}, word ≠ "condition" → SqT K H t (.str word :: rest) → ∀ H1, Same H H1 → RealAt K C R N H1 (.ref t) (.rule nm op) → Q (.ref t) H1 := fun _ _ H1 s1 h1 => q H1 _ s1 h1
    cases op with
    | strike =>
      obtain ⟨rfl, rfl⟩ := hop
      refine ⟨t, _, _, rfl, ht, .inl ⟨by decide, fun H1 s1 => ?_⟩⟩
      refine ⟨_, rfl, t, _, 0, _, rfl, rfl, s1.tup ht, atI_nat (j := 0) rfl, rfl, _, rfl, iteF ?_⟩
      exact ⟨_, rfl, q _ _ s1 ⟨t, rfl, s1.tup ht⟩⟩
    | swap =>
      obtain ⟨rfl, rfl⟩ := hop
      refine ⟨t, _, _, rfl, ht, .inl ⟨by decide, fun H1 s1 => ?_⟩⟩
      refine ⟨_, rfl, t, _, 0, _, rfl, rfl, s1.tup ht, atI_nat (j := 0) rfl, rfl, _, rfl, iteF ?_⟩
      exact ⟨_, rfl, q _ _ s1 ⟨t, rfl, s1.tup ht⟩⟩
    | ruling z =>
      obtain ⟨rfl, rfl⟩ := hop
      refine ⟨t, _, _, rfl, ht, .inl ⟨by decide, fun H1 s1 => ?_⟩⟩
      refine ⟨_, rfl, t, _, 0, _, rfl, rfl, s1.tup ht, atI_nat (j := 0) rfl, rfl, _, rfl, iteF ?_⟩
      exact ⟨_, rfl, q _ _ s1 ⟨t, _, _, rfl, s1.tup ht, rfl, rfl⟩⟩
    | before m =>
      obtain ⟨rfl, hr0⟩ := hop
      exact ⟨t, _, _, rfl, ht, .inr ⟨.inr rfl, N, _, what, m, rfl, hr0, hok, fr, fun H2 t2 r2 s2 ht2 hr2 => q H2 _ s2 ⟨t2, _, r2, rfl, ht2, rfl, hr2⟩⟩⟩
    | add m =>
      obtain ⟨rfl, hr0⟩ := hop
      exact ⟨t, _, _, rfl, ht, .inr ⟨.inl rfl, N, _, what, m, rfl, hr0, hok, fr, fun H2 t2 r2 s2 ht2 hr2 => q H2 _ s2 ⟨t2, _, r2, rfl, ht2, rfl, hr2⟩⟩⟩
    | cond hs gs =>
      obtain ⟨rfl, tc, hp, gp, rfl, htc, hhp, hgp⟩ := hop
      refine ⟨t, _, _, rfl, ht, .inl ⟨by decide, fun H1 s1 => ?_⟩⟩
      have ht1 := s1.tup ht
      refine ⟨_, rfl, t, _, 0, _, rfl, rfl, ht1, atI_nat (j := 0) rfl, rfl, _, rfl, iteT ?_⟩
      refine ⟨_, rfl, ?_⟩
      dsimp only [tNoPart]
      refine ⟨_, rfl, ?_⟩
      refine sl_any ht1 fun p3 H3 s3 hp3 => ?_
      rw [show (2 : Int) = ((2 : Nat) : Int) from rfl, cut_to] at hp3
      have s13 := s1.trans s3
      refine ⟨_, rfl, t, _, 2, _, rfl, rfl, s3.tup ht1, atI_nat (j := 2) rfl, tc, _, 0, _, rfl, rfl, s13.tup htc, atI_nat (j := 0) rfl, _, rfl, t, _, 2, _, rfl, rfl, s3.tup ht1, atI_nat (j := 2) rfl, tc, _, 1, _, rfl, rfl, s13.tup htc, atI_nat (j := 1) rfl, fun c dxc nc ndc nec => ?_⟩
      have s4 : Same H3 (upd (upd H3 dxc (.own c)) c (.ins C dxc [])) := ((Same.refl H3).put ndc).put nc
      have l1 := fw_len hok.1
      have l2 := fw_len hok.2
      simp only [List.length_nil] at l1
      refine ⟨c, dxc, hp, gp, hs, gs, rfl, upd_same, (s13.trans s4).tup hhp, (s13.trans s4).tup hgp, fw_txts hok.1, fw_txts hok.2, by omega, by omega, (fun i e => by rw [hok.1] at e; cases e), fun _ => ⟨(fun i e => by rw [hok.2] at e; cases e), fun _ H5 nn zs sX hc hnn hperm hsort => ⟨rfl, ?_⟩⟩⟩
      have s5 : Same H3 H5 := fun b' o' h => sX b' o' (fun e => by rw [e, nc] at h; cases h) (s4 _ _ h)
      have hcond : CondAt K C H5 c hs gs := ⟨dxc, hp, gp, nn, zs, hc, (s13.trans s5).tup hhp, (s13.trans s5).tup hgp, hnn, srt_uniq hperm hsort⟩
      refine ⟨(by show 1 ≤ sizeLine; decide), fun t6 nt6 => ?_⟩
      have s6 : Same H5 (upd H5 t6 (.tup [.ref c])) := (Same.refl H5).put nt6
      have e6 : (upd H5 t6 (.tup [.ref c])) t6 = some (.tup [.ref c]) := upd_same
      generalize upd H5 t6 (.tup [.ref c]) = H6 at s6 e6 ⊢
      refine cat_any ((s5.trans s6).tup hp3) (sqT_of e6) (by rw [sizeLine_eq]; show 2 + 1 ≤ _; omega) fun p7 H7 s7 hp7 => ?_
      exact q H7 _ (s13.trans (s5.trans (s6.trans s7))) ⟨p7, _, _, rfl, hp7, rfl, c, rfl, hcond.keeps (N := NoL) (s6.trans s7).keeps⟩
end
end Sc
namespace Sc
open PySem PySem.Spec PyProof.Rows L2
theorem sc__law_amendment : FnScope ["_law_h", "_law_drawn_here", "_law_rule_here", "_law_names", "_law_name", "_law_fresh", "_law_path", "_law_one"] ["_law_h", "_law_drawn_here"] (defScope s__law_amendment) := ⟨rfl, rfl, rfl, by decide +kernel, rfl, by decide +kernel, by decide +kernel⟩
/-- names in a list of one's own -/
def LsAt (a l : Addr) (H : Hp) (D : Addr) (ns : List Str) : Prop := H D = some (.lst (ns.map V.str)) ∧ D ≠ a ∧ D ≠ l ∧ (∀ x ∈ ns, isName x = true) ∧ ns.length ≤ 900
theorem LsAt.kp {a l : Addr} {H H' : Hp} {D : Addr} {ns : List Str} (k : Kp a l H H') (h : LsAt a l H D ns) : LsAt a l H' D ns := ⟨k.keep _ _ h.2.1 h.2.2.1 h.1, h.2⟩
theorem LsAt.same {a l : Addr} {H H' : Hp} {D : Addr} {ns : List Str} (k : Same H H') (h : LsAt a l H D ns) : LsAt a l H' D ns := ⟨k _ _ h.1, h.2⟩
def tNm : TE := fun σ H Q => ∃ (a l D : Addr) (ns : List Str), σ[0]? = some (some (.ref a)) ∧ σ[3]? = some (some (.ref D)) ∧ RS H a l ∧ LsAt a l H D ns ∧ ∀ H' nm, Kp a l H H' → isName nm = true → Q (.str nm) H'
def tNon : TS := fun D σ H => ∃ (a l : Addr) (nm : Str), σ[0]? = some (some (.ref a)) ∧ σ[4]? = some (some (.str nm)) ∧ RS H a l ∧ ∀ H' nv, Kp a l H H' → (nv = .str nm ∨ nv = .non) → D.nx (σ.set 4 (some nv)) H'
def tPath : TS := fun D σ H => ∃ (a l : Addr) (nv : V) (r : Int), σ[0]? = some (some (.ref a)) ∧ σ[4]? = some (some nv) ∧ σ[6]? = some (some (.int r)) ∧ RS H a l ∧ ∀ H' r', Kp a l H H' → D.nx (σ.set 6 (some (.int r'))) H'
/-- the drawn rule, perhaps with a name that is taken -/
def tRen (K : PySem.W.Frag) : TS := fun D σ H => ∃ (a l L : Addr) (ns : List Str) (v : V) (n : Nd), σ[0]? = some (some (.ref a)) ∧ σ[3]? = some (some (.ref L)) ∧ σ[2]? = some (some v) ∧ RS H a l ∧ LsAt a l H L ns ∧ RowAt K H v n ∧ isName n.nm = true ∧
  ∀ H' v' nm', Kp a l H H' → isName nm' = true → RowAt K H' v' ⟨nm', n.hs, n.fs, n.rl, n.exc⟩ → D.nx (σ.set 2 (some v')) H'
def tPut (K : PySem.W.Frag) : TS := fun D σ H => ∃ (a l p L L5 : Addr) (ns fr : List Str) (nv : V) (r : Int) (xs : List Str) (f : RF) (rl : Str), σ[0]? = some (some (.ref a)) ∧ σ[1]? = some (some (.ref p)) ∧ σ[3]? = some (some (.ref L)) ∧ σ[4]? = some (some nv) ∧ σ[5]? = some (some (.ref L5)) ∧ σ[6]? = some (some (.int r)) ∧ σ.length = 8 ∧
  RS H a l ∧ SeenAt K H p xs f rl ∧ Right xs ∧ xs.length ≤ 60 ∧ LsAt a l H L ns ∧ LsAt a l H L5 fr ∧ (nv = .non ∨ ∃ nm, nv = .str nm ∧ isName nm = true) ∧
  (∀ H' v am, Kp a l H H' → AmAt K H' v am → am.Ok2 xs → D.rt v H') ∧ ∀ H', Kp a l H H' → D.nx σ H'
def tStr : TS := fun D σ H => ∃ (nv : V) (r : Int), σ[4]? = some (some nv) ∧ σ[6]? = some (some (.int r)) ∧ (nv = .non ∨ ∃ nm, nv = .str nm) ∧ (∀ nm, nv = .str nm → ∀ t, H t = none → D.rt (.ref t) (upd H t (.tup [.str "strike", .str nm])) ∧ D.rt (.ref t) (upd H t (.tup [.str "swap", .str nm]))) ∧ D.nx σ H
def tRul : TS := fun D σ H => ∃ (a l : Addr) (nv : V) (r : Int), σ[0]? = some (some (.ref a)) ∧ σ[4]? = some (some nv) ∧ σ[6]? = some (some (.int r)) ∧ RS H a l ∧ (∀ H' z t, Kp a l H H' → isName z = true → H' t = none → D.rt (.ref t) (upd H' t (.tup [.str "ruling", nv, .str z]))) ∧ (nv ≠ .non → D.nx σ H)
section
variable {P : Program} {w : World} {K : PySem.W.Frag} {mg : Str → Option Value} {base : Heap} {C R B CC : Addr}
def sp_amt (K : PySem.W.Frag) : Sp := fun vs H Q _ => ∃ (a l p : Addr) (xs : List Str) (f : RF) (rl : Str), vs = [.ref a, .ref p] ∧ RS H a l ∧ SeenAt K H p xs f rl ∧ Right xs ∧ xs.length ≤ 60 ∧ f.dep ≤ 12 ∧ f.size ≤ 900 ∧ f.every (N2 xs) ∧ ∀ H' v am, Kp a l H H' → AmAt K H' v am → am.Ok2 xs → Q v H'
theorem len8 {σ : L2.St} (h : σ.length = 8) : ∃ x0 x1 x2 x3 x4 x5 x6 x7, σ = [x0, x1, x2, x3, x4, x5, x6, x7] := by
  match σ, h with
  | [x0, x1, x2, x3, x4, x5, x6, x7], _ => exact ⟨x0, x1, x2, x3, x4, x5, x6, x7, rfl⟩
theorem ok_amt {f : Addr} {fd : FuncData} (F : Fun K "_law_amendment" "_law_amendment" s__law_amendment f fd) (B : Blt mg) (c__law_next : Cal P w K mg base CX0 1 "_law_next" ["_law_h", "_law_limit"] sp_next) (c__law_all : Cal P w K mg base CX0 14 "_law_all" ["_law_rules"] (sp_all K 12))
    (c__law_rule : Cal P w K mg base CX0 5 "_law_rule" ["_law_h", "_law_facts_here", "_law_names", "_law_deep"] (sp_rule2 K 2)) (c__law_sides : Cal P w K mg base CX0 2 "_law_sides" ["_law_h", "_law_facts_here", "_law_most"] (sp_sides K)) :
    FnOk P w K mg base CX0 16 f fd ["_law_h", "_law_drawn_here"] (sp_amt K) := by
  refine F.ok sc__law_amendment (fun vs H Q E h => by obtain ⟨a, l, p, xs, f, rl, rfl, _⟩ := h; rfl) (fun cdv A outer s H vs Q E hr h => ?_)
  obtain ⟨a, l, p, xs, f, rl, rfl, R0, hS, hxs, hxl, hd, hz, hev, q⟩ := h
  refine ⟨_, (pss_cons (ps_set (i := 3) sc__law_amendment.nd rfl (Or.inr rfl) (pe_lc (own := [("_law_rule_here", 2)]) (g := gName 2) (tt := tYes) rfl sc__law_amendment.nd (pi_list (pe_cal c__law_all (hr.mono (by decide)) (pa_cons (pe_ix ix_tup (pv 1) pe_int (fun _ _ => rfl)) pa_nil))) (blkOk_by (own := [("_law_rule_here", 2)]) (N := ["_law_h", "_law_drawn_here", "_law_rule_here", "_law_names", "_law_name", "_law_fresh", "_law_path", "_law_one"]) (sc := defScope s__law_amendment) (by decide +kernel)) (fun _ _ _ _ _ => (pg_name (i := 2) sc__law_amendment.nd rfl (Or.inl rfl))) (fun _ _ _ _ _ => pts_nil) (fun _ _ _ _ _ => (pe_.re (pe_ix ix_tup (pv 2) pe_int (fun _ _ => rfl)) (by first | (dsimp only [Cx.blk]; done) | exact rfl)))))
      (pss_cons (ps_set (i := 4) sc__law_amendment.nd rfl (Or.inl rfl) (pe_wk (tNm) (pe_ifExp (PW.pt (pw_and (pt_cmpR (op_neD hr.units) (pv 3) (pe_lst pa_nil) (nomark _)) (pw_and1 (pt_cmpR op_gt (pe_cal c__law_next (hr.mono (by decide)) (pa_cons (pv 0) (pa_cons pe_int pa_nil))) pe_int (nomark _))))) (pe_ix ix_list (pv 3) (pe_cal c__law_next (hr.mono (by decide)) (pa_cons (pv 0) (pa_cons (pe_callB call_len_seq (by rfl) B.b_len PySem.boot_len (pa_cons (pv 3) pa_nil)) pa_nil))) (fun _ _ => rfl)) pe_str) ?wn))
      (pss_cons (ps_setLc (i := 5) (own := [("_law_one", 7)]) (g := gName 7) rfl sc__law_amendment.nd rfl rfl (sw_true rfl rfl rfl (by decide +kernel)) (pi_list (pe_lst (pa_cons pe_str (pa_cons pe_str (pa_cons pe_str (pa_cons pe_str (pa_cons pe_str pa_nil))))))) (blkOk_by (own := [("_law_one", 7)]) (N := ["_law_h", "_law_drawn_here", "_law_rule_here", "_law_names", "_law_name", "_law_fresh", "_law_path", "_law_one"]) (sc := defScope s__law_amendment) (by decide +kernel)) (fun _ _ _ _ _ => (pg_name (i := 7) sc__law_amendment.nd rfl (Or.inl rfl))) (fun _ _ _ _ _ => (pts_.re (pts_one (pt_cmpR op_notIn_seq (pv 7) (pv 3) rfl)) (by first | (dsimp only [Cx.blk]; done) | exact rfl))) (fun _ _ _ _ _ => (pe_.re (pv 7) (by first | (dsimp only [Cx.blk]; done) | exact rfl))))
      (pss_cons (wk_ps (tNon) (ps_if (PW.pt (pw_and (pt_cmpR op_eq (pv 4) pe_str (nomark _)) (pw_and1 (pt_cmpR op_eq (pe_cal c__law_next (hr.mono (by decide)) (pa_cons (pv 0) (pa_cons pe_int pa_nil))) pe_int (nomark _))))) (pss_one (ps_set (i := 4) sc__law_amendment.nd rfl (Or.inl rfl) pe_non)) pss_nil) ?w2)
      (pss_cons (ps_set (i := 6) sc__law_amendment.nd rfl (Or.inl rfl) (pe_cal c__law_next (hr.mono (by decide)) (pa_cons (pv 0) (pa_cons pe_int pa_nil))))
      (pss_cons (wk_ps (tPath) (ps_if (pt_cmpR op_isN (pv 4) pe_non (nomark _)) (pss_one (ps_set (i := 6) sc__law_amendment.nd rfl (Or.inl rfl) (pe_op op_mul (pe_cal c__law_next (hr.mono (by decide)) (pa_cons (pv 0) (pa_cons pe_int pa_nil))) pe_int))) pss_nil) ?w3)
      (pss_cons (wk_ps (tPut K) (ps_if (PW.pt (pw_and (pt_cmpR op_lt (pv 6) pe_int (nomark _)) (pw_and1 (pt_cmpR (op_neD hr.units) (pv 5) (pe_lst pa_nil) (nomark _))))) (pss_cons (ps_set (i := 2) sc__law_amendment.nd rfl (Or.inl rfl) (pe_cal c__law_rule (hr.mono (by decide)) (pa_cons (pv 0) (pa_cons (pe_ix ix_tup (pv 1) pe_int (fun _ _ => rfl)) (pa_cons (pe_slice sl_list (pv 5) po_none (po_some pe_int)) (pa_cons pe_int pa_nil))))))
      (pss_cons (wk_ps (tRen K) (ps_if (PW.pt (pw_and (pt_cmpR op_eq (pe_cal c__law_next (hr.mono (by decide)) (pa_cons (pv 0) (pa_cons pe_int pa_nil))) pe_int (nomark _)) (pw_and1 (pt_cmpR (op_neD hr.units) (pv 3) (pe_lst pa_nil) (nomark _))))) (pss_one (ps_set (i := 2) sc__law_amendment.nd rfl (Or.inl rfl) (pe_op op_catA (pe_tup (pa_cons (pe_ix ix_list (pv 3) pe_int (fun _ _ => rfl)) pa_nil)) (pe_slice sl_tupA (pv 2) (po_some pe_int) po_none)))) pss_nil) ?w5)
      (pss_one (ps_ret (pe_ifExp (PW.pt (pw_and (pt_cmpR op_eq (pv 6) pe_int (nomark _)) (pw_and1 (pt_cmpR op_notN (pv 4) pe_non (nomark _))))) (pe_tup (pa_cons pe_str (pa_cons (pv 4) (pa_cons (pv 2) pa_nil)))) (pe_tup (pa_cons pe_str (pa_cons (pv 4) (pa_cons (pv 2) pa_nil))))))))) pss_nil) ?w4)
      (pss_cons (wk_ps (tStr) (ps_if (PW.pt (pw_and (pt_cmpR op_lt (pv 6) pe_int (nomark _)) (pw_and1 (pt_cmpR op_notN (pv 4) pe_non (nomark _))))) (pss_one (ps_ret (pe_ifExp (pt_cmpR op_eq (pv 6) pe_int (nomark _)) (pe_tup (pa_cons pe_str (pa_cons (pv 4) pa_nil))) (pe_tup (pa_cons pe_str (pa_cons (pv 4) pa_nil)))))) pss_nil) ?w6)
      (pss_cons (wk_ps (tRul) (ps_if (PW.pt (pw_or (pt_cmpR op_lt (pv 6) pe_int (nomark _)) (pw_or1 (pt_cmpR op_isN (pv 4) pe_non (nomark _))))) (pss_one (ps_ret (pe_tup (pa_cons pe_str (pa_cons (pv 4) (pa_cons (pe_ix ix_list (pe_lst (pa_cons pe_str (pa_cons pe_str (pa_cons pe_str pa_nil)))) (pe_cal c__law_next (hr.mono (by decide)) (pa_cons (pv 0) (pa_cons pe_int pa_nil))) (fun _ _ => rfl)) pa_nil)))))) pss_nil) ?w7)
      (pss_one (ps_ret (pe_tup (pa_cons pe_str (pa_cons (pv 4) (pa_cons (pe_cal c__law_sides (hr.mono (by decide)) (pa_cons (pv 0) (pa_cons (pe_ix ix_tup (pv 1) pe_int (fun _ _ => rfl)) (pa_cons pe_int pa_nil)))) pa_nil))))))))))))))), ?_⟩
  case wn =>
    rintro σ H0 Q0 ⟨a, l, L, ns, e0, e3, R, hL, q⟩
    refine ⟨_, e3, Nat.zero_le _, fun te nte => ⟨.list (ns.map PyData.str), .list [], .lst (sqL_of (by rw [upd_ne (ne_of_none hL.1 nte)]; exact hL.1)) (dps K _ _), .lst sqL_new .nil, shL (fun x hx => name_fine (hL.2.2.2.1 x hx)), rfl, _, rfl, ?_⟩⟩
    have ed : (PyData.list (ns.map PyData.str)).eqv (.list []) = decide (ns = []) := eqvA_nil _
    rw [ed]
    have s1 : Same H0 (upd H0 te (.lst [])) := (Same.refl H0).put nte
    have k1 := Kp.of R s1
    have hL1 := hL.same s1
    generalize upd H0 te (.lst []) = H1 at s1 k1 hL1 ⊢
    have no : ∀ H', Kp a l H0 H' → Q0 (.str "nobody") H' := fun H' k => q H' _ k (by decide +kernel)
    refine bcase (fun c1 => ?_) (fun c1 => iteF (no _ k1))
    have c1 : ns ≠ [] := of_decide_eq_false ((Bool.not_eq_true' _).mp c1)
    have hnl : 0 < ns.length := List.length_pos_iff.mpr c1
    have hn9 := hL.2.2.2.2
    refine ⟨_, e0, a, l, 12, rfl, k1.new, by decide, small_lim (by decide) (by decide), fun H2 r k2 r0 r1 => ?_⟩
    refine ⟨_, _, rfl, rfl, _, rfl, bcase (fun _ => ?_) (fun _ => no _ (k1.trans k2))⟩
    have hL2 := hL1.kp k2
    refine ⟨_, e3, _, e0, _, e3, L, _, rfl, .inl (sqL_of hL2.1), a, l, _, rfl, k2.new, by rw [List.length_map]; omega, small_lim (by rw [List.length_map]; omega) (by rw [List.length_map]; omega), fun H3 r3 k3 r30 r31 => ?_⟩
    rw [List.length_map] at r31
    obtain ⟨j, rfl⟩ := Int.eq_ofNat_of_zero_le r30
    have hj : j < ns.length := by omega
    have hL3 := hL2.kp k3
    exact ⟨L, _, _, .str ns[j], rfl, rfl, sqL_of hL3.1, atI_nat (j := j) (by rw [List.getElem?_map, List.getElem?_eq_getElem hj]; rfl), q H3 _ ((k1.trans k2).trans k3) (hL.2.2.2.1 _ (List.getElem_mem hj))⟩
  case w2 =>
    rintro D σ H0 ⟨a, l, nm, e0, e4, R, q⟩
    have stay : ∀ H', Kp a l H0 H' → D.nx σ H' := fun H' k => by
      have h := q H' (.str nm) k (.inl rfl)
      rw [set_same' e4] at h
      exact h
    refine ⟨_, e4, rfl, _, rfl, bcase (fun _ => ?_) (fun _ => iteF (stay H0 (Kp.refl R)))⟩
    refine ⟨_, e0, a, l, 2, rfl, R, by decide, small_lim (by decide) (by decide), fun H2 r k r0 r1 => ?_⟩
    exact ⟨rfl, _, rfl, bcase (fun _ => q H2 .non k (.inr rfl)) (fun _ => stay H2 k)⟩
  case w3 =>
    rintro D σ H0 ⟨a, l, nv, r, e0, e4, e6, R, q⟩
    refine ⟨_, e4, rfl, _, rfl, bcase (fun _ => ?_) (fun _ => ?_)⟩
    · refine ⟨_, e0, a, l, 2, rfl, R, by decide, small_lim (by decide) (by decide), fun H2 r2 k r0 r1 => ?_⟩
      exact ⟨_, _, rfl, rfl, .inl ⟨by omega, by omega⟩, q H2 _ k⟩
    · have h := q H0 r (Kp.refl R)
      rw [set_same' e6] at h
      exact h
  case w5 =>
    rintro D σ H0 ⟨a, l, L, ns, v, n, e0, e3, e2, R, hL, hrow, hn, q⟩
    have stay : ∀ H', Kp a l H0 H' → D.nx σ H' := fun H' k => by
      have h := q H' v n.nm k hn (hrow.keeps (N := NoL) k.keepsN)
      rw [set_same' e2] at h
      exact h
    refine ⟨_, e0, a, l, 12, rfl, R, by decide, small_lim (by decide) (by decide), fun H1 r k1 r0 r1 => ?_⟩
    refine ⟨rfl, _, rfl, bcase (fun _ => ?_) (fun _ => iteF (stay H1 k1))⟩
    have hL1 := hL.kp k1
    refine ⟨_, e3, Nat.zero_le _, fun te nte => ⟨.list (ns.map PyData.str), .list [], .lst (sqL_of (by rw [upd_ne (ne_of_none hL1.1 nte)]; exact hL1.1)) (dps K _ _), .lst sqL_new .nil, shL (fun x hx => name_fine (hL.2.2.2.1 x hx)), rfl, _, rfl, ?_⟩⟩
    have ed : (PyData.list (ns.map PyData.str)).eqv (.list []) = decide (ns = []) := eqvA_nil _
    rw [ed]
    have s2 : Same H1 (upd H1 te (.lst [])) := (Same.refl H1).put nte
    have k2 := k1.same s2
    have hL2 := hL1.same s2
    generalize upd H1 te (.lst []) = H2 at s2 k2 hL2 ⊢
    refine bcase (fun c1 => ?_) (fun _ => stay H2 k2)
    have c1 : ns ≠ [] := of_decide_eq_false ((Bool.not_eq_true' _).mp c1)
    obtain ⟨y, ys, rfl⟩ := List.exists_cons_of_ne_nil c1
    obtain ⟨o, wa, ba, pa, ws', rfl, hO, hW, hB, hPe, hXe⟩ := hrow.keeps (N := NoL) k2.keepsN
    refine ⟨_, e3, L, _, 0, .str y, rfl, rfl, sqL_of hL2.1, atI_nat (j := 0) rfl, (by show 1 ≤ sizeLine; decide), fun t3 nt3 => ?_⟩
    have s3 : Same H2 (upd H2 t3 (.tup [.str y])) := (Same.refl H2).put nt3
    have e3' : (upd H2 t3 (.tup [.str y])) t3 = some (.tup [.str y]) := upd_same
    generalize upd H2 t3 (.tup [.str y]) = H3 at s3 e3' ⊢
    refine ⟨_, e2, _, rfl, ?_⟩
    dsimp only [tNoPart]
    refine sl_any (s3.tup hO) fun p5 H5 s5 hp5 => ?_
    rw [show (1 : Int) = ((1 : Nat) : Int) from rfl, cut_from] at hp5
    refine cat_any (s5.tup (sqT_of e3')) hp5 (by rw [sizeLine_eq]; show 1 + 4 ≤ _; omega) fun p7 H7 s7 hp7 => ?_
    have s27 := s3.trans (s5.trans s7)
    exact q H7 _ y (k2.same s27) (hL.2.2.2.1 y List.mem_cons_self) ⟨p7, wa, ba, pa, ws', rfl, hp7, s27.tup hW, s27.tup hB, s27.tup hPe, hXe.keeps (N := NoL) s27.keeps⟩
  case w6 =>
    rintro D σ H0 ⟨nv, r, e4, e6, hnv, q1, q2⟩
    refine ⟨_, e6, _, _, rfl, rfl, _, rfl, bcase (fun _ => ?_) (fun _ => iteF q2)⟩
    refine ⟨_, e4, rfl, _, rfl, bcase (fun c => ?_) (fun _ => q2)⟩
    rcases hnv with rfl | ⟨nm, rfl⟩
    · exact absurd c (by rw [decide_eq_true rfl]; exact Bool.false_ne_true)
    · refine ⟨_, e6, rfl, _, rfl, bcase (fun _ => ?_) (fun _ => ?_)⟩
      · exact ⟨_, e4, (by show 2 ≤ sizeLine; decide), fun t nt => (q1 nm rfl t nt).1⟩
      · exact ⟨_, e4, (by show 2 ≤ sizeLine; decide), fun t nt => (q1 nm rfl t nt).2⟩
  case w7 =>
    rintro D σ H0 ⟨a, l, nv, r, e0, e4, e6, R, q1, q2⟩
    refine ⟨_, e6, _, _, rfl, rfl, _, rfl, bcase (fun _ => iteT ?_) (fun _ => ⟨_, e4, rfl, _, rfl, bcase (fun _ => ?_) (fun c => q2 fun z => of_decide_eq_false c z)⟩)⟩
    all_goals
      refine ⟨_, e4, (by show 3 ≤ sizeLine; decide), fun lp nlp => ?_⟩
      have s3 : Same H0 (upd H0 lp (.lst (three.map V.str))) := (Same.refl H0).put nlp
      have elp : (upd H0 lp (.lst (three.map V.str))) lp = some (.lst (three.map V.str)) := upd_same
      obtain ⟨la, ll⟩ := R.no nlp
      refine ⟨_, e0, a, l, 3, rfl, R.same s3, by decide, small_lim (by decide) (by decide), fun H4 r4 k4 r40 r41 => ?_⟩
      obtain ⟨j, rfl⟩ := Int.eq_ofNat_of_zero_le r40
      have hj : j < three.length := by show j < 3; omega
      have elp4 := k4.keep _ _ la ll elp
      refine ⟨lp, _, _, .str three[j], rfl, rfl, sqL_of elp4, atI_nat (j := j) (by rw [List.getElem?_map, List.getElem?_eq_getElem hj]; rfl), ?_⟩
      exact ⟨(by show 3 ≤ sizeLine; decide), fun t nt => q1 H4 _ t ((Kp.of R s3).trans k4) (three_name _ (List.getElem_mem hj)) nt⟩
  case w4 =>
    rintro D σ H0 ⟨a, l, p, L, L5, ns, fr, nv, r, xs, f, rl, e0, e1, e3, e4, e5, e6, hσ, R, hS, hxs, hxl, hL, hL5, hnv, qr, qn⟩
    refine ⟨_, e6, _, _, rfl, rfl, _, rfl, bcase (fun _ => ?_) (fun _ => iteF (qn H0 (Kp.refl R)))⟩
    refine ⟨_, e5, Nat.zero_le _, fun te nte => ⟨.list (fr.map PyData.str), .list [], .lst (sqL_of (by rw [upd_ne (ne_of_none hL5.1 nte)]; exact hL5.1)) (dps K _ _), .lst sqL_new .nil, shL (fun x hx => name_fine (hL5.2.2.2.1 x hx)), rfl, _, rfl, ?_⟩⟩
    have ed : (PyData.list (fr.map PyData.str)).eqv (.list []) = decide (fr = []) := eqvA_nil _
    rw [ed]
    have s1 : Same H0 (upd H0 te (.lst [])) := (Same.refl H0).put nte
    have k1 := Kp.of R s1
    generalize upd H0 te (.lst []) = H1 at s1 k1 ⊢
    refine bcase (fun c1 => ?_) (fun _ => qn H1 k1)
    have c1 : fr ≠ [] := of_decide_eq_false ((Bool.not_eq_true' _).mp c1)
    have hL1 := hL.kp k1
    have hL51 := hL5.kp k1
    obtain ⟨x0, x1, x2, x3, x4, x5, x6, x7, rfl⟩ := len8 hσ
    obtain rfl : x0 = some (.ref a) := Option.some.inj e0
    obtain rfl : x1 = some (.ref p) := Option.some.inj e1
    obtain rfl : x3 = some (.ref L) := Option.some.inj e3
    obtain rfl : x4 = some nv := Option.some.inj e4
    obtain rfl : x5 = some (.ref L5) := Option.some.inj e5
    obtain rfl : x6 = some (.int r) := Option.some.inj e6
    obtain ⟨fp, pr, ws, hp, hfp, hpr, hX⟩ := hS.keeps (N := NoL) s1.keeps
    refine ⟨_, rfl, _, rfl, p, _, 0, _, rfl, rfl, hp, atI_nat (j := 0) rfl, _, rfl, ?_⟩
    dsimp only [tNoPart]
    refine ⟨_, rfl, L5, _, rfl, sqL_of hL51.1, fun nl nnl => ?_⟩
    rw [show (2 : Int) = ((2 : Nat) : Int) from rfl, cut_to, ← List.map_take]
    have s2 : Same H1 (upd H1 nl (.lst ((fr.take 2).map V.str))) := (Same.refl H1).put nnl
    have m2 : (upd H1 nl (.lst ((fr.take 2).map V.str))) nl = some (.lst ((fr.take 2).map V.str)) := upd_same
    obtain ⟨na, nl'⟩ := k1.new.no nnl
    generalize upd H1 nl (.lst ((fr.take 2).map V.str)) = H2 at s2 m2 ⊢
    obtain ⟨x, ys, hxy⟩ := List.exists_cons_of_ne_nil (show fr.take 2 ≠ [] by
      cases fr with
      | nil => exact absurd rfl c1
      | cons z zs => exact List.cons_ne_nil _ _)
    have hyl : ys.length ≤ 1 := by
      have h := List.length_take (i := 2) (l := fr)
      rw [hxy, List.length_cons] at h
      omega
    rw [hxy] at m2
    have hnm : ∀ y ∈ x :: ys, isName y = true := fun y hy => hL5.2.2.2.1 y (List.mem_of_mem_take (by rw [hxy]; exact hy))
    refine ⟨a, l, fp, nl, xs, x, ys, 1, rfl, k1.new.same s2, s2.tup hfp, hxs, hxl, m2, na, nl', hnm, by omega, by decide, fun H3 v n ns' kc hrow hN hNe hnn en hdn => ?_⟩
    have k13 : Kp a l H1 H3 := ((Kp.of k1.new s2).kc.trans kc).kp nnl
    have k3 := k1.trans k13
    have hxz : n.exc.size ≤ 1 := by
      have h := congrArg List.length hnn
      rw [List.length_cons, List.length_append, List.length_cons] at h
      have h2 : n.exc.names.length = n.exc.size := by unfold RF.names; rw [List.length_map, RF.pre_len]
      omega
    have hnn0 : isName n.nm = true := hN.ok.nm
    refine ⟨a, l, L, ns, v, n, rfl, rfl, rfl, k3.new, hL.kp k3, hrow, hnn0, fun H4 v' nm' k4 hnm' hrow' => ?_⟩
    have k04 := k3.trans k4
    have hok : N2 xs ⟨nm', n.hs, n.fs, n.rl, n.exc⟩ ∧ RF.every (N2 xs) n.exc ∧ n.exc.dep ≤ 1 ∧ n.exc.size ≤ 1 := ⟨⟨⟨hnm', hN.ok.rl, hN.ok.c1, hN.ok.c2⟩, hN.s1, hN.s2⟩, hNe, hdn, hxz⟩
    have hadd : ∀ t, H4 t = none → D.rt (.ref t) (upd H4 t (.tup [.str "add", nv, v'])) := fun t nt => by
      have s5 : Same H4 (upd H4 t (.tup [.str "add", nv, v'])) := (Same.refl H4).put nt
      rcases hnv with rfl | ⟨nm, rfl, hnm⟩
      · exact qr _ _ (.add0 ⟨nm', n.hs, n.fs, n.rl, n.exc⟩) (k04.same s5) ⟨t, v', rfl, sqT_new, hrow'.keeps (N := NoL) s5.keeps⟩ hok
      · exact qr _ _ (.rule nm (.add ⟨nm', n.hs, n.fs, n.rl, n.exc⟩)) (k04.same s5) ⟨t, "add", v', rfl, sqT_new, rfl, hrow'.keeps (N := NoL) s5.keeps⟩ ⟨hnm, hok⟩
    refine ⟨_, rfl, rfl, _, rfl, bcase (fun _ => ?_) (fun _ => iteF ⟨_, rfl, _, rfl, (by show 3 ≤ sizeLine; decide), hadd⟩)⟩
    refine ⟨_, rfl, rfl, _, rfl, bcase (fun c2 => ?_) (fun _ => ⟨_, rfl, _, rfl, (by show 3 ≤ sizeLine; decide), hadd⟩)⟩
    rcases hnv with rfl | ⟨nm, rfl, hnm⟩
    · exact absurd c2 (by rw [decide_eq_true rfl]; exact Bool.false_ne_true)
    · refine ⟨_, rfl, _, rfl, (by show 3 ≤ sizeLine; decide), fun t nt => ?_⟩
      have s5 : Same H4 (upd H4 t (.tup [.str "before", .str nm, v'])) := (Same.refl H4).put nt
      exact qr _ _ (.rule nm (.before ⟨nm', n.hs, n.fs, n.rl, n.exc⟩)) (k04.same s5) ⟨t, "before", v', rfl, sqT_new, rfl, hrow'.keeps (N := NoL) s5.keeps⟩ ⟨hnm, hok⟩
  obtain ⟨fp, pr, ws, hp, hfp, hpr, hX⟩ := id hS
  have hln := hX.len
  have hlz := RF.nodes_le f
  refine ⟨_, rfl, p, _, 1, _, rfl, rfl, hp, atI_nat (j := 1) rfl, pr, ws, f, rfl, hpr, hX, by omega, by omega, fun H1 D1 us1 s1 e1 hu1 => ?_⟩
  have hul := hu1.len
  rw [List.length_map, RF.pre_len] at hul
  refine ⟨D1, rfl, ⟨_, sqL_of e1⟩, fun D nD => lc_it walk_list (fun i H' => Same H1 H' ∧ H' D = some (.lst ((((f.pre 0).map fun q => q.1).take i).map fun n => V.str n.nm))) ⟨(Same.refl H1).put nD, upd_same⟩ (fun _ _ _ h => sqL_of (h.1 _ _ e1)) ?_ ?_⟩
  · rintro i y H3 H4 hi ⟨s, e⟩ ⟨rfl, hy⟩
    obtain ⟨n, hn, o, wa, ba, pa, ws', rfl, hO, _⟩ := hu1.get hy
    refine ⟨rfl, yes_ ⟨_, rfl, o, _, 0, _, rfl, rfl, s.tup hO, atI_nat (j := 0) rfl, ?_⟩⟩
    refine grow (acc := fun i => (((f.pre 0).map fun q => q.1).take i).map fun n => V.str n.nm) nD s e ?_ ?_
    · rw [List.length_map, List.length_take, List.length_map, RF.pre_len]
      exact small1000 (by omega)
    · show List.map _ _ = List.map _ _ ++ _
      rw [take_more hn, List.map_append]
      rfl
  rintro H2 ⟨s2, e2⟩
  rw [hu1.len, List.take_length] at e2
  have e2 : H2 D = some (.lst (f.names.map V.str)) := by rw [e2, ← RF.pre_names f 0, List.map_map, List.map_map]; rfl
  have s02 := s1.trans s2
  have k2 := Kp.of R0 s02
  obtain ⟨Da, Dl⟩ := R0.no (s1.free nD)
  have hlsz : f.names.length = f.size := by unfold RF.names; rw [List.length_map, RF.pre_len]
  have hnames : ∀ x ∈ f.names, isName x = true := fun x hx => by
    unfold RF.names at hx
    obtain ⟨q0, hq0, rfl⟩ := List.mem_map.mp hx
    exact (RF.every_pre hev q0 hq0).ok.nm
  have hL2 : LsAt a l H2 D f.names := ⟨e2, Da, Dl, hnames, by omega⟩
  clear hu1 e1 hul
  refine ⟨a, l, D, f.names, rfl, rfl, k2.new, hL2, fun H3 nm k3 hnm => ?_⟩
  have k03 := k2.trans k3
  have hL3 := hL2.kp k3
  refine ⟨(by show 5 ≤ sizeLine; decide), fun p5 np5 => ?_⟩
  have s4 : Same H3 (upd H3 p5 (.lst [.str "new", .str "odd", .str "pie", .str "que", .str "sky"])) := (Same.refl H3).put np5
  have e4 : (upd H3 p5 (.lst [.str "new", .str "odd", .str "pie", .str "que", .str "sky"])) p5 = some (.lst [.str "new", .str "odd", .str "pie", .str "que", .str "sky"]) := upd_same
  have f5 : H p5 = none := k03.free np5
  generalize upd H3 p5 (.lst [.str "new", .str "odd", .str "pie", .str "que", .str "sky"]) = H4 at s4 e4 ⊢
  have hL4 := hL3.same s4
  refine ⟨p5, rfl, ⟨_, sqL_of e4⟩, fun D5 nD5 => lc_it walk_list (fun i H' => Same H4 H' ∧ ∃ zs : List Str, H' D5 = some (.lst (zs.map V.str)) ∧ zs.length ≤ i ∧ ∀ x ∈ zs, isName x = true) ⟨(Same.refl H4).put nD5, [], upd_same, Nat.le_refl _, fun _ h => nomatch h⟩ (fun _ _ _ h => sqL_of (h.1 _ _ e4)) ?_ ?_⟩
  · rintro i y H5 H6 hi ⟨s, zs, e, hzl, hzn⟩ ⟨rfl, hy⟩
    have hi : i < 5 := hi
    obtain ⟨z, rfl, hz⟩ : ∃ z, y = .str z ∧ isName z = true := by
      match i, hi, hy with
      | 0, _, hy => cases hy; exact ⟨_, rfl, by decide +kernel⟩
      | 1, _, hy => cases hy; exact ⟨_, rfl, by decide +kernel⟩
      | 2, _, hy => cases hy; exact ⟨_, rfl, by decide +kernel⟩
      | 3, _, hy => cases hy; exact ⟨_, rfl, by decide +kernel⟩
      | 4, _, hy => cases hy; exact ⟨_, rfl, by decide +kernel⟩
    have hL5 := hL4.same s
    refine ⟨rfl, _, rfl, _, rfl, D, _, rfl, .inl (sqL_of hL5.1), rfl, flat_strs _, ?_⟩
    rw [if_pos rfl, inV_str]
    refine ⟨_, rfl, bcase (fun _ => ?_) (fun _ => ⟨s, zs, e, by omega, hzn⟩)⟩
    refine ⟨_, rfl, zs.map V.str, e, by rw [List.length_map]; exact small1000 (by omega), s.put nD5, zs ++ [z], by rw [upd_same, List.map_append]; rfl, by rw [List.length_append, List.length_singleton]; omega, fun x hx => ?_⟩
    rcases List.mem_append.mp hx with hx | hx
    · exact hzn x hx
    · rw [List.mem_singleton.mp hx]
      exact hz
  rintro H5 ⟨s5, fr, e5, hfl, hfn⟩
  have hfl : fr.length ≤ 5 := hfl
  have s35 := s4.trans s5
  have k35 := Kp.of k3.new s35
  have k05 := k03.trans k35
  obtain ⟨Ea, El⟩ := k3.new.no (s4.free nD5)
  have hL55 : LsAt a l H5 D5 fr := ⟨e5, Ea, El, hfn, by omega⟩
  have hL5 := hL4.same s5
  refine ⟨a, l, nm, rfl, rfl, k35.new, fun H6 nv k6 hnv => ?_⟩
  have hnv : nv = .non ∨ ∃ nm, nv = .str nm ∧ isName nm = true := by
    rcases hnv with h | h
    · exact .inr ⟨nm, h, hnm⟩
    · exact .inl h
  refine ⟨_, rfl, a, l, 9, rfl, k6.new, by decide, small_lim (by decide) (by decide), fun H7 r k7 r0 r1 => ?_⟩
  refine ⟨a, l, nv, r, rfl, rfl, rfl, k7.new, fun H8 r' k8 => ?_⟩
  have k58 := (k6.trans k7).trans k8
  have k08 := k05.trans k58
  refine ⟨a, l, p, D, D5, f.names, fr, nv, r', xs, f, rl, rfl, rfl, rfl, rfl, rfl, rfl, rfl, k8.new, hS.keeps (N := NoL) k08.keepsN, hxs, hxl, hL5.kp k58, hL55.kp k58, hnv, (fun H' v am k h1 h2 => q H' v am (k08.trans k) h1 h2), fun H9 k9 => ?_⟩
  have k09 := k08.trans k9
  have hstr : ∀ {word : Str} {op : Op} {nm : Str}, op.two = true → OpW K H9 word .non op → isName nm = true → op.Ok2 xs → ∀ t, H9 t = none → Q (.ref t) (upd H9 t (.tup [.str word, .str nm])) := fun {word op nm} h1 h2 h3 h4 t nt => by
    have s10 : Same H9 (upd H9 t (.tup [.str word, .str nm])) := (Same.refl H9).put nt
    exact q _ _ (.rule nm op) (k09.same s10) ⟨t, word, .non, rfl, by rw [if_pos h1]; exact sqT_new, h2.keeps (N := NoL) s10.keeps⟩ ⟨h3, h4⟩
  have hrul : ∀ H10, Kp a l H9 H10 → ∀ z, isName z = true → ∀ t, H10 t = none → Q (.ref t) (upd H10 t (.tup [.str "ruling", nv, .str z])) := fun H10 k10 z hz t nt => by
    have s11 : Same H10 (upd H10 t (.tup [.str "ruling", nv, .str z])) := (Same.refl H10).put nt
    rcases hnv with rfl | ⟨nm, rfl, hnm⟩
    · exact q _ _ (.rul0 z) ((k09.trans k10).same s11) ⟨t, rfl, sqT_new⟩ hz
    · exact q _ _ (.rule nm (.ruling z)) ((k09.trans k10).same s11) ⟨t, "ruling", .str z, rfl, sqT_new, rfl, rfl⟩ ⟨hnm, hz⟩
  refine ⟨nv, r', rfl, rfl, hnv.imp id (fun ⟨nm, e, _⟩ => ⟨nm, e⟩), (fun nm e t nt => ?_), ?_⟩
  · subst e
    obtain ⟨nm', e, hnm'⟩ : ∃ nm', V.str nm = .str nm' ∧ isName nm' = true := by
      rcases hnv with h | h
      · exact nomatch h
      · exact h
    cases e
    exact ⟨hstr (op := .strike) rfl ⟨rfl, rfl⟩ hnm' trivial t nt, hstr (op := .swap) rfl ⟨rfl, rfl⟩ hnm' trivial t nt⟩
  refine ⟨a, l, nv, r', rfl, rfl, rfl, k09.new, (fun H10 z t k10 hz nt => hrul H10 k10 z hz t nt), fun hno => ?_⟩
  obtain ⟨nm', rfl, hnm'⟩ : ∃ nm', nv = .str nm' ∧ isName nm' = true := by
    rcases hnv with h | h
    · exact absurd h hno
    · exact h
  obtain ⟨fp9, pr9, ws9, hp9, hfp9, hpr9, hX9⟩ := hS.keeps (N := NoL) k09.keepsN
  refine ⟨_, rfl, _, rfl, _, rfl, p, _, 0, _, rfl, rfl, hp9, atI_nat (j := 0) rfl, a, l, fp9, xs, 2, rfl, k09.new, hfp9, hxl, hxs, by decide, fun H10 pc pw pb hs gs k10 ec ew eb sd => ?_⟩
  refine ⟨(by show 3 ≤ sizeLine; decide), fun t nt => ?_⟩
  have s11 : Same H10 (upd H10 t (.tup [.str "condition", .str nm', .ref pc])) := (Same.refl H10).put nt
  have hle := sd.le
  exact q _ _ (.rule nm' (.cond hs gs)) ((k09.trans k10).same s11) ⟨t, "condition", .ref pc, rfl, sqT_new, rfl, pc, pw, pb, rfl, sqT_of (s11 _ _ ec), sqT_of (s11 _ _ ew), sqT_of (s11 _ _ eb)⟩ ⟨hnm', ⟨sd.r1.none (by show 0 + hs.length ≤ 8; omega) (fun _ _ h => nomatch h), sd.r2.none (by show hs.length + gs.length ≤ 8; omega) sd.dj⟩, sd.s1, sd.s2⟩
end
end Sc
namespace Sc
open PySem PySem.Spec PyProof.Rows L2 LamX
theorem sc__law_say : FnScope ["_law_work", "e", "_law_kinds", "_law_words"] ["_law_work"] (defScope s__law_say) := ⟨rfl, rfl, rfl, by decide +kernel, rfl, by decide +kernel, by decide +kernel⟩
structure GSay (mg : Str → Option Value) (cl : Nat → Addr) (CE : Addr) : Prop where
  m_CourtError : mg "CourtError" = some (.ref CE)
  m_InvalidBook : mg "InvalidBook" = some (.ref (cl 0))
  m_UnknownRule : mg "UnknownRule" = some (.ref (cl 1))
  m_NoNeighbor : mg "NoNeighbor" = some (.ref (cl 2))
  m_InvalidAmendment : mg "InvalidAmendment" = some (.ref (cl 3))
  m_InvalidOperation : mg "InvalidOperation" = some (.ref (cl 4))
  m_InvalidCase : mg "InvalidCase" = some (.ref (cl 5))
  m_InvalidLabel : mg "InvalidLabel" = some (.ref (cl 6))
  m_UnknownLabel : mg "UnknownLabel" = some (.ref (cl 7))
/-- the class at D is the k-th -/
structure SayRow (K : PySem.W.Frag) (cl : Nat → Addr) (CE D : Addr) (k : Nat) : Prop where
  err : ErrC K D
  ex : PySem.W.exmOne K (.ref D) (.ref CE) = some true
  kit : ∀ i, i < 8 → PySem.W.kitOne K (.ref D) (.ref (cl i)) = some (decide (i = k))
  ni : PySem.W.findIn K (.ref D) "index" = some none
  nw : PySem.W.findIn K (.ref D) "word" = some none
/-- where the lambda of _law_say raises -/
abbrev EK (K : PySem.W.Frag) (cl : Nat → Addr) (CE : Addr) (Q : VK) : XK := fun cls d H1 => ∃ D : Addr, cls = .ref D ∧
    ((SayRow K cl CE D 0 ∧ ∃ (dd : Addr) (wd : Str) (i : Nat), d = some dd ∧ H1 dd = some (.xd [(("index" : Str), .int (i : Nat)), (("word" : Str), .str wd)]) ∧ ∀ t H2, H1 t = none → H2 = upd H1 t (.tup [.str "InvalidBook", .str wd, .int (i : Nat)]) → Q (.ref t) H2) ∨
     (SayRow K cl CE D 1 ∧ d = none ∧ (∀ H2, Same H1 H2 → Q (.str "UnknownRule") H2)) ∨ (SayRow K cl CE D 2 ∧ d = none ∧ (∀ H2, Same H1 H2 → Q (.str "NoNeighbor") H2)))
/-- _law_say -/
def TSay (K : PySem.W.Frag) (cl : Nat → Addr) (CE : Addr) : (XK → Hp → VK → Prop) → Hp → VK → Prop := fun tl H Q => tl (EK K cl CE Q) H Q
theorem fourS {σ : L2.St} (h : σ.length = 4) : ∃ x0 x1 x2 x3, σ = [x0, x1, x2, x3] := by
  match σ, h with
  | [a, b, c, d], _ => exact ⟨a, b, c, d, rfl⟩
theorem say_gives {X : Cx} {g : Addr} {cdg : Value} {q : Str} {cl : Nat → Addr} {CE : Addr} (B : Blt X.mg) (G : GSay X.mg cl CE) : GivesTo X ["_law_work", "e", "_law_kinds", "_law_words"] "_law_say" (defScope s__law_say) g cdg (defBody s__law_say) "_law_work" q (TSay X.K cl CE) := by
  intro f c' s H Q tl act hc h
  refine ⟨_, pss_one (ps_try_as (X := (cxOf C8.CX0 X.prog X.w X.K X.mg X.base ["_law_work", "e", "_law_kinds", "_law_words"] "_law_say" (defScope s__law_say) g cdg X.A X.stack s H C8.E0).nox) (i := 1) (c := .ref CE)
      (tb := fun W D σ H => ∃ Ech : XK, (∀ cls d σ' H', Ech cls d H' → σ'.length = 4 → W cls d σ' H') ∧ σ[0]? = some (some (.ref f)) ∧ H c' = some (CodeO c' q) ∧ tl Ech H fun v H1 => D.rt v H1)
      (Wout := fun _ _ _ _ => False) rfl rfl sc__law_say.nd rfl rfl ⟨rfl, by decide, .inl G.m_CourtError⟩ L2.takes0 (fun W pn xe tk _ => ?_)
      (fun a oe cls d pn hz hf => pss_.re (pss_cons (ps_if (pt_val (pe_callB (call_isG hz hf) (by rfl) B.b_isinstance PyProof.Rows.boot_isinstance (pa_cons (pv 1) (pa_cons (pe_glob (v := .ref (cl 4)) rfl G.m_InvalidOperation rfl) pa_nil)))) (pss_one (ps_ret (pe_tup (pa_cons pe_str (pa_cons (pe_xg hz hf (pv 1)) pa_nil))))) pss_nil)
      (pss_cons (ps_if (pt_val (pe_callB (call_isG hz hf) (by rfl) B.b_isinstance PyProof.Rows.boot_isinstance (pa_cons (pv 1) (pa_cons (pe_glob (v := .ref (cl 0)) rfl G.m_InvalidBook rfl) pa_nil)))) (pss_one (ps_ret (pe_tup (pa_cons pe_str (pa_cons (pe_xg hz hf (pv 1)) (pa_cons (pe_xg hz hf (pv 1)) pa_nil)))))) pss_nil)
      (pss_cons (ps_set (i := 2) sc__law_say.nd rfl (Or.inl rfl) (pe_lst (pa_cons (pe_callB (call_isG hz hf) (by rfl) B.b_isinstance PyProof.Rows.boot_isinstance (pa_cons (pv 1) (pa_cons (pe_glob (v := .ref (cl 3)) rfl G.m_InvalidAmendment rfl) pa_nil))) (pa_cons (pe_callB (call_isG hz hf) (by rfl) B.b_isinstance PyProof.Rows.boot_isinstance (pa_cons (pv 1) (pa_cons (pe_glob (v := .ref (cl 5)) rfl G.m_InvalidCase rfl) pa_nil))) (pa_cons (pe_callB (call_isG hz hf) (by rfl) B.b_isinstance PyProof.Rows.boot_isinstance (pa_cons (pv 1) (pa_cons (pe_glob (v := .ref (cl 6)) rfl G.m_InvalidLabel rfl) pa_nil))) pa_nil)))))
      (pss_cons (ps_set (i := 2) sc__law_say.nd rfl (Or.inl rfl) (pe_op op_cat (pv 2) (pe_lst (pa_cons (pe_callB (call_isG hz hf) (by rfl) B.b_isinstance PyProof.Rows.boot_isinstance (pa_cons (pv 1) (pa_cons (pe_glob (v := .ref (cl 2)) rfl G.m_NoNeighbor rfl) pa_nil))) (pa_cons (pe_callB (call_isG hz hf) (by rfl) B.b_isinstance PyProof.Rows.boot_isinstance (pa_cons (pv 1) (pa_cons (pe_glob (v := .ref (cl 7)) rfl G.m_UnknownLabel rfl) pa_nil))) (pa_cons (pe_callB (call_isG hz hf) (by rfl) B.b_isinstance PyProof.Rows.boot_isinstance (pa_cons (pv 1) (pa_cons (pe_glob (v := .ref (cl 1)) rfl G.m_UnknownRule rfl) pa_nil))) (pa_cons pe_bl pa_nil)))))))
      (pss_cons (ps_set (i := 3) sc__law_say.nd rfl (Or.inl rfl) (pe_lst (pa_cons pe_str (pa_cons pe_str (pa_cons pe_str (pa_cons pe_str (pa_cons pe_str (pa_cons pe_str pa_nil))))))))
      (pss_one (ps_ret (pe_ix ix_list (pe_op op_cat (pv 3) (pe_lst (pa_cons pe_str pa_nil))) (pe_bm PySem.F.plainAttrs_list PySem.F.slot_list_index PySem.F.type_list_index mt_index (pv 2) (pa_cons pe_bl pa_nil)) (fun _ _ => rfl))))))))) (by first | (dsimp only [Cx.suite]; done) | exact rfl))), ?_⟩
  · refine ⟨fun pins s' σ H' D I h' => ?_⟩
    obtain ⟨Ech, hW, h1, h2, h3⟩ := h'
    exact (pss_one (ps_ret (act _ pn xe Ech _ _ (takes_len tk) fun cls d σ' H'' z e => hW cls d σ' H'' z e))).run pins s' σ H' D I ⟨h1, h2, h3⟩
  · refine ⟨_, fun cls d σ' H1 z hl => ?_, rfl, hc, h⟩
    obtain ⟨D, rfl, z⟩ := z
    obtain ⟨x0, x1, x2, x3, rfl⟩ := fourS hl
    rcases z with ⟨R, dd, wd, i, rfl, hdd, qq⟩ | ⟨R, rfl, qq⟩ | ⟨R, rfl, qq⟩
    · have xd : XdOk (some dd) H1 := fun d2 e => by cases e; exact ⟨_, hdd⟩
      refine ⟨true, R.ex, fun _ ea _ => ?_, fun z => nomatch z⟩
      refine ⟨_, rfl, D, _, _, _, rfl, R.err, xd, rfl, (fun u r => r), R.kit 4 (by decide), _, rfl, iteF ?_⟩
      refine ⟨_, rfl, D, _, _, _, rfl, R.err, xd, rfl, (fun u r => r), R.kit 0 (by decide), _, rfl, iteT ?_⟩
      exact ⟨_, rfl, rfl, D, dd, _, .str wd, rfl, R.err, R.nw, rfl, hdd, rfl, _, rfl, rfl, D, dd, _, .int (i : Nat), rfl, R.err, R.ni, rfl, hdd, rfl, (by show 3 ≤ sizeLine; decide), fun t nt => qq t _ nt rfl⟩
    · have xd : ∀ H, XdOk none H := fun H dd e => nomatch e
      refine ⟨true, R.ex, fun _ ea _ => ?_, fun z => nomatch z⟩
      refine ⟨_, rfl, D, _, _, _, rfl, R.err, xd _, rfl, (fun u r => r), R.kit 4 (by decide), _, rfl, iteF ?_⟩
      refine ⟨_, rfl, D, _, _, _, rfl, R.err, xd _, rfl, (fun u r => r), R.kit 0 (by decide), _, rfl, iteF ?_⟩
      refine ⟨_, rfl, D, _, _, _, rfl, R.err, xd _, rfl, (fun u r => r), R.kit 3 (by decide), _, rfl, D, _, _, _, rfl, R.err, xd _, rfl, (fun u r => r), R.kit 5 (by decide), _, rfl, D, _, _, _, rfl, R.err, xd _, rfl, (fun u r => r), R.kit 6 (by decide), (by show 3 ≤ sizeLine; rw [sizeLine_eq]; decide), fun L nL => ?_⟩
      have s2 : Same H1 (upd H1 L (.lst [.bl (decide (3 = 1)), .bl (decide (5 = 1)), .bl (decide (6 = 1))])) := (Same.refl H1).put nL
      have e2 : (upd H1 L (.lst [.bl (decide (3 = 1)), .bl (decide (5 = 1)), .bl (decide (6 = 1))])) L = some (.lst [.bl (decide (3 = 1)), .bl (decide (5 = 1)), .bl (decide (6 = 1))]) := upd_same
      generalize upd H1 L (.lst [.bl (decide (3 = 1)), .bl (decide (5 = 1)), .bl (decide (6 = 1))]) = H2 at s2 e2 ⊢
      refine ⟨_, rfl, _, rfl, D, _, _, _, rfl, R.err, xd _, rfl, (fun u r => r), R.kit 2 (by decide), _, rfl, D, _, _, _, rfl, R.err, xd _, rfl, (fun u r => r), R.kit 7 (by decide), _, rfl, D, _, _, _, rfl, R.err, xd _, rfl, (fun u r => r), R.kit 1 (by decide), (by show 4 ≤ sizeLine; rw [sizeLine_eq]; decide), fun L2 n2 => ?_⟩
      have s3 : Same H2 (upd H2 L2 (.lst [.bl (decide (2 = 1)), .bl (decide (7 = 1)), .bl (decide (1 = 1)), .bl true])) := (Same.refl H2).put n2
      have e3 : (upd H2 L2 (.lst [.bl (decide (2 = 1)), .bl (decide (7 = 1)), .bl (decide (1 = 1)), .bl true])) L2 = some (.lst [.bl (decide (2 = 1)), .bl (decide (7 = 1)), .bl (decide (1 = 1)), .bl true]) := upd_same
      generalize upd H2 L2 (.lst [.bl (decide (2 = 1)), .bl (decide (7 = 1)), .bl (decide (1 = 1)), .bl true]) = H3 at s3 e3 ⊢
      refine ⟨L, L2, _, _, rfl, rfl, s3 _ _ e2, e3, (by show 7 ≤ sizeLine; rw [sizeLine_eq]; decide), fun L4 n4 => ?_⟩
      show (tSeq _ _) _ _ (upd H3 L4 (.lst [.bl (decide (3 = 1)), .bl (decide (5 = 1)), .bl (decide (6 = 1)), .bl (decide (2 = 1)), .bl (decide (7 = 1)), .bl (decide (1 = 1)), .bl true]))
      have s4 : Same H3 (upd H3 L4 (.lst [.bl (decide (3 = 1)), .bl (decide (5 = 1)), .bl (decide (6 = 1)), .bl (decide (2 = 1)), .bl (decide (7 = 1)), .bl (decide (1 = 1)), .bl true])) := (Same.refl H3).put n4
      have e4 : (upd H3 L4 (.lst [.bl (decide (3 = 1)), .bl (decide (5 = 1)), .bl (decide (6 = 1)), .bl (decide (2 = 1)), .bl (decide (7 = 1)), .bl (decide (1 = 1)), .bl true])) L4 = some (.lst [.bl (decide (3 = 1)), .bl (decide (5 = 1)), .bl (decide (6 = 1)), .bl (decide (2 = 1)), .bl (decide (7 = 1)), .bl (decide (1 = 1)), .bl true]) := upd_same
      generalize upd H3 L4 (.lst [.bl (decide (3 = 1)), .bl (decide (5 = 1)), .bl (decide (6 = 1)), .bl (decide (2 = 1)), .bl (decide (7 = 1)), .bl (decide (1 = 1)), .bl true]) = H4 at s4 e4 ⊢
      refine ⟨(by show 6 ≤ sizeLine; rw [sizeLine_eq]; decide), fun L5 n5 => ?_⟩
      have s5 : Same H4 (upd H4 L5 (.lst [.str "InvalidAmendment", .str "InvalidCase", .str "InvalidLabel", .str "NoNeighbor", .str "UnknownLabel", .str "UnknownRule"])) := (Same.refl H4).put n5
      have e5 : (upd H4 L5 (.lst [.str "InvalidAmendment", .str "InvalidCase", .str "InvalidLabel", .str "NoNeighbor", .str "UnknownLabel", .str "UnknownRule"])) L5 = some (.lst [.str "InvalidAmendment", .str "InvalidCase", .str "InvalidLabel", .str "NoNeighbor", .str "UnknownLabel", .str "UnknownRule"]) := upd_same
      generalize upd H4 L5 (.lst [.str "InvalidAmendment", .str "InvalidCase", .str "InvalidLabel", .str "NoNeighbor", .str "UnknownLabel", .str "UnknownRule"]) = H5 at s5 e5 ⊢
      refine ⟨_, rfl, (by show 1 ≤ sizeLine; rw [sizeLine_eq]; decide), fun L6 n6 => ?_⟩
      have s6 : Same H5 (upd H5 L6 (.lst [.str "another"])) := (Same.refl H5).put n6
      have e6 : (upd H5 L6 (.lst [.str "another"])) L6 = some (.lst [.str "another"]) := upd_same
      generalize upd H5 L6 (.lst [.str "another"]) = H6 at s6 e6 ⊢
      refine ⟨L5, L6, _, _, rfl, rfl, s6 _ _ e5, e6, (by show 7 ≤ sizeLine; rw [sizeLine_eq]; decide), fun L7 n7 => ?_⟩
      have s7 : Same H6 (upd H6 L7 (.lst [.str "InvalidAmendment", .str "InvalidCase", .str "InvalidLabel", .str "NoNeighbor", .str "UnknownLabel", .str "UnknownRule", .str "another"])) := (Same.refl H6).put n7
      have e7 : (upd H6 L7 (.lst [.str "InvalidAmendment", .str "InvalidCase", .str "InvalidLabel", .str "NoNeighbor", .str "UnknownLabel", .str "UnknownRule", .str "another"])) L7 = some (.lst [.str "InvalidAmendment", .str "InvalidCase", .str "InvalidLabel", .str "NoNeighbor", .str "UnknownLabel", .str "UnknownRule", .str "another"]) := upd_same
      have e47 := s7 _ _ (s6 _ _ (s5 _ _ e4))
      refine ⟨_, rfl, .inl ⟨rfl, _, sqL_of e47⟩, L4, _, .bl true, 5, .bl true, rfl, rfl, sqL_of e47, rfl, rfl, rfl, rfl, fun m z hm hz => ?_, ?_⟩
      · have : ∀ m, m < 5 → ∀ z, ([.bl (decide (3 = 1)), .bl (decide (5 = 1)), .bl (decide (6 = 1)), .bl (decide (2 = 1)), .bl (decide (7 = 1)), .bl (decide (1 = 1)), .bl true] : List V)[m]? = some z → eqV z (.bl true) = false := by
          intro m hm z hz
          match m, hm, hz with
          | 0, _, hz => cases hz; rfl
          | 1, _, hz => cases hz; rfl
          | 2, _, hz => cases hz; rfl
          | 3, _, hz => cases hz; rfl
          | 4, _, hz => cases hz; rfl
        exact this m hm z hz
      · exact ⟨L7, _, _, _, rfl, rfl, sqL_of e7, atI_nat (j := 5) rfl, qq _ ((((((s2.trans s3).trans s4).trans s5).trans s6).trans s7))⟩
    · have xd : ∀ H, XdOk none H := fun H dd e => nomatch e
      refine ⟨true, R.ex, fun _ ea _ => ?_, fun z => nomatch z⟩
      refine ⟨_, rfl, D, _, _, _, rfl, R.err, xd _, rfl, (fun u r => r), R.kit 4 (by decide), _, rfl, iteF ?_⟩
      refine ⟨_, rfl, D, _, _, _, rfl, R.err, xd _, rfl, (fun u r => r), R.kit 0 (by decide), _, rfl, iteF ?_⟩
      refine ⟨_, rfl, D, _, _, _, rfl, R.err, xd _, rfl, (fun u r => r), R.kit 3 (by decide), _, rfl, D, _, _, _, rfl, R.err, xd _, rfl, (fun u r => r), R.kit 5 (by decide), _, rfl, D, _, _, _, rfl, R.err, xd _, rfl, (fun u r => r), R.kit 6 (by decide), (by show 3 ≤ sizeLine; rw [sizeLine_eq]; decide), fun L nL => ?_⟩
      have s2 : Same H1 (upd H1 L (.lst [.bl (decide (3 = 2)), .bl (decide (5 = 2)), .bl (decide (6 = 2))])) := (Same.refl H1).put nL
      have e2 : (upd H1 L (.lst [.bl (decide (3 = 2)), .bl (decide (5 = 2)), .bl (decide (6 = 2))])) L = some (.lst [.bl (decide (3 = 2)), .bl (decide (5 = 2)), .bl (decide (6 = 2))]) := upd_same
      generalize upd H1 L (.lst [.bl (decide (3 = 2)), .bl (decide (5 = 2)), .bl (decide (6 = 2))]) = H2 at s2 e2 ⊢
      refine ⟨_, rfl, _, rfl, D, _, _, _, rfl, R.err, xd _, rfl, (fun u r => r), R.kit 2 (by decide), _, rfl, D, _, _, _, rfl, R.err, xd _, rfl, (fun u r => r), R.kit 7 (by decide), _, rfl, D, _, _, _, rfl, R.err, xd _, rfl, (fun u r => r), R.kit 1 (by decide), (by show 4 ≤ sizeLine; rw [sizeLine_eq]; decide), fun L2 n2 => ?_⟩
      have s3 : Same H2 (upd H2 L2 (.lst [.bl (decide (2 = 2)), .bl (decide (7 = 2)), .bl (decide (1 = 2)), .bl true])) := (Same.refl H2).put n2
      have e3 : (upd H2 L2 (.lst [.bl (decide (2 = 2)), .bl (decide (7 = 2)), .bl (decide (1 = 2)), .bl true])) L2 = some (.lst [.bl (decide (2 = 2)), .bl (decide (7 = 2)), .bl (decide (1 = 2)), .bl true]) := upd_same
      generalize upd H2 L2 (.lst [.bl (decide (2 = 2)), .bl (decide (7 = 2)), .bl (decide (1 = 2)), .bl true]) = H3 at s3 e3 ⊢
      refine ⟨L, L2, _, _, rfl, rfl, s3 _ _ e2, e3, (by show 7 ≤ sizeLine; rw [sizeLine_eq]; decide), fun L4 n4 => ?_⟩
      show (tSeq _ _) _ _ (upd H3 L4 (.lst [.bl (decide (3 = 2)), .bl (decide (5 = 2)), .bl (decide (6 = 2)), .bl (decide (2 = 2)), .bl (decide (7 = 2)), .bl (decide (1 = 2)), .bl true]))
      have s4 : Same H3 (upd H3 L4 (.lst [.bl (decide (3 = 2)), .bl (decide (5 = 2)), .bl (decide (6 = 2)), .bl (decide (2 = 2)), .bl (decide (7 = 2)), .bl (decide (1 = 2)), .bl true])) := (Same.refl H3).put n4
      have e4 : (upd H3 L4 (.lst [.bl (decide (3 = 2)), .bl (decide (5 = 2)), .bl (decide (6 = 2)), .bl (decide (2 = 2)), .bl (decide (7 = 2)), .bl (decide (1 = 2)), .bl true])) L4 = some (.lst [.bl (decide (3 = 2)), .bl (decide (5 = 2)), .bl (decide (6 = 2)), .bl (decide (2 = 2)), .bl (decide (7 = 2)), .bl (decide (1 = 2)), .bl true]) := upd_same
      generalize upd H3 L4 (.lst [.bl (decide (3 = 2)), .bl (decide (5 = 2)), .bl (decide (6 = 2)), .bl (decide (2 = 2)), .bl (decide (7 = 2)), .bl (decide (1 = 2)), .bl true]) = H4 at s4 e4 ⊢
      refine ⟨(by show 6 ≤ sizeLine; rw [sizeLine_eq]; decide), fun L5 n5 => ?_⟩
      have s5 : Same H4 (upd H4 L5 (.lst [.str "InvalidAmendment", .str "InvalidCase", .str "InvalidLabel", .str "NoNeighbor", .str "UnknownLabel", .str "UnknownRule"])) := (Same.refl H4).put n5
      have e5 : (upd H4 L5 (.lst [.str "InvalidAmendment", .str "InvalidCase", .str "InvalidLabel", .str "NoNeighbor", .str "UnknownLabel", .str "UnknownRule"])) L5 = some (.lst [.str "InvalidAmendment", .str "InvalidCase", .str "InvalidLabel", .str "NoNeighbor", .str "UnknownLabel", .str "UnknownRule"]) := upd_same
      generalize upd H4 L5 (.lst [.str "InvalidAmendment", .str "InvalidCase", .str "InvalidLabel", .str "NoNeighbor", .str "UnknownLabel", .str "UnknownRule"]) = H5 at s5 e5 ⊢
      refine ⟨_, rfl, (by show 1 ≤ sizeLine; rw [sizeLine_eq]; decide), fun L6 n6 => ?_⟩
      have s6 : Same H5 (upd H5 L6 (.lst [.str "another"])) := (Same.refl H5).put n6
      have e6 : (upd H5 L6 (.lst [.str "another"])) L6 = some (.lst [.str "another"]) := upd_same
      generalize upd H5 L6 (.lst [.str "another"]) = H6 at s6 e6 ⊢
      refine ⟨L5, L6, _, _, rfl, rfl, s6 _ _ e5, e6, (by show 7 ≤ sizeLine; rw [sizeLine_eq]; decide), fun L7 n7 => ?_⟩
      have s7 : Same H6 (upd H6 L7 (.lst [.str "InvalidAmendment", .str "InvalidCase", .str "InvalidLabel", .str "NoNeighbor", .str "UnknownLabel", .str "UnknownRule", .str "another"])) := (Same.refl H6).put n7
      have e7 : (upd H6 L7 (.lst [.str "InvalidAmendment", .str "InvalidCase", .str "InvalidLabel", .str "NoNeighbor", .str "UnknownLabel", .str "UnknownRule", .str "another"])) L7 = some (.lst [.str "InvalidAmendment", .str "InvalidCase", .str "InvalidLabel", .str "NoNeighbor", .str "UnknownLabel", .str "UnknownRule", .str "another"]) := upd_same
      have e47 := s7 _ _ (s6 _ _ (s5 _ _ e4))
      refine ⟨_, rfl, .inl ⟨rfl, _, sqL_of e47⟩, L4, _, .bl true, 3, .bl true, rfl, rfl, sqL_of e47, rfl, rfl, rfl, rfl, fun m z hm hz => ?_, ?_⟩
      · have : ∀ m, m < 3 → ∀ z, ([.bl (decide (3 = 2)), .bl (decide (5 = 2)), .bl (decide (6 = 2)), .bl (decide (2 = 2)), .bl (decide (7 = 2)), .bl (decide (1 = 2)), .bl true] : List V)[m]? = some z → eqV z (.bl true) = false := by
          intro m hm z hz
          match m, hm, hz with
          | 0, _, hz => cases hz; rfl
          | 1, _, hz => cases hz; rfl
          | 2, _, hz => cases hz; rfl
        exact this m hm z hz
      · exact ⟨L7, _, _, _, rfl, rfl, sqL_of e7, atI_nat (j := 3) rfl, qq _ ((((((s2.trans s3).trans s4).trans s5).trans s6).trans s7))⟩
section
/-- _law_say(lambda: ..) -/
theorem pe_saylam {X : Cx} {c PT : Addr} {k : Nat} {g : Addr} {fd : FuncData} {cl : Nat → Addr} {CE : Addr} {params : Arguments} {body : Expr} {scope : Scope} {t : XK → TE} {p lpos pos : Pos}
    (F : Fun X.K "_law_say" "_law_say" s__law_say g fd) (hm : X.mg "_law_say" = some (.ref g)) (hb : Binds X.K fd ["_law_work"] []) (B : Blt X.mg) (G : GSay X.mg cl CE) (TB : LamX.TabB X.base X.mg c PT) (hcode : X.env.code = .ref c)
    (hr : Room (k + 2) X.A) (L : LamX.LamS X.env.scope scope) (hdef : defaultsOf params X.env = ([], []))
    (hbind : ∀ (q : Str) (cl : List (Str × Addr)) (pm cv ctv : Value), bindArgs (PySem.W.kla_fn "<lambda>" q params body scope cl pm cv ctv) {} = pure [])
    (hbody : ∀ (A : Around) (outer : List Env) (s : Shared) (H : Hp) (E : XK) (f c' : Addr), Room k (A.deeper (LamX.lamEnv X scope s.heap.objs.size f c')) → PE (LamX.lamCx X A outer s H E scope f c') body (t E)) (hg : Gl X "_law_say" := by rfl) :
    PE X (.Call (.Name "_law_say" p) [.Lambda params body scope lpos] [] pos) (LamX.tLam [(PT, X.env.qual ++ "<lambda>")] (TSay X.K cl CE) t) := by
  obtain ⟨oc, od, kV, doc, pm, an, cdv, ct, osl, rfl, lk, hcd⟩ := F.ex
  exact LamX.pe_lamcall hg hm F.kp lk hcd hb sc__law_say rfl (Or.inl rfl) (say_gives B G) TB hcode (List.mem_singleton.mpr rfl) (fun p hp _ => by rw [List.mem_singleton.mp hp]) hr L hdef hbind hbody
end
end Sc
namespace Sc
open PySem PySem.Spec PyProof.Rows L2
section
variable {P : Program} {w : World} {K : PySem.W.Frag} {mg : Str → Option Value} {base : Heap}
/-- a def whose code is known -/
structure FunC (K : PySem.W.Frag) (x qual : Str) (st : Stmt) (f : Addr) (fd : FuncData) (c : Addr) : Prop where
  ex : ∃ (oc : Value) (od : Option Addr) (kV doc pm : Value) (an : Option Addr) (ct : Value) (osl : Array (Option Value)), fd = PySem.W.fnOf x qual (defArgs st) (defBody st) (defScope st) .none kV doc pm an (.ref c) ct ∧ K.lookup f = some ⟨oc, od, .func fd, osl⟩ ∧ PySem.W.codeIn K (.ref c) qual = true
  kp : PySem.W.keepIn K (.ref f) = true
theorem FunC.ok {x qual : Str} {st : Stmt} {f : Addr} {fd : FuncData} {c : Addr} {N ps : List Str} {k : Nat} {sp : Sp} (F : FunC K x qual st f fd c) (S : FnScope N ps (defScope st))
    (len : ∀ (vs : List V) (H : Hp) (Q : VK) (E : XK), sp vs H Q E → vs.length = ps.length)
    (hb : ∀ (A : Around) (outer : List Env) (s : Shared) (H : Hp) (vs : List V) (Q : VK) (E : XK), Room k (A.deeper (envOfC qual (defScope st) s.heap.objs.size f (.ref c))) → sp vs H Q E →
      ∃ t, PSs (cxOf CX0 P w K mg base N qual (defScope st) f (.ref c) A outer s H E).nox (defBody st) t ∧ t { nx := fun x H' => Q .non H', rt := Q } (L2.start N vs) H) : FnOk P w K mg base CX0 (k + 1) f fd ps sp := by
  obtain ⟨oc, od, kV, doc, pm, an, ct, osl, rfl, lk, hcd⟩ := F.ex
  exact fn_of lk hcd S len fun A outer s H vs Q E hr h => by
    obtain ⟨t, h1, h2⟩ := hb A outer s H vs Q E hr h
    exact ⟨t, PSs.nox h1, h2⟩
end
end Sc
namespace Sc
open PySem PySem.Spec PyProof.Rows L2
/-- a block within a block that uses no name from around -/
theorem blkOk_any {N : List Str} {sc sc' scope : Scope} {own : List (Str × Nat)} (h : BlkOk N sc scope own) (nf : (scope.names.all fun y => match y.2 with | .free => false | _ => true) = true) : BlkOk N sc' scope own :=
  ⟨h.kind, h.uniq, h.ix, fun y hy e => by
    have q := List.all_eq_true.mp nf y hy
    rw [e] at q
    exact Bool.noConfusion q, h.own⟩
/-! ### a list of whatever items against an empty one -/
def rNilE (neg : Bool) : R2 := fun x y H Q => ∃ (a b : Addr) (xs : List V), x = .ref a ∧ y = .ref b ∧ H a = some (.lst xs) ∧ H b = some (.lst []) ∧ Q (.bl (if neg then !xs.isEmpty else xs.isEmpty)) H
section
variable {X : Cx}
theorem op_neE (hu : X.A.units + 64 < cLine) : OpR X (compareOp .NotEq) (rNilE true) := by
  intro pins s σ H x y v u Q I rx ry h
  obtain ⟨a, b, xs, rfl, rfl, ha, hb, q⟩ := h
  cases rx
  cases ry
  obtain ⟨its, r, p1, _⟩ := I.list (.inl (.inl ha))
  obtain ⟨its2, r2, p2, _⟩ := I.list (.inl (.inl hb))
  have h1 := r.length
  have h2 := r2.length
  have z2 : its2 = [] := List.length_eq_zero_iff.mp (by rw [← h2]; rfl)
  subst z2
  cases xs with
  | nil =>
    have z1 : its = [] := List.length_eq_zero_iff.mp (by rw [← h1]; rfl)
    subst z1
    exact EqBoolInt.of_rcne (SeqAt.RcNeAt.lists (e := fun _ => true) p1.isList p2.isList rfl (by omega) (fun j hj _ => absurd hj (Nat.not_lt_zero j))) ⟨.bl _, H, I, rfl, q⟩
  | cons z r0 =>
    exact EqBoolInt.of_rcne (SeqAt.RcNeAt.lists_lengths p1.isList p2.isList (by
      have : its.length ≠ 0 := by rw [← h1, List.length_cons]; omega
      simpa using fun e => this (by rw [e]; rfl)) (by omega)) ⟨.bl _, H, I, rfl, q⟩
theorem op_eqE (hu : X.A.units + 64 < cLine) : OpR X (compareOp .Eq) (rNilE false) := by
  intro pins s σ H x y v u Q I rx ry h
  obtain ⟨a, b, xs, rfl, rfl, ha, hb, q⟩ := h
  cases rx
  cases ry
  obtain ⟨its, r, p1, _⟩ := I.list (.inl (.inl ha))
  obtain ⟨its2, r2, p2, _⟩ := I.list (.inl (.inl hb))
  have h1 := r.length
  have h2 := r2.length
  have z2 : its2 = [] := List.length_eq_zero_iff.mp (by rw [← h2]; rfl)
  subst z2
  cases xs with
  | nil =>
    have z1 : its = [] := List.length_eq_zero_iff.mp (by rw [← h1]; rfl)
    subst z1
    exact EqBoolInt.of_rc (SeqAt.RcAt.lists (e := fun _ => true) p1.isList p2.isList rfl (by omega) (fun j hj _ => absurd hj (Nat.not_lt_zero j))) ⟨.bl _, H, I, rfl, q⟩
  | cons z r0 =>
    exact EqBoolInt.of_rc (SeqAt.RcAt.lists_lengths p1.isList p2.isList (by
      have : its.length ≠ 0 := by rw [← h1, List.length_cons]; omega
      simpa using fun e => this (by rw [e]; rfl)) (by omega)) ⟨.bl _, H, I, rfl, q⟩
end
end Sc
namespace EqT
open PySem PySem.SeqAt GQ
open AutoSeq1 (wpAny_loadPart')
open MeetsSeq MeetsSeq2 MeetsSeq3 SeqRoads2
section
variable {prog : Program} {w : World} {A : Around} {R : Result → Shared → Prop}
/-- two tuples, pair by pair, whatever each pair's == answers -/
theorem tup_any (l b : Addr) (us vs : Array Value) (n m : Nat) (du dv : Option Addr) (su sv : Array (Option Value)) (I : Nat → Shared → Prop)
    (turn : ∀ i (h1 : i < us.size) (h2 : i < vs.size) s, I i s → wpAny (model prog w) A.in1 (eqBool us[i] vs[i]) (fun r s' => if r = true then I (i + 1) s' else R (.ok (.ret (.bool false))) s') (fun e s' => R (.error e) s') s)
    (fin : ∀ s, I (min us.size vs.size) s → R (.ok (.ret (.bool (us.size == vs.size)))) s) {s : Shared} (hl : s.heap.get? l = some { cls := .type "tuple", dict := du, data := .seq us n, slots := su }) (hb : s.heap.get? b = some { cls := .type "tuple", dict := dv, data := .seq vs m, slots := sv }) (h : I 0 s) :
    wpAny (model prog w) A.in1 (Builtin.«tuple.__eq__» ⟨[.ref l, .ref b], []⟩) (FinOf prog w A R) (fun e s' => R (.error e) s') s := by
  have f2 := AutoSeq1.sub_tuple_tuple
  have hZ : (us.toList.zip vs.toList).length = min us.size vs.size := by simp
  have h0 := h
  obtain ⟨hp, g, d, tk, os⟩ := s
  wp_walk using wpAny_loadPart' hl, wpAny_loadPart' hb, wpAny_forIn_list _ (fun rest c s' => c.1 = none ∧ ∃ i, rest = (us.toList.zip vs.toList).drop i ∧ i ≤ min us.size vs.size ∧ I i s') _
  case turn =>
    rintro ⟨y, x⟩ rest c s' ⟨hc, i, hz, hi, hI⟩
    have hlt : i < (us.toList.zip vs.toList).length := by
      rcases Nat.lt_or_ge i (us.toList.zip vs.toList).length with h' | h'
      · exact h'
      · rw [List.drop_of_length_le h'] at hz; cases hz
    have hm : i < min us.size vs.size := hZ ▸ hlt
    have h1 : i < us.size := Nat.lt_of_lt_of_le hm (Nat.min_le_left _ _)
    have h2 : i < vs.size := Nat.lt_of_lt_of_le hm (Nat.min_le_right _ _)
    rw [List.drop_eq_getElem_cons hlt] at hz
    injection hz with hyx hrest
    have hy : y = us[i] := by have := congrArg Prod.fst hyx; simpa using this
    have hx : x = vs[i] := by have := congrArg Prod.snd hyx; simpa using this
    subst hy hx
    refine wpAny_bind (wpAny_mono (turn i h1 h2 s' hI) (fun r s2 q2 => ?_) fun _ _ x => x)
    cases r with
    | true =>
      rw [if_pos rfl] at q2
      wp_walk
      exact ⟨rfl, i + 1, hrest, hm, q2⟩
    | false =>
      rw [if_neg (by decide)] at q2
      wp_walk
      exact q2
  case fin =>
    rintro ⟨b1, b2⟩ s' ⟨hc, i, hz, hi, hI⟩
    simp only at hc
    subst hc
    have hge : min us.size vs.size ≤ i := by
      rcases Nat.lt_or_ge i (us.toList.zip vs.toList).length with h' | h'
      · rw [List.drop_eq_getElem_cons h'] at hz; cases hz
      · exact hZ ▸ h'
    have hi' : i = min us.size vs.size := by omega
    have hR : R (.ok (.ret (.bool (us.size == vs.size)))) s' := fin s' (hi' ▸ hI)
    wp_walk
    simpa [Builtin.Tuple.tupleCompareSizes] using hR
  case h =>
    exact ⟨rfl, 0, rfl, Nat.zero_le _, h0⟩
end
section
variable {prog : Program} {w : World} {A : Around} {E : Value → Shared → Prop} {s : Shared}
theorem rc_any {l b : Addr} {us vs : Array Value} {Q : Value → Shared → Prop} (hu : A.units < cLine) (I : Nat → Shared → Prop) (hl : s.heap.IsTuple l us) (hb : s.heap.IsTuple b vs)
    (turn : ∀ i (h1 : i < us.size) (h2 : i < vs.size) s, I i s → wpAny (model prog w) A.in1 (eqBool us[i] vs[i]) (fun r s' => if r = true then I (i + 1) s' else Q (.bool false) s') E s)
    (fin : ∀ s, I (min us.size vs.size) s → Q (.bool (us.size == vs.size)) s) (h : I 0 s) : wpAny (model prog w) A (richCompare .Eq (.ref l) (.ref b)) Q E s := by
  obtain ⟨⟨cu, du, tu, su⟩, h1, e1, n, f1⟩ := id hl
  obtain ⟨⟨cv, dv, tv, sv⟩, h2, e2, m, f2⟩ := id hb
  simp only at e1 f1 e2 f2
  subst e1 f1 e2 f2
  refine wpAny_richCompare_same_room (op := .Eq) ⟨_, h1, rfl⟩ ⟨_, h2, rfl⟩ F.slot_tuple_eq (call_here F.slot_tuple_eq ⟨_, h1, rfl⟩ F.entry_tuple_eq (F.args_tuple_eq_2 _ _) ?_) hu
  refine tup_any (R := wants (fun v s' => v ≠ .notImplemented ∧ Q v s') E) l b us vs n m du dv su sv I (fun i a b s hs => wpAny_mono (turn i a b s hs) (fun r s' q => ?_) fun _ _ x => x) (fun s' q => ⟨(fun x => nomatch x), fin s' q⟩) h1 h2 h
  cases r with
  | true => exact q
  | false => exact ⟨(fun x => nomatch x), q⟩
end
end EqT
namespace EqT
open PySem PySem.Spec PyProof.Rows L2
/-- what == of two values answers, by the abstract heap -/
abbrev EqA := V → V → Bool → Hp → Prop
def MonA (D : EqA) : Prop := ∀ x y b H H', Ext H H' → D x y b H → D x y b H'
/-- == inside a builtin answers what D says, and only makes objects -/
def EqIs (X : Cx) (n : Nat) (D : EqA) : Prop :=
  ∀ (A : Around) (pins : List (Addr × Obj)) (s : Shared) (σ : L2.St) (H : Hp) (x y : V) (b : Bool) (u v : Value), Sub X n A → Inv X pins σ H s → RelV x u → RelV y v → D x y b H →
    wpAny (model X.prog X.w) A (eqBool u v) (fun r s' => r = b ∧ ∃ H', Inv X pins σ H' s' ∧ Ext H H') X.xe s
def RcIs (X : Cx) (n : Nat) (D : EqA) : Prop :=
  ∀ (A : Around) (pins : List (Addr × Obj)) (s : Shared) (σ : L2.St) (H : Hp) (x y : V) (b : Bool) (u v : Value), Sub X n A → Inv X pins σ H s → RelV x u → RelV y v → D x y b H →
    wpAny (model X.prog X.w) A (richCompare .Eq u v) (fun r s' => r = .bool b ∧ ∃ H', Inv X pins σ H' s' ∧ Ext H H') X.xe s
/-- pair by pair: e i is the answer at i -/
def PairsA (D : EqA) (xs ys : List V) (b : Bool) (H : Hp) : Prop := ∃ e : Nat → Bool, (∀ (i : Nat) x y, xs[i]? = some x → ys[i]? = some y → D x y (e i) H) ∧ b = ((List.range (min xs.length ys.length)).all e && xs.length == ys.length)
theorem PairsA.mon {D : EqA} (hD : MonA D) {xs ys : List V} {b : Bool} {H H' : Hp} (x : Ext H H') (p : PairsA D xs ys b H) : PairsA D xs ys b H' := by
  obtain ⟨e, h1, h2⟩ := p
  exact ⟨e, fun i u v hu hv => hD _ _ _ _ _ x (h1 i u v hu hv), h2⟩
def TupA (K : PySem.W.Frag) (D : EqA) : EqA := fun x y b H => ∃ p q xs ys, x = .ref p ∧ y = .ref q ∧ SqT K H p xs ∧ SqT K H q ys ∧ PairsA D xs ys b H
theorem mon_tupA {K : PySem.W.Frag} {D : EqA} (hD : MonA D) : MonA (TupA K D) := fun x y b H H' e d => by
  obtain ⟨p, q, xs, ys, hx, hy, h1, h2, r⟩ := d
  exact ⟨p, q, xs, ys, hx, hy, h1.ext e, h2.ext e, r.mon hD e⟩
section
variable {X : Cx} {n : Nat} {D : EqA}
theorem rcIs_tup (hD : MonA D) (h : EqIs X n D) : RcIs X (n + 1) (TupA X.K D) := by
  intro A pins s σ H x y b u v sb I rx ry d
  obtain ⟨p, q, xs, ys, rfl, rfl, hp, hq, e, hd, hb⟩ := d
  cases rx
  cases ry
  obtain ⟨us, r1, e1, _⟩ := I.tuple hp
  obtain ⟨vs, r2, e2, _⟩ := I.tuple hq
  have l1 : us.toArray.size = xs.length := by rw [List.size_toArray, r1.length]
  have l2 : vs.toArray.size = ys.length := by rw [List.size_toArray, r2.length]
  refine EqT.rc_any sb.room.units0 (fun i s' => (∃ H', Inv X pins σ H' s' ∧ Ext H H') ∧ ∀ j, j < i → e j = true) e1 e2 (fun i h1 h2 s' ⟨⟨H1, I1, x1⟩, hj⟩ => ?_) (fun s' ⟨z, hj⟩ => ⟨?_, z⟩) ⟨⟨H, I, fun _ _ z => z⟩, fun j hj => absurd hj (Nat.not_lt_zero j)⟩
  · have g1 : us[i]? = some us.toArray[i] := by
      have h1' : i < us.length := by simpa using h1
      rw [List.getElem?_eq_getElem h1']
      simp
    have g2 : vs[i]? = some vs.toArray[i] := by
      have h2' : i < vs.length := by simpa using h2
      rw [List.getElem?_eq_getElem h2']
      simp
    have k1 : i < xs.length := by omega
    have k2 : i < ys.length := by omega
    obtain ⟨u, hu, ru⟩ := r1.get (List.getElem?_eq_getElem k1)
    obtain ⟨v, hv, rv⟩ := r2.get (List.getElem?_eq_getElem k2)
    rw [g1] at hu
    rw [g2] at hv
    rw [Option.some.inj hu, Option.some.inj hv]
    refine wpAny_mono (h A.in1 pins s' σ H1 _ _ (e i) u v sb.in1 I1 ru rv (hD _ _ _ _ _ x1 (hd i _ _ (List.getElem?_eq_getElem k1) (List.getElem?_eq_getElem k2)))) (fun r s2 q => ?_) fun _ _ x => x
    obtain ⟨hr, H2, I2, x2⟩ := q
    subst hr
    cases he : e i with
    | true =>
      rw [if_pos rfl]
      refine ⟨⟨H2, I2, fun a o z => x2 a o (x1 a o z)⟩, fun j hj2 => ?_⟩
      by_cases hji : j = i
      · rw [hji]; exact he
      · exact hj j (by omega)
    | false =>
      rw [if_neg (by decide)]
      refine ⟨?_, H2, I2, fun a o z => x2 a o (x1 a o z)⟩
      rw [hb]
      have : (List.range (min xs.length ys.length)).all e = false := by
        rw [List.all_eq_false]
        exact ⟨i, List.mem_range.mpr (by omega), by rw [he]; decide⟩
      rw [this, Bool.false_and]
  · rw [hb, l1, l2]
    rw [l1, l2] at hj
    have : (List.range (min xs.length ys.length)).all e = true := by
      rw [List.all_eq_true]
      intro j hj2
      exact hj j (List.mem_range.mp hj2)
    rw [this, Bool.true_and]
/-- instances of the class at C, by the text's own == -/
def InsA (C : Addr) (R : Addr → Addr → Bool → Hp → Prop) : EqA := fun x y b H => ∃ p q dx dy fs gs, x = .ref p ∧ y = .ref q ∧ H p = some (.ins C dx fs) ∧ H q = some (.ins C dy gs) ∧ R p q b H
theorem mon_insA {C : Addr} {R : Addr → Addr → Bool → Hp → Prop} (hR : ∀ p q b H H', Ext H H' → R p q b H → R p q b H') : MonA (InsA C R) := fun x y b H H' e d => by
  obtain ⟨p, q, dx, dy, fs, gs, hx, hy, h1, h2, r⟩ := d
  exact ⟨p, q, dx, dy, fs, gs, hx, hy, e _ _ h1, e _ _ h2, hR p q b H H' e r⟩
/-- what an own == promises: its answer, and that it only makes objects -/
def spAns (R : Addr → Addr → Bool → Hp → Prop) : Sp := fun vs H Q _ => ∃ p q b, vs = [.ref p, .ref q] ∧ R p q b H ∧ ∀ H', Ext H H' → Q (.bl b) H'
theorem rcIs_ins {CX : CXT} {C f : Addr} {fd : FuncData} {ps : List Str} {R : Addr → Addr → Bool → Hp → Prop} {E : XK} (F : FnOk X.prog X.w X.K X.mg X.base CX n f fd ps (spAns R))
    (hs : PySem.W.findIn X.K (.ref C) "__eq__" = some (some (.ref f))) (hf : PySem.W.isFn X.K (.ref f) = true) (hb : Binds X.K fd ps []) (hx : Passes CX X E) : RcIs X n (InsA C R) := by
  intro A pins s σ H x y b u v sb I rx ry d
  obtain ⟨p, q, dx, dy, fs, gs, rfl, rfl, hp, hq, hr⟩ := d
  cases rx
  cases ry
  obtain ⟨mA, J, _⟩ := ins_get I.hok hp
  obtain ⟨mB, J', _⟩ := ins_get I.hok hq
  obtain ⟨od, J, _⟩ := J.look
  obtain ⟨od', J', _⟩ := J'.look
  obtain ⟨m, hF⟩ := I.fr
  refine PySem.W.cmp_K (op := .Eq) (tb := .ref C) sb.room.units0 hF I.ok.mod.kin J J'.type (by simp [PySem.W.notFirst]) hs hf ?_
  have hsp : spAns R [.ref p, .ref q] H (fun v H' => v = .bl b ∧ Ext H H') E := ⟨p, q, b, rfl, hr, fun H' e => ⟨rfl, e⟩⟩
  have e0 : Env0 X.prog X.w X.K X.mg X.base A X.stack s H := by
    have e := I.env0
    exact ⟨by rw [sb.fr]; exact e.frames, e.mod, e.bs, e.bsz, e.funs, e.frf, e.hok, e.bare⟩
  have hl := F.len _ _ _ _ hsp
  have r2 : Vals [V.ref p, V.ref q] [Value.ref p, Value.ref q] := .cons rfl (.cons rfl .nil)
  refine wpAny_call (codeAny_mono (F.run A X.stack s H ⟨[.ref p, .ref q], []⟩ [.ref p, .ref q] [.ref p, .ref q] _ E sb.room e0 (by
    have := hb s [.ref p, .ref q] I.kIn (by simpa using hl)
    simpa using this) r2 hsp) fun r s' hq => ?_)
  cases r with
  | error e => exact hx pins σ H s e s' I hq
  | ok fl =>
    cases fl with
    | ret w =>
      obtain ⟨z, H', I', rz, ez, ex⟩ := I.after hq
      subst ez
      cases rz
      exact ⟨rfl, H', I', ex⟩
    | next => exact False.elim hq
    | brk => exact False.elim hq
    | cont => exact False.elim hq
/-- inside a list or tuple the same object is equal to itself -/
theorem RcIs.eqIs (h : RcIs X n D) (hr : ∀ pins s σ H x y b, Inv X pins σ H s → D x y b H → ∃ p q, x = .ref p ∧ y = .ref q ∧ (p = q → b = true)) : EqIs X n D := by
  intro A pins s σ H x y b u v sb I rx ry d
  obtain ⟨p, q, rfl, rfl, hpq⟩ := hr _ _ _ _ _ _ _ I d
  cases rx
  cases ry
  by_cases hab : p = q
  · rw [hpq hab]
    subst hab
    exact SeqAt.EqAt.same (A := A) (s := s) (.ref p) X.prog X.w X.xe _ ⟨rfl, H, I, fun _ _ z => z⟩
  · refine GQ.eqBool_refG hab (wpAny_mono (h A pins s σ H (.ref p) (.ref q) b _ _ sb I rfl rfl d) (fun r s' z => ?_) fun _ _ x => x)
    obtain ⟨hr', z⟩ := z
    exact ⟨b, hr', rfl, z⟩
/-- x == y as an expression -/
def rEqA (D : EqA) : R2 := fun x y H Q => ∃ b, D x y b H ∧ ∀ H', Ext H H' → Q (.bl b) H'
theorem op_eqA (h : RcIs X n D) (hr : Room n X.A) : OpR X (compareOp .Eq) (rEqA D) := by
  intro pins s σ H x y v u Q I rx ry hq
  obtain ⟨b, d, q⟩ := hq
  show wpAny (model X.prog X.w) X.A (richCompare .Eq v u) (EP X pins σ Q) X.xe s
  refine wpAny_mono (h X.A pins s σ H x y b v u ⟨hr, rfl⟩ I rx ry d) (fun r s' z => ?_) fun _ _ x => x
  obtain ⟨hr', H', I', e⟩ := z
  subst hr'
  exact ⟨.bl b, H', I', rfl, q H' e⟩
/-- texts and references -/
def Sr (v : V) : Prop := (∃ z, v = .str z) ∨ ∃ p, v = .ref p
theorem sr_rel {x y : V} {u : Value} (hx : Sr x) (hy : Sr y) (r1 : RelV x u) (r2 : RelV y u) : x = y := by
  rcases hx with ⟨z, rfl⟩ | ⟨p, rfl⟩ <;> rcases hy with ⟨z', rfl⟩ | ⟨p', rfl⟩
  · obtain ⟨t, rfl⟩ := r1
    obtain ⟨t', e⟩ := r2
    cases e
    rfl
  · obtain ⟨t, rfl⟩ := r1
    cases r2
  · obtain ⟨t, rfl⟩ := r2
    cases r1
  · cases r1
    cases r2
    rfl
theorem sr_vals : ∀ {xs ys : List V} {us : List Value}, (∀ x ∈ xs, Sr x) → (∀ y ∈ ys, Sr y) → Vals xs us → Vals ys us → xs = ys
  | [], ys, us, _, _, r1, r2 => by
    cases r1
    cases r2
    rfl
  | x :: xs, ys, us, h1, h2, r1, r2 => by
    cases r1 with
    | cons a r1 =>
      cases r2 with
      | cons b r2 =>
        rw [sr_rel (h1 _ List.mem_cons_self) (h2 _ List.mem_cons_self) a b, sr_vals (fun z hz => h1 z (List.mem_cons_of_mem _ hz)) (fun z hz => h2 z (List.mem_cons_of_mem _ hz)) r1 r2]
/-- a tuple of texts and references is read in one way -/
theorem sq_one {pins : List (Addr × Obj)} {σ : L2.St} {H : Hp} {s : Shared} {p : Addr} {xs ys : List V} (I : Inv X pins σ H s) (hx : ∀ x ∈ xs, Sr x) (hy : ∀ y ∈ ys, Sr y) (h1 : SqT X.K H p xs) (h2 : SqT X.K H p ys) : xs = ys := by
  obtain ⟨us, r1, e1, _⟩ := I.tuple h1
  obtain ⟨vs, r2, e2, _⟩ := I.tuple h2
  obtain ⟨o1, g1, _, n1, d1⟩ := e1
  obtain ⟨o2, g2, _, n2, d2⟩ := e2
  rw [g1] at g2
  obtain rfl := Option.some.inj g2
  rw [d1] at d2
  injection d2 with ea _
  have eu : us = vs := by
    have := congrArg Array.toList ea
    simpa using this
  subst eu
  exact sr_vals hx hy r1 r2
end
end EqT
namespace Sc
open PySem PySem.Spec PyProof.Rows L2
theorem sc_Rule___eq__ : FnScope ["self", "other"] ["self", "other"] (defScope s_Rule___eq__) := ⟨rfl, rfl, rfl, by decide +kernel, rfl, by decide +kernel, by decide +kernel⟩
theorem sc_Book___eq__ : FnScope ["self", "other"] ["self", "other"] (defScope s_Book___eq__) := ⟨rfl, rfl, rfl, by decide +kernel, rfl, by decide +kernel, by decide +kernel⟩
/-- are they the same rule -/
noncomputable def ndEq (n m : Nd) : Bool := @decide (n = m) (Classical.propDecidable _)
theorem ndEq_iff {n m : Nd} : ndEq n m = true ↔ n = m := by unfold ndEq; exact @decide_eq_true_iff _ (Classical.propDecidable _)
noncomputable def eqAt (as bs : List Nd) (i : Nat) : Bool := match as[i]?, bs[i]? with
  | some a, some b => ndEq a b
  | _, _ => true
theorem eqAt_all {as bs : List Nd} : ((List.range (min as.length bs.length)).all (eqAt as bs) && as.length == bs.length) = true ↔ as = bs := by
  rw [Bool.and_eq_true_iff, beq_iff_eq, List.all_eq_true]
  constructor
  · rintro ⟨h, hl⟩
    refine List.ext_getElem hl fun i h1 h2 => ?_
    have := h i (List.mem_range.mpr (by omega))
    unfold eqAt at this
    rw [List.getElem?_eq_getElem h1, List.getElem?_eq_getElem h2] at this
    exact ndEq_iff.mp this
  · rintro rfl
    refine ⟨fun i hi => ?_, rfl⟩
    have hi := List.mem_range.mp hi
    unfold eqAt
    rw [List.getElem?_eq_getElem (by omega)]
    exact ndEq_iff.mpr rfl
section
variable {P : Program} {w : World} {K : PySem.W.Frag} {mg : Str → Option Value} {base : Heap} {C R B : Addr}
/-- what the == of two rules answers -/
def RuAns (K : PySem.W.Frag) (C R : Addr) (d : Nat) (a b : Addr) (ans : Bool) (H : Hp) : Prop := ∃ (N : Addr → Prop) (n m : Nd), NdAt K C R N H a n ∧ NdAt K C R N H b m ∧ NdOk n ∧ NdOk m ∧ n.exc.every NdOk ∧ m.exc.every NdOk ∧ n.exc.dep + 1 ≤ d ∧ (ans = true ↔ n = m)
theorem ruAMon {d : Nat} : ∀ a b ans H H', Ext H H' → RuAns K C R d a b ans H → RuAns K C R d a b ans H' := fun a b ans H H' e ⟨N, n, m, h1, h2, h3⟩ =>
  ⟨N, n, m, h1.keeps (fun b o _ q => e b o q), h2.keeps (fun b o _ q => e b o q), h3⟩
theorem sr_strs {xs : List Str} : ∀ x ∈ xs.map V.str, EqT.Sr x := fun x hx => by
  obtain ⟨z, _, rfl⟩ := List.mem_map.mp hx
  exact .inl ⟨z, rfl⟩
theorem strs_inj {xs ys : List Str} (h : xs.map V.str = ys.map V.str) : xs = ys := List.map_inj_right (fun _ _ h => V.str.inj h) |>.mp h
/-- a condition is read in one way -/
theorem cond_one {X : Cx} {pins : List (Addr × Obj)} {σ : L2.St} {H : Hp} {s : Shared} {c : Addr} {hs fs hs' fs' : List Str} (I : Inv X pins σ H s) (h1 : CondAt X.K C H c hs fs) (h2 : CondAt X.K C H c hs' fs') : hs = hs' ∧ fs = fs' := by
  obtain ⟨dx, a, b, n, zs, ho, ha, hb, _⟩ := h1.at_
  obtain ⟨dx', a', b', n', zs', ho', ha', hb', _⟩ := h2.at_
  rw [ho] at ho'
  injection ho' with ho'
  injection ho' with _ _ hf
  have ea : a = a' := by
    have := congrArg (fun l => List.lookup ("_holding" : Str) l) hf
    injection this with this
    injection this
  have eb : b = b' := by
    have := congrArg (fun l => List.lookup ("_failing" : Str) l) hf
    injection this with this
    injection this
  subst ea eb
  exact ⟨strs_inj (EqT.sq_one I sr_strs sr_strs ha ha'), strs_inj (EqT.sq_one I sr_strs sr_strs hb hb')⟩
theorem for_sr {N : Addr → Prop} {H : Hp} {f : RF} {vs : List V} (h : ForAt K C R N H f vs) : ∀ v ∈ vs, EqT.Sr v := fun v hv => by
  obtain ⟨i, hi⟩ := List.mem_iff_getElem?.mp hv
  obtain ⟨n, _, o, rfl, _⟩ := h.all.get hi
  exact .inr ⟨o, rfl⟩
/-- rules are read in one way -/
theorem for_one {X : Cx} {pins : List (Addr × Obj)} {σ : L2.St} {H : Hp} {s : Shared} {N : Addr → Prop} (I : Inv X pins σ H s) : ∀ {f g : RF} {vs : List V}, ForAt X.K C R N H f vs → ForAt X.K C R N H g vs → f = g
  | .nil, .nil, _, _, _ => rfl
  | .nil, .cons .., vs, h1, h2 => by
    obtain rfl : vs = [] := h1
    obtain ⟨_, _, _, _, _, _, _, e, _⟩ := h2
    cases e
  | .cons .., .nil, vs, h1, h2 => by
    obtain rfl : vs = [] := h2
    obtain ⟨_, _, _, _, _, _, _, e, _⟩ := h1
    cases e
  | .cons nm hs fs rl exc rest, .cons nm' hs' fs' rl' exc' rest', vs, h1, h2 => by
    obtain ⟨o, dx, c, p, l, ws, vs1, rfl, ho, hc, hp, _, hx, hr⟩ := h1
    obtain ⟨o', dx', c', p', l', ws', vs1', e, ho', hc', hp', _, hx', hr'⟩ := h2
    injection e with e1 e2
    injection e1 with e1
    subst e1 e2
    rw [ho] at ho'
    injection ho' with ho'
    injection ho' with _ _ hf
    have look : ∀ k : Str, (ruleF nm c rl p ((exc.dep + 1 : Nat) : Int) l).lookup k = (ruleF nm' c' rl' p' ((exc'.dep + 1 : Nat) : Int) l').lookup k := fun k => by rw [hf]
    have l1 : some (V.str nm) = some (V.str nm') := look "_name"
    have l2 : some (V.ref c) = some (V.ref c') := look "_condition"
    have l3 : some (V.str rl) = some (V.str rl') := look "_ruling"
    have l4 : some (V.ref p) = some (V.ref p') := look "_exceptions"
    cases l1
    cases l2
    cases l3
    cases l4
    obtain ⟨rfl, rfl⟩ := cond_one I hc hc'
    obtain rfl := EqT.sq_one I (for_sr hx) (for_sr hx') hp hp'
    rw [for_one I hx hx', for_one I hr hr']
theorem nd_one {X : Cx} {pins : List (Addr × Obj)} {σ : L2.St} {H : Hp} {s : Shared} {N : Addr → Prop} {o : Addr} {n m : Nd} (I : Inv X pins σ H s) (h1 : NdAt X.K C R N H o n) (h2 : NdAt X.K C R N H o m) : n = m := by
  have e : (RF.only n) = RF.only m := for_one (vs := [.ref o]) I (ForAt.of (.one ⟨o, rfl, h1⟩)) (ForAt.of (.one ⟨o, rfl, h2⟩))
  have := congrArg RF.nodes e
  exact (List.cons.inj this).1
theorem ruOne {X : Cx} {d : Nat} : ∀ pins s σ H x y b, Inv X pins σ H s → EqT.InsA R (RuAns X.K C R d) x y b H → ∃ p q, x = .ref p ∧ y = .ref q ∧ (p = q → b = true) := fun pins s σ H x y b I ⟨p, q, _, _, _, _, hx, hy, _, _, N, n, m, h1, h2, _, _, _, _, _, hb⟩ =>
  ⟨p, q, hx, hy, fun e => hb.mpr (by subst e; exact nd_one I h1 h2)⟩
/-- the == of rules, whatever it answers -/
def sp_rans (K : PySem.W.Frag) (C R : Addr) (d : Nat) : Sp := fun vs H Q _ => ∃ (N : Addr → Prop) (a b : Addr) (n m : Nd), vs = [.ref a, .ref b] ∧ NdAt K C R N H a n ∧ NdAt K C R N H b m ∧ NdOk n ∧ NdOk m ∧ n.exc.every NdOk ∧ m.exc.every NdOk ∧ n.exc.dep ≤ d ∧ ∀ H' ans, Same H H' → (ans = true ↔ n = m) → Q (.bl ans) H'
theorem nodes_ans {N : Addr → Prop} {H : Hp} {f g : RF} {ws us : List V} {d : Nat} (h1 : All2 (RefAt K C R N H) ws f.nodes) (h2 : All2 (RefAt K C R N H) us g.nodes) (e1 : f.every NdOk) (e2 : g.every NdOk) (hd : f.dep ≤ d) {p q : Addr} (hp : SqT K H p ws) (hq : SqT K H q us) :
    ∃ b, EqT.TupA K (EqT.InsA R (RuAns K C R d)) (.ref p) (.ref q) b H ∧ (b = true ↔ f = g) := by
  refine ⟨_, ⟨p, q, ws, us, rfl, rfl, hp, hq, eqAt f.nodes g.nodes, fun i x y hx hy => ?_, rfl⟩, ?_⟩
  · obtain ⟨n, hn, o1, rfl, hN1⟩ := h1.get hx
    obtain ⟨m, hm, o2, rfl, hN2⟩ := h2.get hy
    obtain ⟨a1, a2⟩ := RF.every_nodes.mp e1 n (List.mem_of_getElem? hn)
    obtain ⟨b1, b2⟩ := RF.every_nodes.mp e2 m (List.mem_of_getElem? hm)
    have hdm := RF.dep_mem _ n (List.mem_of_getElem? hn)
    obtain ⟨dxa, c1', p1', l1', w1', ha1, _⟩ := id hN1
    obtain ⟨dxb, c2', p2', l2', w2', hb1, _⟩ := id hN2
    refine ⟨o1, o2, dxa, dxb, _, _, rfl, rfl, ha1, hb1, N, n, m, hN1, hN2, a1, b1, a2, b2, by omega, ?_⟩
    unfold eqAt
    rw [hn, hm]
    exact ndEq_iff
  · rw [h1.len, h2.len, eqAt_all]
    exact ⟨fun h => by rw [← RF.of_nodes f, ← RF.of_nodes g, h], fun h => by rw [h]⟩
theorem ok_rans {d : Nat} {f : Addr} {fd : FuncData} {gc : Addr} {fc : FuncData} (F : Fun K "__eq__" "Rule.__eq__" s_Rule___eq__ f fd) (Bl : Blt mg) (T : Cls K R) (n1 : NoAttr K R "_name") (n2 : NoAttr K R "_condition") (n3 : NoAttr K R "_ruling") (n4 : NoAttr K R "_exceptions") (mR : mg "Rule" = some (.ref R)) (I : IsiC K R)
    (hc1 : PySem.W.findIn K (.ref C) "__eq__" = some (some (.ref gc))) (hc2 : PySem.W.isFn K (.ref gc) = true) (cF : FnOk P w K mg base CX0 1 gc fc ["self", "other"] (sp_ceq K C)) (cB : Binds K fc ["self", "other"] [])
    (hs : PySem.W.findIn K (.ref R) "__eq__" = some (some (.ref f))) (hf : PySem.W.isFn K (.ref f) = true) (hb : Binds K fd ["self", "other"] []) (hF : FnOk P w K mg base CX0 (2 * d + 1) f fd ["self", "other"] (EqT.spAns (RuAns K C R d))) :
    FnOk P w K mg base CX0 (2 * d + 3) f fd ["self", "other"] (sp_rans K C R d) := by
  refine F.ok sc_Rule___eq__ (fun vs H Q E h => by obtain ⟨N, a, b, n, m, rfl, _⟩ := h; rfl) (fun cdv A outer s H vs Q E hr h => ?_)
  obtain ⟨N, a, b, n, m, rfl, hA, hB, hn, hm, hne, hme, hd, q⟩ := h
  refine ⟨_, (pss_one (ps_ret (pe_and (pe_callB call_isi (by rfl) Bl.b_isinstance PyProof.Rows.boot_isinstance (pa_cons (pv 1) (pa_cons (pe_glob (v := .ref _) rfl mR rfl) pa_nil))) (pe_and (pe_cmpR op_eq (pe_fld (pv 0) rfl) (pe_fld (pv 1) rfl) (nomark _)) (pe_and (pe_cmpR (op_eqO hc1 hc2 cF (hr.mono (by omega)) cB pass0) (pe_fld (pv 0) rfl) (pe_fld (pv 1) rfl) (nomark _)) (pe_and (pe_cmpR op_eq (pe_fld (pv 0) rfl) (pe_fld (pv 1) rfl) (nomark _)) (pe_one (pe_cmpR (EqT.op_eqA (EqT.rcIs_tup (EqT.mon_insA ruAMon) ((EqT.rcIs_ins hF hs hf hb pass0).eqIs ruOne)) (hr.mono (by omega))) (pe_fld (pv 0) rfl) (pe_fld (pv 1) rfl) (nomark _))))))))), ?_⟩
  obtain ⟨dx, c, p, l, ws, ha, hc, hp, _, hfa⟩ := id hA
  obtain ⟨dx2, c2, p2, l2, ws2, hb0, hc0, hp2, _, hfb⟩ := id hB
  obtain ⟨dxc, ca, cb, cn, zs, hcc, _⟩ := hc.at_
  obtain ⟨dxc2, ca2, cb2, cn2, zs2, hcc2, _⟩ := hc0.at_
  have no : (∀ h : n = m, False) → Q (.bl false) H := fun h => q H false (Same.refl H) ⟨fun z => (Bool.noConfusion z), fun z => (h z).elim⟩
  refine ⟨_, rfl, _, _, _, _, _, rfl, .own _, .base (.ins hb0 T I.ca I.cn I.ct I.cm), I.me, _, rfl, iteT ?_⟩
  refine ⟨_, rfl, a, R, dx, _, _, rfl, ha, T, n1, rfl, _, rfl, b, R, dx2, _, _, rfl, hb0, T, n1, rfl, ?_⟩
  refine ⟨rfl, _, rfl, ?_⟩
  by_cases k1 : n.nm = m.nm
  · rw [decide_eq_true (congrArg V.str k1)]
    refine iteT ?_
    refine ⟨_, rfl, a, R, dx, _, _, rfl, ha, T, n2, rfl, _, rfl, b, R, dx2, _, _, rfl, hb0, T, n2, rfl, ?_⟩
    refine ⟨c, dxc, _, .ref C, rfl, hcc, .ins hcc2, (by simp [PySem.W.notFirst]), c, .ref c2, n.hs, n.fs, rfl, hc, fw_fines hn.c1, fw_fines hn.c2, .inl ⟨c2, m.hs, m.fs, rfl, hc0, fw_fines hm.c1, fw_fines hm.c2, ?_⟩⟩
    by_cases k2 : n.hs = m.hs ∧ n.fs = m.fs
    · rw [decide_eq_true k2.1, decide_eq_true k2.2]
      refine ⟨_, rfl, iteT ?_⟩
      refine ⟨_, rfl, a, R, dx, _, _, rfl, ha, T, n3, rfl, _, rfl, b, R, dx2, _, _, rfl, hb0, T, n3, rfl, rfl, _, rfl, ?_⟩
      by_cases k3 : n.rl = m.rl
      · rw [decide_eq_true (congrArg V.str k3)]
        refine iteT ⟨_, rfl, a, R, dx, _, _, rfl, ha, T, n4, rfl, _, rfl, b, R, dx2, _, _, rfl, hb0, T, n4, rfl, ?_⟩
        obtain ⟨ans, hT, hi⟩ := nodes_ans (d := d) hfa.all hfb.all hne hme hd hp hp2
        refine ⟨ans, hT, fun H' e => q H' ans e ?_⟩
        rw [hi]
        obtain ⟨nn, nh, nf, nr, ne⟩ := n
        obtain ⟨mn, mh, mf, mr, me⟩ := m
        obtain ⟨rfl, rfl⟩ := k2
        obtain rfl : nn = mn := k1
        obtain rfl : nr = mr := k3
        exact ⟨fun h => by rw [show ne = me from h], fun h => by injection h⟩
      · rw [decide_eq_false (fun z => k3 (V.str.inj z))]
        exact iteF (no fun h => k3 (by rw [h]))
    · have : (decide (n.hs = m.hs) && decide (n.fs = m.fs)) = false := by
        rw [← Bool.not_eq_true, Bool.and_eq_true_iff, decide_eq_true_iff, decide_eq_true_iff]
        exact k2
      rw [this]
      exact ⟨_, rfl, iteF (no fun h => k2 (by rw [h]; exact ⟨rfl, rfl⟩))⟩
  · rw [decide_eq_false (fun z => k1 (V.str.inj z))]
    exact iteF (no fun h => k1 (by rw [h]))
/-- by depth -/
theorem ruleAns_all {f : Addr} {fd : FuncData} {gc : Addr} {fc : FuncData} (F : Fun K "__eq__" "Rule.__eq__" s_Rule___eq__ f fd) (Bl : Blt mg) (T : Cls K R) (n1 : NoAttr K R "_name") (n2 : NoAttr K R "_condition") (n3 : NoAttr K R "_ruling") (n4 : NoAttr K R "_exceptions") (mR : mg "Rule" = some (.ref R)) (I : IsiC K R)
    (hc1 : PySem.W.findIn K (.ref C) "__eq__" = some (some (.ref gc))) (hc2 : PySem.W.isFn K (.ref gc) = true) (cF : FnOk P w K mg base CX0 1 gc fc ["self", "other"] (sp_ceq K C)) (cB : Binds K fc ["self", "other"] [])
    (hs : PySem.W.findIn K (.ref R) "__eq__" = some (some (.ref f))) (hf : PySem.W.isFn K (.ref f) = true) (hb : Binds K fd ["self", "other"] []) : ∀ d, FnOk P w K mg base CX0 (2 * d + 3) f fd ["self", "other"] (sp_rans K C R d)
  | 0 => ok_rans F Bl T n1 n2 n3 n4 mR I hc1 hc2 cF cB hs hf hb ((FnOk.never (ps := ["self", "other"])).imp fun vs H Q E h => by
      obtain ⟨a, b, _, _, ⟨N, n, m, _, _, _, _, _, _, hd, _⟩, _⟩ := h
      omega)
  | d + 1 => ok_rans F Bl T n1 n2 n3 n4 mR I hc1 hc2 cF cB hs hf hb ((ruleAns_all F Bl T n1 n2 n3 n4 mR I hc1 hc2 cF cB hs hf hb d).imp fun vs H Q E h => by
      obtain ⟨a, b, ans, rfl, ⟨N, n, m, hA, hB, hn, hm, hne, hme, hd, hi⟩, q⟩ := h
      refine ⟨N, a, b, n, m, rfl, hA, hB, hn, hm, hne, hme, by omega, fun H' ans' s hi' => ?_⟩
      have : ans' = ans := by
        rw [Bool.eq_iff_iff, hi, hi']
      rw [this]
      exact q H' s)
/-- the == of books, whatever it answers -/
def sp_bans (K : PySem.W.Frag) (C R B : Addr) : Sp := fun vs H Q _ => ∃ (N : Addr → Prop) (a b : Addr) (xs xs' : List Str) (f f' : RF) (rl rl' : Str), vs = [.ref a, .ref b] ∧ BookAt K C R B N H a xs f rl ∧ BookAt K C R B N H b xs' f' rl' ∧ f.every NdOk ∧ f'.every NdOk ∧ Fines xs ∧ Fines xs' ∧ f.dep ≤ 13 ∧
  ∀ H' ans, Same H H' → (ans = true ↔ xs = xs' ∧ f = f' ∧ rl = rl') → Q (.bl ans) H'
theorem ok_bans {f : Addr} {fd : FuncData} {g : Addr} {fg : FuncData} (F : Fun K "__eq__" "Book.__eq__" s_Book___eq__ f fd) (Bl : Blt mg) (T : Cls K B) (n1 : NoAttr K B "_facts") (n2 : NoAttr K B "_rules") (n3 : NoAttr K B "_ruling") (mB : mg "Book" = some (.ref B)) (I : IsiC K B)
    (hs : PySem.W.findIn K (.ref R) "__eq__" = some (some (.ref g))) (hf : PySem.W.isFn K (.ref g) = true) (hb : Binds K fg ["self", "other"] []) (hR : FnOk P w K mg base CX0 27 g fg ["self", "other"] (sp_rans K C R 12)) :
    FnOk P w K mg base CX0 29 f fd ["self", "other"] (sp_bans K C R B) := by
  have hF : FnOk P w K mg base CX0 27 g fg ["self", "other"] (EqT.spAns (RuAns K C R 13)) := hR.imp fun vs H Q E h => by
    obtain ⟨a, b, ans, rfl, ⟨N, n, m, hA, hB, hn, hm, hne, hme, hd, hi⟩, q⟩ := h
    refine ⟨N, a, b, n, m, rfl, hA, hB, hn, hm, hne, hme, by omega, fun H' ans' s hi' => ?_⟩
    have : ans' = ans := by
      rw [Bool.eq_iff_iff, hi, hi']
    rw [this]
    exact q H' s
  refine F.ok sc_Book___eq__ (fun vs H Q E h => by obtain ⟨N, a, b, xs, xs', f, f', rl, rl', rfl, _⟩ := h; rfl) (fun cdv A outer s H vs Q E hr h => ?_)
  obtain ⟨N, a, b, xs, xs', f, f', rl, rl', rfl, hA, hB, hev, hev', hfx, hfx', hd, q⟩ := h
  obtain ⟨dx, fa, p, l, ws, us, ha, hS, hP, hFa, _, _⟩ := id hA
  obtain ⟨dx2, fb, p2, l2, ws2, us2, hb0, hS2, hP2, hFb, _, _⟩ := id hB
  refine ⟨_, (pss_one (ps_ret (pe_and (pe_callB call_isi (by rfl) Bl.b_isinstance PyProof.Rows.boot_isinstance (pa_cons (pv 1) (pa_cons (pe_glob (v := .ref _) rfl mB rfl) pa_nil))) (pe_and (pe_cmpR (op_eqD hr.units) (pe_fld (pv 0) rfl) (pe_fld (pv 1) rfl) (nomark _)) (pe_and (pe_cmpR (EqT.op_eqA (EqT.rcIs_tup (EqT.mon_insA ruAMon) ((EqT.rcIs_ins hF hs hf hb pass0).eqIs ruOne)) (hr.mono (by decide))) (pe_fld (pv 0) rfl) (pe_fld (pv 1) rfl) (nomark _)) (pe_one (pe_cmpR op_eq (pe_fld (pv 0) rfl) (pe_fld (pv 1) rfl) (nomark _)))))))), ?_⟩
  have no : (∀ h : xs = xs' ∧ f = f' ∧ rl = rl', False) → ∀ H', Same H H' → Q (.bl false) H' := fun h H' s => q H' false s ⟨fun z => (Bool.noConfusion z), fun z => (h z).elim⟩
  refine ⟨_, rfl, _, _, _, _, _, rfl, .own _, .base (.ins hb0 T I.ca I.cn I.ct I.cm), I.me, _, rfl, iteT ?_⟩
  refine ⟨_, rfl, a, B, dx, _, .ref fa, rfl, ha, T, n1, rfl, _, rfl, b, B, dx2, _, .ref fb, rfl, hb0, T, n1, rfl, _, _, dp_strs hS, dp_strs hS2, shT hfx, shT hfx', _, rfl, ?_⟩
  have e1 : (PyData.tuple (xs.map PyData.str)).eqv (.tuple (xs'.map PyData.str)) = decide (xs = xs') := eqvA xs xs'
  rw [e1]
  by_cases k1 : xs = xs'
  · rw [decide_eq_true k1]
    obtain ⟨ans, hT, hi⟩ := nodes_ans (d := 13) hFa.all hFb.all hev hev' hd hP hP2
    refine iteT ⟨_, rfl, a, B, dx, _, .ref p, rfl, ha, T, n2, rfl, _, rfl, b, B, dx2, _, .ref p2, rfl, hb0, T, n2, rfl, ans, hT, fun H1 s1 => ⟨_, rfl, ?_⟩⟩
    have ha1 := s1 _ _ ha
    have hb1 := s1 _ _ hb0
    cases ans with
    | true =>
      have k2 := hi.mp rfl
      refine iteT ⟨_, rfl, a, B, dx, _, .str rl, rfl, ha1, T, n3, rfl, _, rfl, b, B, dx2, _, .str rl', rfl, hb1, T, n3, rfl, rfl, ?_⟩
      refine q H1 _ s1 ⟨fun z => ⟨k1, k2, V.str.inj (of_decide_eq_true z)⟩, fun z => ?_⟩
      rw [z.2.2]
      exact decide_eq_true rfl
    | false =>
      exact iteF (no (fun h => Bool.noConfusion (hi.mpr h.2.1)) H1 s1)
  · rw [decide_eq_false k1]
    exact iteF (no (fun h => k1 h.1) H (Same.refl H))
end
end Sc
namespace SetS
open PySem PySem.Spec PyProof.Rows L2
/-! ### sets of texts -/
def txt (e : Int × Value) : Str := match e.2 with | .str x _ => x | _ => ⟨#[]⟩
/-- an entry of a set of texts -/
def Ent (P : Program) (w : World) (e : Int × Value) : Prop := ∃ x t, e.2 = Value.str x t ∧ e.1 = (strKind P w).hash x
/-- the set at a has the texts zs, in some order -/
def TxtSet (P : Program) (w : World) (h : Heap) (a : Addr) (zs : List Str) : Prop :=
  ∃ o es ep t, (h.get? a = some o ∧ o.ExactSet ∧ o.data = .set es ep t) ∧ ((∀ e ∈ es.toList, Ent P w e) ∧ es.toList.map txt = zs ∧ zs.Nodup) ∧
    (es.size < scanBound ∧ t.fits es.size = true ∧ Ris t.place.toList ∧ (w.params.followText "set-order" = true ∨ t.led = true))
section
variable {P : Program} {w : World} {A : Around} {E : Value → Shared → Prop} {s : Shared} {h h' : Heap} {a : Addr} {zs : List Str}
theorem TxtSet.kept (R : TxtSet P w h a zs) (k : ∀ o, h.get? a = some o → h'.get? a = some o) : TxtSet P w h' a zs := by
  obtain ⟨o, es, ep, t, ⟨ho, q⟩, r⟩ := R
  exact ⟨o, es, ep, t, ⟨k o ho, q⟩, r⟩
theorem ent_is {e : Int × Value} (g : Ent P w e) (x : Str) : (strKind P w).is x e.2 = true ↔ txt e = x := by
  obtain ⟨y, t, e1, _⟩ := g
  unfold txt
  rw [e1]
  constructor
  · intro q
    obtain ⟨u, q⟩ := Value.isStrOf_shape (show Value.isStrOf x (Value.str y t) = true from q)
    cases q
    rfl
  · rintro rfl
    exact strKind_is P w y t
theorem ent_elems {l : List (Int × Value)} (g : ∀ e ∈ l, Ent P w e) : ElemsOf (strKind P w) l := fun e he => by
  obtain ⟨x, t, h1, h2⟩ := g e he
  refine ⟨⟨x, ?_, h2⟩, ?_⟩
  · rw [h1]; exact strKind_is P w x t
  · rw [h1]; rfl
theorem mem_txt {l : List (Int × Value)} (g : ∀ e ∈ l, Ent P w e) (x : Str) : x ∈ l.map txt ↔ ∃ e ∈ l, (strKind P w).is x e.2 = true := by
  rw [List.mem_map]
  exact ⟨fun ⟨e, he, q⟩ => ⟨e, he, (ent_is (g e he) x).mpr q⟩, fun ⟨e, he, q⟩ => ⟨e, he, (ent_is (g e he) x).mp q⟩⟩
/-- the rows are laid, and all anew where the table is too full -/
theorem lay {gv : Bool → Sem Unit} (hg : ∀ (b : Bool) (s₁ : Shared) (Q' : Unit → Shared → Prop), Q' () s₁ → wpAny (model P w) A (gv b) Q' E s₁)
    {o : Obj} {es : Array (Int × Value)} {ep : Nat} {t : SetTable} (ho : s.heap.get? a = some o) (hex : o.ExactSet) (hd : o.data = .set es ep t)
    {es1 : Array (Int × Value)} {t2 : SetTable} (g1 : ∀ e ∈ es1.toList, Ent P w e) (nd1 : (es1.toList.map txt).Nodup) (hb1 : es1.size < scanBound) (hf2 : t2.fits es1.size = true) (hr : Ris t2.place.toList)
    (hl : w.params.followText "set-order" = true ∨ t2.led = true) {wd : Bool} {R : Option Bool → Shared → Prop}
    (hR : ∀ h' zs', Heap.SameBut a s.heap h' → TxtSet P w h' a zs' → zs'.Perm (es1.toList.map txt) → R (some true) { s with heap := h' }) :
    wpAny (model P w) A (do
        storeSet a es1 t2
        if (!wd && t2.tooFull) = true then do
            gv (relayAll t2 es1 (SetTable.grown es1.size)).2.2
            storeSet a (relayAll t2 es1 (SetTable.grown es1.size)).1 (relayAll t2 es1 (SetTable.grown es1.size)).2.1
            pure (some true)
          else pure (some true)) R E s := by
  have o1 := store_at (es' := es1) (t' := t2) ho hd
  have b1 := Heap.SameBut.update s.heap a (Obj.putSet es1 t2)
  refine wpAny_bind (wpAny_storeSet_of ho hd ?_ (fits_of_scanBound hb1))
  split
  · have p3 := relayAll_perm t2 es1 (SetTable.grown es1.size)
    have f3 := relayAll_fits t2 es1 (SetTable.grown es1.size)
    have r3 := relayAll_ris t2 es1 (SetTable.grown es1.size)
    have l3 := relayAll_led t2 es1 (SetTable.grown es1.size)
    rcases hz : relayAll t2 es1 (SetTable.grown es1.size) with ⟨es2, t3, gave⟩
    rw [hz] at p3 f3 r3 l3
    dsimp only at p3 f3 r3 l3 ⊢
    have z3 : es2.size < scanBound := by rw [← Array.length_toList, p3.length_eq, Array.length_toList]; exact hb1
    refine wpAny_bind (hg _ _ _ (wpAny_bind (wpAny_storeSet_of o1 rfl ?_ (fits_of_scanBound z3))))
    refine wpAny_pure (hR _ _ (b1.trans (Heap.SameBut.update _ a _)) ⟨_, es2, _, t3, ⟨store_at (es' := es2) (t' := t3) o1 rfl, hex, rfl⟩, ⟨fun e he => g1 e (p3.mem_iff.mp he), rfl, (p3.map txt).nodup_iff.mpr nd1⟩, z3, f3, r3, hl.imp id fun z => by rw [l3]; exact z⟩ (p3.map txt))
  · exact wpAny_pure (hR _ _ b1 ⟨_, es1, _, t2, ⟨o1, hex, rfl⟩, ⟨g1, rfl, nd1⟩, hb1, hf2, hr, hl⟩ (List.Perm.refl _))
/-- a text is put in -/
theorem add {x : Str} {tk : Tok} {Q : Bool → Shared → Prop} (R : TxtSet P w s.heap a zs) (room : zs.length + 1 < scanBound)
    (hQ : ∀ b h' zs', Heap.SameBut a s.heap h' → TxtSet P w h' a zs' → (∀ y, y ∈ zs' ↔ y ∈ zs ∨ y = x) → zs'.length ≤ zs.length + 1 → Q b { s with heap := h' }) :
    wpAny (model P w) A (setAddHashed a (.str x tk) ((strKind P w).hash x)) Q E s := by
  obtain ⟨o, es, ep, t, ⟨ho, hex, hd⟩, ⟨g, rfl, nd⟩, hb, hf, hr, hl⟩ := R
  have hk : (strKind P w).is x (.str x tk) = true := strKind_is P w x tk
  have hc : (Value.str x tk).scannable = true := rfl
  have el : ElemsOf (strKind P w) es.toList := ent_elems g
  unfold setAddHashed setAddHashedIn
  refine wpAny_holding (wpAny_bind (wpAny_setState_of ho hd hf ?_))
  dsimp only
  rw [byScan_of hc hb el]
  simp only [↓reduceIte]
  unfold setAddByScan
  refine wpAny_bind (wpAny_bind (wpAny_rule (wpAny_bind (wpAny_setScan_of hk ho hd hf el ?_))))
  cases hfi : List.findIdx? (fun e => (strKind P w).is x e.2) es.toList with
  | some j =>
    obtain ⟨hj, pj, _⟩ := List.findIdx?_eq_some_iff_getElem.mp hfi
    have hx : x ∈ es.toList.map txt := (mem_txt g x).mpr ⟨_, List.getElem_mem hj, pj⟩
    dsimp only
    exact wpAny_pure (wpAny_pure (hQ _ s.heap _ (Heap.SameBut.refl a s.heap) ⟨o, es, ep, t, ⟨ho, hex, hd⟩, ⟨g, rfl, nd⟩, hb, hf, hr, hl⟩ (fun y => ⟨.inl, fun z => z.elim id fun e => e ▸ hx⟩) (Nat.le_succ _)))
  | none =>
    have nx : x ∉ es.toList.map txt := fun z => by
      obtain ⟨e, he, q⟩ := (mem_txt g x).mp z
      have c := List.findIdx?_eq_none_iff.mp hfi e he
      rw [q] at c
      cases c
    have gw : ∀ (b : Bool) {s₁ : Shared} {Q' : Unit → Shared → Prop}, Q' () s₁ → wpAny (model P w) A (match b with | true => rule "set.scan.the-table-gave-way" | false => pure ()) Q' E s₁ := by
      intro b s₁ Q' q
      cases b
      · exact wpAny_pure q
      · exact wpAny_rule q
    have p1 := layNew_perm t es ((strKind P w).hash x) (.str x tk)
    have f1 := layNew_fits t es ((strKind P w).hash x) (.str x tk)
    have r1 := layNew_ris t es ((strKind P w).hash x) (.str x tk) hr
    have l1 := layNew_led t es ((strKind P w).hash x) (.str x tk)
    dsimp only
    rcases hz : layNew t es ((strKind P w).hash x) (.str x tk) with ⟨es1, t1, wd, gave⟩
    rw [hz] at p1 f1 r1 l1
    dsimp only at p1 f1 r1 l1 ⊢
    rw [Array.toList_push] at p1
    have p2 : es1.toList.Perm (((strKind P w).hash x, Value.str x tk) :: es.toList) := p1.trans (List.perm_append_singleton _ _)
    have p3 : (es1.toList.map txt).Perm (x :: es.toList.map txt) := p2.map txt
    have g1 : ∀ e ∈ es1.toList, Ent P w e := fun e he => by
      rcases List.mem_cons.mp (p2.mem_iff.mp he) with z | z
      · rw [z]; exact ⟨x, tk, rfl, rfl⟩
      · exact g e z
    have nd1 : (es1.toList.map txt).Nodup := p3.nodup_iff.mpr (List.nodup_cons.mpr ⟨nx, nd⟩)
    have hb1 : es1.size < scanBound := by
      have e1 := p2.length_eq
      rw [Array.length_toList, List.length_cons] at e1
      rw [List.length_map] at room
      omega
    have hl1 : w.params.followText "set-order" = true ∨ t1.led = true := hl.imp id fun z => by rw [l1]; exact z
    have fin : ∀ b h' zs', Heap.SameBut a s.heap h' → TxtSet P w h' a zs' → zs'.Perm (es1.toList.map txt) → Q b { s with heap := h' } := fun b h' zs' sb r p => by
      have p := p.trans p3
      refine hQ b h' zs' sb r (fun y => ?_) (Nat.le_of_eq p.length_eq)
      rw [p.mem_iff, List.mem_cons]
      exact Or.comm
    refine wpAny_bind (gw _ ?_)
    split
    · refine wpAny_bind ?_
      rw [hashByValue_scannable 8 hc]
      refine wpAny_pure (lay ?_ ho hex hd g1 nd1 hb1 ?_ ?_ ?_ ?_)
      · intro b s₁ Q' q
        cases b
        · exact wpAny_pure q
        · exact wpAny_rule q
      · first | (split <;> first | exact f1 | exact SetTable.fits_plain_off f1) | exact f1
      · first | (split <;> exact r1) | exact r1
      · first | (split <;> exact hl1) | exact hl1
      · exact fun h' zs' sb r p => wpAny_pure (fin _ h' zs' sb r p)
    · refine wpAny_bind (wpAny_pure ?_)
      simp only [↓reduceIte]
      refine lay ?_ ho hex hd g1 nd1 hb1 f1 r1 hl1 ?_
      · intro b s₁ Q' q
        cases b
        · exact wpAny_pure q
        · exact wpAny_rule q
      · exact fun h' zs' sb r p => wpAny_pure (fin _ h' zs' sb r p)

theorem fresh {h : Heap} (ho : h.get? a = some { cls := .type "set", dict := none, data := .set #[] 0 (.fresh 0 0 (!w.params.followText "set-order")) }) : TxtSet P w h a [] := by
  refine ⟨_, #[], 0, _, ⟨ho, ⟨rfl, rfl, rfl⟩, rfl⟩, ⟨(fun e he => by simp at he), rfl, List.nodup_nil⟩, by decide, rfl, List.Pairwise.nil, ?_⟩
  show _ ∨ (!w.params.followText "set-order") = true
  cases w.params.followText "set-order"
  · exact .inr rfl
  · exact .inl rfl
/-- what has been met of the texts is in the set -/
def Met (ss : List Str) (i : Nat) (zs : List Str) : Prop := (∀ y, y ∈ zs ↔ y ∈ ss.take i) ∧ zs.length ≤ i
theorem update {I : Addr} {fp wr : List Addr} {G : Array GenState → Array GenState → Prop} {n : Nat} {Pv : Nat → Value → Prop} {St : Nat → Shared → Prop} {R : Result → Shared → Prop}
    (W : WalksS P w A.in1 I fp wr G n Pv St) (S : Addr) (hS : S ∉ fp) (ss : List Str) (hn : n = ss.length) (hb : ss.length + 1 < scanBound) (hv : ∀ i v, Pv i v → ∃ x t, ss[i]? = some x ∧ v = .str x t)
    (fin : ∀ (s0 s' : Shared) zs, Moved (S :: wr) G s0 s' → TxtSet P w s'.heap S zs → Met ss n zs → s0 = s → R (.ok (.ret .none)) s') :
    ∀ (k i : Nat) (s1 : Shared), n - i = k → i ≤ n → St i s1 → (∃ zs, TxtSet P w s1.heap S zs ∧ Met ss i zs) → (∀ s', Moved (S :: wr) G s1 s' → Moved (S :: wr) G s s') →
      codeAny (model P w) A (.builtin "set.update.loop" ⟨[.ref S, .ref I], []⟩) R s1 := by
  have out : S ∉ wr := fun z => hS (W.sub _ z)
  have more : ∀ b ∈ wr, b ∈ S :: wr := fun b z => List.mem_cons_of_mem _ z
  intro k
  induction k with
  | zero =>
    intro i s1 hk hi hst ⟨zs, hz, m⟩ gone
    obtain rfl : i = n := by omega
    refine codeAny_builtin F.entry_set_update_loop ?_
    rw [Around.under_plainId F.plain_set_update_loop _]
    show wpAny _ A.in1 (pyNext (.ref I) >>= _) _ _ s1
    refine wpAny_bind (W.done s1 _ _ hst fun s2 mv => ?_)
    show wpAny _ A.in1 (ret Value.none) _ _ s2
    exact wpAny_pure (fin s s2 zs (gone s2 (mv.mono more)) (hz.kept fun o e => mv.heap S o out e) m rfl)
  | succ k ih =>
    intro i s1 hk hi hst ⟨zs, hz, m⟩ gone
    have lt : i < n := by omega
    refine codeAny_builtin F.entry_set_update_loop ?_
    rw [Around.under_plainId F.plain_set_update_loop _]
    show wpAny _ A.in1 (pyNext (.ref I) >>= _) _ _ s1
    refine wpAny_bind (W.item i s1 _ _ lt hst fun v s2 hp hst2 mv => ?_)
    obtain ⟨x, t, hx, rfl⟩ := hv i v hp
    have hz2 := hz.kept (h' := s2.heap) fun o e => mv.heap S o out e
    show wpAny _ A.in1 (holding [Value.str x t] (setAdd S (.str x t)) >>= _) _ _ s2
    refine wpAny_bind (wpAny_holding ?_)
    unfold setAdd
    refine wpAny_holding (wpAny_bind ((strKind P w).pyHash (k := x) (strKind_is P w x t) ?_))
    have ml := m.2
    refine add (s := { s2 with toks := s2.toks + 1 }) hz2 (by omega) fun b h3 zs3 sb hz3 mem len => ?_
    have m3 : Met ss (i + 1) zs3 := by
      refine ⟨fun y => ?_, by omega⟩
      rw [mem, m.1, List.take_add_one, hx, List.mem_append]
      simp
    have mv3 : Moved (S :: wr) G s1 { s2 with heap := h3, toks := s2.toks + 1 } := (mv.mono more).then_heap (Nat.le_succ _) fun b o hb e => by
      rw [sb.2 b fun z => hb (by rw [z]; exact List.mem_cons_self)]
      exact e
    refine wpAny_pure ⟨plainId_quiet F.plain_set_update_loop _, ih (i + 1) _ (by omega) lt (W.frame _ s2 _ _ hst2 (Nat.le_succ _) fun b hb o e => ?_) ⟨zs3, hz3, m3⟩ fun s' h => gone s' (Moved.trans W.gtrans mv3 h)⟩
    rw [sb.2 b fun z => hS (by rw [← z]; exact hb)]
    exact e

/-- an empty set's object -/
abbrev emp (w : World) : Obj := { cls := .type "set", dict := none, data := .set #[] 0 (.fresh 0 0 (!w.params.followText "set-order")) }
set_option maxRecDepth 100000 in
set_option maxHeartbeats 3200000 in
/-- set(x): the set is made, and filled by its __init__ -/
theorem made {x : Value} {Z : Shared → Prop} {Q : Value → Shared → Prop}
    (hi : wpAny (model P w) A.in1.in1 (Builtin.«set.__init__» ⟨[.ref s.heap.objs.size, x], []⟩)
      (fun fin s' => match fin with | .done f => wants (fun r s₂ => r = .none ∧ Z s₂) E (.ok f) s' | .again c' => c'.quiet = true ∧ codeAny (model P w) A.in1 c' (wants (fun r s₂ => r = .none ∧ Z s₂) E) s')
      (fun e s' => wants (fun r s₂ => r = .none ∧ Z s₂) E (.error e) s') { s with heap := s.heap.push (emp w) })
    (hq : ∀ s₂, Z s₂ → Q (.ref s.heap.objs.size) s₂) : wpAny (model P w) A (call (.type "set") [x]) Q E s := by
  have cf := F.called_set
  obtain ⟨c, tl, mro⟩ := cf.mro
  have q1 := cf.made
  have q2 := cf.sub
  have q3 := cf.notType
  have q4 := cf.canCreate
  have q5 := F.typeCall_set_1 x
  have q6 := cf.init.lookup
  have q7 := cf.init.bind (.ref s.heap.objs.size)
  refine wpAny_call (codeAny_of_tree ?_)
  show wpAny _ _ (callAny (.type "set") _) _ _ _
  refine wpAny_pure ⟨Code.quiet_builtin _ (by decide +kernel), codeAny_builtin F.entry_type_call ?_⟩
  rw [Around.under_plain (weight_type_call_type "set" [x] []) rfl]
  repeat (any_goals (first | assumption | wp_step))
  have new := code_set_led1 (P := P) (w := w) (A := A.in1) (s := s) (E := E) x (Q₁ := fun obj s₁ => obj = .ref s.heap.objs.size ∧ s₁ = { s with heap := s.heap.push (emp w) }) ⟨rfl, rfl⟩
  refine codeAny_mono new fun r s₁ hr => ?_
  rcases r with e | fl
  · exact hr
  rcases fl with _ | obj | _ | _
  all_goals first | exact hr.elim | skip
  obtain ⟨rfl, rfl⟩ := hr
  have isS : Shared.TypeIs { s with heap := s.heap.push (emp w) } (.ref s.heap.objs.size) "set" := ⟨_, Heap.get?_push_size _ rfl, rfl⟩
  repeat (any_goals (first | assumption | wp_step))
  refine codeAny_mono (codeAny_call_builtin (R := wants (fun r s₂ => r = .none ∧ Z s₂) E) cf.init.plain F.entry_set_init (check_set_init_1 isS hi)) fun r₂ s₂ hr₂ => ?_
  rcases r₂ with e | fl₂
  · exact hr₂
  rcases fl₂ with _ | r | _ | _
  all_goals first | exact hr₂.elim | skip
  obtain ⟨rfl, z⟩ := hr₂
  repeat (any_goals (first | assumption | wp_step))
  exact hq _ z

theorem strs_at : ∀ {vs : List Value} {ss : List Str}, StrsAre vs ss → ∀ (i : Nat) (v : Value), vs[i]? = some v → ∃ x t, ss[i]? = some x ∧ v = .str x t
  | _, _, .cons y t r, 0, v, e => ⟨y, t, rfl, (Option.some.inj e).symm⟩
  | _, _, .cons y t r, i + 1, v, e => strs_at r i v e

set_option maxRecDepth 100000 in
set_option maxHeartbeats 3200000 in
/-- set(xs), xs a tuple of texts -/
theorem of_tuple {l : Addr} {items : Array Value} {ss : List Str} {Q : Value → Shared → Prop} (hh : A.handled = none) (hl : s.heap.IsTuple l items) (hit : StrsAre items.toList ss) (hb : ss.length + 1 < scanBound)
    (hq : ∀ (h' : Heap) (tk : Nat) zs, TxtSet P w h' s.heap.objs.size zs → Met ss ss.length zs → (∀ b o, s.heap.get? b = some o → h'.get? b = some o) → Q (.ref s.heap.objs.size) { s with heap := h', toks := tk }) :
    wpAny (model P w) A (call (.type "set") [.ref l]) Q E s := by
  have hn : items.size = ss.length := by
    have q := StrsAre.length hit
    rw [Array.length_toList] at q
    exact q
  refine made (Z := fun s₂ => ∃ h' tk zs, s₂ = { s with heap := h', toks := tk } ∧ TxtSet P w h' s.heap.objs.size zs ∧ Met ss ss.length zs ∧ ∀ b o, s.heap.get? b = some o → h'.get? b = some o) ?_ fun s₂ hz => ?_
  · obtain ⟨ol, hol, hc, nl, hd⟩ := hl
    obtain ⟨ocl, odi, oda, osl⟩ := ol
    simp only at hc hd
    subst hc
    subst hd
    have S0 : (s.heap.push (emp w)).get? s.heap.objs.size = some (emp w) := Heap.get?_push_size _ rfl
    have isS : Shared.TypeIs { s with heap := s.heap.push (emp w) } (.ref s.heap.objs.size) "set" := ⟨_, S0, rfl⟩
    have hol' : (s.heap.push (emp w)).get? l = some { cls := .type "tuple", dict := odi, data := .seq items nl, slots := osl } := Heap.get?_push_of_some _ hol
    have n1 := F.sub_tuple_set
    have n2 := F.sub_tuple_frozenset
    have n3 : (Value.type "tuple" == Value.type "dict") = false := by decide
    have hl1 : (s.heap.push (emp w)).IsTuple l items := ⟨_, hol', rfl, nl, rfl⟩
    unfold Builtin.«set.__init__» noKeywords Builtin.Frozenset.updateFrom
    generalize hPI : pyIter = PI
    wp_walk
    subst hPI
    refine wpAny_pyIter_tuple hl1 (wpAny_bind (wpAny_runValue ?_))
    have lt0 : l < s.heap.objs.size := Heap.lt_size hol
    have hh3 : A.in1.in1.in1.handled = none := by simp [hh]
    have nI : l ≠ (s.heap.push (emp w)).objs.size := by
      rw [Heap.size_push]
      exact Nat.ne_of_lt (Nat.lt_succ_of_lt lt0)
    have nS : s.heap.objs.size ∉ [(s.heap.push (emp w)).objs.size, l] := by
      rw [Heap.size_push]
      simp only [List.mem_cons, List.not_mem_nil, or_false, not_or]
      exact ⟨Nat.ne_of_lt (Nat.lt_succ_self _), Nat.ne_of_gt lt0⟩
    have hv : ∀ (i : Nat) (v : Value), items[i]? = some v → ∃ x t, ss[i]? = some x ∧ v = .str x t := fun i v e => by
      rw [← Array.getElem?_toList] at e
      exact strs_at hit i v e
    refine update (s := { s with heap := (s.heap.push (emp w)).push { cls := .type "tuple_iterator", data := .fields #[.ref l, .int 0 0] } }) ((Walks.tuple hh3 _ l nI items).toS) s.heap.objs.size nS ss hn hb hv
      (fun s0 s' zs mv hz m e0 => ?_) (items.size - 0) 0 _ (by omega) (Nat.zero_le _) ⟨⟨_, Heap.get?_push_size _ rfl, rfl, rfl⟩, hl1.push _⟩ ⟨[], fresh (Heap.get?_push_of_some _ S0), fun y => (by simp), Nat.le_refl 0⟩ (fun _ z => z)
    subst e0
    obtain ⟨h', g2, d', tk', os'⟩ := s'
    obtain rfl : g2 = s.gens := mv.gens
    obtain rfl : d' = s.drawn := mv.drawn
    obtain rfl : os' = s.os := mv.os
    show wpAny _ _ _ _ _ _
    refine wpAny_pure ?_
    show wpAny _ _ (ret Value.none) _ _ _
    rw [hn] at m
    refine wpAny_pure ⟨rfl, h', tk', zs, rfl, hz, m, fun b o e => ?_⟩
    have lb : b < s.heap.objs.size := Heap.lt_size e
    refine mv.heap b o ?_ (Heap.get?_push_of_some _ (Heap.get?_push_of_some _ e))
    simp only [List.mem_cons, List.not_mem_nil, or_false, not_or]
    refine ⟨Nat.ne_of_lt lb, ?_⟩
    rw [Heap.size_push]
    exact Nat.ne_of_lt (Nat.lt_succ_of_lt lb)
  · obtain ⟨h', tk, zs, rfl, hz, m, k⟩ := hz
    exact hq h' tk zs hz m k

set_option maxRecDepth 100000 in
set_option maxHeartbeats 3200000 in
/-- set(xs), xs a list of texts -/
theorem of_list {l : Addr} {items : Array Value} {ss : List Str} {Q : Value → Shared → Prop} (hh : A.handled = none) (hl : s.heap.IsList l items) (hit : StrsAre items.toList ss) (hb : ss.length + 1 < scanBound)
    (hq : ∀ (h' : Heap) (tk : Nat) zs, TxtSet P w h' s.heap.objs.size zs → Met ss ss.length zs → (∀ b o, s.heap.get? b = some o → h'.get? b = some o) → Q (.ref s.heap.objs.size) { s with heap := h', toks := tk }) :
    wpAny (model P w) A (call (.type "set") [.ref l]) Q E s := by
  have hn : items.size = ss.length := by
    have q := StrsAre.length hit
    rw [Array.length_toList] at q
    exact q
  refine made (Z := fun s₂ => ∃ h' tk zs, s₂ = { s with heap := h', toks := tk } ∧ TxtSet P w h' s.heap.objs.size zs ∧ Met ss ss.length zs ∧ ∀ b o, s.heap.get? b = some o → h'.get? b = some o) ?_ fun s₂ hz => ?_
  · obtain ⟨ol, hol, hc, nl, hd⟩ := hl
    obtain ⟨ocl, odi, oda, osl⟩ := ol
    simp only at hc hd
    subst hc
    subst hd
    have S0 : (s.heap.push (emp w)).get? s.heap.objs.size = some (emp w) := Heap.get?_push_size _ rfl
    have isS : Shared.TypeIs { s with heap := s.heap.push (emp w) } (.ref s.heap.objs.size) "set" := ⟨_, S0, rfl⟩
    have hol' : (s.heap.push (emp w)).get? l = some { cls := .type "list", dict := odi, data := .seq items nl, slots := osl } := Heap.get?_push_of_some _ hol
    have n1 := F.sub_list_set
    have n2 := F.sub_list_frozenset
    have n3 : (Value.type "list" == Value.type "dict") = false := by decide
    have hl1 : (s.heap.push (emp w)).IsList l items := ⟨_, hol', rfl, nl, rfl⟩
    unfold Builtin.«set.__init__» noKeywords Builtin.Frozenset.updateFrom
    generalize hPI : pyIter = PI
    wp_walk
    subst hPI
    refine wpAny_pyIter_list hl1 (wpAny_bind (wpAny_runValue ?_))
    have lt0 : l < s.heap.objs.size := Heap.lt_size hol
    have hh3 : A.in1.in1.in1.handled = none := by simp [hh]
    have nI : l ≠ (s.heap.push (emp w)).objs.size := by
      rw [Heap.size_push]
      exact Nat.ne_of_lt (Nat.lt_succ_of_lt lt0)
    have nS : s.heap.objs.size ∉ [(s.heap.push (emp w)).objs.size, l] := by
      rw [Heap.size_push]
      simp only [List.mem_cons, List.not_mem_nil, or_false, not_or]
      exact ⟨Nat.ne_of_lt (Nat.lt_succ_self _), Nat.ne_of_gt lt0⟩
    have hv : ∀ (i : Nat) (v : Value), items[i]? = some v → ∃ x t, ss[i]? = some x ∧ v = .str x t := fun i v e => by
      rw [← Array.getElem?_toList] at e
      exact strs_at hit i v e
    refine update (s := { s with heap := (s.heap.push (emp w)).push { cls := .type "list_iterator", data := .fields #[.ref l, .int 0 0] } }) ((Walks.list hh3 _ l nI items).toS) s.heap.objs.size nS ss hn hb hv
      (fun s0 s' zs mv hz m e0 => ?_) (items.size - 0) 0 _ (by omega) (Nat.zero_le _) ⟨⟨_, Heap.get?_push_size _ rfl, rfl, rfl⟩, hl1.push _⟩ ⟨[], fresh (Heap.get?_push_of_some _ S0), fun y => (by simp), Nat.le_refl 0⟩ (fun _ z => z)
    subst e0
    obtain ⟨h', g2, d', tk', os'⟩ := s'
    obtain rfl : g2 = s.gens := mv.gens
    obtain rfl : d' = s.drawn := mv.drawn
    obtain rfl : os' = s.os := mv.os
    show wpAny _ _ _ _ _ _
    refine wpAny_pure ?_
    show wpAny _ _ (ret Value.none) _ _ _
    rw [hn] at m
    refine wpAny_pure ⟨rfl, h', tk', zs, rfl, hz, m, fun b o e => ?_⟩
    have lb : b < s.heap.objs.size := Heap.lt_size e
    refine mv.heap b o ?_ (Heap.get?_push_of_some _ (Heap.get?_push_of_some _ e))
    simp only [List.mem_cons, List.not_mem_nil, or_false, not_or]
    refine ⟨Nat.ne_of_lt lb, ?_⟩
    rw [Heap.size_push]
    exact Nat.ne_of_lt (Nat.lt_succ_of_lt lb)
  · obtain ⟨h', tk, zs, rfl, hz, m, k⟩ := hz
    exact hq h' tk zs hz m k
end
end SetS
namespace SetS
open PySem PySem.Spec PyProof.Rows L2
section
variable {P : Program} {w : World} {A : Around} {E : Value → Shared → Prop} {s : Shared} {a : Addr} {zs : List Str}
/-- sorted(set) -/
theorem sorted_ {Q : Value → Shared → Prop} (R : TxtSet P w s.heap a zs) (hh : A.handled = none)
    (hq : ∀ s' p (out : Array Value) (c : Nat) ys, (∀ b o, s.heap.get? b = some o → s'.heap.get? b = some o) → s'.gens = s.gens → s'.os = s.os → s.heap.objs.size ≤ p → s'.heap.get? p = some (seqObj "list" out c) →
      StrsAre out.toList ys → ys.Perm zs → sortedS ys = true → Q (.ref p) s') : wpAny (model P w) A (call (.builtin "sorted") [.ref a]) Q E s := by
  obtain ⟨o, es, ep, t, ⟨ho, hex, hd⟩, ⟨g, rfl, nd⟩, hb, hf, hr, hl⟩ := R
  refine Calls.call_function_entry kind_sorted plain_sorted entry_sorted (args_sorted1 _) ?_
  unfold Builtin.«sorted»
  refine wpAny_bind (m := checkCount "sorted" 1 1 _) (wpAny_pure ?_)
  refine wpAny_bind (collect_set (A := A.in1) hh ⟨o, ho, hex.1, hd⟩ hf hb hr hl fun s1 vs k1 z1 g1 o1 pm => ?_)
  have all : ∀ v, v ∈ vs → ∃ x t, v = Value.str x t := fun v hv => by
    obtain ⟨e, he, q⟩ := List.mem_map.mp (pm.mem_iff.mp hv)
    obtain ⟨x, t, h1, _⟩ := g e he
    exact ⟨x, t, by rw [← q]; exact h1⟩
  have sv := strsAre_map vs all
  have pz : (vs.map strOf).Perm (es.toList.map txt) := by
    have q := pm.map strOf
    rw [List.map_map] at q
    refine q.trans (List.Perm.of_eq (List.map_congr_left fun e he => ?_))
    obtain ⟨x, t, h1, _⟩ := g e he
    show strOf e.2 = txt e
    unfold txt
    rw [h1]
    rfl
  have vl : vs.length ≤ sizeLine := by
    rw [pm.length_eq, List.length_map, Array.length_toList]
    exact fits_of_scanBound hb
  refine wpAny_bind (wpAny_newList ?_ vl)
  have oL : (s1.heap.push (seqObj "list" vs.toArray 0)).get? s1.heap.objs.size = some (seqObj "list" vs.toArray 0) := Heap.get?_push_size _ rfl
  refine wpAny_bind (wpAny_holding (wpAny_call_entry slot_list_sort ⟨_, oL, rfl⟩ entry_list_sort
    (list_sort_treeKAny strKind_oneLt oL sv.keysOf (fun v₁ v₂ rest e => keyKind_strs (by rw [← e]; exact sv)) vl fun st hp hs => ⟨_, rfl, ?_⟩) (args_list_sort _)))
  obtain ⟨ys, y1, y2, y3⟩ := sorted_out_str sv hp hs
  obtain ⟨c, hc⟩ := sortedHeap_at (vs := vs) (out := (arrOf st).map (·.2)) oL
  refine wpAny_pure ⟨_, rfl, hq _ s1.heap.objs.size _ c ys (fun b u e => ?_) g1 o1 z1 hc y1 (y2.trans pz) y3⟩
  have q := k1 b u e
  have lt := Heap.lt_size q
  show (sortedHeap (s1.heap.push (seqObj "list" vs.toArray 0)) s1.heap.objs.size vs _).get? b = some u
  rw [sortedHeap_old (Nat.ne_of_lt lt) (by rw [size_push']; exact Nat.lt_succ_of_lt lt)]
  exact Heap.get?_push_of_some _ q
end
/-! ### over the layer -/
def TxtO (P : Program) (w : World) (a : Addr) (zs : List Str) : HO := .ext fun h => TxtSet P w h a zs
theorem txtO_new {P : Program} {w : World} {H : Hp} {h : Heap} {a : Addr} {zs : List Str} (R : TxtSet P w h a zs) : ObjOk P w H h a (TxtO P w a zs) := by
  have ⟨o, es, ep, t, ⟨ho, q⟩, r⟩ := R
  refine ⟨R, ⟨o, ho⟩, fun h1 h2 p k => ?_⟩
  exact TxtSet.kept (show TxtSet P w h1 a zs from p) k
section
variable {X : Cx}
theorem strsAre_vals : ∀ {ss : List Str} {us : List Value}, Vals (ss.map V.str) us → StrsAre us ss
  | [], _, .nil => .nil
  | x :: ss, _, .cons r t => by
    obtain ⟨tk, rfl⟩ := r
    exact .cons x tk (strsAre_vals t)
/-- set(xs), xs texts -/
def rSetS (K : PySem.W.Frag) (P : Program) (w : World) : List V → Hp → VK → Prop := fun xs H Q => ∃ (l : Addr) (ss : List Str), xs = [V.ref l] ∧ (SqL K H l (ss.map V.str) ∨ SqT K H l (ss.map V.str)) ∧ ss.length ≤ 1000 ∧
  ∀ a zs, H a = none → zs.Nodup → (∀ y, y ∈ zs ↔ y ∈ ss) → zs.length ≤ ss.length → Q (.ref a) (upd H a (TxtO P w a zs))
theorem nd_of {P : Program} {w : World} {h : Heap} {a : Addr} {zs : List Str} (R : TxtSet P w h a zs) : zs.Nodup := by
  obtain ⟨_, _, _, _, _, ⟨_, _, nd⟩, _⟩ := R
  exact nd
theorem cr_setS (hc : X.calm = true) : CallR X (.type "set") (rSetS X.K X.prog X.w) := by
  intro pins s σ H xs us Q I r h
  obtain ⟨l, ss, rfl, hl, hf, q⟩ := h
  rw [Vals.ref1 r]
  have hb : ss.length + 1 < scanBound := by unfold scanBound; omega
  have hn : H s.heap.objs.size = none := I.hok.fresh (Nat.le_refl _)
  have go : ∀ (h' : Heap) (tk : Nat) zs, TxtSet X.prog X.w h' s.heap.objs.size zs → Met ss ss.length zs → (∀ b o, s.heap.get? b = some o → h'.get? b = some o) →
      EP X pins σ Q (.ref s.heap.objs.size) { s with heap := h', toks := tk } := fun h' tk zs R m k => by
    refine ⟨.ref s.heap.objs.size, upd H s.heap.objs.size (TxtO X.prog X.w s.heap.objs.size zs), I.laid (t' := tk) k (Nat.le_refl _) (txtO_new R), rfl, q _ zs hn (nd_of R) (fun y => ?_) m.2⟩
    rw [m.1 y, List.take_length]
  rcases hl with hl | hl
  · obtain ⟨its, rv, pl, hz⟩ := I.list hl
    exact of_list (P := X.prog) (w := X.w) (I.ok.hd hc) pl.isList (by simpa using strsAre_vals rv) hb go
  · obtain ⟨its, rv, pl, hz⟩ := I.tuple hl
    exact of_tuple (P := X.prog) (w := X.w) (I.ok.hd hc) pl (by simpa using strsAre_vals rv) hb go
/-- sorted(set of texts) -/
def rSortedSS (P : Program) (w : World) : List V → Hp → VK → Prop := fun vs H Q => ∃ (a : Addr) (zs : List Str), vs = [V.ref a] ∧ H a = some (TxtO P w a zs) ∧ zs.length ≤ 1000 ∧
  ∀ ys p, ys.Perm zs → sortedS ys = true → H p = none → Q (.ref p) (upd H p (.lst (ys.map V.str)))
theorem cr_sortedSS (hc : X.calm = true) : CallR X (.builtin "sorted") (rSortedSS X.prog X.w) := by
  intro pins s σ H vs us Q I r h
  obtain ⟨a, zs, rfl, ha, hz, q⟩ := h
  have R : TxtSet X.prog X.w s.heap a zs := (I.hok a _ ha).1
  rw [Vals.ref1 r]
  refine sorted_ R (I.ok.hd hc) fun s' p out c ys k g o hp hg hy pm so => ?_
  have hlen : (ys.map V.str).length ≤ sizeLine := by rw [List.length_map, pm.length_eq, sizeLine_eq]; omega
  have hn : H p = none := I.hok.fresh hp
  have J : Inv X pins σ (upd H p (.lst (ys.map V.str))) { s with heap := s'.heap, gens := s'.gens, drawn := s'.drawn, toks := s'.toks } :=
    I.call (ch := []) (Un.laid k hp hn) (I.hok.laid k hp ⟨hlen, out.toList, c, vals_of_strs hy, hg⟩) (by rw [g]; exact I.bare) (fun _ z => nomatch z)
  have e : s' = { s with heap := s'.heap, gens := s'.gens, drawn := s'.drawn, toks := s'.toks } := by
    cases s'
    cases s
    cases o
    rfl
  rw [e]
  exact ⟨.ref p, _, J, rfl, q ys p pm so hn⟩
end
end SetS
namespace Sc
open PySem PySem.Spec PyProof.Rows L2
theorem sc_Book_names : FnScope ["self", "rule"] ["self"] (defScope s_Book_names) := ⟨rfl, rfl, rfl, by decide +kernel, rfl, by decide +kernel, by decide +kernel⟩
theorem sc_Book___len__ : FnScope ["self"] ["self"] (defScope s_Book___len__) := ⟨rfl, rfl, rfl, by decide +kernel, rfl, by decide +kernel, by decide +kernel⟩
theorem sc_Rule___len__ : FnScope ["self"] ["self"] (defScope s_Rule___len__) := ⟨rfl, rfl, rfl, by decide +kernel, rfl, by decide +kernel, by decide +kernel⟩
section
variable {P : Program} {w : World} {K : PySem.W.Frag} {mg : Str → Option Value} {base : Heap} {C R B : Addr}
def sp_bnames (K : PySem.W.Frag) (C R B : Addr) : Sp := fun vs H Q _ => ∃ (N : Addr → Prop) (o : Addr) (xs : List Str) (f : RF) (rl : Str), vs = [.ref o] ∧ BookAt K C R B N H o xs f rl ∧ f.size ≤ 900 ∧ ∀ H' D, Same H H' → H' D = some (.lst (f.names.map V.str)) → Q (.ref D) H'
theorem names_map (f : RF) : ((f.pre 0).map fun q => q.1).map (fun n => n.nm) = f.names := by rw [← RF.pre_names _ 0, List.map_map]; rfl
theorem ok_bnames {f : Addr} {fd : FuncData} (F : Fun K "names" "Book.names" s_Book_names f fd) (Bl : Blt mg) (T : Cls K B) (n4 : NoAttr K B "_numbered") (kR : RuleX P w K mg base R) : FnOk P w K mg base CX0 3 f fd ["self"] (sp_bnames K C R B) := by
  refine F.ok sc_Book_names (fun vs H Q E h => by obtain ⟨N, o, xs, f, rl, rfl, _⟩ := h; rfl) (fun cdv A outer s H vs Q E hr h => ?_)
  obtain ⟨N, o, xs, f, rl, rfl, ⟨dx, a, p, l, ws, us, ho, hS, hP, hF, ⟨nl, hl⟩, hus⟩, hz, q⟩ := h
  have hlen := hus.len
  rw [List.length_map, RF.pre_len] at hlen
  refine ⟨_, (pss_one (ps_ret (pe_lc (own := [("rule", 1)]) (g := gName 1) (tt := tYes) rfl sc_Book_names.nd (pi_list (pe_fld (pv 0) rfl)) (blkOk_by (own := [("rule", 1)]) (N := ["self", "rule"]) (sc := defScope s_Book_names) (by decide +kernel)) (fun _ _ _ _ _ => (pg_name (i := 1) sc_Book_names.nd rfl (Or.inl rfl))) (fun _ _ _ _ _ => pts_nil) (fun _ _ _ _ _ => (pe_.re (pe_cprop kR.name kR.cls (hr.mono (by decide)) (pv 1)) (by first | (dsimp only [Cx.blk]; done) | exact rfl)))))), ?_⟩
  refine ⟨_, rfl, o, B, dx, _, _, rfl, ho, T, n4, rfl, l, rfl, ⟨_, sqL_of hl⟩, fun D nD => lc_it walk_list (fun i H' => Same H H' ∧ H' D = some (.lst (((((f.pre 0).map fun q => q.1).take i).map fun n => n.nm).map V.str))) ⟨(Same.refl H).put nD, upd_same⟩ (fun _ _ _ h => sqL_of (h.1 _ _ hl)) ?_ ?_⟩
  · rintro i y H2 H3 hi ⟨s, e⟩ ⟨rfl, hy⟩
    obtain ⟨n, hn, o', rfl, hN⟩ := hus.get hy
    obtain ⟨dx', c', pe', l', ws', ho', _⟩ := hN.keeps (N := N) s.keeps
    refine ⟨rfl, yes_ ⟨_, rfl, o', dx', _, rfl, ho', o', dx', _, _, rfl, ho', rfl, _, e, ?_, s.put nD, ?_⟩⟩
    · rw [List.length_map, List.length_map, List.length_take, List.length_map, RF.pre_len]
      exact small1000 (by omega)
    · rw [upd_same, take_more hn, List.map_append, List.map_append]
      rfl
  rintro H2 ⟨s, e⟩
  rw [hus.len, List.take_length, names_map] at e
  exact q H2 D s e
def sp_blen (K : PySem.W.Frag) (C R B : Addr) : Sp := fun vs H Q _ => ∃ (N : Addr → Prop) (o : Addr) (xs : List Str) (f : RF) (rl : Str), vs = [.ref o] ∧ BookAt K C R B N H o xs f rl ∧ Q (.int f.size) H
theorem ok_blen {f : Addr} {fd : FuncData} (F : Fun K "__len__" "Book.__len__" s_Book___len__ f fd) (Bl : Blt mg) (T : Cls K B) (n4 : NoAttr K B "_numbered") : FnOk P w K mg base CX0 1 f fd ["self"] (sp_blen K C R B) := by
  refine F.ok sc_Book___len__ (fun vs H Q E h => by obtain ⟨N, o, xs, f, rl, rfl, _⟩ := h; rfl) (fun cdv A outer s H vs Q E hr h => ?_)
  obtain ⟨N, o, xs, f, rl, rfl, ⟨dx, a, p, l, ws, us, ho, hS, hP, hF, ⟨nl, hl⟩, hus⟩, q⟩ := h
  have hlen := hus.len
  rw [List.length_map, RF.pre_len] at hlen
  refine ⟨_, (pss_one (ps_ret (pe_callB call_len_seq (by rfl) Bl.b_len PySem.boot_len (pa_cons (pe_fld (pv 0) rfl) pa_nil)))), ?_⟩
  exact ⟨_, rfl, o, B, dx, _, _, rfl, ho, T, n4, rfl, l, us, rfl, .inl (sqL_of hl), by rw [hlen]; exact q⟩
def sp_rlen (K : PySem.W.Frag) (C R : Addr) : Sp := fun vs H Q _ => ∃ (N : Addr → Prop) (o : Addr) (n : Nd), vs = [.ref o] ∧ NdAt K C R N H o n ∧ Q (.int ((n.exc.size + 1 : Nat) : Int)) H
theorem ok_rlen {f : Addr} {fd : FuncData} (F : Fun K "__len__" "Rule.__len__" s_Rule___len__ f fd) (Bl : Blt mg) (T : Cls K R) (n6 : NoAttr K R "_inside") : FnOk P w K mg base CX0 1 f fd ["self"] (sp_rlen K C R) := by
  refine F.ok sc_Rule___len__ (fun vs H Q E h => by obtain ⟨N, o, n, rfl, _⟩ := h; rfl) (fun cdv A outer s H vs Q E hr h => ?_)
  obtain ⟨N, o, n, rfl, ⟨dx, c, p, l, ws, ho, hc, hp, ⟨nl, hl⟩, hfa⟩, q⟩ := h
  have hlen : ((n.nm :: n.exc.names).map V.str).length = n.exc.size + 1 := by rw [List.length_map, List.length_cons, ← RF.pre_names _ 0, List.length_map, RF.pre_len]
  refine ⟨_, (pss_one (ps_ret (pe_callB call_len_seq (by rfl) Bl.b_len PySem.boot_len (pa_cons (pe_fld (pv 0) rfl) pa_nil)))), ?_⟩
  exact ⟨_, rfl, o, R, dx, _, _, rfl, ho, T, n6, rfl, l, _, rfl, .inl (sqL_of hl), by rw [hlen]; exact q⟩
end
end Sc
/-! what takes an amendment back -/
namespace Sc
open PySem PySem.Spec PyProof.Rows L2
namespace RF
theorem upd_cons {nm n : Str} {G : Nd → RF → RF} {hs fs : List Str} {rl : Str} {exc rest : RF} : upd nm G (.cons n hs fs rl exc rest) = if n = nm then G ⟨n, hs, fs, rl, exc⟩ rest else .cons n hs fs rl (upd nm G exc) (upd nm G rest) := rfl
theorem mem_cons3 {x n : Str} {hs fs : List Str} {rl : Str} {exc rest : RF} : x ∈ (RF.cons n hs fs rl exc rest).names ↔ x = n ∨ x ∈ exc.names ∨ x ∈ rest.names := by
  rw [names_cons, List.mem_cons, List.mem_append]
/-- a rule in the place of one of the same name, and that one again -/
theorem back_one {nm : Str} {G G' : Nd → RF → RF} {n0 n1 : Nd} (e1 : n1.nm = nm) (g : ∀ rest, G n0 rest = put [n1] rest) (g' : ∀ rest, G' n1 rest = put [n0] rest) : ∀ {f : RF}, f.names.Nodup → (nm ∈ f.names → f.find nm = some n0) → upd nm G' (upd nm G f) = f
  | .nil, _, _ => rfl
  | .cons n hs fs rl exc rest, h, hf => by
    obtain ⟨h1, h2, h3, h4, h5⟩ := nodup_cons h
    rw [find_cons] at hf
    rw [upd_cons]
    by_cases e : n = nm
    · rw [if_pos e] at hf ⊢
      have hf := Option.some.inj (hf (mem_cons3.mpr (.inl e.symm)))
      subst hf
      rw [g]
      show (if n1.nm = nm then G' _ rest else _) = _
      rw [if_pos e1]
      exact g' rest
    · rw [if_neg e] at hf ⊢
      rw [upd_cons, if_neg e]
      have hx : nm ∈ exc.names → exc.find nm = some n0 := fun z => by
        have := hf (mem_cons3.mpr (.inr (.inl z)))
        rw [find_none (h5 _ z), Option.or_none] at this
        exact this
      have hr : nm ∈ rest.names → rest.find nm = some n0 := fun z => by
        have := hf (mem_cons3.mpr (.inr (.inr z)))
        rw [find_none (fun y => h5 _ y z), Option.none_or] at this
        exact this
      rw [back_one e1 g g' h3 hx, back_one e1 g g' h4 hr]
/-- a rule that is not there, put last, and struck -/
theorem strike_snoc {m : Nd} : ∀ {f : RF}, ¬ m.nm ∈ f.names → upd m.nm (fun _ rest => rest) (f.snoc m) = f
  | .nil, _ => by
    show (if m.nm = m.nm then RF.nil else _) = _
    rw [if_pos rfl]
  | .cons n hs fs rl exc rest, h => by
    have hn : ¬ n = m.nm := fun z => h (mem_cons3.mpr (.inl z.symm))
    have he : ¬ m.nm ∈ exc.names := fun z => h (mem_cons3.mpr (.inr (.inl z)))
    show (if n = m.nm then _ else RF.cons n hs fs rl (upd m.nm _ exc) (upd m.nm _ (rest.snoc m))) = _
    rw [if_neg hn, upd_no he, strike_snoc fun z => h (mem_cons3.mpr (.inr (.inr z)))]
/-- a rule that is not there, put ahead of one, and struck -/
theorem strike_before {nm : Str} {m : Nd} : ∀ {f : RF}, f.names.Nodup → ¬ m.nm ∈ f.names → upd m.nm (fun _ rest => rest) (upd nm (fun n rest => put [m, n] rest) f) = f
  | .nil, _, _ => rfl
  | .cons n hs fs rl exc rest, h, hm => by
    obtain ⟨h1, h2, h3, h4, h5⟩ := nodup_cons h
    have hn : ¬ n = m.nm := fun z => hm (mem_cons3.mpr (.inl z.symm))
    rw [upd_cons]
    by_cases e : n = nm
    · rw [if_pos e]
      show (if m.nm = m.nm then RF.cons n hs fs rl exc rest else _) = _
      rw [if_pos rfl]
    · rw [if_neg e, upd_cons, if_neg hn, strike_before h3 (fun z => hm (mem_cons3.mpr (.inr (.inl z)))), strike_before h4 (fun z => hm (mem_cons3.mpr (.inr (.inr z))))]
/-- a rule that is not there, added within one, and struck -/
theorem strike_add {nm : Str} {m : Nd} : ∀ {f : RF}, f.names.Nodup → ¬ m.nm ∈ f.names → upd m.nm (fun _ rest => rest) (upd nm (fun n rest => put [n.wE (n.exc.snoc m)] rest) f) = f
  | .nil, _, _ => rfl
  | .cons n hs fs rl exc rest, h, hm => by
    obtain ⟨h1, h2, h3, h4, h5⟩ := nodup_cons h
    have hn : ¬ n = m.nm := fun z => hm (mem_cons3.mpr (.inl z.symm))
    have he : ¬ m.nm ∈ exc.names := fun z => hm (mem_cons3.mpr (.inr (.inl z)))
    have hr : ¬ m.nm ∈ rest.names := fun z => hm (mem_cons3.mpr (.inr (.inr z)))
    rw [upd_cons]
    by_cases e : n = nm
    · rw [if_pos e]
      show (if n = m.nm then _ else RF.cons n hs fs rl (upd m.nm _ (exc.snoc m)) (upd m.nm _ rest)) = _
      rw [if_neg hn, strike_snoc he, upd_no hr]
    · rw [if_neg e, upd_cons, if_neg hn, strike_add h3 he, strike_add h4 hr]
/-- two that changed places, back again -/
theorem swap_back {nm : Str} {b : Nd} : ∀ {f : RF}, f.names.Nodup → nm ∈ f.names → nxt nm f = some b → upd b.nm swapG (upd nm swapG f) = f ∧ nxt b.nm (upd nm swapG f) ≠ none
  | .nil, _, h, _ => nomatch h
  | .cons n hs fs rl exc rest, h, hm, hx => by
    obtain ⟨h1, h2, h3, h4, h5⟩ := nodup_cons h
    unfold nxt at hx
    rw [upd_cons]
    by_cases e : n = nm
    · rw [if_pos e] at hx ⊢
      cases rest with
      | nil => exact nomatch hx
      | cons a g c d ex r =>
        cases hx
        show (if a = a then swapG _ _ else _) = _ ∧ (if a = a then (RF.cons n hs fs rl exc r).nodes.head? else _) ≠ none
        rw [if_pos rfl, if_pos rfl]
        exact ⟨rfl, fun z => nomatch z⟩
    · rw [if_neg e] at hx ⊢
      by_cases c : nm ∈ exc.names
      · rw [if_pos c] at hx
        have hb := nxt_mem hx
        have nb : ¬ n = b.nm := fun z => h1 (by rw [z]; exact hb)
        have nr : ¬ b.nm ∈ rest.names := h5 _ hb
        have nr2 : ¬ nm ∈ rest.names := h5 _ c
        obtain ⟨i1, i2⟩ := swap_back h3 c hx
        rw [upd_no (G := swapG) nr2, upd_cons, if_neg nb, i1, upd_no nr]
        refine ⟨rfl, ?_⟩
        show (if n = b.nm then _ else if b.nm ∈ (upd nm swapG exc).names then nxt b.nm (upd nm swapG exc) else _) ≠ none
        rw [if_neg nb]
        by_cases c2 : b.nm ∈ (upd nm swapG exc).names
        · rw [if_pos c2]; exact i2
        · exfalso
          rw [upd_no c2] at i1
          exact c2 (by rw [i1]; exact hb)
      · rw [if_neg c] at hx
        have hb := nxt_mem hx
        have nb : ¬ n = b.nm := fun z => h2 (by rw [z]; exact hb)
        have ne : ¬ b.nm ∈ exc.names := fun z => h5 _ z hb
        have hr : nm ∈ rest.names := by
          rcases mem_cons3.mp hm with z | z | z
          · exact absurd z.symm e
          · exact absurd z c
          · exact z
        obtain ⟨i1, i2⟩ := swap_back h4 hr hx
        rw [upd_no (G := swapG) c, upd_cons, if_neg nb, i1, upd_no ne]
        refine ⟨rfl, ?_⟩
        show (if n = b.nm then _ else if b.nm ∈ exc.names then _ else nxt b.nm (upd nm swapG rest)) ≠ none
        rw [if_neg nb, if_neg ne]
        exact i2
/-- the rules without one -/
abbrev strk (nm : Str) (f : RF) : RF := upd nm (fun _ rest => rest) f
theorem strk_names {nm : Str} : ∀ {f : RF}, ∀ x ∈ (strk nm f).names, x ∈ f.names
  | .nil, x, h => h
  | .cons n hs fs rl exc rest, x, h => by
    unfold strk at h
    rw [upd_cons] at h
    by_cases e : n = nm
    · rw [if_pos e] at h
      exact mem_cons3.mpr (.inr (.inr h))
    · rw [if_neg e] at h
      rcases mem_cons3.mp h with z | z | z
      · exact mem_cons3.mpr (.inl z)
      · exact mem_cons3.mpr (.inr (.inl (strk_names x z)))
      · exact mem_cons3.mpr (.inr (.inr (strk_names x z)))
/-- a struck rule comes back ahead of the one that stood behind it, or last within the one around it, or last of all -/
theorem strike_back {nm : Str} {n0 : Nd} : ∀ {f : RF}, f.names.Nodup → nm ∈ f.names → f.find nm = some n0 →
    (∃ x ∈ (strk nm f).names, upd x (fun n rest => put [n0, n] rest) (strk nm f) = f) ∨ (∃ x ∈ (strk nm f).names, upd x (fun n rest => put [n.wE (n.exc.snoc n0)] rest) (strk nm f) = f) ∨ (strk nm f).snoc n0 = f
  | .nil, _, h, _ => nomatch h
  | .cons n hs fs rl exc rest, h, hm, hf => by
    obtain ⟨h1, h2, h3, h4, h5⟩ := nodup_cons h
    rw [find_cons] at hf
    unfold strk
    rw [upd_cons]
    by_cases e : n = nm
    · rw [if_pos e] at hf ⊢
      cases hf
      cases rest with
      | nil => exact .inr (.inr rfl)
      | cons a g c d ex r =>
        refine .inl ⟨a, mem_cons3.mpr (.inl rfl), ?_⟩
        rw [upd_cons, if_pos rfl]
        rfl
    · rw [if_neg e] at hf ⊢
      by_cases c : nm ∈ exc.names
      · have nr : ¬ nm ∈ rest.names := h5 _ c
        rw [find_none nr, Option.or_none] at hf
        rw [upd_no nr]
        have nx : ∀ x ∈ (strk nm exc).names, ¬ n = x ∧ ¬ x ∈ rest.names := fun x hx => ⟨fun z => h1 (by rw [z]; exact strk_names x hx), h5 _ (strk_names x hx)⟩
        rcases strike_back h3 c hf with ⟨x, hx, i⟩ | ⟨x, hx, i⟩ | i
        · obtain ⟨a1, a2⟩ := nx x hx
          exact .inl ⟨x, mem_cons3.mpr (.inr (.inl hx)), by rw [upd_cons, if_neg a1, i, upd_no a2]⟩
        · obtain ⟨a1, a2⟩ := nx x hx
          exact .inr (.inl ⟨x, mem_cons3.mpr (.inr (.inl hx)), by rw [upd_cons, if_neg a1, i, upd_no a2]⟩)
        · refine .inr (.inl ⟨n, mem_cons3.mpr (.inl rfl), ?_⟩)
          rw [upd_cons, if_pos rfl]
          show RF.cons n hs fs rl ((strk nm exc).snoc n0) rest = _
          rw [i]
      · have hr : nm ∈ rest.names := by
          rcases mem_cons3.mp hm with z | z | z
          · exact absurd z.symm e
          · exact absurd z c
          · exact z
        rw [find_none c, Option.none_or] at hf
        rw [upd_no c]
        have nx : ∀ x ∈ (strk nm rest).names, ¬ n = x ∧ ¬ x ∈ exc.names := fun x hx => ⟨fun z => h2 (by rw [z]; exact strk_names x hx), fun z => h5 _ z (strk_names x hx)⟩
        rcases strike_back h4 hr hf with ⟨x, hx, i⟩ | ⟨x, hx, i⟩ | i
        · obtain ⟨a1, a2⟩ := nx x hx
          exact .inl ⟨x, mem_cons3.mpr (.inr (.inr hx)), by rw [upd_cons, if_neg a1, i, upd_no a2]⟩
        · obtain ⟨a1, a2⟩ := nx x hx
          exact .inr (.inl ⟨x, mem_cons3.mpr (.inr (.inr hx)), by rw [upd_cons, if_neg a1, i, upd_no a2]⟩)
        · refine .inr (.inr ?_)
          show RF.cons n hs fs rl exc ((strk nm rest).snoc n0) = _
          rw [i]
end RF
end Sc
namespace Sc
open PySem PySem.Spec PyProof.Rows L2
theorem sc__law_backs : FnScope ["_law_book_here", "_law_later", "_law_amendment_here", "_law_word", "_law_name", "_law_rows", "_law_other"] ["_law_book_here", "_law_later", "_law_amendment_here"] (defScope s__law_backs) := ⟨rfl, rfl, rfl, by decide +kernel, rfl, by decide +kernel, by decide +kernel⟩
/-- a property of a class that is worked out -/
def PropM (P : Program) (w : World) (K : PySem.W.Frag) (mg : Str → Option Value) (base : Heap) (C : Addr) (n : Str) (k : Nat) (sp : Sp) : Prop := ∃ p g fd, PropOf K C n p g ∧ FnOk P w K mg base CX0 k g fd ["self"] sp ∧ Binds K fd ["self"] []
section
variable {X : Cx} {k : Nat} {C : Addr} {ps : List Str} {sp : Sp}
theorem pe_propM {n : Str} {ta : TE} {e : Expr} {pos : Pos} (M : PropM X.prog X.w X.K X.mg X.base C n k sp) (hr : Room (k + 1) X.A) (c : Cls X.K C) (he : PE X e ta) (hab : attributeBase e n X.env (eval e X.env) = eval e X.env := by rfl) : PE X (.Attribute e n pos) (tProp C sp [] E0 ta) := by
  obtain ⟨p, g, fd, h1, h2, h3⟩ := M
  exact pe_prop he c h1 h2 hr h3 .nil pass0 hab
theorem pe_ixN {a b : Expr} {pos : Pos} {ta tb : TE} (M : MethO X.prog X.w X.K X.mg X.base (L2.CX X.prog X.w) k C "__getitem__" ps sp) (hr : Room (k + 1) X.A) (ha : PE X a ta) (hb : PE X b tb)
    (hsl : ∀ v u, subscripted b true v u = runValue (.builtin "lifetime.subscript" ⟨[v, u], []⟩)) : PE X (.Subscript a b pos) (tOp (rIxO C sp E0) ta tb) := by
  obtain ⟨g, fd, h1, h2, h3, F, hbd⟩ := M.ex
  exact pe_ixO h1 h3 h2 F hr hbd passL ha hb hsl
end
/-- what may take an amendment back -/
def Am.backs (f : RF) (rl : Str) (f' : RF) (n0 : Nd) : Am → List Am
  | .rul0 _ => [.rul0 rl]
  | .add0 m => [.rule m.nm .strike]
  | .rule nm (.ruling _) => [.rule nm (.ruling n0.rl)]
  | .rule nm (.cond _ _) => [.rule nm (.cond n0.hs n0.fs)]
  | .rule _ .swap => f'.names.map fun x => .rule x .swap
  | .rule _ (.before m) => [.rule m.nm .strike]
  | .rule _ (.add m) => [.rule m.nm .strike]
  | .rule _ .strike => (f'.names.map fun x => .rule x (.before n0)) ++ ((f'.names.map fun x => .rule x (.add n0)) ++ [.add0 n0])
/-- a row of texts and values that begins with a word and an item -/
def RowW (K : PySem.W.Frag) (H : Hp) (w : Str) (tail : List V) (v x : V) : Prop := ∃ t : Addr, v = .ref t ∧ SqT K H t (.str w :: x :: tail)
theorem RowW.keeps {K : PySem.W.Frag} {N : Addr → Prop} {H H' : Hp} {w : Str} {tail : List V} {v x : V} (h : RowW K H w tail v x) (k : Keeps N H H') : RowW K H' w tail v x := by
  obtain ⟨t, e, h⟩ := h
  exact ⟨t, e, k.tup h⟩
theorem str_at {xs : List Str} {i : Nat} {v : V} (h : (xs.map V.str)[i]? = some v) : ∃ x, xs[i]? = some x ∧ v = .str x := by
  rw [List.getElem?_map] at h
  cases e : xs[i]? with
  | none => rw [e] at h; cases h
  | some x => rw [e] at h; exact ⟨x, rfl, (Option.some.inj h).symm⟩
theorem rows_map {K : PySem.W.Frag} {C R : Addr} {N : Addr → Prop} {H : Hp} {w : Str} {tail : List V} {g : Str → Am} : ∀ {ns : List Str} {acc : List V}, All2 (RowW K H w tail) acc (ns.map V.str) → (∀ v x, RowW K H w tail v (.str x) → RealAt K C R N H v (g x)) → All2 (RealAt K C R N H) acc (ns.map g)
  | [], _, h, _ => by
    cases h
    exact .nil
  | x :: r, _, h, k => by
    cases h with
    | cons a b => exact .cons (k _ _ a) (rows_map b k)
/-- one row more -/
theorem row_put {K : PySem.W.Frag} {H2 H4 : Hp} {D3 t2 : Addr} {acc ns : List V} {w : Str} {tail : List V} {x : V} {Nx : Hp → Prop} (n3 : H2 D3 = none) (s4 : Same H2 H4) (e4 : H4 D3 = some (.lst acc)) (h : All2 (RowW K H4 w tail) acc ns) (n2 : H4 t2 = none) (hz : acc.length < sizeLine)
    (q : ∀ H6 acc', Same H2 H6 → H6 D3 = some (.lst acc') → All2 (RowW K H6 w tail) acc' (ns ++ [x]) → Nx H6) : ∃ acc', (upd H4 t2 (.tup (.str w :: x :: tail))) D3 = some (.lst acc') ∧ acc'.length < sizeLine ∧ Nx (upd (upd H4 t2 (.tup (.str w :: x :: tail))) D3 (.lst (acc' ++ [.ref t2]))) := by
  have s5 : Same H4 (upd H4 t2 (.tup (.str w :: x :: tail))) := (Same.refl H4).put n2
  have m5 : (upd H4 t2 (.tup (.str w :: x :: tail))) t2 = some (.tup (.str w :: x :: tail)) := upd_same
  generalize upd H4 t2 (.tup (.str w :: x :: tail)) = H5 at s5 m5 ⊢
  have e5 := s5 _ _ e4
  have kw : Keeps NoL H5 (upd H5 D3 (.lst (acc ++ [.ref t2]))) := keeps_own e5 id
  refine ⟨acc, e5, hz, q _ _ ((s4.trans s5).put n3) upd_same ?_⟩
  exact ((h.mono fun _ _ y => y.keeps (N := NoL) s5.keeps).snoc ⟨t2, rfl, sqT_of m5⟩).mono fun _ _ y => y.keeps kw
/-- the lists of N that stood -/
def NOld (N : Addr → Prop) (H : Hp) : Addr → Prop := fun l => N l ∧ ∃ xs, H l = some (.lst xs)
theorem BookAt.only {K : PySem.W.Frag} {C R B : Addr} {N : Addr → Prop} {H : Hp} {o : Addr} {xs : List Str} {f : RF} {rl : Str} (h : BookAt K C R B N H o xs f rl) : BookAt K C R B (NOld N H) H o xs f rl := by
  obtain ⟨dx, a, p, l, ws, us, h1, h2, h3, h4, ⟨h5, h6⟩, h7⟩ := h
  have g : ∀ b xs, N b → H b = some (.lst xs) → NOld N H b := fun b xs h e => ⟨h, xs, e⟩
  exact ⟨dx, a, p, l, ws, us, h1, h2, h3, h4.re g, ⟨⟨h5, us, h6⟩, h6⟩, h7.mono fun _ _ ⟨o, e, x⟩ => ⟨o, e, x.re g⟩⟩
/-- a row with a rule at its end -/
def RowR (K : PySem.W.Frag) (C R : Addr) (N : Addr → Prop) (H : Hp) (w : Str) (n : Nd) (v x : V) : Prop := ∃ (t : Addr) (u : V), v = .ref t ∧ SqT K H t [.str w, x, u] ∧ RefAt K C R N H u n
theorem RowR.keeps {K : PySem.W.Frag} {C R : Addr} {N : Addr → Prop} {H H' : Hp} {w : Str} {n : Nd} {v x : V} (h : RowR K C R N H w n v x) (k : Keeps N H H') : RowR K C R N H' w n v x := by
  obtain ⟨t, u, e, h, hr⟩ := h
  exact ⟨t, u, e, k.tup h, hr.keeps k⟩
theorem rowR_put {K : PySem.W.Frag} {C R : Addr} {N : Addr → Prop} {H2 H4 : Hp} {D3 t2 : Addr} {acc ns : List V} {w : Str} {n : Nd} {u x : V} {Nx : Hp → Prop} (n3 : H2 D3 = none) (hD : ¬ N D3) (s4 : Same H2 H4) (e4 : H4 D3 = some (.lst acc)) (h : All2 (RowR K C R N H4 w n) acc ns) (hu : RefAt K C R N H4 u n) (n2 : H4 t2 = none) (hz : acc.length < sizeLine)
    (q : ∀ H6 acc', Same H2 H6 → H6 D3 = some (.lst acc') → All2 (RowR K C R N H6 w n) acc' (ns ++ [x]) → Nx H6) : ∃ acc', (upd H4 t2 (.tup [.str w, x, u])) D3 = some (.lst acc') ∧ acc'.length < sizeLine ∧ Nx (upd (upd H4 t2 (.tup [.str w, x, u])) D3 (.lst (acc' ++ [.ref t2]))) := by
  have s5 : Same H4 (upd H4 t2 (.tup [.str w, x, u])) := (Same.refl H4).put n2
  have m5 : (upd H4 t2 (.tup [.str w, x, u])) t2 = some (.tup [.str w, x, u]) := upd_same
  generalize upd H4 t2 (.tup [.str w, x, u]) = H5 at s5 m5 ⊢
  have e5 := s5 _ _ e4
  have kw : Keeps N H5 (upd H5 D3 (.lst (acc ++ [.ref t2]))) := keeps_own e5 hD
  refine ⟨acc, e5, hz, q _ _ ((s4.trans s5).put n3) upd_same ?_⟩
  exact ((h.mono fun _ _ y => y.keeps s5.keeps).snoc ⟨t2, u, rfl, sqT_of m5, hu.keeps s5.keeps⟩).mono fun _ _ y => y.keeps kw
theorem rowsR_map {K : PySem.W.Frag} {C R : Addr} {N N' : Addr → Prop} {H : Hp} {w : Str} {n : Nd} {g : Str → Am} : ∀ {ns : List Str} {acc : List V}, All2 (RowR K C R N H w n) acc (ns.map V.str) → (∀ b xs, N b → H b = some (.lst xs) → N' b) → (∀ v x (t : Addr) u, v = .ref t → SqT K H t [.str w, .str x, u] → RefAt K C R N' H u n → RealAt K C R N' H v (g x)) → All2 (RealAt K C R N' H) acc (ns.map g)
  | [], _, h, _, _ => by
    cases h
    exact .nil
  | x :: r, _, h, hn, k => by
    cases h with
    | cons a b =>
      obtain ⟨t, u, e, ht, o, eo, ho⟩ := a
      exact .cons (k _ _ t u e ht ⟨o, eo, ho.re hn⟩) (rowsR_map b hn k)
theorem rowsR_add {K : PySem.W.Frag} {C R : Addr} {N N' : Addr → Prop} {H : Hp} {n : Nd} : ∀ {ns : List Str} {acc : List V}, All2 (RowR K C R N H "add" n) acc (ns.map V.str ++ [.non]) → (∀ b xs, N b → H b = some (.lst xs) → N' b) → All2 (RealAt K C R N' H) acc ((ns.map fun x => Am.rule x (.add n)) ++ [.add0 n])
  | [], _, h, hn => by
    cases h with
    | cons a b =>
      cases b
      obtain ⟨t, u, e, ht, o, eo, ho⟩ := a
      exact .one ⟨t, u, e, ht, o, eo, ho.re hn⟩
  | x :: r, _, h, hn => by
    cases h with
    | cons a b =>
      obtain ⟨t, u, e, ht, o, eo, ho⟩ := a
      exact .cons ⟨t, _, u, e, ht, rfl, o, eo, ho.re hn⟩ (rowsR_add b hn)
section
variable {P : Program} {w : World} {K : PySem.W.Frag} {mg : Str → Option Value} {base : Heap} {C R Bk CU : Addr}
def sp_backs (K : PySem.W.Frag) (C R B : Addr) : Sp := fun vs H Q _ => ∃ (N : Addr → Prop) (a b : Addr) (v : V) (xs : List Str) (f f' : RF) (rl rl' : Str) (am : Am) (n0 : Nd), vs = [.ref a, .ref b, v] ∧ BookAt K C R B N H a xs f rl ∧ BookAt K C R B N H b xs f' rl' ∧ RealAt K C R N H v am ∧ f.size ≤ 200 ∧ f'.size ≤ 200 ∧
  (∀ nm op, am = .rule nm op → f.find nm = some n0) ∧ ∀ H' D us, Same H H' → H' D = some (.lst us) → All2 (RealAt K C R N H') us (am.backs f rl f' n0) → Q (.ref D) H'
theorem ok_backs {f : Addr} {fd : FuncData} (F : Fun K "_law_backs" "_law_backs" s__law_backs f fd) (B : Blt mg) (kR : RuleX P w K mg base R) (kB : BookX P w K mg base Bk) (mIt : MethO P w K mg base (L2.CX P w) 3 Bk "__getitem__" ["self", "name"] (sp_getitem K C R Bk CU)) (mNm : PropM P w K mg base Bk "names" 3 (sp_bnames K C R Bk)) :
    FnOk P w K mg base CX0 5 f fd ["_law_book_here", "_law_later", "_law_amendment_here"] (sp_backs K C R Bk) := by
  refine F.ok sc__law_backs (fun vs H Q E h => by obtain ⟨N, a, b, v, xs, f, f', rl, rl', am, n0, rfl, _⟩ := h; rfl) (fun cdv A outer s H vs Q E hr h => ?_)
  obtain ⟨N, a, b, v, xs, f, f', rl, rl', am, n0, rfl, hA, hB, hv, hz, hz', hf, q⟩ := h
  refine ⟨_, (pss_cons (ps_asg (pe_tup (pa_cons (pe_ix ix_tup (pv 2) pe_int (fun _ _ => rfl)) (pa_cons (pe_ix ix_tup (pv 2) pe_int (fun _ _ => rfl)) pa_nil))) (pg_tup (by rfl) (pgs_cons (pg_name (i := 3) sc__law_backs.nd rfl (Or.inl rfl)) (pgs_cons (pg_name (i := 4) sc__law_backs.nd rfl (Or.inr rfl)) pgs_nil))))
      (pss_cons (ps_if (pt_cmpR op_eq (pv 3) pe_str (nomark _)) (pss_one (ps_ret (pe_lst (pa_cons (pe_tup (pa_cons pe_str (pa_cons (pv 4) (pa_cons (pe_ifExp (pt_cmpR op_isN (pv 4) pe_non (nomark _)) (pe_cprop kB.ruling kB.cls (hr.mono (by decide)) (pv 0)) (pe_cprop kR.ruling kR.cls (hr.mono (by decide)) (pe_ixN mIt (hr.mono (by decide)) (pv 0) (pv 4) (fun _ _ => rfl)))) pa_nil)))) pa_nil)))) pss_nil)
      (pss_cons (ps_if (pt_cmpR op_eq (pv 3) pe_str (nomark _)) (pss_one (ps_ret (pe_lst (pa_cons (pe_tup (pa_cons pe_str (pa_cons (pv 4) (pa_cons (pe_cprop kR.condition kR.cls (hr.mono (by decide)) (pe_ixN mIt (hr.mono (by decide)) (pv 0) (pv 4) (fun _ _ => rfl))) pa_nil)))) pa_nil)))) pss_nil)
      (pss_cons (ps_if (pt_cmpR op_eq (pv 3) pe_str (nomark _)) (pss_one (ps_ret (pe_lc (own := [("_law_other", 6)]) (g := gName 6) (tt := tYes) rfl sc__law_backs.nd (pi_list (pe_propM mNm (hr.mono (by decide)) kB.cls (pv 1))) (blkOk_by (own := [("_law_other", 6)]) (N := ["_law_book_here", "_law_later", "_law_amendment_here", "_law_word", "_law_name", "_law_rows", "_law_other"]) (sc := defScope s__law_backs) (by decide +kernel)) (fun _ _ _ _ _ => (pg_name (i := 6) sc__law_backs.nd rfl (Or.inl rfl))) (fun _ _ _ _ _ => pts_nil) (fun _ _ _ _ _ => (pe_.re (pe_tup (pa_cons pe_str (pa_cons (pv 6) pa_nil))) (by first | (dsimp only [Cx.blk]; done) | exact rfl)))))) pss_nil)
      (pss_cons (ps_if (pt_cmpR op_in_seq (pv 3) (pe_tup (pa_cons pe_str (pa_cons pe_str pa_nil))) rfl) (pss_one (ps_ret (pe_lst (pa_cons (pe_tup (pa_cons pe_str (pa_cons (pe_cprop kR.name kR.cls (hr.mono (by decide)) (pe_ix ix_tup (pv 2) pe_int (fun _ _ => rfl))) pa_nil))) pa_nil)))) pss_nil)
      (pss_cons (ps_setLc (i := 5) (own := [("_law_other", 6)]) (g := gName 6) (tt := tYes) rfl sc__law_backs.nd rfl rfl (sw_true rfl rfl rfl (by decide +kernel)) (pi_list (pe_propM mNm (hr.mono (by decide)) kB.cls (pv 1))) (blkOk_by (own := [("_law_other", 6)]) (N := ["_law_book_here", "_law_later", "_law_amendment_here", "_law_word", "_law_name", "_law_rows", "_law_other"]) (sc := defScope s__law_backs) (by decide +kernel)) (fun _ _ _ _ _ => (pg_name (i := 6) sc__law_backs.nd rfl (Or.inl rfl))) (fun _ _ _ _ _ => pts_nil) (fun _ _ _ _ _ => (pe_.re (pe_tup (pa_cons pe_str (pa_cons (pv 6) (pa_cons (pe_ixN mIt (hr.mono (by decide)) (pv 0) (pv 4) (fun _ _ => rfl)) pa_nil)))) (by first | (dsimp only [Cx.blk]; done) | exact rfl))))
      (pss_one (ps_ret (pe_op op_cat (pv 5) (pe_lc (own := [("_law_other", 6)]) (g := gName 6) (tt := tYes) rfl sc__law_backs.nd (pi_list (pe_op op_cat (pe_propM mNm (hr.mono (by decide)) kB.cls (pv 1)) (pe_lst (pa_cons pe_non pa_nil)))) (blkOk_by (own := [("_law_other", 6)]) (N := ["_law_book_here", "_law_later", "_law_amendment_here", "_law_word", "_law_name", "_law_rows", "_law_other"]) (sc := defScope s__law_backs) (by decide +kernel)) (fun _ _ _ _ _ => (pg_name (i := 6) sc__law_backs.nd rfl (Or.inl rfl))) (fun _ _ _ _ _ => pts_nil) (fun _ _ _ _ _ => (pe_.re (pe_tup (pa_cons pe_str (pa_cons (pv 6) (pa_cons (pe_ixN mIt (hr.mono (by decide)) (pv 0) (pv 4) (fun _ _ => rfl)) pa_nil)))) (by first | (dsimp only [Cx.blk]; done) | exact rfl))))))))))))), ?_⟩
  obtain ⟨dxa, aF, aP, aL, aw, au, ha, _⟩ := id hA
  obtain ⟨dxb, bF, bP, bL, bw, bu, hb, _⟩ := id hB
  cases am with
  | rul0 z =>
    obtain ⟨t, rfl, hT⟩ := hv
    refine ⟨_, rfl, t, _, 0, _, rfl, rfl, hT, atI_nat (j := 0) rfl, _, rfl, t, _, 1, _, rfl, rfl, hT, atI_nat (j := 1) rfl, (by show 2 ≤ sizeLine; rw [sizeLine_eq]; decide), fun p np => ?_⟩
    have s1 : Same H (upd H p (.tup [.str "ruling", .non])) := (Same.refl H).put np
    have e1 : (upd H p (.tup [.str "ruling", .non])) p = some (.tup [.str "ruling", .non]) := upd_same
    generalize upd H p (.tup [.str "ruling", .non]) = H1 at s1 e1 ⊢
    refine ⟨p, _, rfl, sqT_of e1, rfl, _, _, rfl, _, _, rfl, rfl, ?_⟩
    refine ⟨_, rfl, rfl, _, rfl, iteT ?_⟩
    have ha1 := s1 _ _ ha
    refine ⟨_, rfl, _, rfl, rfl, _, rfl, iteT ⟨_, rfl, a, dxa, _, rfl, ha1, a, dxa, _, _, rfl, ha1, rfl, (by show 3 ≤ sizeLine; rw [sizeLine_eq]; decide), fun t2 n2 => ⟨(by show 1 ≤ sizeLine; rw [sizeLine_eq]; decide), fun D nD => ?_⟩⟩⟩
    have s2 : Same H1 (upd H1 t2 (.tup [.str "ruling", .non, .str rl])) := (Same.refl H1).put n2
    have e2 : (upd H1 t2 (.tup [.str "ruling", .non, .str rl])) t2 = some (.tup [.str "ruling", .non, .str rl]) := upd_same
    generalize upd H1 t2 (.tup [.str "ruling", .non, .str rl]) = H2 at s2 e2 nD ⊢
    have s3 : Same H2 (upd H2 D (.lst [.ref t2])) := (Same.refl H2).put nD
    exact q _ D _ ((s1.trans s2).trans s3) upd_same (.one ⟨t2, rfl, s3.tup (sqT_of e2)⟩)
  | add0 m =>
    obtain ⟨t, r, rfl, hT, hr0⟩ := hv
    refine ⟨_, rfl, t, _, 0, _, rfl, rfl, hT, atI_nat (j := 0) rfl, _, rfl, t, _, 1, _, rfl, rfl, hT, atI_nat (j := 1) rfl, (by show 2 ≤ sizeLine; rw [sizeLine_eq]; decide), fun p np => ?_⟩
    have s1 : Same H (upd H p (.tup [.str "add", .non])) := (Same.refl H).put np
    have e1 : (upd H p (.tup [.str "add", .non])) p = some (.tup [.str "add", .non]) := upd_same
    generalize upd H p (.tup [.str "add", .non]) = H1 at s1 e1 ⊢
    refine ⟨p, _, rfl, sqT_of e1, rfl, _, _, rfl, _, _, rfl, rfl, ?_⟩
    refine ⟨_, rfl, rfl, _, rfl, iteF ⟨_, rfl, rfl, _, rfl, iteF ⟨_, rfl, rfl, _, rfl, iteF ?_⟩⟩⟩
    refine ⟨_, rfl, (by show 2 ≤ sizeLine; rw [sizeLine_eq]; decide), fun pa na => ?_⟩
    have s2 : Same H1 (upd H1 pa (.tup [.str "add", .str "before"])) := (Same.refl H1).put na
    have e2 : (upd H1 pa (.tup [.str "add", .str "before"])) pa = some (.tup [.str "add", .str "before"]) := upd_same
    generalize upd H1 pa (.tup [.str "add", .str "before"]) = H2 at s2 e2 ⊢
    have s12 := s1.trans s2
    refine ⟨pa, _, rfl, .inr (sqT_of e2), rfl, rfl, _, rfl, iteT ?_⟩
    obtain ⟨o0, rfl, hN0⟩ := hr0.keeps (N := N) s12.keeps
    obtain ⟨dxr, c, p', l', ws', hro, _⟩ := id hN0
    refine ⟨_, rfl, t, _, 2, _, rfl, rfl, s12.tup hT, atI_nat (j := 2) rfl, o0, dxr, _, rfl, hro, o0, dxr, _, _, rfl, hro, rfl, (by show 2 ≤ sizeLine; rw [sizeLine_eq]; decide), fun t2 n2 => ⟨(by show 1 ≤ sizeLine; rw [sizeLine_eq]; decide), fun D nD => ?_⟩⟩
    have s3 : Same H2 (upd H2 t2 (.tup [.str "strike", .str m.nm])) := (Same.refl H2).put n2
    have e3 : (upd H2 t2 (.tup [.str "strike", .str m.nm])) t2 = some (.tup [.str "strike", .str m.nm]) := upd_same
    generalize upd H2 t2 (.tup [.str "strike", .str m.nm]) = H3 at s3 e3 nD ⊢
    have s4 : Same H3 (upd H3 D (.lst [.ref t2])) := (Same.refl H3).put nD
    exact q _ D _ ((s12.trans s3).trans s4) upd_same (.one ⟨t2, rfl, s4.tup (sqT_of e3)⟩)
  | rule nm op =>
    have hf0 := hf nm op rfl
    cases op with
    | ruling z =>
      obtain ⟨t, word, new, rfl, hT, rfl, rfl⟩ := hv
      refine ⟨_, rfl, t, _, 0, _, rfl, rfl, hT, atI_nat (j := 0) rfl, _, rfl, t, _, 1, _, rfl, rfl, hT, atI_nat (j := 1) rfl, (by show 2 ≤ sizeLine; rw [sizeLine_eq]; decide), fun p np => ?_⟩
      have s1 : Same H (upd H p (.tup [.str "ruling", .str nm])) := (Same.refl H).put np
      have e1 : (upd H p (.tup [.str "ruling", .str nm])) p = some (.tup [.str "ruling", .str nm]) := upd_same
      generalize upd H p (.tup [.str "ruling", .str nm]) = H1 at s1 e1 ⊢
      refine ⟨p, _, rfl, sqT_of e1, rfl, _, _, rfl, _, _, rfl, rfl, ?_⟩
      refine ⟨_, rfl, rfl, _, rfl, iteT ?_⟩
      refine ⟨_, rfl, _, rfl, rfl, _, rfl, iteF ?_⟩
      refine ⟨_, rfl, _, rfl, a, dxa, _, rfl, s1 _ _ ha, N, a, xs, f, rl, nm, rfl, hA.keeps s1.keeps, by omega, fun n v hn hr0 => ?_, fun hn => by rw [hf0] at hn; cases hn⟩
      obtain rfl : n0 = n := Option.some.inj (hf0.symm.trans hn)
      obtain ⟨o0, rfl, hN0⟩ := hr0
      obtain ⟨dxr, c, p', l', ws', hro, hcc, _⟩ := id hN0
      refine ⟨o0, dxr, _, rfl, hro, o0, dxr, _, _, rfl, hro, rfl, (by show 3 ≤ sizeLine; rw [sizeLine_eq]; decide), fun t2 n2 => ⟨(by show 1 ≤ sizeLine; rw [sizeLine_eq]; decide), fun D nD => ?_⟩⟩
      have s2 : Same H1 (upd H1 t2 (.tup [.str "ruling", .str nm, .str n0.rl])) := (Same.refl H1).put n2
      have e2 : (upd H1 t2 (.tup [.str "ruling", .str nm, .str n0.rl])) t2 = some (.tup [.str "ruling", .str nm, .str n0.rl]) := upd_same
      generalize upd H1 t2 (.tup [.str "ruling", .str nm, .str n0.rl]) = H2 at s2 e2 nD ⊢
      have s3 : Same H2 (upd H2 D (.lst [.ref t2])) := (Same.refl H2).put nD
      exact q _ D _ ((s1.trans s2).trans s3) upd_same (.one ⟨t2, _, _, rfl, s3.tup (sqT_of e2), rfl, rfl⟩)
    | cond hs gs =>
      obtain ⟨t, word, new, rfl, hT, rfl, c0, rfl, hc0⟩ := hv
      refine ⟨_, rfl, t, _, 0, _, rfl, rfl, hT, atI_nat (j := 0) rfl, _, rfl, t, _, 1, _, rfl, rfl, hT, atI_nat (j := 1) rfl, (by show 2 ≤ sizeLine; rw [sizeLine_eq]; decide), fun p np => ?_⟩
      have s1 : Same H (upd H p (.tup [.str "condition", .str nm])) := (Same.refl H).put np
      have e1 : (upd H p (.tup [.str "condition", .str nm])) p = some (.tup [.str "condition", .str nm]) := upd_same
      generalize upd H p (.tup [.str "condition", .str nm]) = H1 at s1 e1 ⊢
      refine ⟨p, _, rfl, sqT_of e1, rfl, _, _, rfl, _, _, rfl, rfl, ?_⟩
      refine ⟨_, rfl, rfl, _, rfl, iteF ⟨_, rfl, rfl, _, rfl, iteT ?_⟩⟩
      refine ⟨_, rfl, _, rfl, _, rfl, a, dxa, _, rfl, s1 _ _ ha, N, a, xs, f, rl, nm, rfl, hA.keeps s1.keeps, by omega, fun n v hn hr0 => ?_, fun hn => by rw [hf0] at hn; cases hn⟩
      obtain rfl : n0 = n := Option.some.inj (hf0.symm.trans hn)
      obtain ⟨o0, rfl, hN0⟩ := hr0
      obtain ⟨dxr, c, p', l', ws', hro, hcc, _⟩ := id hN0
      refine ⟨o0, dxr, _, rfl, hro, o0, dxr, _, _, rfl, hro, rfl, (by show 3 ≤ sizeLine; rw [sizeLine_eq]; decide), fun t2 n2 => ⟨(by show 1 ≤ sizeLine; rw [sizeLine_eq]; decide), fun D nD => ?_⟩⟩
      have s2 : Same H1 (upd H1 t2 (.tup [.str "condition", .str nm, .ref c])) := (Same.refl H1).put n2
      have e2 : (upd H1 t2 (.tup [.str "condition", .str nm, .ref c])) t2 = some (.tup [.str "condition", .str nm, .ref c]) := upd_same
      generalize upd H1 t2 (.tup [.str "condition", .str nm, .ref c]) = H2 at s2 e2 nD ⊢
      have s3 : Same H2 (upd H2 D (.lst [.ref t2])) := (Same.refl H2).put nD
      exact q _ D _ ((s1.trans s2).trans s3) upd_same (.one ⟨t2, _, _, rfl, s3.tup (sqT_of e2), rfl, c, rfl, hcc.keeps (N := N) (s2.trans s3).keeps⟩)
    | before m =>
      obtain ⟨t, word, new, rfl, hT, rfl, hr0⟩ := hv
      refine ⟨_, rfl, t, _, 0, _, rfl, rfl, hT, atI_nat (j := 0) rfl, _, rfl, t, _, 1, _, rfl, rfl, hT, atI_nat (j := 1) rfl, (by show 2 ≤ sizeLine; rw [sizeLine_eq]; decide), fun p np => ?_⟩
      have s1 : Same H (upd H p (.tup [.str "before", .str nm])) := (Same.refl H).put np
      have e1 : (upd H p (.tup [.str "before", .str nm])) p = some (.tup [.str "before", .str nm]) := upd_same
      generalize upd H p (.tup [.str "before", .str nm]) = H1 at s1 e1 ⊢
      refine ⟨p, _, rfl, sqT_of e1, rfl, _, _, rfl, _, _, rfl, rfl, ?_⟩
      refine ⟨_, rfl, rfl, _, rfl, iteF ⟨_, rfl, rfl, _, rfl, iteF ⟨_, rfl, rfl, _, rfl, iteF ?_⟩⟩⟩
      refine ⟨_, rfl, (by show 2 ≤ sizeLine; rw [sizeLine_eq]; decide), fun pa na => ?_⟩
      have s2 : Same H1 (upd H1 pa (.tup [.str "add", .str "before"])) := (Same.refl H1).put na
      have e2 : (upd H1 pa (.tup [.str "add", .str "before"])) pa = some (.tup [.str "add", .str "before"]) := upd_same
      generalize upd H1 pa (.tup [.str "add", .str "before"]) = H2 at s2 e2 ⊢
      have s12 := s1.trans s2
      refine ⟨pa, _, rfl, .inr (sqT_of e2), rfl, rfl, _, rfl, iteT ?_⟩
      obtain ⟨o0, rfl, hN0⟩ := hr0.keeps (N := N) s12.keeps
      obtain ⟨dxr, c, p', l', ws', hro, _⟩ := id hN0
      refine ⟨_, rfl, t, _, 2, _, rfl, rfl, s12.tup hT, atI_nat (j := 2) rfl, o0, dxr, _, rfl, hro, o0, dxr, _, _, rfl, hro, rfl, (by show 2 ≤ sizeLine; rw [sizeLine_eq]; decide), fun t2 n2 => ⟨(by show 1 ≤ sizeLine; rw [sizeLine_eq]; decide), fun D nD => ?_⟩⟩
      have s3 : Same H2 (upd H2 t2 (.tup [.str "strike", .str m.nm])) := (Same.refl H2).put n2
      have e3 : (upd H2 t2 (.tup [.str "strike", .str m.nm])) t2 = some (.tup [.str "strike", .str m.nm]) := upd_same
      generalize upd H2 t2 (.tup [.str "strike", .str m.nm]) = H3 at s3 e3 nD ⊢
      have s4 : Same H3 (upd H3 D (.lst [.ref t2])) := (Same.refl H3).put nD
      exact q _ D _ ((s12.trans s3).trans s4) upd_same (.one ⟨t2, rfl, s4.tup (sqT_of e3)⟩)
    | add m =>
      obtain ⟨t, word, new, rfl, hT, rfl, hr0⟩ := hv
      refine ⟨_, rfl, t, _, 0, _, rfl, rfl, hT, atI_nat (j := 0) rfl, _, rfl, t, _, 1, _, rfl, rfl, hT, atI_nat (j := 1) rfl, (by show 2 ≤ sizeLine; rw [sizeLine_eq]; decide), fun p np => ?_⟩
      have s1 : Same H (upd H p (.tup [.str "add", .str nm])) := (Same.refl H).put np
      have e1 : (upd H p (.tup [.str "add", .str nm])) p = some (.tup [.str "add", .str nm]) := upd_same
      generalize upd H p (.tup [.str "add", .str nm]) = H1 at s1 e1 ⊢
      refine ⟨p, _, rfl, sqT_of e1, rfl, _, _, rfl, _, _, rfl, rfl, ?_⟩
      refine ⟨_, rfl, rfl, _, rfl, iteF ⟨_, rfl, rfl, _, rfl, iteF ⟨_, rfl, rfl, _, rfl, iteF ?_⟩⟩⟩
      refine ⟨_, rfl, (by show 2 ≤ sizeLine; rw [sizeLine_eq]; decide), fun pa na => ?_⟩
      have s2 : Same H1 (upd H1 pa (.tup [.str "add", .str "before"])) := (Same.refl H1).put na
      have e2 : (upd H1 pa (.tup [.str "add", .str "before"])) pa = some (.tup [.str "add", .str "before"]) := upd_same
      generalize upd H1 pa (.tup [.str "add", .str "before"]) = H2 at s2 e2 ⊢
      have s12 := s1.trans s2
      refine ⟨pa, _, rfl, .inr (sqT_of e2), rfl, rfl, _, rfl, iteT ?_⟩
      obtain ⟨o0, rfl, hN0⟩ := hr0.keeps (N := N) s12.keeps
      obtain ⟨dxr, c, p', l', ws', hro, _⟩ := id hN0
      refine ⟨_, rfl, t, _, 2, _, rfl, rfl, s12.tup hT, atI_nat (j := 2) rfl, o0, dxr, _, rfl, hro, o0, dxr, _, _, rfl, hro, rfl, (by show 2 ≤ sizeLine; rw [sizeLine_eq]; decide), fun t2 n2 => ⟨(by show 1 ≤ sizeLine; rw [sizeLine_eq]; decide), fun D nD => ?_⟩⟩
      have s3 : Same H2 (upd H2 t2 (.tup [.str "strike", .str m.nm])) := (Same.refl H2).put n2
      have e3 : (upd H2 t2 (.tup [.str "strike", .str m.nm])) t2 = some (.tup [.str "strike", .str m.nm]) := upd_same
      generalize upd H2 t2 (.tup [.str "strike", .str m.nm]) = H3 at s3 e3 nD ⊢
      have s4 : Same H3 (upd H3 D (.lst [.ref t2])) := (Same.refl H3).put nD
      exact q _ D _ ((s12.trans s3).trans s4) upd_same (.one ⟨t2, rfl, s4.tup (sqT_of e3)⟩)
    | swap =>
      obtain ⟨t, rfl, hT⟩ := hv
      refine ⟨_, rfl, t, _, 0, _, rfl, rfl, hT, atI_nat (j := 0) rfl, _, rfl, t, _, 1, _, rfl, rfl, hT, atI_nat (j := 1) rfl, (by show 2 ≤ sizeLine; rw [sizeLine_eq]; decide), fun p np => ?_⟩
      have s1 : Same H (upd H p (.tup [.str "swap", .str nm])) := (Same.refl H).put np
      have e1 : (upd H p (.tup [.str "swap", .str nm])) p = some (.tup [.str "swap", .str nm]) := upd_same
      generalize upd H p (.tup [.str "swap", .str nm]) = H1 at s1 e1 ⊢
      refine ⟨p, _, rfl, sqT_of e1, rfl, _, _, rfl, _, _, rfl, rfl, ?_⟩
      refine ⟨_, rfl, rfl, _, rfl, iteF ⟨_, rfl, rfl, _, rfl, iteF ⟨_, rfl, rfl, _, rfl, iteT ?_⟩⟩⟩
      refine ⟨_, rfl, b, dxb, _, rfl, s1 _ _ hb, N, b, xs, f', rl', rfl, hB.keeps s1.keeps, by omega, fun H2 D2 s2 e2 => ⟨D2, rfl, ⟨_, sqL_of e2⟩, fun D3 n3 => ?_⟩⟩
      have s12 := s1.trans s2
      refine lc_it walk_list (fun i H' => Same H2 H' ∧ ∃ acc, H' D3 = some (.lst acc) ∧ All2 (RowW K H' "swap" []) acc ((f'.names.take i).map V.str)) ⟨(Same.refl H2).put n3, [], upd_same, .nil⟩ (fun _ _ _ h => sqL_of (h.1 _ _ e2)) ?_ ?_
      · rintro i y H4 H5 hi ⟨s4, acc, e4, hacc⟩ ⟨rfl, hy⟩
        obtain ⟨x, hx, rfl⟩ := str_at hy
        refine ⟨rfl, yes_ ⟨_, rfl, (by show 2 ≤ sizeLine; rw [sizeLine_eq]; decide), fun t2 n2 => ?_⟩⟩
        have hln := hacc.len
        rw [List.length_map, List.length_take] at hln
        have hn' : f'.names.length = f'.size := by rw [← RF.pre_names f' 0, List.length_map, RF.pre_len]
        exact row_put (Nx := fun H' => Same H2 H' ∧ ∃ acc, H' D3 = some (.lst acc) ∧ All2 (RowW K H' "swap" []) acc ((f'.names.take (i + 1)).map V.str)) (x := .str x) (ns := (f'.names.take i).map V.str) n3 s4 e4 hacc n2 (by rw [sizeLine_eq]; omega) fun H6 acc' s6 e6 h6 => ⟨s6, acc', e6, by rw [take_more hx, List.map_append]; exact h6⟩
      rintro H4 ⟨s4, acc, e4, hacc⟩
      rw [List.length_map, List.take_length] at hacc
      exact q H4 D3 acc (s12.trans s4) e4 (rows_map (g := fun x => Am.rule x .swap) hacc fun v x ⟨t, e, h⟩ => ⟨t, e, h⟩)
    | strike =>
      obtain ⟨t, rfl, hT⟩ := hv
      refine ⟨_, rfl, t, _, 0, _, rfl, rfl, hT, atI_nat (j := 0) rfl, _, rfl, t, _, 1, _, rfl, rfl, hT, atI_nat (j := 1) rfl, (by show 2 ≤ sizeLine; rw [sizeLine_eq]; decide), fun p np => ?_⟩
      have s1 : Same H (upd H p (.tup [.str "strike", .str nm])) := (Same.refl H).put np
      have e1 : (upd H p (.tup [.str "strike", .str nm])) p = some (.tup [.str "strike", .str nm]) := upd_same
      generalize upd H p (.tup [.str "strike", .str nm]) = H1 at s1 e1 ⊢
      refine ⟨p, _, rfl, sqT_of e1, rfl, _, _, rfl, _, _, rfl, rfl, ?_⟩
      refine ⟨_, rfl, rfl, _, rfl, iteF ⟨_, rfl, rfl, _, rfl, iteF ⟨_, rfl, rfl, _, rfl, iteF ?_⟩⟩⟩
      refine ⟨_, rfl, (by show 2 ≤ sizeLine; rw [sizeLine_eq]; decide), fun pa na => ?_⟩
      have sW : Same H1 (upd H1 pa (.tup [.str "add", .str "before"])) := (Same.refl H1).put na
      have eW : (upd H1 pa (.tup [.str "add", .str "before"])) pa = some (.tup [.str "add", .str "before"]) := upd_same
      generalize upd H1 pa (.tup [.str "add", .str "before"]) = HW at sW eW ⊢
      replace s1 := s1.trans sW
      refine ⟨pa, _, rfl, .inr (sqT_of eW), rfl, rfl, _, rfl, iteF ?_⟩
      have hA2 := hA.only
      have hfr : ∀ {D : Addr}, H D = none → ¬ NOld N H D := fun e h => by obtain ⟨_, xs, h⟩ := h; rw [e] at h; cases h
      have hn' : f'.names.length = f'.size := by rw [← RF.pre_names f' 0, List.length_map, RF.pre_len]
      refine ⟨_, rfl, b, dxb, _, rfl, s1 _ _ hb, N, b, xs, f', rl', rfl, hB.keeps s1.keeps, by omega, fun H2 D2 s2 e2 => ⟨D2, rfl, ⟨_, sqL_of e2⟩, fun D3 n3 => ?_⟩⟩
      have s12 := s1.trans s2
      have hD3 := hfr (s12.free n3)
      refine lc_it walk_list (fun i H' => Same H2 H' ∧ ∃ acc, H' D3 = some (.lst acc) ∧ All2 (RowR K C R (NOld N H) H' "before" n0) acc ((f'.names.take i).map V.str)) ⟨(Same.refl H2).put n3, [], upd_same, .nil⟩ (fun _ _ _ h => sqL_of (h.1 _ _ e2)) ?_ ?_
      · rintro i y H4 H5 hi ⟨s4, acc, e4, hacc⟩ ⟨rfl, hy⟩
        obtain ⟨x, hx, rfl⟩ := str_at hy
        have hln := hacc.len
        rw [List.length_map, List.length_take] at hln
        have s05 := s12.trans s4
        refine ⟨rfl, yes_ ⟨_, rfl, _, rfl, _, rfl, a, dxa, _, rfl, s05 _ _ ha, NOld N H, a, xs, f, rl, nm, rfl, hA2.keeps s05.keeps, by omega, fun n v hn hr0 => ?_, fun hn => by rw [hf0] at hn; cases hn⟩⟩
        obtain rfl : n0 = n := Option.some.inj (hf0.symm.trans hn)
        refine ⟨(by show 3 ≤ sizeLine; rw [sizeLine_eq]; decide), fun t2 n2 => ?_⟩
        exact rowR_put (Nx := fun H' => Same H2 H' ∧ ∃ acc, H' D3 = some (.lst acc) ∧ All2 (RowR K C R (NOld N H) H' "before" n0) acc ((f'.names.take (i + 1)).map V.str)) (x := .str x) (ns := (f'.names.take i).map V.str) n3 hD3 s4 e4 hacc hr0 n2 (by rw [sizeLine_eq]; omega) fun H6 acc' s6 e6 h6 => ⟨s6, acc', e6, by rw [take_more hx, List.map_append]; exact h6⟩
      rintro H4 ⟨s4, acc, e4, hacc⟩
      rw [List.length_map, List.take_length] at hacc
      have s14 := s12.trans s4
      refine ⟨_, rfl, _, rfl, b, dxb, _, rfl, s14 _ _ hb, N, b, xs, f', rl', rfl, hB.keeps s14.keeps, by omega, fun H5 D5 s5 e5 => ⟨(by show 1 ≤ sizeLine; rw [sizeLine_eq]; decide), fun L nL => ?_⟩⟩
      have sL : Same H5 (upd H5 L (.lst [.non])) := (Same.refl H5).put nL
      have eL : (upd H5 L (.lst [.non])) L = some (.lst [.non]) := upd_same
      generalize upd H5 L (.lst [.non]) = H6 at sL eL ⊢
      refine ⟨D5, L, _, _, rfl, rfl, sL _ _ e5, eL, (by rw [List.length_map, sizeLine_eq]; show f'.names.length + 1 ≤ _; omega), fun D7 n7 => ?_⟩
      have s7 : Same H6 (upd H6 D7 (.lst (f'.names.map V.str ++ [V.non]))) := (Same.refl H6).put n7
      have e7 : (upd H6 D7 (.lst (f'.names.map V.str ++ [V.non]))) D7 = some (.lst (f'.names.map V.str ++ [V.non])) := upd_same
      generalize upd H6 D7 (.lst (f'.names.map V.str ++ [V.non])) = H7 at s7 e7 ⊢
      have s47 := (s5.trans sL).trans s7
      have s17 := s14.trans s47
      refine ⟨D7, rfl, ⟨_, sqL_of e7⟩, fun D8 n8 => ?_⟩
      have hD8 := hfr (s17.free n8)
      refine lc_it walk_list (fun i H' => Same H7 H' ∧ ∃ acc8, H' D8 = some (.lst acc8) ∧ All2 (RowR K C R (NOld N H) H' "add" n0) acc8 ((f'.names.map V.str ++ [V.non]).take i)) ⟨(Same.refl H7).put n8, [], upd_same, .nil⟩ (fun _ _ _ h => sqL_of (h.1 _ _ e7)) ?_ ?_
      · rintro i y H8 H9 hi ⟨s8, acc8, e8, hacc8⟩ ⟨rfl, hy⟩
        have hln := hacc8.len
        rw [List.length_take, List.length_append, List.length_map, List.length_singleton] at hln
        have s09 := s17.trans s8
        refine ⟨rfl, yes_ ⟨_, rfl, _, rfl, _, rfl, a, dxa, _, rfl, s09 _ _ ha, NOld N H, a, xs, f, rl, nm, rfl, hA2.keeps s09.keeps, by omega, fun n v hn hr0 => ?_, fun hn => by rw [hf0] at hn; cases hn⟩⟩
        obtain rfl : n0 = n := Option.some.inj (hf0.symm.trans hn)
        refine ⟨(by show 3 ≤ sizeLine; rw [sizeLine_eq]; decide), fun t2 n2 => ?_⟩
        exact rowR_put (Nx := fun H' => Same H7 H' ∧ ∃ acc8, H' D8 = some (.lst acc8) ∧ All2 (RowR K C R (NOld N H) H' "add" n0) acc8 ((f'.names.map V.str ++ [V.non]).take (i + 1))) (x := y) (ns := (f'.names.map V.str ++ [V.non]).take i) n8 hD8 s8 e8 hacc8 hr0 n2 (by rw [sizeLine_eq]; omega) fun H6 acc' s6 e6 h6 => ⟨s6, acc', e6, by rw [take_more hy]; exact h6⟩
      rintro H8 ⟨s8, acc8, e8, hacc8⟩
      rw [List.take_length] at hacc8
      have l3 := hacc.len
      have l8 := hacc8.len
      rw [List.length_map] at l3
      rw [List.length_append, List.length_map, List.length_singleton] at l8
      have s48 := s47.trans s8
      have s18 := s17.trans s8
      refine ⟨D3, D8, acc, acc8, rfl, rfl, s48 _ _ e4, e8, (by rw [sizeLine_eq]; omega), fun D9 n9 => ?_⟩
      have s9 : Same H8 (upd H8 D9 (.lst (acc ++ acc8))) := (Same.refl H8).put n9
      have k1 := rowsR_map (g := fun x => Am.rule x (.before n0)) (N' := N) ((hacc.mono fun _ _ y => y.keeps s48.keeps).mono fun _ _ y => y.keeps s9.keeps) fun b xs h _ => h.1
      have k2 := rowsR_add (N' := N) (hacc8.mono fun _ _ y => y.keeps s9.keeps) fun b xs h _ => h.1
      exact q _ D9 _ (s18.trans s9) upd_same ((k1 fun v x t u e1 e2 e3 => ⟨t, _, u, e1, e2, rfl, e3⟩).app k2)
end
end Sc
/-! one of the amendments that are tried takes an amendment back -/
namespace Sc
open PySem PySem.Spec PyProof.Rows L2
namespace RF
theorem mem_upd {nm y : Str} {G : Nd → RF → RF} (g : ∀ n rest, n.nm = nm → y ∈ (G n rest).names) : ∀ {f : RF}, nm ∈ f.names → y ∈ (upd nm G f).names
  | .nil, h => nomatch h
  | .cons n hs fs rl exc rest, h => by
    rw [upd_cons]
    by_cases e : n = nm
    · rw [if_pos e]
      exact g _ _ e
    · rw [if_neg e]
      rcases mem_cons3.mp h with z | z | z
      · exact absurd z.symm e
      · exact mem_cons3.mpr (.inr (.inl (mem_upd g z)))
      · exact mem_cons3.mpr (.inr (.inr (mem_upd g z)))
theorem nxt_self {x : Str} : ∀ {f : RF}, nxt x f ≠ none → x ∈ f.names
  | .nil, h => absurd rfl h
  | .cons n hs fs rl exc rest, h => by
    unfold nxt at h
    by_cases e : n = x
    · exact mem_cons3.mpr (.inl e.symm)
    · rw [if_neg e] at h
      by_cases c : x ∈ exc.names
      · exact mem_cons3.mpr (.inr (.inl c))
      · rw [if_neg c] at h
        exact mem_cons3.mpr (.inr (.inr (nxt_self h)))
theorem mem_put {m : Nd} {os : List Nd} {f : RF} (h : m ∈ os) : m.nm ∈ (put os f).names := mem_names.mpr ⟨m, by rw [put_nodes]; exact List.mem_append_left _ h, .inl rfl⟩
end RF
/-- an amendment fits the rules -/
def Am.Fits (f : RF) (n0 : Nd) : Am → Prop
  | .rul0 _ => True
  | .add0 m => ¬ m.nm ∈ f.names
  | .rule nm op => f.find nm = some n0 ∧ nm ∈ f.names ∧ (op = .swap → RF.nxt nm f ≠ none) ∧ ∀ m, op = .before m ∨ op = .add m → ¬ m.nm ∈ f.names
theorem find_nm {f : RF} {nm : Str} {n0 : Nd} (h : nm ∈ f.names) (hf : f.find nm = some n0) : n0.nm = nm := by
  obtain ⟨n, e1, e2⟩ := RF.find_some h
  rw [hf] at e1
  rw [Option.some.inj e1]
  exact e2
theorem backs_ok {f : RF} {rl : Str} {am : Am} {n0 : Nd} (hn : f.names.Nodup) (h : am.Fits f n0) : ∃ bk ∈ am.backs f rl (am.aft f rl).1 n0, bk.aft (am.aft f rl).1 (am.aft f rl).2 = (f, rl) ∧ ∀ nm op, bk = .rule nm op → nm ∈ (am.aft f rl).1.names ∧ (op = .swap → RF.nxt nm (am.aft f rl).1 ≠ none) := by
  cases am with
  | rul0 z => exact ⟨.rul0 rl, List.mem_singleton.mpr rfl, rfl, fun _ _ e => nomatch e⟩
  | add0 m =>
    refine ⟨.rule m.nm .strike, List.mem_singleton.mpr rfl, ?_, fun _ _ e => ?_⟩
    · show (RF.upd m.nm (fun _ rest => rest) (f.snoc m), rl) = (f, rl)
      rw [RF.strike_snoc h]
    · cases e
      refine ⟨?_, fun z => nomatch z⟩
      show m.nm ∈ (f.snoc m).names
      rw [RF.snoc_names]
      exact List.mem_append_right _ List.mem_cons_self
  | rule nm op =>
    obtain ⟨hf, hm, hsw, hnew⟩ := h
    have e0 := find_nm hm hf
    cases op with
    | ruling z =>
      refine ⟨.rule nm (.ruling n0.rl), List.mem_singleton.mpr rfl, ?_, fun _ _ e => ?_⟩
      · show (RF.upd nm (Op.ruling n0.rl).G (RF.upd nm (Op.ruling z).G f), rl) = (f, rl)
        rw [RF.back_one (n0 := n0) (n1 := ⟨n0.nm, n0.hs, n0.fs, z, n0.exc⟩) e0 (fun _ => rfl) (fun _ => rfl) hn fun _ => hf]
      · cases e
        exact ⟨RF.mem_upd (fun n rest e => by rw [← e]; exact RF.mem_put (m := ⟨n.nm, n.hs, n.fs, z, n.exc⟩) (List.mem_singleton.mpr rfl)) hm, fun z => nomatch z⟩
    | cond hs gs =>
      refine ⟨.rule nm (.cond n0.hs n0.fs), List.mem_singleton.mpr rfl, ?_, fun _ _ e => ?_⟩
      · show (RF.upd nm (Op.cond n0.hs n0.fs).G (RF.upd nm (Op.cond hs gs).G f), rl) = (f, rl)
        rw [RF.back_one (n0 := n0) (n1 := ⟨n0.nm, hs, gs, n0.rl, n0.exc⟩) e0 (fun _ => rfl) (fun _ => rfl) hn fun _ => hf]
      · cases e
        exact ⟨RF.mem_upd (fun n rest e => by rw [← e]; exact RF.mem_put (m := ⟨n.nm, hs, gs, n.rl, n.exc⟩) (List.mem_singleton.mpr rfl)) hm, fun z => nomatch z⟩
    | before m =>
      refine ⟨.rule m.nm .strike, List.mem_singleton.mpr rfl, ?_, fun _ _ e => ?_⟩
      · show (RF.upd m.nm (fun _ rest => rest) (RF.upd nm (fun n rest => RF.put [m, n] rest) f), rl) = (f, rl)
        rw [RF.strike_before hn (hnew m (.inl rfl))]
      · cases e
        exact ⟨RF.mem_upd (fun n rest e => RF.mem_put (os := [m, n]) List.mem_cons_self) hm, fun z => nomatch z⟩
    | add m =>
      refine ⟨.rule m.nm .strike, List.mem_singleton.mpr rfl, ?_, fun _ _ e => ?_⟩
      · show (RF.upd m.nm (fun _ rest => rest) (RF.upd nm (fun n rest => RF.put [n.wE (n.exc.snoc m)] rest) f), rl) = (f, rl)
        rw [RF.strike_add hn (hnew m (.inr rfl))]
      · cases e
        refine ⟨RF.mem_upd (fun n rest e => ?_) hm, fun z => nomatch z⟩
        show m.nm ∈ (RF.cons n.nm n.hs n.fs n.rl (n.exc.snoc m) rest).names
        rw [RF.mem_cons3, RF.snoc_names]
        exact .inr (.inl (List.mem_append_right _ List.mem_cons_self))
    | swap =>
      obtain ⟨b, hb⟩ := Option.ne_none_iff_exists'.mp (hsw rfl)
      obtain ⟨i1, i2⟩ := RF.swap_back hn hm hb
      refine ⟨.rule b.nm .swap, List.mem_map.mpr ⟨b.nm, RF.nxt_self i2, rfl⟩, ?_, fun _ _ e => ?_⟩
      · show (RF.upd b.nm swapG (RF.upd nm swapG f), rl) = (f, rl)
        rw [i1]
      · cases e
        exact ⟨RF.nxt_self i2, fun _ => i2⟩
    | strike =>
      rcases RF.strike_back hn hm hf with ⟨x, hx, i⟩ | ⟨x, hx, i⟩ | i
      · refine ⟨.rule x (.before n0), List.mem_append_left _ (List.mem_map.mpr ⟨x, hx, rfl⟩), ?_, fun _ _ e => by cases e; exact ⟨hx, fun z => nomatch z⟩⟩
        show (RF.upd x (fun n rest => RF.put [n0, n] rest) (RF.strk nm f), rl) = (f, rl)
        rw [i]
      · refine ⟨.rule x (.add n0), List.mem_append_right _ (List.mem_append_left _ (List.mem_map.mpr ⟨x, hx, rfl⟩)), ?_, fun _ _ e => by cases e; exact ⟨hx, fun z => nomatch z⟩⟩
        show (RF.upd x (fun n rest => RF.put [n.wE (n.exc.snoc n0)] rest) (RF.strk nm f), rl) = (f, rl)
        rw [i]
      · refine ⟨.add0 n0, List.mem_append_right _ (List.mem_append_right _ (List.mem_singleton.mpr rfl)), ?_, fun _ _ e => nomatch e⟩
        show ((RF.strk nm f).snoc n0, rl) = (f, rl)
        rw [i]
end Sc
namespace Sc
open PySem PySem.Spec PyProof.Rows L2
/-! ### what is right of a book, and stays so -/
structure Inv (xs : List Str) (f : RF) (rl : Str) (m : Nat) : Prop where
  ev : f.every (N2 xs)
  nd : f.names.Nodup
  dp : f.dep ≤ 6
  sz : f.size ≤ m
  rl : isName rl = true
theorem no_fault {xs : List Str} : ∀ {ps : List (Nd × Nat)} {met : List Str} {out i : Nat}, (∀ q ∈ ps, (∀ x ∈ q.1.hs, x ∈ xs) ∧ ∀ x ∈ q.1.fs, x ∈ xs) → (∀ q ∈ ps, q.2 ≤ 5) → (met ++ ps.map fun q => q.1.nm).Nodup → i + ps.length ≤ 60 → out + ps.length ≤ 40 → firstFault xs ps met out i = none
  | [], _, _, _, _, _, _, _, _ => rfl
  | (n, k) :: r, met, out, i, h1, h2, h3, h4, h5 => by
    have hs := h1 _ List.mem_cons_self
    have hk : k ≤ 5 := h2 _ List.mem_cons_self
    rw [List.length_cons] at h4 h5
    have hon : outNext out k ≤ out + 1 := by unfold outNext; split <;> omega
    have hm : ¬ n.nm ∈ met := fun z => (List.nodup_append.mp h3).2.2 _ z _ List.mem_cons_self rfl
    have f0 : faultAt xs met (outNext out k) i n k = none := by
      unfold faultAt
      rw [if_neg hm, if_neg, if_neg (by omega), if_neg (by omega)]
      rw [Bool.not_eq_true, List.any_eq_false]
      intro x hx
      have hx := (srt_perm _).mem_iff.mp hx
      rw [decide_eq_true (show x ∈ xs from (List.mem_append.mp hx).elim (hs.1 x) (hs.2 x))]
      decide
    unfold firstFault
    rw [f0]
    refine no_fault (fun q hq => h1 q (List.mem_cons_of_mem _ hq)) (fun q hq => h2 q (List.mem_cons_of_mem _ hq)) ?_ (by omega) (by omega)
    rw [List.append_assoc]
    exact h3
theorem names12_len {f : RF} {k : Nat} {ns : List Str} (e : f.names ++ ns = names12.drop k) : f.size ≤ 12 := by
  have h1 := congrArg List.length e
  rw [List.length_append, List.length_drop] at h1
  have h2 : names12.length = 12 := rfl
  have h3 : f.names.length = f.size := by rw [← RF.pre_names f 0, List.length_map, RF.pre_len]
  omega
theorem pre_dep : ∀ (f : RF) (k : Nat), ∀ q ∈ f.pre k, q.2 + 1 ≤ k + f.dep
  | .nil, _, q, h => nomatch h
  | .cons n hs fs rl exc rest, k, q, h => by
    show q.2 + 1 ≤ k + max (exc.dep + 1) rest.dep
    rcases List.mem_cons.mp h with rfl | h
    · show k + 1 ≤ _
      omega
    · rcases List.mem_append.mp h with h | h
      · have := pre_dep exc (k + 1) q h
        omega
      · have := pre_dep rest k q h
        omega
theorem Inv.ok {xs : List Str} {f : RF} {rl : Str} {m : Nat} (h : Inv xs f rl m) (hm : m ≤ 40) : firstFault xs (f.pre 0) [] 0 0 = none := by
  have hz := h.sz
  have hd := h.dp
  refine no_fault (fun q hq => ?_) (fun q hq => ?_) (by rw [List.nil_append, RF.pre_names]; exact h.nd) (by rw [RF.pre_len]; omega) (by rw [RF.pre_len]; omega)
  · have h := RF.every_pre h.ev q hq
    exact ⟨h.s1, h.s2⟩
  · have := pre_dep f 0 q hq
    omega
theorem Inv.bk {xs : List Str} {f : RF} {rl : Str} {m : Nat} (h : Inv xs f rl m) (hm : m ≤ 40) (hx : Right xs) (h0 : xs ≠ []) (hl : xs.length ≤ 60) : BkOk xs f rl := by
  have hz := h.sz
  exact ⟨hx.fines.txts, hl, hx.bad h0 hl, h.rl, h.nd, h.dp, by omega, RF.every_mono (fun _ x => x.ok) h.ev⟩
/-- without a fault the book stays right -/
theorem Inv.of_fault {xs : List Str} {f : RF} {rl : Str} {m : Nat} (ev : f.every (N2 xs)) (sz : f.size ≤ m) (hr : isName rl = true) (h : firstFault xs (f.pre 0) [] 0 0 = none) : Inv xs f rl m := by
  obtain ⟨h1, h2⟩ := fault_none .nil h
  rw [List.nil_append, RF.pre_names] at h1
  exact ⟨ev, h1, by have := RF.pre_dep' (f := f) (k := 0) (D := 5) h2 (by omega); omega, sz, hr⟩
theorem flt_ok {o : Option (Str × Nat)} (h : fltOf o = .ok) : o = none := by
  cases o with
  | none => rfl
  | some p => exact nomatch h
theorem aft_ok {xs : List Str} {f : RF} {rl : Str} {m : Nat} {am : Am} (h : Inv xs f rl m) (hm : m ≤ 36) (hok : am.Ok2 xs) (hst : am.stp xs f = .ok) : Inv xs (am.aft f rl).1 (am.aft f rl).2 (m + 2) ∧ firstFault xs ((am.aft f rl).1.pre 0) [] 0 0 = none := by
  have hd := aft_dims (rl := rl) hok h.nd h.ev
  have hsz := h.sz
  have hdp := h.dp
  suffices hh : Inv xs (am.aft f rl).1 (am.aft f rl).2 (m + 2) from ⟨hh, hh.ok (by omega)⟩
  cases am with
  | rul0 z => exact ⟨h.ev, h.nd, h.dp, by show f.size ≤ _; omega, hok⟩
  | add0 n => exact Inv.of_fault hd.2.2 (by omega) h.rl (flt_ok hst)
  | rule nm op =>
    have hst : (if nm ∈ f.names then op.stp xs f nm else .unk) = Stp.ok := hst
    by_cases c : nm ∈ f.names
    · rw [if_pos c] at hst
      cases op with
      | before n => exact Inv.of_fault hd.2.2 (by omega) h.rl (flt_ok hst)
      | add n => exact Inv.of_fault hd.2.2 (by omega) h.rl (flt_ok hst)
      | strike =>
        refine ⟨hd.2.2, (RF.upd_names (fun n rest hn => ?_) h.nd).1, Nat.le_trans (RF.upd_dep (e := 0) fun n rest => by show rest.dep ≤ _; omega) (by omega), by omega, h.rl⟩
        rw [List.nodup_cons, List.nodup_append] at hn
        exact ⟨hn.2.2.1, fun x hx => List.mem_cons_of_mem _ (List.mem_append_right _ hx)⟩
      | ruling z =>
        refine ⟨hd.2.2, (RF.upd_names (fun n rest hn => ?_) h.nd).1, Nat.le_trans (RF.upd_dep (e := 0) fun n rest => by show max (n.exc.dep + 1) rest.dep ≤ _; omega) (by omega), by omega, h.rl⟩
        show (RF.cons n.nm n.hs n.fs z n.exc rest).names.Nodup ∧ ∀ x ∈ (RF.cons n.nm n.hs n.fs z n.exc rest).names, _
        rw [RF.names_cons]
        exact ⟨hn, fun x hx => hx⟩
      | cond hs gs =>
        refine ⟨hd.2.2, (RF.upd_names (fun n rest hn => ?_) h.nd).1, Nat.le_trans (RF.upd_dep (e := 0) fun n rest => by show max (n.exc.dep + 1) rest.dep ≤ _; omega) (by omega), by omega, h.rl⟩
        show (RF.cons n.nm hs gs n.rl n.exc rest).names.Nodup ∧ ∀ x ∈ (RF.cons n.nm hs gs n.rl n.exc rest).names, _
        rw [RF.names_cons]
        exact ⟨hn, fun x hx => hx⟩
      | swap =>
        refine ⟨hd.2.2, (RF.upd_names (fun n rest hn => ?_) h.nd).1, Nat.le_trans (RF.upd_dep (e := 0) fun n rest => ?_) (by omega), by omega, h.rl⟩
        · cases rest with
          | nil =>
            show (RF.cons n.nm n.hs n.fs n.rl n.exc .nil).names.Nodup ∧ ∀ x ∈ (RF.cons n.nm n.hs n.fs n.rl n.exc .nil).names, _
            rw [RF.names_cons]
            exact ⟨hn, fun x hx => hx⟩
          | cons b1 b2 b3 b4 e r =>
            show (RF.cons b1 b2 b3 b4 e (RF.cons n.nm n.hs n.fs n.rl n.exc r)).names.Nodup ∧ ∀ x ∈ (RF.cons b1 b2 b3 b4 e (RF.cons n.nm n.hs n.fs n.rl n.exc r)).names, _
            rw [RF.names_cons, RF.names_cons, RF.names_cons] at *
            have hp : (b1 :: (e.names ++ (n.nm :: (n.exc.names ++ r.names)))).Perm (n.nm :: (n.exc.names ++ (b1 :: (e.names ++ r.names)))) := by
              show ((b1 :: e.names) ++ ((n.nm :: n.exc.names) ++ r.names)).Perm ((n.nm :: n.exc.names) ++ ((b1 :: e.names) ++ r.names))
              rw [← List.append_assoc, ← List.append_assoc]
              exact List.perm_append_comm.append_right _
            exact ⟨hp.nodup_iff.mpr hn, fun x hx => hp.mem_iff.mp hx⟩
        · show (swapG n rest).dep ≤ _
          cases rest with
          | nil => show max (n.exc.dep + 1) 0 ≤ max (n.exc.dep + 1) 0 + 0; omega
          | cons b1 b2 b3 b4 e r => show max (e.dep + 1) (max (n.exc.dep + 1) r.dep) ≤ max (n.exc.dep + 1) (max (e.dep + 1) r.dep) + 0; omega
    · rw [if_neg c] at hst
      exact nomatch hst
theorem fault_word {xs : List Str} : ∀ {ps : List (Nd × Nat)} {met : List Str} {out i : Nat} {wd : Str} {j : Nat}, firstFault xs ps met out i = some (wd, j) → wd ∈ (["name", "condition", "depth", "many"] : List Str)
  | [], _, _, _, _, _, h => nomatch h
  | (n, k) :: r, met, out, i, wd, j, h => by
    unfold firstFault at h
    cases e : faultAt xs met (outNext out k) i n k with
    | none =>
      rw [e] at h
      exact fault_word (ps := r) h
    | some w =>
      rw [e] at h
      cases h
      unfold faultAt at e
      split at e
      · cases e; decide
      · split at e
        · cases e; decide
        · split at e
          · cases e; decide
          · split at e
            · cases e; decide
            · cases e
section
variable {K : PySem.W.Frag} {C R B CB CU CN : Addr}
theorem am_out {N : Addr → Prop} {xs : List Str} {f : RF} {rl : Str} {m : Nat} {am : Am} {H : Hp} {Q : VK} {E : XK} (h : Inv xs f rl m) (hm : m ≤ 36) (hok : am.Ok2 xs) (h1 : am.stp xs f = .unk → ∀ H', Same H H' → E (.ref CU) none H') (h2 : am.stp xs f = .nonb → ∀ H', Same H H' → E (.ref CN) none H')
    (h3 : ∀ wd i, am.stp xs f = .flt wd i → errWI CB wd (i : Nat) H E) (h4 : am.stp xs f = .ok → ∀ H' b, Same H H' → BookAt K C R B N H' b xs (am.aft f rl).1 (am.aft f rl).2 → Q (.ref b) H') : AmOut K C R B CB CU CN N xs f rl am H Q E := by
  have hgo : am.stp xs f = .ok → Out K C R B CB N xs (am.aft f rl).1 (am.aft f rl).2 H Q E := fun e => ⟨(fun wd i ef => by rw [(aft_ok h hm hok e).2] at ef; cases ef), fun _ => h4 e⟩
  have hfl : ∀ g : RF × Str, g = am.aft f rl → am.stp xs f = fltOf (firstFault xs (g.1.pre 0) [] 0 0) → Out K C R B CB N xs (am.aft f rl).1 (am.aft f rl).2 H Q E := fun g hg e => by
    subst hg
    refine ⟨fun wd i ef => h3 wd i (by rw [e, ef]; rfl), fun ef => h4 (by rw [e, ef]; rfl)⟩
  cases am with
  | rul0 z => exact hgo rfl
  | add0 n => exact hfl _ rfl rfl
  | rule nm op =>
    have hst : (Am.rule nm op).stp xs f = (if nm ∈ f.names then op.stp xs f nm else .unk) := rfl
    refine ⟨fun c H' s' => h1 (by rw [hst, if_neg c]) H' s', fun c => ⟨fun e1 e2 H' s' => h2 (by rw [hst, if_pos c, e1]; show (if (RF.nxt nm f).isNone = true then Stp.nonb else .ok) = _; rw [e2]; rfl) H' s', fun e => ?_⟩⟩
    rw [if_pos c] at hst
    cases op with
    | before n => exact hfl _ rfl hst
    | add n => exact hfl _ rfl hst
    | swap =>
      refine hgo ?_
      rw [hst]
      show (if (RF.nxt nm f).isNone = true then Stp.nonb else .ok) = _
      cases hx : RF.nxt nm f with
      | none => exact absurd hx (e rfl)
      | some b => rfl
    | strike => exact hgo hst
    | ruling z => exact hgo hst
    | cond hs gs => exact hgo hst
end
theorem Inv.up {xs : List Str} {f : RF} {rl : Str} {m m' : Nat} (h : Inv xs f rl m) (l : m ≤ m') : Inv xs f rl m' := ⟨h.ev, h.nd, h.dp, Nat.le_trans h.sz l, h.rl⟩
end Sc
/-! a right amendment fits -/
namespace Sc
open PySem PySem.Spec PyProof.Rows L2
namespace RF
/-- the names behind a change that puts new ones in -/
theorem upd_perm {nm : Str} {G : Nd → RF → RF} {new : List Str} (g : ∀ n rest, (G n rest).names.Perm (new ++ n.nm :: (n.exc.names ++ rest.names))) : ∀ {f : RF}, f.names.Nodup → nm ∈ f.names → (upd nm G f).names.Perm (new ++ f.names)
  | .nil, _, h => nomatch h
  | .cons n hs fs rl exc rest, h, hm => by
    obtain ⟨h1, h2, h3, h4, h5⟩ := nodup_cons h
    rw [upd_cons, names_cons]
    by_cases e : n = nm
    · rw [if_pos e]
      exact g ⟨n, hs, fs, rl, exc⟩ rest
    · rw [if_neg e, names_cons]
      refine List.Perm.trans ?_ List.perm_middle.symm
      refine List.Perm.cons n ?_
      by_cases c : nm ∈ exc.names
      · rw [upd_no (h5 _ c), ← List.append_assoc]
        exact (upd_perm g h3 c).append_right _
      · have hr : nm ∈ rest.names := by
          rcases mem_cons3.mp hm with z | z | z
          · exact absurd z.symm e
          · exact absurd z c
          · exact z
        rw [upd_no c]
        refine ((upd_perm g h4 hr).append_left exc.names).trans ?_
        rw [← List.append_assoc, ← List.append_assoc]
        exact List.perm_append_comm.append_right _
end RF
theorem fits_ok {xs : List Str} {f : RF} {rl : Str} {am : Am} {n0 : Nd} (hn : f.names.Nodup) (hn' : (am.aft f rl).1.names.Nodup) (hst : am.stp xs f = .ok) (h0 : ∀ nm op, am = .rule nm op → f.find nm = some n0) : am.Fits f n0 := by
  cases am with
  | rul0 z => exact trivial
  | add0 m =>
    have h : (f.snoc m).names.Nodup := hn'
    rw [RF.snoc_names] at h
    exact fun z => (List.nodup_append.mp h).2.2 _ z _ List.mem_cons_self rfl
  | rule nm op =>
    have hf := h0 nm op rfl
    have hm : nm ∈ f.names := Decidable.byContradiction fun z => by rw [RF.find_none z] at hf; cases hf
    refine ⟨hf, hm, fun e => ?_, fun m e => ?_⟩
    · subst e
      intro z
      have h1 : (Am.rule nm .swap).stp xs f = .nonb := by
        show (if nm ∈ f.names then (if (RF.nxt nm f).isNone = true then Stp.nonb else Stp.ok) else Stp.unk) = _
        rw [if_pos hm, z]
        rfl
      rw [h1] at hst
      cases hst
    · have key : ∀ {l : List Str}, l.Perm ((m.nm :: m.exc.names) ++ f.names) → l.Nodup → ¬ m.nm ∈ f.names := fun p h z => by
        have h2 := p.nodup_iff.mp h
        exact (List.nodup_append.mp h2).2.2 _ List.mem_cons_self _ z rfl
      rcases e with rfl | rfl
      · refine key (RF.upd_perm (G := fun n rest => RF.put [m, n] rest) (fun n rest => ?_) hn hm) hn'
        show (RF.cons m.nm m.hs m.fs m.rl m.exc (RF.cons n.nm n.hs n.fs n.rl n.exc rest)).names.Perm _
        rw [RF.names_cons, RF.names_cons]
        exact List.Perm.refl _
      · refine key (RF.upd_perm (G := fun n rest => RF.put [n.wE (n.exc.snoc m)] rest) (fun n rest => ?_) hn hm) hn'
        show (RF.cons n.nm n.hs n.fs n.rl (n.exc.snoc m) rest).names.Perm _
        rw [RF.names_cons, RF.snoc_names]
        refine List.Perm.trans ?_ List.perm_middle.symm
        refine List.Perm.cons n.nm ?_
        rw [← List.append_assoc]
        exact List.perm_append_comm.append_right _
end Sc
/-! the state of k76's first loop -/
namespace Sc
open PySem PySem.Spec PyProof.Rows L2
theorem tabs_kp {a l : Addr} {H H' : Hp} {T : List (Addr × Str)} (k : Kp a l H H') (t : LamX.Tabs T H) : LamX.Tabs T H' := fun p hp => by
  obtain ⟨ps, h1, h2, h3⟩ := t p hp
  refine ⟨ps, k.keep _ _ (k.old.not h1 fun _ z => nomatch z).1 (k.old.not h1 fun _ z => nomatch z).2 h1, h2, fun pos cv e => ?_⟩
  obtain ⟨c, e1, e2⟩ := h3 pos cv e
  have n := k.old.not e2 fun _ z => by unfold LamX.CodeO at z; cases z
  exact ⟨c, e1, k.keep _ _ n.1 n.2 e2⟩
theorem RS.ext {a l : Addr} {H H' : Hp} (r : RS H a l) (e : LamX.ExtN H H') : RS H' a l := by
  obtain ⟨st, k, ns, h1, h2, q⟩ := r
  exact ⟨st, k, ns, e _ _ h1 (fun _ z => nomatch z), e _ _ h2 (fun _ z => nomatch z), q⟩
theorem ExtN_keeps {N : Addr → Prop} {H H' : Hp} (x : LamX.ExtN H H') : Keeps N H H' := fun b o st h => x _ _ h fun ps z => st.2.2 ps z
abbrev qLam : Str := (Str.ofString "law" ++ Str.ofString ".<locals>.") ++ Str.ofString "<lambda>"
/-- all but the law's own lists -/
abbrev Not4 (a l DB DP : Addr) : Addr → Prop := fun b => b ≠ a ∧ b ≠ l ∧ b ≠ DB ∧ b ≠ DP
/-- a book that stands for rules and a ruling -/
def BkV (K : PySem.W.Frag) (C R Bk : Addr) (N : Addr → Prop) (xs : List Str) (H : Hp) (v : V) (s : RF × Str) : Prop := ∃ o, v = .ref o ∧ BookAt K C R Bk N H o xs s.1 s.2
theorem BkV.keeps {K : PySem.W.Frag} {C R Bk : Addr} {N : Addr → Prop} {xs : List Str} {H H' : Hp} {v : V} {s : RF × Str} (h : BkV K C R Bk N xs H v s) (k : Keeps N H H') : BkV K C R Bk N xs H' v s := by
  obtain ⟨o, e, h⟩ := h
  exact ⟨o, e, h.keeps k⟩
theorem RealAt.keeps76 {K : PySem.W.Frag} {C R : Addr} {N : Addr → Prop} {H H' : Hp} {v : V} {am : Am} (k : Keeps N H H') (h : RealAt K C R N H v am) : RealAt K C R N H' v am := by
  cases am with
  | rul0 z => obtain ⟨t, e, h⟩ := h; exact ⟨t, e, k.tup h⟩
  | add0 m => obtain ⟨t, r, e, h, hr⟩ := h; exact ⟨t, r, e, k.tup h, hr.keeps k⟩
  | rule nm op =>
    cases op with
    | strike => obtain ⟨t, e, h⟩ := h; exact ⟨t, e, k.tup h⟩
    | swap => obtain ⟨t, e, h⟩ := h; exact ⟨t, e, k.tup h⟩
    | before m => obtain ⟨t, w, n, e, h, hr⟩ := h; exact ⟨t, w, n, e, k.tup h, OpV.keeps (op := .before m) k hr⟩
    | add m => obtain ⟨t, w, n, e, h, hr⟩ := h; exact ⟨t, w, n, e, k.tup h, OpV.keeps (op := .add m) k hr⟩
    | ruling z => obtain ⟨t, w, n, e, h, hr⟩ := h; exact ⟨t, w, n, e, k.tup h, OpV.keeps (op := .ruling z) k hr⟩
    | cond hs gs => obtain ⟨t, w, n, e, h, hr⟩ := h; exact ⟨t, w, n, e, k.tup h, OpV.keeps (op := .cond hs gs) k hr⟩
/-- states that amendments link -/
structure Chain (xs : List Str) (st : List (RF × Str)) (ams : List Am) : Prop where
  len : st.length = ams.length + 1
  step : ∀ i s am, st[i]? = some s → ams[i]? = some am → st[i + 1]? = some (am.aft s.1 s.2) ∧ am.stp xs s.1 = .ok ∧ am.Ok2 xs
  inv : ∀ i s, st[i]? = some s → Inv xs s.1 s.2 (12 + 2 * i)
theorem Chain.grow {xs : List Str} {st : List (RF × Str)} {ams : List Am} {s : RF × Str} {am : Am} (c : Chain xs st ams) (hs : st[ams.length]? = some s) (hok : am.stp xs s.1 = .ok) (h2 : am.Ok2 xs) (hi : Inv xs (am.aft s.1 s.2).1 (am.aft s.1 s.2).2 (12 + 2 * (ams.length + 1))) : Chain xs (st ++ [am.aft s.1 s.2]) (ams ++ [am]) := by
  have cl := c.len
  refine ⟨by rw [List.length_append, List.length_append, cl]; rfl, fun i s' am' e1 e2 => ?_, fun i s' e => ?_⟩
  · by_cases hi' : i < ams.length
    · rw [List.getElem?_append_left hi'] at e2
      rw [List.getElem?_append_left (by omega)] at e1
      obtain ⟨g1, g2⟩ := c.step i s' am' e1 e2
      refine ⟨?_, g2⟩
      rw [List.getElem?_append_left (by omega)]
      exact g1
    · have hl := (List.getElem?_eq_some_iff.mp e2).1
      rw [List.length_append, List.length_singleton] at hl
      have ei : i = ams.length := by omega
      subst ei
      rw [List.getElem?_append_left (by omega), hs] at e1
      rw [List.getElem?_append_right (Nat.le_refl _), Nat.sub_self] at e2
      cases e1
      cases e2
      refine ⟨?_, hok, h2⟩
      rw [List.getElem?_append_right (by omega), show ams.length + 1 - st.length = 0 by omega]
      rfl
  · by_cases hi' : i < st.length
    · rw [List.getElem?_append_left hi'] at e
      exact c.inv i s' e
    · have hl := (List.getElem?_eq_some_iff.mp e).1
      rw [List.length_append, List.length_singleton] at hl
      have ei : i = ams.length + 1 := by omega
      subst ei
      rw [List.getElem?_append_right (by omega), show ams.length + 1 - st.length = 0 by omega] at e
      cases e
      exact hi
structure S76 (K : PySem.W.Frag) (C R Bk PT a l p DB DP : Addr) (xs : List Str) (st : List (RF × Str)) (ams : List Am) (s : RF × Str) (H : Hp) : Prop where
  rs : RS H a l
  tb : LamX.Tabs [(PT, qLam)] H
  sn : SeenAt K H p xs s.1 s.2
  last : st[ams.length]? = some s
  ch : Chain xs st ams
  db : ∃ bs, H DB = some (.lst bs) ∧ All2 (BkV K C R Bk (Not4 a l DB DP) xs H) bs st
  dp : ∃ ps, H DP = some (.lst ps) ∧ All2 (RealAt K C R (Not4 a l DB DP) H) ps ams
  n1 : DB ≠ a ∧ DB ≠ l
  n2 : DP ≠ a ∧ DP ≠ l
  n3 : DB ≠ DP
section
variable {K : PySem.W.Frag} {C R Bk PT a l p DB DP : Addr} {xs : List Str} {st : List (RF × Str)} {ams : List Am} {s : RF × Str} {H H' : Hp}
theorem S76.same (S : S76 K C R Bk PT a l p DB DP xs st ams s H) (k : Same H H') : S76 K C R Bk PT a l p DB DP xs st ams s H' := by
  obtain ⟨bs, e1, h1⟩ := S.db
  obtain ⟨ps, e2, h2⟩ := S.dp
  exact ⟨S.rs.same k, S.tb.ext k, S.sn.keeps (N := NoL) k.keeps, S.last, S.ch, ⟨bs, k _ _ e1, h1.mono fun _ _ x => x.keeps k.keeps⟩, ⟨ps, k _ _ e2, h2.mono fun _ _ x => RealAt.keeps76 k.keeps x⟩, S.n1, S.n2, S.n3⟩
theorem S76.free (S : S76 K C R Bk PT a l p DB DP xs st ams s H) : ∀ b, H b = none → Not4 a l DB DP b := fun b e => by
  obtain ⟨bs, e1, _⟩ := S.db
  obtain ⟨ps, e2, _⟩ := S.dp
  exact ⟨(S.rs.no e).1, (S.rs.no e).2, (fun z => by rw [z, e1] at e; cases e), fun z => by rw [z, e2] at e; cases e⟩
theorem S76.kp (S : S76 K C R Bk PT a l p DB DP xs st ams s H) (k : Kp a l H H') : S76 K C R Bk PT a l p DB DP xs st ams s H' := by
  obtain ⟨bs, e1, h1⟩ := S.db
  obtain ⟨ps, e2, h2⟩ := S.dp
  have kk : Keeps (Not4 a l DB DP) H H' := k.keeps (fun h => h.1 rfl) (fun h => h.2.1 rfl)
  exact ⟨k.new, tabs_kp k S.tb, S.sn.keeps (N := NoL) k.keepsN, S.last, S.ch, ⟨bs, k.keep _ _ S.n1.1 S.n1.2 e1, h1.mono fun _ _ x => x.keeps kk⟩, ⟨ps, k.keep _ _ S.n2.1 S.n2.2 e2, h2.mono fun _ _ x => RealAt.keeps76 kk x⟩, S.n1, S.n2, S.n3⟩
theorem S76.ext (S : S76 K C R Bk PT a l p DB DP xs st ams s H) (x : LamX.ExtN H H') (t : LamX.Tabs [(PT, qLam)] H') : S76 K C R Bk PT a l p DB DP xs st ams s H' := by
  obtain ⟨bs, e1, h1⟩ := S.db
  obtain ⟨ps, e2, h2⟩ := S.dp
  exact ⟨S.rs.ext x, t, S.sn.keeps (N := NoL) (ExtN_keeps x), S.last, S.ch, ⟨bs, x _ _ e1 (fun _ z => nomatch z), h1.mono fun _ _ y => y.keeps (ExtN_keeps x)⟩, ⟨ps, x _ _ e2 (fun _ z => nomatch z), h2.mono fun _ _ y => RealAt.keeps76 (ExtN_keeps x) y⟩, S.n1, S.n2, S.n3⟩
theorem tabs_lst {T : List (Addr × Str)} {D : Addr} {us vs : List V} (e : H D = some (.lst us)) (t : LamX.Tabs T H) : LamX.Tabs T (upd H D (.lst vs)) := fun q hq => by
  obtain ⟨ps, h1, h2, h3⟩ := t q hq
  refine ⟨ps, by rw [upd_ne (fun z => by rw [z, e] at h1; cases h1)]; exact h1, h2, fun pos cv ec => ?_⟩
  obtain ⟨c, e1, e2⟩ := h3 pos cv ec
  exact ⟨c, e1, by rw [upd_ne (fun z => by rw [z, e] at e2; unfold LamX.CodeO at e2; cases e2)]; exact e2⟩
theorem rs_lst {D : Addr} {vs : List V} (r : RS H a l) (n : D ≠ a ∧ D ≠ l) : RS (upd H D (.lst vs)) a l := by
  obtain ⟨st, k, ns, h1, h2, q⟩ := r
  exact ⟨st, k, ns, by rw [upd_ne n.1.symm]; exact h1, by rw [upd_ne n.2.symm]; exact h2, q⟩
/-- a book and its amendment more -/
theorem S76.push {bs ps : List V} {o' p' : Addr} {v' : V} {am : Am} (S : S76 K C R Bk PT a l p DB DP xs st ams s H) (e1 : H DB = some (.lst bs)) (h1 : All2 (BkV K C R Bk (Not4 a l DB DP) xs H) bs st) (e2 : H DP = some (.lst ps)) (h2 : All2 (RealAt K C R (Not4 a l DB DP) H) ps ams)
    (hb : BookAt K C R Bk (Not4 a l DB DP) H o' xs (am.aft s.1 s.2).1 (am.aft s.1 s.2).2) (hv : RealAt K C R (Not4 a l DB DP) H v' am) (hsn : SeenAt K H p' xs (am.aft s.1 s.2).1 (am.aft s.1 s.2).2) (hok : am.stp xs s.1 = .ok) (hk : am.Ok2 xs) (hi : Inv xs (am.aft s.1 s.2).1 (am.aft s.1 s.2).2 (12 + 2 * (ams.length + 1))) :
    S76 K C R Bk PT a l p' DB DP xs (st ++ [am.aft s.1 s.2]) (ams ++ [am]) (am.aft s.1 s.2) (upd (upd H DB (.lst (bs ++ [.ref o']))) DP (.lst (ps ++ [v']))) := by
  have k1 : Keeps (Not4 a l DB DP) H (upd H DB (.lst (bs ++ [.ref o']))) := keeps_own e1 fun h => h.2.2.1 rfl
  have e2' : (upd H DB (.lst (bs ++ [.ref o']))) DP = some (.lst ps) := by rw [upd_ne S.n3.symm]; exact e2
  have k2 : Keeps (Not4 a l DB DP) (upd H DB (.lst (bs ++ [.ref o']))) (upd (upd H DB (.lst (bs ++ [.ref o']))) DP (.lst (ps ++ [v']))) := keeps_own e2' fun h => h.2.2.2 rfl
  have k := k1.trans k2
  have cl := S.ch.len
  refine ⟨rs_lst (rs_lst S.rs S.n1) S.n2, tabs_lst e2' (tabs_lst e1 S.tb), hsn.keeps k, ?_, S.ch.grow S.last hok hk hi, ⟨_, by rw [upd_ne S.n3]; exact upd_same, (h1.mono fun _ _ x => x.keeps k).snoc ⟨o', rfl, hb.keeps k⟩⟩, ⟨_, upd_same, (h2.mono fun _ _ x => RealAt.keeps76 k x).snoc (RealAt.keeps76 k hv)⟩, S.n1, S.n2, S.n3⟩
  rw [List.length_append, List.length_singleton, List.getElem?_append_right (by omega), show ams.length + 1 - st.length = 0 by omega]
  rfl
end
theorem stp_word {xs : List Str} {f : RF} {am : Am} {wd : Str} {i : Nat} (h : am.stp xs f = .flt wd i) : wd ∈ (["name", "condition", "depth", "many"] : List Str) := by
  have hf : ∀ {o : Option (Str × Nat)}, fltOf o = .flt wd i → o = some (wd, i) := fun {o} e => by
    cases o with
    | none => exact nomatch e
    | some p => cases e; rfl
  cases am with
  | rul0 z => exact nomatch h
  | add0 m => exact fault_word (hf h)
  | rule nm op =>
    have h : (if nm ∈ f.names then op.stp xs f nm else .unk) = Stp.flt wd i := h
    by_cases c : nm ∈ f.names
    · rw [if_pos c] at h
      cases op with
      | before m => exact fault_word (hf h)
      | add m => exact fault_word (hf h)
      | swap =>
        have h : (if (RF.nxt nm f).isNone = true then Stp.nonb else .ok) = Stp.flt wd i := h
        split at h <;> cases h
      | strike => exact nomatch h
      | ruling z => exact nomatch h
      | cond hs gs => exact nomatch h
    · rw [if_neg c] at h
      exact nomatch h
/-- as data: is it the empty text -/
theorem stp_dat {K : PySem.W.Frag} {H : Hp} {xs : List Str} {f : RF} {s : V} {am : Am} (hs : StpAt K H s (am.stp xs f)) : ∃ d, Dp K H s d ∧ SeqAt.shaped d = true ∧ ((d.eqv (.str "")) = decide (am.stp xs f = .ok)) := by
  cases e : am.stp xs f with
  | ok => rw [e] at hs; cases hs; exact ⟨_, .str _, by decide +kernel, by decide +kernel⟩
  | unk => rw [e] at hs; cases hs; exact ⟨_, .str _, by decide +kernel, by decide +kernel⟩
  | nonb => rw [e] at hs; cases hs; exact ⟨_, .str _, by decide +kernel, by decide +kernel⟩
  | flt wd i =>
    rw [e] at hs
    obtain ⟨t, rfl, ht⟩ := hs
    refine ⟨_, .tup ht (.cons (.str _) (.cons (.str _) (.cons (.int _) .nil))), ?_, ?_⟩
    · have hw := stp_word e
      have h : ∀ x ∈ (["name", "condition", "depth", "many"] : List Str), PyData.strOk x = true := by decide +kernel
      have h1 := h wd hw
      unfold SeqAt.shaped
      have e1 : (PyData.tuple [.str "InvalidBook", .str wd, .int (i : Nat)]).canLay0 = true := by
        show ((PyData.str "InvalidBook").canLay0 && (PyData.strOk wd && (PyData.canLay0 (.int (i : Nat)) && true))) = true
        rw [h1]
        show (PyData.strOk "InvalidBook" && (true && (true && true))) = true
        rw [show PyData.strOk "InvalidBook" = true by decide +kernel]
        rfl
      have e2 : (PyData.tuple [.str "InvalidBook", .str wd, .int (i : Nat)]).depth ≤ 64 := by
        show max _ (max _ (max _ _)) + 1 ≤ 64
        show max 0 (max 0 (max 0 0)) + 1 ≤ 64
        decide
      rw [e1, decide_eq_true e2]
      rfl
    · rw [decide_eq_false (fun z => nomatch z)]
      rfl
end Sc
/-! what k76's second loop asks -/
namespace Sc
open PySem PySem.Spec PyProof.Rows L2
/-- behind any amendment the rules are right and not too deep -/
theorem aft_okk {f : RF} {rl : Str} {am : Am} (hev : f.every NdOk) (hd : f.dep ≤ 6) (hok : am.Okk) : (am.aft f rl).1.every NdOk ∧ (am.aft f rl).1.dep ≤ 13 := by
  cases am with
  | rul0 z => exact ⟨hev, Nat.le_trans hd (by decide)⟩
  | add0 m =>
    obtain ⟨m1, m2, m3, m4⟩ := hok
    show (f.snoc m).every _ ∧ (f.snoc m).dep ≤ _
    rw [RF.snoc_dep]
    exact ⟨RF.snoc_every hev m1 m2, by omega⟩
  | rule nm op =>
    obtain ⟨_, hok⟩ := hok
    have h3 : (∀ n rest, (op.G n rest).dep ≤ max (n.exc.dep + 1) rest.dep + 6) ∧ ∀ n rest, NdOk n → n.exc.every NdOk → rest.every NdOk → (op.G n rest).every NdOk := by
      refine ⟨fun n rest => ?_, fun n rest h1 h2 h3 => ?_⟩
      · cases op with
        | strike => show rest.dep ≤ _; omega
        | swap =>
          show (swapG n rest).dep ≤ _
          cases rest with
          | nil => show max (n.exc.dep + 1) 0 ≤ max (n.exc.dep + 1) 0 + 6; omega
          | cons a b c d e r => show max (e.dep + 1) (max (n.exc.dep + 1) r.dep) ≤ max (n.exc.dep + 1) (max (e.dep + 1) r.dep) + 6; omega
        | before m =>
          obtain ⟨_, _, m3, m4⟩ := hok
          show max (m.exc.dep + 1) (max (n.exc.dep + 1) rest.dep) ≤ _
          omega
        | add m =>
          obtain ⟨_, _, m3, m4⟩ := hok
          show max ((n.exc.snoc m).dep + 1) rest.dep ≤ _
          rw [RF.snoc_dep]
          omega
        | ruling z => show max (n.exc.dep + 1) rest.dep ≤ _; omega
        | cond hs gs => show max (n.exc.dep + 1) rest.dep ≤ _; omega
      · cases op with
        | strike => exact h3
        | swap =>
          show (swapG n rest).every _
          cases rest with
          | nil => exact ⟨h1, h2, trivial⟩
          | cons a b c d e r => exact ⟨h3.1, h3.2.1, h1, h2, h3.2.2⟩
        | before m => exact ⟨hok.1, hok.2.1, h1, h2, h3⟩
        | add m => exact ⟨h1.wE, RF.snoc_every h2 hok.1 hok.2.1, h3⟩
        | ruling z => exact ⟨⟨h1.nm, hok, h1.c1, h1.c2⟩, h2, h3⟩
        | cond hs gs => exact ⟨⟨h1.nm, h1.rl, hok.1, hok.2⟩, h2, h3⟩
    have h4 := RF.upd_dep (nm := nm) h3.1 (f := f)
    exact ⟨RF.upd_every (fun n e hn => hn.wE) h3.2 hev, by show (RF.upd nm op.G f).dep ≤ 13; omega⟩
theorem name_of {f : RF} (hev : f.every NdOk) {x : Str} (h : x ∈ f.names) : isName x = true := by
  obtain ⟨n, e1, e2⟩ := RF.find_some h
  rw [← e2]
  exact (RF.find_part e1 hev).1.nm
/-- whatever may take an amendment back is fit to be tried -/
theorem backs_okk {f f' : RF} {rl : Str} {am : Am} {n0 : Nd} (hev : f.every NdOk) (hd : f.dep ≤ 6) (hz : f.size ≤ 60) (hrl : isName rl = true) (hev' : f'.every NdOk) (hok : am.Okk) (h0 : ∀ nm op, am = .rule nm op → f.find nm = some n0) : ∀ bk ∈ am.backs f rl f' n0, bk.Okk := by
  intro bk hb
  cases am with
  | rul0 z => rw [List.mem_singleton.mp hb]; exact hrl
  | add0 m => rw [List.mem_singleton.mp hb]; exact ⟨hok.1.nm, trivial⟩
  | rule nm op =>
    have hf := h0 nm op rfl
    obtain ⟨n1, n2, n3, n4⟩ := RF.find_part hf hev
    obtain ⟨hn, hok⟩ := hok
    cases op with
    | ruling z => rw [List.mem_singleton.mp hb]; exact ⟨hn, n1.rl⟩
    | cond hs gs => rw [List.mem_singleton.mp hb]; exact ⟨hn, n1.c1, n1.c2⟩
    | before m => rw [List.mem_singleton.mp hb]; exact ⟨hok.1.nm, trivial⟩
    | add m => rw [List.mem_singleton.mp hb]; exact ⟨hok.1.nm, trivial⟩
    | swap =>
      obtain ⟨x, hx, rfl⟩ := List.mem_map.mp hb
      exact ⟨name_of hev' hx, trivial⟩
    | strike =>
      rcases List.mem_append.mp hb with hb | hb
      · obtain ⟨x, hx, rfl⟩ := List.mem_map.mp hb
        exact ⟨name_of hev' hx, n1, n2, by omega, by omega⟩
      · rcases List.mem_append.mp hb with hb | hb
        · obtain ⟨x, hx, rfl⟩ := List.mem_map.mp hb
          exact ⟨name_of hev' hx, n1, n2, by omega, by omega⟩
        · rw [List.mem_singleton.mp hb]
          exact ⟨n1, n2, by omega, by omega⟩
theorem names_size : ∀ {f : RF}, f.names.length = f.size
  | .nil => rfl
  | .cons n hs fs rl exc rest => by
    rw [RF.names_cons, List.length_cons, List.length_append, names_size, names_size]
    show exc.size + rest.size + 1 = exc.size + 1 + rest.size
    omega
/-- a change that puts a rule in -/
theorem aft_size {f : RF} {rl : Str} {am : Am} {m : Nd} (hn : f.names.Nodup) (h : am = .add0 m ∨ ∃ nm, nm ∈ f.names ∧ (am = .rule nm (.before m) ∨ am = .rule nm (.add m))) : (am.aft f rl).1.size = f.size + (m.exc.size + 1) := by
  have hl : ∀ {l : List Str}, l.Perm ((m.nm :: m.exc.names) ++ f.names) → l.length = f.size + (m.exc.size + 1) := fun p => by
    rw [p.length_eq, List.length_append, List.length_cons, names_size, names_size]
    omega
  rcases h with rfl | ⟨nm, hm, rfl | rfl⟩
  · show (f.snoc m).size = _
    rw [RF.snoc_size]
  · rw [← names_size]
    refine hl (RF.upd_perm (G := fun n rest => RF.put [m, n] rest) (fun n rest => ?_) hn hm)
    show (RF.cons m.nm m.hs m.fs m.rl m.exc (RF.cons n.nm n.hs n.fs n.rl n.exc rest)).names.Perm _
    rw [RF.names_cons, RF.names_cons]
    exact List.Perm.refl _
  · rw [← names_size]
    refine hl (RF.upd_perm (G := fun n rest => RF.put [n.wE (n.exc.snoc m)] rest) (fun n rest => ?_) hn hm)
    show (RF.cons n.nm n.hs n.fs n.rl (n.exc.snoc m) rest).names.Perm _
    rw [RF.names_cons, RF.snoc_names]
    refine List.Perm.trans ?_ List.perm_middle.symm
    refine List.Perm.cons n.nm ?_
    rw [← List.append_assoc]
    exact List.perm_append_comm.append_right _
/-- an answer that is no book -/
def NoBk (K : PySem.W.Frag) (H : Hp) (r : V) : Prop := (∃ z, r = .str z) ∨ ∃ t xs, r = .ref t ∧ SqT K H t xs
/-- an amendment that is surely taken -/
def Sure (xs : List Str) (f : RF) (rl : Str) (am : Am) : Prop := firstFault xs ((am.aft f rl).1.pre 0) [] 0 0 = none ∧ ∀ nm op, am = .rule nm op → nm ∈ f.names ∧ (op = .swap → RF.nxt nm f ≠ none)
theorem any_out {K : PySem.W.Frag} {C R B CB CU CN CE : Addr} {cl : Nat → Addr} {N : Addr → Prop} {xs : List Str} {f : RF} {rl : Str} {am : Am} {H : Hp} {Q : VK} (eB : SayRow K cl CE CB 0) (eU : SayRow K cl CE CU 1) (eN : SayRow K cl CE CN 2)
    (hN : ∀ H' r, Same H H' → NoBk K H' r → ¬ Sure xs f rl am → Q r H') (hY : ∀ H' b, Same H H' → BookAt K C R B N H' b xs (am.aft f rl).1 (am.aft f rl).2 → Q (.ref b) H') : AmOut K C R B CB CU CN N xs f rl am H Q (EK K cl CE Q) := by
  have ho : Out K C R B CB N xs (am.aft f rl).1 (am.aft f rl).2 H Q (EK K cl CE Q) := by
    refine ⟨fun wd i ef H' d s' nd => ⟨CB, rfl, .inl ⟨eB, d, wd, i, rfl, upd_same, fun t H6 nt e6 => ?_⟩⟩, fun _ => hY⟩
    subst e6
    exact hN _ _ ((s'.put' nd).put' nt) (.inr ⟨t, _, rfl, sqT_new⟩) fun z => by rw [z.1] at ef; cases ef
  cases am with
  | rul0 z => exact ho
  | add0 m => exact ho
  | rule nm op =>
    refine ⟨fun c H' s' => ⟨CU, rfl, .inr (.inl ⟨eU, rfl, fun H2 s2 => hN H2 _ (s'.trans s2) (.inl ⟨_, rfl⟩) fun z => c (z.2 nm op rfl).1⟩)⟩, fun c => ⟨fun e1 e2 H' s' => ⟨CN, rfl, .inr (.inr ⟨eN, rfl, fun H2 s2 => hN H2 _ (s'.trans s2) (.inl ⟨_, rfl⟩) fun z => (z.2 nm op rfl).2 e1 e2⟩)⟩, fun _ => ho⟩⟩
section
variable {K : PySem.W.Frag} {C R : Addr} {N M : Addr → Prop} {H : Hp}
theorem BookAt.re {B : Addr} (g : ∀ b xs, N b → H b = some (.lst xs) → M b) {o : Addr} {xs : List Str} {f : RF} {rl : Str} (h : BookAt K C R B N H o xs f rl) : BookAt K C R B M H o xs f rl := by
  obtain ⟨dx, a, p, l, ws, us, h1, h2, h3, h4, ⟨h5, h6⟩, h7⟩ := h
  exact ⟨dx, a, p, l, ws, us, h1, h2, h3, h4.re g, ⟨g _ _ h5 h6, h6⟩, h7.mono fun _ _ ⟨o, e, x⟩ => ⟨o, e, x.re g⟩⟩
theorem RefAt.re (g : ∀ b xs, N b → H b = some (.lst xs) → M b) {v : V} {n : Nd} (h : RefAt K C R N H v n) : RefAt K C R M H v n := by
  obtain ⟨o, e, x⟩ := h
  exact ⟨o, e, x.re g⟩
theorem RealAt.re (g : ∀ b xs, N b → H b = some (.lst xs) → M b) {v : V} {am : Am} (h : RealAt K C R N H v am) : RealAt K C R M H v am := by
  cases am with
  | rul0 z => exact h
  | add0 m => obtain ⟨t, r, e, h, hr⟩ := h; exact ⟨t, r, e, h, hr.re g⟩
  | rule nm op =>
    cases op with
    | strike => exact h
    | swap => exact h
    | before m => obtain ⟨t, w, n, e, h, hr⟩ := h; exact ⟨t, w, n, e, h, hr.1, RefAt.re g hr.2⟩
    | add m => obtain ⟨t, w, n, e, h, hr⟩ := h; exact ⟨t, w, n, e, h, hr.1, RefAt.re g hr.2⟩
    | ruling z => exact h
    | cond hs gs => exact h
end
/-- the words of an amendment, and whether it puts a rule in -/
theorem RealAt.head {K : PySem.W.Frag} {C R : Addr} {N : Addr → Prop} {H : Hp} {v : V} {am : Am} (h : RealAt K C R N H v am) : ∃ (t : Addr) (w : Str) (tl : List V), v = .ref t ∧ SqT K H t (.str w :: tl) ∧
    ((w ∈ (["add", "before"] : List Str)) → ∃ m x y, tl = [x, y] ∧ RefAt K C R N H y m ∧ (am = .add0 m ∨ ∃ nm, am = .rule nm (.before m) ∨ am = .rule nm (.add m))) := by
  cases am with
  | rul0 z => obtain ⟨t, e, h⟩ := h; exact ⟨t, _, _, e, h, fun z => absurd z (by decide)⟩
  | add0 m => obtain ⟨t, r, e, h, hr⟩ := h; exact ⟨t, _, _, e, h, fun _ => ⟨m, _, r, rfl, hr, .inl rfl⟩⟩
  | rule nm op =>
    cases op with
    | strike => obtain ⟨t, e, h⟩ := h; exact ⟨t, _, _, e, h, fun z => absurd z (by decide)⟩
    | swap => obtain ⟨t, e, h⟩ := h; exact ⟨t, _, _, e, h, fun z => absurd z (by decide)⟩
    | before m => obtain ⟨t, w, n, e, h, rfl, hr⟩ := h; exact ⟨t, _, _, e, h, fun _ => ⟨m, _, n, rfl, hr, .inr ⟨nm, .inl rfl⟩⟩⟩
    | add m => obtain ⟨t, w, n, e, h, rfl, hr⟩ := h; exact ⟨t, _, _, e, h, fun _ => ⟨m, _, n, rfl, hr, .inr ⟨nm, .inr rfl⟩⟩⟩
    | ruling z => obtain ⟨t, w, n, e, h, rfl, hr⟩ := h; exact ⟨t, _, _, e, h, fun z => absurd z (by decide)⟩
    | cond hs gs => obtain ⟨t, w, n, e, h, rfl, hr⟩ := h; exact ⟨t, _, _, e, h, fun z => absurd z (by decide)⟩
theorem extN_at {H0 H : Hp} {D : Addr} {vs : List V} (x : LamX.ExtN H0 H) (n : H0 D = none) : LamX.ExtN H0 (upd H D (.lst vs)) := fun b o e hn => by
  rw [upd_ne (fun z => by rw [z, n] at e; cases e)]
  exact x _ _ e hn
theorem backs_len {f f' : RF} {rl : Str} {am : Am} {n0 : Nd} : (am.backs f rl f' n0).length ≤ 2 * f'.size + 1 := by
  cases am with
  | rul0 z => exact Nat.le_add_left 1 _
  | add0 m => exact Nat.le_add_left 1 _
  | rule nm op =>
    cases op with
    | ruling z => exact Nat.le_add_left 1 _
    | cond hs gs => exact Nat.le_add_left 1 _
    | before m => exact Nat.le_add_left 1 _
    | add m => exact Nat.le_add_left 1 _
    | swap =>
      show (f'.names.map fun x => Am.rule x .swap).length ≤ _
      rw [List.length_map, names_size]
      omega
    | strike =>
      show ((f'.names.map fun x => Am.rule x (.before n0)) ++ ((f'.names.map fun x => Am.rule x (.add n0)) ++ [Am.add0 n0])).length ≤ _
      rw [List.length_append, List.length_append, List.length_map, List.length_map, List.length_singleton, names_size]
      omega
end Sc
namespace Sc
open PySem PySem.Spec PyProof.Rows L2
theorem sc_law : FnScope ["_law_script", "_law_h", "_law_drawn_here", "_law_past", "_law_step", "_law_amendment_here", "_law_real_here", "_law_found", "_law_later", "_law_back", "_law_books", "_law_place"] ["_law_script"] (defScope s_law) := ⟨rfl, rfl, rfl, by decide +kernel, rfl, by decide +kernel, by decide +kernel⟩
/-- the == of a class -/
structure EqO (P : Program) (w : World) (K : PySem.W.Frag) (mg : Str → Option Value) (base : Heap) (k : Nat) (C : Addr) (sp : Sp) : Prop where
  ex : ∃ (g : Addr) (fd : FuncData), PySem.W.findIn K (.ref C) "__eq__" = some (some (.ref g)) ∧ PySem.W.isFn K (.ref g) = true ∧ FnOk P w K mg base CX0 k g fd ["self", "other"] sp ∧ Binds K fd ["self", "other"] []
  ob : PySem.W.mroIn K C (.type "object") = some true
  ne : PySem.W.findIn K (.ref C) "__ne__" = some (some (.builtin "object.__ne__"))
/-- the length of an object of a class -/
structure LenM (P : Program) (w : World) (K : PySem.W.Frag) (mg : Str → Option Value) (base : Heap) (k : Nat) (C g : Addr) (fd : FuncData) (sp : Sp) : Prop where
  at_ : PySem.W.findIn K (.ref C) "__len__" = some (some (.ref g))
  ty : PySem.W.typeIn K (.ref g) = some (.type "function")
  fn : FnOk P w K mg base CX0 k g fd ["self"] sp
  b : Binds K fd ["self"] []
section
variable {X : Cx} {k : Nat} {C : Addr} {ps : List Str} {sp : Sp}
theorem op_eqM (M : EqO X.prog X.w X.K X.mg X.base k C sp) (hr : Room k X.A) : OpR X (compareOp .Eq) (rEqO X.K C sp E0) := by
  obtain ⟨g, fd, h1, h2, F, hb⟩ := M.ex
  exact op_eqO h1 h2 F hr hb pass0
theorem op_neM (M : EqO X.prog X.w X.K X.mg X.base k C sp) (hr : Room (k + 1) X.A) : OpR X (compareOp .NotEq) (rNeO X.K C sp E0) := by
  obtain ⟨g, fd, h1, h2, F, hb⟩ := M.ex
  exact op_neO M.ob M.ne h1 h2 F hr hb pass0
end
theorem chain0 {xs : List Str} {f : RF} {rl : Str} (h : Inv xs f rl 12) : Chain xs [(f, rl)] [] := ⟨rfl, (fun i s am _ e2 => by rw [List.getElem?_nil] at e2; cases e2), fun i s e => by
  match i, e with
  | 0, e => cases e; exact h
  | i + 1, e => cases e⟩
section
variable {P : Program} {w : World} {K : PySem.W.Frag} {mg : Str → Option Value} {base : Heap}
def sp_law (K : PySem.W.Frag) (PT : Addr) : Sp := fun vs H Q _ => ∃ (s : Addr) (ns : List Int), vs = [.ref s] ∧ SqL K H s (ns.map V.int) ∧ ns.length ≤ 63 ∧ (∀ z ∈ ns, Builtin.Int.intBits z ≤ 1048576) ∧ H PT = some (.tbl #[]) ∧ ∀ H', Q (.bl true) H'
theorem ok_law {f : Addr} {fd : FuncData} {c PT : Addr} {g : Addr} {fdE : FuncData} {cl : Nat → Addr} {CE C R Bk CB CU CN gB gR : Addr} {fB fR : FuncData} (F : FunC K "law" "law" s_law f fd c) (B : Blt mg) (G : GSay mg cl CE)
    (FE : Fun K "_law_say" "_law_say" s__law_say g fdE) (mE : mg "_law_say" = some (.ref g)) (bE : Binds K fdE ["_law_work"] []) (TB : LamX.TabB base mg c PT) (TBk : Cls K Bk) (IBk : IsiC K Bk) (kBs : PySem.W.kitOne K (.ref Bk) (.type "str") = some false) (kBt : PySem.W.kitOne K (.ref Bk) (.type "tuple") = some false)
    (eB : SayRow K cl CE CB 0) (eU : SayRow K cl CE CU 1) (eN : SayRow K cl CE CN 2) (lB : LenM P w K mg base 1 Bk gB fB (sp_blen K C R Bk)) (lR : LenM P w K mg base 1 R gR fR (sp_rlen K C R)) (mBe : EqO P w K mg base 29 Bk (sp_bans K C R Bk))
    (c__law_mix : Cal P w K mg base CX0 1 "_law_mix" ["_law_script", "_law_seed"] (sp_mix K)) (c__law_next : Cal P w K mg base CX0 1 "_law_next" ["_law_h", "_law_limit"] sp_next)
    (c__law_facts : Cal P w K mg base CX0 2 "_law_facts" ["_law_h", "_law_most"] sp_facts) (c__law_drawn : Cal P w K mg base CX0 6 "_law_drawn" ["_law_h", "_law_facts_here", "_law_most"] (sp_drawn K))
    (c__law_book : Cal P w K mg base CX0 31 "_law_book" ["_law_drawn_here"] (sp_book2 K C R Bk)) (c__law_amendment : Cal P w K mg base CX0 16 "_law_amendment" ["_law_h", "_law_drawn_here"] (sp_amt K)) (c__law_real : Cal P w K mg base CX0 31 "_law_real" ["_law_amendment_here"] (sp_real K C R))
    (c__law_stop : Cal P w K mg base CX0 16 "_law_stop" ["_law_drawn_here", "_law_amendment_here"] (sp_stop K)) (c__law_after : Cal P w K mg base CX0 15 "_law_after" ["_law_drawn_here", "_law_amendment_here"] (sp_after K)) (c__law_backs : Cal P w K mg base CX0 5 "_law_backs" ["_law_book_here", "_law_later", "_law_amendment_here"] (sp_backs K C R Bk))
    (c_amended : Cal P w K mg base (L2.CX P w) 34 "amended" ["book", "amendment"] (sp_amended K C R Bk CB CU CN)) :
    FnOk P w K mg base CX0 38 f fd ["_law_script"] (sp_law K PT) := by
  refine F.ok sc_law (fun vs H Q E h => by obtain ⟨s, ns, rfl, _⟩ := h; rfl) (fun A outer s H vs Q E hr h => ?_)
  obtain ⟨s, ns, rfl, hS, hl, hb, hT, q⟩ := h
  refine ⟨_, (pss_cons (ps_set (i := 1) sc_law.nd rfl (Or.inl rfl) (pe_cal c__law_mix (hr.mono (by decide)) (pa_cons (pv 0) (pa_cons pe_int pa_nil))))
      (pss_cons (ps_set (i := 2) sc_law.nd rfl (Or.inl rfl) (pe_cal c__law_drawn (hr.mono (by decide)) (pa_cons (pv 1) (pa_cons (pe_cal c__law_facts (hr.mono (by decide)) (pa_cons (pv 1) (pa_cons pe_int pa_nil))) (pa_cons pe_int pa_nil)))))
      (pss_cons (ps_asg (pe_tup (pa_cons (pe_lst (pa_cons (pe_cal c__law_book (hr.mono (by decide)) (pa_cons (pv 2) pa_nil)) pa_nil)) (pa_cons (pe_lst pa_nil) pa_nil))) (pg_tup (by rfl) (pgs_cons (pg_name (i := 10) sc_law.nd rfl (Or.inr rfl)) (pgs_cons (pg_name (i := 3) sc_law.nd rfl (Or.inl rfl)) pgs_nil))))
      (pss_cons (ps_for PassesOwn.never rfl (pi_range1 (by rfl) B.b_range (pa_cons (pe_cal c__law_next (hr.mono (by decide)) (pa_cons (pv 1) (pa_cons pe_int pa_nil))) pa_nil)) (pg_name (i := 4) sc_law.nd rfl (Or.inl rfl)) (pss_cons (ps_set (i := 5) sc_law.nd rfl (Or.inl rfl) (pe_cal c__law_amendment (hr.mono (by decide)) (pa_cons (pv 1) (pa_cons (pv 2) pa_nil))))
      (pss_one (ps_if (pt_cmpR (op_eqD hr.units) (pe_cal c__law_stop (hr.mono (by decide)) (pa_cons (pv 2) (pa_cons (pv 5) pa_nil))) pe_str (nomark _)) (pss_cons (ps_set (i := 2) sc_law.nd rfl (Or.inl rfl) (pe_cal c__law_after (hr.mono (by decide)) (pa_cons (pv 2) (pa_cons (pv 5) pa_nil))))
      (pss_cons (ps_set (i := 6) sc_law.nd rfl (Or.inl rfl) (pe_cal c__law_real (hr.mono (by decide)) (pa_cons (pv 5) pa_nil)))
      (pss_cons (ps_expr (pe_bm PySem.F.plainAttrs_list PySem.F.slot_list_append PySem.F.type_list_append mt_append (pv 10) (pa_cons (pe_calN c_amended (hr.mono (by decide)) (pa_cons (pe_ix ix_list (pv 10) (pe_un un_neg pe_int) (fun _ _ => rfl)) (pa_cons (pv 6) pa_nil))) pa_nil)))
      (pss_cons (ps_expr (pe_bm PySem.F.plainAttrs_list PySem.F.slot_list_append PySem.F.type_list_append mt_append (pv 3) (pa_cons (pv 6) pa_nil)))
      (pss_one (ps_if (pt_cmpR (op_neM mBe (hr.mono (by decide))) (pe_ix ix_list (pv 10) (pe_un un_neg pe_int) (fun _ _ => rfl)) (pe_cal c__law_book (hr.mono (by decide)) (pa_cons (pv 2) pa_nil)) (nomark _)) (pss_one (ps_ret pe_bl)) pss_nil)))))) pss_nil))))
      (pss_cons (ps_for PassesOwn.never rfl (pi_range3 (by rfl) B.b_range (pa_cons (pe_op op_sub (pe_callB call_len_seq (by rfl) B.b_len PySem.boot_len (pa_cons (pv 3) pa_nil)) pe_int) (pa_cons (pe_un un_neg pe_int) (pa_cons (pe_un un_neg pe_int) pa_nil)))) (pg_name (i := 11) sc_law.nd rfl (Or.inr rfl)) (pss_cons (ps_set (i := 7) sc_law.nd rfl (Or.inl rfl) (pe_lst pa_nil))
      (pss_cons (ps_for PassesOwn.never rfl (pi_list (pe_cal c__law_backs (hr.mono (by decide)) (pa_cons (pe_ix ix_list (pv 10) (pv 11) (fun _ _ => rfl)) (pa_cons (pe_ix ix_list (pv 10) (pe_op op_add (pv 11) pe_int) (fun _ _ => rfl)) (pa_cons (pe_ix ix_list (pv 3) (pv 11) (fun _ _ => rfl)) pa_nil))))) (pg_name (i := 9) sc_law.nd rfl (Or.inr rfl)) (pss_cons (ps_set (i := 8) sc_law.nd rfl (Or.inl rfl) (pe_saylam FE mE bE B G TB rfl (hr.mono (by decide)) (LamX.lamS_by (show LamX.lamSB (defScope s_law) _ = true by decide +kernel)) rfl (fun _ _ _ _ _ => rfl) (fun A' outer' s' H' E' f' c' hr' => (pe_.re (pe_calX c_amended hr' (takes_of rfl rfl rfl rfl) (pa_cons (pe_ix ix_list (pv 10) (pe_op op_add (pv 11) pe_int) (fun _ _ => rfl)) (pa_cons (pv 9) pa_nil))) (by first | (dsimp only [LamX.lamCx]; done) | exact rfl)))))
      (pss_one (ps_if (PW.pt (pw_and (pt_not (pt_val (pe_callB call_isiT (by rfl) B.b_isinstance PyProof.Rows.boot_isinstance (pa_cons (pv 8) (pa_cons (pe_tup (pa_cons (pe_bltn (v := .ty "str") (by rfl) B.b_str PyProof.Rows.boot_str rfl) (pa_cons (pe_bltn (v := .ty "tuple") (by rfl) B.b_tuple PyProof.Rows.boot_tuple rfl) pa_nil))) pa_nil))))) (pw_and1 (pt_cmpR (op_eqM mBe (hr.mono (by decide))) (pv 8) (pe_ix ix_list (pv 10) (pv 11) (fun _ _ => rfl)) (nomark _))))) (pss_one (ps_expr (pe_bm PySem.F.plainAttrs_list PySem.F.slot_list_append PySem.F.type_list_append mt_append (pv 7) (pa_cons (pv 9) pa_nil)))) pss_nil))))
      (pss_cons (ps_if (pt_cmpR (op_eqE hr.units) (pv 7) (pe_lst pa_nil) (nomark _)) (pss_one (ps_ret pe_bl)) pss_nil)
      (pss_one (ps_if (PW.pt (pw_and (pt_cmpR op_in_seq (pe_ix ix_tup (pe_ix ix_list (pv 3) (pv 11) (fun _ _ => rfl)) pe_int (fun _ _ => rfl)) (pe_tup (pa_cons pe_str (pa_cons pe_str pa_nil))) rfl) (pw_and1 (pt_cmpR op_ne (pe_callB (call_lenO lB.at_ lB.ty lB.fn (hr.mono (by decide)) lB.b) (by rfl) B.b_len PySem.boot_len (pa_cons (pe_ix ix_list (pv 10) (pe_op op_add (pv 11) pe_int) (fun _ _ => rfl)) pa_nil)) (pe_op op_add (pe_callB (call_lenO lB.at_ lB.ty lB.fn (hr.mono (by decide)) lB.b) (by rfl) B.b_len PySem.boot_len (pa_cons (pe_ix ix_list (pv 10) (pv 11) (fun _ _ => rfl)) pa_nil)) (pe_callB (call_lenO lR.at_ lR.ty lR.fn (hr.mono (by decide)) lR.b) (by rfl) B.b_len PySem.boot_len (pa_cons (pe_ix ix_tup (pe_ix ix_list (pv 3) (pv 11) (fun _ _ => rfl)) pe_int (fun _ _ => rfl)) pa_nil))) (nomark _))))) (pss_one (ps_ret pe_bl)) pss_nil))))))
      (pss_one (ps_ret pe_bl))))))), ?_⟩
  refine ⟨.ref s, rfl, s, ns, 76, rfl, hS, hl, hb, by decide, by decide, fun H1 a l s1 R1 => ?_⟩
  have Tb1 : LamX.Tabs [(PT, qLam)] H1 := by
    intro p hp
    rw [List.mem_singleton.mp hp]
    exact LamX.TabS.nil (s1 _ _ hT)
  refine ⟨_, rfl, _, rfl, a, l, 5, rfl, R1, by decide, by decide, fun H4 fp fs k4 efp nfp sub f1 f2 => ?_⟩
  have hright : Right fs := ten_right.sub sub
  refine ⟨a, l, fp, fs, 4, rfl, k4.new, sqT_of efp, hright, by omega, by decide, fun H5 p f rl k5 dr hn3 => ?_⟩
  obtain ⟨pr, ws, ep, hP, hX⟩ := dr.at_
  have Tb5 := tabs_kp (k4.trans k5) Tb1
  have hS5 : SqT K H5 fp (fs.map V.str) := k5.keepsN.tup (sqT_of efp)
  have hnames := dr.nm
  have hsz : f.size ≤ 12 := by obtain ⟨k, ns, e⟩ := hnames; exact names12_len e
  have hdp := dr.dp
  have hfs0 : fs ≠ [] := fun z => by rw [z] at f1; exact absurd f1 (by decide)
  have hnod : f.names.Nodup := by
    obtain ⟨k, ns', e⟩ := hnames
    have h1 : (f.names ++ ns').Nodup := by rw [e]; exact names12_nodup.sublist (List.drop_sublist _ _)
    exact (List.nodup_append.mp h1).1
  have hi0 : Inv fs f rl 12 := ⟨dr.ev, hnod, by omega, hsz, three_name _ dr.rl⟩
  have hev : f.every NdOk := RF.every_mono (fun _ h => h.ok) dr.ev
  refine ⟨_, rfl, (fun b => b ≠ a ∧ b ≠ l), p, fp, pr, fs, rl, ws, f, rfl, sqT_of ep, hS5, hright.fines.txts, by omega, hP, hX, (fun b e => k5.new.no e), hev, by omega, by omega, hright.bad hfs0 (by omega), hi0.ok (by decide), hi0.rl, fun H6 ob s6 hB => ?_⟩
  refine ⟨(by show 1 ≤ sizeLine; rw [sizeLine_eq]; decide), fun DB nB => ⟨Nat.zero_le _, fun DP nP => ⟨(by show 2 ≤ sizeLine; rw [sizeLine_eq]; decide), fun tp nt => ?_⟩⟩⟩
  have R6 := k5.new.same s6
  have ndb := R6.no nB
  have sB : Same H6 (upd H6 DB (.lst [.ref ob])) := (Same.refl H6).put nB
  have eB0 : (upd H6 DB (.lst [.ref ob])) DB = some (.lst [.ref ob]) := upd_same
  generalize upd H6 DB (.lst [.ref ob]) = H7 at sB eB0 nP nt ⊢
  have ndp := (R6.same sB).no nP
  have hne : DB ≠ DP := fun z => by rw [← z, eB0] at nP; cases nP
  have hDP6 := sB.free nP
  have sP : Same H7 (upd H7 DP (.lst [])) := (Same.refl H7).put nP
  have eP0 : (upd H7 DP (.lst [])) DP = some (.lst []) := upd_same
  generalize upd H7 DP (.lst []) = H8 at sP eP0 nt ⊢
  have sT : Same H8 (upd H8 tp (.tup [.ref DB, .ref DP])) := (Same.refl H8).put nt
  have eT : (upd H8 tp (.tup [.ref DB, .ref DP])) tp = some (.tup [.ref DB, .ref DP]) := upd_same
  generalize upd H8 tp (.tup [.ref DB, .ref DP]) = H9 at sT eT ⊢
  have s69 := (sB.trans sP).trans sT
  have hB4 : BookAt K C R Bk (Not4 a l DB DP) H6 ob fs f rl := by
    obtain ⟨dx, aa, p', l', ws', us', h1, h2, h3, h4, ⟨h5, h6⟩, h7⟩ := hB
    have g : ∀ b xs, (b ≠ a ∧ b ≠ l) → H6 b = some (.lst xs) → Not4 a l DB DP b := fun b xs h e => ⟨h.1, h.2, (fun z => by rw [z, nB] at e; cases e), (fun z => by rw [z, hDP6] at e; cases e)⟩
    exact ⟨dx, aa, p', l', ws', us', h1, h2, h3, h4.re g, ⟨g _ _ h5 h6, h6⟩, h7.mono fun _ _ ⟨o, e, x⟩ => ⟨o, e, x.re g⟩⟩
  have S0 : S76 K C R Bk PT a l p DB DP fs [(f, rl)] [] (f, rl) H9 := ⟨R6.same s69, (Tb5.ext s6).ext s69, (show SeenAt K H6 p fs f rl from ⟨fp, pr, ws, sqT_of (s6 _ _ ep), s6.tup hS5, s6.tup hP, hX.keeps (N := NoL) s6.keeps⟩).keeps (N := NoL) s69.keeps, rfl,
    chain0 hi0, ⟨_, (sP.trans sT) _ _ eB0, .one ⟨ob, rfl, hB4.keeps s69.keeps⟩⟩, ⟨[], sT _ _ eP0, .nil⟩, ndb, ndp, hne⟩
  refine ⟨tp, _, rfl, sqT_of eT, rfl, _, _, rfl, _, _, rfl, rfl, ?_⟩
  refine ⟨_, rfl, a, l, 9, rfl, S0.rs, by decide, by decide, fun H10 r k10 r0 r1 => ?_⟩
  have S10 := S0.kp k10
  obtain ⟨rn, rfl⟩ : ∃ j : Nat, r = j := ⟨r.toNat, by omega⟩
  refine ⟨_, rfl, by omega, by omega, for_it walk_range (fun i σ H' => ∃ (y0 y4 y5 y6 y7 y8 y9 y11 : Option V) (p : Addr) (st : List (RF × Str)) (ams : List Am) (s : RF × Str), σ = [y0, some (.ref a), some (.ref p), some (.ref DP), y4, y5, y6, y7, y8, y9, some (.ref DB), y11] ∧ S76 K C R Bk PT a l p DB DP fs st ams s H' ∧ ams.length ≤ i)
    ⟨_, _, _, _, _, _, _, _, p, _, _, _, rfl, S10, Nat.zero_le _⟩ (fun _ _ _ _ _ => trivial) ?_ ?_⟩
  · clear S0 S10 hB hB4 hX hP ep Tb5 hS5
    rintro i x σ H11 H11' hi ⟨y0, y4, y5, y6, y7, y8, y9, y11, p, st, ams, s, rfl, S, hlen⟩ ⟨rfl, hy⟩
    have hi : i < 8 := by
      have : i < rn := by simpa using hi
      omega
    have hinv := S.ch.inv _ _ S.last
    have hsz := hinv.sz
    have hdp := hinv.dp
    have hev : s.1.every NdOk := RF.every_mono (fun _ h => h.ok) hinv.ev
    have hbk : BkOk fs s.1 s.2 := hinv.bk (by omega) hright hfs0 (by omega)
    refine ⟨_, rfl, _, rfl, a, l, p, fs, s.1, s.2, rfl, S.rs, S.sn, hright, by omega, by omega, by omega, hinv.ev, fun H12 v am k12 ham hok => ?_⟩
    have S12 := S.kp k12
    refine ⟨_, rfl, _, rfl, p, v, fs, s.1, s.2, am, rfl, S12.sn, ham, hinv.nd, hinv.ev, by omega, by omega, hok, fun H13 r s13 hst => ?_⟩
    have S13 := S12.same s13
    obtain ⟨d, hd1, hd2, hd3⟩ := stp_dat hst
    refine ⟨_, _, hd1, .str _, hd2, by decide +kernel, _, rfl, ?_⟩
    rw [hd3]
    refine bcase (fun c => ?_) (fun c => ⟨_, _, _, _, _, _, _, _, p, st, ams, s, rfl, S13, by omega⟩)
    have hgo : am.stp fs s.1 = .ok := of_decide_eq_true c
    obtain ⟨hi2, hff⟩ := aft_ok hinv (by omega) hok hgo
    have ham13 := ham.keeps (N := NoL) s13.keeps
    have hsw : ∀ nm, am = .rule nm .swap → nm ∈ s.1.names → RF.nxt nm s.1 ≠ none := fun nm e hm z => by
      subst e
      have h1 : (Am.rule nm .swap).stp fs s.1 = .nonb := by
        show (if nm ∈ s.1.names then (if (RF.nxt nm s.1).isNone = true then Stp.nonb else Stp.ok) else Stp.unk) = _
        rw [if_pos hm, z]
        rfl
      rw [h1] at hgo
      cases hgo
    refine ⟨_, rfl, _, rfl, p, v, fs, s.1, s.2, am, rfl, S13.sn, ham13, by omega, by omega, hinv.nd, hsw, fun H14 p' s14 hsn' => ?_⟩
    have S14 := S13.same s14
    have ham14 := ham13.keeps (N := NoL) s14.keeps
    refine ⟨_, rfl, Not4 a l DB DP, v, am, rfl, ham14, hok.okk, S14.free, fun H15 v' s15 hreal => ?_⟩
    have S15 := S14.same s15
    obtain ⟨bs, eDB, hbs⟩ := S15.db
    obtain ⟨ps, eDP, hps⟩ := S15.dp
    have hbl := hbs.len
    have hpl := hps.len
    have hcl := S15.ch.len
    obtain ⟨bs0, vb, rfl⟩ : ∃ (bs0 : List V) (vb : V), bs = bs0 ++ [vb] := by
      rcases List.eq_nil_or_concat bs with h | ⟨b0, v0, h⟩
      · rw [h, List.length_nil] at hbl; omega
      · exact ⟨b0, v0, by rw [h, List.concat_eq_append]⟩
    rw [List.length_append, List.length_singleton] at hbl
    obtain ⟨s', hs', o, rfl, hBo⟩ := hbs.get (i := ams.length) (a := vb) (by rw [List.getElem?_append_right (by omega), show ams.length - bs0.length = 0 by omega]; rfl)
    obtain rfl : s = s' := Option.some.inj (S15.last.symm.trans hs')
    have no1 : ∀ {x : Stp}, am.stp fs s.1 = x → x ≠ .ok → False := fun e h => h (e.symm.trans hgo)
    refine ⟨_, rfl, .inl ⟨rfl, _, sqL_of eDB⟩, _, rfl, 1, rfl, DB, _, _, _, rfl, rfl, sqL_of eDB, atI_last _ _, _, rfl, Not4 a l DB DP, o, fs, s.1, s.2, v', am, rfl, hBo, hbk, S15.free, hreal, hok.okk, am_out hinv (by omega) hok (fun e => (no1 e (fun z => nomatch z)).elim) (fun e => (no1 e (fun z => nomatch z)).elim) (fun wd i e => (no1 e (fun z => nomatch z)).elim) (fun _ H16 b16 s16 hB16 => ?_)⟩
    have S16 := S15.same s16
    refine ⟨DB, _, _, rfl, rfl, s16 _ _ eDB, (by rw [List.length_append, sizeLine_eq, List.length_singleton]; omega), ?_⟩
    have eDB16 := s16 _ _ eDB
    have eDP16 := s16 _ _ eDP
    have S18 := S16.push (v' := v') (p' := p') eDB16 (hbs.mono fun _ _ x => x.keeps s16.keeps) eDP16 (hps.mono fun _ _ x => RealAt.keeps76 s16.keeps x) hB16 (RealAt.keeps76 s16.keeps hreal) ((hsn'.keeps (N := NoL) s15.keeps).keeps (N := NoL) s16.keeps) hgo hok (hi2.up (by omega))
    refine ⟨_, rfl, .inl ⟨rfl, _, sqL_of (by rw [upd_ne S.n3.symm]; exact eDP16)⟩, _, rfl, DP, ps, _, rfl, rfl, (by rw [upd_ne S.n3.symm]; exact eDP16), (by rw [sizeLine_eq]; omega), ?_⟩
    have eDB18 : (upd (upd H16 DB (.lst (bs0 ++ [V.ref o] ++ [.ref b16]))) DP (.lst (ps ++ [v']))) DB = some (.lst (bs0 ++ [V.ref o] ++ [.ref b16])) := by rw [upd_ne S.n3]; exact upd_same
    generalize upd (upd H16 DB (.lst (bs0 ++ [V.ref o] ++ [.ref b16]))) DP (.lst (ps ++ [v'])) = H18 at S18 eDB18 ⊢
    have hBx : BookAt K C R Bk (Not4 a l DB DP) H18 b16 fs (am.aft s.1 s.2).1 (am.aft s.1 s.2).2 := by
      obtain ⟨bs', e', h'⟩ := S18.db
      rw [eDB18] at e'
      cases e'
      obtain ⟨s', hs', o', eo, hb'⟩ := h'.get (i := st.length) (a := .ref b16) (by rw [List.getElem?_append_right (by rw [List.length_append, List.length_singleton]; omega), show st.length - (bs0 ++ [V.ref o]).length = 0 by rw [List.length_append, List.length_singleton]; omega]; rfl)
      rw [List.getElem?_append_right (Nat.le_refl _), Nat.sub_self] at hs'
      cases hs'
      cases eo
      exact hb'
    obtain ⟨fp', pr', ws', hsp, hsf, hspr, hsX⟩ := S18.sn
    have hev2 : (am.aft s.1 s.2).1.every NdOk := RF.every_mono (fun _ h => h.ok) hi2.ev
    have hdp2 := hi2.dp
    have hsz2 := hi2.sz
    refine ⟨_, rfl, 1, rfl, DB, _, _, _, rfl, rfl, sqL_of eDB18, atI_last _ _, _, rfl, Not4 a l DB DP, p', fp', pr', fs, _, ws', _, rfl, hsp, hsf, hright.fines.txts, by omega, hspr, hsX, S18.free, hev2, by omega, by omega, hright.bad hfs0 (by omega), hi2.ok (by omega), hi2.rl, fun H19 b19 s19 hB19 => ?_⟩
    have hBy := hBx.keeps (N := Not4 a l DB DP) s19.keeps
    obtain ⟨dx1, _, _, _, _, _, ho1, _⟩ := id hBy
    obtain ⟨dx2, _, _, _, _, _, ho2, _⟩ := id hB19
    refine ⟨b16, dx1, _, .ref Bk, rfl, ho1, .ins ho2, (by simp [PySem.W.notFirst]), Not4 a l DB DP, b16, b19, fs, fs, _, _, _, _, rfl, hBy, hB19, hev2, hev2, hright.fines, hright.fines, by omega, fun H20 ans s20 hans => ?_⟩
    obtain rfl : ans = true := hans.mpr ⟨rfl, rfl, rfl⟩
    exact ⟨_, rfl, _, rfl, iteF ⟨_, _, _, _, _, _, _, _, p', _, _, _, rfl, (S18.same s19).same s20, by rw [List.length_append, List.length_singleton]; omega⟩⟩
  · rintro σ H11 ⟨y0, y4, y5, y6, y7, y8, y9, y11, p, st, ams, s, rfl, S, hlen⟩
    obtain ⟨ps, eDP, hps⟩ := S.dp
    have hpl := hps.len
    have hcl := S.ch.len
    refine ⟨_, rfl, DP, _, rfl, .inl (sqL_of eDP), _, _, rfl, rfl, _, rfl, _, rfl, ?_⟩
    refine ⟨_, _, _, _, rfl, RgC.neg (by omega) (by omega) (by omega) (by omega), for_it walk_rangeC (fun i σ H' => ∃ (y0 y4 y5 y6 y7 y8 y9 y11 : Option V), σ = [y0, some (.ref a), some (.ref p), some (.ref DP), y4, y5, y6, y7, y8, y9, some (.ref DB), y11] ∧ S76 K C R Bk PT a l p DB DP fs st ams s H')
      ⟨_, _, _, _, _, _, _, _, rfl, S⟩ (fun _ _ _ _ _ => trivial) ?_ ?_⟩
    · clear eDP hps S
      rintro i x σ H12' H12 hi ⟨y0, y4, y5, y6, y7, y8, y9, y11, rfl, S⟩ ⟨rfl, hy⟩
      obtain ⟨pl, hpl2, rfl⟩ : ∃ pl : Nat, pl < ams.length ∧ x = .int (pl : Int) := ⟨ams.length - 1 - i, by omega, by rw [hy]; exact congrArg V.int (by omega)⟩
      obtain ⟨bs, eDB, hbs⟩ := S.db
      obtain ⟨qs, eDP, hqs⟩ := S.dp
      have hbl := hbs.len
      have hql := hqs.len
      obtain ⟨vb, evb⟩ : ∃ v, bs[pl]? = some v := ⟨_, List.getElem?_eq_getElem (by omega)⟩
      obtain ⟨vc, evc⟩ : ∃ v, bs[pl + 1]? = some v := ⟨_, List.getElem?_eq_getElem (by omega)⟩
      obtain ⟨vp, evp⟩ : ∃ v, qs[pl]? = some v := ⟨_, List.getElem?_eq_getElem (by omega)⟩
      obtain ⟨⟨f, rl⟩, es0, o, rfl, hBo⟩ := hbs.get evb
      obtain ⟨am, eam, hvp⟩ := hqs.get evp
      obtain ⟨es1, hgo, hok⟩ := S.ch.step _ _ _ es0 eam
      have hinv := S.ch.inv _ _ es0
      have hinv1 := S.ch.inv _ _ es1
      obtain ⟨⟨f1, rl1⟩, es1', o1, rfl, hBo1⟩ := hbs.get evc
      have e1 : am.aft f rl = (f1, rl1) := Option.some.inj (es1.symm.trans es1')
      rw [e1] at hinv1
      have hsz : f.size ≤ 12 + 2 * pl := hinv.sz
      have hsz1 : f1.size ≤ 12 + 2 * (pl + 1) := hinv1.sz
      have hdp : f.dep ≤ 6 := hinv.dp
      have hdp1 : f1.dep ≤ 6 := hinv1.dp
      have hev : f.every NdOk := RF.every_mono (fun _ h => h.ok) hinv.ev
      have hev1 : f1.every NdOk := RF.every_mono (fun _ h => h.ok) hinv1.ev
      have hbk1 : BkOk fs f1 rl1 := hinv1.bk (by omega) hright hfs0 (by omega)
      have hnd : f.names.Nodup := hinv.nd
      have hnd1 : f1.names.Nodup := hinv1.nd
      have hff : firstFault fs (f.pre 0) [] 0 0 = none := hinv.ok (by omega)
      have hrl : isName rl = true := hinv.rl
      obtain ⟨n0, h0⟩ : ∃ n0, ∀ nm op, am = .rule nm op → f.find nm = some n0 := by
        cases am with
        | rul0 z => exact ⟨⟨"", [], [], "", .nil⟩, fun _ _ e => nomatch e⟩
        | add0 m => exact ⟨⟨"", [], [], "", .nil⟩, fun _ _ e => nomatch e⟩
        | rule nm op =>
          have hm : nm ∈ f.names := Decidable.byContradiction fun z => by
            have h1 : (Am.rule nm op).stp fs f = (if nm ∈ f.names then op.stp fs f nm else .unk) := rfl
            rw [if_neg z] at h1
            have hgo : (Am.rule nm op).stp fs f = .ok := hgo
            rw [hgo] at h1
            cases h1
          obtain ⟨n, h1, _⟩ := RF.find_some hm
          exact ⟨n, fun nm' op' e => by cases e; exact h1⟩
      obtain ⟨bk, hbk, hback, hsure⟩ := backs_ok (rl := rl) (am := am) hnd (fits_ok (rl := rl) hnd (by rw [e1]; exact hnd1) hgo h0)
      rw [e1] at hbk hback hsure
      have hokb := backs_okk (f' := f1) hev hdp (by omega) hrl hev1 hok.okk h0
      refine ⟨Nat.zero_le _, fun DF nF => ?_⟩
      have ndf : Not4 a l DB DP DF := S.free DF nF
      have sF : Same H12 (upd H12 DF (.lst [])) := (Same.refl H12).put nF
      have eF0 : (upd H12 DF (.lst [])) DF = some (.lst []) := upd_same
      generalize upd H12 DF (.lst []) = H13 at sF eF0 ⊢
      have re5 : ∀ b xs, Not4 a l DB DP b → H12 b = some (.lst xs) → (fun b => Not4 a l DB DP b ∧ b ≠ DF) b := fun b xs h e => ⟨h, fun z => by rw [z, nF] at e; cases e⟩
      have hA13 : BookAt K C R Bk (fun b => Not4 a l DB DP b ∧ b ≠ DF) H13 o fs f rl := (BookAt.re re5 hBo).keeps sF.keeps
      have hB13 : BookAt K C R Bk (fun b => Not4 a l DB DP b ∧ b ≠ DF) H13 o1 fs f1 rl1 := (BookAt.re re5 hBo1).keeps sF.keeps
      have hV13 : RealAt K C R (fun b => Not4 a l DB DP b ∧ b ≠ DF) H13 vp am := RealAt.keeps76 sF.keeps (RealAt.re re5 hvp)
      refine ⟨_, rfl, _, rfl, DB, _, _, _, rfl, rfl, sqL_of (sF _ _ eDB), atI_nat evb, ?_⟩
      have e1x : atI bs ((pl : Int) + 1) = some (.ref o1) := atI_nat (j := pl + 1) evc
      refine ⟨_, rfl, _, rfl, _, _, rfl, rfl, DB, _, _, _, rfl, rfl, sqL_of (sF _ _ eDB), e1x, _, rfl, _, rfl, DP, _, _, _, rfl, rfl, sqL_of (sF _ _ eDP), atI_nat evp, fun b => Not4 a l DB DP b ∧ b ≠ DF, o, o1, vp, fs, f, f1, rl, rl1, am, n0, rfl, hA13, hB13, hV13, by omega, by omega, h0, fun H14 D us s14 eD hus => ?_⟩
      have s24 := sF.trans s14
      have S14 := S.same s24
      have hul := hus.len
      obtain ⟨j, hj⟩ := List.mem_iff_getElem?.mp hbk
      have hjl : j < us.length := by rw [hul]; exact (List.getElem?_eq_some_iff.mp hj).1
      have hDF : D ≠ DF := fun z => by
        rw [z, s14 _ _ eF0] at eD
        cases eD
        exact absurd hjl (Nat.not_lt_zero _)
      have hbkl := backs_len (f := f) (rl := rl) (f' := f1) (am := am) (n0 := n0)
      refine ⟨D, rfl, ⟨_, sqL_of eD⟩, for_it walk_list (fun i σ H' => ∃ (y8 y9 : Option V) (fl : List V), σ = [y0, some (.ref a), some (.ref p), some (.ref DP), y4, y5, y6, some (.ref DF), y8, y9, some (.ref DB), some (.int (pl : Nat))] ∧ LamX.ExtN H12 H' ∧ LamX.Tabs [(PT, qLam)] H' ∧ Keeps (fun b => Not4 a l DB DP b ∧ b ≠ DF) H14 H' ∧ H' DF = some (.lst fl) ∧ fl.length ≤ i ∧ (j < i → fl ≠ []) ∧ H' D = some (.lst us))
        ⟨_, _, _, rfl, LamX.ExtN.of s24, S14.tb, fun b o st h => h, s14 _ _ eF0, Nat.le_refl _, fun z => absurd z (Nat.not_lt_zero _), eD⟩ (fun _ _ _ _ ⟨_, _, _, _, _, _, _, _, _, _, e⟩ => sqL_of e) ?_ ?_⟩
      · rintro k x σ H15' H15 hk ⟨y8, y9, fl, rfl, x15, t15, k15, eF15, hfl, hjf, eD15⟩ ⟨rfl, hx⟩
        obtain ⟨bq, ebq, hrq⟩ := hus.get hx
        have hqo : bq.Okk := hokb bq (List.mem_of_getElem? ebq)
        refine ⟨t15, fun H16 x16 t16 => ?_⟩
        have x26 := x15.trans x16
        have k16 := k15.trans (ExtN_keeps x16)
        have hA16 := (hA13.keeps s14.keeps).keeps k16
        have hB16 := (hB13.keeps s14.keeps).keeps k16
        have hr16 := RealAt.keeps76 k16 hrq
        have S16 := S.ext x26 t16
        have eDB16 : H16 DB = some (.lst bs) := x26 _ _ eDB (fun _ z => nomatch z)
        have eF16 : H16 DF = some (.lst fl) := x16 _ _ eF15 (fun _ z => nomatch z)
        have eD16 : H16 D = some (.lst us) := x16 _ _ eD15 (fun _ z => nomatch z)
        have fr16 : ∀ b, H16 b = none → Not4 a l DB DP b ∧ b ≠ DF := fun b e => ⟨S16.free b e, fun z => by rw [z, eF16] at e; cases e⟩
        refine ⟨_, rfl, _, rfl, _, _, rfl, rfl, DB, _, _, _, rfl, rfl, sqL_of eDB16, e1x, _, rfl, (fun b => Not4 a l DB DP b ∧ b ≠ DF), o1, fs, f1, rl1, x, bq, rfl, hB16, hbk1, fr16, hr16, hqo, any_out eB eU eN (fun H17 r s17 hno hns => ?_) (fun H17 b17 s17 hb17 => ?_)⟩
        · have S17 := S16.same s17
          obtain ⟨ty, hty, hkt⟩ : ∃ ty : Value, (∀ H', Same H17 H' → TyX K H' r ty) ∧ PySem.W.kitAny K ty [.type "str", .type "tuple"] = some true := by
            rcases hno with ⟨z, rfl⟩ | ⟨t, zs, rfl, ht⟩
            · exact ⟨.type "str", fun H' _ => .base (.str z), kitAny_cons (b := true) (kit_ty (by decide +kernel)) (fun z => nomatch z) (fun _ => rfl)⟩
            · exact ⟨.type "tuple", fun H' s' => tyT (s'.tup ht), kitAny_cons (b := false) (kit_ty (by decide +kernel)) (fun _ => kitAny_cons (b := true) (kit_ty (by decide +kernel)) (fun z => nomatch z) (fun _ => rfl)) (fun z => nomatch z)⟩
          refine ⟨_, rfl, (by show 2 ≤ sizeLine; rw [sizeLine_eq]; decide), fun tp ntp => ⟨_, tp, _, ty, [.type "str", .type "tuple"], true, rfl, upd_same, .cons (.ty _) (.cons (.ty _) .nil), hty _ ((Same.refl H17).put ntp), hkt, true, rfl, iteF (iteF ?_)⟩⟩
          have s18 : Same H16 (upd H17 tp (.tup [.ty "str", .ty "tuple"])) := s17.put' ntp
          generalize upd H17 tp (.tup [.ty "str", .ty "tuple"]) = H18 at s18 ⊢
          refine ⟨_, _, fl, rfl, x26.trans (LamX.ExtN.of s18), t16.ext s18, k16.trans s18.keeps, s18 _ _ eF16, by omega, fun hjk => ?_, s18 _ _ eD16⟩
          by_cases c : j < k
          · exact hjf c
          · obtain rfl : j = k := by omega
            obtain rfl : bk = bq := Option.some.inj (hj.symm.trans ebq)
            exact absurd ⟨by rw [hback]; exact hff, hsure⟩ hns
        · have S17 := S16.same s17
          obtain ⟨dx1, _, _, _, _, _, ho1, _⟩ := id hb17
          refine ⟨_, rfl, (by show 2 ≤ sizeLine; rw [sizeLine_eq]; decide), fun tp ntp => ?_⟩
          have s18' : Same H17 (upd H17 tp (.tup [.ty "str", .ty "tuple"])) := (Same.refl H17).put ntp
          have s18 : Same H16 (upd H17 tp (.tup [.ty "str", .ty "tuple"])) := s17.trans s18'
          refine ⟨_, tp, _, .ref Bk, [.type "str", .type "tuple"], false, rfl, upd_same, .cons (.ty _) (.cons (.ty _) .nil), .base (.ins (s18' _ _ ho1) TBk IBk.ca IBk.cn IBk.ct IBk.cm), kitAny_cons (b := false) kBs (fun _ => kitAny_cons (b := false) kBt (fun _ => kitAny_nil) (fun z => nomatch z)) (fun z => nomatch z), false, rfl, iteT ?_⟩
          generalize upd H17 tp (.tup [.ty "str", .ty "tuple"]) = H18 at s18' s18 ⊢
          have hA18 := hA16.keeps (N := fun b => Not4 a l DB DP b ∧ b ≠ DF) s18.keeps
          have hb18 := hb17.keeps (N := fun b => Not4 a l DB DP b ∧ b ≠ DF) s18'.keeps
          obtain ⟨dx2, _, _, _, _, _, ho2, _⟩ := id hA18
          obtain ⟨hq1, hq2⟩ := aft_okk (rl := rl1) hev1 hdp1 hqo
          refine ⟨_, rfl, _, rfl, _, rfl, DB, _, _, _, rfl, rfl, sqL_of (s18 _ _ eDB16), atI_nat evb, ?_⟩
          refine ⟨b17, dx1, _, .ref Bk, rfl, s18' _ _ ho1, .ins ho2, (by simp [PySem.W.notFirst]), (fun b => Not4 a l DB DP b ∧ b ≠ DF), b17, o, fs, fs, _, _, _, _, rfl, hb18, hA18, hq1, hev, hright.fines, hright.fines, hq2, fun H19 ans s19 hans => ?_⟩
          have s69 := s18.trans s19
          have x29 := x26.trans (LamX.ExtN.of s69)
          have t29 := t16.ext s69
          have k29 := k16.trans (s69.keeps (N := fun b => Not4 a l DB DP b ∧ b ≠ DF))
          have eF19 := s69 _ _ eF16
          have eD19 := s69 _ _ eD16
          refine ⟨_, rfl, bcase (fun ha => ?_) (fun ha => ?_)⟩
          · have hkl : k < us.length := hk
            refine ⟨_, rfl, .inl ⟨rfl, _, sqL_of eF19⟩, _, rfl, DF, fl, _, rfl, rfl, eF19, (by rw [sizeLine_eq]; omega), ?_⟩
            refine ⟨_, _, fl ++ [x], rfl, extN_at x29 nF, tabs_lst eF19 t29, k29.trans (keeps_own eF19 fun h => h.2 rfl), upd_same, by rw [List.length_append, List.length_singleton]; omega, fun _ => by simp, ?_⟩
            rw [upd_ne hDF]
            exact eD19
          · refine ⟨_, _, fl, rfl, x29, t29, k29, eF19, by omega, fun hjk => ?_, eD19⟩
            by_cases c : j < k
            · exact hjf c
            · obtain rfl : j = k := by omega
              obtain rfl : bk = bq := Option.some.inj (hj.symm.trans ebq)
              rw [hans.mpr ⟨rfl, by rw [hback], by rw [hback]⟩] at ha
              cases ha
      · rintro σ H15 ⟨y8, y9, fl, rfl, x15, t15, k15, eF15, hfl, hjf, eD15⟩
        have hne := hjf hjl
        refine ⟨_, rfl, Nat.zero_le _, fun DN nN => ?_⟩
        have sN : Same H15 (upd H15 DN (.lst [])) := (Same.refl H15).put nN
        have eN0 : (upd H15 DN (.lst [])) DN = some (.lst []) := upd_same
        generalize upd H15 DN (.lst []) = H16 at sN eN0 ⊢
        have x16 := x15.trans (LamX.ExtN.of sN)
        have S16 := S.ext x16 (t15.ext sN)
        have eDB16 : H16 DB = some (.lst bs) := x16 _ _ eDB (fun _ z => nomatch z)
        have eDP16 : H16 DP = some (.lst qs) := x16 _ _ eDP (fun _ z => nomatch z)
        have hA16 := hBo.keeps (ExtN_keeps x16)
        have hB16 := hBo1.keeps (ExtN_keeps x16)
        obtain ⟨t, wd, tl, rfl, hT, hin⟩ := (RealAt.keeps76 (ExtN_keeps x16) hvp).head
        refine ⟨DF, DN, fl, rfl, rfl, sN _ _ eF15, eN0, _, rfl, bcase (fun z => absurd (List.isEmpty_iff.mp z) hne) (fun _ => ?_)⟩
        refine ⟨_, rfl, _, rfl, DP, _, _, _, rfl, rfl, sqL_of eDP16, atI_nat evp, t, _, 0, _, rfl, rfl, hT, atI_nat (j := 0) rfl, (by show 2 ≤ sizeLine; rw [sizeLine_eq]; decide), fun tp ntp => ⟨tp, _, rfl, .inr sqT_new, rfl, rfl, _, rfl, ?_⟩⟩
        have sT : Same H16 (upd H16 tp (.tup [.str "add", .str "before"])) := (Same.refl H16).put ntp
        generalize upd H16 tp (.tup [.str "add", .str "before"]) = H17 at sT ⊢
        refine bcase (fun c => ?_) (fun _ => iteF ?_)
        · have hwd : wd ∈ (["add", "before"] : List Str) := by
            rcases Bool.or_eq_true_iff.mp c with h | h
            · rw [← eq_of_beq (show (("add" : Str) == wd) = true from h)]
              exact List.mem_cons_self
            · rcases Bool.or_eq_true_iff.mp h with h | h
              · rw [← eq_of_beq (show (("before" : Str) == wd) = true from h)]
                exact List.mem_cons_of_mem _ List.mem_cons_self
              · exact absurd (show false = true from h) Bool.false_ne_true
          obtain ⟨m, v1, v2, rfl, ⟨om, rfl, hm⟩, ham⟩ := hin hwd
          have hA17 := hA16.keeps (N := Not4 a l DB DP) sT.keeps
          have hB17 := hB16.keeps (N := Not4 a l DB DP) sT.keeps
          have hm17 := hm.keeps (N := Not4 a l DB DP) sT.keeps
          obtain ⟨dxA, _, _, _, _, _, hoA, _⟩ := id hA17
          obtain ⟨dxB, _, _, _, _, _, hoB, _⟩ := id hB17
          obtain ⟨dxm, _, _, _, _, hom, _⟩ := id hm17
          have hz : f1.size = f.size + (m.exc.size + 1) := by
            have h := aft_size (f := f) (rl := rl) (am := am) (m := m) hnd (by
              rcases ham with e | ⟨nm, e⟩
              · exact .inl e
              · refine .inr ⟨nm, ?_, e⟩
                have hf : f.find nm = some n0 := by
                  rcases e with e | e
                  · exact h0 nm _ e
                  · exact h0 nm _ e
                exact Decidable.byContradiction fun z => by rw [RF.find_none z] at hf; cases hf)
            rw [e1] at h
            exact h
          refine ⟨_, rfl, _, rfl, _, _, rfl, rfl, DB, _, _, _, rfl, rfl, sqL_of (sT _ _ eDB16), e1x, o1, dxB, _, rfl, hoB, Not4 a l DB DP, o1, fs, f1, rl1, rfl, hB17, f1.size, rfl, by omega, ?_⟩
          refine ⟨_, rfl, _, rfl, DB, _, _, _, rfl, rfl, sqL_of (sT _ _ eDB16), atI_nat evb, o, dxA, _, rfl, hoA, Not4 a l DB DP, o, fs, f, rl, rfl, hA17, f.size, rfl, by omega, ?_⟩
          refine ⟨_, rfl, _, rfl, DP, _, _, _, rfl, rfl, sqL_of (sT _ _ eDP16), atI_nat evp, t, _, 2, _, rfl, rfl, sT.tup hT, atI_nat (j := 2) rfl, om, dxm, _, rfl, hom, Not4 a l DB DP, om, m, rfl, hm17, m.exc.size + 1, rfl, by omega, _, _, rfl, rfl, rfl, _, rfl, ?_⟩
          have e0 : (!decide (V.int (f1.size : Int) = V.int ((f.size : Int) + ((m.exc.size + 1 : Nat) : Int)))) = false := by
            rw [decide_eq_true (show V.int (f1.size : Int) = V.int ((f.size : Int) + ((m.exc.size + 1 : Nat) : Int)) from by rw [hz]; rfl)]
            rfl
          rw [e0]
          exact iteF ⟨_, _, _, _, _, _, _, _, rfl, S16.same sT⟩
        · exact ⟨_, _, _, _, _, _, _, _, rfl, S16.same sT⟩
    · rintro σ H12 ⟨y0, y4, y5, y6, y7, y8, y9, y11, rfl, S⟩
      exact q H12
end
end Sc
namespace Sc
open PySem PySem.Spec PyProof.Rows L2
theorem four {K : PySem.W.Frag} {D : Value} (h1 : PySem.W.findIn K D "index" = some none) (h2 : PySem.W.findIn K D "part" = some none) (h3 : PySem.W.findIn K D "word" = some none) (h4 : PySem.W.findIn K D "fact" = some none) :
    ∀ n ∈ (["index", "part", "word", "fact"] : List Str), PySem.W.findIn K D n = some none := by
  intro n hn
  simp only [List.mem_cons, List.not_mem_nil, or_false] at hn
  rcases hn with rfl | rfl | rfl | rfl
  · exact h1
  · exact h2
  · exact h3
  · exact h4
theorem exm_by {K : PySem.W.Frag} {D C : Addr} (h1 : PySem.W.subIn K (.ref C) (.type "BaseException") = some true) (h2 : PySem.W.isClsIn K C = true) (h3 : PySem.W.typeIn K (.ref C) = some (.type "type")) (h4 : PySem.W.subIn K (.ref D) (.ref C) = some true) : PySem.W.exmOne K (.ref D) (.ref C) = some true := by
  have e1 : (PySem.W.subIn K (.ref C) (.type "BaseException") == some true) = true := by rw [h1] <;> rfl
  have e2 : ((PySem.W.clsIn K C).isSome && PySem.W.typeIn K (.ref C) == some (.type "type")) = true := by
    have h2' : (PySem.W.clsIn K C).isSome = true := h2
    rw [h2', h3] <;> rfl
  unfold PySem.W.exmOne PySem.W.kitCls
  rw [if_pos e1]
  dsimp only
  rw [if_pos e2]
  exact h4
theorem kit_by {K : PySem.W.Frag} {D C : Addr} {b : Bool} (h1 : PySem.W.subIn K (.ref D) (.ref D) = some true) (h2 : PySem.W.isClsIn K C = true) (h3 : PySem.W.typeIn K (.ref C) = some (.type "type")) (h4 : PySem.W.subIn K (.ref D) (.ref C) = some b) : PySem.W.kitOne K (.ref D) (.ref C) = some b := by
  have e2 : ((PySem.W.clsIn K C).isSome && PySem.W.typeIn K (.ref C) == some (.type "type")) = true := by
    have h2' : (PySem.W.clsIn K C).isSome = true := h2
    rw [h2', h3] <;> rfl
  unfold PySem.W.kitOne
  split
  · rename_i e
    have e := eq_of_beq e
    cases e
    exact h1.symm.trans h4
  · unfold PySem.W.kitCls
    dsimp only
    rw [if_pos e2]
    exact h4
theorem kit_ve {K : PySem.W.Frag} {D : Addr} (h : PySem.W.subIn K (.ref D) (.type "ValueError") = some true) : PySem.W.kitOne K (.ref D) (.type "ValueError") = some true := by
  unfold PySem.W.kitOne PySem.W.kitCls
  rw [if_neg (by intro z; cases eq_of_beq z)]
  dsimp only
  rw [if_pos (by decide +kernel)]
  exact h
theorem codeHd_by {K : PySem.W.Frag} {c T : Addr} {o : Obj} (lk : K.lookup c = some o) (h : PySem.W.codeHdIn [(c, o)] c T = true) : PySem.W.codeHdIn K c T = true := by
  unfold PySem.W.codeHdIn at h ⊢
  rw [lk]
  have e : ([(c, o)] : PySem.W.Frag).lookup c = some o := by simp [List.lookup]
  rw [e] at h
  exact h
theorem lookup_no {K : PySem.W.Frag} {a : Addr} (h : (K.map (·.1)).contains a = false) : K.lookup a = none := by
  induction K with
  | nil => rfl
  | cons p r ih =>
    rw [List.map_cons, List.contains_cons, Bool.or_eq_false_iff] at h
    obtain ⟨x, o⟩ := p
    rw [List.lookup_cons, h.1]
    exact ih h.2
theorem sup_by {K : PySem.W.Frag} {C CE : Addr} {z : Value} {nm q nm2 q2 : Str} {N N2 : Addr} {bs bm su bs2 bm2 su2 : List Value} {sn sn2 : List Str} {ab ab2 : Bool} {col col2 : Option Bool} {dd dd2 : Option Addr} {x0 x1 x2 x3 x5 y0 y1 y2 y3 y5 : Option Value}
    (xC : K.lookup C = some (excClassObj nm q C N bs bm true sn su ab col dd x0 x1 x2 x3 x5 "ValueError.__new__")) (xE : K.lookup CE = some (excClassObj nm2 q2 CE N2 bs2 bm2 true sn2 su2 ab2 col2 dd2 y0 y1 y2 y3 y5 "ValueError.__new__"))
    (e : bm = .ref CE :: bm2) (f : PySem.W.findIn K (.ref CE) "__init__" = some (some z)) : PySem.W.ks_superIn K C C "__init__" = some (some z) := by
  subst e
  unfold PySem.W.ks_superIn PySem.W.clsIn
  unfold PySem.W.findIn at f
  dsimp only at f
  rw [xC]
  rw [xE] at f
  simp only [excClassObj] at f ⊢
  simp
  exact f
/-- a def that calls itself: depth by depth -/
theorem rec_all {P : Program} {w : World} {K : PySem.W.Frag} {mg : Str → Option Value} {base : Heap} {S : Nat → Sp} {k : Nat} {x : Str} {f : Addr} {fd : FuncData} {ps : List Str} (step : ∀ d, Cal P w K mg base CX0 (d + k) x ps (Below S d) → FnOk P w K mg base CX0 (d + k + 1) f fd ps (S d))
    (hm : mg x = some (.ref f)) (kp : PySem.W.keepIn K (.ref f) = true) (b : Binds K fd ps []) : ∀ d, FnOk P w K mg base CX0 (d + k + 1) f fd ps (S d)
  | 0 => step 0 ⟨_, _, FnOk.never, hm, kp, b⟩
  | d + 1 => step (d + 1) ⟨_, _, (by have h := rec_all step hm kp b d; rw [show d + k + 1 = d + 1 + k by omega] at h; exact h), hm, kp, b⟩
theorem kit_tyC {K : PySem.W.Frag} {a : String} {C : Addr} {b : Bool} (h2 : PySem.W.isClsIn K C = true) (h3 : PySem.W.typeIn K (.ref C) = some (.type "type")) (h4 : PySem.W.subIn K (.type a) (.ref C) = some b) : PySem.W.kitOne K (.type a) (.ref C) = some b := by
  have e2 : ((PySem.W.clsIn K C).isSome && PySem.W.typeIn K (.ref C) == some (.type "type")) = true := by
    have h2' : (PySem.W.clsIn K C).isSome = true := h2
    rw [h2', h3] <;> rfl
  unfold PySem.W.kitOne PySem.W.kitCls
  rw [if_neg (by intro z; cases eq_of_beq z)]
  dsimp only
  rw [if_pos e2]
  exact h4
theorem kit_refT {K : PySem.W.Frag} {D : Addr} {b : Bool} {T : String} (m : PySem.W.kitMeta T = true) (h : PySem.W.subIn K (.ref D) (.type T) = some b) : PySem.W.kitOne K (.ref D) (.type T) = some b := by
  unfold PySem.W.kitOne PySem.W.kitCls
  rw [if_neg (by intro z; cases eq_of_beq z)]
  dsimp only
  rw [if_pos m]
  exact h
theorem all_mk {Tb0 : Addr} {l : PySem.W.OpenLaw} {P : Program} {w : World} {K : PySem.W.Frag} {h : Heap} {mg : Str → Option Value} {fa : Addr} (eP : l.prog = P) (X : K.In h) (G : h.Ns mainGlobals mg) (hfa : mg "law" = some (.ref fa))
    {f_is_name : Addr} {oc_is_name kV_is_name dc_is_name pm_is_name cd_is_name ct_is_name : Value} {od_is_name an_is_name : Option Addr} {sl_is_name : Array (Option Value)}
    {f_rises : Addr} {oc_rises kV_rises dc_rises pm_rises cd_rises ct_rises : Value} {od_rises an_rises : Option Addr} {sl_rises : Array (Option Value)}
    {f_check_facts : Addr} {oc_check_facts kV_check_facts dc_check_facts pm_check_facts cd_check_facts ct_check_facts : Value} {od_check_facts an_check_facts : Option Addr} {sl_check_facts : Array (Option Value)}
    {f_nested : Addr} {oc_nested kV_nested dc_nested pm_nested cd_nested ct_nested : Value} {od_nested an_nested : Option Addr} {sl_nested : Array (Option Value)}
    {f_check_rules : Addr} {oc_check_rules kV_check_rules dc_check_rules pm_check_rules cd_check_rules ct_check_rules : Value} {od_check_rules an_check_rules : Option Addr} {sl_check_rules : Array (Option Value)}
    {f_check_part : Addr} {oc_check_part kV_check_part dc_check_part pm_check_part cd_check_part ct_check_part : Value} {od_check_part an_check_part : Option Addr} {sl_check_part : Array (Option Value)}
    {f_merged : Addr} {oc_merged kV_merged dc_merged pm_merged cd_merged ct_merged : Value} {od_merged an_merged : Option Addr} {sl_merged : Array (Option Value)}
    {f_replaced : Addr} {oc_replaced kV_replaced dc_replaced pm_replaced cd_replaced ct_replaced : Value} {od_replaced an_replaced : Option Addr} {sl_replaced : Array (Option Value)}
    {f_path_to : Addr} {oc_path_to kV_path_to dc_path_to pm_path_to cd_path_to ct_path_to : Value} {od_path_to an_path_to : Option Addr} {sl_path_to : Array (Option Value)}
    {f_next_beside : Addr} {oc_next_beside kV_next_beside dc_next_beside pm_next_beside cd_next_beside ct_next_beside : Value} {od_next_beside an_next_beside : Option Addr} {sl_next_beside : Array (Option Value)}
    {f_swapped : Addr} {oc_swapped kV_swapped dc_swapped pm_swapped cd_swapped ct_swapped : Value} {od_swapped an_swapped : Option Addr} {sl_swapped : Array (Option Value)}
    {f_amended : Addr} {oc_amended kV_amended dc_amended pm_amended cd_amended ct_amended : Value} {od_amended an_amended : Option Addr} {sl_amended : Array (Option Value)}
    {f_amended_book : Addr} {oc_amended_book kV_amended_book dc_amended_book pm_amended_book cd_amended_book ct_amended_book : Value} {od_amended_book an_amended_book : Option Addr} {sl_amended_book : Array (Option Value)}
    {f_amended_rule : Addr} {oc_amended_rule kV_amended_rule dc_amended_rule pm_amended_rule cd_amended_rule ct_amended_rule : Value} {od_amended_rule an_amended_rule : Option Addr} {sl_amended_rule : Array (Option Value)}
    {f_is_amendment : Addr} {oc_is_amendment kV_is_amendment dc_is_amendment pm_is_amendment cd_is_amendment ct_is_amendment : Value} {od_is_amendment an_is_amendment : Option Addr} {sl_is_amendment : Array (Option Value)}
    {f_is_new : Addr} {oc_is_new kV_is_new dc_is_new pm_is_new cd_is_new ct_is_new : Value} {od_is_new an_is_new : Option Addr} {sl_is_new : Array (Option Value)}
    {f__law_mix : Addr} {oc__law_mix kV__law_mix dc__law_mix pm__law_mix cd__law_mix ct__law_mix : Value} {od__law_mix an__law_mix : Option Addr} {sl__law_mix : Array (Option Value)}
    {f__law_next : Addr} {oc__law_next kV__law_next dc__law_next pm__law_next cd__law_next ct__law_next : Value} {od__law_next an__law_next : Option Addr} {sl__law_next : Array (Option Value)}
    {f__law_facts : Addr} {oc__law_facts kV__law_facts dc__law_facts pm__law_facts cd__law_facts ct__law_facts : Value} {od__law_facts an__law_facts : Option Addr} {sl__law_facts : Array (Option Value)}
    {f__law_sides : Addr} {oc__law_sides kV__law_sides dc__law_sides pm__law_sides cd__law_sides ct__law_sides : Value} {od__law_sides an__law_sides : Option Addr} {sl__law_sides : Array (Option Value)}
    {f__law_rule : Addr} {oc__law_rule kV__law_rule dc__law_rule pm__law_rule cd__law_rule ct__law_rule : Value} {od__law_rule an__law_rule : Option Addr} {sl__law_rule : Array (Option Value)}
    {f__law_drawn : Addr} {oc__law_drawn kV__law_drawn dc__law_drawn pm__law_drawn cd__law_drawn ct__law_drawn : Value} {od__law_drawn an__law_drawn : Option Addr} {sl__law_drawn : Array (Option Value)}
    {f__law_made : Addr} {oc__law_made kV__law_made dc__law_made pm__law_made cd__law_made ct__law_made : Value} {od__law_made an__law_made : Option Addr} {sl__law_made : Array (Option Value)}
    {f__law_book : Addr} {oc__law_book kV__law_book dc__law_book pm__law_book cd__law_book ct__law_book : Value} {od__law_book an__law_book : Option Addr} {sl__law_book : Array (Option Value)}
    {f__law_all : Addr} {oc__law_all kV__law_all dc__law_all pm__law_all cd__law_all ct__law_all : Value} {od__law_all an__law_all : Option Addr} {sl__law_all : Array (Option Value)}
    {f__law_changed : Addr} {oc__law_changed kV__law_changed dc__law_changed pm__law_changed cd__law_changed ct__law_changed : Value} {od__law_changed an__law_changed : Option Addr} {sl__law_changed : Array (Option Value)}
    {f__law_edit : Addr} {oc__law_edit kV__law_edit dc__law_edit pm__law_edit cd__law_edit ct__law_edit : Value} {od__law_edit an__law_edit : Option Addr} {sl__law_edit : Array (Option Value)}
    {f__law_after : Addr} {oc__law_after kV__law_after dc__law_after pm__law_after cd__law_after ct__law_after : Value} {od__law_after an__law_after : Option Addr} {sl__law_after : Array (Option Value)}
    {f__law_beside : Addr} {oc__law_beside kV__law_beside dc__law_beside pm__law_beside cd__law_beside ct__law_beside : Value} {od__law_beside an__law_beside : Option Addr} {sl__law_beside : Array (Option Value)}
    {f__law_amendment : Addr} {oc__law_amendment kV__law_amendment dc__law_amendment pm__law_amendment cd__law_amendment ct__law_amendment : Value} {od__law_amendment an__law_amendment : Option Addr} {sl__law_amendment : Array (Option Value)}
    {f__law_real : Addr} {oc__law_real kV__law_real dc__law_real pm__law_real cd__law_real ct__law_real : Value} {od__law_real an__law_real : Option Addr} {sl__law_real : Array (Option Value)}
    {f__law_depths : Addr} {oc__law_depths kV__law_depths dc__law_depths pm__law_depths cd__law_depths ct__law_depths : Value} {od__law_depths an__law_depths : Option Addr} {sl__law_depths : Array (Option Value)}
    {f__law_stop : Addr} {oc__law_stop kV__law_stop dc__law_stop pm__law_stop cd__law_stop ct__law_stop : Value} {od__law_stop an__law_stop : Option Addr} {sl__law_stop : Array (Option Value)}
    {f__law_say : Addr} {oc__law_say kV__law_say dc__law_say pm__law_say cd__law_say ct__law_say : Value} {od__law_say an__law_say : Option Addr} {sl__law_say : Array (Option Value)}
    {f__law_backs : Addr} {oc__law_backs kV__law_backs dc__law_backs pm__law_backs cd__law_backs ct__law_backs : Value} {od__law_backs an__law_backs : Option Addr} {sl__law_backs : Array (Option Value)}
    {f_law : Addr} {oc_law kV_law dc_law pm_law ct_law : Value} {od_law an_law : Option Addr} {sl_law : Array (Option Value)}
    {f_mi : Addr} {oc_mi kV_mi dc_mi pm_mi cd_mi ct_mi : Value} {od_mi an_mi : Option Addr} {sl_mi : Array (Option Value)}
    {f_mh : Addr} {oc_mh kV_mh dc_mh pm_mh cd_mh ct_mh : Value} {od_mh an_mh : Option Addr} {sl_mh : Array (Option Value)}
    {f_mf : Addr} {oc_mf kV_mf dc_mf pm_mf cd_mf ct_mf : Value} {od_mf an_mf : Option Addr} {sl_mf : Array (Option Value)}
    {f_mn : Addr} {oc_mn kV_mn dc_mn pm_mn cd_mn ct_mn : Value} {od_mn an_mn : Option Addr} {sl_mn : Array (Option Value)}
    {f_ri : Addr} {oc_ri kV_ri dc_ri pm_ri cd_ri ct_ri : Value} {od_ri an_ri : Option Addr} {sl_ri : Array (Option Value)}
    {f_rn : Addr} {oc_rn kV_rn dc_rn pm_rn cd_rn ct_rn : Value} {od_rn an_rn : Option Addr} {sl_rn : Array (Option Value)}
    {f_rc : Addr} {oc_rc kV_rc dc_rc pm_rc cd_rc ct_rc : Value} {od_rc an_rc : Option Addr} {sl_rc : Array (Option Value)}
    {f_rr : Addr} {oc_rr kV_rr dc_rr pm_rr cd_rr ct_rr : Value} {od_rr an_rr : Option Addr} {sl_rr : Array (Option Value)}
    {f_re : Addr} {oc_re kV_re dc_re pm_re cd_re ct_re : Value} {od_re an_re : Option Addr} {sl_re : Array (Option Value)}
    {f_rd : Addr} {oc_rd kV_rd dc_rd pm_rd cd_rd ct_rd : Value} {od_rd an_rd : Option Addr} {sl_rd : Array (Option Value)}
    {f_bi : Addr} {oc_bi kV_bi dc_bi pm_bi cd_bi ct_bi : Value} {od_bi an_bi : Option Addr} {sl_bi : Array (Option Value)}
    {f_bf : Addr} {oc_bf kV_bf dc_bf pm_bf cd_bf ct_bf : Value} {od_bf an_bf : Option Addr} {sl_bf : Array (Option Value)}
    {f_bs : Addr} {oc_bs kV_bs dc_bs pm_bs cd_bs ct_bs : Value} {od_bs an_bs : Option Addr} {sl_bs : Array (Option Value)}
    {f_br : Addr} {oc_br kV_br dc_br pm_br cd_br ct_br : Value} {od_br an_br : Option Addr} {sl_br : Array (Option Value)}
    {f_bn : Addr} {oc_bn kV_bn dc_bn pm_bn cd_bn ct_bn : Value} {od_bn an_bn : Option Addr} {sl_bn : Array (Option Value)}
    {f_gc : Addr} {oc_gc kV_gc dc_gc pm_gc cd_gc ct_gc : Value} {od_gc an_gc : Option Addr} {sl_gc : Array (Option Value)}
    {f_gi : Addr} {oc_gi kV_gi dc_gi pm_gi cd_gi ct_gi : Value} {od_gi an_gi : Option Addr} {sl_gi : Array (Option Value)}
    {f_gs : Addr} {oc_gs kV_gs dc_gs pm_gs cd_gs ct_gs : Value} {od_gs an_gs : Option Addr} {sl_gs : Array (Option Value)}
    {f_eb : Addr} {oc_eb kV_eb dc_eb pm_eb cd_eb ct_eb : Value} {od_eb an_eb : Option Addr} {sl_eb : Array (Option Value)}
    {f_er : Addr} {oc_er kV_er dc_er pm_er cd_er ct_er : Value} {od_er an_er : Option Addr} {sl_er : Array (Option Value)}
    {f_ec : Addr} {oc_ec kV_ec dc_ec pm_ec cd_ec ct_ec : Value} {od_ec an_ec : Option Addr} {sl_ec : Array (Option Value)}
    {f_lr : Addr} {oc_lr kV_lr dc_lr pm_lr cd_lr ct_lr : Value} {od_lr an_lr : Option Addr} {sl_lr : Array (Option Value)}
    {f_lb : Addr} {oc_lb kV_lb dc_lb pm_lb cd_lb ct_lb : Value} {od_lb an_lb : Option Addr} {sl_lb : Array (Option Value)}
    {CO : Addr}
    {pp_mh : Addr} {rs_mh : List Value}
    {pp_mf : Addr} {rs_mf : List Value}
    {pp_mn : Addr} {rs_mn : List Value}
    {RO : Addr}
    {pp_rn : Addr} {rs_rn : List Value}
    {pp_rc : Addr} {rs_rc : List Value}
    {pp_rr : Addr} {rs_rr : List Value}
    {pp_re : Addr} {rs_re : List Value}
    {pp_rd : Addr} {rs_rd : List Value}
    {BO : Addr}
    {pp_bf : Addr} {rs_bf : List Value}
    {pp_bs : Addr} {rs_bs : List Value}
    {pp_br : Addr} {rs_br : List Value}
    {pp_bn : Addr} {rs_bn : List Value}
    {fo_s : Option Value}
    {fo_r : Option Value}
    {w1A : Addr}
    {odW1 : Option Addr} {nW1 : Nat} {slW1 : Array (Option Value)} {uW10 uW11 : Tok}
    {w2A : Addr}
    {odW2 : Option Addr} {nW2 : Nat} {slW2 : Array (Option Value)} {uW20 uW21 uW22 uW23 : Tok}
    {w3A : Addr}
    {odW3 : Option Addr} {nW3 : Nat} {slW3 : Array (Option Value)} {uW30 uW31 : Tok}
    {cc_law : Addr} {ocl : Obj}
    {t_LETTERS : Tok}
    {t_LONGEST_NAME : Tok}
    {t_MOST_FACTS : Tok}
    {t_MOST_NAMES : Tok}
    {t_MOST_AROUND : Tok}
    {t_MOST_RULES : Tok}
    {t_MOST_OUTERMOST : Tok}
    {CE : Addr}
    {E0 : Addr}
    {E1 : Addr}
    {E2 : Addr}
    {E3 : Addr}
    {E4 : Addr}
    {E5 : Addr}
    {E6 : Addr}
    {E7 : Addr}
    {E8 : Addr}
    {E9 : Addr}
    {E10 : Addr}
    {nmE qE : Str} {NE : Addr} {bsE bmE suE : List Value} {snE : List Str} {abE : Bool} {colE : Option Bool} {ddE : Option Addr} {x0E x1E x2E x3E x5E : Option Value}
    {nmi8 qi8 : Str} {Ni8 : Addr} {bsi8 bmi8 sui8 : List Value} {sni8 : List Str} {abi8 : Bool} {coli8 : Option Bool} {ddi8 odii8 anii8 ccddi8 cddi8 : Option Addr} {x0i8 x1i8 x2i8 x3i8 x5i8 : Option Value} {fIi8 celi8 codi8 : Addr} {ocii8 kVii8 dcii8 pmii8 ctii8 clci8 ccli8 : Value} {slii8 csli8 ccsi8 : Array (Option Value)} {vsi8 : Array Value} {fili8 : Str} {tfii8 : Tok}
    {nmi9 qi9 : Str} {Ni9 : Addr} {bsi9 bmi9 sui9 : List Value} {sni9 : List Str} {abi9 : Bool} {coli9 : Option Bool} {ddi9 odii9 anii9 ccddi9 cddi9 : Option Addr} {x0i9 x1i9 x2i9 x3i9 x5i9 : Option Value} {fIi9 celi9 codi9 : Addr} {ocii9 kVii9 dcii9 pmii9 ctii9 clci9 ccli9 : Value} {slii9 csli9 ccsi9 : Array (Option Value)} {vsi9 : Array Value} {fili9 : Str} {tfii9 : Tok}
    {nmi10 qi10 : Str} {Ni10 : Addr} {bsi10 bmi10 sui10 : List Value} {sni10 : List Str} {abi10 : Bool} {coli10 : Option Bool} {ddi10 odii10 anii10 ccddi10 cddi10 : Option Addr} {x0i10 x1i10 x2i10 x3i10 x5i10 : Option Value} {fIi10 celi10 codi10 : Addr} {ocii10 kVii10 dcii10 pmii10 ctii10 clci10 ccli10 : Value} {slii10 csli10 ccsi10 : Array (Option Value)} {vsi10 : Array Value} {fili10 : Str} {tfii10 : Tok}
    {nmi0 qi0 : Str} {Ni0 : Addr} {bsi0 bmi0 sui0 : List Value} {sni0 : List Str} {abi0 : Bool} {coli0 : Option Bool} {ddi0 odii0 anii0 ccddi0 cddi0 : Option Addr} {x0i0 x1i0 x2i0 x3i0 x5i0 : Option Value} {fIi0 celi0 codi0 : Addr} {ocii0 kVii0 dcii0 pmii0 ctii0 clci0 ccli0 : Value} {slii0 csli0 ccsi0 : Array (Option Value)} {vsi0 : Array Value} {fili0 : Str} {tfii0 : Tok}
    (a_is_name : PySem.W.nsIn K mainGlobals "is_name" = some (some (.ref f_is_name)))
    (l_is_name : K.lookup f_is_name = some ⟨oc_is_name, od_is_name, .func (PySem.W.fnOf "is_name" "is_name" (defArgs s_is_name) (defBody s_is_name) (defScope s_is_name) .none kV_is_name dc_is_name pm_is_name an_is_name cd_is_name ct_is_name), sl_is_name⟩)
    (c_is_name : PySem.W.codeIn K cd_is_name "is_name" = true)
    (k_is_name : PySem.W.keepIn K (.ref f_is_name) = true)
    (a_rises : PySem.W.nsIn K mainGlobals "rises" = some (some (.ref f_rises)))
    (l_rises : K.lookup f_rises = some ⟨oc_rises, od_rises, .func (PySem.W.fnOf "rises" "rises" (defArgs s_rises) (defBody s_rises) (defScope s_rises) .none kV_rises dc_rises pm_rises an_rises cd_rises ct_rises), sl_rises⟩)
    (c_rises : PySem.W.codeIn K cd_rises "rises" = true)
    (k_rises : PySem.W.keepIn K (.ref f_rises) = true)
    (a_check_facts : PySem.W.nsIn K mainGlobals "check_facts" = some (some (.ref f_check_facts)))
    (l_check_facts : K.lookup f_check_facts = some ⟨oc_check_facts, od_check_facts, .func (PySem.W.fnOf "check_facts" "check_facts" (defArgs s_check_facts) (defBody s_check_facts) (defScope s_check_facts) .none kV_check_facts dc_check_facts pm_check_facts an_check_facts cd_check_facts ct_check_facts), sl_check_facts⟩)
    (c_check_facts : PySem.W.codeIn K cd_check_facts "check_facts" = true)
    (k_check_facts : PySem.W.keepIn K (.ref f_check_facts) = true)
    (a_nested : PySem.W.nsIn K mainGlobals "nested" = some (some (.ref f_nested)))
    (l_nested : K.lookup f_nested = some ⟨oc_nested, od_nested, .func (PySem.W.fnOf "nested" "nested" (defArgs s_nested) (defBody s_nested) (defScope s_nested) .none kV_nested dc_nested pm_nested an_nested cd_nested ct_nested), sl_nested⟩)
    (c_nested : PySem.W.codeIn K cd_nested "nested" = true)
    (k_nested : PySem.W.keepIn K (.ref f_nested) = true)
    (a_check_rules : PySem.W.nsIn K mainGlobals "check_rules" = some (some (.ref f_check_rules)))
    (l_check_rules : K.lookup f_check_rules = some ⟨oc_check_rules, od_check_rules, .func (PySem.W.fnOf "check_rules" "check_rules" (defArgs s_check_rules) (defBody s_check_rules) (defScope s_check_rules) .none kV_check_rules dc_check_rules pm_check_rules an_check_rules cd_check_rules ct_check_rules), sl_check_rules⟩)
    (c_check_rules : PySem.W.codeIn K cd_check_rules "check_rules" = true)
    (k_check_rules : PySem.W.keepIn K (.ref f_check_rules) = true)
    (a_check_part : PySem.W.nsIn K mainGlobals "check_part" = some (some (.ref f_check_part)))
    (l_check_part : K.lookup f_check_part = some ⟨oc_check_part, od_check_part, .func (PySem.W.fnOf "check_part" "check_part" (defArgs s_check_part) (defBody s_check_part) (defScope s_check_part) .none kV_check_part dc_check_part pm_check_part an_check_part cd_check_part ct_check_part), sl_check_part⟩)
    (c_check_part : PySem.W.codeIn K cd_check_part "check_part" = true)
    (k_check_part : PySem.W.keepIn K (.ref f_check_part) = true)
    (a_merged : PySem.W.nsIn K mainGlobals "merged" = some (some (.ref f_merged)))
    (l_merged : K.lookup f_merged = some ⟨oc_merged, od_merged, .func (PySem.W.fnOf "merged" "merged" (defArgs s_merged) (defBody s_merged) (defScope s_merged) .none kV_merged dc_merged pm_merged an_merged cd_merged ct_merged), sl_merged⟩)
    (c_merged : PySem.W.codeIn K cd_merged "merged" = true)
    (k_merged : PySem.W.keepIn K (.ref f_merged) = true)
    (a_replaced : PySem.W.nsIn K mainGlobals "replaced" = some (some (.ref f_replaced)))
    (l_replaced : K.lookup f_replaced = some ⟨oc_replaced, od_replaced, .func (PySem.W.fnOf "replaced" "replaced" (defArgs s_replaced) (defBody s_replaced) (defScope s_replaced) .none kV_replaced dc_replaced pm_replaced an_replaced cd_replaced ct_replaced), sl_replaced⟩)
    (c_replaced : PySem.W.codeIn K cd_replaced "replaced" = true)
    (k_replaced : PySem.W.keepIn K (.ref f_replaced) = true)
    (a_path_to : PySem.W.nsIn K mainGlobals "path_to" = some (some (.ref f_path_to)))
    (l_path_to : K.lookup f_path_to = some ⟨oc_path_to, od_path_to, .func (PySem.W.fnOf "path_to" "path_to" (defArgs s_path_to) (defBody s_path_to) (defScope s_path_to) .none kV_path_to dc_path_to pm_path_to an_path_to cd_path_to ct_path_to), sl_path_to⟩)
    (c_path_to : PySem.W.codeIn K cd_path_to "path_to" = true)
    (k_path_to : PySem.W.keepIn K (.ref f_path_to) = true)
    (a_next_beside : PySem.W.nsIn K mainGlobals "next_beside" = some (some (.ref f_next_beside)))
    (l_next_beside : K.lookup f_next_beside = some ⟨oc_next_beside, od_next_beside, .func (PySem.W.fnOf "next_beside" "next_beside" (defArgs s_next_beside) (defBody s_next_beside) (defScope s_next_beside) .none kV_next_beside dc_next_beside pm_next_beside an_next_beside cd_next_beside ct_next_beside), sl_next_beside⟩)
    (c_next_beside : PySem.W.codeIn K cd_next_beside "next_beside" = true)
    (k_next_beside : PySem.W.keepIn K (.ref f_next_beside) = true)
    (a_swapped : PySem.W.nsIn K mainGlobals "swapped" = some (some (.ref f_swapped)))
    (l_swapped : K.lookup f_swapped = some ⟨oc_swapped, od_swapped, .func (PySem.W.fnOf "swapped" "swapped" (defArgs s_swapped) (defBody s_swapped) (defScope s_swapped) .none kV_swapped dc_swapped pm_swapped an_swapped cd_swapped ct_swapped), sl_swapped⟩)
    (c_swapped : PySem.W.codeIn K cd_swapped "swapped" = true)
    (k_swapped : PySem.W.keepIn K (.ref f_swapped) = true)
    (a_amended : PySem.W.nsIn K mainGlobals "amended" = some (some (.ref f_amended)))
    (l_amended : K.lookup f_amended = some ⟨oc_amended, od_amended, .func (PySem.W.fnOf "amended" "amended" (defArgs s_amended) (defBody s_amended) (defScope s_amended) .none kV_amended dc_amended pm_amended an_amended cd_amended ct_amended), sl_amended⟩)
    (c_amended : PySem.W.codeIn K cd_amended "amended" = true)
    (k_amended : PySem.W.keepIn K (.ref f_amended) = true)
    (a_amended_book : PySem.W.nsIn K mainGlobals "amended_book" = some (some (.ref f_amended_book)))
    (l_amended_book : K.lookup f_amended_book = some ⟨oc_amended_book, od_amended_book, .func (PySem.W.fnOf "amended_book" "amended_book" (defArgs s_amended_book) (defBody s_amended_book) (defScope s_amended_book) .none kV_amended_book dc_amended_book pm_amended_book an_amended_book cd_amended_book ct_amended_book), sl_amended_book⟩)
    (c_amended_book : PySem.W.codeIn K cd_amended_book "amended_book" = true)
    (k_amended_book : PySem.W.keepIn K (.ref f_amended_book) = true)
    (a_amended_rule : PySem.W.nsIn K mainGlobals "amended_rule" = some (some (.ref f_amended_rule)))
    (l_amended_rule : K.lookup f_amended_rule = some ⟨oc_amended_rule, od_amended_rule, .func (PySem.W.fnOf "amended_rule" "amended_rule" (defArgs s_amended_rule) (defBody s_amended_rule) (defScope s_amended_rule) .none kV_amended_rule dc_amended_rule pm_amended_rule an_amended_rule cd_amended_rule ct_amended_rule), sl_amended_rule⟩)
    (c_amended_rule : PySem.W.codeIn K cd_amended_rule "amended_rule" = true)
    (k_amended_rule : PySem.W.keepIn K (.ref f_amended_rule) = true)
    (a_is_amendment : PySem.W.nsIn K mainGlobals "is_amendment" = some (some (.ref f_is_amendment)))
    (l_is_amendment : K.lookup f_is_amendment = some ⟨oc_is_amendment, od_is_amendment, .func (PySem.W.fnOf "is_amendment" "is_amendment" (defArgs s_is_amendment) (defBody s_is_amendment) (defScope s_is_amendment) .none kV_is_amendment dc_is_amendment pm_is_amendment an_is_amendment cd_is_amendment ct_is_amendment), sl_is_amendment⟩)
    (c_is_amendment : PySem.W.codeIn K cd_is_amendment "is_amendment" = true)
    (k_is_amendment : PySem.W.keepIn K (.ref f_is_amendment) = true)
    (a_is_new : PySem.W.nsIn K mainGlobals "is_new" = some (some (.ref f_is_new)))
    (l_is_new : K.lookup f_is_new = some ⟨oc_is_new, od_is_new, .func (PySem.W.fnOf "is_new" "is_new" (defArgs s_is_new) (defBody s_is_new) (defScope s_is_new) .none kV_is_new dc_is_new pm_is_new an_is_new cd_is_new ct_is_new), sl_is_new⟩)
    (c_is_new : PySem.W.codeIn K cd_is_new "is_new" = true)
    (k_is_new : PySem.W.keepIn K (.ref f_is_new) = true)
    (a__law_mix : PySem.W.nsIn K mainGlobals "_law_mix" = some (some (.ref f__law_mix)))
    (l__law_mix : K.lookup f__law_mix = some ⟨oc__law_mix, od__law_mix, .func (PySem.W.fnOf "_law_mix" "_law_mix" (defArgs s__law_mix) (defBody s__law_mix) (defScope s__law_mix) .none kV__law_mix dc__law_mix pm__law_mix an__law_mix cd__law_mix ct__law_mix), sl__law_mix⟩)
    (c__law_mix : PySem.W.codeIn K cd__law_mix "_law_mix" = true)
    (k__law_mix : PySem.W.keepIn K (.ref f__law_mix) = true)
    (a__law_next : PySem.W.nsIn K mainGlobals "_law_next" = some (some (.ref f__law_next)))
    (l__law_next : K.lookup f__law_next = some ⟨oc__law_next, od__law_next, .func (PySem.W.fnOf "_law_next" "_law_next" (defArgs s__law_next) (defBody s__law_next) (defScope s__law_next) .none kV__law_next dc__law_next pm__law_next an__law_next cd__law_next ct__law_next), sl__law_next⟩)
    (c__law_next : PySem.W.codeIn K cd__law_next "_law_next" = true)
    (k__law_next : PySem.W.keepIn K (.ref f__law_next) = true)
    (a__law_facts : PySem.W.nsIn K mainGlobals "_law_facts" = some (some (.ref f__law_facts)))
    (l__law_facts : K.lookup f__law_facts = some ⟨oc__law_facts, od__law_facts, .func (PySem.W.fnOf "_law_facts" "_law_facts" (defArgs s__law_facts) (defBody s__law_facts) (defScope s__law_facts) .none kV__law_facts dc__law_facts pm__law_facts an__law_facts cd__law_facts ct__law_facts), sl__law_facts⟩)
    (c__law_facts : PySem.W.codeIn K cd__law_facts "_law_facts" = true)
    (k__law_facts : PySem.W.keepIn K (.ref f__law_facts) = true)
    (a__law_sides : PySem.W.nsIn K mainGlobals "_law_sides" = some (some (.ref f__law_sides)))
    (l__law_sides : K.lookup f__law_sides = some ⟨oc__law_sides, od__law_sides, .func (PySem.W.fnOf "_law_sides" "_law_sides" (defArgs s__law_sides) (defBody s__law_sides) (defScope s__law_sides) .none kV__law_sides dc__law_sides pm__law_sides an__law_sides cd__law_sides ct__law_sides), sl__law_sides⟩)
    (c__law_sides : PySem.W.codeIn K cd__law_sides "_law_sides" = true)
    (k__law_sides : PySem.W.keepIn K (.ref f__law_sides) = true)
    (a__law_rule : PySem.W.nsIn K mainGlobals "_law_rule" = some (some (.ref f__law_rule)))
    (l__law_rule : K.lookup f__law_rule = some ⟨oc__law_rule, od__law_rule, .func (PySem.W.fnOf "_law_rule" "_law_rule" (defArgs s__law_rule) (defBody s__law_rule) (defScope s__law_rule) .none kV__law_rule dc__law_rule pm__law_rule an__law_rule cd__law_rule ct__law_rule), sl__law_rule⟩)
    (c__law_rule : PySem.W.codeIn K cd__law_rule "_law_rule" = true)
    (k__law_rule : PySem.W.keepIn K (.ref f__law_rule) = true)
    (a__law_drawn : PySem.W.nsIn K mainGlobals "_law_drawn" = some (some (.ref f__law_drawn)))
    (l__law_drawn : K.lookup f__law_drawn = some ⟨oc__law_drawn, od__law_drawn, .func (PySem.W.fnOf "_law_drawn" "_law_drawn" (defArgs s__law_drawn) (defBody s__law_drawn) (defScope s__law_drawn) .none kV__law_drawn dc__law_drawn pm__law_drawn an__law_drawn cd__law_drawn ct__law_drawn), sl__law_drawn⟩)
    (c__law_drawn : PySem.W.codeIn K cd__law_drawn "_law_drawn" = true)
    (k__law_drawn : PySem.W.keepIn K (.ref f__law_drawn) = true)
    (a__law_made : PySem.W.nsIn K mainGlobals "_law_made" = some (some (.ref f__law_made)))
    (l__law_made : K.lookup f__law_made = some ⟨oc__law_made, od__law_made, .func (PySem.W.fnOf "_law_made" "_law_made" (defArgs s__law_made) (defBody s__law_made) (defScope s__law_made) .none kV__law_made dc__law_made pm__law_made an__law_made cd__law_made ct__law_made), sl__law_made⟩)
    (c__law_made : PySem.W.codeIn K cd__law_made "_law_made" = true)
    (k__law_made : PySem.W.keepIn K (.ref f__law_made) = true)
    (a__law_book : PySem.W.nsIn K mainGlobals "_law_book" = some (some (.ref f__law_book)))
    (l__law_book : K.lookup f__law_book = some ⟨oc__law_book, od__law_book, .func (PySem.W.fnOf "_law_book" "_law_book" (defArgs s__law_book) (defBody s__law_book) (defScope s__law_book) .none kV__law_book dc__law_book pm__law_book an__law_book cd__law_book ct__law_book), sl__law_book⟩)
    (c__law_book : PySem.W.codeIn K cd__law_book "_law_book" = true)
    (k__law_book : PySem.W.keepIn K (.ref f__law_book) = true)
    (a__law_all : PySem.W.nsIn K mainGlobals "_law_all" = some (some (.ref f__law_all)))
    (l__law_all : K.lookup f__law_all = some ⟨oc__law_all, od__law_all, .func (PySem.W.fnOf "_law_all" "_law_all" (defArgs s__law_all) (defBody s__law_all) (defScope s__law_all) .none kV__law_all dc__law_all pm__law_all an__law_all cd__law_all ct__law_all), sl__law_all⟩)
    (c__law_all : PySem.W.codeIn K cd__law_all "_law_all" = true)
    (k__law_all : PySem.W.keepIn K (.ref f__law_all) = true)
    (a__law_changed : PySem.W.nsIn K mainGlobals "_law_changed" = some (some (.ref f__law_changed)))
    (l__law_changed : K.lookup f__law_changed = some ⟨oc__law_changed, od__law_changed, .func (PySem.W.fnOf "_law_changed" "_law_changed" (defArgs s__law_changed) (defBody s__law_changed) (defScope s__law_changed) .none kV__law_changed dc__law_changed pm__law_changed an__law_changed cd__law_changed ct__law_changed), sl__law_changed⟩)
    (c__law_changed : PySem.W.codeIn K cd__law_changed "_law_changed" = true)
    (k__law_changed : PySem.W.keepIn K (.ref f__law_changed) = true)
    (a__law_edit : PySem.W.nsIn K mainGlobals "_law_edit" = some (some (.ref f__law_edit)))
    (l__law_edit : K.lookup f__law_edit = some ⟨oc__law_edit, od__law_edit, .func (PySem.W.fnOf "_law_edit" "_law_edit" (defArgs s__law_edit) (defBody s__law_edit) (defScope s__law_edit) .none kV__law_edit dc__law_edit pm__law_edit an__law_edit cd__law_edit ct__law_edit), sl__law_edit⟩)
    (c__law_edit : PySem.W.codeIn K cd__law_edit "_law_edit" = true)
    (k__law_edit : PySem.W.keepIn K (.ref f__law_edit) = true)
    (a__law_after : PySem.W.nsIn K mainGlobals "_law_after" = some (some (.ref f__law_after)))
    (l__law_after : K.lookup f__law_after = some ⟨oc__law_after, od__law_after, .func (PySem.W.fnOf "_law_after" "_law_after" (defArgs s__law_after) (defBody s__law_after) (defScope s__law_after) .none kV__law_after dc__law_after pm__law_after an__law_after cd__law_after ct__law_after), sl__law_after⟩)
    (c__law_after : PySem.W.codeIn K cd__law_after "_law_after" = true)
    (k__law_after : PySem.W.keepIn K (.ref f__law_after) = true)
    (a__law_beside : PySem.W.nsIn K mainGlobals "_law_beside" = some (some (.ref f__law_beside)))
    (l__law_beside : K.lookup f__law_beside = some ⟨oc__law_beside, od__law_beside, .func (PySem.W.fnOf "_law_beside" "_law_beside" (defArgs s__law_beside) (defBody s__law_beside) (defScope s__law_beside) .none kV__law_beside dc__law_beside pm__law_beside an__law_beside cd__law_beside ct__law_beside), sl__law_beside⟩)
    (c__law_beside : PySem.W.codeIn K cd__law_beside "_law_beside" = true)
    (k__law_beside : PySem.W.keepIn K (.ref f__law_beside) = true)
    (a__law_amendment : PySem.W.nsIn K mainGlobals "_law_amendment" = some (some (.ref f__law_amendment)))
    (l__law_amendment : K.lookup f__law_amendment = some ⟨oc__law_amendment, od__law_amendment, .func (PySem.W.fnOf "_law_amendment" "_law_amendment" (defArgs s__law_amendment) (defBody s__law_amendment) (defScope s__law_amendment) .none kV__law_amendment dc__law_amendment pm__law_amendment an__law_amendment cd__law_amendment ct__law_amendment), sl__law_amendment⟩)
    (c__law_amendment : PySem.W.codeIn K cd__law_amendment "_law_amendment" = true)
    (k__law_amendment : PySem.W.keepIn K (.ref f__law_amendment) = true)
    (a__law_real : PySem.W.nsIn K mainGlobals "_law_real" = some (some (.ref f__law_real)))
    (l__law_real : K.lookup f__law_real = some ⟨oc__law_real, od__law_real, .func (PySem.W.fnOf "_law_real" "_law_real" (defArgs s__law_real) (defBody s__law_real) (defScope s__law_real) .none kV__law_real dc__law_real pm__law_real an__law_real cd__law_real ct__law_real), sl__law_real⟩)
    (c__law_real : PySem.W.codeIn K cd__law_real "_law_real" = true)
    (k__law_real : PySem.W.keepIn K (.ref f__law_real) = true)
    (a__law_depths : PySem.W.nsIn K mainGlobals "_law_depths" = some (some (.ref f__law_depths)))
    (l__law_depths : K.lookup f__law_depths = some ⟨oc__law_depths, od__law_depths, .func (PySem.W.fnOf "_law_depths" "_law_depths" (defArgs s__law_depths) (defBody s__law_depths) (defScope s__law_depths) .none kV__law_depths dc__law_depths pm__law_depths an__law_depths cd__law_depths ct__law_depths), sl__law_depths⟩)
    (c__law_depths : PySem.W.codeIn K cd__law_depths "_law_depths" = true)
    (k__law_depths : PySem.W.keepIn K (.ref f__law_depths) = true)
    (a__law_stop : PySem.W.nsIn K mainGlobals "_law_stop" = some (some (.ref f__law_stop)))
    (l__law_stop : K.lookup f__law_stop = some ⟨oc__law_stop, od__law_stop, .func (PySem.W.fnOf "_law_stop" "_law_stop" (defArgs s__law_stop) (defBody s__law_stop) (defScope s__law_stop) .none kV__law_stop dc__law_stop pm__law_stop an__law_stop cd__law_stop ct__law_stop), sl__law_stop⟩)
    (c__law_stop : PySem.W.codeIn K cd__law_stop "_law_stop" = true)
    (k__law_stop : PySem.W.keepIn K (.ref f__law_stop) = true)
    (a__law_say : PySem.W.nsIn K mainGlobals "_law_say" = some (some (.ref f__law_say)))
    (l__law_say : K.lookup f__law_say = some ⟨oc__law_say, od__law_say, .func (PySem.W.fnOf "_law_say" "_law_say" (defArgs s__law_say) (defBody s__law_say) (defScope s__law_say) .none kV__law_say dc__law_say pm__law_say an__law_say cd__law_say ct__law_say), sl__law_say⟩)
    (c__law_say : PySem.W.codeIn K cd__law_say "_law_say" = true)
    (k__law_say : PySem.W.keepIn K (.ref f__law_say) = true)
    (a__law_backs : PySem.W.nsIn K mainGlobals "_law_backs" = some (some (.ref f__law_backs)))
    (l__law_backs : K.lookup f__law_backs = some ⟨oc__law_backs, od__law_backs, .func (PySem.W.fnOf "_law_backs" "_law_backs" (defArgs s__law_backs) (defBody s__law_backs) (defScope s__law_backs) .none kV__law_backs dc__law_backs pm__law_backs an__law_backs cd__law_backs ct__law_backs), sl__law_backs⟩)
    (c__law_backs : PySem.W.codeIn K cd__law_backs "_law_backs" = true)
    (k__law_backs : PySem.W.keepIn K (.ref f__law_backs) = true)
    (a_law : PySem.W.nsIn K mainGlobals "law" = some (some (.ref f_law)))
    (l_law : K.lookup f_law = some ⟨oc_law, od_law, .func (PySem.W.fnOf "law" "law" (defArgs s_law) (defBody s_law) (defScope s_law) .none kV_law dc_law pm_law an_law (.ref cc_law) ct_law), sl_law⟩)
    (c_law : PySem.W.codeIn K (.ref cc_law) "law" = true)
    (k_law : PySem.W.keepIn K (.ref f_law) = true)
    (co : PySem.W.nsIn K mainGlobals "Condition" = some (some (.ref CO)))
    (co_mk : PySem.W.makesIn K CO = true)
    (co_in : PySem.W.findIn K (.ref CO) "__init__" = some (some (.ref f_mi)))
    (co_fn : PySem.W.isFn K (.ref f_mi) = true)
    (co_kp : PySem.W.keepIn K (.ref CO) = true)
    (co_pg : PySem.W.plainGet K CO Str.empty = true)
    (co_hd : PySem.W.hasDictIn K CO = true)
    (co_po : PySem.W.plainOver K CO = true)
    (co_sa : PySem.W.findIn K (.ref CO) "__setattr__" = some (some (.builtin "object.__setattr__")))
    (co_n1 : PySem.W.findIn K (.ref CO) "_holding" = some none)
    (co_n2 : PySem.W.findIn K (.ref CO) "_failing" = some none)
    (co_n3 : PySem.W.findIn K (.ref CO) "_names" = some none)
    (pa_mh : PySem.W.findIn K (.ref CO) "holding" = some (some (.ref pp_mh)))
    (pg_mh : PySem.W.specialIn K (.ref pp_mh) "__get__" = some (some (.builtin "property.__get__")))
    (pt_mh : PySem.W.takesIn K (.ref pp_mh) = some true)
    (pr_mh : PySem.W.recIn K pp_mh "property" = some (.ref f_mh :: rs_mh))
    (pa_mf : PySem.W.findIn K (.ref CO) "failing" = some (some (.ref pp_mf)))
    (pg_mf : PySem.W.specialIn K (.ref pp_mf) "__get__" = some (some (.builtin "property.__get__")))
    (pt_mf : PySem.W.takesIn K (.ref pp_mf) = some true)
    (pr_mf : PySem.W.recIn K pp_mf "property" = some (.ref f_mf :: rs_mf))
    (pa_mn : PySem.W.findIn K (.ref CO) "names" = some (some (.ref pp_mn)))
    (pg_mn : PySem.W.specialIn K (.ref pp_mn) "__get__" = some (some (.builtin "property.__get__")))
    (pt_mn : PySem.W.takesIn K (.ref pp_mn) = some true)
    (pr_mn : PySem.W.recIn K pp_mn "property" = some (.ref f_mn :: rs_mn))
    (ro : PySem.W.nsIn K mainGlobals "Rule" = some (some (.ref RO)))
    (ro_mk : PySem.W.makesIn K RO = true)
    (ro_in : PySem.W.findIn K (.ref RO) "__init__" = some (some (.ref f_ri)))
    (ro_fn : PySem.W.isFn K (.ref f_ri) = true)
    (ro_kp : PySem.W.keepIn K (.ref RO) = true)
    (ro_pg : PySem.W.plainGet K RO Str.empty = true)
    (ro_hd : PySem.W.hasDictIn K RO = true)
    (ro_po : PySem.W.plainOver K RO = true)
    (ro_sa : PySem.W.findIn K (.ref RO) "__setattr__" = some (some (.builtin "object.__setattr__")))
    (ro_n1 : PySem.W.findIn K (.ref RO) "_name" = some none)
    (ro_n2 : PySem.W.findIn K (.ref RO) "_condition" = some none)
    (ro_n3 : PySem.W.findIn K (.ref RO) "_ruling" = some none)
    (ro_n4 : PySem.W.findIn K (.ref RO) "_exceptions" = some none)
    (ro_n5 : PySem.W.findIn K (.ref RO) "_depth" = some none)
    (ro_n6 : PySem.W.findIn K (.ref RO) "_inside" = some none)
    (pa_rn : PySem.W.findIn K (.ref RO) "name" = some (some (.ref pp_rn)))
    (pg_rn : PySem.W.specialIn K (.ref pp_rn) "__get__" = some (some (.builtin "property.__get__")))
    (pt_rn : PySem.W.takesIn K (.ref pp_rn) = some true)
    (pr_rn : PySem.W.recIn K pp_rn "property" = some (.ref f_rn :: rs_rn))
    (pa_rc : PySem.W.findIn K (.ref RO) "condition" = some (some (.ref pp_rc)))
    (pg_rc : PySem.W.specialIn K (.ref pp_rc) "__get__" = some (some (.builtin "property.__get__")))
    (pt_rc : PySem.W.takesIn K (.ref pp_rc) = some true)
    (pr_rc : PySem.W.recIn K pp_rc "property" = some (.ref f_rc :: rs_rc))
    (pa_rr : PySem.W.findIn K (.ref RO) "ruling" = some (some (.ref pp_rr)))
    (pg_rr : PySem.W.specialIn K (.ref pp_rr) "__get__" = some (some (.builtin "property.__get__")))
    (pt_rr : PySem.W.takesIn K (.ref pp_rr) = some true)
    (pr_rr : PySem.W.recIn K pp_rr "property" = some (.ref f_rr :: rs_rr))
    (pa_re : PySem.W.findIn K (.ref RO) "exceptions" = some (some (.ref pp_re)))
    (pg_re : PySem.W.specialIn K (.ref pp_re) "__get__" = some (some (.builtin "property.__get__")))
    (pt_re : PySem.W.takesIn K (.ref pp_re) = some true)
    (pr_re : PySem.W.recIn K pp_re "property" = some (.ref f_re :: rs_re))
    (pa_rd : PySem.W.findIn K (.ref RO) "depth" = some (some (.ref pp_rd)))
    (pg_rd : PySem.W.specialIn K (.ref pp_rd) "__get__" = some (some (.builtin "property.__get__")))
    (pt_rd : PySem.W.takesIn K (.ref pp_rd) = some true)
    (pr_rd : PySem.W.recIn K pp_rd "property" = some (.ref f_rd :: rs_rd))
    (bo : PySem.W.nsIn K mainGlobals "Book" = some (some (.ref BO)))
    (bo_mk : PySem.W.makesIn K BO = true)
    (bo_in : PySem.W.findIn K (.ref BO) "__init__" = some (some (.ref f_bi)))
    (bo_fn : PySem.W.isFn K (.ref f_bi) = true)
    (bo_kp : PySem.W.keepIn K (.ref BO) = true)
    (bo_pg : PySem.W.plainGet K BO Str.empty = true)
    (bo_hd : PySem.W.hasDictIn K BO = true)
    (bo_po : PySem.W.plainOver K BO = true)
    (bo_sa : PySem.W.findIn K (.ref BO) "__setattr__" = some (some (.builtin "object.__setattr__")))
    (bo_n1 : PySem.W.findIn K (.ref BO) "_facts" = some none)
    (bo_n2 : PySem.W.findIn K (.ref BO) "_rules" = some none)
    (bo_n3 : PySem.W.findIn K (.ref BO) "_ruling" = some none)
    (bo_n4 : PySem.W.findIn K (.ref BO) "_numbered" = some none)
    (pa_bf : PySem.W.findIn K (.ref BO) "facts" = some (some (.ref pp_bf)))
    (pg_bf : PySem.W.specialIn K (.ref pp_bf) "__get__" = some (some (.builtin "property.__get__")))
    (pt_bf : PySem.W.takesIn K (.ref pp_bf) = some true)
    (pr_bf : PySem.W.recIn K pp_bf "property" = some (.ref f_bf :: rs_bf))
    (pa_bs : PySem.W.findIn K (.ref BO) "rules" = some (some (.ref pp_bs)))
    (pg_bs : PySem.W.specialIn K (.ref pp_bs) "__get__" = some (some (.builtin "property.__get__")))
    (pt_bs : PySem.W.takesIn K (.ref pp_bs) = some true)
    (pr_bs : PySem.W.recIn K pp_bs "property" = some (.ref f_bs :: rs_bs))
    (pa_br : PySem.W.findIn K (.ref BO) "ruling" = some (some (.ref pp_br)))
    (pg_br : PySem.W.specialIn K (.ref pp_br) "__get__" = some (some (.builtin "property.__get__")))
    (pt_br : PySem.W.takesIn K (.ref pp_br) = some true)
    (pr_br : PySem.W.recIn K pp_br "property" = some (.ref f_br :: rs_br))
    (pa_bn : PySem.W.findIn K (.ref BO) "names" = some (some (.ref pp_bn)))
    (pg_bn : PySem.W.specialIn K (.ref pp_bn) "__get__" = some (some (.builtin "property.__get__")))
    (pt_bn : PySem.W.takesIn K (.ref pp_bn) = some true)
    (pr_bn : PySem.W.recIn K pp_bn "property" = some (.ref f_bn :: rs_bn))
    (at_gc : PySem.W.findIn K (.ref BO) "__contains__" = some (some (.ref f_gc)))
    (fn_gc : PySem.W.isFn K (.ref f_gc) = true)
    (at_gi : PySem.W.findIn K (.ref BO) "__getitem__" = some (some (.ref f_gi)))
    (fn_gi : PySem.W.isFn K (.ref f_gi) = true)
    (at_gs : PySem.W.findIn K (.ref BO) "__sub__" = some (some (.ref f_gs)))
    (fn_gs : PySem.W.isFn K (.ref f_gs) = true)
    (at_eb : PySem.W.findIn K (.ref BO) "__eq__" = some (some (.ref f_eb)))
    (fn_eb : PySem.W.isFn K (.ref f_eb) = true)
    (at_er : PySem.W.findIn K (.ref RO) "__eq__" = some (some (.ref f_er)))
    (fn_er : PySem.W.isFn K (.ref f_er) = true)
    (at_ec : PySem.W.findIn K (.ref CO) "__eq__" = some (some (.ref f_ec)))
    (fn_ec : PySem.W.isFn K (.ref f_ec) = true)
    (at_lr : PySem.W.findIn K (.ref RO) "__len__" = some (some (.ref f_lr)))
    (fn_lr : PySem.W.isFn K (.ref f_lr) = true)
    (at_lb : PySem.W.findIn K (.ref BO) "__len__" = some (some (.ref f_lb)))
    (fn_lb : PySem.W.isFn K (.ref f_lb) = true)
    (co_ca : PySem.W.findIn K (.ref CO) "__class__" = some (some (.builtin "object.__class__")))
    (co_ob : PySem.W.mroIn K CO (.type "object") = some true)
    (co_ss : PySem.W.subIn K (.ref CO) (.ref CO) = some true)
    (co_cl : PySem.W.isClsIn K CO = true)
    (co_ty : PySem.W.typeIn K (.ref CO) = some (.type "type"))
    (co_sR : PySem.W.subIn K (.ref CO) (.ref RO) = some false)
    (co_str : PySem.W.subIn K (.ref CO) (.type "str") = some false)
    (co_bstr : PySem.W.subIn K (.type "str") (.ref CO) = some false)
    (co_bNoneType : PySem.W.subIn K (.type "NoneType") (.ref CO) = some false)
    (co_bint : PySem.W.subIn K (.type "int") (.ref CO) = some false)
    (co_btuple : PySem.W.subIn K (.type "tuple") (.ref CO) = some false)
    (ro_ca : PySem.W.findIn K (.ref RO) "__class__" = some (some (.builtin "object.__class__")))
    (ro_ob : PySem.W.mroIn K RO (.type "object") = some true)
    (ro_ss : PySem.W.subIn K (.ref RO) (.ref RO) = some true)
    (ro_cl : PySem.W.isClsIn K RO = true)
    (ro_ty : PySem.W.typeIn K (.ref RO) = some (.type "type"))
    (ro_sC : PySem.W.subIn K (.ref RO) (.ref CO) = some false)
    (ro_str : PySem.W.subIn K (.ref RO) (.type "str") = some false)
    (ro_bstr : PySem.W.subIn K (.type "str") (.ref RO) = some false)
    (ro_bNoneType : PySem.W.subIn K (.type "NoneType") (.ref RO) = some false)
    (ro_bint : PySem.W.subIn K (.type "int") (.ref RO) = some false)
    (ro_btuple : PySem.W.subIn K (.type "tuple") (.ref RO) = some false)
    (bo_ca : PySem.W.findIn K (.ref BO) "__class__" = some (some (.builtin "object.__class__")))
    (bo_ob : PySem.W.mroIn K BO (.type "object") = some true)
    (bo_ss : PySem.W.subIn K (.ref BO) (.ref BO) = some true)
    (bo_cl : PySem.W.isClsIn K BO = true)
    (bo_ty : PySem.W.typeIn K (.ref BO) = some (.type "type"))
    (bo_str : PySem.W.subIn K (.ref BO) (.type "str") = some false)
    (bo_tup : PySem.W.subIn K (.ref BO) (.type "tuple") = some false)
    (bo_ne : PySem.W.findIn K (.ref BO) "__ne__" = some (some (.builtin "object.__ne__")))
    (ty_lr : PySem.W.typeIn K (.ref f_lr) = some (.type "function"))
    (ty_lb : PySem.W.typeIn K (.ref f_lb) = some (.type "function"))
    (bo_bstr : PySem.W.subIn K (.type "str") (.ref BO) = some false)
    (bo_sf : PySem.W.selfFirst K BO = true)
    (bo_rs : PySem.W.findIn K (.ref BO) "__rsub__" = some none)
    (st_s : PySem.W.findIn K (.type "str") "__sub__" = some fo_s)
    (st_r : PySem.W.findIn K (.type "str") "__rsub__" = some fo_r)
    (fi_gc : PySem.W.fnIn K f_gc = true)
    (fi_gi : PySem.W.fnIn K f_gi = true)
    (fi_gs : PySem.W.fnIn K f_gs = true)
    (m_WORDS_WITH_NAME : PySem.W.nsIn K mainGlobals "WORDS_WITH_NAME" = some (some (.ref w1A)))
    (w1_l : K.lookup w1A = some ⟨.type "tuple", odW1, .seq #[.str "strike" uW10, .str "swap" uW11] nW1, slW1⟩)
    (m_WORDS_WITH_MORE : PySem.W.nsIn K mainGlobals "WORDS_WITH_MORE" = some (some (.ref w2A)))
    (w2_l : K.lookup w2A = some ⟨.type "tuple", odW2, .seq #[.str "add" uW20, .str "before" uW21, .str "ruling" uW22, .str "condition" uW23] nW2, slW2⟩)
    (m_WORDS_FOR_BOOKS : PySem.W.nsIn K mainGlobals "WORDS_FOR_BOOKS" = some (some (.ref w3A)))
    (w3_l : K.lookup w3A = some ⟨.type "tuple", odW3, .seq #[.str "add" uW30, .str "ruling" uW31] nW3, slW3⟩)
    (l_mi : K.lookup f_mi = some ⟨oc_mi, od_mi, .func (PySem.W.fnOf "__init__" "Condition.__init__" (defArgs s_Condition___init__) (defBody s_Condition___init__) (defScope s_Condition___init__) .none kV_mi dc_mi pm_mi an_mi cd_mi ct_mi), sl_mi⟩)
    (c_mi : PySem.W.codeIn K cd_mi "Condition.__init__" = true)
    (k_mi : PySem.W.keepIn K (.ref f_mi) = true)
    (l_mh : K.lookup f_mh = some ⟨oc_mh, od_mh, .func (PySem.W.fnOf "holding" "Condition.holding" (defArgs s_Condition_holding) (defBody s_Condition_holding) (defScope s_Condition_holding) .none kV_mh dc_mh pm_mh an_mh cd_mh ct_mh), sl_mh⟩)
    (c_mh : PySem.W.codeIn K cd_mh "Condition.holding" = true)
    (k_mh : PySem.W.keepIn K (.ref f_mh) = true)
    (l_mf : K.lookup f_mf = some ⟨oc_mf, od_mf, .func (PySem.W.fnOf "failing" "Condition.failing" (defArgs s_Condition_failing) (defBody s_Condition_failing) (defScope s_Condition_failing) .none kV_mf dc_mf pm_mf an_mf cd_mf ct_mf), sl_mf⟩)
    (c_mf : PySem.W.codeIn K cd_mf "Condition.failing" = true)
    (k_mf : PySem.W.keepIn K (.ref f_mf) = true)
    (l_mn : K.lookup f_mn = some ⟨oc_mn, od_mn, .func (PySem.W.fnOf "names" "Condition.names" (defArgs s_Condition_names) (defBody s_Condition_names) (defScope s_Condition_names) .none kV_mn dc_mn pm_mn an_mn cd_mn ct_mn), sl_mn⟩)
    (c_mn : PySem.W.codeIn K cd_mn "Condition.names" = true)
    (k_mn : PySem.W.keepIn K (.ref f_mn) = true)
    (l_ri : K.lookup f_ri = some ⟨oc_ri, od_ri, .func (PySem.W.fnOf "__init__" "Rule.__init__" (defArgs s_Rule___init__) (defBody s_Rule___init__) (defScope s_Rule___init__) .none kV_ri dc_ri pm_ri an_ri cd_ri ct_ri), sl_ri⟩)
    (c_ri : PySem.W.codeIn K cd_ri "Rule.__init__" = true)
    (k_ri : PySem.W.keepIn K (.ref f_ri) = true)
    (l_rn : K.lookup f_rn = some ⟨oc_rn, od_rn, .func (PySem.W.fnOf "name" "Rule.name" (defArgs s_Rule_name) (defBody s_Rule_name) (defScope s_Rule_name) .none kV_rn dc_rn pm_rn an_rn cd_rn ct_rn), sl_rn⟩)
    (c_rn : PySem.W.codeIn K cd_rn "Rule.name" = true)
    (k_rn : PySem.W.keepIn K (.ref f_rn) = true)
    (l_rc : K.lookup f_rc = some ⟨oc_rc, od_rc, .func (PySem.W.fnOf "condition" "Rule.condition" (defArgs s_Rule_condition) (defBody s_Rule_condition) (defScope s_Rule_condition) .none kV_rc dc_rc pm_rc an_rc cd_rc ct_rc), sl_rc⟩)
    (c_rc : PySem.W.codeIn K cd_rc "Rule.condition" = true)
    (k_rc : PySem.W.keepIn K (.ref f_rc) = true)
    (l_rr : K.lookup f_rr = some ⟨oc_rr, od_rr, .func (PySem.W.fnOf "ruling" "Rule.ruling" (defArgs s_Rule_ruling) (defBody s_Rule_ruling) (defScope s_Rule_ruling) .none kV_rr dc_rr pm_rr an_rr cd_rr ct_rr), sl_rr⟩)
    (c_rr : PySem.W.codeIn K cd_rr "Rule.ruling" = true)
    (k_rr : PySem.W.keepIn K (.ref f_rr) = true)
    (l_re : K.lookup f_re = some ⟨oc_re, od_re, .func (PySem.W.fnOf "exceptions" "Rule.exceptions" (defArgs s_Rule_exceptions) (defBody s_Rule_exceptions) (defScope s_Rule_exceptions) .none kV_re dc_re pm_re an_re cd_re ct_re), sl_re⟩)
    (c_re : PySem.W.codeIn K cd_re "Rule.exceptions" = true)
    (k_re : PySem.W.keepIn K (.ref f_re) = true)
    (l_rd : K.lookup f_rd = some ⟨oc_rd, od_rd, .func (PySem.W.fnOf "depth" "Rule.depth" (defArgs s_Rule_depth) (defBody s_Rule_depth) (defScope s_Rule_depth) .none kV_rd dc_rd pm_rd an_rd cd_rd ct_rd), sl_rd⟩)
    (c_rd : PySem.W.codeIn K cd_rd "Rule.depth" = true)
    (k_rd : PySem.W.keepIn K (.ref f_rd) = true)
    (l_bi : K.lookup f_bi = some ⟨oc_bi, od_bi, .func (PySem.W.fnOf "__init__" "Book.__init__" (defArgs s_Book___init__) (defBody s_Book___init__) (defScope s_Book___init__) .none kV_bi dc_bi pm_bi an_bi cd_bi ct_bi), sl_bi⟩)
    (c_bi : PySem.W.codeIn K cd_bi "Book.__init__" = true)
    (k_bi : PySem.W.keepIn K (.ref f_bi) = true)
    (l_bf : K.lookup f_bf = some ⟨oc_bf, od_bf, .func (PySem.W.fnOf "facts" "Book.facts" (defArgs s_Book_facts) (defBody s_Book_facts) (defScope s_Book_facts) .none kV_bf dc_bf pm_bf an_bf cd_bf ct_bf), sl_bf⟩)
    (c_bf : PySem.W.codeIn K cd_bf "Book.facts" = true)
    (k_bf : PySem.W.keepIn K (.ref f_bf) = true)
    (l_bs : K.lookup f_bs = some ⟨oc_bs, od_bs, .func (PySem.W.fnOf "rules" "Book.rules" (defArgs s_Book_rules) (defBody s_Book_rules) (defScope s_Book_rules) .none kV_bs dc_bs pm_bs an_bs cd_bs ct_bs), sl_bs⟩)
    (c_bs : PySem.W.codeIn K cd_bs "Book.rules" = true)
    (k_bs : PySem.W.keepIn K (.ref f_bs) = true)
    (l_br : K.lookup f_br = some ⟨oc_br, od_br, .func (PySem.W.fnOf "ruling" "Book.ruling" (defArgs s_Book_ruling) (defBody s_Book_ruling) (defScope s_Book_ruling) .none kV_br dc_br pm_br an_br cd_br ct_br), sl_br⟩)
    (c_br : PySem.W.codeIn K cd_br "Book.ruling" = true)
    (k_br : PySem.W.keepIn K (.ref f_br) = true)
    (l_bn : K.lookup f_bn = some ⟨oc_bn, od_bn, .func (PySem.W.fnOf "names" "Book.names" (defArgs s_Book_names) (defBody s_Book_names) (defScope s_Book_names) .none kV_bn dc_bn pm_bn an_bn cd_bn ct_bn), sl_bn⟩)
    (c_bn : PySem.W.codeIn K cd_bn "Book.names" = true)
    (k_bn : PySem.W.keepIn K (.ref f_bn) = true)
    (l_gc : K.lookup f_gc = some ⟨oc_gc, od_gc, .func (PySem.W.fnOf "__contains__" "Book.__contains__" (defArgs s_Book___contains__) (defBody s_Book___contains__) (defScope s_Book___contains__) .none kV_gc dc_gc pm_gc an_gc cd_gc ct_gc), sl_gc⟩)
    (c_gc : PySem.W.codeIn K cd_gc "Book.__contains__" = true)
    (k_gc : PySem.W.keepIn K (.ref f_gc) = true)
    (l_gi : K.lookup f_gi = some ⟨oc_gi, od_gi, .func (PySem.W.fnOf "__getitem__" "Book.__getitem__" (defArgs s_Book___getitem__) (defBody s_Book___getitem__) (defScope s_Book___getitem__) .none kV_gi dc_gi pm_gi an_gi cd_gi ct_gi), sl_gi⟩)
    (c_gi : PySem.W.codeIn K cd_gi "Book.__getitem__" = true)
    (k_gi : PySem.W.keepIn K (.ref f_gi) = true)
    (l_gs : K.lookup f_gs = some ⟨oc_gs, od_gs, .func (PySem.W.fnOf "__sub__" "Book.__sub__" (defArgs s_Book___sub__) (defBody s_Book___sub__) (defScope s_Book___sub__) .none kV_gs dc_gs pm_gs an_gs cd_gs ct_gs), sl_gs⟩)
    (c_gs : PySem.W.codeIn K cd_gs "Book.__sub__" = true)
    (k_gs : PySem.W.keepIn K (.ref f_gs) = true)
    (l_eb : K.lookup f_eb = some ⟨oc_eb, od_eb, .func (PySem.W.fnOf "__eq__" "Book.__eq__" (defArgs s_Book___eq__) (defBody s_Book___eq__) (defScope s_Book___eq__) .none kV_eb dc_eb pm_eb an_eb cd_eb ct_eb), sl_eb⟩)
    (c_eb : PySem.W.codeIn K cd_eb "Book.__eq__" = true)
    (k_eb : PySem.W.keepIn K (.ref f_eb) = true)
    (l_er : K.lookup f_er = some ⟨oc_er, od_er, .func (PySem.W.fnOf "__eq__" "Rule.__eq__" (defArgs s_Rule___eq__) (defBody s_Rule___eq__) (defScope s_Rule___eq__) .none kV_er dc_er pm_er an_er cd_er ct_er), sl_er⟩)
    (c_er : PySem.W.codeIn K cd_er "Rule.__eq__" = true)
    (k_er : PySem.W.keepIn K (.ref f_er) = true)
    (l_ec : K.lookup f_ec = some ⟨oc_ec, od_ec, .func (PySem.W.fnOf "__eq__" "Condition.__eq__" (defArgs s_Condition___eq__) (defBody s_Condition___eq__) (defScope s_Condition___eq__) .none kV_ec dc_ec pm_ec an_ec cd_ec ct_ec), sl_ec⟩)
    (c_ec : PySem.W.codeIn K cd_ec "Condition.__eq__" = true)
    (k_ec : PySem.W.keepIn K (.ref f_ec) = true)
    (l_lr : K.lookup f_lr = some ⟨oc_lr, od_lr, .func (PySem.W.fnOf "__len__" "Rule.__len__" (defArgs s_Rule___len__) (defBody s_Rule___len__) (defScope s_Rule___len__) .none kV_lr dc_lr pm_lr an_lr cd_lr ct_lr), sl_lr⟩)
    (c_lr : PySem.W.codeIn K cd_lr "Rule.__len__" = true)
    (k_lr : PySem.W.keepIn K (.ref f_lr) = true)
    (l_lb : K.lookup f_lb = some ⟨oc_lb, od_lb, .func (PySem.W.fnOf "__len__" "Book.__len__" (defArgs s_Book___len__) (defBody s_Book___len__) (defScope s_Book___len__) .none kV_lb dc_lb pm_lb an_lb cd_lb ct_lb), sl_lb⟩)
    (c_lb : PySem.W.codeIn K cd_lb "Book.__len__" = true)
    (k_lb : PySem.W.keepIn K (.ref f_lb) = true)
    (b_isinstance : PySem.W.nsIn K mainGlobals "isinstance" = some none)
    (b_len : PySem.W.nsIn K mainGlobals "len" = some none)
    (b_all : PySem.W.nsIn K mainGlobals "all" = some none)
    (b_any : PySem.W.nsIn K mainGlobals "any" = some none)
    (b_sum : PySem.W.nsIn K mainGlobals "sum" = some none)
    (b_max : PySem.W.nsIn K mainGlobals "max" = some none)
    (b_min : PySem.W.nsIn K mainGlobals "min" = some none)
    (b_int : PySem.W.nsIn K mainGlobals "int" = some none)
    (b_str : PySem.W.nsIn K mainGlobals "str" = some none)
    (b_bool : PySem.W.nsIn K mainGlobals "bool" = some none)
    (b_list : PySem.W.nsIn K mainGlobals "list" = some none)
    (b_tuple : PySem.W.nsIn K mainGlobals "tuple" = some none)
    (b_dict : PySem.W.nsIn K mainGlobals "dict" = some none)
    (b_range : PySem.W.nsIn K mainGlobals "range" = some none)
    (b_enumerate : PySem.W.nsIn K mainGlobals "enumerate" = some none)
    (b_sorted : PySem.W.nsIn K mainGlobals "sorted" = some none)
    (b_reversed : PySem.W.nsIn K mainGlobals "reversed" = some none)
    (b_zip : PySem.W.nsIn K mainGlobals "zip" = some none)
    (b_set : PySem.W.nsIn K mainGlobals "set" = some none)
    (b_ValueError : PySem.W.nsIn K mainGlobals "ValueError" = some none)
    (m_LETTERS : PySem.W.nsIn K mainGlobals "LETTERS" = some (some (.str letters t_LETTERS)))
    (m_LONGEST_NAME : PySem.W.nsIn K mainGlobals "LONGEST_NAME" = some (some (.int 8 t_LONGEST_NAME)))
    (m_MOST_FACTS : PySem.W.nsIn K mainGlobals "MOST_FACTS" = some (some (.int 60 t_MOST_FACTS)))
    (m_MOST_NAMES : PySem.W.nsIn K mainGlobals "MOST_NAMES" = some (some (.int 8 t_MOST_NAMES)))
    (m_MOST_AROUND : PySem.W.nsIn K mainGlobals "MOST_AROUND" = some (some (.int 5 t_MOST_AROUND)))
    (m_MOST_RULES : PySem.W.nsIn K mainGlobals "MOST_RULES" = some (some (.int 60 t_MOST_RULES)))
    (m_MOST_OUTERMOST : PySem.W.nsIn K mainGlobals "MOST_OUTERMOST" = some (some (.int 40 t_MOST_OUTERMOST)))
    (m_CourtError : PySem.W.nsIn K mainGlobals "CourtError" = some (some (.ref CE)))
    (m_InvalidBook : PySem.W.nsIn K mainGlobals "InvalidBook" = some (some (.ref E0)))
    (m_UnknownRule : PySem.W.nsIn K mainGlobals "UnknownRule" = some (some (.ref E1)))
    (m_NoNeighbor : PySem.W.nsIn K mainGlobals "NoNeighbor" = some (some (.ref E2)))
    (m_InvalidAmendment : PySem.W.nsIn K mainGlobals "InvalidAmendment" = some (some (.ref E3)))
    (m_InvalidOperation : PySem.W.nsIn K mainGlobals "InvalidOperation" = some (some (.ref E4)))
    (m_InvalidCase : PySem.W.nsIn K mainGlobals "InvalidCase" = some (some (.ref E5)))
    (m_InvalidLabel : PySem.W.nsIn K mainGlobals "InvalidLabel" = some (some (.ref E6)))
    (m_UnknownLabel : PySem.W.nsIn K mainGlobals "UnknownLabel" = some (some (.ref E7)))
    (m_InvalidFacts : PySem.W.nsIn K mainGlobals "InvalidFacts" = some (some (.ref E8)))
    (m_InvalidCondition : PySem.W.nsIn K mainGlobals "InvalidCondition" = some (some (.ref E9)))
    (m_InvalidRule : PySem.W.nsIn K mainGlobals "InvalidRule" = some (some (.ref E10)))
    (CEbe : PySem.W.subIn K (.ref CE) (.type "BaseException") = some true)
    (CEcl : PySem.W.isClsIn K CE = true)
    (CEty : PySem.W.typeIn K (.ref CE) = some (.type "type"))
    (u_0 : PySem.W.isClsIn K E0 = true)
    (v_0 : PySem.W.typeIn K (.ref E0) = some (.type "type"))
    (u_1 : PySem.W.isClsIn K E1 = true)
    (v_1 : PySem.W.typeIn K (.ref E1) = some (.type "type"))
    (u_2 : PySem.W.isClsIn K E2 = true)
    (v_2 : PySem.W.typeIn K (.ref E2) = some (.type "type"))
    (u_3 : PySem.W.isClsIn K E3 = true)
    (v_3 : PySem.W.typeIn K (.ref E3) = some (.type "type"))
    (u_4 : PySem.W.isClsIn K E4 = true)
    (v_4 : PySem.W.typeIn K (.ref E4) = some (.type "type"))
    (u_5 : PySem.W.isClsIn K E5 = true)
    (v_5 : PySem.W.typeIn K (.ref E5) = some (.type "type"))
    (u_6 : PySem.W.isClsIn K E6 = true)
    (v_6 : PySem.W.typeIn K (.ref E6) = some (.type "type"))
    (u_7 : PySem.W.isClsIn K E7 = true)
    (v_7 : PySem.W.typeIn K (.ref E7) = some (.type "type"))
    (u_8 : PySem.W.isClsIn K E8 = true)
    (v_8 : PySem.W.typeIn K (.ref E8) = some (.type "type"))
    (u_9 : PySem.W.isClsIn K E9 = true)
    (v_9 : PySem.W.typeIn K (.ref E9) = some (.type "type"))
    (u_10 : PySem.W.isClsIn K E10 = true)
    (v_10 : PySem.W.typeIn K (.ref E10) = some (.type "type"))
    (r0_cl : PySem.W.isClsIn K E0 = true)
    (r0_ga : PySem.W.findIn K (.ref E0) "__getattribute__" = some (some (.builtin "BaseException.__getattribute__")))
    (r0_gt : PySem.W.findIn K (.ref E0) "__getattr__" = some none)
    (r0_be : PySem.W.subIn K (.ref E0) (.type "BaseException") = some true)
    (r0_kc : PySem.W.findIn K (.ref E0) "__class__" = some (some (.builtin "object.__class__")))
    (r0_ob : PySem.W.mroIn K E0 (.type "object") = some true)
    (r0_hd : PySem.W.hasDictIn K E0 = true)
    (r0_sC : PySem.W.subIn K (.ref E0) (.ref CE) = some true)
    (r0_ve : PySem.W.subIn K (.ref E0) (.type "ValueError") = some true)
    (r0_k0 : PySem.W.subIn K (.ref E0) (.ref E0) = some true)
    (r0_k1 : PySem.W.subIn K (.ref E0) (.ref E1) = some false)
    (r0_k2 : PySem.W.subIn K (.ref E0) (.ref E2) = some false)
    (r0_k3 : PySem.W.subIn K (.ref E0) (.ref E3) = some false)
    (r0_k4 : PySem.W.subIn K (.ref E0) (.ref E4) = some false)
    (r0_k5 : PySem.W.subIn K (.ref E0) (.ref E5) = some false)
    (r0_k6 : PySem.W.subIn K (.ref E0) (.ref E6) = some false)
    (r0_k7 : PySem.W.subIn K (.ref E0) (.ref E7) = some false)
    (r0_k8 : PySem.W.subIn K (.ref E0) (.ref E8) = some false)
    (r0_k9 : PySem.W.subIn K (.ref E0) (.ref E9) = some false)
    (r0_k10 : PySem.W.subIn K (.ref E0) (.ref E10) = some false)
    (r0_n_index : PySem.W.findIn K (.ref E0) "index" = some none)
    (r0_n_part : PySem.W.findIn K (.ref E0) "part" = some none)
    (r0_n_word : PySem.W.findIn K (.ref E0) "word" = some none)
    (r0_n_fact : PySem.W.findIn K (.ref E0) "fact" = some none)
    (r1_cl : PySem.W.isClsIn K E1 = true)
    (r1_ga : PySem.W.findIn K (.ref E1) "__getattribute__" = some (some (.builtin "BaseException.__getattribute__")))
    (r1_gt : PySem.W.findIn K (.ref E1) "__getattr__" = some none)
    (r1_be : PySem.W.subIn K (.ref E1) (.type "BaseException") = some true)
    (r1_kc : PySem.W.findIn K (.ref E1) "__class__" = some (some (.builtin "object.__class__")))
    (r1_ob : PySem.W.mroIn K E1 (.type "object") = some true)
    (r1_hd : PySem.W.hasDictIn K E1 = true)
    (r1_sC : PySem.W.subIn K (.ref E1) (.ref CE) = some true)
    (r1_ve : PySem.W.subIn K (.ref E1) (.type "ValueError") = some true)
    (r1_k0 : PySem.W.subIn K (.ref E1) (.ref E0) = some false)
    (r1_k1 : PySem.W.subIn K (.ref E1) (.ref E1) = some true)
    (r1_k2 : PySem.W.subIn K (.ref E1) (.ref E2) = some false)
    (r1_k3 : PySem.W.subIn K (.ref E1) (.ref E3) = some false)
    (r1_k4 : PySem.W.subIn K (.ref E1) (.ref E4) = some false)
    (r1_k5 : PySem.W.subIn K (.ref E1) (.ref E5) = some false)
    (r1_k6 : PySem.W.subIn K (.ref E1) (.ref E6) = some false)
    (r1_k7 : PySem.W.subIn K (.ref E1) (.ref E7) = some false)
    (r1_k8 : PySem.W.subIn K (.ref E1) (.ref E8) = some false)
    (r1_k9 : PySem.W.subIn K (.ref E1) (.ref E9) = some false)
    (r1_k10 : PySem.W.subIn K (.ref E1) (.ref E10) = some false)
    (r1_n_index : PySem.W.findIn K (.ref E1) "index" = some none)
    (r1_n_part : PySem.W.findIn K (.ref E1) "part" = some none)
    (r1_n_word : PySem.W.findIn K (.ref E1) "word" = some none)
    (r1_n_fact : PySem.W.findIn K (.ref E1) "fact" = some none)
    (r2_cl : PySem.W.isClsIn K E2 = true)
    (r2_ga : PySem.W.findIn K (.ref E2) "__getattribute__" = some (some (.builtin "BaseException.__getattribute__")))
    (r2_gt : PySem.W.findIn K (.ref E2) "__getattr__" = some none)
    (r2_be : PySem.W.subIn K (.ref E2) (.type "BaseException") = some true)
    (r2_kc : PySem.W.findIn K (.ref E2) "__class__" = some (some (.builtin "object.__class__")))
    (r2_ob : PySem.W.mroIn K E2 (.type "object") = some true)
    (r2_hd : PySem.W.hasDictIn K E2 = true)
    (r2_sC : PySem.W.subIn K (.ref E2) (.ref CE) = some true)
    (r2_ve : PySem.W.subIn K (.ref E2) (.type "ValueError") = some true)
    (r2_k0 : PySem.W.subIn K (.ref E2) (.ref E0) = some false)
    (r2_k1 : PySem.W.subIn K (.ref E2) (.ref E1) = some false)
    (r2_k2 : PySem.W.subIn K (.ref E2) (.ref E2) = some true)
    (r2_k3 : PySem.W.subIn K (.ref E2) (.ref E3) = some false)
    (r2_k4 : PySem.W.subIn K (.ref E2) (.ref E4) = some false)
    (r2_k5 : PySem.W.subIn K (.ref E2) (.ref E5) = some false)
    (r2_k6 : PySem.W.subIn K (.ref E2) (.ref E6) = some false)
    (r2_k7 : PySem.W.subIn K (.ref E2) (.ref E7) = some false)
    (r2_k8 : PySem.W.subIn K (.ref E2) (.ref E8) = some false)
    (r2_k9 : PySem.W.subIn K (.ref E2) (.ref E9) = some false)
    (r2_k10 : PySem.W.subIn K (.ref E2) (.ref E10) = some false)
    (r2_n_index : PySem.W.findIn K (.ref E2) "index" = some none)
    (r2_n_part : PySem.W.findIn K (.ref E2) "part" = some none)
    (r2_n_word : PySem.W.findIn K (.ref E2) "word" = some none)
    (r2_n_fact : PySem.W.findIn K (.ref E2) "fact" = some none)
    (sg : PySem.W.specialIn K (.builtin "object.__class__") "__get__" = some (some (.builtin "getset_descriptor.__get__")))
    (tk : PySem.W.takesIn K (.builtin "object.__class__") = some true)
    (x_E : K.lookup CE = some (excClassObj nmE qE CE NE bsE bmE true snE suE abE colE ddE x0E x1E x2E x3E x5E "ValueError.__new__"))
    (f_E : PySem.W.findIn K (.ref CE) "__init__" = some (some (.builtin "ValueError.__init__")))
    (noS : PySem.W.nsIn K mainGlobals "super" = some none)
    (opq : PySem.W.nsIn K cStatics "thirdparty.any" = some none)
    (i8_x : K.lookup E8 = some (excClassObj nmi8 qi8 E8 Ni8 bsi8 bmi8 true sni8 sui8 abi8 coli8 ddi8 x0i8 x1i8 x2i8 x3i8 x5i8 "ValueError.__new__"))
    (i8_rv : HandSPX.refsVE bmi8 = true)
    (i8_sa : PySem.W.findIn K (.ref E8) "__setattr__" = some (some (.builtin "object.__setattr__")))
    (i8_ty : PySem.W.typeIn K (.ref E8) = some (.type "type"))
    (i8_kC : PySem.W.keepIn K (.ref E8) = true)
    (i8_in : PySem.W.findIn K (.ref E8) "__init__" = some (some (.ref fIi8)))
    (i8_tI : PySem.W.typeIn K (.ref fIi8) = some (.type "function"))
    (i8_lI : K.lookup fIi8 = some ⟨ocii8, odii8, .func (supFd (nf_InvalidFacts celi8 codi8) kVii8 dcii8 pmii8 anii8 ctii8), slii8⟩)
    (i8_cI : PySem.W.codeIn K (.ref codi8) "InvalidFacts.__init__" = true)
    (i8_ce : K.lookup celi8 = some ⟨clci8, ccddi8, .cell (some (.ref E8)), csli8⟩)
    (i8_co : K.lookup codi8 = some ⟨ccli8, cddi8, .fields vsi8, ccsi8⟩)
    (i8_fi : vsi8[2]? = some (.str fili8 tfii8))
    (i8_fe : ((P.main.file : Str) == fili8) = true)
    (i8_sb : PySem.W.mroIn K E8 (.ref E8) = some true)
    (i8_bm : bmi8 = .ref CE :: bmE)
    (i8_vB : PySem.W.subIn K (.ref E8) (.type "ValueError") = some true)
    (i8_bE : PySem.W.subIn K (.ref E8) (.type "BaseException") = some true)
    (i8_f_index : PySem.W.findIn K (.ref E8) "index" = some none)
    (i9_x : K.lookup E9 = some (excClassObj nmi9 qi9 E9 Ni9 bsi9 bmi9 true sni9 sui9 abi9 coli9 ddi9 x0i9 x1i9 x2i9 x3i9 x5i9 "ValueError.__new__"))
    (i9_rv : HandSPX.refsVE bmi9 = true)
    (i9_sa : PySem.W.findIn K (.ref E9) "__setattr__" = some (some (.builtin "object.__setattr__")))
    (i9_ty : PySem.W.typeIn K (.ref E9) = some (.type "type"))
    (i9_kC : PySem.W.keepIn K (.ref E9) = true)
    (i9_in : PySem.W.findIn K (.ref E9) "__init__" = some (some (.ref fIi9)))
    (i9_tI : PySem.W.typeIn K (.ref fIi9) = some (.type "function"))
    (i9_lI : K.lookup fIi9 = some ⟨ocii9, odii9, .func (supFd (nf_InvalidCondition celi9 codi9) kVii9 dcii9 pmii9 anii9 ctii9), slii9⟩)
    (i9_cI : PySem.W.codeIn K (.ref codi9) "InvalidCondition.__init__" = true)
    (i9_ce : K.lookup celi9 = some ⟨clci9, ccddi9, .cell (some (.ref E9)), csli9⟩)
    (i9_co : K.lookup codi9 = some ⟨ccli9, cddi9, .fields vsi9, ccsi9⟩)
    (i9_fi : vsi9[2]? = some (.str fili9 tfii9))
    (i9_fe : ((P.main.file : Str) == fili9) = true)
    (i9_sb : PySem.W.mroIn K E9 (.ref E9) = some true)
    (i9_bm : bmi9 = .ref CE :: bmE)
    (i9_vB : PySem.W.subIn K (.ref E9) (.type "ValueError") = some true)
    (i9_bE : PySem.W.subIn K (.ref E9) (.type "BaseException") = some true)
    (i9_f_part : PySem.W.findIn K (.ref E9) "part" = some none)
    (i9_f_index : PySem.W.findIn K (.ref E9) "index" = some none)
    (i10_x : K.lookup E10 = some (excClassObj nmi10 qi10 E10 Ni10 bsi10 bmi10 true sni10 sui10 abi10 coli10 ddi10 x0i10 x1i10 x2i10 x3i10 x5i10 "ValueError.__new__"))
    (i10_rv : HandSPX.refsVE bmi10 = true)
    (i10_sa : PySem.W.findIn K (.ref E10) "__setattr__" = some (some (.builtin "object.__setattr__")))
    (i10_ty : PySem.W.typeIn K (.ref E10) = some (.type "type"))
    (i10_kC : PySem.W.keepIn K (.ref E10) = true)
    (i10_in : PySem.W.findIn K (.ref E10) "__init__" = some (some (.ref fIi10)))
    (i10_tI : PySem.W.typeIn K (.ref fIi10) = some (.type "function"))
    (i10_lI : K.lookup fIi10 = some ⟨ocii10, odii10, .func (supFd (nf_InvalidRule celi10 codi10) kVii10 dcii10 pmii10 anii10 ctii10), slii10⟩)
    (i10_cI : PySem.W.codeIn K (.ref codi10) "InvalidRule.__init__" = true)
    (i10_ce : K.lookup celi10 = some ⟨clci10, ccddi10, .cell (some (.ref E10)), csli10⟩)
    (i10_co : K.lookup codi10 = some ⟨ccli10, cddi10, .fields vsi10, ccsi10⟩)
    (i10_fi : vsi10[2]? = some (.str fili10 tfii10))
    (i10_fe : ((P.main.file : Str) == fili10) = true)
    (i10_sb : PySem.W.mroIn K E10 (.ref E10) = some true)
    (i10_bm : bmi10 = .ref CE :: bmE)
    (i10_vB : PySem.W.subIn K (.ref E10) (.type "ValueError") = some true)
    (i10_bE : PySem.W.subIn K (.ref E10) (.type "BaseException") = some true)
    (i10_f_part : PySem.W.findIn K (.ref E10) "part" = some none)
    (i0_x : K.lookup E0 = some (excClassObj nmi0 qi0 E0 Ni0 bsi0 bmi0 true sni0 sui0 abi0 coli0 ddi0 x0i0 x1i0 x2i0 x3i0 x5i0 "ValueError.__new__"))
    (i0_rv : HandSPX.refsVE bmi0 = true)
    (i0_sa : PySem.W.findIn K (.ref E0) "__setattr__" = some (some (.builtin "object.__setattr__")))
    (i0_ty : PySem.W.typeIn K (.ref E0) = some (.type "type"))
    (i0_kC : PySem.W.keepIn K (.ref E0) = true)
    (i0_in : PySem.W.findIn K (.ref E0) "__init__" = some (some (.ref fIi0)))
    (i0_tI : PySem.W.typeIn K (.ref fIi0) = some (.type "function"))
    (i0_lI : K.lookup fIi0 = some ⟨ocii0, odii0, .func (supFd (nf_InvalidBook celi0 codi0) kVii0 dcii0 pmii0 anii0 ctii0), slii0⟩)
    (i0_cI : PySem.W.codeIn K (.ref codi0) "InvalidBook.__init__" = true)
    (i0_ce : K.lookup celi0 = some ⟨clci0, ccddi0, .cell (some (.ref E0)), csli0⟩)
    (i0_co : K.lookup codi0 = some ⟨ccli0, cddi0, .fields vsi0, ccsi0⟩)
    (i0_fi : vsi0[2]? = some (.str fili0 tfii0))
    (i0_fe : ((P.main.file : Str) == fili0) = true)
    (i0_sb : PySem.W.mroIn K E0 (.ref E0) = some true)
    (i0_bm : bmi0 = .ref CE :: bmE)
    (i0_vB : PySem.W.subIn K (.ref E0) (.type "ValueError") = some true)
    (i0_bE : PySem.W.subIn K (.ref E0) (.type "BaseException") = some true)
    (i0_f_word : PySem.W.findIn K (.ref E0) "word" = some none)
    (i0_f_index : PySem.W.findIn K (.ref E0) "index" = some none)
    (p1_q : PySem.W.excIn K E1 [.type "ValueError", .type "Exception", .type "BaseException", .type "object"] "ValueError.__new__" = true)
    (p1_k : PySem.W.keepIn K (.ref E1) = true)
    (p1_b : PySem.W.subIn K (.ref E1) (.type "BaseException") = some true)
    (p1_t : PySem.W.typeIn K (.ref E1) = some (.type "type"))
    (p2_q : PySem.W.excIn K E2 [.type "ValueError", .type "Exception", .type "BaseException", .type "object"] "ValueError.__new__" = true)
    (p2_k : PySem.W.keepIn K (.ref E2) = true)
    (p2_b : PySem.W.subIn K (.ref E2) (.type "BaseException") = some true)
    (p2_t : PySem.W.typeIn K (.ref E2) = some (.type "type"))
    (p3_q : PySem.W.excIn K E3 [.type "ValueError", .type "Exception", .type "BaseException", .type "object"] "ValueError.__new__" = true)
    (p3_k : PySem.W.keepIn K (.ref E3) = true)
    (p3_b : PySem.W.subIn K (.ref E3) (.type "BaseException") = some true)
    (p3_t : PySem.W.typeIn K (.ref E3) = some (.type "type"))
    (tbl : K.lookup cc_law = some ocl)
    (tb0 : PySem.W.codeHdIn [(cc_law, ocl)] cc_law Tb0 = true)
    (tb1 : h.get? Tb0 = some ⟨.none, none, .fields #[], #[]⟩)
    (tb2 : K.lookup Tb0 = none)
    (top0 : (P.main.scope.names.lookup ("super" : Str)).isSome = false) : LamX.LawAtS l w K CX0 38 63 "_law_script" mg fa h := by
  have e := hfa.symm.trans (PySem.W.mg_of X G a_law)
  cases e
  subst eP
  have B : Blt mg := ⟨PySem.W.mg_none_of X G b_isinstance, PySem.W.mg_none_of X G b_len, PySem.W.mg_none_of X G b_all, PySem.W.mg_none_of X G b_any, PySem.W.mg_none_of X G b_sum, PySem.W.mg_none_of X G b_max, PySem.W.mg_none_of X G b_min, PySem.W.mg_none_of X G b_int, PySem.W.mg_none_of X G b_str, PySem.W.mg_none_of X G b_bool, PySem.W.mg_none_of X G b_list, PySem.W.mg_none_of X G b_tuple, PySem.W.mg_none_of X G b_dict, PySem.W.mg_none_of X G b_range, PySem.W.mg_none_of X G b_enumerate, PySem.W.mg_none_of X G b_sorted, PySem.W.mg_none_of X G b_reversed, PySem.W.mg_none_of X G b_zip, PySem.W.mg_none_of X G b_set, PySem.W.mg_none_of X G b_ValueError⟩
  have F_is_name := fun_mk (st := s_is_name) l_is_name c_is_name k_is_name
  have b_is_name := F_is_name.binds (ps := ["value"]) fun _ _ _ _ _ _ us hl => match us, hl with | [_], _ => rfl
  have F_rises := fun_mk (st := s_rises) l_rises c_rises k_rises
  have b_rises := F_rises.binds (ps := ["names", "index"]) fun _ _ _ _ _ _ us hl => match us, hl with | [_, _], _ => rfl
  have F_check_facts := fun_mk (st := s_check_facts) l_check_facts c_check_facts k_check_facts
  have b_check_facts := F_check_facts.binds (ps := ["facts"]) fun _ _ _ _ _ _ us hl => match us, hl with | [_], _ => rfl
  have F_nested := fun_mk (st := s_nested) l_nested c_nested k_nested
  have b_nested := F_nested.binds (ps := ["rules", "around"]) fun _ _ _ _ _ _ us hl => match us, hl with | [_, _], _ => rfl
  have F_check_rules := fun_mk (st := s_check_rules) l_check_rules c_check_rules k_check_rules
  have b_check_rules := F_check_rules.binds (ps := ["facts", "rules"]) fun _ _ _ _ _ _ us hl => match us, hl with | [_, _], _ => rfl
  have F_check_part := fun_mk (st := s_check_part) l_check_part c_check_part k_check_part
  have b_check_part := F_check_part.binds (ps := ["part", "names", "before"]) fun _ _ _ _ _ _ us hl => match us, hl with | [_, _, _], _ => rfl
  have F_merged := fun_mk (st := s_merged) l_merged c_merged k_merged
  have b_merged := F_merged.binds (ps := ["names", "others"]) fun _ _ _ _ _ _ us hl => match us, hl with | [_, _], _ => rfl
  have F_replaced := fun_mk (st := s_replaced) l_replaced c_replaced k_replaced
  have b_replaced := F_replaced.binds (ps := ["rules", "name", "others"]) fun _ _ _ _ _ _ us hl => match us, hl with | [_, _, _], _ => rfl
  have F_path_to := fun_mk (st := s_path_to) l_path_to c_path_to k_path_to
  have b_path_to := F_path_to.binds (ps := ["rules", "name"]) fun _ _ _ _ _ _ us hl => match us, hl with | [_, _], _ => rfl
  have F_next_beside := fun_mk (st := s_next_beside) l_next_beside c_next_beside k_next_beside
  have b_next_beside := F_next_beside.binds (ps := ["book", "name"]) fun _ _ _ _ _ _ us hl => match us, hl with | [_, _], _ => rfl
  have F_swapped := fun_mk (st := s_swapped) l_swapped c_swapped k_swapped
  have b_swapped := F_swapped.binds (ps := ["book", "name"]) fun _ _ _ _ _ _ us hl => match us, hl with | [_, _], _ => rfl
  have F_amended := fun_mk (st := s_amended) l_amended c_amended k_amended
  have b_amended := F_amended.binds (ps := ["book", "amendment"]) fun _ _ _ _ _ _ us hl => match us, hl with | [_, _], _ => rfl
  have F_amended_book := fun_mk (st := s_amended_book) l_amended_book c_amended_book k_amended_book
  have b_amended_book := F_amended_book.binds (ps := ["book", "word", "new"]) fun _ _ _ _ _ _ us hl => match us, hl with | [_, _, _], _ => rfl
  have F_amended_rule := fun_mk (st := s_amended_rule) l_amended_rule c_amended_rule k_amended_rule
  have b_amended_rule := F_amended_rule.binds (ps := ["rule", "word", "new"]) fun _ _ _ _ _ _ us hl => match us, hl with | [_, _, _], _ => rfl
  have F_is_amendment := fun_mk (st := s_is_amendment) l_is_amendment c_is_amendment k_is_amendment
  have b_is_amendment := F_is_amendment.binds (ps := ["value"]) fun _ _ _ _ _ _ us hl => match us, hl with | [_], _ => rfl
  have F_is_new := fun_mk (st := s_is_new) l_is_new c_is_new k_is_new
  have b_is_new := F_is_new.binds (ps := ["word", "value"]) fun _ _ _ _ _ _ us hl => match us, hl with | [_, _], _ => rfl
  have F__law_mix := fun_mk (st := s__law_mix) l__law_mix c__law_mix k__law_mix
  have b__law_mix := F__law_mix.binds (ps := ["_law_script", "_law_seed"]) fun _ _ _ _ _ _ us hl => match us, hl with | [_, _], _ => rfl
  have F__law_next := fun_mk (st := s__law_next) l__law_next c__law_next k__law_next
  have b__law_next := F__law_next.binds (ps := ["_law_h", "_law_limit"]) fun _ _ _ _ _ _ us hl => match us, hl with | [_, _], _ => rfl
  have F__law_facts := fun_mk (st := s__law_facts) l__law_facts c__law_facts k__law_facts
  have b__law_facts := F__law_facts.binds (ps := ["_law_h", "_law_most"]) fun _ _ _ _ _ _ us hl => match us, hl with | [_, _], _ => rfl
  have F__law_sides := fun_mk (st := s__law_sides) l__law_sides c__law_sides k__law_sides
  have b__law_sides := F__law_sides.binds (ps := ["_law_h", "_law_facts_here", "_law_most"]) fun _ _ _ _ _ _ us hl => match us, hl with | [_, _, _], _ => rfl
  have F__law_rule := fun_mk (st := s__law_rule) l__law_rule c__law_rule k__law_rule
  have b__law_rule := F__law_rule.binds (ps := ["_law_h", "_law_facts_here", "_law_names", "_law_deep"]) fun _ _ _ _ _ _ us hl => match us, hl with | [_, _, _, _], _ => rfl
  have F__law_drawn := fun_mk (st := s__law_drawn) l__law_drawn c__law_drawn k__law_drawn
  have b__law_drawn := F__law_drawn.binds (ps := ["_law_h", "_law_facts_here", "_law_most"]) fun _ _ _ _ _ _ us hl => match us, hl with | [_, _, _], _ => rfl
  have F__law_made := fun_mk (st := s__law_made) l__law_made c__law_made k__law_made
  have b__law_made := F__law_made.binds (ps := ["_law_rules"]) fun _ _ _ _ _ _ us hl => match us, hl with | [_], _ => rfl
  have F__law_book := fun_mk (st := s__law_book) l__law_book c__law_book k__law_book
  have b__law_book := F__law_book.binds (ps := ["_law_drawn_here"]) fun _ _ _ _ _ _ us hl => match us, hl with | [_], _ => rfl
  have F__law_all := fun_mk (st := s__law_all) l__law_all c__law_all k__law_all
  have b__law_all := F__law_all.binds (ps := ["_law_rules"]) fun _ _ _ _ _ _ us hl => match us, hl with | [_], _ => rfl
  have F__law_changed := fun_mk (st := s__law_changed) l__law_changed c__law_changed k__law_changed
  have b__law_changed := F__law_changed.binds (ps := ["_law_row", "_law_k", "_law_word", "_law_what"]) fun _ _ _ _ _ _ us hl => match us, hl with | [_, _, _, _], _ => rfl
  have F__law_edit := fun_mk (st := s__law_edit) l__law_edit c__law_edit k__law_edit
  have b__law_edit := F__law_edit.binds (ps := ["_law_rules", "_law_name", "_law_word", "_law_what"]) fun _ _ _ _ _ _ us hl => match us, hl with | [_, _, _, _], _ => rfl
  have F__law_after := fun_mk (st := s__law_after) l__law_after c__law_after k__law_after
  have b__law_after := F__law_after.binds (ps := ["_law_drawn_here", "_law_amendment_here"]) fun _ _ _ _ _ _ us hl => match us, hl with | [_, _], _ => rfl
  have F__law_beside := fun_mk (st := s__law_beside) l__law_beside c__law_beside k__law_beside
  have b__law_beside := F__law_beside.binds (ps := ["_law_rules", "_law_name"]) fun _ _ _ _ _ _ us hl => match us, hl with | [_, _], _ => rfl
  have F__law_amendment := fun_mk (st := s__law_amendment) l__law_amendment c__law_amendment k__law_amendment
  have b__law_amendment := F__law_amendment.binds (ps := ["_law_h", "_law_drawn_here"]) fun _ _ _ _ _ _ us hl => match us, hl with | [_, _], _ => rfl
  have F__law_real := fun_mk (st := s__law_real) l__law_real c__law_real k__law_real
  have b__law_real := F__law_real.binds (ps := ["_law_amendment_here"]) fun _ _ _ _ _ _ us hl => match us, hl with | [_], _ => rfl
  have F__law_depths := fun_mk (st := s__law_depths) l__law_depths c__law_depths k__law_depths
  have b__law_depths := F__law_depths.binds (ps := ["_law_rules", "_law_deep"]) fun _ _ _ _ _ _ us hl => match us, hl with | [_, _], _ => rfl
  have F__law_stop := fun_mk (st := s__law_stop) l__law_stop c__law_stop k__law_stop
  have b__law_stop := F__law_stop.binds (ps := ["_law_drawn_here", "_law_amendment_here"]) fun _ _ _ _ _ _ us hl => match us, hl with | [_, _], _ => rfl
  have F__law_say := fun_mk (st := s__law_say) l__law_say c__law_say k__law_say
  have b__law_say := F__law_say.binds (ps := ["_law_work"]) fun _ _ _ _ _ _ us hl => match us, hl with | [_], _ => rfl
  have F__law_backs := fun_mk (st := s__law_backs) l__law_backs c__law_backs k__law_backs
  have b__law_backs := F__law_backs.binds (ps := ["_law_book_here", "_law_later", "_law_amendment_here"]) fun _ _ _ _ _ _ us hl => match us, hl with | [_, _, _], _ => rfl
  have ec_InvalidBook : ErrC K E0 := ⟨r0_cl, r0_ga, r0_gt, r0_be, r0_kc, sg, tk, r0_ob, r0_hd⟩
  have ec_UnknownRule : ErrC K E1 := ⟨r1_cl, r1_ga, r1_gt, r1_be, r1_kc, sg, tk, r1_ob, r1_hd⟩
  have ec_NoNeighbor : ErrC K E2 := ⟨r2_cl, r2_ga, r2_gt, r2_be, r2_kc, sg, tk, r2_ob, r2_hd⟩
  have ox_InvalidFacts : OexC K E8 := ⟨⟨_, _, _, _, _, _, _, _, _, _, _, _, _, _, _, i8_x, i8_rv⟩, i8_sa, i8_bE, i8_ty, i8_kC⟩
  have sp_InvalidFacts : SupC l.prog K mg E8 celi8 codi8 := ⟨⟨_, _, _, i8_ce⟩, ⟨_, _, _, _, _, _, i8_co, i8_fi, i8_fe⟩, i8_sb, PySem.W.mg_none_of X G noS, opq, sup_by i8_x x_E i8_bm f_E, i8_vB, top0⟩
  have ox_InvalidCondition : OexC K E9 := ⟨⟨_, _, _, _, _, _, _, _, _, _, _, _, _, _, _, i9_x, i9_rv⟩, i9_sa, i9_bE, i9_ty, i9_kC⟩
  have sp_InvalidCondition : SupC l.prog K mg E9 celi9 codi9 := ⟨⟨_, _, _, i9_ce⟩, ⟨_, _, _, _, _, _, i9_co, i9_fi, i9_fe⟩, i9_sb, PySem.W.mg_none_of X G noS, opq, sup_by i9_x x_E i9_bm f_E, i9_vB, top0⟩
  have ox_InvalidRule : OexC K E10 := ⟨⟨_, _, _, _, _, _, _, _, _, _, _, _, _, _, _, i10_x, i10_rv⟩, i10_sa, i10_bE, i10_ty, i10_kC⟩
  have sp_InvalidRule : SupC l.prog K mg E10 celi10 codi10 := ⟨⟨_, _, _, i10_ce⟩, ⟨_, _, _, _, _, _, i10_co, i10_fi, i10_fe⟩, i10_sb, PySem.W.mg_none_of X G noS, opq, sup_by i10_x x_E i10_bm f_E, i10_vB, top0⟩
  have ox_InvalidBook : OexC K E0 := ⟨⟨_, _, _, _, _, _, _, _, _, _, _, _, _, _, _, i0_x, i0_rv⟩, i0_sa, i0_bE, i0_ty, i0_kC⟩
  have sp_InvalidBook : SupC l.prog K mg E0 celi0 codi0 := ⟨⟨_, _, _, i0_ce⟩, ⟨_, _, _, _, _, _, i0_co, i0_fi, i0_fe⟩, i0_sb, PySem.W.mg_none_of X G noS, opq, sup_by i0_x x_E i0_bm f_E, i0_vB, top0⟩
  have F_mi := fun_mk (st := s_Condition___init__) l_mi c_mi k_mi
  have b_mi := F_mi.binds (ps := ["self", "holding", "failing"]) fun _ _ _ _ _ _ us hl => match us, hl with | [_, _, _], _ => rfl
  have F_mh := fun_mk (st := s_Condition_holding) l_mh c_mh k_mh
  have b_mh := F_mh.binds (ps := ["self"]) fun _ _ _ _ _ _ us hl => match us, hl with | [_], _ => rfl
  have F_mf := fun_mk (st := s_Condition_failing) l_mf c_mf k_mf
  have b_mf := F_mf.binds (ps := ["self"]) fun _ _ _ _ _ _ us hl => match us, hl with | [_], _ => rfl
  have F_mn := fun_mk (st := s_Condition_names) l_mn c_mn k_mn
  have b_mn := F_mn.binds (ps := ["self"]) fun _ _ _ _ _ _ us hl => match us, hl with | [_], _ => rfl
  have F_ri := fun_mk (st := s_Rule___init__) l_ri c_ri k_ri
  have b_ri := F_ri.binds (ps := ["self", "name", "condition", "ruling", "exceptions"]) fun _ _ _ _ _ _ us hl => match us, hl with | [_, _, _, _, _], _ => rfl
  have F_rn := fun_mk (st := s_Rule_name) l_rn c_rn k_rn
  have b_rn := F_rn.binds (ps := ["self"]) fun _ _ _ _ _ _ us hl => match us, hl with | [_], _ => rfl
  have F_rc := fun_mk (st := s_Rule_condition) l_rc c_rc k_rc
  have b_rc := F_rc.binds (ps := ["self"]) fun _ _ _ _ _ _ us hl => match us, hl with | [_], _ => rfl
  have F_rr := fun_mk (st := s_Rule_ruling) l_rr c_rr k_rr
  have b_rr := F_rr.binds (ps := ["self"]) fun _ _ _ _ _ _ us hl => match us, hl with | [_], _ => rfl
  have F_re := fun_mk (st := s_Rule_exceptions) l_re c_re k_re
  have b_re := F_re.binds (ps := ["self"]) fun _ _ _ _ _ _ us hl => match us, hl with | [_], _ => rfl
  have F_rd := fun_mk (st := s_Rule_depth) l_rd c_rd k_rd
  have b_rd := F_rd.binds (ps := ["self"]) fun _ _ _ _ _ _ us hl => match us, hl with | [_], _ => rfl
  have F_bi := fun_mk (st := s_Book___init__) l_bi c_bi k_bi
  have b_bi := F_bi.binds (ps := ["self", "facts", "rules", "ruling"]) fun _ _ _ _ _ _ us hl => match us, hl with | [_, _, _, _], _ => rfl
  have F_bf := fun_mk (st := s_Book_facts) l_bf c_bf k_bf
  have b_bf := F_bf.binds (ps := ["self"]) fun _ _ _ _ _ _ us hl => match us, hl with | [_], _ => rfl
  have F_bs := fun_mk (st := s_Book_rules) l_bs c_bs k_bs
  have b_bs := F_bs.binds (ps := ["self"]) fun _ _ _ _ _ _ us hl => match us, hl with | [_], _ => rfl
  have F_br := fun_mk (st := s_Book_ruling) l_br c_br k_br
  have b_br := F_br.binds (ps := ["self"]) fun _ _ _ _ _ _ us hl => match us, hl with | [_], _ => rfl
  have F_bn := fun_mk (st := s_Book_names) l_bn c_bn k_bn
  have b_bn := F_bn.binds (ps := ["self"]) fun _ _ _ _ _ _ us hl => match us, hl with | [_], _ => rfl
  have F_gc := fun_mk (st := s_Book___contains__) l_gc c_gc k_gc
  have b_gc := F_gc.binds (ps := ["self", "name"]) fun _ _ _ _ _ _ us hl => match us, hl with | [_, _], _ => rfl
  have F_gi := fun_mk (st := s_Book___getitem__) l_gi c_gi k_gi
  have b_gi := F_gi.binds (ps := ["self", "name"]) fun _ _ _ _ _ _ us hl => match us, hl with | [_, _], _ => rfl
  have F_gs := fun_mk (st := s_Book___sub__) l_gs c_gs k_gs
  have b_gs := F_gs.binds (ps := ["self", "name"]) fun _ _ _ _ _ _ us hl => match us, hl with | [_, _], _ => rfl
  have F_eb := fun_mk (st := s_Book___eq__) l_eb c_eb k_eb
  have b_eb := F_eb.binds (ps := ["self", "other"]) fun _ _ _ _ _ _ us hl => match us, hl with | [_, _], _ => rfl
  have F_er := fun_mk (st := s_Rule___eq__) l_er c_er k_er
  have b_er := F_er.binds (ps := ["self", "other"]) fun _ _ _ _ _ _ us hl => match us, hl with | [_, _], _ => rfl
  have F_ec := fun_mk (st := s_Condition___eq__) l_ec c_ec k_ec
  have b_ec := F_ec.binds (ps := ["self", "other"]) fun _ _ _ _ _ _ us hl => match us, hl with | [_, _], _ => rfl
  have F_lr := fun_mk (st := s_Rule___len__) l_lr c_lr k_lr
  have b_lr := F_lr.binds (ps := ["self"]) fun _ _ _ _ _ _ us hl => match us, hl with | [_], _ => rfl
  have F_lb := fun_mk (st := s_Book___len__) l_lb c_lb k_lb
  have b_lb := F_lb.binds (ps := ["self"]) fun _ _ _ _ _ _ us hl => match us, hl with | [_], _ => rfl
  have GN : GNames mg := ⟨⟨_, PySem.W.mg_of X G m_LETTERS⟩, ⟨_, PySem.W.mg_of X G m_LONGEST_NAME⟩⟩
  have CLc : Cls K CO := ⟨co_pg, co_hd, co_po, co_sa⟩
  have CLr : Cls K RO := ⟨ro_pg, ro_hd, ro_po, ro_sa⟩
  have CLb : Cls K BO := ⟨bo_pg, bo_hd, bo_po, bo_sa⟩
  refine ⟨PySem.W.fnOf "law" "law" (defArgs s_law) (defBody s_law) (defScope s_law) .none kV_law dc_law pm_law an_law (.ref cc_law) ct_law, [(cc_law, Tb0)], sp_law K Tb0, fun p hp => by rw [List.mem_singleton.mp hp]; exact tb1, fun p hp => by rw [List.mem_singleton.mp hp]; exact tb2, fun p hp => by rw [List.mem_singleton.mp hp]; exact PySem.W.codeHd_of_K X (codeHd_by tbl tb0), ?_, ?_, ?_⟩
  · exact fun s u => .of_eq rfl
  · exact fun H a ns hl hb ht hS => ⟨a, ns, rfl, hS, hl, hb, ht _ (List.mem_singleton.mpr rfl), fun _ => rfl⟩
  · intro base KB NB TBs
    have e_InvalidFacts : ErrMk l.prog w K mg base "InvalidFacts" E8 ["self", "index"] (sp_init1 E8 "index") := ⟨_, _, ox_InvalidFacts, i8_in, i8_tI, ok_init_InvalidFacts i8_lI i8_cI ox_InvalidFacts sp_InvalidFacts i8_f_index, fun s us _ hl => match us, hl with | [_, _], _ => .of_eq rfl, PySem.W.mg_of X G m_InvalidFacts⟩
    have e_InvalidCondition : ErrMk l.prog w K mg base "InvalidCondition" E9 ["self", "part", "index"] (sp_init2 E9 "part" "index") := ⟨_, _, ox_InvalidCondition, i9_in, i9_tI, ok_init_InvalidCondition i9_lI i9_cI ox_InvalidCondition sp_InvalidCondition i9_f_part i9_f_index, fun s us _ hl => match us, hl with | [_, _, _], _ => .of_eq rfl, PySem.W.mg_of X G m_InvalidCondition⟩
    have e_InvalidRule : ErrMk l.prog w K mg base "InvalidRule" E10 ["self", "part"] (sp_init1 E10 "part") := ⟨_, _, ox_InvalidRule, i10_in, i10_tI, ok_init_InvalidRule i10_lI i10_cI ox_InvalidRule sp_InvalidRule i10_f_part, fun s us _ hl => match us, hl with | [_, _], _ => .of_eq rfl, PySem.W.mg_of X G m_InvalidRule⟩
    have e_InvalidBook : ErrMk l.prog w K mg base "InvalidBook" E0 ["self", "word", "index"] (sp_init2 E0 "word" "index") := ⟨_, _, ox_InvalidBook, i0_in, i0_tI, ok_init_InvalidBook i0_lI i0_cI ox_InvalidBook sp_InvalidBook i0_f_word i0_f_index, fun s us _ hl => match us, hl with | [_, _, _], _ => .of_eq rfl, PySem.W.mg_of X G m_InvalidBook⟩
    have e_UnknownRule : ErrMk0 K mg "UnknownRule" E1 := ⟨p1_q, PySem.W.mg_of X G m_UnknownRule, p1_k, p1_b, p1_t⟩
    have e_NoNeighbor : ErrMk0 K mg "NoNeighbor" E2 := ⟨p2_q, PySem.W.mg_of X G m_NoNeighbor, p2_k, p2_b, p2_t⟩
    have e_InvalidAmendment : ErrMk0 K mg "InvalidAmendment" E3 := ⟨p3_q, PySem.W.mg_of X G m_InvalidAmendment, p3_k, p3_b, p3_t⟩
    have c_is_name : Cal l.prog w K mg base CX0 1 "is_name" ["value"] (sp_is_name) := ⟨_, _, (ok_is_name F_is_name B GN), PySem.W.mg_of X G a_is_name, k_is_name, b_is_name⟩
    have c_rises : Cal l.prog w K mg base CX0 1 "rises" ["names", "index"] (sp_rises K) := ⟨_, _, (ok_rises F_rises ), PySem.W.mg_of X G a_rises, k_rises, b_rises⟩
    have c_check_facts : Cal l.prog w K mg base (L2.CX l.prog w) 3 "check_facts" ["facts"] (sp_check_facts K E8) := ⟨_, _, (ok_check_facts F_check_facts B ⟨_, PySem.W.mg_of X G m_MOST_FACTS⟩ e_InvalidFacts c_is_name c_rises), PySem.W.mg_of X G a_check_facts, k_check_facts, b_check_facts⟩
    have c_check_part : Cal l.prog w K mg base (L2.CX l.prog w) 3 "check_part" ["part", "names", "before"] (sp_check_part K E9) := ⟨_, _, (ok_check_part F_check_part B ⟨_, PySem.W.mg_of X G m_MOST_NAMES⟩ e_InvalidCondition c_is_name c_rises), PySem.W.mg_of X G a_check_part, k_check_part, b_check_part⟩
    have c_merged : Cal l.prog w K mg base CX0 1 "merged" ["names", "others"] (sp_merged K) := ⟨_, _, (ok_merged F_merged B), PySem.W.mg_of X G a_merged, k_merged, b_merged⟩
    have pc_mh : PropC l.prog w K mg base CO pp_mh f_mh _ "holding" "_holding" := ⟨⟨pa_mh, pg_mh, pt_mh, ⟨_, pr_mh⟩⟩, ok_holding F_mh CLc co_n1, b_mh⟩
    have pc_mf : PropC l.prog w K mg base CO pp_mf f_mf _ "failing" "_failing" := ⟨⟨pa_mf, pg_mf, pt_mf, ⟨_, pr_mf⟩⟩, ok_failing F_mf CLc co_n2, b_mf⟩
    have pc_mn : PropC l.prog w K mg base CO pp_mn f_mn _ "names" "_names" := ⟨⟨pa_mn, pg_mn, pt_mn, ⟨_, pr_mn⟩⟩, ok_cnames F_mn CLc co_n3, b_mn⟩
    have pc_rn : PropC l.prog w K mg base RO pp_rn f_rn _ "name" "_name" := ⟨⟨pa_rn, pg_rn, pt_rn, ⟨_, pr_rn⟩⟩, ok_Rule_name F_rn CLr ro_n1, b_rn⟩
    have pc_rc : PropC l.prog w K mg base RO pp_rc f_rc _ "condition" "_condition" := ⟨⟨pa_rc, pg_rc, pt_rc, ⟨_, pr_rc⟩⟩, ok_Rule_condition F_rc CLr ro_n2, b_rc⟩
    have pc_rr : PropC l.prog w K mg base RO pp_rr f_rr _ "ruling" "_ruling" := ⟨⟨pa_rr, pg_rr, pt_rr, ⟨_, pr_rr⟩⟩, ok_Rule_ruling F_rr CLr ro_n3, b_rr⟩
    have pc_re : PropC l.prog w K mg base RO pp_re f_re _ "exceptions" "_exceptions" := ⟨⟨pa_re, pg_re, pt_re, ⟨_, pr_re⟩⟩, ok_Rule_exceptions F_re CLr ro_n4, b_re⟩
    have pc_rd : PropC l.prog w K mg base RO pp_rd f_rd _ "depth" "_depth" := ⟨⟨pa_rd, pg_rd, pt_rd, ⟨_, pr_rd⟩⟩, ok_Rule_depth F_rd CLr ro_n5, b_rd⟩
    have pc_bf : PropC l.prog w K mg base BO pp_bf f_bf _ "facts" "_facts" := ⟨⟨pa_bf, pg_bf, pt_bf, ⟨_, pr_bf⟩⟩, ok_Book_facts F_bf CLb bo_n1, b_bf⟩
    have pc_bs : PropC l.prog w K mg base BO pp_bs f_bs _ "rules" "_rules" := ⟨⟨pa_bs, pg_bs, pt_bs, ⟨_, pr_bs⟩⟩, ok_Book_rules F_bs CLb bo_n2, b_bs⟩
    have pc_br : PropC l.prog w K mg base BO pp_br f_br _ "ruling" "_ruling" := ⟨⟨pa_br, pg_br, pt_br, ⟨_, pr_br⟩⟩, ok_Book_ruling F_br CLb bo_n3, b_br⟩
    have kK : CondG l.prog w K mg base CO := ⟨CLc, ⟨_, _, _, pc_mh⟩, ⟨_, _, _, pc_mf⟩, ⟨_, _, _, pc_mn⟩⟩
    have kR : RuleX l.prog w K mg base RO := ⟨CLr, ⟨_, _, _, pc_rn⟩, ⟨_, _, _, pc_rc⟩, ⟨_, _, _, pc_rr⟩, ⟨_, _, _, pc_re⟩, ⟨_, _, _, pc_rd⟩⟩
    have kBX : BookX l.prog w K mg base BO := ⟨CLb, ⟨_, _, _, pc_bf⟩, ⟨_, _, _, pc_bs⟩, ⟨_, _, _, pc_br⟩⟩
    have c_nested : Cal l.prog w K mg base CX0 15 "nested" ["rules", "around"] (sp_nested K CO RO 12) := ⟨_, _, rec_all (S := sp_nested K CO RO) (k := 2) (fun d c => ok_nested F_nested kR c) (PySem.W.mg_of X G a_nested) k_nested b_nested 12, PySem.W.mg_of X G a_nested, k_nested, b_nested⟩
    have c_check_rules : Cal l.prog w K mg base (L2.CX l.prog w) 16 "check_rules" ["facts", "rules"] (sp_check_rules K CO RO E0) := ⟨_, _, (ok_check_rules F_check_rules B kR kK (PySem.W.mg_of X G m_MOST_AROUND) (PySem.W.mg_of X G m_MOST_RULES) (PySem.W.mg_of X G m_MOST_OUTERMOST) e_InvalidBook c_nested), PySem.W.mg_of X G a_check_rules, k_check_rules, b_check_rules⟩
    have kM : Mkr l.prog w K mg base 4 "Condition" CO ["self", "holding", "failing"] (sp_cond_init K CO E9) := ⟨_, _, ⟨co_mk, co_in, co_fn, co_kp⟩, ok_cond_init F_mi B CLc co_n1 co_n2 co_n3 c_check_part c_merged, PySem.W.mg_of X G co, b_mi⟩
    have kRM : Mkr l.prog w K mg base 16 "Rule" RO ["self", "name", "condition", "ruling", "exceptions"] (sp_rule_init K CO RO E10) := ⟨_, _, ⟨ro_mk, ro_in, ro_fn, ro_kp⟩, ok_rule_init F_ri B CLr ro_n1 ro_n2 ro_n3 ro_n4 ro_n5 ro_n6 kR e_InvalidRule c_is_name c_nested, PySem.W.mg_of X G ro, b_ri⟩
    have kBM : Mkr l.prog w K mg base 17 "Book" BO ["self", "facts", "rules", "ruling"] (sp_book_init K CO RO BO E8 E0) := ⟨_, _, ⟨bo_mk, bo_in, bo_fn, bo_kp⟩, ok_book_init F_bi B CLb bo_n1 bo_n2 bo_n3 bo_n4 e_InvalidBook c_is_name c_nested c_check_facts c_check_rules, PySem.W.mg_of X G bo, b_bi⟩
    have c__law_mix : Cal l.prog w K mg base CX0 1 "_law_mix" ["_law_script", "_law_seed"] (sp_mix K) := ⟨_, _, (ok_mix F__law_mix B), PySem.W.mg_of X G a__law_mix, k__law_mix, b__law_mix⟩
    have c__law_next : Cal l.prog w K mg base CX0 1 "_law_next" ["_law_h", "_law_limit"] (sp_next) := ⟨_, _, (ok_next F__law_next B), PySem.W.mg_of X G a__law_next, k__law_next, b__law_next⟩
    have c__law_facts : Cal l.prog w K mg base CX0 2 "_law_facts" ["_law_h", "_law_most"] (sp_facts) := ⟨_, _, (ok_facts F__law_facts B c__law_next), PySem.W.mg_of X G a__law_facts, k__law_facts, b__law_facts⟩
    have c__law_sides : Cal l.prog w K mg base CX0 2 "_law_sides" ["_law_h", "_law_facts_here", "_law_most"] (sp_sides K) := ⟨_, _, (ok_sides F__law_sides B c__law_next), PySem.W.mg_of X G a__law_sides, k__law_sides, b__law_sides⟩
    have c__law_rule : Cal l.prog w K mg base CX0 5 "_law_rule" ["_law_h", "_law_facts_here", "_law_names", "_law_deep"] (sp_rule2 K 2) := ⟨_, _, rec_all (S := sp_rule2 K) (k := 2) (fun d c => ok_rule2 F__law_rule B c__law_next c__law_sides c) (PySem.W.mg_of X G a__law_rule) k__law_rule b__law_rule 2, PySem.W.mg_of X G a__law_rule, k__law_rule, b__law_rule⟩
    have c__law_drawn : Cal l.prog w K mg base CX0 6 "_law_drawn" ["_law_h", "_law_facts_here", "_law_most"] (sp_drawn K) := ⟨_, _, (ok_drawn F__law_drawn B c__law_next c__law_rule), PySem.W.mg_of X G a__law_drawn, k__law_drawn, b__law_drawn⟩
    have c__law_made : Cal l.prog w K mg base CX0 30 "_law_made" ["_law_rules"] (sp_made K CO RO 12) := ⟨_, _, rec_all (S := sp_made K CO RO) (k := 17) (fun d c => ok_made F__law_made B kM kRM c) (PySem.W.mg_of X G a__law_made) k__law_made b__law_made 12, PySem.W.mg_of X G a__law_made, k__law_made, b__law_made⟩
    have c__law_book : Cal l.prog w K mg base CX0 31 "_law_book" ["_law_drawn_here"] (sp_book2 K CO RO BO) := ⟨_, _, (ok_book2 F__law_book B kBM c__law_made), PySem.W.mg_of X G a__law_book, k__law_book, b__law_book⟩
    have c__law_all : Cal l.prog w K mg base CX0 14 "_law_all" ["_law_rules"] (sp_all K 12) := ⟨_, _, rec_all (S := sp_all K) (k := 1) (fun d c => ok_all F__law_all B c) (PySem.W.mg_of X G a__law_all) k__law_all b__law_all 12, PySem.W.mg_of X G a__law_all, k__law_all, b__law_all⟩
    have ICc : IsiC K CO := ⟨co_ca, sg, tk, co_ob, kit_by co_ss co_cl co_ty co_ss⟩
    have ICr : IsiC K RO := ⟨ro_ca, sg, tk, ro_ob, kit_by ro_ss ro_cl ro_ty ro_ss⟩
    have ICb : IsiC K BO := ⟨bo_ca, sg, tk, bo_ob, kit_by bo_ss bo_cl bo_ty bo_ss⟩
    have AK : KitA K CO RO := ⟨ICc, ICr, CLc, CLr, fun k => match k with | .str _ => kit_ty (show kitB "str" "str" = some true by decide +kernel) | .non => kit_ty (show kitB "NoneType" "str" = some false by decide +kernel) | .els => kit_ty (show kitB "int" "str" = some false by decide +kernel) | .cond => kit_refT (by decide +kernel) co_str | .rule => kit_refT (by decide +kernel) ro_str | .tup => kit_ty (show kitB "tuple" "str" = some false by decide +kernel), fun k => match k with | .str _ => kit_tyC co_cl co_ty co_bstr | .non => kit_tyC co_cl co_ty co_bNoneType | .els => kit_tyC co_cl co_ty co_bint | .cond => kit_by co_ss co_cl co_ty co_ss | .rule => kit_by ro_ss co_cl co_ty ro_sC | .tup => kit_tyC co_cl co_ty co_btuple, fun k => match k with | .str _ => kit_tyC ro_cl ro_ty ro_bstr | .non => kit_tyC ro_cl ro_ty ro_bNoneType | .els => kit_tyC ro_cl ro_ty ro_bint | .cond => kit_by co_ss ro_cl ro_ty co_sR | .rule => kit_by ro_ss ro_cl ro_ty ro_ss | .tup => kit_tyC ro_cl ro_ty ro_btuple⟩
    have c_is_nameK : Cal l.prog w K mg base CX0 1 "is_name" ["value"] (sp_is_nameK CO RO) := ⟨_, _, ok_is_nameK F_is_name B GN AK, PySem.W.mg_of X G a_is_name, k_is_name, b_is_name⟩
    have c_is_new : Cal l.prog w K mg base CX0 2 "is_new" ["word", "value"] (sp_is_new CO RO) := ⟨_, _, (ok_is_new F_is_new B AK (PySem.W.mg_of X G co) (PySem.W.mg_of X G ro) c_is_nameK), PySem.W.mg_of X G a_is_new, k_is_new, b_is_new⟩
    have hW1 : ∀ H : Hp, SqT K H w1A (w1s.map V.str) := fun H => .inr ⟨_, _, _, w1_l, rfl, rfl, (by show 2 ≤ sizeLine; decide), vals_of_strs (.cons _ _ (.cons _ _ .nil))⟩
    have hW2 : ∀ H : Hp, SqT K H w2A (w2s.map V.str) := fun H => .inr ⟨_, _, _, w2_l, rfl, rfl, (by show 4 ≤ sizeLine; decide), vals_of_strs (.cons _ _ (.cons _ _ (.cons _ _ (.cons _ _ .nil))))⟩
    have hW3 : ∀ H : Hp, SqT K H w3A (w3s.map V.str) := fun H => .inr ⟨_, _, _, w3_l, rfl, rfl, (by show 2 ≤ sizeLine; decide), vals_of_strs (.cons _ _ (.cons _ _ .nil))⟩
    have c_is_amendment : Cal l.prog w K mg base CX0 3 "is_amendment" ["value"] (sp_is_amendment K CO RO) := ⟨_, _, (ok_is_amendment F_is_amendment B AK (PySem.W.mg_of X G m_WORDS_WITH_NAME) (PySem.W.mg_of X G m_WORDS_WITH_MORE) (PySem.W.mg_of X G m_WORDS_FOR_BOOKS) hW1 hW2 hW3 (kit_ty (by decide +kernel)) c_is_nameK c_is_new), PySem.W.mg_of X G a_is_amendment, k_is_amendment, b_is_amendment⟩
    have c_path_to : Cal l.prog w K mg base CX0 15 "path_to" ["rules", "name"] (sp_path K CO RO 12) := ⟨_, _, rec_all (S := sp_path K CO RO) (k := 2) (fun d c => ok_path F_path_to kR c) (PySem.W.mg_of X G a_path_to) k_path_to b_path_to 12, PySem.W.mg_of X G a_path_to, k_path_to, b_path_to⟩
    have c_next_beside : Cal l.prog w K mg base (L2.CX l.prog w) 16 "next_beside" ["book", "name"] (sp_beside K CO RO BO E1 E2) := ⟨_, _, (ok_beside F_next_beside B kR kBX e_UnknownRule e_NoNeighbor c_path_to), PySem.W.mg_of X G a_next_beside, k_next_beside, b_next_beside⟩
    have c_replaced : Cal l.prog w K mg base CX0 30 "replaced" ["rules", "name", "others"] (sp_replaced K CO RO 12) := ⟨_, _, rec_all (S := sp_replaced K CO RO) (k := 17) (fun d c => ok_replaced F_replaced B kR kRM c) (PySem.W.mg_of X G a_replaced) k_replaced b_replaced 12, PySem.W.mg_of X G a_replaced, k_replaced, b_replaced⟩
    have c_amended_rule : Cal l.prog w K mg base CX0 18 "amended_rule" ["rule", "word", "new"] (sp_arule K CO RO) := ⟨_, _, (ok_arule F_amended_rule B kR kRM), PySem.W.mg_of X G a_amended_rule, k_amended_rule, b_amended_rule⟩
    have mCon : MethO l.prog w K mg base CX0 3 BO "__contains__" ["self", "name"] (sp_contains K CO RO BO) := ⟨_, _, at_gc, fn_gc, fi_gc, ok_contains F_gc B CLb bo_n4 kR, b_gc⟩
    have mIt : MethO l.prog w K mg base (L2.CX l.prog w) 3 BO "__getitem__" ["self", "name"] (sp_getitem K CO RO BO E1) := ⟨_, _, at_gi, fn_gi, fi_gi, ok_getitem F_gi B CLb bo_n4 kR e_UnknownRule, b_gi⟩
    have mSub : MethO l.prog w K mg base (L2.CX l.prog w) 32 BO "__sub__" ["self", "name"] (sp_sub K CO RO BO E0 E1) := ⟨_, _, at_gs, fn_gs, fi_gs, ok_sub F_gs B CLb bo_n1 bo_n2 bo_n3 kBM mCon c_replaced e_UnknownRule, b_gs⟩
    have bT : BinT K BO .Sub := ⟨bo_sf, ⟨_, bo_rs, .inl rfl⟩, ⟨_, st_s⟩, ⟨_, st_r⟩, bo_bstr⟩
    have c_swapped : Cal l.prog w K mg base (L2.CX l.prog w) 32 "swapped" ["book", "name"] (sp_swapped K CO RO BO E0 E1 E2) := ⟨_, _, (ok_swapped F_swapped B kR kBX kBM mIt c_replaced c_next_beside), PySem.W.mg_of X G a_swapped, k_swapped, b_swapped⟩
    have c_amended_book : Cal l.prog w K mg base (L2.CX l.prog w) 19 "amended_book" ["book", "word", "new"] (sp_amended_book K CO RO BO E0) := ⟨_, _, (ok_amended_book F_amended_book B kBX kBM), PySem.W.mg_of X G a_amended_book, k_amended_book, b_amended_book⟩
    have c_amended : Cal l.prog w K mg base (L2.CX l.prog w) 34 "amended" ["book", "amendment"] (sp_amended K CO RO BO E0 E1 E2) := ⟨_, _, (ok_amended F_amended B kBX kBM mIt mSub bT c_replaced c_amended_rule c_swapped c_amended_book c_is_amendment e_InvalidAmendment), PySem.W.mg_of X G a_amended, k_amended, b_amended⟩
    have c__law_depths : Cal l.prog w K mg base CX0 14 "_law_depths" ["_law_rules", "_law_deep"] (sp_depths K 12) := ⟨_, _, rec_all (S := sp_depths K) (k := 1) (fun d c => ok_depths F__law_depths B c) (PySem.W.mg_of X G a__law_depths) k__law_depths b__law_depths 12, PySem.W.mg_of X G a__law_depths, k__law_depths, b__law_depths⟩
    have c__law_beside : Cal l.prog w K mg base CX0 14 "_law_beside" ["_law_rules", "_law_name"] (sp_besideL K 12) := ⟨_, _, rec_all (S := sp_besideL K) (k := 1) (fun d c => ok_besideL F__law_beside B c) (PySem.W.mg_of X G a__law_beside) k__law_beside b__law_beside 12, PySem.W.mg_of X G a__law_beside, k__law_beside, b__law_beside⟩
    have c__law_changed : Cal l.prog w K mg base CX0 1 "_law_changed" ["_law_row", "_law_k", "_law_word", "_law_what"] (sp_changed K) := ⟨_, _, (ok_changed F__law_changed B), PySem.W.mg_of X G a__law_changed, k__law_changed, b__law_changed⟩
    have c__law_edit : Cal l.prog w K mg base CX0 14 "_law_edit" ["_law_rules", "_law_name", "_law_word", "_law_what"] (sp_edit K 12) := ⟨_, _, rec_all (S := sp_edit K) (k := 1) (fun d c => ok_edit F__law_edit B c__law_changed c) (PySem.W.mg_of X G a__law_edit) k__law_edit b__law_edit 12, PySem.W.mg_of X G a__law_edit, k__law_edit, b__law_edit⟩
    have c__law_after : Cal l.prog w K mg base CX0 15 "_law_after" ["_law_drawn_here", "_law_amendment_here"] (sp_after K) := ⟨_, _, (ok_after F__law_after B c__law_edit), PySem.W.mg_of X G a__law_after, k__law_after, b__law_after⟩
    have c__law_stop : Cal l.prog w K mg base CX0 16 "_law_stop" ["_law_drawn_here", "_law_amendment_here"] (sp_stop K) := ⟨_, _, (ok_stop F__law_stop B c__law_all c__law_depths c__law_beside c__law_after), PySem.W.mg_of X G a__law_stop, k__law_stop, b__law_stop⟩
    have c__law_real : Cal l.prog w K mg base CX0 31 "_law_real" ["_law_amendment_here"] (sp_real K CO RO) := ⟨_, _, (ok_real F__law_real B c__law_made kM), PySem.W.mg_of X G a__law_real, k__law_real, b__law_real⟩
    have c__law_amendment : Cal l.prog w K mg base CX0 16 "_law_amendment" ["_law_h", "_law_drawn_here"] (sp_amt K) := ⟨_, _, (ok_amt F__law_amendment B c__law_next c__law_all c__law_rule c__law_sides), PySem.W.mg_of X G a__law_amendment, k__law_amendment, b__law_amendment⟩
    have fR := ruleAns_all (P := l.prog) (w := w) (base := base) (C := CO) F_er B CLr ro_n1 ro_n2 ro_n3 ro_n4 (PySem.W.mg_of X G ro) ICr at_ec fn_ec (ok_ceq F_ec B CLc co_n1 co_n2 (PySem.W.mg_of X G co) ICc) b_ec at_er fn_er b_er 12
    have mBe : EqO l.prog w K mg base 29 BO (sp_bans K CO RO BO) := ⟨⟨_, _, at_eb, fn_eb, ok_bans F_eb B CLb bo_n1 bo_n2 bo_n3 (PySem.W.mg_of X G bo) ICb at_er fn_er b_er fR, b_eb⟩, bo_ob, bo_ne⟩
    have lR : LenM l.prog w K mg base 1 RO f_lr _ (sp_rlen K CO RO) := ⟨at_lr, ty_lr, ok_rlen F_lr B CLr ro_n6, b_lr⟩
    have lB : LenM l.prog w K mg base 1 BO f_lb _ (sp_blen K CO RO BO) := ⟨at_lb, ty_lb, ok_blen F_lb B CLb bo_n4, b_lb⟩
    have mNm : PropM l.prog w K mg base BO "names" 3 (sp_bnames K CO RO BO) := ⟨_, _, _, ⟨pa_bn, pg_bn, pt_bn, ⟨_, pr_bn⟩⟩, ok_bnames F_bn B CLb bo_n4 kR, b_bn⟩
    have c__law_backs : Cal l.prog w K mg base CX0 5 "_law_backs" ["_law_book_here", "_law_later", "_law_amendment_here"] (sp_backs K CO RO BO) := ⟨_, _, (ok_backs F__law_backs B kR kBX mIt mNm), PySem.W.mg_of X G a__law_backs, k__law_backs, b__law_backs⟩
    have GK : GSay mg (fun i => [E0, E1, E2, E3, E4, E5, E6, E7].getD i E0) CE := ⟨PySem.W.mg_of X G m_CourtError, PySem.W.mg_of X G m_InvalidBook, PySem.W.mg_of X G m_UnknownRule, PySem.W.mg_of X G m_NoNeighbor, PySem.W.mg_of X G m_InvalidAmendment, PySem.W.mg_of X G m_InvalidOperation, PySem.W.mg_of X G m_InvalidCase, PySem.W.mg_of X G m_InvalidLabel, PySem.W.mg_of X G m_UnknownLabel⟩
    have kr_0 : SayRow K (fun i => [E0, E1, E2, E3, E4, E5, E6, E7].getD i E0) CE E0 0 := ⟨ec_InvalidBook, exm_by CEbe CEcl CEty r0_sC, fun i hi => match i, hi with | 0, _ => kit_by r0_k0 u_0 v_0 r0_k0 | 1, _ => kit_by r0_k0 u_1 v_1 r0_k1 | 2, _ => kit_by r0_k0 u_2 v_2 r0_k2 | 3, _ => kit_by r0_k0 u_3 v_3 r0_k3 | 4, _ => kit_by r0_k0 u_4 v_4 r0_k4 | 5, _ => kit_by r0_k0 u_5 v_5 r0_k5 | 6, _ => kit_by r0_k0 u_6 v_6 r0_k6 | 7, _ => kit_by r0_k0 u_7 v_7 r0_k7 | x + 8, h => absurd h (by omega), r0_n_index, r0_n_word⟩
    have kr_1 : SayRow K (fun i => [E0, E1, E2, E3, E4, E5, E6, E7].getD i E0) CE E1 1 := ⟨ec_UnknownRule, exm_by CEbe CEcl CEty r1_sC, fun i hi => match i, hi with | 0, _ => kit_by r1_k1 u_0 v_0 r1_k0 | 1, _ => kit_by r1_k1 u_1 v_1 r1_k1 | 2, _ => kit_by r1_k1 u_2 v_2 r1_k2 | 3, _ => kit_by r1_k1 u_3 v_3 r1_k3 | 4, _ => kit_by r1_k1 u_4 v_4 r1_k4 | 5, _ => kit_by r1_k1 u_5 v_5 r1_k5 | 6, _ => kit_by r1_k1 u_6 v_6 r1_k6 | 7, _ => kit_by r1_k1 u_7 v_7 r1_k7 | x + 8, h => absurd h (by omega), r1_n_index, r1_n_word⟩
    have kr_2 : SayRow K (fun i => [E0, E1, E2, E3, E4, E5, E6, E7].getD i E0) CE E2 2 := ⟨ec_NoNeighbor, exm_by CEbe CEcl CEty r2_sC, fun i hi => match i, hi with | 0, _ => kit_by r2_k2 u_0 v_0 r2_k0 | 1, _ => kit_by r2_k2 u_1 v_1 r2_k1 | 2, _ => kit_by r2_k2 u_2 v_2 r2_k2 | 3, _ => kit_by r2_k2 u_3 v_3 r2_k3 | 4, _ => kit_by r2_k2 u_4 v_4 r2_k4 | 5, _ => kit_by r2_k2 u_5 v_5 r2_k5 | 6, _ => kit_by r2_k2 u_6 v_6 r2_k6 | 7, _ => kit_by r2_k2 u_7 v_7 r2_k7 | x + 8, h => absurd h (by omega), r2_n_index, r2_n_word⟩
    exact ok_law ⟨⟨_, _, _, _, _, _, _, _, rfl, l_law, c_law⟩, k_law⟩ B GK F__law_say (PySem.W.mg_of X G a__law_say) b__law_say (TBs _ (List.mem_singleton.mpr rfl)) CLb ICb (kit_refT (by decide +kernel) bo_str) (kit_refT (by decide +kernel) bo_tup) kr_0 kr_1 kr_2 lB lR mBe c__law_mix c__law_next c__law_facts c__law_drawn c__law_book c__law_amendment c__law_real c__law_stop c__law_after c__law_backs c_amended
end Sc
/-! the head's facts read by a Hook of one's own: functions by address, all else by one Bool -/
namespace Sc
open PySem PySem.Spec PyProof.Rows L2 HeadY He
theorem all_y {w : World} {K : PySem.W.Frag} {h : Heap} {mg : Str → Option Value} {fa : Addr} (X : K.In h) (G : h.Ns mainGlobals mg) (hfa : mg "law" = some (.ref fa)) (S : SaysY fnL tfL exB h K) : LamX.LawAtS theLaw w K CX0 38 63 "_law_script" mg fa h := by
  obtain ⟨_, _, _, _, _, _, _, _, l_is_name, y_l_is_name⟩ := fn_ok (S.fn 0 rfl) (gx0 S).2.1
  obtain ⟨_, _, _, _, _, _, _, _, l_rises, y_l_rises⟩ := fn_ok (S.fn 1 rfl) (gx0 S).2.2.2.2.1
  obtain ⟨_, _, _, _, _, _, _, _, l_check_facts, y_l_check_facts⟩ := fn_ok (S.fn 2 rfl) (gx0 S).2.2.2.2.2.2.2.1
  obtain ⟨_, _, _, _, _, _, _, _, l_nested, y_l_nested⟩ := fn_ok (S.fn 3 rfl) (gx0 S).2.2.2.2.2.2.2.2.2.2.1
  obtain ⟨_, _, _, _, _, _, _, _, l_check_rules, y_l_check_rules⟩ := fn_ok (S.fn 4 rfl) (gx1 S).2.1
  obtain ⟨_, _, _, _, _, _, _, _, l_check_part, y_l_check_part⟩ := fn_ok (S.fn 5 rfl) (gx1 S).2.2.2.2.1
  obtain ⟨_, _, _, _, _, _, _, _, l_merged, y_l_merged⟩ := fn_ok (S.fn 6 rfl) (gx1 S).2.2.2.2.2.2.2.1
  obtain ⟨_, _, _, _, _, _, _, _, l_replaced, y_l_replaced⟩ := fn_ok (S.fn 7 rfl) (gx1 S).2.2.2.2.2.2.2.2.2.2.1
  obtain ⟨_, _, _, _, _, _, _, _, l_path_to, y_l_path_to⟩ := fn_ok (S.fn 8 rfl) (gx2 S).2.1
  obtain ⟨_, _, _, _, _, _, _, _, l_next_beside, y_l_next_beside⟩ := fn_ok (S.fn 9 rfl) (gx2 S).2.2.2.2.1
  obtain ⟨_, _, _, _, _, _, _, _, l_swapped, y_l_swapped⟩ := fn_ok (S.fn 10 rfl) (gx2 S).2.2.2.2.2.2.2.1
  obtain ⟨_, _, _, _, _, _, _, _, l_amended, y_l_amended⟩ := fn_ok (S.fn 11 rfl) (gx2 S).2.2.2.2.2.2.2.2.2.2.1
  obtain ⟨_, _, _, _, _, _, _, _, l_amended_book, y_l_amended_book⟩ := fn_ok (S.fn 12 rfl) (gx3 S).2.1
  obtain ⟨_, _, _, _, _, _, _, _, l_amended_rule, y_l_amended_rule⟩ := fn_ok (S.fn 13 rfl) (gx3 S).2.2.2.2.1
  obtain ⟨_, _, _, _, _, _, _, _, l_is_amendment, y_l_is_amendment⟩ := fn_ok (S.fn 14 rfl) (gx3 S).2.2.2.2.2.2.2.1
  obtain ⟨_, _, _, _, _, _, _, _, l_is_new, y_l_is_new⟩ := fn_ok (S.fn 15 rfl) (gx3 S).2.2.2.2.2.2.2.2.2.2.1
  obtain ⟨_, _, _, _, _, _, _, _, l__law_mix, y_l__law_mix⟩ := fn_ok (S.fn 16 rfl) (gx4 S).2.1
  obtain ⟨_, _, _, _, _, _, _, _, l__law_next, y_l__law_next⟩ := fn_ok (S.fn 17 rfl) (gx4 S).2.2.2.2.1
  obtain ⟨_, _, _, _, _, _, _, _, l__law_facts, y_l__law_facts⟩ := fn_ok (S.fn 18 rfl) (gx4 S).2.2.2.2.2.2.2.1
  obtain ⟨_, _, _, _, _, _, _, _, l__law_sides, y_l__law_sides⟩ := fn_ok (S.fn 19 rfl) (gx4 S).2.2.2.2.2.2.2.2.2.2.1
  obtain ⟨_, _, _, _, _, _, _, _, l__law_rule, y_l__law_rule⟩ := fn_ok (S.fn 20 rfl) (gx5 S).2.1
  obtain ⟨_, _, _, _, _, _, _, _, l__law_drawn, y_l__law_drawn⟩ := fn_ok (S.fn 21 rfl) (gx5 S).2.2.2.2.1
  obtain ⟨_, _, _, _, _, _, _, _, l__law_made, y_l__law_made⟩ := fn_ok (S.fn 22 rfl) (gx5 S).2.2.2.2.2.2.2.1
  obtain ⟨_, _, _, _, _, _, _, _, l__law_book, y_l__law_book⟩ := fn_ok (S.fn 23 rfl) (gx5 S).2.2.2.2.2.2.2.2.2.2.1
  obtain ⟨_, _, _, _, _, _, _, _, l__law_all, y_l__law_all⟩ := fn_ok (S.fn 24 rfl) (gx6 S).2.1
  obtain ⟨_, _, _, _, _, _, _, _, l__law_changed, y_l__law_changed⟩ := fn_ok (S.fn 25 rfl) (gx6 S).2.2.2.2.1
  obtain ⟨_, _, _, _, _, _, _, _, l__law_edit, y_l__law_edit⟩ := fn_ok (S.fn 26 rfl) (gx6 S).2.2.2.2.2.2.2.1
  obtain ⟨_, _, _, _, _, _, _, _, l__law_after, y_l__law_after⟩ := fn_ok (S.fn 27 rfl) (gx6 S).2.2.2.2.2.2.2.2.2.2.1
  obtain ⟨_, _, _, _, _, _, _, _, l__law_beside, y_l__law_beside⟩ := fn_ok (S.fn 28 rfl) (gx7 S).2.1
  obtain ⟨_, _, _, _, _, _, _, _, l__law_amendment, y_l__law_amendment⟩ := fn_ok (S.fn 29 rfl) (gx7 S).2.2.2.2.1
  obtain ⟨_, _, _, _, _, _, _, _, l__law_real, y_l__law_real⟩ := fn_ok (S.fn 30 rfl) (gx7 S).2.2.2.2.2.2.2.1
  obtain ⟨_, _, _, _, _, _, _, _, l__law_depths, y_l__law_depths⟩ := fn_ok (S.fn 31 rfl) (gx7 S).2.2.2.2.2.2.2.2.2.2.1
  obtain ⟨_, _, _, _, _, _, _, _, l__law_stop, y_l__law_stop⟩ := fn_ok (S.fn 32 rfl) (gx8 S).2.1
  obtain ⟨_, _, _, _, _, _, _, _, l__law_say, y_l__law_say⟩ := fn_ok (S.fn 33 rfl) (gx8 S).2.2.2.2.1
  obtain ⟨_, _, _, _, _, _, _, _, l__law_backs, y_l__law_backs⟩ := fn_ok (S.fn 34 rfl) (gx8 S).2.2.2.2.2.2.2.1
  obtain ⟨_, _, _, _, _, _, _, _, l_law, y_l_law⟩ := fn_ok (S.fn 35 rfl) (gx8 S).2.2.2.2.2.2.2.2.2.2.1
  obtain ⟨_, pr_mh⟩ := rec_is (gx10 S).2.2.2.1
  obtain ⟨_, pr_mf⟩ := rec_is (gx10 S).2.2.2.2.2.2.2.1
  obtain ⟨_, pr_mn⟩ := rec_is (gx10 S).2.2.2.2.2.2.2.2.2.2.2
  obtain ⟨_, pr_rn⟩ := rec_is (gx12 S).2.2.2.2.2.2.1
  obtain ⟨_, pr_rc⟩ := rec_is (gx12 S).2.2.2.2.2.2.2.2.2.2.1
  obtain ⟨_, pr_rr⟩ := rec_is (gx13 S).2.2.1
  obtain ⟨_, pr_re⟩ := rec_is (gx13 S).2.2.2.2.2.2.1
  obtain ⟨_, pr_rd⟩ := rec_is (gx13 S).2.2.2.2.2.2.2.2.2.2.1
  obtain ⟨_, pr_bf⟩ := rec_is (gx15 S).2.2.2.1
  obtain ⟨_, pr_bs⟩ := rec_is (gx15 S).2.2.2.2.2.2.2.1
  obtain ⟨_, pr_br⟩ := rec_is (gx15 S).2.2.2.2.2.2.2.2.2.2.2
  obtain ⟨_, pr_bn⟩ := rec_is (gx16 S).2.2.2.1
  obtain ⟨_, st_s⟩ := some_is (gx20 S).2.2.2.2.2.2.2.1
  obtain ⟨_, st_r⟩ := some_is (gx20 S).2.2.2.2.2.2.2.2.1
  obtain ⟨_, _, _, us_w1_l, hl_w1_l, w1_l⟩ := tup_is (gx21 S).2.1
  obtain ⟨_, _, rfl⟩ := len2 hl_w1_l
  obtain ⟨_, _, _, us_w2_l, hl_w2_l, w2_l⟩ := tup_is (gx21 S).2.2.2.1
  obtain ⟨_, _, _, _, rfl⟩ := len4 hl_w2_l
  obtain ⟨_, _, _, us_w3_l, hl_w3_l, w3_l⟩ := tup_is (gx21 S).2.2.2.2.2.1
  obtain ⟨_, _, rfl⟩ := len2 hl_w3_l
  obtain ⟨_, _, _, _, _, _, _, _, l_mi, y_l_mi⟩ := fn_ok (S.fn 36 rfl) (gx21 S).2.2.2.2.2.2.1
  obtain ⟨_, _, _, _, _, _, _, _, l_mh, y_l_mh⟩ := fn_ok (S.fn 37 rfl) (gx21 S).2.2.2.2.2.2.2.2.1
  obtain ⟨_, _, _, _, _, _, _, _, l_mf, y_l_mf⟩ := fn_ok (S.fn 38 rfl) (gx21 S).2.2.2.2.2.2.2.2.2.2.1
  obtain ⟨_, _, _, _, _, _, _, _, l_mn, y_l_mn⟩ := fn_ok (S.fn 39 rfl) (gx22 S).1
  obtain ⟨_, _, _, _, _, _, _, _, l_ri, y_l_ri⟩ := fn_ok (S.fn 40 rfl) (gx22 S).2.2.1
  obtain ⟨_, _, _, _, _, _, _, _, l_rn, y_l_rn⟩ := fn_ok (S.fn 41 rfl) (gx22 S).2.2.2.2.1
  obtain ⟨_, _, _, _, _, _, _, _, l_rc, y_l_rc⟩ := fn_ok (S.fn 42 rfl) (gx22 S).2.2.2.2.2.2.1
  obtain ⟨_, _, _, _, _, _, _, _, l_rr, y_l_rr⟩ := fn_ok (S.fn 43 rfl) (gx22 S).2.2.2.2.2.2.2.2.1
  obtain ⟨_, _, _, _, _, _, _, _, l_re, y_l_re⟩ := fn_ok (S.fn 44 rfl) (gx22 S).2.2.2.2.2.2.2.2.2.2.1
  obtain ⟨_, _, _, _, _, _, _, _, l_rd, y_l_rd⟩ := fn_ok (S.fn 45 rfl) (gx23 S).1
  obtain ⟨_, _, _, _, _, _, _, _, l_bi, y_l_bi⟩ := fn_ok (S.fn 46 rfl) (gx23 S).2.2.1
  obtain ⟨_, _, _, _, _, _, _, _, l_bf, y_l_bf⟩ := fn_ok (S.fn 47 rfl) (gx23 S).2.2.2.2.1
  obtain ⟨_, _, _, _, _, _, _, _, l_bs, y_l_bs⟩ := fn_ok (S.fn 48 rfl) (gx23 S).2.2.2.2.2.2.1
  obtain ⟨_, _, _, _, _, _, _, _, l_br, y_l_br⟩ := fn_ok (S.fn 49 rfl) (gx23 S).2.2.2.2.2.2.2.2.1
  obtain ⟨_, _, _, _, _, _, _, _, l_bn, y_l_bn⟩ := fn_ok (S.fn 50 rfl) (gx23 S).2.2.2.2.2.2.2.2.2.2.1
  obtain ⟨_, _, _, _, _, _, _, _, l_gc, y_l_gc⟩ := fn_ok (S.fn 51 rfl) (gx24 S).1
  obtain ⟨_, _, _, _, _, _, _, _, l_gi, y_l_gi⟩ := fn_ok (S.fn 52 rfl) (gx24 S).2.2.1
  obtain ⟨_, _, _, _, _, _, _, _, l_gs, y_l_gs⟩ := fn_ok (S.fn 53 rfl) (gx24 S).2.2.2.2.1
  obtain ⟨_, _, _, _, _, _, _, _, l_eb, y_l_eb⟩ := fn_ok (S.fn 54 rfl) (gx24 S).2.2.2.2.2.2.1
  obtain ⟨_, _, _, _, _, _, _, _, l_er, y_l_er⟩ := fn_ok (S.fn 55 rfl) (gx24 S).2.2.2.2.2.2.2.2.1
  obtain ⟨_, _, _, _, _, _, _, _, l_ec, y_l_ec⟩ := fn_ok (S.fn 56 rfl) (gx24 S).2.2.2.2.2.2.2.2.2.2.1
  obtain ⟨_, _, _, _, _, _, _, _, l_lr, y_l_lr⟩ := fn_ok (S.fn 57 rfl) (gx25 S).1
  obtain ⟨_, _, _, _, _, _, _, _, l_lb, y_l_lb⟩ := fn_ok (S.fn 58 rfl) (gx25 S).2.2.1
  obtain ⟨_, m_LETTERS⟩ := str_is (gx27 S).1
  obtain ⟨_, m_LONGEST_NAME⟩ := int_is (gx27 S).2.1
  obtain ⟨_, m_MOST_FACTS⟩ := int_is (gx27 S).2.2.1
  obtain ⟨_, m_MOST_NAMES⟩ := int_is (gx27 S).2.2.2.1
  obtain ⟨_, m_MOST_AROUND⟩ := int_is (gx27 S).2.2.2.2.1
  obtain ⟨_, m_MOST_RULES⟩ := int_is (gx27 S).2.2.2.2.2.1
  obtain ⟨_, m_MOST_OUTERMOST⟩ := int_is (gx27 S).2.2.2.2.2.2.1
  obtain ⟨_, _, _, _, _, _, _, _, _, _, _, _, _, _, x_E⟩ := exc_is (gx36 S).2.2.2.2.2.2.2.2.2.2.1
  obtain ⟨_, _, _, _, _, _, _, _, _, _, _, _, _, _, i8_x⟩ := exc_is (gx37 S).2.2.1
  obtain ⟨_, _, _, _, _, _, _, _, i8_lI, y_i8_lI⟩ := fn_okC (S.fn 59 rfl) (gx37 S).2.2.2.2.2.2.2.2.2.1
  obtain ⟨_, _, _, i8_ce⟩ := cell_is (gx37 S).2.2.2.2.2.2.2.2.2.2.1
  obtain ⟨_, _, _, _, _, _, i8_co, i8_fi, i8_fe⟩ := file_is (gx37 S).2.2.2.2.2.2.2.2.2.2.2
  obtain ⟨_, _, _, _, _, _, _, _, _, _, _, _, _, _, i9_x⟩ := exc_is (gx38 S).2.2.2.2.2.1
  obtain ⟨_, _, _, _, _, _, _, _, i9_lI, y_i9_lI⟩ := fn_okC (S.fn 60 rfl) (gx39 S).1
  obtain ⟨_, _, _, i9_ce⟩ := cell_is (gx39 S).2.1
  obtain ⟨_, _, _, _, _, _, i9_co, i9_fi, i9_fe⟩ := file_is (gx39 S).2.2.1
  obtain ⟨_, _, _, _, _, _, _, _, _, _, _, _, _, _, i10_x⟩ := exc_is (gx39 S).2.2.2.2.2.2.2.2.2.1
  obtain ⟨_, _, _, _, _, _, _, _, i10_lI, y_i10_lI⟩ := fn_okC (S.fn 61 rfl) (gx40 S).2.2.2.2.1
  obtain ⟨_, _, _, i10_ce⟩ := cell_is (gx40 S).2.2.2.2.2.1
  obtain ⟨_, _, _, _, _, _, i10_co, i10_fi, i10_fe⟩ := file_is (gx40 S).2.2.2.2.2.2.1
  obtain ⟨_, _, _, _, _, _, _, _, _, _, _, _, _, _, i0_x⟩ := exc_is (gx41 S).1
  obtain ⟨_, _, _, _, _, _, _, _, i0_lI, y_i0_lI⟩ := fn_okC (S.fn 62 rfl) (gx41 S).2.2.2.2.2.2.2.1
  obtain ⟨_, _, _, i0_ce⟩ := cell_is (gx41 S).2.2.2.2.2.2.2.2.1
  obtain ⟨_, _, _, _, _, _, i0_co, i0_fi, i0_fe⟩ := file_is (gx41 S).2.2.2.2.2.2.2.2.2.1
  obtain ⟨_, tbl, z_tbl⟩ := tbl_is (S.hd _ (mem_at (i := 0) rfl))
  exact all_mk (l := theLaw) (P := theRow.prog) (celi8 := (Ad_celi8 K)) (codi8 := (Ad_codi8 K)) (celi9 := (Ad_celi9 K)) (codi9 := (Ad_codi9 K)) (celi10 := (Ad_celi10 K)) (codi10 := (Ad_codi10 K)) (celi0 := (Ad_celi0 K)) (codi0 := (Ad_codi0 K)) (Tb0 := (Ad_Tb0 K)) rfl X G hfa (gx0 S).1 l_is_name y_l_is_name (gx0 S).2.2.1 (gx0 S).2.2.2.1 l_rises y_l_rises (gx0 S).2.2.2.2.2.1 (gx0 S).2.2.2.2.2.2.1 l_check_facts y_l_check_facts (gx0 S).2.2.2.2.2.2.2.2.1 (gx0 S).2.2.2.2.2.2.2.2.2.1 l_nested y_l_nested (gx0 S).2.2.2.2.2.2.2.2.2.2.2 (gx1 S).1 l_check_rules y_l_check_rules (gx1 S).2.2.1 (gx1 S).2.2.2.1 l_check_part y_l_check_part (gx1 S).2.2.2.2.2.1 (gx1 S).2.2.2.2.2.2.1 l_merged y_l_merged (gx1 S).2.2.2.2.2.2.2.2.1 (gx1 S).2.2.2.2.2.2.2.2.2.1 l_replaced y_l_replaced (gx1 S).2.2.2.2.2.2.2.2.2.2.2 (gx2 S).1 l_path_to y_l_path_to (gx2 S).2.2.1 (gx2 S).2.2.2.1 l_next_beside y_l_next_beside (gx2 S).2.2.2.2.2.1 (gx2 S).2.2.2.2.2.2.1 l_swapped y_l_swapped (gx2 S).2.2.2.2.2.2.2.2.1 (gx2 S).2.2.2.2.2.2.2.2.2.1 l_amended y_l_amended (gx2 S).2.2.2.2.2.2.2.2.2.2.2 (gx3 S).1 l_amended_book y_l_amended_book (gx3 S).2.2.1 (gx3 S).2.2.2.1 l_amended_rule y_l_amended_rule (gx3 S).2.2.2.2.2.1 (gx3 S).2.2.2.2.2.2.1 l_is_amendment y_l_is_amendment (gx3 S).2.2.2.2.2.2.2.2.1 (gx3 S).2.2.2.2.2.2.2.2.2.1 l_is_new y_l_is_new (gx3 S).2.2.2.2.2.2.2.2.2.2.2 (gx4 S).1 l__law_mix y_l__law_mix (gx4 S).2.2.1 (gx4 S).2.2.2.1 l__law_next y_l__law_next (gx4 S).2.2.2.2.2.1 (gx4 S).2.2.2.2.2.2.1 l__law_facts y_l__law_facts (gx4 S).2.2.2.2.2.2.2.2.1 (gx4 S).2.2.2.2.2.2.2.2.2.1 l__law_sides y_l__law_sides (gx4 S).2.2.2.2.2.2.2.2.2.2.2 (gx5 S).1 l__law_rule y_l__law_rule (gx5 S).2.2.1 (gx5 S).2.2.2.1 l__law_drawn y_l__law_drawn (gx5 S).2.2.2.2.2.1 (gx5 S).2.2.2.2.2.2.1 l__law_made y_l__law_made (gx5 S).2.2.2.2.2.2.2.2.1 (gx5 S).2.2.2.2.2.2.2.2.2.1 l__law_book y_l__law_book (gx5 S).2.2.2.2.2.2.2.2.2.2.2 (gx6 S).1 l__law_all y_l__law_all (gx6 S).2.2.1 (gx6 S).2.2.2.1 l__law_changed y_l__law_changed (gx6 S).2.2.2.2.2.1 (gx6 S).2.2.2.2.2.2.1 l__law_edit y_l__law_edit (gx6 S).2.2.2.2.2.2.2.2.1 (gx6 S).2.2.2.2.2.2.2.2.2.1 l__law_after y_l__law_after (gx6 S).2.2.2.2.2.2.2.2.2.2.2 (gx7 S).1 l__law_beside y_l__law_beside (gx7 S).2.2.1 (gx7 S).2.2.2.1 l__law_amendment y_l__law_amendment (gx7 S).2.2.2.2.2.1 (gx7 S).2.2.2.2.2.2.1 l__law_real y_l__law_real (gx7 S).2.2.2.2.2.2.2.2.1 (gx7 S).2.2.2.2.2.2.2.2.2.1 l__law_depths y_l__law_depths (gx7 S).2.2.2.2.2.2.2.2.2.2.2 (gx8 S).1 l__law_stop y_l__law_stop (gx8 S).2.2.1 (gx8 S).2.2.2.1 l__law_say y_l__law_say (gx8 S).2.2.2.2.2.1 (gx8 S).2.2.2.2.2.2.1 l__law_backs y_l__law_backs (gx8 S).2.2.2.2.2.2.2.2.1 (gx8 S).2.2.2.2.2.2.2.2.2.1 l_law y_l_law (gx8 S).2.2.2.2.2.2.2.2.2.2.2 (gx9 S).1 (gx9 S).2.1 (gx9 S).2.2.1 (gx9 S).2.2.2.1 (gx9 S).2.2.2.2.1 (gx9 S).2.2.2.2.2.1 (gx9 S).2.2.2.2.2.2.1 (gx9 S).2.2.2.2.2.2.2.1 (gx9 S).2.2.2.2.2.2.2.2.1 (gx9 S).2.2.2.2.2.2.2.2.2.1 (gx9 S).2.2.2.2.2.2.2.2.2.2.1 (gx9 S).2.2.2.2.2.2.2.2.2.2.2 (gx10 S).1 (gx10 S).2.1 (gx10 S).2.2.1 pr_mh (gx10 S).2.2.2.2.1 (gx10 S).2.2.2.2.2.1 (gx10 S).2.2.2.2.2.2.1 pr_mf (gx10 S).2.2.2.2.2.2.2.2.1 (gx10 S).2.2.2.2.2.2.2.2.2.1 (gx10 S).2.2.2.2.2.2.2.2.2.2.1 pr_mn (gx11 S).1 (gx11 S).2.1 (gx11 S).2.2.1 (gx11 S).2.2.2.1 (gx11 S).2.2.2.2.1 (gx11 S).2.2.2.2.2.1 (gx11 S).2.2.2.2.2.2.1 (gx11 S).2.2.2.2.2.2.2.1 (gx11 S).2.2.2.2.2.2.2.2.1 (gx11 S).2.2.2.2.2.2.2.2.2.1 (gx11 S).2.2.2.2.2.2.2.2.2.2.1 (gx11 S).2.2.2.2.2.2.2.2.2.2.2 (gx12 S).1 (gx12 S).2.1 (gx12 S).2.2.1 (gx12 S).2.2.2.1 (gx12 S).2.2.2.2.1 (gx12 S).2.2.2.2.2.1 pr_rn (gx12 S).2.2.2.2.2.2.2.1 (gx12 S).2.2.2.2.2.2.2.2.1 (gx12 S).2.2.2.2.2.2.2.2.2.1 pr_rc (gx12 S).2.2.2.2.2.2.2.2.2.2.2 (gx13 S).1 (gx13 S).2.1 pr_rr (gx13 S).2.2.2.1 (gx13 S).2.2.2.2.1 (gx13 S).2.2.2.2.2.1 pr_re (gx13 S).2.2.2.2.2.2.2.1 (gx13 S).2.2.2.2.2.2.2.2.1 (gx13 S).2.2.2.2.2.2.2.2.2.1 pr_rd (gx13 S).2.2.2.2.2.2.2.2.2.2.2 (gx14 S).1 (gx14 S).2.1 (gx14 S).2.2.1 (gx14 S).2.2.2.1 (gx14 S).2.2.2.2.1 (gx14 S).2.2.2.2.2.1 (gx14 S).2.2.2.2.2.2.1 (gx14 S).2.2.2.2.2.2.2.1 (gx14 S).2.2.2.2.2.2.2.2.1 (gx14 S).2.2.2.2.2.2.2.2.2.1 (gx14 S).2.2.2.2.2.2.2.2.2.2.1 (gx14 S).2.2.2.2.2.2.2.2.2.2.2 (gx15 S).1 (gx15 S).2.1 (gx15 S).2.2.1 pr_bf (gx15 S).2.2.2.2.1 (gx15 S).2.2.2.2.2.1 (gx15 S).2.2.2.2.2.2.1 pr_bs (gx15 S).2.2.2.2.2.2.2.2.1 (gx15 S).2.2.2.2.2.2.2.2.2.1 (gx15 S).2.2.2.2.2.2.2.2.2.2.1 pr_br (gx16 S).1 (gx16 S).2.1 (gx16 S).2.2.1 pr_bn (gx16 S).2.2.2.2.1 (gx16 S).2.2.2.2.2.1 (gx16 S).2.2.2.2.2.2.1 (gx16 S).2.2.2.2.2.2.2.1 (gx16 S).2.2.2.2.2.2.2.2.1 (gx16 S).2.2.2.2.2.2.2.2.2.1 (gx16 S).2.2.2.2.2.2.2.2.2.2.1 (gx16 S).2.2.2.2.2.2.2.2.2.2.2 (gx17 S).1 (gx17 S).2.1 (gx17 S).2.2.1 (gx17 S).2.2.2.1 (gx17 S).2.2.2.2.1 (gx17 S).2.2.2.2.2.1 (gx17 S).2.2.2.2.2.2.1 (gx17 S).2.2.2.2.2.2.2.1 (gx17 S).2.2.2.2.2.2.2.2.1 (gx17 S).2.2.2.2.2.2.2.2.2.1 (gx17 S).2.2.2.2.2.2.2.2.2.2.1 (gx17 S).2.2.2.2.2.2.2.2.2.2.2 (gx18 S).1 (gx18 S).2.1 (gx18 S).2.2.1 (gx18 S).2.2.2.1 (gx18 S).2.2.2.2.1 (gx18 S).2.2.2.2.2.1 (gx18 S).2.2.2.2.2.2.1 (gx18 S).2.2.2.2.2.2.2.1 (gx18 S).2.2.2.2.2.2.2.2.1 (gx18 S).2.2.2.2.2.2.2.2.2.1 (gx18 S).2.2.2.2.2.2.2.2.2.2.1 (gx18 S).2.2.2.2.2.2.2.2.2.2.2 (gx19 S).1 (gx19 S).2.1 (gx19 S).2.2.1 (gx19 S).2.2.2.1 (gx19 S).2.2.2.2.1 (gx19 S).2.2.2.2.2.1 (gx19 S).2.2.2.2.2.2.1 (gx19 S).2.2.2.2.2.2.2.1 (gx19 S).2.2.2.2.2.2.2.2.1 (gx19 S).2.2.2.2.2.2.2.2.2.1 (gx19 S).2.2.2.2.2.2.2.2.2.2.1 (gx19 S).2.2.2.2.2.2.2.2.2.2.2 (gx20 S).1 (gx20 S).2.1 (gx20 S).2.2.1 (gx20 S).2.2.2.1 (gx20 S).2.2.2.2.1 (gx20 S).2.2.2.2.2.1 (gx20 S).2.2.2.2.2.2.1 st_s st_r (gx20 S).2.2.2.2.2.2.2.2.2.1 (gx20 S).2.2.2.2.2.2.2.2.2.2.1 (gx20 S).2.2.2.2.2.2.2.2.2.2.2 (gx21 S).1 w1_l (gx21 S).2.2.1 w2_l (gx21 S).2.2.2.2.1 w3_l l_mi y_l_mi (gx21 S).2.2.2.2.2.2.2.1 l_mh y_l_mh (gx21 S).2.2.2.2.2.2.2.2.2.1 l_mf y_l_mf (gx21 S).2.2.2.2.2.2.2.2.2.2.2 l_mn y_l_mn (gx22 S).2.1 l_ri y_l_ri (gx22 S).2.2.2.1 l_rn y_l_rn (gx22 S).2.2.2.2.2.1 l_rc y_l_rc (gx22 S).2.2.2.2.2.2.2.1 l_rr y_l_rr (gx22 S).2.2.2.2.2.2.2.2.2.1 l_re y_l_re (gx22 S).2.2.2.2.2.2.2.2.2.2.2 l_rd y_l_rd (gx23 S).2.1 l_bi y_l_bi (gx23 S).2.2.2.1 l_bf y_l_bf (gx23 S).2.2.2.2.2.1 l_bs y_l_bs (gx23 S).2.2.2.2.2.2.2.1 l_br y_l_br (gx23 S).2.2.2.2.2.2.2.2.2.1 l_bn y_l_bn (gx23 S).2.2.2.2.2.2.2.2.2.2.2 l_gc y_l_gc (gx24 S).2.1 l_gi y_l_gi (gx24 S).2.2.2.1 l_gs y_l_gs (gx24 S).2.2.2.2.2.1 l_eb y_l_eb (gx24 S).2.2.2.2.2.2.2.1 l_er y_l_er (gx24 S).2.2.2.2.2.2.2.2.2.1 l_ec y_l_ec (gx24 S).2.2.2.2.2.2.2.2.2.2.2 l_lr y_l_lr (gx25 S).2.1 l_lb y_l_lb (gx25 S).2.2.2.1 (gx25 S).2.2.2.2.1 (gx25 S).2.2.2.2.2.1 (gx25 S).2.2.2.2.2.2.1 (gx25 S).2.2.2.2.2.2.2.1 (gx25 S).2.2.2.2.2.2.2.2.1 (gx25 S).2.2.2.2.2.2.2.2.2.1 (gx25 S).2.2.2.2.2.2.2.2.2.2.1 (gx25 S).2.2.2.2.2.2.2.2.2.2.2 (gx26 S).1 (gx26 S).2.1 (gx26 S).2.2.1 (gx26 S).2.2.2.1 (gx26 S).2.2.2.2.1 (gx26 S).2.2.2.2.2.1 (gx26 S).2.2.2.2.2.2.1 (gx26 S).2.2.2.2.2.2.2.1 (gx26 S).2.2.2.2.2.2.2.2.1 (gx26 S).2.2.2.2.2.2.2.2.2.1 (gx26 S).2.2.2.2.2.2.2.2.2.2.1 (gx26 S).2.2.2.2.2.2.2.2.2.2.2 m_LETTERS m_LONGEST_NAME m_MOST_FACTS m_MOST_NAMES m_MOST_AROUND m_MOST_RULES m_MOST_OUTERMOST (gx27 S).2.2.2.2.2.2.2.1 (gx27 S).2.2.2.2.2.2.2.2.1 (gx27 S).2.2.2.2.2.2.2.2.2.1 (gx27 S).2.2.2.2.2.2.2.2.2.2.1 (gx27 S).2.2.2.2.2.2.2.2.2.2.2 (gx28 S).1 (gx28 S).2.1 (gx28 S).2.2.1 (gx28 S).2.2.2.1 (gx28 S).2.2.2.2.1 (gx28 S).2.2.2.2.2.1 (gx28 S).2.2.2.2.2.2.1 (gx28 S).2.2.2.2.2.2.2.1 (gx28 S).2.2.2.2.2.2.2.2.1 (gx28 S).2.2.2.2.2.2.2.2.2.1 (gx28 S).2.2.2.2.2.2.2.2.2.2.1 (gx28 S).2.2.2.2.2.2.2.2.2.2.2 (gx29 S).1 (gx29 S).2.1 (gx29 S).2.2.1 (gx29 S).2.2.2.1 (gx29 S).2.2.2.2.1 (gx29 S).2.2.2.2.2.1 (gx29 S).2.2.2.2.2.2.1 (gx29 S).2.2.2.2.2.2.2.1 (gx29 S).2.2.2.2.2.2.2.2.1 (gx29 S).2.2.2.2.2.2.2.2.2.1 (gx29 S).2.2.2.2.2.2.2.2.2.2.1 (gx29 S).2.2.2.2.2.2.2.2.2.2.2 (gx30 S).1 (gx30 S).2.1 (gx30 S).2.2.1 (gx30 S).2.2.2.1 (gx30 S).2.2.2.2.1 (gx30 S).2.2.2.2.2.1 (gx30 S).2.2.2.2.2.2.1 (gx30 S).2.2.2.2.2.2.2.1 (gx30 S).2.2.2.2.2.2.2.2.1 (gx30 S).2.2.2.2.2.2.2.2.2.1 (gx30 S).2.2.2.2.2.2.2.2.2.2.1 (gx30 S).2.2.2.2.2.2.2.2.2.2.2 (gx31 S).1 (gx31 S).2.1 (gx31 S).2.2.1 (gx31 S).2.2.2.1 (gx31 S).2.2.2.2.1 (gx31 S).2.2.2.2.2.1 (gx31 S).2.2.2.2.2.2.1 (gx31 S).2.2.2.2.2.2.2.1 (gx31 S).2.2.2.2.2.2.2.2.1 (gx31 S).2.2.2.2.2.2.2.2.2.1 (gx31 S).2.2.2.2.2.2.2.2.2.2.1 (gx31 S).2.2.2.2.2.2.2.2.2.2.2 (gx32 S).1 (gx32 S).2.1 (gx32 S).2.2.1 (gx32 S).2.2.2.1 (gx32 S).2.2.2.2.1 (gx32 S).2.2.2.2.2.1 (gx32 S).2.2.2.2.2.2.1 (gx32 S).2.2.2.2.2.2.2.1 (gx32 S).2.2.2.2.2.2.2.2.1 (gx32 S).2.2.2.2.2.2.2.2.2.1 (gx32 S).2.2.2.2.2.2.2.2.2.2.1 (gx32 S).2.2.2.2.2.2.2.2.2.2.2 (gx33 S).1 (gx33 S).2.1 (gx33 S).2.2.1 (gx33 S).2.2.2.1 (gx33 S).2.2.2.2.1 (gx33 S).2.2.2.2.2.1 (gx33 S).2.2.2.2.2.2.1 (gx33 S).2.2.2.2.2.2.2.1 (gx33 S).2.2.2.2.2.2.2.2.1 (gx33 S).2.2.2.2.2.2.2.2.2.1 (gx33 S).2.2.2.2.2.2.2.2.2.2.1 (gx33 S).2.2.2.2.2.2.2.2.2.2.2 (gx34 S).1 (gx34 S).2.1 (gx34 S).2.2.1 (gx34 S).2.2.2.1 (gx34 S).2.2.2.2.1 (gx34 S).2.2.2.2.2.1 (gx34 S).2.2.2.2.2.2.1 (gx34 S).2.2.2.2.2.2.2.1 (gx34 S).2.2.2.2.2.2.2.2.1 (gx34 S).2.2.2.2.2.2.2.2.2.1 (gx34 S).2.2.2.2.2.2.2.2.2.2.1 (gx34 S).2.2.2.2.2.2.2.2.2.2.2 (gx35 S).1 (gx35 S).2.1 (gx35 S).2.2.1 (gx35 S).2.2.2.1 (gx35 S).2.2.2.2.1 (gx35 S).2.2.2.2.2.1 (gx35 S).2.2.2.2.2.2.1 (gx35 S).2.2.2.2.2.2.2.1 (gx35 S).2.2.2.2.2.2.2.2.1 (gx35 S).2.2.2.2.2.2.2.2.2.1 (gx35 S).2.2.2.2.2.2.2.2.2.2.1 (gx35 S).2.2.2.2.2.2.2.2.2.2.2 (gx36 S).1 (gx36 S).2.1 (gx36 S).2.2.1 (gx36 S).2.2.2.1 (gx36 S).2.2.2.2.1 (gx36 S).2.2.2.2.2.1 (gx36 S).2.2.2.2.2.2.1 (gx36 S).2.2.2.2.2.2.2.1 (gx36 S).2.2.2.2.2.2.2.2.1 (gx36 S).2.2.2.2.2.2.2.2.2.1 x_E (gx36 S).2.2.2.2.2.2.2.2.2.2.2 (gx37 S).1 (gx37 S).2.1 i8_x (gx37 S).2.2.2.1 (gx37 S).2.2.2.2.1 (gx37 S).2.2.2.2.2.1 (gx37 S).2.2.2.2.2.2.1 (gx37 S).2.2.2.2.2.2.2.1 (gx37 S).2.2.2.2.2.2.2.2.1 i8_lI y_i8_lI i8_ce i8_co i8_fi i8_fe (gx38 S).1 (gx38 S).2.1 (gx38 S).2.2.1 (gx38 S).2.2.2.1 (gx38 S).2.2.2.2.1 i9_x (gx38 S).2.2.2.2.2.2.1 (gx38 S).2.2.2.2.2.2.2.1 (gx38 S).2.2.2.2.2.2.2.2.1 (gx38 S).2.2.2.2.2.2.2.2.2.1 (gx38 S).2.2.2.2.2.2.2.2.2.2.1 (gx38 S).2.2.2.2.2.2.2.2.2.2.2 i9_lI y_i9_lI i9_ce i9_co i9_fi i9_fe (gx39 S).2.2.2.1 (gx39 S).2.2.2.2.1 (gx39 S).2.2.2.2.2.1 (gx39 S).2.2.2.2.2.2.1 (gx39 S).2.2.2.2.2.2.2.1 (gx39 S).2.2.2.2.2.2.2.2.1 i10_x (gx39 S).2.2.2.2.2.2.2.2.2.2.1 (gx39 S).2.2.2.2.2.2.2.2.2.2.2 (gx40 S).1 (gx40 S).2.1 (gx40 S).2.2.1 (gx40 S).2.2.2.1 i10_lI y_i10_lI i10_ce i10_co i10_fi i10_fe (gx40 S).2.2.2.2.2.2.2.1 (gx40 S).2.2.2.2.2.2.2.2.1 (gx40 S).2.2.2.2.2.2.2.2.2.1 (gx40 S).2.2.2.2.2.2.2.2.2.2.1 (gx40 S).2.2.2.2.2.2.2.2.2.2.2 i0_x (gx41 S).2.1 (gx41 S).2.2.1 (gx41 S).2.2.2.1 (gx41 S).2.2.2.2.1 (gx41 S).2.2.2.2.2.1 (gx41 S).2.2.2.2.2.2.1 i0_lI y_i0_lI i0_ce i0_co i0_fi i0_fe (gx41 S).2.2.2.2.2.2.2.2.2.2.1 (gx41 S).2.2.2.2.2.2.2.2.2.2.2 (gx42 S).1 (gx42 S).2.1 (gx42 S).2.2.1 (gx42 S).2.2.2.1 (gx42 S).2.2.2.2.1 (gx42 S).2.2.2.2.2.1 (gx42 S).2.2.2.2.2.2.1 (gx42 S).2.2.2.2.2.2.2.1 (gx42 S).2.2.2.2.2.2.2.2.1 (gx42 S).2.2.2.2.2.2.2.2.2.1 (gx42 S).2.2.2.2.2.2.2.2.2.2.1 (gx42 S).2.2.2.2.2.2.2.2.2.2.2 (gx43 S).1 (gx43 S).2.1 (gx43 S).2.2.1 (gx43 S).2.2.2 tbl z_tbl (S.empty _ (mem_at (i := 0) rfl)) (S.out _ (mem_at (i := 0) rfl)) (by kernel_rfl)
end Sc
open PySem PySem.W PySem.Calls PyProof.Rows
theorem PySem.Challenge.cw_smallcourt_k76_whole_amendments_taken_ba_holds : PySem.Challenge.rw_smallcourt_k76_whole_amendments_taken_ba.Holds := by
  w_on; o_law
  refine HandSHeadRun.head_any (r := Sc.theRow) (q := view Sc.theRow.prog [Sc.lawI]) (H := Sc.hk) (ob := Sc.ob) (M := 9000) (loose := Sc.names) (d := HandSHeadRun.topDef Sc.theRow.prog Sc.lawI) (kwd := []) Sc.ob_eq (by kernel_rfl) (fun s => by kernel_rfl) Sc.run (by kernel_rfl) (by kernel_rfl) (by kernel_rfl) (by rfl) (by first | assumption | decide +kernel) (by decide +kernel) ⟨rfl, rfl, rfl, rfl, rfl, by decide +kernel⟩ ?hw ?hc
  case hw => w_witness2
  case hc =>
    refine LamX.walk_ofTsE (l := Sc.theLaw) (n := 63) (k := 38) (CX := fun _ => L2.CX0) (x := "_law_script") rfl (by decide) (by kernel_rfl) ⟨rfl, by decide, by decide⟩ ?F (fun _ _ _ _ _ z => z)
    intro w mg fa h Y G hmg0
    obtain ⟨K, KX, c⟩ := Y
    have hmg : mg ("law" : PySem.Str) = some (.ref fa) := by
      have e : (HandSHeadRun.topDef Sc.theRow.prog Sc.lawI).name = ("law" : PySem.Str) := by kernel_rfl
      rw [← e]
      exact hmg0
    exact ⟨K, KX, Sc.all_y KX G hmg c⟩
