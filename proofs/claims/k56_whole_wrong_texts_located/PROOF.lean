import PyProof.Rows.All
import Wide.All
import OpenK.AllK
import Wide.FinOn
import KE.GoesMore
import HandS.Iter
import KE.KExcSuper
import HandS.Nested
import HandS.ExcInit
import HandS.FStr
import HandS.ForMost
import HandS.ForExc
import HandS.EndTab
import HandS.IsInst
import HandS.SetFor
import HandS.ExcIs
import HandS.ExcField
import HandS.TupAny
import HandS.Wide
import HandS.WideBits
import HandS.Walk
import HandS.Deep
import KE.KExcIs
import PySem.Challenge.RW_smallcourt_k56_whole_wrong_texts_located
import HandS.Property
import HandS.NamedTupGet
import HandS.More
import HandS.SlotsOwn
import KE.KOpsOwn
import KE.KCallOwn
import HandS.WordsExc
import HandS.Style
import HandS.Set
import HandS.TupSets
import PyProof.Rows.SortShellAny
import HandS.Text
import HandS.StrSplit
import PyProof.EqKinds
import PyProof.NeKinds
import OpenK.KMeth
import HandS.Head2
import HandS.HeadHook4
import HandS.HeadWalk
set_option Elab.async false
set_option linter.all false
set_option maxRecDepth 100000
set_option maxHeartbeats 4000000
namespace Sc
open PySem PySem.Spec PyProof.Rows L2 NdefX
def topS (i : Nat) : Stmt := PySem.Challenge.pw_smallcourt_k56_whole_wrong_texts_located.main.body.getD i (.Pass ⟨0, 0, 0, 0⟩)
abbrev s_is_name : Stmt := topS 14
abbrev s_rises : Stmt := topS 15
abbrev s__law_mix : Stmt := topS 52
abbrev s__law_next : Stmt := topS 53
abbrev s__law_facts : Stmt := topS 55
abbrev s__law_alike : Stmt := topS 54
abbrev s_check_part : Stmt := topS 36
abbrev s_merged : Stmt := topS 37
abbrev s_Condition___init__ : Stmt := (inClass (topS 35) 0)
abbrev s_Condition_holding : Stmt := (inClass (topS 35) 1)
abbrev s_Condition_failing : Stmt := (inClass (topS 35) 2)
abbrev s_Condition_names : Stmt := (inClass (topS 35) 3)
abbrev s_Condition___len__ : Stmt := (inClass (topS 35) 5)
abbrev s_Condition___call__ : Stmt := (inClass (topS 35) 4)
abbrev s_Condition_within : Stmt := (inClass (topS 35) 8)
abbrev s_Condition___eq__ : Stmt := (inClass (topS 35) 7)
abbrev s_Condition___and__ : Stmt := (inClass (topS 35) 6)
abbrev s_nested : Stmt := topS 30
abbrev s_Rule___init__ : Stmt := (inClass (topS 28) 0)
abbrev s_Rule_name : Stmt := (inClass (topS 28) 1)
abbrev s_Rule_condition : Stmt := (inClass (topS 28) 2)
abbrev s_Rule_ruling : Stmt := (inClass (topS 28) 3)
abbrev s_Rule_exceptions : Stmt := (inClass (topS 28) 4)
abbrev s_Rule_depth : Stmt := (inClass (topS 28) 5)
abbrev s_check_rules : Stmt := topS 31
abbrev s_check_facts : Stmt := topS 18
abbrev s_check_case : Stmt := topS 19
abbrev s_Book___init__ : Stmt := (inClass (topS 29) 0)
abbrev s_Book_facts : Stmt := (inClass (topS 29) 1)
abbrev s_Book_rules : Stmt := (inClass (topS 29) 2)
abbrev s_Book_ruling : Stmt := (inClass (topS 29) 3)
abbrev s__law_sides : Stmt := topS 56
abbrev s__law_rule : Stmt := topS 57
abbrev s__law_drawn : Stmt := topS 58
abbrev s_Words___init__ : Stmt := (inClass (topS 39) 0)
abbrev s_Words_ahead : Stmt := (inClass (topS 39) 1)
abbrev s_Words_check : Stmt := (inClass (topS 39) 2)
abbrev s_Words_take : Stmt := (inClass (topS 39) 3)
abbrev s_Words_check_end : Stmt := (inClass (topS 39) 5)
abbrev s_is_free_name : Stmt := topS 50
abbrev s_read_ending : Stmt := topS 45
abbrev s_read_facts : Stmt := topS 44
abbrev s_read_part : Stmt := topS 48
abbrev s_read_signs : Stmt := topS 47
abbrev s_read_rule : Stmt := topS 46
abbrev s__law_named : Stmt := topS 64
abbrev s__law_read_facts : Stmt := topS 65
abbrev s__law_read_side : Stmt := topS 66
abbrev s__law_read_rule : Stmt := topS 67
abbrev s__law_nested : Stmt := topS 68
abbrev s__law_told : Stmt := topS 59
abbrev s__law_seen : Stmt := topS 60
abbrev s_rules_told : Stmt := topS 49
abbrev s_parse_book : Stmt := topS 43
abbrev s__law_read : Stmt := topS 69
abbrev s__law_parsed : Stmt := topS 70
abbrev s__law_words : Stmt := topS 61
abbrev s__law_rows_of : Stmt := topS 62
abbrev s__law_text : Stmt := topS 63
abbrev s__law_bent : Stmt := topS 71
abbrev s_law : Stmt := topS 72
abbrev nf_InvalidFacts (cc c : Addr) : NF := ⟨"__init__", "InvalidFacts.__init__", defArgs (inClass (topS 3) 0), defBody (inClass (topS 3) 0), defScope (inClass (topS 3) 0), [(("__class__" : Str), cc)], c⟩
abbrev nf_InvalidCase (cc c : Addr) : NF := ⟨"__init__", "InvalidCase.__init__", defArgs (inClass (topS 4) 0), defBody (inClass (topS 4) 0), defScope (inClass (topS 4) 0), [(("__class__" : Str), cc)], c⟩
abbrev nf_InvalidCondition (cc c : Addr) : NF := ⟨"__init__", "InvalidCondition.__init__", defArgs (inClass (topS 5) 0), defBody (inClass (topS 5) 0), defScope (inClass (topS 5) 0), [(("__class__" : Str), cc)], c⟩
abbrev nf_InvalidRule (cc c : Addr) : NF := ⟨"__init__", "InvalidRule.__init__", defArgs (inClass (topS 7) 0), defBody (inClass (topS 7) 0), defScope (inClass (topS 7) 0), [(("__class__" : Str), cc)], c⟩
abbrev nf_InvalidBook (cc c : Addr) : NF := ⟨"__init__", "InvalidBook.__init__", defArgs (inClass (topS 8) 0), defBody (inClass (topS 8) 0), defScope (inClass (topS 8) 0), [(("__class__" : Str), cc)], c⟩
abbrev nf_InvalidText (cc c : Addr) : NF := ⟨"__init__", "InvalidText.__init__", defArgs (inClass (topS 10) 0), defBody (inClass (topS 10) 0), defScope (inClass (topS 10) 0), [(("__class__" : Str), cc)], c⟩
def letters : Str := "abcdefghijklmnopqrstuvwxyz"
end Sc
namespace HeadY
open PySem PySem.Spec PyProof.Rows L2 He
/-! ### addresses -/
def recF (K : PySem.W.Frag) (p : Addr) : Addr := match PySem.W.recIn K p "property" with
  | some (.ref g :: _) => g
  | _ => 0
def codA (K : PySem.W.Frag) (f : Addr) : Addr := match K.lookup f with
  | some ⟨_, _, .func fd, _⟩ => (match fd.code with
    | .ref c => c
    | _ => 0)
  | _ => 0
def cloA (K : PySem.W.Frag) (f : Addr) : Addr := match K.lookup f with
  | some ⟨_, _, .func fd, _⟩ => (match fd.closure with
    | (_, c) :: _ => c
    | _ => 0)
  | _ => 0
def mroT (K : PySem.W.Frag) (C : Addr) : List Value := match K.lookup C with
  | some ⟨_, _, .cls cd, _⟩ => cd.mro.tail
  | _ => []
/-! ### functions -/
abbrev FnY : Type := Option (Str × Str × Arguments × FuncBody × Scope)
def fnY (K : PySem.W.Frag) (a : Addr) : FnY := match K.lookup a with
  | some ⟨_, _, .func fd, _⟩ => some (fd.name, fd.qualname, fd.params, fd.body, fd.scope)
  | _ => none
structure FnDY where
  at_ : PySem.W.Frag → Addr
  name : Str
  qual : Str
  params : Arguments
  body : List Stmt
  scope : Scope
def FnDY.val (d : FnDY) : FnY := some (d.name, d.qual, d.params, .stmts d.body, d.scope)
def fnB (K : PySem.W.Frag) (a : Addr) (q : Str) : Bool := match K.lookup a with
  | some ⟨_, _, .func fd, _⟩ => PySem.W.codeIn K (.ref (codA K a)) q && (decide (fd.code = .ref (codA K a)) && (decide (fd.globals = mainGlobals) && (fd.closure.isEmpty && (decide (fd.defaults = .none) && decide (fd.builtins = builtinsNs)))))
  | _ => false
def fnBC (K : PySem.W.Frag) (a : Addr) (q : Str) : Bool := match K.lookup a with
  | some ⟨_, _, .func fd, _⟩ => PySem.W.codeIn K (.ref (codA K a)) q && (decide (fd.code = .ref (codA K a)) && (decide (fd.globals = mainGlobals) && (decide (fd.closure = [(("__class__" : Str), cloA K a)]) && (decide (fd.defaults = .none) && decide (fd.builtins = builtinsNs)))))
  | _ => false
theorem fn_ok {K : PySem.W.Frag} {a : Addr} {n q : Str} {ps : Arguments} {b : List Stmt} {sc : Scope} (e : fnY K a = some (n, q, ps, .stmts b, sc)) (c : fnB K a q = true) :
    ∃ oc od kV dc pm an ct sl, K.lookup a = some ⟨oc, od, .func (PySem.W.fnOf n q ps b sc .none kV dc pm an (.ref (codA K a)) ct), sl⟩ ∧ PySem.W.codeIn K (.ref (codA K a)) q = true := by
  unfold fnB at c
  unfold fnY at e
  cases z : K.lookup a with
  | none => rw [z] at c; cases c
  | some o =>
    obtain ⟨oc, od, dt, sl⟩ := o
    rw [z] at c e
    cases dt with
    | func fd =>
      obtain ⟨n1, n2, n3, n4, n5, n6, n7, n8, n9, n10, n11, n12, n13, n14, n15⟩ := fd
      have e2 : (some (n1, n2, n3, n4, n5) : FnY) = some (n, q, ps, .stmts b, sc) := e
      simp only [Option.some.injEq, Prod.mk.injEq] at e2
      obtain ⟨h1, h2, h3, h4, h5⟩ := e2
      obtain ⟨c1, c⟩ := ba c
      obtain ⟨c2, c⟩ := ba c
      obtain ⟨c3, c⟩ := ba c
      obtain ⟨c4, c⟩ := ba c
      obtain ⟨c5, c6⟩ := ba c
      have c2 : n13 = _ := of_decide_eq_true c2
      have c3 : n6 = _ := of_decide_eq_true c3
      have c4 : n7 = [] := List.isEmpty_iff.mp c4
      have c5 : n8 = _ := of_decide_eq_true c5
      have c6 : n15 = _ := of_decide_eq_true c6
      exact ⟨oc, od, n9, n10, n11, n12, n14, sl, by rw [h1, h2, h3, h4, h5, c2, c3, c4, c5, c6], c1⟩
    | _ => cases c
theorem fn_okC {K : PySem.W.Frag} {a : Addr} {n q : Str} {ps : Arguments} {b : List Stmt} {sc : Scope} (e : fnY K a = some (n, q, ps, .stmts b, sc)) (c : fnBC K a q = true) :
    ∃ oc od kV dc pm an ct sl, K.lookup a = some ⟨oc, od, .func (PySem.W.fnX n q ps b sc [(("__class__" : Str), cloA K a)] .none kV dc pm an (.ref (codA K a)) ct), sl⟩ ∧ PySem.W.codeIn K (.ref (codA K a)) q = true := by
  unfold fnBC at c
  unfold fnY at e
  cases z : K.lookup a with
  | none => rw [z] at c; cases c
  | some o =>
    obtain ⟨oc, od, dt, sl⟩ := o
    rw [z] at c e
    cases dt with
    | func fd =>
      obtain ⟨n1, n2, n3, n4, n5, n6, n7, n8, n9, n10, n11, n12, n13, n14, n15⟩ := fd
      have e2 : (some (n1, n2, n3, n4, n5) : FnY) = some (n, q, ps, .stmts b, sc) := e
      simp only [Option.some.injEq, Prod.mk.injEq] at e2
      obtain ⟨h1, h2, h3, h4, h5⟩ := e2
      obtain ⟨c1, c⟩ := ba c
      obtain ⟨c2, c⟩ := ba c
      obtain ⟨c3, c⟩ := ba c
      obtain ⟨c4, c⟩ := ba c
      obtain ⟨c5, c6⟩ := ba c
      have c2 : n13 = _ := of_decide_eq_true c2
      have c3 : n6 = _ := of_decide_eq_true c3
      have c4 : n7 = _ := of_decide_eq_true c4
      have c5 : n8 = _ := of_decide_eq_true c5
      have c6 : n15 = _ := of_decide_eq_true c6
      exact ⟨oc, od, n9, n10, n11, n12, n14, sl, by rw [h1, h2, h3, h4, h5, c2, c3, c4, c5, c6], c1⟩
    | _ => cases c
/-! ### shapes -/
def intB (K : PySem.W.Frag) (x : Str) (i : Int) : Bool := match PySem.W.nsIn K mainGlobals x with
  | some (some (.int j _)) => decide (j = i)
  | _ => false
theorem int_is {K : PySem.W.Frag} {x : Str} {i : Int} (c : intB K x i = true) : ∃ t, PySem.W.nsIn K mainGlobals x = some (some (.int i t)) := by
  unfold intB at c
  split at c
  · rename_i j t e
    exact ⟨t, by rw [e, of_decide_eq_true c]⟩
  · cases c
def strB (K : PySem.W.Frag) (x s : Str) : Bool := match PySem.W.nsIn K mainGlobals x with
  | some (some (.str j _)) => decide (j = s)
  | _ => false
theorem str_is {K : PySem.W.Frag} {x s : Str} (c : strB K x s = true) : ∃ t, PySem.W.nsIn K mainGlobals x = some (some (.str s t)) := by
  unfold strB at c
  split at c
  · rename_i j t e
    exact ⟨t, by rw [e, of_decide_eq_true c]⟩
  · cases c
def recB (K : PySem.W.Frag) (p : Addr) : Bool := match PySem.W.recIn K p "property" with
  | some (.ref g :: _) => decide (g = recF K p)
  | _ => false
theorem rec_is {K : PySem.W.Frag} {p : Addr} (c : recB K p = true) : ∃ rs, PySem.W.recIn K p "property" = some (.ref (recF K p) :: rs) := by
  unfold recB at c
  split at c
  · rename_i g rs e
    exact ⟨rs, by rw [e, of_decide_eq_true c]⟩
  · cases c
theorem some_is {α : Type} {o : Option α} (c : o.isSome = true) : ∃ x, o = some x := Option.isSome_iff_exists.mp c
def sixB (id : String) : List (Option Value) → Bool
  | [_, _, _, _, some (.builtin b), _] => decide (b = id)
  | _ => false
theorem six_is {id : String} {l : List (Option Value)} (c : sixB id l = true) : ∃ x0 x1 x2 x3 x5, l = [x0, x1, x2, x3, some (.builtin id), x5] := by
  unfold sixB at c
  split at c
  · have c := of_decide_eq_true c
    exact ⟨_, _, _, _, _, by rw [c]⟩
  · cases c
def excB (K : PySem.W.Frag) (C : Addr) (id : String) : Bool := match K.lookup C with
  | some ⟨.type t, _, .cls cd, sl⟩ => decide (t = "type") && (decide (cd.mro = .ref C :: mroT K C) && (cd.hasDict && (!cd.hasDel && sixB id sl.toList)))
  | _ => false
theorem exc_is {K : PySem.W.Frag} {C : Addr} {id : String} (c : excB K C id = true) :
    ∃ nm q N bs sn su ab col dd x0 x1 x2 x3 x5, K.lookup C = some (excClassObj nm q C N bs (mroT K C) true sn su ab col dd x0 x1 x2 x3 x5 id) := by
  unfold excB at c
  cases z : K.lookup C with
  | none => rw [z] at c; cases c
  | some o =>
    obtain ⟨oc, od, dt, ⟨sl⟩⟩ := o
    rw [z] at c
    cases oc with
    | type t =>
      cases dt with
      | cls cd =>
        obtain ⟨n1, n2, n3, n4, n5, n6, n7, n8, n9, n10, n11⟩ := cd
        obtain ⟨c1, c⟩ := ba c
        obtain ⟨c2, c⟩ := ba c
        obtain ⟨c3, c⟩ := ba c
        obtain ⟨c4, c5⟩ := ba c
        have c1 : t = _ := of_decide_eq_true c1
        have c2 : n3 = _ := of_decide_eq_true c2
        have c3 : n6 = true := c3
        have c4 : n11 = false := by
          cases n11 with
          | false => rfl
          | true => cases c4
        obtain ⟨x0, x1, x2, x3, x5, c5⟩ := six_is (l := sl) c5
        exact ⟨n1, n5, n4, n2, n7, n8, n9, n10, od, x0, x1, x2, x3, x5, by rw [c1, c2, c3, c4, c5]⟩
      | _ => cases c
    | _ => cases dt <;> cases c
def cellB (K : PySem.W.Frag) (c E : Addr) : Bool := match K.lookup c with
  | some ⟨_, _, .cell (some (.ref a)), _⟩ => decide (a = E)
  | _ => false
theorem cell_is {K : PySem.W.Frag} {c E : Addr} (e : cellB K c E = true) : ∃ cl cd sl, K.lookup c = some ⟨cl, cd, .cell (some (.ref E)), sl⟩ := by
  unfold cellB at e
  split at e
  · rename_i a _ z
    exact ⟨_, _, _, by rw [z, of_decide_eq_true e]⟩
  · cases e
def fileB (K : PySem.W.Frag) (c : Addr) (f : Str) : Bool := match K.lookup c with
  | some ⟨_, _, .fields vs, _⟩ => (match (vs[2]? : Option Value) with
    | some (.str x _) => f == x
    | _ => false)
  | _ => false
theorem file_is {K : PySem.W.Frag} {c : Addr} {f : Str} (e : fileB K c f = true) : ∃ cl cd vs sl x t, K.lookup c = some ⟨cl, cd, .fields vs, sl⟩ ∧ vs[2]? = some (.str x t) ∧ (f == x) = true := by
  unfold fileB at e
  split at e
  · rename_i vs _ z
    split at e
    · rename_i x t y
      exact ⟨_, _, _, _, x, t, z, y, e⟩
    · cases e
  · cases e
def strsB : List Value → List Str → Bool
  | [], [] => true
  | .str x _ :: r, s :: ss => decide (x = s) && strsB r ss
  | _, _ => false
theorem strs_is : ∀ {l : List Value} {ss : List Str}, strsB l ss = true → ∃ us : List Tok, us.length = ss.length ∧ l = List.zipWith Value.str ss us
  | [], [], _ => ⟨[], rfl, rfl⟩
  | [], s :: ss, h => by cases h
  | v :: r, [], h => by cases v <;> cases h
  | v :: r, s :: ss, h => by
    cases v with
    | str x t =>
      obtain ⟨h1, h2⟩ := ba h
      obtain ⟨us, e1, e2⟩ := strs_is h2
      refine ⟨t :: us, by simp [e1], ?_⟩
      have h1 : x = s := of_decide_eq_true h1
      rw [h1, e2]
      rfl
    | _ => cases h
def tupB (K : PySem.W.Frag) (a : Addr) (ss : List Str) : Bool := match K.lookup a with
  | some ⟨.type c, _, .seq its _, _⟩ => decide (c = "tuple") && strsB its.toList ss
  | _ => false
theorem tup_is {K : PySem.W.Frag} {a : Addr} {ss : List Str} (e : tupB K a ss = true) : ∃ od n sl, ∃ us : List Tok, us.length = ss.length ∧ K.lookup a = some ⟨.type "tuple", od, .seq ⟨List.zipWith Value.str ss us⟩ n, sl⟩ := by
  unfold tupB at e
  cases z : K.lookup a with
  | none => rw [z] at e; cases e
  | some o =>
    obtain ⟨oc, od, dt, sl⟩ := o
    rw [z] at e
    cases oc with
    | type c =>
      cases dt with
      | seq its n =>
        obtain ⟨⟨its⟩⟩ : Nonempty { x : Array Value // x = its } := ⟨⟨its, rfl⟩⟩
        obtain ⟨e1, e2⟩ := ba e
        obtain ⟨us, h1, h2⟩ := strs_is e2
        have e1 : c = "tuple" := of_decide_eq_true e1
        refine ⟨od, n, sl, us, h1, ?_⟩
        rw [e1, ← h2]
      | _ => cases e
    | _ => cases dt <;> cases e
theorem len1 {α : Type} {us : List α} (h : us.length = 1) : ∃ a, us = [a] := by
  match us, h with
  | [a], _ => exact ⟨a, rfl⟩
theorem len2 {α : Type} {us : List α} (h : us.length = 2) : ∃ a b, us = [a, b] := by
  match us, h with
  | [a, b], _ => exact ⟨a, b, rfl⟩
theorem len3 {α : Type} {us : List α} (h : us.length = 3) : ∃ a b c, us = [a, b, c] := by
  match us, h with
  | [a, b, c], _ => exact ⟨a, b, c, rfl⟩
theorem len4 {α : Type} {us : List α} (h : us.length = 4) : ∃ a b c d, us = [a, b, c, d] := by
  match us, h with
  | [a, b, c, d], _ => exact ⟨a, b, c, d, rfl⟩
theorem len5 {α : Type} {us : List α} (h : us.length = 5) : ∃ a b c d e, us = [a, b, c, d, e] := by
  match us, h with
  | [a, b, c, d, e], _ => exact ⟨a, b, c, d, e, rfl⟩
theorem tbl_is {K : PySem.W.Frag} {c T : Addr} (e : PySem.W.codeHdIn K c T = true) : ∃ o, K.lookup c = some o ∧ PySem.W.codeHdIn [(c, o)] c T = true := by
  cases z : K.lookup c with
  | none =>
    unfold PySem.W.codeHdIn at e
    rw [z] at e
    cases e
  | some o =>
    refine ⟨o, rfl, ?_⟩
    unfold PySem.W.codeHdIn at e ⊢
    have q : ([(c, o)] : PySem.W.Frag).lookup c = some o := by simp [List.lookup]
    rw [q]
    rw [z] at e
    exact e
/-! ### the Hook -/
abbrev AlY : Type := List FnY × Bool
structure SaysY (fn : List FnDY) (tf : List (PySem.W.Frag → Addr)) (ex : PySem.W.Frag → Bool) (h : Heap) (K : PySem.W.Frag) : Prop where
  fns : fn.map (fun d => fnY K (d.at_ K)) = fn.map FnDY.val
  more : ex K = true
  hd : ∀ p ∈ tf, PySem.W.codeHdIn K (p K) (tabOf K (p K)) = true
  out : ∀ p ∈ tf, K.lookup (tabOf K (p K)) = none
  empty : ∀ p ∈ tf, h.get? (tabOf K (p K)) = some { cls := .none, data := .fields #[] }
def tabsY (g : Addr → Option Obj) (tf : List (PySem.W.Frag → Addr)) (K : PySem.W.Frag) : Bool := tf.all fun p => PySem.W.codeHdIn K (p K) (tabOf K (p K)) && (match g (tabOf K (p K)) with
  | some o => emptyTab o
  | none => false)
def obsY (as : List Addr) (fn : List FnDY) (tf : List (PySem.W.Frag → Addr)) (ex : PySem.W.Frag → Bool) (g : Addr → Option Obj) : AlY :=
  (fun K : PySem.W.Frag => (fn.map (fun d => fnY K (d.at_ K)), ex K && tabsY g tf K)) (frT g as)
def valY (fn : List FnDY) : AlY := (fn.map FnDY.val, true)
theorem saysY_of {as : List Addr} {fn : List FnDY} {tf : List (PySem.W.Frag → Addr)} {ex : PySem.W.Frag → Bool} {h : Heap} (e : obsY as fn tf ex h.get? = valY fn) : SaysY fn tf ex h (frT h.get? as) := by
  have e1 : fn.map (fun d => fnY (frT h.get? as) (d.at_ (frT h.get? as))) = fn.map FnDY.val := congrArg (fun z : AlY => z.1) e
  have e2 : (ex (frT h.get? as) && tabsY h.get? tf (frT h.get? as)) = true := congrArg (fun z : AlY => z.2) e
  obtain ⟨h1, h2⟩ := ba e2
  have key : ∀ p ∈ tf, PySem.W.codeHdIn (frT h.get? as) (p (frT h.get? as)) (tabOf (frT h.get? as) (p (frT h.get? as))) = true ∧ ∃ o, h.get? (tabOf (frT h.get? as) (p (frT h.get? as))) = some o ∧ emptyTab o = true := fun p hp => by
    obtain ⟨h3, h4⟩ := ba (List.all_eq_true.mp h2 p hp)
    refine ⟨h3, ?_⟩
    split at h4
    · rename_i o q
      exact ⟨o, q, h4⟩
    · cases h4
  exact ⟨e1, h1, fun p hp => (key p hp).1, fun p hp => by
    obtain ⟨_, o, q, z⟩ := key p hp
    exact frT_none q z, fun p hp => by
    obtain ⟨_, o, q, z⟩ := key p hp
    rw [q, emptyTab_eq z]⟩
def hookY (as : List Addr) (fn : List FnDY) (tf : List (PySem.W.Frag → Addr)) (ex : PySem.W.Frag → Bool) : PySem.W.Hook where
  α := AlY
  obs := fun s => obsY as fn tf ex s.heap.get?
  val := fun _ => valY fn
  says := fun _ h => ∃ K : PySem.W.Frag, K.In h ∧ SaysY fn tf ex h K
  of := fun _ _ e => ⟨_, frT_in, saysY_of e⟩
  keeps := fun _ _ _ ⟨K, hK, c⟩ k => ⟨K, PySem.W.Frag.In.keeps hK k, ⟨c.fns, c.more, c.hd, c.out, fun p hp => k _ _ (c.empty p hp)⟩⟩
theorem obsY_eq {as : List Addr} {fn : List FnDY} {tf : List (PySem.W.Frag → Addr)} {ex : PySem.W.Frag → Bool} {g : Addr → Option Obj} {s : Shared} (h : ∀ a, g a = s.heap.get? a) : obsY as fn tf ex g = (hookY as fn tf ex).obs s := by
  have e : g = s.heap.get? := funext h
  rw [e] <;> rfl
theorem map_join {α β γ δ ε : Type} {X : Option α} {a : α → β} {b : α → γ} {c : α → δ} {d : α → ε} {x : β} {y : γ} {z : δ} {u : ε} (h1 : X.map (fun s => (a s, b s, c s)) = some (x, y, z)) (h2 : X.map (fun s => (a s, b s, d s)) = some (x, y, u)) : ∃ s, X = some s ∧ a s = x ∧ b s = y ∧ c s = z ∧ d s = u := by
  cases X with
  | none => cases h1
  | some s =>
    have e1 : (a s, b s, c s) = (x, y, z) := Option.some.inj h1
    have e2 : (a s, b s, d s) = (x, y, u) := Option.some.inj h2
    simp only [Prod.mk.injEq] at e1 e2
    exact ⟨s, rfl, e1.1, e1.2.1, e1.2.2, e2.2.2⟩
/-- two runs, two parts of what is looked at -/
theorem run_join {r : PySem.W.OpenRow} {q : Program} {M : Nat} {loose : List Str} {w : World} {as : List Addr} {fn1 fn2 : List FnDY} {tf1 tf2 : List (PySem.W.Frag → Addr)} {ex1 ex2 : PySem.W.Frag → Bool}
    (h1 : HandSHeadRun.RunEq r q (hookY as fn1 tf1 ex1) (fun s => obsY as fn1 tf1 ex1 (HandSHeadRun.getT s)) M loose w) (h2 : HandSHeadRun.RunEq r q (hookY as fn2 tf2 ex2) (fun s => obsY as fn2 tf2 ex2 (HandSHeadRun.getT s)) M loose w) :
    HandSHeadRun.RunEq r q (hookY as (fn1 ++ fn2) (tf1 ++ tf2) (fun K => ex1 K && ex2 K)) (fun s => obsY as (fn1 ++ fn2) (tf1 ++ tf2) (fun K => ex1 K && ex2 K) (HandSHeadRun.getT s)) M loose w := by
  intro os
  obtain ⟨s, e, e1, e2, e3, e4⟩ := map_join (h1 os) (h2 os)
  rw [e]
  have e3 : obsY as fn1 tf1 ex1 (HandSHeadRun.getT s) = valY fn1 := e3
  have e4 : obsY as fn2 tf2 ex2 (HandSHeadRun.getT s) = valY fn2 := e4
  have a1 : fn1.map (fun d => fnY (frT (HandSHeadRun.getT s) as) (d.at_ (frT (HandSHeadRun.getT s) as))) = fn1.map FnDY.val := congrArg (fun z : AlY => z.1) e3
  have a2 : (ex1 (frT (HandSHeadRun.getT s) as) && tabsY (HandSHeadRun.getT s) tf1 (frT (HandSHeadRun.getT s) as)) = true := congrArg (fun z : AlY => z.2) e3
  have b1 : fn2.map (fun d => fnY (frT (HandSHeadRun.getT s) as) (d.at_ (frT (HandSHeadRun.getT s) as))) = fn2.map FnDY.val := congrArg (fun z : AlY => z.1) e4
  have b2 : (ex2 (frT (HandSHeadRun.getT s) as) && tabsY (HandSHeadRun.getT s) tf2 (frT (HandSHeadRun.getT s) as)) = true := congrArg (fun z : AlY => z.2) e4
  obtain ⟨a2, a3⟩ := ba a2
  obtain ⟨b2, b3⟩ := ba b2
  have c : obsY as (fn1 ++ fn2) (tf1 ++ tf2) (fun K => ex1 K && ex2 K) (HandSHeadRun.getT s) = valY (fn1 ++ fn2) := by
    show ((fn1 ++ fn2).map (fun d => fnY (frT (HandSHeadRun.getT s) as) (d.at_ (frT (HandSHeadRun.getT s) as))), (ex1 (frT (HandSHeadRun.getT s) as) && ex2 (frT (HandSHeadRun.getT s) as)) && tabsY (HandSHeadRun.getT s) (tf1 ++ tf2) (frT (HandSHeadRun.getT s) as)) = ((fn1 ++ fn2).map FnDY.val, true)
    have t : tabsY (HandSHeadRun.getT s) (tf1 ++ tf2) (frT (HandSHeadRun.getT s) as) = true := by
      unfold tabsY at a3 b3 ⊢
      rw [List.all_append, a3, b3] <;> rfl
    rw [List.map_append, List.map_append, a1, b1, a2, b2, t] <;> rfl
  show some (_, _, _) = some (_, _, _)
  rw [e1, e2]
  exact congrArg (fun z => some (true, PySem.W.openGood q loose, z)) c
theorem SaysY.fn {fn : List FnDY} {tf : List (PySem.W.Frag → Addr)} {ex : PySem.W.Frag → Bool} {h : Heap} {K : PySem.W.Frag} (c : SaysY fn tf ex h K) (i : Nat) {d : FnDY} (e : fn[i]? = some d) : fnY K (d.at_ K) = some (d.name, d.qual, d.params, .stmts d.body, d.scope) := by
  have e2 : (fn.map fun d => fnY K (d.at_ K))[i]? = (fn.map FnDY.val)[i]? := by rw [c.fns]
  rw [List.getElem?_map, List.getElem?_map, e] at e2
  exact Option.some.inj e2
end HeadY
namespace Sc
open PySem PySem.Spec PyProof.Rows L2 HeadY He
abbrev theLaw : PySem.W.OpenLaw := PySem.Challenge.rw_smallcourt_k56_whole_wrong_texts_located
abbrev theRow : PySem.W.OpenRow := PySem.W.OpenLaw.row PySem.Challenge.rw_smallcourt_k56_whole_wrong_texts_located
def theFile : Str := theRow.prog.main.file
def Ad_f_is_name (K : PySem.W.Frag) : Addr := ga K "is_name"
def Ad_f_rises (K : PySem.W.Frag) : Addr := ga K "rises"
def Ad_f_check_facts (K : PySem.W.Frag) : Addr := ga K "check_facts"
def Ad_f_nested (K : PySem.W.Frag) : Addr := ga K "nested"
def Ad_f_check_rules (K : PySem.W.Frag) : Addr := ga K "check_rules"
def Ad_f_check_part (K : PySem.W.Frag) : Addr := ga K "check_part"
def Ad_f_merged (K : PySem.W.Frag) : Addr := ga K "merged"
def Ad_f_is_free_name (K : PySem.W.Frag) : Addr := ga K "is_free_name"
def Ad_f_read_facts (K : PySem.W.Frag) : Addr := ga K "read_facts"
def Ad_f_read_ending (K : PySem.W.Frag) : Addr := ga K "read_ending"
def Ad_f_read_part (K : PySem.W.Frag) : Addr := ga K "read_part"
def Ad_f_read_signs (K : PySem.W.Frag) : Addr := ga K "read_signs"
def Ad_f_read_rule (K : PySem.W.Frag) : Addr := ga K "read_rule"
def Ad_f_rules_told (K : PySem.W.Frag) : Addr := ga K "rules_told"
def Ad_f_parse_book (K : PySem.W.Frag) : Addr := ga K "parse_book"
def Ad_f__law_mix (K : PySem.W.Frag) : Addr := ga K "_law_mix"
def Ad_f__law_next (K : PySem.W.Frag) : Addr := ga K "_law_next"
def Ad_f__law_alike (K : PySem.W.Frag) : Addr := ga K "_law_alike"
def Ad_f__law_facts (K : PySem.W.Frag) : Addr := ga K "_law_facts"
def Ad_f__law_sides (K : PySem.W.Frag) : Addr := ga K "_law_sides"
def Ad_f__law_rule (K : PySem.W.Frag) : Addr := ga K "_law_rule"
def Ad_f__law_drawn (K : PySem.W.Frag) : Addr := ga K "_law_drawn"
def Ad_f__law_told (K : PySem.W.Frag) : Addr := ga K "_law_told"
def Ad_f__law_seen (K : PySem.W.Frag) : Addr := ga K "_law_seen"
def Ad_f__law_words (K : PySem.W.Frag) : Addr := ga K "_law_words"
def Ad_f__law_rows_of (K : PySem.W.Frag) : Addr := ga K "_law_rows_of"
def Ad_f__law_text (K : PySem.W.Frag) : Addr := ga K "_law_text"
def Ad_f__law_named (K : PySem.W.Frag) : Addr := ga K "_law_named"
def Ad_f__law_read_facts (K : PySem.W.Frag) : Addr := ga K "_law_read_facts"
def Ad_f__law_read_side (K : PySem.W.Frag) : Addr := ga K "_law_read_side"
def Ad_f__law_read_rule (K : PySem.W.Frag) : Addr := ga K "_law_read_rule"
def Ad_f__law_nested (K : PySem.W.Frag) : Addr := ga K "_law_nested"
def Ad_f__law_read (K : PySem.W.Frag) : Addr := ga K "_law_read"
def Ad_f__law_parsed (K : PySem.W.Frag) : Addr := ga K "_law_parsed"
def Ad_f__law_bent (K : PySem.W.Frag) : Addr := ga K "_law_bent"
def Ad_f_law (K : PySem.W.Frag) : Addr := ga K "law"
def Ad_CO (K : PySem.W.Frag) : Addr := ga K "Condition"
def Ad_RO (K : PySem.W.Frag) : Addr := ga K "Rule"
def Ad_BO (K : PySem.W.Frag) : Addr := ga K "Book"
def Ad_WO (K : PySem.W.Frag) : Addr := ga K "Words"
def Ad_rsA (K : PySem.W.Frag) : Addr := ga K "RESERVED"
def Ad_CE (K : PySem.W.Frag) : Addr := ga K "CourtError"
def Ad_E0 (K : PySem.W.Frag) : Addr := ga K "InvalidFacts"
def Ad_E1 (K : PySem.W.Frag) : Addr := ga K "InvalidCondition"
def Ad_E2 (K : PySem.W.Frag) : Addr := ga K "InvalidRule"
def Ad_E3 (K : PySem.W.Frag) : Addr := ga K "InvalidBook"
def Ad_E4 (K : PySem.W.Frag) : Addr := ga K "InvalidText"
def Ad_f_mi (K : PySem.W.Frag) : Addr := ma K (Ad_CO K) "__init__"
def Ad_pp_mh (K : PySem.W.Frag) : Addr := ma K (Ad_CO K) "holding"
def Ad_pp_mf (K : PySem.W.Frag) : Addr := ma K (Ad_CO K) "failing"
def Ad_pp_mn (K : PySem.W.Frag) : Addr := ma K (Ad_CO K) "names"
def Ad_f_ri (K : PySem.W.Frag) : Addr := ma K (Ad_RO K) "__init__"
def Ad_pp_rn (K : PySem.W.Frag) : Addr := ma K (Ad_RO K) "name"
def Ad_pp_rc (K : PySem.W.Frag) : Addr := ma K (Ad_RO K) "condition"
def Ad_pp_rr (K : PySem.W.Frag) : Addr := ma K (Ad_RO K) "ruling"
def Ad_pp_re (K : PySem.W.Frag) : Addr := ma K (Ad_RO K) "exceptions"
def Ad_pp_rd (K : PySem.W.Frag) : Addr := ma K (Ad_RO K) "depth"
def Ad_f_bi (K : PySem.W.Frag) : Addr := ma K (Ad_BO K) "__init__"
def Ad_pp_bf (K : PySem.W.Frag) : Addr := ma K (Ad_BO K) "facts"
def Ad_pp_bs (K : PySem.W.Frag) : Addr := ma K (Ad_BO K) "rules"
def Ad_pp_br (K : PySem.W.Frag) : Addr := ma K (Ad_BO K) "ruling"
def Ad_f_wi (K : PySem.W.Frag) : Addr := ma K (Ad_WO K) "__init__"
def Ad_f_wa (K : PySem.W.Frag) : Addr := ma K (Ad_WO K) "ahead"
def Ad_f_wc (K : PySem.W.Frag) : Addr := ma K (Ad_WO K) "check"
def Ad_f_wt (K : PySem.W.Frag) : Addr := ma K (Ad_WO K) "take"
def Ad_f_we (K : PySem.W.Frag) : Addr := ma K (Ad_WO K) "check_end"
def Ad_fIi0 (K : PySem.W.Frag) : Addr := ma K (Ad_E0 K) "__init__"
def Ad_fIi1 (K : PySem.W.Frag) : Addr := ma K (Ad_E1 K) "__init__"
def Ad_fIi2 (K : PySem.W.Frag) : Addr := ma K (Ad_E2 K) "__init__"
def Ad_fIi3 (K : PySem.W.Frag) : Addr := ma K (Ad_E3 K) "__init__"
def Ad_fIi4 (K : PySem.W.Frag) : Addr := ma K (Ad_E4 K) "__init__"
def Ad_f_mh (K : PySem.W.Frag) : Addr := recF K (Ad_pp_mh K)
def Ad_f_mf (K : PySem.W.Frag) : Addr := recF K (Ad_pp_mf K)
def Ad_f_mn (K : PySem.W.Frag) : Addr := recF K (Ad_pp_mn K)
def Ad_f_rn (K : PySem.W.Frag) : Addr := recF K (Ad_pp_rn K)
def Ad_f_rc (K : PySem.W.Frag) : Addr := recF K (Ad_pp_rc K)
def Ad_f_rr (K : PySem.W.Frag) : Addr := recF K (Ad_pp_rr K)
def Ad_f_re (K : PySem.W.Frag) : Addr := recF K (Ad_pp_re K)
def Ad_f_rd (K : PySem.W.Frag) : Addr := recF K (Ad_pp_rd K)
def Ad_f_bf (K : PySem.W.Frag) : Addr := recF K (Ad_pp_bf K)
def Ad_f_bs (K : PySem.W.Frag) : Addr := recF K (Ad_pp_bs K)
def Ad_f_br (K : PySem.W.Frag) : Addr := recF K (Ad_pp_br K)
def Ad_cc_law (K : PySem.W.Frag) : Addr := codA K (Ad_f_law K)
def Ad_celi0 (K : PySem.W.Frag) : Addr := cloA K (Ad_fIi0 K)
def Ad_codi0 (K : PySem.W.Frag) : Addr := codA K (Ad_fIi0 K)
def Ad_celi1 (K : PySem.W.Frag) : Addr := cloA K (Ad_fIi1 K)
def Ad_codi1 (K : PySem.W.Frag) : Addr := codA K (Ad_fIi1 K)
def Ad_celi2 (K : PySem.W.Frag) : Addr := cloA K (Ad_fIi2 K)
def Ad_codi2 (K : PySem.W.Frag) : Addr := codA K (Ad_fIi2 K)
def Ad_celi3 (K : PySem.W.Frag) : Addr := cloA K (Ad_fIi3 K)
def Ad_codi3 (K : PySem.W.Frag) : Addr := codA K (Ad_fIi3 K)
def Ad_celi4 (K : PySem.W.Frag) : Addr := cloA K (Ad_fIi4 K)
def Ad_codi4 (K : PySem.W.Frag) : Addr := codA K (Ad_fIi4 K)
def Fx0 (K : PySem.W.Frag) : Prop := (PySem.W.nsIn K mainGlobals "is_name" = some (some (.ref (Ad_f_is_name K)))) ∧ (fnB K (Ad_f_is_name K) "is_name" = true) ∧ (PySem.W.keepIn K (.ref (Ad_f_is_name K)) = true) ∧ (PySem.W.nsIn K mainGlobals "rises" = some (some (.ref (Ad_f_rises K)))) ∧ (fnB K (Ad_f_rises K) "rises" = true) ∧ (PySem.W.keepIn K (.ref (Ad_f_rises K)) = true) ∧ (PySem.W.nsIn K mainGlobals "check_facts" = some (some (.ref (Ad_f_check_facts K)))) ∧ (fnB K (Ad_f_check_facts K) "check_facts" = true) ∧ (PySem.W.keepIn K (.ref (Ad_f_check_facts K)) = true) ∧ (PySem.W.nsIn K mainGlobals "nested" = some (some (.ref (Ad_f_nested K)))) ∧ (fnB K (Ad_f_nested K) "nested" = true) ∧ (PySem.W.keepIn K (.ref (Ad_f_nested K)) = true)
instance (K : PySem.W.Frag) : Decidable (Fx0 K) := by unfold Fx0; infer_instance
def Fx1 (K : PySem.W.Frag) : Prop := (PySem.W.nsIn K mainGlobals "check_rules" = some (some (.ref (Ad_f_check_rules K)))) ∧ (fnB K (Ad_f_check_rules K) "check_rules" = true) ∧ (PySem.W.keepIn K (.ref (Ad_f_check_rules K)) = true) ∧ (PySem.W.nsIn K mainGlobals "check_part" = some (some (.ref (Ad_f_check_part K)))) ∧ (fnB K (Ad_f_check_part K) "check_part" = true) ∧ (PySem.W.keepIn K (.ref (Ad_f_check_part K)) = true) ∧ (PySem.W.nsIn K mainGlobals "merged" = some (some (.ref (Ad_f_merged K)))) ∧ (fnB K (Ad_f_merged K) "merged" = true) ∧ (PySem.W.keepIn K (.ref (Ad_f_merged K)) = true) ∧ (PySem.W.nsIn K mainGlobals "is_free_name" = some (some (.ref (Ad_f_is_free_name K)))) ∧ (fnB K (Ad_f_is_free_name K) "is_free_name" = true) ∧ (PySem.W.keepIn K (.ref (Ad_f_is_free_name K)) = true)
instance (K : PySem.W.Frag) : Decidable (Fx1 K) := by unfold Fx1; infer_instance
def Fx2 (K : PySem.W.Frag) : Prop := (PySem.W.nsIn K mainGlobals "read_facts" = some (some (.ref (Ad_f_read_facts K)))) ∧ (fnB K (Ad_f_read_facts K) "read_facts" = true) ∧ (PySem.W.keepIn K (.ref (Ad_f_read_facts K)) = true) ∧ (PySem.W.nsIn K mainGlobals "read_ending" = some (some (.ref (Ad_f_read_ending K)))) ∧ (fnB K (Ad_f_read_ending K) "read_ending" = true) ∧ (PySem.W.keepIn K (.ref (Ad_f_read_ending K)) = true) ∧ (PySem.W.nsIn K mainGlobals "read_part" = some (some (.ref (Ad_f_read_part K)))) ∧ (fnB K (Ad_f_read_part K) "read_part" = true) ∧ (PySem.W.keepIn K (.ref (Ad_f_read_part K)) = true) ∧ (PySem.W.nsIn K mainGlobals "read_signs" = some (some (.ref (Ad_f_read_signs K)))) ∧ (fnB K (Ad_f_read_signs K) "read_signs" = true) ∧ (PySem.W.keepIn K (.ref (Ad_f_read_signs K)) = true)
instance (K : PySem.W.Frag) : Decidable (Fx2 K) := by unfold Fx2; infer_instance
def Fx3 (K : PySem.W.Frag) : Prop := (PySem.W.nsIn K mainGlobals "read_rule" = some (some (.ref (Ad_f_read_rule K)))) ∧ (fnB K (Ad_f_read_rule K) "read_rule" = true) ∧ (PySem.W.keepIn K (.ref (Ad_f_read_rule K)) = true) ∧ (PySem.W.nsIn K mainGlobals "rules_told" = some (some (.ref (Ad_f_rules_told K)))) ∧ (fnB K (Ad_f_rules_told K) "rules_told" = true) ∧ (PySem.W.keepIn K (.ref (Ad_f_rules_told K)) = true) ∧ (PySem.W.nsIn K mainGlobals "parse_book" = some (some (.ref (Ad_f_parse_book K)))) ∧ (fnB K (Ad_f_parse_book K) "parse_book" = true) ∧ (PySem.W.keepIn K (.ref (Ad_f_parse_book K)) = true) ∧ (PySem.W.nsIn K mainGlobals "_law_mix" = some (some (.ref (Ad_f__law_mix K)))) ∧ (fnB K (Ad_f__law_mix K) "_law_mix" = true) ∧ (PySem.W.keepIn K (.ref (Ad_f__law_mix K)) = true)
instance (K : PySem.W.Frag) : Decidable (Fx3 K) := by unfold Fx3; infer_instance
def Fx4 (K : PySem.W.Frag) : Prop := (PySem.W.nsIn K mainGlobals "_law_next" = some (some (.ref (Ad_f__law_next K)))) ∧ (fnB K (Ad_f__law_next K) "_law_next" = true) ∧ (PySem.W.keepIn K (.ref (Ad_f__law_next K)) = true) ∧ (PySem.W.nsIn K mainGlobals "_law_alike" = some (some (.ref (Ad_f__law_alike K)))) ∧ (fnB K (Ad_f__law_alike K) "_law_alike" = true) ∧ (PySem.W.keepIn K (.ref (Ad_f__law_alike K)) = true) ∧ (PySem.W.nsIn K mainGlobals "_law_facts" = some (some (.ref (Ad_f__law_facts K)))) ∧ (fnB K (Ad_f__law_facts K) "_law_facts" = true) ∧ (PySem.W.keepIn K (.ref (Ad_f__law_facts K)) = true) ∧ (PySem.W.nsIn K mainGlobals "_law_sides" = some (some (.ref (Ad_f__law_sides K)))) ∧ (fnB K (Ad_f__law_sides K) "_law_sides" = true) ∧ (PySem.W.keepIn K (.ref (Ad_f__law_sides K)) = true)
instance (K : PySem.W.Frag) : Decidable (Fx4 K) := by unfold Fx4; infer_instance
def Fx5 (K : PySem.W.Frag) : Prop := (PySem.W.nsIn K mainGlobals "_law_rule" = some (some (.ref (Ad_f__law_rule K)))) ∧ (fnB K (Ad_f__law_rule K) "_law_rule" = true) ∧ (PySem.W.keepIn K (.ref (Ad_f__law_rule K)) = true) ∧ (PySem.W.nsIn K mainGlobals "_law_drawn" = some (some (.ref (Ad_f__law_drawn K)))) ∧ (fnB K (Ad_f__law_drawn K) "_law_drawn" = true) ∧ (PySem.W.keepIn K (.ref (Ad_f__law_drawn K)) = true) ∧ (PySem.W.nsIn K mainGlobals "_law_told" = some (some (.ref (Ad_f__law_told K)))) ∧ (fnB K (Ad_f__law_told K) "_law_told" = true) ∧ (PySem.W.keepIn K (.ref (Ad_f__law_told K)) = true) ∧ (PySem.W.nsIn K mainGlobals "_law_seen" = some (some (.ref (Ad_f__law_seen K)))) ∧ (fnB K (Ad_f__law_seen K) "_law_seen" = true) ∧ (PySem.W.keepIn K (.ref (Ad_f__law_seen K)) = true)
instance (K : PySem.W.Frag) : Decidable (Fx5 K) := by unfold Fx5; infer_instance
def Fx6 (K : PySem.W.Frag) : Prop := (PySem.W.nsIn K mainGlobals "_law_words" = some (some (.ref (Ad_f__law_words K)))) ∧ (fnB K (Ad_f__law_words K) "_law_words" = true) ∧ (PySem.W.keepIn K (.ref (Ad_f__law_words K)) = true) ∧ (PySem.W.nsIn K mainGlobals "_law_rows_of" = some (some (.ref (Ad_f__law_rows_of K)))) ∧ (fnB K (Ad_f__law_rows_of K) "_law_rows_of" = true) ∧ (PySem.W.keepIn K (.ref (Ad_f__law_rows_of K)) = true) ∧ (PySem.W.nsIn K mainGlobals "_law_text" = some (some (.ref (Ad_f__law_text K)))) ∧ (fnB K (Ad_f__law_text K) "_law_text" = true) ∧ (PySem.W.keepIn K (.ref (Ad_f__law_text K)) = true) ∧ (PySem.W.nsIn K mainGlobals "_law_named" = some (some (.ref (Ad_f__law_named K)))) ∧ (fnB K (Ad_f__law_named K) "_law_named" = true) ∧ (PySem.W.keepIn K (.ref (Ad_f__law_named K)) = true)
instance (K : PySem.W.Frag) : Decidable (Fx6 K) := by unfold Fx6; infer_instance
def Fx7 (K : PySem.W.Frag) : Prop := (PySem.W.nsIn K mainGlobals "_law_read_facts" = some (some (.ref (Ad_f__law_read_facts K)))) ∧ (fnB K (Ad_f__law_read_facts K) "_law_read_facts" = true) ∧ (PySem.W.keepIn K (.ref (Ad_f__law_read_facts K)) = true) ∧ (PySem.W.nsIn K mainGlobals "_law_read_side" = some (some (.ref (Ad_f__law_read_side K)))) ∧ (fnB K (Ad_f__law_read_side K) "_law_read_side" = true) ∧ (PySem.W.keepIn K (.ref (Ad_f__law_read_side K)) = true) ∧ (PySem.W.nsIn K mainGlobals "_law_read_rule" = some (some (.ref (Ad_f__law_read_rule K)))) ∧ (fnB K (Ad_f__law_read_rule K) "_law_read_rule" = true) ∧ (PySem.W.keepIn K (.ref (Ad_f__law_read_rule K)) = true) ∧ (PySem.W.nsIn K mainGlobals "_law_nested" = some (some (.ref (Ad_f__law_nested K)))) ∧ (fnB K (Ad_f__law_nested K) "_law_nested" = true) ∧ (PySem.W.keepIn K (.ref (Ad_f__law_nested K)) = true)
instance (K : PySem.W.Frag) : Decidable (Fx7 K) := by unfold Fx7; infer_instance
def Fx8 (K : PySem.W.Frag) : Prop := (PySem.W.nsIn K mainGlobals "_law_read" = some (some (.ref (Ad_f__law_read K)))) ∧ (fnB K (Ad_f__law_read K) "_law_read" = true) ∧ (PySem.W.keepIn K (.ref (Ad_f__law_read K)) = true) ∧ (PySem.W.nsIn K mainGlobals "_law_parsed" = some (some (.ref (Ad_f__law_parsed K)))) ∧ (fnB K (Ad_f__law_parsed K) "_law_parsed" = true) ∧ (PySem.W.keepIn K (.ref (Ad_f__law_parsed K)) = true) ∧ (PySem.W.nsIn K mainGlobals "_law_bent" = some (some (.ref (Ad_f__law_bent K)))) ∧ (fnB K (Ad_f__law_bent K) "_law_bent" = true) ∧ (PySem.W.keepIn K (.ref (Ad_f__law_bent K)) = true) ∧ (PySem.W.nsIn K mainGlobals "law" = some (some (.ref (Ad_f_law K)))) ∧ (fnB K (Ad_f_law K) "law" = true) ∧ (PySem.W.keepIn K (.ref (Ad_f_law K)) = true)
instance (K : PySem.W.Frag) : Decidable (Fx8 K) := by unfold Fx8; infer_instance
def Fx9 (K : PySem.W.Frag) : Prop := (PySem.W.nsIn K mainGlobals "Condition" = some (some (.ref (Ad_CO K)))) ∧ (PySem.W.makesIn K (Ad_CO K) = true) ∧ (PySem.W.findIn K (.ref (Ad_CO K)) "__init__" = some (some (.ref (Ad_f_mi K)))) ∧ (PySem.W.isFn K (.ref (Ad_f_mi K)) = true) ∧ (PySem.W.keepIn K (.ref (Ad_CO K)) = true) ∧ (PySem.W.plainGet K (Ad_CO K) Str.empty = true) ∧ (PySem.W.hasDictIn K (Ad_CO K) = true) ∧ (PySem.W.plainOver K (Ad_CO K) = true) ∧ (PySem.W.findIn K (.ref (Ad_CO K)) "__setattr__" = some (some (.builtin "object.__setattr__"))) ∧ (PySem.W.findIn K (.ref (Ad_CO K)) "_holding" = some none) ∧ (PySem.W.findIn K (.ref (Ad_CO K)) "_failing" = some none) ∧ (PySem.W.findIn K (.ref (Ad_CO K)) "_names" = some none)
instance (K : PySem.W.Frag) : Decidable (Fx9 K) := by unfold Fx9; infer_instance
def Fx10 (K : PySem.W.Frag) : Prop := (PySem.W.findIn K (.ref (Ad_CO K)) "holding" = some (some (.ref (Ad_pp_mh K)))) ∧ (PySem.W.specialIn K (.ref (Ad_pp_mh K)) "__get__" = some (some (.builtin "property.__get__"))) ∧ (PySem.W.takesIn K (.ref (Ad_pp_mh K)) = some true) ∧ (recB K (Ad_pp_mh K) = true) ∧ (PySem.W.findIn K (.ref (Ad_CO K)) "failing" = some (some (.ref (Ad_pp_mf K)))) ∧ (PySem.W.specialIn K (.ref (Ad_pp_mf K)) "__get__" = some (some (.builtin "property.__get__"))) ∧ (PySem.W.takesIn K (.ref (Ad_pp_mf K)) = some true) ∧ (recB K (Ad_pp_mf K) = true) ∧ (PySem.W.findIn K (.ref (Ad_CO K)) "names" = some (some (.ref (Ad_pp_mn K)))) ∧ (PySem.W.specialIn K (.ref (Ad_pp_mn K)) "__get__" = some (some (.builtin "property.__get__"))) ∧ (PySem.W.takesIn K (.ref (Ad_pp_mn K)) = some true) ∧ (recB K (Ad_pp_mn K) = true)
instance (K : PySem.W.Frag) : Decidable (Fx10 K) := by unfold Fx10; infer_instance
def Fx11 (K : PySem.W.Frag) : Prop := (PySem.W.nsIn K mainGlobals "Rule" = some (some (.ref (Ad_RO K)))) ∧ (PySem.W.makesIn K (Ad_RO K) = true) ∧ (PySem.W.findIn K (.ref (Ad_RO K)) "__init__" = some (some (.ref (Ad_f_ri K)))) ∧ (PySem.W.isFn K (.ref (Ad_f_ri K)) = true) ∧ (PySem.W.keepIn K (.ref (Ad_RO K)) = true) ∧ (PySem.W.plainGet K (Ad_RO K) Str.empty = true) ∧ (PySem.W.hasDictIn K (Ad_RO K) = true) ∧ (PySem.W.plainOver K (Ad_RO K) = true) ∧ (PySem.W.findIn K (.ref (Ad_RO K)) "__setattr__" = some (some (.builtin "object.__setattr__"))) ∧ (PySem.W.findIn K (.ref (Ad_RO K)) "_name" = some none) ∧ (PySem.W.findIn K (.ref (Ad_RO K)) "_condition" = some none) ∧ (PySem.W.findIn K (.ref (Ad_RO K)) "_ruling" = some none)
instance (K : PySem.W.Frag) : Decidable (Fx11 K) := by unfold Fx11; infer_instance
def Fx12 (K : PySem.W.Frag) : Prop := (PySem.W.findIn K (.ref (Ad_RO K)) "_exceptions" = some none) ∧ (PySem.W.findIn K (.ref (Ad_RO K)) "_depth" = some none) ∧ (PySem.W.findIn K (.ref (Ad_RO K)) "_inside" = some none) ∧ (PySem.W.findIn K (.ref (Ad_RO K)) "name" = some (some (.ref (Ad_pp_rn K)))) ∧ (PySem.W.specialIn K (.ref (Ad_pp_rn K)) "__get__" = some (some (.builtin "property.__get__"))) ∧ (PySem.W.takesIn K (.ref (Ad_pp_rn K)) = some true) ∧ (recB K (Ad_pp_rn K) = true) ∧ (PySem.W.findIn K (.ref (Ad_RO K)) "condition" = some (some (.ref (Ad_pp_rc K)))) ∧ (PySem.W.specialIn K (.ref (Ad_pp_rc K)) "__get__" = some (some (.builtin "property.__get__"))) ∧ (PySem.W.takesIn K (.ref (Ad_pp_rc K)) = some true) ∧ (recB K (Ad_pp_rc K) = true) ∧ (PySem.W.findIn K (.ref (Ad_RO K)) "ruling" = some (some (.ref (Ad_pp_rr K))))
instance (K : PySem.W.Frag) : Decidable (Fx12 K) := by unfold Fx12; infer_instance
def Fx13 (K : PySem.W.Frag) : Prop := (PySem.W.specialIn K (.ref (Ad_pp_rr K)) "__get__" = some (some (.builtin "property.__get__"))) ∧ (PySem.W.takesIn K (.ref (Ad_pp_rr K)) = some true) ∧ (recB K (Ad_pp_rr K) = true) ∧ (PySem.W.findIn K (.ref (Ad_RO K)) "exceptions" = some (some (.ref (Ad_pp_re K)))) ∧ (PySem.W.specialIn K (.ref (Ad_pp_re K)) "__get__" = some (some (.builtin "property.__get__"))) ∧ (PySem.W.takesIn K (.ref (Ad_pp_re K)) = some true) ∧ (recB K (Ad_pp_re K) = true) ∧ (PySem.W.findIn K (.ref (Ad_RO K)) "depth" = some (some (.ref (Ad_pp_rd K)))) ∧ (PySem.W.specialIn K (.ref (Ad_pp_rd K)) "__get__" = some (some (.builtin "property.__get__"))) ∧ (PySem.W.takesIn K (.ref (Ad_pp_rd K)) = some true) ∧ (recB K (Ad_pp_rd K) = true) ∧ (PySem.W.nsIn K mainGlobals "Book" = some (some (.ref (Ad_BO K))))
instance (K : PySem.W.Frag) : Decidable (Fx13 K) := by unfold Fx13; infer_instance
def Fx14 (K : PySem.W.Frag) : Prop := (PySem.W.makesIn K (Ad_BO K) = true) ∧ (PySem.W.findIn K (.ref (Ad_BO K)) "__init__" = some (some (.ref (Ad_f_bi K)))) ∧ (PySem.W.isFn K (.ref (Ad_f_bi K)) = true) ∧ (PySem.W.keepIn K (.ref (Ad_BO K)) = true) ∧ (PySem.W.plainGet K (Ad_BO K) Str.empty = true) ∧ (PySem.W.hasDictIn K (Ad_BO K) = true) ∧ (PySem.W.plainOver K (Ad_BO K) = true) ∧ (PySem.W.findIn K (.ref (Ad_BO K)) "__setattr__" = some (some (.builtin "object.__setattr__"))) ∧ (PySem.W.findIn K (.ref (Ad_BO K)) "_facts" = some none) ∧ (PySem.W.findIn K (.ref (Ad_BO K)) "_rules" = some none) ∧ (PySem.W.findIn K (.ref (Ad_BO K)) "_ruling" = some none) ∧ (PySem.W.findIn K (.ref (Ad_BO K)) "_numbered" = some none)
instance (K : PySem.W.Frag) : Decidable (Fx14 K) := by unfold Fx14; infer_instance
def Fx15 (K : PySem.W.Frag) : Prop := (PySem.W.findIn K (.ref (Ad_BO K)) "facts" = some (some (.ref (Ad_pp_bf K)))) ∧ (PySem.W.specialIn K (.ref (Ad_pp_bf K)) "__get__" = some (some (.builtin "property.__get__"))) ∧ (PySem.W.takesIn K (.ref (Ad_pp_bf K)) = some true) ∧ (recB K (Ad_pp_bf K) = true) ∧ (PySem.W.findIn K (.ref (Ad_BO K)) "rules" = some (some (.ref (Ad_pp_bs K)))) ∧ (PySem.W.specialIn K (.ref (Ad_pp_bs K)) "__get__" = some (some (.builtin "property.__get__"))) ∧ (PySem.W.takesIn K (.ref (Ad_pp_bs K)) = some true) ∧ (recB K (Ad_pp_bs K) = true) ∧ (PySem.W.findIn K (.ref (Ad_BO K)) "ruling" = some (some (.ref (Ad_pp_br K)))) ∧ (PySem.W.specialIn K (.ref (Ad_pp_br K)) "__get__" = some (some (.builtin "property.__get__"))) ∧ (PySem.W.takesIn K (.ref (Ad_pp_br K)) = some true) ∧ (recB K (Ad_pp_br K) = true)
instance (K : PySem.W.Frag) : Decidable (Fx15 K) := by unfold Fx15; infer_instance
def Fx16 (K : PySem.W.Frag) : Prop := (PySem.W.nsIn K mainGlobals "Words" = some (some (.ref (Ad_WO K)))) ∧ (PySem.W.makesIn K (Ad_WO K) = true) ∧ (PySem.W.findIn K (.ref (Ad_WO K)) "__init__" = some (some (.ref (Ad_f_wi K)))) ∧ (PySem.W.isFn K (.ref (Ad_f_wi K)) = true) ∧ (PySem.W.keepIn K (.ref (Ad_WO K)) = true) ∧ (PySem.W.plainGet K (Ad_WO K) Str.empty = true) ∧ (PySem.W.hasDictIn K (Ad_WO K) = true) ∧ (PySem.W.plainOver K (Ad_WO K) = true) ∧ (PySem.W.findIn K (.ref (Ad_WO K)) "__setattr__" = some (some (.builtin "object.__setattr__"))) ∧ (PySem.W.findIn K (.ref (Ad_WO K)) "row" = some none) ∧ (PySem.W.findIn K (.ref (Ad_WO K)) "left" = some none) ∧ (PySem.W.findIn K (.ref (Ad_WO K)) "at" = some none)
instance (K : PySem.W.Frag) : Decidable (Fx16 K) := by unfold Fx16; infer_instance
def Fx17 (K : PySem.W.Frag) : Prop := (PySem.W.findIn K (.ref (Ad_WO K)) "ahead" = some (some (.ref (Ad_f_wa K)))) ∧ (PySem.W.isFn K (.ref (Ad_f_wa K)) = true) ∧ (PySem.W.findIn K (.ref (Ad_WO K)) "check" = some (some (.ref (Ad_f_wc K)))) ∧ (PySem.W.isFn K (.ref (Ad_f_wc K)) = true) ∧ (PySem.W.findIn K (.ref (Ad_WO K)) "take" = some (some (.ref (Ad_f_wt K)))) ∧ (PySem.W.isFn K (.ref (Ad_f_wt K)) = true) ∧ (PySem.W.findIn K (.ref (Ad_WO K)) "check_end" = some (some (.ref (Ad_f_we K)))) ∧ (PySem.W.isFn K (.ref (Ad_f_we K)) = true) ∧ (PySem.W.nsIn K mainGlobals "RESERVED" = some (some (.ref (Ad_rsA K)))) ∧ (HeadY.tupB K (Ad_rsA K) ["facts", "is", "if", "not", "else"] = true) ∧ (fnB K (Ad_f_mi K) "Condition.__init__" = true) ∧ (PySem.W.keepIn K (.ref (Ad_f_mi K)) = true)
instance (K : PySem.W.Frag) : Decidable (Fx17 K) := by unfold Fx17; infer_instance
def Fx18 (K : PySem.W.Frag) : Prop := (fnB K (Ad_f_mh K) "Condition.holding" = true) ∧ (PySem.W.keepIn K (.ref (Ad_f_mh K)) = true) ∧ (fnB K (Ad_f_mf K) "Condition.failing" = true) ∧ (PySem.W.keepIn K (.ref (Ad_f_mf K)) = true) ∧ (fnB K (Ad_f_mn K) "Condition.names" = true) ∧ (PySem.W.keepIn K (.ref (Ad_f_mn K)) = true) ∧ (fnB K (Ad_f_ri K) "Rule.__init__" = true) ∧ (PySem.W.keepIn K (.ref (Ad_f_ri K)) = true) ∧ (fnB K (Ad_f_rn K) "Rule.name" = true) ∧ (PySem.W.keepIn K (.ref (Ad_f_rn K)) = true) ∧ (fnB K (Ad_f_rc K) "Rule.condition" = true) ∧ (PySem.W.keepIn K (.ref (Ad_f_rc K)) = true)
instance (K : PySem.W.Frag) : Decidable (Fx18 K) := by unfold Fx18; infer_instance
def Fx19 (K : PySem.W.Frag) : Prop := (fnB K (Ad_f_rr K) "Rule.ruling" = true) ∧ (PySem.W.keepIn K (.ref (Ad_f_rr K)) = true) ∧ (fnB K (Ad_f_re K) "Rule.exceptions" = true) ∧ (PySem.W.keepIn K (.ref (Ad_f_re K)) = true) ∧ (fnB K (Ad_f_rd K) "Rule.depth" = true) ∧ (PySem.W.keepIn K (.ref (Ad_f_rd K)) = true) ∧ (fnB K (Ad_f_bi K) "Book.__init__" = true) ∧ (PySem.W.keepIn K (.ref (Ad_f_bi K)) = true) ∧ (fnB K (Ad_f_bf K) "Book.facts" = true) ∧ (PySem.W.keepIn K (.ref (Ad_f_bf K)) = true) ∧ (fnB K (Ad_f_bs K) "Book.rules" = true) ∧ (PySem.W.keepIn K (.ref (Ad_f_bs K)) = true)
instance (K : PySem.W.Frag) : Decidable (Fx19 K) := by unfold Fx19; infer_instance
def Fx20 (K : PySem.W.Frag) : Prop := (fnB K (Ad_f_br K) "Book.ruling" = true) ∧ (PySem.W.keepIn K (.ref (Ad_f_br K)) = true) ∧ (fnB K (Ad_f_wi K) "Words.__init__" = true) ∧ (PySem.W.keepIn K (.ref (Ad_f_wi K)) = true) ∧ (fnB K (Ad_f_wa K) "Words.ahead" = true) ∧ (PySem.W.keepIn K (.ref (Ad_f_wa K)) = true) ∧ (fnB K (Ad_f_wc K) "Words.check" = true) ∧ (PySem.W.keepIn K (.ref (Ad_f_wc K)) = true) ∧ (fnB K (Ad_f_wt K) "Words.take" = true) ∧ (PySem.W.keepIn K (.ref (Ad_f_wt K)) = true) ∧ (fnB K (Ad_f_we K) "Words.check_end" = true) ∧ (PySem.W.keepIn K (.ref (Ad_f_we K)) = true)
instance (K : PySem.W.Frag) : Decidable (Fx20 K) := by unfold Fx20; infer_instance
def Fx21 (K : PySem.W.Frag) : Prop := (PySem.W.nsIn K mainGlobals "isinstance" = some none) ∧ (PySem.W.nsIn K mainGlobals "len" = some none) ∧ (PySem.W.nsIn K mainGlobals "all" = some none) ∧ (PySem.W.nsIn K mainGlobals "any" = some none) ∧ (PySem.W.nsIn K mainGlobals "sum" = some none) ∧ (PySem.W.nsIn K mainGlobals "max" = some none) ∧ (PySem.W.nsIn K mainGlobals "min" = some none) ∧ (PySem.W.nsIn K mainGlobals "int" = some none) ∧ (PySem.W.nsIn K mainGlobals "str" = some none) ∧ (PySem.W.nsIn K mainGlobals "bool" = some none) ∧ (PySem.W.nsIn K mainGlobals "list" = some none) ∧ (PySem.W.nsIn K mainGlobals "tuple" = some none)
instance (K : PySem.W.Frag) : Decidable (Fx21 K) := by unfold Fx21; infer_instance
def Fx22 (K : PySem.W.Frag) : Prop := (PySem.W.nsIn K mainGlobals "dict" = some none) ∧ (PySem.W.nsIn K mainGlobals "range" = some none) ∧ (PySem.W.nsIn K mainGlobals "enumerate" = some none) ∧ (PySem.W.nsIn K mainGlobals "sorted" = some none) ∧ (PySem.W.nsIn K mainGlobals "reversed" = some none) ∧ (PySem.W.nsIn K mainGlobals "zip" = some none) ∧ (PySem.W.nsIn K mainGlobals "set" = some none) ∧ (PySem.W.nsIn K mainGlobals "ValueError" = some none) ∧ (strB K "LETTERS" letters = true) ∧ (intB K "LONGEST_NAME" 8 = true) ∧ (intB K "MOST_FACTS" 60 = true) ∧ (intB K "MOST_NAMES" 8 = true)
instance (K : PySem.W.Frag) : Decidable (Fx22 K) := by unfold Fx22; infer_instance
def Fx23 (K : PySem.W.Frag) : Prop := (intB K "MOST_AROUND" 5 = true) ∧ (intB K "MOST_RULES" 60 = true) ∧ (intB K "MOST_OUTERMOST" 40 = true) ∧ (strB K "SIGN" ">" = true) ∧ (PySem.W.nsIn K mainGlobals "CourtError" = some (some (.ref (Ad_CE K)))) ∧ (PySem.W.nsIn K mainGlobals "InvalidFacts" = some (some (.ref (Ad_E0 K)))) ∧ (PySem.W.nsIn K mainGlobals "InvalidCondition" = some (some (.ref (Ad_E1 K)))) ∧ (PySem.W.nsIn K mainGlobals "InvalidRule" = some (some (.ref (Ad_E2 K)))) ∧ (PySem.W.nsIn K mainGlobals "InvalidBook" = some (some (.ref (Ad_E3 K)))) ∧ (PySem.W.nsIn K mainGlobals "InvalidText" = some (some (.ref (Ad_E4 K)))) ∧ (PySem.W.subIn K (.ref (Ad_CE K)) (.type "BaseException") = some true) ∧ (PySem.W.isClsIn K (Ad_CE K) = true)
instance (K : PySem.W.Frag) : Decidable (Fx23 K) := by unfold Fx23; infer_instance
def Fx24 (K : PySem.W.Frag) : Prop := (PySem.W.typeIn K (.ref (Ad_CE K)) = some (.type "type")) ∧ (PySem.W.isClsIn K (Ad_E0 K) = true) ∧ (PySem.W.typeIn K (.ref (Ad_E0 K)) = some (.type "type")) ∧ (PySem.W.isClsIn K (Ad_E1 K) = true) ∧ (PySem.W.typeIn K (.ref (Ad_E1 K)) = some (.type "type")) ∧ (PySem.W.isClsIn K (Ad_E2 K) = true) ∧ (PySem.W.typeIn K (.ref (Ad_E2 K)) = some (.type "type")) ∧ (PySem.W.isClsIn K (Ad_E3 K) = true) ∧ (PySem.W.typeIn K (.ref (Ad_E3 K)) = some (.type "type")) ∧ (PySem.W.isClsIn K (Ad_E4 K) = true) ∧ (PySem.W.typeIn K (.ref (Ad_E4 K)) = some (.type "type")) ∧ (PySem.W.isClsIn K (Ad_E4 K) = true)
instance (K : PySem.W.Frag) : Decidable (Fx24 K) := by unfold Fx24; infer_instance
def Fx25 (K : PySem.W.Frag) : Prop := (PySem.W.findIn K (.ref (Ad_E4 K)) "__getattribute__" = some (some (.builtin "BaseException.__getattribute__"))) ∧ (PySem.W.findIn K (.ref (Ad_E4 K)) "__getattr__" = some none) ∧ (PySem.W.subIn K (.ref (Ad_E4 K)) (.type "BaseException") = some true) ∧ (PySem.W.findIn K (.ref (Ad_E4 K)) "__class__" = some (some (.builtin "object.__class__"))) ∧ (PySem.W.mroIn K (Ad_E4 K) (.type "object") = some true) ∧ (PySem.W.hasDictIn K (Ad_E4 K) = true) ∧ (PySem.W.subIn K (.ref (Ad_E4 K)) (.ref (Ad_CE K)) = some true) ∧ (PySem.W.subIn K (.ref (Ad_E4 K)) (.type "ValueError") = some true) ∧ (PySem.W.subIn K (.ref (Ad_E4 K)) (.ref (Ad_E0 K)) = some false) ∧ (PySem.W.subIn K (.ref (Ad_E4 K)) (.ref (Ad_E1 K)) = some false) ∧ (PySem.W.subIn K (.ref (Ad_E4 K)) (.ref (Ad_E2 K)) = some false) ∧ (PySem.W.subIn K (.ref (Ad_E4 K)) (.ref (Ad_E3 K)) = some false)
instance (K : PySem.W.Frag) : Decidable (Fx25 K) := by unfold Fx25; infer_instance
def Fx26 (K : PySem.W.Frag) : Prop := (PySem.W.subIn K (.ref (Ad_E4 K)) (.ref (Ad_E4 K)) = some true) ∧ (PySem.W.findIn K (.ref (Ad_E4 K)) "index" = some none) ∧ (PySem.W.findIn K (.ref (Ad_E4 K)) "part" = some none) ∧ (PySem.W.findIn K (.ref (Ad_E4 K)) "word" = some none) ∧ (PySem.W.findIn K (.ref (Ad_E4 K)) "fact" = some none) ∧ (PySem.W.specialIn K (.builtin "object.__class__") "__get__" = some (some (.builtin "getset_descriptor.__get__"))) ∧ (PySem.W.takesIn K (.builtin "object.__class__") = some true) ∧ (excB K (Ad_CE K) "ValueError.__new__" = true) ∧ (PySem.W.findIn K (.ref (Ad_CE K)) "__init__" = some (some (.builtin "ValueError.__init__"))) ∧ (PySem.W.nsIn K mainGlobals "super" = some none) ∧ (PySem.W.nsIn K cStatics "thirdparty.any" = some none) ∧ (excB K (Ad_E0 K) "ValueError.__new__" = true)
instance (K : PySem.W.Frag) : Decidable (Fx26 K) := by unfold Fx26; infer_instance
def Fx27 (K : PySem.W.Frag) : Prop := (HandSPX.refsVE (mroT K (Ad_E0 K)) = true) ∧ (PySem.W.findIn K (.ref (Ad_E0 K)) "__setattr__" = some (some (.builtin "object.__setattr__"))) ∧ (PySem.W.typeIn K (.ref (Ad_E0 K)) = some (.type "type")) ∧ (PySem.W.keepIn K (.ref (Ad_E0 K)) = true) ∧ (PySem.W.findIn K (.ref (Ad_E0 K)) "__init__" = some (some (.ref (Ad_fIi0 K)))) ∧ (PySem.W.typeIn K (.ref (Ad_fIi0 K)) = some (.type "function")) ∧ (fnBC K (Ad_fIi0 K) "InvalidFacts.__init__" = true) ∧ (cellB K (Ad_celi0 K) (Ad_E0 K) = true) ∧ (fileB K (Ad_codi0 K) theFile = true) ∧ (PySem.W.mroIn K (Ad_E0 K) (.ref (Ad_E0 K)) = some true) ∧ ((mroT K (Ad_E0 K)) = .ref (Ad_CE K) :: (mroT K (Ad_CE K))) ∧ (PySem.W.subIn K (.ref (Ad_E0 K)) (.type "ValueError") = some true)
instance (K : PySem.W.Frag) : Decidable (Fx27 K) := by unfold Fx27; infer_instance
def Fx28 (K : PySem.W.Frag) : Prop := (PySem.W.subIn K (.ref (Ad_E0 K)) (.type "BaseException") = some true) ∧ (PySem.W.findIn K (.ref (Ad_E0 K)) "index" = some none) ∧ (excB K (Ad_E1 K) "ValueError.__new__" = true) ∧ (HandSPX.refsVE (mroT K (Ad_E1 K)) = true) ∧ (PySem.W.findIn K (.ref (Ad_E1 K)) "__setattr__" = some (some (.builtin "object.__setattr__"))) ∧ (PySem.W.typeIn K (.ref (Ad_E1 K)) = some (.type "type")) ∧ (PySem.W.keepIn K (.ref (Ad_E1 K)) = true) ∧ (PySem.W.findIn K (.ref (Ad_E1 K)) "__init__" = some (some (.ref (Ad_fIi1 K)))) ∧ (PySem.W.typeIn K (.ref (Ad_fIi1 K)) = some (.type "function")) ∧ (fnBC K (Ad_fIi1 K) "InvalidCondition.__init__" = true) ∧ (cellB K (Ad_celi1 K) (Ad_E1 K) = true) ∧ (fileB K (Ad_codi1 K) theFile = true)
instance (K : PySem.W.Frag) : Decidable (Fx28 K) := by unfold Fx28; infer_instance
def Fx29 (K : PySem.W.Frag) : Prop := (PySem.W.mroIn K (Ad_E1 K) (.ref (Ad_E1 K)) = some true) ∧ ((mroT K (Ad_E1 K)) = .ref (Ad_CE K) :: (mroT K (Ad_CE K))) ∧ (PySem.W.subIn K (.ref (Ad_E1 K)) (.type "ValueError") = some true) ∧ (PySem.W.subIn K (.ref (Ad_E1 K)) (.type "BaseException") = some true) ∧ (PySem.W.findIn K (.ref (Ad_E1 K)) "part" = some none) ∧ (PySem.W.findIn K (.ref (Ad_E1 K)) "index" = some none) ∧ (excB K (Ad_E2 K) "ValueError.__new__" = true) ∧ (HandSPX.refsVE (mroT K (Ad_E2 K)) = true) ∧ (PySem.W.findIn K (.ref (Ad_E2 K)) "__setattr__" = some (some (.builtin "object.__setattr__"))) ∧ (PySem.W.typeIn K (.ref (Ad_E2 K)) = some (.type "type")) ∧ (PySem.W.keepIn K (.ref (Ad_E2 K)) = true) ∧ (PySem.W.findIn K (.ref (Ad_E2 K)) "__init__" = some (some (.ref (Ad_fIi2 K))))
instance (K : PySem.W.Frag) : Decidable (Fx29 K) := by unfold Fx29; infer_instance
def Fx30 (K : PySem.W.Frag) : Prop := (PySem.W.typeIn K (.ref (Ad_fIi2 K)) = some (.type "function")) ∧ (fnBC K (Ad_fIi2 K) "InvalidRule.__init__" = true) ∧ (cellB K (Ad_celi2 K) (Ad_E2 K) = true) ∧ (fileB K (Ad_codi2 K) theFile = true) ∧ (PySem.W.mroIn K (Ad_E2 K) (.ref (Ad_E2 K)) = some true) ∧ ((mroT K (Ad_E2 K)) = .ref (Ad_CE K) :: (mroT K (Ad_CE K))) ∧ (PySem.W.subIn K (.ref (Ad_E2 K)) (.type "ValueError") = some true) ∧ (PySem.W.subIn K (.ref (Ad_E2 K)) (.type "BaseException") = some true) ∧ (PySem.W.findIn K (.ref (Ad_E2 K)) "part" = some none) ∧ (excB K (Ad_E3 K) "ValueError.__new__" = true) ∧ (HandSPX.refsVE (mroT K (Ad_E3 K)) = true) ∧ (PySem.W.findIn K (.ref (Ad_E3 K)) "__setattr__" = some (some (.builtin "object.__setattr__")))
instance (K : PySem.W.Frag) : Decidable (Fx30 K) := by unfold Fx30; infer_instance
def Fx31 (K : PySem.W.Frag) : Prop := (PySem.W.typeIn K (.ref (Ad_E3 K)) = some (.type "type")) ∧ (PySem.W.keepIn K (.ref (Ad_E3 K)) = true) ∧ (PySem.W.findIn K (.ref (Ad_E3 K)) "__init__" = some (some (.ref (Ad_fIi3 K)))) ∧ (PySem.W.typeIn K (.ref (Ad_fIi3 K)) = some (.type "function")) ∧ (fnBC K (Ad_fIi3 K) "InvalidBook.__init__" = true) ∧ (cellB K (Ad_celi3 K) (Ad_E3 K) = true) ∧ (fileB K (Ad_codi3 K) theFile = true) ∧ (PySem.W.mroIn K (Ad_E3 K) (.ref (Ad_E3 K)) = some true) ∧ ((mroT K (Ad_E3 K)) = .ref (Ad_CE K) :: (mroT K (Ad_CE K))) ∧ (PySem.W.subIn K (.ref (Ad_E3 K)) (.type "ValueError") = some true) ∧ (PySem.W.subIn K (.ref (Ad_E3 K)) (.type "BaseException") = some true) ∧ (PySem.W.findIn K (.ref (Ad_E3 K)) "word" = some none)
instance (K : PySem.W.Frag) : Decidable (Fx31 K) := by unfold Fx31; infer_instance
def Fx32 (K : PySem.W.Frag) : Prop := (PySem.W.findIn K (.ref (Ad_E3 K)) "index" = some none) ∧ (excB K (Ad_E4 K) "ValueError.__new__" = true) ∧ (HandSPX.refsVE (mroT K (Ad_E4 K)) = true) ∧ (PySem.W.findIn K (.ref (Ad_E4 K)) "__setattr__" = some (some (.builtin "object.__setattr__"))) ∧ (PySem.W.typeIn K (.ref (Ad_E4 K)) = some (.type "type")) ∧ (PySem.W.keepIn K (.ref (Ad_E4 K)) = true) ∧ (PySem.W.findIn K (.ref (Ad_E4 K)) "__init__" = some (some (.ref (Ad_fIi4 K)))) ∧ (PySem.W.typeIn K (.ref (Ad_fIi4 K)) = some (.type "function")) ∧ (fnBC K (Ad_fIi4 K) "InvalidText.__init__" = true) ∧ (cellB K (Ad_celi4 K) (Ad_E4 K) = true) ∧ (fileB K (Ad_codi4 K) theFile = true) ∧ (PySem.W.mroIn K (Ad_E4 K) (.ref (Ad_E4 K)) = some true)
instance (K : PySem.W.Frag) : Decidable (Fx32 K) := by unfold Fx32; infer_instance
def Fx33 (K : PySem.W.Frag) : Prop := ((mroT K (Ad_E4 K)) = .ref (Ad_CE K) :: (mroT K (Ad_CE K))) ∧ (PySem.W.subIn K (.ref (Ad_E4 K)) (.type "ValueError") = some true) ∧ (PySem.W.subIn K (.ref (Ad_E4 K)) (.type "BaseException") = some true) ∧ (PySem.W.findIn K (.ref (Ad_E4 K)) "row" = some none) ∧ (PySem.W.findIn K (.ref (Ad_E4 K)) "word" = some none)
instance (K : PySem.W.Frag) : Decidable (Fx33 K) := by unfold Fx33; infer_instance
def fn0 : FnDY := ⟨Ad_f_is_name, "is_name", "is_name", defArgs s_is_name, defBody s_is_name, defScope s_is_name⟩
def fn1 : FnDY := ⟨Ad_f_rises, "rises", "rises", defArgs s_rises, defBody s_rises, defScope s_rises⟩
def fn2 : FnDY := ⟨Ad_f_check_facts, "check_facts", "check_facts", defArgs s_check_facts, defBody s_check_facts, defScope s_check_facts⟩
def fn3 : FnDY := ⟨Ad_f_nested, "nested", "nested", defArgs s_nested, defBody s_nested, defScope s_nested⟩
def fn4 : FnDY := ⟨Ad_f_check_rules, "check_rules", "check_rules", defArgs s_check_rules, defBody s_check_rules, defScope s_check_rules⟩
def fn5 : FnDY := ⟨Ad_f_check_part, "check_part", "check_part", defArgs s_check_part, defBody s_check_part, defScope s_check_part⟩
def fn6 : FnDY := ⟨Ad_f_merged, "merged", "merged", defArgs s_merged, defBody s_merged, defScope s_merged⟩
def fn7 : FnDY := ⟨Ad_f_is_free_name, "is_free_name", "is_free_name", defArgs s_is_free_name, defBody s_is_free_name, defScope s_is_free_name⟩
def fn8 : FnDY := ⟨Ad_f_read_facts, "read_facts", "read_facts", defArgs s_read_facts, defBody s_read_facts, defScope s_read_facts⟩
def fn9 : FnDY := ⟨Ad_f_read_ending, "read_ending", "read_ending", defArgs s_read_ending, defBody s_read_ending, defScope s_read_ending⟩
def fn10 : FnDY := ⟨Ad_f_read_part, "read_part", "read_part", defArgs s_read_part, defBody s_read_part, defScope s_read_part⟩
def fn11 : FnDY := ⟨Ad_f_read_signs, "read_signs", "read_signs", defArgs s_read_signs, defBody s_read_signs, defScope s_read_signs⟩
def fn12 : FnDY := ⟨Ad_f_read_rule, "read_rule", "read_rule", defArgs s_read_rule, defBody s_read_rule, defScope s_read_rule⟩
def fn13 : FnDY := ⟨Ad_f_rules_told, "rules_told", "rules_told", defArgs s_rules_told, defBody s_rules_told, defScope s_rules_told⟩
def fn14 : FnDY := ⟨Ad_f_parse_book, "parse_book", "parse_book", defArgs s_parse_book, defBody s_parse_book, defScope s_parse_book⟩
def fn15 : FnDY := ⟨Ad_f__law_mix, "_law_mix", "_law_mix", defArgs s__law_mix, defBody s__law_mix, defScope s__law_mix⟩
def fn16 : FnDY := ⟨Ad_f__law_next, "_law_next", "_law_next", defArgs s__law_next, defBody s__law_next, defScope s__law_next⟩
def fn17 : FnDY := ⟨Ad_f__law_alike, "_law_alike", "_law_alike", defArgs s__law_alike, defBody s__law_alike, defScope s__law_alike⟩
def fn18 : FnDY := ⟨Ad_f__law_facts, "_law_facts", "_law_facts", defArgs s__law_facts, defBody s__law_facts, defScope s__law_facts⟩
def fn19 : FnDY := ⟨Ad_f__law_sides, "_law_sides", "_law_sides", defArgs s__law_sides, defBody s__law_sides, defScope s__law_sides⟩
def fn20 : FnDY := ⟨Ad_f__law_rule, "_law_rule", "_law_rule", defArgs s__law_rule, defBody s__law_rule, defScope s__law_rule⟩
def fn21 : FnDY := ⟨Ad_f__law_drawn, "_law_drawn", "_law_drawn", defArgs s__law_drawn, defBody s__law_drawn, defScope s__law_drawn⟩
def fn22 : FnDY := ⟨Ad_f__law_told, "_law_told", "_law_told", defArgs s__law_told, defBody s__law_told, defScope s__law_told⟩
def fn23 : FnDY := ⟨Ad_f__law_seen, "_law_seen", "_law_seen", defArgs s__law_seen, defBody s__law_seen, defScope s__law_seen⟩
def fn24 : FnDY := ⟨Ad_f__law_words, "_law_words", "_law_words", defArgs s__law_words, defBody s__law_words, defScope s__law_words⟩
def fn25 : FnDY := ⟨Ad_f__law_rows_of, "_law_rows_of", "_law_rows_of", defArgs s__law_rows_of, defBody s__law_rows_of, defScope s__law_rows_of⟩
def fn26 : FnDY := ⟨Ad_f__law_text, "_law_text", "_law_text", defArgs s__law_text, defBody s__law_text, defScope s__law_text⟩
def fn27 : FnDY := ⟨Ad_f__law_named, "_law_named", "_law_named", defArgs s__law_named, defBody s__law_named, defScope s__law_named⟩
def fn28 : FnDY := ⟨Ad_f__law_read_facts, "_law_read_facts", "_law_read_facts", defArgs s__law_read_facts, defBody s__law_read_facts, defScope s__law_read_facts⟩
def fn29 : FnDY := ⟨Ad_f__law_read_side, "_law_read_side", "_law_read_side", defArgs s__law_read_side, defBody s__law_read_side, defScope s__law_read_side⟩
def fn30 : FnDY := ⟨Ad_f__law_read_rule, "_law_read_rule", "_law_read_rule", defArgs s__law_read_rule, defBody s__law_read_rule, defScope s__law_read_rule⟩
def fn31 : FnDY := ⟨Ad_f__law_nested, "_law_nested", "_law_nested", defArgs s__law_nested, defBody s__law_nested, defScope s__law_nested⟩
def fn32 : FnDY := ⟨Ad_f__law_read, "_law_read", "_law_read", defArgs s__law_read, defBody s__law_read, defScope s__law_read⟩
def fn33 : FnDY := ⟨Ad_f__law_parsed, "_law_parsed", "_law_parsed", defArgs s__law_parsed, defBody s__law_parsed, defScope s__law_parsed⟩
def fn34 : FnDY := ⟨Ad_f__law_bent, "_law_bent", "_law_bent", defArgs s__law_bent, defBody s__law_bent, defScope s__law_bent⟩
def fn35 : FnDY := ⟨Ad_f_law, "law", "law", defArgs s_law, defBody s_law, defScope s_law⟩
def fn36 : FnDY := ⟨Ad_f_mi, "__init__", "Condition.__init__", defArgs s_Condition___init__, defBody s_Condition___init__, defScope s_Condition___init__⟩
def fn37 : FnDY := ⟨Ad_f_mh, "holding", "Condition.holding", defArgs s_Condition_holding, defBody s_Condition_holding, defScope s_Condition_holding⟩
def fn38 : FnDY := ⟨Ad_f_mf, "failing", "Condition.failing", defArgs s_Condition_failing, defBody s_Condition_failing, defScope s_Condition_failing⟩
def fn39 : FnDY := ⟨Ad_f_mn, "names", "Condition.names", defArgs s_Condition_names, defBody s_Condition_names, defScope s_Condition_names⟩
def fn40 : FnDY := ⟨Ad_f_ri, "__init__", "Rule.__init__", defArgs s_Rule___init__, defBody s_Rule___init__, defScope s_Rule___init__⟩
def fn41 : FnDY := ⟨Ad_f_rn, "name", "Rule.name", defArgs s_Rule_name, defBody s_Rule_name, defScope s_Rule_name⟩
def fn42 : FnDY := ⟨Ad_f_rc, "condition", "Rule.condition", defArgs s_Rule_condition, defBody s_Rule_condition, defScope s_Rule_condition⟩
def fn43 : FnDY := ⟨Ad_f_rr, "ruling", "Rule.ruling", defArgs s_Rule_ruling, defBody s_Rule_ruling, defScope s_Rule_ruling⟩
def fn44 : FnDY := ⟨Ad_f_re, "exceptions", "Rule.exceptions", defArgs s_Rule_exceptions, defBody s_Rule_exceptions, defScope s_Rule_exceptions⟩
def fn45 : FnDY := ⟨Ad_f_rd, "depth", "Rule.depth", defArgs s_Rule_depth, defBody s_Rule_depth, defScope s_Rule_depth⟩
def fn46 : FnDY := ⟨Ad_f_bi, "__init__", "Book.__init__", defArgs s_Book___init__, defBody s_Book___init__, defScope s_Book___init__⟩
def fn47 : FnDY := ⟨Ad_f_bf, "facts", "Book.facts", defArgs s_Book_facts, defBody s_Book_facts, defScope s_Book_facts⟩
def fn48 : FnDY := ⟨Ad_f_bs, "rules", "Book.rules", defArgs s_Book_rules, defBody s_Book_rules, defScope s_Book_rules⟩
def fn49 : FnDY := ⟨Ad_f_br, "ruling", "Book.ruling", defArgs s_Book_ruling, defBody s_Book_ruling, defScope s_Book_ruling⟩
def fn50 : FnDY := ⟨Ad_f_wi, "__init__", "Words.__init__", defArgs s_Words___init__, defBody s_Words___init__, defScope s_Words___init__⟩
def fn51 : FnDY := ⟨Ad_f_wa, "ahead", "Words.ahead", defArgs s_Words_ahead, defBody s_Words_ahead, defScope s_Words_ahead⟩
def fn52 : FnDY := ⟨Ad_f_wc, "check", "Words.check", defArgs s_Words_check, defBody s_Words_check, defScope s_Words_check⟩
def fn53 : FnDY := ⟨Ad_f_wt, "take", "Words.take", defArgs s_Words_take, defBody s_Words_take, defScope s_Words_take⟩
def fn54 : FnDY := ⟨Ad_f_we, "check_end", "Words.check_end", defArgs s_Words_check_end, defBody s_Words_check_end, defScope s_Words_check_end⟩
def fn55 : FnDY := ⟨Ad_fIi0, (nf_InvalidFacts 0 0).name, (nf_InvalidFacts 0 0).qual, (nf_InvalidFacts 0 0).params, (nf_InvalidFacts 0 0).body, (nf_InvalidFacts 0 0).scope⟩
def fn56 : FnDY := ⟨Ad_fIi1, (nf_InvalidCondition 0 0).name, (nf_InvalidCondition 0 0).qual, (nf_InvalidCondition 0 0).params, (nf_InvalidCondition 0 0).body, (nf_InvalidCondition 0 0).scope⟩
def fn57 : FnDY := ⟨Ad_fIi2, (nf_InvalidRule 0 0).name, (nf_InvalidRule 0 0).qual, (nf_InvalidRule 0 0).params, (nf_InvalidRule 0 0).body, (nf_InvalidRule 0 0).scope⟩
def fn58 : FnDY := ⟨Ad_fIi3, (nf_InvalidBook 0 0).name, (nf_InvalidBook 0 0).qual, (nf_InvalidBook 0 0).params, (nf_InvalidBook 0 0).body, (nf_InvalidBook 0 0).scope⟩
def fn59 : FnDY := ⟨Ad_fIi4, (nf_InvalidText 0 0).name, (nf_InvalidText 0 0).qual, (nf_InvalidText 0 0).params, (nf_InvalidText 0 0).body, (nf_InvalidText 0 0).scope⟩
def ex_0 (K : PySem.W.Frag) : Bool := ([fun K => decide (Fx0 K), fun K => decide (Fx1 K), fun K => decide (Fx2 K), fun K => decide (Fx3 K), fun K => decide (Fx4 K), fun K => decide (Fx5 K), fun K => decide (Fx6 K)] : List (PySem.W.Frag → Bool)).all fun f => f K
def fn_0 : List FnDY := [fn0, fn1, fn2, fn3, fn4, fn5, fn6, fn7, fn8, fn9, fn10, fn11]
def tf_0 : List (PySem.W.Frag → Addr) := []
def ex_1 (K : PySem.W.Frag) : Bool := ([fun K => decide (Fx7 K), fun K => decide (Fx8 K), fun K => decide (Fx9 K), fun K => decide (Fx10 K), fun K => decide (Fx11 K), fun K => decide (Fx12 K), fun K => decide (Fx13 K)] : List (PySem.W.Frag → Bool)).all fun f => f K
def fn_1 : List FnDY := [fn12, fn13, fn14, fn15, fn16, fn17, fn18, fn19, fn20, fn21, fn22, fn23]
def tf_1 : List (PySem.W.Frag → Addr) := []
def ex_2 (K : PySem.W.Frag) : Bool := ([fun K => decide (Fx14 K), fun K => decide (Fx15 K), fun K => decide (Fx16 K), fun K => decide (Fx17 K), fun K => decide (Fx18 K), fun K => decide (Fx19 K), fun K => decide (Fx20 K)] : List (PySem.W.Frag → Bool)).all fun f => f K
def fn_2 : List FnDY := [fn24, fn25, fn26, fn27, fn28, fn29, fn30, fn31, fn32, fn33, fn34, fn35]
def tf_2 : List (PySem.W.Frag → Addr) := []
def ex_3 (K : PySem.W.Frag) : Bool := ([fun K => decide (Fx21 K), fun K => decide (Fx22 K), fun K => decide (Fx23 K), fun K => decide (Fx24 K), fun K => decide (Fx25 K), fun K => decide (Fx26 K), fun K => decide (Fx27 K)] : List (PySem.W.Frag → Bool)).all fun f => f K
def fn_3 : List FnDY := [fn36, fn37, fn38, fn39, fn40, fn41, fn42, fn43, fn44, fn45, fn46, fn47]
def tf_3 : List (PySem.W.Frag → Addr) := []
def ex_4 (K : PySem.W.Frag) : Bool := ([fun K => decide (Fx28 K), fun K => decide (Fx29 K), fun K => decide (Fx30 K), fun K => decide (Fx31 K), fun K => decide (Fx32 K), fun K => decide (Fx33 K)] : List (PySem.W.Frag → Bool)).all fun f => f K
def fn_4 : List FnDY := [fn48, fn49, fn50, fn51, fn52, fn53, fn54, fn55, fn56, fn57, fn58, fn59]
def tf_4 : List (PySem.W.Frag → Addr) := []
abbrev fnL : List FnDY := ((((fn_0 ++ fn_1) ++ fn_2) ++ fn_3) ++ fn_4)
abbrev tfL : List (PySem.W.Frag → Addr) := ((((tf_0 ++ tf_1) ++ tf_2) ++ tf_3) ++ tf_4)
abbrev exB : PySem.W.Frag → Bool := (fun K => (fun K => (fun K => (fun K => ex_0 K && ex_1 K) K && ex_2 K) K && ex_3 K) K && ex_4 K)
theorem mem_at {α : Type} {l : List α} {i : Nat} {a : α} (h : l[i]? = some a) : a ∈ l := List.mem_of_getElem? h
theorem all_at {K : PySem.W.Frag} {L : List (PySem.W.Frag → Bool)} (h : (L.all fun f => f K) = true) (i : Nat) {f : PySem.W.Frag → Bool} (e : L[i]? = some f) : f K = true := List.all_eq_true.mp h f (List.mem_of_getElem? e)
theorem more_0 {h : Heap} {K : PySem.W.Frag} (S : SaysY fnL tfL exB h K) : ex_0 K = true := (ba (ba (ba (ba S.more).1).1).1).1
theorem more_1 {h : Heap} {K : PySem.W.Frag} (S : SaysY fnL tfL exB h K) : ex_1 K = true := (ba (ba (ba (ba S.more).1).1).1).2
theorem more_2 {h : Heap} {K : PySem.W.Frag} (S : SaysY fnL tfL exB h K) : ex_2 K = true := (ba (ba (ba S.more).1).1).2
theorem more_3 {h : Heap} {K : PySem.W.Frag} (S : SaysY fnL tfL exB h K) : ex_3 K = true := (ba (ba S.more).1).2
theorem more_4 {h : Heap} {K : PySem.W.Frag} (S : SaysY fnL tfL exB h K) : ex_4 K = true := (ba S.more).2
theorem gx0 {h : Heap} {K : PySem.W.Frag} (S : SaysY fnL tfL exB h K) : Fx0 K := of_decide_eq_true (all_at (more_0 S) 0 rfl)
theorem gx1 {h : Heap} {K : PySem.W.Frag} (S : SaysY fnL tfL exB h K) : Fx1 K := of_decide_eq_true (all_at (more_0 S) 1 rfl)
theorem gx2 {h : Heap} {K : PySem.W.Frag} (S : SaysY fnL tfL exB h K) : Fx2 K := of_decide_eq_true (all_at (more_0 S) 2 rfl)
theorem gx3 {h : Heap} {K : PySem.W.Frag} (S : SaysY fnL tfL exB h K) : Fx3 K := of_decide_eq_true (all_at (more_0 S) 3 rfl)
theorem gx4 {h : Heap} {K : PySem.W.Frag} (S : SaysY fnL tfL exB h K) : Fx4 K := of_decide_eq_true (all_at (more_0 S) 4 rfl)
theorem gx5 {h : Heap} {K : PySem.W.Frag} (S : SaysY fnL tfL exB h K) : Fx5 K := of_decide_eq_true (all_at (more_0 S) 5 rfl)
theorem gx6 {h : Heap} {K : PySem.W.Frag} (S : SaysY fnL tfL exB h K) : Fx6 K := of_decide_eq_true (all_at (more_0 S) 6 rfl)
theorem gx7 {h : Heap} {K : PySem.W.Frag} (S : SaysY fnL tfL exB h K) : Fx7 K := of_decide_eq_true (all_at (more_1 S) 0 rfl)
theorem gx8 {h : Heap} {K : PySem.W.Frag} (S : SaysY fnL tfL exB h K) : Fx8 K := of_decide_eq_true (all_at (more_1 S) 1 rfl)
theorem gx9 {h : Heap} {K : PySem.W.Frag} (S : SaysY fnL tfL exB h K) : Fx9 K := of_decide_eq_true (all_at (more_1 S) 2 rfl)
theorem gx10 {h : Heap} {K : PySem.W.Frag} (S : SaysY fnL tfL exB h K) : Fx10 K := of_decide_eq_true (all_at (more_1 S) 3 rfl)
theorem gx11 {h : Heap} {K : PySem.W.Frag} (S : SaysY fnL tfL exB h K) : Fx11 K := of_decide_eq_true (all_at (more_1 S) 4 rfl)
theorem gx12 {h : Heap} {K : PySem.W.Frag} (S : SaysY fnL tfL exB h K) : Fx12 K := of_decide_eq_true (all_at (more_1 S) 5 rfl)
theorem gx13 {h : Heap} {K : PySem.W.Frag} (S : SaysY fnL tfL exB h K) : Fx13 K := of_decide_eq_true (all_at (more_1 S) 6 rfl)
theorem gx14 {h : Heap} {K : PySem.W.Frag} (S : SaysY fnL tfL exB h K) : Fx14 K := of_decide_eq_true (all_at (more_2 S) 0 rfl)
theorem gx15 {h : Heap} {K : PySem.W.Frag} (S : SaysY fnL tfL exB h K) : Fx15 K := of_decide_eq_true (all_at (more_2 S) 1 rfl)
theorem gx16 {h : Heap} {K : PySem.W.Frag} (S : SaysY fnL tfL exB h K) : Fx16 K := of_decide_eq_true (all_at (more_2 S) 2 rfl)
theorem gx17 {h : Heap} {K : PySem.W.Frag} (S : SaysY fnL tfL exB h K) : Fx17 K := of_decide_eq_true (all_at (more_2 S) 3 rfl)
theorem gx18 {h : Heap} {K : PySem.W.Frag} (S : SaysY fnL tfL exB h K) : Fx18 K := of_decide_eq_true (all_at (more_2 S) 4 rfl)
theorem gx19 {h : Heap} {K : PySem.W.Frag} (S : SaysY fnL tfL exB h K) : Fx19 K := of_decide_eq_true (all_at (more_2 S) 5 rfl)
theorem gx20 {h : Heap} {K : PySem.W.Frag} (S : SaysY fnL tfL exB h K) : Fx20 K := of_decide_eq_true (all_at (more_2 S) 6 rfl)
theorem gx21 {h : Heap} {K : PySem.W.Frag} (S : SaysY fnL tfL exB h K) : Fx21 K := of_decide_eq_true (all_at (more_3 S) 0 rfl)
theorem gx22 {h : Heap} {K : PySem.W.Frag} (S : SaysY fnL tfL exB h K) : Fx22 K := of_decide_eq_true (all_at (more_3 S) 1 rfl)
theorem gx23 {h : Heap} {K : PySem.W.Frag} (S : SaysY fnL tfL exB h K) : Fx23 K := of_decide_eq_true (all_at (more_3 S) 2 rfl)
theorem gx24 {h : Heap} {K : PySem.W.Frag} (S : SaysY fnL tfL exB h K) : Fx24 K := of_decide_eq_true (all_at (more_3 S) 3 rfl)
theorem gx25 {h : Heap} {K : PySem.W.Frag} (S : SaysY fnL tfL exB h K) : Fx25 K := of_decide_eq_true (all_at (more_3 S) 4 rfl)
theorem gx26 {h : Heap} {K : PySem.W.Frag} (S : SaysY fnL tfL exB h K) : Fx26 K := of_decide_eq_true (all_at (more_3 S) 5 rfl)
theorem gx27 {h : Heap} {K : PySem.W.Frag} (S : SaysY fnL tfL exB h K) : Fx27 K := of_decide_eq_true (all_at (more_3 S) 6 rfl)
theorem gx28 {h : Heap} {K : PySem.W.Frag} (S : SaysY fnL tfL exB h K) : Fx28 K := of_decide_eq_true (all_at (more_4 S) 0 rfl)
theorem gx29 {h : Heap} {K : PySem.W.Frag} (S : SaysY fnL tfL exB h K) : Fx29 K := of_decide_eq_true (all_at (more_4 S) 1 rfl)
theorem gx30 {h : Heap} {K : PySem.W.Frag} (S : SaysY fnL tfL exB h K) : Fx30 K := of_decide_eq_true (all_at (more_4 S) 2 rfl)
theorem gx31 {h : Heap} {K : PySem.W.Frag} (S : SaysY fnL tfL exB h K) : Fx31 K := of_decide_eq_true (all_at (more_4 S) 3 rfl)
theorem gx32 {h : Heap} {K : PySem.W.Frag} (S : SaysY fnL tfL exB h K) : Fx32 K := of_decide_eq_true (all_at (more_4 S) 4 rfl)
theorem gx33 {h : Heap} {K : PySem.W.Frag} (S : SaysY fnL tfL exB h K) : Fx33 K := of_decide_eq_true (all_at (more_4 S) 5 rfl)
def nameOf (s : Stmt) : List Str := match s with
  | .FunctionDef n .. => [n]
  | .ClassDef n .. => [n]
  | .Assign [.Name n _] _ _ => [n]
  | _ => []
def lawI : Nat := theRow.prog.main.body.length - 1
def names : List Str := (theRow.prog.main.body.take lawI).flatMap nameOf
def asL : List Addr := [3, 2, 31, 53, 74, 95, 107, 128, 149, 161, 182, 298, 402, 495, 563, 0, 6, 30, 52, 73, 94, 106, 127, 148, 160, 181, 297, 401, 494, 562, 568, 19, 21, 48, 50, 69, 71, 90, 92, 123] ++ [125, 144, 146, 177, 179, 187, 189, 194, 196, 201, 203, 208, 210, 215, 217, 222, 224, 227, 229, 239, 241, 248, 256, 264, 272, 280, 286, 288, 293, 295, 312, 314, 321, 329, 337, 343, 351, 357, 359, 362] ++ [364, 369, 371, 376, 378, 383, 385, 390, 392, 397, 399, 411, 413, 416, 418, 423, 425, 437, 439, 446, 454, 462, 466, 468, 473, 475, 478, 480, 485, 487, 490, 492, 504, 506, 509, 511, 523, 525, 530, 532] ++ [537, 539, 544, 546, 551, 553, 558, 560, 571, 573, 578, 580, 585, 587, 590, 592, 597, 599, 604, 606, 609, 611, 616, 618, 623, 625, 630, 632, 635, 637, 642, 644, 649, 651, 656, 658, 663, 665, 670, 672] ++ [677, 679, 684, 686, 691, 693, 696, 698, 701, 703, 708, 710, 715, 717, 722, 724, 727, 729, 732, 734, 739, 741, 746, 748, 751, 753, 38, 59, 80, 113, 134, 167, 20, 32, 49, 70, 91, 124, 145, 178] ++ [188, 195, 202, 209, 216, 223, 228, 240, 247, 249, 255, 257, 263, 265, 271, 273, 279, 281, 287, 294, 299, 300, 313, 320, 322, 328, 330, 336, 338, 342, 344, 350, 352, 358, 363, 370, 377, 384, 391, 398] ++ [403, 404, 412, 417, 424, 438, 445, 447, 453, 455, 461, 463, 467, 474, 479, 486, 491, 496, 497, 505, 510, 524, 531, 538, 545, 552, 559, 564, 565, 572, 579, 586, 591, 598, 605, 610, 617, 624, 631, 636] ++ [643, 650, 657, 664, 671, 678, 685, 692, 697, 702, 709, 716, 723, 728, 733, 740, 747, 752, 4]
abbrev hk : PySem.W.Hook := hookY asL fnL tfL exB
def ob (s : PySem.W.SharedT) : AlY := obsY asL fnL tfL exB (HandSHeadRun.getT s)
theorem ob_eq (s : PySem.W.SharedT) : ob s = hk.obs s.abs := obsY_eq (HandSHeadRun.getT_eq s)
theorem run_0 (w : World) : HandSHeadRun.RunEq theRow (PySem.W.view theRow.prog [lawI]) (hookY asL fn_0 tf_0 ex_0) (fun s => obsY asL fn_0 tf_0 ex_0 (HandSHeadRun.getT s)) 9000 names w := by
  intro os
  kernel_rfl
theorem run_1 (w : World) : HandSHeadRun.RunEq theRow (PySem.W.view theRow.prog [lawI]) (hookY asL fn_1 tf_1 ex_1) (fun s => obsY asL fn_1 tf_1 ex_1 (HandSHeadRun.getT s)) 9000 names w := by
  intro os
  kernel_rfl
theorem run_2 (w : World) : HandSHeadRun.RunEq theRow (PySem.W.view theRow.prog [lawI]) (hookY asL fn_2 tf_2 ex_2) (fun s => obsY asL fn_2 tf_2 ex_2 (HandSHeadRun.getT s)) 9000 names w := by
  intro os
  kernel_rfl
theorem run_3 (w : World) : HandSHeadRun.RunEq theRow (PySem.W.view theRow.prog [lawI]) (hookY asL fn_3 tf_3 ex_3) (fun s => obsY asL fn_3 tf_3 ex_3 (HandSHeadRun.getT s)) 9000 names w := by
  intro os
  kernel_rfl
theorem run_4 (w : World) : HandSHeadRun.RunEq theRow (PySem.W.view theRow.prog [lawI]) (hookY asL fn_4 tf_4 ex_4) (fun s => obsY asL fn_4 tf_4 ex_4 (HandSHeadRun.getT s)) 9000 names w := by
  intro os
  kernel_rfl
theorem run (w : World) : HandSHeadRun.RunEq theRow (PySem.W.view theRow.prog [lawI]) hk ob 9000 names w := run_join (run_join (run_join (run_join (run_0 w) (run_1 w)) (run_2 w)) (run_3 w)) (run_4 w)
end Sc
namespace Sc
open PySem PySem.Spec PySem.Calls PyProof.Rows L2
/-! ### enumerate(tuple) -/
theorem enumT_new (l : Addr) (items : Array Value) (n : Nat) (dct : Option Addr) (sl : Array (Option Value)) :
    Meets (Builtin.«enumerate.__new__» ⟨[.type "enumerate", .ref l], []⟩) (fun _ R s =>
      s.heap.get? l = some { cls := .type "tuple", dict := dct, data := .seq items n, slots := sl } ∧
      R (.ok (.ret (.ref (s.heap.objs.size + 1)))) { s with heap := (s.heap.push { cls := .type "tuple_iterator", data := .fields #[.ref l, .int 0 0] }).push { cls := .type "enumerate", data := .fields #[.none, .bool false, .ref s.heap.objs.size, rawInt 0, .none, .none] } }) :=
  .of_wp fun prog w A R s h => by
    obtain ⟨hp, g, d, tk, os⟩ := s
    obtain ⟨hl, hR⟩ := h
    have hsub := sub_enumerate
    have hT : Heap.IsTuple hp l items := ⟨_, hl, rfl, n, rfl⟩
    have hz : (hp.push { cls := .type "tuple_iterator", data := .fields #[.ref l, .int 0 0] }).objs.size = hp.objs.size + 1 := Heap.size_push ..
    rw [← hz] at hR
    have it1 : ∀ {A' : Around} {E : Value → Shared → Prop} {Q : Value → Shared → Prop}, Q (.ref hp.objs.size) ⟨hp.push { cls := .type "tuple_iterator", data := .fields #[.ref l, .int 0 0] }, g, d, tk, os⟩ →
        wpAny (model prog w) A' (pyIter (.ref l)) Q E ⟨hp, g, d, tk, os⟩ := fun q => wpAny_pyIter_tuple (s := ⟨hp, g, d, tk, os⟩) hT q
    wp_walk using AutoSeq1.wpAny_loadPart' hl, it1
    refine wpAny_stack_any fun st => wpAny_pure ?_
    split
    · rename_i c _ _ _ _ _
      cases (c == Value.type "enumerate") <;>
      · wp_walk using AutoSeq1.wpAny_loadPart' hl, it1
        exact ⟨_, rfl, hR⟩
    · wp_walk using AutoSeq1.wpAny_loadPart' hl, it1
      exact ⟨_, rfl, hR⟩
section
variable {prog : Program} {w : World} {A : Around} {E : Value → Shared → Prop} {s : Shared}
theorem enumT_call {l : Addr} {items : Array Value} {Q : Value → Shared → Prop} (hL : s.heap.IsTuple l items)
    (h : ∀ h', IsEnum h' (s.heap.objs.size + 1) s.heap.objs.size 0 .none → h'.IsTupleIter s.heap.objs.size l 0 → (∀ b o, s.heap.get? b = some o → h'.get? b = some o) →
      Q (.ref (s.heap.objs.size + 1)) { s with heap := h' }) : wpAny (model prog w) A (call (.type "enumerate") [.ref l]) Q E s := by
  obtain ⟨⟨c, dct, dt, sl⟩, hl, hc, n, hd⟩ := hL
  dsimp only at hc hd
  subst hc hd
  refine callType_new F.called_enumerate (by decide) (F.typeCall_enumerate_1 _) (F.newCall_enumerate_1 _) (fun obj => F.args_object_init_2 obj _) F.entry_enumerate_new (enumT_new l items n dct sl) ⟨hl, ?_⟩
  have hz : (s.heap.push { cls := .type "tuple_iterator", data := .fields #[.ref l, .int 0 0] }).objs.size = s.heap.objs.size + 1 := Heap.size_push ..
  have he := Heap.get?_push_size (s.heap.push { cls := .type "tuple_iterator", data := .fields #[.ref l, .int 0 0] })
    (o := { cls := .type "enumerate", data := .fields #[.none, .bool false, .ref s.heap.objs.size, rawInt 0, .none, .none] }) rfl
  rw [hz] at he
  exact ⟨⟨_, he, rfl⟩, h _ he ⟨_, Heap.get?_push_of_some _ (Heap.get?_push_size _ rfl), rfl, rfl⟩ fun b o x => Heap.get?_push_of_some _ (Heap.get?_push_of_some _ x)⟩
end
/-- the tuple at a, each item in a new pair -/
def IteT (K : PySem.W.Frag) (a : Addr) : It where
  go := fun i H => ∃ (xs : List V) (x : V), SqT K H a xs ∧ xs[i]? = some x
  yld := fun i H v H' => ∃ T x, v = .ref T ∧ H T = none ∧ H' = upd H T (.tup [.int (i : Nat), x]) ∧ ∀ xs, SqT K H a xs → xs[i]? = some x
  stop := fun i H => ∃ xs : List V, SqT K H a xs ∧ xs.length ≤ i
theorem enumT_turn {P : Program} {w : World} {K : PySem.W.Frag} {elts : List Expr} {kk : Nat} {tpos : Pos} (a e it : Addr) :
    Turn P w K (.Tuple elts kk tpos) (IteT K a) [e, it] e (fun i h => (∃ old, IsEnum h e it ((i : Nat) : Int) old) ∧ h.IsTupleIter it a i ∧ e ≠ it) where
  mem := List.mem_cons_self
  obj := fun i h st b hb => by
    obtain ⟨⟨old, he⟩, ⟨o, ho, hc, hd⟩, _⟩ := st
    rcases List.mem_cons.mp hb with rfl | hb
    · exact ⟨_, he, fun v q => nomatch q⟩
    · rcases List.mem_cons.mp hb with rfl | hb
      · exact ⟨o, ho, fun v q => by rw [hd] at q; cases q⟩
      · cases hb
  keep := fun i h h' st k => by
    obtain ⟨⟨old, he⟩, hi, hne⟩ := st
    exact ⟨⟨old, k e (by simp) _ he⟩, hi.at fun o q => k it (by simp) o q, hne⟩
  item := by
    intro X hP hw hK hc i pins s σ H E I hf st hg
    subst hP hw hK
    obtain ⟨⟨old, he⟩, hit, hne⟩ := st
    obtain ⟨xs, x, hq, hx⟩ := hg
    obtain ⟨its, rv, p, hz⟩ := I.tuple hq
    obtain ⟨u, hu, ru⟩ := rv.get hx
    have hel : e < s.heap.objs.size := Heap.lt_size he
    have hil : it < s.heap.objs.size := by obtain ⟨_, q, _⟩ := hit; exact Heap.lt_size q
    have p' : s.heap.IsTuple a its.toArray := p
    have hae : a ≠ e := fun z => by
      obtain ⟨o, ho, hcl, n, hd⟩ := p'
      rw [z, he] at ho
      cases ho
      cases hd
    have hai : a ≠ it := fun z => by
      obtain ⟨o, ho, hcl, n, hd⟩ := p'
      obtain ⟨o2, ho2, hcl2, hd2⟩ := hit
      rw [z, ho2] at ho
      cases ho
      rw [hd2] at hd
      cases hd
    have hlt : i < its.toArray.size := by
      rw [List.size_toArray]
      exact (List.getElem?_eq_some_iff.mp hu).1
    refine wpAny_pyNext_enum_itemD (Draws.tuple (A := X.A.in1) (I.ok.hd hc) it a hai its.toArray) he ⟨hit, p'⟩ hlt hne (by simp [hne, hae.symm]) fun y h' tk hy ho st' hT hsz hk => ?_
    obtain ⟨hit', hp'⟩ := st'
    have ey : y = u := by
      have z : its.toArray[i]? = some u := by simpa using hu
      rw [hy] at z
      exact Option.some.inj z
    subst ey
    refine ⟨_, rfl, wpAny_letOwnedTupleGo_enum (s := { s with heap := h', toks := tk + 1 }) ho fun h'' he' sb => ?_⟩
    have hT2 : h''.get? s.heap.objs.size = some { cls := .type "tuple", data := .seq #[.int i tk, y] } := (sb.2 _ (Nat.ne_of_gt hel)).trans hT
    have new : ObjOk X.prog X.w (upd H s.heap.objs.size (.tup [.int (i : Nat), x])) h'' s.heap.objs.size (.tup [.int (i : Nat), x]) :=
      ⟨by show 2 ≤ sizeLine; decide, [.int i tk, y], .cons ⟨_, rfl⟩ (.cons ru .nil), ⟨_, hT2, rfl, _, rfl⟩⟩
    have I1 : Inv X pins σ (upd H s.heap.objs.size (.tup [.int (i : Nat), x])) { s with heap := h'', toks := tk + 1 } :=
      I.turnedNew (ch := [e, it]) (fun b ob hb q => (sb.2 b (fun z => hb (by simp [z]))).trans (hk b ob (fun z => hb (by simp [z])) (fun z => hb (by simp [z])) q)) hf (Nat.le_refl _) new
    refine ⟨.ref s.heap.objs.size, _, I1, rfl, ⟨_, x, rfl, I.hok.fresh (Nat.le_refl _), rfl, fun ys hy => by rw [I.tuple_inj hy hq]; exact hx⟩, ⟨⟨y, ?_⟩, hit'.at fun o q => (sb.2 it (Ne.symm hne)).trans q, hne⟩, fun b hb => ?_⟩
    · have e1 : ((i + 1 : Nat) : Int) = (i : Int) + 1 := by omega
      rw [e1]
      exact he'
    · have hb' : b < s.heap.objs.size := by
        rcases List.mem_cons.mp hb with rfl | hb
        · exact hel
        · rcases List.mem_cons.mp hb with rfl | hb
          · exact hil
          · cases hb
      rw [upd_ne (Nat.ne_of_lt hb')]
      exact (hf b hb).1
  done := by
    intro X hP hw hK hc i pins s σ H E I hf st hg
    subst hP hw hK
    obtain ⟨⟨old, he⟩, hit, hne⟩ := st
    obtain ⟨xs, hq, hx⟩ := hg
    obtain ⟨its, rv, p, hz⟩ := I.tuple hq
    obtain ⟨f0, f1, f2, f3, f4, f5⟩ := hf it (by simp)
    have hl := rv.length
    have p' : s.heap.IsTuple a its.toArray := p
    have hai : a ≠ it := fun z => by
      obtain ⟨o, ho, hcl, n, hd⟩ := p'
      obtain ⟨o2, ho2, hcl2, hd2⟩ := hit
      rw [z, ho2] at ho
      cases ho
      rw [hd2] at hd
      cases hd
    have D : Draws X.prog X.w X.A.in1 it [it, a] i (fun _ _ => True) (fun j h => h.IsTupleIter it a j ∧ h.IsTuple a its.toArray ∧ j = i) :=
      { live := fun _ _ st => let ⟨o, ho, _⟩ := st.1; ⟨o, ho⟩
        frame := fun _ _ _ st hk => ⟨st.1.at fun o e => hk it (by simp) o e, st.2.1.at fun o e => hk a (by simp) o e, st.2.2⟩
        item := fun j s Q E hj stj hQ => absurd hj (by rw [stj.2.2]; exact Nat.lt_irrefl i)
        done := fun s Q E stj hE => wpAny_nextOf_tuple_end (I.ok.hd hc) stj.1 stj.2.1 (by simp; omega) hE }
    exact wpAny_pyNext_enum_endD D he ⟨hit, p', rfl⟩ fun h' eb => ⟨rfl, I.turned (t' := s.toks) (fun b o hb q => eb b o hb q) f0 f1 f3 f4 f5⟩
  self := fun A i s Q E st h => by
    obtain ⟨⟨_, he⟩, _⟩ := st
    exact wpAny_pyIter_enum he h
def iEnumT (K : PySem.W.Frag) (ta : TA) : TI := fun σ H R => ta σ H fun vs H1 => ∃ a xs, vs = [.ref a] ∧ SqT K H1 a xs ∧ R (IteT K a) H1
theorem pi_enumT {X : Cx} {e : Expr} {ta : TA} {p pos tpos : Pos} {elts : List Expr} {kk : Nat} (hg : Gl X "enumerate") (hm : X.mg "enumerate" = none) (ha : PA X [e] ta) (hs : starEach [e] X.env = [(false, eval e X.env)] := by rfl) :
    PI X (.Tuple elts kk tpos) (.Call (.Name "enumerate" p) [e] [] pos) (iEnumT X.K ta) := by
  refine ⟨fun pins s σ H R I h => ?_⟩
  refine Call_ (ld_blt I hg hm boot_enumerate (PyProof.Rows.callWith_type1 (thn (ha.run pos pins s σ H _ I h) fun us s1 ⟨vs, H1, I1, r1, a, xs, ex, hq, q⟩ => ?_) hs rfl))
  subst ex
  cases r1 with
  | cons r rr =>
    cases rr
    cases r
    obtain ⟨its, rv, p', hz⟩ := I1.tuple hq
    refine enumT_call (show s1.heap.IsTuple a its.toArray from p') fun h' he hit hk => wpAny_pyIter_enum he ?_
    have I2 : Inv X pins σ H1 { s1 with heap := h' } := I1.kept (t' := s1.toks) hk
    refine ⟨s1.heap.objs.size + 1, [s1.heap.objs.size + 1, s1.heap.objs.size], _, _, H1, rfl, I2, enumT_turn a (s1.heap.objs.size + 1) s1.heap.objs.size, ⟨⟨.none, he⟩, hit, Nat.succ_ne_self _⟩, fun b hb => ?_, q⟩
    have hle : s1.heap.objs.size ≤ b := by
      rcases List.mem_cons.mp hb with rfl | hb
      · exact Nat.le_succ _
      · rcases List.mem_cons.mp hb with rfl | hb
        · exact Nat.le_refl _
        · cases hb
    exact I1.fpOk hle (I1.hok.fresh hle)
end Sc
namespace Sc
open PySem PySem.Spec PySem.Calls PyProof.Rows L2 NdefX
/-! ### super().__init__(..) in an own error's __init__ -/
/-- what the written part tells for super() in the __init__ of the class at C: cc its cell, cda the code object of __init__ -/
structure SupC (prog : Program) (K : PySem.W.Frag) (mg : Str → Option Value) (C cc cda : Addr) : Prop where
  cell : ∃ cl cld csl, K.lookup cc = some ⟨cl, cld, .cell (some (.ref C)), csl⟩
  code : ∃ ccl cdd vs ccs file tf, K.lookup cda = some ⟨ccl, cdd, .fields vs, ccs⟩ ∧ vs[2]? = some (.str file tf) ∧ ((prog.main.file : Str) == file) = true
  sub : PySem.W.mroIn K C (.ref C) = some true
  noS : mg "super" = none
  opq : PySem.W.nsIn K cStatics "thirdparty.any" = some none
  up : PySem.W.ks_superIn K C C "__init__" = some (some (.builtin "ValueError.__init__"))
  isB : PySem.W.subIn K (.ref C) (.type "ValueError") = some true
  top : (prog.main.scope.names.lookup ("super" : Str)).isSome = false
section
variable {X : Cx} {pins : List (Addr × Obj)} {σ : L2.St} {H : Hp} {s : Shared} {a C cc cda f : Addr}
theorem sup_bound {u : Addr} {us : List Value} {A : Around} {E : Value → Shared → Prop} {Q : Value → Shared → Prop} (T : OexC X.K C) (I : Inv X pins σ H s) (e : H a = some (exo a C none)) (hu : s.heap.get? u = some (PySem.W.kxs_mw "ValueError.__init__" a)) (hl : us.length ≤ sizeLine)
    (h : ∀ s', Inv X pins σ H s' → Q .none s') : wpAny (model X.prog X.w) A (call (.ref u) us) Q E s := by
  obtain ⟨nm, q, N, bs, bm, sn, sub, ab, col, dd, k0, k1, k2, k3, k5, hC, hbm⟩ := T.cls
  obtain ⟨t1, ho⟩ := exo_at I.hok e
  have hC' := I.kIn _ _ hC
  obtain ⟨hp, g, d, tk, os⟩ := s
  refine wpAny_call (codeAny_of_tree ?_)
  show wpAny _ A.in1 (callAny (.ref u) ⟨us, []⟩) _ _ _
  simp only [callAny]
  refine wpAny_bind (wpAny_load hu ?_)
  have b1 : (Value.type "method-wrapper" == Value.type "method" || Value.type "method-wrapper" == Value.type "builtin_function_or_method" || Value.type "method-wrapper" == Value.type "method-wrapper") = true := by decide
  simp only [PySem.W.kxs_mw, b1, if_true]
  refine PySem.W.KFB.if_so (by decide) (wpAny_bind (PySem.W.check_bound_init PySem.F.excBase_ValueError.toExcCallFacts hC' ho rfl (wpAny_bind (wpAny_pure (wpAny_pure ?_)))))
  refine ⟨plainId_quiet PySem.F.excBase_ValueError.init.plain _, codeAny_builtin PySem.F.excBase_ValueError.initEntry ?_⟩
  refine PySem.W.exc_init_tree (cls := .ref C) (t0 := t1) (dv := none) (c2 := .none) (c3 := .none) (b4 := .bool false) ho hl fun h' k hx _ => ?_
  have J := I.write (t' := tk) (x := a) (e := a) (o := exo a C none) (by rw [e]; exact True.intro) (.inl rfl) k ⟨_, hx⟩ (exo_ok hx)
  have eu : upd H a (exo a C none) = H := funext fun b => by
    by_cases hb : b = a
    · rw [hb, upd_same, e]
    · rw [upd_ne hb]
  rw [eu] at J
  exact h _ J
theorem at_super {pl : Sem Bool} {body : List Stmt} {e : Expr} {es : List Expr} {ta : TA} {D : Ends} {p0 p1 p2 p3 p4 : Pos} {fd : FuncData} {ar : Arg} {oc : Value} {od : Option Addr} {osl : Array (Option Value)}
    (T : OexC X.K C) (S : SupC X.prog X.K X.mg C cc cda) (hks : X.env.kindOf "super" = some .globalImplicit) (hkc : X.env.kindOf "__class__" = some .free) (hcl : X.env.cells.lookup ("__class__" : Str) = some cc)
    (hfu : X.env.func = some f) (hco : X.env.code = .ref cda) (lk : X.K.lookup f = some ⟨oc, od, .func fd, osl⟩) (hp : (fd.params.posonlyargs ++ fd.params.args).head? = some ar) (hN0 : X.N[0]? = some ar.arg) (hka : X.env.kindOf ar.arg = some .local)
    (hA : PA X (e :: es) ta) (I : Inv X pins σ H s) (hσ : σ[0]? = some (some (.ref a))) (ha : H a = some (exo a C none)) (q : ta σ H fun vs H1 => vs.length ≤ 1000 ∧ H1 a = some (exo a C none) ∧ D.nx σ H1)
    (he : starEach (e :: es) X.env = (false, eval e X.env) :: starEach es X.env := by rfl) (hpl : (backTo p3 (starEach es X.env)).any (·.1) = false := by rfl) (hi : interactive X.env = false := by rfl)
    (hev : eval (.Call (.Attribute (.Call (.Name "super" p0) [] [] p1) "__init__" p2) (e :: es) [] p3) X.env = (do
      let ov ← attributeBase (.Call (.Name "super" p0) [] [] p1) "__init__" X.env (eval (.Call (.Name "super" p0) [] [] p1) X.env)
      standAt p2.atName
      let (g, first) ← holding [ov] (getMethod ov "__init__" pl)
      callWith p3 g first (backTo p3 (starEach (e :: es) X.env)) []) := by rfl) (hsw : swapsWith (.Call (.Attribute (.Call (.Name "super" p0) [] [] p1) "__init__" p2) (e :: es) [] p3) none p4.line X.env = pure false := by rfl) :
    PySem.wpAt (model X.prog X.w) X.A (.func body X.env) (exec (.Expr (.Call (.Attribute (.Call (.Name "super" p0) [] [] p1) "__init__" p2) (e :: es) [] p3) p4) X.env) (SP X pins D) X.xe s := by
  obtain ⟨cl, cld, csl, hcell⟩ := S.cell
  obtain ⟨ccl, cdd, vs, ccs, file, tf, hcode, hvs, hfile⟩ := S.code
  have KX := I.kIn
  refine ks_wpAt_Expr_any (ks_wpAt_MethodCall (pl := pl) ?_ hev) hi hsw
  refine ks_wpAt_super_base hks hkc (by decide) hfu (KX _ _ lk) rfl hp hco (KX _ _ hcode) rfl hvs hfile S.top ?_
  obtain ⟨mb, b1, b2⟩ := I.mod.blt
  refine PySem.W.ks_loadName_global I.ok.kind hks (Calls.loadGlobal_builtin (v := .type "super") (by rw [I.ok.glob]; exact I.mod.glob.keeps I.bk) S.noS (by rw [I.ok.blt]; exact b1.keeps I.bk) ((b2 _ (by decide +kernel)).trans (by decide +kernel)) ⟨rfl, ?_⟩)
  refine wpAny_loadName_free I.ok.kind hkc hcl ⟨_, KX _ _ hcell, rfl⟩ ?_
  obtain ⟨m, hn, hloc⟩ := I.loc
  obtain ⟨u, ru, hlook⟩ := hloc 0 ar.arg (.ref a) hN0 hσ (.inl hka)
  obtain rfl : u = Value.ref a := ru
  have hm : m ar.arg = some (.ref a) := by
    rcases hlook with ⟨_, z⟩ | ⟨z, _⟩
    · exact z
    · rcases z with z | z <;> rw [show X.env.kindOf ar.arg = _ from hka] at z <;> cases z
  refine wpAny_loadName_local I.ok.kind hka hn hm ?_
  obtain ⟨nm, qn, N, bs, bm, sn, sub, ab, col, dd, k0, k1, k2, k3, k5, hC, hbm⟩ := T.cls
  have hcls : PySem.W.clsIn X.K C = some { name := nm, bases := bs, mro := .ref C :: bm, ns := N, qualname := qn, hasDict := true, slotNames := sn, subclasses := sub, abstract := ab, collection := col, hasDel := false } := by unfold PySem.W.clsIn; rw [hC] <;> rfl
  obtain ⟨t1, ho⟩ := exo_at I.hok ha
  have hC' := KX _ _ hC
  have ex := S.up
  unfold PySem.W.ks_superIn at ex
  rw [hcls] at ex
  obtain ⟨hp', g, d, tk, os⟩ := s
  refine ks_wpAny_isType_cls hC' rfl ⟨rfl, ?_⟩
  refine ks_wpAny_call_super hC' rfl ho rfl (fun c z => nomatch z) (PySem.W.looks_mroIn KX S.sub) (fun h' e1 k => ?_)
  have I1 : Inv X pins σ H ⟨h', g, d, tk, os⟩ := I.kept (t' := tk) k
  have IA : PySem.W.InstAt h' a { cls := .ref C, dict := none, data := .fields #[.ref t1, .none, .none, .none, .bool false, .none] } C none := ⟨k _ _ ho, rfl, rfl, trivial⟩
  have hIs : PySem.W.Looks (model X.prog X.w) h' (isInstance (.ref a) (.type "ValueError")) true := IA.type.andThen (PySem.W.looks_subIn I1.kIn S.isB)
  refine PySem.W.kxs_getMethod PySem.W.kxs_ValueError e1 (PySem.W.looks_opaque I1.kIn S.opq) (l₀ := .ref C :: bm) (fun A Q E s k q => wpAny_bind ((PySem.W.looks_clsIn I1.kIn hcls) A _ E s k (wpAny_pure q))) rfl I1.kIn ex hIs (PySem.W.ks_ne I1.kIn IA hcls) (by decide) ?_
  have I2 : Inv X pins σ H ⟨h'.push (PySem.W.kxs_mw "ValueError.__init__" a), g, d, tk + 1, os⟩ := I1.kept (t' := tk + 1) fun b o z => Heap.get?_push_of_some _ z
  have hu : (h'.push (PySem.W.kxs_mw "ValueError.__init__" a)).get? h'.objs.size = some (PySem.W.kxs_mw "ValueError.__init__" a) := Heap.get?_push_at rfl rfl
  have hun : H h'.objs.size = none := I1.hok.fresh (Nat.le_refl _)
  have hunf : h'.objs.size ∉ X.fs ∧ h'.objs.size ≠ X.env.locals := ⟨I1.nofs (Nat.le_refl _), fun z => Nat.lt_irrefl _ (by have := I1.lt; rw [← z] at this; exact this)⟩
  have I3 : Inv X ((h'.objs.size, PySem.W.kxs_mw "ValueError.__init__" a) :: pins) σ H ⟨h'.push (PySem.W.kxs_mw "ValueError.__init__" a), g, d, tk + 1, os⟩ := I2.pins_of fun p hp => by
    rcases List.mem_cons.mp hp with rfl | hp
    · exact ⟨hu, hun, hunf.2, hunf.1, fun v z => nomatch z⟩
    · exact I2.pin p (List.mem_append_right _ hp)
  rw [he]
  refine PySem.W.kxs_callWith (i := "ValueError.__init__") (x := a) (first := []) (by show (false || (backTo p3 (starEach es X.env)).any (·.1)) = false; rw [hpl]; rfl) (evalArgs_plain ?_)
  show wpAny _ _ (spliced (backTo p3 ((false, eval e X.env) :: starEach es X.env))) _ _ _
  rw [← he]
  refine thn (hA.run p3 _ _ σ H _ I3 q) fun us s1 ⟨vs, H1, I4, r1, hl, e4, q4⟩ => ?_
  have I5 : Inv X pins σ H1 s1 := I4.pins_of fun p hp => I4.pin p (List.mem_append_right _ (.tail _ hp))
  have hu4 := (I4.pin _ (List.mem_append_right _ List.mem_cons_self)).1
  refine ⟨hu4, ?_⟩
  refine sup_bound T I5 e4 hu4 (by show us.length ≤ sizeLine; rw [← Paired.length r1, sizeLine_eq]; omega) fun s' J => ?_
  exact ⟨σ, H1, J, q4⟩
end
/-! ### the __init__ as a def -/
/-- the reading of a body that begins with super().__init__(e ..) -/
def tInit (C : Addr) (ta : TA) (tr : TS) : TS := fun D σ H => ∃ a : Addr, σ[0]? = some (some (.ref a)) ∧ H a = some (exo a C none) ∧ ta σ H fun vs H1 => vs.length ≤ 1000 ∧ H1 a = some (exo a C none) ∧ tr D σ H1
section
variable {P : Program} {w : World} {K : PySem.W.Frag} {mg : Str → Option Value} {base : Heap} {N ps : List Str} {F : NF} {f C cc : Addr} {k : Nat} {sp : Sp} {kV doc pm ct oc : Value} {an od : Option Addr} {osl : Array (Option Value)}
/-- the def's data as it stands -/
abbrev supFd (F : NF) (kV doc pm : Value) (an : Option Addr) (ct : Value) : FuncData := PySem.W.fnX F.name F.qual F.params F.body F.scope F.cl .none kV doc pm an (.ref F.c) ct
theorem fn_sup {e : Expr} {es : List Expr} {rest : List Stmt} {ar : Arg} {p0 p1 p2 p3 p4 : Pos} (lk : K.lookup f = some ⟨oc, od, .func (supFd F kV doc pm an ct), osl⟩) (hcd : PySem.W.codeIn K (.ref F.c) F.qual = true) (hcl : F.cl = [(("__class__" : Str), cc)])
    (SC : NScope N ps ["__class__"] F.scope) (T : OexC K C) (S : SupC P K mg C cc F.c) (len : ∀ vs H Q E, sp vs H Q E → vs.length = ps.length)
    (hbd : F.body = .Expr (.Call (.Attribute (.Call (.Name "super" p0) [] [] p1) "__init__" p2) (e :: es) [] p3) p4 :: rest)
    (hp : (F.params.posonlyargs ++ F.params.args).head? = some ar) (hN0 : N[0]? = some ar.arg) (hka : F.scope.names.lookup ar.arg = some .local) (hks : F.scope.names.lookup ("super" : Str) = some .globalImplicit)
    (hbody : ∀ (A : Around) (outer : List Env) (s : Shared) (H : Hp) (vs : List V) (Q : VK) (E : XK), Room k (A.deeper (envF F f s.heap.objs.size)) → sp vs H Q E →
      ∃ ta tr, PA (ncx CX0 P w K mg base N F f A outer s H E) (e :: es) ta ∧ PSs (ncx CX0 P w K mg base N F f A outer s H E) rest tr ∧ tInit C ta tr { nx := fun _ H' => Q .non H', rt := Q } (startF N vs [none]) H)
    (hev : ∀ L, ∃ pl, eval (.Call (.Attribute (.Call (.Name "super" p0) [] [] p1) "__init__" p2) (e :: es) [] p3) (envF F f L) = (do
      let ov ← attributeBase (.Call (.Name "super" p0) [] [] p1) "__init__" (envF F f L) (eval (.Call (.Name "super" p0) [] [] p1) (envF F f L))
      standAt p2.atName
      let (g, first) ← holding [ov] (getMethod ov "__init__" pl)
      callWith p3 g first (backTo p3 (starEach (e :: es) (envF F f L))) []))
    (hsw : ∀ L, swapsWith (.Call (.Attribute (.Call (.Name "super" p0) [] [] p1) "__init__" p2) (e :: es) [] p3) none p4.line (envF F f L) = pure false) (he : ∀ L, starEach (e :: es) (envF F f L) = (false, eval e (envF F f L)) :: starEach es (envF F f L))
    (hpl : ∀ L, (backTo p3 (starEach es (envF F f L))).any (·.1) = false) (hi : ∀ L, interactive (envF F f L) = false) :
    FnOk P w K mg base CX0 (k + 1) f (supFd F kV doc pm an ct) ps sp := by
  refine ⟨len, fun A outer s H args us vs Q E hr e0 hb r hsp => ?_⟩
  have hl := len _ _ _ _ hsp
  have KX : K.In s.heap := e0.mod.kin.keeps fun b o e => (e0.bs b o e).1
  have lim : s.heap.NoLimit := e0.mod.nolimit.keeps fun b o e => (e0.bs b o e).1
  obtain ⟨cl, cld, csl, hcell⟩ := S.cell
  have hcH : H cc = none := by
    have z := e0.mod.kin _ _ hcell
    exact (e0.bs _ _ z).2
  have CA : CellsAt F.cl ["__class__"] [none] s.heap H := by
    rw [hcl]
    refine ⟨rfl, fun y c h => ?_, fun x y c h1 h2 => ?_, fun i y h => ?_⟩
    · have q : y = ("__class__" : Str) ∧ c = cc := by
        simp only [List.lookup] at h
        split at h
        · rename_i z; exact ⟨by simpa using z, (Option.some.inj h).symm⟩
        · cases h
      rw [q.2]
      exact ⟨hcH, some (.ref C), ⟨_, KX _ _ hcell, rfl⟩⟩
    · have q : ∀ z, List.lookup z [(("__class__" : Str), cc)] = some c → z = ("__class__" : Str) := fun z h => by
        simp only [List.lookup] at h
        split at h
        · rename_i z; simpa using z
        · cases h
      rw [q x h1, q y h2]
    · cases i with
      | zero =>
        have q : y = ("__class__" : Str) := (Option.some.inj h).symm
        subst q
        exact ⟨cc, by simp [List.lookup], fun v z => by cases z⟩
      | succ i => simp at h
  refine ks_codeAny_call_defAt (fd := supFd F kV doc pm an ct) (body := F.body) (binds := ps.zip us) hr.depth (KX _ _ lk) rfl lim (PySem.W.codeRec_of KX hcd) rfl hb SC.nocell (fun ⟨n, _⟩ hy => SC.par n (List.of_mem_zip hy).1) (fun h₁ hns kp => ?_) SC.co SC.gen SC.kind
  obtain ⟨ta, tr, hta, htr, a, hσ, ha, q⟩ := hbody A outer s H vs Q E (hr.deeper _) hsp
  have I : Inv (ncx CX0 P w K mg base N F f A outer s H E) [] (startF N vs [none]) H { s with heap := h₁, toks := s.toks + (ps.zip us).length } := inv_startN SC hr.hd e0 hl r CA hns kp
  obtain ⟨pl, hev⟩ := hev s.heap.objs.size
  have fin : ∀ {s' : Shared} {σ' : L2.St} {H' : Hp} {v : V} {u : Value}, Inv (ncx CX0 P w K mg base N F f A outer s H E) [] σ' H' s' → L2.RelV v u → Q v H' → CE outer P w H s Q u s' :=
    fun {s' σ' H' v u} J rv q => ⟨v, H', J.os, J.bare, J.base, J.hok, rv, q⟩
  rw [hbd]
  refine ks_wpAt_execs_cons (ks_wpAt_mono (at_super (X := ncx CX0 P w K mg base N F f A outer s H E) (D := { nx := fun σ' H' => tr { nx := fun _ H' => Q .non H', rt := Q } σ' H', rt := fun _ _ => False }) (pl := pl) (f := f) (ar := ar) (fd := supFd F kV doc pm an ct) T S hks (SC.frk _ List.mem_cons_self) (by show F.cl.lookup _ = _; rw [hcl]; simp [List.lookup]) rfl rfl lk hp hN0 hka hta I hσ ha q (he _) (hpl _) (hi _) hev (hsw _)) (fun fl s' hs => ?_) fun _ _ z => z)
  cases fl with
  | ret u =>
    obtain ⟨_, _, _, _, _, z⟩ := hs
    exact z.elim
  | brk =>
    obtain ⟨_, _, _, z⟩ := hs
    exact z.elim
  | cont =>
    obtain ⟨_, _, _, z⟩ := hs
    exact z.elim
  | next =>
    obtain ⟨σ', H', J, z⟩ := hs
    refine PySem.wpAt_of_wpAny (wpAny_mono (htr.run [] s' σ' H' _ J z) (fun fl2 s2 h2 => ?_) fun _ _ y => y)
    cases fl2 with
    | ret u =>
      obtain ⟨v, σ2, H2, J2, rv, q2⟩ := h2
      exact fin J2 rv q2
    | next =>
      obtain ⟨σ2, H2, J2, q2⟩ := h2
      exact fin (v := V.non) (u := Value.none) J2 rfl q2
    | brk =>
      obtain ⟨_, _, _, q2⟩ := h2
      exact q2.elim
    | cont =>
      obtain ⟨_, _, _, q2⟩ := h2
      exact q2.elim
end
end Sc
namespace Sc
open PySem PySem.Spec PyProof.Rows L2
/-- the built-ins are not hidden -/
structure Blt (mg : Str → Option Value) : Prop where
  b_isinstance : mg "isinstance" = none
  b_len : mg "len" = none
  b_all : mg "all" = none
  b_any : mg "any" = none
  b_sum : mg "sum" = none
  b_max : mg "max" = none
  b_min : mg "min" = none
  b_int : mg "int" = none
  b_str : mg "str" = none
  b_bool : mg "bool" = none
  b_list : mg "list" = none
  b_tuple : mg "tuple" = none
  b_dict : mg "dict" = none
  b_range : mg "range" = none
  b_enumerate : mg "enumerate" = none
  b_sorted : mg "sorted" = none
  b_reversed : mg "reversed" = none
  b_zip : mg "zip" = none
  b_set : mg "set" = none
  b_ValueError : mg "ValueError" = none
/-- a def as its callers see it -/
structure Cal (P : Program) (w : World) (K : PySem.W.Frag) (mg : Str → Option Value) (base : Heap) (CX : CXT) (k : Nat) (x : Str) (ps : List Str) (sp : Sp) : Prop where
  ex : ∃ (f : Addr) (fd : FuncData), FnOk P w K mg base CX k f fd ps sp ∧ mg x = some (.ref f) ∧ PySem.W.keepIn K (.ref f) = true ∧ Binds K fd ps []
section
variable {X : Cx} {k : Nat} {x : Str} {ps : List Str} {sp : Sp} {e : Expr} {es : List Expr} {t : TA} {p pos : Pos}
theorem pe_cal (C : Cal X.prog X.w X.K X.mg X.base CX0 k x ps sp) (hr : Room k X.A) (ha : PA X (e :: es) t) (hg : Gl X x := by rfl) (hdb : (x == ("__debug__" : Str)) = false := by decide)
    (he : starEach (e :: es) X.env = (false, eval e X.env) :: starEach es X.env := by rfl) (hpl : (backTo pos (starEach es X.env)).any (·.1) = false := by rfl) : PE X (.Call (.Name x p) (e :: es) [] pos) (tCall sp [] E0 t) := by
  obtain ⟨f, fd, F, hm, hk, hb⟩ := C.ex
  exact pe_call F hr hg hm hk hb .nil pass0 ha hdb he hpl
/-- a def that may raise, where it does not -/
theorem pe_calN (C : Cal X.prog X.w X.K X.mg X.base (L2.CX X.prog X.w) k x ps sp) (hr : Room k X.A) (ha : PA X (e :: es) t) (hg : Gl X x := by rfl) (hdb : (x == ("__debug__" : Str)) = false := by decide)
    (he : starEach (e :: es) X.env = (false, eval e X.env) :: starEach es X.env := by rfl) (hpl : (backTo pos (starEach es X.env)).any (·.1) = false := by rfl) : PE X (.Call (.Name x p) (e :: es) [] pos) (tCall sp [] E0 t) := by
  obtain ⟨f, fd, F, hm, hk, hb⟩ := C.ex
  exact pe_call F hr hg hm hk hb .nil passL ha hdb he hpl
/-- a def that may raise -/
theorem pe_calX {W : WX} (C : Cal X.prog X.w X.K X.mg X.base (L2.CX X.prog X.w) k x ps sp) (hr : Room k X.A) (tk : Takes X W) (ha : PA X (e :: es) t) (hg : Gl X x := by rfl) (hdb : (x == ("__debug__" : Str)) = false := by decide)
    (he : starEach (e :: es) X.env = (false, eval e X.env) :: starEach es X.env := by rfl) (hpl : (backTo pos (starEach es X.env)).any (·.1) = false := by rfl) : PE X (.Call (.Name x p) (e :: es) [] pos) (tCallS sp (WE W) t) := by
  obtain ⟨f, fd, F, hm, hk, hb⟩ := C.ex
  exact pe_callS F hr hg hm hk hb (fun σ => passAt tk σ) ha hdb he hpl
end
/-! ### a reading that does not lean on the state within which it is asked -/
theorem pe_.re {X : Cx} {e : Expr} {t t' : TE} (h : PE X e t) (q : t = t') : PE X e t' := q ▸ h
theorem pts_.re {X : Cx} {es : List Expr} {t t' : TT} (h : PTs X es t) (q : t = t') : PTs X es t' := q ▸ h
theorem pss_.re {X : Cx} {sts : List Stmt} {t t' : TS} (h : PSs X sts t) (q : t = t') : PSs X sts t' := q ▸ h
/-- a value's truth -/
def tTru (K : PySem.W.Frag) (ta : TE) : TT := fun σ H Q => ta σ H fun x H' => ∃ k, TruV K x H' k ∧ Q k H'
theorem pt_tru {X : Cx} {a : Expr} {ta : TE} (ha : PE X a ta) (he : ∀ whole, isTrue a X.env whole = (do let v ← whole; standAt a.pos; holding [v] (truthy v))) : PT X a (tTru X.K ta) := pt_truth ha he
/-! ### lists -/
theorem take_more {α : Type} {l : List α} {i : Nat} {x : α} (h : l[i]? = some x) : l.take (i + 1) = l.take i ++ [x] := by
  rw [List.take_add_one, h]
  rfl
/-! ### heaps -/
theorem _root_.L2.Same.put {H H' : Hp} {p : Addr} {o : HO} (s : Same H H') (n : H p = none) : Same H (upd H' p o) := fun b x e => by
  rw [upd_ne (ne_of_none e n)]
  exact s b x e
theorem _root_.L2.Same.put' {H H' : Hp} {p : Addr} {o : HO} (s : Same H H') (n : H' p = none) : Same H (upd H' p o) := s.put (s.free n)
theorem _root_.L2.Same.tup {K : PySem.W.Frag} {H H' : Hp} {a : Addr} {xs : List V} (e : Same H H') (h : SqT K H a xs) : SqT K H' a xs := by
  rcases h with (h | ⟨o, h⟩) | h
  · exact .inl (.inl (e _ _ h))
  · exact .inl (.inr ⟨o, e _ _ h⟩)
  · exact .inr h
theorem sqT_new {K : PySem.W.Frag} {H : Hp} {p : Addr} {xs : List V} : SqT K (upd H p (.tup xs)) p xs := .inl (.inl upd_same)
theorem sqL_new {K : PySem.W.Frag} {H : Hp} {p : Addr} {xs : List V} : SqL K (upd H p (.lst xs)) p xs := .inl (.inl upd_same)
theorem sqT_of {K : PySem.W.Frag} {H : Hp} {p : Addr} {xs : List V} (h : H p = some (.tup xs)) : SqT K H p xs := .inl (.inl h)
theorem sqL_of {K : PySem.W.Frag} {H : Hp} {p : Addr} {xs : List V} (h : H p = some (.lst xs)) : SqL K H p xs := .inl (.inl h)
/-- a comprehension's list grows -/
theorem grow {H1 H4 : Hp} {D : Addr} {acc : Nat → List V} {i : Nat} {y : V} (nD : H1 D = none) (s : Same H1 H4) (e : H4 D = some (.lst (acc i))) (l : (acc i).length < sizeLine) (n : acc (i + 1) = acc i ++ [y]) :
    ∃ a, H4 D = some (.lst a) ∧ a.length < sizeLine ∧ (Same H1 (upd H4 D (.lst (a ++ [y]))) ∧ (upd H4 D (.lst (a ++ [y]))) D = some (.lst (acc (i + 1)))) :=
  ⟨acc i, e, l, s.put nD, by rw [upd_same, n]⟩
theorem bcase {b : Bool} {A B : Prop} (h1 : b = true → A) (h2 : b = false → B) : if b = true then A else B := by
  cases b with
  | true => exact iteT (h1 rfl)
  | false => exact iteF (h2 rfl)
/-- isinstance(x, T), T a built-in class -/
def rIsT (K : PySem.W.Frag) (T : String) : List V → Hp → VK → Prop := fun xs H Q => ∃ (x : V) (t : String) (b : Bool), xs = [x, .ty T] ∧ TyOf K H x (.type t) ∧ kitB t T = some b ∧ Q (.bl b) H
theorem call_isT {X : Cx} (T : String) : CallR X (.builtin "isinstance") (rIsT X.K T) := by
  intro pins s σ H xs us Q I r h
  obtain ⟨x, t, b, ex, ht, hb, q⟩ := h
  exact call_isi pins s σ H xs us Q I r ⟨_, _, _, _, _, ex, .ty _, .base ht, kit_ty hb, q⟩
/-- a comprehension without a test -/
theorem yes_ {σ : L2.St} {H : Hp} {A : Hp → Prop} {B : Hp → Prop} (h : A H) : tYes σ H fun b H3 => if b = true then A H3 else B H3 := by
  show (if true = true then A H else B H)
  rw [if_pos rfl]
  exact h
/-- as many slots as names -/
theorem takes_len {X : Cx} {W : WX} (tk : Takes X W) : Takes X (fun cls d σ H => σ.length = X.N.length → W cls d σ H) := fun u s' ⟨a, B, sI, pins, σ, H, cls, d, e, I, nb, up, sky, na, os, ag, w⟩ =>
  tk u s' ⟨a, B, sI, pins, σ, H, cls, d, e, I, nb, up, sky, na, os, ag, w I.len⟩
/-! ### walks -/
theorem walk_enumT {K : PySem.W.Frag} {a : Addr} {xs : List V} : Walk (IteT K a) xs.length (fun H => SqT K H a xs) (YPair (fun i => some (.int (i : Nat))) (fun i => xs[i]?)) := by
  refine ⟨fun i _ hi q => ⟨xs, xs[i], q, by simp [hi]⟩, fun _ q => ⟨xs, q, Nat.le_refl _⟩, fun i H v H' _ q y => ?_⟩
  obtain ⟨T, x, h1, h2, h3, h4⟩ := y
  exact ⟨T, .int (i : Nat), x, h1, h2, h3, rfl, h4 xs q⟩
/-! ### list.count of truth values -/
section
variable {X : Cx}
theorem countP_eqU {x : V} : ∀ {xs : List V} {us : List Value}, Vals xs us → xs.all flatV = true → us.countP (eqU x) = xs.countP fun y => eqV y x
  | _, _, .nil, _ => rfl
  | y :: xs, u :: us, .cons r t, f => by
    rw [List.all_cons, Bool.and_eq_true] at f
    rw [List.countP_cons, List.countP_cons, eqU_of r f.1, countP_eqU t f.2]
def rCount (K : PySem.W.Frag) : V → List V → Hp → VK → Prop := fun x xs H Q => ∃ (p : Addr) (ys : List V) (y : V), x = .ref p ∧ xs = [y] ∧ SqL K H p ys ∧ flatV y = true ∧ ys.all flatV = true ∧ Q (.int (ys.countP (fun z => eqV z y) : Nat)) H
theorem mt_lcountB : MtR X "list.count" (rCount X.K) := by
  intro pins s σ H x xs v us Q I rx rxs h
  obtain ⟨p, ys, y, rfl, rfl, hs, fy, fys, q⟩ := h
  cases rx
  cases rxs with
  | cons ry rt =>
    rename_i uy ut
    cases rt
    obtain ⟨its, rv, ⟨⟨cls, dd, data, sl⟩, n, ho, hc, hdn, hd⟩, hlen⟩ := I.list hs
    simp only at hc hd
    subst hc hd
    refine call_meets PySem.F.slot_list_count ⟨_, ho, rfl⟩ PySem.F.entry_list_count (PySem.F.args_list_count_2 _ _)
      (SeqAt.list_countAt p its.toArray n dd sl uy (eqU y)) ⟨ho, fun u' hu' => mem_eqAt ry fy rv fys u' (by simpa using hu'), ?_⟩
    have ec : its.toArray.toList.countP (eqU y) = ys.countP fun z => eqV z y := countP_eqU rv fys
    refine ⟨.int (ys.countP (fun z => eqV z y) : Nat), H, I.tok _, ⟨s.toks, ?_⟩, q⟩
    show Value.int ((its.toArray.toList.countP (eqU y) : Nat) : Int) s.toks = Value.int ((ys.countP (fun z => eqV z y) : Nat) : Int) s.toks
    rw [ec]
end
/-! ### the caught error, whatever it bears -/
/-- an own class of errors, as isinstance and the reading of a field ask for it -/
structure ErrC (K : PySem.W.Frag) (D : Addr) : Prop where
  cl : (PySem.W.clsIn K D).isSome = true
  ga : PySem.W.findIn K (.ref D) "__getattribute__" = some (some (.builtin "BaseException.__getattribute__"))
  gt : PySem.W.findIn K (.ref D) "__getattr__" = some none
  be : PySem.W.subIn K (.ref D) (.type "BaseException") = some true
  kc : PySem.W.findIn K (.ref D) "__class__" = some (some (.builtin "object.__class__"))
  sg : PySem.W.specialIn K (.builtin "object.__class__") "__get__" = some (some (.builtin "getset_descriptor.__get__"))
  tk : PySem.W.takesIn K (.builtin "object.__class__") = some true
  ob : PySem.W.mroIn K D (.type "object") = some true
  hd : PySem.W.hasDictIn K D = true
def errB (K : PySem.W.Frag) (D : Addr) : Bool :=
  (PySem.W.clsIn K D).isSome && (decide (PySem.W.findIn K (.ref D) "__getattribute__" = some (some (.builtin "BaseException.__getattribute__"))) && (decide (PySem.W.findIn K (.ref D) "__getattr__" = some none) &&
  (decide (PySem.W.subIn K (.ref D) (.type "BaseException") = some true) && (decide (PySem.W.findIn K (.ref D) "__class__" = some (some (.builtin "object.__class__"))) &&
  (decide (PySem.W.specialIn K (.builtin "object.__class__") "__get__" = some (some (.builtin "getset_descriptor.__get__"))) && (decide (PySem.W.takesIn K (.builtin "object.__class__") = some true) &&
  (decide (PySem.W.mroIn K D (.type "object") = some true) && PySem.W.hasDictIn K D)))))))
theorem errC_of {K : PySem.W.Frag} {D : Addr} (h : errB K D = true) : ErrC K D := by
  unfold errB at h
  simp only [Bool.and_eq_true, decide_eq_true_eq] at h
  obtain ⟨h1, h2, h3, h4, h5, h6, h7, h8, h9⟩ := h
  exact ⟨h1, h2, h3, h4, h5, h6, h7, h8, h9⟩
section
variable {X : Cx} {a : Addr} {cls : Value} {oe : Obj} {pn : List (Addr × Obj)} {d : Option Addr}
theorem err_inst {D : Addr} {h : Heap} (hz : Zc (.ref D) d oe) (hf : ∃ vs, oe.data = .fields vs) (hget : h.get? a = some oe) (hd : ∀ dd, d = some dd → ∃ od, h.get? dd = some od) : ∃ od, PySem.W.InstAt h a oe D od := by
  obtain ⟨oc, odd, oda, osl⟩ := oe
  obtain ⟨h1, h2⟩ := hz
  obtain ⟨vs, hv⟩ := hf
  dsimp only at h1 h2 hv
  subst h1 h2 hv
  cases odd with
  | none => exact ⟨none, hget, rfl, rfl, trivial⟩
  | some dd =>
    obtain ⟨od, ho⟩ := hd dd rfl
    exact ⟨some od, hget, rfl, rfl, ho⟩
/-- its dict stands, where it has one -/
def XdOk (d : Option Addr) (H : Hp) : Prop := ∀ dd, d = some dd → ∃ fs, H dd = some (.xd fs)
def rIsG (K : PySem.W.Frag) (a : Addr) (cls : Value) (d : Option Addr) : List V → Hp → VK → Prop := fun xs H Q =>
  ∃ (D : Addr) (c : V) (cv : Value) (b : Bool), cls = .ref D ∧ ErrC K D ∧ XdOk d H ∧ xs = [.ref a, c] ∧ (∀ u, RelV c u → u = cv) ∧ PySem.W.kitOne K (.ref D) cv = some b ∧ Q (.bl b) H
theorem call_isG (hz : Zc cls d oe) (hf : ∃ vs, oe.data = .fields vs) : CallR (X.suite a ((a, oe) :: pn)) (.builtin "isinstance") (rIsG X.K a cls d) := by
  intro pins s σ H xs us Q I r h
  obtain ⟨D, c, cv, b, ec, C, hx, rfl, hcv, e, q⟩ := h
  subst ec
  obtain ⟨u1, u2, rfl, r1, r2⟩ := vals2 r
  obtain rfl : u1 = Value.ref a := r1
  have e2 := hcv _ r2
  subst e2
  obtain ⟨hget, _⟩ := I.pin (a, oe) (List.mem_append_left _ List.mem_cons_self)
  obtain ⟨od, J⟩ := err_inst (h := s.heap) hz hf hget fun dd ed => by
    obtain ⟨fs, e⟩ := hx dd ed
    obtain ⟨mA, ⟨o, _, _, ho, _⟩, _⟩ := (show ObjOk X.prog X.w H s.heap dd (.xd fs) from I.hok dd _ e)
    exact ⟨o, ho⟩
  exact PySem.W.kia_one (PySem.W.kitx_exc C.cl C.ga C.gt C.be C.kc C.sg C.tk C.ob) I.kIn J e (fun z => nomatch z) fun tk => ⟨.bl b, H, I.kept (t' := tk) fun _ _ z => z, rfl, q⟩
/-- e.n, e the error that the suite holds -/
def tXg (K : PySem.W.Frag) (a : Addr) (cls : Value) (d : Option Addr) (n : Str) (te : TE) : TE := fun σ H Q => te σ H fun x H1 => x = .ref a ∧ ∃ (D dd : Addr) (fs : List (Str × V)) (v : V), cls = .ref D ∧ ErrC K D ∧ PySem.W.findIn K (.ref D) n = some none ∧ d = some dd ∧ H1 dd = some (.xd fs) ∧ fs.lookup n = some v ∧ Q v H1
theorem pe_xg {e : Expr} {te : TE} {pos : Pos} {n : Str} (hz : Zc cls d oe) (hf : ∃ vs, oe.data = .fields vs) (he : PE (X.suite a ((a, oe) :: pn)) e te) (hb : attributeBase e n X.env (eval e X.env) = eval e X.env := by rfl) :
    PE (X.suite a ((a, oe) :: pn)) (.Attribute e n pos) (tXg X.K a cls d n te) := by
  refine ⟨fun pins s σ H Q I h => attr_of hb (thn (he.run pins s σ H _ I h) fun u s1 hh => ?_)⟩
  obtain ⟨x, H1, I1, rx, ex, D, dd, fs, v, ec, C, hno, ed, ea, l, q⟩ := hh
  subst ex ec ed
  obtain rfl : u = Value.ref a := rx
  obtain ⟨ha, _⟩ := I1.pin (a, oe) (List.mem_append_left _ List.mem_cons_self)
  obtain ⟨vs, hd⟩ := hf
  obtain ⟨mA, hns, hr⟩ := (show ObjOk X.prog X.w H1 s1.heap dd (.xd fs) from I1.hok dd _ ea)
  obtain ⟨od, ho, hl⟩ := lookIn_ns hns
  obtain ⟨u, hu, ru⟩ := RelO.some_of (v := v) (o := mA n) (by rw [← l]; exact hr n)
  have J : PySem.W.InstAt s1.heap a oe D (some od) := ⟨ha, hz.1, by unfold PySem.W.notCls; rw [hd] <;> rfl, by rw [hz.2]; exact ho⟩
  exact HandSPX.exc_get I1.kIn J C.ga C.gt C.be (PySem.W.findObj_own C.hd hno rfl (by rw [hl, hu])) (handed_of ru) ⟨v, H1, I1.tok _, ru, q⟩
end
end Sc
namespace Sc
open PySem PySem.Spec PyProof.Rows L2 NdefX
/-! ### own errors with fields, made and raised -/
/-- what an f-string takes -/
def FOk : V → Prop
  | .int i => i.natAbs.log2 < 1920
  | .str z => z.length ≤ 1000000
  | _ => False
theorem fmt_at {y : V} {R : Str → Prop} (ok : FOk y) (q : ∀ z : Str, z.length ≤ 1000000 → R z) : (∃ z : Str, y = .str z ∧ z.length ≤ sizeLine ∧ R z) ∨ ∃ i : Int, y = .int i ∧ i.natAbs.log2 < 1920 ∧ R (toString i) := by
  cases y with
  | str z => exact .inl ⟨z, rfl, Nat.le_trans ok (by rw [sizeLine_eq]; decide), q z ok⟩
  | int i =>
    refine .inr ⟨i, rfl, ok, q _ ?_⟩
    have e : (PySem.Str.ofString (toString i)).length ≤ 1921 := int_text_len_1921 ok
    exact Nat.le_trans e (by decide)
  | _ => exact ok.elim
theorem fok_nat {i : Nat} (hi : i ≤ 1000) : FOk (.int (i : Nat)) := by
  show (i : Int).natAbs.log2 < 1920
  have e1 : (i : Int).natAbs = i := rfl
  rw [e1]
  by_cases h0 : i = 0
  · subst h0
    decide
  · have := (Nat.log2_lt h0 (k := 10)).mpr (Nat.lt_of_le_of_lt hi (by decide))
    omega
theorem app_len {a b : Str} : (a ++ b).length = a.length + b.length := by
  show (a.cps ++ b.cps).size = a.cps.size + b.cps.size
  exact Array.size_append
/-- a rule of arguments, its reading made monotone -/
theorem pa_mono {X : Cx} {es : List Expr} {ta : TA} (h : PA X es ta) : PA X es (fun σ H Q => ∃ R, ta σ H R ∧ ∀ vs H1, R vs H1 → Q vs H1) := by
  refine ⟨fun pos pins s σ H Q I ⟨R, q, k⟩ => wpAny_mono (h.run pos pins s σ H R I q) (fun us s1 ⟨vs, H1, J, r, z⟩ => ⟨vs, H1, J, r, k vs H1 z⟩) fun _ _ z => z⟩
/-- the promise of an __init__ that keeps its fields fs, in their order -/
def sp_init1 (C : Addr) (f : Str) : Sp := fun vs H Q _ => ∃ (a : Addr) (y : V), vs = [.ref a, y] ∧ H a = some (exo a C none) ∧ FOk y ∧ ∀ dx, H dx = none → dx ≠ a → Q .non (upd (upd H dx (exd dx [(f, y)])) a (exo a C (some dx)))
def sp_init2 (C : Addr) (f g : Str) : Sp := fun vs H Q _ => ∃ (a : Addr) (y z : V), vs = [.ref a, y, z] ∧ H a = some (exo a C none) ∧ FOk y ∧ FOk z ∧
  ∀ dx, H dx = none → dx ≠ a → Q .non (upd (upd (upd H dx (exd dx [(f, y)])) a (exo a C (some dx))) dx (exd dx [(g, z), (f, y)]))
/-- the class x at C, its __init__ keeping sp -/
structure ErrMk (P : Program) (w : World) (K : PySem.W.Frag) (mg : Str → Option Value) (base : Heap) (x : Str) (C : Addr) (ps : List Str) (sp : Sp) : Prop where
  ex : ∃ (fI : Addr) (fd : FuncData), OexC K C ∧ PySem.W.findIn K (.ref C) "__init__" = some (some (.ref fI)) ∧ PySem.W.typeIn K (.ref fI) = some (.type "function") ∧ FnOk P w K mg base CX0 1 fI fd ps sp ∧ Binds K fd ps [] ∧ mg x = some (.ref C)
theorem let_go {H : Hp} {a d : Addr} {o o' u : HO} (n : H a = none) (ne : d ≠ a) : upd (del (upd (upd H d u) a o) a) d o' = upd H d o' := by
  funext b
  by_cases hd : b = d
  · rw [hd, upd_same, upd_same]
  · rw [upd_ne hd, upd_ne hd]
    by_cases ha : b = a
    · rw [ha, del_same, n]
    · rw [del_ne ha, upd_ne ha, upd_ne hd]
section
variable {X : Cx} {x f g : Str} {C : Addr} {ps : List Str} {e e2 : Expr} {te te2 : TE} {p pos : Pos}
/-- x(e): an error whose own dict, new, holds the field -/
def tErr1 (C : Addr) (f : Str) (te : TE) : L2.St → Hp → XK → Prop := fun σ H Q => te σ H fun y H1 => FOk y ∧ ∀ d, H1 d = none → Q (.ref C) (some d) (upd H1 d (.xd [(f, y)]))
theorem pmk_err1 (M : ErrMk X.prog X.w X.K X.mg X.base x C ps (sp_init1 C f)) (hr : Room 2 X.A) (he : PE X e te) (hg : Gl X x := by rfl) (hdb : (x == ("__debug__" : Str)) = false := by decide)
    (hs : starEach [e] X.env = (false, eval e X.env) :: starEach [] X.env := by rfl) : PMk X (.Call (.Name x p) [e] [] pos) (tErr1 C f te) := by
  obtain ⟨fI, fd, T, iC, tI, F, hb, hm⟩ := M.ex
  intro pins s σ H Q I h
  refine pmk_oex (CX := CX0) T iC tI F hr hb .nil (fun _ _ _ _ _ _ _ z => z.elim) hg hm (pa_mono (pa_cons he pa_nil hs)) hdb hs rfl pins s σ H Q I ?_
  refine ⟨fun vs H1 => match vs with
    | [y] => FOk y ∧ ∀ d, H1 d = none → Q (.ref C) (some d) (upd H1 d (.xd [(f, y)]))
    | _ => False, h, fun vs H1 r => ?_⟩
  match vs, r with
  | [y], ⟨ok, q⟩ =>
    refine ⟨by simp, fun a na => ⟨a, y, rfl, upd_same, ok, fun dx nd ne => ⟨rfl, dx, _, upd_same, by rw [upd_ne ne, upd_same], ?_, ?_⟩⟩⟩
    · rw [upd_ne ne] at nd
      exact nd
    · rw [upd_ne ne] at nd
      have e1 : upd (upd (upd H1 a (exo a C none)) dx (exd dx [(f, y)])) a (exo a C (some dx)) = upd (upd H1 dx (exd dx [(f, y)])) a (exo a C (some dx)) := by
        funext b
        by_cases ha : b = a
        · rw [ha, upd_same, upd_same]
        · rw [upd_ne ha, upd_ne ha]
          by_cases hb : b = dx
          · rw [hb, upd_same, upd_same]
          · rw [upd_ne hb, upd_ne hb, upd_ne ha]
      rw [e1, let_go na ne]
      exact q dx nd
/-- x(e, e2): two fields -/
def tErr2 (C : Addr) (f g : Str) (te te2 : TE) : L2.St → Hp → XK → Prop := fun σ H Q => te σ H fun y H0 => te2 σ H0 fun z H1 => (FOk y ∧ FOk z) ∧ ∀ d, H1 d = none → Q (.ref C) (some d) (upd H1 d (.xd [(g, z), (f, y)]))
theorem pmk_err2 (M : ErrMk X.prog X.w X.K X.mg X.base x C ps (sp_init2 C f g)) (hr : Room 2 X.A) (he : PE X e te) (he2 : PE X e2 te2) (hg : Gl X x := by rfl) (hdb : (x == ("__debug__" : Str)) = false := by decide)
    (hs : starEach [e, e2] X.env = (false, eval e X.env) :: starEach [e2] X.env := by rfl) (hs2 : starEach [e2] X.env = (false, eval e2 X.env) :: starEach [] X.env := by rfl) (hpl : (backTo pos (starEach [e2] X.env)).any (·.1) = false := by rfl) :
    PMk X (.Call (.Name x p) [e, e2] [] pos) (tErr2 C f g te te2) := by
  obtain ⟨fI, fd, T, iC, tI, F, hb, hm⟩ := M.ex
  intro pins s σ H Q I h
  refine pmk_oex (CX := CX0) T iC tI F hr hb .nil (fun _ _ _ _ _ _ _ z => z.elim) hg hm (pa_mono (pa_cons he (pa_cons he2 pa_nil hs2) hs)) hdb hs hpl pins s σ H Q I ?_
  refine ⟨fun vs H1 => match vs with
    | [y, z] => (FOk y ∧ FOk z) ∧ ∀ d, H1 d = none → Q (.ref C) (some d) (upd H1 d (.xd [(g, z), (f, y)]))
    | _ => False, h, fun vs H1 r => ?_⟩
  match vs, r with
  | [y, z], ⟨⟨ok, ok2⟩, q⟩ =>
    refine ⟨by simp, fun a na => ⟨a, y, z, rfl, upd_same, ok, ok2, fun dx nd ne => ⟨rfl, dx, _, by rw [upd_ne ne.symm, upd_same], upd_same, ?_, ?_⟩⟩⟩
    · rw [upd_ne ne] at nd
      exact nd
    · rw [upd_ne ne] at nd
      have e1 : upd (del (upd (upd (upd (upd H1 a (exo a C none)) dx (exd dx [(f, y)])) a (exo a C (some dx))) dx (exd dx [(g, z), (f, y)])) a) dx (.xd [(g, z), (f, y)]) = upd H1 dx (.xd [(g, z), (f, y)]) := by
        funext b
        by_cases hb : b = dx
        · rw [hb, upd_same, upd_same]
        · rw [upd_ne hb, upd_ne hb]
          by_cases ha : b = a
          · rw [ha, del_same, na]
          · rw [del_ne ha, upd_ne hb, upd_ne ha, upd_ne hb, upd_ne ha]
      rw [e1]
      exact q dx nd
/-- the class x at C, without an __init__ of its own -/
structure ErrMk0 (K : PySem.W.Frag) (mg : Str → Option Value) (x : Str) (C : Addr) : Prop where
  q : PySem.W.excIn K C [.type "ValueError", .type "Exception", .type "BaseException", .type "object"] "ValueError.__new__" = true
  g : mg x = some (.ref C)
  k : PySem.W.keepIn K (.ref C) = true
  b : PySem.W.subIn K (.ref C) (.type "BaseException") = some true
  t : PySem.W.typeIn K (.ref C) = some (.type "type")
theorem pmk_err0 {m : Str} {j : Nat} {p2 : Pos} (M : ErrMk0 X.K X.mg x C) (hg : Gl X x := by rfl) (hdb : (x == ("__debug__" : Str)) = false := by decide) :
    PMk X (.Call (.Name x p) [.Constant (.str m) j p2] [] pos) (fun _ H Q => Q (.ref C) none H) := pmk_own PySem.F.excBase_ValueError M.q M.g M.k (raises_own M.b M.t) hg hdb
end
end Sc
namespace Sc
open PySem PySem.Spec PyProof.Rows L2 NdefX
section
variable {P : Program} {w : World} {K : PySem.W.Frag} {mg : Str → Option Value} {base : Heap}
theorem sc_init_InvalidFacts : NScope ["self", "index", "__class__"] ["self", "index"] ["__class__"] (defScope (inClass (topS 3) 0)) := nscope_by (by decide +kernel)
theorem ok_init_InvalidFacts {fI C cc c : Addr} {oc kV doc pm ct : Value} {od an : Option Addr} {osl : Array (Option Value)} (lk : K.lookup fI = some ⟨oc, od, .func (supFd (nf_InvalidFacts cc c) kV doc pm an ct), osl⟩)
    (hcd : PySem.W.codeIn K (.ref c) "InvalidFacts.__init__" = true) (T : OexC K C) (S : SupC P K mg C cc c) (n0 : PySem.W.findIn K (.ref C) "index" = some none) : FnOk P w K mg base CX0 1 fI (supFd (nf_InvalidFacts cc c) kV doc pm an ct) ["self", "index"] (sp_init1 C "index") := by
  refine fn_sup (N := ["self", "index", "__class__"]) (ps := ["self", "index"]) lk hcd rfl sc_init_InvalidFacts T S (fun vs H Q E h => ?_) rfl rfl rfl rfl rfl (fun A outer s H vs Q E hr h => ?_) (fun L => ⟨_, rfl⟩) (fun L => rfl) (fun L => rfl) (fun L => rfl) (fun L => rfl)
  · obtain ⟨a, y0, rfl, ha, ok0, q⟩ := h
    rfl
  · obtain ⟨a, y0, rfl, ha, ok0, q⟩ := h
    refine ⟨_, _, pa_cons (pe_joined (PJ.cons pe_str (PJ.cons (pe_fmt (pv 1)) PJ.nil))) pa_nil, pss_one (ps_ost (pv 0) (pv 1)), a, rfl, ha, ?_⟩
    refine ⟨_, rfl, (by rw [sizeLine_eq]; simp only [app_len]; have e0 : Str.empty.length = 0 := rfl; have e1 : (("wrong fact at index " : Str)).length = 20 := (by decide +kernel); omega), ⟨y0, rfl, fmt_at ok0 fun z0 hz0 => ⟨_, rfl, (by rw [sizeLine_eq]; simp only [app_len]; have e0 : Str.empty.length = 0 := rfl; have e1 : (("wrong fact at index " : Str)).length = 20 := (by decide +kernel); omega), ⟨by simp, ha, y0, rfl, .ref a, rfl, a, C, rfl, T, n0, .inl ⟨ha, fun dx nd ne => q dx nd ne⟩⟩⟩⟩⟩

theorem sc_init_InvalidCase : NScope ["self", "index", "__class__"] ["self", "index"] ["__class__"] (defScope (inClass (topS 4) 0)) := nscope_by (by decide +kernel)
theorem ok_init_InvalidCase {fI C cc c : Addr} {oc kV doc pm ct : Value} {od an : Option Addr} {osl : Array (Option Value)} (lk : K.lookup fI = some ⟨oc, od, .func (supFd (nf_InvalidCase cc c) kV doc pm an ct), osl⟩)
    (hcd : PySem.W.codeIn K (.ref c) "InvalidCase.__init__" = true) (T : OexC K C) (S : SupC P K mg C cc c) (n0 : PySem.W.findIn K (.ref C) "index" = some none) : FnOk P w K mg base CX0 1 fI (supFd (nf_InvalidCase cc c) kV doc pm an ct) ["self", "index"] (sp_init1 C "index") := by
  refine fn_sup (N := ["self", "index", "__class__"]) (ps := ["self", "index"]) lk hcd rfl sc_init_InvalidCase T S (fun vs H Q E h => ?_) rfl rfl rfl rfl rfl (fun A outer s H vs Q E hr h => ?_) (fun L => ⟨_, rfl⟩) (fun L => rfl) (fun L => rfl) (fun L => rfl) (fun L => rfl)
  · obtain ⟨a, y0, rfl, ha, ok0, q⟩ := h
    rfl
  · obtain ⟨a, y0, rfl, ha, ok0, q⟩ := h
    refine ⟨_, _, pa_cons (pe_joined (PJ.cons pe_str (PJ.cons (pe_fmt (pv 1)) PJ.nil))) pa_nil, pss_one (ps_ost (pv 0) (pv 1)), a, rfl, ha, ?_⟩
    refine ⟨_, rfl, (by rw [sizeLine_eq]; simp only [app_len]; have e0 : Str.empty.length = 0 := rfl; have e1 : (("wrong name in the case at index " : Str)).length = 32 := (by decide +kernel); omega), ⟨y0, rfl, fmt_at ok0 fun z0 hz0 => ⟨_, rfl, (by rw [sizeLine_eq]; simp only [app_len]; have e0 : Str.empty.length = 0 := rfl; have e1 : (("wrong name in the case at index " : Str)).length = 32 := (by decide +kernel); omega), ⟨by simp, ha, y0, rfl, .ref a, rfl, a, C, rfl, T, n0, .inl ⟨ha, fun dx nd ne => q dx nd ne⟩⟩⟩⟩⟩

theorem sc_init_InvalidCondition : NScope ["self", "part", "index", "__class__"] ["self", "part", "index"] ["__class__"] (defScope (inClass (topS 5) 0)) := nscope_by (by decide +kernel)
theorem ok_init_InvalidCondition {fI C cc c : Addr} {oc kV doc pm ct : Value} {od an : Option Addr} {osl : Array (Option Value)} (lk : K.lookup fI = some ⟨oc, od, .func (supFd (nf_InvalidCondition cc c) kV doc pm an ct), osl⟩)
    (hcd : PySem.W.codeIn K (.ref c) "InvalidCondition.__init__" = true) (T : OexC K C) (S : SupC P K mg C cc c) (n0 : PySem.W.findIn K (.ref C) "part" = some none) (n1 : PySem.W.findIn K (.ref C) "index" = some none) : FnOk P w K mg base CX0 1 fI (supFd (nf_InvalidCondition cc c) kV doc pm an ct) ["self", "part", "index"] (sp_init2 C "part" "index") := by
  refine fn_sup (N := ["self", "part", "index", "__class__"]) (ps := ["self", "part", "index"]) lk hcd rfl sc_init_InvalidCondition T S (fun vs H Q E h => ?_) rfl rfl rfl rfl rfl (fun A outer s H vs Q E hr h => ?_) (fun L => ⟨_, rfl⟩) (fun L => rfl) (fun L => rfl) (fun L => rfl) (fun L => rfl)
  · obtain ⟨a, y0, y1, rfl, ha, ok0, ok1, q⟩ := h
    rfl
  · obtain ⟨a, y0, y1, rfl, ha, ok0, ok1, q⟩ := h
    refine ⟨_, _, pa_cons (pe_joined (PJ.cons pe_str (PJ.cons (pe_fmt (pv 1)) (PJ.cons pe_str (PJ.cons (pe_fmt (pv 2)) PJ.nil))))) pa_nil, pss_cons (ps_ost (pv 0) (pv 1)) (pss_one (ps_ost (pv 0) (pv 2))), a, rfl, ha, ?_⟩
    refine ⟨_, rfl, (by rw [sizeLine_eq]; simp only [app_len]; have e0 : Str.empty.length = 0 := rfl; have e1 : (("wrong name in part " : Str)).length = 19 := (by decide +kernel); have e2 : ((" of the condition at index " : Str)).length = 27 := (by decide +kernel); omega), ⟨y0, rfl, fmt_at ok0 fun z0 hz0 => ⟨_, rfl, (by rw [sizeLine_eq]; simp only [app_len]; have e0 : Str.empty.length = 0 := rfl; have e1 : (("wrong name in part " : Str)).length = 19 := (by decide +kernel); have e2 : ((" of the condition at index " : Str)).length = 27 := (by decide +kernel); omega), ⟨_, rfl, (by rw [sizeLine_eq]; simp only [app_len]; have e0 : Str.empty.length = 0 := rfl; have e1 : (("wrong name in part " : Str)).length = 19 := (by decide +kernel); have e2 : ((" of the condition at index " : Str)).length = 27 := (by decide +kernel); omega), ⟨y1, rfl, fmt_at ok1 fun z1 hz1 => ⟨_, rfl, (by rw [sizeLine_eq]; simp only [app_len]; have e0 : Str.empty.length = 0 := rfl; have e1 : (("wrong name in part " : Str)).length = 19 := (by decide +kernel); have e2 : ((" of the condition at index " : Str)).length = 27 := (by decide +kernel); omega), ⟨by simp, ha, y0, rfl, .ref a, rfl, a, C, rfl, T, n0, .inl ⟨ha, fun dx nd ne => ⟨y1, rfl, .ref a, rfl, a, C, rfl, T, n1, .inr ⟨dx, _, upd_same, by rw [upd_ne ne, upd_same], by simp, q dx nd ne⟩⟩⟩⟩⟩⟩⟩⟩⟩⟩

theorem sc_init_InvalidRule : NScope ["self", "part", "__class__"] ["self", "part"] ["__class__"] (defScope (inClass (topS 7) 0)) := nscope_by (by decide +kernel)
theorem ok_init_InvalidRule {fI C cc c : Addr} {oc kV doc pm ct : Value} {od an : Option Addr} {osl : Array (Option Value)} (lk : K.lookup fI = some ⟨oc, od, .func (supFd (nf_InvalidRule cc c) kV doc pm an ct), osl⟩)
    (hcd : PySem.W.codeIn K (.ref c) "InvalidRule.__init__" = true) (T : OexC K C) (S : SupC P K mg C cc c) (n0 : PySem.W.findIn K (.ref C) "part" = some none) : FnOk P w K mg base CX0 1 fI (supFd (nf_InvalidRule cc c) kV doc pm an ct) ["self", "part"] (sp_init1 C "part") := by
  refine fn_sup (N := ["self", "part", "__class__"]) (ps := ["self", "part"]) lk hcd rfl sc_init_InvalidRule T S (fun vs H Q E h => ?_) rfl rfl rfl rfl rfl (fun A outer s H vs Q E hr h => ?_) (fun L => ⟨_, rfl⟩) (fun L => rfl) (fun L => rfl) (fun L => rfl) (fun L => rfl)
  · obtain ⟨a, y0, rfl, ha, ok0, q⟩ := h
    rfl
  · obtain ⟨a, y0, rfl, ha, ok0, q⟩ := h
    refine ⟨_, _, pa_cons (pe_joined (PJ.cons pe_str (PJ.cons (pe_fmt (pv 1)) (PJ.cons pe_str PJ.nil)))) pa_nil, pss_one (ps_ost (pv 0) (pv 1)), a, rfl, ha, ?_⟩
    refine ⟨_, rfl, (by rw [sizeLine_eq]; simp only [app_len]; have e0 : Str.empty.length = 0 := rfl; have e1 : (("wrong " : Str)).length = 6 := (by decide +kernel); have e2 : ((" of a rule" : Str)).length = 10 := (by decide +kernel); omega), ⟨y0, rfl, fmt_at ok0 fun z0 hz0 => ⟨_, rfl, (by rw [sizeLine_eq]; simp only [app_len]; have e0 : Str.empty.length = 0 := rfl; have e1 : (("wrong " : Str)).length = 6 := (by decide +kernel); have e2 : ((" of a rule" : Str)).length = 10 := (by decide +kernel); omega), ⟨_, rfl, (by rw [sizeLine_eq]; simp only [app_len]; have e0 : Str.empty.length = 0 := rfl; have e1 : (("wrong " : Str)).length = 6 := (by decide +kernel); have e2 : ((" of a rule" : Str)).length = 10 := (by decide +kernel); omega), ⟨by simp, ha, y0, rfl, .ref a, rfl, a, C, rfl, T, n0, .inl ⟨ha, fun dx nd ne => q dx nd ne⟩⟩⟩⟩⟩⟩

theorem sc_init_InvalidBook : NScope ["self", "word", "index", "__class__"] ["self", "word", "index"] ["__class__"] (defScope (inClass (topS 8) 0)) := nscope_by (by decide +kernel)
theorem ok_init_InvalidBook {fI C cc c : Addr} {oc kV doc pm ct : Value} {od an : Option Addr} {osl : Array (Option Value)} (lk : K.lookup fI = some ⟨oc, od, .func (supFd (nf_InvalidBook cc c) kV doc pm an ct), osl⟩)
    (hcd : PySem.W.codeIn K (.ref c) "InvalidBook.__init__" = true) (T : OexC K C) (S : SupC P K mg C cc c) (n0 : PySem.W.findIn K (.ref C) "word" = some none) (n1 : PySem.W.findIn K (.ref C) "index" = some none) : FnOk P w K mg base CX0 1 fI (supFd (nf_InvalidBook cc c) kV doc pm an ct) ["self", "word", "index"] (sp_init2 C "word" "index") := by
  refine fn_sup (N := ["self", "word", "index", "__class__"]) (ps := ["self", "word", "index"]) lk hcd rfl sc_init_InvalidBook T S (fun vs H Q E h => ?_) rfl rfl rfl rfl rfl (fun A outer s H vs Q E hr h => ?_) (fun L => ⟨_, rfl⟩) (fun L => rfl) (fun L => rfl) (fun L => rfl) (fun L => rfl)
  · obtain ⟨a, y0, y1, rfl, ha, ok0, ok1, q⟩ := h
    rfl
  · obtain ⟨a, y0, y1, rfl, ha, ok0, ok1, q⟩ := h
    refine ⟨_, _, pa_cons (pe_joined (PJ.cons pe_str (PJ.cons (pe_fmt (pv 1)) (PJ.cons pe_str (PJ.cons (pe_fmt (pv 2)) PJ.nil))))) pa_nil, pss_cons (ps_ost (pv 0) (pv 1)) (pss_one (ps_ost (pv 0) (pv 2))), a, rfl, ha, ?_⟩
    refine ⟨_, rfl, (by rw [sizeLine_eq]; simp only [app_len]; have e0 : Str.empty.length = 0 := rfl; have e1 : (("wrong book by " : Str)).length = 14 := (by decide +kernel); have e2 : ((" at index " : Str)).length = 10 := (by decide +kernel); omega), ⟨y0, rfl, fmt_at ok0 fun z0 hz0 => ⟨_, rfl, (by rw [sizeLine_eq]; simp only [app_len]; have e0 : Str.empty.length = 0 := rfl; have e1 : (("wrong book by " : Str)).length = 14 := (by decide +kernel); have e2 : ((" at index " : Str)).length = 10 := (by decide +kernel); omega), ⟨_, rfl, (by rw [sizeLine_eq]; simp only [app_len]; have e0 : Str.empty.length = 0 := rfl; have e1 : (("wrong book by " : Str)).length = 14 := (by decide +kernel); have e2 : ((" at index " : Str)).length = 10 := (by decide +kernel); omega), ⟨y1, rfl, fmt_at ok1 fun z1 hz1 => ⟨_, rfl, (by rw [sizeLine_eq]; simp only [app_len]; have e0 : Str.empty.length = 0 := rfl; have e1 : (("wrong book by " : Str)).length = 14 := (by decide +kernel); have e2 : ((" at index " : Str)).length = 10 := (by decide +kernel); omega), ⟨by simp, ha, y0, rfl, .ref a, rfl, a, C, rfl, T, n0, .inl ⟨ha, fun dx nd ne => ⟨y1, rfl, .ref a, rfl, a, C, rfl, T, n1, .inr ⟨dx, _, upd_same, by rw [upd_ne ne, upd_same], by simp, q dx nd ne⟩⟩⟩⟩⟩⟩⟩⟩⟩⟩

theorem sc_init_InvalidText : NScope ["self", "row", "word", "__class__"] ["self", "row", "word"] ["__class__"] (defScope (inClass (topS 10) 0)) := nscope_by (by decide +kernel)
theorem ok_init_InvalidText {fI C cc c : Addr} {oc kV doc pm ct : Value} {od an : Option Addr} {osl : Array (Option Value)} (lk : K.lookup fI = some ⟨oc, od, .func (supFd (nf_InvalidText cc c) kV doc pm an ct), osl⟩)
    (hcd : PySem.W.codeIn K (.ref c) "InvalidText.__init__" = true) (T : OexC K C) (S : SupC P K mg C cc c) (n0 : PySem.W.findIn K (.ref C) "row" = some none) (n1 : PySem.W.findIn K (.ref C) "word" = some none) : FnOk P w K mg base CX0 1 fI (supFd (nf_InvalidText cc c) kV doc pm an ct) ["self", "row", "word"] (sp_init2 C "row" "word") := by
  refine fn_sup (N := ["self", "row", "word", "__class__"]) (ps := ["self", "row", "word"]) lk hcd rfl sc_init_InvalidText T S (fun vs H Q E h => ?_) rfl rfl rfl rfl rfl (fun A outer s H vs Q E hr h => ?_) (fun L => ⟨_, rfl⟩) (fun L => rfl) (fun L => rfl) (fun L => rfl) (fun L => rfl)
  · obtain ⟨a, y0, y1, rfl, ha, ok0, ok1, q⟩ := h
    rfl
  · obtain ⟨a, y0, y1, rfl, ha, ok0, ok1, q⟩ := h
    refine ⟨_, _, pa_cons (pe_joined (PJ.cons pe_str (PJ.cons (pe_fmt (pv 2)) (PJ.cons pe_str (PJ.cons (pe_fmt (pv 1)) PJ.nil))))) pa_nil, pss_cons (ps_ost (pv 0) (pv 1)) (pss_one (ps_ost (pv 0) (pv 2))), a, rfl, ha, ?_⟩
    refine ⟨_, rfl, (by rw [sizeLine_eq]; simp only [app_len]; have e0 : Str.empty.length = 0 := rfl; have e1 : (("wrong word " : Str)).length = 11 := (by decide +kernel); have e2 : ((" of row " : Str)).length = 8 := (by decide +kernel); omega), ⟨y1, rfl, fmt_at ok1 fun z0 hz0 => ⟨_, rfl, (by rw [sizeLine_eq]; simp only [app_len]; have e0 : Str.empty.length = 0 := rfl; have e1 : (("wrong word " : Str)).length = 11 := (by decide +kernel); have e2 : ((" of row " : Str)).length = 8 := (by decide +kernel); omega), ⟨_, rfl, (by rw [sizeLine_eq]; simp only [app_len]; have e0 : Str.empty.length = 0 := rfl; have e1 : (("wrong word " : Str)).length = 11 := (by decide +kernel); have e2 : ((" of row " : Str)).length = 8 := (by decide +kernel); omega), ⟨y0, rfl, fmt_at ok0 fun z1 hz1 => ⟨_, rfl, (by rw [sizeLine_eq]; simp only [app_len]; have e0 : Str.empty.length = 0 := rfl; have e1 : (("wrong word " : Str)).length = 11 := (by decide +kernel); have e2 : ((" of row " : Str)).length = 8 := (by decide +kernel); omega), ⟨by simp, ha, y0, rfl, .ref a, rfl, a, C, rfl, T, n0, .inl ⟨ha, fun dx nd ne => ⟨y1, rfl, .ref a, rfl, a, C, rfl, T, n1, .inr ⟨dx, _, upd_same, by rw [upd_ne ne, upd_same], by simp, q dx nd ne⟩⟩⟩⟩⟩⟩⟩⟩⟩⟩

end
end Sc
namespace Sc
open PySem PySem.Spec PyProof.Rows L2
/-! ### names -/
theorem sc_is_name : FnScope ["value", "letter"] ["value"] (defScope s_is_name) := ⟨rfl, rfl, rfl, by decide +kernel, rfl, by decide +kernel, by decide +kernel⟩
theorem sc_rises : FnScope ["names", "index"] ["names", "index"] (defScope s_rises) := ⟨rfl, rfl, rfl, by decide +kernel, rfl, by decide +kernel, by decide +kernel⟩
def isLetters (x : Str) : Bool := x.cps.toList.all fun c => decide (c ∈ letters.cps.toList)
def isName (x : Str) : Bool := decide (1 ≤ x.length) && (decide (x.length ≤ 8) && isLetters x)
def isLetterV (c : Nat) : V := .bl (decide (c ∈ letters.cps.toList))
structure GNames (mg : Str → Option Value) : Prop where
  m_LETTERS : ∃ t, mg "LETTERS" = some (.str letters t)
  m_LONGEST : ∃ t, mg "LONGEST_NAME" = some (.int 8 t)
section
variable {P : Program} {w : World} {K : PySem.W.Frag} {mg : Str → Option Value} {base : Heap}
def sp_is_name : Sp := fun vs H Q _ => ∃ x : Str, vs = [.str x] ∧ x.length ≤ sizeLine ∧ ∀ H', Same H H' → Q (.bl (isName x)) H'
theorem ok_is_name {f : Addr} {fd : FuncData} (F : Fun K "is_name" "is_name" s_is_name f fd) (B : Blt mg) (G : GNames mg) : FnOk P w K mg base CX0 1 f fd ["value"] sp_is_name := by
  obtain ⟨⟨t1, mL⟩, ⟨t2, mN⟩⟩ := G
  refine F.ok sc_is_name (fun vs H Q E h => by obtain ⟨x, rfl, _⟩ := h; rfl) (fun cdv A outer s H vs Q E hr h => ?_)
  obtain ⟨x, rfl, hx, q⟩ := h
  refine ⟨_, (pss_cons (ps_if (PW.pt (pw_or (pt_not (pt_val (pe_callB (call_isT "str") (by rfl) B.b_isinstance PyProof.Rows.boot_isinstance (pa_cons (pv 0) (pa_cons (pe_bltn (v := .ty "str") (by rfl) B.b_str PyProof.Rows.boot_str rfl) pa_nil))))) (pw_or1 (pt_not (pt_chain op_le op_le pe_int (pe_callB call_len_str (by rfl) B.b_len PySem.boot_len (pa_cons (pv 0) pa_nil)) (pe_glob (v := .int 8) rfl mN ⟨_, rfl⟩)))))) (pss_one (ps_ret pe_bl)) pss_nil)
      (pss_one (ps_ret (pe_callB (cr_all rfl) (by rfl) B.b_all PyProof.Rows.boot_all (pa_cons (pe_lc (own := [("letter", 1)]) (g := gName 1) (tt := tYes) rfl sc_is_name.nd (pi_str (pv 0)) (blkOk_by (own := [("letter", 1)]) (N := ["value", "letter"]) (sc := defScope s_is_name) (by decide +kernel)) (fun _ _ _ _ _ => (pg_name (i := 1) sc_is_name.nd rfl (Or.inl rfl))) (fun _ _ _ _ _ => pts_nil) (fun _ _ _ _ _ => (pe_.re (pe_cmpR op_in_sign (pv 1) (pe_glob (v := .str "abcdefghijklmnopqrstuvwxyz") rfl mL ⟨_, rfl⟩) rfl) (by first | (dsimp only [Cx.blk]; done) | exact rfl)))) pa_nil))))), ?_⟩
  refine ⟨.str x, rfl, _, "str", true, rfl, .str _, by decide +kernel, _, rfl, iteF ?_⟩
  refine ⟨.str x, rfl, x, rfl, hx, 1, x.length, rfl, rfl, _, rfl, bcase (fun h1 => ?_) (fun h1 => ?_)⟩
  · refine ⟨_, _, rfl, rfl, _, rfl, ?_⟩
    have h1 : 1 ≤ x.length := by have := of_decide_eq_true h1; omega
    by_cases h2 : x.length ≤ 8
    · have e2 : decide ((x.length : Int) ≤ 8) = true := decide_eq_true (by omega)
      rw [e2]
      refine iteF ?_
      refine ⟨.str x, rfl, x, rfl, fun D nD => lc_it walk_str (fun i H' => Same H H' ∧ H' D = some (.lst ((x.cps.toList.take i).map isLetterV))) ⟨(Same.refl H).put nD, upd_same⟩ (fun _ _ _ _ => trivial) ?_ ?_⟩
      · rintro i y H2 H3 hi ⟨s, e⟩ ⟨rfl, c, hc, rfl⟩
        refine ⟨rfl, yes_ ⟨_, rfl, c, letters, rfl, rfl, grow (acc := fun i => .map isLetterV (x.cps.toList.take i)) nD s e ?_ ?_⟩⟩
        · rw [List.length_map, List.length_take]
          exact small1000 (by have : x.cps.toList.length = x.length := rfl; omega)
        · show List.map _ _ = _
          rw [take_more (x := c) (by rw [Array.getElem?_toList]; exact hc), List.map_append]
          rfl
      · rintro H2 ⟨s, e⟩
        have el : x.cps.toList.take x.cps.size = x.cps.toList := List.take_of_length_le (by rw [Array.length_toList]; exact Nat.le_refl _)
        rw [el] at e
        refine ⟨D, x.cps.toList.map fun c => decide (c ∈ letters.cps.toList), rfl, sqL_of (by rw [e, List.map_map]; rfl), ?_⟩
        have ea : isName x = (x.cps.toList.map fun c => decide (c ∈ letters.cps.toList)).all id := by
          unfold isName isLetters
          rw [decide_eq_true h1, decide_eq_true h2, Bool.true_and, Bool.true_and, List.all_map]
          rfl
        rw [← ea]
        exact q H2 s
    · have e2 : decide ((x.length : Int) ≤ 8) = false := decide_eq_false (by omega)
      rw [e2]
      refine iteT ?_
      have e : isName x = false := by unfold isName; rw [decide_eq_false h2, Bool.false_and, Bool.and_false]
      rw [← e]
      exact q H (Same.refl H)
  · have h1 : ¬ 1 ≤ x.length := by have := of_decide_eq_false h1; omega
    refine ⟨_, rfl, iteT ?_⟩
    have e : isName x = false := by unfold isName; rw [decide_eq_false h1, Bool.false_and]
    rw [← e]
    exact q H (Same.refl H)
/-- does the i-th name come behind the one before it -/
def risesAt (xs : List Str) (i : Nat) : Bool := decide (i = 0) || match xs[i - 1]?, xs[i]? with
  | some a, some b => decide (a.cps.toList < b.cps.toList)
  | _, _ => false
def sp_rises (K : PySem.W.Frag) : Sp := fun vs H Q _ => ∃ (a : Addr) (xs : List Str) (i : Nat), vs = [.ref a, .int i] ∧ SqT K H a (xs.map V.str) ∧ i < xs.length ∧ Q (.bl (risesAt xs i)) H
theorem ok_rises {f : Addr} {fd : FuncData} (F : Fun K "rises" "rises" s_rises f fd) : FnOk P w K mg base CX0 1 f fd ["names", "index"] (sp_rises K) := by
  refine F.ok sc_rises (fun vs H Q E h => by obtain ⟨a, xs, i, rfl, _⟩ := h; rfl) (fun cdv A outer s H vs Q E hr h => ?_)
  obtain ⟨a, xs, i, rfl, hS, hi, q⟩ := h
  refine ⟨_, (pss_one (ps_ret (pe_or (pe_cmpR op_eq (pv 1) pe_int (nomark _)) (pe_one (pe_cmpR op_lt_str (pe_ix ix_tup (pv 0) (pe_op op_sub (pv 1) pe_int) (fun _ _ => rfl)) (pe_ix ix_tup (pv 0) (pv 1) (fun _ _ => rfl)) (nomark _)))))), ?_⟩
  refine ⟨_, rfl, rfl, _, rfl, bcase (fun e => ?_) (fun e => ?_)⟩
  · have e0 : i = 0 := by have := V.int.inj (of_decide_eq_true e); omega
    have er : risesAt xs i = true := by unfold risesAt; rw [decide_eq_true e0, Bool.true_or]
    rw [er] at q
    exact q
  · have e0 : i ≠ 0 := fun z => by subst z; exact Bool.noConfusion (e.symm.trans (decide_eq_true rfl))
    have h1 : i - 1 < xs.length := by omega
    have g1 : (xs.map V.str)[i - 1]? = some (.str xs[i - 1]) := by rw [List.getElem?_map, List.getElem?_eq_getElem h1]; rfl
    have g2 : (xs.map V.str)[i]? = some (.str xs[i]) := by rw [List.getElem?_map, List.getElem?_eq_getElem hi]; rfl
    refine ⟨.ref a, rfl, .int i, rfl, i, 1, rfl, rfl, a, _, _, _, rfl, rfl, hS, at_of (j := i - 1) (by omega) g1, .ref a, rfl, .int i, rfl, a, _, _, _, rfl, rfl, hS, at_of rfl g2, xs[i - 1], xs[i], rfl, rfl, ?_⟩
    have er : risesAt xs i = decide (xs[i - 1].cps.toList < xs[i].cps.toList) := by
      unfold risesAt
      rw [decide_eq_false e0, Bool.false_or, List.getElem?_eq_getElem h1, List.getElem?_eq_getElem hi]
    rw [← er]
    exact q
end
end Sc
namespace Sc
open PySem PySem.Spec PyProof.Rows L2
/-! ### the law's draws -/
theorem sc__law_mix : FnScope ["_law_script", "_law_seed", "_law_state", "_law_cell"] ["_law_script", "_law_seed"] (defScope s__law_mix) := ⟨rfl, rfl, rfl, by decide +kernel, rfl, by decide +kernel, by decide +kernel⟩
theorem sc__law_next : FnScope ["_law_h", "_law_limit", "_law_cell"] ["_law_h", "_law_limit"] (defScope s__law_next) := ⟨rfl, rfl, rfl, by decide +kernel, rfl, by decide +kernel, by decide +kernel⟩
theorem sc__law_facts : FnScope ["_law_h", "_law_most", "_law_some", "_law_many"] ["_law_h", "_law_most"] (defScope s__law_facts) := ⟨rfl, rfl, rfl, by decide +kernel, rfl, by decide +kernel, by decide +kernel⟩
theorem sc__law_alike : FnScope ["_law_found", "_law_due", "_law_k"] ["_law_found", "_law_due"] (defScope s__law_alike) := ⟨rfl, rfl, rfl, by decide +kernel, rfl, by decide +kernel, by decide +kernel⟩
def twelve : List Str := ["age", "bad", "cold", "dear", "early", "first", "good", "hot", "idle", "just", "keen", "late"]
/-- the state of the draws: a list at a, its cells at l -/
def RS (H : Hp) (a l : Addr) : Prop := ∃ (st k : Int) (ns : List Int), H a = some (.lst [.int st, .ref l, .int k]) ∧ H l = some (.lst (ns.map V.int)) ∧ 0 ≤ st ∧ st < 2147483647 ∧ ns.length ≤ 63 ∧ ∀ z ∈ ns, Builtin.Int.intBits z ≤ 1048576
/-- all but the draws' state stands -/
structure Kp (a l : Addr) (H H' : Hp) : Prop where
  old : RS H a l
  new : RS H' a l
  keep : ∀ b o, b ≠ a → b ≠ l → H b = some o → H' b = some o
section
variable {P : Program} {w : World} {K : PySem.W.Frag} {mg : Str → Option Value} {base : Heap} {a l : Addr} {H H' H'' : Hp}
theorem RS.ne (r : RS H a l) : a ≠ l := fun z => by
  obtain ⟨st, k, ns, h1, h2, _⟩ := r
  subst z
  rw [h1] at h2
  have e := HO.lst.inj (Option.some.inj h2)
  match ns, e with
  | [x, y, z], e => cases (List.cons.inj (List.cons.inj e).2).1
theorem RS.same (r : RS H a l) (s : Same H H') : RS H' a l := by
  obtain ⟨st, k, ns, h1, h2, q⟩ := r
  exact ⟨st, k, ns, s _ _ h1, s _ _ h2, q⟩
theorem Kp.refl (r : RS H a l) : Kp a l H H := ⟨r, r, fun _ _ _ _ e => e⟩
theorem Kp.trans (k : Kp a l H H') (k' : Kp a l H' H'') : Kp a l H H'' := ⟨k.old, k'.new, fun b o n1 n2 e => k'.keep b o n1 n2 (k.keep b o n1 n2 e)⟩
theorem Kp.of (r : RS H a l) (s : Same H H') : Kp a l H H' := ⟨r, r.same s, fun b o _ _ e => s b o e⟩
theorem Kp.same (k : Kp a l H H') (s : Same H' H'') : Kp a l H H'' := k.trans (.of k.new s)
theorem RS.no {b : Addr} (r : RS H a l) (e : H b = none) : b ≠ a ∧ b ≠ l := by
  obtain ⟨st, k, ns, h1, h2, _⟩ := r
  exact ⟨fun z => (by rw [z, h1] at e; cases e), fun z => (by rw [z, h2] at e; cases e)⟩
theorem RS.not {b : Addr} {o : HO} (r : RS H a l) (e : H b = some o) (n : ∀ xs, o ≠ .lst xs) : b ≠ a ∧ b ≠ l := by
  obtain ⟨st, k, ns, h1, h2, _⟩ := r
  exact ⟨fun z => (by rw [z, h1] at e; exact n _ (Option.some.inj e).symm), fun z => (by rw [z, h2] at e; exact n _ (Option.some.inj e).symm)⟩
theorem Kp.free {b : Addr} (k : Kp a l H H') (e : H' b = none) : H b = none := by
  cases q : H b with
  | none => rfl
  | some o =>
    obtain ⟨n1, n2⟩ := k.new.no e
    rw [k.keep b o n1 n2 q] at e
    cases e
theorem Kp.put {p : Addr} {o : HO} (k : Kp a l H H') (n : H' p = none) : Kp a l H (upd H' p o) := k.same ((Same.refl H').put n)
theorem Kp.put0 {p : Addr} {o : HO} (k : Kp a l H H') (n : H p = none) : Kp a l H (upd H' p o) := by
  obtain ⟨n1, n2⟩ := k.old.no n
  obtain ⟨st, x, ns, h1, h2, q⟩ := k.new
  exact ⟨k.old, ⟨st, x, ns, by rw [upd_ne n1.symm]; exact h1, by rw [upd_ne n2.symm]; exact h2, q⟩, fun b o m1 m2 e => by rw [upd_ne (ne_of_none e n)]; exact k.keep b o m1 m2 e⟩
theorem ixN_of {n j : Nat} (hj : j < n) : ixN n (j : Int) = some j := by
  unfold ixN
  rw [if_pos (by omega), if_pos (by omega)]
  rfl
theorem Kp.obj {b : Addr} {o : HO} (k : Kp a l H H') (e : H b = some o) (n : ∀ xs, o ≠ .lst xs) : H' b = some o := by
  obtain ⟨n1, n2⟩ := k.old.not e n
  exact k.keep b o n1 n2 e
theorem Kp.tup {b : Addr} {xs : List V} (k : Kp a l H H') (h : SqT K H b xs) : SqT K H' b xs := by
  rcases h with (h | ⟨o, h⟩) | h
  · exact .inl (.inl (k.obj h fun _ z => nomatch z))
  · exact .inl (.inr ⟨o, k.obj h fun _ z => nomatch z⟩)
  · exact .inr h
theorem bits_div {x n : Int} (h0 : 0 ≤ x) (hn : 0 < n) : Builtin.Int.intBits (x / n) ≤ Builtin.Int.intBits x := by
  have h1 : 0 ≤ x / n := Int.ediv_nonneg h0 (Int.le_of_lt hn)
  have h2 : x / n ≤ x := Int.ediv_le_self n h0
  unfold Builtin.Int.intBits
  by_cases e : x / n = 0
  · rw [e]
    exact Nat.zero_le _
  · have e2 : x ≠ 0 := fun z => by rw [z, Int.zero_ediv] at e; exact e rfl
    rw [if_neg (by simpa using e), if_neg (by simpa using e2)]
    have e3 : (x / n).natAbs.log2 ≤ x.natAbs.log2 := (Nat.le_log2 (by omega)).mpr (Nat.le_trans (Nat.log2_self_le (by omega)) (by omega))
    omega
theorem small_bits {x : Int} {k : Nat} (h : x.natAbs < 2 ^ k) : Builtin.Int.intBits x ≤ k := by
  unfold Builtin.Int.intBits
  split
  · exact Nat.zero_le k
  · rename_i e
    have e : x ≠ 0 := by simpa using e
    have := (Nat.log2_lt (n := x.natAbs) (by omega)).mpr h
    omega
def sp_mix (K : PySem.W.Frag) : Sp := fun vs H Q _ => ∃ (s : Addr) (ns : List Int) (z : Int), vs = [.ref s, .int z] ∧ SqL K H s (ns.map V.int) ∧ ns.length ≤ 63 ∧ (∀ z ∈ ns, Builtin.Int.intBits z ≤ 1048576) ∧ 0 ≤ z ∧ z < 2147483647 ∧
  ∀ H' a l, Same H H' → RS H' a l → Q (.ref a) H'
theorem ok_mix {f : Addr} {fd : FuncData} (F : Fun K "_law_mix" "_law_mix" s__law_mix f fd) (B : Blt mg) : FnOk P w K mg base CX0 1 f fd ["_law_script", "_law_seed"] (sp_mix K) := by
  refine F.ok sc__law_mix (fun vs H Q E h => by obtain ⟨s, ns, z, rfl, _⟩ := h; rfl) (fun cdv A outer s H vs Q E hr h => ?_)
  obtain ⟨s, ns, z, rfl, hS, hl, hb, z0, z1, q⟩ := h
  refine ⟨_, (pss_cons (ps_set (i := 2) sc__law_mix.nd rfl (Or.inl rfl) (pv 1))
      (pss_cons (ps_for PassesOwn.never rfl (pi_list (pv 0)) (pg_name (i := 3) sc__law_mix.nd rfl (Or.inl rfl)) (pss_one (ps_set (i := 2) sc__law_mix.nd rfl (Or.inl rfl) (pe_op op_mod (pe_callTy call_int1 (by rfl) B.b_int PyProof.Rows.boot_int (pa_cons (pe_op op_add (pe_op op_add (pe_op op_mul (pv 2) pe_int) (pe_op op_mod (pe_callTy call_int1 (by rfl) B.b_int PyProof.Rows.boot_int (pa_cons (pv 3) pa_nil)) pe_int)) pe_int) pa_nil)) pe_int))))
      (pss_one (ps_ret (pe_lst (pa_cons (pv 2) (pa_cons (pe_callTy call_list_of (by rfl) B.b_list PyProof.Rows.boot_list (pa_cons (pv 0) pa_nil)) (pa_cons pe_int pa_nil)))))))), ?_⟩
  refine ⟨_, rfl, .ref s, rfl, s, rfl, ⟨_, hS⟩, for_it walk_list (fun i σ H' => ∃ (st : Int) (y : Option V), σ = [some (.ref s), some (.int z), some (.int st), y] ∧ H' = H ∧ 0 ≤ st ∧ st < 2147483647)
    ⟨z, none, rfl, rfl, z0, z1⟩ (fun i σ H' _ ⟨_, _, _, e, _⟩ => by rw [e]; exact hS) ?_ ?_⟩
  · rintro i x σ H2 H3 hi ⟨st, y, rfl, rfl, h0, h1⟩ ⟨rfl, hx⟩
    obtain ⟨c, hc, rfl⟩ : ∃ c, ns[i]? = some c ∧ x = V.int c := by
      rw [List.getElem?_map] at hx
      cases e : ns[i]? with
      | none => rw [e] at hx; cases hx
      | some c => rw [e] at hx; exact ⟨c, rfl, (Option.some.inj hx).symm⟩
    refine ⟨_, rfl, st, 48271, rfl, rfl, .inl ⟨by omega, by omega⟩, _, rfl, .inl ⟨c, rfl, c, 2147483629, rfl, rfl, (show (0 : Int) < 2147483629 by decide), _, _, rfl, rfl, _, _, rfl, rfl, .inl ⟨_, rfl, _, 2147483647, rfl, rfl, (show (0 : Int) < 2147483647 by decide), ?_⟩⟩⟩
    exact ⟨_, _, rfl, rfl, Int.emod_nonneg _ (by decide), Int.emod_lt_of_pos _ (by decide)⟩
  · rintro σ H2 ⟨st, y, rfl, rfl, h0, h1⟩
    refine ⟨_, rfl, .ref s, rfl, s, _, rfl, .inl hS, fun l nl => ⟨(by show 3 ≤ sizeLine; decide), fun a na => q _ a l ?_ ⟨st, 0, ns, upd_same, ?_, h0, h1, hl, hb⟩⟩⟩
    · exact ((Same.refl _).put nl).put' na
    · rw [upd_ne (ne_of_none upd_same na), upd_same]
def sp_next : Sp := fun vs H Q _ => ∃ (a l : Addr) (n : Int), vs = [.ref a, .int n] ∧ RS H a l ∧ 0 < n ∧ n.natAbs.log2 < 9000 ∧ ∀ H' r, Kp a l H H' → 0 ≤ r → r < n → Q (.int r) H'
theorem ok_next {f : Addr} {fd : FuncData} (F : Fun K "_law_next" "_law_next" s__law_next f fd) (B : Blt mg) : FnOk P w K mg base CX0 1 f fd ["_law_h", "_law_limit"] sp_next := by
  refine F.ok sc__law_next (fun vs H Q E h => by obtain ⟨a, l, n, rfl, _⟩ := h; rfl) (fun cdv A outer s H vs Q E hr h => ?_)
  obtain ⟨a, l, n, rfl, hR, n0, n9, q⟩ := h
  refine ⟨_, (pss_cons (ps_set (i := 2) sc__law_next.nd rfl (Or.inl rfl) (pe_ix ix_list (pe_op op_cat (pe_ix ix_list (pv 0) pe_int (fun _ _ => rfl)) (pe_lst (pa_cons pe_int pa_nil))) (pe_op op_mod (pe_callTy call_int1 (by rfl) B.b_int PyProof.Rows.boot_int (pa_cons (pe_ix ix_list (pv 0) pe_int (fun _ _ => rfl)) pa_nil)) (pe_callB (call_max2 rfl) (by rfl) B.b_max PyProof.Rows.boot_max (pa_cons pe_int (pa_cons (pe_callB call_len_seq (by rfl) B.b_len PySem.boot_len (pa_cons (pe_ix ix_list (pv 0) pe_int (fun _ _ => rfl)) pa_nil)) pa_nil)))) (fun _ _ => rfl)))
      (pss_cons (ps_if (pt_cmpR op_ge (pv 2) (pe_op op_pow pe_int pe_int) (nomark _)) (pss_cons (ps_asg (pe_op op_fdivW (pv 2) (pv 1)) (pg_sub (pe_ix ix_list (pv 0) pe_int (fun _ _ => rfl)) (pe_op op_mod (pe_callTy call_int1 (by rfl) B.b_int PyProof.Rows.boot_int (pa_cons (pe_ix ix_list (pv 0) pe_int (fun _ _ => rfl)) pa_nil)) (pe_callB call_len_seq (by rfl) B.b_len PySem.boot_len (pa_cons (pe_ix ix_list (pv 0) pe_int (fun _ _ => rfl)) pa_nil))) set_list))
      (pss_one (ps_ret (pe_op op_mod (pe_callTy call_int1 (by rfl) B.b_int PyProof.Rows.boot_int (pa_cons (pv 2) pa_nil)) (pv 1))))) pss_nil)
      (pss_cons (ps_asg (pe_op op_mod (pe_callTy call_int1 (by rfl) B.b_int PyProof.Rows.boot_int (pa_cons (pe_op op_add (pe_op op_add (pe_op op_mul (pe_ix ix_list (pv 0) pe_int (fun _ _ => rfl)) pe_int) (pe_op op_mulX (pv 2) pe_int)) pe_int) pa_nil)) pe_int) (pg_sub (pv 0) pe_int set_list))
      (pss_cons (ps_asg (pe_op op_add (pe_ix ix_list (pv 0) pe_int (fun _ _ => rfl)) pe_int) (pg_sub (pv 0) pe_int set_list))
      (pss_one (ps_ret (pe_op op_mod (pe_callTy call_int1 (by rfl) B.b_int PyProof.Rows.boot_int (pa_cons (pe_op op_fdiv (pe_ix ix_list (pv 0) pe_int (fun _ _ => rfl)) pe_int) pa_nil)) (pv 1)))))))), ?_⟩
  obtain ⟨st, k, ns, ha, hl, s0, s1, hlen, hb⟩ := id hR
  have nal := hR.ne
  have hm0 : 0 < (if ((ns.map V.int).length : Int) > 1 then ((ns.map V.int).length : Int) else 1) := by
    split <;> omega
  have hmx : (if ((ns.map V.int).length : Int) > 1 then ((ns.map V.int).length : Int) else 1) ≤ ns.length + 1 := by
    rw [List.length_map]
    split <;> omega
  have hcell : ∃ (j : Nat) (c : Int), k % (if ((ns.map V.int).length : Int) > 1 then ((ns.map V.int).length : Int) else 1) = j ∧ (ns.map V.int ++ [V.int 0])[j]? = some (.int c) ∧ (10 ^ 18 ≤ c → j < ns.length ∧ ns[j]? = some c ∧ k % (ns.length : Int) = j) ∧ Builtin.Int.intBits c ≤ 1048576 := by
    have r0 := Int.emod_nonneg k (Int.ne_of_gt hm0)
    have r1 := Int.emod_lt_of_pos k hm0
    obtain ⟨j, ej⟩ := Int.eq_ofNat_of_zero_le r0
    have ej : k % (if ((ns.map V.int).length : Int) > 1 then ((ns.map V.int).length : Int) else 1) = (j : Int) := ej
    by_cases hj : j < ns.length
    · refine ⟨j, ns[j], ej, ?_, fun _ => ⟨hj, List.getElem?_eq_getElem hj, ?_⟩, hb _ (List.getElem_mem hj)⟩
      · rw [List.getElem?_append_left (by rw [List.length_map]; exact hj), List.getElem?_map, List.getElem?_eq_getElem hj]
        rfl
      · rw [← ej, List.length_map]
        by_cases h1 : (ns.length : Int) > 1
        · rw [if_pos h1]
        · rw [if_neg h1]
          have e1 : (ns.length : Int) = 1 := by omega
          rw [e1]
    · have ejn : j = ns.length := by omega
      refine ⟨j, 0, ej, ?_, fun z => absurd z (by decide), by decide⟩
      rw [List.getElem?_append_right (by rw [List.length_map]; omega), List.length_map, ejn, Nat.sub_self]
      rfl
  obtain ⟨j, c, ej, gc, big, hc⟩ := hcell
  refine ⟨.ref a, rfl, a, _, 1, .ref l, rfl, rfl, sqL_of ha, atI_nat (j := 1) rfl, (by show 1 ≤ sizeLine; decide), fun p np => ?_⟩
  have npa := ne_of_none ha np
  have npl := ne_of_none hl np
  refine ⟨l, p, ns.map V.int, [.int 0], rfl, rfl, by rw [upd_ne npl]; exact hl, upd_same, by rw [List.length_map, sizeLine_eq]; show ns.length + 1 ≤ _; omega, fun p2 np2 => ?_⟩
  have np2' : H p2 = none := by
    cases e : H p2 with
    | none => rfl
    | some o => rw [upd_ne (ne_of_none e np)] at np2; rw [e] at np2; cases np2
  have s2 : Same H (upd (upd H p (.lst [.int 0])) p2 (.lst (ns.map V.int ++ [.int 0]))) := ((Same.refl H).put np).put np2'
  generalize hH2 : upd (upd H p (.lst [.int 0])) p2 (.lst (ns.map V.int ++ [.int 0])) = H2 at s2
  have hp2 : H2 p2 = some (.lst (ns.map V.int ++ [.int 0])) := by rw [← hH2, upd_same]
  have ha2 := s2 _ _ ha
  have hl2 := s2 _ _ hl
  refine ⟨.ref a, rfl, a, _, 2, .int k, rfl, rfl, sqL_of ha2, atI_nat (j := 2) rfl, .inl ⟨k, rfl, ?_⟩⟩
  refine ⟨.ref a, rfl, a, _, 1, .ref l, rfl, rfl, sqL_of ha2, atI_nat (j := 1) rfl, l, _, rfl, .inl (sqL_of hl2), 1, _, rfl, ?_⟩
  refine ⟨k, _, rfl, rfl, hm0, p2, _, _, .int c, rfl, rfl, sqL_of hp2, at_of ej gc, ?_⟩
  refine ⟨.int c, rfl, 10, 18, rfl, rfl, ⟨by decide, by decide, by decide⟩, c, 10 ^ 18, rfl, rfl, _, rfl, bcase (fun c1 => ?_) (fun c1 => ?_)⟩
  · have c1 : (10 : Int) ^ 18 ≤ c := of_decide_eq_true c1
    obtain ⟨hj, gj, ej2⟩ := big c1
    have hlp : 0 < (ns.length : Int) := by omega
    refine ⟨_, rfl, .int n, rfl, c, n, rfl, rfl, ⟨n0, n9⟩, .ref a, rfl, a, _, 1, .ref l, rfl, rfl, sqL_of ha2, atI_nat (j := 1) rfl, .ref a, rfl, a, _, 2, .int k, rfl, rfl, sqL_of ha2, atI_nat (j := 2) rfl, .inl ⟨k, rfl, ?_⟩⟩
    refine ⟨.ref a, rfl, a, _, 1, .ref l, rfl, rfl, sqL_of ha2, atI_nat (j := 1) rfl, l, _, rfl, .inl (sqL_of hl2), k, _, rfl, rfl, by rw [List.length_map]; exact hlp, l, _, _, j, rfl, rfl, hl2, ?_, ?_⟩
    · rw [List.length_map, ej2]
      unfold ixN
      rw [if_pos (by omega), if_pos (by omega)]
      rfl
    · refine ⟨.int c, rfl, .inl ⟨c, rfl, .int n, rfl, c, n, rfl, rfl, n0, q _ _ ⟨hR, ?_, fun b o n1 n2 e => ?_⟩ (Int.emod_nonneg _ (Int.ne_of_gt n0)) (Int.emod_lt_of_pos _ n0)⟩⟩
      · refine ⟨st, k, ns.set j (c / n), by rw [upd_ne nal]; exact ha2, by rw [upd_same, List.map_set], s0, s1, by rw [List.length_set]; exact hlen, fun z hz => ?_⟩
        rcases List.mem_or_eq_of_mem_set hz with h | h
        · exact hb z h
        · rw [h]
          exact Nat.le_trans (bits_div (by omega) n0) hc
      · rw [upd_ne n2]
        exact s2 b o e
  · refine ⟨.ref a, rfl, a, _, 0, .int st, rfl, rfl, sqL_of ha2, atI_nat (j := 0) rfl, st, 48271, rfl, rfl, .inl ⟨by omega, by omega⟩, .int c, rfl, c, 69621, rfl, rfl, ?_, _, _, rfl, rfl, _, 11, rfl, rfl, .inl ⟨_, rfl, _, 2147483647, rfl, rfl, (show (0 : Int) < 2147483647 by decide), .ref a, rfl, ?_⟩⟩
    · show (Builtin.Int.intBits c : Int) + (Builtin.Int.intBits 69621 : Int) ≤ 134217728
      have e1 : Builtin.Int.intBits 69621 ≤ 20 := small_bits (by decide)
      omega
    have z0 : 0 ≤ (st * 48271 + c * 69621 + 11) % 2147483647 := Int.emod_nonneg _ (by decide)
    have z1 : (st * 48271 + c * 69621 + 11) % 2147483647 < 2147483647 := Int.emod_lt_of_pos _ (by decide)
    refine ⟨a, _, 0, 0, rfl, rfl, ha2, rfl, ?_⟩
    refine ⟨.ref a, rfl, a, _, 2, .int k, rfl, rfl, sqL_of upd_same, atI_nat (j := 2) rfl, k, 1, rfl, rfl, .ref a, rfl, a, _, 2, 2, rfl, rfl, upd_same, rfl, ?_⟩
    refine ⟨.ref a, rfl, a, _, 0, .int ((st * 48271 + c * 69621 + 11) % 2147483647), rfl, rfl, sqL_of upd_same, atI_nat (j := 0) rfl, _, 7, rfl, rfl, ⟨by decide, by decide⟩, .inl ⟨_, rfl, .int n, rfl, _, n, rfl, rfl, n0, q _ _ ⟨hR, ?_, fun b o n1 n2 e => ?_⟩ (Int.emod_nonneg _ (Int.ne_of_gt n0)) (Int.emod_lt_of_pos _ n0)⟩⟩
    · exact ⟨_, k + 1, ns, upd_same, by rw [upd_ne nal.symm, upd_ne nal.symm]; exact hl2, z0, z1, hlen, hb⟩
    · rw [upd_ne n1, upd_ne n1]
      exact s2 b o e
theorem map_eraseIdx {α β : Type} {f : α → β} : ∀ (xs : List α) (j : Nat), (xs.map f).eraseIdx j = (xs.eraseIdx j).map f
  | [], _ => rfl
  | _ :: _, 0 => rfl
  | x :: r, j + 1 => by
    show f x :: (r.map f).eraseIdx j = f x :: (r.eraseIdx j).map f
    rw [map_eraseIdx r j]
/-- what stands at a value, read as data, at most n lists or tuples deep -/
inductive AD (H : Hp) : Nat → V → PyData → Prop where
  | non (n : Nat) : AD H n .non .none
  | bl (n : Nat) (b : Bool) : AD H n (.bl b) (.bool b)
  | int (n : Nat) (i : Int) : AD H n (.int i) (.int i)
  | str (n : Nat) (x : Str) : AD H n (.str x) (.str x)
  | lst {n : Nat} {a : Addr} {xs : List V} {ds : List PyData} (e : H a = some (.lst xs)) (l : xs.length = ds.length) (z : xs.length ≤ 1000000) (all : ∀ (i : Nat) (x : V) (d : PyData), xs[i]? = some x → ds[i]? = some d → AD H n x d) : AD H (n + 1) (.ref a) (.list ds)
  | tup {n : Nat} {a : Addr} {xs : List V} {ds : List PyData} (e : H a = some (.tup xs)) (l : xs.length = ds.length) (z : xs.length ≤ 1000000) (all : ∀ (i : Nat) (x : V) (d : PyData), xs[i]? = some x → ds[i]? = some d → AD H n x d) : AD H (n + 1) (.ref a) (.tuple ds)
theorem AD.same {n : Nat} {x : V} {d : PyData} (s : Same H H') (h : AD H n x d) : AD H' n x d := by
  induction h with
  | non n => exact .non n
  | bl n b => exact .bl n b
  | int n i => exact .int n i
  | str n x => exact .str n x
  | lst e l z all ih => exact .lst (s _ _ e) l z ih
  | tup e l z all ih => exact .tup (s _ _ e) l z ih
def sp_alike (n : Nat) : Sp := fun vs H Q _ => ∃ (x y : V) (d : PyData), vs = [x, y] ∧ AD H n x d ∧ AD H n y d ∧ ∀ H', Same H H' → Q (.bl true) H'
/-- the answer where no list or tuple stands -/
theorem ok_alike0 {f : Addr} {fd : FuncData} (F : Fun K "_law_alike" "_law_alike" s__law_alike f fd) (B : Blt mg) : FnOk P w K mg base CX0 1 f fd ["_law_found", "_law_due"] (sp_alike 0) := by
  refine F.ok sc__law_alike (fun vs H Q E h => by obtain ⟨x, y, d, rfl, _⟩ := h; rfl) (fun cdv A outer s H vs Q E hr h => ?_)
  obtain ⟨x, y, d, rfl, hx, hy, q⟩ := h
  refine ⟨_, (pss_cons (ps_if (pt_val (pe_callB (call_isT "dict") (by rfl) B.b_isinstance PyProof.Rows.boot_isinstance (pa_cons (pv 1) (pa_cons (pe_bltn (v := .ty "dict") (by rfl) B.b_dict (by decide +kernel) rfl) pa_nil)))) pss_never pss_nil)
      (pss_cons (ps_if (pt_val (pe_callB call_isiT (by rfl) B.b_isinstance PyProof.Rows.boot_isinstance (pa_cons (pv 1) (pa_cons (pe_tup (pa_cons (pe_bltn (v := .ty "tuple") (by rfl) B.b_tuple PyProof.Rows.boot_tuple rfl) (pa_cons (pe_bltn (v := .ty "list") (by rfl) B.b_list PyProof.Rows.boot_list rfl) pa_nil))) pa_nil)))) pss_never pss_nil)
      (pss_cons (ps_if (PW.pt (pw_or (pt_cmpR op_isN (pv 1) pe_non (nomark _)) (pw_or1 (pt_val (pe_callB (call_isT "str") (by rfl) B.b_isinstance PyProof.Rows.boot_isinstance (pa_cons (pv 1) (pa_cons (pe_bltn (v := .ty "str") (by rfl) B.b_str PyProof.Rows.boot_str rfl) pa_nil))))))) (pss_one (ps_ret (pe_and (pe_cmpR op_eq (pv 0) (pv 1) (nomark _)) (pe_one (pe_cmpR op_eq (pe_callB (call_isT "str") (by rfl) B.b_isinstance PyProof.Rows.boot_isinstance (pa_cons (pv 0) (pa_cons (pe_bltn (v := .ty "str") (by rfl) B.b_str PyProof.Rows.boot_str rfl) pa_nil))) (pe_callB (call_isT "str") (by rfl) B.b_isinstance PyProof.Rows.boot_isinstance (pa_cons (pv 1) (pa_cons (pe_bltn (v := .ty "str") (by rfl) B.b_str PyProof.Rows.boot_str rfl) pa_nil))) (nomark _)))))) pss_nil)
      (pss_one (ps_ret (pe_and (pe_callB (call_isT "int") (by rfl) B.b_isinstance PyProof.Rows.boot_isinstance (pa_cons (pv 0) (pa_cons (pe_bltn (v := .ty "int") (by rfl) B.b_int PyProof.Rows.boot_int rfl) pa_nil))) (pe_and (pe_cmpR op_eq (pe_callB (call_isT "bool") (by rfl) B.b_isinstance PyProof.Rows.boot_isinstance (pa_cons (pv 0) (pa_cons (pe_bltn (v := .ty "bool") (by rfl) B.b_bool PyProof.Rows.boot_bool rfl) pa_nil))) (pe_callB (call_isT "bool") (by rfl) B.b_isinstance PyProof.Rows.boot_isinstance (pa_cons (pv 1) (pa_cons (pe_bltn (v := .ty "bool") (by rfl) B.b_bool PyProof.Rows.boot_bool rfl) pa_nil))) (nomark _)) (pe_one (pe_cmpR op_eq (pv 0) (pv 1) (nomark _)))))))))), ?_⟩
  cases hx with
  | non _ =>
    cases hy
    refine ⟨_, rfl, _, "NoneType", false, rfl, .non, by decide +kernel, false, rfl, iteF ?_⟩
    refine ⟨_, rfl, (by show 2 ≤ sizeLine; decide), fun tp ntp => ⟨_, tp, _, .type "NoneType", [.type "tuple", .type "list"], false, rfl, upd_same, .cons (.ty _) (.cons (.ty _) .nil), .base (.non), kitAny_cons (b := false) (kit_ty (by decide +kernel)) (fun _ => kitAny_cons (b := false) (kit_ty (by decide +kernel)) (fun _ => kitAny_nil) (fun z => nomatch z)) (fun z => nomatch z), false, rfl, iteF ?_⟩⟩
    have s1 : Same H (upd H tp (.tup [.ty "tuple", .ty "list"])) := (Same.refl H).put ntp
    refine ⟨_, rfl, rfl, true, rfl, iteT (iteT ?_)⟩
    refine ⟨_, rfl, _, rfl, rfl, decide (V.non = V.non), rfl, ?_⟩
    rw [decide_eq_true rfl]
    refine iteT ?_
    refine ⟨_, rfl, _, "NoneType", false, rfl, .non, by decide +kernel, _, rfl, _, "NoneType", false, rfl, .non, by decide +kernel, rfl, ?_⟩
    exact q _ s1
  | bl _ b =>
    cases hy
    refine ⟨_, rfl, _, "bool", false, rfl, .bl b, by decide +kernel, false, rfl, iteF ?_⟩
    refine ⟨_, rfl, (by show 2 ≤ sizeLine; decide), fun tp ntp => ⟨_, tp, _, .type "bool", [.type "tuple", .type "list"], false, rfl, upd_same, .cons (.ty _) (.cons (.ty _) .nil), .base (.bl b), kitAny_cons (b := false) (kit_ty (by decide +kernel)) (fun _ => kitAny_cons (b := false) (kit_ty (by decide +kernel)) (fun _ => kitAny_nil) (fun z => nomatch z)) (fun z => nomatch z), false, rfl, iteF ?_⟩⟩
    have s1 : Same H (upd H tp (.tup [.ty "tuple", .ty "list"])) := (Same.refl H).put ntp
    refine ⟨_, rfl, rfl, false, rfl, iteF ⟨_, rfl, _, "bool", false, rfl, .bl b, by decide +kernel, false, rfl, iteF ?_⟩⟩
    refine ⟨_, rfl, _, "bool", true, rfl, .bl b, by decide +kernel, true, rfl, iteT ?_⟩
    refine ⟨_, rfl, _, "bool", true, rfl, .bl b, by decide +kernel, _, rfl, _, "bool", true, rfl, .bl b, by decide +kernel, rfl, true, rfl, iteT ?_⟩
    refine ⟨_, rfl, _, rfl, rfl, ?_⟩
    rw [decide_eq_true rfl]
    exact q _ s1
  | int _ i =>
    cases hy
    refine ⟨_, rfl, _, "int", false, rfl, .int i, by decide +kernel, false, rfl, iteF ?_⟩
    refine ⟨_, rfl, (by show 2 ≤ sizeLine; decide), fun tp ntp => ⟨_, tp, _, .type "int", [.type "tuple", .type "list"], false, rfl, upd_same, .cons (.ty _) (.cons (.ty _) .nil), .base (.int i), kitAny_cons (b := false) (kit_ty (by decide +kernel)) (fun _ => kitAny_cons (b := false) (kit_ty (by decide +kernel)) (fun _ => kitAny_nil) (fun z => nomatch z)) (fun z => nomatch z), false, rfl, iteF ?_⟩⟩
    have s1 : Same H (upd H tp (.tup [.ty "tuple", .ty "list"])) := (Same.refl H).put ntp
    refine ⟨_, rfl, rfl, false, rfl, iteF ⟨_, rfl, _, "int", false, rfl, .int i, by decide +kernel, false, rfl, iteF ?_⟩⟩
    refine ⟨_, rfl, _, "int", true, rfl, .int i, by decide +kernel, true, rfl, iteT ?_⟩
    refine ⟨_, rfl, _, "int", false, rfl, .int i, by decide +kernel, _, rfl, _, "int", false, rfl, .int i, by decide +kernel, rfl, true, rfl, iteT ?_⟩
    refine ⟨_, rfl, _, rfl, rfl, ?_⟩
    rw [decide_eq_true rfl]
    exact q _ s1
  | str _ x =>
    cases hy
    refine ⟨_, rfl, _, "str", false, rfl, .str x, by decide +kernel, false, rfl, iteF ?_⟩
    refine ⟨_, rfl, (by show 2 ≤ sizeLine; decide), fun tp ntp => ⟨_, tp, _, .type "str", [.type "tuple", .type "list"], false, rfl, upd_same, .cons (.ty _) (.cons (.ty _) .nil), .base (.str x), kitAny_cons (b := false) (kit_ty (by decide +kernel)) (fun _ => kitAny_cons (b := false) (kit_ty (by decide +kernel)) (fun _ => kitAny_nil) (fun z => nomatch z)) (fun z => nomatch z), false, rfl, iteF ?_⟩⟩
    have s1 : Same H (upd H tp (.tup [.ty "tuple", .ty "list"])) := (Same.refl H).put ntp
    refine ⟨_, rfl, rfl, false, rfl, iteF ⟨_, rfl, _, "str", true, rfl, .str x, by decide +kernel, true, rfl, iteT ?_⟩⟩
    refine ⟨_, rfl, _, rfl, rfl, decide (V.str x = V.str x), rfl, ?_⟩
    rw [decide_eq_true rfl]
    refine iteT ?_
    refine ⟨_, rfl, _, "str", true, rfl, .str x, by decide +kernel, _, rfl, _, "str", true, rfl, .str x, by decide +kernel, rfl, ?_⟩
    exact q _ s1
theorem ok_alike {n : Nat} {f : Addr} {fd : FuncData} (F : Fun K "_law_alike" "_law_alike" s__law_alike f fd) (B : Blt mg) (c__law_alike : Cal P w K mg base CX0 (n + 1) "_law_alike" ["_law_found", "_law_due"] (sp_alike n)) : FnOk P w K mg base CX0 (n + 2) f fd ["_law_found", "_law_due"] (sp_alike (n + 1)) := by
  refine F.ok sc__law_alike (fun vs H Q E h => by obtain ⟨x, y, d, rfl, _⟩ := h; rfl) (fun cdv A outer s H vs Q E hr h => ?_)
  obtain ⟨x, y, d, rfl, hx, hy, q⟩ := h
  refine ⟨_, (pss_cons (ps_if (pt_val (pe_callB (call_isT "dict") (by rfl) B.b_isinstance PyProof.Rows.boot_isinstance (pa_cons (pv 1) (pa_cons (pe_bltn (v := .ty "dict") (by rfl) B.b_dict (by decide +kernel) rfl) pa_nil)))) pss_never pss_nil)
      (pss_cons (ps_if (pt_val (pe_callB call_isiT (by rfl) B.b_isinstance PyProof.Rows.boot_isinstance (pa_cons (pv 1) (pa_cons (pe_tup (pa_cons (pe_bltn (v := .ty "tuple") (by rfl) B.b_tuple PyProof.Rows.boot_tuple rfl) (pa_cons (pe_bltn (v := .ty "list") (by rfl) B.b_list PyProof.Rows.boot_list rfl) pa_nil))) pa_nil)))) (pss_cons (ps_if (PW.pt (pw_or (pt_not (pt_val (pe_callB call_isiT (by rfl) B.b_isinstance PyProof.Rows.boot_isinstance (pa_cons (pv 0) (pa_cons (pe_tup (pa_cons (pe_bltn (v := .ty "tuple") (by rfl) B.b_tuple PyProof.Rows.boot_tuple rfl) (pa_cons (pe_bltn (v := .ty "list") (by rfl) B.b_list PyProof.Rows.boot_list rfl) pa_nil))) pa_nil))))) (pw_or1 (pt_cmpR op_ne (pe_callB (call_isT "list") (by rfl) B.b_isinstance PyProof.Rows.boot_isinstance (pa_cons (pv 0) (pa_cons (pe_bltn (v := .ty "list") (by rfl) B.b_list PyProof.Rows.boot_list rfl) pa_nil))) (pe_callB (call_isT "list") (by rfl) B.b_isinstance PyProof.Rows.boot_isinstance (pa_cons (pv 1) (pa_cons (pe_bltn (v := .ty "list") (by rfl) B.b_list PyProof.Rows.boot_list rfl) pa_nil))) (nomark _))))) (pss_one (ps_ret pe_bl)) pss_nil)
      (pss_cons (ps_if (pt_cmpR op_ne (pe_callB call_len_seq (by rfl) B.b_len PySem.boot_len (pa_cons (pv 0) pa_nil)) (pe_callB call_len_seq (by rfl) B.b_len PySem.boot_len (pa_cons (pv 1) pa_nil)) (nomark _)) (pss_one (ps_ret pe_bl)) pss_nil)
      (pss_one (ps_ret (pe_cmpR (op_eqD hr.units) (pe_lc (own := [("_law_k", 2)]) (g := gName 2) rfl sc__law_alike.nd (pi_range1 (by rfl) B.b_range (pa_cons (pe_callB call_len_seq (by rfl) B.b_len PySem.boot_len (pa_cons (pv 1) pa_nil)) pa_nil)) (blkOk_by (own := [("_law_k", 2)]) (N := ["_law_found", "_law_due", "_law_k"]) (sc := defScope s__law_alike) (by decide +kernel)) (fun _ _ _ _ _ => (pg_name (i := 2) sc__law_alike.nd rfl (Or.inl rfl))) (fun _ _ _ _ _ => (pts_.re (pts_one (pt_not (pt_val (pe_cal c__law_alike hr (pa_cons (pe_ix ix_seq (pv 0) (pv 2) (fun _ _ => rfl)) (pa_cons (pe_ix ix_seq (pv 1) (pv 2) (fun _ _ => rfl)) pa_nil)))))) (by first | (dsimp only [Cx.blk]; done) | exact rfl))) (fun _ _ _ _ _ => (pe_.re (pv 2) (by first | (dsimp only [Cx.blk]; done) | exact rfl)))) (pe_lst pa_nil) (nomark _)))))) pss_nil)
      (pss_cons (ps_if (PW.pt (pw_or (pt_cmpR op_isN (pv 1) pe_non (nomark _)) (pw_or1 (pt_val (pe_callB (call_isT "str") (by rfl) B.b_isinstance PyProof.Rows.boot_isinstance (pa_cons (pv 1) (pa_cons (pe_bltn (v := .ty "str") (by rfl) B.b_str PyProof.Rows.boot_str rfl) pa_nil))))))) (pss_one (ps_ret (pe_and (pe_cmpR op_eq (pv 0) (pv 1) (nomark _)) (pe_one (pe_cmpR op_eq (pe_callB (call_isT "str") (by rfl) B.b_isinstance PyProof.Rows.boot_isinstance (pa_cons (pv 0) (pa_cons (pe_bltn (v := .ty "str") (by rfl) B.b_str PyProof.Rows.boot_str rfl) pa_nil))) (pe_callB (call_isT "str") (by rfl) B.b_isinstance PyProof.Rows.boot_isinstance (pa_cons (pv 1) (pa_cons (pe_bltn (v := .ty "str") (by rfl) B.b_str PyProof.Rows.boot_str rfl) pa_nil))) (nomark _)))))) pss_nil)
      (pss_one (ps_ret (pe_and (pe_callB (call_isT "int") (by rfl) B.b_isinstance PyProof.Rows.boot_isinstance (pa_cons (pv 0) (pa_cons (pe_bltn (v := .ty "int") (by rfl) B.b_int PyProof.Rows.boot_int rfl) pa_nil))) (pe_and (pe_cmpR op_eq (pe_callB (call_isT "bool") (by rfl) B.b_isinstance PyProof.Rows.boot_isinstance (pa_cons (pv 0) (pa_cons (pe_bltn (v := .ty "bool") (by rfl) B.b_bool PyProof.Rows.boot_bool rfl) pa_nil))) (pe_callB (call_isT "bool") (by rfl) B.b_isinstance PyProof.Rows.boot_isinstance (pa_cons (pv 1) (pa_cons (pe_bltn (v := .ty "bool") (by rfl) B.b_bool PyProof.Rows.boot_bool rfl) pa_nil))) (nomark _)) (pe_one (pe_cmpR op_eq (pv 0) (pv 1) (nomark _)))))))))), ?_⟩
  cases hx with
  | non _ =>
    cases hy
    refine ⟨_, rfl, _, "NoneType", false, rfl, .non, by decide +kernel, false, rfl, iteF ?_⟩
    refine ⟨_, rfl, (by show 2 ≤ sizeLine; decide), fun tp ntp => ⟨_, tp, _, .type "NoneType", [.type "tuple", .type "list"], false, rfl, upd_same, .cons (.ty _) (.cons (.ty _) .nil), .base (.non), kitAny_cons (b := false) (kit_ty (by decide +kernel)) (fun _ => kitAny_cons (b := false) (kit_ty (by decide +kernel)) (fun _ => kitAny_nil) (fun z => nomatch z)) (fun z => nomatch z), false, rfl, iteF ?_⟩⟩
    have s1 : Same H (upd H tp (.tup [.ty "tuple", .ty "list"])) := (Same.refl H).put ntp
    refine ⟨_, rfl, rfl, true, rfl, iteT (iteT ?_)⟩
    refine ⟨_, rfl, _, rfl, rfl, decide (V.non = V.non), rfl, ?_⟩
    rw [decide_eq_true rfl]
    refine iteT ?_
    refine ⟨_, rfl, _, "NoneType", false, rfl, .non, by decide +kernel, _, rfl, _, "NoneType", false, rfl, .non, by decide +kernel, rfl, ?_⟩
    exact q _ s1
  | bl _ b =>
    cases hy
    refine ⟨_, rfl, _, "bool", false, rfl, .bl b, by decide +kernel, false, rfl, iteF ?_⟩
    refine ⟨_, rfl, (by show 2 ≤ sizeLine; decide), fun tp ntp => ⟨_, tp, _, .type "bool", [.type "tuple", .type "list"], false, rfl, upd_same, .cons (.ty _) (.cons (.ty _) .nil), .base (.bl b), kitAny_cons (b := false) (kit_ty (by decide +kernel)) (fun _ => kitAny_cons (b := false) (kit_ty (by decide +kernel)) (fun _ => kitAny_nil) (fun z => nomatch z)) (fun z => nomatch z), false, rfl, iteF ?_⟩⟩
    have s1 : Same H (upd H tp (.tup [.ty "tuple", .ty "list"])) := (Same.refl H).put ntp
    refine ⟨_, rfl, rfl, false, rfl, iteF ⟨_, rfl, _, "bool", false, rfl, .bl b, by decide +kernel, false, rfl, iteF ?_⟩⟩
    refine ⟨_, rfl, _, "bool", true, rfl, .bl b, by decide +kernel, true, rfl, iteT ?_⟩
    refine ⟨_, rfl, _, "bool", true, rfl, .bl b, by decide +kernel, _, rfl, _, "bool", true, rfl, .bl b, by decide +kernel, rfl, true, rfl, iteT ?_⟩
    refine ⟨_, rfl, _, rfl, rfl, ?_⟩
    rw [decide_eq_true rfl]
    exact q _ s1
  | int _ i =>
    cases hy
    refine ⟨_, rfl, _, "int", false, rfl, .int i, by decide +kernel, false, rfl, iteF ?_⟩
    refine ⟨_, rfl, (by show 2 ≤ sizeLine; decide), fun tp ntp => ⟨_, tp, _, .type "int", [.type "tuple", .type "list"], false, rfl, upd_same, .cons (.ty _) (.cons (.ty _) .nil), .base (.int i), kitAny_cons (b := false) (kit_ty (by decide +kernel)) (fun _ => kitAny_cons (b := false) (kit_ty (by decide +kernel)) (fun _ => kitAny_nil) (fun z => nomatch z)) (fun z => nomatch z), false, rfl, iteF ?_⟩⟩
    have s1 : Same H (upd H tp (.tup [.ty "tuple", .ty "list"])) := (Same.refl H).put ntp
    refine ⟨_, rfl, rfl, false, rfl, iteF ⟨_, rfl, _, "int", false, rfl, .int i, by decide +kernel, false, rfl, iteF ?_⟩⟩
    refine ⟨_, rfl, _, "int", true, rfl, .int i, by decide +kernel, true, rfl, iteT ?_⟩
    refine ⟨_, rfl, _, "int", false, rfl, .int i, by decide +kernel, _, rfl, _, "int", false, rfl, .int i, by decide +kernel, rfl, true, rfl, iteT ?_⟩
    refine ⟨_, rfl, _, rfl, rfl, ?_⟩
    rw [decide_eq_true rfl]
    exact q _ s1
  | str _ x =>
    cases hy
    refine ⟨_, rfl, _, "str", false, rfl, .str x, by decide +kernel, false, rfl, iteF ?_⟩
    refine ⟨_, rfl, (by show 2 ≤ sizeLine; decide), fun tp ntp => ⟨_, tp, _, .type "str", [.type "tuple", .type "list"], false, rfl, upd_same, .cons (.ty _) (.cons (.ty _) .nil), .base (.str x), kitAny_cons (b := false) (kit_ty (by decide +kernel)) (fun _ => kitAny_cons (b := false) (kit_ty (by decide +kernel)) (fun _ => kitAny_nil) (fun z => nomatch z)) (fun z => nomatch z), false, rfl, iteF ?_⟩⟩
    have s1 : Same H (upd H tp (.tup [.ty "tuple", .ty "list"])) := (Same.refl H).put ntp
    refine ⟨_, rfl, rfl, false, rfl, iteF ⟨_, rfl, _, "str", true, rfl, .str x, by decide +kernel, true, rfl, iteT ?_⟩⟩
    refine ⟨_, rfl, _, rfl, rfl, decide (V.str x = V.str x), rfl, ?_⟩
    rw [decide_eq_true rfl]
    refine iteT ?_
    refine ⟨_, rfl, _, "str", true, rfl, .str x, by decide +kernel, _, rfl, _, "str", true, rfl, .str x, by decide +kernel, rfl, ?_⟩
    exact q _ s1
  | lst e l z all =>
    rename_i p xs ds
    cases hy with
    | lst e2 l2 z2 all2 =>
      rename_i q0 ys
      refine ⟨_, rfl, _, "list", false, rfl, .lst e2, by decide +kernel, false, rfl, iteF ?_⟩
      refine ⟨_, rfl, (by show 2 ≤ sizeLine; decide), fun tp ntp => ?_⟩
      have s1 : Same H (upd H tp (.tup [.ty "tuple", .ty "list"])) := (Same.refl H).put ntp
      refine ⟨_, tp, _, .type "list", [.type "tuple", .type "list"], true, rfl, upd_same, .cons (.ty _) (.cons (.ty _) .nil), .base (.lst (s1 _ _ e2)), kitAny_cons (b := false) (kit_ty (by decide +kernel)) (fun _ => kitAny_cons (b := true) (kit_ty (by decide +kernel)) (fun z => nomatch z) (fun _ => rfl)) (fun z => nomatch z), true, rfl, iteT ?_⟩
      refine ⟨_, rfl, (by show 2 ≤ sizeLine; decide), fun tp2 ntp2 => ?_⟩
      have s2 := s1.put' (o := .tup [.ty "tuple", .ty "list"]) ntp2
      refine ⟨_, tp2, _, .type "list", [.type "tuple", .type "list"], true, rfl, upd_same, .cons (.ty _) (.cons (.ty _) .nil), .base (.lst (s2 _ _ e)), kitAny_cons (b := false) (kit_ty (by decide +kernel)) (fun _ => kitAny_cons (b := true) (kit_ty (by decide +kernel)) (fun z => nomatch z) (fun _ => rfl)) (fun z => nomatch z), true, rfl, iteF ?_⟩
      refine ⟨_, rfl, _, "list", true, rfl, .lst (s2 _ _ e), by decide +kernel, _, rfl, _, "list", true, rfl, .lst (s2 _ _ e2), by decide +kernel, rfl, _, rfl, iteF ?_⟩
      refine ⟨_, rfl, p, _, rfl, .inl (sqL_of (s2 _ _ e)), _, rfl, q0, _, rfl, .inl (sqL_of (s2 _ _ e2)), rfl, _, rfl, ?_⟩
      have el : ((xs.length : Nat) : Int) = (ys.length : Nat) := by rw [l, l2]
      rw [el, decide_eq_true rfl]
      refine iteF ?_
      refine ⟨_, rfl, q0, _, rfl, .inl (sqL_of (s2 _ _ e2)), _, rfl, by omega, by omega, fun D nD => lc_it walk_range (fun i H' => Same H H' ∧ H' D = some (.lst [])) ⟨s2.put' nD, upd_same⟩ (fun _ _ _ _ => trivial) ?_ ?_⟩
      · rintro i y H2 H3 hi ⟨s3, e3⟩ ⟨rfl, hy⟩
        have hy : y = V.int (i : Nat) := by
          rw [hy]
          show V.int (0 + (i : Nat)) = _
          rw [Int.zero_add]
        subst hy
        have hi : i < ys.length := by simpa using hi
        have hix : i < xs.length := by omega
        have hid : i < ds.length := by omega
        refine ⟨rfl, _, rfl, _, rfl, .inl ⟨_, _, (i : Nat), _, rfl, rfl, sqL_of (s3 _ _ e), atI_nat (List.getElem?_eq_getElem hix), ?_⟩⟩
        refine ⟨_, rfl, _, rfl, .inl ⟨_, _, (i : Nat), _, rfl, rfl, sqL_of (s3 _ _ e2), atI_nat (List.getElem?_eq_getElem hi), ?_⟩⟩
        refine ⟨_, _, ds[i], rfl, (all i _ _ (List.getElem?_eq_getElem hix) (List.getElem?_eq_getElem hid)).same s3, (all2 i _ _ (List.getElem?_eq_getElem hi) (List.getElem?_eq_getElem hid)).same s3, fun H4 s4 => ⟨true, rfl, iteF ⟨s3.trans s4, s4 _ _ e3⟩⟩⟩
      · rintro H2 ⟨s3, e3⟩
        refine ⟨Nat.zero_le _, fun p2 np2 => ⟨.list [], .list [], .lst (sqL_of (by rw [upd_ne (ne_of_none e3 np2)]; exact e3)) .nil, .lst sqL_new .nil, rfl, rfl, q _ (s3.put' np2)⟩⟩
  | tup e l z all =>
    rename_i p xs ds
    cases hy with
    | tup e2 l2 z2 all2 =>
      rename_i q0 ys
      refine ⟨_, rfl, _, "tuple", false, rfl, .tup e2, by decide +kernel, false, rfl, iteF ?_⟩
      refine ⟨_, rfl, (by show 2 ≤ sizeLine; decide), fun tp ntp => ?_⟩
      have s1 : Same H (upd H tp (.tup [.ty "tuple", .ty "list"])) := (Same.refl H).put ntp
      refine ⟨_, tp, _, .type "tuple", [.type "tuple", .type "list"], true, rfl, upd_same, .cons (.ty _) (.cons (.ty _) .nil), .base (.tup (s1 _ _ e2)), kitAny_cons (b := true) (kit_ty (by decide +kernel)) (fun z => nomatch z) (fun _ => rfl), true, rfl, iteT ?_⟩
      refine ⟨_, rfl, (by show 2 ≤ sizeLine; decide), fun tp2 ntp2 => ?_⟩
      have s2 := s1.put' (o := .tup [.ty "tuple", .ty "list"]) ntp2
      refine ⟨_, tp2, _, .type "tuple", [.type "tuple", .type "list"], true, rfl, upd_same, .cons (.ty _) (.cons (.ty _) .nil), .base (.tup (s2 _ _ e)), kitAny_cons (b := true) (kit_ty (by decide +kernel)) (fun z => nomatch z) (fun _ => rfl), true, rfl, iteF ?_⟩
      refine ⟨_, rfl, _, "tuple", false, rfl, .tup (s2 _ _ e), by decide +kernel, _, rfl, _, "tuple", false, rfl, .tup (s2 _ _ e2), by decide +kernel, rfl, _, rfl, iteF ?_⟩
      refine ⟨_, rfl, p, _, rfl, .inr (sqT_of (s2 _ _ e)), _, rfl, q0, _, rfl, .inr (sqT_of (s2 _ _ e2)), rfl, _, rfl, ?_⟩
      have el : ((xs.length : Nat) : Int) = (ys.length : Nat) := by rw [l, l2]
      rw [el, decide_eq_true rfl]
      refine iteF ?_
      refine ⟨_, rfl, q0, _, rfl, .inr (sqT_of (s2 _ _ e2)), _, rfl, by omega, by omega, fun D nD => lc_it walk_range (fun i H' => Same H H' ∧ H' D = some (.lst [])) ⟨s2.put' nD, upd_same⟩ (fun _ _ _ _ => trivial) ?_ ?_⟩
      · rintro i y H2 H3 hi ⟨s3, e3⟩ ⟨rfl, hy⟩
        have hy : y = V.int (i : Nat) := by
          rw [hy]
          show V.int (0 + (i : Nat)) = _
          rw [Int.zero_add]
        subst hy
        have hi : i < ys.length := by simpa using hi
        have hix : i < xs.length := by omega
        have hid : i < ds.length := by omega
        refine ⟨rfl, _, rfl, _, rfl, .inr (.inl ⟨_, _, (i : Nat), _, rfl, rfl, sqT_of (s3 _ _ e), atI_nat (List.getElem?_eq_getElem hix), ?_⟩)⟩
        refine ⟨_, rfl, _, rfl, .inr (.inl ⟨_, _, (i : Nat), _, rfl, rfl, sqT_of (s3 _ _ e2), atI_nat (List.getElem?_eq_getElem hi), ?_⟩)⟩
        refine ⟨_, _, ds[i], rfl, (all i _ _ (List.getElem?_eq_getElem hix) (List.getElem?_eq_getElem hid)).same s3, (all2 i _ _ (List.getElem?_eq_getElem hi) (List.getElem?_eq_getElem hid)).same s3, fun H4 s4 => ⟨true, rfl, iteF ⟨s3.trans s4, s4 _ _ e3⟩⟩⟩
      · rintro H2 ⟨s3, e3⟩
        refine ⟨Nat.zero_le _, fun p2 np2 => ⟨.list [], .list [], .lst (sqL_of (by rw [upd_ne (ne_of_none e3 np2)]; exact e3)) .nil, .lst sqL_new .nil, rfl, rfl, q _ (s3.put' np2)⟩⟩
end
end Sc
namespace Sc
open PySem PySem.Spec PyProof.Rows L2
theorem strAt_inj {xs : List Str} {i : Nat} {x : Str} {v : V} (hx : xs[i]? = some x) (h : (xs.map V.str)[i]? = some v) : V.str x = v := by
  rw [List.getElem?_map, hx] at h
  exact Option.some.inj h
theorem find_none {n : Nat} {p : Nat → Bool} (h : ∀ j, j < n → p j = false) : (List.range n).find? p = none := by
  rw [List.find?_eq_none]
  intro j hj
  rw [h j (List.mem_range.mp hj)]
  exact Bool.false_ne_true
theorem find_at {n i : Nat} {p : Nat → Bool} (hi : i < n) (hp : p i = true) (h : ∀ j, j < i → p j = false) : (List.range n).find? p = some i := by
  rw [List.find?_range_eq_some]
  exact ⟨hp, List.mem_range.mpr hi, fun j hj => by rw [h j hj]; rfl⟩
/-- names that texts of a program may have -/
def Txts (xs : List Str) : Prop := ∀ x ∈ xs, x.length ≤ 1000
def errIx (C : Addr) (i : Nat) (H : Hp) (E : XK) : Prop := ∀ H' d, Same H H' → H' d = none → E (.ref C) (some d) (upd H' d (.xd [(("index" : Str), .int i)]))
theorem flat_strs : ∀ xs : List Str, (xs.map V.str).all flatV = true
  | [] => rfl
  | _ :: r => flat_strs r
theorem inV_str {x : Str} : ∀ xs : List Str, inV (.str x) (xs.map V.str) = decide (x ∈ xs)
  | [] => rfl
  | y :: r => by
    show (eqV (.str y) (.str x) || inV (.str x) (r.map V.str)) = _
    rw [inV_str r]
    show ((y == x) || _) = _
    by_cases h : y = x
    · subst h
      simp
    · have e : (y == x) = false := by simpa using h
      rw [e, Bool.false_or]
      simp [List.mem_cons, show ¬ x = y from fun z => h z.symm]
end Sc
namespace Sc
open PySem PySem.Spec PyProof.Rows L2
/-! ### conditions -/
theorem sc_check_part : FnScope ["part", "names", "before", "index", "name", "wrong"] ["part", "names", "before"] (defScope s_check_part) := ⟨rfl, rfl, rfl, by decide +kernel, rfl, by decide +kernel, by decide +kernel⟩
theorem sc_merged : FnScope ["names", "others", "name"] ["names", "others"] (defScope s_merged) := ⟨rfl, rfl, rfl, by decide +kernel, rfl, by decide +kernel, by decide +kernel⟩
theorem filter1 {α : Type} (p : α → Bool) (y : α) : List.filter p [y] = if p y = true then [y] else [] := by cases h : p y <;> simp [List.filter, h]
section
variable {P : Program} {w : World} {K : PySem.W.Frag} {mg : Str → Option Value} {base : Heap} {CC : Addr}
/-- the i-th name of a part is wrong; ys the part ahead of it -/
def wrongAt (xs ys : List Str) (i : Nat) : Bool := match xs[i]? with
  | some x => (!isName x || !risesAt xs i) || (decide (8 ≤ ys.length + i) || decide (x ∈ ys))
  | none => false
def firstWrong (xs ys : List Str) : Option Nat := (List.range xs.length).find? (wrongAt xs ys)
def errPI (C : Addr) (part : Int) (i : Nat) (H : Hp) (E : XK) : Prop := ∀ H' d, Same H H' → H' d = none → E (.ref C) (some d) (upd H' d (.xd [(("index" : Str), .int i), (("part" : Str), .int part)]))
def sp_check_part (K : PySem.W.Frag) (C : Addr) : Sp := fun vs H Q E => ∃ (part : Nat) (a b : Addr) (xs ys : List Str), vs = [.int part, .ref a, .ref b] ∧ part ≤ 1 ∧ SqT K H a (xs.map V.str) ∧ SqT K H b (ys.map V.str) ∧ Txts xs ∧ xs.length ≤ 1000 ∧ ys.length ≤ 1000 ∧
  (firstWrong xs ys = none → ∀ H', Same H H' → Q .non H') ∧ (∀ i, firstWrong xs ys = some i → errPI C part i H E)
theorem ok_check_part {f : Addr} {fd : FuncData} (F : Fun K "check_part" "check_part" s_check_part f fd) (B : Blt mg) (mM : ∃ t, mg "MOST_NAMES" = some (.int 8 t))
    (e_InvalidCondition : ErrMk P w K mg base "InvalidCondition" CC ["self", "part", "index"] (sp_init2 CC "part" "index")) (c_is_name : Cal P w K mg base CX0 1 "is_name" ["value"] sp_is_name) (c_rises : Cal P w K mg base CX0 1 "rises" ["names", "index"] (sp_rises K)) :
    FnOk P w K mg base (L2.CX P w) 3 f fd ["part", "names", "before"] (sp_check_part K CC) := by
  obtain ⟨t1, mM⟩ := mM
  refine F.okX sc_check_part (fun vs H Q E h => by obtain ⟨part, a, b, xs, ys, rfl, _⟩ := h; rfl) (fun cdv A outer s H vs Q E hr h => ?_)
  obtain ⟨part, a, b, xs, ys, rfl, hp, hS, hY, hT, hl, hly, q, e⟩ := h
  refine ⟨_, (pss_one (ps_for (passes_of rfl) rfl (pi_enumT (by rfl) B.b_enumerate (pa_cons (pv 1) pa_nil)) (pg_tup (by rfl) (pgs_cons (pg_name (i := 3) sc_check_part.nd rfl (Or.inl rfl)) (pgs_cons (pg_name (i := 4) sc_check_part.nd rfl (Or.inl rfl)) pgs_nil))) (pss_cons (ps_set (i := 5) sc_check_part.nd rfl (Or.inl rfl) (pe_or (pe_not (pe_cal c_is_name (hr.mono (by decide)) (pa_cons (pv 4) pa_nil))) (pe_one (pe_not (pe_cal c_rises (hr.mono (by decide)) (pa_cons (pv 1) (pa_cons (pv 3) pa_nil)))))))
      (pss_one (ps_if (PW.pt (pw_or (pt_val (pv 5)) (pw_or (pt_cmpR op_ge (pe_op op_add (pe_callB call_len_seq (by rfl) B.b_len PySem.boot_len (pa_cons (pv 2) pa_nil)) (pv 3)) (pe_glob (v := .int 8) rfl mM ⟨_, rfl⟩) (nomark _)) (pw_or1 (pt_cmpR op_in_seq (pv 4) (pv 2) rfl))))) (pss_one (ps_raise rfl (takes_of rfl rfl rfl rfl) (pmk_err2 e_InvalidCondition (hr.mono (by decide)) (pv 0) (pv 3)))) pss_nil))))), ?_⟩
  refine ⟨.ref a, rfl, a, _, rfl, hS, for_it walk_enumT (fun i σ H' => ∃ y1 y2 y3, σ = [some (.int part), some (.ref a), some (.ref b), y1, y2, y3] ∧ Same H H' ∧ ∀ j, j < i → wrongAt xs ys j = false)
    ⟨none, none, none, rfl, Same.refl H, fun j hj => absurd hj (Nat.not_lt_zero j)⟩ (fun i σ H' _ ⟨_, _, _, _, s, _⟩ => s.tup hS) ?_ ?_⟩
  · rintro i x σ H2 H3 hi ⟨y1, y2, y3, rfl, s, hb⟩ ⟨T, v1, v2, rfl, nT, rfl, h1, h2⟩
    obtain rfl : V.int (i : Nat) = v1 := Option.some.inj h1
    rw [List.length_map] at hi
    have hx : xs[i]? = some xs[i] := List.getElem?_eq_getElem hi
    obtain rfl : V.str xs[i] = v2 := strAt_inj hx h2
    have s3 : Same H (upd H2 T (.tup [.int (i : Nat), .str xs[i]])) := s.put' nT
    have rz : ∀ {H' : Hp}, wrongAt xs ys i = true → Same H H' → ∀ d, H' d = none → E (.ref CC) (some d) (upd H' d (.xd [(("index" : Str), .int (i : Nat)), (("part" : Str), .int part)])) := fun {H'} hp sH d nd => e i (find_at hi hp hb) H' d sH nd
    refine ⟨T, [.int (i : Nat), .str xs[i]], rfl, sqT_new, rfl, _, _, rfl, _, _, rfl, rfl, ?_⟩
    have ew : wrongAt xs ys i = ((!isName xs[i] || !risesAt xs i) || (decide (8 ≤ ys.length + i) || decide (xs[i] ∈ ys))) := by unfold wrongAt; rw [hx]
    have fk : FOk (.int part) ∧ FOk (.int (i : Nat)) := ⟨fok_nat (by omega), fok_nat (by omega)⟩
    refine ⟨_, rfl, xs[i], rfl, Nat.le_trans (hT _ (List.getElem_mem hi)) (by rw [sizeLine_eq]; decide), fun H4 s4 => ⟨_, rfl, _, rfl, bcase (fun c1 => ?_) (fun c1 => ?_)⟩⟩
    · exact ⟨_, rfl, _, rfl, iteT (iteT ⟨_, rfl, _, rfl, fk, rz (by rw [ew, c1, Bool.true_or, Bool.true_or]) (s3.trans s4)⟩)⟩
    · have s5 := s3.trans s4
      rw [c1, Bool.false_or] at ew
      refine ⟨.ref a, rfl, .int i, rfl, a, xs, i, rfl, s5.tup hS, hi, _, rfl, ?_⟩
      refine ⟨_, rfl, _, rfl, bcase (fun c2 => ?_) (fun c2 => ?_)⟩
      · exact iteT ⟨_, rfl, _, rfl, fk, rz (by rw [ew, c2, Bool.true_or]) s5⟩
      · rw [c2, Bool.false_or] at ew
        refine ⟨.ref b, rfl, b, _, rfl, .inr (s5.tup hY), .int i, rfl, _, i, rfl, rfl, _, 8, rfl, rfl, _, rfl, ?_⟩
        rw [List.length_map]
        by_cases h8 : 8 ≤ ys.length + i
        · rw [decide_eq_true (show (8 : Int) ≤ (ys.length : Int) + (i : Int) by omega)]
          exact iteT (iteT ⟨_, rfl, _, rfl, fk, rz (by rw [ew, decide_eq_true h8, Bool.true_or]) s5⟩)
        · rw [decide_eq_false (show ¬ (8 : Int) ≤ (ys.length : Int) + (i : Int) by omega)]
          rw [decide_eq_false h8, Bool.false_or] at ew
          refine iteF ⟨.str xs[i], rfl, .ref b, rfl, b, _, rfl, .inr (s5.tup hY), rfl, flat_strs ys, _, rfl, bcase (fun c3 => ?_) (fun c3 => ?_)⟩
          · have c3 : decide (xs[i] ∈ ys) = true := by rw [← inV_str]; exact c3
            exact ⟨_, rfl, _, rfl, fk, rz (by rw [ew, c3]) s5⟩
          · have c3 : decide (xs[i] ∈ ys) = false := by rw [← inV_str]; exact c3
            refine ⟨_, _, _, rfl, s5, fun j hj => ?_⟩
            by_cases hj2 : j < i
            · exact hb j hj2
            · have ej : j = i := by omega
              subst ej
              rw [ew, c3]
  · rintro σ H2 ⟨y1, y2, y3, rfl, s, hb⟩
    rw [List.length_map] at hb
    exact q (find_none hb) H2 s
def sp_merged (K : PySem.W.Frag) : Sp := fun vs H Q _ => ∃ (a b : Addr) (xs ys : List Str), vs = [.ref a, .ref b] ∧ SqT K H a (xs.map V.str) ∧ SqT K H b (ys.map V.str) ∧ xs.length + ys.length < 64 ∧
  ∀ H' p (zs : List Str), Same H H' → H' p = some (.tup (zs.map V.str)) → zs.Perm (xs ++ ys.filter fun y => !decide (y ∈ xs)) → sortedS zs = true → Q (.ref p) H'
theorem ok_merged {f : Addr} {fd : FuncData} (F : Fun K "merged" "merged" s_merged f fd) (B : Blt mg) : FnOk P w K mg base CX0 1 f fd ["names", "others"] (sp_merged K) := by
  refine F.ok sc_merged (fun vs H Q E h => by obtain ⟨a, b, xs, ys, rfl, _⟩ := h; rfl) (fun cdv A outer s H vs Q E hr h => ?_)
  obtain ⟨a, b, xs, ys, rfl, hS, hY, hl, q⟩ := h
  refine ⟨_, (pss_one (ps_ret (pe_callTy call_tuple_of (by rfl) B.b_tuple PyProof.Rows.boot_tuple (pa_cons (pe_callB cr_sortedS (by rfl) B.b_sorted (by decide +kernel) (pa_cons (pe_op op_cat (pe_callTy call_list_of (by rfl) B.b_list PyProof.Rows.boot_list (pa_cons (pv 0) pa_nil)) (pe_lc (own := [("name", 2)]) (g := gName 2) rfl sc_merged.nd (pi_tup (pv 1)) (blkOk_by (own := [("name", 2)]) (N := ["names", "others", "name"]) (sc := defScope s_merged) (by decide +kernel)) (fun _ _ _ _ _ => (pg_name (i := 2) sc_merged.nd rfl (Or.inl rfl))) (fun _ _ _ _ _ => (pts_.re (pts_one (pt_cmpR op_notIn_seq (pv 2) (pv 0) rfl)) (by first | (dsimp only [Cx.blk]; done) | exact rfl))) (fun _ _ _ _ _ => (pe_.re (pv 2) (by first | (dsimp only [Cx.blk]; done) | exact rfl))))) pa_nil)) pa_nil)))), ?_⟩
  have big : ∀ {m : Nat}, m ≤ 1000 → m ≤ sizeLine := fun {m} h => by rw [sizeLine_eq]; omega
  refine ⟨.ref a, rfl, a, _, rfl, .inr hS, fun l nl => ?_⟩
  have s1 := (Same.refl H).put (o := .lst (xs.map V.str)) nl
  have e1 : (upd H l (.lst (xs.map V.str))) l = some (.lst (xs.map V.str)) := upd_same
  generalize upd H l (.lst (xs.map V.str)) = H1 at s1 e1 ⊢
  refine ⟨.ref b, rfl, b, rfl, ⟨_, s1.tup hY⟩, fun D nD => lc_it walk_tup (fun i H' => Same H1 H' ∧ H' D = some (.lst (((ys.take i).filter fun y => !decide (y ∈ xs)).map V.str))) ⟨(Same.refl H1).put nD, upd_same⟩ (fun _ _ _ h => (s1.trans h.1).tup hY) ?_ ?_⟩
  · rintro i y H2 H3 hi ⟨s, e⟩ ⟨rfl, hy⟩
    rw [List.length_map] at hi
    have hx : ys[i]? = some ys[i] := List.getElem?_eq_getElem hi
    obtain rfl : V.str ys[i] = y := strAt_inj hx hy
    refine ⟨rfl, .str ys[i], rfl, .ref a, rfl, a, _, rfl, .inr ((s1.trans s).tup hS), rfl, flat_strs xs, _, rfl, bcase (fun c1 => ?_) (fun c1 => ?_)⟩
    · have c1 : (!decide (ys[i] ∈ xs)) = true := by rw [← inV_str]; exact c1
      refine ⟨_, rfl, grow (acc := fun i => ((ys.take i).filter fun y => !decide (y ∈ xs)).map V.str) nD s e ?_ ?_⟩
      · rw [List.length_map]
        refine small1000 (Nat.le_trans (List.length_filter_le _ _) ?_)
        rw [List.length_take]
        omega
      · show List.map V.str _ = _
        rw [take_more hx, List.filter_append, List.map_append, filter1, if_pos c1]
        rfl
    · have c1 : (!decide (ys[i] ∈ xs)) = false := by rw [← inV_str]; exact c1
      refine ⟨s, ?_⟩
      rw [take_more hx, List.filter_append, filter1, if_neg (by rw [c1]; exact Bool.false_ne_true), List.append_nil]
      exact e
  · rintro H2 ⟨s, e⟩
    rw [List.length_map, List.take_length] at e
    have hfl := List.length_filter_le (fun y => !decide (y ∈ xs)) ys
    refine ⟨l, D, _, _, rfl, rfl, s _ _ e1, e, big (by rw [List.length_map, List.length_map]; omega), fun p np => ?_⟩
    have s2 := (s1.trans s).put' (o := .lst (xs.map V.str ++ (ys.filter fun y => !decide (y ∈ xs)).map V.str)) np
    refine ⟨p, xs ++ ys.filter fun y => !decide (y ∈ xs), rfl, ?_, ?_, fun zs p2 hp hs np2 => ?_⟩
    · rw [List.map_append]
      exact sqL_new
    · rw [List.length_append]
      omega
    · refine ⟨p2, _, rfl, .inl ⟨sqL_new, fun p3 np3 => q _ p3 zs ((s2.put' np2).put' np3) upd_same hp hs⟩⟩
end
end Sc
namespace Sc
open PySem PySem.Spec PyProof.Rows L2
/-! ### an object Condition -/
theorem sc_Condition___init__ : FnScope ["self", "holding", "failing"] ["self", "holding", "failing"] (defScope s_Condition___init__) := ⟨rfl, rfl, rfl, by decide +kernel, rfl, by decide +kernel, by decide +kernel⟩
section
variable {P : Program} {w : World} {K : PySem.W.Frag} {mg : Str → Option Value} {base : Heap} {CC C : Addr}
theorem wrongs_none {xs ys : List Str} (h : firstWrong xs ys = none) (i : Nat) (hi : i < xs.length) : ((!isName xs[i] || !risesAt xs i) = false ∧ ¬ 8 ≤ ys.length + i) ∧ ¬ xs[i] ∈ ys := by
  unfold firstWrong at h
  rw [List.find?_eq_none] at h
  have h := (Bool.not_eq_true _).mp (h i (List.mem_range.mpr hi))
  unfold wrongAt at h
  rw [List.getElem?_eq_getElem hi] at h
  dsimp only at h
  rw [Bool.or_eq_false_iff, Bool.or_eq_false_iff (x := decide _)] at h
  exact ⟨⟨h.1, of_decide_eq_false h.2.1⟩, of_decide_eq_false h.2.2⟩
theorem fw_len {xs ys : List Str} (h : firstWrong xs ys = none) : xs.length = 0 ∨ ys.length + xs.length ≤ 8 := by
  by_cases e : xs.length = 0
  · exact .inl e
  · have := (wrongs_none h (xs.length - 1) (by omega)).1.2
    exact .inr (by omega)
theorem fw_out {xs ys : List Str} (h : firstWrong xs ys = none) : ∀ x ∈ xs, ¬ x ∈ ys := by
  intro x hx
  obtain ⟨i, hi, rfl⟩ := List.getElem_of_mem hx
  exact (wrongs_none h i hi).2
theorem filter_out {xs ys : List Str} (h : ∀ x ∈ xs, ¬ x ∈ ys) : xs.filter (fun x => !decide (x ∈ ys)) = xs := by
  rw [List.filter_eq_self]
  intro x hx
  rw [decide_eq_false (h x hx)]
  rfl
/-- all but the object at x stands -/
def SameX (x : Addr) (H H' : Hp) : Prop := ∀ b o, b ≠ x → H b = some o → H' b = some o
/-- the fields of a condition -/
def condF (a b n : Addr) : List (Str × V) := putF "_names" (.ref n) (putF "_failing" (.ref b) (putF "_holding" (.ref a) []))
def sp_cond_init (K : PySem.W.Frag) (C CC : Addr) : Sp := fun vs H Q E => ∃ (x dx a b : Addr) (xs ys : List Str), vs = [.ref x, .ref a, .ref b] ∧ H x = some (.ins C dx []) ∧ SqT K H a (xs.map V.str) ∧ SqT K H b (ys.map V.str) ∧ Txts xs ∧ Txts ys ∧ xs.length ≤ 1000 ∧ ys.length ≤ 1000 ∧
  (∀ i, firstWrong xs [] = some i → errPI CC ((0 : Nat) : Int) i H E) ∧ (firstWrong xs [] = none → (∀ i, firstWrong ys xs = some i → errPI CC ((1 : Nat) : Int) i H E) ∧
  (firstWrong ys xs = none → ∀ H' n zs, SameX x H H' → H' x = some (.ins C dx (condF a b n)) → H' n = some (.tup (zs.map V.str)) → zs.Perm (xs ++ ys) → sortedS zs = true → Q .non H'))
theorem sqT_upd {H : Hp} {x dx a' : Addr} {fs : List (Str × V)} {o : HO} {vs : List V} (hx : H x = some (.ins C dx fs)) (h : SqT K H a' vs) : SqT K (upd H x o) a' vs := by
  rcases h with (h | ⟨ob, h⟩) | h
  · have ne : a' ≠ x := fun e => by rw [e, hx] at h; cases h
    exact .inl (.inl (by rw [upd_ne ne]; exact h))
  · have ne : a' ≠ x := fun e => by rw [e, hx] at h; cases h
    exact .inl (.inr ⟨ob, by rw [upd_ne ne]; exact h⟩)
  · exact .inr h
theorem putF_len (f : Str) (v : V) : ∀ fs : List (Str × V), (putF f v fs).length ≤ fs.length + 1
  | [] => Nat.le_refl 1
  | (g, x) :: r => by
    unfold putF
    split
    · exact Nat.le_succ _
    · show (putF f v r).length + 1 ≤ r.length + 1 + 1
      exact Nat.succ_le_succ (putF_len f v r)
theorem ok_cond_init {f : Addr} {fd : FuncData} (F : Fun K "__init__" "Condition.__init__" s_Condition___init__ f fd) (B : Blt mg) (T : Cls K C) (n1 : NoAttr K C "_holding") (n2 : NoAttr K C "_failing") (n3 : NoAttr K C "_names")
    (c_check_part : Cal P w K mg base (L2.CX P w) 3 "check_part" ["part", "names", "before"] (sp_check_part K CC)) (c_merged : Cal P w K mg base CX0 1 "merged" ["names", "others"] (sp_merged K)) :
    FnOk P w K mg base (L2.CX P w) 4 f fd ["self", "holding", "failing"] (sp_cond_init K C CC) := by
  refine F.okX sc_Condition___init__ (fun vs H Q E h => by obtain ⟨x, dx, a, b, xs, ys, rfl, _⟩ := h; rfl) (fun cdv A outer s H vs Q E hr h => ?_)
  obtain ⟨x, dx, a, b, xs, ys, rfl, hx, hA, hB, tA, tB, lA, lB, e0, q⟩ := h
  refine ⟨_, (pss_cons (ps_expr (pe_calX c_check_part (hr.mono (by decide)) (takes_of rfl rfl rfl rfl) (pa_cons pe_int (pa_cons (pv 1) (pa_cons (pe_tup pa_nil) pa_nil)))))
      (pss_cons (ps_expr (pe_calX c_check_part (hr.mono (by decide)) (takes_of rfl rfl rfl rfl) (pa_cons pe_int (pa_cons (pv 2) (pa_cons (pv 1) pa_nil)))))
      (pss_cons (ps_fld (pv 0) (pv 1) rfl)
      (pss_cons (ps_fld (pv 0) (pv 2) rfl)
      (pss_one (ps_fld (pv 0) (pe_cal c_merged (hr.mono (by decide)) (pa_cons (pv 1) (pa_cons (pv 2) pa_nil))) rfl)))))), ?_⟩
  refine ⟨.ref a, rfl, Nat.zero_le _, fun t nt => ⟨0, a, t, xs, [], rfl, by decide, ((Same.refl H).put nt).tup hA, sqT_new, tA, lA, by decide, fun e1 H1 s1 => ?_, fun i ei H' d sH nd => e0 i ei H' d (((Same.refl H).put nt).trans sH) nd⟩⟩
  obtain ⟨e1', q⟩ := q e1
  have s1 := ((Same.refl H).put nt).trans s1
  refine ⟨.ref b, rfl, .ref a, rfl, 1, b, a, ys, xs, rfl, by decide, s1.tup hB, s1.tup hA, tB, lB, lA, fun e2 H2 s2 => ?_, fun i ei H' d sH nd => e1' i ei H' d (s1.trans sH) nd⟩
  have s2 := s1.trans s2
  have q := q e2
  have hlen : xs.length + ys.length < 64 := by
    have h1 := fw_len e1
    have h2 := fw_len e2
    simp only [List.length_nil] at h1
    omega
  have hx2 := s2 _ _ hx
  refine ⟨.ref a, rfl, .ref x, rfl, x, C, dx, [], rfl, hx2, T, n1, by decide, ?_⟩
  refine ⟨.ref b, rfl, .ref x, rfl, x, C, dx, _, rfl, upd_same, T, n2, Nat.lt_of_le_of_lt (putF_len _ _ _) (by decide), ?_⟩
  refine ⟨.ref a, rfl, .ref b, rfl, a, b, xs, ys, rfl, ?_, ?_, hlen, fun H' p zs sH ep hperm hsort => ?_⟩
  · exact sqT_upd upd_same (sqT_upd hx2 (s2.tup hA))
  · exact sqT_upd upd_same (sqT_upd hx2 (s2.tup hB))
  · rw [filter_out (fw_out e2)] at hperm
    refine ⟨.ref x, rfl, x, C, dx, _, rfl, sH _ _ upd_same, T, n3, Nat.lt_of_le_of_lt (putF_len _ _ _) (Nat.lt_of_le_of_lt (Nat.succ_le_succ (putF_len _ _ _)) (by decide)), q _ p zs (fun b' o ne hb => ?_) upd_same ?_ hperm hsort⟩
    · rw [upd_ne ne]
      refine sH _ _ ?_
      rw [upd_ne ne, upd_ne ne]
      exact s2 _ _ hb
    · have ne : p ≠ x := fun e => by
        have h2 := sH _ _ (upd_same (H := upd H2 x (.ins C dx (putF "_holding" (.ref a) []))) (a := x) (o := .ins C dx (putF "_failing" (.ref b) (putF "_holding" (.ref a) []))))
        rw [e, h2] at ep
        cases ep
      rw [upd_ne ne]
      exact ep
end
end Sc
namespace Sc
open PySem PySem.Spec PyProof.Rows L2
/-- len(o), o an object whose class has its own __len__ -/
def rLenO (C : Addr) (sp : Sp) : List V → Hp → VK → Prop := fun xs H Q => ∃ (a dx : Addr) (fs : List (Str × V)), xs = [.ref a] ∧ H a = some (.ins C dx fs) ∧ sp [.ref a] H (fun v H' => ∃ n : Nat, v = .int n ∧ n < 2 ^ 62 ∧ Q (.int n) H') (fun _ _ _ => False)
theorem call_lenO {X : Cx} {C g : Addr} {k : Nat} {fd : FuncData} {ps : List Str} {sp : Sp} (at_ : PySem.W.findIn X.K (.ref C) "__len__" = some (some (.ref g))) (ty : PySem.W.typeIn X.K (.ref g) = some (.type "function"))
    (F : FnOk X.prog X.w X.K X.mg X.base CX0 k g fd ps sp) (hr : Room (k + 1) X.A) (hb : Binds X.K fd ps []) : CallR X (.builtin "len") (rLenO C sp) := by
  intro pins s σ H xs us Q I r h
  obtain ⟨a, dx, fs, rfl, ea, h⟩ := h
  obtain ⟨u, rfl, ru⟩ := vals1 r
  obtain rfl : u = Value.ref a := ru
  obtain ⟨mA, O, _⟩ := ins_get I.hok ea
  obtain ⟨od, J, _⟩ := ObjM.look O
  have hl : ([Value.ref a] ++ ([] : List Value)).length = ps.length := F.len _ _ _ _ h
  refine Calls.call_function_entry kind_len plain_len entry_len (args_len1 (.ref a)) ?_
  unfold Builtin.len
  rw [show oneArg "len" { pos := [Value.ref a] } = pure (.ref a) from rfl, pure_bind]
  refine wpAny_bind (PySem.W.special_fn I.kIn J at_ ty (wpAny_call (codeAny_mono (F.run X.A.in1 X.stack s H ⟨[.ref a], []⟩ [.ref a] [.ref a] _ _ (Room.in1 hr) (Env0.in1 I.env0) (hb s [.ref a] I.kIn hl) (Paired.cons rfl .nil) h) fun res s' hq => ?_)))
  cases res with
  | error e => exact hq.elim
  | ok fl =>
    cases fl with
    | ret v =>
      obtain ⟨y, H', I', ry, n, rfl, hn, q⟩ := I.after hq
      obtain ⟨t, rfl⟩ := ry
      dsimp only
      have e62 : (2 : Nat) ^ 62 < 2 ^ 63 := by decide
      refine wpAny_bind (wpAny_holding (wpAny_pure (wpAny_bind (wpAny_letGo ?_))))
      have h1 : ¬ (n : Int) < 0 := by omega
      have h2 : ¬ (n : Int) ≥ 2 ^ 63 := by
        have : (n : Int) < 2 ^ 62 := by exact_mod_cast hn
        omega
      rw [if_neg h1, if_neg h2]
      exact wpAny_bind (wpAny_mkInt (wpAny_pure ⟨_, rfl, .int n, H', I'.tok _, ⟨_, rfl⟩, q⟩))
    | next => exact hq.elim
    | brk => exact hq.elim
    | cont => exact hq.elim
end Sc
namespace Sc
open PySem PySem.Spec PyProof.Rows L2
section
variable {P : Program} {w : World} {K : PySem.W.Frag} {mg : Str → Option Value} {base : Heap} {a l : Addr} {H H' H'' : Hp}
theorem wk_ss {X : Cx} {st : List Stmt} {t : TS} (t' : TS) (h : PSs X st t) (w : ∀ D σ H, t' D σ H → t D σ H) : PSs X st t' := ⟨fun pins s σ H D I x => h.run pins s σ H D I (w D σ H x)⟩
/-- a class whose objects a def of its own makes -/
structure Mkr (P : Program) (w : World) (K : PySem.W.Frag) (mg : Str → Option Value) (base : Heap) (k : Nat) (x : Str) (C : Addr) (ps : List Str) (sp : Sp) : Prop where
  ex : ∃ (f : Addr) (fd : FuncData), Mk K C f ∧ FnOk P w K mg base (L2.CX P w) k f fd ps sp ∧ mg x = some (.ref C) ∧ Binds K fd ps []
section
variable {X : Cx} {k : Nat} {x : Str} {C : Addr} {ps : List Str} {sp : Sp} {e : Expr} {es : List Expr} {t : TA} {p pos : Pos}
theorem pe_mkN (M : Mkr X.prog X.w X.K X.mg X.base k x C ps sp) (hr : Room (k + 1) X.A) (ha : PA X (e :: es) t) (hg : Gl X x := by rfl) (hdb : (x == ("__debug__" : Str)) = false := by decide)
    (he : starEach (e :: es) X.env = (false, eval e X.env) :: starEach es X.env := by rfl) (hpl : (backTo pos (starEach es X.env)).any (·.1) = false := by rfl) : PE X (.Call (.Name x p) (e :: es) [] pos) (tMake C sp [] E0 t) := by
  obtain ⟨f, fd, hk, F, hm, hb⟩ := M.ex
  exact pe_make hk F hr hg hm hb .nil passL ha hdb he hpl
theorem pe_mkX {E : XK} (M : Mkr X.prog X.w X.K X.mg X.base k x C ps sp) (hr : Room (k + 1) X.A) (tk : Takes X (fun cls d _ H => E cls d H)) (ha : PA X (e :: es) t) (hg : Gl X x := by rfl) (hdb : (x == ("__debug__" : Str)) = false := by decide)
    (he : starEach (e :: es) X.env = (false, eval e X.env) :: starEach es X.env := by rfl) (hpl : (backTo pos (starEach es X.env)).any (·.1) = false := by rfl) : PE X (.Call (.Name x p) (e :: es) [] pos) (tMake C sp [] E t) := by
  obtain ⟨f, fd, hk, F, hm, hb⟩ := M.ex
  exact pe_make hk F hr hg hm hb .nil (fun pins σ H s e s' I h => passAt tk σ pins H s e s' I h) ha hdb he hpl
end
def sp_prop (C : Addr) (n : Str) : Sp := fun vs H Q _ => ∃ (x dx : Addr) (fs : List (Str × V)) (v : V), vs = [.ref x] ∧ H x = some (.ins C dx fs) ∧ fs.lookup n = some v ∧ Q v H
def sp_len (K : PySem.W.Frag) (C : Addr) : Sp := fun vs H Q _ => ∃ (x dx n : Addr) (fs : List (Str × V)) (zs : List V), vs = [.ref x] ∧ H x = some (.ins C dx fs) ∧ fs.lookup ("_names" : Str) = some (.ref n) ∧ SqT K H n zs ∧ Q (.int zs.length) H
structure CondC (P : Program) (w : World) (K : PySem.W.Frag) (mg : Str → Option Value) (base : Heap) (C p1 g1 p2 g2 p3 g3 g4 : Addr) (fd1 fd2 fd3 fd4 : FuncData) : Prop where
  cls : Cls K C
  p_holding : PropOf K C "holding" p1 g1 ∧ FnOk P w K mg base CX0 1 g1 fd1 ["self"] (sp_prop C "_holding") ∧ Binds K fd1 ["self"] []
  p_failing : PropOf K C "failing" p2 g2 ∧ FnOk P w K mg base CX0 1 g2 fd2 ["self"] (sp_prop C "_failing") ∧ Binds K fd2 ["self"] []
  p_names : PropOf K C "names" p3 g3 ∧ FnOk P w K mg base CX0 1 g3 fd3 ["self"] (sp_prop C "_names") ∧ Binds K fd3 ["self"] []
  lenAt : PySem.W.findIn K (.ref C) "__len__" = some (some (.ref g4))
  lenTy : PySem.W.typeIn K (.ref g4) = some (.type "function")
  lenF : FnOk P w K mg base CX0 1 g4 fd4 ["self"] (sp_len K C)
  lenB : Binds K fd4 ["self"] []
end
end Sc
namespace Sc
open PySem PySem.Spec PyProof.Rows L2
theorem sc_Condition_holding : FnScope ["self"] ["self"] (defScope s_Condition_holding) := ⟨rfl, rfl, rfl, by decide +kernel, rfl, by decide +kernel, by decide +kernel⟩
theorem sc_Condition_failing : FnScope ["self"] ["self"] (defScope s_Condition_failing) := ⟨rfl, rfl, rfl, by decide +kernel, rfl, by decide +kernel, by decide +kernel⟩
theorem sc_Condition_names : FnScope ["self"] ["self"] (defScope s_Condition_names) := ⟨rfl, rfl, rfl, by decide +kernel, rfl, by decide +kernel, by decide +kernel⟩
theorem sc_Condition___len__ : FnScope ["self"] ["self"] (defScope s_Condition___len__) := ⟨rfl, rfl, rfl, by decide +kernel, rfl, by decide +kernel, by decide +kernel⟩
section
variable {P : Program} {w : World} {K : PySem.W.Frag} {mg : Str → Option Value} {base : Heap} {C : Addr}
theorem ok_holding {f : Addr} {fd : FuncData} (F : Fun K "holding" "Condition.holding" s_Condition_holding f fd) (T : Cls K C) (n : NoAttr K C "_holding") : FnOk P w K mg base CX0 1 f fd ["self"] (sp_prop C "_holding") := by
  refine F.ok sc_Condition_holding (fun vs H Q E h => by obtain ⟨x, dx, fs, v, rfl, _⟩ := h; rfl) (fun cdv A outer s H vs Q E hr h => ?_)
  obtain ⟨x, dx, fs, v, rfl, hx, hl, q⟩ := h
  exact ⟨_, (pss_one (ps_ret (pe_fld (pv 0) rfl))), ⟨_, rfl, x, C, dx, fs, v, rfl, hx, T, n, hl, q⟩⟩
theorem ok_failing {f : Addr} {fd : FuncData} (F : Fun K "failing" "Condition.failing" s_Condition_failing f fd) (T : Cls K C) (n : NoAttr K C "_failing") : FnOk P w K mg base CX0 1 f fd ["self"] (sp_prop C "_failing") := by
  refine F.ok sc_Condition_failing (fun vs H Q E h => by obtain ⟨x, dx, fs, v, rfl, _⟩ := h; rfl) (fun cdv A outer s H vs Q E hr h => ?_)
  obtain ⟨x, dx, fs, v, rfl, hx, hl, q⟩ := h
  exact ⟨_, (pss_one (ps_ret (pe_fld (pv 0) rfl))), ⟨_, rfl, x, C, dx, fs, v, rfl, hx, T, n, hl, q⟩⟩
theorem ok_cnames {f : Addr} {fd : FuncData} (F : Fun K "names" "Condition.names" s_Condition_names f fd) (T : Cls K C) (n : NoAttr K C "_names") : FnOk P w K mg base CX0 1 f fd ["self"] (sp_prop C "_names") := by
  refine F.ok sc_Condition_names (fun vs H Q E h => by obtain ⟨x, dx, fs, v, rfl, _⟩ := h; rfl) (fun cdv A outer s H vs Q E hr h => ?_)
  obtain ⟨x, dx, fs, v, rfl, hx, hl, q⟩ := h
  exact ⟨_, (pss_one (ps_ret (pe_fld (pv 0) rfl))), ⟨_, rfl, x, C, dx, fs, v, rfl, hx, T, n, hl, q⟩⟩
theorem ok_clen {f : Addr} {fd : FuncData} (F : Fun K "__len__" "Condition.__len__" s_Condition___len__ f fd) (B : Blt mg) (T : Cls K C) (n : NoAttr K C "_names") : FnOk P w K mg base CX0 1 f fd ["self"] (sp_len K C) := by
  refine F.ok sc_Condition___len__ (fun vs H Q E h => by obtain ⟨x, dx, m, fs, zs, rfl, _⟩ := h; rfl) (fun cdv A outer s H vs Q E hr h => ?_)
  obtain ⟨x, dx, m, fs, zs, rfl, hx, hl, hz, q⟩ := h
  exact ⟨_, (pss_one (ps_ret (pe_callB call_len_seq (by rfl) B.b_len PySem.boot_len (pa_cons (pe_fld (pv 0) rfl) pa_nil)))), ⟨_, rfl, x, C, dx, fs, _, rfl, hx, T, n, hl, m, _, rfl, .inr hz, q⟩⟩
end
end Sc
namespace Sc
open PySem PySem.Spec PyProof.Rows L2
def SLe (a b : Str) : Prop := a.cps.toList ≤ b.cps.toList
theorem rising_pw : ∀ (x : Str) (r : List Str), risingS x r = true → (∀ y ∈ r, SLe x y) ∧ r.Pairwise SLe
  | _, [], _ => ⟨(fun _ h => nomatch h), List.Pairwise.nil⟩
  | x, y :: r, h => by
    have h : (!ltCps y.cps.toList x.cps.toList && risingS y r) = true := h
    rw [Bool.and_eq_true, ltCps_eq] at h
    obtain ⟨h1, h2⟩ := h
    obtain ⟨i1, i2⟩ := rising_pw y r h2
    have hxy : SLe x y := by
      have h1 : ¬ y.cps.toList < x.cps.toList := by simpa using h1
      exact h1
    refine ⟨fun z hz => ?_, List.pairwise_cons.mpr ⟨i1, i2⟩⟩
    rcases List.mem_cons.mp hz with rfl | h
    · exact hxy
    · exact List.le_trans hxy (i1 z h)
theorem sorted_pw : ∀ {r : List Str}, sortedS r = true → r.Pairwise SLe
  | [], _ => .nil
  | x :: r, h => List.pairwise_cons.mpr (rising_pw x r h)
theorem str_ext {a b : Str} (h : a.cps.toList = b.cps.toList) : a = b := by
  obtain ⟨x⟩ := a
  obtain ⟨y⟩ := b
  congr 1
  exact Array.toList_inj.mp h
theorem sorted_uniq {a b : List Str} (p : a.Perm b) (sa : sortedS a = true) (sb : sortedS b = true) : a = b :=
  List.Perm.eq_of_pairwise (le := SLe) (fun x y _ _ h1 h2 => str_ext (List.le_antisymm h1 h2)) (sorted_pw sa) (sorted_pw sb) p
end Sc
namespace OwnX
open PySem PySem.Spec PyProof.Rows PySem.W
section
variable {prog : Program} {w : World} {M : Model} {A : Around} {E : Value → Shared → Prop} {s : Shared} {K : Frag} {x C L f : Addr} {h₀ : Heap} {m : Str → Option Value} {ox : Obj} {od : Option Obj}
/-- x op b, both of the class at C -/
theorem bin_same {op : Operator} {b : Value} {Q : Value → Shared → Prop} (X : K.In s.heap) (I : InstAt s.heap x ox C od) (hb : Looks (model prog w) s.heap (typeOf b) (.ref C)) (hc : selfFirst K C = true)
    (hs : findIn K (.ref C) (PySem.dunder op.info.2) = some (some (.ref f))) (hf : isFn K (.ref f) = true)
    (h : wpAny (model prog w) A (call (.ref f) [.ref x, b]) (PySem.W.CmpBack Q) E s) : wpAny (model prog w) A (binaryOp op (.ref x) b) Q E s := by
  obtain ⟨cd, rest, hcd, hm⟩ := ksp_first hc
  rcases hi : op.info with ⟨sym, nm'⟩
  rw [hi] at hs
  dsimp only at hs
  have one := ksp_try X I hs hf h
  obtain ⟨hh, g, d, tt, os⟩ := s
  have L1 : Looks (model prog w) hh (typeOf (.ref x)) (.ref C) := I.type
  have L3 : Looks (model prog w) hh (fillsNumberSlot (.ref C) nm') true := fills_K X hcd hm hs
  simp only [binaryOp, hi]
  refine wpAny_holding (wpAny_bind ?_)
  unfold binaryOp1
  refine wpAny_bind (L1.at (wpAny_bind (hb.at (wpAny_bind (L3.at ?_)))))
  have e : (Value.ref C == Value.ref C) = true := beq_self_eq_true _
  simp only [e, if_true]
  ksp_lk
  refine wpAny_mono one (fun r s' hr' => ?_) fun _ _ e => e
  obtain ⟨v, rfl, hq⟩ := hr'
  ksp_lk
  exact hq
theorem ifBound_ne {args : List Value} {Q : Option Value → Shared → Prop} (X : K.In s.heap) (I : InstAt s.heap x ox C od) (hs : findIn K (.ref C) "__ne__" = some (some (.builtin "object.__ne__")))
    (h : wpAny M A (call (.builtin "object.__ne__") (.ref x :: args)) (fun v => Q (some v)) E s) : wpAny M A (callSpecialIfBound? (.ref x) "__ne__" args) Q E s := by
  simp only [callSpecialIfBound?, bindSpecialIfBound?]
  refine wpAny_holding (wpAny_bind (wpAny_bind (wpAny_bind (I.type.here ((looks_findIn X hs).here ?_)))))
  refine wpAny_bind (wpAny_askSetting (wpAny_ite ?_))
  have fin : wpAny M A (call (.builtin "object.__ne__") ([.ref x] ++ args) >>= fun v => pure (some v)) Q E s := wpAny_bind (wpAny_mono h (fun v s' h' => wpAny_pure h') fun _ _ h' => h')
  split
  · exact wpAny_bind (wpAny_of_eq (F.cmp_object.ne.bind _) (wpAny_pure (by exact fin)))
  · exact wpAny_tryCatch (wpAny_bind (wpAny_of_eq (F.cmp_object.ne.bind _) (wpAny_pure (by exact fin))))
theorem entry_ne {b : Value} {Q : Fin → Shared → Prop} (X : K.In s.heap) (I : InstAt s.heap x ox C od) (hs : findIn K (.ref C) "__eq__" = some (some (.ref f))) (hf : isFn K (.ref f) = true) (hu : A.units < cLine)
    (h : wpAny (model prog w) A (call (.ref f) [.ref x, b]) (fun v s' => ∃ b, v = .bool b ∧ Q (.done (.ret (.bool (!b)))) s') E s) : wpAny (model prog w) A (Builtin.«object.__ne__» ⟨[.ref x, b], []⟩) Q E s := by
  unfold Builtin.«object.__ne__»
  repeat (first
    | with_reducible refine wpAny_cRoomFor hu ?_
    | (refine wpAny_bind (m := callSpecialIfBound? (.ref x) (Str.ofString "__eq__") [b])
        (ifBound_K X I hs hf (wpAny_mono h (fun r s' hr => by
          obtain ⟨b, rfl, hq⟩ := hr
          repeat (first | exact hq | exact wpAny_pure hq | exact wpAny_truthy_bool hq | (refine wpAny_bind (m := truthy (.bool _)) (wpAny_truthy_bool ?_)) | wp_step)) fun _ _ e => e)))
    | wp_step)
theorem try_ne {b : Value} {Q : Option Value → Shared → Prop} (X : K.In s.heap) (I : InstAt s.heap x ox C od) (hm : mroIn K C (.type "object") = some true) (hn : findIn K (.ref C) "__ne__" = some (some (.builtin "object.__ne__")))
    (hs : findIn K (.ref C) "__eq__" = some (some (.ref f))) (hf : isFn K (.ref f) = true) (hu : A.units + 1 < cLine)
    (h : wpAny (model prog w) A.in1 (call (.ref f) [.ref x, b]) (fun v s' => ∃ b, v = .bool b ∧ Q (some (.bool (!b))) s') E s) : wpAny (model prog w) A (tryCompare (.ref x) "__ne__" b) Q E s := by
  unfold tryCompare
  refine wpAny_bind (ifBound_ne X I hn (wpAny_call (codeAny_call_builtin F.cmp_object.ne.plain F.cmpEntry_ne (check_slot F.cmpKind_ne F.cmpSplit_ne (I.type.andThen (looks_mroIn X hm)) (F.cmpArgs_ne _ _)
    (entry_ne (A := A.in1) X I hs hf hu (wpAny_mono h (fun v s' hv => ?_) fun _ _ e => e))))))
  obtain ⟨b, rfl, hq⟩ := hv
  first | exact ⟨b, rfl, wpAny_pure hq⟩ | exact ⟨b, rfl, wpAny_pure (wpAny_pure hq)⟩ | exact ⟨b, rfl, hq⟩
theorem ne_K {b tb : Value} {Q : Value → Shared → Prop} (hu : A.units + 1 < cLine) (X : K.In s.heap) (I : InstAt s.heap x ox C od) (hb : Looks (model prog w) s.heap (typeOf b) tb) (hnf : notFirst K C tb = true)
    (hm : mroIn K C (.type "object") = some true) (hn : findIn K (.ref C) "__ne__" = some (some (.builtin "object.__ne__"))) (hs : findIn K (.ref C) "__eq__" = some (some (.ref f))) (hf : isFn K (.ref f) = true)
    (h : wpAny (model prog w) A.in1 (call (.ref f) [.ref x, b]) (fun v s' => ∃ b, v = .bool b ∧ Q (.bool (!b)) s') E s) : wpAny (model prog w) A (richCompare .NotEq (.ref x) b) Q E s := by
  have one : wpAny (model prog w) A (tryCompare (.ref x) "__ne__" b) (fun r s' => ∃ v, r = some v ∧ Q v s') E s := try_ne X I hm hn hs hf hu (wpAny_mono h (fun v s' ⟨b, e, q⟩ => ⟨b, e, _, rfl, q⟩) fun _ _ e => e)
  unfold richCompare
  simp only [oneThing_ref]
  refine wpAny_holding (wpAny_bind (wpAny_cRoomFor (Nat.lt_of_succ_lt hu) ?_))
  rw [cmpInfo_NotEq]
  dsimp only
  refine wpAny_bind (I.type.here (wpAny_bind (hb.here ?_)))
  split
  · rename_i q
    have e : subIn K tb (.ref C) = some false := by
      rcases Bool.or_eq_true_iff.mp hnf with e | e
      · rw [beq_iff_eq.mp e] at q; simp at q
      · exact beq_iff_eq.mp e
    refine wpAny_bind ((looks_subIn X e).here ?_)
    simp only [Bool.false_eq_true, if_false]
    refine wpAny_bind (wpAny_mono one (fun r s' z => ?_) fun _ _ e => e)
    obtain ⟨v, rfl, hq⟩ := z
    exact wpAny_pure hq
  · refine wpAny_bind (wpAny_pure ?_)
    simp only [Bool.false_eq_true, if_false]
    refine wpAny_bind (wpAny_mono one (fun r s' z => ?_) fun _ _ e => e)
    obtain ⟨v, rfl, hq⟩ := z
    exact wpAny_pure hq
end
end OwnX
namespace Sc
open PySem PySem.Spec PyProof.Rows L2
/-- a value's type, as comparisons ask for it -/
inductive TyR (K : PySem.W.Frag) (H : Hp) : V → Value → Prop where
  | non : TyR K H .non (.type "NoneType")
  | int (i : Int) : TyR K H (.int i) (.type "int")
  | str (x : Str) : TyR K H (.str x) (.type "str")
  | lst {a : Addr} {xs : List V} (e : SqL K H a xs) : TyR K H (.ref a) (.type "list")
  | tup {a : Addr} {xs : List V} (e : SqT K H a xs) : TyR K H (.ref a) (.type "tuple")
  | ins {a C dx : Addr} {fs : List (Str × V)} (e : H a = some (.ins C dx fs)) : TyR K H (.ref a) (.ref C)
section
variable {X : Cx} {CX : CXT} {C g : Addr} {k : Nat} {fd : FuncData} {ps : List Str} {sp : Sp} {E : XK}
theorem TyR.looks {pins : List (Addr × Obj)} {σ : L2.St} {H : Hp} {s : Shared} {y : V} {t u : Value} (I : Inv X pins σ H s) (h : TyR X.K H y t) (r : RelV y u) {prog : Program} {w : World} : PySem.W.Looks (model prog w) s.heap (typeOf u) t := by
  cases h with
  | non => cases r; exact PySem.W.Looks.of_pure rfl
  | int i => obtain ⟨t, rfl⟩ := r; exact PySem.W.Looks.of_pure rfl
  | str i => obtain ⟨t, rfl⟩ := r; exact PySem.W.Looks.of_pure rfl
  | lst e =>
    cases r
    obtain ⟨its, _, ⟨o, n, ho, hc, _⟩, _⟩ := I.list e
    exact fun A Q E s k q => wpAny_typeOf_ref (k _ _ ho) (by rw [hc]; exact q)
  | tup e =>
    cases r
    obtain ⟨its, _, ⟨o, ho, hc, _⟩, _⟩ := I.tuple e
    exact fun A Q E s k q => wpAny_typeOf_ref (k _ _ ho) (by rw [hc]; exact q)
  | ins e =>
    cases r
    obtain ⟨mA, O, _⟩ := ins_get I.hok e
    obtain ⟨od, J, _⟩ := O.look
    exact J.type
/-- x == y, x of the class at C with its own __eq__ at g -/
def rEqO (K : PySem.W.Frag) (C : Addr) (sp : Sp) (E : XK) : R2 := fun x y H Q => ∃ (a dx : Addr) (fs : List (Str × V)) (tb : Value), x = .ref a ∧ H a = some (.ins C dx fs) ∧ TyR K H y tb ∧ PySem.W.notFirst K C tb = true ∧ sp [x, y] H Q E
theorem op_eqO (hs : PySem.W.findIn X.K (.ref C) "__eq__" = some (some (.ref g))) (hf : PySem.W.isFn X.K (.ref g) = true) (F : FnOk X.prog X.w X.K X.mg X.base CX k g fd ps sp) (hr : Room k X.A) (hb : Binds X.K fd ps []) (hx : Passes CX X E) : OpR X (compareOp .Eq) (rEqO X.K C sp E) := by
  intro pins s σ H x y v u Q I rx ry h
  obtain ⟨a, dx, fs, tb, rfl, ha, hy, hn, q⟩ := h
  cases (show v = Value.ref a from rx)
  obtain ⟨mA, O, _⟩ := ins_get I.hok ha
  obtain ⟨od, J, _⟩ := O.look
  obtain ⟨m, hF⟩ := I.fr
  show wpAny _ _ (richCompare .Eq _ _) _ _ _
  refine PySem.W.cmp_K (op := .Eq) (tb := tb) hr.units0 hF I.ok.mod.kin J (hy.looks I ry) hn hs hf ?_
  refine wpAny_mono (run_fn (us := [.ref a, u]) (vs := [.ref a, y]) (dvs := []) F hr hb .nil hx I (.cons rfl (.cons ry .nil)) q) (fun w s' z => ?_) fun _ _ x => x
  obtain ⟨z', H', I', rz, qz⟩ := z
  exact SlX.cmpback rz ⟨z', H', I', rz, qz⟩
/-- x != y by the same -/
def rNeO (K : PySem.W.Frag) (C : Addr) (sp : Sp) (E : XK) : R2 := fun x y H Q => ∃ (a dx : Addr) (fs : List (Str × V)) (tb : Value), x = .ref a ∧ H a = some (.ins C dx fs) ∧ TyR K H y tb ∧ PySem.W.notFirst K C tb = true ∧ sp [x, y] H (fun v H' => ∃ b, v = .bl b ∧ Q (.bl (!b)) H') E
theorem op_neO (hm : PySem.W.mroIn X.K C (.type "object") = some true) (hne : PySem.W.findIn X.K (.ref C) "__ne__" = some (some (.builtin "object.__ne__"))) (hs : PySem.W.findIn X.K (.ref C) "__eq__" = some (some (.ref g))) (hf : PySem.W.isFn X.K (.ref g) = true)
    (F : FnOk X.prog X.w X.K X.mg X.base CX k g fd ps sp) (hr : Room (k + 1) X.A) (hb : Binds X.K fd ps []) (hx : Passes CX X E) : OpR X (compareOp .NotEq) (rNeO X.K C sp E) := by
  intro pins s σ H x y v u Q I rx ry h
  obtain ⟨a, dx, fs, tb, rfl, ha, hy, hn, q⟩ := h
  cases (show v = Value.ref a from rx)
  obtain ⟨mA, O, _⟩ := ins_get I.hok ha
  obtain ⟨od, J, _⟩ := O.look
  show wpAny _ _ (richCompare .NotEq _ _) _ _ _
  have hu : X.A.units + 1 < cLine := by have := hr.un; omega
  refine OwnX.ne_K hu I.kIn J (hy.looks I ry) hn hm hne hs hf ?_
  have hl : ([Value.ref a, u] ++ ([] : List Value)).length = ps.length := F.len _ _ _ _ q
  refine wpAny_call (codeAny_mono (F.run X.A.in1 X.stack s H ⟨[.ref a, u], []⟩ [.ref a, u] [.ref a, y] _ _ hr.in1 I.env0.in1 (hb s [.ref a, u] I.kIn hl) (.cons rfl (.cons ry .nil)) q) fun r s' hq => ?_)
  cases r with
  | error e => exact hx pins σ H s e s' I hq
  | ok fl =>
    cases fl with
    | ret w =>
      obtain ⟨v, H', I', rv, b, rfl, qz⟩ := I.after hq
      cases rv
      exact ⟨b, rfl, .bl (!b), H', I', rfl, qz⟩
    | next => exact hq.elim
    | brk => exact hq.elim
    | cont => exact hq.elim
/-- x op y, both of the class at C, whose own method for op is at g -/
def rBinO (C : Addr) (sp : Sp) (E : XK) : R2 := fun x y H Q => ∃ (a dx : Addr) (fs : List (Str × V)) (b dy : Addr) (gs : List (Str × V)), x = .ref a ∧ y = .ref b ∧ H a = some (.ins C dx fs) ∧ H b = some (.ins C dy gs) ∧ sp [x, y] H Q E
theorem op_binO {op : Operator} (hc : PySem.W.selfFirst X.K C = true) (hs : PySem.W.findIn X.K (.ref C) (PySem.dunder op.info.2) = some (some (.ref g))) (hf : PySem.W.isFn X.K (.ref g) = true)
    (F : FnOk X.prog X.w X.K X.mg X.base CX k g fd ps sp) (hr : Room k X.A) (hb : Binds X.K fd ps []) (hx : Passes CX X E) : OpR X (binaryOp op) (rBinO C sp E) := by
  intro pins s σ H x y v u Q I rx ry h
  obtain ⟨a, dx, fs, b, dy, gs, rfl, rfl, ha, hy, q⟩ := h
  cases (show v = Value.ref a from rx)
  cases (show u = Value.ref b from ry)
  obtain ⟨mA, O, _⟩ := ins_get I.hok ha
  obtain ⟨od, J, _⟩ := O.look
  obtain ⟨mA', O', _⟩ := ins_get I.hok hy
  obtain ⟨od', J', _⟩ := O'.look
  refine OwnX.bin_same I.kIn J J'.type hc hs hf ?_
  refine wpAny_mono (run_fn (us := [.ref a, .ref b]) (vs := [.ref a, .ref b]) (dvs := []) F hr hb .nil hx I (.cons rfl (.cons rfl .nil)) q) (fun w s' z => ?_) fun _ _ x => x
  obtain ⟨z', H', I', rz, qz⟩ := z
  exact SlX.cmpback rz ⟨z', H', I', rz, qz⟩
end
end Sc
namespace Sc
open PySem PySem.Spec PyProof.Rows L2
/-- texts that can be compared and are not long -/
def Fine (x : Str) : Prop := x.length ≤ 1000 ∧ (PyData.str x).canLay0 = true
def Fines (xs : List Str) : Prop := ∀ x ∈ xs, Fine x
section
variable {P : Program} {w : World} {K : PySem.W.Frag} {mg : Str → Option Value} {base : Heap} {a l : Addr} {H H' H'' : Hp}
theorem Fines.txts {xs : List Str} (h : Fines xs) : Txts xs := fun x hx => (h x hx).1
theorem dps (K : PySem.W.Frag) (H : Hp) : ∀ xs : List Str, DpAll K H (xs.map V.str) (xs.map PyData.str)
  | [] => .nil
  | x :: r => .cons (.str x) (dps K H r)
theorem strs_lay : ∀ {xs : List Str}, Fines xs → PyData.canLayAll0 (xs.map PyData.str) = true
  | [], _ => rfl
  | x :: r, h => by
    show ((PyData.str x).canLay0 && PyData.canLayAll0 (r.map PyData.str)) = true
    rw [(h x List.mem_cons_self).2, strs_lay fun y hy => h y (List.mem_cons_of_mem x hy)]
    rfl
theorem strs_depth : ∀ xs : List Str, PyData.depthAll (xs.map PyData.str) = 0
  | [] => rfl
  | x :: r => by
    show max (PyData.str x).depth (PyData.depthAll (r.map PyData.str)) = 0
    rw [strs_depth r]
    rfl
theorem shT {xs : List Str} (h : Fines xs) : SeqAt.shaped (.tuple (xs.map PyData.str)) = true := by
  unfold SeqAt.shaped
  have e1 : (PyData.tuple (xs.map PyData.str)).canLay0 = true := strs_lay h
  have e2 : (PyData.tuple (xs.map PyData.str)).depth = 1 := by show PyData.depthAll (xs.map PyData.str) + 1 = 1; rw [strs_depth]
  rw [e1, e2]
  rfl
theorem shL {xs : List Str} (h : Fines xs) : SeqAt.shaped (.list (xs.map PyData.str)) = true := by
  unfold SeqAt.shaped
  have e1 : (PyData.list (xs.map PyData.str)).canLay0 = true := strs_lay h
  have e2 : (PyData.list (xs.map PyData.str)).depth = 1 := by show PyData.depthAll (xs.map PyData.str) + 1 = 1; rw [strs_depth]
  rw [e1, e2]
  rfl
theorem eqvA_nil : ∀ xs : List Str, PyData.eqvAll (xs.map PyData.str) [] = decide (xs = [])
  | [] => rfl
  | _ :: _ => rfl
theorem eqvA : ∀ xs ys : List Str, PyData.eqvAll (xs.map PyData.str) (ys.map PyData.str) = decide (xs = ys)
  | [], [] => rfl
  | [], _ :: _ => rfl
  | _ :: _, [] => rfl
  | x :: r, y :: t => by
    show ((x == y) && PyData.eqvAll (r.map PyData.str) (t.map PyData.str)) = _
    rw [eqvA r t]
    by_cases h : x = y
    · subst h
      simp
    · have e : (x == y) = false := by simpa using h
      rw [e, Bool.false_and, decide_eq_false fun z => h (List.cons.inj z).1]
def chr1 (c : Nat) : Str := ⟨#[c]⟩
def oddL (x : Str) (i : Nat) : List Str := ((x.cps.toList.take i).filter fun c => !decide (c ∈ letters.cps.toList)).map chr1
theorem oddL_len {x : Str} {i : Nat} : (oddL x i).length ≤ x.length := by
  unfold oddL
  rw [List.length_map]
  exact Nat.le_trans (List.length_filter_le _ _) (by rw [List.length_take]; exact Nat.min_le_right _ _)
theorem oddL_fine {x : Str} {i : Nat} (h : Fine x) : Fines (oddL x i) := by
  intro y hy
  unfold oddL at hy
  obtain ⟨c, hc, rfl⟩ := List.mem_map.mp hy
  have hc := List.mem_of_mem_take (List.mem_filter.mp hc).1
  refine ⟨(show 1 ≤ 1000 by decide), ?_⟩
  have h2 : PyData.strOk x = true := h.2
  show PyData.strOk (chr1 c) = true
  unfold PyData.strOk at h2 ⊢
  rw [Array.all_eq_true'] at h2
  have h3 := h2 c (by rw [← Array.mem_toList_iff]; exact hc)
  rw [Array.all_eq_true']
  intro y hy
  have ey : y = c := by
    have hy : y ∈ (#[c] : Array Nat) := hy
    simpa using hy
  subst ey
  exact h3
theorem oddL_nil {x : Str} : decide (oddL x x.length = []) = isLetters x := by
  have el : x.cps.toList.take x.length = x.cps.toList := List.take_of_length_le (by rw [Array.length_toList]; exact Nat.le_refl _)
  unfold oddL isLetters
  rw [el]
  cases h : x.cps.toList.all fun c => decide (c ∈ letters.cps.toList) with
  | true =>
    rw [List.all_eq_true] at h
    have e : (x.cps.toList.filter fun c => !decide (c ∈ letters.cps.toList)) = [] := by
      rw [List.filter_eq_nil_iff]
      intro c hc z
      rw [h c hc] at z
      cases z
    rw [e]
    rfl
  | false =>
    rw [decide_eq_false]
    intro z
    have z := List.map_eq_nil_iff.mp z
    rw [List.filter_eq_nil_iff] at z
    rw [List.all_eq_false] at h
    obtain ⟨c, hc, hn⟩ := h
    exact z c hc (by cases e : decide (c ∈ letters.cps.toList) with | true => exact absurd e hn | false => rfl)
theorem risesAt_eq {xs : List Str} {i : Nat} (hi : i < xs.length) (h0 : i ≠ 0) (h1 : i - 1 < xs.length) : risesAt xs i = decide (xs[i - 1].cps.toList < xs[i].cps.toList) := by
  unfold risesAt
  rw [decide_eq_false h0, Bool.false_or, List.getElem?_eq_getElem h1, List.getElem?_eq_getElem hi]
theorem risesAt_0 {xs : List Str} : risesAt xs 0 = true := rfl
theorem strG {xs : List Str} {i : Nat} (hi : i < xs.length) : (xs.map V.str)[i]? = some (.str xs[i]) := by rw [List.getElem?_map, List.getElem?_eq_getElem hi]; rfl
theorem small_lim {z : Int} (h0 : 0 ≤ z) (h1 : z ≤ 1000) : z.natAbs.log2 < 9000 := by
  by_cases e : z.natAbs = 0
  · rw [e]; decide
  · exact (Nat.log2_lt e).mpr (Nat.lt_of_le_of_lt (show z.natAbs ≤ 2 ^ 10 by omega) (Nat.pow_lt_pow_right (by decide) (by decide)))
end
end Sc
namespace Sc
open PySem PySem.Spec PyProof.Rows L2
/-! ### what a condition does -/
theorem sc_Condition___call__ : FnScope ["self", "case", "held", "name"] ["self", "case"] (defScope s_Condition___call__) := ⟨rfl, rfl, rfl, by decide +kernel, rfl, by decide +kernel, by decide +kernel⟩
/-- the texts in their order -/
def srt (l : List Str) : List Str := l.mergeSort fun a b => decide (a.cps.toList ≤ b.cps.toList)
theorem srt_perm (l : List Str) : (srt l).Perm l := List.mergeSort_perm _ _
theorem rising_of : ∀ (x : Str) (r : List Str), (∀ y ∈ r, SLe x y) → r.Pairwise SLe → risingS x r = true
  | _, [], _, _ => rfl
  | x, y :: r, h1, h2 => by
    have h2 := List.pairwise_cons.mp h2
    show (!ltCps y.cps.toList x.cps.toList && risingS y r) = true
    rw [Bool.and_eq_true, ltCps_eq]
    refine ⟨?_, rising_of y r h2.1 h2.2⟩
    have h3 : x.cps.toList ≤ y.cps.toList := h1 y List.mem_cons_self
    rw [decide_eq_false (show ¬ y.cps.toList < x.cps.toList from fun z => List.not_lt.mpr h3 z)]
    rfl
theorem sorted_of : ∀ {r : List Str}, r.Pairwise SLe → sortedS r = true
  | [], _ => rfl
  | x :: r, h => rising_of x r (List.pairwise_cons.mp h).1 (List.pairwise_cons.mp h).2
theorem srt_sorted (l : List Str) : sortedS (srt l) = true := by
  refine sorted_of ((List.pairwise_mergeSort (le := fun a b : Str => decide (a.cps.toList ≤ b.cps.toList)) (fun a b c h1 h2 => ?_) (fun a b => ?_) l).imp fun h => of_decide_eq_true h)
  · exact decide_eq_true (List.le_trans (of_decide_eq_true h1) (of_decide_eq_true h2))
  · rw [Bool.or_eq_true]
    rcases List.le_total a.cps.toList b.cps.toList with h | h
    · exact .inl (decide_eq_true h)
    · exact .inr (decide_eq_true h)
/-- an object Condition -/
structure CondAt (K : PySem.W.Frag) (C : Addr) (H : Hp) (o : Addr) (hs fs : List Str) : Prop where
  at_ : ∃ (dx a b n : Addr) (zs : List Str), H o = some (.ins C dx (condF a b n)) ∧ SqT K H a (hs.map V.str) ∧ SqT K H b (fs.map V.str) ∧ H n = some (.tup (zs.map V.str)) ∧ zs = srt (hs ++ fs)
theorem CondAt.same {K : PySem.W.Frag} {C : Addr} {H H' : Hp} {o : Addr} {hs fs : List Str} (h : CondAt K C H o hs fs) (s : Same H H') : CondAt K C H' o hs fs := by
  obtain ⟨dx, a, b, n, zs, h1, h2, h3, h4, h5⟩ := h.at_
  exact ⟨dx, a, b, n, zs, s _ _ h1, s.tup h2, s.tup h3, s _ _ h4, h5⟩
def meets (hs fs case : List Str) : Bool := (hs.all fun x => decide (x ∈ case)) && !(fs.any fun x => decide (x ∈ case))
section
variable {P : Program} {w : World} {K : PySem.W.Frag} {mg : Str → Option Value} {base : Heap} {CC C : Addr}
/-- [name in case for name in xs]: the truths -/
theorem inAll {H1 : Hp} {D c : Addr} {xs cs : List Str} {W : Nat} {X : Cx} {σ : L2.St} : True := trivial
def sp_ccall (K : PySem.W.Frag) (C : Addr) : Sp := fun vs H Q _ => ∃ (o c : Addr) (hs fs cs : List Str), vs = [.ref o, .ref c] ∧ CondAt K C H o hs fs ∧ SqT K H c (cs.map V.str) ∧ hs.length ≤ 1000 ∧ fs.length ≤ 1000 ∧ ∀ H', Same H H' → Q (.bl (meets hs fs cs)) H'
theorem ok_ccall {f : Addr} {fd : FuncData} (F : Fun K "__call__" "Condition.__call__" s_Condition___call__ f fd) (B : Blt mg) (T : Cls K C) (n1 : NoAttr K C "_holding") (n2 : NoAttr K C "_failing") : FnOk P w K mg base CX0 1 f fd ["self", "case"] (sp_ccall K C) := by
  refine F.ok sc_Condition___call__ (fun vs H Q E h => by obtain ⟨o, c, hs, fs, cs, rfl, _⟩ := h; rfl) (fun cdv A outer s H vs Q E hr h => ?_)
  obtain ⟨o, c, hs, fs, cs, rfl, hC, hc, l1, l2, q⟩ := h
  obtain ⟨dx, a, b, n, zs, ho, ha, hb, _⟩ := hC.at_
  refine ⟨_, (pss_cons (ps_set (i := 2) sc_Condition___call__.nd rfl (Or.inl rfl) (pe_callB (cr_all rfl) (by rfl) B.b_all PyProof.Rows.boot_all (pa_cons (pe_lc (own := [("name", 3)]) (g := gName 3) (tt := tYes) rfl sc_Condition___call__.nd (pi_tup (pe_fld (pv 0) rfl)) (blkOk_by (own := [("name", 3)]) (N := ["self", "case", "held", "name"]) (sc := defScope s_Condition___call__) (by decide +kernel)) (fun _ _ _ _ _ => (pg_name (i := 3) sc_Condition___call__.nd rfl (Or.inl rfl))) (fun _ _ _ _ _ => pts_nil) (fun _ _ _ _ _ => (pe_.re (pe_cmpR op_in_seq (pv 3) (pv 1) rfl) (by first | (dsimp only [Cx.blk]; done) | exact rfl)))) pa_nil)))
      (pss_one (ps_ret (pe_and (pv 2) (pe_one (pe_not (pe_callB (cr_any rfl) (by rfl) B.b_any (by decide +kernel) (pa_cons (pe_lc (own := [("name", 3)]) (g := gName 3) (tt := tYes) rfl sc_Condition___call__.nd (pi_tup (pe_fld (pv 0) rfl)) (blkOk_by (own := [("name", 3)]) (N := ["self", "case", "held", "name"]) (sc := defScope s_Condition___call__) (by decide +kernel)) (fun _ _ _ _ _ => (pg_name (i := 3) sc_Condition___call__.nd rfl (Or.inl rfl))) (fun _ _ _ _ _ => pts_nil) (fun _ _ _ _ _ => (pe_.re (pe_cmpR op_in_seq (pv 3) (pv 1) rfl) (by first | (dsimp only [Cx.blk]; done) | exact rfl)))) pa_nil)))))))), ?_⟩
  refine ⟨_, rfl, o, C, dx, _, .ref a, rfl, ho, T, n1, rfl, a, rfl, ⟨_, ha⟩, fun D nD => lc_it walk_tup (fun i H' => Same H H' ∧ H' D = some (.lst ((hs.take i).map fun x => V.bl (decide (x ∈ cs))))) ⟨(Same.refl H).put nD, upd_same⟩ (fun _ _ _ h => h.1.tup ha) ?_ ?_⟩
  · rintro i y H2 H3 hi ⟨s, e⟩ ⟨rfl, hy⟩
    rw [List.length_map] at hi
    have hx : hs[i]? = some hs[i] := List.getElem?_eq_getElem hi
    obtain rfl : V.str hs[i] = y := strAt_inj hx hy
    refine ⟨rfl, yes_ ⟨_, rfl, _, rfl, c, _, rfl, .inr (s.tup hc), rfl, flat_strs cs, grow (acc := fun i => (hs.take i).map fun x => V.bl (decide (x ∈ cs))) nD s e ?_ ?_⟩⟩
    · rw [List.length_map, List.length_take]
      exact small1000 (by omega)
    · show List.map _ _ = _
      rw [take_more hx, List.map_append]
      simp only [List.map_cons, List.map_nil, inV_str]
      rfl
  · rintro H2 ⟨s, e⟩
    rw [List.length_map, List.take_length] at e
    refine ⟨D, hs.map fun x => decide (x ∈ cs), rfl, sqL_of (by rw [e, List.map_map]; rfl), ?_⟩
    refine ⟨_, rfl, _, rfl, bcase (fun c1 => ?_) (fun c1 => ?_)⟩
    · refine ⟨_, rfl, o, C, dx, _, .ref b, rfl, s _ _ ho, T, n2, rfl, b, rfl, ⟨_, s.tup hb⟩, fun D2 nD2 => lc_it walk_tup (fun i H' => Same H2 H' ∧ H' D2 = some (.lst ((fs.take i).map fun x => V.bl (decide (x ∈ cs))))) ⟨(Same.refl H2).put nD2, upd_same⟩ (fun _ _ _ h => (s.trans h.1).tup hb) ?_ ?_⟩
      · rintro i y H4 H3 hi ⟨s2, e2⟩ ⟨rfl, hy⟩
        rw [List.length_map] at hi
        have hx : fs[i]? = some fs[i] := List.getElem?_eq_getElem hi
        obtain rfl : V.str fs[i] = y := strAt_inj hx hy
        refine ⟨rfl, yes_ ⟨_, rfl, _, rfl, c, _, rfl, .inr ((s.trans s2).tup hc), rfl, flat_strs cs, grow (acc := fun i => (fs.take i).map fun x => V.bl (decide (x ∈ cs))) nD2 s2 e2 ?_ ?_⟩⟩
        · rw [List.length_map, List.length_take]
          exact small1000 (by omega)
        · show List.map _ _ = _
          rw [take_more hx, List.map_append]
          simp only [List.map_cons, List.map_nil, inV_str]
          rfl
      · rintro H4 ⟨s2, e2⟩
        rw [List.length_map, List.take_length] at e2
        refine ⟨D2, fs.map fun x => decide (x ∈ cs), rfl, sqL_of (by rw [e2, List.map_map]; rfl), ?_⟩
        refine ⟨_, rfl, ?_⟩
        have em : meets hs fs cs = !((fs.map fun x => decide (x ∈ cs)).any id) := by
          unfold meets
          rw [List.any_map]
          have c1 : (hs.all fun x => decide (x ∈ cs)) = true := by rw [List.all_map] at c1; exact c1
          rw [c1, Bool.true_and]
          rfl
        rw [← em]
        exact q H4 (s.trans s2)
    · have em : meets hs fs cs = false := by
        unfold meets
        have c1 : (hs.all fun x => decide (x ∈ cs)) = false := by rw [List.all_map] at c1; exact c1
        rw [c1, Bool.false_and]
      rw [← em]
      exact q H2 s
/-! ### within -/
theorem sc_Condition_within : FnScope ["self", "other", "held", "name"] ["self", "other"] (defScope s_Condition_within) := ⟨rfl, rfl, rfl, by decide +kernel, rfl, by decide +kernel, by decide +kernel⟩
def withinC (hs fs gs ks : List Str) : Bool := (gs.all fun x => decide (x ∈ hs)) && (ks.all fun x => decide (x ∈ fs))
def sp_within (K : PySem.W.Frag) (C : Addr) : Sp := fun vs H Q _ => ∃ (o o2 : Addr) (hs fs gs ks : List Str), vs = [.ref o, .ref o2] ∧ CondAt K C H o hs fs ∧ CondAt K C H o2 gs ks ∧ gs.length ≤ 1000 ∧ ks.length ≤ 1000 ∧ ∀ H', Same H H' → Q (.bl (withinC hs fs gs ks)) H'
/-- the getters -/
abbrev PropC (P : Program) (w : World) (K : PySem.W.Frag) (mg : Str → Option Value) (base : Heap) (C p g : Addr) (fd : FuncData) (n f : Str) : Prop := PropOf K C n p g ∧ FnOk P w K mg base CX0 1 g fd ["self"] (sp_prop C f) ∧ Binds K fd ["self"] []
theorem ok_within {f p1' g1 p2' g2 : Addr} {fd fd1 fd2 : FuncData} (F : Fun K "within" "Condition.within" s_Condition_within f fd) (B : Blt mg) (T : Cls K C) (n1 : NoAttr K C "_holding") (n2 : NoAttr K C "_failing")
    (p1 : PropC P w K mg base C p1' g1 fd1 "holding" "_holding") (p2 : PropC P w K mg base C p2' g2 fd2 "failing" "_failing") : FnOk P w K mg base CX0 3 f fd ["self", "other"] (sp_within K C) := by
  refine F.ok sc_Condition_within (fun vs H Q E h => by obtain ⟨o, c, hs, fs, gs, ks, rfl, _⟩ := h; rfl) (fun cdv A outer s H vs Q E hr h => ?_)
  obtain ⟨o, o2, hs, fs, gs, ks, rfl, hC, hD, l1, l2, q⟩ := h
  obtain ⟨dx, a, b, n, zs, ho, ha, hb, _⟩ := hC.at_
  obtain ⟨dx2, a2, b2, n2', zs2, ho2, ha2, hb2, _⟩ := hD.at_
  have lk1 : (condF a2 b2 n2').lookup ("_holding" : Str) = some (.ref a2) := rfl
  have lk2 : (condF a2 b2 n2').lookup ("_failing" : Str) = some (.ref b2) := rfl
  refine ⟨_, (pss_cons (ps_set (i := 2) sc_Condition_within.nd rfl (Or.inl rfl) (pe_callB (cr_all rfl) (by rfl) B.b_all PyProof.Rows.boot_all (pa_cons (pe_lc (own := [("name", 3)]) (g := gName 3) (tt := tYes) rfl sc_Condition_within.nd (pi_tup (pe_prop (pv 1) T p1.1 p1.2.1 (hr.mono (by decide)) p1.2.2 .nil pass0 rfl)) (blkOk_by (own := [("name", 3)]) (N := ["self", "other", "held", "name"]) (sc := defScope s_Condition_within) (by decide +kernel)) (fun _ _ _ _ _ => (pg_name (i := 3) sc_Condition_within.nd rfl (Or.inl rfl))) (fun _ _ _ _ _ => pts_nil) (fun _ _ _ _ _ => (pe_.re (pe_cmpR op_in_seq (pv 3) (pe_fld (pv 0) rfl) rfl) (by first | (dsimp only [Cx.blk]; done) | exact rfl)))) pa_nil)))
      (pss_one (ps_ret (pe_and (pv 2) (pe_one (pe_callB (cr_all rfl) (by rfl) B.b_all PyProof.Rows.boot_all (pa_cons (pe_lc (own := [("name", 3)]) (g := gName 3) (tt := tYes) rfl sc_Condition_within.nd (pi_tup (pe_prop (pv 1) T p2.1 p2.2.1 (hr.mono (by decide)) p2.2.2 .nil pass0 rfl)) (blkOk_by (own := [("name", 3)]) (N := ["self", "other", "held", "name"]) (sc := defScope s_Condition_within) (by decide +kernel)) (fun _ _ _ _ _ => (pg_name (i := 3) sc_Condition_within.nd rfl (Or.inl rfl))) (fun _ _ _ _ _ => pts_nil) (fun _ _ _ _ _ => (pe_.re (pe_cmpR op_in_seq (pv 3) (pe_fld (pv 0) rfl) rfl) (by first | (dsimp only [Cx.blk]; done) | exact rfl)))) pa_nil))))))), ?_⟩
  refine ⟨_, rfl, o2, dx2, _, rfl, ho2, ⟨o2, dx2, _, _, rfl, ho2, lk1, ?_⟩⟩
  refine ⟨a2, rfl, ⟨_, ha2⟩, fun D nD => lc_it walk_tup (fun i H' => Same H H' ∧ H' D = some (.lst ((gs.take i).map fun x => V.bl (decide (x ∈ hs))))) ⟨(Same.refl H).put nD, upd_same⟩ (fun _ _ _ h => h.1.tup ha2) ?_ ?_⟩
  · rintro i y H2 H3 hi ⟨s, e⟩ ⟨rfl, hy⟩
    rw [List.length_map] at hi
    have hx : gs[i]? = some gs[i] := List.getElem?_eq_getElem hi
    obtain rfl : V.str gs[i] = y := strAt_inj hx hy
    refine ⟨rfl, yes_ ⟨_, rfl, _, rfl, o, C, dx, _, .ref a, rfl, s _ _ ho, T, n1, rfl, a, _, rfl, .inr (s.tup ha), rfl, flat_strs hs, grow (acc := fun i => (gs.take i).map fun x => V.bl (decide (x ∈ hs))) nD s e ?_ ?_⟩⟩
    · rw [List.length_map, List.length_take]
      exact small1000 (by omega)
    · show List.map _ _ = _
      rw [take_more hx, List.map_append]
      simp only [List.map_cons, List.map_nil, inV_str]
      rfl
  · rintro H2 ⟨s, e⟩
    rw [List.length_map, List.take_length] at e
    refine ⟨D, gs.map fun x => decide (x ∈ hs), rfl, sqL_of (by rw [e, List.map_map]; rfl), ?_⟩
    refine ⟨_, rfl, _, rfl, bcase (fun c1 => ?_) (fun c1 => ?_)⟩
    · refine ⟨_, rfl, o2, dx2, _, rfl, s _ _ ho2, ⟨o2, dx2, _, _, rfl, s _ _ ho2, lk2, ?_⟩⟩
      refine ⟨b2, rfl, ⟨_, s.tup hb2⟩, fun D2 nD2 => lc_it walk_tup (fun i H' => Same H2 H' ∧ H' D2 = some (.lst ((ks.take i).map fun x => V.bl (decide (x ∈ fs))))) ⟨(Same.refl H2).put nD2, upd_same⟩ (fun _ _ _ h => (s.trans h.1).tup hb2) ?_ ?_⟩
      · rintro i y H4 H3 hi ⟨s2, e2⟩ ⟨rfl, hy⟩
        rw [List.length_map] at hi
        have hx : ks[i]? = some ks[i] := List.getElem?_eq_getElem hi
        obtain rfl : V.str ks[i] = y := strAt_inj hx hy
        have s3 := s.trans s2
        refine ⟨rfl, yes_ ⟨_, rfl, _, rfl, o, C, dx, _, .ref b, rfl, s3 _ _ ho, T, n2, rfl, b, _, rfl, .inr (s3.tup hb), rfl, flat_strs fs, grow (acc := fun i => (ks.take i).map fun x => V.bl (decide (x ∈ fs))) nD2 s2 e2 ?_ ?_⟩⟩
        · rw [List.length_map, List.length_take]
          exact small1000 (by omega)
        · show List.map _ _ = _
          rw [take_more hx, List.map_append]
          simp only [List.map_cons, List.map_nil, inV_str]
          rfl
      · rintro H4 ⟨s2, e2⟩
        rw [List.length_map, List.take_length] at e2
        refine ⟨D2, ks.map fun x => decide (x ∈ fs), rfl, sqL_of (by rw [e2, List.map_map]; rfl), ?_⟩
        have em : withinC hs fs gs ks = (ks.map fun x => decide (x ∈ fs)).all id := by
          unfold withinC
          have c1 : (gs.all fun x => decide (x ∈ hs)) = true := by rw [List.all_map] at c1; exact c1
          rw [c1, Bool.true_and, List.all_map]
          rfl
        rw [← em]
        exact q H4 (s.trans s2)
    · have em : withinC hs fs gs ks = false := by
        unfold withinC
        have c1 : (gs.all fun x => decide (x ∈ hs)) = false := by rw [List.all_map] at c1; exact c1
        rw [c1, Bool.false_and]
      rw [← em]
      exact q H2 s
/-! ### == -/
theorem sc_Condition___eq__ : FnScope ["self", "other"] ["self", "other"] (defScope s_Condition___eq__) := ⟨rfl, rfl, rfl, by decide +kernel, rfl, by decide +kernel, by decide +kernel⟩
theorem dp_strs {H : Hp} {a : Addr} {xs : List Str} (h : SqT K H a (xs.map V.str)) : Dp K H (.ref a) (.tuple (xs.map PyData.str)) := .tup h (dps K H xs)
/-- what isinstance asks of the class at C -/
structure IsiC (K : PySem.W.Frag) (C : Addr) : Prop where
  ca : PySem.W.findIn K (.ref C) "__class__" = some (some (.builtin "object.__class__"))
  cn : PySem.W.specialIn K (.builtin "object.__class__") "__get__" = some (some (.builtin "getset_descriptor.__get__"))
  ct : PySem.W.takesIn K (.builtin "object.__class__") = some true
  cm : PySem.W.mroIn K C (.type "object") = some true
  me : PySem.W.kitOne K (.ref C) (.ref C) = some true
def sp_ceq (K : PySem.W.Frag) (C : Addr) : Sp := fun vs H Q _ => ∃ (o : Addr) (y : V) (hs fs : List Str), vs = [.ref o, y] ∧ CondAt K C H o hs fs ∧ Fines hs ∧ Fines fs ∧
  ((∃ (o2 : Addr) (gs ks : List Str), y = .ref o2 ∧ CondAt K C H o2 gs ks ∧ Fines gs ∧ Fines ks ∧ Q (.bl (decide (hs = gs) && decide (fs = ks))) H) ∨ (∃ t : Value, TyOf K H y t ∧ PySem.W.kitOne K t (.ref C) = some false ∧ Q (.bl false) H))
theorem ok_ceq {f : Addr} {fd : FuncData} (F : Fun K "__eq__" "Condition.__eq__" s_Condition___eq__ f fd) (B : Blt mg) (T : Cls K C) (n1 : NoAttr K C "_holding") (n2 : NoAttr K C "_failing") (mC : mg "Condition" = some (.ref C)) (I : IsiC K C) : FnOk P w K mg base CX0 1 f fd ["self", "other"] (sp_ceq K C) := by
  refine F.ok sc_Condition___eq__ (fun vs H Q E h => by obtain ⟨o, y, hs, fs, rfl, _⟩ := h; rfl) (fun cdv A outer s H vs Q E hr h => ?_)
  obtain ⟨o, y, hs, fs, rfl, hC, f1, f2, q⟩ := h
  obtain ⟨dx, a, b, n, zs, ho, ha, hb, _⟩ := hC.at_
  refine ⟨_, (pss_one (ps_ret (pe_and (pe_callB call_isi (by rfl) B.b_isinstance PyProof.Rows.boot_isinstance (pa_cons (pv 1) (pa_cons (pe_glob (v := .ref _) rfl mC rfl) pa_nil))) (pe_and (pe_cmpR (op_eqD hr.units) (pe_fld (pv 0) rfl) (pe_fld (pv 1) rfl) (nomark _)) (pe_one (pe_cmpR (op_eqD hr.units) (pe_fld (pv 0) rfl) (pe_fld (pv 1) rfl) (nomark _))))))), ?_⟩
  rcases q with ⟨o2, gs, ks, rfl, hD, f3, f4, q⟩ | ⟨t, ht, hk, q⟩
  · obtain ⟨dx2, a2, b2, n2', zs2, ho2, ha2, hb2, _⟩ := hD.at_
    refine ⟨_, rfl, _, _, _, _, _, rfl, .own _, .base (.ins ho2 T I.ca I.cn I.ct I.cm), I.me, _, rfl, iteT ?_⟩
    refine ⟨_, rfl, o, C, dx, _, .ref a, rfl, ho, T, n1, rfl, _, rfl, o2, C, dx2, _, .ref a2, rfl, ho2, T, n1, rfl, _, _, dp_strs ha, dp_strs ha2, shT f1, shT f3, _, rfl, ?_⟩
    have e1 : (PyData.tuple (hs.map PyData.str)).eqv (.tuple (gs.map PyData.str)) = decide (hs = gs) := eqvA hs gs
    rw [e1]
    by_cases c1 : hs = gs
    · rw [decide_eq_true c1]
      rw [decide_eq_true c1, Bool.true_and] at q
      refine iteT ⟨_, rfl, o, C, dx, _, .ref b, rfl, ho, T, n2, rfl, _, rfl, o2, C, dx2, _, .ref b2, rfl, ho2, T, n2, rfl, _, _, dp_strs hb, dp_strs hb2, shT f2, shT f4, ?_⟩
      have e2 : (PyData.tuple (fs.map PyData.str)).eqv (.tuple (ks.map PyData.str)) = decide (fs = ks) := eqvA fs ks
      rw [e2]
      exact q
    · rw [decide_eq_false c1]
      rw [decide_eq_false c1, Bool.false_and] at q
      exact iteF q
  · exact ⟨_, rfl, _, _, _, _, _, rfl, .own _, .base ht, hk, _, rfl, iteF q⟩
/-! ### & -/
theorem sc_Condition___and__ : FnScope ["self", "other", "holding", "failing", "name"] ["self", "other"] (defScope s_Condition___and__) := ⟨rfl, rfl, rfl, by decide +kernel, rfl, by decide +kernel, by decide +kernel⟩
def mrg (xs ys : List Str) : List Str := srt (xs ++ ys.filter fun y => !decide (y ∈ xs))
theorem mrg_txts {xs ys : List Str} (h1 : Txts xs) (h2 : Txts ys) : Txts (mrg xs ys) := fun x hx => by
  have hx := (srt_perm _).mem_iff.mp hx
  rcases List.mem_append.mp hx with h | h
  · exact h1 x h
  · exact h2 x (List.mem_filter.mp h).1
theorem mrg_len {xs ys : List Str} : (mrg xs ys).length ≤ xs.length + ys.length := by
  unfold mrg
  rw [(srt_perm _).length_eq, List.length_append]
  have := List.length_filter_le (fun y => !decide (y ∈ xs)) ys
  omega
theorem srt_uniq {zs l : List Str} (p : zs.Perm l) (s : sortedS zs = true) : zs = srt l := sorted_uniq (p.trans (srt_perm l).symm) s (srt_sorted l)
/-- a name of the one is in the other -/
def meetN (xs ys : List Str) : Bool := xs.any fun x => decide (x ∈ ys)
def sp_cand (K : PySem.W.Frag) (C CC CN : Addr) : Sp := fun vs H Q E => ∃ (o o2 : Addr) (hs fs gs ks : List Str), vs = [.ref o, .ref o2] ∧ CondAt K C H o hs fs ∧ CondAt K C H o2 gs ks ∧ Txts hs ∧ Txts fs ∧ Txts gs ∧ Txts ks ∧ hs.length + gs.length < 64 ∧ fs.length + ks.length < 64 ∧
  (meetN (mrg hs gs) (mrg fs ks) = true → ∀ H', Same H H' → E (.ref CN) none H') ∧ (meetN (mrg hs gs) (mrg fs ks) = false →
    (∀ i, firstWrong (mrg hs gs) [] = some i → errPI CC ((0 : Nat) : Int) i H E) ∧ (firstWrong (mrg hs gs) [] = none → (∀ i, firstWrong (mrg fs ks) (mrg hs gs) = some i → errPI CC ((1 : Nat) : Int) i H E) ∧
    (firstWrong (mrg fs ks) (mrg hs gs) = none → ∀ H' o3, Same H H' → H o3 = none → CondAt K C H' o3 (mrg hs gs) (mrg fs ks) → Q (.ref o3) H')))
theorem ok_cand {f p1' g1 p2' g2 CN : Addr} {fd fd1 fd2 : FuncData} (F : Fun K "__and__" "Condition.__and__" s_Condition___and__ f fd) (B : Blt mg) (T : Cls K C) (n1 : NoAttr K C "_holding") (n2 : NoAttr K C "_failing")
    (p1 : PropC P w K mg base C p1' g1 fd1 "holding" "_holding") (p2 : PropC P w K mg base C p2' g2 fd2 "failing" "_failing") (e_NeverMet : ErrMk0 K mg "NeverMet" CN)
    (c_merged : Cal P w K mg base CX0 1 "merged" ["names", "others"] (sp_merged K)) (k_Condition : Mkr P w K mg base 4 "Condition" C ["self", "holding", "failing"] (sp_cond_init K C CC)) : FnOk P w K mg base (L2.CX P w) 6 f fd ["self", "other"] (sp_cand K C CC CN) := by
  refine F.okX sc_Condition___and__ (fun vs H Q E h => by obtain ⟨o, o2, hs, fs, gs, ks, rfl, _⟩ := h; rfl) (fun cdv A outer s H vs Q E hr h => ?_)
  obtain ⟨o, o2, hs, fs, gs, ks, rfl, hC, hD, t1, t2, t3, t4, l1, l2, qE, q⟩ := h
  obtain ⟨dx, a, b, n, zs, ho, ha, hb, _⟩ := hC.at_
  obtain ⟨dx2, a2, b2, n2', zs2, ho2, ha2, hb2, _⟩ := hD.at_
  have lk1 : (condF a2 b2 n2').lookup ("_holding" : Str) = some (.ref a2) := rfl
  have lk2 : (condF a2 b2 n2').lookup ("_failing" : Str) = some (.ref b2) := rfl
  refine ⟨_, (pss_cons (ps_set (i := 2) sc_Condition___and__.nd rfl (Or.inl rfl) (pe_cal c_merged (hr.mono (by decide)) (pa_cons (pe_fld (pv 0) rfl) (pa_cons (pe_prop (pv 1) T p1.1 p1.2.1 (hr.mono (by decide)) p1.2.2 .nil pass0 rfl) pa_nil))))
      (pss_cons (ps_set (i := 3) sc_Condition___and__.nd rfl (Or.inr rfl) (pe_cal c_merged (hr.mono (by decide)) (pa_cons (pe_fld (pv 0) rfl) (pa_cons (pe_prop (pv 1) T p2.1 p2.2.1 (hr.mono (by decide)) p2.2.2 .nil pass0 rfl) pa_nil))))
      (pss_cons (ps_if (pt_val (pe_callB (cr_any rfl) (by rfl) B.b_any (by decide +kernel) (pa_cons (pe_lc (own := [("name", 4)]) (g := gName 4) (tt := tYes) rfl sc_Condition___and__.nd (pi_tup (pv 2)) (blkOk_by (own := [("name", 4)]) (N := ["self", "other", "holding", "failing", "name"]) (sc := defScope s_Condition___and__) (by decide +kernel)) (fun _ _ _ _ _ => (pg_name (i := 4) sc_Condition___and__.nd rfl (Or.inl rfl))) (fun _ _ _ _ _ => pts_nil) (fun _ _ _ _ _ => (pe_.re (pe_cmpR op_in_seq (pv 4) (pv 3) rfl) (by first | (dsimp only [Cx.blk]; done) | exact rfl)))) pa_nil))) (pss_one (ps_raise rfl (takes_of rfl rfl rfl rfl) (pmk_err0 e_NeverMet))) pss_nil)
      (pss_one (ps_ret (pe_mkX k_Condition (hr.mono (by decide)) (takes_of rfl rfl rfl rfl) (pa_cons (pv 2) (pa_cons (pv 3) pa_nil)))))))), ?_⟩
  refine ⟨_, rfl, o, C, dx, _, .ref a, rfl, ho, T, n1, rfl, _, rfl, o2, dx2, _, rfl, ho2, ⟨o2, dx2, _, _, rfl, ho2, lk1, ?_⟩⟩
  refine ⟨a, a2, hs, gs, rfl, ha, ha2, l1, fun H1 hA za s1 eA pA sA => ?_⟩
  obtain rfl : za = mrg hs gs := srt_uniq pA sA
  refine ⟨_, rfl, o, C, dx, _, .ref b, rfl, s1 _ _ ho, T, n2, rfl, _, rfl, o2, dx2, _, rfl, s1 _ _ ho2, ⟨o2, dx2, _, _, rfl, s1 _ _ ho2, lk2, ?_⟩⟩
  refine ⟨b, b2, fs, ks, rfl, s1.tup hb, s1.tup hb2, l2, fun H2 hB zb s2 eB pB sB => ?_⟩
  obtain rfl : zb = mrg fs ks := srt_uniq pB sB
  have s12 := s1.trans s2
  have eA2 := s2 _ _ eA
  refine ⟨_, rfl, hA, rfl, ⟨_, sqT_of eA2⟩, fun D nD => lc_it walk_tup (fun i H' => Same H2 H' ∧ H' D = some (.lst (((mrg hs gs).take i).map fun x => V.bl (decide (x ∈ mrg fs ks))))) ⟨(Same.refl H2).put nD, upd_same⟩ (fun _ _ _ h => h.1.tup (sqT_of eA2)) ?_ ?_⟩
  · rintro i y H4 H3 hi ⟨s, e⟩ ⟨rfl, hy⟩
    rw [List.length_map] at hi
    have hx : (mrg hs gs)[i]? = some (mrg hs gs)[i] := List.getElem?_eq_getElem hi
    obtain rfl : V.str (mrg hs gs)[i] = y := strAt_inj hx hy
    refine ⟨rfl, yes_ ⟨_, rfl, _, rfl, hB, _, rfl, .inr (sqT_of (s _ _ eB)), rfl, flat_strs _, grow (acc := fun i => ((mrg hs gs).take i).map fun x => V.bl (decide (x ∈ mrg fs ks))) nD s e ?_ ?_⟩⟩
    · rw [List.length_map, List.length_take]
      have := mrg_len (xs := hs) (ys := gs)
      exact small1000 (by omega)
    · show List.map _ _ = _
      rw [take_more hx, List.map_append]
      simp only [List.map_cons, List.map_nil, inV_str]
      rfl
  · rintro H4 ⟨s, e⟩
    rw [List.length_map, List.take_length] at e
    refine ⟨D, (mrg hs gs).map fun x => decide (x ∈ mrg fs ks), rfl, sqL_of (by rw [e, List.map_map]; rfl), ?_⟩
    have em : ((mrg hs gs).map fun x => decide (x ∈ mrg fs ks)).any id = meetN (mrg hs gs) (mrg fs ks) := by
      rw [List.any_map]
      rfl
    rw [em]
    refine ⟨_, rfl, bcase (fun c1 => ?_) (fun c1 => ?_)⟩
    · exact qE c1 H4 (s12.trans s)
    · obtain ⟨q0, q⟩ := q c1
      have s4 := s12.trans s
      have eA4 := s _ _ eA2
      have eB4 := s _ _ eB
      refine ⟨_, rfl, _, rfl, fun o3 dx3 nx ndx nex => ?_⟩
      have s5 : Same H4 (upd (upd H4 dx3 (.own o3)) o3 (.ins C dx3 [])) := ((Same.refl H4).put ndx).put nx
      have m1 := mrg_len (xs := hs) (ys := gs)
      have m2 := mrg_len (xs := fs) (ys := ks)
      refine ⟨o3, dx3, hA, hB, _, _, rfl, upd_same, sqT_of (s5 _ _ eA4), sqT_of (s5 _ _ eB4), mrg_txts t1 t3, mrg_txts t2 t4, by omega, by omega, fun i ei H' d sH nd => q0 i ei H' d ((s4.trans s5).trans sH) nd, fun en => ?_⟩
      obtain ⟨q1, q⟩ := q en
      refine ⟨fun i ei H' d sH nd => q1 i ei H' d ((s4.trans s5).trans sH) nd, fun en2 H' n3 zs3 sX hx hn hperm hsort => ⟨rfl, ?_⟩⟩
      have sS : Same H4 H' := fun b' o' h => sX b' o' (fun e => by rw [e, nx] at h; cases h) (s5 _ _ h)
      exact q en2 H' o3 (s4.trans sS) (s4.free nx) ⟨dx3, hA, hB, n3, zs3, hx, sqT_of (sS _ _ eA4), sqT_of (sS _ _ eB4), hn, srt_uniq hperm hsort⟩
end
end Sc
namespace Sc
open PySem PySem.Spec PyProof.Rows L2
/-- o(e, ..), o an object whose class has its own __call__; the arguments leave it as it is -/
def tCallO (C : Addr) (sp : Sp) (E : XK) (te : TE) (t : TA) : TE := fun σ H Q => te σ H fun x H1 => ∃ (a : Addr), x = .ref a ∧
  t σ H1 fun vs H2 => (∃ (dx : Addr) (fs : List (Str × V)), H2 a = some (.ins C dx fs)) ∧ sp (.ref a :: vs) H2 Q E
theorem callWith_o {M : Model} {A : Around} {E : Value → Shared → Prop} {s : Shared} {pos : Pos} {x C : Addr} {first : List Value} {Q : Value → Shared → Prop} {args : List (Bool × Sem Value)} (hplain : args.any (·.1) = false)
    (h : wpAny M A (evalArgs (.ref x) true args []) (fun a s₁ => (∃ ox od, PySem.W.InstAt s₁.heap x ox C od ∧ ox.data = Data.plain) ∧ wpAny M A (call (.ref x) (first ++ a.pos) a.kw) Q E s₁) E s) : wpAny M A (callWith pos (.ref x) first args []) Q E s := by
  unfold callWith
  refine wpAny_bind (wpAny_holding (wpAny_mono h (fun a s₁ h₁ => wpAny_bind (wpAny_standAt ?_)) (fun _ _ z => z)))
  obtain ⟨⟨ox, od, J, hd⟩, h₂⟩ := h₁
  have L := PySem.W.kco_keeper (M := M) J hd
  simp only [hplain, List.any_nil, Bool.or_false]
  exact wpAny_bind (PySem.W.Looks.here L (wpAny_bind (wpAny_mono (wpAny_operateT h₂) (fun r s₂ hr => wpAny_bind (wpAny_holding (wpAny_point (wpAny_pure hr)))) (fun _ _ z => z))))
theorem pe_callO {X : Cx} {CX : CXT} {C g : Addr} {k : Nat} {fd : FuncData} {ps : List Str} {sp : Sp} {E : XK} {te : TE} {t : TA} {x : Str} {e : Expr} {es : List Expr} {p pos : Pos}
    (at_ : PySem.W.findIn X.K (.ref C) "__call__" = some (some (.ref g))) (fn : PySem.W.isFn X.K (.ref g) = true) (fi : PySem.W.fnIn X.K g = true)
    (F : FnOk X.prog X.w X.K X.mg X.base CX k g fd ps sp) (hr : Room k X.A) (hb : Binds X.K fd ps []) (hx : Passes CX X E) (ho : PE X (.Name x p) te) (ha : PA X (e :: es) t)
    (he : starEach (e :: es) X.env = (false, eval e X.env) :: starEach es X.env := by rfl) (hpl : (backTo pos (starEach es X.env)).any (·.1) = false := by rfl) :
    PE X (.Call (.Name x p) (e :: es) [] pos) (tCallO C sp E te t) := by
  refine ⟨fun pins s σ H Q I h => wpAny_Call_NameR (thn (ho.run pins s σ H _ I h) fun u s1 hh => ?_)⟩
  obtain ⟨y, H1, I1, ry, a, rfl, h⟩ := hh
  obtain rfl : u = Value.ref a := ry
  have hr0 := ha.run pos pins s1 σ H1 _ I1 h
  have eb : backTo pos (starEach (e :: es) X.env) = (false, eval e X.env) :: backTo pos (starEach es X.env) := by rw [he]; rfl
  rw [eb] at hr0 ⊢
  refine callWith_o (C := C) (by rw [List.any_cons, hpl]; rfl) (Calls.evalArgs_plain (thn hr0 fun us s2 hh => ?_))
  obtain ⟨vs, H2, I2, rv, ⟨dx, fs, ea⟩, hq⟩ := hh
  obtain ⟨mA, O, _⟩ := ins_get I2.hok ea
  obtain ⟨od, J, _⟩ := ObjM.look O
  have hl : (Value.ref a :: us).length = ps.length := by
    have := F.len _ _ _ _ hq
    rw [← this, List.length_cons, List.length_cons, Vals.length rv]
  refine ⟨⟨_, _, J, rfl⟩, wpAny_call (PySem.W.kco_code I2.kIn J rfl at_ fn fi (codeAny_mono (F.run X.A X.stack s2 H2 ⟨.ref a :: us, []⟩ (.ref a :: us) (.ref a :: vs) Q E hr I2.env0 ?_ (Paired.cons rfl rv) hq) fun res s' hcr => ?_))⟩
  · have := hb s2 (.ref a :: us) I2.kIn (by rw [List.append_nil]; exact hl)
    rw [List.append_nil] at this
    exact this
  · cases res with
    | error er => exact hx pins σ H2 s2 er s' I2 hcr
    | ok fl =>
      cases fl with
      | ret v => exact I2.after hcr
      | next => exact hcr.elim
      | brk => exact hcr.elim
      | cont => exact hcr.elim
end Sc
namespace Sc
open PySem PySem.Spec PyProof.Rows L2
/-- the class Condition as its users see it -/
structure CondX (P : Program) (w : World) (K : PySem.W.Frag) (mg : Str → Option Value) (base : Heap) (C CC CN : Addr) : Prop where
  cls : Cls K C
  isi : IsiC K C
  holding : ∃ p g fd, PropC P w K mg base C p g fd "holding" "_holding"
  failing : ∃ p g fd, PropC P w K mg base C p g fd "failing" "_failing"
  names : ∃ p g fd, PropC P w K mg base C p g fd "names" "_names"
  call : ∃ g fd, PySem.W.findIn K (.ref C) "__call__" = some (some (.ref g)) ∧ PySem.W.isFn K (.ref g) = true ∧ PySem.W.fnIn K g = true ∧ FnOk P w K mg base CX0 1 g fd ["self", "case"] (sp_ccall K C) ∧ Binds K fd ["self", "case"] []
  eq : ∃ g fd, PySem.W.findIn K (.ref C) "__eq__" = some (some (.ref g)) ∧ PySem.W.isFn K (.ref g) = true ∧ FnOk P w K mg base CX0 1 g fd ["self", "other"] (sp_ceq K C) ∧ Binds K fd ["self", "other"] []
  ne : PySem.W.findIn K (.ref C) "__ne__" = some (some (.builtin "object.__ne__"))
  and_ : PySem.W.selfFirst K C = true ∧ ∃ g fd, PySem.W.findIn K (.ref C) "__and__" = some (some (.ref g)) ∧ PySem.W.isFn K (.ref g) = true ∧ FnOk P w K mg base (L2.CX P w) 6 g fd ["self", "other"] (sp_cand K C CC CN) ∧ Binds K fd ["self", "other"] []
  within_ : ∃ g fd, Meth K C "within" g ∧ FnOk P w K mg base CX0 3 g fd ["self", "other"] (sp_within K C) ∧ Binds K fd ["self", "other"] []
section
variable {X : Cx} {C CC CN : Addr} {e o : Expr} {es : List Expr} {ta te : TE} {t : TA} {x : Str} {p pos apos : Pos} {E : XK}
theorem pe_cprop {f n : Str} (M : ∃ p g fd, PropC X.prog X.w X.K X.mg X.base C p g fd n f) (c : Cls X.K C) (hr : Room 2 X.A) (he : PE X e ta) (hab : attributeBase e n X.env (eval e X.env) = eval e X.env := by rfl) : PE X (.Attribute e n pos) (tProp C (sp_prop C f) [] E0 ta) := by
  obtain ⟨p, g, fd, h1, h2, h3⟩ := M
  exact pe_prop he c h1 h2 hr h3 .nil pass0 hab
theorem pe_cc (M : CondX X.prog X.w X.K X.mg X.base C CC CN) (hr : Room 1 X.A) (ho : PE X (.Name x p) te) (ha : PA X (e :: es) t)
    (he : starEach (e :: es) X.env = (false, eval e X.env) :: starEach es X.env := by rfl) (hpl : (backTo pos (starEach es X.env)).any (·.1) = false := by rfl) : PE X (.Call (.Name x p) (e :: es) [] pos) (tCallO C (sp_ccall X.K C) E0 te t) := by
  obtain ⟨g, fd, h1, h2, h3, F, hb⟩ := M.call
  exact pe_callO h1 h2 h3 F hr hb pass0 ho ha he hpl
theorem op_ceq (M : CondX X.prog X.w X.K X.mg X.base C CC CN) (hr : Room 1 X.A) : OpR X (compareOp .Eq) (rEqO X.K C (sp_ceq X.K C) E0) := by
  obtain ⟨g, fd, h1, h2, F, hb⟩ := M.eq
  exact op_eqO h1 h2 F hr hb pass0
theorem op_cne (M : CondX X.prog X.w X.K X.mg X.base C CC CN) (hr : Room 2 X.A) : OpR X (compareOp .NotEq) (rNeO X.K C (sp_ceq X.K C) E0) := by
  obtain ⟨g, fd, h1, h2, F, hb⟩ := M.eq
  exact op_neO M.isi.cm M.ne h1 h2 F hr hb pass0
theorem op_candN (M : CondX X.prog X.w X.K X.mg X.base C CC CN) (hr : Room 6 X.A) : OpR X (binaryOp .BitAnd) (rBinO C (sp_cand X.K C CC CN) E0) := by
  obtain ⟨h0, g, fd, h1, h2, F, hb⟩ := M.and_
  exact op_binO h0 h1 h2 F hr hb passL
theorem op_candX (M : CondX X.prog X.w X.K X.mg X.base C CC CN) (hr : Room 6 X.A) (tk : Takes X (fun cls d _ H => E cls d H)) : OpR X (binaryOp .BitAnd) (rBinO C (sp_cand X.K C CC CN) E) := by
  obtain ⟨h0, g, fd, h1, h2, F, hb⟩ := M.and_
  exact op_binO h0 h1 h2 F hr hb (fun pins σ H s e s' I h => passAt tk σ pins H s e s' I h)
theorem pe_cwithin {pl : Sem Bool} (M : CondX X.prog X.w X.K X.mg X.base C CC CN) (hr : Room 3 X.A) (he : PE X o ta) (ha : PA X (e :: es) t)
    (hst : starEach (e :: es) X.env = (false, eval e X.env) :: starEach es X.env := by rfl) (hpl : (backTo pos (starEach es X.env)).any (·.1) = false := by rfl)
    (ht : eval (.Call (.Attribute o "within" apos) (e :: es) [] pos) X.env = (do
      let ov ← eval o X.env
      standAt apos.atName
      let (f, first) ← holding [ov] (getMethod ov "within" pl)
      callWith pos f first (backTo pos (starEach (e :: es) X.env)) (backToKw pos (keywordEach [] X.env))) := by rfl) : PE X (.Call (.Attribute o "within" apos) (e :: es) [] pos) (tMeth C "within" (sp_within X.K C) [] E0 ta t) := by
  obtain ⟨g, fd, h1, F, hb⟩ := M.within_
  exact pe_meth he M.cls h1 F hr hb .nil pass0 ha hst hpl ht
end
end Sc
namespace Sc
open PySem PySem.Spec PyProof.Rows L2
theorem wk_ps {X : Cx} {st : Stmt} {t : TS} (t' : TS) (h : PS X st t) (w : ∀ D σ H, t' D σ H → t D σ H) : PS X st t' := ⟨fun pins s σ H D I x => h.run pins s σ H D I (w D σ H x)⟩
/-! ### rules as data -/
inductive All2 {α β : Type} (R : α → β → Prop) : List α → List β → Prop where
  | nil : All2 R [] []
  | cons {a : α} {b : β} {as : List α} {bs : List β} (h : R a b) (t : All2 R as bs) : All2 R (a :: as) (b :: bs)
namespace All2
variable {α β : Type} {R S : α → β → Prop} {as as' : List α} {bs bs' : List β}
theorem len (h : All2 R as bs) : as.length = bs.length := by
  induction h with
  | nil => rfl
  | cons _ _ ih => rw [List.length_cons, List.length_cons, ih]
theorem mono (h : All2 R as bs) (f : ∀ a b, R a b → S a b) : All2 S as bs := by
  induction h with
  | nil => exact .nil
  | cons h _ ih => exact .cons (f _ _ h) ih
theorem monoM (h : All2 R as bs) (f : ∀ a b, b ∈ bs → R a b → S a b) : All2 S as bs := by
  induction h with
  | nil => exact .nil
  | cons h _ ih => exact .cons (f _ _ List.mem_cons_self h) (ih fun a b m => f a b (List.mem_cons_of_mem _ m))
theorem app (h : All2 R as bs) (k : All2 R as' bs') : All2 R (as ++ as') (bs ++ bs') := by
  induction h with
  | nil => exact k
  | cons h _ ih => exact .cons h ih
theorem one {a : α} {b : β} (h : R a b) : All2 R [a] [b] := .cons h .nil
theorem snoc {a : α} {b : β} (h : All2 R as bs) (r : R a b) : All2 R (as ++ [a]) (bs ++ [b]) := h.app (one r)
theorem get (h : All2 R as bs) : ∀ {i : Nat} {a : α}, as[i]? = some a → ∃ b, bs[i]? = some b ∧ R a b := by
  induction h with
  | nil => intro i a e; cases i <;> cases e
  | cons h _ ih =>
    intro i a e
    cases i with
    | zero => cases e; exact ⟨_, rfl, h⟩
    | succ i => exact ih e
theorem get' (h : All2 R as bs) : ∀ {i : Nat} {b : β}, bs[i]? = some b → ∃ a, as[i]? = some a ∧ R a b := by
  induction h with
  | nil => intro i a e; cases i <;> cases e
  | cons h _ ih =>
    intro i a e
    cases i with
    | zero => cases e; exact ⟨_, rfl, h⟩
    | succ i => exact ih e
theorem at' (h : All2 R as bs) {i : Nat} (hi : i < bs.length) : ∃ a, as[i]? = some a ∧ R a bs[i] := h.get' (List.getElem?_eq_getElem hi)
end All2
/-- a row of rules, each with its exceptions -/
inductive RF where
  | nil : RF
  | cons (nm : Str) (hs fs : List Str) (rl : Str) (exc rest : RF) : RF
structure Nd where
  nm : Str
  hs : List Str
  fs : List Str
  rl : Str
  exc : RF
namespace RF
def nodes : RF → List Nd
  | .nil => []
  | .cons nm hs fs rl exc rest => ⟨nm, hs, fs, rl, exc⟩ :: rest.nodes
def dep : RF → Nat
  | .nil => 0
  | .cons _ _ _ _ exc rest => max (exc.dep + 1) rest.dep
def size : RF → Nat
  | .nil => 0
  | .cons _ _ _ _ exc rest => exc.size + 1 + rest.size
/-- all rules by their numbers, and within how many they stand -/
def pre : RF → Nat → List (Nd × Nat)
  | .nil, _ => []
  | .cons nm hs fs rl exc rest, k => (⟨nm, hs, fs, rl, exc⟩, k) :: (exc.pre (k + 1) ++ rest.pre k)
def ofNodes : List Nd → RF
  | [] => .nil
  | n :: r => .cons n.nm n.hs n.fs n.rl n.exc (ofNodes r)
theorem nodes_of : ∀ ns : List Nd, (ofNodes ns).nodes = ns
  | [] => rfl
  | n :: r => by show n :: (ofNodes r).nodes = n :: r; rw [nodes_of r]
theorem of_nodes : ∀ f : RF, ofNodes f.nodes = f
  | .nil => rfl
  | .cons nm hs fs rl exc rest => by show RF.cons nm hs fs rl exc (ofNodes rest.nodes) = _; rw [of_nodes rest]
theorem pre_nodes : ∀ (f : RF) (k : Nat), f.pre k = f.nodes.flatMap fun n => (n, k) :: n.exc.pre (k + 1)
  | .nil, _ => rfl
  | .cons nm hs fs rl exc rest, k => by
    show (_, k) :: (exc.pre (k + 1) ++ rest.pre k) = _
    rw [pre_nodes rest k]
    rfl
theorem pre_len : ∀ (f : RF) (k : Nat), (f.pre k).length = f.size
  | .nil, _ => rfl
  | .cons nm hs fs rl exc rest, k => by
    show ((_, k) :: (exc.pre (k + 1) ++ rest.pre k)).length = exc.size + 1 + rest.size
    rw [List.length_cons, List.length_append, pre_len exc, pre_len rest]
    omega
theorem dep_nil : ∀ f : RF, f.dep = 0 → f = .nil
  | .nil, _ => rfl
  | .cons _ _ _ _ exc rest, h => by
    have h : max (exc.dep + 1) rest.dep = 0 := h
    omega
theorem dep_mem : ∀ (f : RF) (n : Nd), n ∈ f.nodes → n.exc.dep + 1 ≤ f.dep
  | .nil, n, h => nomatch h
  | .cons nm hs fs rl exc rest, n, h => by
    show _ ≤ max (exc.dep + 1) rest.dep
    rcases List.mem_cons.mp h with rfl | h
    · exact Nat.le_max_left _ _
    · exact Nat.le_trans (dep_mem rest n h) (Nat.le_max_right _ _)
theorem dep_le : ∀ (f : RF) (d : Nat), (∀ n ∈ f.nodes, n.exc.dep + 1 ≤ d) → f.dep ≤ d
  | .nil, d, _ => Nat.zero_le d
  | .cons nm hs fs rl exc rest, d, h => by
    show max (exc.dep + 1) rest.dep ≤ d
    exact Nat.max_le.mpr ⟨h _ List.mem_cons_self, dep_le rest d fun n m => h n (List.mem_cons_of_mem _ m)⟩
theorem size_mem : ∀ (f : RF) (n : Nd), n ∈ f.nodes → n.exc.size + 1 ≤ f.size
  | .nil, n, h => nomatch h
  | .cons nm hs fs rl exc rest, n, h => by
    show _ ≤ exc.size + 1 + rest.size
    rcases List.mem_cons.mp h with rfl | h
    · show exc.size + 1 ≤ _
      omega
    · have := size_mem rest n h
      omega
theorem nodes_le : ∀ f : RF, f.nodes.length ≤ f.size
  | .nil => Nat.le_refl 0
  | .cons nm hs fs rl exc rest => by
    show rest.nodes.length + 1 ≤ exc.size + 1 + rest.size
    have := nodes_le rest
    omega
/-- the names of all rules, by their numbers -/
def names (f : RF) : List Str := (f.pre 0).map fun p => p.1.nm
theorem pre_names : ∀ (f : RF) (k : Nat), (f.pre k).map (fun p => p.1.nm) = f.names
  | .nil, _ => rfl
  | .cons nm hs fs rl exc rest, k => by
    unfold names
    show nm :: ((exc.pre (k + 1) ++ rest.pre k).map fun p => p.1.nm) = nm :: ((exc.pre (0 + 1) ++ rest.pre 0).map fun p => p.1.nm)
    rw [List.map_append, List.map_append, pre_names exc, pre_names exc, pre_names rest, pre_names rest]
/-- the first rules of a row, with their exceptions, by their numbers -/
def preL (ns : List Nd) (k : Nat) : List (Nd × Nat) := ns.flatMap fun n => (n, k) :: n.exc.pre (k + 1)
theorem preL_more {f : RF} {i k : Nat} {n : Nd} (h : f.nodes[i]? = some n) : preL (f.nodes.take (i + 1)) k = preL (f.nodes.take i) k ++ ((n, k) :: n.exc.pre (k + 1)) := by
  unfold preL
  rw [take_more h, List.flatMap_append]
  simp
theorem preL_all {f : RF} {k : Nat} : preL (f.nodes.take f.nodes.length) k = f.pre k := by
  rw [List.take_length, pre_nodes]
  rfl
theorem preL_len {f : RF} {i k : Nat} : (preL (f.nodes.take i) k).length ≤ f.size := by
  have e : preL f.nodes k = preL (f.nodes.take i) k ++ preL (f.nodes.drop i) k := by
    unfold preL
    rw [← List.flatMap_append, List.take_append_drop]
  have e2 : (preL f.nodes k).length = f.size := by
    rw [← pre_len f k, pre_nodes]
    rfl
  rw [← e2, e, List.length_append]
  exact Nat.le_add_right _ _
end RF
/-! ### where they stand -/
/-- an object that is made, to its last field -/
def DoneF (fs : List (Str × V)) : Bool := (fs.lookup ("_inside" : Str)).isSome || ((fs.lookup ("_names" : Str)).isSome || (fs.lookup ("_numbered" : Str)).isSome)
/-- what steps that change only lists of the law's own, or an object that is being made, leave as it is -/
def Stays (N : Addr → Prop) (b : Addr) (o : HO) : Prop := (∀ xs, o = .lst xs → N b) ∧ (∀ C dx fs, o = .ins C dx fs → DoneF fs = true) ∧ ∀ ps, o ≠ .tbl ps
def Keeps (N : Addr → Prop) (H H' : Hp) : Prop := ∀ b o, Stays N b o → H b = some o → H' b = some o
section
variable {K : PySem.W.Frag} {C R : Addr} {N : Addr → Prop} {H H' H'' : Hp}
theorem _root_.L2.Same.keeps (s : Same H H') : Keeps N H H' := fun b o _ e => s b o e
theorem Keeps.trans (h : Keeps N H H') (k : Keeps N H' H'') : Keeps N H H'' := fun b o st e => k b o st (h b o st e)
theorem Kp.keeps {a l : Addr} (k : Kp a l H H') (na : ¬ N a) (nl : ¬ N l) : Keeps N H H' := fun b o st e => by
  by_cases z : ∃ xs, o = .lst xs
  · obtain ⟨xs, rfl⟩ := z
    have := st.1 xs rfl
    exact k.keep b _ (fun z => na (z ▸ this)) (fun z => nl (z ▸ this)) e
  · exact k.obj e fun xs z2 => z ⟨xs, z2⟩
theorem SameX.keeps {x dx : Addr} {fs : List (Str × V)} (s : SameX x H H') (e : H x = some (.ins R dx fs)) (n : DoneF fs = false := by rfl) : Keeps N H H' := fun b o st h => s b o (fun z => by rw [z, e] at h; exact Bool.noConfusion (n.symm.trans (st.2.1 R dx fs (Option.some.inj h).symm))) h
/-- an object that is being made changes -/
theorem keeps_make {x dx : Addr} {fs : List (Str × V)} {o : HO} (e : H x = some (.ins R dx fs)) (n : DoneF fs = false := by rfl) : Keeps N H (upd H x o) := SameX.keeps (fun b o' ne h => by rw [upd_ne ne]; exact h) e n
theorem stays_tup {b : Addr} {xs : List V} : Stays N b (.tup xs) := ⟨(fun _ z => nomatch z), (fun _ _ _ z => nomatch z), (fun _ z => nomatch z)⟩
theorem stays_ins {b C dx : Addr} {fs : List (Str × V)} (h : DoneF fs = true := by rfl) : Stays N b (.ins C dx fs) := ⟨(fun _ z => nomatch z), (fun _ _ _ z => by cases z; exact h), (fun _ z => nomatch z)⟩
theorem stays_lst {b : Addr} {xs : List V} (h : N b) : Stays N b (.lst xs) := ⟨(fun _ _ => h), (fun _ _ _ z => nomatch z), (fun _ z => nomatch z)⟩
theorem Keeps.tup {b : Addr} {xs : List V} (k : Keeps N H H') (h : SqT K H b xs) : SqT K H' b xs := by
  rcases h with (h | ⟨o, h⟩) | h
  · exact .inl (.inl (k _ _ stays_tup h))
  · exact .inl (.inr ⟨o, k _ _ ⟨(fun _ z => nomatch z), (fun _ _ _ z => nomatch z), (fun _ z => nomatch z)⟩ h⟩)
  · exact .inr h
theorem CondAt.keeps {o : Addr} {hs fs : List Str} (h : CondAt K C H o hs fs) (k : Keeps N H H') : CondAt K C H' o hs fs := by
  obtain ⟨dx, a, b, n, zs, h1, h2, h3, h4, h5⟩ := h.at_
  exact ⟨dx, a, b, n, zs, k _ _ stays_ins h1, k.tup h2, k.tup h3, k _ _ stays_tup h4, h5⟩
/-- the fields of a rule -/
def ruleF (nm : Str) (c : Addr) (rl : Str) (p : Addr) (d : Int) (l : Addr) : List (Str × V) :=
  putF "_inside" (.ref l) (putF "_depth" (.int d) (putF "_exceptions" (.ref p) (putF "_ruling" (.str rl) (putF "_condition" (.ref c) (putF "_name" (.str nm) [])))))
def ForAt (K : PySem.W.Frag) (C R : Addr) (N : Addr → Prop) (H : Hp) : RF → List V → Prop
  | .nil, vs => vs = []
  | .cons nm hs fs rl exc rest, vs => ∃ (o dx c p l : Addr) (ws vs' : List V), vs = .ref o :: vs' ∧ H o = some (.ins R dx (ruleF nm c rl p ((exc.dep + 1 : Nat) : Int) l)) ∧ CondAt K C H c hs fs ∧ SqT K H p ws ∧ (N l ∧ H l = some (.lst ((nm :: exc.names).map V.str))) ∧
      ForAt K C R N H exc ws ∧ ForAt K C R N H rest vs'
def NdAt (K : PySem.W.Frag) (C R : Addr) (N : Addr → Prop) (H : Hp) (o : Addr) (n : Nd) : Prop := ∃ (dx c p l : Addr) (ws : List V), H o = some (.ins R dx (ruleF n.nm c n.rl p ((n.exc.dep + 1 : Nat) : Int) l)) ∧ CondAt K C H c n.hs n.fs ∧ SqT K H p ws ∧ (N l ∧ H l = some (.lst ((n.nm :: n.exc.names).map V.str))) ∧ ForAt K C R N H n.exc ws
def RefAt (K : PySem.W.Frag) (C R : Addr) (N : Addr → Prop) (H : Hp) (v : V) (n : Nd) : Prop := ∃ o, v = .ref o ∧ NdAt K C R N H o n
theorem stays_rule {b : Addr} {dx c p l : Addr} {nm rl : Str} {d : Int} : Stays N b (.ins R dx (ruleF nm c rl p d l)) := stays_ins
theorem ForAt.keeps (k : Keeps N H H') : ∀ {f : RF} {vs : List V}, ForAt K C R N H f vs → ForAt K C R N H' f vs
  | .nil, _, h => h
  | .cons nm hs fs rl exc rest, vs, h => by
    obtain ⟨o, dx, c, p, l, ws, vs', e, h1, h2, h3, ⟨h4, h5⟩, h6, h7⟩ := h
    exact ⟨o, dx, c, p, l, ws, vs', e, k _ _ stays_rule h1, h2.keeps k, k.tup h3, ⟨h4, k _ _ (stays_lst h4) h5⟩, ForAt.keeps k h6, ForAt.keeps k h7⟩
theorem NdAt.keeps {o : Addr} {n : Nd} (h : NdAt K C R N H o n) (k : Keeps N H H') : NdAt K C R N H' o n := by
  obtain ⟨dx, c, p, l, ws, h1, h2, h3, ⟨h4, h5⟩, h6⟩ := h
  exact ⟨dx, c, p, l, ws, k _ _ stays_rule h1, h2.keeps k, k.tup h3, ⟨h4, k _ _ (stays_lst h4) h5⟩, h6.keeps k⟩
theorem RefAt.keeps {v : V} {n : Nd} (h : RefAt K C R N H v n) (k : Keeps N H H') : RefAt K C R N H' v n := by
  obtain ⟨o, e, h⟩ := h
  exact ⟨o, e, h.keeps k⟩
theorem ForAt.all : ∀ {f : RF} {vs : List V}, ForAt K C R N H f vs → All2 (RefAt K C R N H) vs f.nodes
  | .nil, _, h => by
    obtain rfl : _ = [] := h
    exact .nil
  | .cons nm hs fs rl exc rest, vs, h => by
    obtain ⟨o, dx, c, p, l, ws, vs', rfl, h1, h2, h3, h4, h6, h7⟩ := h
    exact .cons ⟨o, rfl, dx, c, p, l, ws, h1, h2, h3, h4, h6⟩ h7.all
theorem ForAt.of : ∀ {f : RF} {vs : List V}, All2 (RefAt K C R N H) vs f.nodes → ForAt K C R N H f vs
  | .nil, _, h => by
    cases h
    rfl
  | .cons nm hs fs rl exc rest, vs, h => by
    cases h with
    | cons h t =>
      obtain ⟨o, rfl, dx, c, p, l, ws, h1, h2, h3, h4, h6⟩ := h
      exact ⟨o, dx, c, p, l, ws, _, rfl, h1, h2, h3, h4, h6, ForAt.of t⟩
theorem ForAt.len {f : RF} {vs : List V} (h : ForAt K C R N H f vs) : vs.length = f.nodes.length := h.all.len
theorem ForAt.re {M : Addr → Prop} (g : ∀ b xs, N b → H b = some (.lst xs) → M b) : ∀ {f : RF} {vs : List V}, ForAt K C R N H f vs → ForAt K C R M H f vs
  | .nil, _, h => h
  | .cons nm hs fs rl exc rest, vs, h => by
    obtain ⟨o, dx, c, p, l, ws, vs', e, h1, h2, h3, ⟨h4, h5⟩, h6, h7⟩ := h
    exact ⟨o, dx, c, p, l, ws, vs', e, h1, h2, h3, ⟨g _ _ h4 h5, h5⟩, ForAt.re g h6, ForAt.re g h7⟩
theorem NdAt.re {M : Addr → Prop} (g : ∀ b xs, N b → H b = some (.lst xs) → M b) {o : Addr} {n : Nd} (h : NdAt K C R N H o n) : NdAt K C R M H o n := by
  obtain ⟨dx, c, p, l, ws, h1, h2, h3, ⟨h4, h5⟩, h6⟩ := h
  exact ⟨dx, c, p, l, ws, h1, h2, h3, ⟨g _ _ h4 h5, h5⟩, h6.re g⟩
/-- the addresses of N that are in use -/
def Used (N : Addr → Prop) (H : Hp) (b : Addr) : Prop := N b ∧ H b ≠ none
theorem ForAt.used {f : RF} {vs : List V} (h : ForAt K C R N H f vs) : ForAt K C R (Used N H) H f vs := h.re fun b xs n e => ⟨n, by rw [e]; exact fun z => nomatch z⟩
theorem used_not {D : Addr} (n : H D = none) : ¬ Used N H D := fun h => h.2 n
theorem SameX.keeps' {D : Addr} (s : SameX D H H') (n : ¬ N D) (z : ∀ o, H D = some o → ∃ xs, o = .lst xs) : Keeps N H H' := fun b o st h => s b o (fun e => by
  subst e
  obtain ⟨xs, rfl⟩ := z o h
  exact n (st.1 xs rfl)) h
/-- a list of one's own changes -/
theorem keeps_own {D : Addr} {xs : List V} {o : HO} (e : H D = some (.lst xs)) (n : ¬ N D) : Keeps N H (upd H D o) := SameX.keeps' (fun b o' ne h => by rw [upd_ne ne]; exact h) n fun o' h => by rw [e] at h; exact ⟨xs, (Option.some.inj h).symm⟩
/-- a list of tuples (rule, number of rules around) -/
def PairAt (K : PySem.W.Frag) (C R : Addr) (N : Addr → Prop) (H : Hp) (v : V) (n : Nd × Nat) : Prop := ∃ (t o : Addr), v = .ref t ∧ H t = some (.tup [.ref o, .int (n.2 : Nat)]) ∧ NdAt K C R N H o n.1
theorem PairAt.keeps {v : V} {n : Nd × Nat} (h : PairAt K C R N H v n) (k : Keeps N H H') : PairAt K C R N H' v n := by
  obtain ⟨t, o, e, h1, h2⟩ := h
  exact ⟨t, o, e, k _ _ stays_tup h1, h2.keeps k⟩
theorem PairAt.re {M : Addr → Prop} (g : ∀ b xs, N b → H b = some (.lst xs) → M b) {v : V} {n : Nd × Nat} (h : PairAt K C R N H v n) : PairAt K C R M H v n := by
  obtain ⟨t, o, e, h1, h2⟩ := h
  exact ⟨t, o, e, h1, h2.re g⟩
abbrev PreAt (K : PySem.W.Frag) (C R : Addr) (N : Addr → Prop) (H : Hp) (us : List V) (ps : List (Nd × Nat)) : Prop := All2 (PairAt K C R N H) us ps
theorem PreAt.keeps {us : List V} {ps : List (Nd × Nat)} (h : PreAt K C R N H us ps) (k : Keeps N H H') : PreAt K C R N H' us ps := h.mono fun _ _ x => x.keeps k
/-! ### the law's rows: tuples -/
def RowsAt (K : PySem.W.Frag) (H : Hp) : RF → List V → Prop
  | .nil, vs => vs = []
  | .cons nm hs fs rl exc rest, vs => ∃ (o w b p : Addr) (ws vs' : List V), vs = .ref o :: vs' ∧ SqT K H o [.str nm, .ref w, .ref b, .str rl, .ref p] ∧ SqT K H w (hs.map V.str) ∧ SqT K H b (fs.map V.str) ∧ SqT K H p ws ∧ RowsAt K H exc ws ∧ RowsAt K H rest vs'
def RowAt (K : PySem.W.Frag) (H : Hp) (v : V) (n : Nd) : Prop := ∃ (o w b p : Addr) (ws : List V), v = .ref o ∧ SqT K H o [.str n.nm, .ref w, .ref b, .str n.rl, .ref p] ∧ SqT K H w (n.hs.map V.str) ∧ SqT K H b (n.fs.map V.str) ∧ SqT K H p ws ∧ RowsAt K H n.exc ws
theorem RowsAt.keeps (k : Keeps N H H') : ∀ {f : RF} {vs : List V}, RowsAt K H f vs → RowsAt K H' f vs
  | .nil, _, h => h
  | .cons nm hs fs rl exc rest, vs, h => by
    obtain ⟨o, w, b, p, ws, vs', e, h1, h2, h3, h4, h6, h7⟩ := h
    exact ⟨o, w, b, p, ws, vs', e, k.tup h1, k.tup h2, k.tup h3, k.tup h4, RowsAt.keeps k h6, RowsAt.keeps k h7⟩
theorem RowAt.keeps {v : V} {n : Nd} (h : RowAt K H v n) (k : Keeps N H H') : RowAt K H' v n := by
  obtain ⟨o, w, b, p, ws, e, h1, h2, h3, h4, h6⟩ := h
  exact ⟨o, w, b, p, ws, e, k.tup h1, k.tup h2, k.tup h3, k.tup h4, h6.keeps k⟩
theorem RowsAt.all : ∀ {f : RF} {vs : List V}, RowsAt K H f vs → All2 (RowAt K H) vs f.nodes
  | .nil, _, h => by
    obtain rfl : _ = [] := h
    exact .nil
  | .cons nm hs fs rl exc rest, vs, h => by
    obtain ⟨o, w, b, p, ws, vs', rfl, h1, h2, h3, h4, h6, h7⟩ := h
    exact .cons ⟨o, w, b, p, ws, rfl, h1, h2, h3, h4, h6⟩ h7.all
theorem RowsAt.of : ∀ {f : RF} {vs : List V}, All2 (RowAt K H) vs f.nodes → RowsAt K H f vs
  | .nil, _, h => by
    cases h
    rfl
  | .cons nm hs fs rl exc rest, vs, h => by
    cases h with
    | cons h t =>
      obtain ⟨o, w, b, p, ws, rfl, h1, h2, h3, h4, h6⟩ := h
      exact ⟨o, w, b, p, ws, _, rfl, h1, h2, h3, h4, h6, RowsAt.of t⟩
theorem RowsAt.len {f : RF} {vs : List V} (h : RowsAt K H f vs) : vs.length = f.nodes.length := h.all.len
end
end Sc
namespace Sc
open PySem PySem.Spec PyProof.Rows L2
/-! ### xs[i] += e -/
def rGetL (K : PySem.W.Frag) : V → V → Hp → VK → Prop := fun x y H Q => ∃ (p : Addr) (xs : List V) (i : Nat) (v : V), x = .ref p ∧ y = .int i ∧ SqL K H p xs ∧ xs[i]? = some v ∧ Q v H
theorem get_list {X : Cx} : PGet X (rGetL X.K) := by
  intro pins s σ H x y v u Q I rx ry h
  obtain ⟨p, xs, i, z, rfl, rfl, hq, he, q⟩ := h
  cases rx
  obtain ⟨t, rfl⟩ := ry
  obtain ⟨its, r, pl, hz⟩ := I.list hq
  obtain ⟨w, ew, rw'⟩ := r.get he
  have hl := r.length
  have hn := line63
  have hi : i < its.length := by
    by_cases c : i < its.length
    · exact c
    · rw [List.getElem?_eq_none (by omega)] at ew; cases ew
  exact wpAny_getItem_list pl.isList (by omega) (by omega) (by simpa using ew) ⟨z, H, I, rw', q⟩
/-! ### rows of rules, longer and shorter -/
namespace RF
/-- something of all rules -/
def every (p : Nd → Prop) : RF → Prop
  | .nil => True
  | .cons nm hs fs rl exc rest => p ⟨nm, hs, fs, rl, exc⟩ ∧ exc.every p ∧ rest.every p
theorem every_nodes {p : Nd → Prop} : ∀ {f : RF}, f.every p ↔ ∀ n ∈ f.nodes, p n ∧ n.exc.every p
  | .nil => ⟨(fun _ _ h => nomatch h), fun _ => trivial⟩
  | .cons nm hs fs rl exc rest => by
    constructor
    · rintro ⟨h1, h2, h3⟩ n hn
      rcases List.mem_cons.mp hn with rfl | hn
      · exact ⟨h1, h2⟩
      · exact every_nodes.mp h3 n hn
    · intro h
      exact ⟨(h _ List.mem_cons_self).1, (h _ List.mem_cons_self).2, every_nodes.mpr fun n hn => h n (List.mem_cons_of_mem _ hn)⟩
theorem every_pre {p : Nd → Prop} : ∀ {f : RF} {k : Nat}, f.every p → ∀ q ∈ f.pre k, p q.1
  | .nil, k, _, q, h => nomatch h
  | .cons nm hs fs rl exc rest, k, h, q, hq => by
    rcases List.mem_cons.mp hq with rfl | hq
    · exact h.1
    rcases List.mem_append.mp hq with hq | hq
    · exact every_pre h.2.1 q hq
    · exact every_pre h.2.2 q hq
theorem every_mono {p r : Nd → Prop} (g : ∀ n, p n → r n) : ∀ {f : RF}, f.every p → f.every r
  | .nil, _ => trivial
  | .cons nm hs fs rl exc rest, h => ⟨g _ h.1, every_mono g h.2.1, every_mono g h.2.2⟩
def snoc : RF → Nd → RF
  | .nil, n => .cons n.nm n.hs n.fs n.rl n.exc .nil
  | .cons nm hs fs rl exc rest, n => .cons nm hs fs rl exc (rest.snoc n)
theorem snoc_nodes : ∀ (f : RF) (n : Nd), (f.snoc n).nodes = f.nodes ++ [n]
  | .nil, n => rfl
  | .cons nm hs fs rl exc rest, n => by show _ :: (rest.snoc n).nodes = _; rw [snoc_nodes rest n]; rfl
theorem snoc_size : ∀ (f : RF) (n : Nd), (f.snoc n).size = f.size + (n.exc.size + 1)
  | .nil, n => by show n.exc.size + 1 + 0 = 0 + _; omega
  | .cons nm hs fs rl exc rest, n => by show exc.size + 1 + (rest.snoc n).size = exc.size + 1 + rest.size + _; rw [snoc_size rest n]; omega
theorem snoc_dep : ∀ (f : RF) (n : Nd), (f.snoc n).dep = max f.dep (n.exc.dep + 1)
  | .nil, n => by show max (n.exc.dep + 1) 0 = max 0 _; omega
  | .cons nm hs fs rl exc rest, n => by show max (exc.dep + 1) (rest.snoc n).dep = max (max (exc.dep + 1) rest.dep) _; rw [snoc_dep rest n]; omega
theorem snoc_pre : ∀ (f : RF) (n : Nd) (k : Nat), (f.snoc n).pre k = f.pre k ++ ((n, k) :: n.exc.pre (k + 1))
  | .nil, n, k => by show (_, k) :: (n.exc.pre (k + 1) ++ []) = [] ++ _; rw [List.append_nil]; rfl
  | .cons nm hs fs rl exc rest, n, k => by show (_, k) :: (exc.pre (k + 1) ++ (rest.snoc n).pre k) = (_, k) :: (exc.pre (k + 1) ++ rest.pre k) ++ _; rw [snoc_pre rest n k]; simp
theorem snoc_names (f : RF) (n : Nd) : (f.snoc n).names = f.names ++ n.nm :: n.exc.names := by
  rw [← pre_names (f.snoc n) 0, snoc_pre, List.map_append, pre_names, List.map_cons, pre_names]
theorem snoc_every {p : Nd → Prop} {f : RF} {n : Nd} (h : f.every p) (h1 : p n) (h2 : n.exc.every p) : (f.snoc n).every p := every_nodes.mpr fun m hm => by
  rw [snoc_nodes] at hm
  rcases List.mem_append.mp hm with hm | hm
  · exact every_nodes.mp h m hm
  · rw [List.mem_singleton.mp hm]
    exact ⟨h1, h2⟩
end RF
theorem rows_snoc {K : PySem.W.Frag} {H : Hp} {f : RF} {vs : List V} {v : V} {n : Nd} (h : RowsAt K H f vs) (r : RowAt K H v n) : RowsAt K H (f.snoc n) (vs ++ [v]) := RowsAt.of (by rw [RF.snoc_nodes]; exact h.all.snoc r)
/-! ### all but the draws' state and a counter stands -/
structure Kc (a l c : Addr) (H H' : Hp) : Prop where
  old : RS H a l
  new : RS H' a l
  keep : ∀ b o, b ≠ a → b ≠ l → b ≠ c → H b = some o → H' b = some o
abbrev NoL : Addr → Prop := fun _ => False
section
variable {K : PySem.W.Frag} {a l c : Addr} {H H' H'' : Hp}
theorem Kp.kc (k : Kp a l H H') : Kc a l c H H' := ⟨k.old, k.new, fun b o n1 n2 _ e => k.keep b o n1 n2 e⟩
theorem Kc.trans (k : Kc a l c H H') (k' : Kc a l c H' H'') : Kc a l c H H'' := ⟨k.old, k'.new, fun b o n1 n2 n3 e => k'.keep b o n1 n2 n3 (k.keep b o n1 n2 n3 e)⟩
theorem Kc.of (r : RS H a l) (s : Same H H') : Kc a l c H H' := ⟨r, r.same s, fun b o _ _ _ e => s b o e⟩
theorem Kc.same (k : Kc a l c H H') (s : Same H' H'') : Kc a l c H H'' := k.trans (.of k.new s)
theorem Kc.put0 {p : Addr} {o : HO} (k : Kc a l c H H') (n : H p = none) : Kc a l c H (upd H' p o) := by
  obtain ⟨n1, n2⟩ := k.old.no n
  obtain ⟨st, x, ns, h1, h2, q⟩ := k.new
  exact ⟨k.old, ⟨st, x, ns, by rw [upd_ne n1.symm]; exact h1, by rw [upd_ne n2.symm]; exact h2, q⟩, fun b o m1 m2 m3 e => by rw [upd_ne (ne_of_none e n)]; exact k.keep b o m1 m2 m3 e⟩
/-- the counter changes -/
theorem Kc.count {o : HO} (k : Kc a l c H H') (n1 : c ≠ a) (n2 : c ≠ l) : Kc a l c H (upd H' c o) := by
  obtain ⟨st, x, ns, h1, h2, q⟩ := k.new
  exact ⟨k.old, ⟨st, x, ns, by rw [upd_ne n1.symm]; exact h1, by rw [upd_ne n2.symm]; exact h2, q⟩, fun b o m1 m2 m3 e => by rw [upd_ne m3]; exact k.keep b o m1 m2 m3 e⟩
theorem Kc.keeps {xs : List V} (k : Kc a l c H H') (e : H c = some (.lst xs)) : Keeps NoL H H' := fun b o st h => by
  obtain ⟨sd, x, ns, h1, h2, q⟩ := k.old
  have nl : ∀ zs, o ≠ .lst zs := fun zs z => st.1 zs z
  exact k.keep b o (fun z => by rw [z, h1] at h; exact nl _ (Option.some.inj h).symm) (fun z => by rw [z, h2] at h; exact nl _ (Option.some.inj h).symm) (fun z => by rw [z, e] at h; exact nl _ (Option.some.inj h).symm) h
theorem Kp.keepsN (k : Kp a l H H') : Keeps NoL H H' := k.keeps id id
theorem Kc.free {b : Addr} {xs : List V} (k : Kc a l c H H') (ec : H' c = some (.lst xs)) (e : H' b = none) : H b = none := by
  cases q : H b with
  | none => rfl
  | some o =>
    obtain ⟨n1, n2⟩ := k.new.no e
    rw [k.keep b o n1 n2 (fun z => by rw [z, ec] at e; cases e) q] at e
    cases e
end
/-! ### drawn rules -/
def fourR : List Str := ["pay", "warn", "free", "none"]
/-- the name of the i-th drawn rule -/
def rn (i : Nat) : Str := Str.ofString "r" ++ (⟨#[letters.cps.toList.getD i 0]⟩ : Str)
def rnames (c n : Nat) : List Str := (List.range' c n).map rn
theorem rnames_app {c n m : Nat} : rnames c n ++ rnames (c + n) m = rnames c (n + m) := by
  unfold rnames
  rw [← List.map_append, List.range'_append_1]
theorem rnames_one {c m : Nat} : rn c :: rnames (c + 1) m = rnames c (m + 1) := rfl
theorem rn_name : ∀ i, i < 24 → isName (rn i) = true := by decide +kernel
theorem four_name : ∀ x ∈ fourR, isName x = true := by decide +kernel
end Sc
namespace Sc
open PySem PySem.Spec PyProof.Rows L2
/-! ### slices of tuples -/
section
variable {K : PySem.W.Frag} {H : Hp}
theorem sl_any {b : Addr} {vs : List V} {lo hi : Option Int} {Q : VK} (hS : SqT K H b vs) (q : ∀ p H', Same H H' → SqT K H' p (cutV vs lo hi) → Q (.ref p) H') : rSlA K (.ref b) lo hi H Q :=
  ⟨b, vs, rfl, hS, fun c => q b H (Same.refl H) (by
    have e : cutV vs lo hi = vs := by
      unfold cutV
      rw [c.1, c.2, List.drop_zero, Nat.sub_zero, List.take_length]
    rw [e]
    exact hS), fun _ p np => q p _ ((Same.refl H).put np) sqT_new⟩
theorem cat_any {b c : Addr} {xs ys : List V} {Q : VK} (hA : SqT K H b xs) (hB : SqT K H c ys) (hl : xs.length + ys.length ≤ sizeLine) (q : ∀ p H', Same H H' → SqT K H' p (xs ++ ys) → Q (.ref p) H') : rCatA K (.ref b) (.ref c) H Q :=
  ⟨b, c, xs, ys, rfl, rfl, hA, hB, hl, fun e => q c H (Same.refl H) (by rw [e]; exact hB), fun _ e => q b H (Same.refl H) (by rw [e, List.append_nil]; exact hA), fun _ _ p np => q p _ ((Same.refl H).put np) sqT_new⟩
theorem sIx_nat (n d k : Nat) : HT.sIx n d (some (k : Int)) = min k n := by
  unfold HT.sIx
  first
    | (simp; done)
    | (simp; omega)
    | (split <;> omega)
theorem cut_to (vs : List V) (m : Nat) : cutV vs none (some (m : Int)) = vs.take m := by
  unfold cutV
  rw [sIx_nat]
  show (vs.drop 0).take (min m vs.length - 0) = _
  rw [List.drop_zero, Nat.sub_zero]
  by_cases h : m ≤ vs.length
  · rw [Nat.min_eq_left h]
  · rw [Nat.min_eq_right (by omega), List.take_length, List.take_of_length_le (by omega)]
theorem cut_from (vs : List V) (k : Nat) : cutV vs (some (k : Int)) none = vs.drop k := by
  unfold cutV
  rw [sIx_nat]
  show (vs.drop (min k vs.length)).take (vs.length - min k vs.length) = _
  by_cases h : k ≤ vs.length
  · rw [Nat.min_eq_left h, List.take_of_length_le (by rw [List.length_drop]; exact Nat.le_refl _)]
  · rw [Nat.min_eq_right (by omega), List.drop_length, List.drop_of_length_le (by omega)]
    exact List.take_nil
theorem cut_part (vs : List V) (k m : Nat) : cutV vs (some (k : Int)) (some (m : Int)) = (vs.drop k).take (m - k) := by
  unfold cutV
  rw [sIx_nat, sIx_nat]
  by_cases h : k ≤ vs.length
  · rw [Nat.min_eq_left h]
    by_cases h2 : m ≤ vs.length
    · rw [Nat.min_eq_left h2]
    · rw [Nat.min_eq_right (by omega), List.take_of_length_le (by rw [List.length_drop]; exact Nat.le_refl _), List.take_of_length_le (by rw [List.length_drop]; omega)]
  · rw [Nat.min_eq_right (show vs.length ≤ k by omega), List.drop_length, List.drop_of_length_le (show vs.length ≤ k by omega), List.take_nil, List.take_nil]
end
end Sc
namespace Sc
open PySem
/-! ### parts of a text -/
def stAt (b : List Stmt) (i : Nat) : Stmt := b.getD i (.Pass ⟨0, 0, 0, 0⟩)
def forB : Stmt → List Stmt
  | .For _ _ b _ _ => b
  | _ => []
def whileB : Stmt → List Stmt
  | .While _ b _ _ => b
  | _ => []
def ifB : Stmt → List Stmt
  | .If _ b _ _ => b
  | _ => []
def ifE : Stmt → List Stmt
  | .If _ _ b _ => b
  | _ => []
end Sc
namespace Sc
open PySem PySem.Spec PyProof.Rows L2
namespace RF
def app (f g : RF) : RF := ofNodes (f.nodes ++ g.nodes)
theorem app_nodes (f g : RF) : (f.app g).nodes = f.nodes ++ g.nodes := nodes_of _
theorem of_size : ∀ ns ms : List Nd, (ofNodes (ns ++ ms)).size = (ofNodes ns).size + (ofNodes ms).size
  | [], ms => by show (ofNodes ms).size = 0 + _; omega
  | n :: r, ms => by
    show n.exc.size + 1 + (ofNodes (r ++ ms)).size = n.exc.size + 1 + (ofNodes r).size + _
    rw [of_size r ms]
    omega
theorem app_size (f g : RF) : (f.app g).size = f.size + g.size := by
  unfold app
  rw [of_size, of_nodes, of_nodes]
theorem app_dep {f g : RF} {d : Nat} (h : f.dep ≤ d) (k : g.dep ≤ d) : (f.app g).dep ≤ d := dep_le _ d fun n hn => by
  rw [app_nodes] at hn
  rcases List.mem_append.mp hn with hn | hn
  · exact Nat.le_trans (dep_mem f n hn) h
  · exact Nat.le_trans (dep_mem g n hn) k
theorem app_every {p : Nd → Prop} {f g : RF} (h : f.every p) (k : g.every p) : (f.app g).every p := every_nodes.mpr fun n hn => by
  rw [app_nodes] at hn
  rcases List.mem_append.mp hn with hn | hn
  · exact every_nodes.mp h n hn
  · exact every_nodes.mp k n hn
/-- the first rules, the others -/
def head (f : RF) (i : Nat) : RF := ofNodes (f.nodes.take i)
def rest (f : RF) (i : Nat) : RF := ofNodes (f.nodes.drop i)
theorem head_nodes (f : RF) (i : Nat) : (f.head i).nodes = f.nodes.take i := nodes_of _
theorem rest_nodes (f : RF) (i : Nat) : (f.rest i).nodes = f.nodes.drop i := nodes_of _
theorem head_rest (f : RF) (i : Nat) : (f.head i).app (f.rest i) = f := by
  unfold app
  rw [head_nodes, rest_nodes, List.take_append_drop, of_nodes]
theorem cut_size (f : RF) (i : Nat) : (f.head i).size + (f.rest i).size = f.size := by rw [← app_size, head_rest]
theorem head_dep (f : RF) (i : Nat) : (f.head i).dep ≤ f.dep := dep_le _ _ fun n hn => dep_mem f n (List.mem_of_mem_take (by rw [head_nodes] at hn; exact hn))
theorem rest_dep (f : RF) (i : Nat) : (f.rest i).dep ≤ f.dep := dep_le _ _ fun n hn => dep_mem f n (List.mem_of_mem_drop (by rw [rest_nodes] at hn; exact hn))
theorem head_every {p : Nd → Prop} {f : RF} (h : f.every p) (i : Nat) : (f.head i).every p := every_nodes.mpr fun n hn => every_nodes.mp h n (List.mem_of_mem_take (by rw [head_nodes] at hn; exact hn))
theorem rest_every {p : Nd → Prop} {f : RF} (h : f.every p) (i : Nat) : (f.rest i).every p := every_nodes.mpr fun n hn => every_nodes.mp h n (List.mem_of_mem_drop (by rw [rest_nodes] at hn; exact hn))
/-- a row of one rule -/
def only (n : Nd) : RF := .cons n.nm n.hs n.fs n.rl n.exc .nil
theorem only_size (n : Nd) : (only n).size = n.exc.size + 1 := rfl
theorem only_dep (n : Nd) : (only n).dep = n.exc.dep + 1 := Nat.max_zero _
theorem only_every {p : Nd → Prop} {n : Nd} (h : p n) (k : n.exc.every p) : (only n).every p := ⟨h, k, trivial⟩
end RF
namespace All2
variable {α β : Type} {R : α → β → Prop}
theorem take {as : List α} {bs : List β} (h : All2 R as bs) : ∀ i, All2 R (as.take i) (bs.take i) := by
  induction h with
  | nil => intro i; rw [List.take_nil, List.take_nil]; exact .nil
  | cons h _ ih =>
    intro i
    cases i with
    | zero => exact .nil
    | succ i => exact .cons h (ih i)
theorem drop {as : List α} {bs : List β} (h : All2 R as bs) : ∀ i, All2 R (as.drop i) (bs.drop i) := by
  induction h with
  | nil => intro i; rw [List.drop_nil, List.drop_nil]; exact .nil
  | cons h t ih =>
    intro i
    cases i with
    | zero => exact .cons h t
    | succ i => exact ih i
end All2
section
variable {K : PySem.W.Frag} {H : Hp} {f g : RF} {vs us : List V} {v : V} {n : Nd}
theorem rows_app (h : RowsAt K H f vs) (k : RowsAt K H g us) : RowsAt K H (f.app g) (vs ++ us) := RowsAt.of (by rw [RF.app_nodes]; exact h.all.app k.all)
theorem rows_head (h : RowsAt K H f vs) (i : Nat) : RowsAt K H (f.head i) (vs.take i) := RowsAt.of (by rw [RF.head_nodes]; exact h.all.take i)
theorem rows_rest (h : RowsAt K H f vs) (i : Nat) : RowsAt K H (f.rest i) (vs.drop i) := RowsAt.of (by rw [RF.rest_nodes]; exact h.all.drop i)
theorem rows_only (h : RowAt K H v n) : RowsAt K H (.only n) [v] := RowsAt.of (.one h)
theorem cut_last (vs : List V) : cutV vs (some (-1)) none = vs.drop (vs.length - 1) := by
  unfold cutV
  have e1 : HT.sIx vs.length 0 (some (-1)) = vs.length - 1 := by
    unfold HT.sIx
    dsimp only
    rw [if_pos (by decide)]
    omega
  have e2 : HT.sIx vs.length vs.length none = vs.length := rfl
  rw [e1, e2, List.take_of_length_le]
  rw [List.length_drop]
  exact Nat.le_refl _
end
end Sc
namespace Sc
open PySem PySem.Spec PyProof.Rows L2
/-! ### rules -/
/-- a getter as its users see it -/
abbrev PropX (P : Program) (w : World) (K : PySem.W.Frag) (mg : Str → Option Value) (base : Heap) (C : Addr) (n f : Str) : Prop := ∃ p g fd, PropC P w K mg base C p g fd n f
/-- the class Rule as its users see it -/
structure RuleX (P : Program) (w : World) (K : PySem.W.Frag) (mg : Str → Option Value) (base : Heap) (R : Addr) : Prop where
  cls : Cls K R
  name : PropX P w K mg base R "name" "_name"
  condition : PropX P w K mg base R "condition" "_condition"
  ruling : PropX P w K mg base R "ruling" "_ruling"
  exceptions : PropX P w K mg base R "exceptions" "_exceptions"
  depth : PropX P w K mg base R "depth" "_depth"
/-- the getters of a condition -/
structure CondG (P : Program) (w : World) (K : PySem.W.Frag) (mg : Str → Option Value) (base : Heap) (C : Addr) : Prop where
  cls : Cls K C
  holding : PropX P w K mg base C "holding" "_holding"
  failing : PropX P w K mg base C "failing" "_failing"
  names : PropX P w K mg base C "names" "_names"
def Below (S : Nat → Sp) : Nat → Sp
  | 0 => fun _ _ _ _ => False
  | d + 1 => S d
theorem sc_nested : FnScope ["rules", "around", "found", "rule"] ["rules", "around"] (defScope s_nested) := ⟨rfl, rfl, rfl, by decide +kernel, rfl, by decide +kernel, by decide +kernel⟩
section
variable {P : Program} {w : World} {K : PySem.W.Frag} {mg : Str → Option Value} {base : Heap} {C R : Addr}
theorem FnOk.never {CX : CXT} {k : Nat} {f : Addr} {fd : FuncData} {ps : List Str} : FnOk P w K mg base CX k f fd ps (fun _ _ _ _ => False) := ⟨fun _ _ _ _ h => h.elim, fun _ _ _ _ _ _ _ _ _ _ _ _ _ h => h.elim⟩
def sp_nested (K : PySem.W.Frag) (C R : Addr) (d : Nat) : Sp := fun vs H Q _ => ∃ (N : Addr → Prop) (p : Addr) (k : Nat) (ws : List V) (f : RF), vs = [.ref p, .int (k : Nat)] ∧ SqT K H p ws ∧ ForAt K C R N H f ws ∧ f.dep ≤ d ∧ f.size ≤ 900 ∧
  ∀ H' D us, Same H H' → H D = none → H' D = some (.lst us) → PreAt K C R N H' us (f.pre k) → Q (.ref D) H'
theorem ok_nested {d : Nat} {f : Addr} {fd : FuncData} (F : Fun K "nested" "nested" s_nested f fd) (kR : RuleX P w K mg base R) (c_nested : Cal P w K mg base CX0 (d + 2) "nested" ["rules", "around"] (Below (sp_nested K C R) d)) :
    FnOk P w K mg base CX0 (d + 3) f fd ["rules", "around"] (sp_nested K C R d) := by
  refine F.ok sc_nested (fun vs H Q E h => by obtain ⟨N, p, k, ws, f, rfl, _⟩ := h; rfl) (fun cdv A outer s H vs Q E hr h => ?_)
  obtain ⟨N, p, k, ws, f, rfl, hP, hF, hd, hz, q⟩ := h
  have hA := hF.used.all
  have hln := hA.len
  have hlz := RF.nodes_le f
  refine ⟨_, (pss_cons (ps_set (i := 2) sc_nested.nd rfl (Or.inl rfl) (pe_lst pa_nil))
      (pss_cons (ps_for PassesOwn.never rfl (pi_tup (pv 0)) (pg_name (i := 3) sc_nested.nd rfl (Or.inl rfl)) (pss_cons (ps_expr (pe_bm PySem.F.plainAttrs_list PySem.F.slot_list_append PySem.F.type_list_append mt_append (pv 2) (pa_cons (pe_tup (pa_cons (pv 3) (pa_cons (pv 1) pa_nil))) pa_nil)))
      (pss_one (ps_expr (pe_bm PySem.F.plainAttrs_list PySem.F.slot_list_extend PySem.F.type_list_extend mt_extend (pv 2) (pa_cons (pe_cal c_nested hr (pa_cons (pe_cprop kR.exceptions kR.cls (hr.mono (by omega)) (pv 3)) (pa_cons (pe_op op_add (pv 1) pe_int) pa_nil))) pa_nil))))))
      (pss_one (ps_ret (pv 2))))), ?_⟩
  refine ⟨Nat.zero_le _, fun D nD => ⟨_, rfl, p, rfl, ⟨_, ((Same.refl H).put nD).tup hP⟩, for_it walk_tup (fun i σ H' => ∃ us y, σ = [some (.ref p), some (.int (k : Nat)), some (.ref D), y] ∧ Same H H' ∧ H' D = some (.lst us) ∧ PreAt K C R (Used N H) H' us (RF.preL (f.nodes.take i) k))
    ⟨[], none, rfl, (Same.refl H).put nD, upd_same, .nil⟩ (fun _ _ _ _ ⟨_, _, _, s, _⟩ => s.tup hP) ?_ ?_⟩⟩
  · rintro i y σ H3 H2 hi ⟨us, y', rfl, s, e, hu⟩ ⟨rfl, hy⟩
    have nU := used_not (N := N) nD
    obtain ⟨n, hn, o, rfl, hN⟩ := hA.get hy
    have hmem : n ∈ f.nodes := List.mem_of_getElem? hn
    have hdm := RF.dep_mem f n hmem
    have hsm := RF.size_mem f n hmem
    obtain ⟨d, rfl⟩ : ∃ d', d = d' + 1 := ⟨d - 1, by omega⟩
    have hul := hu.len
    have hpl := RF.preL_len (f := f) (i := i) (k := k)
    have hpl2 := RF.preL_len (f := f) (i := i + 1) (k := k)
    rw [RF.preL_more hn, List.length_append, List.length_cons, RF.pre_len] at hpl2
    refine ⟨_, rfl, .inl ⟨rfl, _, sqL_of e⟩, _, rfl, _, rfl, (by show 2 ≤ sizeLine; decide), fun t nt => ?_⟩
    have s3 := s.put' (o := .tup [.ref o, .int (k : Nat)]) nt
    have e3 : (upd H2 t (.tup [.ref o, .int (k : Nat)])) D = some (.lst us) := by rw [upd_ne (ne_of_none e nt)]; exact e
    have t3 : (upd H2 t (.tup [.ref o, .int (k : Nat)])) t = some (.tup [.ref o, .int (k : Nat)]) := upd_same
    have s23 : Same H2 (upd H2 t (.tup [.ref o, .int (k : Nat)])) := (Same.refl H2).put nt
    have hu3 := hu.keeps s23.keeps
    clear s23
    generalize upd H2 t (.tup [.ref o, .int (k : Nat)]) = H3 at s3 e3 t3 hu3 ⊢
    refine ⟨D, _, _, rfl, rfl, e3, small1000 (by omega), ?_⟩
    have s4 : Same H (upd H3 D (.lst (us ++ [.ref t]))) := s3.put nD
    have e4 : (upd H3 D (.lst (us ++ [.ref t]))) D = some (.lst (us ++ [.ref t])) := upd_same
    have tD : t ≠ D := fun z => by rw [z, e3] at t3; cases t3
    have hu4 : PreAt K C R (Used N H) (upd H3 D (.lst (us ++ [.ref t]))) (us ++ [.ref t]) (RF.preL (f.nodes.take i) k ++ [(n, k)]) :=
      (hu3.keeps (keeps_own e3 nU)).snoc ⟨t, o, rfl, by rw [upd_ne tD]; exact t3, hN.keeps s4.keeps⟩
    generalize upd H3 D (.lst (us ++ [.ref t])) = H4 at s4 e4 hu4 ⊢
    obtain ⟨dx, c, pe, l, ws', ho, hc, hpe, hl, hfe⟩ := hN
    refine ⟨_, rfl, .inl ⟨rfl, _, sqL_of e4⟩, _, rfl, o, dx, _, rfl, s4 _ _ ho, ⟨o, dx, _, _, rfl, s4 _ _ ho, rfl, ?_⟩⟩
    refine ⟨_, rfl, k, 1, rfl, rfl, ?_⟩
    refine ⟨_, pe, k + 1, ws', n.exc, rfl, s4.tup hpe, hfe.keeps s4.keeps, by omega, by omega, fun H5 D5 us5 s5 n5 e5 hu5 => ?_⟩
    have s45 := s4.trans s5
    have e45 := s5 _ _ e4
    refine ⟨D, D5, _, _, rfl, rfl, e45, e5, ?_, ?_⟩
    · have := hu5.len
      rw [RF.pre_len] at this
      have h4 := hu4.len
      rw [List.length_append (bs := [(n, k)]), List.length_singleton] at h4
      exact Nat.le_of_lt (small1000 (by omega))
    refine ⟨_, _, rfl, s45.put nD, upd_same, ?_⟩
    rw [RF.preL_more hn]
    have h1 := (hu4.keeps s5.keeps).app hu5
    have h2 := PreAt.keeps h1 (keeps_own (o := .lst (us ++ [.ref t] ++ us5)) e45 nU)
    rw [show RF.preL (f.nodes.take i) k ++ [(n, k)] ++ n.exc.pre (k + 1) = RF.preL (f.nodes.take i) k ++ ((n, k) :: n.exc.pre (k + 1)) by simp] at h2
    exact h2
  · rintro σ H2 ⟨us, y, rfl, s, e, hu⟩
    rw [hln, RF.preL_all] at hu
    exact ⟨_, rfl, q H2 D us s nD e (hu.mono fun _ _ x => x.re fun b xs h _ => h.1)⟩
end
end Sc
namespace Sc
open PySem PySem.Spec PyProof.Rows L2
/-! ### an object Rule -/
theorem sc_Rule___init__ : FnScope ["self", "name", "condition", "ruling", "exceptions", "rule", "_"] ["self", "name", "condition", "ruling", "exceptions"] (defScope s_Rule___init__) := ⟨rfl, rfl, rfl, by decide +kernel, rfl, by decide +kernel, by decide +kernel⟩
theorem sc_Rule_name : FnScope ["self"] ["self"] (defScope s_Rule_name) := ⟨rfl, rfl, rfl, by decide +kernel, rfl, by decide +kernel, by decide +kernel⟩
theorem sc_Rule_condition : FnScope ["self"] ["self"] (defScope s_Rule_condition) := ⟨rfl, rfl, rfl, by decide +kernel, rfl, by decide +kernel, by decide +kernel⟩
theorem sc_Rule_ruling : FnScope ["self"] ["self"] (defScope s_Rule_ruling) := ⟨rfl, rfl, rfl, by decide +kernel, rfl, by decide +kernel, by decide +kernel⟩
theorem sc_Rule_exceptions : FnScope ["self"] ["self"] (defScope s_Rule_exceptions) := ⟨rfl, rfl, rfl, by decide +kernel, rfl, by decide +kernel, by decide +kernel⟩
theorem sc_Rule_depth : FnScope ["self"] ["self"] (defScope s_Rule_depth) := ⟨rfl, rfl, rfl, by decide +kernel, rfl, by decide +kernel, by decide +kernel⟩
section
variable {P : Program} {w : World} {K : PySem.W.Frag} {mg : Str → Option Value} {base : Heap} {C R CR : Addr}
theorem ok_Rule_name {f : Addr} {fd : FuncData} (F : Fun K "name" "Rule.name" s_Rule_name f fd) (T : Cls K R) (n : NoAttr K R "_name") : FnOk P w K mg base CX0 1 f fd ["self"] (sp_prop R "_name") := by
  refine F.ok sc_Rule_name (fun vs H Q E h => by obtain ⟨x, dx, fs, v, rfl, _⟩ := h; rfl) (fun cdv A outer s H vs Q E hr h => ?_)
  obtain ⟨x, dx, fs, v, rfl, hx, hl, q⟩ := h
  exact ⟨_, (pss_one (ps_ret (pe_fld (pv 0) rfl))), ⟨_, rfl, x, R, dx, fs, v, rfl, hx, T, n, hl, q⟩⟩
theorem ok_Rule_condition {f : Addr} {fd : FuncData} (F : Fun K "condition" "Rule.condition" s_Rule_condition f fd) (T : Cls K R) (n : NoAttr K R "_condition") : FnOk P w K mg base CX0 1 f fd ["self"] (sp_prop R "_condition") := by
  refine F.ok sc_Rule_condition (fun vs H Q E h => by obtain ⟨x, dx, fs, v, rfl, _⟩ := h; rfl) (fun cdv A outer s H vs Q E hr h => ?_)
  obtain ⟨x, dx, fs, v, rfl, hx, hl, q⟩ := h
  exact ⟨_, (pss_one (ps_ret (pe_fld (pv 0) rfl))), ⟨_, rfl, x, R, dx, fs, v, rfl, hx, T, n, hl, q⟩⟩
theorem ok_Rule_ruling {f : Addr} {fd : FuncData} (F : Fun K "ruling" "Rule.ruling" s_Rule_ruling f fd) (T : Cls K R) (n : NoAttr K R "_ruling") : FnOk P w K mg base CX0 1 f fd ["self"] (sp_prop R "_ruling") := by
  refine F.ok sc_Rule_ruling (fun vs H Q E h => by obtain ⟨x, dx, fs, v, rfl, _⟩ := h; rfl) (fun cdv A outer s H vs Q E hr h => ?_)
  obtain ⟨x, dx, fs, v, rfl, hx, hl, q⟩ := h
  exact ⟨_, (pss_one (ps_ret (pe_fld (pv 0) rfl))), ⟨_, rfl, x, R, dx, fs, v, rfl, hx, T, n, hl, q⟩⟩
theorem ok_Rule_exceptions {f : Addr} {fd : FuncData} (F : Fun K "exceptions" "Rule.exceptions" s_Rule_exceptions f fd) (T : Cls K R) (n : NoAttr K R "_exceptions") : FnOk P w K mg base CX0 1 f fd ["self"] (sp_prop R "_exceptions") := by
  refine F.ok sc_Rule_exceptions (fun vs H Q E h => by obtain ⟨x, dx, fs, v, rfl, _⟩ := h; rfl) (fun cdv A outer s H vs Q E hr h => ?_)
  obtain ⟨x, dx, fs, v, rfl, hx, hl, q⟩ := h
  exact ⟨_, (pss_one (ps_ret (pe_fld (pv 0) rfl))), ⟨_, rfl, x, R, dx, fs, v, rfl, hx, T, n, hl, q⟩⟩
theorem ok_Rule_depth {f : Addr} {fd : FuncData} (F : Fun K "depth" "Rule.depth" s_Rule_depth f fd) (T : Cls K R) (n : NoAttr K R "_depth") : FnOk P w K mg base CX0 1 f fd ["self"] (sp_prop R "_depth") := by
  refine F.ok sc_Rule_depth (fun vs H Q E h => by obtain ⟨x, dx, fs, v, rfl, _⟩ := h; rfl) (fun cdv A outer s H vs Q E hr h => ?_)
  obtain ⟨x, dx, fs, v, rfl, hx, hl, q⟩ := h
  exact ⟨_, (pss_one (ps_ret (pe_fld (pv 0) rfl))), ⟨_, rfl, x, R, dx, fs, v, rfl, hx, T, n, hl, q⟩⟩
theorem putF_le {f : Str} {v : V} {fs : List (Str × V)} {n : Nat} (h : fs.length ≤ n) : (putF f v fs).length ≤ n + 1 := Nat.le_trans (putF_len f v fs) (Nat.succ_le_succ h)
theorem SameX.refl {x : Addr} {H : Hp} : SameX x H H := fun _ _ _ e => e
theorem SameX.put {x : Addr} {H H' : Hp} {o : HO} (s : SameX x H H') : SameX x H (upd H' x o) := fun b o' ne e => by rw [upd_ne ne]; exact s b o' ne e
theorem SameX.same {x : Addr} {H H' H'' : Hp} (s : SameX x H H') (k : Same H' H'') : SameX x H H'' := fun b o ne e => k _ _ (s b o ne e)
theorem SameX.of {x : Addr} {H H' : Hp} (k : Same H H') : SameX x H H' := fun b o _ e => k _ _ e
theorem SameX.free {x l : Addr} {H H' : Hp} (s : SameX x H H') (ne : l ≠ x) (n : H' l = none) : H l = none := by
  cases e : H l with
  | none => rfl
  | some o => rw [s l o ne e] at n; cases n
theorem dep_is {f : RF} {m : Int} (hm : m ∈ (0 : Int) :: f.nodes.map fun n => ((n.exc.dep + 1 : Nat) : Int)) (hle : ∀ y, y ∈ ((0 : Int) :: f.nodes.map fun n => ((n.exc.dep + 1 : Nat) : Int)) → y ≤ m) : m = (f.dep : Nat) := by
  have h0 := hle 0 List.mem_cons_self
  obtain ⟨k, rfl⟩ := Int.eq_ofNat_of_zero_le h0
  have h1 : f.dep ≤ k := RF.dep_le f k fun n hn => by
    have := hle _ (List.mem_cons_of_mem _ (List.mem_map.mpr ⟨n, hn, rfl⟩))
    omega
  have h2 : k ≤ f.dep := by
    rcases List.mem_cons.mp hm with h | h
    · omega
    · obtain ⟨n, hn, e⟩ := List.mem_map.mp h
      have := RF.dep_mem f n hn
      omega
  omega
def errPt (C : Addr) (w : Str) (H : Hp) (E : XK) : Prop := ∀ H' d, Same H H' → H' d = none → E (.ref C) (some d) (upd H' d (.xd [(("part" : Str), .str w)]))
def sp_rule_init (K : PySem.W.Frag) (C R CR : Addr) : Sp := fun vs H Q E => ∃ (N : Addr → Prop) (x dx c p : Addr) (nm rl : Str) (ws : List V) (exc : RF), vs = [.ref x, .str nm, .ref c, .str rl, .ref p] ∧ H x = some (.ins R dx []) ∧ SqT K H p ws ∧ ForAt K C R N H exc ws ∧ nm.length ≤ 1000 ∧ rl.length ≤ 1000 ∧ exc.dep ≤ 12 ∧ exc.size ≤ 900 ∧
  (isName nm = false → errPt CR "name" H E) ∧ (isName nm = true → (isName rl = false → errPt CR "ruling" H E) ∧ (isName rl = true →
    ∀ H' l, SameX x H H' → H' x = some (.ins R dx (ruleF nm c rl p ((exc.dep + 1 : Nat) : Int) l)) → l ≠ x → H l = none → H' l = some (.lst ((nm :: exc.names).map V.str)) → Q .non H'))
theorem ok_rule_init {f : Addr} {fd : FuncData} (F : Fun K "__init__" "Rule.__init__" s_Rule___init__ f fd) (B : Blt mg) (T : Cls K R) (n1 : NoAttr K R "_name") (n2 : NoAttr K R "_condition") (n3 : NoAttr K R "_ruling") (n4 : NoAttr K R "_exceptions") (n5 : NoAttr K R "_depth") (n6 : NoAttr K R "_inside")
    (kR : RuleX P w K mg base R) (e_InvalidRule : ErrMk P w K mg base "InvalidRule" CR ["self", "part"] (sp_init1 CR "part")) (c_is_name : Cal P w K mg base CX0 1 "is_name" ["value"] sp_is_name) (c_nested : Cal P w K mg base CX0 15 "nested" ["rules", "around"] (sp_nested K C R 12)) :
    FnOk P w K mg base (L2.CX P w) 16 f fd ["self", "name", "condition", "ruling", "exceptions"] (sp_rule_init K C R CR) := by
  refine F.okX sc_Rule___init__ (fun vs H Q E h => by obtain ⟨N, x, dx, c, p, nm, rl, ws, exc, rfl, _⟩ := h; rfl) (fun cdv A outer s H vs Q E hr h => ?_)
  obtain ⟨N, x, dx, c, p, nm, rl, ws, exc, rfl, hx, hP, hF, ln, lr, hd, hz, e1, q⟩ := h
  refine ⟨_, (pss_cons (ps_if (pt_not (pt_val (pe_cal c_is_name (hr.mono (by decide)) (pa_cons (pv 1) pa_nil)))) (pss_one (ps_raise rfl (takes_of rfl rfl rfl rfl) (pmk_err1 e_InvalidRule (hr.mono (by decide)) pe_str))) pss_nil)
      (pss_cons (ps_if (pt_not (pt_val (pe_cal c_is_name (hr.mono (by decide)) (pa_cons (pv 3) pa_nil)))) (pss_one (ps_raise rfl (takes_of rfl rfl rfl rfl) (pmk_err1 e_InvalidRule (hr.mono (by decide)) pe_str))) pss_nil)
      (pss_cons (ps_fld (pv 0) (pv 1) rfl)
      (pss_cons (ps_fld (pv 0) (pv 2) rfl)
      (pss_cons (ps_fld (pv 0) (pv 3) rfl)
      (pss_cons (ps_fld (pv 0) (pv 4) rfl)
      (pss_cons (ps_fld (pv 0) (pe_op op_add pe_int (pe_callB (cr_max rfl) (by rfl) B.b_max PyProof.Rows.boot_max (pa_cons (pe_op op_cat (pe_lst (pa_cons pe_int pa_nil)) (pe_lc (own := [("rule", 5)]) (g := gName 5) (tt := tYes) rfl sc_Rule___init__.nd (pi_tup (pv 4)) (blkOk_by (own := [("rule", 5)]) (N := ["self", "name", "condition", "ruling", "exceptions", "rule", "_"]) (sc := defScope s_Rule___init__) (by decide +kernel)) (fun _ _ _ _ _ => (pg_name (i := 5) sc_Rule___init__.nd rfl (Or.inl rfl))) (fun _ _ _ _ _ => pts_nil) (fun _ _ _ _ _ => (pe_.re (pe_cprop kR.depth kR.cls (hr.mono (by decide)) (pv 5)) (by first | (dsimp only [Cx.blk]; done) | exact rfl))))) pa_nil))) rfl)
      (pss_one (ps_fld (pv 0) (pe_op op_cat (pe_lst (pa_cons (pv 1) pa_nil)) (pe_lc (own := [("rule", 5), ("_", 6)]) (g := gTup K 2 (gCons (gName 5) (gCons (gName 6) gNil))) (tt := tYes) rfl sc_Rule___init__.nd (pi_list (pe_cal c_nested (hr.mono (by decide)) (pa_cons (pv 4) (pa_cons pe_int pa_nil)))) (blkOk_by (own := [("rule", 5), ("_", 6)]) (N := ["self", "name", "condition", "ruling", "exceptions", "rule", "_"]) (sc := defScope s_Rule___init__) (by decide +kernel)) (fun _ _ _ _ _ => (pg_tup (by rfl) (pgs_cons (pg_name (i := 5) sc_Rule___init__.nd rfl (Or.inl rfl)) (pgs_cons (pg_name (i := 6) sc_Rule___init__.nd rfl (Or.inl rfl)) pgs_nil)))) (fun _ _ _ _ _ => pts_nil) (fun _ _ _ _ _ => (pe_.re (pe_cprop kR.name kR.cls (hr.mono (by decide)) (pv 5)) (by first | (dsimp only [Cx.blk]; done) | exact rfl))))) rfl))))))))), ?_⟩
  have big : ∀ {m : Nat}, m ≤ 1000 → m ≤ sizeLine := fun {m} h => by rw [sizeLine_eq]; omega
  have fkp : ∀ wd : Str, wd.length ≤ 1000 → FOk (.str wd) := fun wd h => Nat.le_trans h (by decide)
  refine ⟨_, rfl, nm, rfl, big ln, fun H1 s1 => ⟨_, rfl, bcase (fun c1 => ?_) (fun c1 => ?_)⟩⟩
  · exact ⟨fkp "name" (by decide), fun d nd => e1 ((Bool.not_eq_true' _).mp c1) H1 d s1 nd⟩
  obtain ⟨e2, q⟩ := q ((Bool.not_eq_false' _).mp c1)
  refine ⟨_, rfl, rl, rfl, big lr, fun H2 s2 => ⟨_, rfl, bcase (fun c2 => ?_) (fun c2 => ?_)⟩⟩
  · exact ⟨fkp "ruling" (by decide), fun d nd => e2 ((Bool.not_eq_true' _).mp c2) H2 d (s1.trans s2) nd⟩
  have q := q ((Bool.not_eq_false' _).mp c2)
  have s12 := s1.trans s2
  have hx2 := s12 _ _ hx
  refine ⟨_, rfl, _, rfl, x, R, dx, _, rfl, hx2, T, n1, by decide, ?_⟩
  refine ⟨_, rfl, _, rfl, x, R, dx, _, rfl, upd_same, T, n2, Nat.lt_of_le_of_lt (putF_le (Nat.zero_le 0)) (by decide), ?_⟩
  refine ⟨_, rfl, _, rfl, x, R, dx, _, rfl, upd_same, T, n3, Nat.lt_of_le_of_lt (putF_le (putF_le (Nat.zero_le 0))) (by decide), ?_⟩
  refine ⟨_, rfl, _, rfl, x, R, dx, _, rfl, upd_same, T, n4, Nat.lt_of_le_of_lt (putF_le (putF_le (putF_le (Nat.zero_le 0)))) (by decide), ?_⟩
  have sx : SameX x H (upd (upd (upd (upd H2 x (.ins R dx (putF "_name" (.str nm) []))) x (.ins R dx (putF "_condition" (.ref c) (putF "_name" (.str nm) [])))) x (.ins R dx (putF "_ruling" (.str rl) (putF "_condition" (.ref c) (putF "_name" (.str nm) []))))) x (.ins R dx (putF "_exceptions" (.ref p) (putF "_ruling" (.str rl) (putF "_condition" (.ref c) (putF "_name" (.str nm) [])))))) := ((((SameX.of s12).put).put).put).put
  have hx6 : (upd (upd (upd (upd H2 x (.ins R dx (putF "_name" (.str nm) []))) x (.ins R dx (putF "_condition" (.ref c) (putF "_name" (.str nm) [])))) x (.ins R dx (putF "_ruling" (.str rl) (putF "_condition" (.ref c) (putF "_name" (.str nm) []))))) x (.ins R dx (putF "_exceptions" (.ref p) (putF "_ruling" (.str rl) (putF "_condition" (.ref c) (putF "_name" (.str nm) [])))))) x = some (.ins R dx (putF "_exceptions" (.ref p) (putF "_ruling" (.str rl) (putF "_condition" (.ref c) (putF "_name" (.str nm) []))))) := upd_same
  generalize upd (upd (upd (upd H2 x (.ins R dx (putF "_name" (.str nm) []))) x (.ins R dx (putF "_condition" (.ref c) (putF "_name" (.str nm) [])))) x (.ins R dx (putF "_ruling" (.str rl) (putF "_condition" (.ref c) (putF "_name" (.str nm) []))))) x (.ins R dx (putF "_exceptions" (.ref p) (putF "_ruling" (.str rl) (putF "_condition" (.ref c) (putF "_name" (.str nm) []))))) = H6 at sx hx6 ⊢
  have k6 : Keeps N H H6 := sx.keeps hx
  have hP6 := k6.tup hP
  have hF6 := hF.keeps k6
  have hA6 := hF6.all
  have hln := hA6.len
  have hlz := RF.nodes_le exc
  refine ⟨(by show 1 ≤ sizeLine; decide), fun l0 nl0 => ?_⟩
  have s0 : Same H6 (upd H6 l0 (.lst [.int 0])) := (Same.refl H6).put nl0
  have el0 : (upd H6 l0 (.lst [.int 0])) l0 = some (.lst [.int 0]) := upd_same
  generalize upd H6 l0 (.lst [.int 0]) = H7 at s0 el0 ⊢
  refine ⟨_, rfl, p, rfl, ⟨_, s0.tup hP6⟩, fun D nD => lc_it walk_tup (fun i H' => Same H7 H' ∧ H' D = some (.lst ((exc.nodes.take i).map fun n => V.int ((n.exc.dep + 1 : Nat) : Int)))) ⟨(Same.refl H7).put nD, upd_same⟩ (fun _ _ _ h => (s0.trans h.1).tup hP6) ?_ ?_⟩
  · rintro i y H8 H9 hi ⟨s, e⟩ ⟨rfl, hy⟩
    obtain ⟨n, hn, o, rfl, hN⟩ := hA6.get hy
    obtain ⟨dx', c', p', l', ws', ho, _⟩ := hN
    have ho := s _ _ (s0 _ _ ho)
    refine ⟨rfl, yes_ ⟨_, rfl, o, dx', _, rfl, ho, o, dx', _, _, rfl, ho, rfl, grow (acc := fun i => (exc.nodes.take i).map fun n => V.int ((n.exc.dep + 1 : Nat) : Int)) nD s e ?_ ?_⟩⟩
    · rw [List.length_map, List.length_take]
      exact small1000 (by omega)
    · show List.map _ _ = _
      rw [take_more hn, List.map_append]
      rfl
  rintro H8 ⟨s8, e8⟩
  rw [hln, List.take_length] at e8
  have el8 := s8 _ _ el0
  refine ⟨l0, D, _, _, rfl, rfl, el8, e8, ?_, fun l2 nl2 => ?_⟩
  · rw [List.length_map]
    exact big (by show 1 + _ ≤ _; omega)
  have s9 : Same H8 (upd H8 l2 (.lst ([V.int 0] ++ exc.nodes.map fun n => V.int ((n.exc.dep + 1 : Nat) : Int)))) := (Same.refl H8).put nl2
  have e9 : (upd H8 l2 (.lst ([V.int 0] ++ exc.nodes.map fun n => V.int ((n.exc.dep + 1 : Nat) : Int)))) l2 = some (.lst ([V.int 0] ++ exc.nodes.map fun n => V.int ((n.exc.dep + 1 : Nat) : Int))) := upd_same
  generalize upd H8 l2 (.lst ([V.int 0] ++ exc.nodes.map fun n => V.int ((n.exc.dep + 1 : Nat) : Int))) = H9 at s9 e9 ⊢
  refine ⟨l2, (0 : Int) :: exc.nodes.map (fun n => ((n.exc.dep + 1 : Nat) : Int)), rfl, sqL_of (by rw [e9, List.map_cons, List.map_map]; rfl), Nat.succ_pos _, fun m hm hle => ?_⟩
  obtain rfl := dep_is hm hle
  have s69 := (s0.trans s8).trans s9
  have hx9 := s69 _ _ hx6
  refine ⟨1, _, rfl, rfl, _, rfl, x, R, dx, _, rfl, hx9, T, n5, Nat.lt_of_le_of_lt (putF_le (putF_le (putF_le (putF_le (Nat.zero_le 0))))) (by decide), ?_⟩
  have sx10 : SameX x H (upd H9 x (.ins R dx (putF "_depth" (.int (1 + (exc.dep : Int))) (putF "_exceptions" (.ref p) (putF "_ruling" (.str rl) (putF "_condition" (.ref c) (putF "_name" (.str nm) []))))))) := (sx.same s69).put
  have hx10 : (upd H9 x (.ins R dx (putF "_depth" (.int (1 + (exc.dep : Int))) (putF "_exceptions" (.ref p) (putF "_ruling" (.str rl) (putF "_condition" (.ref c) (putF "_name" (.str nm) []))))))) x = some (.ins R dx (putF "_depth" (.int (1 + (exc.dep : Int))) (putF "_exceptions" (.ref p) (putF "_ruling" (.str rl) (putF "_condition" (.ref c) (putF "_name" (.str nm) [])))))) := upd_same
  generalize upd H9 x (.ins R dx (putF "_depth" (.int (1 + (exc.dep : Int))) (putF "_exceptions" (.ref p) (putF "_ruling" (.str rl) (putF "_condition" (.ref c) (putF "_name" (.str nm) [])))))) = H10 at sx10 hx10 ⊢
  rw [show 1 + (exc.dep : Int) = ((exc.dep + 1 : Nat) : Int) by omega] at hx10
  have k10 : Keeps N H H10 := sx10.keeps hx
  refine ⟨_, rfl, (by show 1 ≤ sizeLine; decide), fun l1 nl1 => ?_⟩
  have s11 : Same H10 (upd H10 l1 (.lst [.str nm])) := (Same.refl H10).put nl1
  have e11 : (upd H10 l1 (.lst [.str nm])) l1 = some (.lst [.str nm]) := upd_same
  generalize upd H10 l1 (.lst [.str nm]) = H11 at s11 e11 ⊢
  refine ⟨_, rfl, N, p, 1, ws, exc, rfl, s11.tup (k10.tup hP), (hF.keeps k10).keeps s11.keeps, hd, hz, fun H12 D3 us s12' nD3 eD3 hu => ?_⟩
  have hul := hu.len
  rw [RF.pre_len] at hul
  refine ⟨D3, rfl, ⟨_, sqL_of eD3⟩, fun D4 nD4 => lc_it walk_list (fun i H' => Same H12 H' ∧ H' D4 = some (.lst (((exc.pre 1).take i).map fun q => V.str q.1.nm))) ⟨(Same.refl H12).put nD4, upd_same⟩ (fun _ _ _ h => sqL_of (h.1 _ _ eD3)) ?_ ?_⟩
  · rintro i y H13 H14 hi ⟨s, e⟩ ⟨rfl, hy⟩
    obtain ⟨⟨n, k⟩, hq, t, o, rfl, ht, hN⟩ := hu.get hy
    obtain ⟨dx', c', p', l', ws', ho, _⟩ := hN
    have ho := s _ _ ho
    have ht := s _ _ ht
    refine ⟨t, [.ref o, .int (k : Nat)], rfl, sqT_of ht, rfl, _, _, rfl, _, _, rfl, rfl, rfl, yes_ ⟨_, rfl, o, dx', _, rfl, ho, o, dx', _, _, rfl, ho, rfl, grow (acc := fun i => ((exc.pre 1).take i).map fun q => V.str q.1.nm) nD4 s e ?_ ?_⟩⟩
    · rw [List.length_map, List.length_take, RF.pre_len]
      exact small1000 (by omega)
    · show List.map _ _ = _
      rw [take_more hq, List.map_append]
      rfl
  rintro H13 ⟨s13, e13⟩
  rw [hu.len, List.take_length] at e13
  have e13 : H13 D4 = some (.lst (exc.names.map V.str)) := by rw [e13, ← RF.pre_names exc 1, List.map_map]; rfl
  have s1013 := (s11.trans s12').trans s13
  refine ⟨l1, D4, _, _, rfl, rfl, s13 _ _ (s12' _ _ e11), e13, ?_, fun l2' nl2' => ?_⟩
  · rw [List.length_map, ← RF.pre_names exc 1, List.length_map, RF.pre_len]
    exact big (by show 1 + _ ≤ _; omega)
  have s14 : Same H13 (upd H13 l2' (.lst ([V.str nm] ++ exc.names.map V.str))) := (Same.refl H13).put nl2'
  have e14 : (upd H13 l2' (.lst ([V.str nm] ++ exc.names.map V.str))) l2' = some (.lst ((nm :: exc.names).map V.str)) := upd_same
  generalize upd H13 l2' (.lst ([V.str nm] ++ exc.names.map V.str)) = H14 at s14 e14 ⊢
  have s1014 := s1013.trans s14
  have hx14 := s1014 _ _ hx10
  have ne : l2' ≠ x := fun z => by rw [z, hx14] at e14; cases e14
  refine ⟨_, rfl, x, R, dx, _, rfl, hx14, T, n6, Nat.lt_of_le_of_lt (putF_le (putF_le (putF_le (putF_le (putF_le (Nat.zero_le 0)))))) (by decide), ?_⟩
  exact q _ l2' (sx10.same s1014).put upd_same ne (sx10.free ne (s1013.free nl2')) (by rw [upd_ne ne]; exact e14)
end
end Sc
namespace Sc
open PySem PySem.Spec PyProof.Rows L2
theorem sc_check_rules : FnScope ["facts", "rules", "names", "outermost", "index", "rule", "around", "name"] ["facts", "rules"] (defScope s_check_rules) := ⟨rfl, rfl, rfl, by decide +kernel, rfl, by decide +kernel, by decide +kernel⟩
/-- the word for a rule of a book that is wrong: met the names ahead of it, out how many are outermost -/
def faultAt (facts met : List Str) (out i : Nat) (n : Nd) (k : Nat) : Option Str :=
  if n.nm ∈ met then some "name" else if ((srt (n.hs ++ n.fs)).any fun x => !decide (x ∈ facts)) = true then some "condition" else if 5 < k then some "depth" else if i = 60 ∨ 40 < out then some "many" else none
def outNext (out k : Nat) : Nat := if k = 0 then out + 1 else out
def firstFault (facts : List Str) : List (Nd × Nat) → List Str → Nat → Nat → Option (Str × Nat)
  | [], _, _, _ => none
  | (n, k) :: r, met, out, i => match faultAt facts met (outNext out k) i n k with
    | some w => some (w, i)
    | none => firstFault facts r (met ++ [n.nm]) (outNext out k) (i + 1)
/-- the error that tells a word and an index -/
def errWI (C : Addr) (w : Str) (i : Int) (H : Hp) (E : XK) : Prop := ∀ H' d, Same H H' → H' d = none → E (.ref C) (some d) (upd H' d (.xd [(("index" : Str), .int i), (("word" : Str), .str w)]))
/-- parts that are no longer than those of a condition -/
def RF.Fit (f : RF) : Prop := ∀ q ∈ f.pre 0, q.1.hs.length + q.1.fs.length ≤ 100
section
variable {P : Program} {w : World} {K : PySem.W.Frag} {mg : Str → Option Value} {base : Heap} {C R CB : Addr}
theorem set_same' {σ : L2.St} {i : Nat} {v : Option V} (h : σ[i]? = some v) : σ.set i v = σ := by
  apply List.ext_getElem?
  intro j
  rw [List.getElem?_set]
  split
  · rename_i e
    subst e
    split
    · exact h.symm
    · rename_i c
      rw [List.getElem?_eq_none (by omega)] at h
      cases h
  · rfl
/-- if around == 0: outermost = outermost + 1 -/
def tOut (i j : Nat) : TS := fun D σ H => ∃ (out k : Nat), σ[i]? = some (some (.int (out : Nat))) ∧ σ[j]? = some (some (.int (k : Nat))) ∧ D.nx (σ.set i (some (.int (outNext out k : Nat)))) H
def sp_check_rules (K : PySem.W.Frag) (C R CB : Addr) : Sp := fun vs H Q E => ∃ (N : Addr → Prop) (a p : Addr) (xs : List Str) (ws : List V) (f : RF), vs = [.ref a, .ref p] ∧ SqT K H a (xs.map V.str) ∧ SqT K H p ws ∧ ForAt K C R N H f ws ∧ f.dep ≤ 12 ∧ f.size ≤ 900 ∧ f.Fit ∧
  (firstFault xs (f.pre 0) [] 0 0 = none → ∀ H', Same H H' → Q .non H') ∧ (∀ wd i, firstFault xs (f.pre 0) [] 0 0 = some (wd, i) → wd.length ≤ 1000 → errWI CB wd i H E)
theorem drop_at {α : Type} {l : List α} {i : Nat} {x : α} (h : l[i]? = some x) : l.drop i = x :: l.drop (i + 1) := by
  have hi : i < l.length := by
    by_cases c : i < l.length
    · exact c
    · rw [List.getElem?_eq_none (by omega)] at h; cases h
  rw [List.drop_eq_getElem_cons hi]
  rw [List.getElem?_eq_getElem hi] at h
  rw [Option.some.inj h]
theorem ok_check_rules {f : Addr} {fd : FuncData} {t1 t2 t3 : Tok} (F : Fun K "check_rules" "check_rules" s_check_rules f fd) (B : Blt mg) (kR : RuleX P w K mg base R) (kK : CondG P w K mg base C) (m_MOST_AROUND : mg "MOST_AROUND" = some (.int 5 t1)) (m_MOST_RULES : mg "MOST_RULES" = some (.int 60 t2)) (m_MOST_OUTERMOST : mg "MOST_OUTERMOST" = some (.int 40 t3))
    (e_InvalidBook : ErrMk P w K mg base "InvalidBook" CB ["self", "word", "index"] (sp_init2 CB "word" "index")) (c_nested : Cal P w K mg base CX0 15 "nested" ["rules", "around"] (sp_nested K C R 12)) :
    FnOk P w K mg base (L2.CX P w) 16 f fd ["facts", "rules"] (sp_check_rules K C R CB) := by
  refine F.okX sc_check_rules (fun vs H Q E h => by obtain ⟨N, a, p, xs, ws, f, rfl, _⟩ := h; rfl) (fun cdv A outer s H vs Q E hr h => ?_)
  obtain ⟨N, a, p, xs, ws, f, rfl, hA, hP, hF, hd, hz, hfit, q, er⟩ := h
  refine ⟨_, (pss_cons (ps_set (i := 2) sc_check_rules.nd rfl (Or.inl rfl) (pe_lst pa_nil))
      (pss_cons (ps_set (i := 3) sc_check_rules.nd rfl (Or.inl rfl) pe_int)
      (pss_one (ps_for (passes_of rfl) rfl (pi_enum (by rfl) B.b_enumerate (pa_cons (pe_cal c_nested (hr.mono (by decide)) (pa_cons (pv 1) (pa_cons pe_int pa_nil))) pa_nil)) (pg_tup (by rfl) (pgs_cons (pg_name (i := 4) sc_check_rules.nd rfl (Or.inl rfl)) (pgs_cons (pg_tup (by rfl) (pgs_cons (pg_name (i := 5) sc_check_rules.nd rfl (Or.inl rfl)) (pgs_cons (pg_name (i := 6) sc_check_rules.nd rfl (Or.inl rfl)) pgs_nil))) pgs_nil))) (pss_cons (wk_ps (tOut 3 6) (ps_if (pt_cmpR op_eq (pv 6) pe_int (nomark _)) (pss_one (ps_set (i := 3) sc_check_rules.nd rfl (Or.inl rfl) (pe_op op_add (pv 3) pe_int))) pss_nil) ?wo)
      (pss_cons (ps_if (pt_cmpR op_in_seq (pe_cprop kR.name kR.cls (hr.mono (by decide)) (pv 5)) (pv 2) rfl) (pss_one (ps_raise rfl (takes_of rfl rfl rfl rfl) (pmk_err2 e_InvalidBook (hr.mono (by decide)) pe_str (pv 4)))) pss_nil)
      (pss_cons (ps_if (pt_val (pe_callB (cr_any rfl) (by rfl) B.b_any (by decide +kernel) (pa_cons (pe_lc (own := [("name", 7)]) (g := gName 7) (tt := tYes) rfl sc_check_rules.nd (pi_tup (pe_cprop kK.names kK.cls (hr.mono (by decide)) (pe_cprop kR.condition kR.cls (hr.mono (by decide)) (pv 5)))) (blkOk_by (own := [("name", 7)]) (N := ["facts", "rules", "names", "outermost", "index", "rule", "around", "name"]) (sc := defScope s_check_rules) (by decide +kernel)) (fun _ _ _ _ _ => (pg_name (i := 7) sc_check_rules.nd rfl (Or.inl rfl))) (fun _ _ _ _ _ => pts_nil) (fun _ _ _ _ _ => (pe_.re (pe_cmpR op_notIn_seq (pv 7) (pv 0) rfl) (by first | (dsimp only [Cx.blk]; done) | exact rfl)))) pa_nil))) (pss_one (ps_raise rfl (takes_of rfl rfl rfl rfl) (pmk_err2 e_InvalidBook (hr.mono (by decide)) pe_str (pv 4)))) pss_nil)
      (pss_cons (ps_if (pt_cmpR op_gt (pv 6) (pe_glob (v := .int 5) rfl m_MOST_AROUND ⟨_, rfl⟩) (nomark _)) (pss_one (ps_raise rfl (takes_of rfl rfl rfl rfl) (pmk_err2 e_InvalidBook (hr.mono (by decide)) pe_str (pv 4)))) pss_nil)
      (pss_cons (ps_if (PW.pt (pw_or (pt_cmpR op_eq (pv 4) (pe_glob (v := .int 60) rfl m_MOST_RULES ⟨_, rfl⟩) (nomark _)) (pw_or1 (pt_cmpR op_gt (pv 3) (pe_glob (v := .int 40) rfl m_MOST_OUTERMOST ⟨_, rfl⟩) (nomark _))))) (pss_one (ps_raise rfl (takes_of rfl rfl rfl rfl) (pmk_err2 e_InvalidBook (hr.mono (by decide)) pe_str (pv 4)))) pss_nil)
      (pss_one (ps_expr (pe_bm PySem.F.plainAttrs_list PySem.F.slot_list_append PySem.F.type_list_append mt_append (pv 2) (pa_cons (pe_cprop kR.name kR.cls (hr.mono (by decide)) (pv 5)) pa_nil))))))))))))), ?_⟩
  case wo =>
    rintro D σ H1 ⟨out, k, h3, h6, q⟩
    refine ⟨_, h6, rfl, _, rfl, bcase (fun c => ?_) (fun c => ?_)⟩
    · have c : k = 0 := by have := V.int.inj (of_decide_eq_true c); omega
      subst c
      exact ⟨_, h3, out, 1, rfl, rfl, q⟩
    · have c : k ≠ 0 := fun z => by subst z; exact Bool.noConfusion (c.symm.trans (decide_eq_true rfl))
      unfold outNext at q
      rw [if_neg c, set_same' h3] at q
      exact q
  refine ⟨Nat.zero_le _, fun NL nNL => ?_⟩
  have s0 : Same H (upd H NL (.lst [])) := (Same.refl H).put nNL
  have e0 : (upd H NL (.lst [])) NL = some (.lst ([].map V.str)) := upd_same
  generalize upd H NL (.lst []) = H0 at s0 e0 ⊢
  refine ⟨_, rfl, Used N H, p, 0, ws, f, rfl, s0.tup hP, hF.used.keeps s0.keeps, hd, hz, fun H1 D us s1 nD e1 hu1 => ?_⟩
  have hul := hu1.len
  rw [RF.pre_len] at hul
  refine ⟨D, _, rfl, sqL_of e1, for_it walk_enum (fun i σ H' => ∃ (met : List Str) (out : Nat) (y4 y5 y6 y7 : Option V), σ = [some (.ref a), some (.ref p), some (.ref NL), some (.int (out : Nat)), y4, y5, y6, y7] ∧ Same H H' ∧ H' D = some (.lst us) ∧ PreAt K C R (Used N H) H' us (f.pre 0) ∧ H' NL = some (.lst (met.map V.str)) ∧ met.length = i ∧
      firstFault xs (f.pre 0) [] 0 0 = firstFault xs ((f.pre 0).drop i) met out i)
    ⟨[], 0, none, none, none, none, rfl, s0.trans s1, e1, hu1, s1 _ _ e0, rfl, rfl⟩ (fun _ _ _ _ ⟨_, _, _, _, _, _, _, _, e, _⟩ => sqL_of e) ?_ ?_⟩
  · rintro i x σ H2 H3 hi ⟨met, out, y4, y5, y6, y7, rfl, s, eD, hu, eN, hm, hff⟩ ⟨T, v1, v2, rfl, nT, rfl, h1, h2⟩
    obtain rfl : V.int (i : Nat) = v1 := Option.some.inj h1
    obtain ⟨⟨n, k⟩, hq, t, o, rfl, ht, hN⟩ := hu.get h2
    have hfitq := hfit _ (List.mem_of_getElem? hq)
    rw [drop_at hq] at hff
    dsimp only at ht hN hfitq
    have s23 : Same H2 (upd H2 T (.tup [.int (i : Nat), .ref t])) := (Same.refl H2).put nT
    have s3 := s.trans s23
    have eD3 := s23 _ _ eD
    have eN3 := s23 _ _ eN
    have ht3 := s23 _ _ ht
    have hN3 := hN.keeps s23.keeps
    have hu3 := hu.keeps s23.keeps
    have eT3 : (upd H2 T (.tup [.int (i : Nat), .ref t])) T = some (.tup [.int (i : Nat), .ref t]) := upd_same
    clear s23
    generalize upd H2 T (.tup [.int (i : Nat), .ref t]) = H3 at s3 eD3 eN3 ht3 hN3 hu3 eT3 ⊢
    refine ⟨T, [.int (i : Nat), .ref t], rfl, sqT_of eT3, rfl, _, _, rfl, _, _, rfl, t, [.ref o, .int (k : Nat)], rfl, sqT_of ht3, rfl, _, _, rfl, _, _, rfl, rfl, rfl, ?_⟩
    refine ⟨out, k, rfl, rfl, ?_⟩
    obtain ⟨dx, c, pe, l, ws', ho, hc, hpe, hl, hfe⟩ := hN3
    have hi9 : i ≤ 1000 := by omega
    have fkw : ∀ wd : Str, wd.length ≤ 1000 → FOk (.str wd) ∧ FOk (.int (i : Nat)) := fun wd h => ⟨Nat.le_trans h (by decide), fok_nat hi9⟩
    have rz : ∀ {wd : Str} {H' : Hp}, faultAt xs met (outNext out k) i n k = some wd → wd.length ≤ 1000 → Same H H' → ∀ d, H' d = none → E (.ref CB) (some d) (upd H' d (.xd [(("index" : Str), .int (i : Nat)), (("word" : Str), .str wd)])) := fun {wd H'} hf hw sH d nd => er wd i (by rw [hff]; unfold firstFault; rw [hf]) hw H' d sH nd
    refine ⟨_, rfl, o, dx, _, rfl, ho, o, dx, _, _, rfl, ho, rfl, _, rfl, NL, _, rfl, .inl (sqL_of eN3), rfl, flat_strs met, _, rfl, bcase (fun c1 => ?_) (fun c1 => ?_)⟩
    · have c1 : decide (n.nm ∈ met) = true := by rw [← inV_str]; exact c1
      exact ⟨_, rfl, fkw "name" (by decide), rz (by unfold faultAt; rw [if_pos (of_decide_eq_true c1)]) (by decide) s3⟩
    have c1 : decide (n.nm ∈ met) = false := by rw [← inV_str]; exact c1
    have f1 : faultAt xs met (outNext out k) i n k = if ((srt (n.hs ++ n.fs)).any fun x => !decide (x ∈ xs)) = true then some (Str.ofString "condition") else if 5 < k then some (Str.ofString "depth") else if i = 60 ∨ 40 < outNext out k then some (Str.ofString "many") else none := by
      unfold faultAt
      rw [if_neg (of_decide_eq_false c1)]
    obtain ⟨dxc, ca, cb, cn, zs, hco, hca, hcb, hcn, hzs⟩ := hc.at_
    have hzl : zs.length ≤ 100 := by
      rw [hzs, (srt_perm _).length_eq, List.length_append]
      exact hfitq
    refine ⟨_, rfl, o, dx, _, rfl, ho, o, dx, _, _, rfl, ho, rfl, c, dxc, _, rfl, hco, c, dxc, _, _, rfl, hco, rfl, cn, rfl, ⟨_, sqT_of hcn⟩, fun D2 nD2 => lc_it walk_tup (fun j H' => Same H3 H' ∧ H' D2 = some (.lst ((zs.take j).map fun x => V.bl (!decide (x ∈ xs))))) ⟨(Same.refl H3).put nD2, upd_same⟩ (fun _ _ _ h => h.1.tup (sqT_of hcn)) ?_ ?_⟩
    · rintro j y H4 H5 hj ⟨s4, e4⟩ ⟨rfl, hy⟩
      rw [List.length_map] at hj
      have hx : zs[j]? = some zs[j] := List.getElem?_eq_getElem hj
      obtain rfl : V.str zs[j] = y := strAt_inj hx hy
      refine ⟨rfl, yes_ ⟨_, rfl, _, rfl, a, _, rfl, .inr ((s3.trans s4).tup hA), rfl, flat_strs _, grow (acc := fun j => (zs.take j).map fun x => V.bl (!decide (x ∈ xs))) nD2 s4 e4 ?_ ?_⟩⟩
      · rw [List.length_map, List.length_take]
        exact small1000 (by omega)
      · show List.map _ _ = _
        rw [take_more hx, List.map_append]
        simp only [List.map_cons, List.map_nil, inV_str]
        rfl
    rintro H4 ⟨s4, e4⟩
    rw [List.length_map, List.take_length] at e4
    refine ⟨D2, zs.map fun x => !decide (x ∈ xs), rfl, sqL_of (by rw [e4, List.map_map]; rfl), ?_⟩
    have em : (zs.map fun x => !decide (x ∈ xs)).any id = (srt (n.hs ++ n.fs)).any fun x => !decide (x ∈ xs) := by
      rw [List.any_map, hzs]
      rfl
    rw [em]
    have s5 := s3.trans s4
    refine ⟨_, rfl, bcase (fun c2 => ?_) (fun c2 => ?_)⟩
    · exact ⟨_, rfl, fkw "condition" (by decide), rz (by rw [f1, if_pos c2]) (by decide) s5⟩
    have f2 : faultAt xs met (outNext out k) i n k = if 5 < k then some (Str.ofString "depth") else if i = 60 ∨ 40 < outNext out k then some (Str.ofString "many") else none := by
      rw [f1, if_neg (by rw [c2]; exact Bool.false_ne_true)]
    refine ⟨_, rfl, k, 5, rfl, rfl, _, rfl, bcase (fun c3 => ?_) (fun c3 => ?_)⟩
    · have c3 : 5 < k := by have := of_decide_eq_true c3; omega
      exact ⟨_, rfl, fkw "depth" (by decide), rz (by rw [f2, if_pos c3]) (by decide) s5⟩
    have c3 : ¬ 5 < k := by have := of_decide_eq_false c3; omega
    rw [if_neg c3] at f2
    refine ⟨_, rfl, rfl, _, rfl, bcase (fun c4 => ?_) (fun c4 => ?_)⟩
    · have e60 : i = 60 := by have := V.int.inj (of_decide_eq_true c4); omega
      exact iteT ⟨_, rfl, fkw "many" (by decide), rz (by rw [f2, if_pos (.inl e60)]) (by decide) s5⟩
    have n60 : i ≠ 60 := fun z => by subst z; exact Bool.noConfusion (c4.symm.trans (decide_eq_true rfl))
    refine ⟨_, rfl, outNext out k, 40, rfl, rfl, _, rfl, bcase (fun c5 => ?_) (fun c5 => ?_)⟩
    · have c5 : 40 < outNext out k := by have := of_decide_eq_true c5; omega
      exact ⟨_, rfl, fkw "many" (by decide), rz (by rw [f2, if_pos (.inr c5)]) (by decide) s5⟩
    have c5 : ¬ 40 < outNext out k := by have := of_decide_eq_false c5; omega
    rw [if_neg (fun z => z.elim n60 c5)] at f2
    have eN5 := s4 _ _ eN3
    have ho5 := s4 _ _ ho
    refine ⟨_, rfl, .inl ⟨rfl, _, sqL_of eN5⟩, _, rfl, o, dx, _, rfl, ho5, o, dx, _, _, rfl, ho5, rfl, NL, _, _, rfl, rfl, eN5, ?_, ?_⟩
    · rw [List.length_map]
      exact small1000 (by omega)
    have nDL : D ≠ NL := fun z => by rw [z, e0] at nD; cases nD
    refine ⟨met ++ [n.nm], outNext out k, _, _, _, _, rfl, s5.put nNL, by rw [upd_ne nDL]; exact s4 _ _ eD3, (hu3.keeps s4.keeps).keeps (keeps_own eN5 (used_not nNL)), by rw [upd_same, List.map_append]; rfl, by rw [List.length_append, List.length_singleton, hm], ?_⟩
    rw [hff]
    show (match faultAt xs met (outNext out k) i n k with | some w => some (w, i) | none => _) = _
    rw [f2]
  · rintro σ H2 ⟨met, out, y4, y5, y6, y7, rfl, s, eD, hu, eN, hm, hff⟩
    have hl : us.length = (f.pre 0).length := hu1.len
    rw [hl, List.drop_length] at hff
    exact q hff H2 s
end
end Sc
namespace Sc
open PySem PySem.Spec PyProof.Rows L2
/-! ### facts -/
theorem sc_check_facts : FnScope ["facts", "index", "name"] ["facts"] (defScope s_check_facts) := ⟨rfl, rfl, rfl, by decide +kernel, rfl, by decide +kernel, by decide +kernel⟩
theorem sc_check_case : FnScope ["facts", "case", "index", "name"] ["facts", "case"] (defScope s_check_case) := ⟨rfl, rfl, rfl, by decide +kernel, rfl, by decide +kernel, by decide +kernel⟩
/-- the i-th fact is wrong -/
def badAt (xs : List Str) (i : Nat) : Bool := decide (i = 60) || ((match xs[i]? with | some x => !isName x | none => false) || !risesAt xs i)
def firstBad (xs : List Str) : Option Nat := if xs = [] then some 0 else (List.range xs.length).find? (badAt xs)
section
variable {P : Program} {w : World} {K : PySem.W.Frag} {mg : Str → Option Value} {base : Heap} {CF CC CN : Addr}
def sp_check_facts (K : PySem.W.Frag) (C : Addr) : Sp := fun vs H Q E => ∃ (a : Addr) (xs : List Str), vs = [.ref a] ∧ SqT K H a (xs.map V.str) ∧ Txts xs ∧ xs.length ≤ 1000 ∧
  (firstBad xs = none → ∀ H', Same H H' → Q .non H') ∧ (∀ i, firstBad xs = some i → errIx C i H E)
theorem ok_check_facts {f : Addr} {fd : FuncData} (F : Fun K "check_facts" "check_facts" s_check_facts f fd) (B : Blt mg) (mM : ∃ t, mg "MOST_FACTS" = some (.int 60 t))
    (e_InvalidFacts : ErrMk P w K mg base "InvalidFacts" CF ["self", "index"] (sp_init1 CF "index")) (c_is_name : Cal P w K mg base CX0 1 "is_name" ["value"] sp_is_name) (c_rises : Cal P w K mg base CX0 1 "rises" ["names", "index"] (sp_rises K)) :
    FnOk P w K mg base (L2.CX P w) 3 f fd ["facts"] (sp_check_facts K CF) := by
  obtain ⟨t1, mM⟩ := mM
  refine F.okX sc_check_facts (fun vs H Q E h => by obtain ⟨a, xs, rfl, _⟩ := h; rfl) (fun cdv A outer s H vs Q E hr h => ?_)
  obtain ⟨a, xs, rfl, hS, hT, hl, q, e⟩ := h
  refine ⟨_, (pss_cons (ps_if (pt_not (pt_tru (pv 0) (by intro _; rfl))) (pss_one (ps_raise rfl (takes_of rfl rfl rfl rfl) (pmk_err1 e_InvalidFacts (hr.mono (by decide)) pe_int))) pss_nil)
      (pss_one (ps_for (passes_of rfl) rfl (pi_enumT (by rfl) B.b_enumerate (pa_cons (pv 0) pa_nil)) (pg_tup (by rfl) (pgs_cons (pg_name (i := 1) sc_check_facts.nd rfl (Or.inl rfl)) (pgs_cons (pg_name (i := 2) sc_check_facts.nd rfl (Or.inl rfl)) pgs_nil))) (pss_one (ps_if (PW.pt (pw_or (pt_cmpR op_eq (pv 1) (pe_glob (v := .int 60) rfl mM ⟨_, rfl⟩) (nomark _)) (pw_or (pt_not (pt_val (pe_cal c_is_name (hr.mono (by decide)) (pa_cons (pv 2) pa_nil)))) (pw_or1 (pt_not (pt_val (pe_cal c_rises (hr.mono (by decide)) (pa_cons (pv 0) (pa_cons (pv 1) pa_nil))))))))) (pss_one (ps_raise rfl (takes_of rfl rfl rfl rfl) (pmk_err1 e_InvalidFacts (hr.mono (by decide)) (pv 1)))) pss_nil))))), ?_⟩
  refine ⟨.ref a, rfl, _, .inr (.inl ⟨_, hS, rfl⟩), bcase (fun e0 => ?_) (fun e0 => ?_)⟩
  · have ex : xs = [] := by
      cases xs with
      | nil => rfl
      | cons x r => exact Bool.noConfusion (show false = true from e0)
    exact ⟨fok_nat (i := 0) (by decide), fun d nd => e 0 (by unfold firstBad; rw [if_pos ex]) H d (Same.refl H) nd⟩
  · have ex : xs ≠ [] := fun z => by
      subst z
      exact Bool.noConfusion (show true = false from e0)
    have rz : ∀ {i : Nat} {H' : Hp}, i < xs.length → (∀ j, j < i → badAt xs j = false) → badAt xs i = true → Same H H' → ∀ d, H' d = none → E (.ref CF) (some d) (upd H' d (.xd [(("index" : Str), .int (i : Nat))])) :=
      fun {i H'} hi hb hp s d nd => e i (by unfold firstBad; rw [if_neg ex]; exact find_at hi hp hb) H' d s nd
    refine ⟨.ref a, rfl, a, _, rfl, hS, for_it walk_enumT (fun i σ H' => ∃ y1 y2, σ = [some (.ref a), y1, y2] ∧ Same H H' ∧ ∀ j, j < i → badAt xs j = false)
      ⟨none, none, rfl, Same.refl H, fun j hj => absurd hj (Nat.not_lt_zero j)⟩ (fun i σ H' _ ⟨_, _, _, s, _⟩ => s.tup hS) ?_ ?_⟩
    · rintro i x σ H2 H3 hi ⟨y1, y2, rfl, s, hb⟩ ⟨T, v1, v2, rfl, nT, rfl, h1, h2⟩
      obtain rfl : V.int (i : Nat) = v1 := Option.some.inj h1
      rw [List.length_map] at hi
      have hx : xs[i]? = some xs[i] := List.getElem?_eq_getElem hi
      obtain rfl : V.str xs[i] = v2 := strAt_inj hx h2
      have s3 : Same H (upd H2 T (.tup [.int (i : Nat), .str xs[i]])) := s.put' nT
      have rz := fun {H' : Hp} (hp : badAt xs i = true) (sH : Same H H') => rz hi hb hp sH
      refine ⟨T, [.int (i : Nat), .str xs[i]], rfl, sqT_new, rfl, _, _, rfl, _, _, rfl, rfl, ?_⟩
      refine ⟨_, rfl, rfl, _, rfl, bcase (fun c1 => ?_) (fun c1 => ?_)⟩
      · have e60 : i = 60 := by have := V.int.inj (of_decide_eq_true c1); omega
        refine iteT ⟨_, rfl, fok_nat (by omega), rz (by unfold badAt; rw [decide_eq_true e60, Bool.true_or]) s3⟩
      · have n60 : i ≠ 60 := fun z => by subst z; exact Bool.noConfusion (c1.symm.trans (decide_eq_true rfl))
        refine ⟨_, rfl, xs[i], rfl, Nat.le_trans (hT _ (List.getElem_mem hi)) (by rw [sizeLine_eq]; decide), fun H4 s4 => ⟨_, rfl, bcase (fun c2 => ?_) (fun c2 => ?_)⟩⟩
        · refine iteT ⟨_, rfl, fok_nat (by omega), rz (by unfold badAt; rw [hx, decide_eq_false n60, Bool.false_or]; show (!isName xs[i] || _) = true; rw [c2, Bool.true_or]) (s3.trans s4)⟩
        · refine ⟨.ref a, rfl, _, rfl, a, xs, i, rfl, (s3.trans s4).tup hS, hi, _, rfl, bcase (fun c3 => ?_) (fun c3 => ?_)⟩
          · exact ⟨_, rfl, fok_nat (by omega), rz (by unfold badAt; rw [hx, c3, Bool.or_true, Bool.or_true]) (s3.trans s4)⟩
          · refine ⟨_, _, rfl, s3.trans s4, fun j hj => ?_⟩
            by_cases hj2 : j < i
            · exact hb j hj2
            · have ej : j = i := by omega
              subst ej
              unfold badAt
              rw [hx, decide_eq_false n60, c3, Bool.or_false, Bool.false_or]
              exact c2
    · rintro σ H2 ⟨y1, y2, rfl, s, hb⟩
      rw [List.length_map] at hb
      exact q (by unfold firstBad; rw [if_neg ex]; exact find_none hb) H2 s
/-- the i-th name of a case is wrong -/
def outAt (facts cs : List Str) (i : Nat) : Bool := (match cs[i]? with | some x => !decide (x ∈ facts) | none => false) || !risesAt cs i
def firstOut (facts cs : List Str) : Option Nat := (List.range cs.length).find? (outAt facts cs)
def sp_check_case (K : PySem.W.Frag) (C : Addr) : Sp := fun vs H Q E => ∃ (a b : Addr) (xs cs : List Str), vs = [.ref a, .ref b] ∧ SqT K H a (xs.map V.str) ∧ SqT K H b (cs.map V.str) ∧ cs.length ≤ 1000 ∧
  (firstOut xs cs = none → ∀ H', Same H H' → Q .non H') ∧ (∀ i, firstOut xs cs = some i → errIx C i H E)
theorem ok_check_case {f : Addr} {fd : FuncData} (F : Fun K "check_case" "check_case" s_check_case f fd) (B : Blt mg)
    (e_InvalidCase : ErrMk P w K mg base "InvalidCase" CC ["self", "index"] (sp_init1 CC "index")) (c_rises : Cal P w K mg base CX0 1 "rises" ["names", "index"] (sp_rises K)) :
    FnOk P w K mg base (L2.CX P w) 3 f fd ["facts", "case"] (sp_check_case K CC) := by
  refine F.okX sc_check_case (fun vs H Q E h => by obtain ⟨a, b, xs, cs, rfl, _⟩ := h; rfl) (fun cdv A outer s H vs Q E hr h => ?_)
  obtain ⟨a, b, xs, cs, rfl, hS, hC, hl, q, e⟩ := h
  refine ⟨_, (pss_one (ps_for (passes_of rfl) rfl (pi_enumT (by rfl) B.b_enumerate (pa_cons (pv 1) pa_nil)) (pg_tup (by rfl) (pgs_cons (pg_name (i := 2) sc_check_case.nd rfl (Or.inl rfl)) (pgs_cons (pg_name (i := 3) sc_check_case.nd rfl (Or.inl rfl)) pgs_nil))) (pss_one (ps_if (PW.pt (pw_or (pt_cmpR op_notIn_seq (pv 3) (pv 0) rfl) (pw_or1 (pt_not (pt_val (pe_cal c_rises (hr.mono (by decide)) (pa_cons (pv 1) (pa_cons (pv 2) pa_nil)))))))) (pss_one (ps_raise rfl (takes_of rfl rfl rfl rfl) (pmk_err1 e_InvalidCase (hr.mono (by decide)) (pv 2)))) pss_nil)))), ?_⟩
  refine ⟨.ref b, rfl, b, _, rfl, hC, for_it walk_enumT (fun i σ H' => ∃ y1 y2, σ = [some (.ref a), some (.ref b), y1, y2] ∧ Same H H' ∧ ∀ j, j < i → outAt xs cs j = false)
    ⟨none, none, rfl, Same.refl H, fun j hj => absurd hj (Nat.not_lt_zero j)⟩ (fun i σ H' _ ⟨_, _, _, s, _⟩ => s.tup hC) ?_ ?_⟩
  · rintro i x σ H2 H3 hi ⟨y1, y2, rfl, s, hb⟩ ⟨T, v1, v2, rfl, nT, rfl, h1, h2⟩
    obtain rfl : V.int (i : Nat) = v1 := Option.some.inj h1
    rw [List.length_map] at hi
    have hx : cs[i]? = some cs[i] := List.getElem?_eq_getElem hi
    obtain rfl : V.str cs[i] = v2 := strAt_inj hx h2
    have s3 : Same H (upd H2 T (.tup [.int (i : Nat), .str cs[i]])) := s.put' nT
    have rz : ∀ {H' : Hp}, outAt xs cs i = true → Same H H' → ∀ d, H' d = none → E (.ref CC) (some d) (upd H' d (.xd [(("index" : Str), .int (i : Nat))])) := fun {H'} hp sH d nd => e i (find_at hi hp hb) H' d sH nd
    refine ⟨T, [.int (i : Nat), .str cs[i]], rfl, sqT_new, rfl, _, _, rfl, _, _, rfl, rfl, ?_⟩
    refine ⟨.str cs[i], rfl, .ref a, rfl, a, _, rfl, .inr (s3.tup hS), rfl, flat_strs xs, _, rfl, bcase (fun c1 => ?_) (fun c1 => ?_)⟩
    · have c1 : (!decide (cs[i] ∈ xs)) = true := by rw [← inV_str]; exact c1
      exact iteT ⟨_, rfl, fok_nat (by omega), rz (by unfold outAt; rw [hx]; show (!decide (cs[i] ∈ xs) || _) = true; rw [c1, Bool.true_or]) s3⟩
    · have c1 : (!decide (cs[i] ∈ xs)) = false := by rw [← inV_str]; exact c1
      refine ⟨.ref b, rfl, _, rfl, b, cs, i, rfl, s3.tup hC, hi, _, rfl, bcase (fun c3 => ?_) (fun c3 => ?_)⟩
      · exact ⟨_, rfl, fok_nat (by omega), rz (by unfold outAt; rw [hx, c3, Bool.or_true]) s3⟩
      · refine ⟨_, _, rfl, s3, fun j hj => ?_⟩
        by_cases hj2 : j < i
        · exact hb j hj2
        · have ej : j = i := by omega
          subst ej
          unfold outAt
          rw [hx, c3, Bool.or_false]
          exact c1
  · rintro σ H2 ⟨y1, y2, rfl, s, hb⟩
    rw [List.length_map] at hb
    exact q (find_none hb) H2 s
end
end Sc
namespace Sc
open PySem PySem.Spec PyProof.Rows L2
/-! ### an object Book -/
theorem sc_Book___init__ : FnScope ["self", "facts", "rules", "ruling", "rule", "_"] ["self", "facts", "rules", "ruling"] (defScope s_Book___init__) := ⟨rfl, rfl, rfl, by decide +kernel, rfl, by decide +kernel, by decide +kernel⟩
theorem sc_Book_facts : FnScope ["self"] ["self"] (defScope s_Book_facts) := ⟨rfl, rfl, rfl, by decide +kernel, rfl, by decide +kernel, by decide +kernel⟩
theorem sc_Book_rules : FnScope ["self"] ["self"] (defScope s_Book_rules) := ⟨rfl, rfl, rfl, by decide +kernel, rfl, by decide +kernel, by decide +kernel⟩
theorem sc_Book_ruling : FnScope ["self"] ["self"] (defScope s_Book_ruling) := ⟨rfl, rfl, rfl, by decide +kernel, rfl, by decide +kernel, by decide +kernel⟩
section
variable {P : Program} {w : World} {K : PySem.W.Frag} {mg : Str → Option Value} {base : Heap} {C R B CF CB : Addr}
theorem ok_Book_facts {f : Addr} {fd : FuncData} (F : Fun K "facts" "Book.facts" s_Book_facts f fd) (T : Cls K B) (n : NoAttr K B "_facts") : FnOk P w K mg base CX0 1 f fd ["self"] (sp_prop B "_facts") := by
  refine F.ok sc_Book_facts (fun vs H Q E h => by obtain ⟨x, dx, fs, v, rfl, _⟩ := h; rfl) (fun cdv A outer s H vs Q E hr h => ?_)
  obtain ⟨x, dx, fs, v, rfl, hx, hl, q⟩ := h
  exact ⟨_, (pss_one (ps_ret (pe_fld (pv 0) rfl))), ⟨_, rfl, x, B, dx, fs, v, rfl, hx, T, n, hl, q⟩⟩
theorem ok_Book_rules {f : Addr} {fd : FuncData} (F : Fun K "rules" "Book.rules" s_Book_rules f fd) (T : Cls K B) (n : NoAttr K B "_rules") : FnOk P w K mg base CX0 1 f fd ["self"] (sp_prop B "_rules") := by
  refine F.ok sc_Book_rules (fun vs H Q E h => by obtain ⟨x, dx, fs, v, rfl, _⟩ := h; rfl) (fun cdv A outer s H vs Q E hr h => ?_)
  obtain ⟨x, dx, fs, v, rfl, hx, hl, q⟩ := h
  exact ⟨_, (pss_one (ps_ret (pe_fld (pv 0) rfl))), ⟨_, rfl, x, B, dx, fs, v, rfl, hx, T, n, hl, q⟩⟩
theorem ok_Book_ruling {f : Addr} {fd : FuncData} (F : Fun K "ruling" "Book.ruling" s_Book_ruling f fd) (T : Cls K B) (n : NoAttr K B "_ruling") : FnOk P w K mg base CX0 1 f fd ["self"] (sp_prop B "_ruling") := by
  refine F.ok sc_Book_ruling (fun vs H Q E h => by obtain ⟨x, dx, fs, v, rfl, _⟩ := h; rfl) (fun cdv A outer s H vs Q E hr h => ?_)
  obtain ⟨x, dx, fs, v, rfl, hx, hl, q⟩ := h
  exact ⟨_, (pss_one (ps_ret (pe_fld (pv 0) rfl))), ⟨_, rfl, x, B, dx, fs, v, rfl, hx, T, n, hl, q⟩⟩
/-- the fields of a book -/
def bookF (a p : Addr) (rl : Str) (l : Addr) : List (Str × V) := putF "_numbered" (.ref l) (putF "_ruling" (.str rl) (putF "_rules" (.ref p) (putF "_facts" (.ref a) [])))
def BookAt (K : PySem.W.Frag) (C R B : Addr) (N : Addr → Prop) (H : Hp) (o : Addr) (xs : List Str) (f : RF) (rl : Str) : Prop := ∃ (dx a p l : Addr) (ws us : List V), H o = some (.ins B dx (bookF a p rl l)) ∧ SqT K H a (xs.map V.str) ∧ SqT K H p ws ∧ ForAt K C R N H f ws ∧ (N l ∧ H l = some (.lst us)) ∧ All2 (RefAt K C R N H) us ((f.pre 0).map fun q => q.1)
theorem BookAt.keeps {N : Addr → Prop} {H H' : Hp} {o : Addr} {xs : List Str} {f : RF} {rl : Str} (h : BookAt K C R B N H o xs f rl) (k : Keeps N H H') : BookAt K C R B N H' o xs f rl := by
  obtain ⟨dx, a, p, l, ws, us, h1, h2, h3, h4, ⟨h5, h6⟩, h7⟩ := h
  exact ⟨dx, a, p, l, ws, us, k _ _ stays_ins h1, k.tup h2, k.tup h3, h4.keeps k, ⟨h5, k _ _ (stays_lst h5) h6⟩, h7.mono fun _ _ x => x.keeps k⟩
def sp_book_init (K : PySem.W.Frag) (C R B CF CB : Addr) : Sp := fun vs H Q E => ∃ (N : Addr → Prop) (x dx a p : Addr) (xs : List Str) (rl : Str) (ws : List V) (f : RF), vs = [.ref x, .ref a, .ref p, .str rl] ∧ H x = some (.ins B dx []) ∧ SqT K H a (xs.map V.str) ∧ Txts xs ∧ xs.length ≤ 1000 ∧ SqT K H p ws ∧ ForAt K C R N H f ws ∧ f.dep ≤ 12 ∧ f.size ≤ 900 ∧ f.Fit ∧ rl.length ≤ 1000 ∧
  (∀ i, firstBad xs = some i → errIx CF i H E) ∧ (firstBad xs = none → (∀ wd i, firstFault xs (f.pre 0) [] 0 0 = some (wd, i) → wd.length ≤ 1000 → errWI CB wd (i : Nat) H E) ∧ (firstFault xs (f.pre 0) [] 0 0 = none →
    (isName rl = false → errWI CB "ruling" (-1) H E) ∧ (isName rl = true → ∀ H' l us, SameX x H H' → H' x = some (.ins B dx (bookF a p rl l)) → l ≠ x → H l = none → H' l = some (.lst us) → All2 (RefAt K C R N H') us ((f.pre 0).map fun q => q.1) → Q .non H')))
theorem ok_book_init {f : Addr} {fd : FuncData} (F : Fun K "__init__" "Book.__init__" s_Book___init__ f fd) (Bl : Blt mg) (T : Cls K B) (n1 : NoAttr K B "_facts") (n2 : NoAttr K B "_rules") (n3 : NoAttr K B "_ruling") (n4 : NoAttr K B "_numbered")
    (e_InvalidBook : ErrMk P w K mg base "InvalidBook" CB ["self", "word", "index"] (sp_init2 CB "word" "index")) (c_is_name : Cal P w K mg base CX0 1 "is_name" ["value"] sp_is_name) (c_nested : Cal P w K mg base CX0 15 "nested" ["rules", "around"] (sp_nested K C R 12))
    (c_check_facts : Cal P w K mg base (L2.CX P w) 3 "check_facts" ["facts"] (sp_check_facts K CF)) (c_check_rules : Cal P w K mg base (L2.CX P w) 16 "check_rules" ["facts", "rules"] (sp_check_rules K C R CB)) :
    FnOk P w K mg base (L2.CX P w) 17 f fd ["self", "facts", "rules", "ruling"] (sp_book_init K C R B CF CB) := by
  refine F.okX sc_Book___init__ (fun vs H Q E h => by obtain ⟨N, x, dx, a, p, xs, rl, ws, f, rfl, _⟩ := h; rfl) (fun cdv A outer s H vs Q E hr h => ?_)
  obtain ⟨N, x, dx, a, p, xs, rl, ws, f, rfl, hx, hA, tA, lA, hP, hF, hd, hz, hfit, lr, e1, q⟩ := h
  refine ⟨_, (pss_cons (ps_expr (pe_calX c_check_facts (hr.mono (by decide)) (takes_of rfl rfl rfl rfl) (pa_cons (pv 1) pa_nil)))
      (pss_cons (ps_expr (pe_calX c_check_rules (hr.mono (by decide)) (takes_of rfl rfl rfl rfl) (pa_cons (pv 1) (pa_cons (pv 2) pa_nil))))
      (pss_cons (ps_if (pt_not (pt_val (pe_cal c_is_name (hr.mono (by decide)) (pa_cons (pv 3) pa_nil)))) (pss_one (ps_raise rfl (takes_of rfl rfl rfl rfl) (pmk_err2 e_InvalidBook (hr.mono (by decide)) pe_str (pe_un un_neg pe_int)))) pss_nil)
      (pss_cons (ps_fld (pv 0) (pv 1) rfl)
      (pss_cons (ps_fld (pv 0) (pv 2) rfl)
      (pss_cons (ps_fld (pv 0) (pv 3) rfl)
      (pss_one (ps_fld (pv 0) (pe_lc (own := [("rule", 4), ("_", 5)]) (g := gTup K 2 (gCons (gName 4) (gCons (gName 5) gNil))) (tt := tYes) rfl sc_Book___init__.nd (pi_list (pe_cal c_nested (hr.mono (by decide)) (pa_cons (pv 2) (pa_cons pe_int pa_nil)))) (blkOk_by (own := [("rule", 4), ("_", 5)]) (N := ["self", "facts", "rules", "ruling", "rule", "_"]) (sc := defScope s_Book___init__) (by decide +kernel)) (fun _ _ _ _ _ => (pg_tup (by rfl) (pgs_cons (pg_name (i := 4) sc_Book___init__.nd rfl (Or.inl rfl)) (pgs_cons (pg_name (i := 5) sc_Book___init__.nd rfl (Or.inl rfl)) pgs_nil)))) (fun _ _ _ _ _ => pts_nil) (fun _ _ _ _ _ => (pe_.re (pv 4) (by first | (dsimp only [Cx.blk]; done) | exact rfl)))) rfl)))))))), ?_⟩
  have big : ∀ {m : Nat}, m ≤ 1000 → m ≤ sizeLine := fun {m} h => by rw [sizeLine_eq]; omega
  refine ⟨_, rfl, a, xs, rfl, hA, tA, lA, fun z1 H1 s1 => ?_, e1⟩
  obtain ⟨e2, q⟩ := q z1
  refine ⟨_, rfl, _, rfl, N, a, p, xs, ws, f, rfl, s1.tup hA, s1.tup hP, hF.keeps s1.keeps, hd, hz, hfit, fun z2 H2 s2 => ?_, fun wd i ei hw H' d sH nd => e2 wd i ei hw H' d (s1.trans sH) nd⟩
  obtain ⟨e3, q⟩ := q z2
  have s12 := s1.trans s2
  refine ⟨_, rfl, rl, rfl, big lr, fun H3 s3 => ⟨_, rfl, bcase (fun c1 => ?_) (fun c1 => ?_)⟩⟩
  · exact ⟨1, rfl, ⟨Nat.le_trans (show (Str.ofString "ruling").length ≤ 1000 by decide) (by decide), (show (-1 : Int).natAbs.log2 < 1920 by decide)⟩, fun d nd => e3 ((Bool.not_eq_true' _).mp c1) H3 d (s12.trans s3) nd⟩
  have q := q ((Bool.not_eq_false' _).mp c1)
  have s13 := s12.trans s3
  have hx3 := s13 _ _ hx
  refine ⟨_, rfl, _, rfl, x, B, dx, _, rfl, hx3, T, n1, by decide, ?_⟩
  refine ⟨_, rfl, _, rfl, x, B, dx, _, rfl, upd_same, T, n2, Nat.lt_of_le_of_lt (putF_le (Nat.zero_le 0)) (by decide), ?_⟩
  refine ⟨_, rfl, _, rfl, x, B, dx, _, rfl, upd_same, T, n3, Nat.lt_of_le_of_lt (putF_le (putF_le (Nat.zero_le 0))) (by decide), ?_⟩
  have sx : SameX x H (upd (upd (upd H3 x (.ins B dx (putF "_facts" (.ref a) []))) x (.ins B dx (putF "_rules" (.ref p) (putF "_facts" (.ref a) [])))) x (.ins B dx (putF "_ruling" (.str rl) (putF "_rules" (.ref p) (putF "_facts" (.ref a) []))))) := (((SameX.of s13).put).put).put
  have hx6 : (upd (upd (upd H3 x (.ins B dx (putF "_facts" (.ref a) []))) x (.ins B dx (putF "_rules" (.ref p) (putF "_facts" (.ref a) [])))) x (.ins B dx (putF "_ruling" (.str rl) (putF "_rules" (.ref p) (putF "_facts" (.ref a) []))))) x = some (.ins B dx (putF "_ruling" (.str rl) (putF "_rules" (.ref p) (putF "_facts" (.ref a) [])))) := upd_same
  generalize upd (upd (upd H3 x (.ins B dx (putF "_facts" (.ref a) []))) x (.ins B dx (putF "_rules" (.ref p) (putF "_facts" (.ref a) [])))) x (.ins B dx (putF "_ruling" (.str rl) (putF "_rules" (.ref p) (putF "_facts" (.ref a) [])))) = H6 at sx hx6 ⊢
  have k6 : Keeps N H H6 := sx.keeps hx
  refine ⟨_, rfl, N, p, 0, ws, f, rfl, k6.tup hP, hF.keeps k6, hd, hz, fun H7 D us s7 nD eD hu => ?_⟩
  have hul := hu.len
  rw [RF.pre_len] at hul
  refine ⟨D, rfl, ⟨_, sqL_of eD⟩, fun D2 nD2 => lc_it walk_list (fun i H' => Same H7 H' ∧ ∃ rs, H' D2 = some (.lst rs) ∧ All2 (RefAt K C R N H7) rs (((f.pre 0).take i).map fun q => q.1)) ⟨(Same.refl H7).put nD2, [], upd_same, .nil⟩ (fun _ _ _ h => sqL_of (h.1 _ _ eD)) ?_ ?_⟩
  · rintro i y H8 H9 hi ⟨s, rs, e, hr2⟩ ⟨rfl, hy⟩
    obtain ⟨⟨n, k⟩, hq, t, o, rfl, ht, hN⟩ := hu.get hy
    have ht := s _ _ ht
    have hrl := hr2.len
    rw [List.length_map, List.length_take, RF.pre_len] at hrl
    refine ⟨t, [.ref o, .int (k : Nat)], rfl, sqT_of ht, rfl, _, _, rfl, _, _, rfl, rfl, rfl, yes_ ⟨_, rfl, rs, e, small1000 (by omega), s.put nD2, _, upd_same, ?_⟩⟩
    rw [take_more hq, List.map_append]
    exact hr2.snoc ⟨o, rfl, hN⟩
  rintro H8 ⟨s8, rs, e8, hr2⟩
  rw [hu.len, List.take_length] at hr2
  have s68 := s7.trans s8
  have hx8 := s68 _ _ hx6
  have ne : D2 ≠ x := fun z => by rw [z, hx8] at e8; cases e8
  refine ⟨_, rfl, x, B, dx, _, rfl, hx8, T, n4, Nat.lt_of_le_of_lt (putF_le (putF_le (putF_le (Nat.zero_le 0)))) (by decide), ?_⟩
  have kk : Keeps N H7 (upd H8 x (.ins B dx (putF "_numbered" (.ref D2) (putF "_ruling" (.str rl) (putF "_rules" (.ref p) (putF "_facts" (.ref a) [])))))) := Keeps.trans s8.keeps (keeps_make hx8)
  exact q _ D2 rs (sx.same s68).put upd_same ne (sx.free ne (s7.free nD2)) (by rw [upd_ne ne]; exact e8) (hr2.mono fun _ _ x => x.keeps kk)
end
end Sc
namespace Sc
open PySem
/-! ### cases by their numbers -/
def caseOf : List Str → Nat → List Str
  | [], _ => []
  | x :: r, n => (if n % 2 = 1 then [x] else []) ++ caseOf r (n / 2)
def bitN (n k : Nat) : Bool := decide (n / 2 ^ k % 2 = 1)
theorem bitN_succ {n k : Nat} : bitN n (k + 1) = bitN (n / 2) k := by
  unfold bitN
  rw [Nat.pow_succ, Nat.mul_comm, ← Nat.div_div_eq_div_mul]
theorem caseOf_more : ∀ (fs : List Str) (n i : Nat) (x : Str), fs[i]? = some x → caseOf (fs.take (i + 1)) n = caseOf (fs.take i) n ++ (if bitN n i = true then [x] else [])
  | y :: r, n, 0, x, h => by
    have h : y = x := Option.some.inj h
    subst h
    show (if n % 2 = 1 then [y] else []) ++ caseOf [] (n / 2) = [] ++ _
    unfold bitN caseOf
    rw [Nat.pow_zero, Nat.div_one, List.append_nil, List.nil_append]
    by_cases c : n % 2 = 1
    · rw [if_pos c, if_pos (decide_eq_true c)]
    · rw [if_neg c, if_neg (by rw [decide_eq_false c]; exact Bool.false_ne_true)]
  | y :: r, n, i + 1, x, h => by
    have h : r[i]? = some x := h
    show (if n % 2 = 1 then [y] else []) ++ caseOf (r.take (i + 1)) (n / 2) = ((if n % 2 = 1 then [y] else []) ++ caseOf (r.take i) (n / 2)) ++ _
    rw [caseOf_more r (n / 2) i x h, List.append_assoc, bitN_succ]
theorem caseOf_sub : ∀ (fs : List Str) (n : Nat), List.Sublist (caseOf fs n) fs
  | [], _ => .slnil
  | x :: r, n => by
    unfold caseOf
    by_cases c : n % 2 = 1
    · rw [if_pos c]
      exact (caseOf_sub r _).cons₂ x
    · rw [if_neg c]
      exact (caseOf_sub r _).cons x
/-- each choice of the facts is a case -/
theorem caseOf_all (p : Str → Bool) : ∀ fs : List Str, ∃ n, n < 2 ^ fs.length ∧ caseOf fs n = fs.filter p
  | [] => ⟨0, by decide, rfl⟩
  | x :: r => by
    obtain ⟨n, h1, h2⟩ := caseOf_all p r
    cases c : p x with
    | true =>
      refine ⟨2 * n + 1, by rw [List.length_cons, Nat.pow_succ]; omega, ?_⟩
      unfold caseOf
      rw [if_pos (by omega), show (2 * n + 1) / 2 = n by omega, h2, List.filter_cons, if_pos c]
      rfl
    | false =>
      refine ⟨2 * n, by rw [List.length_cons, Nat.pow_succ]; omega, ?_⟩
      unfold caseOf
      rw [if_neg (by omega), show (2 * n) / 2 = n by omega, h2, List.filter_cons, if_neg (by rw [c]; exact Bool.false_ne_true)]
      rfl
end Sc
namespace Sc
open PySem PySem.Spec PyProof.Rows L2
/-! ### rising rows of the twelve facts -/
def SLt (a b : Str) : Prop := a.cps.toList < b.cps.toList
instance (a b : Str) : Decidable (SLt a b) := inferInstanceAs (Decidable (a.cps.toList < b.cps.toList))
structure Good (xs : List Str) : Prop where
  up : xs.Pairwise SLt
  mem : ∀ x ∈ xs, x ∈ twelve
theorem twelve_up : twelve.Pairwise SLt := by decide +kernel
theorem twelve_name : ∀ x ∈ twelve, isName x = true := by decide +kernel
theorem twelve_good : Good twelve := ⟨twelve_up, fun _ h => h⟩
theorem Good.sub {xs ys : List Str} (h : Good ys) (s : List.Sublist xs ys) : Good xs := ⟨h.up.sublist s, fun x hx => h.mem x (s.subset hx)⟩
theorem Good.nodup {xs : List Str} (h : Good xs) : xs.Nodup := h.up.imp fun {a b} hl e => by subst e; exact List.lt_irrefl _ hl
theorem Good.fines {xs : List Str} (h : Good xs) (tf : Fines twelve) : Fines xs := fun x hx => tf x (h.mem x hx)
theorem Good.le {xs : List Str} (h : Good xs) : xs.Pairwise SLe := h.up.imp fun hl => List.le_of_lt hl
theorem good_nil : Good [] := ⟨.nil, fun _ h => nomatch h⟩
theorem Good.srt {xs : List Str} (h : Good xs) : srt xs = xs := sorted_uniq (srt_perm xs) (srt_sorted xs) (sorted_of h.le)
theorem lt_of {a b : Str} (h : SLe a b) (n : a ≠ b) : SLt a b := by
  by_cases c : a.cps.toList < b.cps.toList
  · exact c
  · exact absurd (str_ext (List.le_antisymm h (List.not_lt.mp c))) n
theorem srt_good {xs : List Str} (nd : xs.Nodup) (m : ∀ x ∈ xs, x ∈ twelve) : Good (srt xs) := by
  have nd2 : (Sc.srt xs).Nodup := (srt_perm xs).nodup_iff.mpr nd
  refine ⟨?_, fun x hx => m x ((srt_perm xs).mem_iff.mp hx)⟩
  exact ((sorted_pw (srt_sorted xs)).and nd2).imp fun h => lt_of h.1 h.2
theorem mem_mrg {xs ys : List Str} {x : Str} : x ∈ mrg xs ys ↔ x ∈ xs ∨ x ∈ ys := by
  unfold mrg
  rw [(srt_perm _).mem_iff, List.mem_append, List.mem_filter]
  constructor
  · rintro (h | h)
    · exact .inl h
    · exact .inr h.1
  · rintro (h | h)
    · exact .inl h
    · by_cases c : x ∈ xs
      · exact .inl c
      · exact .inr ⟨h, by rw [decide_eq_false c]; rfl⟩
theorem Good.mrg {xs ys : List Str} (h : Good xs) (k : Good ys) : Good (mrg xs ys) := by
  refine srt_good ?_ fun x hx => ?_
  · rw [List.nodup_append]
    refine ⟨h.nodup, (List.filter_sublist).nodup k.nodup, fun a ha b hb e => ?_⟩
    subst e
    have := (List.mem_filter.mp hb).2
    rw [decide_eq_true ha] at this
    cases this
  · rcases List.mem_append.mp hx with h1 | h1
    · exact h.mem x h1
    · exact k.mem x (List.mem_filter.mp h1).1
/-- a good row is told by its members -/
theorem Good.ext {xs ys : List Str} (h : Good xs) (k : Good ys) (e : ∀ x, x ∈ xs ↔ x ∈ ys) : xs = ys := by
  have p : xs.Perm ys := (List.perm_ext_iff_of_nodup h.nodup k.nodup).mpr e
  exact sorted_uniq p (sorted_of h.le) (sorted_of k.le)
theorem rises_pw {xs : List Str} (h : xs.Pairwise SLt) {i : Nat} (hi : i < xs.length) : risesAt xs i = true := by
  by_cases h0 : i = 0
  · subst h0
    rfl
  · rw [risesAt_eq hi h0 (by omega)]
    exact decide_eq_true (List.pairwise_iff_getElem.mp h (i - 1) i (by omega) hi (by omega))
theorem Good.none {xs ys : List Str} (h : Good xs) (l : ys.length + xs.length ≤ 8) (d : ∀ x ∈ xs, ¬ x ∈ ys) : firstWrong xs ys = none := by
  unfold firstWrong
  rw [List.find?_eq_none]
  intro i hi
  have hi := List.mem_range.mp hi
  unfold wrongAt
  rw [List.getElem?_eq_getElem hi]
  dsimp only
  rw [twelve_name _ (h.mem _ (List.getElem_mem hi)), rises_pw h.up hi, decide_eq_false (show ¬ 8 ≤ ys.length + i by omega), decide_eq_false (d _ (List.getElem_mem hi))]
  exact Bool.false_ne_true
/-! ### two conditions over the same cases -/
theorem meets_iff {hs fs cs : List Str} : meets hs fs cs = true ↔ (∀ x ∈ hs, x ∈ cs) ∧ ∀ x ∈ fs, ¬ x ∈ cs := by
  unfold meets
  rw [Bool.and_eq_true, List.all_eq_true, Bool.not_eq_true', List.any_eq_false]
  constructor
  · rintro ⟨h1, h2⟩
    exact ⟨fun x hx => of_decide_eq_true (h1 x hx), fun x hx hc => h2 x hx (decide_eq_true hc)⟩
  · rintro ⟨h1, h2⟩
    exact ⟨fun x hx => decide_eq_true (h1 x hx), fun x hx hc => h2 x hx (of_decide_eq_true hc)⟩
theorem meets_mrg {hs fs gs ks cs : List Str} : meets (mrg hs gs) (mrg fs ks) cs = (meets hs fs cs && meets gs ks cs) := by
  rw [Bool.eq_iff_iff, Bool.and_eq_true, meets_iff, meets_iff, meets_iff]
  constructor
  · rintro ⟨h1, h2⟩
    exact ⟨⟨fun x hx => h1 x (mem_mrg.mpr (.inl hx)), fun x hx => h2 x (mem_mrg.mpr (.inl hx))⟩, fun x hx => h1 x (mem_mrg.mpr (.inr hx)), fun x hx => h2 x (mem_mrg.mpr (.inr hx))⟩
  · rintro ⟨⟨h1, h2⟩, h3, h4⟩
    refine ⟨fun x hx => ?_, fun x hx => ?_⟩
    · rcases mem_mrg.mp hx with h | h
      · exact h1 x h
      · exact h3 x h
    · rcases mem_mrg.mp hx with h | h
      · exact h2 x h
      · exact h4 x h
/-- a case that meets the joined condition: what must hold, and no more -/
theorem met_case {fs ws bs : List Str} (s1 : ∀ x ∈ ws, x ∈ fs) (d : ∀ x ∈ ws, ¬ x ∈ bs) : meets ws bs (fs.filter fun x => decide (x ∈ ws)) = true := by
  rw [meets_iff]
  refine ⟨fun x hx => List.mem_filter.mpr ⟨s1 x hx, decide_eq_true hx⟩, fun x hx hc => ?_⟩
  exact d x (of_decide_eq_true (List.mem_filter.mp hc).2) hx
theorem both_iff {fs hs ks gs ls : List Str} (h1 : ∀ x ∈ hs, x ∈ fs) (h2 : ∀ x ∈ gs, x ∈ fs) :
    (∃ n, n < 2 ^ fs.length ∧ (meets hs ks (caseOf fs n) && meets gs ls (caseOf fs n)) = true) ↔ meetN (mrg hs gs) (mrg ks ls) = false := by
  constructor
  · rintro ⟨n, _, h⟩
    rw [← meets_mrg, meets_iff] at h
    unfold meetN
    rw [List.any_eq_false]
    intro x hx hc
    exact h.2 x (of_decide_eq_true hc) (h.1 x hx)
  · intro h
    obtain ⟨n, hn, e⟩ := caseOf_all (fun x => decide (x ∈ mrg hs gs)) fs
    refine ⟨n, hn, ?_⟩
    rw [← meets_mrg, e]
    refine met_case (fun x hx => ?_) (fun x hx hc => ?_)
    · rcases mem_mrg.mp hx with h' | h'
      · exact h1 x h'
      · exact h2 x h'
    · unfold meetN at h
      rw [List.any_eq_false] at h
      exact h x hx (decide_eq_true hc)
theorem within_iff {fs hs ks gs ls : List Str} (h1 : ∀ x ∈ hs, x ∈ fs) (h2 : ∀ x ∈ ls, x ∈ fs) (d : ∀ x ∈ hs, ¬ x ∈ ks) :
    withinC hs ks gs ls = true ↔ ∀ n, n < 2 ^ fs.length → (meets hs ks (caseOf fs n) && !meets gs ls (caseOf fs n)) = false := by
  unfold withinC
  rw [Bool.and_eq_true, List.all_eq_true, List.all_eq_true]
  constructor
  · rintro ⟨q1, q2⟩ n _
    cases c : meets hs ks (caseOf fs n) with
    | false => rfl
    | true =>
      have c := meets_iff.mp c
      have : meets gs ls (caseOf fs n) = true := meets_iff.mpr ⟨fun x hx => c.1 x (of_decide_eq_true (q1 x hx)), fun x hx => c.2 x (of_decide_eq_true (q2 x hx))⟩
      rw [this]
      rfl
  · intro q
    constructor
    · intro x hx
      obtain ⟨n, hn, e⟩ := caseOf_all (fun x => decide (x ∈ hs)) fs
      have h := q n hn
      rw [e, met_case h1 d, Bool.true_and] at h
      have h : meets gs ls (fs.filter fun x => decide (x ∈ hs)) = true := by
        cases c : meets gs ls (fs.filter fun x => decide (x ∈ hs)) with
        | true => rfl
        | false => rw [c] at h; cases h
      exact (List.mem_filter.mp ((meets_iff.mp h).1 x hx)).2
    · intro x hx
      obtain ⟨n, hn, e⟩ := caseOf_all (fun x => !decide (x ∈ ks)) fs
      have h := q n hn
      have m : meets hs ks (fs.filter fun x => !decide (x ∈ ks)) = true := by
        rw [meets_iff]
        refine ⟨fun y hy => List.mem_filter.mpr ⟨h1 y hy, by rw [decide_eq_false (d y hy)]; rfl⟩, fun y hy hc => ?_⟩
        have := (List.mem_filter.mp hc).2
        rw [decide_eq_true hy] at this
        cases this
      rw [e, m, Bool.true_and] at h
      have h : meets gs ls (fs.filter fun x => !decide (x ∈ ks)) = true := by
        cases c : meets gs ls (fs.filter fun x => !decide (x ∈ ks)) with
        | true => rfl
        | false => rw [c] at h; cases h
      refine decide_eq_true (Classical.byContradiction fun nk => ?_)
      exact (meets_iff.mp h).2 x hx (List.mem_filter.mpr ⟨h2 x hx, by rw [decide_eq_false nk]; rfl⟩)
end Sc
namespace Sc
open PySem PySem.Spec PyProof.Rows L2
/-! ### rules of right parts -/
structure NdOk (n : Nd) : Prop where
  nm : isName n.nm = true
  rl : isName n.rl = true
  c1 : firstWrong n.hs [] = none
  c2 : firstWrong n.fs n.hs = none
theorem name_len {x : Str} (h : isName x = true) : x.length ≤ 8 := by
  unfold isName at h
  rw [Bool.and_eq_true, Bool.and_eq_true] at h
  exact of_decide_eq_true h.2.1
theorem fw_names {xs ys : List Str} (h : firstWrong xs ys = none) : ∀ x ∈ xs, isName x = true := by
  intro x hx
  obtain ⟨i, hi, rfl⟩ := List.getElem_of_mem hx
  have := (wrongs_none h i hi).1.1
  rw [Bool.or_eq_false_iff] at this
  exact (Bool.not_eq_false' _).mp this.1
theorem fw_txts {xs ys : List Str} (h : firstWrong xs ys = none) : Txts xs := fun x hx => Nat.le_trans (name_len (fw_names h x hx)) (by decide)
theorem NdOk.len {n : Nd} (h : NdOk n) : n.hs.length ≤ 8 ∧ n.fs.length ≤ 8 := by
  have h1 := fw_len h.c1
  have h2 := fw_len h.c2
  simp only [List.length_nil] at h1
  omega
theorem fit_of {f : RF} (h : f.every NdOk) : f.Fit := fun q hq => by
  have := (RF.every_pre h q hq).len
  omega
theorem name_fine {x : Str} (h : isName x = true) : Fine x := by
  refine ⟨Nat.le_trans (name_len h) (by decide), ?_⟩
  unfold isName isLetters at h
  rw [Bool.and_eq_true, Bool.and_eq_true, List.all_eq_true] at h
  have hL : PyData.strOk letters = true := by decide +kernel
  show PyData.strOk x = true
  unfold PyData.strOk at hL ⊢
  rw [Array.all_eq_true'] at hL ⊢
  intro c hc
  exact hL c (by rw [← Array.mem_toList_iff]; exact of_decide_eq_true (h.2.2 c (by rw [Array.mem_toList_iff]; exact hc)))
theorem fw_fines {xs ys : List Str} (h : firstWrong xs ys = none) : Fines xs := fun x hx => name_fine (fw_names h x hx)
/-- names in their order -/
structure Right (xs : List Str) : Prop where
  up : xs.Pairwise SLt
  nm : ∀ x ∈ xs, isName x = true
theorem Right.sub {xs ys : List Str} (h : Right ys) (s : List.Sublist xs ys) : Right xs := ⟨h.up.sublist s, fun x hx => h.nm x (s.subset hx)⟩
theorem Right.nodup {xs : List Str} (h : Right xs) : xs.Nodup := h.up.imp fun {a b} hl e => by subst e; exact List.lt_irrefl _ hl
theorem Right.fines {xs : List Str} (h : Right xs) : Fines xs := fun x hx => name_fine (h.nm x hx)
theorem Right.none {xs ys : List Str} (h : Right xs) (l : ys.length + xs.length ≤ 8) (d : ∀ x ∈ xs, ¬ x ∈ ys) : firstWrong xs ys = none := by
  unfold firstWrong
  rw [List.find?_eq_none]
  intro i hi
  have hi := List.mem_range.mp hi
  unfold wrongAt
  rw [List.getElem?_eq_getElem hi]
  dsimp only
  rw [h.nm _ (List.getElem_mem hi), rises_pw h.up hi, decide_eq_false (show ¬ 8 ≤ ys.length + i by omega), decide_eq_false (d _ (List.getElem_mem hi))]
  exact Bool.false_ne_true
theorem Right.bad {xs : List Str} (g : Right xs) (h0 : xs ≠ []) (h1 : xs.length ≤ 60) : firstBad xs = Option.none := by
  unfold firstBad
  rw [if_neg h0, List.find?_eq_none]
  intro i hi
  have hi := List.mem_range.mp hi
  unfold badAt
  rw [List.getElem?_eq_getElem hi]
  dsimp only
  rw [g.nm _ (List.getElem_mem hi), rises_pw g.up hi, decide_eq_false (show ¬ i = 60 by omega)]
  exact Bool.false_ne_true
/-- a row of distinct names, sorted -/
theorem right_of {xs zs : List Str} (p : zs.Perm xs) (s : sortedS zs = true) (nd : xs.Nodup) (nm : ∀ x ∈ xs, isName x = true) : Right zs :=
  ⟨((sorted_pw s).and (p.nodup_iff.mpr nd)).imp fun h => lt_of h.1 h.2, fun x hx => nm x (p.mem_iff.mp hx)⟩
end Sc
namespace Sc
open PySem PySem.Spec PyProof.Rows L2
/-! ### the draws of the laws from k31 on -/
theorem sc__law_sides : FnScope ["_law_h", "_law_facts_here", "_law_most", "_law_rest", "_law_holding", "_law_failing", "_law_k", "_law_one"] ["_law_h", "_law_facts_here", "_law_most"] (defScope s__law_sides) := ⟨rfl, rfl, rfl, by decide +kernel, rfl, by decide +kernel, by decide +kernel⟩
def ten : List Str := ["crew", "debt", "fog", "gate", "late", "mail", "noon", "paid", "rain", "warm"]
theorem ten_right : Right ten := ⟨by decide +kernel, by decide +kernel⟩
section
variable {P : Program} {w : World} {K : PySem.W.Frag} {mg : Str → Option Value} {base : Heap}
def sp_facts : Sp := fun vs H Q _ => ∃ (a l : Addr) (m : Nat), vs = [.ref a, .int (m : Nat)] ∧ RS H a l ∧ 1 ≤ m ∧ m ≤ 10 ∧ ∀ H' p fs, Kp a l H H' → H' p = some (.tup (fs.map V.str)) → H p = none → List.Sublist fs ten → 1 ≤ fs.length → fs.length ≤ m → Q (.ref p) H'
theorem ok_facts {f : Addr} {fd : FuncData} (F : Fun K "_law_facts" "_law_facts" s__law_facts f fd) (B : Blt mg) (c__law_next : Cal P w K mg base CX0 1 "_law_next" ["_law_h", "_law_limit"] sp_next) : FnOk P w K mg base CX0 2 f fd ["_law_h", "_law_most"] sp_facts := by
  refine F.ok sc__law_facts (fun vs H Q E h => by obtain ⟨a, l, c, rfl, _⟩ := h; rfl) (fun cdv A outer s H vs Q E hr h => ?_)
  obtain ⟨a, l, c, rfl, hR, c0, c1, q⟩ := h
  refine ⟨_, (pss_cons (ps_set (i := 2) sc__law_facts.nd rfl (Or.inl rfl) (pe_lst (pa_cons pe_str (pa_cons pe_str (pa_cons pe_str (pa_cons pe_str (pa_cons pe_str (pa_cons pe_str (pa_cons pe_str (pa_cons pe_str (pa_cons pe_str (pa_cons pe_str pa_nil))))))))))))
      (pss_cons (ps_set (i := 3) sc__law_facts.nd rfl (Or.inl rfl) (pe_op op_add pe_int (pe_cal c__law_next (hr.mono (by decide)) (pa_cons (pv 0) (pa_cons (pv 1) pa_nil)))))
      (pss_cons (ps_while PassesOwn.never (pt_cmpR op_gt (pe_callB call_len_seq (by rfl) B.b_len PySem.boot_len (pa_cons (pv 2) pa_nil)) (pv 3) (nomark _)) (pss_one (ps_expr (pe_bm PySem.F.plainAttrs_list PySem.F.slot_list_pop PySem.F.type_list_pop mt_popAt (pv 2) (pa_cons (pe_cal c__law_next (hr.mono (by decide)) (pa_cons (pv 0) (pa_cons (pe_callB call_len_seq (by rfl) B.b_len PySem.boot_len (pa_cons (pv 2) pa_nil)) pa_nil))) pa_nil)))))
      (pss_one (ps_ret (pe_callTy call_tuple_of (by rfl) B.b_tuple PyProof.Rows.boot_tuple (pa_cons (pv 2) pa_nil))))))), ?_⟩
  refine ⟨(by show 10 ≤ sizeLine; decide), fun p np => ?_⟩
  obtain ⟨npa, npl⟩ := hR.no np
  have k0 := (Kp.refl hR).put (o := .lst (ten.map V.str)) np
  have e0 : (upd H p (.lst (ten.map V.str))) p = some (.lst (ten.map V.str)) := upd_same
  refine ⟨_, rfl, _, rfl, a, l, _, rfl, k0.new, by omega, small_lim (by omega) (by omega), fun H1 r k1 r0 r1 => ⟨1, r, rfl, rfl, ?_⟩⟩
  obtain ⟨m, rfl⟩ := Int.eq_ofNat_of_zero_le r0
  refine ⟨fun k σ H' => ∃ zs : List Str, k = zs.length ∧ σ = [some (.ref a), some (.int (c : Nat)), some (.ref p), some (.int (1 + (m : Nat)))] ∧ Kp a l H H' ∧ H' p = some (.lst (zs.map V.str)) ∧ List.Sublist zs ten ∧ m + 1 ≤ zs.length,
    ⟨_, ten, rfl, rfl, k0.trans k1, k1.keep p _ npa npl e0, List.Sublist.refl _, (by show m + 1 ≤ 10; omega)⟩, ?_⟩
  rintro k σ H1 ⟨zs, rfl, rfl, k1, e1, sb, hc⟩
  have hz : zs.length ≤ 10 := sb.length_le
  refine ⟨.ref p, rfl, p, _, rfl, .inl (sqL_of e1), _, rfl, _, _, rfl, rfl, _, rfl, bcase (fun t1 => ?_) (fun t1 => ?_)⟩
  · have t1 : 1 + (m : Int) < ((zs.map V.str).length : Int) := of_decide_eq_true t1
    rw [List.length_map] at t1
    refine ⟨fun σ' H' => ∃ zs' : List Str, zs'.length < zs.length ∧ (σ' = [some (.ref a), some (.int (c : Nat)), some (.ref p), some (.int (1 + (m : Nat)))] ∧ Kp a l H H' ∧ H' p = some (.lst (zs'.map V.str)) ∧ List.Sublist zs' ten ∧ m + 1 ≤ zs'.length),
      fun σ' H' ⟨zs', lt, x⟩ => ⟨_, lt, zs', rfl, x⟩, ?_⟩
    refine ⟨.ref p, rfl, .inl ⟨rfl, _, sqL_of e1⟩, .ref a, rfl, .ref p, rfl, p, _, rfl, .inl (sqL_of e1), a, l, _, rfl, k1.new, by rw [List.length_map]; omega, ?_, fun H2 r k2 r0 r1 => ?_⟩
    · rw [List.length_map]
      exact Nat.lt_of_le_of_lt (Nat.log2_le_self _) (by show zs.length < 9000; omega)
    · have e2 : H2 p = some (.lst (zs.map V.str)) := k2.keep p _ npa npl e1
      rw [List.length_map] at r1
      obtain ⟨j, rfl⟩ := Int.eq_ofNat_of_zero_le r0
      have hj : j < zs.length := by omega
      have hj' : j < (zs.map V.str).length := by rw [List.length_map]; exact hj
      refine ⟨p, _, _, j, _, rfl, rfl, e2, by omega, by omega, (ixN_seq (ixN_of hj')).1, List.getElem?_eq_getElem hj', zs.eraseIdx j, ?_, rfl, (k1.trans k2).put0 np, ?_, (List.eraseIdx_sublist zs j).trans sb, ?_⟩
      · rw [List.length_eraseIdx_of_lt hj]
        omega
      · rw [upd_same, map_eraseIdx]
      · rw [List.length_eraseIdx_of_lt hj]
        omega
  · have t1 : ¬ 1 + (m : Int) < ((zs.map V.str).length : Int) := of_decide_eq_false t1
    rw [List.length_map] at t1
    refine ⟨.ref p, rfl, p, _, rfl, .inl ⟨sqL_of e1, fun t nt => q _ t zs (k1.put nt) upd_same (k1.free nt) sb (by omega) (by omega)⟩⟩
/-- the parts of a drawn condition -/
structure Side (fs hs gs : List Str) (m : Nat) : Prop where
  r1 : Right hs
  r2 : Right gs
  s1 : ∀ x ∈ hs, x ∈ fs
  s2 : ∀ x ∈ gs, x ∈ fs
  dj : ∀ x ∈ gs, ¬ x ∈ hs
  le : hs.length + gs.length ≤ m
theorem erase_perm {α : Type} : ∀ {zs : List α} {j : Nat} (h : j < zs.length), (zs[j] :: zs.eraseIdx j).Perm zs
  | z :: r, 0, _ => List.Perm.refl _
  | z :: r, j + 1, h => by
    have hj : j < r.length := by simpa using h
    have ih := erase_perm hj
    show (r[j] :: z :: r.eraseIdx j).Perm (z :: r)
    exact (List.Perm.swap _ _ _).trans (ih.cons z)
def sp_sides (K : PySem.W.Frag) : Sp := fun vs H Q _ => ∃ (a l fp : Addr) (fs : List Str) (m : Nat), vs = [.ref a, .ref fp, .int (m : Nat)] ∧ RS H a l ∧ SqT K H fp (fs.map V.str) ∧ fs.length ≤ 60 ∧ Right fs ∧ m ≤ 8 ∧
  ∀ H' p pw pb hs gs, Kp a l H H' → H' p = some (.tup [.ref pw, .ref pb]) → H' pw = some (.tup (hs.map V.str)) → H' pb = some (.tup (gs.map V.str)) → Side fs hs gs m → Q (.ref p) H'
theorem ok_sides {f : Addr} {fd : FuncData} (F : Fun K "_law_sides" "_law_sides" s__law_sides f fd) (B : Blt mg) (c__law_next : Cal P w K mg base CX0 1 "_law_next" ["_law_h", "_law_limit"] sp_next) : FnOk P w K mg base CX0 2 f fd ["_law_h", "_law_facts_here", "_law_most"] (sp_sides K) := by
  refine F.ok sc__law_sides (fun vs H Q E h => by obtain ⟨a, l, fp, fs, m, rfl, _⟩ := h; rfl) (fun cdv A outer s H vs Q E hr h => ?_)
  obtain ⟨a, l, fp, fs, m, rfl, R, hS, hl, hfs, hm, q⟩ := h
  refine ⟨_, (pss_cons (ps_par3 (i := 3) (j := 4) (l := 5) rfl sc__law_sides.nd rfl rfl rfl (by decide) (by decide) (by decide) rfl rfl rfl (pa_cons (pe_callTy call_list_of (by rfl) B.b_list PyProof.Rows.boot_list (pa_cons (pv 1) pa_nil)) (pa_cons (pe_lst pa_nil) (pa_cons (pe_lst pa_nil) pa_nil))) rfl)
      (pss_cons (ps_for PassesOwn.never rfl (pi_range1 (by rfl) B.b_range (pa_cons (pe_cal c__law_next (hr.mono (by decide)) (pa_cons (pv 0) (pa_cons (pe_op op_add (pe_callB (call_min2 rfl) (by rfl) B.b_min (by decide +kernel) (pa_cons (pv 2) (pa_cons (pe_callB call_len_seq (by rfl) B.b_len PySem.boot_len (pa_cons (pv 1) pa_nil)) pa_nil))) pe_int) pa_nil))) pa_nil)) (pg_name (i := 6) sc__law_sides.nd rfl (Or.inl rfl)) (pss_cons (ps_set (i := 7) sc__law_sides.nd rfl (Or.inl rfl) (pe_bm PySem.F.plainAttrs_list PySem.F.slot_list_pop PySem.F.type_list_pop mt_popAt (pv 3) (pa_cons (pe_cal c__law_next (hr.mono (by decide)) (pa_cons (pv 0) (pa_cons (pe_callB call_len_seq (by rfl) B.b_len PySem.boot_len (pa_cons (pv 3) pa_nil)) pa_nil))) pa_nil)))
      (pss_one (ps_if (pt_cmpR op_gt (pe_cal c__law_next (hr.mono (by decide)) (pa_cons (pv 0) (pa_cons pe_int pa_nil))) pe_int (nomark _)) (pss_one (ps_expr (pe_bm PySem.F.plainAttrs_list PySem.F.slot_list_append PySem.F.type_list_append mt_append (pv 4) (pa_cons (pv 7) pa_nil)))) (pss_one (ps_expr (pe_bm PySem.F.plainAttrs_list PySem.F.slot_list_append PySem.F.type_list_append mt_append (pv 5) (pa_cons (pv 7) pa_nil))))))))
      (pss_one (ps_ret (pe_tup (pa_cons (pe_callTy call_tuple_of (by rfl) B.b_tuple PyProof.Rows.boot_tuple (pa_cons (pe_callB cr_sortedS (by rfl) B.b_sorted (by decide +kernel) (pa_cons (pv 4) pa_nil)) pa_nil)) (pa_cons (pe_callTy call_tuple_of (by rfl) B.b_tuple PyProof.Rows.boot_tuple (pa_cons (pe_callB cr_sortedS (by rfl) B.b_sorted (by decide +kernel) (pa_cons (pv 5) pa_nil)) pa_nil)) pa_nil))))))), ?_⟩
  refine ⟨_, rfl, fp, _, rfl, .inr hS, fun lr nr => ⟨Nat.zero_le _, fun lw nw => ⟨Nat.zero_le _, fun lb nb => ⟨_, _, _, rfl, ?_⟩⟩⟩⟩
  have s1 : Same H (upd H lr (.lst (fs.map V.str))) := (Same.refl H).put nr
  have s2 : Same H (upd (upd H lr (.lst (fs.map V.str))) lw (.lst [])) := s1.put' nw
  have s3 : Same H (upd (upd (upd H lr (.lst (fs.map V.str))) lw (.lst [])) lb (.lst [])) := s2.put' nb
  have wr : lr ≠ lw := ne_of_none upd_same nw
  have wb : lw ≠ lb := ne_of_none upd_same nb
  have rb : lr ≠ lb := ne_of_none (show _ = some (HO.lst (fs.map V.str)) by rw [upd_ne wr]; exact upd_same) nb
  have er : (upd (upd (upd H lr (.lst (fs.map V.str))) lw (.lst [])) lb (.lst [])) lr = some (.lst (fs.map V.str)) := by rw [upd_ne rb, upd_ne wr]; exact upd_same
  have ew : (upd (upd (upd H lr (.lst (fs.map V.str))) lw (.lst [])) lb (.lst [])) lw = some (.lst (([] : List Str).map V.str)) := by rw [upd_ne wb]; exact upd_same
  have eb : (upd (upd (upd H lr (.lst (fs.map V.str))) lw (.lst [])) lb (.lst [])) lb = some (.lst (([] : List Str).map V.str)) := upd_same
  have fw : H lw = none := s1.free nw
  have fb : H lb = none := s2.free nb
  generalize upd (upd (upd H lr (.lst (fs.map V.str))) lw (.lst [])) lb (.lst []) = H0 at s3 er ew eb ⊢
  obtain ⟨ra, rl⟩ := R.no nr
  obtain ⟨wa, wl⟩ := R.no fw
  obtain ⟨ba, bl⟩ := R.no fb
  have k0 := Kp.of R s3
  have hmn : (if (fs.length : Int) < m then (fs.length : Int) else m) = ((min fs.length m : Nat) : Int) := by split <;> omega
  refine ⟨_, rfl, _, rfl, _, rfl, fp, _, rfl, .inr (k0.tup hS), _, _, rfl, _, 1, rfl, rfl, ?_⟩
  rw [List.length_map, hmn]
  refine ⟨a, l, _, rfl, k0.new, by omega, small_lim (by omega) (by omega), fun H1 r k1 r0 r1 => ?_⟩
  obtain ⟨n, rfl⟩ := Int.eq_ofNat_of_zero_le r0
  have hn : n ≤ min fs.length m := by omega
  have hnd := hfs.nodup
  refine ⟨_, rfl, by omega, by omega, for_it walk_range (fun i σ H' => ∃ (rest ws bs : List Str) (y6 y7 : Option V), σ = [some (.ref a), some (.ref fp), some (.int (m : Nat)), some (.ref lr), some (.ref lw), some (.ref lb), y6, y7] ∧ Kp a l H H' ∧ H' lr = some (.lst (rest.map V.str)) ∧ H' lw = some (.lst (ws.map V.str)) ∧ H' lb = some (.lst (bs.map V.str)) ∧
      (rest ++ (ws ++ bs)).Perm fs ∧ ws.length + bs.length = i)
    ⟨fs, [], [], none, none, rfl, k0.trans k1, k1.keep _ _ ra rl er, k1.keep _ _ wa wl ew, k1.keep _ _ ba bl eb, by rw [List.append_nil, List.append_nil], rfl⟩ (fun _ _ _ _ _ => trivial) ?_ ?_⟩
  · rintro i y σ H3 H2 hi ⟨rest, ws, bs, y6, y7, rfl, k, er, ew, eb, hp, hlen⟩ ⟨rfl, hy⟩
    have hi : i < n := hi
    have hpl := hp.length_eq
    rw [List.length_append, List.length_append] at hpl
    refine ⟨_, rfl, .inl ⟨rfl, _, sqL_of er⟩, _, rfl, _, rfl, lr, _, rfl, .inl (sqL_of er), a, l, _, rfl, k.new, by rw [List.length_map]; omega, small_lim (by omega) (by rw [List.length_map]; omega), fun H4 r4 k4 r40 r41 => ?_⟩
    rw [List.length_map] at r41
    obtain ⟨j, rfl⟩ := Int.eq_ofNat_of_zero_le r40
    have hj : j < rest.length := by omega
    have hj' : j < (rest.map V.str).length := by rw [List.length_map]; exact hj
    have er4 := k4.keep _ _ ra rl er
    have ew4 := k4.keep _ _ wa wl ew
    have eb4 := k4.keep _ _ ba bl eb
    refine ⟨lr, _, _, j, _, rfl, rfl, er4, by omega, by omega, (ixN_seq (ixN_of hj')).1, List.getElem?_eq_getElem hj', ?_⟩
    rw [List.getElem_map]
    have k5 : Kp a l H (upd H4 lr (.lst ((rest.eraseIdx j).map V.str))) := (k.trans k4).put0 nr
    have er5 : (upd H4 lr (.lst ((rest.eraseIdx j).map V.str))) lr = some (.lst ((rest.eraseIdx j).map V.str)) := upd_same
    have ew5 : (upd H4 lr (.lst ((rest.eraseIdx j).map V.str))) lw = some (.lst (ws.map V.str)) := by rw [upd_ne wr.symm]; exact ew4
    have eb5 : (upd H4 lr (.lst ((rest.eraseIdx j).map V.str))) lb = some (.lst (bs.map V.str)) := by rw [upd_ne rb.symm]; exact eb4
    have hpe := erase_perm hj
    rw [map_eraseIdx]
    generalize upd H4 lr (.lst ((rest.eraseIdx j).map V.str)) = H5 at k5 er5 ew5 eb5 ⊢
    refine ⟨_, rfl, a, l, 3, rfl, k5.new, by decide, small_lim (by decide) (by decide), fun H6 r6 k6 r60 r61 => ⟨r6, 0, rfl, rfl, _, rfl, ?_⟩⟩
    have kk := k5.trans k6
    have er6 := k6.keep _ _ ra rl er5
    have ew6 := k6.keep _ _ wa wl ew5
    have eb6 := k6.keep _ _ ba bl eb5
    refine bcase (fun c1 => ?_) (fun c1 => ?_)
    · refine ⟨_, rfl, .inl ⟨rfl, _, sqL_of ew6⟩, _, rfl, lw, _, _, rfl, rfl, ew6, by rw [List.length_map]; exact small1000 (by omega), ?_⟩
      refine ⟨rest.eraseIdx j, ws ++ [rest[j]], bs, _, _, rfl, kk.put0 fw, by rw [upd_ne wr]; exact er6, by rw [upd_same, List.map_append]; rfl, by rw [upd_ne wb.symm]; exact eb6, ?_, by rw [List.length_append, List.length_singleton]; omega⟩
      refine List.Perm.trans ?_ hp
      refine List.Perm.trans ?_ (hpe.append_right (ws ++ bs))
      show (rest.eraseIdx j ++ ((ws ++ [rest[j]]) ++ bs)).Perm (rest[j] :: (rest.eraseIdx j ++ (ws ++ bs)))
      rw [List.append_assoc, ← List.append_assoc]
      have h1 : ((rest.eraseIdx j ++ ws) ++ ([rest[j]] ++ bs)).Perm (rest[j] :: ((rest.eraseIdx j ++ ws) ++ bs)) := List.perm_middle
      rw [List.append_assoc (rest.eraseIdx j) ws bs] at h1
      exact h1
    · refine ⟨_, rfl, .inl ⟨rfl, _, sqL_of eb6⟩, _, rfl, lb, _, _, rfl, rfl, eb6, by rw [List.length_map]; exact small1000 (by omega), ?_⟩
      refine ⟨rest.eraseIdx j, ws, bs ++ [rest[j]], _, _, rfl, kk.put0 fb, by rw [upd_ne rb]; exact er6, by rw [upd_ne wb]; exact ew6, by rw [upd_same, List.map_append]; rfl, ?_, by rw [List.length_append, List.length_singleton]; omega⟩
      refine List.Perm.trans ?_ hp
      refine List.Perm.trans ?_ (hpe.append_right (ws ++ bs))
      show (rest.eraseIdx j ++ (ws ++ (bs ++ [rest[j]]))).Perm (rest[j] :: (rest.eraseIdx j ++ (ws ++ bs)))
      rw [← List.append_assoc, ← List.append_assoc, ← List.append_assoc]
      exact List.perm_append_singleton _ _
  · rintro σ H2 ⟨rest, ws, bs, y6, y7, rfl, k, er, ew, eb, hp, hlen⟩
    have hlen : ws.length + bs.length = n := hlen
    have hsub : (ws ++ bs).Perm (ws ++ bs) := List.Perm.refl _
    have hnd2 : (rest ++ (ws ++ bs)).Nodup := hp.nodup_iff.mpr hnd
    have hin : ∀ x ∈ ws ++ bs, x ∈ fs := fun x hx => hp.mem_iff.mp (List.mem_append_right _ hx)
    have nd3 : (ws ++ bs).Nodup := (List.nodup_append.mp hnd2).2.1
    have ndw := (List.nodup_append.mp nd3).1
    have ndb := (List.nodup_append.mp nd3).2.1
    refine ⟨_, rfl, lw, ws, rfl, sqL_of ew, by omega, fun zs p hz1 hz2 np => ?_⟩
    have s4 : Same H2 (upd H2 p (.lst (zs.map V.str))) := (Same.refl H2).put np
    have e4 : (upd H2 p (.lst (zs.map V.str))) p = some (.lst (zs.map V.str)) := upd_same
    generalize upd H2 p (.lst (zs.map V.str)) = H3 at s4 e4 ⊢
    refine ⟨p, _, rfl, .inl ⟨sqL_of e4, fun t nt => ?_⟩⟩
    have s5 : Same H3 (upd H3 t (.tup (zs.map V.str))) := (Same.refl H3).put nt
    have e5 : (upd H3 t (.tup (zs.map V.str))) t = some (.tup (zs.map V.str)) := upd_same
    generalize upd H3 t (.tup (zs.map V.str)) = H4 at s5 e5 ⊢
    have s25 := s4.trans s5
    refine ⟨_, rfl, lb, bs, rfl, sqL_of (s25 _ _ eb), by omega, fun zs2 p2 hy1 hy2 np2 => ?_⟩
    have s6 : Same H4 (upd H4 p2 (.lst (zs2.map V.str))) := (Same.refl H4).put np2
    have e6 : (upd H4 p2 (.lst (zs2.map V.str))) p2 = some (.lst (zs2.map V.str)) := upd_same
    generalize upd H4 p2 (.lst (zs2.map V.str)) = H5 at s6 e6 ⊢
    refine ⟨p2, _, rfl, .inl ⟨sqL_of e6, fun t2 nt2 => ?_⟩⟩
    have s7 : Same H5 (upd H5 t2 (.tup (zs2.map V.str))) := (Same.refl H5).put nt2
    have e7 : (upd H5 t2 (.tup (zs2.map V.str))) t2 = some (.tup (zs2.map V.str)) := upd_same
    generalize upd H5 t2 (.tup (zs2.map V.str)) = H6 at s7 e7 ⊢
    refine ⟨(by show 2 ≤ sizeLine; decide), fun t3 nt3 => ?_⟩
    have s8 : Same H6 (upd H6 t3 (.tup [.ref t, .ref t2])) := (Same.refl H6).put nt3
    have s47 := (s6.trans s7).trans s8
    refine q _ t3 t t2 zs zs2 (k.same (s25.trans s47)) upd_same (s47 _ _ e5) (s8 _ _ e7) ⟨right_of hz1 hz2 ndw fun x hx => hfs.nm x (hin x (List.mem_append_left _ hx)), right_of hy1 hy2 ndb fun x hx => hfs.nm x (hin x (List.mem_append_right _ hx)), fun x hx => hin x (List.mem_append_left _ (hz1.mem_iff.mp hx)), fun x hx => hin x (List.mem_append_right _ (hy1.mem_iff.mp hx)), fun x hx hw => (List.nodup_append.mp nd3).2.2 x (hz1.mem_iff.mp hw) x (hy1.mem_iff.mp hx) rfl, ?_⟩
    rw [hz1.length_eq, hy1.length_eq]
    omega
end
end Sc
namespace Sc
open PySem PySem.Spec PyProof.Rows L2
theorem sc__law_rule : FnScope ["_law_h", "_law_facts_here", "_law_names", "_law_deep", "_law_name", "_law_sides_here", "_law_ruling", "_law_inner", "_law_k"] ["_law_h", "_law_facts_here", "_law_names", "_law_deep"] (defScope s__law_rule) := ⟨rfl, rfl, rfl, by decide +kernel, rfl, by decide +kernel, by decide +kernel⟩
theorem sc__law_drawn : FnScope ["_law_h", "_law_facts_here", "_law_most", "_law_names", "_law_rules", "_law_k"] ["_law_h", "_law_facts_here", "_law_most"] (defScope s__law_drawn) := ⟨rfl, rfl, rfl, by decide +kernel, rfl, by decide +kernel, by decide +kernel⟩
def three : List Str := ["fine", "free", "warn"]
theorem three_name : ∀ x ∈ three, isName x = true := by decide +kernel
theorem pe_wk {X : Cx} {e : Expr} {t : TE} (t' : TE) (h : PE X e t) (w : ∀ σ H Q, t' σ H Q → t σ H Q) : PE X e t' := ⟨fun pins s σ H Q I x => h.run pins s σ H Q I (w σ H Q x)⟩
/-- a drawn rule of such facts -/
structure N2 (fs : List Str) (n : Nd) : Prop where
  ok : NdOk n
  s1 : ∀ x ∈ n.hs, x ∈ fs
  s2 : ∀ x ∈ n.fs, x ∈ fs
  s3 : n.rl ∈ three
/-- next(3) if deep > 0 else 0 -/
def tCount : TE := fun σ H Q => ∃ (a l : Addr) (deep : Nat), σ[0]? = some (some (.ref a)) ∧ σ[3]? = some (some (.int (deep : Nat))) ∧ RS H a l ∧ ∀ H' (n : Nat), Kp a l H H' → n ≤ 2 → (n = 0 ∨ 0 < deep) → Q (.int (n : Nat)) H'
section
variable {P : Program} {w : World} {K : PySem.W.Frag} {mg : Str → Option Value} {base : Heap}
def sp_rule2 (K : PySem.W.Frag) (d : Nat) : Sp := fun vs H Q _ => ∃ (a l fp nl : Addr) (fs : List Str) (x : Str) (ns : List Str) (deep : Nat), vs = [.ref a, .ref fp, .ref nl, .int (deep : Nat)] ∧ RS H a l ∧ SqT K H fp (fs.map V.str) ∧ Right fs ∧ fs.length ≤ 60 ∧ H nl = some (.lst ((x :: ns).map V.str)) ∧ nl ≠ a ∧ nl ≠ l ∧
  (∀ y ∈ x :: ns, isName y = true) ∧ ns.length ≤ 20 ∧ deep ≤ d ∧
  ∀ H' v n ns', Kc a l nl H H' → RowAt K H' v n → N2 fs n → n.exc.every (N2 fs) → n.nm :: (n.exc.names ++ ns') = x :: ns → H' nl = some (.lst (ns'.map V.str)) → n.exc.dep ≤ deep → Q v H'
theorem ok_rule2 {d : Nat} {f : Addr} {fd : FuncData} (F : Fun K "_law_rule" "_law_rule" s__law_rule f fd) (B : Blt mg) (c__law_next : Cal P w K mg base CX0 1 "_law_next" ["_law_h", "_law_limit"] sp_next) (c__law_sides : Cal P w K mg base CX0 2 "_law_sides" ["_law_h", "_law_facts_here", "_law_most"] (sp_sides K))
    (c__law_rule : Cal P w K mg base CX0 (d + 2) "_law_rule" ["_law_h", "_law_facts_here", "_law_names", "_law_deep"] (Below (sp_rule2 K) d)) : FnOk P w K mg base CX0 (d + 3) f fd ["_law_h", "_law_facts_here", "_law_names", "_law_deep"] (sp_rule2 K d) := by
  refine F.ok sc__law_rule (fun vs H Q E h => by obtain ⟨a, l, fp, nl, fs, x, ns, deep, rfl, _⟩ := h; rfl) (fun cdv A outer s H vs Q E hr h => ?_)
  obtain ⟨a, l, fp, nl, fs, x, ns, deep, rfl, R, hS, hfs, hfl, en, na, nl', hnm, hnl, hd, q⟩ := h
  refine ⟨_, (pss_cons (ps_par (i := 4) (j := 5) rfl sc__law_rule.nd rfl rfl (by decide) rfl rfl (pa_cons (pe_bm PySem.F.plainAttrs_list PySem.F.slot_list_pop PySem.F.type_list_pop mt_popAt (pv 2) (pa_cons pe_int pa_nil)) (pa_cons (pe_cal c__law_sides (hr.mono (by omega)) (pa_cons (pv 0) (pa_cons (pv 1) (pa_cons pe_int pa_nil)))) pa_nil)) rfl)
      (pss_cons (ps_par (i := 6) (j := 7) rfl sc__law_rule.nd rfl rfl (by decide) rfl rfl (pa_cons (pe_ix ix_list (pe_lst (pa_cons pe_str (pa_cons pe_str (pa_cons pe_str pa_nil)))) (pe_cal c__law_next (hr.mono (by omega)) (pa_cons (pv 0) (pa_cons pe_int pa_nil))) (fun _ _ => rfl)) (pa_cons (pe_lst pa_nil) pa_nil)) rfl)
      (pss_cons (ps_for PassesOwn.never rfl (pi_range1 (by rfl) B.b_range (pa_cons (pe_wk (tCount) (pe_ifExp (pt_cmpR op_gt (pv 3) pe_int (nomark _)) (pe_cal c__law_next (hr.mono (by omega)) (pa_cons (pv 0) (pa_cons pe_int pa_nil))) pe_int) ?we) pa_nil)) (pg_name (i := 8) sc__law_rule.nd rfl (Or.inl rfl)) (pss_one (ps_if (pt_cmpR (op_neD hr.units) (pv 2) (pe_lst pa_nil) (nomark _)) (pss_one (ps_expr (pe_bm PySem.F.plainAttrs_list PySem.F.slot_list_append PySem.F.type_list_append mt_append (pv 7) (pa_cons (pe_cal c__law_rule hr (pa_cons (pv 0) (pa_cons (pv 1) (pa_cons (pv 2) (pa_cons (pe_op op_sub (pv 3) pe_int) pa_nil))))) pa_nil)))) pss_nil)))
      (pss_one (ps_ret (pe_tup (pa_cons (pv 4) (pa_cons (pe_ix ix_tup (pv 5) pe_int (fun _ _ => rfl)) (pa_cons (pe_ix ix_tup (pv 5) pe_int (fun _ _ => rfl)) (pa_cons (pv 6) (pa_cons (pe_callTy call_tuple_of (by rfl) B.b_tuple PyProof.Rows.boot_tuple (pa_cons (pv 7) pa_nil)) pa_nil))))))))))), ?_⟩
  case we =>
    rintro σ H1 Q1 ⟨a, l, deep, g0, g3, R, q⟩
    refine ⟨_, g3, deep, 0, rfl, rfl, _, rfl, bcase (fun c1 => ?_) (fun c1 => ?_)⟩
    · have c1 : 0 < deep := by have := of_decide_eq_true c1; omega
      refine ⟨_, g0, a, l, 3, rfl, R, by decide, small_lim (by decide) (by decide), fun H2 r k r0 r1 => ?_⟩
      obtain ⟨m, rfl⟩ := Int.eq_ofNat_of_zero_le r0
      exact q H2 m k (by omega) (.inr c1)
    · exact q H1 0 (Kp.refl R) (by decide) (.inl rfl)
  have hix : 0 < ((x :: ns).map V.str).length := by rw [List.length_map, List.length_cons]; omega
  refine ⟨_, rfl, .inl ⟨rfl, _, sqL_of en⟩, nl, _, _, 0, .str x, rfl, rfl, en, by omega, by decide, (ixN_seq (ixN_of hix)).1, rfl, ?_⟩
  have k1 : Kc a l nl H (upd H nl (.lst (ns.map V.str))) := (Kc.of R (Same.refl H)).count na nl'
  have en1 : (upd H nl (.lst (ns.map V.str))) nl = some (.lst (ns.map V.str)) := upd_same
  rw [show ((x :: ns).map V.str).eraseIdx 0 = ns.map V.str from rfl]
  generalize upd H nl (.lst (ns.map V.str)) = H1 at k1 en1 ⊢
  refine ⟨_, rfl, _, rfl, a, l, fp, fs, 2, rfl, k1.new, (k1.keeps en).tup hS, hfl, hfs, by decide, fun H2 p pw pb hs gs k2 ep epw epb sd => ⟨_, _, rfl, ?_⟩⟩
  have kc2 := k1.trans (Kp.kc k2)
  have en2 := k2.keep _ _ na nl' en1
  refine ⟨(by show 3 ≤ sizeLine; decide), fun lp nlp => ?_⟩
  have s3 : Same H2 (upd H2 lp (.lst (three.map V.str))) := (Same.refl H2).put nlp
  have elp : (upd H2 lp (.lst (three.map V.str))) lp = some (.lst (three.map V.str)) := upd_same
  obtain ⟨la, ll⟩ := kc2.new.no nlp
  have R3 := kc2.new.same s3
  refine ⟨_, rfl, a, l, 3, rfl, R3, by decide, small_lim (by decide) (by decide), fun H4 r4 k4 r40 r41 => ?_⟩
  obtain ⟨j, rfl⟩ := Int.eq_ofNat_of_zero_le r40
  have hj : j < three.length := by show j < 3; omega
  have elp4 := k4.keep _ _ la ll elp
  refine ⟨lp, _, _, .str three[j], rfl, rfl, sqL_of elp4, atI_nat (j := j) (by rw [List.getElem?_map, List.getElem?_eq_getElem hj]; rfl), ?_⟩
  have hrl : three[j] ∈ three := List.getElem_mem hj
  generalize three[j] = rl at hrl ⊢
  refine ⟨Nat.zero_le _, fun li ni => ⟨_, _, rfl, ?_⟩⟩
  have kp24 : Keeps NoL H2 H4 := s3.keeps.trans k4.keepsN
  have kc4 := (kc2.same s3).trans (Kp.kc k4)
  have en4 := k4.keep _ _ na nl' (s3 _ _ en2)
  obtain ⟨ia, il⟩ := kc4.new.no ni
  have inl : li ≠ nl := fun z => by rw [z, en4] at ni; cases ni
  have s5 : Same H4 (upd H4 li (.lst [])) := (Same.refl H4).put ni
  have ei5 : (upd H4 li (.lst [])) li = some (.lst []) := upd_same
  have fi : H li = none := kc4.free en4 ni
  have kc5 := kc4.same s5
  have en5 := s5 _ _ en4
  have kp25 : Keeps NoL H2 (upd H4 li (.lst [])) := kp24.trans s5.keeps
  generalize upd H4 li (.lst []) = H5 at s5 ei5 kc5 en5 kp25 ⊢
  refine ⟨a, l, deep, rfl, rfl, kc5.new, fun H6 n6 k6 hn6 hdn => ?_⟩
  have hxn := hnm x List.mem_cons_self
  refine ⟨_, rfl, by omega, by omega, for_it walk_range (fun i σ H' => ∃ (g : RF) (us : List V) (ns' : List Str) (y8 : Option V), σ = [some (.ref a), some (.ref fp), some (.ref nl), some (.int (deep : Nat)), some (.str x), some (.ref p), some (.str rl), some (.ref li), y8] ∧ Kc a l nl H H' ∧ Keeps NoL H2 H' ∧ H' li = some (.lst us) ∧ RowsAt K H' g us ∧ g.every (N2 fs) ∧
      g.names ++ ns' = ns ∧ H' nl = some (.lst (ns'.map V.str)) ∧ g.dep ≤ deep)
    ⟨.nil, [], ns, none, rfl, kc5.trans (Kp.kc k6), kp25.trans k6.keepsN, k6.keep _ _ ia il ei5, rfl, trivial, rfl, k6.keep _ _ na nl' en5, Nat.zero_le _⟩ (fun _ _ _ _ _ => trivial) ?_ ?_⟩
  · rintro i y σ H8 H7 hi ⟨g, us, ns', y8, rfl, kc, kp, ei, hg, hev, hnn, en, hdp⟩ ⟨rfl, hy⟩
    have hi : i < n6 := hi
    have hd0 : 0 < deep := by omega
    have hsub : ∀ y ∈ ns', isName y = true := fun y hy => hnm y (List.mem_cons_of_mem _ (by rw [← hnn]; exact List.mem_append_right _ hy))
    have hln : g.names.length + ns'.length = ns.length := by rw [← List.length_append, hnn]
    refine ⟨_, rfl, Nat.zero_le _, fun te nte => ⟨.list (ns'.map PyData.str), .list [], .lst (sqL_of (by rw [upd_ne (ne_of_none en nte)]; exact en)) (dps K _ _), .lst sqL_new .nil, shL (fun z hz => name_fine (hsub z hz)), rfl, _, rfl, ?_⟩⟩
    have ed : (PyData.list (ns'.map PyData.str)).eqv (.list []) = decide (ns' = []) := eqvA_nil _
    rw [ed]
    have s9 : Same H7 (upd H7 te (.lst [])) := (Same.refl H7).put nte
    have en9 := s9 _ _ en
    have ei9 := s9 _ _ ei
    have kc9 := kc.same s9
    have kp9 : Keeps NoL H2 (upd H7 te (.lst [])) := kp.trans s9.keeps
    have hg9 := hg.keeps (N := NoL) s9.keeps
    generalize upd H7 te (.lst []) = H9 at s9 en9 ei9 kc9 kp9 hg9 ⊢
    refine bcase (fun c1 => ?_) (fun c1 => ?_)
    · have c1 : ns' ≠ [] := of_decide_eq_false ((Bool.not_eq_true' _).mp c1)
      obtain ⟨x', r', rfl⟩ := List.exists_cons_of_ne_nil c1
      obtain ⟨d, rfl⟩ : ∃ d', d = d' + 1 := ⟨d - 1, by omega⟩
      refine ⟨_, rfl, .inl ⟨rfl, _, sqL_of ei9⟩, _, rfl, _, rfl, _, rfl, _, rfl, deep, 1, rfl, rfl, ?_⟩
      rw [List.length_cons] at hln
      refine ⟨a, l, fp, nl, fs, x', r', deep - 1, (by show [V.ref a, V.ref fp, V.ref nl, V.int ((deep : Int) - 1)] = _; rw [show (deep : Int) - 1 = ((deep - 1 : Nat) : Int) by omega]), kc9.new, (kc9.keeps (show H nl = some (.lst ((x :: ns).map V.str)) by assumption)).tup hS, hfs, hfl, en9, na, nl', hsub, by omega, by omega, fun H10 v n ns2 k10 hrow hN hNe hnn2 en10 hdn2 => ?_⟩
      have ei10 := k10.keep _ _ ia il inl ei9
      have kk10 : Keeps NoL H9 H10 := k10.keeps en9
      refine ⟨li, _, _, rfl, rfl, ei10, ?_, ?_⟩
      · have := hg.len
        have h2 := RF.nodes_le g
        have h3 : g.names.length = g.size := by unfold RF.names; rw [List.length_map, RF.pre_len]
        exact small1000 (by omega)
      have kw : Keeps NoL H10 (upd H10 li (.lst (us ++ [v]))) := keeps_own ei10 id
      refine ⟨g.snoc n, us ++ [v], ns2, _, rfl, (kc9.trans k10).put0 fi, (kp9.trans kk10).trans kw, upd_same, rows_snoc ((hg9.keeps kk10).keeps kw) (hrow.keeps kw), RF.snoc_every hev hN hNe, ?_, by rw [upd_ne inl.symm]; exact en10, ?_⟩
      · rw [RF.snoc_names, ← hnn, ← hnn2, List.append_assoc]
        rfl
      · rw [RF.snoc_dep]
        omega
    · exact ⟨g, us, ns', _, rfl, kc9, kp9, ei9, hg9, hev, hnn, en9, hdp⟩
  · rintro σ H7 ⟨g, us, ns', y8, rfl, kc, kp, ei, hg, hev, hnn, en, hdp⟩
    have ep7 : SqT K H7 p [.ref pw, .ref pb] := kp.tup (sqT_of ep)
    refine ⟨_, rfl, _, rfl, p, _, 0, _, rfl, rfl, ep7, atI_nat (j := 0) rfl, _, rfl, p, _, 1, _, rfl, rfl, ep7, atI_nat (j := 1) rfl, _, rfl, _, rfl, li, _, rfl, .inl ⟨sqL_of ei, fun t nt => ?_⟩⟩
    have s8 : Same H7 (upd H7 t (.tup us)) := (Same.refl H7).put nt
    have e8 : (upd H7 t (.tup us)) t = some (.tup us) := upd_same
    generalize upd H7 t (.tup us) = H8 at s8 e8 ⊢
    refine ⟨(by show 5 ≤ sizeLine; decide), fun t2 nt2 => ?_⟩
    have s9 : Same H8 (upd H8 t2 (.tup [.str x, .ref pw, .ref pb, .str rl, .ref t])) := (Same.refl H8).put nt2
    have e9 : (upd H8 t2 (.tup [.str x, .ref pw, .ref pb, .str rl, .ref t])) t2 = some (.tup [.str x, .ref pw, .ref pb, .str rl, .ref t]) := upd_same
    have s79 := s8.trans s9
    have kp9 : Keeps NoL H2 _ := kp.trans s79.keeps
    have h8 := sd.le
    refine q _ (.ref t2) ⟨x, hs, gs, rl, g⟩ ns' (kc.same s79) ⟨t2, pw, pb, t, us, rfl, sqT_of e9, kp9.tup (sqT_of epw), kp9.tup (sqT_of epb), sqT_of (s9 _ _ e8), hg.keeps (N := NoL) s79.keeps⟩ ⟨⟨hxn, three_name _ hrl, sd.r1.none (by show 0 + hs.length ≤ 8; omega) (fun _ _ h => nomatch h), sd.r2.none (by show hs.length + gs.length ≤ 8; omega) sd.dj⟩, sd.s1, sd.s2, hrl⟩ hev ?_ (s79 _ _ en) hdp
    show x :: (g.names ++ ns') = x :: ns
    rw [hnn]
theorem Kc.kp {H H' : Hp} {a l c : Addr} (k : Kc a l c H H') (n : H c = none) : Kp a l H H' := ⟨k.old, k.new, fun b o m1 m2 e => k.keep b o m1 m2 (ne_of_none e n) e⟩
/-- the names that rules are drawn from -/
def names12 : List Str := ["hue", "ox", "ab", "ivy", "tar", "bay", "elm", "sun", "cat", "zed", "kin", "rye"]
theorem names12_name : ∀ x ∈ names12, isName x = true := by decide +kernel
theorem names12_nodup : names12.Nodup := by decide +kernel
/-- a drawn book -/
structure Drawn2 (K : PySem.W.Frag) (H : Hp) (p fp : Addr) (fs : List Str) (f : RF) (rl : Str) : Prop where
  at_ : ∃ (pr : Addr) (ws : List V), H p = some (.tup [.ref fp, .ref pr, .str rl]) ∧ SqT K H pr ws ∧ RowsAt K H f ws
  ev : f.every (N2 fs)
  nm : ∃ k ns, f.names ++ ns = names12.drop k
  dp : f.dep ≤ 3
  rl : rl ∈ three
def sp_drawn (K : PySem.W.Frag) : Sp := fun vs H Q _ => ∃ (a l fp : Addr) (fs : List Str) (m : Nat), vs = [.ref a, .ref fp, .int (m : Nat)] ∧ RS H a l ∧ SqT K H fp (fs.map V.str) ∧ Right fs ∧ fs.length ≤ 60 ∧ m ≤ 20 ∧
  ∀ H' p f rl, Kp a l H H' → Drawn2 K H' p fp fs f rl → f.nodes.length ≤ m → Q (.ref p) H'
theorem ok_drawn {f : Addr} {fd : FuncData} (F : Fun K "_law_drawn" "_law_drawn" s__law_drawn f fd) (B : Blt mg) (c__law_next : Cal P w K mg base CX0 1 "_law_next" ["_law_h", "_law_limit"] sp_next)
    (c__law_rule : Cal P w K mg base CX0 5 "_law_rule" ["_law_h", "_law_facts_here", "_law_names", "_law_deep"] (sp_rule2 K 2)) : FnOk P w K mg base CX0 6 f fd ["_law_h", "_law_facts_here", "_law_most"] (sp_drawn K) := by
  refine F.ok sc__law_drawn (fun vs H Q E h => by obtain ⟨a, l, fp, fs, m, rfl, _⟩ := h; rfl) (fun cdv A outer s H vs Q E hr h => ?_)
  obtain ⟨a, l, fp, fs, m, rfl, R, hS, hfs, hfl, hm, q⟩ := h
  refine ⟨_, (pss_cons (ps_par (i := 3) (j := 4) rfl sc__law_drawn.nd rfl rfl (by decide) rfl rfl (pa_cons (pe_lst (pa_cons pe_str (pa_cons pe_str (pa_cons pe_str (pa_cons pe_str (pa_cons pe_str (pa_cons pe_str (pa_cons pe_str (pa_cons pe_str (pa_cons pe_str (pa_cons pe_str (pa_cons pe_str (pa_cons pe_str pa_nil))))))))))))) (pa_cons (pe_lst pa_nil) pa_nil)) rfl)
      (pss_cons (ps_set (i := 3) sc__law_drawn.nd rfl (Or.inl rfl) (pe_slice sl_list (pv 3) (po_some (pe_cal c__law_next (hr.mono (by decide)) (pa_cons (pv 0) (pa_cons pe_int pa_nil)))) po_none))
      (pss_cons (ps_for PassesOwn.never rfl (pi_range1 (by rfl) B.b_range (pa_cons (pe_cal c__law_next (hr.mono (by decide)) (pa_cons (pv 0) (pa_cons (pe_op op_add (pv 2) pe_int) pa_nil))) pa_nil)) (pg_name (i := 5) sc__law_drawn.nd rfl (Or.inl rfl)) (pss_one (ps_if (pt_cmpR (op_neD hr.units) (pv 3) (pe_lst pa_nil) (nomark _)) (pss_one (ps_expr (pe_bm PySem.F.plainAttrs_list PySem.F.slot_list_append PySem.F.type_list_append mt_append (pv 4) (pa_cons (pe_cal c__law_rule (hr.mono (by decide)) (pa_cons (pv 0) (pa_cons (pv 1) (pa_cons (pv 3) (pa_cons pe_int pa_nil))))) pa_nil)))) pss_nil)))
      (pss_one (ps_ret (pe_tup (pa_cons (pv 1) (pa_cons (pe_callTy call_tuple_of (by rfl) B.b_tuple PyProof.Rows.boot_tuple (pa_cons (pv 4) pa_nil)) (pa_cons (pe_ix ix_list (pe_lst (pa_cons pe_str (pa_cons pe_str (pa_cons pe_str pa_nil)))) (pe_cal c__law_next (hr.mono (by decide)) (pa_cons (pv 0) (pa_cons pe_int pa_nil))) (fun _ _ => rfl)) pa_nil))))))))), ?_⟩
  refine ⟨(by show 12 ≤ sizeLine; decide), fun l0 n0 => ⟨Nat.zero_le _, fun li ni => ⟨_, _, rfl, ?_⟩⟩⟩
  have s1 : Same H (upd H l0 (.lst (names12.map V.str))) := (Same.refl H).put n0
  have s2 : Same H (upd (upd H l0 (.lst (names12.map V.str))) li (.lst [])) := s1.put' ni
  have i0 : l0 ≠ li := ne_of_none upd_same ni
  have e0 : (upd (upd H l0 (.lst (names12.map V.str))) li (.lst [])) l0 = some (.lst (names12.map V.str)) := by rw [upd_ne i0]; exact upd_same
  have ei : (upd (upd H l0 (.lst (names12.map V.str))) li (.lst [])) li = some (.lst []) := upd_same
  have fi : H li = none := s1.free ni
  obtain ⟨ia, il⟩ := R.no fi
  obtain ⟨za, zl⟩ := R.no n0
  have R2 := R.same s2
  refine ⟨_, rfl, _, rfl, a, l, 4, rfl, R2, by decide, small_lim (by decide) (by decide), fun H3 r k3 r0 r1 => ?_⟩
  obtain ⟨k, rfl⟩ := Int.eq_ofNat_of_zero_le r0
  have e03 : H3 l0 = some (.lst (names12.map V.str)) := k3.keep _ _ za zl e0
  have ei3 : H3 li = some (.lst []) := k3.keep _ _ ia il ei
  have k03 : Kp a l H H3 := (Kp.of R s2).trans k3
  refine ⟨_, rfl, ?_⟩
  dsimp only [tNoPart]
  refine ⟨l0, _, rfl, sqL_of e03, fun nl nnl => ?_⟩
  rw [cut_from, ← List.map_drop]
  have s4 : Same H3 (upd H3 nl (.lst ((names12.drop k).map V.str))) := (Same.refl H3).put nnl
  have en4 : (upd H3 nl (.lst ((names12.drop k).map V.str))) nl = some (.lst ((names12.drop k).map V.str)) := upd_same
  have ei4 := s4 _ _ ei3
  have fn : H nl = none := k03.free nnl
  have inl : li ≠ nl := fun z => by rw [z, nnl] at ei3; cases ei3
  have k04 := k03.same s4
  generalize upd H3 nl (.lst ((names12.drop k).map V.str)) = H4 at s4 en4 ei4 k04 ⊢
  obtain ⟨na, nl'⟩ := R.no fn
  refine ⟨_, rfl, _, rfl, m, 1, rfl, rfl, a, l, _, rfl, k04.new, by omega, small_lim (by omega) (by omega), fun H5 r5 k5 r50 r51 => ?_⟩
  obtain ⟨n5, rfl⟩ := Int.eq_ofNat_of_zero_le r50
  have hdl : (names12.drop k).length ≤ 12 := by rw [List.length_drop]; exact Nat.sub_le _ _
  have hdn : ∀ y ∈ names12.drop k, isName y = true := fun y hy => names12_name y (List.mem_of_mem_drop hy)
  refine ⟨_, rfl, by omega, by omega, for_it walk_range (fun i σ H' => ∃ (g : RF) (us : List V) (ns' : List Str) (y5 : Option V), σ = [some (.ref a), some (.ref fp), some (.int (m : Nat)), some (.ref nl), some (.ref li), y5] ∧ Kc a l nl H H' ∧ H' li = some (.lst us) ∧ RowsAt K H' g us ∧ g.every (N2 fs) ∧
      g.names ++ ns' = names12.drop k ∧ H' nl = some (.lst (ns'.map V.str)) ∧ g.dep ≤ 3 ∧ g.nodes.length ≤ i)
    ⟨.nil, [], _, none, rfl, Kp.kc (k04.trans k5), k5.keep _ _ ia il ei4, rfl, trivial, rfl, k5.keep _ _ na nl' en4, Nat.zero_le _, Nat.le_refl _⟩ (fun _ _ _ _ _ => trivial) ?_ ?_⟩
  · rintro i y σ H8 H7 hi ⟨g, us, ns', y5, rfl, kc, ei, hg, hev, hnn, en, hdp, hgl⟩ ⟨rfl, hy⟩
    have hsub : ∀ y ∈ ns', isName y = true := fun y hy => hdn y (by rw [← hnn]; exact List.mem_append_right _ hy)
    have hln : g.names.length + ns'.length = (names12.drop k).length := by rw [← List.length_append, hnn]
    refine ⟨_, rfl, Nat.zero_le _, fun te nte => ⟨.list (ns'.map PyData.str), .list [], .lst (sqL_of (by rw [upd_ne (ne_of_none en nte)]; exact en)) (dps K _ _), .lst sqL_new .nil, shL (fun z hz => name_fine (hsub z hz)), rfl, _, rfl, ?_⟩⟩
    have ed : (PyData.list (ns'.map PyData.str)).eqv (.list []) = decide (ns' = []) := eqvA_nil _
    rw [ed]
    have s9 : Same H7 (upd H7 te (.lst [])) := (Same.refl H7).put nte
    have en9 := s9 _ _ en
    have ei9 := s9 _ _ ei
    have kc9 := kc.same s9
    have hg9 := hg.keeps (N := NoL) s9.keeps
    generalize upd H7 te (.lst []) = H9 at s9 en9 ei9 kc9 hg9 ⊢
    refine bcase (fun c1 => ?_) (fun c1 => ?_)
    · have c1 : ns' ≠ [] := of_decide_eq_false ((Bool.not_eq_true' _).mp c1)
      obtain ⟨x', r', rfl⟩ := List.exists_cons_of_ne_nil c1
      refine ⟨_, rfl, .inl ⟨rfl, _, sqL_of ei9⟩, _, rfl, _, rfl, _, rfl, ?_⟩
      rw [List.length_cons] at hln
      refine ⟨a, l, fp, nl, fs, x', r', 2, rfl, kc9.new, ((kc9.kp fn).tup hS), hfs, hfl, en9, na, nl', hsub, by omega, by decide, fun H10 v n ns2 k10 hrow hN hNe hnn2 en10 hdn2 => ?_⟩
      have ei10 := k10.keep _ _ ia il inl ei9
      have kk10 : Keeps NoL H9 H10 := k10.keeps en9
      refine ⟨li, _, _, rfl, rfl, ei10, ?_, ?_⟩
      · have := hg.len
        have h2 := RF.nodes_le g
        have h3 : g.names.length = g.size := by unfold RF.names; rw [List.length_map, RF.pre_len]
        exact small1000 (by omega)
      have kw : Keeps NoL H10 (upd H10 li (.lst (us ++ [v]))) := keeps_own ei10 id
      refine ⟨g.snoc n, us ++ [v], ns2, _, rfl, (kc9.trans k10).put0 fi, upd_same, rows_snoc ((hg9.keeps kk10).keeps kw) (hrow.keeps kw), RF.snoc_every hev hN hNe, ?_, by rw [upd_ne inl.symm]; exact en10, ?_, by rw [RF.snoc_nodes, List.length_append, List.length_singleton]; omega⟩
      · rw [RF.snoc_names, ← hnn, ← hnn2, List.append_assoc]
        rfl
      · rw [RF.snoc_dep]
        omega
    · exact ⟨g, us, ns', _, rfl, kc9, ei9, hg9, hev, hnn, en9, hdp, Nat.le_succ_of_le hgl⟩
  · rintro σ H7 ⟨g, us, ns', y5, rfl, kc, ei, hg, hev, hnn, en, hdp, hgl⟩
    have hgl : g.nodes.length ≤ n5 := hgl
    refine ⟨_, rfl, _, rfl, li, _, rfl, .inl ⟨sqL_of ei, fun t nt => ?_⟩⟩
    have s8 : Same H7 (upd H7 t (.tup us)) := (Same.refl H7).put nt
    have e8 : (upd H7 t (.tup us)) t = some (.tup us) := upd_same
    have kc8 := kc.same s8
    have hg8 := hg.keeps (N := NoL) s8.keeps
    have en8 := s8 _ _ en
    generalize upd H7 t (.tup us) = H8 at s8 e8 kc8 hg8 en8 ⊢
    refine ⟨(by show 3 ≤ sizeLine; decide), fun lp nlp => ?_⟩
    have s9 : Same H8 (upd H8 lp (.lst (three.map V.str))) := (Same.refl H8).put nlp
    have elp : (upd H8 lp (.lst (three.map V.str))) lp = some (.lst (three.map V.str)) := upd_same
    obtain ⟨la, ll⟩ := kc8.new.no nlp
    have kc9 := kc8.same s9
    refine ⟨_, rfl, a, l, 3, rfl, kc9.new, by decide, small_lim (by decide) (by decide), fun H10 r10 k10 r100 r101 => ?_⟩
    obtain ⟨j, rfl⟩ := Int.eq_ofNat_of_zero_le r100
    have hj : j < three.length := by show j < 3; omega
    have elp10 := k10.keep _ _ la ll elp
    refine ⟨lp, _, _, .str three[j], rfl, rfl, sqL_of elp10, atI_nat (j := j) (by rw [List.getElem?_map, List.getElem?_eq_getElem hj]; rfl), ?_⟩
    have hrl : three[j] ∈ three := List.getElem_mem hj
    generalize three[j] = rl at hrl ⊢
    refine ⟨(by show 3 ≤ sizeLine; decide), fun t2 nt2 => ?_⟩
    have kk : Keeps NoL H8 H10 := s9.keeps.trans k10.keepsN
    have s11 : Same H10 (upd H10 t2 (.tup [.ref fp, .ref t, .str rl])) := (Same.refl H10).put nt2
    refine q _ t2 g rl ((((kc9.trans (Kp.kc k10)).kp fn)).same s11) ⟨⟨t, us, upd_same, s11.tup (kk.tup (sqT_of e8)), (hg8.keeps kk).keeps (N := NoL) s11.keeps⟩, hev, ⟨k, ns', hnn⟩, hdp, hrl⟩ (by omega)
end
end Sc
namespace SetS
open PySem PySem.Spec PyProof.Rows L2
/-! ### sets of texts -/
def txt (e : Int × Value) : Str := match e.2 with | .str x _ => x | _ => ⟨#[]⟩
/-- an entry of a set of texts -/
def Ent (P : Program) (w : World) (e : Int × Value) : Prop := ∃ x t, e.2 = Value.str x t ∧ e.1 = (strKind P w).hash x
/-- the set at a has the texts zs, in some order -/
def TxtSet (P : Program) (w : World) (h : Heap) (a : Addr) (zs : List Str) : Prop :=
  ∃ o es ep t, (h.get? a = some o ∧ o.ExactSet ∧ o.data = .set es ep t) ∧ ((∀ e ∈ es.toList, Ent P w e) ∧ es.toList.map txt = zs ∧ zs.Nodup) ∧
    (es.size < scanBound ∧ t.fits es.size = true ∧ Ris t.place.toList ∧ (w.params.followText "set-order" = true ∨ t.led = true))
section
variable {P : Program} {w : World} {A : Around} {E : Value → Shared → Prop} {s : Shared} {h h' : Heap} {a : Addr} {zs : List Str}
theorem TxtSet.kept (R : TxtSet P w h a zs) (k : ∀ o, h.get? a = some o → h'.get? a = some o) : TxtSet P w h' a zs := by
  obtain ⟨o, es, ep, t, ⟨ho, q⟩, r⟩ := R
  exact ⟨o, es, ep, t, ⟨k o ho, q⟩, r⟩
theorem ent_is {e : Int × Value} (g : Ent P w e) (x : Str) : (strKind P w).is x e.2 = true ↔ txt e = x := by
  obtain ⟨y, t, e1, _⟩ := g
  unfold txt
  rw [e1]
  constructor
  · intro q
    obtain ⟨u, q⟩ := Value.isStrOf_shape (show Value.isStrOf x (Value.str y t) = true from q)
    cases q
    rfl
  · rintro rfl
    exact strKind_is P w y t
theorem ent_elems {l : List (Int × Value)} (g : ∀ e ∈ l, Ent P w e) : ElemsOf (strKind P w) l := fun e he => by
  obtain ⟨x, t, h1, h2⟩ := g e he
  refine ⟨⟨x, ?_, h2⟩, ?_⟩
  · rw [h1]; exact strKind_is P w x t
  · rw [h1]; rfl
theorem mem_txt {l : List (Int × Value)} (g : ∀ e ∈ l, Ent P w e) (x : Str) : x ∈ l.map txt ↔ ∃ e ∈ l, (strKind P w).is x e.2 = true := by
  rw [List.mem_map]
  exact ⟨fun ⟨e, he, q⟩ => ⟨e, he, (ent_is (g e he) x).mpr q⟩, fun ⟨e, he, q⟩ => ⟨e, he, (ent_is (g e he) x).mp q⟩⟩
/-- the rows are laid, and all anew where the table is too full -/
theorem lay {gv : Bool → Sem Unit} (hg : ∀ (b : Bool) (s₁ : Shared) (Q' : Unit → Shared → Prop), Q' () s₁ → wpAny (model P w) A (gv b) Q' E s₁)
    {o : Obj} {es : Array (Int × Value)} {ep : Nat} {t : SetTable} (ho : s.heap.get? a = some o) (hex : o.ExactSet) (hd : o.data = .set es ep t)
    {es1 : Array (Int × Value)} {t2 : SetTable} (g1 : ∀ e ∈ es1.toList, Ent P w e) (nd1 : (es1.toList.map txt).Nodup) (hb1 : es1.size < scanBound) (hf2 : t2.fits es1.size = true) (hr : Ris t2.place.toList)
    (hl : w.params.followText "set-order" = true ∨ t2.led = true) {wd : Bool} {R : Option Bool → Shared → Prop}
    (hR : ∀ h' zs', Heap.SameBut a s.heap h' → TxtSet P w h' a zs' → zs'.Perm (es1.toList.map txt) → R (some true) { s with heap := h' }) :
    wpAny (model P w) A (do
        storeSet a es1 t2
        if (!wd && t2.tooFull) = true then do
            gv (relayAll t2 es1 (SetTable.grown es1.size)).2.2
            storeSet a (relayAll t2 es1 (SetTable.grown es1.size)).1 (relayAll t2 es1 (SetTable.grown es1.size)).2.1
            pure (some true)
          else pure (some true)) R E s := by
  have o1 := store_at (es' := es1) (t' := t2) ho hd
  have b1 := Heap.SameBut.update s.heap a (Obj.putSet es1 t2)
  refine wpAny_bind (wpAny_storeSet_of ho hd ?_ (fits_of_scanBound hb1))
  split
  · have p3 := relayAll_perm t2 es1 (SetTable.grown es1.size)
    have f3 := relayAll_fits t2 es1 (SetTable.grown es1.size)
    have r3 := relayAll_ris t2 es1 (SetTable.grown es1.size)
    have l3 := relayAll_led t2 es1 (SetTable.grown es1.size)
    rcases hz : relayAll t2 es1 (SetTable.grown es1.size) with ⟨es2, t3, gave⟩
    rw [hz] at p3 f3 r3 l3
    dsimp only at p3 f3 r3 l3 ⊢
    have z3 : es2.size < scanBound := by rw [← Array.length_toList, p3.length_eq, Array.length_toList]; exact hb1
    refine wpAny_bind (hg _ _ _ (wpAny_bind (wpAny_storeSet_of o1 rfl ?_ (fits_of_scanBound z3))))
    refine wpAny_pure (hR _ _ (b1.trans (Heap.SameBut.update _ a _)) ⟨_, es2, _, t3, ⟨store_at (es' := es2) (t' := t3) o1 rfl, hex, rfl⟩, ⟨fun e he => g1 e (p3.mem_iff.mp he), rfl, (p3.map txt).nodup_iff.mpr nd1⟩, z3, f3, r3, hl.imp id fun z => by rw [l3]; exact z⟩ (p3.map txt))
  · exact wpAny_pure (hR _ _ b1 ⟨_, es1, _, t2, ⟨o1, hex, rfl⟩, ⟨g1, rfl, nd1⟩, hb1, hf2, hr, hl⟩ (List.Perm.refl _))
/-- a text is put in -/
theorem add {x : Str} {tk : Tok} {Q : Bool → Shared → Prop} (R : TxtSet P w s.heap a zs) (room : zs.length + 1 < scanBound)
    (hQ : ∀ b h' zs', Heap.SameBut a s.heap h' → TxtSet P w h' a zs' → (∀ y, y ∈ zs' ↔ y ∈ zs ∨ y = x) → zs'.length ≤ zs.length + 1 → Q b { s with heap := h' }) :
    wpAny (model P w) A (setAddHashed a (.str x tk) ((strKind P w).hash x)) Q E s := by
  obtain ⟨o, es, ep, t, ⟨ho, hex, hd⟩, ⟨g, rfl, nd⟩, hb, hf, hr, hl⟩ := R
  have hk : (strKind P w).is x (.str x tk) = true := strKind_is P w x tk
  have hc : (Value.str x tk).scannable = true := rfl
  have el : ElemsOf (strKind P w) es.toList := ent_elems g
  unfold setAddHashed setAddHashedIn
  refine wpAny_holding (wpAny_bind (wpAny_setState_of ho hd hf ?_))
  dsimp only
  rw [byScan_of hc hb el]
  simp only [↓reduceIte]
  unfold setAddByScan
  refine wpAny_bind (wpAny_bind (wpAny_rule (wpAny_bind (wpAny_setScan_of hk ho hd hf el ?_))))
  cases hfi : List.findIdx? (fun e => (strKind P w).is x e.2) es.toList with
  | some j =>
    obtain ⟨hj, pj, _⟩ := List.findIdx?_eq_some_iff_getElem.mp hfi
    have hx : x ∈ es.toList.map txt := (mem_txt g x).mpr ⟨_, List.getElem_mem hj, pj⟩
    dsimp only
    exact wpAny_pure (wpAny_pure (hQ _ s.heap _ (Heap.SameBut.refl a s.heap) ⟨o, es, ep, t, ⟨ho, hex, hd⟩, ⟨g, rfl, nd⟩, hb, hf, hr, hl⟩ (fun y => ⟨.inl, fun z => z.elim id fun e => e ▸ hx⟩) (Nat.le_succ _)))
  | none =>
    have nx : x ∉ es.toList.map txt := fun z => by
      obtain ⟨e, he, q⟩ := (mem_txt g x).mp z
      have c := List.findIdx?_eq_none_iff.mp hfi e he
      rw [q] at c
      cases c
    have gw : ∀ (b : Bool) {s₁ : Shared} {Q' : Unit → Shared → Prop}, Q' () s₁ → wpAny (model P w) A (match b with | true => rule "set.scan.the-table-gave-way" | false => pure ()) Q' E s₁ := by
      intro b s₁ Q' q
      cases b
      · exact wpAny_pure q
      · exact wpAny_rule q
    have p1 := layNew_perm t es ((strKind P w).hash x) (.str x tk)
    have f1 := layNew_fits t es ((strKind P w).hash x) (.str x tk)
    have r1 := layNew_ris t es ((strKind P w).hash x) (.str x tk) hr
    have l1 := layNew_led t es ((strKind P w).hash x) (.str x tk)
    dsimp only
    rcases hz : layNew t es ((strKind P w).hash x) (.str x tk) with ⟨es1, t1, wd, gave⟩
    rw [hz] at p1 f1 r1 l1
    dsimp only at p1 f1 r1 l1 ⊢
    rw [Array.toList_push] at p1
    have p2 : es1.toList.Perm (((strKind P w).hash x, Value.str x tk) :: es.toList) := p1.trans (List.perm_append_singleton _ _)
    have p3 : (es1.toList.map txt).Perm (x :: es.toList.map txt) := p2.map txt
    have g1 : ∀ e ∈ es1.toList, Ent P w e := fun e he => by
      rcases List.mem_cons.mp (p2.mem_iff.mp he) with z | z
      · rw [z]; exact ⟨x, tk, rfl, rfl⟩
      · exact g e z
    have nd1 : (es1.toList.map txt).Nodup := p3.nodup_iff.mpr (List.nodup_cons.mpr ⟨nx, nd⟩)
    have hb1 : es1.size < scanBound := by
      have e1 := p2.length_eq
      rw [Array.length_toList, List.length_cons] at e1
      rw [List.length_map] at room
      omega
    have hl1 : w.params.followText "set-order" = true ∨ t1.led = true := hl.imp id fun z => by rw [l1]; exact z
    have fin : ∀ b h' zs', Heap.SameBut a s.heap h' → TxtSet P w h' a zs' → zs'.Perm (es1.toList.map txt) → Q b { s with heap := h' } := fun b h' zs' sb r p => by
      have p := p.trans p3
      refine hQ b h' zs' sb r (fun y => ?_) (Nat.le_of_eq p.length_eq)
      rw [p.mem_iff, List.mem_cons]
      exact Or.comm
    refine wpAny_bind (gw _ ?_)
    split
    · refine wpAny_bind ?_
      rw [hashByValue_scannable 8 hc]
      refine wpAny_pure (lay ?_ ho hex hd g1 nd1 hb1 ?_ ?_ ?_ ?_)
      · intro b s₁ Q' q
        cases b
        · exact wpAny_pure q
        · exact wpAny_rule q
      · first | (split <;> first | exact f1 | exact SetTable.fits_plain_off f1) | exact f1
      · first | (split <;> exact r1) | exact r1
      · first | (split <;> exact hl1) | exact hl1
      · exact fun h' zs' sb r p => wpAny_pure (fin _ h' zs' sb r p)
    · refine wpAny_bind (wpAny_pure ?_)
      simp only [↓reduceIte]
      refine lay ?_ ho hex hd g1 nd1 hb1 f1 r1 hl1 ?_
      · intro b s₁ Q' q
        cases b
        · exact wpAny_pure q
        · exact wpAny_rule q
      · exact fun h' zs' sb r p => wpAny_pure (fin _ h' zs' sb r p)

theorem fresh {h : Heap} (ho : h.get? a = some { cls := .type "set", dict := none, data := .set #[] 0 (.fresh 0 0 (!w.params.followText "set-order")) }) : TxtSet P w h a [] := by
  refine ⟨_, #[], 0, _, ⟨ho, ⟨rfl, rfl, rfl⟩, rfl⟩, ⟨(fun e he => by simp at he), rfl, List.nodup_nil⟩, by decide, rfl, List.Pairwise.nil, ?_⟩
  show _ ∨ (!w.params.followText "set-order") = true
  cases w.params.followText "set-order"
  · exact .inr rfl
  · exact .inl rfl
/-- what has been met of the texts is in the set -/
def Met (ss : List Str) (i : Nat) (zs : List Str) : Prop := (∀ y, y ∈ zs ↔ y ∈ ss.take i) ∧ zs.length ≤ i
theorem update {I : Addr} {fp wr : List Addr} {G : Array GenState → Array GenState → Prop} {n : Nat} {Pv : Nat → Value → Prop} {St : Nat → Shared → Prop} {R : Result → Shared → Prop}
    (W : WalksS P w A.in1 I fp wr G n Pv St) (S : Addr) (hS : S ∉ fp) (ss : List Str) (hn : n = ss.length) (hb : ss.length + 1 < scanBound) (hv : ∀ i v, Pv i v → ∃ x t, ss[i]? = some x ∧ v = .str x t)
    (fin : ∀ (s0 s' : Shared) zs, Moved (S :: wr) G s0 s' → TxtSet P w s'.heap S zs → Met ss n zs → s0 = s → R (.ok (.ret .none)) s') :
    ∀ (k i : Nat) (s1 : Shared), n - i = k → i ≤ n → St i s1 → (∃ zs, TxtSet P w s1.heap S zs ∧ Met ss i zs) → (∀ s', Moved (S :: wr) G s1 s' → Moved (S :: wr) G s s') →
      codeAny (model P w) A (.builtin "set.update.loop" ⟨[.ref S, .ref I], []⟩) R s1 := by
  have out : S ∉ wr := fun z => hS (W.sub _ z)
  have more : ∀ b ∈ wr, b ∈ S :: wr := fun b z => List.mem_cons_of_mem _ z
  intro k
  induction k with
  | zero =>
    intro i s1 hk hi hst ⟨zs, hz, m⟩ gone
    obtain rfl : i = n := by omega
    refine codeAny_builtin F.entry_set_update_loop ?_
    rw [Around.under_plainId F.plain_set_update_loop _]
    show wpAny _ A.in1 (pyNext (.ref I) >>= _) _ _ s1
    refine wpAny_bind (W.done s1 _ _ hst fun s2 mv => ?_)
    show wpAny _ A.in1 (ret Value.none) _ _ s2
    exact wpAny_pure (fin s s2 zs (gone s2 (mv.mono more)) (hz.kept fun o e => mv.heap S o out e) m rfl)
  | succ k ih =>
    intro i s1 hk hi hst ⟨zs, hz, m⟩ gone
    have lt : i < n := by omega
    refine codeAny_builtin F.entry_set_update_loop ?_
    rw [Around.under_plainId F.plain_set_update_loop _]
    show wpAny _ A.in1 (pyNext (.ref I) >>= _) _ _ s1
    refine wpAny_bind (W.item i s1 _ _ lt hst fun v s2 hp hst2 mv => ?_)
    obtain ⟨x, t, hx, rfl⟩ := hv i v hp
    have hz2 := hz.kept (h' := s2.heap) fun o e => mv.heap S o out e
    show wpAny _ A.in1 (holding [Value.str x t] (setAdd S (.str x t)) >>= _) _ _ s2
    refine wpAny_bind (wpAny_holding ?_)
    unfold setAdd
    refine wpAny_holding (wpAny_bind ((strKind P w).pyHash (k := x) (strKind_is P w x t) ?_))
    have ml := m.2
    refine add (s := { s2 with toks := s2.toks + 1 }) hz2 (by omega) fun b h3 zs3 sb hz3 mem len => ?_
    have m3 : Met ss (i + 1) zs3 := by
      refine ⟨fun y => ?_, by omega⟩
      rw [mem, m.1, List.take_add_one, hx, List.mem_append]
      simp
    have mv3 : Moved (S :: wr) G s1 { s2 with heap := h3, toks := s2.toks + 1 } := (mv.mono more).then_heap (Nat.le_succ _) fun b o hb e => by
      rw [sb.2 b fun z => hb (by rw [z]; exact List.mem_cons_self)]
      exact e
    refine wpAny_pure ⟨plainId_quiet F.plain_set_update_loop _, ih (i + 1) _ (by omega) lt (W.frame _ s2 _ _ hst2 (Nat.le_succ _) fun b hb o e => ?_) ⟨zs3, hz3, m3⟩ fun s' h => gone s' (Moved.trans W.gtrans mv3 h)⟩
    rw [sb.2 b fun z => hS (by rw [← z]; exact hb)]
    exact e

/-- an empty set's object -/
abbrev emp (w : World) : Obj := { cls := .type "set", dict := none, data := .set #[] 0 (.fresh 0 0 (!w.params.followText "set-order")) }
set_option maxRecDepth 100000 in
set_option maxHeartbeats 3200000 in
/-- set(x): the set is made, and filled by its __init__ -/
theorem made {x : Value} {Z : Shared → Prop} {Q : Value → Shared → Prop}
    (hi : wpAny (model P w) A.in1.in1 (Builtin.«set.__init__» ⟨[.ref s.heap.objs.size, x], []⟩)
      (fun fin s' => match fin with | .done f => wants (fun r s₂ => r = .none ∧ Z s₂) E (.ok f) s' | .again c' => c'.quiet = true ∧ codeAny (model P w) A.in1 c' (wants (fun r s₂ => r = .none ∧ Z s₂) E) s')
      (fun e s' => wants (fun r s₂ => r = .none ∧ Z s₂) E (.error e) s') { s with heap := s.heap.push (emp w) })
    (hq : ∀ s₂, Z s₂ → Q (.ref s.heap.objs.size) s₂) : wpAny (model P w) A (call (.type "set") [x]) Q E s := by
  have cf := F.called_set
  obtain ⟨c, tl, mro⟩ := cf.mro
  have q1 := cf.made
  have q2 := cf.sub
  have q3 := cf.notType
  have q4 := cf.canCreate
  have q5 := F.typeCall_set_1 x
  have q6 := cf.init.lookup
  have q7 := cf.init.bind (.ref s.heap.objs.size)
  refine wpAny_call (codeAny_of_tree ?_)
  show wpAny _ _ (callAny (.type "set") _) _ _ _
  refine wpAny_pure ⟨Code.quiet_builtin _ (by decide +kernel), codeAny_builtin F.entry_type_call ?_⟩
  rw [Around.under_plain (weight_type_call_type "set" [x] []) rfl]
  repeat (any_goals (first | assumption | wp_step))
  have new := code_set_led1 (P := P) (w := w) (A := A.in1) (s := s) (E := E) x (Q₁ := fun obj s₁ => obj = .ref s.heap.objs.size ∧ s₁ = { s with heap := s.heap.push (emp w) }) ⟨rfl, rfl⟩
  refine codeAny_mono new fun r s₁ hr => ?_
  rcases r with e | fl
  · exact hr
  rcases fl with _ | obj | _ | _
  all_goals first | exact hr.elim | skip
  obtain ⟨rfl, rfl⟩ := hr
  have isS : Shared.TypeIs { s with heap := s.heap.push (emp w) } (.ref s.heap.objs.size) "set" := ⟨_, Heap.get?_push_size _ rfl, rfl⟩
  repeat (any_goals (first | assumption | wp_step))
  refine codeAny_mono (codeAny_call_builtin (R := wants (fun r s₂ => r = .none ∧ Z s₂) E) cf.init.plain F.entry_set_init (check_set_init_1 isS hi)) fun r₂ s₂ hr₂ => ?_
  rcases r₂ with e | fl₂
  · exact hr₂
  rcases fl₂ with _ | r | _ | _
  all_goals first | exact hr₂.elim | skip
  obtain ⟨rfl, z⟩ := hr₂
  repeat (any_goals (first | assumption | wp_step))
  exact hq _ z

theorem strs_at : ∀ {vs : List Value} {ss : List Str}, StrsAre vs ss → ∀ (i : Nat) (v : Value), vs[i]? = some v → ∃ x t, ss[i]? = some x ∧ v = .str x t
  | _, _, .cons y t r, 0, v, e => ⟨y, t, rfl, (Option.some.inj e).symm⟩
  | _, _, .cons y t r, i + 1, v, e => strs_at r i v e

set_option maxRecDepth 100000 in
set_option maxHeartbeats 3200000 in
/-- set(xs), xs a tuple of texts -/
theorem of_tuple {l : Addr} {items : Array Value} {ss : List Str} {Q : Value → Shared → Prop} (hh : A.handled = none) (hl : s.heap.IsTuple l items) (hit : StrsAre items.toList ss) (hb : ss.length + 1 < scanBound)
    (hq : ∀ (h' : Heap) (tk : Nat) zs, TxtSet P w h' s.heap.objs.size zs → Met ss ss.length zs → (∀ b o, s.heap.get? b = some o → h'.get? b = some o) → Q (.ref s.heap.objs.size) { s with heap := h', toks := tk }) :
    wpAny (model P w) A (call (.type "set") [.ref l]) Q E s := by
  have hn : items.size = ss.length := by
    have q := StrsAre.length hit
    rw [Array.length_toList] at q
    exact q
  refine made (Z := fun s₂ => ∃ h' tk zs, s₂ = { s with heap := h', toks := tk } ∧ TxtSet P w h' s.heap.objs.size zs ∧ Met ss ss.length zs ∧ ∀ b o, s.heap.get? b = some o → h'.get? b = some o) ?_ fun s₂ hz => ?_
  · obtain ⟨ol, hol, hc, nl, hd⟩ := hl
    obtain ⟨ocl, odi, oda, osl⟩ := ol
    simp only at hc hd
    subst hc
    subst hd
    have S0 : (s.heap.push (emp w)).get? s.heap.objs.size = some (emp w) := Heap.get?_push_size _ rfl
    have isS : Shared.TypeIs { s with heap := s.heap.push (emp w) } (.ref s.heap.objs.size) "set" := ⟨_, S0, rfl⟩
    have hol' : (s.heap.push (emp w)).get? l = some { cls := .type "tuple", dict := odi, data := .seq items nl, slots := osl } := Heap.get?_push_of_some _ hol
    have n1 := F.sub_tuple_set
    have n2 := F.sub_tuple_frozenset
    have n3 : (Value.type "tuple" == Value.type "dict") = false := by decide
    have hl1 : (s.heap.push (emp w)).IsTuple l items := ⟨_, hol', rfl, nl, rfl⟩
    unfold Builtin.«set.__init__» noKeywords Builtin.Frozenset.updateFrom
    generalize hPI : pyIter = PI
    wp_walk
    subst hPI
    refine wpAny_pyIter_tuple hl1 (wpAny_bind (wpAny_runValue ?_))
    have lt0 : l < s.heap.objs.size := Heap.lt_size hol
    have hh3 : A.in1.in1.in1.handled = none := by simp [hh]
    have nI : l ≠ (s.heap.push (emp w)).objs.size := by
      rw [Heap.size_push]
      exact Nat.ne_of_lt (Nat.lt_succ_of_lt lt0)
    have nS : s.heap.objs.size ∉ [(s.heap.push (emp w)).objs.size, l] := by
      rw [Heap.size_push]
      simp only [List.mem_cons, List.not_mem_nil, or_false, not_or]
      exact ⟨Nat.ne_of_lt (Nat.lt_succ_self _), Nat.ne_of_gt lt0⟩
    have hv : ∀ (i : Nat) (v : Value), items[i]? = some v → ∃ x t, ss[i]? = some x ∧ v = .str x t := fun i v e => by
      rw [← Array.getElem?_toList] at e
      exact strs_at hit i v e
    refine update (s := { s with heap := (s.heap.push (emp w)).push { cls := .type "tuple_iterator", data := .fields #[.ref l, .int 0 0] } }) ((Walks.tuple hh3 _ l nI items).toS) s.heap.objs.size nS ss hn hb hv
      (fun s0 s' zs mv hz m e0 => ?_) (items.size - 0) 0 _ (by omega) (Nat.zero_le _) ⟨⟨_, Heap.get?_push_size _ rfl, rfl, rfl⟩, hl1.push _⟩ ⟨[], fresh (Heap.get?_push_of_some _ S0), fun y => (by simp), Nat.le_refl 0⟩ (fun _ z => z)
    subst e0
    obtain ⟨h', g2, d', tk', os'⟩ := s'
    obtain rfl : g2 = s.gens := mv.gens
    obtain rfl : d' = s.drawn := mv.drawn
    obtain rfl : os' = s.os := mv.os
    show wpAny _ _ _ _ _ _
    refine wpAny_pure ?_
    show wpAny _ _ (ret Value.none) _ _ _
    rw [hn] at m
    refine wpAny_pure ⟨rfl, h', tk', zs, rfl, hz, m, fun b o e => ?_⟩
    have lb : b < s.heap.objs.size := Heap.lt_size e
    refine mv.heap b o ?_ (Heap.get?_push_of_some _ (Heap.get?_push_of_some _ e))
    simp only [List.mem_cons, List.not_mem_nil, or_false, not_or]
    refine ⟨Nat.ne_of_lt lb, ?_⟩
    rw [Heap.size_push]
    exact Nat.ne_of_lt (Nat.lt_succ_of_lt lb)
  · obtain ⟨h', tk, zs, rfl, hz, m, k⟩ := hz
    exact hq h' tk zs hz m k

set_option maxRecDepth 100000 in
set_option maxHeartbeats 3200000 in
/-- set(xs), xs a list of texts -/
theorem of_list {l : Addr} {items : Array Value} {ss : List Str} {Q : Value → Shared → Prop} (hh : A.handled = none) (hl : s.heap.IsList l items) (hit : StrsAre items.toList ss) (hb : ss.length + 1 < scanBound)
    (hq : ∀ (h' : Heap) (tk : Nat) zs, TxtSet P w h' s.heap.objs.size zs → Met ss ss.length zs → (∀ b o, s.heap.get? b = some o → h'.get? b = some o) → Q (.ref s.heap.objs.size) { s with heap := h', toks := tk }) :
    wpAny (model P w) A (call (.type "set") [.ref l]) Q E s := by
  have hn : items.size = ss.length := by
    have q := StrsAre.length hit
    rw [Array.length_toList] at q
    exact q
  refine made (Z := fun s₂ => ∃ h' tk zs, s₂ = { s with heap := h', toks := tk } ∧ TxtSet P w h' s.heap.objs.size zs ∧ Met ss ss.length zs ∧ ∀ b o, s.heap.get? b = some o → h'.get? b = some o) ?_ fun s₂ hz => ?_
  · obtain ⟨ol, hol, hc, nl, hd⟩ := hl
    obtain ⟨ocl, odi, oda, osl⟩ := ol
    simp only at hc hd
    subst hc
    subst hd
    have S0 : (s.heap.push (emp w)).get? s.heap.objs.size = some (emp w) := Heap.get?_push_size _ rfl
    have isS : Shared.TypeIs { s with heap := s.heap.push (emp w) } (.ref s.heap.objs.size) "set" := ⟨_, S0, rfl⟩
    have hol' : (s.heap.push (emp w)).get? l = some { cls := .type "list", dict := odi, data := .seq items nl, slots := osl } := Heap.get?_push_of_some _ hol
    have n1 := F.sub_list_set
    have n2 := F.sub_list_frozenset
    have n3 : (Value.type "list" == Value.type "dict") = false := by decide
    have hl1 : (s.heap.push (emp w)).IsList l items := ⟨_, hol', rfl, nl, rfl⟩
    unfold Builtin.«set.__init__» noKeywords Builtin.Frozenset.updateFrom
    generalize hPI : pyIter = PI
    wp_walk
    subst hPI
    refine wpAny_pyIter_list hl1 (wpAny_bind (wpAny_runValue ?_))
    have lt0 : l < s.heap.objs.size := Heap.lt_size hol
    have hh3 : A.in1.in1.in1.handled = none := by simp [hh]
    have nI : l ≠ (s.heap.push (emp w)).objs.size := by
      rw [Heap.size_push]
      exact Nat.ne_of_lt (Nat.lt_succ_of_lt lt0)
    have nS : s.heap.objs.size ∉ [(s.heap.push (emp w)).objs.size, l] := by
      rw [Heap.size_push]
      simp only [List.mem_cons, List.not_mem_nil, or_false, not_or]
      exact ⟨Nat.ne_of_lt (Nat.lt_succ_self _), Nat.ne_of_gt lt0⟩
    have hv : ∀ (i : Nat) (v : Value), items[i]? = some v → ∃ x t, ss[i]? = some x ∧ v = .str x t := fun i v e => by
      rw [← Array.getElem?_toList] at e
      exact strs_at hit i v e
    refine update (s := { s with heap := (s.heap.push (emp w)).push { cls := .type "list_iterator", data := .fields #[.ref l, .int 0 0] } }) ((Walks.list hh3 _ l nI items).toS) s.heap.objs.size nS ss hn hb hv
      (fun s0 s' zs mv hz m e0 => ?_) (items.size - 0) 0 _ (by omega) (Nat.zero_le _) ⟨⟨_, Heap.get?_push_size _ rfl, rfl, rfl⟩, hl1.push _⟩ ⟨[], fresh (Heap.get?_push_of_some _ S0), fun y => (by simp), Nat.le_refl 0⟩ (fun _ z => z)
    subst e0
    obtain ⟨h', g2, d', tk', os'⟩ := s'
    obtain rfl : g2 = s.gens := mv.gens
    obtain rfl : d' = s.drawn := mv.drawn
    obtain rfl : os' = s.os := mv.os
    show wpAny _ _ _ _ _ _
    refine wpAny_pure ?_
    show wpAny _ _ (ret Value.none) _ _ _
    rw [hn] at m
    refine wpAny_pure ⟨rfl, h', tk', zs, rfl, hz, m, fun b o e => ?_⟩
    have lb : b < s.heap.objs.size := Heap.lt_size e
    refine mv.heap b o ?_ (Heap.get?_push_of_some _ (Heap.get?_push_of_some _ e))
    simp only [List.mem_cons, List.not_mem_nil, or_false, not_or]
    refine ⟨Nat.ne_of_lt lb, ?_⟩
    rw [Heap.size_push]
    exact Nat.ne_of_lt (Nat.lt_succ_of_lt lb)
  · obtain ⟨h', tk, zs, rfl, hz, m, k⟩ := hz
    exact hq h' tk zs hz m k
end
end SetS
namespace Sc
open PySem PySem.Spec PyProof.Rows L2
theorem sc_Words___init__ : FnScope ["self", "row", "text"] ["self", "row", "text"] (defScope s_Words___init__) := ⟨rfl, rfl, rfl, by decide +kernel, rfl, by decide +kernel, by decide +kernel⟩
theorem sc_Words_ahead : FnScope ["self"] ["self"] (defScope s_Words_ahead) := ⟨rfl, rfl, rfl, by decide +kernel, rfl, by decide +kernel, by decide +kernel⟩
theorem sc_Words_check : FnScope ["self", "right"] ["self", "right"] (defScope s_Words_check) := ⟨rfl, rfl, rfl, by decide +kernel, rfl, by decide +kernel, by decide +kernel⟩
theorem sc_Words_take : FnScope ["self", "right"] ["self", "right"] (defScope s_Words_take) := ⟨rfl, rfl, rfl, by decide +kernel, rfl, by decide +kernel, by decide +kernel⟩
theorem sc_Words_check_end : FnScope ["self"] ["self"] (defScope s_Words_check_end) := ⟨rfl, rfl, rfl, by decide +kernel, rfl, by decide +kernel, by decide +kernel⟩
/-! ### own methods -/
structure MethR (P : Program) (w : World) (K : PySem.W.Frag) (mg : Str → Option Value) (base : Heap) (k : Nat) (C : Addr) (m : Str) (ps : List Str) (sp : Sp) : Prop where
  ex : ∃ (g : Addr) (fd : FuncData), Meth K C m g ∧ FnOk P w K mg base CX0 k g fd ps sp ∧ Binds K fd ps []
section
variable {X : Cx} {k : Nat} {C : Addr} {m : Str} {ps : List Str} {sp : Sp} {e o : Expr} {es : List Expr} {ta : TE} {t : TA} {pos apos : Pos}
theorem pe_me {pl : Sem Bool} (T : Cls X.K C) (M : MethR X.prog X.w X.K X.mg X.base k C m ps sp) (hr : Room k X.A) (he : PE X o ta) (ha : PA X (e :: es) t)
    (hst : starEach (e :: es) X.env = (false, eval e X.env) :: starEach es X.env := by rfl) (hpl : (backTo pos (starEach es X.env)).any (·.1) = false := by rfl)
    (ht : eval (.Call (.Attribute o m apos) (e :: es) [] pos) X.env = (do
      let ov ← eval o X.env
      standAt apos.atName
      let (f, first) ← holding [ov] (getMethod ov m pl)
      callWith pos f first (backTo pos (starEach (e :: es) X.env)) (backToKw pos (keywordEach [] X.env))) := by rfl) : PE X (.Call (.Attribute o m apos) (e :: es) [] pos) (tMeth C m sp [] E0 ta t) := by
  obtain ⟨g, fd, h1, F, hb⟩ := M.ex
  exact pe_meth he T h1 F hr hb .nil pass0 ha hst hpl ht
theorem pe_me0 {pl : Sem Bool} (T : Cls X.K C) (M : MethR X.prog X.w X.K X.mg X.base k C m ps sp) (hr : Room k X.A) (he : PE X o ta)
    (ht : eval (.Call (.Attribute o m apos) [] [] pos) X.env = (do
      let ov ← eval o X.env
      standAt apos.atName
      let (f, first) ← holding [ov] (getMethod ov m pl)
      callWith pos f first (backTo pos (starEach [] X.env)) (backToKw pos (keywordEach [] X.env))) := by rfl) : PE X (.Call (.Attribute o m apos) [] [] pos) (tMeth C m sp [] E0 ta tNil) := by
  obtain ⟨g, fd, h1, F, hb⟩ := M.ex
  exact pe_meth0 he T h1 F hr hb .nil pass0 ht
structure MethX (P : Program) (w : World) (K : PySem.W.Frag) (mg : Str → Option Value) (base : Heap) (k : Nat) (C : Addr) (m : Str) (ps : List Str) (sp : Sp) : Prop where
  ex : ∃ (g : Addr) (fd : FuncData), Meth K C m g ∧ FnOk P w K mg base (L2.CX P w) k g fd ps sp ∧ Binds K fd ps []
theorem pe_meX {pl : Sem Bool} {E : XK} (T : Cls X.K C) (M : MethX X.prog X.w X.K X.mg X.base k C m ps sp) (hr : Room k X.A) (tk : Takes X (fun cls d _ H => E cls d H)) (he : PE X o ta) (ha : PA X (e :: es) t)
    (hst : starEach (e :: es) X.env = (false, eval e X.env) :: starEach es X.env := by rfl) (hpl : (backTo pos (starEach es X.env)).any (·.1) = false := by rfl)
    (ht : eval (.Call (.Attribute o m apos) (e :: es) [] pos) X.env = (do
      let ov ← eval o X.env
      standAt apos.atName
      let (f, first) ← holding [ov] (getMethod ov m pl)
      callWith pos f first (backTo pos (starEach (e :: es) X.env)) (backToKw pos (keywordEach [] X.env))) := by rfl) : PE X (.Call (.Attribute o m apos) (e :: es) [] pos) (tMeth C m sp [] E ta t) := by
  obtain ⟨g, fd, h1, F, hb⟩ := M.ex
  exact pe_meth he T h1 F hr hb .nil (passes_call tk fun _ _ _ _ h => h) ha hst hpl ht
theorem pe_meX0 {pl : Sem Bool} {E : XK} (T : Cls X.K C) (M : MethX X.prog X.w X.K X.mg X.base k C m ps sp) (hr : Room k X.A) (tk : Takes X (fun cls d _ H => E cls d H)) (he : PE X o ta)
    (ht : eval (.Call (.Attribute o m apos) [] [] pos) X.env = (do
      let ov ← eval o X.env
      standAt apos.atName
      let (f, first) ← holding [ov] (getMethod ov m pl)
      callWith pos f first (backTo pos (starEach [] X.env)) (backToKw pos (keywordEach [] X.env))) := by rfl) : PE X (.Call (.Attribute o m apos) [] [] pos) (tMeth C m sp [] E ta tNil) := by
  obtain ⟨g, fd, h1, F, hb⟩ := M.ex
  exact pe_meth0 he T h1 F hr hb .nil (passes_call tk fun _ _ _ _ h => h) ht
end
/-! ### the words of a row -/
def wdF (row : Nat) (ll : Addr) (at_ : Nat) : List (Str × V) := putF "at" (.int (at_ : Nat)) (putF "left" (.ref ll) (putF "row" (.int (row : Nat)) []))
def WdR (WD : Addr) (o : Addr) (row : Nat) (H : Hp) (ws : List Str) (at_ : Nat) : Prop := ∃ (dx ll : Addr), H o = some (.ins WD dx (wdF row ll at_)) ∧ H ll = some (.lst (ws.map V.str)) ∧ ws.length ≤ 900 ∧ row ≤ 900
/-- a wrong word: told by its row and its place -/
def errRW (C : Addr) (r w : Nat) (Fr : Hp → Prop) (E : XK) : Prop := ∀ H' d, Fr H' → H' d = none → E (.ref C) (some d) (upd H' d (.xd [(("word" : Str), .int (w : Nat)), (("row" : Str), .int (r : Nat))]))
theorem errRW.mono {C : Addr} {r w : Nat} {Fr Gr : Hp → Prop} {E : XK} (h : errRW C r w Fr E) (g : ∀ H, Gr H → Fr H) : errRW C r w Gr E := fun H' d hg nd => h H' d (g _ hg) nd
section
variable {WD o : Addr} {row : Nat} {H H' H'' : Hp} {ws : List Str} {at_ : Nat}
theorem SameX.tr {x : Addr} (s : SameX x H H') (t : SameX x H' H'') : SameX x H H'' := fun b ob n e => t b ob n (s b ob n e)
theorem _root_.L2.Same.sx {x : Addr} (s : Same H H') : SameX x H H' := fun b ob _ e => s b ob e
theorem WdR.same (s : Same H H') (h : WdR WD o row H ws at_) : WdR WD o row H' ws at_ := by
  obtain ⟨dx, ll, h1, h2, h3⟩ := h
  exact ⟨dx, ll, s _ _ h1, s _ _ h2, h3⟩
theorem WdR.keeps {N : Addr → Prop} (h : WdR WD o row H ws at_) (s : SameX o H H') : Keeps N H H' := fun b ob st e => by
  by_cases z : b = o
  · subst z
    obtain ⟨dx, ll, h1, _⟩ := h
    rw [h1] at e
    cases e
    exact absurd ((show DoneF (wdF row ll at_) = false from rfl).symm.trans (st.2.1 _ _ _ rfl)) (by decide)
  · exact s b ob z e
end
def optV : Option Str → V
  | some x => .str x
  | none => .non
section
variable {P : Program} {w : World} {K : PySem.W.Frag} {mg : Str → Option Value} {base : Heap} {WD CT : Addr}
def sp_ahead (WD : Addr) : Sp := fun vs H Q _ => ∃ (o : Addr) (row : Nat) (ws : List Str) (at_ : Nat), vs = [.ref o] ∧ WdR WD o row H ws at_ ∧ Q (optV ws[at_]?) H
theorem ok_ahead {f : Addr} {fd : FuncData} (F : Fun K "ahead" "Words.ahead" s_Words_ahead f fd) (B : Blt mg) (T : Cls K WD) (n2 : NoAttr K WD "left") (n3 : NoAttr K WD "at") : FnOk P w K mg base CX0 1 f fd ["self"] (sp_ahead WD) := by
  refine F.ok sc_Words_ahead (fun vs H Q E h => by obtain ⟨o, row, ws, at_, rfl, _⟩ := h; rfl) (fun cdv A outer s H vs Q E hr h => ?_)
  obtain ⟨o, row, ws, at_, rfl, ⟨dx, ll, ho, hll, hl, _⟩, q⟩ := h
  refine ⟨_, (pss_one (ps_ret (pe_ifExp (pt_cmpR op_lt (pe_fld (pv 0) rfl) (pe_callB call_len_seq (by rfl) B.b_len PySem.boot_len (pa_cons (pe_fld (pv 0) rfl) pa_nil)) (nomark _)) (pe_ix ix_list (pe_fld (pv 0) rfl) (pe_fld (pv 0) rfl) (fun _ _ => rfl)) pe_non))), ?_⟩
  refine ⟨_, rfl, o, WD, dx, _, _, rfl, ho, T, n3, rfl, _, rfl, o, WD, dx, _, _, rfl, ho, T, n2, rfl, ll, _, rfl, .inl (sqL_of hll), _, _, rfl, rfl, _, rfl, bcase (fun c => ?_) (fun c => ?_)⟩
  · have c : at_ < ws.length := by have := of_decide_eq_true c; rw [List.length_map] at this; omega
    rw [List.getElem?_eq_getElem c] at q
    refine ⟨_, rfl, o, WD, dx, _, _, rfl, ho, T, n2, rfl, _, rfl, o, WD, dx, _, _, rfl, ho, T, n3, rfl, ll, _, _, _, rfl, rfl, sqL_of hll, atI_nat (j := at_) (by rw [List.getElem?_map, List.getElem?_eq_getElem c]; rfl), q⟩
  · have c : ¬ at_ < ws.length := fun z => by have := of_decide_eq_false c; rw [List.length_map] at this; omega
    rw [List.getElem?_eq_none (by omega)] at q
    exact q
def sp_wcheck (WD CT : Addr) : Sp := fun vs H Q E => ∃ (o : Addr) (b : Bool) (row : Nat) (ws : List Str) (at_ : Nat), vs = [.ref o, .bl b] ∧ WdR WD o row H ws at_ ∧ at_ ≤ 900 ∧ (b = true → Q .non H) ∧ (b = false → errRW CT row at_ (Same H) E)
theorem ok_wcheck {f : Addr} {fd : FuncData} (F : Fun K "check" "Words.check" s_Words_check f fd) (B : Blt mg) (T : Cls K WD) (n1 : NoAttr K WD "row") (n3 : NoAttr K WD "at") (e_InvalidText : ErrMk P w K mg base "InvalidText" CT ["self", "row", "word"] (sp_init2 CT "row" "word")) : FnOk P w K mg base (L2.CX P w) 3 f fd ["self", "right"] (sp_wcheck WD CT) := by
  refine F.okX sc_Words_check (fun vs H Q E h => by obtain ⟨o, b, row, ws, at_, rfl, _⟩ := h; rfl) (fun cdv A outer s H vs Q E hr h => ?_)
  obtain ⟨o, b, row, ws, at_, rfl, hW, hat, q, er⟩ := h
  refine ⟨_, (pss_one (ps_if (pt_not (pt_val (pv 1))) (pss_one (ps_raise rfl (takes_of rfl rfl rfl rfl) (pmk_err2 e_InvalidText (hr.mono (by decide)) (pe_fld (pv 0) rfl) (pe_fld (pv 0) rfl)))) pss_nil)), ?_⟩
  obtain ⟨dx, ll, ho, hll, hl, hrow⟩ := id hW
  refine ⟨_, rfl, b, rfl, ?_⟩
  cases b with
  | true => exact iteF (q rfl)
  | false =>
    exact iteT ⟨_, rfl, o, WD, dx, _, _, rfl, ho, T, n1, rfl, _, rfl, o, WD, dx, _, _, rfl, ho, T, n3, rfl, ⟨fok_nat (by omega), fok_nat (by omega)⟩, fun d nd => er rfl H d (Same.refl H) nd⟩
def sp_wtake (WD CT : Addr) : Sp := fun vs H Q E => ∃ (o : Addr) (b : Bool) (row : Nat) (ws : List Str) (at_ : Nat), vs = [.ref o, .bl b] ∧ WdR WD o row H ws at_ ∧ at_ ≤ 900 ∧ (b = true → ∃ x, ws[at_]? = some x ∧ ∀ H', WdR WD o row H' ws (at_ + 1) → SameX o H H' → Q (.str x) H') ∧ (b = false → errRW CT row at_ (Same H) E)
theorem ok_wtake {f : Addr} {fd : FuncData} (F : Fun K "take" "Words.take" s_Words_take f fd) (B : Blt mg) (CLw : Cls K WD) (n2 : NoAttr K WD "left") (n3 : NoAttr K WD "at") (mw_check : MethX P w K mg base 3 WD "check" ["self", "right"] (sp_wcheck WD CT)) : FnOk P w K mg base (L2.CX P w) 4 f fd ["self", "right"] (sp_wtake WD CT) := by
  refine F.okX sc_Words_take (fun vs H Q E h => by obtain ⟨o, b, row, ws, at_, rfl, _⟩ := h; rfl) (fun cdv A outer s H vs Q E hr h => ?_)
  obtain ⟨o, b, row, ws, at_, rfl, hW, hat, q, er⟩ := h
  refine ⟨_, (pss_cons (ps_expr (pe_meX CLw mw_check (hr.mono (by decide)) (takes_of rfl rfl rfl rfl) (pv 0) (pa_cons (pv 1) pa_nil)))
      (pss_cons (ps_fldaug (pv 0) pe_int iop_add)
      (pss_one (ps_ret (pe_ix ix_list (pe_fld (pv 0) rfl) (pe_op op_sub (pe_fld (pv 0) rfl) pe_int) (fun _ _ => rfl)))))), ?_⟩
  obtain ⟨dx, ll, ho, hll, hl, hrow⟩ := id hW
  refine ⟨_, rfl, o, dx, _, rfl, ho, rfl, _, rfl, o, b, row, ws, at_, rfl, hW, hat, fun hb => ?_, er⟩
  obtain ⟨x, hx, q⟩ := q hb
  refine ⟨_, rfl, o, WD, dx, _, _, rfl, ho, CLw, n3, rfl, _, 1, rfl, rfl, dx, _, ho, (by show 3 < 1000; decide), ?_⟩
  have hlo : ll ≠ o := fun z => by rw [z, ho] at hll; cases hll
  have ho2 : (upd H o (.ins WD dx (putF "at" (.int ((at_ : Int) + 1)) (wdF row ll at_)))) o = some (.ins WD dx (wdF row ll (at_ + 1))) := by rw [upd_same]; rfl
  have hll2 : (upd H o (.ins WD dx (putF "at" (.int ((at_ : Int) + 1)) (wdF row ll at_)))) ll = some (.lst (ws.map V.str)) := by rw [upd_ne hlo]; exact hll
  have so : SameX o H (upd H o (.ins WD dx (putF "at" (.int ((at_ : Int) + 1)) (wdF row ll at_)))) := fun b ob n e => by rw [upd_ne n]; exact e
  generalize upd H o (.ins WD dx (putF "at" (.int ((at_ : Int) + 1)) (wdF row ll at_))) = H2 at ho2 hll2 so ⊢
  refine ⟨_, rfl, o, WD, dx, _, _, rfl, ho2, CLw, n2, rfl, _, rfl, o, WD, dx, _, _, rfl, ho2, CLw, n3, rfl, _, 1, rfl, rfl, ll, _, _, _, rfl, rfl, sqL_of hll2, ?_, q H2 ⟨dx, ll, ho2, hll2, hl, hrow⟩ so⟩
  have e : (((at_ + 1 : Nat) : Int) - 1) = ((at_ : Nat) : Int) := by omega
  rw [e]
  exact atI_nat (j := at_) (by rw [List.getElem?_map, hx]; rfl)
def sp_wend (WD CT : Addr) : Sp := fun vs H Q E => ∃ (o : Addr) (row : Nat) (ws : List Str) (at_ : Nat), vs = [.ref o] ∧ WdR WD o row H ws at_ ∧ at_ ≤ 900 ∧ (ws.length ≤ at_ → Q .non H) ∧ (at_ < ws.length → errRW CT row at_ (Same H) E)
theorem ok_wend {f : Addr} {fd : FuncData} (F : Fun K "check_end" "Words.check_end" s_Words_check_end f fd) (B : Blt mg) (CLw : Cls K WD) (mw_ahead : MethR P w K mg base 1 WD "ahead" ["self"] (sp_ahead WD)) (mw_check : MethX P w K mg base 3 WD "check" ["self", "right"] (sp_wcheck WD CT)) : FnOk P w K mg base (L2.CX P w) 4 f fd ["self"] (sp_wend WD CT) := by
  refine F.okX sc_Words_check_end (fun vs H Q E h => by obtain ⟨o, row, ws, at_, rfl, _⟩ := h; rfl) (fun cdv A outer s H vs Q E hr h => ?_)
  obtain ⟨o, row, ws, at_, rfl, hW, hat, q, er⟩ := h
  refine ⟨_, (pss_one (ps_expr (pe_meX CLw mw_check (hr.mono (by decide)) (takes_of rfl rfl rfl rfl) (pv 0) (pa_cons (pe_cmpR op_isN (pe_me0 CLw mw_ahead (hr.mono (by decide)) (pv 0)) pe_non (nomark _)) pa_nil)))), ?_⟩
  obtain ⟨dx, ll, ho, hll, hl, hrow⟩ := id hW
  refine ⟨_, rfl, o, dx, _, rfl, ho, rfl, _, rfl, o, dx, _, rfl, ho, rfl, o, row, ws, at_, rfl, hW, ?_⟩
  cases hx : ws[at_]? with
  | none => exact ⟨rfl, o, true, row, ws, at_, rfl, hW, hat, fun _ => q (List.getElem?_eq_none_iff.mp hx), fun z => nomatch z⟩
  | some x => exact ⟨rfl, o, false, row, ws, at_, rfl, hW, hat, (fun z => nomatch z), fun _ => er (List.getElem?_eq_some_iff.mp hx).1⟩
end
end Sc
namespace Sc
open PySem PySem.Spec PyProof.Rows L2
theorem sc_is_free_name : FnScope ["word"] ["word"] (defScope s_is_free_name) := ⟨rfl, rfl, rfl, by decide +kernel, rfl, by decide +kernel, by decide +kernel⟩
theorem sc_read_ending : FnScope ["words", "ruling"] ["words"] (defScope s_read_ending) := ⟨rfl, rfl, rfl, by decide +kernel, rfl, by decide +kernel, by decide +kernel⟩
theorem sc_read_facts : FnScope ["words", "facts", "fact", "right"] ["words"] (defScope s_read_facts) := ⟨rfl, rfl, rfl, by decide +kernel, rfl, by decide +kernel, by decide +kernel⟩
def reserved : List Str := ["facts", "is", "if", "not", "else"]
/-- a name that is not reserved -/
def freeO : Option Str → Bool
  | some x => isName x && !decide (x ∈ reserved)
  | none => false
/-- the word at k is no right fact behind those ahead of it -/
def factBad (ws : List Str) (k : Nat) : Bool := !(freeO ws[k]? && (risesAt ((ws.drop 1).take k) (k - 1) && decide (k ≤ 60)))
/-- the place of the first wrong word of the row of the facts -/
def rdF (ws : List Str) : Option Nat := if ws[0]? = some (Str.ofString "facts") then ((List.range (max 1 (ws.length - 1))).find? fun i => factBad ws (i + 1)).map (· + 1) else some 0
def tRightF (K : PySem.W.Frag) (WD : Addr) : TE := fun σ H Q => ∃ (D : Addr) (ws : List Str) (k : Nat), σ[1]? = some (some (.ref D)) ∧ σ[2]? = some (some (optV ws[k + 1]?)) ∧ H D = some (.lst (((ws.drop 1).take k).map V.str)) ∧ ws.length ≤ 900 ∧ k + 1 ≤ max 1 (ws.length - 1) ∧ (∀ x ∈ ws, x.length ≤ 10000) ∧ ∀ H', Same H H' → Q (.bl (!factBad ws (k + 1))) H'
theorem SameX.put0 {x D : Addr} {y : HO} {H H' : Hp} (s : SameX x H H') (n : H D = none) : SameX x H (upd H' D y) := fun b ob nb e => by rw [upd_ne (ne_of_none e n)]; exact s b ob nb e
theorem SameX.free0 {x D : Addr} {H H' : Hp} (s : SameX x H H') (n : H' D = none) (nx : D ≠ x) : H D = none := by
  cases h : H D with
  | none => rfl
  | some ob => rw [s D ob nx h] at n; cases n
theorem vsB {o : Addr} {b c : Bool} (h : b = c) : [V.ref o, V.bl b] = [V.ref o, V.bl c] := by rw [h]
theorem ffind_at {p : Nat → Bool} {n j : Nat} (hj : j < n) (hp : p j = true) (h : ∀ i, i < j → p i = false) : (List.range n).find? p = some j := by
  rw [List.find?_range_eq_some]
  exact ⟨hp, List.mem_range.mpr hj, fun i hi => by rw [h i hi]; rfl⟩
theorem ffind_no {p : Nat → Bool} {n : Nat} (h : ∀ i, i < n → p i = false) : (List.range n).find? p = none := by
  rw [List.find?_eq_none]
  intro i hi
  rw [h i (List.mem_range.mp hi)]
  decide
section
variable {P : Program} {w : World} {K : PySem.W.Frag} {mg : Str → Option Value} {base : Heap} {WD CT : Addr}
def sp_is_nameN : Sp := fun vs H Q _ => vs = [.non] ∧ Q (.bl false) H
theorem ok_is_nameN {f : Addr} {fd : FuncData} (F : Fun K "is_name" "is_name" s_is_name f fd) (B : Blt mg) (G : GNames mg) : FnOk P w K mg base CX0 1 f fd ["value"] sp_is_nameN := by
  obtain ⟨⟨t1, mL⟩, ⟨t2, mN⟩⟩ := G
  refine F.ok sc_is_name (fun vs H Q E h => by obtain ⟨rfl, _⟩ := h; rfl) (fun cdv A outer s H vs Q E hr h => ?_)
  obtain ⟨rfl, q⟩ := h
  refine ⟨_, (pss_cons (ps_if (PW.pt (pw_or (pt_not (pt_val (pe_callB (call_isT "str") (by rfl) B.b_isinstance PyProof.Rows.boot_isinstance (pa_cons (pv 0) (pa_cons (pe_bltn (v := .ty "str") (by rfl) B.b_str PyProof.Rows.boot_str rfl) pa_nil))))) (pw_or1 (pt_not (pt_chain op_le op_le pe_int (pe_callB call_len_str (by rfl) B.b_len PySem.boot_len (pa_cons (pv 0) pa_nil)) (pe_glob (v := .int 8) rfl mN ⟨_, rfl⟩)))))) (pss_one (ps_ret pe_bl)) pss_nil)
      (pss_one (ps_ret (pe_callB (cr_all rfl) (by rfl) B.b_all PyProof.Rows.boot_all (pa_cons (pe_lc (own := [("letter", 1)]) (g := gName 1) (tt := tYes) rfl sc_is_name.nd (pi_str (pv 0)) (blkOk_by (own := [("letter", 1)]) (N := ["value", "letter"]) (sc := defScope s_is_name) (by decide +kernel)) (fun _ _ _ _ _ => (pg_name (i := 1) sc_is_name.nd rfl (Or.inl rfl))) (fun _ _ _ _ _ => pts_nil) (fun _ _ _ _ _ => (pe_.re (pe_cmpR op_in_sign (pv 1) (pe_glob (v := .str "abcdefghijklmnopqrstuvwxyz") rfl mL ⟨_, rfl⟩) rfl) (by first | (dsimp only [Cx.blk]; done) | exact rfl)))) pa_nil))))), ?_⟩
  exact ⟨.non, rfl, _, "NoneType", false, rfl, .non, by decide +kernel, _, rfl, iteT q⟩
def sp_is_nameO : Sp := fun vs H Q E => sp_is_name vs H Q E ∨ sp_is_nameN vs H Q E
def sp_freeO : Sp := fun vs H Q _ => ∃ o : Option Str, vs = [optV o] ∧ (∀ x, o = some x → x.length ≤ 10000) ∧ ∀ H', Same H H' → Q (.bl (freeO o)) H'
theorem ok_freeO {f : Addr} {fd : FuncData} {rsA : Addr} (F : Fun K "is_free_name" "is_free_name" s_is_free_name f fd) (B : Blt mg) (m_RESERVED : mg "RESERVED" = some (.ref rsA)) (hRS : ∀ H, SqT K H rsA (reserved.map V.str)) (c_is_name : Cal P w K mg base CX0 1 "is_name" ["value"] sp_is_nameO) : FnOk P w K mg base CX0 2 f fd ["word"] sp_freeO := by
  refine F.ok sc_is_free_name (fun vs H Q E h => by obtain ⟨o, rfl, _⟩ := h; rfl) (fun cdv A outer s H vs Q E hr h => ?_)
  obtain ⟨o, rfl, hl, q⟩ := h
  refine ⟨_, (pss_one (ps_ret (pe_and (pe_cal c_is_name (hr.mono (by decide)) (pa_cons (pv 0) pa_nil)) (pe_one (pe_cmpR op_notIn_seq (pv 0) (pe_glob (v := .ref rsA) rfl m_RESERVED rfl) rfl))))), ?_⟩
  cases o with
  | none => exact ⟨_, rfl, .inr ⟨rfl, ⟨false, rfl, iteF (q H (Same.refl H))⟩⟩⟩
  | some x =>
    have hx := hl x rfl
    refine ⟨_, rfl, .inl ⟨x, rfl, by rw [sizeLine_eq]; omega, fun H1 s1 => ⟨isName x, rfl, ?_⟩⟩⟩
    have q : Q (.bl (isName x && !decide (x ∈ reserved))) H1 := q H1 s1
    cases hn : isName x with
    | false => rw [hn] at q; exact iteF q
    | true =>
      rw [hn] at q
      refine iteT ⟨_, rfl, rsA, _, rfl, .inr (hRS H1), rfl, flat_strs reserved, ?_⟩
      show Q (V.bl (!inV (V.str x) (reserved.map V.str))) H1
      rw [inV_str]
      exact q
def sp_risesL : Sp := fun vs H Q _ => ∃ (a : Addr) (xs : List Str) (i : Nat), vs = [.ref a, .int (i : Nat)] ∧ H a = some (.lst (xs.map V.str)) ∧ i < xs.length ∧ Q (.bl (risesAt xs i)) H
theorem ok_risesL {f : Addr} {fd : FuncData} (F : Fun K "rises" "rises" s_rises f fd) : FnOk P w K mg base CX0 1 f fd ["names", "index"] sp_risesL := by
  refine F.ok sc_rises (fun vs H Q E h => by obtain ⟨a, xs, i, rfl, _⟩ := h; rfl) (fun cdv A outer s H vs Q E hr h => ?_)
  obtain ⟨a, xs, i, rfl, hS, hi, q⟩ := h
  refine ⟨_, (pss_one (ps_ret (pe_or (pe_cmpR op_eq (pv 1) pe_int (nomark _)) (pe_one (pe_cmpR op_lt_str (pe_ix ix_list (pv 0) (pe_op op_sub (pv 1) pe_int) (fun _ _ => rfl)) (pe_ix ix_list (pv 0) (pv 1) (fun _ _ => rfl)) (nomark _)))))), ?_⟩
  refine ⟨_, rfl, rfl, _, rfl, bcase (fun e => ?_) (fun e => ?_)⟩
  · have e0 : i = 0 := by have := V.int.inj (of_decide_eq_true e); omega
    have er : risesAt xs i = true := by unfold risesAt; rw [decide_eq_true e0, Bool.true_or]
    rw [er] at q
    exact q
  · have e0 : i ≠ 0 := fun z => by subst z; exact Bool.noConfusion (e.symm.trans (decide_eq_true rfl))
    have h1 : i - 1 < xs.length := by omega
    have g1 : (xs.map V.str)[i - 1]? = some (.str xs[i - 1]) := by rw [List.getElem?_map, List.getElem?_eq_getElem h1]; rfl
    have g2 : (xs.map V.str)[i]? = some (.str xs[i]) := by rw [List.getElem?_map, List.getElem?_eq_getElem hi]; rfl
    refine ⟨.ref a, rfl, .int i, rfl, i, 1, rfl, rfl, a, _, _, _, rfl, rfl, sqL_of hS, at_of (j := i - 1) (by omega) g1, .ref a, rfl, .int i, rfl, a, _, _, _, rfl, rfl, sqL_of hS, at_of rfl g2, xs[i - 1], xs[i], rfl, rfl, ?_⟩
    have er : risesAt xs i = decide (xs[i - 1].cps.toList < xs[i].cps.toList) := by
      unfold risesAt
      rw [decide_eq_false e0, Bool.false_or, List.getElem?_eq_getElem h1, List.getElem?_eq_getElem hi]
    rw [← er]
    exact q
def sp_rend (WD CT : Addr) : Sp := fun vs H Q E => ∃ (o : Addr) (row : Nat) (ws : List Str), vs = [.ref o] ∧ WdR WD o row H ws 0 ∧ ws[0]? = some (Str.ofString "else") ∧ (∀ x ∈ ws, x.length ≤ 10000) ∧
  (freeO ws[1]? = false → errRW CT row 1 (SameX o H) E) ∧ (∀ rl, ws[1]? = some rl → freeO (some rl) = true → (2 < ws.length → errRW CT row 2 (SameX o H) E) ∧ (ws.length = 2 → ∀ H', SameX o H H' → Q (.str rl) H'))
theorem ok_rend {f : Addr} {fd : FuncData} (F : Fun K "read_ending" "read_ending" s_read_ending f fd) (B : Blt mg) (CLw : Cls K WD) (mw_ahead : MethR P w K mg base 1 WD "ahead" ["self"] (sp_ahead WD)) (mw_take : MethX P w K mg base 4 WD "take" ["self", "right"] (sp_wtake WD CT)) (mw_check_end : MethX P w K mg base 4 WD "check_end" ["self"] (sp_wend WD CT)) (c_is_free_name : Cal P w K mg base CX0 2 "is_free_name" ["word"] sp_freeO) :
    FnOk P w K mg base (L2.CX P w) 5 f fd ["words"] (sp_rend WD CT) := by
  refine F.okX sc_read_ending (fun vs H Q E h => by obtain ⟨o, row, ws, rfl, _⟩ := h; rfl) (fun cdv A outer s H vs Q E hr h => ?_)
  obtain ⟨o, row, ws, rfl, hW, h0, hlen, e1, e2⟩ := h
  refine ⟨_, (pss_cons (ps_expr (pe_meX CLw mw_take (hr.mono (by decide)) (takes_of rfl rfl rfl rfl) (pv 0) (pa_cons (pe_cmpR op_eq (pe_me0 CLw mw_ahead (hr.mono (by decide)) (pv 0)) pe_str (nomark _)) pa_nil)))
      (pss_cons (ps_set (i := 1) sc_read_ending.nd rfl (Or.inl rfl) (pe_meX CLw mw_take (hr.mono (by decide)) (takes_of rfl rfl rfl rfl) (pv 0) (pa_cons (pe_cal c_is_free_name (hr.mono (by decide)) (pa_cons (pe_me0 CLw mw_ahead (hr.mono (by decide)) (pv 0)) pa_nil)) pa_nil)))
      (pss_cons (ps_expr (pe_meX0 CLw mw_check_end (hr.mono (by decide)) (takes_of rfl rfl rfl rfl) (pv 0)))
      (pss_one (ps_ret (pv 1)))))), ?_⟩
  obtain ⟨dx, ll, ho, hll, hl, hrow⟩ := id hW
  refine ⟨_, rfl, o, dx, _, rfl, ho, rfl, _, rfl, o, dx, _, rfl, ho, rfl, o, row, ws, 0, rfl, hW, ?_⟩
  rw [h0]
  refine ⟨rfl, o, true, row, ws, 0, vsB (decide_eq_true rfl), hW, by decide, fun _ => ⟨_, h0, fun H1 W1 s1 => ?_⟩, fun z => nomatch z⟩
  obtain ⟨dx1, ll1, ho1, _⟩ := id W1
  refine ⟨_, rfl, o, dx1, _, rfl, ho1, rfl, _, rfl, o, dx1, _, rfl, ho1, rfl, o, row, ws, 1, rfl, W1, ws[1]?, rfl, (fun x hx => hlen x (List.mem_of_getElem? hx)), fun H2 s2 => ?_⟩
  have W2 := W1.same s2
  have s02 := s1.tr s2.sx
  refine ⟨o, freeO ws[1]?, row, ws, 1, rfl, W2, by decide, fun hb => ?_, fun hb => (e1 hb).mono fun Hx sx => s02.tr sx.sx⟩
  cases h1 : ws[1]? with
  | none => rw [h1] at hb; cases hb
  | some rl =>
    rw [h1] at hb
    obtain ⟨e3, q⟩ := e2 rl h1 hb
    refine ⟨rl, rfl, fun H3 W3 s3 => ?_⟩
    obtain ⟨dx3, ll3, ho3, _⟩ := id W3
    have s03 := s02.tr s3
    have h2l := (List.getElem?_eq_some_iff.mp h1).1
    exact ⟨_, rfl, o, dx3, _, rfl, ho3, rfl, o, row, ws, 2, rfl, W3, by decide, fun hle => ⟨_, rfl, q (by omega) H3 s03⟩, fun hlt => (e3 hlt).mono fun Hx sx => s03.tr sx.sx⟩
def sp_rfacts (K : PySem.W.Frag) (WD CT : Addr) : Sp := fun vs H Q E => ∃ (o : Addr) (row : Nat) (ws : List Str), vs = [.ref o] ∧ WdR WD o row H ws 0 ∧ ws ≠ [] ∧ (∀ x ∈ ws, x.length ≤ 10000) ∧
  (∀ k, rdF ws = some k → errRW CT row k (SameX o H) E) ∧ (rdF ws = none → ∀ H' p, SameX o H H' → SqT K H' p ((ws.drop 1).map V.str) → Q (.ref p) H')
theorem ok_rfacts {f : Addr} {fd : FuncData} {t1 : Tok} (F : Fun K "read_facts" "read_facts" s_read_facts f fd) (B : Blt mg) (CLw : Cls K WD) (m_MOST_FACTS : mg "MOST_FACTS" = some (.int 60 t1)) (mw_ahead : MethR P w K mg base 1 WD "ahead" ["self"] (sp_ahead WD)) (mw_take : MethX P w K mg base 4 WD "take" ["self", "right"] (sp_wtake WD CT)) (c_is_free_name : Cal P w K mg base CX0 2 "is_free_name" ["word"] sp_freeO) (c_rises : Cal P w K mg base CX0 1 "rises" ["names", "index"] sp_risesL) :
    FnOk P w K mg base (L2.CX P w) 5 f fd ["words"] (sp_rfacts K WD CT) := by
  refine F.okX sc_read_facts (fun vs H Q E h => by obtain ⟨o, row, ws, rfl, _⟩ := h; rfl) (fun cdv A outer s H vs Q E hr h => ?_)
  obtain ⟨o, row, ws, rfl, hW, hne, hlen, er, q⟩ := h
  refine ⟨_, (pss_cons (ps_expr (pe_meX CLw mw_take (hr.mono (by decide)) (takes_of rfl rfl rfl rfl) (pv 0) (pa_cons (pe_cmpR op_eq (pe_me0 CLw mw_ahead (hr.mono (by decide)) (pv 0)) pe_str (nomark _)) pa_nil)))
      (pss_cons (ps_set (i := 1) sc_read_facts.nd rfl (Or.inl rfl) (pe_lst pa_nil))
      (pss_cons (ps_while (passes_of rfl) (PW.pt (pw_or (pt_not (pt_tru (pv 1) (by intro _; rfl))) (pw_or1 (pt_cmpR op_notN (pe_me0 CLw mw_ahead (hr.mono (by decide)) (pv 0)) pe_non (nomark _))))) (pss_cons (ps_set (i := 2) sc_read_facts.nd rfl (Or.inl rfl) (pe_me0 CLw mw_ahead (hr.mono (by decide)) (pv 0)))
      (pss_cons (ps_set (i := 3) sc_read_facts.nd rfl (Or.inl rfl) (pe_wk (tRightF K WD) (pe_and (pe_cal c_is_free_name (hr.mono (by decide)) (pa_cons (pv 2) pa_nil)) (pe_and (pe_cal c_rises (hr.mono (by decide)) (pa_cons (pe_op op_cat (pv 1) (pe_lst (pa_cons (pv 2) pa_nil))) (pa_cons (pe_callB call_len_seq (by rfl) B.b_len PySem.boot_len (pa_cons (pv 1) pa_nil)) pa_nil))) (pe_one (pe_cmpR op_lt (pe_callB call_len_seq (by rfl) B.b_len PySem.boot_len (pa_cons (pv 1) pa_nil)) (pe_glob (v := .int 60) rfl m_MOST_FACTS ⟨_, rfl⟩) (nomark _))))) ?wr))
      (pss_one (ps_expr (pe_bm PySem.F.plainAttrs_list PySem.F.slot_list_append PySem.F.type_list_append mt_append (pv 1) (pa_cons (pe_meX CLw mw_take (hr.mono (by decide)) (takes_of rfl rfl rfl rfl) (pv 0) (pa_cons (pv 3) pa_nil)) pa_nil)))))))
      (pss_one (ps_ret (pe_callTy call_tuple_of (by rfl) B.b_tuple PyProof.Rows.boot_tuple (pa_cons (pv 1) pa_nil))))))), ?_⟩
  case wr =>
    rintro σ H1 Q ⟨D, ws, k, g1, g2, eD, hl, hk, hlen, q⟩
    refine ⟨_, g2, ws[k + 1]?, rfl, (fun x hx => hlen x (List.mem_of_getElem? hx)), fun H2 s2 => ?_⟩
    cases hx : ws[k + 1]? with
    | none =>
      have hb : factBad ws (k + 1) = true := by unfold factBad; rw [hx]; rfl
      rw [hb] at q
      exact ⟨false, rfl, iteF (q H2 s2)⟩
    | some x =>
      cases hf : freeO (some x) with
      | false =>
        have hb : factBad ws (k + 1) = true := by unfold factBad; rw [hx, hf]; rfl
        rw [hb] at q
        exact ⟨false, rfl, iteF (q H2 s2)⟩
      | true =>
        rw [hx] at g2
        have hkl := (List.getElem?_eq_some_iff.mp hx).1
        have hdk : (ws.drop 1)[k]? = some x := by rw [List.getElem?_drop, Nat.add_comm]; exact hx
        have hb : (!factBad ws (k + 1)) = (risesAt ((ws.drop 1).take (k + 1)) k && decide (k + 1 ≤ 60)) := by unfold factBad; rw [hx, hf, Bool.not_not, Bool.true_and]; rfl
        rw [hb] at q
        have hlen2 : (((ws.drop 1).take k).map V.str).length = k := by rw [List.length_map, List.length_take, List.length_drop]; omega
        refine ⟨true, rfl, iteT ?_⟩
        refine ⟨_, g1, _, g2, (by show 1 ≤ sizeLine; decide), fun d nd => ?_⟩
        have s4 : Same H2 (upd H2 d (.lst [.str x])) := (Same.refl H2).put nd
        have m4 : (upd H2 d (.lst [.str x])) d = some (.lst [.str x]) := upd_same
        show rCat (V.ref D) (V.ref d) (upd H2 d (.lst [.str x])) _
        generalize upd H2 d (.lst [.str x]) = H4 at s4 m4 ⊢
        have s24 := s2.trans s4
        refine ⟨D, d, _, _, rfl, rfl, s24 _ _ eD, m4, by rw [sizeLine_eq, hlen2]; show k + 1 ≤ _; omega, fun d5 nd5 => ?_⟩
        have s5 : Same H4 (upd H4 d5 (.lst (((ws.drop 1).take k).map V.str ++ [.str x]))) := (Same.refl H4).put nd5
        have m5 : (upd H4 d5 (.lst (((ws.drop 1).take k).map V.str ++ [.str x]))) d5 = some (.lst (((ws.drop 1).take (k + 1)).map V.str)) := by rw [upd_same, take_more hdk, List.map_append]; rfl
        generalize upd H4 d5 (.lst (((ws.drop 1).take k).map V.str ++ [.str x])) = H5 at s5 m5 ⊢
        have s25 := s24.trans s5
        refine ⟨_, g1, D, _, rfl, .inl (sqL_of (s25 _ _ eD)), ?_⟩
        rw [hlen2]
        refine ⟨d5, (ws.drop 1).take (k + 1), k, rfl, m5, by rw [List.length_take, List.length_drop]; omega, ?_⟩
        refine ⟨_, rfl, ?_⟩
        cases hrs : risesAt ((ws.drop 1).take (k + 1)) k with
        | false =>
          rw [hrs, Bool.false_and] at q
          exact iteF (q H5 s25)
        | true =>
          rw [hrs, Bool.true_and] at q
          refine iteT ⟨_, g1, D, _, rfl, .inl (sqL_of (s25 _ _ eD)), _, 60, rfl, rfl, ?_⟩
          rw [hlen2]
          have e : decide ((k : Int) < 60) = decide (k + 1 ≤ 60) := decide_eq_decide.mpr ⟨fun h => by omega, fun h => by omega⟩
          show Q (V.bl (decide ((k : Int) < 60))) H5
          rw [e]
          exact q H5 s25
  obtain ⟨dx, ll, ho, hll, hl, hrow⟩ := id hW
  refine ⟨_, rfl, o, dx, _, rfl, ho, rfl, _, rfl, o, dx, _, rfl, ho, rfl, o, row, ws, 0, rfl, hW, ?_⟩
  obtain ⟨x0, hx0⟩ : ∃ x, ws[0]? = some x := by
    cases ws with
    | nil => exact absurd rfl hne
    | cons x r => exact ⟨x, rfl⟩
  rw [hx0]
  refine ⟨rfl, o, decide (x0 = Str.ofString "facts"), row, ws, 0, vsB (decide_eq_decide.mpr ⟨fun z => V.str.inj z, fun z => congrArg V.str z⟩), hW, by decide, fun hb => ⟨x0, hx0, fun H1 W1 s1 => ?_⟩, fun hb => ?_⟩
  rotate_left
  · have h0 : rdF ws = some 0 := by
      unfold rdF
      rw [hx0, if_neg (fun z => of_decide_eq_false hb (Option.some.inj z))]
    exact (er 0 h0).mono fun Hx sx => sx.sx
  have hrd : rdF ws = ((List.range (max 1 (ws.length - 1))).find? fun i => factBad ws (i + 1)).map (· + 1) := by
    unfold rdF
    rw [hx0, if_pos (congrArg some (of_decide_eq_true hb))]
  have hws0 := (List.getElem?_eq_some_iff.mp hx0).1
  refine ⟨Nat.zero_le _, fun D nD => ?_⟩
  have sD : Same H1 (upd H1 D (.lst [])) := (Same.refl H1).put nD
  obtain ⟨dx1, ll1, ho1, hll1, _⟩ := id W1
  have nDo : D ≠ o := fun z => by rw [z, ho1] at nD; cases nD
  have nDH := s1.free0 nD nDo
  refine ⟨fun m σ H' => ∃ (j : Nat) (y2 y3 : Option V), m = max 1 (ws.length - 1) - j ∧ j ≤ max 1 (ws.length - 1) ∧ σ = [some (.ref o), some (.ref D), y2, y3] ∧ SameX o H H' ∧ H' D = some (.lst (((ws.drop 1).take j).map V.str)) ∧ WdR WD o row H' ws (j + 1) ∧ (∀ i, i < j → factBad ws (i + 1) = false),
    ⟨_, 0, _, _, rfl, Nat.zero_le _, rfl, s1.tr sD.sx, upd_same, W1.same sD, (fun i h => absurd h (Nat.not_lt_zero i))⟩, ?_⟩
  rintro m σ H2 ⟨j, y2, y3, rfl, hj, rfl, s2, e2, W2, hgood⟩
  obtain ⟨dx2, ll2, ho2, hll2, _⟩ := id W2
  have hw1 : 0 < j → ∃ x, ws[1]? = some x := fun h => by
    have hg := hgood 0 h
    cases hx : ws[1]? with
    | none => unfold factBad at hg; rw [hx] at hg; cases hg
    | some x => exact ⟨x, rfl⟩
  by_cases hjn : j < max 1 (ws.length - 1)
  · have key : ∀ T : Bool → Hp → Prop, T true H2 → (tOr (tNot (tTru K (tVar 1))) (tTest (tOp (fun x y H Q => y = V.non ∧ Q (V.bl !decide (x = V.non)) H) (tMeth WD (Str.ofString "ahead") (sp_ahead WD) [] E0 (tVar 0) tNil) (tC V.non)))) [some (.ref o), some (.ref D), y2, y3] H2 T := by
      intro T hT
      refine ⟨_, rfl, _, .inl ⟨_, sqL_of e2, rfl⟩, ?_⟩
      cases j with
      | zero => exact iteT hT
      | succ j =>
        obtain ⟨x1, hx1⟩ := hw1 (Nat.succ_pos j)
        have hl1 := (List.getElem?_eq_some_iff.mp hx1).1
        have hne2 : (!!(((ws.drop 1).take (j + 1)).map V.str).isEmpty) = false := by
          cases hd : ws.drop 1 with
          | nil => rw [List.drop_eq_nil_iff] at hd; omega
          | cons x r => rfl
        rw [hne2]
        have hx2 : ws[j + 1 + 1]? = some ws[j + 1 + 1] := List.getElem?_eq_getElem (by omega)
        refine iteF ⟨_, rfl, o, dx2, _, rfl, ho2, rfl, o, row, ws, _, rfl, W2, ?_⟩
        rw [hx2]
        exact ⟨rfl, _, rfl, hT⟩
    refine key _ (iteT ?_)
    refine ⟨fun σ' H' => ∃ (y2 y3 : Option V), σ' = [some (.ref o), some (.ref D), y2, y3] ∧ SameX o H H' ∧ H' D = some (.lst (((ws.drop 1).take (j + 1)).map V.str)) ∧ WdR WD o row H' ws (j + 1 + 1) ∧ factBad ws (j + 1) = false, fun σ' H' ⟨y2, y3, e, h1, h2, h3, h4⟩ => ⟨_, (by omega), j + 1, y2, y3, rfl, hjn, e, h1, h2, h3, fun i hi => by rcases Nat.lt_succ_iff_lt_or_eq.mp hi with h | h; exact hgood i h; rw [h]; exact h4⟩, ?_⟩
    refine ⟨_, rfl, o, dx2, _, rfl, ho2, rfl, o, row, ws, j + 1, rfl, W2, ?_⟩
    refine ⟨D, ws, j, rfl, rfl, e2, hl, by omega, hlen, fun H3 s3 => ?_⟩
    have e3 := s3 _ _ e2
    have W3 := W2.same s3
    obtain ⟨dx3, ll3, ho3, _⟩ := id W3
    have s03 := s2.tr s3.sx
    refine ⟨_, rfl, .inl ⟨rfl, _, sqL_of e3⟩, _, rfl, o, dx3, _, rfl, ho3, rfl, _, rfl, o, !factBad ws (j + 1), row, ws, j + 1, rfl, W3, by omega, fun hb2 => ?_, fun hb2 => ?_⟩
    · have hb3 : factBad ws (j + 1) = false := by cases h : factBad ws (j + 1) with | false => rfl | true => rw [h] at hb2; cases hb2
      obtain ⟨x, hx⟩ : ∃ x, ws[j + 1]? = some x := by
        cases hx : ws[j + 1]? with
        | none => unfold factBad at hb3; rw [hx] at hb3; cases hb3
        | some x => exact ⟨x, rfl⟩
      refine ⟨x, hx, fun H4 W4 s4 => ?_⟩
      have hdk : (ws.drop 1)[j]? = some x := by rw [List.getElem?_drop, Nat.add_comm]; exact hx
      refine ⟨D, _, _, rfl, rfl, s4 _ _ nDo e3, small1000 (by rw [List.length_map, List.length_take, List.length_drop]; omega), _, _, rfl, (s03.tr s4).put0 nDH, ?_, ?_, hb3⟩
      · rw [upd_same, take_more hdk, List.map_append]; rfl
      · obtain ⟨dx6, ll6, ho6, hll6, hl6⟩ := W4
        have e6 := s4 _ _ nDo e3
        have hjl := (List.getElem?_eq_some_iff.mp hx).1
        refine ⟨dx6, ll6, by rw [upd_ne nDo.symm]; exact ho6, ?_, hl6⟩
        rw [upd_ne (fun z => by
          subst z
          rw [e6] at hll6
          have := congrArg List.length (HO.lst.inj (Option.some.inj hll6))
          rw [List.length_map, List.length_map, List.length_take, List.length_drop] at this
          omega)]
        exact hll6
    · have hb3 : factBad ws (j + 1) = true := by cases h : factBad ws (j + 1) with | true => rfl | false => rw [h] at hb2; cases hb2
      have hr1 : rdF ws = some (j + 1) := by rw [hrd, ffind_at hjn hb3 hgood]; rfl
      exact (er _ hr1).mono fun Hx sx => s03.tr sx.sx
  · have hjn2 : j = max 1 (ws.length - 1) := by omega
    subst hjn2
    obtain ⟨x1, hx1⟩ := hw1 (by omega)
    have hl1 := (List.getElem?_eq_some_iff.mp hx1).1
    have hmx : max 1 (ws.length - 1) = ws.length - 1 := by omega
    have hfull : (ws.drop 1).take (max 1 (ws.length - 1)) = ws.drop 1 := List.take_of_length_le (by rw [List.length_drop]; omega)
    rw [hfull] at e2
    have hah : optV ws[max 1 (ws.length - 1) + 1]? = .non := by rw [List.getElem?_eq_none (by omega)]; rfl
    refine ⟨_, rfl, true, .inl ⟨_, sqL_of e2, ?_⟩, ?_⟩
    · cases hd : ws.drop 1 with
      | nil => rw [List.drop_eq_nil_iff] at hd; omega
      | cons x r => rfl
    refine iteF ⟨_, rfl, o, dx2, _, rfl, ho2, rfl, o, row, ws, _, rfl, W2, ?_⟩
    rw [hah]
    refine ⟨rfl, _, rfl, iteF ?_⟩
    have hnone : rdF ws = none := by rw [hrd, ffind_no fun i hi => hgood i hi]; rfl
    refine ⟨_, rfl, D, _, rfl, .inl ⟨sqL_of e2, fun t nt => ?_⟩⟩
    exact q hnone _ t (s2.tr ((Same.refl H2).put nt).sx) sqT_new
end
end Sc
namespace Sc
open PySem PySem.Spec PyProof.Rows L2
theorem sc_read_part : FnScope ["words", "word", "facts", "taken", "found", "fact", "known", "right"] ["words", "word", "facts", "taken"] (defScope s_read_part) := ⟨rfl, rfl, rfl, by decide +kernel, rfl, by decide +kernel, by decide +kernel⟩
def knO (xs ts : List Str) : Option Str → Bool
  | some x => decide (x ∈ xs) && !decide (x ∈ ts)
  | none => false
/-- the word at j of a part that begins at b is no right fact -/
def partBad (xs ts ws : List Str) (b j : Nat) : Bool := !(knO xs ts ws[b + j]? && (risesAt ((ws.drop b).take (j + 1)) j && decide (ts.length + j < 8)))
/-- how many words of a part are read -/
def partN (ws : List Str) (b : Nat) : Nat := 1 + ((ws.drop (b + 1)).takeWhile fun x => decide (x ≠ Str.ofString "not")).length
theorem takeWhile_at {α : Type} {p : α → Bool} : ∀ {l : List α} {i : Nat}, i < (l.takeWhile p).length → ∃ x, l[i]? = some x ∧ p x = true
  | [], i, h => absurd h (Nat.not_lt_zero i)
  | x :: r, i, h => by
    rw [List.takeWhile_cons] at h
    cases hp : p x with
    | false => rw [hp] at h; exact absurd h (Nat.not_lt_zero i)
    | true =>
      rw [hp] at h
      cases i with
      | zero => exact ⟨x, rfl, hp⟩
      | succ i => exact takeWhile_at (l := r) (Nat.lt_of_succ_lt_succ h)
theorem takeWhile_end {α : Type} {p : α → Bool} : ∀ {l : List α} {x : α}, l[(l.takeWhile p).length]? = some x → p x = false
  | [], x, h => by cases h
  | y :: r, x, h => by
    rw [List.takeWhile_cons] at h
    cases hp : p y with
    | false => rw [hp] at h; cases h; exact hp
    | true => rw [hp] at h; exact takeWhile_end (l := r) h
theorem part_in {ws : List Str} {b j : Nat} (h1 : 1 ≤ j) (hj : j < partN ws b) : ∃ x, ws[b + j]? = some x ∧ x ≠ Str.ofString "not" := by
  unfold partN at hj
  obtain ⟨x, hx, hp⟩ := takeWhile_at (p := fun x => decide (x ≠ Str.ofString "not")) (l := ws.drop (b + 1)) (i := j - 1) (by omega)
  rw [List.getElem?_drop, show b + 1 + (j - 1) = b + j by omega] at hx
  exact ⟨x, hx, of_decide_eq_true hp⟩
theorem part_end {ws : List Str} {b : Nat} : ws[b + partN ws b]? = none ∨ ws[b + partN ws b]? = some (Str.ofString "not") := by
  cases h : ws[b + partN ws b]? with
  | none => exact .inl rfl
  | some x =>
    right
    have h2 : (ws.drop (b + 1))[((ws.drop (b + 1)).takeWhile fun x => decide (x ≠ Str.ofString "not")).length]? = some x := by
      rw [List.getElem?_drop, ← h]
      unfold partN
      congr 1
      omega
    have := takeWhile_end h2
    simp only [ne_eq, decide_not, Bool.not_eq_false', decide_eq_true_eq] at this
    rw [this]
theorem inN {x n : Str} : inV (.str x) [V.non, .str n] = decide (x = n) := by
  have e : inV (.str x) [V.non, .str n] = (eqV V.non (.str x) || inV (.str x) ([n].map V.str)) := rfl
  rw [e, inV_str]
  show (false || decide (x ∈ [n])) = _
  simp
theorem inNn {n : Str} : inV .non [V.non, .str n] = true := rfl
theorem inOs {xs : List Str} : inV .non (xs.map V.str) = false := by
  induction xs with
  | nil => rfl
  | cons x r ih => show (eqV (.str x) .non || inV .non (r.map V.str)) = false; rw [ih]; rfl
def tKn (K : PySem.W.Frag) : TE := fun σ H Q => ∃ (a tk : Addr) (xs ts : List Str) (o : Option Str), σ[2]? = some (some (.ref a)) ∧ σ[3]? = some (some (.ref tk)) ∧ σ[5]? = some (some (optV o)) ∧ SqT K H a (xs.map V.str) ∧ SqT K H tk (ts.map V.str) ∧ Q (.bl (knO xs ts o)) H
def tRp (K : PySem.W.Frag) : TE := fun σ H Q => ∃ (tk D : Addr) (xs ts ws : List Str) (b j : Nat), σ[3]? = some (some (.ref tk)) ∧ σ[4]? = some (some (.ref D)) ∧ σ[5]? = some (some (optV ws[b + j]?)) ∧ σ[6]? = some (some (.bl (knO xs ts ws[b + j]?))) ∧ SqT K H tk (ts.map V.str) ∧ H D = some (.lst (((ws.drop b).take j).map V.str)) ∧ ws.length ≤ 900 ∧ (∀ H', Same H H' → Q (.bl (!partBad xs ts ws b j)) H')
section
variable {P : Program} {w : World} {K : PySem.W.Frag} {mg : Str → Option Value} {base : Heap} {WD CT : Addr}
def sp_rpart (K : PySem.W.Frag) (WD CT : Addr) : Sp := fun vs H Q E => ∃ (o a tk : Addr) (row : Nat) (ws : List Str) (at_ : Nat) (xs ts : List Str) (wd : Str), vs = [.ref o, .str wd, .ref a, .ref tk] ∧ WdR WD o row H ws at_ ∧ at_ ≤ 900 ∧ SqT K H a (xs.map V.str) ∧ SqT K H tk (ts.map V.str) ∧
  (ws[at_]? ≠ some wd → ∀ H' p, WdR WD o row H' ws at_ → SameX o H H' → SqT K H' p [] → Q (.ref p) H') ∧
  (ws[at_]? = some wd → (∀ j, (List.range (partN ws (at_ + 1))).find? (partBad xs ts ws (at_ + 1)) = some j → errRW CT row (at_ + 1 + j) (SameX o H) E) ∧
    ((List.range (partN ws (at_ + 1))).find? (partBad xs ts ws (at_ + 1)) = none → ∀ H' p, WdR WD o row H' ws (at_ + 1 + partN ws (at_ + 1)) → SameX o H H' → SqT K H' p (((ws.drop (at_ + 1)).take (partN ws (at_ + 1))).map V.str) → Q (.ref p) H'))
theorem ok_rpart {f : Addr} {fd : FuncData} {t1 : Tok} (F : Fun K "read_part" "read_part" s_read_part f fd) (B : Blt mg) (CLw : Cls K WD) (m_MOST_NAMES : mg "MOST_NAMES" = some (.int 8 t1)) (mw_ahead : MethR P w K mg base 1 WD "ahead" ["self"] (sp_ahead WD)) (mw_take : MethX P w K mg base 4 WD "take" ["self", "right"] (sp_wtake WD CT)) (c_rises : Cal P w K mg base CX0 1 "rises" ["names", "index"] sp_risesL) :
    FnOk P w K mg base (L2.CX P w) 5 f fd ["words", "word", "facts", "taken"] (sp_rpart K WD CT) := by
  refine F.okX sc_read_part (fun vs H Q E h => by obtain ⟨o, a, tk, row, ws, at_, xs, ts, wd, rfl, _⟩ := h; rfl) (fun cdv A outer s H vs Q E hr h => ?_)
  obtain ⟨o, a, tk, row, ws, at_, xs, ts, wd, rfl, hW, hat, hA, hT, q0, q1⟩ := h
  refine ⟨_, (pss_cons (ps_set (i := 4) sc_read_part.nd rfl (Or.inl rfl) (pe_lst pa_nil))
      (pss_cons (ps_if (pt_cmpR op_eq (pe_me0 CLw mw_ahead (hr.mono (by decide)) (pv 0)) (pv 1) (nomark _)) (pss_cons (ps_expr (pe_meX CLw mw_take (hr.mono (by decide)) (takes_of rfl rfl rfl rfl) (pv 0) (pa_cons pe_bl pa_nil)))
      (pss_one (ps_while (passes_of rfl) (PW.pt (pw_or (pt_not (pt_tru (pv 4) (by intro _; rfl))) (pw_or1 (pt_cmpR op_notIn_seq (pe_me0 CLw mw_ahead (hr.mono (by decide)) (pv 0)) (pe_tup (pa_cons pe_non (pa_cons pe_str pa_nil))) rfl)))) (pss_cons (ps_set (i := 5) sc_read_part.nd rfl (Or.inl rfl) (pe_me0 CLw mw_ahead (hr.mono (by decide)) (pv 0)))
      (pss_cons (ps_set (i := 6) sc_read_part.nd rfl (Or.inl rfl) (pe_wk (tKn K) (pe_and (pe_cmpR op_in_seq (pv 5) (pv 2) rfl) (pe_one (pe_cmpR op_notIn_seq (pv 5) (pv 3) rfl))) ?wk))
      (pss_cons (ps_set (i := 7) sc_read_part.nd rfl (Or.inl rfl) (pe_wk (tRp K) (pe_and (pv 6) (pe_and (pe_cal c_rises (hr.mono (by decide)) (pa_cons (pe_op op_cat (pv 4) (pe_lst (pa_cons (pv 5) pa_nil))) (pa_cons (pe_callB call_len_seq (by rfl) B.b_len PySem.boot_len (pa_cons (pv 4) pa_nil)) pa_nil))) (pe_one (pe_cmpR op_lt (pe_op op_add (pe_callB call_len_seq (by rfl) B.b_len PySem.boot_len (pa_cons (pv 3) pa_nil)) (pe_callB call_len_seq (by rfl) B.b_len PySem.boot_len (pa_cons (pv 4) pa_nil))) (pe_glob (v := .int 8) rfl m_MOST_NAMES ⟨_, rfl⟩) (nomark _))))) ?wr))
      (pss_one (ps_expr (pe_bm PySem.F.plainAttrs_list PySem.F.slot_list_append PySem.F.type_list_append mt_append (pv 4) (pa_cons (pe_meX CLw mw_take (hr.mono (by decide)) (takes_of rfl rfl rfl rfl) (pv 0) (pa_cons (pv 7) pa_nil)) pa_nil)))))))))) pss_nil)
      (pss_one (ps_ret (pe_callTy call_tuple_of (by rfl) B.b_tuple PyProof.Rows.boot_tuple (pa_cons (pv 4) pa_nil)))))), ?_⟩
  case wk =>
    rintro σ H1 Q ⟨a, tk, xs, ts, o, g2, g3, g5, hA, hT, q⟩
    refine ⟨_, g5, _, g2, a, _, rfl, .inr hA, (by cases o <;> rfl), flat_strs xs, ?_⟩
    rw [if_neg (by decide)]
    cases o with
    | none =>
      rw [show inV (optV none) (xs.map V.str) = false from inOs]
      exact ⟨false, rfl, iteF q⟩
    | some x =>
      have q : Q (.bl (decide (x ∈ xs) && !decide (x ∈ ts))) H1 := q
      rw [show inV (optV (some x)) (xs.map V.str) = decide (x ∈ xs) from inV_str xs]
      cases hx : decide (x ∈ xs) with
      | false => rw [hx, Bool.false_and] at q; exact ⟨false, rfl, iteF q⟩
      | true =>
        rw [hx, Bool.true_and] at q
        refine ⟨true, rfl, iteT ⟨_, g5, _, g3, tk, _, rfl, .inr hT, rfl, flat_strs ts, ?_⟩⟩
        rw [if_pos rfl]
        show Q (V.bl (!inV (V.str x) (ts.map V.str))) H1
        rw [inV_str]
        exact q
  case wr =>
    rintro σ H1 Q ⟨tk, D, xs, ts, ws, b, j, g3, g4, g5, g6, hT, eD, hl, q⟩
    refine ⟨_, g6, ?_⟩
    cases hk : knO xs ts ws[b + j]? with
    | false =>
      have hb : partBad xs ts ws b j = true := by unfold partBad; rw [hk]; rfl
      have q := q H1 (Same.refl H1)
      rw [hb] at q
      exact ⟨false, rfl, iteF q⟩
    | true =>
      obtain ⟨x, hx⟩ : ∃ x, ws[b + j]? = some x := by
        cases h : ws[b + j]? with
        | none => rw [h] at hk; cases hk
        | some x => exact ⟨x, rfl⟩
      have hb : (!partBad xs ts ws b j) = (risesAt ((ws.drop b).take (j + 1)) j && decide (ts.length + j < 8)) := by unfold partBad; rw [hk, Bool.not_not, Bool.true_and]
      rw [hb] at q
      rw [hx] at g5
      have hjl := (List.getElem?_eq_some_iff.mp hx).1
      have hdk : (ws.drop b)[j]? = some x := by rw [List.getElem?_drop]; exact hx
      have hlen2 : (((ws.drop b).take j).map V.str).length = j := by rw [List.length_map, List.length_take, List.length_drop]; omega
      refine ⟨true, rfl, iteT ?_⟩
      refine ⟨_, g4, _, g5, (by show 1 ≤ sizeLine; decide), fun d nd => ?_⟩
      have s4 : Same H1 (upd H1 d (.lst [.str x])) := (Same.refl H1).put nd
      have m4 : (upd H1 d (.lst [.str x])) d = some (.lst [.str x]) := upd_same
      show rCat (V.ref D) (V.ref d) (upd H1 d (.lst [.str x])) _
      generalize upd H1 d (.lst [.str x]) = H4 at s4 m4 ⊢
      refine ⟨D, d, _, _, rfl, rfl, s4 _ _ eD, m4, by rw [sizeLine_eq, hlen2]; show j + 1 ≤ _; omega, fun d5 nd5 => ?_⟩
      have s5 : Same H4 (upd H4 d5 (.lst (((ws.drop b).take j).map V.str ++ [.str x]))) := (Same.refl H4).put nd5
      have m5 : (upd H4 d5 (.lst (((ws.drop b).take j).map V.str ++ [.str x]))) d5 = some (.lst (((ws.drop b).take (j + 1)).map V.str)) := by rw [upd_same, take_more hdk, List.map_append]; rfl
      generalize upd H4 d5 (.lst (((ws.drop b).take j).map V.str ++ [.str x])) = H5 at s5 m5 ⊢
      have s15 := s4.trans s5
      refine ⟨_, g4, D, _, rfl, .inl (sqL_of (s15 _ _ eD)), ?_⟩
      rw [hlen2]
      refine ⟨d5, (ws.drop b).take (j + 1), j, rfl, m5, by rw [List.length_take, List.length_drop]; omega, ?_⟩
      refine ⟨_, rfl, ?_⟩
      cases hrs : risesAt ((ws.drop b).take (j + 1)) j with
      | false =>
        rw [hrs, Bool.false_and] at q
        exact iteF (q H5 s15)
      | true =>
        rw [hrs, Bool.true_and] at q
        refine iteT ⟨_, g3, tk, _, rfl, .inr (s15.tup hT), _, g4, D, _, rfl, .inl (sqL_of (s15 _ _ eD)), _, _, rfl, rfl, _, 8, rfl, rfl, ?_⟩
        rw [hlen2, List.length_map]
        have e : decide (((ts.length : Nat) : Int) + (j : Int) < 8) = decide (ts.length + j < 8) := decide_eq_decide.mpr ⟨fun h => by omega, fun h => by omega⟩
        show Q (V.bl (decide (((ts.length : Nat) : Int) + (j : Int) < 8))) H5
        rw [e]
        exact q H5 s15
  obtain ⟨dx, ll, ho, hll, hl, hrow⟩ := id hW
  refine ⟨Nat.zero_le _, fun D nD => ?_⟩
  have nDo : D ≠ o := fun z => by rw [z, ho] at nD; cases nD
  have s0 : Same H (upd H D (.lst [])) := (Same.refl H).put nD
  have e0 : (upd H D (.lst [])) D = some (.lst []) := upd_same
  have W0 := hW.same s0
  have nDH := nD
  generalize upd H D (.lst []) = H0 at s0 e0 W0 ⊢
  obtain ⟨dx0, ll0, ho0, _⟩ := id W0
  refine ⟨_, rfl, o, dx0, _, rfl, ho0, rfl, o, row, ws, _, rfl, W0, _, rfl, (by cases ws[at_]? <;> rfl), _, rfl, ?_⟩
  by_cases h1 : ws[at_]? = some wd
  · obtain ⟨er, q⟩ := q1 h1
    rw [h1, show decide (optV (some wd) = V.str wd) = true from decide_eq_true rfl]
    refine iteT ?_
    have hal := (List.getElem?_eq_some_iff.mp h1).1
    refine ⟨_, rfl, o, dx0, _, rfl, ho0, rfl, o, true, row, ws, at_, rfl, W0, hat, fun _ => ⟨wd, h1, fun H1 W1 s1 => ?_⟩, fun z => nomatch z⟩
    have s01 : SameX o H H1 := s0.sx.tr s1
    have e1 := s1 _ _ nDo e0
    generalize hb : at_ + 1 = b at er q W1
    generalize hn : partN ws b = n at er q
    have hn1 : 1 ≤ n := by rw [← hn]; unfold partN; omega
    refine ⟨fun m σ H' => ∃ (j : Nat) (y5 y6 y7 : Option V), m = n - j ∧ j ≤ n ∧ σ = [some (.ref o), some (.str wd), some (.ref a), some (.ref tk), some (.ref D), y5, y6, y7] ∧ SameX o H H' ∧ H' D = some (.lst (((ws.drop b).take j).map V.str)) ∧ WdR WD o row H' ws (b + j) ∧ (∀ i, i < j → partBad xs ts ws b i = false),
      ⟨_, 0, _, _, _, rfl, Nat.zero_le _, rfl, s01, e1, W1, fun i h => absurd h (Nat.not_lt_zero i)⟩, ?_⟩
    rintro m σ H2 ⟨j, y5, y6, y7, rfl, hj, rfl, s2, e2, W2, hgood⟩
    obtain ⟨dx2, ll2, ho2, hll2, _⟩ := id W2
    have hex : ∀ i, i < j → ∃ x, ws[b + i]? = some x := fun i hi => by
      have hg := hgood i hi
      cases hx : ws[b + i]? with
      | none => unfold partBad at hg; rw [hx] at hg; cases hg
      | some x => exact ⟨x, rfl⟩
    have hbj : 0 < j → b + j ≤ ws.length := fun h => by
      obtain ⟨x, hx⟩ := hex (j - 1) (by omega)
      have := (List.getElem?_eq_some_iff.mp hx).1
      omega
    have hlen : (((ws.drop b).take j).map V.str).length = j := by
      rw [List.length_map, List.length_take, List.length_drop]
      by_cases h : 0 < j
      · have := hbj h; omega
      · omega
    have hneE : j ≠ 0 → true = (!(((ws.drop b).take j).map V.str).isEmpty) := fun h => by
      cases hq : ((ws.drop b).take j).map V.str with
      | nil => rw [hq] at hlen; exact absurd hlen.symm h
      | cons _ _ => rfl
    by_cases hjn : j < n
    · have key : ∀ T : Bool → Hp → Prop, (∀ H3, Same H2 H3 → T true H3) → (tOr (tNot (tTru K (tVar 4))) (tTest (tOp (rIn K true) (tMeth WD (Str.ofString "ahead") (sp_ahead WD) [] E0 (tVar 0) tNil) (tTup (tCons (tC V.non) (tCons (tC (V.str (Str.ofString "not"))) tNil)))))) [some (.ref o), some (.str wd), some (.ref a), some (.ref tk), some (.ref D), y5, y6, y7] H2 T := by
        intro T hT
        by_cases hj0 : j = 0
        · refine ⟨_, rfl, false, .inl ⟨_, sqL_of e2, by rw [hj0]; rfl⟩, iteT (hT H2 (Same.refl H2))⟩
        · obtain ⟨x, hx, hxn⟩ := part_in (ws := ws) (b := b) (j := j) (by omega) (by rw [hn]; exact hjn)
          refine ⟨_, rfl, true, .inl ⟨_, sqL_of e2, hneE hj0⟩, ?_⟩
          refine iteF ⟨_, rfl, o, dx2, _, rfl, ho2, rfl, o, row, ws, _, rfl, W2, ?_⟩
          rw [hx]
          refine ⟨(by show 2 ≤ sizeLine; decide), fun t nt => ⟨t, _, rfl, .inr sqT_new, rfl, rfl, ?_⟩⟩
          rw [if_pos rfl]
          show ∃ b, V.bl (!inV (V.str x) [V.non, V.str (Str.ofString "not")]) = V.bl b ∧ _
          rw [inN, decide_eq_false hxn]
          exact ⟨_, rfl, hT _ ((Same.refl H2).put nt)⟩
      refine key _ fun H3 s23 => iteT ?_
      have W3 := W2.same s23
      obtain ⟨dx3, ll3, ho3, _⟩ := id W3
      have e3 := s23 _ _ e2
      have s03 := s2.tr s23.sx
      have hA3 : SqT K H3 a (xs.map V.str) := (hW.keeps (N := NoL) s03).tup hA
      have hT3 : SqT K H3 tk (ts.map V.str) := (hW.keeps (N := NoL) s03).tup hT
      refine ⟨fun σ' H' => ∃ (y5 y6 y7 : Option V), σ' = [some (.ref o), some (.str wd), some (.ref a), some (.ref tk), some (.ref D), y5, y6, y7] ∧ SameX o H H' ∧ H' D = some (.lst (((ws.drop b).take (j + 1)).map V.str)) ∧ WdR WD o row H' ws (b + (j + 1)) ∧ partBad xs ts ws b j = false, fun σ' H' ⟨y5, y6, y7, e, h1, h2, h3, h4⟩ => ⟨_, (by omega), j + 1, y5, y6, y7, rfl, hjn, e, h1, h2, h3, fun i hi => by rcases Nat.lt_succ_iff_lt_or_eq.mp hi with h | h; exact hgood i h; rw [h]; exact h4⟩, ?_⟩
      refine ⟨_, rfl, o, dx3, _, rfl, ho3, rfl, o, row, ws, _, rfl, W3, ?_⟩
      refine ⟨a, tk, xs, ts, ws[b + j]?, rfl, rfl, rfl, hA3, hT3, ?_⟩
      refine ⟨tk, D, xs, ts, ws, b, j, rfl, rfl, rfl, rfl, hT3, e3, hl, fun H4 s34 => ?_⟩
      have e4 := s34 _ _ e3
      have W4 := W3.same s34
      obtain ⟨dx4, ll4, ho4, _⟩ := id W4
      have s04 := s03.tr s34.sx
      have hb9 : b + j ≤ 900 := by
        by_cases h : 0 < j
        · have := hbj h; omega
        · omega
      refine ⟨_, rfl, .inl ⟨rfl, _, sqL_of e4⟩, _, rfl, o, dx4, _, rfl, ho4, rfl, _, rfl, o, !partBad xs ts ws b j, row, ws, b + j, rfl, W4, hb9, fun hb2 => ?_, fun hb2 => ?_⟩
      · have hb3 : partBad xs ts ws b j = false := by cases h : partBad xs ts ws b j with | false => rfl | true => rw [h] at hb2; cases hb2
        obtain ⟨x, hx⟩ : ∃ x, ws[b + j]? = some x := by
          cases hx : ws[b + j]? with
          | none => unfold partBad at hb3; rw [hx] at hb3; cases hb3
          | some x => exact ⟨x, rfl⟩
        refine ⟨x, hx, fun H5 W5 s5 => ?_⟩
        have hdk : (ws.drop b)[j]? = some x := by rw [List.getElem?_drop]; exact hx
        have e5 := s5 _ _ nDo e4
        have hjl := (List.getElem?_eq_some_iff.mp hx).1
        refine ⟨D, _, _, rfl, rfl, e5, small1000 (by rw [hlen]; omega), _, _, _, rfl, (s04.tr s5).put0 nDH, ?_, ?_, hb3⟩
        · rw [upd_same, take_more hdk, List.map_append]; rfl
        · obtain ⟨dx6, ll6, ho6, hll6, hl6⟩ := W5
          refine ⟨dx6, ll6, by rw [upd_ne nDo.symm]; exact ho6, ?_, hl6⟩
          rw [upd_ne (fun z => by
            subst z
            rw [e5] at hll6
            have := congrArg List.length (HO.lst.inj (Option.some.inj hll6))
            rw [hlen, List.length_map] at this
            omega)]
          exact hll6
      · have hb3 : partBad xs ts ws b j = true := by cases h : partBad xs ts ws b j with | true => rfl | false => rw [h] at hb2; cases hb2
        exact (er j (ffind_at hjn hb3 hgood)).mono fun Hx sx => s04.tr sx.sx
    · have hjn2 : j = n := by omega
      subst hjn2
      have fin : ∀ H3, Same H2 H3 → (tRet (tCB (fun xs H_1 Q => ∃ p ys, xs = [V.ref p] ∧ ((SqL K H_1 p ys ∧ ∀ l, H_1 l = none → Q (.ref l) (upd H_1 l (.tup ys))) ∨ SqT K H_1 p ys ∧ Q (.ref p) H_1)) (tCons (tVar 4) tNil))) { nx := fun x H' => Q .non H', rt := Q } [some (.ref o), some (.str wd), some (.ref a), some (.ref tk), some (.ref D), y5, y6, y7] H3 := fun H3 s23 => by
        refine ⟨_, rfl, D, _, rfl, .inl ⟨sqL_of (s23 _ _ e2), fun t nt => ?_⟩⟩
        have s4 : Same H3 (upd H3 t (.tup (((ws.drop b).take j).map V.str))) := (Same.refl H3).put nt
        exact q (ffind_no fun i hi => hgood i hi) _ t (W2.same (s23.trans s4)) (s2.tr (s23.trans s4).sx) sqT_new
      refine ⟨_, rfl, true, .inl ⟨_, sqL_of e2, hneE (by omega)⟩, ?_⟩
      refine iteF ⟨_, rfl, o, dx2, _, rfl, ho2, rfl, o, row, ws, _, rfl, W2, ?_⟩
      rcases part_end (ws := ws) (b := b) with he | he
      · rw [hn] at he
        rw [he]
        refine ⟨(by show 2 ≤ sizeLine; decide), fun t nt => ⟨t, _, rfl, .inr sqT_new, rfl, rfl, _, rfl, iteF ?_⟩⟩
        exact fin _ ((Same.refl H2).put nt)
      · rw [hn] at he
        rw [he]
        refine ⟨(by show 2 ≤ sizeLine; decide), fun t nt => ⟨t, _, rfl, .inr sqT_new, rfl, rfl, _, rfl, iteF ?_⟩⟩
        exact fin _ ((Same.refl H2).put nt)
  · have hf : decide (optV ws[at_]? = .str wd) = false := by
      refine decide_eq_false fun z => h1 ?_
      cases h : ws[at_]? with
      | none => rw [h] at z; cases z
      | some y => rw [h] at z; cases z; rfl
    rw [hf]
    refine iteF ⟨_, rfl, D, _, rfl, .inl ⟨sqL_of e0, fun t nt => ?_⟩⟩
    exact q0 h1 _ t (W0.same ((Same.refl H0).put nt)) (s0.trans ((Same.refl H0).put nt)).sx sqT_new
end
end Sc
namespace Sc
open PySem PySem.Spec PyProof.Rows L2
theorem sc_read_signs : FnScope ["words", "before", "most", "around"] ["words", "before"] (defScope s_read_signs) := ⟨rfl, rfl, rfl, by decide +kernel, rfl, by decide +kernel, by decide +kernel⟩
/-- a rule that is read -/
def TldAt (K : PySem.W.Frag) (C : Addr) (H : Hp) (v : V) (q : Nd × Nat) : Prop := ∃ (t c : Addr), v = .ref t ∧ H t = some (.tup [.int (q.2 : Nat), .str q.1.nm, .ref c, .str q.1.rl]) ∧ CondAt K C H c q.1.hs q.1.fs
theorem TldAt.keeps {K : PySem.W.Frag} {C : Addr} {N : Addr → Prop} {H H' : Hp} {v : V} {q : Nd × Nat} (h : TldAt K C H v q) (k : Keeps N H H') : TldAt K C H' v q := by
  obtain ⟨t, c, e, h1, h2⟩ := h
  exact ⟨t, c, e, k _ _ stays_tup h1, h2.keeps k⟩
def mostS (tl : List (Nd × Nat)) : Nat := match tl.getLast? with | none => 0 | some q => min (q.2 + 1) 5
def tMostS (K : PySem.W.Frag) (C : Addr) : TS := fun D σ H => ∃ (b : Addr) (us : List V) (tl : List (Nd × Nat)), σ[1]? = some (some (.ref b)) ∧ σ.length = 4 ∧ H b = some (.lst us) ∧ All2 (TldAt K C H) us tl ∧ D.nx (σ.set 2 (some (.int (mostS tl : Nat)))) H
abbrev sgn : Str := Str.ofString ">"
/-- how many signs stand ahead -/
def nS (ws : List Str) : Nat := (ws.takeWhile fun x => decide (x = sgn)).length
theorem nS_at {ws : List Str} {i : Nat} (h : i < nS ws) : ws[i]? = some sgn := by
  obtain ⟨x, hx, hp⟩ := takeWhile_at h
  rw [hx, of_decide_eq_true hp]
theorem nS_end {ws : List Str} : ws[nS ws]? ≠ some sgn := fun z => by
  have := takeWhile_end z
  simp at this
section
variable {P : Program} {w : World} {K : PySem.W.Frag} {mg : Str → Option Value} {base : Heap} {C R WD CC CT : Addr}
def sp_rsigns (K : PySem.W.Frag) (C WD CT : Addr) : Sp := fun vs H Q E => ∃ (o b : Addr) (row : Nat) (ws : List Str) (us : List V) (tl : List (Nd × Nat)), vs = [.ref o, .ref b] ∧ WdR WD o row H ws 0 ∧ H b = some (.lst us) ∧ All2 (TldAt K C H) us tl ∧
  (nS ws ≤ mostS tl → ∀ H', WdR WD o row H' ws (nS ws) → SameX o H H' → Q (.int (nS ws : Nat)) H') ∧ (mostS tl < nS ws → errRW CT row (mostS tl) (SameX o H) E)
theorem ok_rsigns {f : Addr} {fd : FuncData} {t1 t2 : Tok} (F : Fun K "read_signs" "read_signs" s_read_signs f fd) (B : Blt mg) (CLw : Cls K WD) (m_MOST_AROUND : mg "MOST_AROUND" = some (.int 5 t1)) (m_SIGN : mg "SIGN" = some (.str ">" t2)) (mw_ahead : MethR P w K mg base 1 WD "ahead" ["self"] (sp_ahead WD)) (mw_take : MethX P w K mg base 4 WD "take" ["self", "right"] (sp_wtake WD CT)) :
    FnOk P w K mg base (L2.CX P w) 5 f fd ["words", "before"] (sp_rsigns K C WD CT) := by
  refine F.okX sc_read_signs (fun vs H Q E h => by obtain ⟨o, b, row, ws, us, tl, rfl, _⟩ := h; rfl) (fun cdv A outer s H vs Q E hr h => ?_)
  obtain ⟨o, b, row, ws, us, tl, rfl, hW, hb, hus, q, er⟩ := h
  refine ⟨_, (pss_cons (wk_ps (tMostS K C) (ps_set (i := 2) sc_read_signs.nd rfl (Or.inl rfl) (pe_ifExp (pt_tru (pv 1) (by intro _; rfl)) (pe_callB (call_min2 rfl) (by rfl) B.b_min (by decide +kernel) (pa_cons (pe_op op_add (pe_ix ix_tup (pe_ix ix_list (pv 1) (pe_un un_neg pe_int) (fun _ _ => rfl)) pe_int (fun _ _ => rfl)) pe_int) (pa_cons (pe_glob (v := .int 5) rfl m_MOST_AROUND ⟨_, rfl⟩) pa_nil))) pe_int)) ?w1)
      (pss_cons (ps_set (i := 3) sc_read_signs.nd rfl (Or.inl rfl) pe_int)
      (pss_cons (ps_while (passes_of rfl) (pt_cmpR op_eq (pe_me0 CLw mw_ahead (hr.mono (by decide)) (pv 0)) (pe_glob (v := .str ">") rfl m_SIGN ⟨_, rfl⟩) (nomark _)) (pss_cons (ps_expr (pe_meX CLw mw_take (hr.mono (by decide)) (takes_of rfl rfl rfl rfl) (pv 0) (pa_cons (pe_cmpR op_lt (pv 3) (pv 2) (nomark _)) pa_nil)))
      (pss_one (ps_aug (i := 3) sc_read_signs.nd rfl (Or.inl rfl) pe_int ip_add))))
      (pss_one (ps_ret (pv 3)))))), ?_⟩
  case w1 =>
    rintro D σ H1 ⟨b, us, tl, g1, gl, hb, hus, q⟩
    have hul := hus.len
    refine ⟨_, g1, _, .inl ⟨_, sqL_of hb, rfl⟩, ?_⟩
    rcases List.eq_nil_or_concat tl with h | ⟨tl', q0, h⟩
    · rw [h] at hus q
      cases hus
      exact iteF q
    · rw [List.concat_eq_append] at h
      rw [h] at hus q
      have hm : mostS (tl' ++ [q0]) = min (q0.2 + 1) 5 := by unfold mostS; rw [List.getLast?_concat]
      rw [hm] at q
      obtain ⟨us', v, rfl, hv⟩ : ∃ us' v, us = us' ++ [v] ∧ TldAt K C H1 v q0 := by
        rcases List.eq_nil_or_concat us with z | ⟨a, b, z⟩
        · rw [z] at hus
          have := hus.len
          rw [List.length_append] at this
          cases this
        · rw [List.concat_eq_append] at z
          subst z
          have hl1 := hus.len
          rw [List.length_append, List.length_append] at hl1
          have hl1 : a.length = tl'.length := by
            have : a.length + 1 = tl'.length + 1 := hl1
            omega
          obtain ⟨m, hm, hr⟩ := hus.get (i := a.length) (by rw [List.getElem?_append_right (Nat.le_refl _), Nat.sub_self]; rfl)
          rw [hl1, List.getElem?_append_right (Nat.le_refl _), Nat.sub_self] at hm
          cases hm
          exact ⟨a, b, rfl, hr⟩
      have hne : (!(us' ++ [v]).isEmpty) = true := by cases us' <;> rfl
      rw [hne]
      obtain ⟨t, c, rfl, ht, _⟩ := hv
      refine iteT ⟨_, g1, 1, rfl, b, _, _, _, rfl, rfl, sqL_of hb, atI_last _ _, t, _, 0, _, rfl, rfl, sqT_of ht, atI_nat (j := 0) rfl, _, 1, rfl, rfl, _, 5, rfl, ?_⟩
      show D.nx (σ.set 2 (some (.int (if (5 : Int) < (q0.2 : Int) + 1 then 5 else (q0.2 : Int) + 1)))) H1
      have e : (if (5 : Int) < (q0.2 : Int) + 1 then 5 else (q0.2 : Int) + 1) = ((min (q0.2 + 1) 5 : Nat) : Int) := by split <;> omega
      rw [e]
      exact q
  refine ⟨b, us, tl, rfl, rfl, hb, hus, ?_⟩
  obtain ⟨dx, ll, ho, hll, hl, hrow⟩ := id hW
  have hnl : nS ws ≤ ws.length := (List.takeWhile_sublist _).length_le
  refine ⟨fun m σ H' => ∃ (i : Nat), m = nS ws - i ∧ i ≤ nS ws ∧ i ≤ mostS tl ∧ σ = [some (.ref o), some (.ref b), some (.int (mostS tl : Nat)), some (.int (i : Nat))] ∧ SameX o H H' ∧ WdR WD o row H' ws i,
    ⟨_, 0, rfl, Nat.zero_le _, Nat.zero_le _, rfl, (Same.refl H).sx, hW⟩, ?_⟩
  rintro m σ H2 ⟨i, rfl, hi, him, rfl, s2, W2⟩
  obtain ⟨dx2, ll2, ho2, _⟩ := id W2
  by_cases hi' : i < nS ws
  · have hwi := nS_at hi'
    refine ⟨_, rfl, o, dx2, _, rfl, ho2, rfl, o, row, ws, _, rfl, W2, ?_⟩
    rw [hwi]
    refine ⟨rfl, _, rfl, ?_⟩
    rw [show decide (optV (some sgn) = V.str (Str.ofString ">")) = true from decide_eq_true rfl]
    refine iteT ?_
    refine ⟨fun σ' H' => i < mostS tl ∧ σ' = [some (.ref o), some (.ref b), some (.int (mostS tl : Nat)), some (.int ((i + 1 : Nat) : Int))] ∧ SameX o H H' ∧ WdR WD o row H' ws (i + 1), fun σ' H' ⟨hm, h⟩ => ⟨_, (by omega), i + 1, rfl, hi', hm, h⟩, ?_⟩
    refine ⟨_, rfl, o, dx2, _, rfl, ho2, rfl, _, rfl, _, rfl, _, _, rfl, rfl, o, decide (i < mostS tl), row, ws, i, vsB (decide_eq_decide.mpr ⟨fun h => by omega, fun h => by omega⟩), W2, by omega, fun hb => ⟨sgn, hwi, fun H3 W3 s3 => ?_⟩, fun hb => ?_⟩
    · exact ⟨_, rfl, _, _, rfl, rfl, of_decide_eq_true hb, rfl, s2.tr s3, W3⟩
    · have hb := of_decide_eq_false hb
      have e : i = mostS tl := by omega
      rw [e]
      exact (er (by omega)).mono fun Hx sx => s2.tr sx.sx
  · have hik : i = nS ws := by omega
    subst hik
    refine ⟨_, rfl, o, dx2, _, rfl, ho2, rfl, o, row, ws, _, rfl, W2, ?_⟩
    refine ⟨(by cases ws[nS ws]? <;> rfl), _, rfl, ?_⟩
    have hf : decide (optV ws[nS ws]? = V.str (Str.ofString ">")) = false := by
      refine decide_eq_false fun z => nS_end (ws := ws) ?_
      cases h : ws[nS ws]? with
      | none => rw [h] at z; cases z
      | some y => rw [h] at z; cases z; rfl
    rw [hf]
    exact iteF ⟨_, rfl, q him H2 W2 s2⟩
end
end Sc
namespace Sc
open PySem PySem.Spec PyProof.Rows L2
theorem sc_read_rule : FnScope ["words", "facts", "before", "around", "outermost", "free", "name", "ruling", "holding", "failing", "other", "_"] ["words", "facts", "before"] (defScope s_read_rule) := ⟨rfl, rfl, rfl, by decide +kernel, rfl, by decide +kernel, by decide +kernel⟩
def outerN (tl : List (Nd × Nat)) : Nat := (tl.filter fun q => decide (q.2 = 0)).length
/-- a part is read: the place of the first wrong word, or its facts and what stands behind -/
def rdP (wd : Str) (xs ts ws : List Str) (at_ : Nat) : Nat ⊕ (List Str × Nat) :=
  if ws[at_]? = some wd then match (List.range (partN ws (at_ + 1))).find? (partBad xs ts ws (at_ + 1)) with
    | some j => .inl (at_ + 1 + j)
    | none => .inr ((ws.drop (at_ + 1)).take (partN ws (at_ + 1)), at_ + 1 + partN ws (at_ + 1))
  else .inr ([], at_)
def nameNew (tl : List (Nd × Nat)) : Option Str → Bool
  | some x => freeO (some x) && !decide (x ∈ tl.map fun q => q.1.nm)
  | none => false
/-- a rule is read: the place of the first wrong word, or the rule and in how many others it stands -/
def rdR (xs : List Str) (tl : List (Nd × Nat)) (ws : List Str) : Nat ⊕ (Nd × Nat) :=
  if 60 ≤ tl.length then .inl 0
  else if mostS tl < nS ws then .inl (mostS tl)
  else if nS ws = 0 ∧ 40 ≤ outerN tl then .inl 0
  else if nameNew tl ws[nS ws]? = false then .inl (nS ws)
  else if ws[nS ws + 1]? ≠ some (Str.ofString "is") then .inl (nS ws + 1)
  else if freeO ws[nS ws + 2]? = false then .inl (nS ws + 2)
  else match rdP (Str.ofString "if") xs [] ws (nS ws + 3) with
    | .inl e => .inl e
    | .inr (hs, a2) => match rdP (Str.ofString "not") xs hs ws a2 with
      | .inl e => .inl e
      | .inr (fs, a3) => if a3 < ws.length then .inl a3 else .inr (⟨(ws[nS ws]?).getD "", hs, fs, (ws[nS ws + 2]?).getD "", .nil⟩, nS ws)
theorem pw_of {xs : List Str} (step : ∀ i (hi : i + 1 < xs.length), SLt (xs[i]'(by omega)) xs[i + 1]) : xs.Pairwise SLt := by
  rw [List.pairwise_iff_getElem]
  intro i j hi hj hij
  induction j with
  | zero => omega
  | succ j ih =>
    by_cases e : i = j
    · subst e
      exact step i hj
    · exact List.lt_trans (ih (by omega) (by omega)) (step j hj)
theorem rdP_ok {wd : Str} {xs ts ws hs : List Str} {at_ a2 : Nat} (h : rdP wd xs ts ws at_ = .inr (hs, a2)) (hat : at_ ≤ ws.length) : hs.Pairwise SLt ∧ (∀ x ∈ hs, x ∈ xs) ∧ (∀ x ∈ hs, ¬ x ∈ ts) ∧ (hs = [] ∨ ts.length + hs.length ≤ 8) ∧ a2 ≤ ws.length := by
  unfold rdP at h
  by_cases h1 : ws[at_]? = some wd
  · rw [if_pos h1] at h
    have hal := (List.getElem?_eq_some_iff.mp h1).1
    generalize hb : at_ + 1 = b at h
    generalize hn : partN ws b = n at h
    cases hf : (List.range n).find? (partBad xs ts ws b) with
    | some j => rw [hf] at h; cases h
    | none =>
      rw [hf] at h
      have h : (Sum.inr ((ws.drop b).take n, b + n) : Nat ⊕ (List Str × Nat)) = .inr (hs, a2) := h
      injection h with h
      injection h with e1 e2
      have hn1 : 1 ≤ n := by rw [← hn]; unfold partN; omega
      rw [List.find?_eq_none] at hf
      have hgood : ∀ i, i < n → ∃ x, ws[b + i]? = some x ∧ x ∈ xs ∧ ¬ x ∈ ts ∧ risesAt ((ws.drop b).take (i + 1)) i = true ∧ ts.length + i < 8 := fun i hi => by
        have hg := hf i (List.mem_range.mpr hi)
        unfold partBad at hg
        rw [Bool.not_eq_true, Bool.not_eq_false', Bool.and_eq_true, Bool.and_eq_true] at hg
        cases hx : ws[b + i]? with
        | none => rw [hx] at hg; cases hg.1
        | some x =>
          rw [hx] at hg
          have hk : (decide (x ∈ xs) && !decide (x ∈ ts)) = true := hg.1
          rw [Bool.and_eq_true] at hk
          exact ⟨x, rfl, of_decide_eq_true hk.1, by have := hk.2; simpa using this, hg.2.1, of_decide_eq_true hg.2.2⟩
      have hbn : b + n ≤ ws.length := by
        obtain ⟨x, hx, _⟩ := hgood (n - 1) (by omega)
        have := (List.getElem?_eq_some_iff.mp hx).1
        omega
      have hlen : hs.length = n := by rw [← e1, List.length_take, List.length_drop]; omega
      have hget : ∀ i (hi : i < hs.length), ws[b + i]? = some hs[i] := fun i hi => by
        have h3 : hs[i]? = ws[b + i]? := by rw [← e1, List.getElem?_take_of_lt (by omega), List.getElem?_drop]
        rw [← h3]
        exact List.getElem?_eq_getElem hi
      refine ⟨pw_of fun i hi => ?_, fun x hx => ?_, fun x hx => ?_, .inr ?_, by omega⟩
      · obtain ⟨x, hx, _, _, hr, _⟩ := hgood (i + 1) (by omega)
        have ht : (ws.drop b).take (i + 1 + 1) = hs.take (i + 1 + 1) := by rw [← e1, List.take_take, Nat.min_eq_left (by omega)]
        rw [ht] at hr
        rw [risesAt_eq (by rw [List.length_take]; omega) (by omega) (by rw [List.length_take]; omega)] at hr
        simp only [decide_eq_true_eq] at hr
        rw [List.getElem_take, List.getElem_take] at hr
        exact hr
      · obtain ⟨i, hi, rfl⟩ := List.mem_iff_getElem.mp hx
        obtain ⟨x, hx, hm, _⟩ := hgood i (by omega)
        rw [hget i hi] at hx
        cases hx
        exact hm
      · obtain ⟨i, hi, rfl⟩ := List.mem_iff_getElem.mp hx
        obtain ⟨x, hx, _, hm, _⟩ := hgood i (by omega)
        rw [hget i hi] at hx
        cases hx
        exact hm
      · obtain ⟨_, _, _, _, _, h8⟩ := hgood (n - 1) (by omega)
        omega
  · rw [if_neg h1] at h
    injection h with h
    injection h with e1 e2
    subst e1 e2
    exact ⟨.nil, (fun _ h => nomatch h), (fun _ h => nomatch h), .inl rfl, hat⟩
def tOM : TE := fun σ H Q => ∃ (k z : Nat), σ[3]? = some (some (.int (k : Nat))) ∧ σ[4]? = some (some (.int (z : Nat))) ∧ Q (.bl (!decide (k = 0 ∧ 40 ≤ z))) H
def tFN (K : PySem.W.Frag) (WD : Addr) : TE := fun σ H Q => ∃ (o : Addr) (row : Nat) (ws : List Str) (k : Nat) (tl : List (Nd × Nat)), σ[0]? = some (some (.ref o)) ∧ σ[5]? = some (some (.bl (match ws[k]? with | some x => !decide (x ∈ tl.map fun q => q.1.nm) | none => true))) ∧ WdR WD o row H ws k ∧ (∀ x ∈ ws, x.length ≤ 10000) ∧ ∀ H', Same H H' → Q (.bl (nameNew tl ws[k]?)) H'
section
variable {P : Program} {w : World} {K : PySem.W.Frag} {mg : Str → Option Value} {base : Heap} {C R WD CC CT : Addr}
def sp_rrule (K : PySem.W.Frag) (C WD CT : Addr) : Sp := fun vs H Q E => ∃ (o a b : Addr) (row : Nat) (ws : List Str) (us : List V) (tl : List (Nd × Nat)) (xs : List Str), vs = [.ref o, .ref a, .ref b] ∧ WdR WD o row H ws 0 ∧ SqT K H a (xs.map V.str) ∧ (∀ x ∈ xs, isName x = true) ∧ H b = some (.lst us) ∧ All2 (TldAt K C H) us tl ∧ tl.length ≤ 60 ∧ (∀ x ∈ ws, x.length ≤ 10000) ∧
  (∀ e, rdR xs tl ws = .inl e → errRW CT row e (SameX o H) E) ∧ (∀ q, rdR xs tl ws = .inr q → ∀ H' v, SameX o H H' → TldAt K C H' v q → Q v H')
/-- a right condition is made -/
theorem mk_cond {C CC : Addr} {H : Hp} {c dxc wa ba : Addr} {hs fs : List Str} {Rx : Hp → Prop} {E : XK} (nc : H c = none) (ndc : H dxc = none) (hW : SqT K H wa (hs.map V.str)) (hB : SqT K H ba (fs.map V.str)) (c1 : firstWrong hs [] = none) (c2 : firstWrong fs hs = none) (l8 : hs.length + fs.length ≤ 8)
    (q : ∀ H', Same H H' → CondAt K C H' c hs fs → Rx H') : sp_cond_init K C CC [.ref c, .ref wa, .ref ba] (upd (upd H dxc (.own c)) c (.ins C dxc [])) (fun v H' => v = .non ∧ Rx H') E := by
  have s1 : Same H (upd (upd H dxc (.own c)) c (.ins C dxc [])) := ((Same.refl H).put ndc).put nc
  refine ⟨c, dxc, wa, ba, hs, fs, rfl, upd_same, s1.tup hW, s1.tup hB, fw_txts c1, fw_txts c2, by omega, by omega, (fun i e => by rw [c1] at e; cases e), fun _ => ⟨(fun i e => by rw [c2] at e; cases e), fun _ H2 nn zs sX hc hn hperm hsort => ⟨rfl, ?_⟩⟩⟩
  have s2 : Same H H2 := fun b' o' h => sX b' o' (fun e => by rw [e, nc] at h; cases h) (s1 _ _ h)
  exact q H2 s2 ⟨dxc, wa, ba, nn, zs, hc, s2.tup hW, s2.tup hB, hn, srt_uniq hperm hsort⟩
/-- a part's contract from its reading -/
theorem rpart_of {o : Addr} {row at_ : Nat} {ws xs ts : List Str} {wd : Str} {H : Hp} {Q : Addr → Hp → Prop} {E : XK} (e : ∀ e, rdP wd xs ts ws at_ = .inl e → errRW CT row e (SameX o H) E) (q : ∀ hs a2, rdP wd xs ts ws at_ = .inr (hs, a2) → ∀ H' p, WdR WD o row H' ws a2 → SameX o H H' → SqT K H' p (hs.map V.str) → Q p H') :
    (ws[at_]? ≠ some wd → ∀ H' p, WdR WD o row H' ws at_ → SameX o H H' → SqT K H' p [] → Q p H') ∧
    (ws[at_]? = some wd → (∀ j, (List.range (partN ws (at_ + 1))).find? (partBad xs ts ws (at_ + 1)) = some j → errRW CT row (at_ + 1 + j) (SameX o H) E) ∧
    ((List.range (partN ws (at_ + 1))).find? (partBad xs ts ws (at_ + 1)) = none → ∀ H' p, WdR WD o row H' ws (at_ + 1 + partN ws (at_ + 1)) → SameX o H H' → SqT K H' p (((ws.drop (at_ + 1)).take (partN ws (at_ + 1))).map V.str) → Q p H')) := by
  unfold rdP at e q
  refine ⟨fun h => ?_, fun h => ⟨fun j hj => ?_, fun hn => ?_⟩⟩
  · rw [if_neg h] at q
    exact q [] at_ rfl
  · rw [if_pos h, hj] at e
    exact e _ rfl
  · rw [if_pos h, hn] at q
    exact q _ _ rfl
theorem ok_rrule {f : Addr} {fd : FuncData} {t1 t2 : Tok} (F : Fun K "read_rule" "read_rule" s_read_rule f fd) (Bl : Blt mg) (CLw : Cls K WD) (m_MOST_RULES : mg "MOST_RULES" = some (.int 60 t1)) (m_MOST_OUTERMOST : mg "MOST_OUTERMOST" = some (.int 40 t2)) (k_Condition : Mkr P w K mg base 4 "Condition" C ["self", "holding", "failing"] (sp_cond_init K C CC))
    (mw_ahead : MethR P w K mg base 1 WD "ahead" ["self"] (sp_ahead WD)) (mw_check : MethX P w K mg base 3 WD "check" ["self", "right"] (sp_wcheck WD CT)) (mw_take : MethX P w K mg base 4 WD "take" ["self", "right"] (sp_wtake WD CT)) (mw_check_end : MethX P w K mg base 4 WD "check_end" ["self"] (sp_wend WD CT)) (c_is_free_name : Cal P w K mg base CX0 2 "is_free_name" ["word"] sp_freeO) (c_read_signs : Cal P w K mg base (L2.CX P w) 5 "read_signs" ["words", "before"] (sp_rsigns K C WD CT)) (c_read_part : Cal P w K mg base (L2.CX P w) 5 "read_part" ["words", "word", "facts", "taken"] (sp_rpart K WD CT)) :
    FnOk P w K mg base (L2.CX P w) 6 f fd ["words", "facts", "before"] (sp_rrule K C WD CT) := by
  refine F.okX sc_read_rule (fun vs H Q E h => by obtain ⟨o, a, b, row, ws, us, tl, xs, rfl, _⟩ := h; rfl) (fun cdv A outer s H vs Q E hr h => ?_)
  obtain ⟨o, a, b, row, ws, us, tl, xs, rfl, hW, hA, hxn, hb, hus, htl, hlen, er, q⟩ := h
  refine ⟨_, (pss_cons (ps_expr (pe_meX CLw mw_check (hr.mono (by decide)) (takes_of rfl rfl rfl rfl) (pv 0) (pa_cons (pe_cmpR op_lt (pe_callB call_len_seq (by rfl) Bl.b_len PySem.boot_len (pa_cons (pv 2) pa_nil)) (pe_glob (v := .int 60) rfl m_MOST_RULES ⟨_, rfl⟩) (nomark _)) pa_nil)))
      (pss_cons (ps_set (i := 3) sc_read_rule.nd rfl (Or.inl rfl) (pe_calX c_read_signs (hr.mono (by decide)) (takes_of rfl rfl rfl rfl) (pa_cons (pv 0) (pa_cons (pv 2) pa_nil))))
      (pss_cons (ps_set (i := 4) sc_read_rule.nd rfl (Or.inl rfl) (pe_callB call_len_seq (by rfl) Bl.b_len PySem.boot_len (pa_cons (pe_lc (own := [("other", 10), ("_", 11)]) (g := gTup K 4 (gCons (gName 10) (gCons (gName 11) (gCons (gName 11) (gCons (gName 11) gNil))))) rfl sc_read_rule.nd (pi_list (pv 2)) (blkOk_by (own := [("other", 10), ("_", 11)]) (N := ["words", "facts", "before", "around", "outermost", "free", "name", "ruling", "holding", "failing", "other", "_"]) (sc := defScope s_read_rule) (by decide +kernel)) (fun _ _ _ _ _ => (pg_tup (by rfl) (pgs_cons (pg_name (i := 10) sc_read_rule.nd rfl (Or.inl rfl)) (pgs_cons (pg_name (i := 11) sc_read_rule.nd rfl (Or.inl rfl)) (pgs_cons (pg_name (i := 11) sc_read_rule.nd rfl (Or.inl rfl)) (pgs_cons (pg_name (i := 11) sc_read_rule.nd rfl (Or.inl rfl)) pgs_nil)))))) (fun _ _ _ _ _ => (pts_.re (pts_one (pt_cmpR op_eq (pv 10) pe_int (nomark _))) (by first | (dsimp only [Cx.blk]; done) | exact rfl))) (fun _ _ _ _ _ => (pe_.re (pv 10) (by first | (dsimp only [Cx.blk]; done) | exact rfl)))) pa_nil)))
      (pss_cons (ps_expr (pe_meX CLw mw_check (hr.mono (by decide)) (takes_of rfl rfl rfl rfl) (pv 0) (pa_cons (pe_wk (tOM) (pe_or (pe_cmpR op_gt (pv 3) pe_int (nomark _)) (pe_one (pe_cmpR op_lt (pv 4) (pe_glob (v := .int 40) rfl m_MOST_OUTERMOST ⟨_, rfl⟩) (nomark _)))) ?w1) pa_nil)))
      (pss_cons (ps_set (i := 5) sc_read_rule.nd rfl (Or.inl rfl) (pe_cmpR op_notIn_seq (pe_me0 CLw mw_ahead (hr.mono (by decide)) (pv 0)) (pe_lc (own := [("_", 11), ("other", 10)]) (g := gTup K 4 (gCons (gName 11) (gCons (gName 10) (gCons (gName 11) (gCons (gName 11) gNil))))) (tt := tYes) rfl sc_read_rule.nd (pi_list (pv 2)) (blkOk_by (own := [("_", 11), ("other", 10)]) (N := ["words", "facts", "before", "around", "outermost", "free", "name", "ruling", "holding", "failing", "other", "_"]) (sc := defScope s_read_rule) (by decide +kernel)) (fun _ _ _ _ _ => (pg_tup (by rfl) (pgs_cons (pg_name (i := 11) sc_read_rule.nd rfl (Or.inl rfl)) (pgs_cons (pg_name (i := 10) sc_read_rule.nd rfl (Or.inl rfl)) (pgs_cons (pg_name (i := 11) sc_read_rule.nd rfl (Or.inl rfl)) (pgs_cons (pg_name (i := 11) sc_read_rule.nd rfl (Or.inl rfl)) pgs_nil)))))) (fun _ _ _ _ _ => pts_nil) (fun _ _ _ _ _ => (pe_.re (pv 10) (by first | (dsimp only [Cx.blk]; done) | exact rfl)))) rfl))
      (pss_cons (ps_set (i := 6) sc_read_rule.nd rfl (Or.inl rfl) (pe_meX CLw mw_take (hr.mono (by decide)) (takes_of rfl rfl rfl rfl) (pv 0) (pa_cons (pe_wk (tFN K WD) (pe_and (pv 5) (pe_one (pe_cal c_is_free_name (hr.mono (by decide)) (pa_cons (pe_me0 CLw mw_ahead (hr.mono (by decide)) (pv 0)) pa_nil)))) ?w2) pa_nil)))
      (pss_cons (ps_expr (pe_meX CLw mw_take (hr.mono (by decide)) (takes_of rfl rfl rfl rfl) (pv 0) (pa_cons (pe_cmpR op_eq (pe_me0 CLw mw_ahead (hr.mono (by decide)) (pv 0)) pe_str (nomark _)) pa_nil)))
      (pss_cons (ps_set (i := 7) sc_read_rule.nd rfl (Or.inl rfl) (pe_meX CLw mw_take (hr.mono (by decide)) (takes_of rfl rfl rfl rfl) (pv 0) (pa_cons (pe_cal c_is_free_name (hr.mono (by decide)) (pa_cons (pe_me0 CLw mw_ahead (hr.mono (by decide)) (pv 0)) pa_nil)) pa_nil)))
      (pss_cons (ps_set (i := 8) sc_read_rule.nd rfl (Or.inl rfl) (pe_calX c_read_part (hr.mono (by decide)) (takes_of rfl rfl rfl rfl) (pa_cons (pv 0) (pa_cons pe_str (pa_cons (pv 1) (pa_cons (pe_tup pa_nil) pa_nil))))))
      (pss_cons (ps_set (i := 9) sc_read_rule.nd rfl (Or.inl rfl) (pe_calX c_read_part (hr.mono (by decide)) (takes_of rfl rfl rfl rfl) (pa_cons (pv 0) (pa_cons pe_str (pa_cons (pv 1) (pa_cons (pv 8) pa_nil))))))
      (pss_cons (ps_expr (pe_meX0 CLw mw_check_end (hr.mono (by decide)) (takes_of rfl rfl rfl rfl) (pv 0)))
      (pss_one (ps_ret (pe_tup (pa_cons (pv 3) (pa_cons (pv 6) (pa_cons (pe_mkN k_Condition (hr.mono (by decide)) (pa_cons (pv 8) (pa_cons (pv 9) pa_nil))) (pa_cons (pv 7) pa_nil)))))))))))))))))), ?_⟩
  case w1 =>
    rintro σ H1 Q ⟨k, z, g3, g4, q⟩
    refine ⟨_, g3, _, 0, rfl, rfl, _, rfl, bcase (fun c => ?_) (fun c => ?_)⟩
    · have c : (0 : Int) < (k : Int) := of_decide_eq_true c
      rw [decide_eq_false (by omega)] at q
      exact q
    · have c : ¬ (0 : Int) < (k : Int) := of_decide_eq_false c
      refine ⟨_, g4, _, 40, rfl, rfl, ?_⟩
      show Q (V.bl (decide ((z : Int) < 40))) H1
      have e : decide ((z : Int) < 40) = !decide (k = 0 ∧ 40 ≤ z) := by
        by_cases h : (z : Int) < 40
        · rw [decide_eq_true h, decide_eq_false (by omega)]; rfl
        · rw [decide_eq_false h, decide_eq_true (by omega)]; rfl
      rw [e]
      exact q
  case w2 =>
    rintro σ H1 Q ⟨o, row, ws, k, tl, g0, g5, hW, hlen, q⟩
    obtain ⟨dx, ll, ho, hll, hl, hrow⟩ := id hW
    cases hx : ws[k]? with
    | none =>
      rw [hx] at q g5
      refine ⟨_, g5, true, rfl, iteT ⟨_, g0, o, dx, _, rfl, ho, rfl, o, row, ws, k, rfl, hW, ws[k]?, rfl, (fun x h => hlen x (List.mem_of_getElem? h)), fun H2 s2 => ?_⟩⟩
      rw [hx]
      exact q H2 s2
    | some x =>
      rw [hx] at q g5
      have q : ∀ H', Same H1 H' → Q (.bl (freeO (some x) && !decide (x ∈ tl.map fun q => q.1.nm))) H' := q
      have g5 : σ[5]? = some (some (.bl (!decide (x ∈ tl.map fun q => q.1.nm)))) := g5
      refine ⟨_, g5, !decide (x ∈ tl.map fun q => q.1.nm), rfl, ?_⟩
      generalize (!decide (x ∈ tl.map fun q => q.1.nm)) = nn at q ⊢
      cases nn with
      | false => have q := q H1 (Same.refl H1); rw [Bool.and_false] at q; exact iteF q
      | true =>
        refine iteT ⟨_, g0, o, dx, _, rfl, ho, rfl, o, row, ws, k, rfl, hW, ws[k]?, rfl, (fun x h => hlen x (List.mem_of_getElem? h)), fun H2 s2 => ?_⟩
        have q := q H2 s2
        rw [Bool.and_true] at q
        rw [hx]
        exact q
  obtain ⟨dx, ll, ho, hll, hl, hrow⟩ := id hW
  have hul := hus.len
  refine ⟨_, rfl, o, dx, _, rfl, ho, rfl, _, rfl, b, _, rfl, .inl (sqL_of hb), _, 60, rfl, rfl, o, decide (tl.length < 60), row, ws, 0, vsB (decide_eq_decide.mpr ⟨fun h => by omega, fun h => by omega⟩), hW, by decide, fun h60 => ?_, fun h60 => ?_⟩
  rotate_left
  · have h60 := of_decide_eq_false h60
    exact (er 0 (by unfold rdR; rw [if_pos (by omega)])).mono fun Hx sx => sx.sx
  have h60 : tl.length < 60 := of_decide_eq_true h60
  have hbo : b ≠ o := fun z => by rw [z, ho] at hb; cases hb
  refine ⟨_, rfl, _, rfl, o, b, row, ws, us, tl, rfl, hW, hb, hus, fun hsg H1 W1 s1 => ?_, fun hsg => ?_⟩
  rotate_left
  · exact er _ (by unfold rdR; rw [if_neg (by omega), if_pos hsg])
  have hb1 := s1 _ _ hbo hb
  have hus1 : All2 (TldAt K C H1) us tl := hus.mono fun _ _ x => x.keeps (N := NoL) (hW.keeps s1)
  refine ⟨_, rfl, b, rfl, ⟨_, sqL_of hb1⟩, fun D1 nD1 => lc_it walk_list (fun i H' => Same H1 H' ∧ ∃ zs : List V, H' D1 = some (.lst zs) ∧ zs.length = ((tl.take i).filter fun q => decide (q.2 = 0)).length) ⟨(Same.refl H1).put nD1, [], upd_same, rfl⟩ (fun _ _ _ h => sqL_of (h.1 _ _ hb1)) ?_ ?_⟩
  · rintro i y H2 H3 hi ⟨s, zs, e, hzl⟩ ⟨rfl, hy⟩
    obtain ⟨q0, hq0, t, c, rfl, ht, _⟩ := hus1.get hy
    have hi : i < us.length := hi
    refine ⟨t, _, rfl, s.tup (sqT_of ht), rfl, _, _, rfl, _, _, rfl, _, _, rfl, _, _, rfl, rfl, rfl, _, rfl, rfl, _, rfl, ?_⟩
    by_cases h0 : q0.2 = 0
    · rw [show decide (V.int (q0.2 : Nat) = V.int 0) = true from decide_eq_true (by rw [h0]; rfl)]
      refine iteT ⟨_, rfl, zs, e, small1000 (by rw [hzl]; exact Nat.le_trans (List.length_filter_le _ _) (by rw [List.length_take]; omega)), s.put nD1, _, upd_same, ?_⟩
      rw [take_more hq0, List.filter_append, List.length_append, List.length_append, hzl, show List.filter (fun q => decide (q.2 = 0)) [q0] = [q0] by rw [List.filter_cons_of_pos (by simpa using h0), List.filter_nil]]
      rfl
    · rw [show decide (V.int (q0.2 : Nat) = V.int 0) = false from decide_eq_false fun z => h0 (by have := V.int.inj z; omega)]
      refine iteF ⟨s, zs, e, ?_⟩
      rw [take_more hq0, List.filter_append, List.length_append, hzl, show List.filter (fun q => decide (q.2 = 0)) [q0] = [] by rw [List.filter_cons_of_neg (by simpa using h0), List.filter_nil]]
      rfl
  rintro H2 ⟨s2, zs, e2, hzl⟩
  rw [hul, List.take_length] at hzl
  have hzl : zs.length = outerN tl := hzl
  have W2 := W1.same s2
  obtain ⟨dx2, ll2, ho2, _⟩ := id W2
  have s02 := s1.tr s2.sx
  have hkl : nS ws ≤ ws.length := (List.takeWhile_sublist _).length_le
  generalize hk : nS ws = k at *
  refine ⟨D1, zs, rfl, .inl (sqL_of e2), ?_⟩
  rw [hzl]
  refine ⟨_, rfl, o, dx2, _, rfl, ho2, rfl, k, outerN tl, rfl, rfl, o, !decide (k = 0 ∧ 40 ≤ outerN tl), row, ws, k, rfl, W2, by omega, fun hout => ?_, fun hout => ?_⟩
  rotate_left
  · have hout : k = 0 ∧ 40 ≤ outerN tl := by
      cases h : decide (k = 0 ∧ 40 ≤ outerN tl) with
      | true => exact of_decide_eq_true h
      | false => rw [h] at hout; cases hout
    rw [hout.1]
    exact (er 0 (by unfold rdR; rw [hk, if_neg (by omega), if_neg (by omega), if_pos hout])).mono fun Hx sx => s02.tr sx.sx
  have hout : ¬ (k = 0 ∧ 40 ≤ outerN tl) := fun z => by rw [decide_eq_true z] at hout; cases hout
  have hb2 := s2 _ _ hb1
  have hus2 : All2 (TldAt K C H2) us tl := hus1.mono fun _ _ x => x.keeps (N := NoL) s2.keeps
  refine ⟨_, rfl, o, dx2, _, rfl, ho2, rfl, o, row, ws, k, rfl, W2, ?_⟩
  refine ⟨_, rfl, b, rfl, ⟨_, sqL_of hb2⟩, fun D2 nD2 => lc_it walk_list (fun i H' => Same H2 H' ∧ H' D2 = some (.lst (((tl.take i).map fun q => q.1.nm).map V.str))) ⟨(Same.refl H2).put nD2, upd_same⟩ (fun _ _ _ h => sqL_of (h.1 _ _ hb2)) ?_ ?_⟩
  · rintro i y H3 H4 hi ⟨s, e⟩ ⟨rfl, hy⟩
    obtain ⟨q0, hq0, t, c, rfl, ht, _⟩ := hus2.get hy
    have hi : i < us.length := hi
    refine ⟨t, _, rfl, s.tup (sqT_of ht), rfl, _, _, rfl, _, _, rfl, _, _, rfl, _, _, rfl, rfl, rfl, yes_ ⟨_, rfl, _, e, ?_, s.put nD2, ?_⟩⟩
    · rw [List.length_map, List.length_map, List.length_take]
      exact small1000 (by omega)
    · rw [upd_same, take_more hq0, List.map_append, List.map_append]
      rfl
  rintro H3 ⟨s3, e3⟩
  rw [hul, List.take_length] at e3
  have W3 := W2.same s3
  obtain ⟨dx3, ll3, ho3, _⟩ := id W3
  have s03 := s02.tr s3.sx
  refine ⟨D2, _, rfl, .inl (sqL_of e3), (by cases ws[k]? <;> rfl), flat_strs _, ?_⟩
  rw [if_pos rfl]
  have hfree : (!inV (optV ws[k]?) ((tl.map fun q => q.1.nm).map V.str)) = (match ws[k]? with | some x => !decide (x ∈ tl.map fun q => q.1.nm) | none => true) := by
    cases ws[k]? with
    | none => show (!inV .non _) = true; rw [inOs]; rfl
    | some x => show (!inV (.str x) _) = _; rw [inV_str]
  rw [hfree]
  refine ⟨_, rfl, o, dx3, _, rfl, ho3, rfl, o, row, ws, k, tl, rfl, rfl, W3, hlen, fun H4 s4 => ?_⟩
  have W4 := W3.same s4
  have s04 := s03.tr s4.sx
  have hR1 : nameNew tl ws[k]? = false → rdR xs tl ws = .inl k := fun h => by unfold rdR; rw [hk, if_neg (by omega), if_neg (by omega), if_neg hout, if_pos h]
  refine ⟨o, nameNew tl ws[k]?, row, ws, k, rfl, W4, by omega, fun hnn => ?_, fun hnn => (er k (hR1 hnn)).mono fun Hx sx => s04.tr sx.sx⟩
  obtain ⟨nm, hnm⟩ : ∃ x, ws[k]? = some x := by
    cases h : ws[k]? with
    | none => rw [h] at hnn; cases hnn
    | some x => exact ⟨x, rfl⟩
  have hk1 := (List.getElem?_eq_some_iff.mp hnm).1
  refine ⟨nm, hnm, fun H5 W5 s5 => ?_⟩
  obtain ⟨dx5, ll5, ho5, _⟩ := id W5
  have s05 := s04.tr s5
  refine ⟨_, rfl, o, dx5, _, rfl, ho5, rfl, _, rfl, o, dx5, _, rfl, ho5, rfl, o, row, ws, k + 1, rfl, W5, (by cases ws[k + 1]? <;> rfl), o, decide (ws[k + 1]? = some (Str.ofString "is")), row, ws, k + 1, vsB (decide_eq_decide.mpr ⟨fun z => ?_, fun z => by rw [z]; rfl⟩), W5, by omega, fun his => ?_, fun his => ?_⟩
  · cases h : ws[k + 1]? with
    | none => rw [h] at z; cases z
    | some y => rw [h] at z; cases z; rfl
  rotate_left
  · have his := of_decide_eq_false his
    exact (er (k + 1) (by unfold rdR; rw [hk, if_neg (by omega), if_neg (by omega), if_neg hout, if_neg (by rw [hnn]; decide), if_pos his])).mono fun Hx sx => s05.tr sx.sx
  have his := of_decide_eq_true his
  refine ⟨_, his, fun H6 W6 s6 => ?_⟩
  obtain ⟨dx6, ll6, ho6, _⟩ := id W6
  have s06 := s05.tr s6
  have hk2 := (List.getElem?_eq_some_iff.mp his).1
  refine ⟨_, rfl, o, dx6, _, rfl, ho6, rfl, _, rfl, o, dx6, _, rfl, ho6, rfl, o, row, ws, k + 2, rfl, W6, ws[k + 2]?, rfl, (fun x hx => hlen x (List.mem_of_getElem? hx)), fun H7 s7 => ?_⟩
  have W7 := W6.same s7
  have s07 := s06.tr s7.sx
  refine ⟨o, freeO ws[k + 2]?, row, ws, k + 2, rfl, W7, by omega, fun hfr => ?_, fun hfr => ?_⟩
  rotate_left
  · exact (er (k + 2) (by unfold rdR; rw [hk, if_neg (by omega), if_neg (by omega), if_neg hout, if_neg (by rw [hnn]; decide), if_neg (fun z => z his), if_pos hfr])).mono fun Hx sx => s07.tr sx.sx
  obtain ⟨rl, hrl⟩ : ∃ x, ws[k + 2]? = some x := by
    cases h : ws[k + 2]? with
    | none => rw [h] at hfr; cases hfr
    | some x => exact ⟨x, rfl⟩
  have hk3 := (List.getElem?_eq_some_iff.mp hrl).1
  refine ⟨rl, hrl, fun H8 W8 s8 => ?_⟩
  have s08 := s07.tr s8
  have hR2 : ∀ r, (match rdP (Str.ofString "if") xs [] ws (k + 3) with | .inl e => .inl e | .inr (hs, a2) => match rdP (Str.ofString "not") xs hs ws a2 with | .inl e => .inl e | .inr (fs, a3) => if a3 < ws.length then .inl a3 else .inr (⟨nm, hs, fs, rl, .nil⟩, k)) = r → rdR xs tl ws = r := fun r h => by
    rw [← h]
    unfold rdR
    rw [hk, if_neg (by omega), if_neg (by omega), if_neg hout, if_neg (by rw [hnn]; decide), if_neg (fun z => z his), if_neg (by rw [hfr]; decide), hnm, hrl]
    rfl
  have hA8 : SqT K H8 a (xs.map V.str) := (hW.keeps (N := NoL) s08).tup hA
  refine ⟨_, rfl, _, rfl, Nat.zero_le _, fun te nte => ?_⟩
  have s9 : Same H8 (upd H8 te (.tup [])) := (Same.refl H8).put nte
  have et : SqT K (upd H8 te (.tup [])) te (([] : List Str).map V.str) := sqT_new
  generalize upd H8 te (.tup []) = H9 at s9 et ⊢
  have W9 := W8.same s9
  have s09 := s08.tr s9.sx
  refine ⟨o, a, te, row, ws, k + 3, xs, [], Str.ofString "if", rfl, W9, by omega, s9.tup hA8, et, ?_⟩
  apply rpart_of
  · exact fun e he => (er e (hR2 _ (by rw [he]))).mono fun Hx sx => s09.tr sx
  intro hs a2 he H10 p10 W10 s10 hp10
  obtain ⟨up1, in1, _, l1, ha2⟩ := rdP_ok he (by omega)
  have s010 := s09.tr s10
  have hA10 : SqT K H10 a (xs.map V.str) := (hW.keeps (N := NoL) s010).tup hA
  refine ⟨_, rfl, _, rfl, _, rfl, ?_⟩
  refine ⟨o, a, p10, row, ws, a2, xs, hs, Str.ofString "not", rfl, W10, by omega, hA10, hp10, ?_⟩
  apply rpart_of
  · exact fun e he2 => (er e (hR2 _ (by rw [he]; dsimp only; rw [he2]))).mono fun Hx sx => s010.tr sx
  intro fs a3 he2 H11 p11 W11 s11 hp11
  obtain ⟨up2, in2, out2, l2, ha3⟩ := rdP_ok he2 ha2
  have s011 := s010.tr s11
  have hp10' : SqT K H11 p10 (hs.map V.str) := (W10.keeps (N := NoL) s11).tup hp10
  obtain ⟨dx11, ll11, ho11, _⟩ := id W11
  have hR3 : rdR xs tl ws = if a3 < ws.length then .inl a3 else .inr (⟨nm, hs, fs, rl, .nil⟩, k) := hR2 _ (by rw [he]; dsimp only; rw [he2])
  refine ⟨_, rfl, o, dx11, _, rfl, ho11, rfl, o, row, ws, a3, rfl, W11, by omega, fun hge => ?_, fun hlt => ?_⟩
  rotate_left
  · exact (er a3 (by rw [hR3, if_pos hlt])).mono fun Hx sx => s011.tr sx.sx
  have hq := q _ (by rw [hR3, if_neg (by omega)])
  have hr1 : Right hs := ⟨up1, fun x hx => hxn x (in1 x hx)⟩
  have hr2 : Right fs := ⟨up2, fun x hx => hxn x (in2 x hx)⟩
  have l1' : hs.length ≤ 8 := by
    rcases l1 with h | h
    · rw [h]; decide
    · have h : 0 + hs.length ≤ 8 := h; omega
  have c1 : firstWrong hs [] = none := hr1.none (by show 0 + hs.length ≤ 8; omega) (fun _ _ h => nomatch h)
  have l2' : hs.length + fs.length ≤ 8 := by
    rcases l2 with h | h
    · rw [h]; show hs.length + 0 ≤ 8; omega
    · exact h
  have c2 : firstWrong fs hs = none := hr2.none l2' out2
  refine ⟨_, rfl, _, rfl, _, rfl, _, rfl, fun cd dxc nc ndc nec => ?_⟩
  refine mk_cond nc ndc hp10' hp11 c1 c2 l2' fun H12 s12 hC12 => ?_
  refine ⟨_, rfl, (by show 4 ≤ sizeLine; decide), fun t nt => ?_⟩
  have s13 : Same H12 (upd H12 t (.tup [.int (k : Nat), .str nm, .ref cd, .str rl])) := (Same.refl H12).put nt
  exact hq _ (.ref t) (s011.tr (s12.trans s13).sx) ⟨t, cd, rfl, upd_same, hC12.keeps (N := NoL) s13.keeps⟩
end
end Sc
namespace Sc
open PySem PySem.Spec PyProof.Rows L2
/-- a block within a block that uses no name from around -/
theorem blkOk_any {N : List Str} {sc sc' scope : Scope} {own : List (Str × Nat)} (h : BlkOk N sc scope own) (nf : (scope.names.all fun y => match y.2 with | .free => false | _ => true) = true) : BlkOk N sc' scope own :=
  ⟨h.kind, h.uniq, h.ix, fun y hy e => by
    have q := List.all_eq_true.mp nf y hy
    rw [e] at q
    exact Bool.noConfusion q, h.own⟩
/-! ### a list of whatever items against an empty one -/
def rNilE (neg : Bool) : R2 := fun x y H Q => ∃ (a b : Addr) (xs : List V), x = .ref a ∧ y = .ref b ∧ H a = some (.lst xs) ∧ H b = some (.lst []) ∧ Q (.bl (if neg then !xs.isEmpty else xs.isEmpty)) H
section
variable {X : Cx}
theorem op_neE (hu : X.A.units + 64 < cLine) : OpR X (compareOp .NotEq) (rNilE true) := by
  intro pins s σ H x y v u Q I rx ry h
  obtain ⟨a, b, xs, rfl, rfl, ha, hb, q⟩ := h
  cases rx
  cases ry
  obtain ⟨its, r, p1, _⟩ := I.list (.inl (.inl ha))
  obtain ⟨its2, r2, p2, _⟩ := I.list (.inl (.inl hb))
  have h1 := r.length
  have h2 := r2.length
  have z2 : its2 = [] := List.length_eq_zero_iff.mp (by rw [← h2]; rfl)
  subst z2
  cases xs with
  | nil =>
    have z1 : its = [] := List.length_eq_zero_iff.mp (by rw [← h1]; rfl)
    subst z1
    exact EqBoolInt.of_rcne (SeqAt.RcNeAt.lists (e := fun _ => true) p1.isList p2.isList rfl (by omega) (fun j hj _ => absurd hj (Nat.not_lt_zero j))) ⟨.bl _, H, I, rfl, q⟩
  | cons z r0 =>
    exact EqBoolInt.of_rcne (SeqAt.RcNeAt.lists_lengths p1.isList p2.isList (by
      have : its.length ≠ 0 := by rw [← h1, List.length_cons]; omega
      simpa using fun e => this (by rw [e]; rfl)) (by omega)) ⟨.bl _, H, I, rfl, q⟩
theorem op_eqE (hu : X.A.units + 64 < cLine) : OpR X (compareOp .Eq) (rNilE false) := by
  intro pins s σ H x y v u Q I rx ry h
  obtain ⟨a, b, xs, rfl, rfl, ha, hb, q⟩ := h
  cases rx
  cases ry
  obtain ⟨its, r, p1, _⟩ := I.list (.inl (.inl ha))
  obtain ⟨its2, r2, p2, _⟩ := I.list (.inl (.inl hb))
  have h1 := r.length
  have h2 := r2.length
  have z2 : its2 = [] := List.length_eq_zero_iff.mp (by rw [← h2]; rfl)
  subst z2
  cases xs with
  | nil =>
    have z1 : its = [] := List.length_eq_zero_iff.mp (by rw [← h1]; rfl)
    subst z1
    exact EqBoolInt.of_rc (SeqAt.RcAt.lists (e := fun _ => true) p1.isList p2.isList rfl (by omega) (fun j hj _ => absurd hj (Nat.not_lt_zero j))) ⟨.bl _, H, I, rfl, q⟩
  | cons z r0 =>
    exact EqBoolInt.of_rc (SeqAt.RcAt.lists_lengths p1.isList p2.isList (by
      have : its.length ≠ 0 := by rw [← h1, List.length_cons]; omega
      simpa using fun e => this (by rw [e]; rfl)) (by omega)) ⟨.bl _, H, I, rfl, q⟩
end
end Sc
namespace Sc
open PySem PySem.Spec PyProof.Rows L2
theorem sc__law_named : FnScope ["_law_word", "_law_letters", "_law_sign"] ["_law_word"] (defScope s__law_named) := ⟨rfl, rfl, rfl, by decide +kernel, rfl, by decide +kernel, by decide +kernel⟩
theorem sc__law_read_facts : FnScope ["_law_words_here", "_law_k"] ["_law_words_here"] (defScope s__law_read_facts) := ⟨rfl, rfl, rfl, by decide +kernel, rfl, by decide +kernel, by decide +kernel⟩
theorem factBad_at {ws : List Str} {i : Nat} {x a : Str} (h : ws[i + 1]? = some x) (ha : ws[i]? = some a) : factBad ws (i + 1) = !(freeO (some x) && ((decide (i = 0) || decide (a.cps.toList < x.cps.toList)) && decide (i + 1 ≤ 60))) := by
  unfold factBad risesAt
  have e1 : ((ws.drop 1).take (i + 1))[i]? = some x := by rw [List.getElem?_take_of_lt (by omega), List.getElem?_drop, Nat.add_comm]; exact h
  rw [h, Nat.add_sub_cancel, e1]
  by_cases h0 : i = 0
  · rw [decide_eq_true h0, Bool.true_or, Bool.true_or]
  · have e2 : ((ws.drop 1).take (i + 1))[i - 1]? = some a := by rw [List.getElem?_take_of_lt (by omega), List.getElem?_drop, show 1 + (i - 1) = i by omega]; exact ha
    rw [e2]
section
variable {P : Program} {w : World} {K : PySem.W.Frag} {mg : Str → Option Value} {base : Heap}
def sp_named : Sp := fun vs H Q _ => ∃ x : Str, vs = [.str x] ∧ x.length ≤ 900 ∧ ∀ H', Same H H' → Q (.bl (freeO (some x))) H'
theorem ok_named {f : Addr} {fd : FuncData} (F : Fun K "_law_named" "_law_named" s__law_named f fd) (B : Blt mg) : FnOk P w K mg base CX0 1 f fd ["_law_word"] sp_named := by
  refine F.ok sc__law_named (fun vs H Q E h => by obtain ⟨x, rfl, _⟩ := h; rfl) (fun cdv A outer s H vs Q E hr h => ?_)
  obtain ⟨x, rfl, hx, q⟩ := h
  refine ⟨_, (pss_cons (ps_set (i := 1) sc__law_named.nd rfl (Or.inl rfl) (pe_cmpR (op_eqE hr.units) (pe_lc (own := [("_law_sign", 2)]) (g := gName 2) rfl sc__law_named.nd (pi_str (pv 0)) (blkOk_by (own := [("_law_sign", 2)]) (N := ["_law_word", "_law_letters", "_law_sign"]) (sc := defScope s__law_named) (by decide +kernel)) (fun _ _ _ _ _ => (pg_name (i := 2) sc__law_named.nd rfl (Or.inl rfl))) (fun _ _ _ _ _ => (pts_.re (pts_one (pt_cmpR op_notIn_sign (pv 2) pe_str rfl)) (by first | (dsimp only [Cx.blk]; done) | exact rfl))) (fun _ _ _ _ _ => (pe_.re (pv 2) (by first | (dsimp only [Cx.blk]; done) | exact rfl)))) (pe_lst pa_nil) (nomark _)))
      (pss_one (ps_ret (pe_and (pv 1) (pe_and (pe_chain op_le op_le pe_int (pe_callB call_len_str (by rfl) B.b_len PySem.boot_len (pa_cons (pv 0) pa_nil)) pe_int) (pe_one (pe_cmpR op_notIn_seq (pv 0) (pe_tup (pa_cons pe_str (pa_cons pe_str (pa_cons pe_str (pa_cons pe_str (pa_cons pe_str pa_nil)))))) rfl))))))), ?_⟩
  refine ⟨_, rfl, x, rfl, fun D nD => lc_it walk_str (fun i H' => Same H H' ∧ H' D = some (.lst (((x.cps.toList.take i).filter fun c => !decide (c ∈ letters.cps.toList)).map fun c => V.str ⟨#[c]⟩))) ⟨(Same.refl H).put nD, upd_same⟩ (fun _ _ _ _ => trivial) ?_ ?_⟩
  · rintro i y H2 H3 hi ⟨s, e⟩ ⟨rfl, c, hc, rfl⟩
    have hc2 : x.cps.toList[i]? = some c := by rw [Array.getElem?_toList]; exact hc
    have hl : (((x.cps.toList.take i).filter fun c => !decide (c ∈ letters.cps.toList)).map fun c => V.str ⟨#[c]⟩).length ≤ 900 := by
      rw [List.length_map]
      refine Nat.le_trans (List.length_filter_le _ _) ?_
      rw [List.length_take]
      have : x.cps.toList.length = x.length := rfl
      omega
    refine ⟨rfl, _, rfl, c, letters, rfl, rfl, _, rfl, ?_⟩
    cases hd : decide (c ∈ letters.cps.toList) with
    | true =>
      refine iteF ⟨s, ?_⟩
      rw [take_more hc2, List.filter_append, List.filter_cons_of_neg (by simpa using of_decide_eq_true hd), List.filter_nil, List.append_nil]
      exact e
    | false =>
      refine iteT ⟨_, rfl, grow (acc := fun i => ((x.cps.toList.take i).filter fun c => !decide (c ∈ letters.cps.toList)).map fun c => V.str ⟨#[c]⟩) nD s e (small1000 (by omega)) ?_⟩
      show List.map _ _ = _
      rw [take_more hc2, List.filter_append, List.filter_cons_of_pos (by simpa using of_decide_eq_false hd), List.filter_nil, List.map_append]
      rfl
  rintro H2 ⟨s, e⟩
  have el : x.cps.toList.take x.cps.size = x.cps.toList := List.take_of_length_le (by rw [Array.length_toList]; exact Nat.le_refl _)
  rw [el] at e
  have hem : (((x.cps.toList).filter fun c => !decide (c ∈ letters.cps.toList)).map fun c => V.str ⟨#[c]⟩).isEmpty = isLetters x := by
    unfold isLetters
    rw [List.isEmpty_map, Bool.eq_iff_iff, List.isEmpty_iff, List.filter_eq_nil_iff, List.all_eq_true]
    exact forall_congr' fun c => forall_congr' fun _ => by simp
  refine ⟨Nat.zero_le _, fun te nte => ?_⟩
  have s3 := s.put' (o := .lst []) nte
  refine ⟨D, te, _, rfl, rfl, by rw [upd_ne (ne_of_none e nte)]; exact e, upd_same, ?_⟩
  rw [hem]
  refine ⟨_, rfl, ?_⟩
  have hfr : freeO (some x) = (isLetters x && (decide (1 ≤ x.length) && decide (x.length ≤ 8) && !decide (x ∈ reserved))) := by
    show (isName x && !decide (x ∈ reserved)) = _
    unfold isName
    cases isLetters x <;> cases decide (1 ≤ x.length) <;> cases decide (x.length ≤ 8) <;> rfl
  cases hL : isLetters x with
  | false =>
    rw [hfr, hL] at q
    exact ⟨false, rfl, iteF (q _ s3)⟩
  | true =>
    rw [hfr, hL, Bool.true_and] at q
    refine ⟨true, rfl, iteT ?_⟩
    refine ⟨_, rfl, x, rfl, by rw [sizeLine_eq]; omega, _, _, rfl, rfl, _, rfl, bcase (fun h1 => ?_) (fun h1 => ?_)⟩
    · have h1 : 1 ≤ x.length := by have := of_decide_eq_true h1; omega
      rw [decide_eq_true h1, Bool.true_and] at q
      refine ⟨_, _, rfl, rfl, _, rfl, ?_⟩
      by_cases h2 : x.length ≤ 8
      · rw [decide_eq_true h2, Bool.true_and] at q
        rw [decide_eq_true (show (x.length : Int) ≤ 8 by omega)]
        refine iteT ⟨_, rfl, (by show 5 ≤ sizeLine; decide), fun t nt => ⟨t, _, rfl, .inr sqT_new, rfl, flat_strs reserved, ?_⟩⟩
        rw [if_pos rfl]
        show Q (V.bl (!inV (V.str x) (reserved.map V.str))) _
        rw [inV_str]
        exact q _ (s3.put' nt)
      · rw [decide_eq_false h2, Bool.false_and] at q
        rw [decide_eq_false (show ¬ (x.length : Int) ≤ 8 by omega)]
        exact iteF (q _ s3)
    · have h1 : ¬ 1 ≤ x.length := by have := of_decide_eq_false h1; omega
      rw [decide_eq_false h1, Bool.false_and, Bool.false_and] at q
      exact ⟨_, rfl, iteF (q _ s3)⟩
def sp_rdFacts (K : PySem.W.Frag) : Sp := fun vs H Q _ => ∃ (p : Addr) (ws : List Str), vs = [.ref p] ∧ H p = some (.lst (ws.map V.str)) ∧ ws ≠ [] ∧ ws.length ≤ 900 ∧ (∀ x ∈ ws, x.length ≤ 900) ∧ (∀ k, rdF ws = some k → ∀ H', Same H H' → Q (.int (k : Nat)) H') ∧ (rdF ws = none → ∀ H' t, Same H H' → SqT K H' t ((ws.drop 1).map V.str) → Q (.ref t) H')
theorem ok_rdFacts {f : Addr} {fd : FuncData} (F : Fun K "_law_read_facts" "_law_read_facts" s__law_read_facts f fd) (B : Blt mg) (c__law_named : Cal P w K mg base CX0 1 "_law_named" ["_law_word"] sp_named) : FnOk P w K mg base CX0 2 f fd ["_law_words_here"] (sp_rdFacts K) := by
  refine F.ok sc__law_read_facts (fun vs H Q E h => by obtain ⟨p, ws, rfl, _⟩ := h; rfl) (fun cdv A outer s H vs Q E hr h => ?_)
  obtain ⟨p, ws, rfl, hp, hne, hl, hwl, q0, q1⟩ := h
  refine ⟨_, (pss_cons (ps_if (pt_cmpR op_ne (pe_ix ix_list (pv 0) pe_int (fun _ _ => rfl)) pe_str (nomark _)) (pss_one (ps_ret pe_int)) pss_nil)
      (pss_cons (ps_for PassesOwn.never rfl (pi_range2 (by rfl) B.b_range (pa_cons pe_int (pa_cons (pe_callB call_len_seq (by rfl) B.b_len PySem.boot_len (pa_cons (pv 0) pa_nil)) pa_nil))) (pg_name (i := 1) sc__law_read_facts.nd rfl (Or.inl rfl)) (pss_one (ps_if (PW.pt (pw_or (pt_not (pt_val (pe_cal c__law_named (hr.mono (by decide)) (pa_cons (pe_ix ix_list (pv 0) (pv 1) (fun _ _ => rfl)) pa_nil)))) (pw_or (PW.pt (pw_and (pt_cmpR op_gt (pv 1) pe_int (nomark _)) (pw_and1 (pt_cmpR op_le_str (pe_ix ix_list (pv 0) (pv 1) (fun _ _ => rfl)) (pe_ix ix_list (pv 0) (pe_op op_sub (pv 1) pe_int) (fun _ _ => rfl)) (nomark _))))) (pw_or1 (pt_cmpR op_gt (pv 1) pe_int (nomark _)))))) (pss_one (ps_ret (pv 1))) pss_nil)))
      (pss_one (ps_ret (pe_ifExp (pt_cmpR op_gt (pe_callB call_len_seq (by rfl) B.b_len PySem.boot_len (pa_cons (pv 0) pa_nil)) pe_int (nomark _)) (pe_callTy call_tuple_of (by rfl) B.b_tuple PyProof.Rows.boot_tuple (pa_cons (pe_slice sl_list (pv 0) (po_some pe_int) po_none) pa_nil)) pe_int))))), ?_⟩
  have hlen : (ws.map V.str).length = ws.length := List.length_map ..
  obtain ⟨x0, hx0⟩ : ∃ x, ws[0]? = some x := ⟨_, List.getElem?_eq_getElem (List.length_pos_iff.mpr hne)⟩
  have hg0 : (ws.map V.str)[0]? = some (.str x0) := by rw [List.getElem?_map, hx0]; rfl
  refine ⟨_, rfl, p, _, 0, _, rfl, rfl, sqL_of hp, atI_nat (j := 0) hg0, rfl, _, rfl, ?_⟩
  by_cases h0 : x0 = Str.ofString "facts"
  · have e0 : ws[0]? = some (Str.ofString "facts") := by rw [hx0, h0]
    rw [show decide (V.str x0 = V.str (Str.ofString "facts")) = true from decide_eq_true (by rw [h0])]
    refine iteF ?_
    have hrd : rdF ws = ((List.range (max 1 (ws.length - 1))).find? fun i => factBad ws (i + 1)).map (· + 1) := by unfold rdF; rw [if_pos e0]
    have hl0 : 0 < ws.length := List.length_pos_iff.mpr hne
    refine ⟨_, rfl, p, _, rfl, .inl (sqL_of hp), 1, _, rfl, ⟨by decide, by decide, by rw [hlen]; omega, by rw [hlen]; omega⟩, ?_⟩
    rw [hlen, show (((ws.length : Nat) : Int) - 1).toNat = ws.length - 1 by omega]
    refine for_it walk_range (fun i σ H' => ∃ y1 : Option V, σ = [some (.ref p), y1] ∧ Same H H' ∧ ∀ j, j < i → factBad ws (j + 1) = false) ⟨none, rfl, Same.refl H, fun j h => absurd h (Nat.not_lt_zero j)⟩ (fun _ _ _ _ _ => trivial) ?_ ?_
    · rintro i y σ H3 H2 hi ⟨y1, rfl, s, hgood⟩ ⟨rfl, hy⟩
      have hi : i < ws.length - 1 := hi
      obtain ⟨x, hx⟩ : ∃ x, ws[i + 1]? = some x := ⟨_, List.getElem?_eq_getElem (by omega)⟩
      obtain ⟨a, ha⟩ : ∃ x, ws[i]? = some x := ⟨_, List.getElem?_eq_getElem (by omega)⟩
      have hb := factBad_at hx ha
      have hp2 := s _ _ hp
      have gx : (ws.map V.str)[i + 1]? = some (.str x) := by rw [List.getElem?_map, hx]; rfl
      have ga : (ws.map V.str)[i]? = some (.str a) := by rw [List.getElem?_map, ha]; rfl
      have hy : y = .int (1 + (i : Nat)) := hy
      obtain rfl : y = .int ((i + 1 : Nat) : Int) := hy.trans (congrArg V.int (by omega))
      have ret : ∀ H', Same H H' → factBad ws (i + 1) = true → Q (.int ((i + 1 : Nat) : Int)) H' := fun H' s' hb => q0 (i + 1) (by rw [hrd, ffind_at (j := i) (by omega) hb hgood]; rfl) H' s'
      refine ⟨_, rfl, _, rfl, p, _, _, _, rfl, rfl, sqL_of hp2, atI_nat gx, x, rfl, hwl x (List.mem_of_getElem? hx), fun H3 s3 => ⟨_, rfl, ?_⟩⟩
      have s13 := s.trans s3
      have ret3 := ret H3 s13
      cases hf : freeO (some x) with
      | false =>
        rw [hf, Bool.false_and] at hb
        exact iteT ⟨_, rfl, ret3 hb⟩
      | true =>
        rw [hf, Bool.true_and] at hb
        refine iteF ?_
        have next : factBad ws (i + 1) = false → ∀ j, j < i + 1 → factBad ws (j + 1) = false := fun h j hj => by
          rcases Nat.lt_succ_iff_lt_or_eq.mp hj with z | z
          · exact hgood j z
          · rw [z]; exact h
        refine ⟨_, rfl, _, _, rfl, rfl, _, rfl, bcase (fun c1 => ?_) (fun c1 => ?_)⟩
        · have c1 : i ≠ 0 := by have := of_decide_eq_true c1; omega
          rw [decide_eq_false c1, Bool.false_or] at hb
          refine ⟨_, rfl, _, rfl, p, _, _, _, rfl, rfl, sqL_of (s3 _ _ hp2), atI_nat gx, _, rfl, _, rfl, _, 1, rfl, rfl, p, _, _, _, rfl, rfl, sqL_of (s3 _ _ hp2), at_of (j := i) (by omega) ga, x, a, rfl, rfl, _, rfl, ?_⟩
          cases hd : decide (a.cps.toList < x.cps.toList) with
          | false =>
            rw [hd, Bool.false_and] at hb
            exact iteT ⟨_, rfl, ret3 hb⟩
          | true =>
            rw [hd, Bool.true_and] at hb
            refine iteF ⟨_, rfl, _, 60, rfl, rfl, _, rfl, bcase (fun c2 => ?_) (fun c2 => ?_)⟩
            · have c2 := of_decide_eq_true c2
              exact ⟨_, rfl, ret3 (by rw [hb, decide_eq_false (by omega)]; rfl)⟩
            · have c2 := of_decide_eq_false c2
              exact ⟨_, rfl, s13, next (by rw [hb, decide_eq_true (by omega)]; rfl)⟩
        · have c1 : i = 0 := by have := of_decide_eq_false c1; omega
          rw [decide_eq_true c1, Bool.true_or, Bool.true_and] at hb
          refine ⟨_, rfl, _, 60, rfl, rfl, _, rfl, bcase (fun c2 => ?_) (fun c2 => ?_)⟩
          · have c2 := of_decide_eq_true c2
            exact ⟨_, rfl, ret3 (by rw [hb, decide_eq_false (by omega)]; rfl)⟩
          · have c2 := of_decide_eq_false c2
            exact ⟨_, rfl, s13, next (by rw [hb, decide_eq_true (by omega)]; rfl)⟩
    · rintro σ H2 ⟨y1, rfl, s, hgood⟩
      have hgood : ∀ j, j < ws.length - 1 → factBad ws (j + 1) = false := hgood
      have hp2 := s _ _ hp
      refine ⟨_, rfl, p, _, rfl, .inl (sqL_of hp2), _, 1, rfl, rfl, _, rfl, ?_⟩
      rw [hlen]
      by_cases h1 : ws.length = 1
      · rw [decide_eq_false (by omega)]
        refine iteF (q0 1 ?_ H2 s)
        rw [hrd, ffind_at (j := 0) (by omega) ?_ (fun i h => absurd h (Nat.not_lt_zero i))]
        · rfl
        · unfold factBad
          rw [show ws[0 + 1]? = none from List.getElem?_eq_none (by omega)]
          rfl
      · rw [decide_eq_true (by omega)]
        refine iteT ⟨_, rfl, 1, rfl, p, _, rfl, sqL_of hp2, fun Dl nDl => ?_⟩
        rw [show (some 1 : Option Int) = some ((1 : Nat) : Int) from rfl, cut_from, ← List.map_drop]
        refine ⟨Dl, _, rfl, .inl ⟨sqL_of upd_same, fun t nt => ?_⟩⟩
        refine q1 ?_ _ t ((s.put' nDl).put' nt) sqT_new
        rw [hrd, ffind_no fun i hi => hgood i (by omega)]
        rfl
  · have hn : rdF ws = some 0 := by unfold rdF; rw [if_neg (by rw [hx0]; exact fun z => h0 (Option.some.inj z))]
    rw [show decide (V.str x0 = V.str (Str.ofString "facts")) = false from decide_eq_false fun z => h0 (V.str.inj z)]
    exact iteT (q0 0 hn H (Same.refl H))
end
end Sc
namespace Sc
open PySem PySem.Spec PyProof.Rows L2
theorem sc__law_read_side : FnScope ["_law_words_here", "_law_at", "_law_facts_here", "_law_barred", "_law_most", "_law_found", "_law_late"] ["_law_words_here", "_law_at", "_law_facts_here", "_law_barred", "_law_most"] (defScope s__law_read_side) := ⟨rfl, rfl, rfl, by decide +kernel, rfl, by decide +kernel, by decide +kernel⟩
/-- a word does not stand behind the last of those found -/
def lateB (fs : List Str) (x : Str) : Bool := match fs.getLast? with
  | none => false
  | some a => !decide (a.cps.toList < x.cps.toList)
theorem partBad_at {xs ts ws : List Str} {b j : Nat} {x : Str} (h : ws[b + j]? = some x) : partBad xs ts ws b j = !((decide (x ∈ xs) && !decide (x ∈ ts)) && (!lateB ((ws.drop b).take j) x && decide (ts.length + j < 8))) := by
  have hl := (List.getElem?_eq_some_iff.mp h).1
  unfold partBad
  rw [h]
  have e : risesAt ((ws.drop b).take (j + 1)) j = !lateB ((ws.drop b).take j) x := by
    have e1 : ((ws.drop b).take (j + 1))[j]? = some x := by rw [List.getElem?_take_of_lt (by omega), List.getElem?_drop]; exact h
    unfold risesAt lateB
    rw [e1]
    by_cases h0 : j = 0
    · rw [decide_eq_true h0, Bool.true_or, h0, List.take_zero]
      rfl
    · have hg : ∃ a, ws[b + (j - 1)]? = some a := ⟨_, List.getElem?_eq_getElem (by omega)⟩
      obtain ⟨a, ha⟩ := hg
      have e2 : ((ws.drop b).take (j + 1))[j - 1]? = some a := by rw [List.getElem?_take_of_lt (by omega), List.getElem?_drop]; exact ha
      have e3 : ((ws.drop b).take j).getLast? = some a := by
        rw [List.getLast?_eq_getElem?, List.length_take, List.length_drop, Nat.min_eq_left (by omega), List.getElem?_take_of_lt (by omega), List.getElem?_drop]
        exact ha
      rw [e2, e3, decide_eq_false h0, Bool.false_or, Bool.not_not]
  rw [e]
  rfl
theorem partBad_lt {xs ts ws : List Str} {b j : Nat} (h : partBad xs ts ws b j = false) : ts.length + j < 8 := by
  unfold partBad at h
  rw [Bool.not_eq_false', Bool.and_eq_true, Bool.and_eq_true] at h
  exact of_decide_eq_true h.2.2
def tLate : TE := fun σ H Q => ∃ (p D : Addr) (ws fs : List Str) (at_ : Nat) (x : Str), σ[0]? = some (some (.ref p)) ∧ σ[1]? = some (some (.int (at_ : Nat))) ∧ σ[5]? = some (some (.ref D)) ∧ H p = some (.lst (ws.map V.str)) ∧ ws[at_]? = some x ∧ H D = some (.lst (fs.map V.str)) ∧ ∀ H', Same H H' → Q (.bl (lateB fs x)) H'
section
variable {P : Program} {w : World} {K : PySem.W.Frag} {mg : Str → Option Value} {base : Heap}
def sp_rdSide (K : PySem.W.Frag) : Sp := fun vs H Q _ => ∃ (p fa br : Addr) (ws xs ts : List Str) (b : Nat), vs = [.ref p, .int (b : Nat), .ref fa, .ref br, .int (8 - ((ts.length : Nat) : Int))] ∧ H p = some (.lst (ws.map V.str)) ∧ SqT K H fa (xs.map V.str) ∧ SqT K H br (ts.map V.str) ∧ ws.length ≤ 900 ∧ b ≤ ws.length ∧ ts.length ≤ 8 ∧
  (∀ j, (List.range (partN ws b)).find? (partBad xs ts ws b) = some j → ∀ H', Same H H' → Q (.int ((b + j : Nat) : Int)) H') ∧
  ((List.range (partN ws b)).find? (partBad xs ts ws b) = none → ∀ H' t q, Same H H' → SqT K H' t [.ref q, .int ((b + partN ws b : Nat) : Int)] → SqT K H' q (((ws.drop b).take (partN ws b)).map V.str) → Q (.ref t) H')
theorem ok_rdSide {f : Addr} {fd : FuncData} (F : Fun K "_law_read_side" "_law_read_side" s__law_read_side f fd) (B : Blt mg) : FnOk P w K mg base CX0 1 f fd ["_law_words_here", "_law_at", "_law_facts_here", "_law_barred", "_law_most"] (sp_rdSide K) := by
  refine F.ok sc__law_read_side (fun vs H Q E h => by obtain ⟨p, fa, br, ws, xs, ts, b, rfl, _⟩ := h; rfl) (fun cdv A outer s H vs Q E hr h => ?_)
  obtain ⟨p, fa, br, ws, xs, ts, b, rfl, hp, hA, hT, hl, hb, ht8, q0, q1⟩ := h
  refine ⟨_, (pss_cons (ps_set (i := 5) sc__law_read_side.nd rfl (Or.inl rfl) (pe_lst pa_nil))
      (pss_cons (ps_while PassesOwn.never (PW.pt (pw_and (pt_cmpR op_lt (pv 1) (pe_callB call_len_seq (by rfl) B.b_len PySem.boot_len (pa_cons (pv 0) pa_nil)) (nomark _)) (pw_and1 (PW.pt (pw_or (pt_cmpR op_ne (pe_ix ix_list (pv 0) (pv 1) (fun _ _ => rfl)) pe_str (nomark _)) (pw_or1 (pt_cmpR (op_eqE hr.units) (pv 5) (pe_lst pa_nil) (nomark _)))))))) (pss_cons (ps_set (i := 6) sc__law_read_side.nd rfl (Or.inl rfl) (pe_wk (tLate) (pe_and (pe_cmpR (op_neE hr.units) (pv 5) (pe_lst pa_nil) (nomark _)) (pe_one (pe_cmpR op_le_str (pe_ix ix_list (pv 0) (pv 1) (fun _ _ => rfl)) (pe_ix ix_list (pv 5) (pe_un un_neg pe_int) (fun _ _ => rfl)) (nomark _)))) ?wl))
      (pss_cons (ps_if (PW.pt (pw_or (pt_cmpR op_notIn_seq (pe_ix ix_list (pv 0) (pv 1) (fun _ _ => rfl)) (pv 2) rfl) (pw_or (pt_val (pv 6)) (pw_or (pt_cmpR op_in_seq (pe_ix ix_list (pv 0) (pv 1) (fun _ _ => rfl)) (pv 3) rfl) (pw_or1 (pt_cmpR op_eq (pe_callB call_len_seq (by rfl) B.b_len PySem.boot_len (pa_cons (pv 5) pa_nil)) (pv 4) (nomark _))))))) (pss_one (ps_ret (pv 1))) pss_nil)
      (pss_cons (ps_expr (pe_bm PySem.F.plainAttrs_list PySem.F.slot_list_append PySem.F.type_list_append mt_append (pv 5) (pa_cons (pe_ix ix_list (pv 0) (pv 1) (fun _ _ => rfl)) pa_nil)))
      (pss_one (ps_set (i := 1) sc__law_read_side.nd rfl (Or.inl rfl) (pe_op op_add (pv 1) pe_int)))))))
      (pss_one (ps_ret (pe_ifExp (pt_cmpR (op_neE hr.units) (pv 5) (pe_lst pa_nil) (nomark _)) (pe_tup (pa_cons (pe_callTy call_tuple_of (by rfl) B.b_tuple PyProof.Rows.boot_tuple (pa_cons (pv 5) pa_nil)) (pa_cons (pv 1) pa_nil))) (pv 1)))))), ?_⟩
  case wl =>
    rintro σ H1 Q ⟨p, D, ws, fs, at_, x, g0, g1, g5, hp, hx, hD, q⟩
    refine ⟨_, g5, Nat.zero_le _, fun te nte => ?_⟩
    have s2 := (Same.refl H1).put (o := .lst []) nte
    refine ⟨D, te, _, rfl, rfl, s2 _ _ hD, upd_same, ?_⟩
    rcases List.eq_nil_or_concat fs with rfl | ⟨fs', a, h⟩
    · exact ⟨_, rfl, iteF (q _ s2)⟩
    · rw [List.concat_eq_append] at h
      subst h
      have hne : (!((fs' ++ [a]).map V.str).isEmpty) = true := by cases fs' <;> rfl
      rw [hne]
      refine ⟨_, rfl, iteT ?_⟩
      refine ⟨_, g0, _, g1, p, _, _, _, rfl, rfl, sqL_of (s2 _ _ hp), atI_nat (j := at_) (by rw [List.getElem?_map, hx]; rfl), _, g5, 1, rfl, D, _, _, _, rfl, rfl, sqL_of (s2 _ _ hD), (by rw [List.map_append]; exact atI_last _ _), _, _, rfl, rfl, ?_⟩
      have e : lateB (fs' ++ [a]) x = !decide (a.cps.toList < x.cps.toList) := by unfold lateB; rw [List.getLast?_concat]
      rw [← e]
      exact q _ s2
  have hpp : partN ws b = partN ws b := rfl
  refine ⟨Nat.zero_le _, fun D nD => ?_⟩
  have s0 : Same H (upd H D (.lst [])) := (Same.refl H).put nD
  have e0 : (upd H D (.lst [])) D = some (.lst []) := upd_same
  have nDH := nD
  generalize upd H D (.lst []) = H0 at s0 e0 ⊢
  generalize hn : partN ws b = n at q0 q1
  have hn1 : 1 ≤ n := by rw [← hn]; unfold partN; omega
  refine ⟨fun m σ H' => ∃ (j : Nat) (y6 : Option V), m = n - j ∧ j ≤ n ∧ σ = [some (.ref p), some (.int ((b + j : Nat) : Int)), some (.ref fa), some (.ref br), some (.int (8 - ((ts.length : Nat) : Int))), some (.ref D), y6] ∧ Same H H' ∧ H' D = some (.lst (((ws.drop b).take j).map V.str)) ∧ (∀ i, i < j → partBad xs ts ws b i = false),
    ⟨_, 0, _, rfl, Nat.zero_le _, rfl, s0, e0, fun i h => absurd h (Nat.not_lt_zero i)⟩, ?_⟩
  rintro m σ H2 ⟨j, y6, rfl, hj, rfl, s2, e2, hgood⟩
  have hex : ∀ i, i < j → ∃ x, ws[b + i]? = some x := fun i hi => by
    have hg := hgood i hi
    cases hx : ws[b + i]? with
    | none => unfold partBad at hg; rw [hx] at hg; cases hg
    | some x => exact ⟨x, rfl⟩
  have hbj : 0 < j → b + j ≤ ws.length := fun h => by
    obtain ⟨x, hx⟩ := hex (j - 1) (by omega)
    have := (List.getElem?_eq_some_iff.mp hx).1
    omega
  have hlen : (((ws.drop b).take j).map V.str).length = j := by
    rw [List.length_map, List.length_take, List.length_drop]
    by_cases h : 0 < j
    · have := hbj h; omega
    · omega
  have hemp : (((ws.drop b).take j).map V.str).isEmpty = decide (j = 0) := by
    cases hq : ((ws.drop b).take j).map V.str with
    | nil => rw [hq] at hlen; exact (decide_eq_true (show j = 0 from hlen.symm)).symm
    | cons _ _ => rw [hq] at hlen; exact (decide_eq_false (fun z : j = 0 => by rw [z] at hlen; cases hlen)).symm
  have hp2 := s2 _ _ hp
  have hA2 := s2.tup hA
  have hT2 := s2.tup hT
  refine ⟨_, rfl, _, rfl, p, _, rfl, .inl (sqL_of hp2), _, _, rfl, rfl, _, rfl, ?_⟩
  by_cases hjn : j < n
  · cases hx : ws[b + j]? with
    | none =>
      have hge : ws.length ≤ b + j := by rw [List.getElem?_eq_none_iff] at hx; exact hx
      have hj0 : j = 0 := by
        by_cases h : j = 0
        · exact h
        · obtain ⟨x, hx', _⟩ := part_in (ws := ws) (b := b) (j := j) (by omega) (by rw [hn]; exact hjn)
          rw [hx] at hx'
          cases hx'
      have hbad : partBad xs ts ws b j = true := by unfold partBad; rw [hx]; rfl
      rw [decide_eq_false (by rw [List.length_map]; omega)]
      refine iteF (iteF ?_)
      refine ⟨_, rfl, Nat.zero_le _, fun te nte => ?_⟩
      have s3 := (Same.refl H2).put (o := .lst []) nte
      refine ⟨D, te, _, rfl, rfl, s3 _ _ e2, upd_same, ?_⟩
      rw [hemp, decide_eq_true hj0]
      refine ⟨_, rfl, iteF ⟨_, rfl, ?_⟩⟩
      exact q0 j (ffind_at hjn hbad hgood) _ (s2.trans s3)
    | some x =>
      have hlt := (List.getElem?_eq_some_iff.mp hx).1
      have gx : (ws.map V.str)[b + j]? = some (.str x) := by rw [List.getElem?_map, hx]; rfl
      rw [decide_eq_true (by rw [List.length_map]; omega)]
      refine iteT ?_
      have key : ∀ T : Bool → Hp → Prop, (∀ H3, Same H2 H3 → T true H3) → (tOr (tTest (tOp rNe (tOp (rIxL K) (tVar 0) (tVar 1)) (tC (V.str (Str.ofString "not"))))) (tTest (tOp (rNilE false) (tVar 5) (tLst tNil)))) [some (.ref p), some (.int ((b + j : Nat) : Int)), some (.ref fa), some (.ref br), some (.int (8 - ((ts.length : Nat) : Int))), some (.ref D), y6] H2 T := by
        intro T hT
        refine ⟨_, rfl, _, rfl, p, _, _, _, rfl, rfl, sqL_of hp2, atI_nat gx, rfl, _, rfl, ?_⟩
        by_cases hxn : x = Str.ofString "not"
        · have hj0 : j = 0 := by
            by_cases h : j = 0
            · exact h
            · obtain ⟨x', hx', hn'⟩ := part_in (ws := ws) (b := b) (j := j) (by omega) (by rw [hn]; exact hjn)
              rw [hx] at hx'
              cases hx'
              exact absurd hxn hn'
          rw [show decide (V.str x = V.str (Str.ofString "not")) = true from decide_eq_true (by rw [hxn])]
          refine iteF ⟨_, rfl, Nat.zero_le _, fun te nte => ?_⟩
          have s3 := (Same.refl H2).put (o := .lst []) nte
          refine ⟨D, te, _, rfl, rfl, s3 _ _ e2, upd_same, ?_⟩
          rw [hemp, decide_eq_true hj0]
          exact ⟨_, rfl, hT _ s3⟩
        · rw [show decide (V.str x = V.str (Str.ofString "not")) = false from decide_eq_false fun z => hxn (V.str.inj z)]
          exact iteT (hT _ (Same.refl H2))
      refine key _ fun H3 s23 => iteT ?_
      have hp3 := s23 _ _ hp2
      have e3 := s23 _ _ e2
      refine ⟨fun σ' H' => ∃ y6 : Option V, σ' = [some (.ref p), some (.int ((b + (j + 1) : Nat) : Int)), some (.ref fa), some (.ref br), some (.int (8 - ((ts.length : Nat) : Int))), some (.ref D), y6] ∧ Same H H' ∧ H' D = some (.lst (((ws.drop b).take (j + 1)).map V.str)) ∧ partBad xs ts ws b j = false, fun σ' H' ⟨y6, e, h1, h2, h3⟩ => ⟨_, (by omega), j + 1, y6, rfl, hjn, e, h1, h2, fun i hi => by rcases Nat.lt_succ_iff_lt_or_eq.mp hi with h | h; exact hgood i h; rw [h]; exact h3⟩, ?_⟩
      refine ⟨p, D, ws, (ws.drop b).take j, b + j, x, rfl, rfl, rfl, hp3, hx, e3, fun H4 s34 => ?_⟩
      have s24 := s23.trans s34
      have s4 := s2.trans s24
      have hp4 := s34 _ _ hp3
      have e4 := s34 _ _ e3
      have hA4 := s24.tup hA2
      have hT4 := s24.tup hT2
      have hbad := partBad_at (xs := xs) (ts := ts) hx
      have ret : partBad xs ts ws b j = true → Q (.int ((b + j : Nat) : Int)) H4 := fun h => q0 j (ffind_at hjn h hgood) _ s4
      refine ⟨_, rfl, _, rfl, p, _, _, _, rfl, rfl, sqL_of hp4, atI_nat gx, _, rfl, fa, _, rfl, .inr hA4, rfl, flat_strs xs, ?_⟩
      rw [if_pos rfl]
      show ∃ c, V.bl (!inV (V.str x) (xs.map V.str)) = V.bl c ∧ _
      rw [inV_str]
      refine ⟨_, rfl, ?_⟩
      cases hxx : decide (x ∈ xs) with
      | false =>
        rw [hxx, Bool.false_and, Bool.false_and] at hbad
        exact iteT ⟨_, rfl, ret hbad⟩
      | true =>
        rw [hxx, Bool.true_and] at hbad
        refine iteF ⟨_, rfl, _, rfl, ?_⟩
        cases hlt : lateB ((ws.drop b).take j) x with
        | true =>
          rw [hlt, Bool.not_true, Bool.false_and, Bool.and_false] at hbad
          exact iteT ⟨_, rfl, ret hbad⟩
        | false =>
          rw [hlt, Bool.not_false, Bool.true_and] at hbad
          refine iteF ⟨_, rfl, _, rfl, p, _, _, _, rfl, rfl, sqL_of hp4, atI_nat gx, _, rfl, br, _, rfl, .inr hT4, rfl, flat_strs ts, ?_⟩
          rw [if_neg (by decide)]
          show ∃ c, V.bl (inV (V.str x) (ts.map V.str)) = V.bl c ∧ _
          rw [inV_str]
          refine ⟨_, rfl, ?_⟩
          cases hxt : decide (x ∈ ts) with
          | true =>
            rw [hxt, Bool.not_true, Bool.false_and] at hbad
            exact iteT ⟨_, rfl, ret hbad⟩
          | false =>
            rw [hxt, Bool.not_false, Bool.true_and] at hbad
            refine iteF ⟨_, rfl, D, _, rfl, .inl (sqL_of e4), _, rfl, rfl, _, rfl, ?_⟩
            rw [hlen]
            by_cases hj8 : ts.length + j < 8
            · rw [decide_eq_true hj8] at hbad
              rw [show decide (V.int ((j : Nat) : Int) = V.int (8 - ((ts.length : Nat) : Int))) = false from decide_eq_false fun z => by have := V.int.inj z; omega]
              refine iteF ⟨_, rfl, .inl ⟨rfl, _, sqL_of e4⟩, _, rfl, _, rfl, p, _, _, _, rfl, rfl, sqL_of hp4, atI_nat gx, D, _, _, rfl, rfl, e4, small1000 (by rw [hlen]; omega), ?_⟩
              refine ⟨_, rfl, _, 1, rfl, rfl, ?_⟩
              have hdk : (ws.drop b)[j]? = some x := by rw [List.getElem?_drop]; exact hx
              refine ⟨some (.bl false), ?_, s4.put nDH, ?_, hbad⟩
              · rw [show ((b + (j + 1) : Nat) : Int) = ((b + j : Nat) : Int) + 1 by omega]
                rfl
              · rw [upd_same, take_more hdk, List.map_append]
                rfl
            · rw [decide_eq_false hj8] at hbad
              rw [show decide (V.int ((j : Nat) : Int) = V.int (8 - ((ts.length : Nat) : Int))) = true from decide_eq_true (by rw [show ((j : Nat) : Int) = 8 - ((ts.length : Nat) : Int) by
                have h8 : ts.length + j ≤ 8 := by
                  by_cases h : j = 0
                  · omega
                  · have := partBad_lt (hgood (j - 1) (by omega)); omega
                omega])]
              exact iteT ⟨_, rfl, ret hbad⟩
  · have hjn2 : j = n := by omega
    subst hjn2
    have hbl := hbj (by omega)
    have hj0 : decide (j = 0) = false := decide_eq_false (by omega)
    have hno : (List.range j).find? (partBad xs ts ws b) = none := ffind_no fun i hi => hgood i hi
    rcases part_end (ws := ws) (b := b) with he | he
    · rw [hn] at he
      have hge : ws.length ≤ b + j := by rw [List.getElem?_eq_none_iff] at he; exact he
      rw [decide_eq_false (by rw [List.length_map]; omega)]
      refine iteF (iteF ?_)
      refine ⟨_, rfl, Nat.zero_le _, fun te nte => ?_⟩
      have s3 := (Same.refl H2).put (o := .lst []) nte
      refine ⟨D, te, _, rfl, rfl, s3 _ _ e2, upd_same, ?_⟩
      rw [hemp, hj0]
      refine ⟨_, rfl, iteT ⟨_, rfl, D, _, rfl, .inl ⟨sqL_of (s3 _ _ e2), fun q nq => ⟨_, rfl, (by show 2 ≤ sizeLine; decide), fun t nt => ?_⟩⟩⟩⟩
      exact q1 hno _ t q (((s2.trans s3).put' nq).put' nt) sqT_new (((Same.refl _).put nt).tup sqT_new)
    · rw [hn] at he
      have hlt := (List.getElem?_eq_some_iff.mp he).1
      have gx : (ws.map V.str)[b + j]? = some (.str (Str.ofString "not")) := by rw [List.getElem?_map, he]; rfl
      rw [decide_eq_true (by rw [List.length_map]; omega)]
      refine iteT ⟨_, rfl, _, rfl, p, _, _, _, rfl, rfl, sqL_of hp2, atI_nat gx, rfl, _, rfl, ?_⟩
      rw [show decide (V.str (Str.ofString "not") = V.str (Str.ofString "not")) = true from decide_eq_true rfl]
      refine iteF ⟨_, rfl, Nat.zero_le _, fun te0 nte0 => ?_⟩
      have s0 := s2.put' (o := .lst []) nte0
      have e20 := ((Same.refl H2).put (o := .lst []) nte0) _ _ e2
      refine ⟨D, te0, _, rfl, rfl, e20, upd_same, ?_⟩
      rw [hemp, hj0]
      refine ⟨_, rfl, iteF ?_⟩
      generalize upd H2 te0 (.lst []) = H3 at s0 e20 ⊢
      refine ⟨_, rfl, Nat.zero_le _, fun te nte => ?_⟩
      have s3 := (Same.refl H3).put (o := .lst []) nte
      refine ⟨D, te, _, rfl, rfl, s3 _ _ e20, upd_same, ?_⟩
      rw [hemp, hj0]
      refine ⟨_, rfl, iteT ⟨_, rfl, D, _, rfl, .inl ⟨sqL_of (s3 _ _ e20), fun q nq => ⟨_, rfl, (by show 2 ≤ sizeLine; decide), fun t nt => ?_⟩⟩⟩⟩
      exact q1 hno _ t q (((s0.trans s3).put' nq).put' nt) sqT_new (((Same.refl _).put nt).tup sqT_new)
end
end Sc
namespace Sc
open PySem PySem.Spec PyProof.Rows L2
/-! ### alike, over lists and tuples wherever they come from -/
theorem tyT {K : PySem.W.Frag} {H : Hp} {a : Addr} {xs : List V} (h : SqT K H a xs) : TyX K H (.ref a) (.type "tuple") := by
  rcases h with (h | ⟨o, h⟩) | ⟨o, its, n, hk, hc, _⟩
  · exact .base (.tup h)
  · exact .fTuple h
  · exact .kTuple hk hc
theorem _root_.L2.TyX.lst {K : PySem.W.Frag} {H : Hp} {a : Addr} {xs : List V} (h : H a = some (.lst xs)) : TyX K H (.ref a) (.type "list") := .base (.lst h)
theorem _root_.L2.TyX.int {K : PySem.W.Frag} {H : Hp} (i : Int) : TyX K H (.int i) (.type "int") := .base (.int i)
theorem _root_.L2.TyX.str {K : PySem.W.Frag} {H : Hp} (x : Str) : TyX K H (.str x) (.type "str") := .base (.str x)
theorem _root_.L2.TyX.tup {K : PySem.W.Frag} {H : Hp} {a : Addr} {xs : List V} (h : SqT K H a xs) : TyX K H (.ref a) (.type "tuple") := tyT h
def rIsTX (K : PySem.W.Frag) (T : String) : List V → Hp → VK → Prop := fun xs H Q => ∃ (x : V) (t : String) (b : Bool), xs = [x, .ty T] ∧ TyX K H x (.type t) ∧ kitB t T = some b ∧ Q (.bl b) H
theorem call_isTX {X : Cx} (T : String) : CallR X (.builtin "isinstance") (rIsTX X.K T) := by
  intro pins s σ H xs us Q I r h
  obtain ⟨x, t, b, ex, ht, hb, q⟩ := h
  exact call_isi pins s σ H xs us Q I r ⟨_, _, _, _, _, ex, .ty _, ht, kit_ty hb, q⟩
inductive AT (K : PySem.W.Frag) (H : Hp) : Nat → V → PyData → Prop where
  | int (n : Nat) (i : Int) : AT K H n (.int i) (.int i)
  | str (n : Nat) (x : Str) : AT K H n (.str x) (.str x)
  | lst {n : Nat} {a : Addr} {xs : List V} {ds : List PyData} (e : H a = some (.lst xs)) (l : xs.length = ds.length) (z : xs.length ≤ 1000000) (all : ∀ (i : Nat) (x : V) (d : PyData), xs[i]? = some x → ds[i]? = some d → AT K H n x d) : AT K H (n + 1) (.ref a) (.list ds)
  | tup {n : Nat} {a : Addr} {xs : List V} {ds : List PyData} (e : SqT K H a xs) (l : xs.length = ds.length) (z : xs.length ≤ 1000000) (all : ∀ (i : Nat) (x : V) (d : PyData), xs[i]? = some x → ds[i]? = some d → AT K H n x d) : AT K H (n + 1) (.ref a) (.tuple ds)
section
variable {P : Program} {w : World} {K : PySem.W.Frag} {mg : Str → Option Value} {base : Heap} {C R B : Addr}
theorem AT.same {H H' : Hp} {n : Nat} {x : V} {d : PyData} (s : Same H H') (h : AT K H n x d) : AT K H' n x d := by
  induction h with
  | int n i => exact .int n i
  | str n x => exact .str n x
  | lst e l z all ih => exact .lst (s _ _ e) l z ih
  | tup e l z all ih => exact .tup (s.tup e) l z ih
def sp_alikeT (K : PySem.W.Frag) (n : Nat) : Sp := fun vs H Q _ => ∃ (x y : V) (d : PyData), vs = [x, y] ∧ AT K H n x d ∧ AT K H n y d ∧ ∀ H', Same H H' → Q (.bl true) H'
/-- the answer where no list or tuple stands -/
theorem ok_alikeT0 {f : Addr} {fd : FuncData} (F : Fun K "_law_alike" "_law_alike" s__law_alike f fd) (B : Blt mg) : FnOk P w K mg base CX0 1 f fd ["_law_found", "_law_due"] (sp_alikeT K 0) := by
  refine F.ok sc__law_alike (fun vs H Q E h => by obtain ⟨x, y, d, rfl, _⟩ := h; rfl) (fun cdv A outer s H vs Q E hr h => ?_)
  obtain ⟨x, y, d, rfl, hx, hy, q⟩ := h
  refine ⟨_, (pss_cons (ps_if (pt_val (pe_callB (call_isTX "dict") (by rfl) B.b_isinstance PyProof.Rows.boot_isinstance (pa_cons (pv 1) (pa_cons (pe_bltn (v := .ty "dict") (by rfl) B.b_dict (by decide +kernel) rfl) pa_nil)))) pss_never pss_nil)
      (pss_cons (ps_if (pt_val (pe_callB call_isiT (by rfl) B.b_isinstance PyProof.Rows.boot_isinstance (pa_cons (pv 1) (pa_cons (pe_tup (pa_cons (pe_bltn (v := .ty "tuple") (by rfl) B.b_tuple PyProof.Rows.boot_tuple rfl) (pa_cons (pe_bltn (v := .ty "list") (by rfl) B.b_list PyProof.Rows.boot_list rfl) pa_nil))) pa_nil)))) pss_never pss_nil)
      (pss_cons (ps_if (PW.pt (pw_or (pt_cmpR op_isN (pv 1) pe_non (nomark _)) (pw_or1 (pt_val (pe_callB (call_isTX "str") (by rfl) B.b_isinstance PyProof.Rows.boot_isinstance (pa_cons (pv 1) (pa_cons (pe_bltn (v := .ty "str") (by rfl) B.b_str PyProof.Rows.boot_str rfl) pa_nil))))))) (pss_one (ps_ret (pe_and (pe_cmpR op_eq (pv 0) (pv 1) (nomark _)) (pe_one (pe_cmpR op_eq (pe_callB (call_isTX "str") (by rfl) B.b_isinstance PyProof.Rows.boot_isinstance (pa_cons (pv 0) (pa_cons (pe_bltn (v := .ty "str") (by rfl) B.b_str PyProof.Rows.boot_str rfl) pa_nil))) (pe_callB (call_isTX "str") (by rfl) B.b_isinstance PyProof.Rows.boot_isinstance (pa_cons (pv 1) (pa_cons (pe_bltn (v := .ty "str") (by rfl) B.b_str PyProof.Rows.boot_str rfl) pa_nil))) (nomark _)))))) pss_nil)
      (pss_one (ps_ret (pe_and (pe_callB (call_isTX "int") (by rfl) B.b_isinstance PyProof.Rows.boot_isinstance (pa_cons (pv 0) (pa_cons (pe_bltn (v := .ty "int") (by rfl) B.b_int PyProof.Rows.boot_int rfl) pa_nil))) (pe_and (pe_cmpR op_eq (pe_callB (call_isTX "bool") (by rfl) B.b_isinstance PyProof.Rows.boot_isinstance (pa_cons (pv 0) (pa_cons (pe_bltn (v := .ty "bool") (by rfl) B.b_bool PyProof.Rows.boot_bool rfl) pa_nil))) (pe_callB (call_isTX "bool") (by rfl) B.b_isinstance PyProof.Rows.boot_isinstance (pa_cons (pv 1) (pa_cons (pe_bltn (v := .ty "bool") (by rfl) B.b_bool PyProof.Rows.boot_bool rfl) pa_nil))) (nomark _)) (pe_one (pe_cmpR op_eq (pv 0) (pv 1) (nomark _)))))))))), ?_⟩
  cases hx with
  | int _ i =>
    cases hy
    refine ⟨_, rfl, _, "int", false, rfl, .int i, by decide +kernel, false, rfl, iteF ?_⟩
    refine ⟨_, rfl, (by show 2 ≤ sizeLine; decide), fun tp ntp => ⟨_, tp, _, .type "int", [.type "tuple", .type "list"], false, rfl, upd_same, .cons (.ty _) (.cons (.ty _) .nil), .base (.int i), kitAny_cons (b := false) (kit_ty (by decide +kernel)) (fun _ => kitAny_cons (b := false) (kit_ty (by decide +kernel)) (fun _ => kitAny_nil) (fun z => nomatch z)) (fun z => nomatch z), false, rfl, iteF ?_⟩⟩
    have s1 : Same H (upd H tp (.tup [.ty "tuple", .ty "list"])) := (Same.refl H).put ntp
    refine ⟨_, rfl, rfl, false, rfl, iteF ⟨_, rfl, _, "int", false, rfl, .int i, by decide +kernel, false, rfl, iteF ?_⟩⟩
    refine ⟨_, rfl, _, "int", true, rfl, .int i, by decide +kernel, true, rfl, iteT ?_⟩
    refine ⟨_, rfl, _, "int", false, rfl, .int i, by decide +kernel, _, rfl, _, "int", false, rfl, .int i, by decide +kernel, rfl, true, rfl, iteT ?_⟩
    refine ⟨_, rfl, _, rfl, rfl, ?_⟩
    rw [decide_eq_true rfl]
    exact q _ s1
  | str _ x =>
    cases hy
    refine ⟨_, rfl, _, "str", false, rfl, .str x, by decide +kernel, false, rfl, iteF ?_⟩
    refine ⟨_, rfl, (by show 2 ≤ sizeLine; decide), fun tp ntp => ⟨_, tp, _, .type "str", [.type "tuple", .type "list"], false, rfl, upd_same, .cons (.ty _) (.cons (.ty _) .nil), .base (.str x), kitAny_cons (b := false) (kit_ty (by decide +kernel)) (fun _ => kitAny_cons (b := false) (kit_ty (by decide +kernel)) (fun _ => kitAny_nil) (fun z => nomatch z)) (fun z => nomatch z), false, rfl, iteF ?_⟩⟩
    have s1 : Same H (upd H tp (.tup [.ty "tuple", .ty "list"])) := (Same.refl H).put ntp
    refine ⟨_, rfl, rfl, false, rfl, iteF ⟨_, rfl, _, "str", true, rfl, .str x, by decide +kernel, true, rfl, iteT ?_⟩⟩
    refine ⟨_, rfl, _, rfl, rfl, decide (V.str x = V.str x), rfl, ?_⟩
    rw [decide_eq_true rfl]
    refine iteT ?_
    refine ⟨_, rfl, _, "str", true, rfl, .str x, by decide +kernel, _, rfl, _, "str", true, rfl, .str x, by decide +kernel, rfl, ?_⟩
    exact q _ s1
theorem ok_alikeT {n : Nat} {f : Addr} {fd : FuncData} (F : Fun K "_law_alike" "_law_alike" s__law_alike f fd) (B : Blt mg) (c__law_alike : Cal P w K mg base CX0 (n + 1) "_law_alike" ["_law_found", "_law_due"] (sp_alikeT K n)) : FnOk P w K mg base CX0 (n + 2) f fd ["_law_found", "_law_due"] (sp_alikeT K (n + 1)) := by
  refine F.ok sc__law_alike (fun vs H Q E h => by obtain ⟨x, y, d, rfl, _⟩ := h; rfl) (fun cdv A outer s H vs Q E hr h => ?_)
  obtain ⟨x, y, d, rfl, hx, hy, q⟩ := h
  refine ⟨_, (pss_cons (ps_if (pt_val (pe_callB (call_isTX "dict") (by rfl) B.b_isinstance PyProof.Rows.boot_isinstance (pa_cons (pv 1) (pa_cons (pe_bltn (v := .ty "dict") (by rfl) B.b_dict (by decide +kernel) rfl) pa_nil)))) pss_never pss_nil)
      (pss_cons (ps_if (pt_val (pe_callB call_isiT (by rfl) B.b_isinstance PyProof.Rows.boot_isinstance (pa_cons (pv 1) (pa_cons (pe_tup (pa_cons (pe_bltn (v := .ty "tuple") (by rfl) B.b_tuple PyProof.Rows.boot_tuple rfl) (pa_cons (pe_bltn (v := .ty "list") (by rfl) B.b_list PyProof.Rows.boot_list rfl) pa_nil))) pa_nil)))) (pss_cons (ps_if (PW.pt (pw_or (pt_not (pt_val (pe_callB call_isiT (by rfl) B.b_isinstance PyProof.Rows.boot_isinstance (pa_cons (pv 0) (pa_cons (pe_tup (pa_cons (pe_bltn (v := .ty "tuple") (by rfl) B.b_tuple PyProof.Rows.boot_tuple rfl) (pa_cons (pe_bltn (v := .ty "list") (by rfl) B.b_list PyProof.Rows.boot_list rfl) pa_nil))) pa_nil))))) (pw_or1 (pt_cmpR op_ne (pe_callB (call_isTX "list") (by rfl) B.b_isinstance PyProof.Rows.boot_isinstance (pa_cons (pv 0) (pa_cons (pe_bltn (v := .ty "list") (by rfl) B.b_list PyProof.Rows.boot_list rfl) pa_nil))) (pe_callB (call_isTX "list") (by rfl) B.b_isinstance PyProof.Rows.boot_isinstance (pa_cons (pv 1) (pa_cons (pe_bltn (v := .ty "list") (by rfl) B.b_list PyProof.Rows.boot_list rfl) pa_nil))) (nomark _))))) (pss_one (ps_ret pe_bl)) pss_nil)
      (pss_cons (ps_if (pt_cmpR op_ne (pe_callB call_len_seq (by rfl) B.b_len PySem.boot_len (pa_cons (pv 0) pa_nil)) (pe_callB call_len_seq (by rfl) B.b_len PySem.boot_len (pa_cons (pv 1) pa_nil)) (nomark _)) (pss_one (ps_ret pe_bl)) pss_nil)
      (pss_one (ps_ret (pe_cmpR (op_eqD hr.units) (pe_lc (own := [("_law_k", 2)]) (g := gName 2) rfl sc__law_alike.nd (pi_range1 (by rfl) B.b_range (pa_cons (pe_callB call_len_seq (by rfl) B.b_len PySem.boot_len (pa_cons (pv 1) pa_nil)) pa_nil)) (blkOk_by (own := [("_law_k", 2)]) (N := ["_law_found", "_law_due", "_law_k"]) (sc := defScope s__law_alike) (by decide +kernel)) (fun _ _ _ _ _ => (pg_name (i := 2) sc__law_alike.nd rfl (Or.inl rfl))) (fun _ _ _ _ _ => (pts_.re (pts_one (pt_not (pt_val (pe_cal c__law_alike hr (pa_cons (pe_ix ix_seq (pv 0) (pv 2) (fun _ _ => rfl)) (pa_cons (pe_ix ix_seq (pv 1) (pv 2) (fun _ _ => rfl)) pa_nil)))))) (by first | (dsimp only [Cx.blk]; done) | exact rfl))) (fun _ _ _ _ _ => (pe_.re (pv 2) (by first | (dsimp only [Cx.blk]; done) | exact rfl)))) (pe_lst pa_nil) (nomark _)))))) pss_nil)
      (pss_cons (ps_if (PW.pt (pw_or (pt_cmpR op_isN (pv 1) pe_non (nomark _)) (pw_or1 (pt_val (pe_callB (call_isTX "str") (by rfl) B.b_isinstance PyProof.Rows.boot_isinstance (pa_cons (pv 1) (pa_cons (pe_bltn (v := .ty "str") (by rfl) B.b_str PyProof.Rows.boot_str rfl) pa_nil))))))) (pss_one (ps_ret (pe_and (pe_cmpR op_eq (pv 0) (pv 1) (nomark _)) (pe_one (pe_cmpR op_eq (pe_callB (call_isTX "str") (by rfl) B.b_isinstance PyProof.Rows.boot_isinstance (pa_cons (pv 0) (pa_cons (pe_bltn (v := .ty "str") (by rfl) B.b_str PyProof.Rows.boot_str rfl) pa_nil))) (pe_callB (call_isTX "str") (by rfl) B.b_isinstance PyProof.Rows.boot_isinstance (pa_cons (pv 1) (pa_cons (pe_bltn (v := .ty "str") (by rfl) B.b_str PyProof.Rows.boot_str rfl) pa_nil))) (nomark _)))))) pss_nil)
      (pss_one (ps_ret (pe_and (pe_callB (call_isTX "int") (by rfl) B.b_isinstance PyProof.Rows.boot_isinstance (pa_cons (pv 0) (pa_cons (pe_bltn (v := .ty "int") (by rfl) B.b_int PyProof.Rows.boot_int rfl) pa_nil))) (pe_and (pe_cmpR op_eq (pe_callB (call_isTX "bool") (by rfl) B.b_isinstance PyProof.Rows.boot_isinstance (pa_cons (pv 0) (pa_cons (pe_bltn (v := .ty "bool") (by rfl) B.b_bool PyProof.Rows.boot_bool rfl) pa_nil))) (pe_callB (call_isTX "bool") (by rfl) B.b_isinstance PyProof.Rows.boot_isinstance (pa_cons (pv 1) (pa_cons (pe_bltn (v := .ty "bool") (by rfl) B.b_bool PyProof.Rows.boot_bool rfl) pa_nil))) (nomark _)) (pe_one (pe_cmpR op_eq (pv 0) (pv 1) (nomark _)))))))))), ?_⟩
  cases hx with
  | int _ i =>
    cases hy
    refine ⟨_, rfl, _, "int", false, rfl, .int i, by decide +kernel, false, rfl, iteF ?_⟩
    refine ⟨_, rfl, (by show 2 ≤ sizeLine; decide), fun tp ntp => ⟨_, tp, _, .type "int", [.type "tuple", .type "list"], false, rfl, upd_same, .cons (.ty _) (.cons (.ty _) .nil), .base (.int i), kitAny_cons (b := false) (kit_ty (by decide +kernel)) (fun _ => kitAny_cons (b := false) (kit_ty (by decide +kernel)) (fun _ => kitAny_nil) (fun z => nomatch z)) (fun z => nomatch z), false, rfl, iteF ?_⟩⟩
    have s1 : Same H (upd H tp (.tup [.ty "tuple", .ty "list"])) := (Same.refl H).put ntp
    refine ⟨_, rfl, rfl, false, rfl, iteF ⟨_, rfl, _, "int", false, rfl, .int i, by decide +kernel, false, rfl, iteF ?_⟩⟩
    refine ⟨_, rfl, _, "int", true, rfl, .int i, by decide +kernel, true, rfl, iteT ?_⟩
    refine ⟨_, rfl, _, "int", false, rfl, .int i, by decide +kernel, _, rfl, _, "int", false, rfl, .int i, by decide +kernel, rfl, true, rfl, iteT ?_⟩
    refine ⟨_, rfl, _, rfl, rfl, ?_⟩
    rw [decide_eq_true rfl]
    exact q _ s1
  | str _ x =>
    cases hy
    refine ⟨_, rfl, _, "str", false, rfl, .str x, by decide +kernel, false, rfl, iteF ?_⟩
    refine ⟨_, rfl, (by show 2 ≤ sizeLine; decide), fun tp ntp => ⟨_, tp, _, .type "str", [.type "tuple", .type "list"], false, rfl, upd_same, .cons (.ty _) (.cons (.ty _) .nil), .base (.str x), kitAny_cons (b := false) (kit_ty (by decide +kernel)) (fun _ => kitAny_cons (b := false) (kit_ty (by decide +kernel)) (fun _ => kitAny_nil) (fun z => nomatch z)) (fun z => nomatch z), false, rfl, iteF ?_⟩⟩
    have s1 : Same H (upd H tp (.tup [.ty "tuple", .ty "list"])) := (Same.refl H).put ntp
    refine ⟨_, rfl, rfl, false, rfl, iteF ⟨_, rfl, _, "str", true, rfl, .str x, by decide +kernel, true, rfl, iteT ?_⟩⟩
    refine ⟨_, rfl, _, rfl, rfl, decide (V.str x = V.str x), rfl, ?_⟩
    rw [decide_eq_true rfl]
    refine iteT ?_
    refine ⟨_, rfl, _, "str", true, rfl, .str x, by decide +kernel, _, rfl, _, "str", true, rfl, .str x, by decide +kernel, rfl, ?_⟩
    exact q _ s1
  | lst e l z all =>
    rename_i p xs ds
    cases hy with
    | lst e2 l2 z2 all2 =>
      rename_i q0 ys
      refine ⟨_, rfl, _, "list", false, rfl, .lst e2, by decide +kernel, false, rfl, iteF ?_⟩
      refine ⟨_, rfl, (by show 2 ≤ sizeLine; decide), fun tp ntp => ?_⟩
      have s1 : Same H (upd H tp (.tup [.ty "tuple", .ty "list"])) := (Same.refl H).put ntp
      refine ⟨_, tp, _, .type "list", [.type "tuple", .type "list"], true, rfl, upd_same, .cons (.ty _) (.cons (.ty _) .nil), .base (.lst (s1 _ _ e2)), kitAny_cons (b := false) (kit_ty (by decide +kernel)) (fun _ => kitAny_cons (b := true) (kit_ty (by decide +kernel)) (fun z => nomatch z) (fun _ => rfl)) (fun z => nomatch z), true, rfl, iteT ?_⟩
      refine ⟨_, rfl, (by show 2 ≤ sizeLine; decide), fun tp2 ntp2 => ?_⟩
      have s2 := s1.put' (o := .tup [.ty "tuple", .ty "list"]) ntp2
      refine ⟨_, tp2, _, .type "list", [.type "tuple", .type "list"], true, rfl, upd_same, .cons (.ty _) (.cons (.ty _) .nil), .base (.lst (s2 _ _ e)), kitAny_cons (b := false) (kit_ty (by decide +kernel)) (fun _ => kitAny_cons (b := true) (kit_ty (by decide +kernel)) (fun z => nomatch z) (fun _ => rfl)) (fun z => nomatch z), true, rfl, iteF ?_⟩
      refine ⟨_, rfl, _, "list", true, rfl, .lst (s2 _ _ e), by decide +kernel, _, rfl, _, "list", true, rfl, .lst (s2 _ _ e2), by decide +kernel, rfl, _, rfl, iteF ?_⟩
      refine ⟨_, rfl, p, _, rfl, .inl (sqL_of (s2 _ _ e)), _, rfl, q0, _, rfl, .inl (sqL_of (s2 _ _ e2)), rfl, _, rfl, ?_⟩
      have el : ((xs.length : Nat) : Int) = (ys.length : Nat) := by rw [l, l2]
      rw [el, decide_eq_true rfl]
      refine iteF ?_
      refine ⟨_, rfl, q0, _, rfl, .inl (sqL_of (s2 _ _ e2)), _, rfl, by omega, by omega, fun D nD => lc_it walk_range (fun i H' => Same H H' ∧ H' D = some (.lst [])) ⟨s2.put' nD, upd_same⟩ (fun _ _ _ _ => trivial) ?_ ?_⟩
      · rintro i y H2 H3 hi ⟨s3, e3⟩ ⟨rfl, hy⟩
        have hy : y = V.int (i : Nat) := by
          rw [hy]
          show V.int (0 + (i : Nat)) = _
          rw [Int.zero_add]
        subst hy
        have hi : i < ys.length := by simpa using hi
        have hix : i < xs.length := by omega
        have hid : i < ds.length := by omega
        refine ⟨rfl, _, rfl, _, rfl, .inl ⟨_, _, (i : Nat), _, rfl, rfl, sqL_of (s3 _ _ e), atI_nat (List.getElem?_eq_getElem hix), ?_⟩⟩
        refine ⟨_, rfl, _, rfl, .inl ⟨_, _, (i : Nat), _, rfl, rfl, sqL_of (s3 _ _ e2), atI_nat (List.getElem?_eq_getElem hi), ?_⟩⟩
        refine ⟨_, _, ds[i], rfl, (all i _ _ (List.getElem?_eq_getElem hix) (List.getElem?_eq_getElem hid)).same s3, (all2 i _ _ (List.getElem?_eq_getElem hi) (List.getElem?_eq_getElem hid)).same s3, fun H4 s4 => ⟨true, rfl, iteF ⟨s3.trans s4, s4 _ _ e3⟩⟩⟩
      · rintro H2 ⟨s3, e3⟩
        refine ⟨Nat.zero_le _, fun p2 np2 => ⟨.list [], .list [], .lst (sqL_of (by rw [upd_ne (ne_of_none e3 np2)]; exact e3)) .nil, .lst sqL_new .nil, rfl, rfl, q _ (s3.put' np2)⟩⟩
  | tup e l z all =>
    rename_i p xs ds
    cases hy with
    | tup e2 l2 z2 all2 =>
      rename_i q0 ys
      refine ⟨_, rfl, _, "tuple", false, rfl, .tup e2, by decide +kernel, false, rfl, iteF ?_⟩
      refine ⟨_, rfl, (by show 2 ≤ sizeLine; decide), fun tp ntp => ?_⟩
      have s1 : Same H (upd H tp (.tup [.ty "tuple", .ty "list"])) := (Same.refl H).put ntp
      refine ⟨_, tp, _, .type "tuple", [.type "tuple", .type "list"], true, rfl, upd_same, .cons (.ty _) (.cons (.ty _) .nil), tyT (s1.tup e2), kitAny_cons (b := true) (kit_ty (by decide +kernel)) (fun z => nomatch z) (fun _ => rfl), true, rfl, iteT ?_⟩
      refine ⟨_, rfl, (by show 2 ≤ sizeLine; decide), fun tp2 ntp2 => ?_⟩
      have s2 := s1.put' (o := .tup [.ty "tuple", .ty "list"]) ntp2
      refine ⟨_, tp2, _, .type "tuple", [.type "tuple", .type "list"], true, rfl, upd_same, .cons (.ty _) (.cons (.ty _) .nil), tyT (s2.tup e), kitAny_cons (b := true) (kit_ty (by decide +kernel)) (fun z => nomatch z) (fun _ => rfl), true, rfl, iteF ?_⟩
      refine ⟨_, rfl, _, "tuple", false, rfl, .tup (s2.tup e), by decide +kernel, _, rfl, _, "tuple", false, rfl, .tup (s2.tup e2), by decide +kernel, rfl, _, rfl, iteF ?_⟩
      refine ⟨_, rfl, p, _, rfl, .inr (s2.tup e), _, rfl, q0, _, rfl, .inr (s2.tup e2), rfl, _, rfl, ?_⟩
      have el : ((xs.length : Nat) : Int) = (ys.length : Nat) := by rw [l, l2]
      rw [el, decide_eq_true rfl]
      refine iteF ?_
      refine ⟨_, rfl, q0, _, rfl, .inr (s2.tup e2), _, rfl, by omega, by omega, fun D nD => lc_it walk_range (fun i H' => Same H H' ∧ H' D = some (.lst [])) ⟨s2.put' nD, upd_same⟩ (fun _ _ _ _ => trivial) ?_ ?_⟩
      · rintro i y H2 H3 hi ⟨s3, e3⟩ ⟨rfl, hy⟩
        have hy : y = V.int (i : Nat) := by
          rw [hy]
          show V.int (0 + (i : Nat)) = _
          rw [Int.zero_add]
        subst hy
        have hi : i < ys.length := by simpa using hi
        have hix : i < xs.length := by omega
        have hid : i < ds.length := by omega
        refine ⟨rfl, _, rfl, _, rfl, .inr (.inl ⟨_, _, (i : Nat), _, rfl, rfl, s3.tup e, atI_nat (List.getElem?_eq_getElem hix), ?_⟩)⟩
        refine ⟨_, rfl, _, rfl, .inr (.inl ⟨_, _, (i : Nat), _, rfl, rfl, s3.tup e2, atI_nat (List.getElem?_eq_getElem hi), ?_⟩)⟩
        refine ⟨_, _, ds[i], rfl, (all i _ _ (List.getElem?_eq_getElem hix) (List.getElem?_eq_getElem hid)).same s3, (all2 i _ _ (List.getElem?_eq_getElem hi) (List.getElem?_eq_getElem hid)).same s3, fun H4 s4 => ⟨true, rfl, iteF ⟨s3.trans s4, s4 _ _ e3⟩⟩⟩
      · rintro H2 ⟨s3, e3⟩
        refine ⟨Nat.zero_le _, fun p2 np2 => ⟨.list [], .list [], .lst (sqL_of (by rw [upd_ne (ne_of_none e3 np2)]; exact e3)) .nil, .lst sqL_new .nil, rfl, rfl, q _ (s3.put' np2)⟩⟩
end
end Sc
namespace Sc
open PySem PySem.Spec PyProof.Rows L2
theorem sc__law_read_rule : FnScope ["_law_words_here", "_law_facts_here", "_law_names", "_law_above", "_law_deep", "_law_at", "_law_k", "_law_word", "_law_sides_here", "_law_found"] ["_law_words_here", "_law_facts_here", "_law_names", "_law_above"] (defScope s__law_read_rule) := ⟨rfl, rfl, rfl, by decide +kernel, rfl, by decide +kernel, by decide +kernel⟩
/-- a read rule as a row -/
def KnAt (K : PySem.W.Frag) (H : Hp) (v : V) (q : Nd × Nat) : Prop := ∃ (t a b : Addr), v = .ref t ∧ SqT K H t [.int (q.2 : Nat), .str q.1.nm, .ref a, .ref b, .str q.1.rl] ∧ SqT K H a (q.1.hs.map V.str) ∧ SqT K H b (q.1.fs.map V.str)
theorem KnAt.keeps {K : PySem.W.Frag} {N : Addr → Prop} {H H' : Hp} {v : V} {q : Nd × Nat} (h : KnAt K H v q) (k : Keeps N H H') : KnAt K H' v q := by
  obtain ⟨t, a, b, e, h1, h2, h3⟩ := h
  exact ⟨t, a, b, e, k.tup h1, k.tup h2, k.tup h3⟩
/-- how deep the rule ahead stands, or -1 -/
def aboveI (tl : List (Nd × Nat)) : Int := match tl.getLast? with
  | none => -1
  | some q => (q.2 : Nat)
theorem most_above {tl : List (Nd × Nat)} {i : Nat} (h : i ≤ mostS tl) : (aboveI tl < (i : Nat) ∨ i = 5) ↔ i = mostS tl := by
  unfold aboveI mostS at *
  cases e : tl.getLast? with
  | none => rw [e] at h; have h : i ≤ 0 := h; constructor <;> intro z <;> first | (show i = 0; omega) | (left; show (-1 : Int) < (i : Nat); omega)
  | some q =>
    rw [e] at h
    have h : i ≤ min (q.2 + 1) 5 := h
    show (((q.2 : Nat) : Int) < (i : Nat) ∨ i = 5) ↔ i = min (q.2 + 1) 5
    omega
/-- the three words of a rule ahead of its condition -/
def good3 (tl : List (Nd × Nat)) (i : Nat) (o : Option Str) : Bool := match i with
  | 0 => nameNew tl o
  | 1 => decide (o = some (Str.ofString "is"))
  | _ => freeO o
/-- the parts of a condition, behind i of the two words -/
def SidesS (xs ws : List Str) (i : Nat) (hs fs : List Str) (at_ : Nat) : Prop := (i = 0 ∧ hs = [] ∧ fs = [] ∧ at_ = nS ws + 3) ∨ (i = 1 ∧ rdP (Str.ofString "if") xs [] ws (nS ws + 3) = .inr (hs, at_) ∧ fs = []) ∨ (i = 2 ∧ ∃ a2, rdP (Str.ofString "if") xs [] ws (nS ws + 3) = .inr (hs, a2) ∧ rdP (Str.ofString "not") xs hs ws a2 = .inr (fs, at_))
def wordI (i : Nat) : Str := if i = 0 then Str.ofString "if" else Str.ofString "not"
theorem blank_is : ¬ Str.ofString " " = Str.ofString "is" := by decide +kernel
def tWd : TE := fun σ H Q => ∃ (p : Addr) (ws : List Str) (k : Nat), σ[0]? = some (some (.ref p)) ∧ σ[5]? = some (some (.int (k : Nat))) ∧ H p = some (.lst (ws.map V.str)) ∧ Q (.str ((ws[k]?).getD (Str.ofString " "))) H
def tBadN : TE := fun σ H Q => ∃ (nl : Addr) (x : Str) (ns : List Str), σ[2]? = some (some (.ref nl)) ∧ σ[7]? = some (some (.str x)) ∧ H nl = some (.lst (ns.map V.str)) ∧ x.length ≤ 900 ∧ ∀ H', Same H H' → Q (.bl (!(freeO (some x) && !decide (x ∈ ns)))) H'
theorem blank_free : freeO (some (Str.ofString " ")) = false := by decide +kernel
section
variable {P : Program} {w : World} {K : PySem.W.Frag} {mg : Str → Option Value} {base : Heap}
def sp_rdRule (K : PySem.W.Frag) : Sp := fun vs H Q _ => ∃ (p fa nl : Addr) (ws xs : List Str) (tl : List (Nd × Nat)), vs = [.ref p, .ref fa, .ref nl, .int (aboveI tl)] ∧ H p = some (.lst (ws.map V.str)) ∧ SqT K H fa (xs.map V.str) ∧ H nl = some (.lst ((tl.map fun q => q.1.nm).map V.str)) ∧ ws.length ≤ 900 ∧ (∀ x ∈ ws, x.length ≤ 900) ∧ tl.length < 60 ∧ ¬ (nS ws = 0 ∧ 40 ≤ outerN tl) ∧
  (∀ e, rdR xs tl ws = .inl e → ∀ H', Same H H' → Q (.int (e : Nat)) H') ∧ (∀ q, rdR xs tl ws = .inr q → ∀ H' t, Same H H' → KnAt K H' (.ref t) q → Q (.ref t) H')
theorem ok_rdRule {f : Addr} {fd : FuncData} (F : Fun K "_law_read_rule" "_law_read_rule" s__law_read_rule f fd) (B : Blt mg) (c__law_named : Cal P w K mg base CX0 1 "_law_named" ["_law_word"] sp_named) (c__law_read_side : Cal P w K mg base CX0 1 "_law_read_side" ["_law_words_here", "_law_at", "_law_facts_here", "_law_barred", "_law_most"] (sp_rdSide K)) : FnOk P w K mg base CX0 2 f fd ["_law_words_here", "_law_facts_here", "_law_names", "_law_above"] (sp_rdRule K) := by
  refine F.ok sc__law_read_rule (fun vs H Q E h => by obtain ⟨p, fa, nl, ws, xs, tl, rfl, _⟩ := h; rfl) (fun cdv A outer s H vs Q E hr h => ?_)
  obtain ⟨p, fa, nl, ws, xs, tl, rfl, hp, hA, hN, hl, hwl, h60, ho40, q0, q1⟩ := h
  refine ⟨_, (pss_cons (ps_set (i := 4) sc__law_read_rule.nd rfl (Or.inl rfl) pe_int)
      (pss_cons (ps_while PassesOwn.never (PW.pt (pw_and (pt_cmpR op_lt (pv 4) (pe_callB call_len_seq (by rfl) B.b_len PySem.boot_len (pa_cons (pv 0) pa_nil)) (nomark _)) (pw_and1 (pt_cmpR op_eq (pe_ix ix_list (pv 0) (pv 4) (fun _ _ => rfl)) pe_str (nomark _))))) (pss_cons (ps_if (PW.pt (pw_or (pt_cmpR op_gt (pv 4) (pv 3) (nomark _)) (pw_or1 (pt_cmpR op_eq (pv 4) pe_int (nomark _))))) (pss_one (ps_ret (pv 4))) pss_nil)
      (pss_one (ps_set (i := 4) sc__law_read_rule.nd rfl (Or.inl rfl) (pe_op op_add (pv 4) pe_int)))))
      (pss_cons (ps_set (i := 5) sc__law_read_rule.nd rfl (Or.inl rfl) (pv 4))
      (pss_cons (ps_for PassesOwn.never rfl (pi_range1 (by rfl) B.b_range (pa_cons pe_int pa_nil)) (pg_name (i := 6) sc__law_read_rule.nd rfl (Or.inl rfl)) (pss_cons (ps_set (i := 7) sc__law_read_rule.nd rfl (Or.inl rfl) (pe_wk (tWd) (pe_ifExp (pt_cmpR op_lt (pv 5) (pe_callB call_len_seq (by rfl) B.b_len PySem.boot_len (pa_cons (pv 0) pa_nil)) (nomark _)) (pe_ix ix_list (pv 0) (pv 5) (fun _ _ => rfl)) pe_str) ?ww))
      (pss_cons (ps_if (pt_val (pe_ix ix_list (pe_lst (pa_cons (pe_wk (tBadN) (pe_or (pe_not (pe_cal c__law_named (hr.mono (by decide)) (pa_cons (pv 7) pa_nil))) (pe_one (pe_cmpR op_in_seq (pv 7) (pv 2) rfl))) ?wn) (pa_cons (pe_cmpR op_ne (pv 7) pe_str (nomark _)) (pa_cons (pe_not (pe_cal c__law_named (hr.mono (by decide)) (pa_cons (pv 7) pa_nil))) pa_nil)))) (pv 6) (fun _ _ => rfl))) (pss_one (ps_ret (pv 5))) pss_nil)
      (pss_one (ps_set (i := 5) sc__law_read_rule.nd rfl (Or.inl rfl) (pe_op op_add (pv 5) pe_int))))))
      (pss_cons (ps_set (i := 8) sc__law_read_rule.nd rfl (Or.inl rfl) (pe_lst (pa_cons (pe_tup pa_nil) (pa_cons (pe_tup pa_nil) pa_nil))))
      (pss_cons (ps_for PassesOwn.never rfl (pi_range1 (by rfl) B.b_range (pa_cons pe_int pa_nil)) (pg_name (i := 6) sc__law_read_rule.nd rfl (Or.inl rfl)) (pss_one (ps_if (PW.pt (pw_and (pt_cmpR op_lt (pv 5) (pe_callB call_len_seq (by rfl) B.b_len PySem.boot_len (pa_cons (pv 0) pa_nil)) (nomark _)) (pw_and1 (pt_cmpR op_eq (pe_ix ix_list (pv 0) (pv 5) (fun _ _ => rfl)) (pe_ix ix_list (pe_lst (pa_cons pe_str (pa_cons pe_str pa_nil))) (pv 6) (fun _ _ => rfl)) (nomark _))))) (pss_cons (ps_set (i := 9) sc__law_read_rule.nd rfl (Or.inl rfl) (pe_cal c__law_read_side (hr.mono (by decide)) (pa_cons (pv 0) (pa_cons (pe_op op_add (pv 5) pe_int) (pa_cons (pv 1) (pa_cons (pe_ix ix_list (pv 8) pe_int (fun _ _ => rfl)) (pa_cons (pe_op op_sub pe_int (pe_callB call_len_seq (by rfl) B.b_len PySem.boot_len (pa_cons (pe_ix ix_list (pv 8) pe_int (fun _ _ => rfl)) pa_nil))) pa_nil)))))))
      (pss_cons (ps_if (pt_val (pe_callB (call_isTX "int") (by rfl) B.b_isinstance PyProof.Rows.boot_isinstance (pa_cons (pv 9) (pa_cons (pe_bltn (v := .ty "int") (by rfl) B.b_int PyProof.Rows.boot_int rfl) pa_nil)))) (pss_one (ps_ret (pv 9))) pss_nil)
      (pss_one (ps_asg (pv 9) (pg_tup (by rfl) (pgs_cons (pg_sub (pv 8) (pv 6) set_list) (pgs_cons (pg_name (i := 5) sc__law_read_rule.nd rfl (Or.inl rfl)) pgs_nil))))))) pss_nil)))
      (pss_cons (ps_if (pt_cmpR op_lt (pv 5) (pe_callB call_len_seq (by rfl) B.b_len PySem.boot_len (pa_cons (pv 0) pa_nil)) (nomark _)) (pss_one (ps_ret (pv 5))) pss_nil)
      (pss_one (ps_ret (pe_tup (pa_cons (pv 4) (pa_cons (pe_ix ix_list (pv 0) (pv 4) (fun _ _ => rfl)) (pa_cons (pe_ix ix_list (pv 8) pe_int (fun _ _ => rfl)) (pa_cons (pe_ix ix_list (pv 8) pe_int (fun _ _ => rfl)) (pa_cons (pe_ix ix_list (pv 0) (pe_op op_add (pv 4) pe_int) (fun _ _ => rfl)) pa_nil))))))))))))))), ?_⟩
  case wn =>
    rintro σ H1 Q1 ⟨nl, x, ns, g2, g7, hN, hx, q⟩
    refine ⟨_, g7, x, rfl, hx, fun H3 s3 => ⟨_, rfl, _, rfl, ?_⟩⟩
    have q3 := q H3 s3
    cases hf : freeO (some x) with
    | false => rw [hf, Bool.false_and] at q3; exact iteT q3
    | true =>
      rw [hf, Bool.true_and, Bool.not_not] at q3
      refine iteF ⟨_, g7, _, g2, nl, _, rfl, .inl (sqL_of (s3 _ _ hN)), rfl, flat_strs ns, ?_⟩
      rw [if_neg (by decide)]
      show Q1 (V.bl (inV (V.str x) (ns.map V.str))) _
      rw [inV_str]
      exact q3
  case ww =>
    rintro σ H1 Q1 ⟨p, ws, k, g0, g5, hp, q⟩
    refine ⟨_, g5, _, g0, p, _, rfl, .inl (sqL_of hp), _, _, rfl, rfl, _, rfl, ?_⟩
    rw [List.length_map]
    by_cases hk : k < ws.length
    · rw [decide_eq_true (by omega)]
      have e : ws[k]? = some ws[k] := List.getElem?_eq_getElem hk
      rw [e] at q
      exact iteT ⟨_, g0, _, g5, p, _, _, _, rfl, rfl, sqL_of hp, atI_nat (j := k) (by rw [List.getElem?_map, e]; rfl), q⟩
    · rw [decide_eq_false (by omega)]
      have e : ws[k]? = none := List.getElem?_eq_none (by omega)
      rw [e] at q
      exact iteF q
  have hnl : nS ws ≤ ws.length := (List.takeWhile_sublist _).length_le
  have hlen : (ws.map V.str).length = ws.length := List.length_map ..
  have ff : ∀ {H' : Hp}, Same H H' → H' p = some (.lst (ws.map V.str)) := fun s => s _ _ hp
  refine ⟨fun m σ H' => ∃ i : Nat, m = nS ws - i ∧ i ≤ nS ws ∧ i ≤ mostS tl ∧ σ = [some (.ref p), some (.ref fa), some (.ref nl), some (.int (aboveI tl)), some (.int (i : Nat)), none, none, none, none, none] ∧ H' = H, ⟨_, 0, rfl, Nat.zero_le _, Nat.zero_le _, rfl, rfl⟩, ?_⟩
  rintro m σ H2 ⟨i, rfl, hi, him, rfl, e⟩
  subst e
  by_cases hi' : i < nS ws
  · have hwi := nS_at hi'
    have gx : (ws.map V.str)[i]? = some (.str sgn) := by rw [List.getElem?_map, hwi]; rfl
    refine ⟨_, rfl, _, rfl, p, _, rfl, .inl (sqL_of hp), _, _, rfl, rfl, _, rfl, ?_⟩
    rw [decide_eq_true (by rw [hlen]; omega)]
    refine iteT ⟨_, rfl, _, rfl, p, _, _, _, rfl, rfl, sqL_of hp, atI_nat gx, rfl, _, rfl, ?_⟩
    rw [show decide (V.str sgn = V.str (Str.ofString ">")) = true from decide_eq_true rfl]
    refine iteT ?_
    refine ⟨fun σ' H' => i < mostS tl ∧ σ' = [some (.ref p), some (.ref fa), some (.ref nl), some (.int (aboveI tl)), some (.int ((i + 1 : Nat) : Int)), none, none, none, none, none] ∧ H' = H2, fun σ' H' ⟨hm, e, h⟩ => ⟨_, (by omega), i + 1, rfl, hi', hm, e, h⟩, ?_⟩
    have hma := most_above him
    have stop : i = mostS tl → Q (.int (i : Nat)) H2 := fun e => by
      refine q0 i ?_ H2 (Same.refl H2)
      unfold rdR
      rw [if_neg (by omega), if_pos (by omega), e]
    refine ⟨_, rfl, _, rfl, _, _, rfl, rfl, _, rfl, bcase (fun c1 => ?_) (fun c1 => ?_)⟩
    · exact ⟨_, rfl, stop (hma.mp (.inl (of_decide_eq_true c1)))⟩
    · have c1 := of_decide_eq_false c1
      refine ⟨_, rfl, rfl, _, rfl, ?_⟩
      by_cases c2 : i = 5
      · rw [show decide (V.int ((i : Nat) : Int) = V.int 5) = true from decide_eq_true (by rw [c2]; rfl)]
        exact iteT ⟨_, rfl, stop (hma.mp (.inr c2))⟩
      · rw [show decide (V.int ((i : Nat) : Int) = V.int 5) = false from decide_eq_false fun z => c2 (by have := V.int.inj z; omega)]
        have hne : i ≠ mostS tl := fun z => by rcases hma.mpr z with h | h; exact c1 h; exact c2 h
        exact iteF ⟨_, rfl, _, _, rfl, rfl, by omega, rfl, rfl⟩
  have hik : i = nS ws := by omega
  subst hik
  have exit : ∀ T : Bool → Hp → Prop, T false H2 → (tAnd (tTest (tOp (rI0 fun i j => V.bl (decide (i < j))) (tVar 4) (tCB (fun xs H_2 Q => ∃ p ys, xs = [V.ref p] ∧ (SqL K H_2 p ys ∨ SqT K H_2 p ys) ∧ Q (V.int (ys.length : Nat)) H_2) (tCons (tVar 0) tNil)))) (tTest (tOp rEq (tOp (rIxL K) (tVar 0) (tVar 4)) (tC (V.str (Str.ofString ">")))))) [some (.ref p), some (.ref fa), some (.ref nl), some (.int (aboveI tl)), some (.int (nS ws : Nat)), none, none, none, none, none] H2 T := by
    intro T hT
    refine ⟨_, rfl, _, rfl, p, _, rfl, .inl (sqL_of hp), _, _, rfl, rfl, _, rfl, ?_⟩
    rw [hlen]
    by_cases hlt : nS ws < ws.length
    · rw [decide_eq_true (by omega)]
      obtain ⟨x, hx⟩ : ∃ x, ws[nS ws]? = some x := ⟨_, List.getElem?_eq_getElem hlt⟩
      have gx : (ws.map V.str)[nS ws]? = some (.str x) := by rw [List.getElem?_map, hx]; rfl
      refine iteT ⟨_, rfl, _, rfl, p, _, _, _, rfl, rfl, sqL_of hp, atI_nat gx, rfl, _, rfl, ?_⟩
      rw [show decide (V.str x = V.str (Str.ofString ">")) = false from decide_eq_false fun z => nS_end (ws := ws) (by rw [hx, V.str.inj z])]
      exact hT
    · rw [decide_eq_false (by omega)]
      exact iteF hT
  refine exit _ (iteF ?_)
  have nmE : (Str.ofString "x") = (Str.ofString "x") := rfl
  refine ⟨_, rfl, 3, rfl, by decide, by decide, for_it walk_range (fun i σ H' => ∃ y6 y7 : Option V, σ = [some (.ref p), some (.ref fa), some (.ref nl), some (.int (aboveI tl)), some (.int (nS ws : Nat)), some (.int ((nS ws + i : Nat) : Int)), y6, y7, none, none] ∧ Same H2 H' ∧ ∀ j, j < i → good3 tl j ws[nS ws + j]? = true)
    ⟨none, none, rfl, Same.refl H2, fun j h => absurd h (Nat.not_lt_zero j)⟩ (fun _ _ _ _ _ => trivial) ?_ ?_⟩
  · rintro i y σ H4 H3 hi ⟨y6, y7, rfl, s3, hgood⟩ ⟨rfl, hy⟩
    have hi : i < 3 := hi
    have hy : y = .int (0 + (i : Nat)) := hy
    obtain rfl : y = .int ((i : Nat) : Int) := hy.trans (congrArg V.int (by omega))
    have stop : good3 tl i ws[nS ws + i]? = false → ∀ H', Same H2 H' → Q (.int ((nS ws + i : Nat) : Int)) H' := fun hb => by
      refine q0 _ ?_
      unfold rdR
      rw [if_neg (by omega), if_neg (by omega), if_neg ho40]
      match i, hi, hb, hgood with
      | 0, _, hb, _ => rw [if_pos (show nameNew tl ws[nS ws]? = false from hb)]; rfl
      | 1, _, hb, hg => rw [if_neg (by have := hg 0 (by omega); rw [show nameNew tl ws[nS ws]? = true from this]; decide), if_pos (show ws[nS ws + 1]? ≠ some (Str.ofString "is") from of_decide_eq_false hb)]
      | 2, _, hb, hg =>
        rw [if_neg (by have := hg 0 (by omega); rw [show nameNew tl ws[nS ws]? = true from this]; decide), if_neg (by have := hg 1 (by omega); exact fun z => z (of_decide_eq_true this)), if_pos (show freeO ws[nS ws + 2]? = false from hb)]
    refine ⟨p, ws, nS ws + i, rfl, rfl, s3 _ _ hp, ?_⟩
    generalize ho : ws[nS ws + i]? = o at stop hgood
    have hxl : (o.getD (Str.ofString " ")).length ≤ 900 := by
      cases o with
      | none => decide
      | some x => exact hwl x (List.mem_of_getElem? ho)
    have hb0 : (!(freeO (some (o.getD (Str.ofString " "))) && !decide (o.getD (Str.ofString " ") ∈ tl.map fun q => q.1.nm))) = !nameNew tl o := by
      cases o with
      | none => show (!(freeO (some (Str.ofString " ")) && _)) = !false; rw [blank_free]; rfl
      | some x => rfl
    have hb1 : (!decide (V.str (o.getD (Str.ofString " ")) = V.str (Str.ofString "is"))) = !decide (o = some (Str.ofString "is")) := by
      cases o with
      | none => rw [show decide (V.str ((none : Option Str).getD (Str.ofString " ")) = V.str (Str.ofString "is")) = false from decide_eq_false fun z => blank_is (V.str.inj z), decide_eq_false (fun z => nomatch z)]
      | some x =>
        congr 1
        exact decide_eq_decide.mpr ⟨fun z => congrArg some (V.str.inj z), fun z => congrArg V.str (Option.some.inj z)⟩
    have hb2 : (!freeO (some (o.getD (Str.ofString " ")))) = !freeO o := by
      cases o with
      | none => show (!freeO (some (Str.ofString " "))) = !false; rw [blank_free]
      | some x => rfl
    generalize o.getD (Str.ofString " ") = x at hxl hb0 hb1 hb2 ⊢
    refine ⟨nl, x, _, rfl, rfl, s3 _ _ hN, hxl, fun H4 s4 => ?_⟩
    rw [hb0]
    refine ⟨_, rfl, rfl, ?_⟩
    rw [hb1]
    refine ⟨_, rfl, x, rfl, hxl, fun H5 s5 => ?_⟩
    refine ⟨_, rfl, ?_⟩
    rw [hb2]
    refine ⟨(by show 3 ≤ sizeLine; decide), fun ll nll => ?_⟩
    have s6 := ((s3.trans s4).trans s5).put' (o := .lst [.bl (!nameNew tl o), .bl (!decide (o = some (Str.ofString "is"))), .bl (!freeO o)]) nll
    have hget : ([.bl (!nameNew tl o), .bl (!decide (o = some (Str.ofString "is"))), .bl (!freeO o)] : List V)[i]? = some (.bl (!good3 tl i o)) := by
      match i, hi with
      | 0, _ => rfl
      | 1, _ => rfl
      | 2, _ => rfl
    refine ⟨_, rfl, ll, _, _, _, rfl, rfl, sqL_of upd_same, atI_nat hget, _, rfl, ?_⟩
    cases hg : good3 tl i o with
    | false => exact iteT ⟨_, rfl, stop hg _ s6⟩
    | true =>
      refine iteF ⟨_, rfl, _, 1, rfl, rfl, some (.int (i : Nat)), some (.str x), ?_, s6, fun j hj => ?_⟩
      · rw [show ((nS ws + (i + 1) : Nat) : Int) = ((nS ws + i : Nat) : Int) + 1 by omega]
        rfl
      · rcases Nat.lt_succ_iff_lt_or_eq.mp hj with z | z
        · exact hgood j z
        · rw [z, ho]; exact hg
  · rintro σ H3 ⟨y6, y7, rfl, s3, hgood⟩
    have hgood : ∀ j, j < 3 → good3 tl j ws[nS ws + j]? = true := hgood
    have hrd : rdR xs tl ws = match rdP (Str.ofString "if") xs [] ws (nS ws + 3) with
        | .inl e => .inl e
        | .inr (hs, a2) => match rdP (Str.ofString "not") xs hs ws a2 with
          | .inl e => .inl e
          | .inr (fs, a3) => if a3 < ws.length then .inl a3 else .inr (⟨(ws[nS ws]?).getD "", hs, fs, (ws[nS ws + 2]?).getD "", .nil⟩, nS ws) := by
      unfold rdR
      rw [if_neg (by omega), if_neg (by omega), if_neg ho40, if_neg (by have := hgood 0 (by omega); rw [show nameNew tl ws[nS ws]? = true from this]; decide), if_neg (by have := hgood 1 (by omega); exact fun z => z (of_decide_eq_true this)), if_neg (by have := hgood 2 (by omega); rw [show freeO ws[nS ws + 2]? = true from this]; decide)]
      try rfl
    have h2 : ∃ x2, ws[nS ws + 2]? = some x2 := by
      have : freeO ws[nS ws + 2]? = true := hgood 2 (by omega)
      cases e : ws[nS ws + 2]? with
      | none => rw [e] at this; cases this
      | some x => exact ⟨x, rfl⟩
    obtain ⟨x2, hx2⟩ := h2
    have hl2 := (List.getElem?_eq_some_iff.mp hx2).1
    obtain ⟨x0, hx0⟩ : ∃ x0, ws[nS ws]? = some x0 := ⟨_, List.getElem?_eq_getElem (by omega)⟩
    rw [hx0, hx2] at hrd
    refine ⟨Nat.zero_le _, fun t0 nt0 => ⟨Nat.zero_le _, fun t1 nt1 => ⟨(by show 2 ≤ sizeLine; decide), fun D nD => ?_⟩⟩⟩
    have e0 : (upd (upd (upd H3 t0 (.tup [])) t1 (.tup [])) D (.lst [.ref t0, .ref t1])) D = some (.lst [.ref t0, .ref t1]) := upd_same
    have q0' : SqT K (upd (upd (upd H3 t0 (.tup [])) t1 (.tup [])) D (.lst [.ref t0, .ref t1])) t0 (([] : List Str).map V.str) := ((Same.refl _).put nD).tup (((Same.refl _).put nt1).tup sqT_new)
    have q1' : SqT K (upd (upd (upd H3 t0 (.tup [])) t1 (.tup [])) D (.lst [.ref t0, .ref t1])) t1 (([] : List Str).map V.str) := ((Same.refl _).put nD).tup sqT_new
    have sD := ((s3.put' (o := .tup []) nt0).put' (o := .tup []) nt1)
    have nDH := sD.free nD
    have s4 := sD.put' (o := .lst [.ref t0, .ref t1]) nD
    clear nt0 nt1 nD sD
    generalize upd (upd (upd H3 t0 (.tup [])) t1 (.tup [])) D (.lst [.ref t0, .ref t1]) = H4 at e0 q0' q1' s4 ⊢
    refine ⟨_, rfl, by decide, by decide, for_it walk_range (fun i σ H' => ∃ (p0 p1 : Addr) (hs fs : List Str) (at_ : Nat) (y6 y7 y9 : Option V), σ = [some (.ref p), some (.ref fa), some (.ref nl), some (.int (aboveI tl)), some (.int (nS ws : Nat)), some (.int (at_ : Nat)), y6, y7, some (.ref D), y9] ∧ Same H2 H' ∧ H' D = some (.lst [.ref p0, .ref p1]) ∧ SqT K H' p0 (hs.map V.str) ∧ SqT K H' p1 (fs.map V.str) ∧ at_ ≤ ws.length ∧ hs.length ≤ 8 ∧ SidesS xs ws i hs fs at_)
      ⟨t0, t1, [], [], nS ws + 3, _, _, _, rfl, s4, e0, q0', q1', by omega, by decide, .inl ⟨rfl, rfl, rfl, rfl⟩⟩ (fun _ _ _ _ _ => trivial) ?_ ?_⟩
    · rintro i y σ H6 H5 hi ⟨p0, p1, hs, fs, at_, y6, y7, y9, rfl, s5, eD, hp0, hp1, hat, hh8, hS⟩ ⟨rfl, hy⟩
      have hi : i < 2 := hi
      have hy : y = .int (0 + (i : Nat)) := hy
      obtain rfl : y = .int ((i : Nat) : Int) := hy.trans (congrArg V.int (by omega))
      have hfs : fs = [] := by
        rcases hS with ⟨_, _, h, _⟩ | ⟨_, _, h⟩ | ⟨h, _⟩
        · exact h
        · exact h
        · omega
      have hh0 : i = 0 → hs = [] := fun h => by
        rcases hS with ⟨_, h', _, _⟩ | ⟨h', _⟩ | ⟨h', _⟩
        · exact h'
        · omega
        · omega
      have stopP : ∀ e, rdP (wordI i) xs hs ws at_ = .inl e → ∀ H', Same H2 H' → Q (.int (e : Nat)) H' := fun e he => by
        refine q0 e ?_
        rcases hS with ⟨rfl, rfl, rfl, rfl⟩ | ⟨rfl, h1, rfl⟩ | ⟨h', _⟩
        · rw [hrd, show rdP (Str.ofString "if") xs [] ws (nS ws + 3) = .inl e from he]
        · rw [hrd, h1]
          dsimp only
          rw [show rdP (Str.ofString "not") xs hs ws at_ = .inl e from he]
        · omega
      have nextP : ∀ gs a2, rdP (wordI i) xs hs ws at_ = .inr (gs, a2) → (i = 0 → SidesS xs ws 1 gs fs a2) ∧ (i = 1 → SidesS xs ws 2 hs gs a2) := fun gs a2 he => by
        rcases hS with ⟨rfl, rfl, rfl, rfl⟩ | ⟨rfl, h1, rfl⟩ | ⟨h', _⟩
        · exact ⟨fun _ => Or.inr (Or.inl ⟨rfl, he, rfl⟩), fun z => absurd z (by decide)⟩
        · exact ⟨fun z => absurd z (by decide), fun _ => Or.inr (Or.inr ⟨rfl, at_, h1, he⟩)⟩
        · omega
      have hp5 := s5 _ _ hp
      have skip : ws[at_]? ≠ some (wordI i) → SidesS xs ws (i + 1) hs fs at_ := fun h => by
        have he : rdP (wordI i) xs hs ws at_ = .inr ([], at_) := by unfold rdP; rw [if_neg h]
        have := nextP _ _ he
        rcases (show i = 0 ∨ i = 1 by omega) with z | z
        · have t := this.1 z
          rw [hh0 z, z]
          exact t
        · have t := this.2 z
          rw [hfs, z]
          exact t
      refine ⟨_, rfl, _, rfl, p, _, rfl, .inl (sqL_of hp5), _, _, rfl, rfl, _, rfl, ?_⟩
      rw [hlen]
      cases hx : ws[at_]? with
      | none =>
        have hge : ws.length ≤ at_ := by rw [List.getElem?_eq_none_iff] at hx; exact hx
        rw [decide_eq_false (by omega)]
        exact iteF (iteF ⟨p0, p1, hs, fs, at_, _, _, _, rfl, s5, eD, hp0, hp1, hat, hh8, skip (by rw [hx]; exact fun z => nomatch z)⟩)
      | some x =>
        have hlt := (List.getElem?_eq_some_iff.mp hx).1
        have gx : (ws.map V.str)[at_]? = some (.str x) := by rw [List.getElem?_map, hx]; rfl
        rw [decide_eq_true (by omega)]
        refine iteT ⟨_, rfl, _, rfl, p, _, _, _, rfl, rfl, sqL_of hp5, atI_nat gx, (by show 2 ≤ sizeLine; decide), fun l2 nl2 => ?_⟩
        have s6 := (Same.refl H5).put (o := .lst [.str (Str.ofString "if"), .str (Str.ofString "not")]) nl2
        have hg2 : ([.str (Str.ofString "if"), .str (Str.ofString "not")] : List V)[i]? = some (.str (wordI i)) := by
          match i, hi with
          | 0, _ => rfl
          | 1, _ => rfl
        refine ⟨_, rfl, l2, _, _, _, rfl, rfl, sqL_of upd_same, atI_nat hg2, rfl, _, rfl, ?_⟩
        have hp6 := s6 _ _ hp5
        have eD6 := s6 _ _ eD
        have hp06 := s6.tup hp0
        have hp16 := s6.tup hp1
        have hA6 := (s5.trans s6).tup hA
        have s56 := s5.trans s6
        generalize upd H5 l2 (.lst [.str (Str.ofString "if"), .str (Str.ofString "not")]) = H6 at s6 hp6 eD6 hp06 hp16 hA6 s56 ⊢
        by_cases hxw : x = wordI i
        · rw [show decide (V.str x = V.str (wordI i)) = true from decide_eq_true (by rw [hxw])]
          refine iteT ?_
          have he : rdP (wordI i) xs hs ws at_ = match (List.range (partN ws (at_ + 1))).find? (partBad xs hs ws (at_ + 1)) with
            | some j => .inl (at_ + 1 + j)
            | none => .inr ((ws.drop (at_ + 1)).take (partN ws (at_ + 1)), at_ + 1 + partN ws (at_ + 1)) := by unfold rdP; rw [if_pos (by rw [hx, hxw])]; try rfl
          refine ⟨_, rfl, _, rfl, _, 1, rfl, rfl, _, rfl, _, rfl, D, _, 0, _, rfl, rfl, sqL_of eD6, atI_nat (j := 0) rfl, _, rfl, D, _, 0, _, rfl, rfl, sqL_of eD6, atI_nat (j := 0) rfl, p0, _, rfl, .inr hp06, 8, _, rfl, rfl, ?_⟩
          refine ⟨p, fa, p0, ws, xs, hs, at_ + 1, (by rw [List.length_map]; rfl), hp6, hA6, hp06, hl, hlt, hh8, fun j hj H7 s7 => ?_, fun hn H7 t q s7 ht hq => ?_⟩
          · rw [hj] at he
            refine ⟨_, rfl, _, "int", true, rfl, .int _, by decide +kernel, _, rfl, iteT ⟨_, rfl, ?_⟩⟩
            exact stopP _ he _ (s56.trans s7)
          · rw [hn] at he
            refine ⟨_, rfl, _, "tuple", false, rfl, .tup ht, by decide +kernel, _, rfl, iteF ?_⟩
            have he : rdP (wordI i) xs hs ws at_ = .inr ((ws.drop (at_ + 1)).take (partN ws (at_ + 1)), at_ + 1 + partN ws (at_ + 1)) := he
            have hS2 := nextP _ _ he
            have hok := rdP_ok he (by omega)
            generalize (ws.drop (at_ + 1)).take (partN ws (at_ + 1)) = gs at he hS2 hok hq
            generalize at_ + 1 + partN ws (at_ + 1) = a2 at he hS2 hok ht
            have eD7 := s7 _ _ eD6
            have s27 := s56.trans s7
            have kk : Keeps NoL H7 (upd H7 D (.lst [.ref q, .ref p1])) := keeps_own eD7 (fun z => z)
            have kk' : Keeps NoL H7 (upd H7 D (.lst [.ref p0, .ref q])) := keeps_own eD7 (fun z => z)
            have hp07 := s7.tup hp06
            have hp17 := s7.tup hp16
            have hl8 : gs.length ≤ 8 := by rcases hok.2.2.2.1 with h | h; rw [h]; exact Nat.zero_le _; omega
            rcases (show i = 0 ∨ i = 1 by omega) with z | z
            · subst z
              refine ⟨_, rfl, t, _, rfl, ht, rfl, _, _, rfl, _, rfl, _, rfl, D, _, 0, 0, rfl, rfl, eD7, rfl, _, _, rfl, rfl, ?_⟩
              exact ⟨q, p1, gs, fs, a2, _, _, _, rfl, s27.put nDH, upd_same, kk.tup hq, kk.tup hp17, hok.2.2.2.2, hl8, hS2.1 rfl⟩
            · subst z
              refine ⟨_, rfl, t, _, rfl, ht, rfl, _, _, rfl, _, rfl, _, rfl, D, _, 1, 1, rfl, rfl, eD7, rfl, _, _, rfl, rfl, ?_⟩
              exact ⟨p0, q, hs, gs, a2, _, _, _, rfl, s27.put nDH, upd_same, kk'.tup hp07, kk'.tup hq, hok.2.2.2.2, hh8, hS2.2 rfl⟩
        · rw [show decide (V.str x = V.str (wordI i)) = false from decide_eq_false fun z => hxw (V.str.inj z)]
          exact iteF ⟨p0, p1, hs, fs, at_, _, _, _, rfl, s56, eD6, hp06, hp16, hat, hh8, skip (by rw [hx]; exact fun z => hxw (Option.some.inj z))⟩
    · rintro σ H5 ⟨p0, p1, hs, fs, at_, y6, y7, y9, rfl, s5, eD, hp0, hp1, hat, hh8, hS⟩
      have hS : SidesS xs ws 2 hs fs at_ := hS
      obtain ⟨a2, h1, h2⟩ : ∃ a2, rdP (Str.ofString "if") xs [] ws (nS ws + 3) = .inr (hs, a2) ∧ rdP (Str.ofString "not") xs hs ws a2 = .inr (fs, at_) := by
        rcases hS with ⟨h, _⟩ | ⟨h, _⟩ | ⟨_, h⟩
        · cases h
        · cases h
        · exact h
      rw [h1] at hrd
      dsimp only at hrd
      rw [h2] at hrd
      dsimp only at hrd
      have hp5 := s5 _ _ hp
      refine ⟨_, rfl, _, rfl, p, _, rfl, .inl (sqL_of hp5), _, _, rfl, rfl, _, rfl, ?_⟩
      rw [hlen]
      by_cases hlt : at_ < ws.length
      · rw [if_pos hlt] at hrd
        rw [decide_eq_true (by omega)]
        exact iteT ⟨_, rfl, q0 _ hrd _ s5⟩
      · rw [if_neg hlt] at hrd
        rw [decide_eq_false (by omega)]
        have g0 : (ws.map V.str)[nS ws]? = some (.str x0) := by rw [List.getElem?_map, hx0]; rfl
        have g2 : (ws.map V.str)[nS ws + 2]? = some (.str x2) := by rw [List.getElem?_map, hx2]; rfl
        refine iteF ⟨_, rfl, _, rfl, _, rfl, p, _, _, _, rfl, rfl, sqL_of hp5, atI_nat g0, _, rfl, D, _, 0, _, rfl, rfl, sqL_of eD, atI_nat (j := 0) rfl, _, rfl, D, _, 1, _, rfl, rfl, sqL_of eD, atI_nat (j := 1) rfl, _, rfl, _, rfl, _, 2, rfl, rfl, p, _, _, _, rfl, rfl, sqL_of hp5, atI_nat (j := nS ws + 2) g2, (by show 5 ≤ sizeLine; decide), fun t nt => ?_⟩
        have s6 := (Same.refl H5).put (o := .tup [.int (nS ws : Nat), .str x0, .ref p0, .ref p1, .str x2]) nt
        exact q1 _ hrd _ t (s5.trans s6) ⟨t, p0, p1, rfl, sqT_new, s6.tup hp0, s6.tup hp1⟩
end
end Sc
namespace Sc
open PySem PySem.Spec PyProof.Rows L2
theorem sc__law_nested : FnScope ["_law_rows", "_law_deep", "_law_found", "_law_k", "_law_end", "_law_j"] ["_law_rows", "_law_deep"] (defScope s__law_nested) := ⟨rfl, rfl, rfl, by decide +kernel, rfl, by decide +kernel, by decide +kernel⟩
theorem pre_low : ∀ (f : RF) (k : Nat), ∀ q ∈ f.pre k, k ≤ q.2
  | .nil, k, q, h => nomatch h
  | .cons nm hs fs rl exc rest, k, q, h => by
    rcases List.mem_cons.mp h with rfl | h
    · exact Nat.le_refl _
    rcases List.mem_append.mp h with h | h
    · exact Nat.le_of_succ_le (pre_low exc (k + 1) q h)
    · exact pre_low rest k q h
theorem pre_tops : ∀ (f : RF) (k : Nat), ((f.pre k).filter fun q => decide (q.2 = k)).map (fun q => q.1) = f.nodes
  | .nil, _ => rfl
  | .cons nm hs fs rl exc rest, k => by
    show (((((⟨nm, hs, fs, rl, exc⟩ : Nd), k) :: (exc.pre (k + 1) ++ rest.pre k)).filter fun q => decide (q.2 = k)).map fun q => q.1) = (⟨nm, hs, fs, rl, exc⟩ : Nd) :: rest.nodes
    have e : (exc.pre (k + 1)).filter (fun q => decide (q.2 = k)) = [] := by
      rw [List.filter_eq_nil_iff]
      intro q hq
      have := pre_low exc (k + 1) q hq
      simp
      omega
    rw [List.filter_cons_of_pos (by simp), List.filter_append, e, List.nil_append, List.map_cons, pre_tops rest k]
theorem pre_head {f : RF} {k : Nat} {q : Nd × Nat} {t : List (Nd × Nat)} (h : f.pre k = q :: t) : q.2 = k := by
  cases f with
  | nil => cases h
  | cons nm hs fs rl exc rest =>
    injection h with h1 h2
    rw [← h1]
theorem pre_split : ∀ (f : RF) (k i : Nat) (q : Nd × Nat), (f.pre k)[i]? = some q → ∃ r, (f.pre k).drop (i + 1) = q.1.exc.pre (q.2 + 1) ++ r ∧ ∀ p t, r = p :: t → p.2 ≤ q.2
  | .nil, k, i, q, h => by cases h
  | .cons nm hs fs rl exc rest, k, i, q, h => by
    have h : (((⟨nm, hs, fs, rl, exc⟩ : Nd), k) :: (exc.pre (k + 1) ++ rest.pre k))[i]? = some q := h
    show ∃ r, ((((⟨nm, hs, fs, rl, exc⟩ : Nd), k) :: (exc.pre (k + 1) ++ rest.pre k))).drop (i + 1) = _ ∧ _
    cases i with
    | zero =>
      cases h
      exact ⟨rest.pre k, rfl, fun p t e => by rw [pre_head e]; exact Nat.le_refl _⟩
    | succ i =>
      rw [List.getElem?_cons_succ] at h
      rw [List.drop_succ_cons]
      by_cases hi : i < (exc.pre (k + 1)).length
      · rw [List.getElem?_append_left hi] at h
        obtain ⟨r, e, hr⟩ := pre_split exc (k + 1) i q h
        have hq := pre_low exc (k + 1) q (List.mem_of_getElem? h)
        refine ⟨r ++ rest.pre k, by rw [List.drop_append_of_le_length (by omega), e, List.append_assoc], fun p t ep => ?_⟩
        cases r with
        | nil => rw [pre_head ep]; omega
        | cons a r => injection ep with e1 e2; rw [← e1]; exact hr a r rfl
      · rw [List.getElem?_append_right (by omega)] at h
        obtain ⟨r, e, hr⟩ := pre_split rest k _ q h
        refine ⟨r, ?_, hr⟩
        rw [← e, List.drop_append, List.drop_of_length_le (by omega), List.nil_append]
        congr 1
        omega
section
variable {P : Program} {w : World} {K : PySem.W.Frag} {mg : Str → Option Value} {base : Heap}
def sp_nestL (K : PySem.W.Frag) (d : Nat) : Sp := fun vs H Q _ => ∃ (p : Addr) (k : Nat) (us : List V) (f : RF), vs = [.ref p, .int (k : Nat)] ∧ H p = some (.lst us) ∧ All2 (KnAt K H) us (f.pre k) ∧ f.size ≤ 900 ∧ k + d ≤ 50 ∧ f.dep ≤ d ∧ ∀ H' t ws, Same H H' → SqT K H' t ws → RowsAt K H' f ws → Q (.ref t) H'
theorem ok_nestL {d : Nat} {f : Addr} {fd : FuncData} (F : Fun K "_law_nested" "_law_nested" s__law_nested f fd) (B : Blt mg) (c__law_nested : Cal P w K mg base CX0 (d + 1) "_law_nested" ["_law_rows", "_law_deep"] (Below (sp_nestL K) d)) : FnOk P w K mg base CX0 (d + 2) f fd ["_law_rows", "_law_deep"] (sp_nestL K d) := by
  refine F.ok sc__law_nested (fun vs H Q E h => by obtain ⟨p, k, us, f, rfl, _⟩ := h; rfl) (fun cdv A outer s H vs Q E hr h => ?_)
  obtain ⟨p, k, us, f, rfl, hp, hus, hz, hk, hd, q⟩ := h
  refine ⟨_, (pss_cons (ps_set (i := 2) sc__law_nested.nd rfl (Or.inl rfl) (pe_lst pa_nil))
      (pss_cons (ps_for PassesOwn.never rfl (pi_range1 (by rfl) B.b_range (pa_cons (pe_callB call_len_seq (by rfl) B.b_len PySem.boot_len (pa_cons (pv 0) pa_nil)) pa_nil)) (pg_name (i := 3) sc__law_nested.nd rfl (Or.inl rfl)) (pss_one (ps_if (pt_cmpR op_eq (pe_ix ix_tup (pe_ix ix_list (pv 0) (pv 3) (fun _ _ => rfl)) pe_int (fun _ _ => rfl)) (pv 1) (nomark _)) (pss_cons (ps_set (i := 4) sc__law_nested.nd rfl (Or.inl rfl) (pe_op op_cat (pe_lc (own := [("_law_j", 5)]) (g := gName 5) rfl sc__law_nested.nd (pi_range2 (by rfl) B.b_range (pa_cons (pe_op op_add (pv 3) pe_int) (pa_cons (pe_callB call_len_seq (by rfl) B.b_len PySem.boot_len (pa_cons (pv 0) pa_nil)) pa_nil))) (blkOk_by (own := [("_law_j", 5)]) (N := ["_law_rows", "_law_deep", "_law_found", "_law_k", "_law_end", "_law_j"]) (sc := defScope s__law_nested) (by decide +kernel)) (fun _ _ _ _ _ => (pg_name (i := 5) sc__law_nested.nd rfl (Or.inl rfl))) (fun _ _ _ _ _ => (pts_.re (pts_one (pt_cmpR op_le (pe_ix ix_tup (pe_ix ix_list (pv 0) (pv 5) (fun _ _ => rfl)) pe_int (fun _ _ => rfl)) (pv 1) (nomark _))) (by first | (dsimp only [Cx.blk]; done) | exact rfl))) (fun _ _ _ _ _ => (pe_.re (pv 5) (by first | (dsimp only [Cx.blk]; done) | exact rfl)))) (pe_lst (pa_cons (pe_callB call_len_seq (by rfl) B.b_len PySem.boot_len (pa_cons (pv 0) pa_nil)) pa_nil))))
      (pss_one (ps_expr (pe_bm PySem.F.plainAttrs_list PySem.F.slot_list_append PySem.F.type_list_append mt_append (pv 2) (pa_cons (pe_op op_catA (pe_slice sl_tupA (pe_ix ix_list (pv 0) (pv 3) (fun _ _ => rfl)) (po_some pe_int) po_none) (pe_tup (pa_cons (pe_cal c__law_nested hr (pa_cons (pe_slice sl_list (pv 0) (po_some (pe_op op_add (pv 3) pe_int)) (po_some (pe_ix ix_list (pv 4) pe_int (fun _ _ => rfl)))) (pa_cons (pe_op op_add (pv 1) pe_int) pa_nil))) pa_nil))) pa_nil))))) pss_nil)))
      (pss_one (ps_ret (pe_callTy call_tuple_of (by rfl) B.b_tuple PyProof.Rows.boot_tuple (pa_cons (pv 2) pa_nil)))))), ?_⟩
  have hul := hus.len
  have hpl := RF.pre_len f k
  refine ⟨Nat.zero_le _, fun D nD => ?_⟩
  have s0 : Same H (upd H D (.lst [])) := (Same.refl H).put nD
  have e0 : (upd H D (.lst [])) D = some (.lst []) := upd_same
  have nDH := nD
  generalize upd H D (.lst []) = H0 at s0 e0 ⊢
  refine ⟨_, rfl, p, _, rfl, .inl (sqL_of (s0 _ _ hp)), _, rfl, by omega, by omega, for_it walk_range (fun i σ H' => ∃ (rs : List V) (y3 y4 y5 : Option V), σ = [some (.ref p), some (.int (k : Nat)), some (.ref D), y3, y4, y5] ∧ Same H H' ∧ H' D = some (.lst rs) ∧ All2 (RowAt K H') rs ((((f.pre k).take i).filter fun q => decide (q.2 = k)).map fun q => q.1))
    ⟨[], none, none, none, rfl, s0, e0, .nil⟩ (fun _ _ _ _ _ => trivial) ?_ ?_⟩
  · rintro i y σ H4 H3 hi ⟨rs, y3, y4, y5, rfl, s, e, hrs⟩ ⟨rfl, hy⟩
    have hi : i < us.length := by have : i < ((us.length : Nat) : Int).toNat := hi; omega
    have hy : y = .int (0 + (i : Nat)) := hy
    obtain rfl : y = .int ((i : Nat) : Int) := hy.trans (congrArg V.int (by omega))
    obtain ⟨u, hu⟩ : ∃ u, us[i]? = some u := ⟨_, List.getElem?_eq_getElem hi⟩
    obtain ⟨q0, hq0, t, pa, pb, rfl, ht, hpa, hpb⟩ := hus.get hu
    have hp3 := s _ _ hp
    have ht3 := s.tup ht
    refine ⟨_, rfl, _, rfl, p, _, _, _, rfl, rfl, sqL_of hp3, atI_nat hu, t, _, 0, _, rfl, rfl, ht3, atI_nat (j := 0) rfl, _, rfl, rfl, _, rfl, ?_⟩
    by_cases hqk : q0.2 = k
    · rw [show decide (V.int (q0.2 : Nat) = V.int (k : Nat)) = true from decide_eq_true (by rw [hqk])]
      obtain ⟨r, er, hr0⟩ := pre_split f k i q0 hq0
      have hmem : q0.1 ∈ f.nodes := by
        rw [← pre_tops f k]
        exact List.mem_map_of_mem (List.mem_filter.mpr ⟨List.mem_of_getElem? hq0, by simpa using hqk⟩)
      have hdm := RF.dep_mem f q0.1 hmem
      have hsm := RF.size_mem f q0.1 hmem
      obtain ⟨d, rfl⟩ : ∃ d', d = d' + 1 := ⟨d - 1, by omega⟩
      rw [hqk] at er hr0
      refine iteT ⟨_, rfl, _, 1, rfl, rfl, _, rfl, p, _, rfl, .inl (sqL_of hp3), _, _, rfl, ⟨by omega, by omega, by omega, by omega⟩, ?_⟩
      have hLl : (f.pre k).length = us.length := hul.symm
      obtain ⟨ee, hee⟩ : ∃ ee, ee = i + 1 + q0.1.exc.size := ⟨_, rfl⟩
      have hel := RF.pre_len q0.1.exc (k + 1)
      have hdl : us.length - (i + 1) = q0.1.exc.size + r.length := by
        have := congrArg List.length er
        rw [List.length_drop, List.length_append, hLl, hel] at this
        exact this
      have hee2 : ee ≤ us.length := by omega
      refine fun DC nDC => lc_it walk_range (fun m H' => ∃ acc : List V, Same H3 H' ∧ H' DC = some (.lst acc) ∧ acc.length ≤ m ∧ ((i + 1 + m ≤ ee ∧ acc = []) ∨ (ee < i + 1 + m ∧ ∃ rest, acc = .int (ee : Nat) :: rest))) ⟨[], (Same.refl H3).put nDC, upd_same, Nat.zero_le _, .inl ⟨by omega, rfl⟩⟩ (fun _ _ _ _ => trivial) ?_ ?_
      · rintro m y H5 H4 hm ⟨acc, s4, e4, hl4, hc⟩ ⟨rfl, hy⟩
        have hm : m < (((us.length : Nat) : Int) - (((i : Nat) : Int) + 1)).toNat := hm
        have hm : m < us.length - (i + 1) := by omega
        have hy : y = .int (((i : Nat) : Int) + 1 + (m : Nat)) := hy
        obtain rfl : y = .int ((i + 1 + m : Nat) : Int) := hy.trans (congrArg V.int (by omega))
        obtain ⟨u1, hu1⟩ : ∃ u, us[i + 1 + m]? = some u := ⟨_, List.getElem?_eq_getElem (by omega)⟩
        obtain ⟨q1, hq1, t1, _, _, rfl, ht1, _⟩ := hus.get hu1
        have hq1' : (q0.1.exc.pre (k + 1) ++ r)[m]? = some q1 := by rw [← er, List.getElem?_drop]; exact hq1
        refine ⟨rfl, _, rfl, _, rfl, p, _, _, _, rfl, rfl, sqL_of (s4 _ _ hp3), atI_nat hu1, t1, _, 0, _, rfl, rfl, s4.tup (s.tup ht1), atI_nat (j := 0) rfl, _, rfl, _, _, rfl, rfl, _, rfl, bcase (fun c1 => ?_) (fun c1 => ?_)⟩
        · have c1 : q1.2 ≤ k := by have := of_decide_eq_true c1; omega
          have hms : q0.1.exc.size ≤ m := by
            rcases Nat.lt_or_ge m q0.1.exc.size with z | z
            · rw [List.getElem?_append_left (by omega)] at hq1'
              have := pre_low _ _ q1 (List.mem_of_getElem? hq1')
              omega
            · exact z
          refine ⟨_, rfl, acc, e4, small1000 (by omega), acc ++ [.int ((i + 1 + m : Nat) : Int)], s4.put nDC, upd_same, by rw [List.length_append]; show acc.length + 1 ≤ _; omega, .inr ⟨by omega, ?_⟩⟩
          rcases hc with ⟨h1, h2⟩ | ⟨h1, rest, h2⟩
          · rw [h2, show i + 1 + m = ee by omega]
            exact ⟨[], rfl⟩
          · rw [h2]
            exact ⟨_, rfl⟩
        · have c1 : ¬ q1.2 ≤ k := by have := of_decide_eq_false c1; omega
          refine ⟨acc, s4, e4, by omega, ?_⟩
          rcases hc with ⟨h1, h2⟩ | ⟨h1, h2⟩
          · left
            refine ⟨?_, h2⟩
            have : m ≠ q0.1.exc.size := fun z => by
              rw [List.getElem?_append_right (by omega), z, hel, Nat.sub_self] at hq1'
              cases hr : r with
              | nil => rw [hr] at hq1'; cases hq1'
              | cons a t => rw [hr] at hq1'; cases hq1'; exact c1 (hr0 _ _ hr)
            omega
          · exact .inr ⟨by omega, h2⟩
      rintro H4 ⟨acc, s4, e4, hl4, hc⟩
      have hl4 : acc.length ≤ (((us.length : Nat) : Int) - (((i : Nat) : Int) + 1)).toNat := hl4
      have hc : (i + 1 + (((us.length : Nat) : Int) - (((i : Nat) : Int) + 1)).toNat ≤ ee ∧ acc = []) ∨ (ee < i + 1 + (((us.length : Nat) : Int) - (((i : Nat) : Int) + 1)).toNat ∧ ∃ rest, acc = .int (ee : Nat) :: rest) := hc
      have hhd : (acc ++ [V.int (us.length : Nat)])[0]? = some (.int (ee : Nat)) := by
        rcases hc with ⟨h1, h2⟩ | ⟨h1, rest, h2⟩
        · rw [h2, show us.length = ee by omega]; rfl
        · rw [h2]; rfl
      refine ⟨_, rfl, p, _, rfl, .inl (sqL_of (s4 _ _ hp3)), (by show 1 ≤ sizeLine; decide), fun l1 n1 => ?_⟩
      have s5 := (Same.refl H4).put (o := .lst [V.int (us.length : Nat)]) n1
      refine ⟨DC, l1, _, _, rfl, rfl, s5 _ _ e4, upd_same, by rw [sizeLine_eq]; show acc.length + 1 ≤ _; omega, fun DE nDE => ?_⟩
      have s6 := s5.put' (o := .lst (acc ++ [V.int (us.length : Nat)])) nDE
      have eE : (upd (upd H4 l1 (.lst [V.int (us.length : Nat)])) DE (.lst (acc ++ [V.int (us.length : Nat)]))) DE = some (.lst (acc ++ [V.int (us.length : Nat)])) := upd_same
      have S6 := s4.trans s6
      clear s5 s6 e4 n1 nDE nDC
      generalize upd (upd H4 l1 (.lst [V.int (us.length : Nat)])) DE (.lst (acc ++ [V.int (us.length : Nat)])) = H6 at S6 eE ⊢
      have hp6 := S6 _ _ hp3
      have eD6 := S6 _ _ e
      refine ⟨_, rfl, .inl ⟨rfl, _, sqL_of eD6⟩, ?_⟩
      refine ⟨_, rfl, _, rfl, p, _, _, _, rfl, rfl, sqL_of hp6, atI_nat hu, ?_⟩
      refine ⟨1, rfl, ?_⟩
      dsimp only [tNoPart]
      refine sl_any (S6.tup ht3) fun p7 H7 s7 hp7 => ?_
      rw [show (some 1 : Option Int) = some ((1 : Nat) : Int) from rfl, cut_from] at hp7
      have hp7' := s7 _ _ hp6
      refine ⟨_, rfl, _, rfl, _, 1, rfl, rfl, _, rfl, _, rfl, DE, _, 0, _, rfl, rfl, sqL_of (s7 _ _ eE), atI_nat (j := 0) hhd, _, rfl, p, _, rfl, sqL_of hp7', fun Dl nDl => ?_⟩
      rw [show (some (((i : Nat) : Int) + 1)) = some ((i + 1 : Nat) : Int) by rw [show ((i + 1 : Nat) : Int) = ((i : Nat) : Int) + 1 by omega], cut_part]
      have s8 := (Same.refl H7).put (o := .lst ((us.drop (i + 1)).take (ee - (i + 1)))) nDl
      have eL8 : (upd H7 Dl (.lst ((us.drop (i + 1)).take (ee - (i + 1))))) Dl = some (.lst ((us.drop (i + 1)).take (ee - (i + 1)))) := upd_same
      have S8 := (S6.trans s7).trans s8
      generalize upd H7 Dl (.lst ((us.drop (i + 1)).take (ee - (i + 1)))) = H8 at s8 eL8 S8 ⊢
      have hsub : All2 (KnAt K H8) ((us.drop (i + 1)).take (ee - (i + 1))) (q0.1.exc.pre (k + 1)) := by
        have h1 := (hus.drop (i + 1)).take (ee - (i + 1))
        rw [er, show ee - (i + 1) = (q0.1.exc.pre (k + 1)).length by omega, List.take_left'] at h1
        · rw [show ee - (i + 1) = (q0.1.exc.pre (k + 1)).length by omega]
          exact h1.mono fun _ _ x => x.keeps (N := NoL) (s.trans S8).keeps
        · rfl
      refine ⟨_, rfl, _, 1, rfl, rfl, ?_⟩
      refine ⟨Dl, k + 1, _, q0.1.exc, rfl, eL8, hsub, by omega, by omega, by omega, fun H9 t9 ws9 s9 ht9 hR9 => ?_⟩
      refine ⟨(by show 1 ≤ sizeLine; decide), fun tt ntt => ?_⟩
      have s10 := (Same.refl H9).put (o := .tup [.ref t9]) ntt
      refine cat_any (s10.tup (s9.tup (s8.tup hp7))) sqT_new (by rw [sizeLine_eq]; show 4 + 1 ≤ _; omega) fun p11 H11 s11 hp11 => ?_
      have S11 := ((S8.trans s9).trans s10).trans s11
      have eD11 := S11 _ _ e
      have hrl := hrs.len
      rw [List.length_map] at hrl
      have hrl2 : (((f.pre k).take i).filter fun q => decide (q.2 = k)).length ≤ 900 := Nat.le_trans (List.length_filter_le _ _) (by rw [List.length_take]; omega)
      refine ⟨D, _, _, rfl, rfl, eD11, small1000 (by omega), ?_⟩
      have kw : Keeps NoL H11 (upd H11 D (.lst (rs ++ [.ref p11]))) := keeps_own eD11 id
      have k3 : Keeps NoL H3 H11 := S11.keeps
      have k9 : Keeps NoL H9 H11 := (s10.trans s11).keeps
      refine ⟨rs ++ [.ref p11], _, _, _, rfl, (s.trans S11).put nDH, upd_same, ?_⟩
      rw [take_more hq0, List.filter_append, List.filter_cons_of_pos (by simpa using hqk), List.filter_nil, List.map_append]
      refine ((hrs.mono fun _ _ x => x.keeps k3).mono fun _ _ x => x.keeps kw).snoc ?_
      exact ⟨p11, pa, pb, t9, ws9, rfl, kw.tup hp11, kw.tup (k3.tup (s.tup hpa)), kw.tup (k3.tup (s.tup hpb)), kw.tup (k9.tup ht9), (hR9.keeps k9).keeps kw⟩
    · rw [show decide (V.int (q0.2 : Nat) = V.int (k : Nat)) = false from decide_eq_false fun z => hqk (by have := V.int.inj z; omega)]
      refine iteF ⟨rs, _, _, _, rfl, s, e, ?_⟩
      rw [take_more hq0, List.filter_append, List.filter_cons_of_neg (by simpa using hqk), List.filter_nil, List.append_nil]
      exact hrs
  · rintro σ H3 ⟨rs, y3, y4, y5, rfl, s, e, hrs⟩
    have hrs : All2 (RowAt K H3) rs ((((f.pre k).take us.length).filter fun q => decide (q.2 = k)).map fun q => q.1) := hrs
    rw [hul, List.take_length, pre_tops] at hrs
    refine ⟨_, rfl, D, _, rfl, .inl ⟨sqL_of e, fun t nt => ?_⟩⟩
    have s4 : Same H3 (upd H3 t (.tup rs)) := (Same.refl H3).put nt
    exact q _ t rs (s.trans s4) sqT_new (RowsAt.of (hrs.mono fun _ _ x => x.keeps (N := NoL) s4.keeps))
end
end Sc
namespace Sc
open PySem PySem.Spec PyProof.Rows L2
structure BookX (P : Program) (w : World) (K : PySem.W.Frag) (mg : Str → Option Value) (base : Heap) (B : Addr) : Prop where
  cls : Cls K B
  facts : PropX P w K mg base B "facts" "_facts"
  rules : PropX P w K mg base B "rules" "_rules"
  ruling : PropX P w K mg base B "ruling" "_ruling"
end Sc
namespace Sc
open PySem PySem.Spec PyProof.Rows L2
section
variable {K : PySem.W.Frag} {H : Hp}
/-! ### rows as data -/
def RF.dats : RF → List PyData
  | .nil => []
  | .cons nm hs fs rl exc rest => .tuple [.str nm, .tuple (hs.map PyData.str), .tuple (fs.map PyData.str), .str rl, .tuple exc.dats] :: rest.dats
theorem dp_rows : ∀ {f : RF} {vs : List V}, RowsAt K H f vs → DpAll K H vs f.dats
  | .nil, _, h => by
    obtain rfl : _ = [] := h
    exact .nil
  | .cons nm hs fs rl exc rest, vs, h => by
    obtain ⟨o, w, b, p, ws, vs', rfl, h1, h2, h3, h4, h6, h7⟩ := h
    exact .cons (.tup h1 (.cons (.str _) (.cons (.tup h2 (dps K H hs)) (.cons (.tup h3 (dps K H fs)) (.cons (.str _) (.cons (.tup h4 (dp_rows h6)) .nil)))))) (dp_rows h7)
theorem lay_rows : ∀ {f : RF}, f.every NdOk → PyData.canLayAll0 f.dats = true
  | .nil, _ => rfl
  | .cons nm hs fs rl exc rest, h => by
    obtain ⟨h1, h2, h3⟩ := h
    show (((PyData.str nm).canLay0 && (PyData.canLayAll0 (hs.map PyData.str) && (PyData.canLayAll0 (fs.map PyData.str) && ((PyData.str rl).canLay0 && (PyData.canLayAll0 exc.dats && true))))) && PyData.canLayAll0 rest.dats) = true
    rw [(name_fine h1.nm).2, strs_lay (fw_fines h1.c1), strs_lay (fw_fines h1.c2), (name_fine h1.rl).2, lay_rows h2, lay_rows h3]
    rfl
theorem dep_rows : ∀ f : RF, PyData.depthAll f.dats ≤ 2 * f.dep
  | .nil => Nat.le_refl 0
  | .cons nm hs fs rl exc rest => by
    have h1 := dep_rows exc
    have h2 := dep_rows rest
    show max ((max (PyData.str nm).depth (max (PyData.depthAll (hs.map PyData.str) + 1) (max (PyData.depthAll (fs.map PyData.str) + 1) (max (PyData.str rl).depth (max (PyData.depthAll exc.dats + 1) 0))))) + 1) (PyData.depthAll rest.dats) ≤ 2 * max (exc.dep + 1) rest.dep
    rw [strs_depth, strs_depth]
    have e1 : (PyData.str nm).depth = 0 := rfl
    have e2 : (PyData.str rl).depth = 0 := rfl
    omega
theorem sh_rows {f : RF} (h : f.every NdOk) (d : f.dep ≤ 12) : SeqAt.shaped (.tuple f.dats) = true := by
  unfold SeqAt.shaped
  have e1 : (PyData.tuple f.dats).canLay0 = true := lay_rows h
  have e2 : (PyData.tuple f.dats).depth ≤ 64 := by
    have := dep_rows f
    show PyData.depthAll f.dats + 1 ≤ 64
    omega
  rw [e1, decide_eq_true e2]
  rfl
end
namespace RF
def ofL : List Nd → RF
  | [] => .nil
  | n :: r => .cons n.nm n.hs n.fs n.rl n.exc (ofL r)
theorem ofL_nodes : ∀ ns : List Nd, (ofL ns).nodes = ns
  | [] => rfl
  | n :: r => by show n :: (ofL r).nodes = _; rw [ofL_nodes r]
theorem ofL_every {p : Nd → Prop} : ∀ {ns : List Nd}, (∀ n ∈ ns, p n ∧ n.exc.every p) → (ofL ns).every p
  | [], _ => trivial
  | n :: r, h => ⟨(h n List.mem_cons_self).1, (h n List.mem_cons_self).2, ofL_every fun m hm => h m (List.mem_cons_of_mem _ hm)⟩
theorem ofL_dep {d : Nat} : ∀ {ns : List Nd}, (∀ n ∈ ns, n.exc.dep + 1 ≤ d) → (ofL ns).dep ≤ d
  | [], _ => Nat.zero_le _
  | n :: r, h => by
    have h1 := h n List.mem_cons_self
    have h2 := ofL_dep (ns := r) fun m hm => h m (List.mem_cons_of_mem _ hm)
    show max (n.exc.dep + 1) (ofL r).dep ≤ d
    omega
end RF
theorem sh_rowsL {f : RF} (h : f.every NdOk) (d : f.dep ≤ 12) : SeqAt.shaped (.list f.dats) = true := by
  unfold SeqAt.shaped
  have e1 : (PyData.list f.dats).canLay0 = true := lay_rows h
  have e2 : (PyData.list f.dats).depth ≤ 64 := by
    have := dep_rows f
    show PyData.depthAll f.dats + 1 ≤ 64
    omega
  rw [e1, decide_eq_true e2]
  rfl
theorem dats_nil {f : RF} : (PyData.list f.dats).eqv (.list []) = decide (f.nodes = []) := by
  cases f with
  | nil => rfl
  | cons nm hs fs rl exc rest => exact (decide_eq_false (List.cons_ne_nil _ _)).symm
end Sc
namespace Sc
open PySem PySem.Spec PyProof.Rows L2
theorem sc__law_told : FnScope ["_law_rules", "_law_found", "_law_rule_here", "_law_condition"] ["_law_rules"] (defScope s__law_told) := ⟨rfl, rfl, rfl, by decide +kernel, rfl, by decide +kernel, by decide +kernel⟩
theorem sc__law_seen : FnScope ["_law_book"] ["_law_book"] (defScope s__law_seen) := ⟨rfl, rfl, rfl, by decide +kernel, rfl, by decide +kernel, by decide +kernel⟩
section
variable {P : Program} {w : World} {K : PySem.W.Frag} {mg : Str → Option Value} {base : Heap} {C R B CC CR CF_ CB : Addr}
theorem at_strs {H : Hp} {a : Addr} {n : Nat} {xs : List Str} (h : SqT K H a (xs.map V.str)) (l : xs.length ≤ 1000) : AT K H (n + 1) (.ref a) (.tuple (xs.map PyData.str)) := by
  refine .tup h (by rw [List.length_map, List.length_map]) (by rw [List.length_map]; omega) fun i x d hx hd => ?_
  rw [List.getElem?_map] at hx hd
  cases e : xs[i]? with
  | none => rw [e] at hx; cases hx
  | some z => rw [e] at hx hd; cases hx; cases hd; exact .str _ _
theorem dats_len : ∀ f : RF, f.dats.length = f.nodes.length
  | .nil => rfl
  | .cons nm hs fs rl exc rest => by
    show (_ :: rest.dats).length = (_ :: rest.nodes).length
    rw [List.length_cons, List.length_cons, dats_len rest]
theorem at_rows {H : Hp} : ∀ {f : RF} {vs : List V} {n : Nat}, RowsAt K H f vs → f.every NdOk → f.size ≤ 900 → 2 * f.dep ≤ n → ∀ (i : Nat) (x : V) (d : PyData), vs[i]? = some x → f.dats[i]? = some d → AT K H n x d
  | .nil, vs, n, h, _, _, _, i, x, d, hx, _ => by
    obtain rfl : vs = [] := h
    cases i <;> cases hx
  | .cons nm hs fs rl exc rest, vs, n, h, ⟨ok, e2, e3⟩, hz, hn, i, x, d, hx, hd => by
    obtain ⟨o, w, b, p, ws, vs', rfl, h1, h2, h3, h4, h6, h7⟩ := h
    have hn : 2 * max (exc.dep + 1) rest.dep ≤ n := hn
    have hz : exc.size + 1 + rest.size ≤ 900 := hz
    have hl := ok.len
    cases i with
    | succ i => exact at_rows h7 e3 (by omega) (by omega) i x d hx hd
    | zero =>
      cases hx
      cases hd
      obtain ⟨n, rfl⟩ : ∃ m, n = m + 2 := ⟨n - 2, by omega⟩
      have hel := h6.len
      have hez := RF.nodes_le exc
      refine .tup h1 rfl (by show 5 ≤ 1000000; decide) fun j x d hx hd => ?_
      match j, hx, hd with
      | 0, hx, hd => cases hx; cases hd; exact .str _ _
      | 1, hx, hd => cases hx; cases hd; exact at_strs h2 (by show hs.length ≤ 1000; have : hs.length ≤ 8 := hl.1; omega)
      | 2, hx, hd => cases hx; cases hd; exact at_strs h3 (by show fs.length ≤ 1000; have : fs.length ≤ 8 := hl.2; omega)
      | 3, hx, hd => cases hx; cases hd; exact .str _ _
      | 4, hx, hd => cases hx; cases hd; exact .tup h4 (by rw [hel, dats_len]) (by omega) fun k x d hx hd => at_rows h6 e2 (by omega) (by omega) k x d hx hd
      | j + 5, hx, hd => cases hx
/-- a book told in tuples -/
def SeenAt (K : PySem.W.Frag) (H : Hp) (p : Addr) (xs : List Str) (f : RF) (rl : Str) : Prop := ∃ (fp pr : Addr) (ws : List V), SqT K H p [.ref fp, .ref pr, .str rl] ∧ SqT K H fp (xs.map V.str) ∧ SqT K H pr ws ∧ RowsAt K H f ws
theorem SeenAt.keeps {N : Addr → Prop} {H H' : Hp} {p : Addr} {xs : List Str} {f : RF} {rl : Str} (k : Keeps N H H') (h : SeenAt K H p xs f rl) : SeenAt K H' p xs f rl := by
  obtain ⟨fp, pr, ws, h1, h2, h3, h4⟩ := h
  exact ⟨fp, pr, ws, k.tup h1, k.tup h2, k.tup h3, h4.keeps k⟩
theorem at_seen {H : Hp} {p : Addr} {xs : List Str} {f : RF} {rl : Str} (h : SeenAt K H p xs f rl) (l : xs.length ≤ 60) (ev : f.every NdOk) (hz : f.size ≤ 900) (hd : f.dep ≤ 8) : AT K H 30 (.ref p) (.tuple [.tuple (xs.map PyData.str), .tuple f.dats, .str rl]) := by
  obtain ⟨fp, pr, ws, h1, h2, h3, h4⟩ := h
  have hel := h4.len
  have hez := RF.nodes_le f
  refine .tup h1 rfl (by show 3 ≤ 1000000; decide) fun j x d hx hd => ?_
  match j, hx, hd with
  | 0, hx, hd => cases hx; cases hd; exact at_strs h2 (by omega)
  | 1, hx, hd => cases hx; cases hd; exact .tup h3 (by rw [hel, dats_len]) (by omega) fun k x d hx hd => at_rows h4 ev hz (by omega) k x d hx hd
  | 2, hx, hd => cases hx; cases hd; exact .str _ _
  | j + 3, hx, hd => cases hx
def sp_told (K : PySem.W.Frag) (C R : Addr) (d : Nat) : Sp := fun vs H Q _ => ∃ (N : Addr → Prop) (p : Addr) (ws : List V) (f : RF), vs = [.ref p] ∧ SqT K H p ws ∧ ForAt K C R N H f ws ∧ f.dep ≤ d ∧ f.size ≤ 900 ∧
  ∀ H' p' us, Same H H' → SqT K H' p' us → RowsAt K H' f us → Q (.ref p') H'
theorem ok_told {d : Nat} {f : Addr} {fd : FuncData} (F : Fun K "_law_told" "_law_told" s__law_told f fd) (B : Blt mg) (kR : RuleX P w K mg base R) (kK : CondG P w K mg base C)
    (c__law_told : Cal P w K mg base CX0 (d + 3) "_law_told" ["_law_rules"] (Below (sp_told K C R) d)) :
    FnOk P w K mg base CX0 (d + 4) f fd ["_law_rules"] (sp_told K C R d) := by
  refine F.ok sc__law_told (fun vs H Q E h => by obtain ⟨N, p, ws, f, rfl, _⟩ := h; rfl) (fun cdv A outer s H vs Q E hr h => ?_)
  obtain ⟨N, p, ws, f, rfl, hP, hF, hd, hz, q⟩ := h
  refine ⟨_, (pss_cons (ps_set (i := 1) sc__law_told.nd rfl (Or.inl rfl) (pe_lst pa_nil))
      (pss_cons (ps_for PassesOwn.never rfl (pi_tup (pv 0)) (pg_name (i := 2) sc__law_told.nd rfl (Or.inl rfl)) (pss_cons (ps_set (i := 3) sc__law_told.nd rfl (Or.inl rfl) (pe_cprop kR.condition kR.cls (hr.mono (by omega)) (pv 2)))
      (pss_one (ps_expr (pe_bm PySem.F.plainAttrs_list PySem.F.slot_list_append PySem.F.type_list_append mt_append (pv 1) (pa_cons (pe_tup (pa_cons (pe_cprop kR.name kR.cls (hr.mono (by omega)) (pv 2)) (pa_cons (pe_cprop kK.holding kK.cls (hr.mono (by omega)) (pv 3)) (pa_cons (pe_cprop kK.failing kK.cls (hr.mono (by omega)) (pv 3)) (pa_cons (pe_cprop kR.ruling kR.cls (hr.mono (by omega)) (pv 2)) (pa_cons (pe_cal c__law_told hr (pa_cons (pe_cprop kR.exceptions kR.cls (hr.mono (by omega)) (pv 2)) pa_nil)) pa_nil)))))) pa_nil))))))
      (pss_one (ps_ret (pe_callTy call_tuple_of (by rfl) B.b_tuple PyProof.Rows.boot_tuple (pa_cons (pv 1) pa_nil)))))), ?_⟩
  have hA := hF.all
  have hln := hA.len
  have hlz := RF.nodes_le f
  refine ⟨Nat.zero_le _, fun D nD => ?_⟩
  have s0 : Same H (upd H D (.lst [])) := (Same.refl H).put nD
  have e0 : (upd H D (.lst [])) D = some (.lst []) := upd_same
  generalize upd H D (.lst []) = H0 at s0 e0 ⊢
  refine ⟨_, rfl, p, rfl, ⟨_, s0.tup hP⟩, for_it walk_tup (fun i σ H' => ∃ (rs : List V) (y2 y3 : Option V), σ = [some (.ref p), some (.ref D), y2, y3] ∧ Same H H' ∧ H' D = some (.lst rs) ∧ All2 (RowAt K H') rs (f.nodes.take i))
    ⟨[], none, none, rfl, s0, e0, .nil⟩ (fun _ _ _ _ ⟨_, _, _, _, s, _⟩ => s.tup hP) ?_ ?_⟩
  · rintro i y σ H4 H3 hi ⟨rs, y2, y3, rfl, s, e, hrs⟩ ⟨rfl, hy⟩
    obtain ⟨n, hn, o, rfl, hN⟩ := hA.get hy
    have hmem : n ∈ f.nodes := List.mem_of_getElem? hn
    have hdm := RF.dep_mem _ n hmem
    have hsm := RF.size_mem _ n hmem
    obtain ⟨d, rfl⟩ : ∃ d', d = d' + 1 := ⟨d - 1, by omega⟩
    have hrl := hrs.len
    rw [List.length_take] at hrl
    obtain ⟨dx', c', pe', l', ws', ho', hc', hpe', hle', hfe'⟩ := hN.keeps (N := N) s.keeps
    obtain ⟨dxc, ca, cb, cn, zs, hcc, hca, hcb, _⟩ := hc'.at_
    refine ⟨_, rfl, o, dx', _, rfl, ho', o, dx', _, _, rfl, ho', rfl, ?_⟩
    refine ⟨_, rfl, .inl ⟨rfl, _, sqL_of e⟩, _, rfl, o, dx', _, rfl, ho', o, dx', _, _, rfl, ho', rfl, _, rfl, c', dxc, _, rfl, hcc, c', dxc, _, _, rfl, hcc, rfl, _, rfl, c', dxc, _, rfl, hcc, c', dxc, _, _, rfl, hcc, rfl, _, rfl, o, dx', _, rfl, ho', o, dx', _, _, rfl, ho', rfl, _, rfl, o, dx', _, rfl, ho', o, dx', _, _, rfl, ho', rfl, N, pe', ws', n.exc, rfl, hpe', hfe', by omega, by omega, fun H5 p5 us5 s5 hp5 hr5 => ?_⟩
    refine ⟨(by show 5 ≤ sizeLine; decide), fun t nt => ?_⟩
    have s6 : Same H5 (upd H5 t (.tup [.str n.nm, .ref ca, .ref cb, .str n.rl, .ref p5])) := (Same.refl H5).put nt
    have e6 : (upd H5 t (.tup [.str n.nm, .ref ca, .ref cb, .str n.rl, .ref p5])) t = some (.tup [.str n.nm, .ref ca, .ref cb, .str n.rl, .ref p5]) := upd_same
    generalize upd H5 t (.tup [.str n.nm, .ref ca, .ref cb, .str n.rl, .ref p5]) = H6 at s6 e6 ⊢
    have s36 := s5.trans s6
    have eD := s36 _ _ e
    refine ⟨D, _, _, rfl, rfl, eD, small1000 (by omega), ?_⟩
    have kk : Keeps NoL H6 (upd H6 D (.lst (rs ++ [.ref t]))) := keeps_own eD id
    have hrow : RowAt K H6 (.ref t) n := ⟨t, ca, cb, p5, us5, rfl, sqT_of e6, s36.tup hca, s36.tup hcb, s6.tup hp5, hr5.keeps (N := NoL) s6.keeps⟩
    refine ⟨rs ++ [.ref t], _, _, rfl, (s.trans s36).put nD, upd_same, ?_⟩
    rw [take_more hn]
    exact (hrs.mono fun _ _ x => (x.keeps (N := NoL) s36.keeps).keeps kk).snoc (hrow.keeps kk)
  · rintro σ H3 ⟨rs, y2, y3, rfl, s, e, hrs⟩
    rw [hln, List.take_length] at hrs
    refine ⟨_, rfl, D, _, rfl, .inl ⟨sqL_of e, fun t nt => ?_⟩⟩
    have s4 : Same H3 (upd H3 t (.tup rs)) := (Same.refl H3).put nt
    exact q _ t rs (s.trans s4) sqT_new (RowsAt.of (hrs.mono fun _ _ x => x.keeps (N := NoL) s4.keeps))
def sp_seen (K : PySem.W.Frag) (C R B : Addr) : Sp := fun vs H Q _ => ∃ (N : Addr → Prop) (o : Addr) (xs : List Str) (f : RF) (rl : Str), vs = [.ref o] ∧ BookAt K C R B N H o xs f rl ∧ f.dep ≤ 12 ∧ f.size ≤ 900 ∧ ∀ H' p, Same H H' → SeenAt K H' p xs f rl → Q (.ref p) H'
theorem ok_seen {f : Addr} {fd : FuncData} (F : Fun K "_law_seen" "_law_seen" s__law_seen f fd) (Bl : Blt mg) (kB : BookX P w K mg base B) (c__law_told : Cal P w K mg base CX0 16 "_law_told" ["_law_rules"] (sp_told K C R 12)) :
    FnOk P w K mg base CX0 17 f fd ["_law_book"] (sp_seen K C R B) := by
  refine F.ok sc__law_seen (fun vs H Q E h => by obtain ⟨N, o, xs, f, rl, rfl, _⟩ := h; rfl) (fun cdv A outer s H vs Q E hr h => ?_)
  obtain ⟨N, o, xs, f, rl, rfl, ⟨dx, a, p, l, ws, us, ho, hS, hP, hF, _⟩, hd, hz, q⟩ := h
  refine ⟨_, (pss_one (ps_ret (pe_tup (pa_cons (pe_cprop kB.facts kB.cls (hr.mono (by decide)) (pv 0)) (pa_cons (pe_cal c__law_told (hr.mono (by decide)) (pa_cons (pe_cprop kB.rules kB.cls (hr.mono (by decide)) (pv 0)) pa_nil)) (pa_cons (pe_cprop kB.ruling kB.cls (hr.mono (by decide)) (pv 0)) pa_nil)))))), ?_⟩
  refine ⟨_, rfl, o, dx, _, rfl, ho, o, dx, _, _, rfl, ho, rfl, _, rfl, o, dx, _, rfl, ho, o, dx, _, _, rfl, ho, rfl, N, p, ws, f, rfl, hP, hF, hd, hz, fun H5 p5 us5 s5 hp5 hr5 => ?_⟩
  have ho5 := s5 _ _ ho
  refine ⟨_, rfl, o, dx, _, rfl, ho5, o, dx, _, _, rfl, ho5, rfl, (by show 3 ≤ sizeLine; decide), fun t nt => ?_⟩
  have s6 : Same H5 (upd H5 t (.tup [.ref a, .ref p5, .str rl])) := (Same.refl H5).put nt
  exact q _ t (s5.trans s6) ⟨a, p5, us5, sqT_new, (s5.trans s6).tup hS, s6.tup hp5, hr5.keeps (N := NoL) s6.keeps⟩
end
end Sc
namespace Sc
open PySem PySem.Spec PyProof.Rows L2
/-- each stands at most one deeper than the one ahead of it -/
def stepsF : Nat → List (Nd × Nat) → Prop
  | _, [] => True
  | k, q :: t => q.2 ≤ k ∧ stepsF (q.2 + 1) t
theorem stepsF_app : ∀ {a b : List (Nd × Nat)} {k : Nat}, stepsF k (a ++ b) → stepsF k a ∧ ∃ j, stepsF j b
  | [], b, k, h => ⟨trivial, k, h⟩
  | q :: t, b, k, h => by
    have h : q.2 ≤ k ∧ stepsF (q.2 + 1) (t ++ b) := h
    have ⟨h1, h2⟩ := stepsF_app h.2
    exact ⟨⟨h.1, h1⟩, h2⟩
theorem stepsF_snoc {q : Nd × Nat} : ∀ {a : List (Nd × Nat)} {k : Nat}, stepsF k a → (∀ p, a.getLast? = some p → q.2 ≤ p.2 + 1) → (a = [] → q.2 ≤ k) → stepsF k (a ++ [q])
  | [], k, _, _, h => ⟨h rfl, trivial⟩
  | [p], k, h, hl, _ => ⟨h.1, hl p rfl, trivial⟩
  | p :: r :: t, k, h, hl, _ => by
    refine ⟨h.1, stepsF_snoc h.2 (fun x hx => hl x ?_) (fun e => nomatch e)⟩
    rw [List.getLast?_cons_cons]
    exact hx
theorem stepsF_mostS {tl : List (Nd × Nat)} {q : Nd × Nat} (h : stepsF 0 tl) (hq : q.2 ≤ mostS tl) : stepsF 0 (tl ++ [q]) := by
  refine stepsF_snoc h (fun p hp => ?_) (fun e => ?_)
  · unfold mostS at hq
    rw [hp] at hq
    have hq : q.2 ≤ min (p.2 + 1) 5 := hq
    omega
  · subst e
    exact hq
/-- a rule without its exceptions, and in how many it stands -/
def flatN (q : Nd × Nat) : Str × List Str × List Str × Str × Nat := (q.1.nm, q.1.hs, q.1.fs, q.1.rl, q.2)
namespace RF
theorem of_steps : ∀ (n k : Nat) (tl : List (Nd × Nat)), tl.length ≤ n → stepsF k tl → ∃ (f : RF) (t1 t2 : List (Nd × Nat)), tl = t1 ++ t2 ∧ (f.pre k).map flatN = t1.map flatN ∧ (∀ q t, t2 = q :: t → q.2 < k) ∧ (∀ m, (∀ q ∈ tl, q.2 < m) → k ≤ m → f.dep + k ≤ m)
  | n, k, [], _, _ => ⟨.nil, [], [], rfl, rfl, (fun _ _ e => nomatch e), fun m _ h => by show 0 + k ≤ m; omega⟩
  | 0, k, q :: t, h, _ => nomatch h
  | n + 1, k, q :: t, hn, hs => by
    by_cases hk : q.2 < k
    · exact ⟨.nil, [], q :: t, rfl, rfl, (fun q' t' e => by cases e; exact hk), fun m _ h => by show 0 + k ≤ m; omega⟩
    · have ek : q.2 = k := by have := hs.1; omega
      have hn : t.length ≤ n := by rw [List.length_cons] at hn; omega
      have hs2 : stepsF (k + 1) t := ek ▸ hs.2
      obtain ⟨f, t1, t2, e, h1, h2, h3⟩ := of_steps n (k + 1) t hn hs2
      subst e
      obtain ⟨_, j, hj⟩ := stepsF_app hs2
      have hs3 : stepsF k t2 := by
        cases t2 with
        | nil => trivial
        | cons p r => exact ⟨by have := h2 p r rfl; omega, hj.2⟩
      obtain ⟨g, t3, t4, e, h4, h5, h6⟩ := of_steps n k t2 (by rw [List.length_append] at hn; omega) hs3
      subst e
      refine ⟨.cons q.1.nm q.1.hs q.1.fs q.1.rl f g, q :: (t1 ++ t3), t4, by rw [List.cons_append, List.append_assoc], ?_, h5, fun m hm hk => ?_⟩
      · show (((⟨q.1.nm, q.1.hs, q.1.fs, q.1.rl, f⟩ : Nd), k) :: (f.pre (k + 1) ++ g.pre k)).map flatN = _
        rw [List.map_cons, List.map_append, h1, h4, List.map_cons, List.map_append, ← ek]
        rfl
      · have hq := hm q (List.mem_cons_self ..)
        have a1 := h3 m (fun x hx => hm x (List.mem_cons_of_mem _ hx)) (by omega)
        have a2 := h6 m (fun x hx => hm x (List.mem_cons_of_mem _ (List.mem_append_right _ hx))) hk
        show max (f.dep + 1) g.dep + k ≤ m
        omega
/-- a told list is that of some rows of rules -/
theorem of_told {tl : List (Nd × Nat)} (h : stepsF 0 tl) : ∃ f : RF, (f.pre 0).map flatN = tl.map flatN ∧ (∀ m, (∀ q ∈ tl, q.2 < m) → f.dep ≤ m) ∧ f.size = tl.length := by
  obtain ⟨f, t1, t2, e, h1, h2, h3⟩ := of_steps tl.length 0 tl (Nat.le_refl _) h
  have e2 : t2 = [] := by
    cases t2 with
    | nil => rfl
    | cons q t => exact absurd (h2 q t rfl) (Nat.not_lt_zero _)
  subst e2
  rw [List.append_nil] at e
  subst e
  refine ⟨f, h1, fun m hm => by have := h3 m hm (Nat.zero_le _); omega, ?_⟩
  rw [← pre_len f 0]
  have := congrArg List.length h1
  rwa [List.length_map, List.length_map] at this
end RF
theorem all2_flat {K : PySem.W.Frag} {C : Addr} {H : Hp} : ∀ {us : List V} {a b : List (Nd × Nat)}, All2 (TldAt K C H) us a → b.map flatN = a.map flatN → All2 (TldAt K C H) us b
  | _, [], [], .nil, _ => .nil
  | _, [], _ :: _, _, e => nomatch e
  | _, _ :: _, [], _, e => nomatch e
  | _, p :: a, q :: b, .cons h t, e => by
    rw [List.map_cons, List.map_cons] at e
    injection e with e1 e2
    refine .cons ?_ (all2_flat t e2)
    unfold flatN at e1
    injection e1 with e3 e1
    injection e1 with e4 e1
    injection e1 with e5 e1
    injection e1 with e6 e7
    unfold TldAt at h ⊢
    rw [e3, e4, e5, e6, e7]
    exact h
theorem NdOk.flat {a b : Nd × Nat} (h : NdOk a.1) (e : flatN b = flatN a) : NdOk b.1 := by
  unfold flatN at e
  injection e with e3 e1
  injection e1 with e4 e1
  injection e1 with e5 e1
  injection e1 with e6 e7
  exact ⟨e3 ▸ h.nm, e6 ▸ h.rl, e4 ▸ h.c1, by rw [e5, e4]; exact h.c2⟩
theorem RF.every_ofPre : ∀ (f : RF) (k : Nat), (∀ q ∈ f.pre k, NdOk q.1) → f.every NdOk
  | .nil, _, _ => trivial
  | .cons nm hs fs rl exc rest, k, h => ⟨h (⟨nm, hs, fs, rl, exc⟩, k) (List.mem_cons_self ..), every_ofPre exc (k + 1) fun q hq => h q (List.mem_cons_of_mem _ (List.mem_append_left _ hq)), every_ofPre rest k fun q hq => h q (List.mem_cons_of_mem _ (List.mem_append_right _ hq))⟩
theorem told_every {tl : List (Nd × Nat)} {f : RF} (e : (f.pre 0).map flatN = tl.map flatN) (h : ∀ q ∈ tl, NdOk q.1) : f.every NdOk := by
  refine f.every_ofPre 0 fun q hq => ?_
  have hm : flatN q ∈ tl.map flatN := e ▸ List.mem_map_of_mem hq
  obtain ⟨p, hp, ep⟩ := List.mem_map.mp hm
  exact (h p hp).flat ep.symm
end Sc
namespace Sc
open PySem PySem.Spec PyProof.Rows L2
/-- what the reading of a rule keeps -/
structure RdOk (xs : List Str) (tl : List (Nd × Nat)) (q : Nd × Nat) : Prop where
  ok : NdOk q.1
  dep : q.2 ≤ mostS tl
  many : tl.length < 60
  outer : ¬ (q.2 = 0 ∧ 40 ≤ outerN tl)
  new : ¬ q.1.nm ∈ tl.map fun p => p.1.nm
  nres : ¬ q.1.nm ∈ reserved
  rres : ¬ q.1.rl ∈ reserved
  hs : ∀ x ∈ q.1.hs, x ∈ xs
  fs : ∀ x ∈ q.1.fs, x ∈ xs
  exc : q.1.exc = .nil
theorem rdR_ok {xs ws : List Str} {tl : List (Nd × Nat)} {q : Nd × Nat} (hxn : ∀ x ∈ xs, isName x = true) (h : rdR xs tl ws = .inr q) : RdOk xs tl q := by
  unfold rdR at h
  by_cases h1 : 60 ≤ tl.length
  · rw [if_pos h1] at h; cases h
  rw [if_neg h1] at h
  by_cases h2 : mostS tl < nS ws
  · rw [if_pos h2] at h; cases h
  rw [if_neg h2] at h
  by_cases h3 : nS ws = 0 ∧ 40 ≤ outerN tl
  · rw [if_pos h3] at h; cases h
  rw [if_neg h3] at h
  by_cases h4 : nameNew tl ws[nS ws]? = false
  · rw [if_pos h4] at h; cases h
  rw [if_neg h4] at h
  by_cases h5 : ws[nS ws + 1]? ≠ some (Str.ofString "is")
  · rw [if_pos h5] at h; cases h
  rw [if_neg h5] at h
  by_cases h6 : freeO ws[nS ws + 2]? = false
  · rw [if_pos h6] at h; cases h
  rw [if_neg h6] at h
  cases e1 : rdP (Str.ofString "if") xs [] ws (nS ws + 3) with
  | inl e => rw [e1] at h; cases h
  | inr p =>
    obtain ⟨hs, a2⟩ := p
    rw [e1] at h
    have h : (match rdP (Str.ofString "not") xs hs ws a2 with
      | .inl e => .inl e
      | .inr (fs, a3) => if a3 < ws.length then .inl a3 else .inr (⟨(ws[nS ws]?).getD "", hs, fs, (ws[nS ws + 2]?).getD "", .nil⟩, nS ws) : Nat ⊕ (Nd × Nat)) = .inr q := h
    cases e2 : rdP (Str.ofString "not") xs hs ws a2 with
    | inl e => rw [e2] at h; cases h
    | inr p =>
      obtain ⟨fs, a3⟩ := p
      rw [e2] at h
      have h : (if a3 < ws.length then .inl a3 else .inr (⟨(ws[nS ws]?).getD "", hs, fs, (ws[nS ws + 2]?).getD "", .nil⟩, nS ws) : Nat ⊕ (Nd × Nat)) = .inr q := h
      by_cases h7 : a3 < ws.length
      · rw [if_pos h7] at h; cases h
      rw [if_neg h7] at h
      injection h with h
      subst h
      obtain ⟨n, en⟩ : ∃ n, ws[nS ws]? = some n := by
        cases e : ws[nS ws]? with
        | none => rw [e] at h4; exact absurd rfl h4
        | some n => exact ⟨n, rfl⟩
      obtain ⟨r, er⟩ : ∃ r, ws[nS ws + 2]? = some r := by
        cases e : ws[nS ws + 2]? with
        | none => rw [e] at h6; exact absurd rfl h6
        | some r => exact ⟨r, rfl⟩
      rw [en] at h4
      rw [er] at h6
      have h4 : ((isName n && !decide (n ∈ reserved)) && !decide (n ∈ tl.map fun q => q.1.nm)) = true := by rw [← Bool.not_eq_false]; exact h4
      have h6 : (isName r && !decide (r ∈ reserved)) = true := by rw [← Bool.not_eq_false]; exact h6
      rw [Bool.and_eq_true, Bool.and_eq_true] at h4
      rw [Bool.and_eq_true] at h6
      have hlen := (List.getElem?_eq_some_iff.mp er).1
      obtain ⟨up1, in1, _, l1, ha2⟩ := rdP_ok e1 (by omega)
      obtain ⟨up2, in2, out2, l2, ha3⟩ := rdP_ok e2 ha2
      rw [en, er]
      have l1' : hs.length ≤ 8 := by rcases l1 with rfl | l1; exact Nat.zero_le _; have : 0 + hs.length ≤ 8 := l1; omega
      have hr1 : Right hs := ⟨up1, fun x hx => hxn x (in1 x hx)⟩
      have hr2 : Right fs := ⟨up2, fun x hx => hxn x (in2 x hx)⟩
      have l2' : hs.length + fs.length ≤ 8 := by rcases l2 with rfl | l2; exact l1'; exact l2
      exact ⟨⟨h4.1.1, h6.1, hr1.none (by show 0 + hs.length ≤ 8; omega) (fun _ _ h => nomatch h), hr2.none l2' out2⟩, by show nS ws ≤ _; omega, by omega, h3, by simpa using h4.2, by simpa using h4.1.2, by simpa using h6.2, in1, in2, rfl⟩
theorem ff_snoc {xs : List Str} {n : Nd} {k : Nat} : ∀ {tl : List (Nd × Nat)} {met : List Str} {out i : Nat}, firstFault xs tl met out i = none → faultAt xs (met ++ tl.map fun p => p.1.nm) (outNext (out + outerN tl) k) (i + tl.length) n k = none → firstFault xs (tl ++ [(n, k)]) met out i = none
  | [], met, out, i, _, h => by
    rw [List.map_nil, List.append_nil] at h
    show (match faultAt xs met (outNext out k) i n k with | some w => some (w, i) | none => none) = none
    have h : faultAt xs met (outNext out k) i n k = none := h
    rw [h]
  | (m, j) :: t, met, out, i, h0, h => by
    have h0 : (match faultAt xs met (outNext out j) i m j with | some w => some (w, i) | none => firstFault xs t (met ++ [m.nm]) (outNext out j) (i + 1)) = none := h0
    show (match faultAt xs met (outNext out j) i m j with | some w => some (w, i) | none => firstFault xs (t ++ [(n, k)]) (met ++ [m.nm]) (outNext out j) (i + 1)) = none
    cases e : faultAt xs met (outNext out j) i m j with
    | some w => rw [e] at h0; cases h0
    | none =>
      rw [e] at h0
      refine ff_snoc h0 ?_
      rw [List.map_cons] at h
      rw [List.append_assoc]
      have e1 : outNext out j + outerN t = out + outerN ((m, j) :: t) := by
        unfold outNext outerN
        by_cases hj : j = 0
        · rw [if_pos hj, List.filter_cons_of_pos (by simpa using hj), List.length_cons]; omega
        · rw [if_neg hj, List.filter_cons_of_neg (by simpa using hj)]
      rw [e1, show i + 1 + t.length = i + ((m, j) :: t).length by rw [List.length_cons]; omega]
      exact h
theorem RdOk.fault {xs : List Str} {tl : List (Nd × Nat)} {q : Nd × Nat} (r : RdOk xs tl q) (h : firstFault xs tl [] 0 0 = none) (ho40 : outerN tl ≤ 40) : firstFault xs (tl ++ [q]) [] 0 0 = none := by
  refine ff_snoc (n := q.1) (k := q.2) h ?_
  unfold faultAt
  have hd : q.2 ≤ 5 := by
    have := r.dep
    unfold mostS at this
    cases e : tl.getLast? with
    | none => rw [e] at this; have : q.2 ≤ 0 := this; omega
    | some p => rw [e] at this; have : q.2 ≤ min (p.2 + 1) 5 := this; omega
  rw [if_neg (by rw [List.nil_append]; exact r.new), if_neg ?_, if_neg (by omega), if_neg ?_]
  · intro hc
    rcases hc with hc | hc
    · have := r.many; omega
    · unfold outNext at hc
      have ho := r.outer
      have hm := r.many
      have : outerN tl ≤ tl.length := List.length_filter_le ..
      by_cases hk : q.2 = 0
      · rw [if_pos hk] at hc
        have : ¬ 40 ≤ outerN tl := fun z => ho ⟨hk, z⟩
        omega
      · rw [if_neg hk] at hc
        omega
  · intro hc
    obtain ⟨x, hx, hn⟩ := List.any_eq_true.mp hc
    have hx : x ∈ q.1.hs ++ q.1.fs := (srt_perm _).mem_iff.mp hx
    have : x ∈ xs := (List.mem_append.mp hx).elim (r.hs x) (r.fs x)
    simp [this] at hn
/-- what the rules that are read keep -/
structure ToldOk (xs : List Str) (tl : List (Nd × Nat)) : Prop where
  ff : firstFault xs tl [] 0 0 = none
  out : outerN tl ≤ 40
  len : tl.length ≤ 60
  st : stepsF 0 tl
  ok : ∀ q ∈ tl, NdOk q.1
  dep : ∀ q ∈ tl, q.2 < 6
theorem ToldOk.nil {xs : List Str} : ToldOk xs [] := ⟨rfl, by decide, by decide, trivial, (fun _ h => nomatch h), fun _ h => nomatch h⟩
theorem ToldOk.snoc {xs : List Str} {tl : List (Nd × Nat)} {q : Nd × Nat} (h : ToldOk xs tl) (r : RdOk xs tl q) : ToldOk xs (tl ++ [q]) := by
  refine ⟨r.fault h.ff h.out, ?_, ?_, stepsF_mostS h.st r.dep, fun p hp => ?_, fun p hp => ?_⟩
  · have ho := r.outer
    have h40 := h.out
    unfold outerN at ho h40 ⊢
    rw [List.filter_append, List.length_append]
    by_cases hk : q.2 = 0
    · rw [List.filter_cons_of_pos (by simpa using hk), List.filter_nil, List.length_cons, List.length_nil]
      have : ¬ 40 ≤ (tl.filter fun q => decide (q.2 = 0)).length := fun z => ho ⟨hk, z⟩
      omega
    · rw [List.filter_cons_of_neg (by simpa using hk), List.filter_nil, List.length_nil]
      exact h40
  · have := r.many
    rw [List.length_append, List.length_cons, List.length_nil]
    omega
  · rcases List.mem_append.mp hp with hp | hp
    · exact h.ok p hp
    · rw [List.mem_singleton.mp hp]; exact r.ok
  · rcases List.mem_append.mp hp with hp | hp
    · exact h.dep p hp
    · rw [List.mem_singleton.mp hp]
      have := r.dep
      unfold mostS at this
      cases e : tl.getLast? with
      | none => rw [e] at this; have : q.2 ≤ 0 := this; omega
      | some p => rw [e] at this; have : q.2 ≤ min (p.2 + 1) 5 := this; omega
theorem ff_flat {xs : List Str} : ∀ {a b : List (Nd × Nat)} {met : List Str} {out i : Nat}, a.map flatN = b.map flatN → firstFault xs a met out i = firstFault xs b met out i
  | [], [], _, _, _, _ => rfl
  | [], _ :: _, _, _, _, e => nomatch e
  | _ :: _, [], _, _, _, e => nomatch e
  | (n, k) :: a, (m, j) :: b, met, out, i, e => by
    rw [List.map_cons, List.map_cons] at e
    injection e with e1 e2
    unfold flatN at e1
    injection e1 with e3 e1
    injection e1 with e4 e1
    injection e1 with e5 e1
    injection e1 with e6 e7
    have e7 : k = j := e7
    subst e7
    have ef : faultAt xs met (outNext out k) i n k = faultAt xs met (outNext out k) i m k := by
      unfold faultAt
      rw [show n.nm = m.nm from e3, show n.hs = m.hs from e4, show n.fs = m.fs from e5]
    show (match faultAt xs met (outNext out k) i n k with | some w => some (w, i) | none => firstFault xs a (met ++ [n.nm]) (outNext out k) (i + 1)) = (match faultAt xs met (outNext out k) i m k with | some w => some (w, i) | none => firstFault xs b (met ++ [m.nm]) (outNext out k) (i + 1))
    rw [ef, show n.nm = m.nm from e3, ff_flat e2]
/-- the rules behind the facts: the place of the first wrong word, or the rules and the ruling's row -/
def rdT (xs : List Str) : Nat → List (Nd × Nat) → List (List Str) → (Nat × Nat) ⊕ (List (Nd × Nat) × List (List Str))
  | row, _, [] => .inl (row, 0)
  | row, tl, ws :: r => if ws[0]? = some (Str.ofString "else") then .inr (tl, ws :: r) else match rdR xs tl ws with
    | .inl e => .inl (row, e)
    | .inr q => rdT xs (row + 1) (tl ++ [q]) r
theorem rdT_ok {xs : List Str} (hxn : ∀ x ∈ xs, isName x = true) : ∀ {rs : List (List Str)} {row : Nat} {tl tl' : List (Nd × Nat)} {r : List (List Str)}, rdT xs row tl rs = .inr (tl', r) → ToldOk xs tl → ToldOk xs tl'
  | [], _, _, _, _, h, _ => nomatch h
  | ws :: rs, row, tl, tl', r, h, ht => by
    unfold rdT at h
    by_cases he : ws[0]? = some (Str.ofString "else")
    · rw [if_pos he] at h
      cases h
      exact ht
    · rw [if_neg he] at h
      cases e : rdR xs tl ws with
      | inl _ => rw [e] at h; cases h
      | inr q =>
        rw [e] at h
        exact rdT_ok hxn (row := row + 1) h (ht.snoc (rdR_ok hxn e))
end Sc
namespace Sc
open PySem PySem.Spec PyProof.Rows L2
theorem rdF_ok {ws : List Str} (h : rdF ws = none) (h0 : ws ≠ []) : Right (ws.drop 1) ∧ ws.drop 1 ≠ [] ∧ (ws.drop 1).length ≤ 60 ∧ ∀ x ∈ ws.drop 1, ¬ x ∈ reserved := by
  unfold rdF at h
  by_cases h1 : ws[0]? = some (Str.ofString "facts")
  · rw [if_pos h1, Option.map_eq_none_iff, List.find?_eq_none] at h
    have hal := (List.getElem?_eq_some_iff.mp h1).1
    obtain ⟨n, hn⟩ : ∃ n, n = max 1 (ws.length - 1) := ⟨_, rfl⟩
    rw [← hn] at h
    have hgood : ∀ i, i < n → ∃ x, (ws.drop 1)[i]? = some x ∧ isName x = true ∧ ¬ x ∈ reserved ∧ risesAt ((ws.drop 1).take (i + 1)) i = true ∧ i + 1 ≤ 60 := fun i hi => by
      have hg := h i (List.mem_range.mpr hi)
      unfold factBad at hg
      rw [Bool.not_eq_true, Bool.not_eq_false', Bool.and_eq_true, Bool.and_eq_true] at hg
      cases hx : ws[i + 1]? with
      | none => rw [hx] at hg; cases hg.1
      | some x =>
        rw [hx] at hg
        have hk : (isName x && !decide (x ∈ reserved)) = true := hg.1
        rw [Bool.and_eq_true] at hk
        exact ⟨x, by rw [List.getElem?_drop, Nat.add_comm]; exact hx, hk.1, by have := hk.2; simpa using this, hg.2.1, of_decide_eq_true hg.2.2⟩
    have hlen : (ws.drop 1).length = n := by
      obtain ⟨x, hx, _⟩ := hgood (n - 1) (by omega)
      have := (List.getElem?_eq_some_iff.mp hx).1
      rw [List.length_drop] at this ⊢
      omega
    generalize ws.drop 1 = xs at hgood hlen
    have hget : ∀ i (hi : i < xs.length), isName xs[i] = true ∧ ¬ xs[i] ∈ reserved ∧ risesAt (xs.take (i + 1)) i = true ∧ i + 1 ≤ 60 := fun i hi => by
      obtain ⟨x, hx, h2⟩ := hgood i (by omega)
      rw [List.getElem?_eq_getElem hi] at hx
      cases hx
      exact h2
    refine ⟨⟨pw_of fun i hi => ?_, fun x hx => ?_⟩, fun z => ?_, ?_, fun x hx => ?_⟩
    · have hr := (hget (i + 1) hi).2.2.1
      rw [risesAt_eq (by rw [List.length_take]; omega) (by omega) (by rw [List.length_take]; omega)] at hr
      simp only [decide_eq_true_eq] at hr
      rw [List.getElem_take, List.getElem_take] at hr
      exact hr
    · obtain ⟨i, hi, rfl⟩ := List.mem_iff_getElem.mp hx
      exact (hget i hi).1
    · rw [z, List.length_nil] at hlen; omega
    · have := (hget (n - 1) (by omega)).2.2.2; omega
    · obtain ⟨i, hi, rfl⟩ := List.mem_iff_getElem.mp hx
      exact (hget i hi).2.1
  · rw [if_neg h1] at h; cases h
theorem right_bad {xs : List Str} (g : Right xs) (h0 : xs ≠ []) (h1 : xs.length ≤ 60) : firstBad xs = none := by
  unfold firstBad
  rw [if_neg h0, List.find?_eq_none]
  intro i hi
  have hi := List.mem_range.mp hi
  unfold badAt
  rw [List.getElem?_eq_getElem hi]
  dsimp only
  rw [g.nm _ (List.getElem_mem hi), decide_eq_false (show ¬ i = 60 by omega)]
  have hr : risesAt xs i = true := by
    by_cases h0 : i = 0
    · rw [h0]; rfl
    · rw [risesAt_eq hi h0 (by omega)]
      exact decide_eq_true (List.pairwise_iff_getElem.mp g.up (i - 1) i (by omega) hi (by omega))
  rw [hr]
  exact Bool.false_ne_true
/-- a book is read from its rows: the place of the first wrong word, or the facts, the rules and the ruling -/
def rdB (rs : List (List Str)) : (Nat × Nat) ⊕ (List Str × List (Nd × Nat) × Str) := match rs with
  | [] => .inl (0, 0)
  | w0 :: r => match rdF w0 with
    | some e => .inl (0, e)
    | none => match rdT (w0.drop 1) 1 [] r with
      | .inl e => .inl e
      | .inr (tl, r2) => match r2 with
        | [] => .inl (0, 0)
        | ws :: r3 => if freeO ws[1]? = false then .inl (1 + tl.length, 1) else if 2 < ws.length then .inl (1 + tl.length, 2) else if r3 ≠ [] then .inl (2 + tl.length, 0) else .inr (w0.drop 1, tl, (ws[1]?).getD "")
end Sc
namespace Sc
open PySem PySem.Spec PyProof.Rows L2
/-- the rows of a text that are not read yet -/
structure RowsW (WD : Addr) (H0 H : Hp) (os : List Addr) (rs : List (List Str)) (k : Nat) : Prop where
  nd : os.Nodup
  fr : ∀ o ∈ os, H0 o = none
  at_ : ∀ j o ws, k ≤ j → os[j]? = some o → rs[j]? = some ws → WdR WD o j H ws 0
theorem RowsW.same {WD : Addr} {H0 H H' : Hp} {os : List Addr} {rs : List (List Str)} {k : Nat} (h : RowsW WD H0 H os rs k) (s : Same H H') : RowsW WD H0 H' os rs k :=
  ⟨h.nd, h.fr, fun j o ws hj ho hw => (h.at_ j o ws hj ho hw).same s⟩
theorem WdR.put {WD : Addr} {H : Hp} {o D : Addr} {row : Nat} {ws : List Str} {at_ : Nat} {us ys : List V} (h : WdR WD o row H ws at_) (ne : ws ≠ []) (e : H D = some (.lst us)) (hu : ∀ u ∈ us, ∃ t : Addr, u = .ref t) : WdR WD o row (upd H D (.lst ys)) ws at_ := by
  obtain ⟨dx, ll, h1, h2, h3⟩ := h
  refine ⟨dx, ll, by rw [upd_ne (fun z => by rw [z, e] at h1; cases h1)]; exact h1, ?_, h3⟩
  have hne : ll ≠ D := fun z => by
    rw [z, e] at h2
    cases ws with
    | nil => exact ne rfl
    | cons x r =>
      have h2 : us = (x :: r).map V.str := by cases h2; rfl
      obtain ⟨t, ht⟩ := hu (.str x) (by rw [h2]; exact List.mem_cons_self)
      cases ht
  rw [upd_ne hne]
  exact h2
theorem RowsW.put {WD : Addr} {H0 H : Hp} {os : List Addr} {rs : List (List Str)} {k : Nat} {D : Addr} {us ys : List V} (h : RowsW WD H0 H os rs k) (e : H D = some (.lst us)) (hu : ∀ u ∈ us, ∃ t : Addr, u = .ref t) (hr : ∀ ws ∈ rs, ws ≠ []) : RowsW WD H0 (upd H D (.lst ys)) os rs k :=
  ⟨h.nd, h.fr, fun j o ws hj ho hw => (h.at_ j o ws hj ho hw).put (hr ws (List.mem_of_getElem? hw)) e hu⟩
theorem RowsW.add {WD : Addr} {H0 H : Hp} {os : List Addr} {rs : List (List Str)} {o : Addr} {ws : List Str} (h : RowsW WD H0 H os rs 0) (n : ¬ o ∈ os) (fr : H0 o = none) (hw : rs[os.length]? = some ws) (W : WdR WD o os.length H ws 0) : RowsW WD H0 H (os ++ [o]) rs 0 := by
  refine ⟨List.nodup_append.mpr ⟨h.nd, by simp, fun x hx y hy e => n (by rw [List.mem_singleton.mp hy] at e; rw [← e]; exact hx)⟩, fun o' ho' => ?_, fun j o' ws' hj ho' hw' => ?_⟩
  · rcases List.mem_append.mp ho' with z | z
    · exact h.fr o' z
    · rw [List.mem_singleton.mp z]; exact fr
  · by_cases hj2 : j < os.length
    · rw [List.getElem?_append_left hj2] at ho'
      exact h.at_ j o' ws' hj ho' hw'
    · have hj3 : j < os.length + 1 := by have := (List.getElem?_eq_some_iff.mp ho').1; rw [List.length_append] at this; exact this
      obtain rfl : j = os.length := by omega
      rw [List.getElem?_append_right (Nat.le_refl _), Nat.sub_self] at ho'
      cases ho'
      rw [hw] at hw'
      cases hw'
      exact W
theorem RowsW.step {WD : Addr} {H0 H H' : Hp} {os : List Addr} {rs : List (List Str)} {k row : Nat} {o : Addr} {ws : List Str} {at_ : Nat} (h : RowsW WD H0 H os rs k) (ho : os[k]? = some o) (hW : WdR WD o row H ws at_) (s : SameX o H H') : RowsW WD H0 H' os rs (k + 1) := by
  obtain ⟨dx, ll, g1, g2, g3⟩ := hW
  refine ⟨h.nd, h.fr, fun j o' ws' hj ho' hw' => ?_⟩
  have hne : o' ≠ o := fun z => by
    subst z
    have := (List.getElem?_inj (List.getElem?_eq_some_iff.mp ho').1 h.nd).mp (ho'.trans ho.symm)
    omega
  obtain ⟨dx', ll', e1, e2, e3⟩ := h.at_ j o' ws' (by omega) ho' hw'
  exact ⟨dx', ll', s _ _ hne e1, s _ _ (fun z => by rw [z, g1] at e2; cases e2) e2, e3⟩
end Sc
namespace Sc
open PySem PySem.Spec PyProof.Rows L2
/-! ### rules put together from their rows, the last one first -/
def stp (q : Nd × Nat) (W : Nat → List Nd) : Nat → List Nd := fun d => if d = q.2 then q.1 :: W q.2 else if d = q.2 + 1 then [] else W d
def proc (l : List (Nd × Nat)) (W : Nat → List Nd) : Nat → List Nd := l.foldr stp W
theorem proc_app (a b : List (Nd × Nat)) (W : Nat → List Nd) : proc (a ++ b) W = proc a (proc b W) := List.foldr_append ..
theorem proc_pre : ∀ (f : RF) (k : Nat) (W : Nat → List Nd), (∀ d, k < d → W d = []) → proc (f.pre k) W = fun d => if d = k then f.nodes ++ W k else W d
  | .nil, k, W, _ => by
    funext d
    show W d = if d = k then [] ++ W k else W d
    by_cases h : d = k
    · rw [if_pos h, h]; rfl
    · rw [if_neg h]
  | .cons nm hs fs rl exc rest, k, W, hW => by
    have h1 := proc_pre rest k W hW
    have hW1 : ∀ d, k + 1 < d → proc (rest.pre k) W d = [] := fun d hd => by rw [h1]; show (if d = k then _ else W d) = []; rw [if_neg (by omega)]; exact hW d (by omega)
    have h2 := proc_pre exc (k + 1) (proc (rest.pre k) W) hW1
    show stp (⟨nm, hs, fs, rl, exc⟩, k) (proc (exc.pre (k + 1) ++ rest.pre k) W) = _
    rw [proc_app]
    generalize hW2 : proc (exc.pre (k + 1)) (proc (rest.pre k) W) = W2 at h2
    have g0 : W2 k = rest.nodes ++ W k := by
      rw [h2]
      show (if k = k + 1 then _ else proc (rest.pre k) W k) = _
      rw [if_neg (by omega), h1]
      show (if k = k then _ else W k) = _
      rw [if_pos rfl]
    have g1 : ∀ d, d ≠ k → d ≠ k + 1 → W2 d = W d := fun d e1 e2 => by
      rw [h2]
      show (if d = k + 1 then _ else proc (rest.pre k) W d) = _
      rw [if_neg e2, h1]
      show (if d = k then _ else W d) = _
      rw [if_neg e1]
    funext d
    show (if d = k then (⟨nm, hs, fs, rl, exc⟩ : Nd) :: W2 k else if d = k + 1 then [] else W2 d) = if d = k then (⟨nm, hs, fs, rl, exc⟩ : Nd) :: rest.nodes ++ W k else W d
    by_cases e : d = k
    · rw [if_pos e, if_pos e, g0]
      rfl
    · rw [if_neg e, if_neg e]
      by_cases e2 : d = k + 1
      · rw [if_pos e2, e2]
        exact (hW _ (by omega)).symm
      · rw [if_neg e2, g1 d e e2]
/-- what waits behind each row are its exceptions -/
theorem proc_exc : ∀ (f : RF) (k : Nat) (W : Nat → List Nd), (∀ d, k < d → W d = []) → ∀ (a r : List (Nd × Nat)) (q : Nd × Nat), f.pre k = a ++ q :: r → proc r W (q.2 + 1) = q.1.exc.nodes
  | .nil, k, W, _, a, r, q, h => by
    have h : [] = a ++ q :: r := h
    cases a <;> cases h
  | .cons nm hs fs rl exc rest, k, W, hW, a, r, q, h => by
    have h1 := proc_pre rest k W hW
    have hW1 : ∀ d, k + 1 < d → proc (rest.pre k) W d = [] := fun d hd => by rw [h1]; show (if d = k then _ else W d) = []; rw [if_neg (by omega)]; exact hW d (by omega)
    have h2 := proc_pre exc (k + 1) (proc (rest.pre k) W) hW1
    have h : (((⟨nm, hs, fs, rl, exc⟩ : Nd), k) :: (exc.pre (k + 1) ++ rest.pre k)) = a ++ q :: r := h
    cases a with
    | nil =>
      injection h with e1 e2
      subst e1 e2
      rw [proc_app, h2]
      show (if k + 1 = k + 1 then exc.nodes ++ proc (rest.pre k) W (k + 1) else _) = exc.nodes
      rw [if_pos rfl, h1]
      show exc.nodes ++ (if k + 1 = k then _ else W (k + 1)) = _
      rw [if_neg (by omega), hW _ (by omega), List.append_nil]
    | cons x a =>
      injection h with e1 e2
      rcases List.append_eq_append_iff.mp e2 with ⟨c, h3, h4⟩ | ⟨c, h3, h4⟩
      · exact proc_exc rest k W hW c r q h4
      · cases c with
        | nil => exact proc_exc rest k W hW [] r q h4.symm
        | cons y c =>
          injection h4 with e3 e4
          subst e3 e4
          show proc (c ++ rest.pre k) W (q.2 + 1) = _
          rw [proc_app]
          exact proc_exc exc (k + 1) (proc (rest.pre k) W) hW1 a c q h3
theorem proc_all (f : RF) : proc (f.pre 0) (fun _ => []) 0 = f.nodes := by
  rw [proc_pre f 0 _ fun _ _ => rfl]
  show (if 0 = 0 then f.nodes ++ [] else []) = _
  rw [if_pos rfl, List.append_nil]
end Sc
namespace Sc
open PySem PySem.Spec PyProof.Rows L2
theorem sc_rules_told : FnScope ["told", "waiting", "around", "name", "condition", "ruling", "exceptions", "_"] ["told"] (defScope s_rules_told) := ⟨rfl, rfl, rfl, by decide +kernel, rfl, by decide +kernel, by decide +kernel⟩
theorem pre_depT : ∀ (f : RF) (k : Nat), ∀ q ∈ f.pre k, q.2 + 1 ≤ k + f.dep
  | .nil, k, q, h => nomatch h
  | .cons nm hs fs rl exc rest, k, q, h => by
    show _ ≤ k + max (exc.dep + 1) rest.dep
    rcases List.mem_cons.mp h with rfl | h
    · show k + 1 ≤ _
      omega
    rcases List.mem_append.mp h with h | h
    · have := pre_depT exc (k + 1) q h
      omega
    · have := pre_depT rest k q h
      omega
section
variable {P : Program} {w : World} {K : PySem.W.Frag} {mg : Str → Option Value} {base : Heap} {C R WD CC CR : Addr}
/-- the lists of the rules that wait -/
structure Wait (K : PySem.W.Frag) (C R : Addr) (N : Addr → Prop) (H0 : Hp) (Dw : Addr) (ls : List Addr) (W : Nat → List Nd) (i : Nat) (H : Hp) : Prop where
  sm : Same H0 H
  dw : H Dw = some (.lst (ls.map V.ref))
  ln : ls.length = 7
  nd : ls.Nodup
  ne : ¬ Dw ∈ ls
  dn : H0 Dw = none
  fr : ∀ l ∈ ls, H0 l = none
  at_ : ∀ d l, ls[d]? = some l → ∃ us, H l = some (.lst us) ∧ us.length ≤ i ∧ All2 (RefAt K C R (fun b => N b ∧ b ≠ Dw ∧ ¬ b ∈ ls) H) us (W d).reverse
namespace RF
theorem pre_in {p : Nd → Prop} : ∀ {f : RF} {k : Nat}, ∀ q ∈ f.pre k, q.1.exc.dep + 1 ≤ f.dep ∧ q.1.exc.size + 1 ≤ f.size ∧ (f.every p → p q.1 ∧ q.1.exc.every p)
  | .nil, _, q, h => nomatch h
  | .cons n hs fs rl exc rest, k, q, h => by
    show q.1.exc.dep + 1 ≤ max (exc.dep + 1) rest.dep ∧ q.1.exc.size + 1 ≤ exc.size + 1 + rest.size ∧ _
    rcases List.mem_cons.mp h with rfl | h
    · exact ⟨Nat.le_max_left _ _, Nat.le_add_right _ _, fun e => ⟨e.1, e.2.1⟩⟩
    · rcases List.mem_append.mp h with h | h
      · have ⟨h1, h2, h3⟩ := pre_in (p := p) (f := exc) q h
        exact ⟨by omega, by omega, fun e => h3 e.2.1⟩
      · have ⟨h1, h2, h3⟩ := pre_in (p := p) (f := rest) q h
        exact ⟨by omega, by omega, fun e => h3 e.2.2⟩
end RF
theorem All2.rev {α β : Type} {R : α → β → Prop} {as : List α} {bs : List β} (h : All2 R as bs) : All2 R as.reverse bs.reverse := by
  induction h with
  | nil => exact .nil
  | cons h _ ih => rw [List.reverse_cons, List.reverse_cons]; exact ih.snoc h
theorem Wait.same {N : Addr → Prop} {H0 H H' : Hp} {Dw : Addr} {ls : List Addr} {W : Nat → List Nd} {i : Nat} (h : Wait K C R N H0 Dw ls W i H) (s : Same H H') : Wait K C R N H0 Dw ls W i H' :=
  ⟨h.sm.trans s, s _ _ h.dw, h.ln, h.nd, h.ne, h.dn, h.fr, fun d l e => by obtain ⟨us, h1, h2, h3⟩ := h.at_ d l e; exact ⟨us, s _ _ h1, h2, h3.mono fun _ _ x => x.keeps s.keeps⟩⟩
/-- a list of those that wait is replaced by a new one -/
theorem Wait.set {N : Addr → Prop} {H0 H : Hp} {Dw Dn : Addr} {ls : List Addr} {W : Nat → List Nd} {i k : Nat} (h : Wait K C R N H0 Dw ls W i H) (n : H Dn = none) (hk : k < 7) :
    Wait K C R N H0 Dw (ls.set k Dn) (fun d => if d = k then [] else W d) i (upd (upd H Dn (.lst [])) Dw (.lst ((ls.set k Dn).map V.ref))) := by
  have nD : Dn ≠ Dw := fun z => by rw [z, h.dw] at n; cases n
  have nH0 : H0 Dn = none := h.sm.free n
  have nls : ¬ Dn ∈ ls := fun z => by
    obtain ⟨d, hd⟩ := List.mem_iff_getElem?.mp z
    obtain ⟨us, h1, _⟩ := h.at_ d Dn hd
    rw [h1] at n
    cases n
  have hkl : k < ls.length := by rw [h.ln]; exact hk
  have mem : ∀ b, b ∈ ls.set k Dn → b = Dn ∨ b ∈ ls := fun b hb => (List.mem_or_eq_of_mem_set hb).symm
  refine ⟨(h.sm.put' n).put h.dn, upd_same, by rw [List.length_set]; exact h.ln, ?_, fun z => (mem _ z).elim (fun z => nD z.symm) h.ne, h.dn, fun l hl => (mem l hl).elim (fun z => z ▸ nH0) (h.fr l), fun d l e => ?_⟩
  · refine List.pairwise_iff_getElem.mpr fun i j hi hj hij => ?_
    rw [List.length_set] at hi hj
    rw [List.getElem_set, List.getElem_set]
    by_cases e1 : k = i
    · rw [if_pos e1, if_neg (by omega)]
      exact fun z => nls (z ▸ List.getElem_mem hj)
    · rw [if_neg e1]
      by_cases e2 : k = j
      · rw [if_pos e2]
        exact fun z => nls (z ▸ List.getElem_mem hi)
      · rw [if_neg e2]
        exact List.pairwise_iff_getElem.mp h.nd i j hi hj hij
  · rw [List.getElem?_set] at e
    by_cases e1 : k = d
    · rw [if_pos e1, if_pos hkl] at e
      cases e
      refine ⟨[], by rw [upd_ne nD]; exact upd_same, Nat.zero_le _, ?_⟩
      show All2 _ [] (if d = k then [] else W d).reverse
      rw [if_pos e1.symm]
      exact .nil
    · rw [if_neg e1] at e
      obtain ⟨us, h1, h2, h3⟩ := h.at_ d l e
      have hl : l ∈ ls := List.mem_of_getElem? e
      have lD : l ≠ Dn := fun z => nls (z ▸ hl)
      have lw : l ≠ Dw := fun z => h.ne (z ▸ hl)
      refine ⟨us, by rw [upd_ne lw, upd_ne lD]; exact h1, h2, ?_⟩
      show All2 _ us (if d = k then [] else W d).reverse
      rw [if_neg fun z => e1 z.symm]
      have k1 : Keeps (fun b => N b ∧ b ≠ Dw ∧ ¬ b ∈ ls.set k Dn) H (upd H Dn (.lst [])) := ((Same.refl H).put n).keeps
      have k2 : Keeps (fun b => N b ∧ b ≠ Dw ∧ ¬ b ∈ ls.set k Dn) (upd H Dn (.lst [])) (upd (upd H Dn (.lst [])) Dw (.lst ((ls.set k Dn).map V.ref))) := keeps_own (by rw [upd_ne nD.symm]; exact h.dw) fun z => z.2.1 rfl
      exact h3.mono fun v m ⟨o, e, x⟩ => ⟨o, e, (x.re fun b xs hb eb => ⟨hb.1, hb.2.1, fun z => (mem b z).elim (fun z => by rw [z, n] at eb; cases eb) hb.2.2⟩).keeps (k1.trans k2)⟩
/-- a rule more among those that wait -/
theorem Wait.app {N : Addr → Prop} {H0 H : Hp} {Dw l0 x : Addr} {ls : List Addr} {us : List V} {W : Nat → List Nd} {i k : Nat} {n : Nd} (h : Wait K C R N H0 Dw ls W i H) (hl : ls[k]? = some l0) (hu : H l0 = some (.lst us)) (hn : NdAt K C R (fun b => N b ∧ b ≠ Dw ∧ ¬ b ∈ ls) H x n) :
    Wait K C R N H0 Dw ls (fun d => if d = k then n :: W k else W d) (i + 1) (upd H l0 (.lst (us ++ [.ref x]))) := by
  have hm : l0 ∈ ls := List.mem_of_getElem? hl
  have lw : l0 ≠ Dw := fun z => h.ne (z ▸ hm)
  have kk : Keeps (fun b => N b ∧ b ≠ Dw ∧ ¬ b ∈ ls) H (upd H l0 (.lst (us ++ [.ref x]))) := keeps_own hu fun z => z.2.2 hm
  refine ⟨h.sm.put (h.fr l0 hm), by rw [upd_ne lw.symm]; exact h.dw, h.ln, h.nd, h.ne, h.dn, h.fr, fun d l e => ?_⟩
  obtain ⟨vs, h1, h2, h3⟩ := h.at_ d l e
  by_cases hd : d = k
  · subst hd
    rw [hl] at e
    cases e
    rw [hu] at h1
    cases h1
    refine ⟨us ++ [.ref x], upd_same, by rw [List.length_append]; show _ + 1 ≤ _; omega, ?_⟩
    show All2 _ (us ++ [.ref x]) (if d = d then n :: W d else W d).reverse
    rw [if_pos rfl, List.reverse_cons]
    exact (h3.mono fun _ _ z => z.keeps kk).snoc ⟨x, rfl, hn.keeps kk⟩
  · have hne : l ≠ l0 := fun z => by
      subst z
      exact hd ((List.getElem?_inj (List.getElem?_eq_some_iff.mp e).1 h.nd).mp (e.trans hl.symm))
    refine ⟨vs, by rw [upd_ne hne]; exact h1, by omega, ?_⟩
    show All2 _ vs (if d = k then n :: W k else W d).reverse
    rw [if_neg hd]
    exact h3.mono fun _ _ z => z.keeps kk
def sp_rtold (K : PySem.W.Frag) (C R : Addr) : Sp := fun vs H Q _ => ∃ (N : Addr → Prop) (b : Addr) (us : List V) (f : RF), vs = [.ref b] ∧ H b = some (.lst us) ∧ All2 (TldAt K C H) us (f.pre 0) ∧ f.every NdOk ∧ f.dep ≤ 6 ∧ f.size ≤ 60 ∧ (∀ l, H l = none → N l) ∧
  ∀ H' p ws, Same H H' → SqT K H' p ws → ForAt K C R N H' f ws → Q (.ref p) H'
theorem ok_rtold {f : Addr} {fd : FuncData} {t1 : Tok} (F : Fun K "rules_told" "rules_told" s_rules_told f fd) (B : Blt mg) (m_MOST_AROUND : mg "MOST_AROUND" = some (.int 5 t1)) (k_Rule : Mkr P w K mg base 16 "Rule" R ["self", "name", "condition", "ruling", "exceptions"] (sp_rule_init K C R CR)) :
    FnOk P w K mg base CX0 18 f fd ["told"] (sp_rtold K C R) := by
  refine F.ok sc_rules_told (fun vs H Q E h => by obtain ⟨N, b, us, f, rfl, _⟩ := h; rfl) (fun cdv A outer s H vs Q E hr h => ?_)
  obtain ⟨N, b, us, f, rfl, hb, hus, hev, hd, hz, hN, q⟩ := h
  refine ⟨_, (pss_cons (ps_setLc (i := 1) (own := [("_", 7)]) (g := gName 7) (tt := tYes) rfl sc_rules_told.nd rfl rfl (sw_true rfl rfl rfl (by decide +kernel)) (pi_range1 (by rfl) B.b_range (pa_cons (pe_op op_add (pe_glob (v := .int 5) rfl m_MOST_AROUND ⟨_, rfl⟩) pe_int) pa_nil)) (blkOk_by (own := [("_", 7)]) (N := ["told", "waiting", "around", "name", "condition", "ruling", "exceptions", "_"]) (sc := defScope s_rules_told) (by decide +kernel)) (fun _ _ _ _ _ => (pg_name (i := 7) sc_rules_told.nd rfl (Or.inl rfl))) (fun _ _ _ _ _ => pts_nil) (fun _ _ _ _ _ => (pe_.re (pe_lst pa_nil) (by first | (dsimp only [Cx.blk]; done) | exact rfl))))
      (pss_cons (ps_for PassesOwn.never rfl (pi_list (pe_revL (pv 0))) (pg_tup (by rfl) (pgs_cons (pg_name (i := 2) sc_rules_told.nd rfl (Or.inl rfl)) (pgs_cons (pg_name (i := 3) sc_rules_told.nd rfl (Or.inl rfl)) (pgs_cons (pg_name (i := 4) sc_rules_told.nd rfl (Or.inl rfl)) (pgs_cons (pg_name (i := 5) sc_rules_told.nd rfl (Or.inl rfl)) pgs_nil))))) (pss_cons (ps_set (i := 6) sc_rules_told.nd rfl (Or.inl rfl) (pe_callTy call_tuple_of (by rfl) B.b_tuple PyProof.Rows.boot_tuple (pa_cons (pe_revL (pe_ix ix_list (pv 1) (pe_op op_add (pv 2) pe_int) (fun _ _ => rfl))) pa_nil)))
      (pss_cons (ps_asg (pe_lst pa_nil) (pg_sub (pv 1) (pe_op op_add (pv 2) pe_int) set_list))
      (pss_one (ps_expr (pe_bm PySem.F.plainAttrs_list PySem.F.slot_list_append PySem.F.type_list_append mt_append (pe_ix ix_list (pv 1) (pv 2) (fun _ _ => rfl)) (pa_cons (pe_mkN k_Rule (hr.mono (by decide)) (pa_cons (pv 3) (pa_cons (pv 4) (pa_cons (pv 5) (pa_cons (pv 6) pa_nil))))) pa_nil)))))))
      (pss_one (ps_ret (pe_callTy call_tuple_of (by rfl) B.b_tuple PyProof.Rows.boot_tuple (pa_cons (pe_revL (pe_ix ix_list (pv 1) pe_int (fun _ _ => rfl))) pa_nil)))))), ?_⟩
  have hul := hus.len
  have hpl := RF.pre_len f 0
  refine ⟨_, _, rfl, rfl, _, rfl, by omega, by omega, fun Dw nDw => lc_it walk_range (fun i H' => Same H H' ∧ ∃ ls : List Addr, H' Dw = some (.lst (ls.map V.ref)) ∧ ls.length = i ∧ ls.Nodup ∧ ∀ l ∈ ls, H' l = some (.lst []) ∧ H l = none ∧ l ≠ Dw) ⟨(Same.refl H).put nDw, [], upd_same, rfl, List.nodup_nil, fun _ h => nomatch h⟩ (fun _ _ _ _ => trivial) ?_ ?_⟩
  · rintro i y H2 H3 hi ⟨s, ls, e, hl, hnd, hls⟩ ⟨rfl, hy⟩
    have hi : i < 7 := hi
    refine ⟨rfl, yes_ ⟨Nat.zero_le _, fun l nl => ?_⟩⟩
    have lD : l ≠ Dw := fun z => by rw [z, e] at nl; cases nl
    have e2 : (upd H3 l (.lst [])) Dw = some (.lst (ls.map V.ref)) := by rw [upd_ne lD.symm]; exact e
    have lnew : ¬ l ∈ ls := fun z => by rw [(hls l z).1] at nl; cases nl
    refine ⟨_, e2, small1000 (by rw [List.length_map]; omega), (s.put' nl).put nDw, ls ++ [l], by rw [upd_same, List.map_append]; rfl, by rw [List.length_append, hl]; rfl, ?_, fun l' hl' => ?_⟩
    · refine List.nodup_append.mpr ⟨hnd, (by simp), fun x hx y hy e => lnew ?_⟩
      rw [List.mem_singleton.mp hy] at e
      rw [← e]
      exact hx
    · rcases List.mem_append.mp hl' with h | h
      · obtain ⟨h1, h2, h3⟩ := hls l' h
        refine ⟨?_, h2, h3⟩
        rw [upd_ne h3, upd_ne (fun z => lnew (by rw [← z]; exact h))]
        exact h1
      · rw [List.mem_singleton.mp h]
        refine ⟨?_, s.free nl, lD⟩
        rw [upd_ne lD]
        exact upd_same
  rintro H1 ⟨s1, ls0, e1, hl0, hnd0, hls0⟩
  have hl0 : ls0.length = 7 := hl0
  have hb1 := s1 _ _ hb
  refine ⟨_, rfl, b, _, rfl, sqL_of hb1, fun Rv nRv => ?_⟩
  have s2 : Same H1 (upd H1 Rv (.lst us.reverse)) := (Same.refl H1).put nRv
  have eR : (upd H1 Rv (.lst us.reverse)) Rv = some (.lst us.reverse) := upd_same
  have Wt : Wait K C R N H Dw ls0 (fun _ => []) 0 (upd H1 Rv (.lst us.reverse)) := ⟨s1.trans s2, s2 _ _ e1, hl0, hnd0, fun z => (hls0 Dw z).2.2 rfl, nDw, fun l h => (hls0 l h).2.1, fun d l h => ⟨[], s2 _ _ (hls0 l (List.mem_of_getElem? h)).1, Nat.le_refl _, .nil⟩⟩
  have nRd : Rv ≠ Dw := fun z => by rw [z, e1] at nRv; cases nRv
  have nRl : ¬ Rv ∈ ls0 := fun z => by rw [(hls0 Rv z).1] at nRv; cases nRv
  have nRH : H Rv = none := s1.free nRv
  generalize upd H1 Rv (.lst us.reverse) = H2 at s2 eR Wt ⊢
  have hn60 : (f.pre 0).length ≤ 60 := by rw [hpl]; exact hz
  refine ⟨Rv, rfl, ⟨_, sqL_of eR⟩, for_it walk_list (fun i σ H' => ∃ (ls : List Addr) (y2 y3 y4 y5 y6 y7 : Option V), σ = [some (.ref b), some (.ref Dw), y2, y3, y4, y5, y6, y7] ∧ Wait K C R N H Dw ls (proc ((f.pre 0).drop ((f.pre 0).length - i)) fun _ => []) i H' ∧ H' Rv = some (.lst us.reverse) ∧ ¬ Rv ∈ ls)
    ⟨ls0, _, _, _, _, _, _, rfl, by rw [Nat.sub_zero, List.drop_length]; exact Wt, eR, nRl⟩ (fun _ _ _ _ ⟨_, _, _, _, _, _, _, _, _, h, _⟩ => sqL_of h) ?_ ?_⟩
  · rintro i y σ H4 H3 hi ⟨ls, y2, y3, y4, y5, y6, y7, rfl, Wi, eRi, nRi⟩ ⟨rfl, hy⟩
    have hi : i < us.length := by rw [List.length_reverse] at hi; exact hi
    have hj : (f.pre 0).length - 1 - i < (f.pre 0).length := by omega
    rw [List.getElem?_reverse hi, hul] at hy
    obtain ⟨qn, hqn, hT⟩ := hus.get hy
    have hqe : qn = (f.pre 0)[(f.pre 0).length - 1 - i] := by rw [List.getElem?_eq_getElem hj] at hqn; exact (Option.some.inj hqn).symm
    have hmem : qn ∈ f.pre 0 := List.mem_of_getElem? hqn
    obtain ⟨hpd, hps, hpe⟩ := RF.pre_in (p := NdOk) qn hmem
    obtain ⟨hok, hex⟩ := hpe hev
    have hpd5 := pre_depT f 0 qn hmem
    have hdrop : (f.pre 0).drop ((f.pre 0).length - (i + 1)) = qn :: (f.pre 0).drop ((f.pre 0).length - i) := by
      have e1 : (f.pre 0).length - (i + 1) = (f.pre 0).length - 1 - i := by omega
      rw [e1, List.drop_eq_getElem_cons hj, ← hqe, show (f.pre 0).length - 1 - i + 1 = (f.pre 0).length - i by omega]
    have hexc : proc ((f.pre 0).drop ((f.pre 0).length - i)) (fun _ => []) (qn.2 + 1) = qn.1.exc.nodes :=
      proc_exc f 0 _ (fun _ _ => rfl) ((f.pre 0).take ((f.pre 0).length - (i + 1))) _ qn (by rw [← hdrop, List.take_append_drop])
    obtain ⟨t, c, rfl, ht, hC⟩ := hT.keeps (N := NoL) Wi.sm.keeps
    refine ⟨t, _, rfl, sqT_of ht, rfl, _, _, rfl, _, _, rfl, _, _, rfl, _, _, rfl, rfl, ?_⟩
    obtain ⟨l1, hl1⟩ : ∃ l, ls[qn.2 + 1]? = some l := ⟨_, List.getElem?_eq_getElem (by rw [Wi.ln]; omega)⟩
    obtain ⟨us1, hu1, hl1n, hA1⟩ := Wi.at_ _ _ hl1
    rw [hexc] at hA1
    refine ⟨_, rfl, _, rfl, _, 1, rfl, rfl, Dw, _, _, _, rfl, rfl, sqL_of Wi.dw, atI_nat (j := qn.2 + 1) (by rw [List.getElem?_map, hl1]; rfl), ?_⟩
    refine ⟨l1, us1, rfl, sqL_of hu1, fun p1 n1 => ⟨p1, us1.reverse, rfl, .inl ⟨sqL_of upd_same, fun te nte => ?_⟩⟩⟩
    have s5 : Same H3 (upd (upd H3 p1 (.lst us1.reverse)) te (.tup us1.reverse)) := ((Same.refl H3).put n1).put' nte
    have e5 : (upd (upd H3 p1 (.lst us1.reverse)) te (.tup us1.reverse)) te = some (.tup us1.reverse) := upd_same
    have W5 := Wi.same s5
    have hA5 := hA1.mono fun _ _ x => x.keeps s5.keeps
    have eR5 := s5 _ _ eRi
    generalize upd (upd H3 p1 (.lst us1.reverse)) te (.tup us1.reverse) = H5 at s5 e5 W5 hA5 eR5 ⊢
    refine ⟨Nat.zero_le _, fun Dn nDn => ?_⟩
    have nDd : Dn ≠ Dw := fun z => by rw [z, W5.dw] at nDn; cases nDn
    have W6 := W5.set nDn (k := qn.2 + 1) (by omega)
    have hA6 : All2 (RefAt K C R (fun b => N b ∧ b ≠ Dw ∧ ¬ b ∈ ls.set (qn.2 + 1) Dn) (upd (upd H5 Dn (.lst [])) Dw (.lst ((ls.set (qn.2 + 1) Dn).map V.ref)))) us1 qn.1.exc.nodes.reverse := by
      have mem : ∀ b, b ∈ ls.set (qn.2 + 1) Dn → b = Dn ∨ b ∈ ls := fun b hb => (List.mem_or_eq_of_mem_set hb).symm
      have k1 : Keeps (fun b => N b ∧ b ≠ Dw ∧ ¬ b ∈ ls.set (qn.2 + 1) Dn) H5 (upd H5 Dn (.lst [])) := ((Same.refl H5).put nDn).keeps
      have k2 : Keeps (fun b => N b ∧ b ≠ Dw ∧ ¬ b ∈ ls.set (qn.2 + 1) Dn) (upd H5 Dn (.lst [])) (upd (upd H5 Dn (.lst [])) Dw (.lst ((ls.set (qn.2 + 1) Dn).map V.ref))) := keeps_own (by rw [upd_ne nDd.symm]; exact W5.dw) fun z => z.2.1 rfl
      exact hA5.mono fun v m ⟨o, e, x⟩ => ⟨o, e, (x.re fun b xs hb eb => ⟨hb.1, hb.2.1, fun z => (mem b z).elim (fun z => by rw [z, nDn] at eb; cases eb) hb.2.2⟩).keeps (k1.trans k2)⟩
    have eR6 : (upd (upd H5 Dn (.lst [])) Dw (.lst ((ls.set (qn.2 + 1) Dn).map V.ref))) Rv = some (.lst us.reverse) := by
      have h1 : Rv ≠ Dn := fun z => by rw [z, nDn] at eR5; cases eR5
      rw [upd_ne nRd, upd_ne h1]
      exact eR5
    have e6 : (upd (upd H5 Dn (.lst [])) Dw (.lst ((ls.set (qn.2 + 1) Dn).map V.ref))) te = some (.tup us1.reverse) := by
      have h1 : te ≠ Dn := fun z => by rw [z, nDn] at e5; cases e5
      have h2 : te ≠ Dw := fun z => by rw [z, W5.dw] at e5; cases e5
      rw [upd_ne h2, upd_ne h1]
      exact e5
    have hC5 := hC.keeps (N := NoL) s5.keeps
    have hC6 : CondAt K C (upd (upd H5 Dn (.lst [])) Dw (.lst ((ls.set (qn.2 + 1) Dn).map V.ref))) c qn.1.hs qn.1.fs := by
      have k1 : Keeps NoL H5 (upd H5 Dn (.lst [])) := ((Same.refl H5).put nDn).keeps
      have k2 : Keeps NoL (upd H5 Dn (.lst [])) (upd (upd H5 Dn (.lst [])) Dw (.lst ((ls.set (qn.2 + 1) Dn).map V.ref))) := keeps_own (by rw [upd_ne nDd.symm]; exact W5.dw) fun z => z
      exact hC5.keeps (k1.trans k2)
    have nRi6 : ¬ Rv ∈ ls.set (qn.2 + 1) Dn := fun z => by
      rcases List.mem_or_eq_of_mem_set z with z | z
      · exact nRi z
      · rw [z, nDn] at eR5; cases eR5
    obtain ⟨l0, hl0⟩ : ∃ l, (ls.set (qn.2 + 1) Dn)[qn.2]? = some l := ⟨_, List.getElem?_eq_getElem (by rw [W6.ln]; omega)⟩
    have hq7 : qn.2 + 1 < (ls.map V.ref).length := by rw [List.length_map, W5.ln]; omega
    refine ⟨_, rfl, _, rfl, _, 1, rfl, rfl, Dw, _, _, qn.2 + 1, rfl, rfl, (by rw [upd_ne nDd.symm]; exact W5.dw), ixN_of hq7, ?_⟩
    rw [← List.map_set]
    generalize upd (upd H5 Dn (.lst [])) Dw (.lst ((ls.set (qn.2 + 1) Dn).map V.ref)) = H6 at W6 hA6 eR6 e6 hC6 ⊢
    generalize ls.set (qn.2 + 1) Dn = ls' at W6 hA6 nRi6 hl0 ⊢
    obtain ⟨us0, hu0, hl0n, hA0⟩ := W6.at_ _ _ hl0
    refine ⟨_, rfl, _, rfl, Dw, _, _, _, rfl, rfl, sqL_of W6.dw, atI_nat (j := qn.2) (by rw [List.getElem?_map, hl0]; rfl), ?_⟩
    refine ⟨.inl ⟨rfl, _, sqL_of hu0⟩, _, rfl, _, rfl, _, rfl, _, rfl, fun x dx2 nx ndx nex => ?_⟩
    have s7 : Same H6 (upd (upd H6 dx2 (.own x)) x (.ins R dx2 [])) := ((Same.refl H6).put ndx).put nx
    have ln1 := name_len hok.nm
    have ln2 := name_len hok.rl
    have hFx : ForAt K C R (fun b => N b ∧ b ≠ Dw ∧ ¬ b ∈ ls') H6 qn.1.exc us1.reverse := ForAt.of (by
      have := hA6.rev
      rw [List.reverse_reverse] at this
      exact this)
    refine ⟨_, x, dx2, c, te, qn.1.nm, qn.1.rl, us1.reverse, qn.1.exc, rfl, upd_same, s7.tup (sqT_of e6), hFx.keeps s7.keeps, by omega, by omega, by omega, by omega, (fun e => by rw [hok.nm] at e; cases e), fun _ => ⟨(fun e => by rw [hok.rl] at e; cases e), fun _ H10 l sX hx10 nelx nl el => ⟨rfl, ?_⟩⟩⟩
    have s10 : Same H6 H10 := fun b' o' h => sX b' o' (fun e => by rw [e, nx] at h; cases h) (s7 _ _ h)
    have fl : H6 l = none := s7.free nl
    have hNl : N l ∧ l ≠ Dw ∧ ¬ l ∈ ls' := ⟨hN l (W6.sm.free fl), (fun z => by rw [z, W6.dw] at fl; cases fl), fun z => by
      obtain ⟨d, hd⟩ := List.mem_iff_getElem?.mp z
      obtain ⟨us, h1, _⟩ := W6.at_ d l hd
      rw [h1] at fl
      cases fl⟩
    have hnd10 : NdAt K C R (fun b => N b ∧ b ≠ Dw ∧ ¬ b ∈ ls') H10 x qn.1 := ⟨dx2, c, te, l, us1.reverse, hx10, hC6.keeps (N := NoL) s10.keeps, s10.tup (sqT_of e6), ⟨hNl, el⟩, hFx.keeps s10.keeps⟩
    have W10 := (W6.same s10).app hl0 (s10 _ _ hu0) hnd10
    refine ⟨l0, us0, .ref x, rfl, rfl, s10 _ _ hu0, small1000 (by omega), ls', _, _, _, _, _, _, rfl, ?_, ?_, nRi6⟩
    · rw [hdrop]
      have hp : (proc (qn :: (f.pre 0).drop ((f.pre 0).length - i)) fun _ => []) = fun d => if d = qn.2 then qn.1 :: (if qn.2 = qn.2 + 1 then [] else proc ((f.pre 0).drop ((f.pre 0).length - i)) (fun _ => []) qn.2) else if d = qn.2 + 1 then [] else proc ((f.pre 0).drop ((f.pre 0).length - i)) (fun _ => []) d := by
        rw [if_neg (by omega)]
        rfl
      rw [hp]
      exact W10
    · have : Rv ≠ l0 := fun z => nRi6 (z ▸ List.mem_of_getElem? hl0)
      rw [upd_ne this]
      exact s10 _ _ eR6
  · rintro σ H3 ⟨ls, y2, y3, y4, y5, y6, y7, rfl, Wi, eRi, nRi⟩
    have Wi : Wait K C R N H Dw ls (proc (f.pre 0) fun _ => []) us.reverse.length H3 := by
      rw [List.length_reverse, hul, Nat.sub_self, List.drop_zero] at Wi
      rw [List.length_reverse, hul]
      exact Wi
    obtain ⟨l0, hl0⟩ : ∃ l, ls[0]? = some l := ⟨_, List.getElem?_eq_getElem (by rw [Wi.ln]; omega)⟩
    obtain ⟨us0, hu0, hl0n, hA0⟩ := Wi.at_ _ _ hl0
    rw [proc_all] at hA0
    refine ⟨_, rfl, Dw, _, _, _, rfl, rfl, sqL_of Wi.dw, atI_nat (j := 0) (by rw [List.getElem?_map, hl0]; rfl), ?_⟩
    refine ⟨l0, us0, rfl, sqL_of hu0, fun p1 n1 => ⟨p1, us0.reverse, rfl, .inl ⟨sqL_of upd_same, fun te nte => ?_⟩⟩⟩
    have s5 : Same H3 (upd (upd H3 p1 (.lst us0.reverse)) te (.tup us0.reverse)) := ((Same.refl H3).put n1).put' nte
    have hF : ForAt K C R (fun b => N b ∧ b ≠ Dw ∧ ¬ b ∈ ls) H3 f us0.reverse := ForAt.of (by
      have := hA0.rev
      rw [List.reverse_reverse] at this
      exact this)
    exact q _ te _ (Wi.sm.trans s5) (sqT_of upd_same) ((hF.re fun b xs hb _ => hb.1).keeps s5.keeps)
end
end Sc
namespace Sc
open PySem PySem.Spec PyProof.Rows L2
section
variable {P : Program} {w : World} {K : PySem.W.Frag} {mg : Str → Option Value} {base : Heap} {WD : Addr}
/-- the words of a row's text -/
def wordsT (x : Str) : List Str := Txt.split x (Str.ofString " ")
def sp_winit (WD : Addr) : Sp := fun vs H Q _ => ∃ (o dx : Addr) (row : Nat) (tx : Str), vs = [.ref o, .int (row : Nat), .str tx] ∧ H o = some (.ins WD dx []) ∧ (wordsT tx).length ≤ 900 ∧ row ≤ 900 ∧ tx.length ≤ 100000 ∧ ∀ H', WdR WD o row H' (wordsT tx) 0 → SameX o H H' → Q .non H'
theorem ok_winit {f : Addr} {fd : FuncData} (F : Fun K "__init__" "Words.__init__" s_Words___init__ f fd) (B : Blt mg) (T : Cls K WD) (n1 : NoAttr K WD "row") (n2 : NoAttr K WD "left") (n3 : NoAttr K WD "at") : FnOk P w K mg base CX0 1 f fd ["self", "row", "text"] (sp_winit WD) := by
  refine F.ok sc_Words___init__ (fun vs H Q E h => by obtain ⟨o, dx, row, tx, rfl, _⟩ := h; rfl) (fun cdv A outer s H vs Q E hr h => ?_)
  obtain ⟨o, dx, row, tx, rfl, ho, hl, hrw, htx, q⟩ := h
  refine ⟨_, (pss_cons (ps_fld (pv 0) (pv 1) rfl)
      (pss_cons (ps_fld (pv 0) (pe_split (pv 2) pe_str) rfl)
      (pss_one (ps_fld (pv 0) pe_int rfl)))), ?_⟩
  refine ⟨_, rfl, _, rfl, o, WD, dx, [], rfl, ho, T, n1, (by show 0 < 1000; decide), ?_⟩
  have so : SameX o H (upd H o (.ins WD dx (putF "row" (.int (row : Nat)) []))) := fun b ob n e => by rw [upd_ne n]; exact e
  have ho1 : (upd H o (.ins WD dx (putF "row" (.int (row : Nat)) []))) o = some (.ins WD dx (putF "row" (.int (row : Nat)) [])) := upd_same
  generalize upd H o (.ins WD dx (putF "row" (.int (row : Nat)) [])) = H1 at so ho1 ⊢
  refine ⟨_, rfl, ⟨_, rfl⟩, _, _, rfl, rfl, rfl, by rw [sizeLine_eq]; omega, fun ll nll => ?_⟩
  have l1 : ll ≠ o := fun z => by rw [z, ho1] at nll; cases nll
  refine ⟨_, rfl, o, WD, dx, _, rfl, by rw [upd_ne l1.symm]; exact ho1, T, n2, (by show 1 < 1000; decide), ?_⟩
  refine ⟨_, rfl, o, WD, dx, _, rfl, upd_same, T, n3, (by show 2 < 1000; decide), ?_⟩
  refine q _ ⟨dx, ll, upd_same, by rw [upd_ne l1, upd_ne l1]; exact upd_same, hl, hrw⟩ fun b ob n e => ?_
  rw [upd_ne n, upd_ne n, upd_ne (fun z => by have := so b ob n e; rw [z, nll] at this; cases this)]
  exact so b ob n e
end
end Sc
namespace Sc
open PySem PySem.Spec PyProof.Rows L2
theorem sc_parse_book : FnScope ["text", "rows", "facts", "told", "words", "last", "ruling", "row", "line"] ["text"] (defScope s_parse_book) := ⟨rfl, rfl, rfl, by decide +kernel, rfl, by decide +kernel, by decide +kernel⟩
/-- making an object whose init raises nothing -/
structure Mkr0 (P : Program) (w : World) (K : PySem.W.Frag) (mg : Str → Option Value) (base : Heap) (k : Nat) (x : Str) (C : Addr) (ps : List Str) (sp : Sp) : Prop where
  ex : ∃ (f : Addr) (fd : FuncData), Mk K C f ∧ FnOk P w K mg base CX0 k f fd ps sp ∧ mg x = some (.ref C) ∧ Binds K fd ps []
section
variable {X : Cx} {k : Nat} {x : Str} {C : Addr} {ps : List Str} {sp : Sp} {e : Expr} {es : List Expr} {t : TA} {p pos : Pos}
theorem pe_mk0 (M : Mkr0 X.prog X.w X.K X.mg X.base k x C ps sp) (hr : Room (k + 1) X.A) (ha : PA X (e :: es) t) (hg : Gl X x := by rfl) (hdb : (x == ("__debug__" : Str)) = false := by decide)
    (he : starEach (e :: es) X.env = (false, eval e X.env) :: starEach es X.env := by rfl) (hpl : (backTo pos (starEach es X.env)).any (·.1) = false := by rfl) : PE X (.Call (.Name x p) (e :: es) [] pos) (tMake C sp [] E0 t) := by
  obtain ⟨f, fd, hk, F, hm, hb⟩ := M.ex
  exact pe_make hk F hr hg hm hb .nil pass0 ha hdb he hpl
end
section
variable {P : Program} {w : World} {K : PySem.W.Frag} {mg : Str → Option Value} {base : Heap} {C R B WD CC CR CFa CB CT : Addr}
theorem split_ne (x y : Str) : Txt.split x y ≠ [] := by
  unfold Txt.split
  split
  · exact List.cons_ne_nil _ _
  · split
    · exact List.cons_ne_nil _ _
    · unfold Builtin.Str.partsBetween
      intro z
      simp at z
/-- the rows of a text, each its words -/
def rowsT (tx : Str) : List (List Str) := (Txt.split tx (Str.ofString "\n")).map wordsT
structure TxFit (tx : Str) : Prop where
  len : tx.length ≤ 100000
  rows : (rowsT tx).length ≤ 900
  row : ∀ x ∈ Txt.split tx (Str.ofString "\n"), x.length ≤ 100000 ∧ (wordsT x).length ≤ 900
  wd : ∀ ws ∈ rowsT tx, ∀ x ∈ ws, x.length ≤ 10000
def sp_parse (K : PySem.W.Frag) (C R B CT : Addr) : Sp := fun vs H Q E => ∃ (N : Addr → Prop) (tx : Str), vs = [.str tx] ∧ TxFit tx ∧ (∀ l, H l = none → N l) ∧
  (∀ r k, rdB (rowsT tx) = .inl (r, k) → errRW CT r k (Same H) E) ∧
  (∀ xs tl rl, rdB (rowsT tx) = .inr (xs, tl, rl) → ∀ f : RF, (f.pre 0).map flatN = tl.map flatN → ∀ H' b, Same H H' → BookAt K C R B N H' b xs f rl → Q (.ref b) H')
theorem ok_parse {f : Addr} {fd : FuncData} (F : Fun K "parse_book" "parse_book" s_parse_book f fd) (Bl : Blt mg) (CLw : Cls K WD) (k_Book : Mkr P w K mg base 17 "Book" B ["self", "facts", "rules", "ruling"] (sp_book_init K C R B CFa CB)) (k_Words : Mkr0 P w K mg base 1 "Words" WD ["self", "row", "text"] (sp_winit WD)) (e_InvalidText : ErrMk P w K mg base "InvalidText" CT ["self", "row", "word"] (sp_init2 CT "row" "word")) (mw_ahead : MethR P w K mg base 1 WD "ahead" ["self"] (sp_ahead WD))
    (c_read_facts : Cal P w K mg base (L2.CX P w) 5 "read_facts" ["words"] (sp_rfacts K WD CT)) (c_read_rule : Cal P w K mg base (L2.CX P w) 6 "read_rule" ["words", "facts", "before"] (sp_rrule K C WD CT)) (c_read_ending : Cal P w K mg base (L2.CX P w) 5 "read_ending" ["words"] (sp_rend WD CT)) (c_rules_told : Cal P w K mg base CX0 18 "rules_told" ["told"] (sp_rtold K C R)) :
    FnOk P w K mg base (L2.CX P w) 19 f fd ["text"] (sp_parse K C R B CT) := by
  refine F.okX sc_parse_book (fun vs H Q E h => by obtain ⟨N, tx, rfl, _⟩ := h; rfl) (fun cdv A outer s H vs Q E hr h => ?_)
  obtain ⟨N, tx, rfl, hT, hN, er, q⟩ := h
  refine ⟨_, (pss_cons (ps_setLc (i := 1) (own := [("row", 7), ("line", 8)]) (g := gTup K 2 (gCons (gName 7) (gCons (gName 8) gNil))) (tt := tYes) rfl sc_parse_book.nd rfl rfl (sw_true rfl rfl rfl (by decide +kernel)) (pi_enum (by rfl) Bl.b_enumerate (pa_cons (pe_split (pv 0) pe_str) pa_nil)) (blkOk_by (own := [("row", 7), ("line", 8)]) (N := ["text", "rows", "facts", "told", "words", "last", "ruling", "row", "line"]) (sc := defScope s_parse_book) (by decide +kernel)) (fun _ _ _ _ _ => (pg_tup (by rfl) (pgs_cons (pg_name (i := 7) sc_parse_book.nd rfl (Or.inl rfl)) (pgs_cons (pg_name (i := 8) sc_parse_book.nd rfl (Or.inl rfl)) pgs_nil)))) (fun _ _ _ _ _ => pts_nil) (fun _ _ _ _ _ => (pe_.re (pe_mk0 k_Words (hr.mono (by decide)) (pa_cons (pv 7) (pa_cons (pv 8) pa_nil))) (by first | (dsimp only [Cx.blk]; done) | exact rfl))))
      (pss_cons (ps_set (i := 2) sc_parse_book.nd rfl (Or.inl rfl) (pe_calX c_read_facts (hr.mono (by decide)) (takes_of rfl rfl rfl rfl) (pa_cons (pe_ix ix_list (pv 1) pe_int (fun _ _ => rfl)) pa_nil)))
      (pss_cons (ps_set (i := 3) sc_parse_book.nd rfl (Or.inl rfl) (pe_lst pa_nil))
      (pss_cons (ps_for (passes_of rfl) rfl (pi_list (pe_slice sl_list (pv 1) (po_some pe_int) po_none)) (pg_name (i := 4) sc_parse_book.nd rfl (Or.inl rfl)) (pss_cons (ps_if (pt_cmpR op_eq (pe_me0 CLw mw_ahead (hr.mono (by decide)) (pv 4)) pe_str (nomark _)) (pss_one ps_break) pss_nil)
      (pss_one (ps_expr (pe_bm PySem.F.plainAttrs_list PySem.F.slot_list_append PySem.F.type_list_append mt_append (pv 3) (pa_cons (pe_calX c_read_rule (hr.mono (by decide)) (takes_of rfl rfl rfl rfl) (pa_cons (pv 4) (pa_cons (pv 2) (pa_cons (pv 3) pa_nil)))) pa_nil))))))
      (pss_cons (ps_set (i := 5) sc_parse_book.nd rfl (Or.inl rfl) (pe_op op_add pe_int (pe_callB call_len_seq (by rfl) Bl.b_len PySem.boot_len (pa_cons (pv 3) pa_nil))))
      (pss_cons (ps_if (pt_cmpR op_eq (pv 5) (pe_callB call_len_seq (by rfl) Bl.b_len PySem.boot_len (pa_cons (pv 1) pa_nil)) (nomark _)) (pss_one (ps_raise rfl (takes_of rfl rfl rfl rfl) (pmk_err2 e_InvalidText (hr.mono (by decide)) (pv 5) pe_int))) pss_nil)
      (pss_cons (ps_set (i := 6) sc_parse_book.nd rfl (Or.inl rfl) (pe_calX c_read_ending (hr.mono (by decide)) (takes_of rfl rfl rfl rfl) (pa_cons (pe_ix ix_list (pv 1) (pv 5) (fun _ _ => rfl)) pa_nil)))
      (pss_cons (ps_if (pt_cmpR op_lt (pe_op op_add (pv 5) pe_int) (pe_callB call_len_seq (by rfl) Bl.b_len PySem.boot_len (pa_cons (pv 1) pa_nil)) (nomark _)) (pss_one (ps_raise rfl (takes_of rfl rfl rfl rfl) (pmk_err2 e_InvalidText (hr.mono (by decide)) (pe_op op_add (pv 5) pe_int) pe_int))) pss_nil)
      (pss_one (ps_ret (pe_mkX k_Book (hr.mono (by decide)) (takes_of rfl rfl rfl rfl) (pa_cons (pv 2) (pa_cons (pe_cal c_rules_told (hr.mono (by decide)) (pa_cons (pv 3) pa_nil)) (pa_cons (pv 6) pa_nil)))))))))))))), ?_⟩
  obtain ⟨Ls, eLs⟩ : ∃ Ls, Ls = Txt.split tx (Str.ofString "\n") := ⟨_, rfl⟩
  have htl := hT.len
  have hRwE : rowsT tx = Ls.map wordsT := by rw [eLs]; rfl
  have hrow := hT.row
  have hRl9 := hT.rows
  have hwd := hT.wd
  obtain ⟨Rw, eRw⟩ : ∃ Rw, Rw = rowsT tx := ⟨_, rfl⟩
  rw [← eLs] at hrow
  rw [← eRw] at hRwE hRl9 hwd er q
  have hRlen : Rw.length = Ls.length := by rw [hRwE, List.length_map]
  have hne : ∀ x : Str, wordsT x ≠ [] := fun x => split_ne _ _
  have hLne : Ls ≠ [] := by rw [eLs]; exact split_ne _ _
  have hrn : ∀ ws ∈ Rw, ws ≠ [] := fun ws h => by
    rw [hRwE] at h
    obtain ⟨x, _, rfl⟩ := List.mem_map.mp h
    exact hne x
  refine ⟨_, rfl, ⟨_, rfl⟩, _, _, rfl, rfl, rfl, by rw [sizeLine_eq]; omega, fun tL ntL => ?_⟩
  rw [← eLs]
  refine ⟨tL, _, rfl, sqL_of upd_same, fun D nD => ?_⟩
  have hDt : tL ≠ D := fun z => by rw [← z, upd_same] at nD; cases nD
  have nD0 : H D = none := ((Same.refl H).put ntL).free nD
  refine lc_it walk_enum (fun i H' => ∃ os : List Addr, Same H H' ∧ H' tL = some (.lst (Ls.map V.str)) ∧ H' D = some (.lst (os.map V.ref)) ∧ os.length = i ∧ RowsW WD H H' os Rw 0)
    ⟨[], ((Same.refl H).put ntL).put' nD, ?_, upd_same, rfl, ⟨List.nodup_nil, (fun _ h => nomatch h), fun j o ws _ h => by cases j <;> cases h⟩⟩ (fun _ _ _ ⟨_, _, h, _⟩ => sqL_of h) ?_ ?_
  · rw [upd_ne hDt]; exact upd_same
  · rintro i y H2 H3 hi ⟨os, s, etl, eD, hl, hW⟩ ⟨T, v1, v2, rfl, nT, rfl, h1, h2⟩
    obtain rfl : V.int (i : Nat) = v1 := Option.some.inj h1
    have h2 : (Ls.map V.str)[i]? = some v2 := h2
    rw [List.getElem?_map] at h2
    cases hx : Ls[i]? with
    | none => rw [hx] at h2; cases h2
    | some x =>
      rw [hx] at h2
      obtain rfl : V.str x = v2 := Option.some.inj h2
      have hok := hrow x (List.mem_of_getElem? hx)
      have hws : Rw[i]? = some (wordsT x) := by rw [hRwE, List.getElem?_map, hx]; rfl
      have s3 : Same H2 (upd H2 T (.tup [.int (i : Nat), .str x])) := (Same.refl H2).put nT
      refine ⟨T, _, rfl, sqT_of upd_same, rfl, _, _, rfl, _, _, rfl, rfl, rfl, yes_ ⟨_, rfl, _, rfl, fun o dx no ndo neo => ?_⟩⟩
      have W3 := hW.same s3
      have etl3 := s3 _ _ etl
      have eD3 := s3 _ _ eD
      have s03 := s.trans s3
      have hRw : i < Rw.length := (List.getElem?_eq_some_iff.mp hws).1
      generalize upd H2 T (.tup [.int (i : Nat), .str x]) = H3 at no ndo neo W3 etl3 eD3 s03 ⊢
      have s4 : Same H3 (upd (upd H3 dx (.own o)) o (.ins WD dx [])) := ((Same.refl H3).put ndo).put no
      refine ⟨o, dx, i, x, rfl, upd_same, hok.2, by omega, hok.1, fun H5 W5 sx => ⟨rfl, ?_⟩⟩
      have s5 : Same H3 H5 := fun b ob e => sx b ob (fun z => by rw [z, no] at e; cases e) (s4 _ _ e)
      have S5 := s03.trans s5
      have hno : ¬ o ∈ os := fun z => by
        obtain ⟨j, hj⟩ := List.mem_iff_getElem?.mp z
        have hjl := (List.getElem?_eq_some_iff.mp hj).1
        obtain ⟨dx', ll', e, _⟩ := W3.at_ j o _ (Nat.zero_le _) hj (List.getElem?_eq_getElem (by omega))
        rw [no] at e
        cases e
      refine ⟨_, s5 _ _ eD3, small1000 (by rw [List.length_map]; omega), os ++ [o], S5.put nD0, ?_, ?_, by rw [List.length_append, hl]; rfl, ?_⟩
      · rw [upd_ne hDt]
        exact s5 _ _ etl3
      · rw [upd_same, List.map_append]; rfl
      · exact ((W3.same s5).add hno (s03.free no) (by rw [hl]; exact hws) (by rw [hl]; exact W5)).put (s5 _ _ eD3) (fun u hu => by obtain ⟨z, _, hz⟩ := List.mem_map.mp hu; exact ⟨z, hz.symm⟩) hrn
  rintro H1 ⟨os, s1, etl, eD, hl, hW⟩
  rw [List.length_map] at hl
  obtain ⟨o0, ho0⟩ : ∃ o, os[0]? = some o := ⟨_, List.getElem?_eq_getElem (by rw [hl]; exact List.length_pos_iff.mpr hLne)⟩
  obtain ⟨w0, rs0, eRw0⟩ : ∃ w0 rs0, Rw = w0 :: rs0 := by
    cases Rw with
    | nil => rw [List.length_nil] at hRlen; exact absurd (List.eq_nil_of_length_eq_zero hRlen.symm) hLne
    | cons a b => exact ⟨a, b, rfl⟩
  have W0 := hW.at_ 0 o0 w0 (Nat.le_refl _) ho0 (by rw [eRw0]; rfl)
  refine ⟨_, rfl, D, _, _, _, rfl, rfl, sqL_of eD, atI_nat (j := 0) (by rw [List.getElem?_map, ho0]; rfl), ?_⟩
  refine ⟨o0, 0, w0, rfl, W0, hrn w0 (by rw [eRw0]; exact List.mem_cons_self), hwd w0 (by rw [eRw0]; exact List.mem_cons_self), fun k hk => ?_, fun hk H2 fp s2 hfp => ?_⟩
  · have so0 : H o0 = none := hW.fr o0 (List.mem_of_getElem? ho0)
    refine (er 0 k (by rw [eRw0]; unfold rdB; dsimp only; rw [hk])).mono fun Hx sx b ob e => sx b ob (fun z => by rw [z, so0] at e; cases e) (s1 _ _ e)
  have ne_o : ∀ {o : Addr} {b : Addr} {H : Hp} {row : Nat} {ws : List Str} {us : List V} {k : Nat}, WdR WD o row H ws k → H b = some (.lst us) → b ≠ o := fun W e z => by
    obtain ⟨dx, ll, e1, _⟩ := W
    rw [z, e1] at e
    cases e
  have so0 : H o0 = none := hW.fr o0 (List.mem_of_getElem? ho0)
  have toS : ∀ {o H1 H2}, H o = none → Same H H1 → SameX o H1 H2 → Same H H2 := fun n s x b ob e => x b ob (fun z => by rw [z, n] at e; cases e) (s b ob e)
  have S2 := toS so0 s1 s2
  have hW2 := hW.step ho0 W0 s2
  have eD2 := s2 _ _ (ne_o W0 eD) eD
  obtain ⟨hxr, hx0, hx60, hxres⟩ := rdF_ok hk (hrn w0 (by rw [eRw0]; exact List.mem_cons_self))
  have hrd : rdB Rw = match rdT (w0.drop 1) 1 [] rs0 with
      | .inl e => .inl e
      | .inr (tl, r2) => match r2 with
        | [] => .inl (0, 0)
        | ws :: r3 => if freeO ws[1]? = false then .inl (1 + tl.length, 1) else if 2 < ws.length then .inl (1 + tl.length, 2) else if r3 ≠ [] then .inl (2 + tl.length, 0) else .inr (w0.drop 1, tl, (ws[1]?).getD "") := by
    rw [eRw0]; unfold rdB; dsimp only; rw [hk]; try rfl
  generalize w0.drop 1 = xs at hxr hx0 hx60 hxres hrd hfp
  refine ⟨Nat.zero_le _, fun Dt nDt => ?_⟩
  have s3 : Same H2 (upd H2 Dt (.lst [])) := (Same.refl H2).put nDt
  have nDtD : Dt ≠ D := fun z => by rw [z, eD2] at nDt; cases nDt
  have nDt0 : H Dt = none := S2.free nDt
  have hW3 := hW2.same s3
  have eD3 := s3 _ _ eD2
  have eT3 : (upd H2 Dt (.lst [])) Dt = some (.lst []) := upd_same
  have S3 := S2.trans s3
  have hfp3 := s3.tup hfp
  generalize upd H2 Dt (.lst []) = H3 at s3 hW3 eD3 eT3 S3 hfp3 ⊢
  refine ⟨_, rfl, 1, rfl, D, _, rfl, sqL_of eD3, fun Dl nDl => ?_⟩
  rw [show (some 1 : Option Int) = some ((1 : Nat) : Int) from rfl, cut_from, ← List.map_drop]
  have s4 : Same H3 (upd H3 Dl (.lst ((os.drop 1).map V.ref))) := (Same.refl H3).put nDl
  have nDlT : Dl ≠ Dt := fun z => by rw [z, eT3] at nDl; cases nDl
  have hW4 := hW3.same s4
  have eD4 := s4 _ _ eD3
  have eT4 := s4 _ _ eT3
  have S4 := S3.trans s4
  have hfp4 := s4.tup hfp3
  have eL4 : (upd H3 Dl (.lst ((os.drop 1).map V.ref))) Dl = some (.lst ((os.drop 1).map V.ref)) := upd_same
  generalize upd H3 Dl (.lst ((os.drop 1).map V.ref)) = H4 at hW4 eD4 eT4 S4 hfp4 eL4 ⊢
  refine ⟨Dl, rfl, ⟨_, sqL_of eL4⟩, for_it walk_list (fun i σ H' => ∃ (us : List V) (tl : List (Nd × Nat)) (y4 y5 y6 y7 y8 : Option V), σ = [some (.str tx), some (.ref D), some (.ref fp), some (.ref Dt), y4, y5, y6, y7, y8] ∧ Same H H' ∧ H' D = some (.lst (os.map V.ref)) ∧ H' Dl = some (.lst ((os.drop 1).map V.ref)) ∧ H' Dt = some (.lst us) ∧ All2 (TldAt K C H') us tl ∧ tl.length = i ∧ ToldOk xs tl ∧ rdT xs (1 + i) tl (rs0.drop i) = rdT xs 1 [] rs0 ∧ SqT K H' fp (xs.map V.str) ∧ RowsW WD H H' os Rw (i + 1))
    ⟨[], [], _, _, _, _, _, rfl, S4, eD4, eL4, eT4, .nil, rfl, .nil, rfl, hfp4, hW4⟩ (fun _ _ _ _ ⟨_, _, _, _, _, _, _, _, _, _, h, _⟩ => sqL_of h) ?_ ?_⟩
  · rintro i y σ H5 H6 hi ⟨us, tl, y4, y5, y6, y7, y8, rfl, S5, eD5, eL5, eT5, hus, htl, hto, hrt, hfp5, hW5⟩ ⟨rfl, hy⟩
    have hy : ((os.drop 1).map V.ref)[i]? = some y := hy
    rw [List.getElem?_map, List.getElem?_drop] at hy
    cases ho : os[1 + i]? with
    | none => rw [ho] at hy; cases hy
    | some o =>
      rw [ho] at hy
      obtain rfl : V.ref o = y := Option.some.inj hy
      rw [Nat.add_comm] at ho
      have hoH := hW5.fr o (List.mem_of_getElem? ho)
      have hio : i + 1 < os.length := (List.getElem?_eq_some_iff.mp ho).1
      have hR0l : Rw.length = rs0.length + 1 := by rw [eRw0, List.length_cons]
      obtain ⟨ws, hws⟩ : ∃ ws, rs0[i]? = some ws := ⟨_, List.getElem?_eq_getElem (by omega)⟩
      have hwR : Rw[i + 1]? = some ws := by rw [eRw0, List.getElem?_cons_succ]; exact hws
      have hwm : ws ∈ Rw := List.mem_of_getElem? hwR
      have W5 := hW5.at_ (i + 1) o ws (Nat.le_refl _) ho hwR
      obtain ⟨dx5, ll5, ho5, _⟩ := id W5
      have hdrop : rs0.drop i = ws :: rs0.drop (i + 1) := by
        obtain ⟨hl1, hl2⟩ := List.getElem?_eq_some_iff.mp hws
        rw [List.drop_eq_getElem_cons hl1, hl2]
      rw [hdrop] at hrt
      have hrt : (if ws[0]? = some (Str.ofString "else") then .inr (tl, ws :: rs0.drop (i + 1)) else match rdR xs tl ws with
        | .inl e => .inl (1 + i, e)
        | .inr q => rdT xs (1 + i + 1) (tl ++ [q]) (rs0.drop (i + 1))) = rdT xs 1 [] rs0 := hrt
      obtain ⟨x0, hx0'⟩ : ∃ x0, ws[0]? = some x0 := ⟨_, List.getElem?_eq_getElem (List.length_pos_iff.mpr (hrn ws hwm))⟩
      have hul := hus.len
      have hlen := hto.len
      refine ⟨_, rfl, o, dx5, _, rfl, ho5, rfl, o, i + 1, ws, 0, rfl, W5, ?_⟩
      by_cases he : ws[0]? = some (Str.ofString "else")
      · rw [if_pos he] at hrt
        rw [he]
        refine ⟨rfl, _, rfl, ?_⟩
        rw [show decide (optV (some (Str.ofString "else")) = V.str (Str.ofString "else")) = true from decide_eq_true rfl]
        refine iteT ?_
        refine ⟨_, rfl, Dt, us, rfl, .inl (sqL_of eT5), _, _, rfl, rfl, ?_⟩
        show gName 5 (V.int (1 + ((us.length : Nat) : Int))) _ _ _
        rw [show (1 : Int) + (us.length : Nat) = ((i + 1 : Nat) : Int) by omega]
        have hol : (os.map V.ref).length = os.length := List.length_map ..
        refine ⟨_, rfl, _, rfl, D, _, rfl, .inl (sqL_of eD5), rfl, _, rfl, ?_⟩
        rw [decide_eq_false (fun z => by have := V.int.inj z; omega)]
        have hrB : rdB Rw = if freeO ws[1]? = false then .inl (1 + tl.length, 1) else if 2 < ws.length then .inl (1 + tl.length, 2) else if rs0.drop (i + 1) ≠ [] then .inl (2 + tl.length, 0) else .inr (xs, tl, (ws[1]?).getD "") := by rw [hrd, ← hrt]
        have eI : 1 + tl.length = i + 1 := by omega
        rw [eI] at hrB
        refine iteF ?_
        refine ⟨_, rfl, _, rfl, D, _, _, _, rfl, rfl, sqL_of eD5, atI_nat (j := i + 1) (by rw [List.getElem?_map, ho]; rfl), o, i + 1, ws, rfl, W5, he, hwd ws hwm, fun hf => (er _ _ (by rw [hrB, if_pos hf])).mono fun Hx sx => toS hoH S5 sx, fun rl hrl hfr => ⟨fun h2 => (er _ _ (by rw [hrB, if_neg (by rw [hrl, hfr]; decide), if_pos h2])).mono fun Hx sx => toS hoH S5 sx, fun h2 H7 s7 => ?_⟩⟩
        rw [if_neg (by rw [hrl, hfr]; decide), if_neg (by omega)] at hrB
        have S7 := toS hoH S5 s7
        have eT7 := s7 _ _ (ne_o W5 eT5) eT5
        have eD7 := s7 _ _ (ne_o W5 eD5) eD5
        have k7 : Keeps NoL H6 H7 := W5.keeps s7
        have hus7 := hus.mono fun _ _ x => x.keeps k7
        have hfp7 := k7.tup hfp5
        refine ⟨_, rfl, _, _, rfl, rfl, _, rfl, D, _, rfl, .inl (sqL_of eD7), _, _, rfl, rfl, _, rfl, ?_⟩
        by_cases hr3 : rs0.drop (i + 1) = []
        · rw [if_neg (fun z => z hr3)] at hrB
          have hr3l : rs0.length ≤ i + 1 := List.drop_eq_nil_iff.mp hr3
          obtain ⟨fr, hf1, hf2, hf3⟩ := RF.of_told hto.st
          have hT2 : fr.every NdOk := told_every hf1 hto.ok
          have hd6 : fr.dep ≤ 6 := hf2 6 hto.dep
          rw [hrl] at hrB
          have hq := q _ _ _ hrB fr hf1
          rw [decide_eq_false (by omega)]
          refine iteF ?_
          refine ⟨_, rfl, _, rfl, N, Dt, us, fr, rfl, eT7, all2_flat hus7 hf1, hT2, hd6, by omega, fun l hl => hN l (S7.free hl), fun H8 pr ws8 s8 hpr hF => ⟨_, rfl, fun x dx2 nx ndx nex => ?_⟩⟩
          have S8 := S7.trans s8
          have hfp8 := s8.tup hfp7
          have s9 : Same H8 (upd (upd H8 dx2 (.own x)) x (.ins B dx2 [])) := ((Same.refl H8).put ndx).put nx
          have hrn2 : isName rl = true := by
            have hfr : (isName rl && !decide (rl ∈ reserved)) = true := hfr
            rw [Bool.and_eq_true] at hfr
            exact hfr.1
          have ll := name_len hrn2
          have hfb := right_bad hxr hx0 hx60
          have hff : firstFault xs (fr.pre 0) [] 0 0 = none := by rw [ff_flat hf1]; exact hto.ff
          refine ⟨N, x, dx2, fp, pr, xs, rl, ws8, fr, rfl, upd_same, s9.tup hfp8, hxr.fines.txts, by omega, s9.tup hpr, hF.keeps s9.keeps, by omega, by omega, fit_of hT2, by omega, (fun i ei => by rw [hfb] at ei; cases ei), fun _ => ⟨(fun wd i ei => by rw [hff] at ei; cases ei), fun _ => ⟨(fun z => by rw [hrn2] at z; cases z), fun _ H10 l us2 sX hx10 nelx nl el hus2 => ⟨rfl, ?_⟩⟩⟩⟩
          have s10 : Same H8 H10 := fun b' o' h => sX b' o' (fun e => by rw [e, nx] at h; cases h) (s9 _ _ h)
          exact hq H10 x (S8.trans s10) ⟨dx2, fp, pr, l, ws8, us2, hx10, s10.tup hfp8, s10.tup hpr, hF.keeps s10.keeps, ⟨hN l (S8.free (s9.free nl)), el⟩, hus2⟩
        · rw [if_pos hr3] at hrB
          have hr3l : i + 1 < rs0.length := by
            rcases Nat.lt_or_ge (i + 1) rs0.length with z | z
            · exact z
            · exact absurd (List.drop_eq_nil_iff.mpr z) hr3
          rw [decide_eq_true (by omega)]
          refine iteT ?_
          have e2 : ((i + 1 : Nat) : Int) + 1 = ((i + 2 : Nat) : Int) := by omega
          have hi900 : i + 2 ≤ 1000 := by omega
          have er2 := er _ _ hrB
          rw [show 2 + tl.length = i + 2 by omega] at er2
          refine ⟨_, rfl, _, _, rfl, rfl, ⟨by show FOk (V.int (((i + 1 : Nat) : Int) + 1)); rw [e2]; exact fok_nat (by omega), fok_nat (i := 0) (by omega)⟩, fun d nd => ?_⟩
          have := er2 H7 d S7 nd
          rw [← e2] at this
          exact this
      · rw [if_neg he] at hrt
        rw [hx0'] at he ⊢
        refine ⟨rfl, _, rfl, ?_⟩
        rw [show decide (optV (some x0) = V.str (Str.ofString "else")) = false from decide_eq_false fun z => he (congrArg some (V.str.inj z))]
        have hur : ∀ u ∈ us, ∃ t : Addr, u = .ref t := fun u hu => by
          obtain ⟨j, hj⟩ := List.mem_iff_getElem?.mp hu
          obtain ⟨q, _, t, c, e, _⟩ := hus.get hj
          exact ⟨t, e⟩
        refine iteF ⟨_, rfl, .inl ⟨rfl, _, sqL_of eT5⟩, _, rfl, _, rfl, _, rfl, o, fp, Dt, i + 1, ws, us, tl, xs, rfl, W5, hfp5, hxr.nm, eT5, hus, hto.len, hwd ws hwm, fun e hrr => ?_, fun q2 hrr H7 v s7 hv => ?_⟩
        · have h1 := er (1 + i) e (by rw [hrd, ← hrt, hrr])
          rw [Nat.add_comm] at h1
          exact h1.mono fun Hx sx => toS hoH S5 sx
        have S7 := toS hoH S5 s7
        have eT7 := s7 _ _ (ne_o W5 eT5) eT5
        have eD7 := s7 _ _ (ne_o W5 eD5) eD5
        have eL7 := s7 _ _ (ne_o W5 eL5) eL5
        have k7 : Keeps NoL H6 H7 := W5.keeps s7
        have k8 : Keeps NoL H7 (upd H7 Dt (.lst (us ++ [v]))) := keeps_own eT7 fun z => z
        rw [hrr] at hrt
        refine ⟨Dt, us, v, rfl, rfl, eT7, small1000 (by omega), us ++ [v], tl ++ [q2], _, _, _, _, _, rfl, S7.put nDt0, by rw [upd_ne nDtD.symm]; exact eD7, by rw [upd_ne nDlT]; exact eL7, upd_same, ?_, by rw [List.length_append, htl]; rfl, hto.snoc (rdR_ok hxr.nm hrr), hrt, k8.tup (k7.tup hfp5), (hW5.step ho W5 s7).put eT7 hur hrn⟩
        exact ((hus.mono fun _ _ x => x.keeps k7).snoc hv).mono fun _ _ x => x.keeps k8
  · rintro σ H5 ⟨us, tl, y4, y5, y6, y7, y8, rfl, S5, eD5, eL5, eT5, hus, htl, hto, hrt, hfp5, hW5⟩
    rw [List.length_map, List.length_drop] at htl hrt
    have hul := hus.len
    have hR0l : Rw.length = rs0.length + 1 := by rw [eRw0, List.length_cons]
    have hd0 : rs0.drop (os.length - 1) = [] := List.drop_eq_nil_iff.mpr (by omega)
    rw [hd0] at hrt
    have hrt : Sum.inl (1 + (os.length - 1), 0) = rdT xs 1 [] rs0 := hrt
    rw [← hrt] at hrd
    have er2 := er _ _ hrd
    have eO : 1 + (os.length - 1) = os.length := by omega
    rw [eO] at er2
    have hol : (os.map V.ref).length = os.length := List.length_map ..
    refine ⟨_, rfl, Dt, us, rfl, .inl (sqL_of eT5), _, _, rfl, rfl, ?_⟩
    show gName 5 (V.int (1 + ((us.length : Nat) : Int))) _ _ _
    rw [show (1 : Int) + (us.length : Nat) = ((os.length : Nat) : Int) by omega]
    refine ⟨_, rfl, _, rfl, D, _, rfl, .inl (sqL_of eD5), rfl, _, rfl, ?_⟩
    rw [decide_eq_true (by rw [hol])]
    exact iteT ⟨_, rfl, ⟨fok_nat (by omega), fok_nat (i := 0) (by omega)⟩, fun d nd => er2 H5 d S5 nd⟩
end
end Sc
namespace Sc
open PySem PySem.Spec PyProof.Rows L2
/-- a part of a condition behind its word -/
def partW (w : Str) (xs : List Str) : List Str := if xs = [] then [] else w :: xs
/-- the words of a rule within k others -/
def wordsN (n : Nd) (k : Nat) : List Str := (List.replicate k (Str.ofString ">") : List Str) ++ [n.nm, "is", n.rl] ++ partW "if" n.hs ++ partW "not" n.fs
theorem joinL_len (S : List Nat) : ∀ ps : List (List Nat), (TL.joinL S ps).length ≤ (ps.map List.length).sum + ps.length * S.length
  | [] => Nat.zero_le _
  | [p] => by
    show p.length ≤ (p.length + 0) + 1 * S.length
    omega
  | p :: q :: r => by
    have ih := joinL_len S (q :: r)
    show (p ++ (S ++ TL.joinL S (q :: r))).length ≤ (p.length + ((q :: r).map List.length).sum) + ((q :: r).length + 1) * S.length
    rw [List.length_append, List.length_append, Nat.add_mul]
    omega
theorem join_len (y : Str) (ps : List Str) : (Txt.join y ps).length ≤ (ps.map (·.length)).sum + ps.length * y.length := by
  have h := joinL_len (TL.tl y) (ps.map TL.tl)
  rw [← TL.tl_join, ← TL.join_eq, List.length_map, List.map_map] at h
  have e1 : (TL.tl (Txt.join y ps)).length = (Txt.join y ps).length := by
    show (Txt.join y ps).cps.toList.length = _
    rw [Array.length_toList]
    rfl
  have e2 : (TL.tl y).length = y.length := by
    show y.cps.toList.length = _
    rw [Array.length_toList]
    rfl
  have e3 : ps.map (List.length ∘ TL.tl) = ps.map (·.length) := by
    apply List.map_congr_left
    intro x _
    show x.cps.toList.length = _
    rw [Array.length_toList]
    rfl
  rw [e1, e2, e3] at h
  exact h
theorem sum_le {α : Type} {f : α → Nat} {m : Nat} : ∀ {l : List α}, (∀ x ∈ l, f x ≤ m) → (l.map f).sum ≤ l.length * m
  | [], _ => Nat.zero_le _
  | x :: r, h => by
    have h1 := h x List.mem_cons_self
    have h2 := sum_le (l := r) fun y hy => h y (List.mem_cons_of_mem _ hy)
    show f x + (r.map f).sum ≤ (r.length + 1) * m
    rw [Nat.succ_mul]
    omega
abbrev spc : Str := Str.ofString " "
abbrev lf : Str := Str.ofString "\n"
/-- the rows of a book -/
def rowsB (xs : List Str) (ps : List (Nd × Nat)) (rl : Str) : List (List Str) := ((Str.ofString "facts" :: xs) :: ps.map fun q => wordsN q.1 q.2) ++ [[Str.ofString "else", rl]]
def textB (xs : List Str) (ps : List (Nd × Nat)) (rl : Str) : Str := Txt.join lf ((rowsB xs ps rl).map (Txt.join spc))
theorem pre_dep : ∀ (f : RF) (k : Nat), ∀ q ∈ f.pre k, q.2 + 1 ≤ k + f.dep
  | .nil, k, q, h => nomatch h
  | .cons nm hs fs rl exc rest, k, q, h => by
    show _ ≤ k + max (exc.dep + 1) rest.dep
    rcases List.mem_cons.mp h with rfl | h
    · show k + 1 ≤ _
      omega
    rcases List.mem_append.mp h with h | h
    · have := pre_dep exc (k + 1) q h
      omega
    · have := pre_dep rest k q h
      omega
/-- short rows of short words -/
def RowOk (ws : List Str) : Prop := ws.length ≤ 200 ∧ ∀ x ∈ ws, x.length ≤ 8
theorem rowText_len {ws : List Str} (h : RowOk ws) : (Txt.join spc ws).length ≤ 1800 := by
  have h1 : (Txt.join spc ws).length ≤ (ws.map (·.length)).sum + ws.length * 1 := join_len spc ws
  have h2 : (ws.map (·.length)).sum ≤ ws.length * 8 := sum_le h.2
  have h3 := h.1
  omega
theorem wordsN_ok {n : Nd} {k : Nat} (h : NdOk n) (hk : k ≤ 100) : RowOk (wordsN n k) := by
  have hl := h.len
  have p1 : ∀ (wd : Str) (xs : List Str), xs.length ≤ 8 → (partW wd xs).length ≤ 9 := fun wd xs h => by
    unfold partW
    split
    · exact Nat.zero_le _
    · rw [List.length_cons]
      omega
  have p2 : ∀ (wd : Str) (xs : List Str), wd.length ≤ 8 → (∀ x ∈ xs, x.length ≤ 8) → ∀ x ∈ partW wd xs, x.length ≤ 8 := fun wd xs h1 h2 x hx => by
    unfold partW at hx
    split at hx
    · cases hx
    · rcases List.mem_cons.mp hx with rfl | hx
      · exact h1
      · exact h2 x hx
  constructor
  · have a1 := p1 "if" n.hs hl.1
    have a2 := p1 "not" n.fs hl.2
    unfold wordsN
    rw [List.length_append, List.length_append, List.length_append, List.length_replicate]
    show k + 3 + _ + _ ≤ 200
    omega
  · intro x hx
    unfold wordsN at hx
    rcases List.mem_append.mp hx with hx | hx
    · rcases List.mem_append.mp hx with hx | hx
      · rcases List.mem_append.mp hx with hx | hx
        · rw [List.eq_of_mem_replicate hx]
          decide
        · rcases List.mem_cons.mp hx with rfl | hx
          · exact name_len h.nm
          rcases List.mem_cons.mp hx with rfl | hx
          · decide
          rw [List.mem_singleton.mp hx]
          exact name_len h.rl
      · exact p2 "if" n.hs (by decide) (fun x hx => name_len (fw_names h.c1 x hx)) x hx
    · exact p2 "not" n.fs (by decide) (fun x hx => name_len (fw_names h.c2 x hx)) x hx
/-- lists of texts in a list -/
def LstAt (N : Addr → Prop) (H : Hp) (v : V) (ws : List Str) : Prop := ∃ l, v = .ref l ∧ N l ∧ H l = some (.lst (ws.map V.str))
theorem LstAt.keeps {N : Addr → Prop} {H H' : Hp} {v : V} {ws : List Str} (h : LstAt N H v ws) (k : Keeps N H H') : LstAt N H' v ws := by
  obtain ⟨l, e, n, h⟩ := h
  exact ⟨l, e, n, k _ _ (stays_lst n) h⟩
end Sc
namespace Sc
open PySem PySem.Spec PyProof.Rows L2
theorem sc__law_read : FnScope ["_law_text_here", "_law_rows", "_law_facts_here", "_law_known", "_law_k", "_law_words_here", "_law_outer", "_law_found", "_law_row"] ["_law_text_here"] (defScope s__law_read) := ⟨rfl, rfl, rfl, by decide +kernel, rfl, by decide +kernel, by decide +kernel⟩
abbrev AllL : Addr → Prop := fun _ => True
theorem LstAt.re {N M : Addr → Prop} {H : Hp} (g : ∀ b xs, N b → H b = some (.lst xs) → M b) {v : V} {ws : List Str} (h : LstAt N H v ws) : LstAt M H v ws := by
  obtain ⟨l, e, n, h⟩ := h
  exact ⟨l, e, g _ _ n h, h⟩
theorem all2_flatK {K : PySem.W.Frag} {H : Hp} : ∀ {us : List V} {a b : List (Nd × Nat)}, All2 (KnAt K H) us a → b.map flatN = a.map flatN → All2 (KnAt K H) us b
  | _, [], [], .nil, _ => .nil
  | _, [], _ :: _, _, e => nomatch e
  | _, _ :: _, [], _, e => nomatch e
  | _, p :: a, q :: b, .cons h t, e => by
    rw [List.map_cons, List.map_cons] at e
    injection e with e1 e2
    refine .cons ?_ (all2_flatK t e2)
    unfold flatN at e1
    injection e1 with e3 e1
    injection e1 with e4 e1
    injection e1 with e5 e1
    injection e1 with e6 e7
    unfold KnAt at h ⊢
    rw [e3, e4, e5, e6, e7]
    exact h
theorem nS_zero {ws : List Str} {x : Str} (h : ws[0]? = some x) : nS ws = 0 ↔ x ≠ sgn := by
  cases ws with
  | nil => cases h
  | cons y r =>
    obtain rfl : y = x := Option.some.inj h
    unfold nS
    rw [List.takeWhile_cons]
    by_cases e : y = sgn
    · rw [decide_eq_true e]
      exact ⟨(fun z => by cases z), fun z => absurd e z⟩
    · rw [decide_eq_false e]
      exact ⟨fun _ => e, fun _ => rfl⟩
/-- what a text is read to -/
def ResAt (K : PySem.W.Frag) (H : Hp) (v : V) : (Nat × Nat) ⊕ (List Str × List (Nd × Nat) × Str) → Prop
  | .inl (a, b) => ∃ t : Addr, v = .ref t ∧ SqT K H t [.int (a : Nat), .int (b : Nat)]
  | .inr (xs, tl, rl) => ∃ (t : Addr) (f : RF), v = .ref t ∧ SeenAt K H t xs f rl ∧ (f.pre 0).map flatN = tl.map flatN
def tAbove (K : PySem.W.Frag) : TE := fun σ H Q => ∃ (KD : Addr) (us : List V) (tl : List (Nd × Nat)), σ[3]? = some (some (.ref KD)) ∧ H KD = some (.lst us) ∧ All2 (KnAt K H) us tl ∧ ∀ H', Same H H' → Q (.int (aboveI tl)) H'
def tStop (K : PySem.W.Frag) : TS := fun D σ H => ∃ (KD l : Addr) (us : List V) (z k : Nat) (ws : List Str) (x0 : Str), σ[3]? = some (some (.ref KD)) ∧ σ[5]? = some (some (.ref l)) ∧ σ[6]? = some (some (.int (z : Nat))) ∧ σ[4]? = some (some (.int (k : Nat))) ∧ H KD = some (.lst us) ∧ H l = some (.lst (ws.map V.str)) ∧ ws[0]? = some x0 ∧
  ((us.length = 60 ∨ (z = 40 ∧ x0 ≠ sgn)) → ∀ H' t, Same H H' → SqT K H' t [.int (k : Nat), .int 0] → D.rt (.ref t) H') ∧ (¬ (us.length = 60 ∨ (z = 40 ∧ x0 ≠ sgn)) → D.nx σ H)
structure TxFit2 (tx : Str) : Prop where
  fit : TxFit tx
  w9 : ∀ ws ∈ rowsT tx, ∀ x ∈ ws, x.length ≤ 900
section
variable {P : Program} {w : World} {K : PySem.W.Frag} {mg : Str → Option Value} {base : Heap}
def sp_read (K : PySem.W.Frag) : Sp := fun vs H Q _ => ∃ tx : Str, vs = [.str tx] ∧ TxFit2 tx ∧ ∀ H' v, Same H H' → ResAt K H' v (rdB (rowsT tx)) → Q v H'
theorem ok_read {f : Addr} {fd : FuncData} (F : Fun K "_law_read" "_law_read" s__law_read f fd) (B : Blt mg) (c__law_named : Cal P w K mg base CX0 1 "_law_named" ["_law_word"] sp_named) (c__law_read_facts : Cal P w K mg base CX0 2 "_law_read_facts" ["_law_words_here"] (sp_rdFacts K)) (c__law_read_rule : Cal P w K mg base CX0 2 "_law_read_rule" ["_law_words_here", "_law_facts_here", "_law_names", "_law_above"] (sp_rdRule K)) (c__law_nested : Cal P w K mg base CX0 8 "_law_nested" ["_law_rows", "_law_deep"] (sp_nestL K 6)) : FnOk P w K mg base CX0 9 f fd ["_law_text_here"] (sp_read K) := by
  refine F.ok sc__law_read (fun vs H Q E h => by obtain ⟨tx, rfl, _⟩ := h; rfl) (fun cdv A outer s H vs Q E hr h => ?_)
  obtain ⟨tx, rfl, hT2, q⟩ := h
  refine ⟨_, (pss_cons (ps_setLc (i := 1) (own := [("_law_row", 8)]) (g := gName 8) (tt := tYes) rfl sc__law_read.nd rfl rfl (sw_true rfl rfl rfl (by decide +kernel)) (pi_list (pe_split (pv 0) pe_str)) (blkOk_by (own := [("_law_row", 8)]) (N := ["_law_text_here", "_law_rows", "_law_facts_here", "_law_known", "_law_k", "_law_words_here", "_law_outer", "_law_found", "_law_row"]) (sc := defScope s__law_read) (by decide +kernel)) (fun _ _ _ _ _ => (pg_name (i := 8) sc__law_read.nd rfl (Or.inl rfl))) (fun _ _ _ _ _ => pts_nil) (fun _ _ _ _ _ => (pe_.re (pe_split (pv 8) pe_str) (by first | (dsimp only [Cx.blk]; done) | exact rfl))))
      (pss_cons (ps_par (i := 2) (j := 3) rfl sc__law_read.nd rfl rfl (by decide) rfl rfl (pa_cons (pe_cal c__law_read_facts (hr.mono (by decide)) (pa_cons (pe_ix ix_list (pv 1) pe_int (fun _ _ => rfl)) pa_nil)) (pa_cons (pe_lst pa_nil) pa_nil)) rfl)
      (pss_cons (ps_if (pt_val (pe_callB (call_isTX "int") (by rfl) B.b_isinstance PyProof.Rows.boot_isinstance (pa_cons (pv 2) (pa_cons (pe_bltn (v := .ty "int") (by rfl) B.b_int PyProof.Rows.boot_int rfl) pa_nil)))) (pss_one (ps_ret (pe_tup (pa_cons pe_int (pa_cons (pv 2) pa_nil))))) pss_nil)
      (pss_cons (ps_for PassesOwn.never rfl (pi_range2 (by rfl) B.b_range (pa_cons pe_int (pa_cons (pe_callB call_len_seq (by rfl) B.b_len PySem.boot_len (pa_cons (pv 1) pa_nil)) pa_nil))) (pg_name (i := 4) sc__law_read.nd rfl (Or.inl rfl)) (pss_cons (ps_set (i := 5) sc__law_read.nd rfl (Or.inl rfl) (pe_ix ix_list (pv 1) (pv 4) (fun _ _ => rfl)))
      (pss_cons (ps_if (pt_cmpR op_eq (pe_ix ix_list (pv 5) pe_int (fun _ _ => rfl)) pe_str (nomark _)) (pss_cons (ps_if (PW.pt (pw_or (pt_cmpR op_lt (pe_callB call_len_seq (by rfl) B.b_len PySem.boot_len (pa_cons (pv 5) pa_nil)) pe_int (nomark _)) (pw_or1 (pt_not (pt_val (pe_cal c__law_named (hr.mono (by decide)) (pa_cons (pe_ix ix_list (pv 5) pe_int (fun _ _ => rfl)) pa_nil))))))) (pss_one (ps_ret (pe_tup (pa_cons (pv 4) (pa_cons pe_int pa_nil))))) pss_nil)
      (pss_cons (ps_if (pt_cmpR op_gt (pe_callB call_len_seq (by rfl) B.b_len PySem.boot_len (pa_cons (pv 5) pa_nil)) pe_int (nomark _)) (pss_one (ps_ret (pe_tup (pa_cons (pv 4) (pa_cons pe_int pa_nil))))) pss_nil)
      (pss_one (ps_ret (pe_ifExp (pt_cmpR op_eq (pe_op op_add (pv 4) pe_int) (pe_callB call_len_seq (by rfl) B.b_len PySem.boot_len (pa_cons (pv 1) pa_nil)) (nomark _)) (pe_tup (pa_cons (pv 2) (pa_cons (pe_cal c__law_nested (hr.mono (by decide)) (pa_cons (pv 3) (pa_cons pe_int pa_nil))) (pa_cons (pe_ix ix_list (pv 5) pe_int (fun _ _ => rfl)) pa_nil)))) (pe_tup (pa_cons (pe_op op_add (pv 4) pe_int) (pa_cons pe_int pa_nil)))))))) pss_nil)
      (pss_cons (ps_set (i := 6) sc__law_read.nd rfl (Or.inl rfl) (pe_callB call_len_seq (by rfl) B.b_len PySem.boot_len (pa_cons (pe_lc (own := [("_law_row", 8)]) (g := gName 8) rfl sc__law_read.nd (pi_list (pv 3)) (blkOk_by (own := [("_law_row", 8)]) (N := ["_law_text_here", "_law_rows", "_law_facts_here", "_law_known", "_law_k", "_law_words_here", "_law_outer", "_law_found", "_law_row"]) (sc := defScope s__law_read) (by decide +kernel)) (fun _ _ _ _ _ => (pg_name (i := 8) sc__law_read.nd rfl (Or.inl rfl))) (fun _ _ _ _ _ => (pts_.re (pts_one (pt_cmpR op_eq (pe_ix ix_tup (pv 8) pe_int (fun _ _ => rfl)) pe_int (nomark _))) (by first | (dsimp only [Cx.blk]; done) | exact rfl))) (fun _ _ _ _ _ => (pe_.re (pv 8) (by first | (dsimp only [Cx.blk]; done) | exact rfl)))) pa_nil)))
      (pss_cons (wk_ps (tStop K) (ps_if (PW.pt (pw_or (pt_cmpR op_eq (pe_callB call_len_seq (by rfl) B.b_len PySem.boot_len (pa_cons (pv 3) pa_nil)) pe_int (nomark _)) (pw_or1 (PW.pt (pw_and (pt_cmpR op_eq (pv 6) pe_int (nomark _)) (pw_and1 (pt_cmpR op_ne (pe_ix ix_list (pv 5) pe_int (fun _ _ => rfl)) pe_str (nomark _)))))))) (pss_one (ps_ret (pe_tup (pa_cons (pv 4) (pa_cons pe_int pa_nil))))) pss_nil) ?ws)
      (pss_cons (ps_set (i := 7) sc__law_read.nd rfl (Or.inl rfl) (pe_cal c__law_read_rule (hr.mono (by decide)) (pa_cons (pv 5) (pa_cons (pv 2) (pa_cons (pe_lc (own := [("_law_row", 8)]) (g := gName 8) (tt := tYes) rfl sc__law_read.nd (pi_list (pv 3)) (blkOk_by (own := [("_law_row", 8)]) (N := ["_law_text_here", "_law_rows", "_law_facts_here", "_law_known", "_law_k", "_law_words_here", "_law_outer", "_law_found", "_law_row"]) (sc := defScope s__law_read) (by decide +kernel)) (fun _ _ _ _ _ => (pg_name (i := 8) sc__law_read.nd rfl (Or.inl rfl))) (fun _ _ _ _ _ => pts_nil) (fun _ _ _ _ _ => (pe_.re (pe_ix ix_tup (pv 8) pe_int (fun _ _ => rfl)) (by first | (dsimp only [Cx.blk]; done) | exact rfl)))) (pa_cons (pe_wk (tAbove K) (pe_ifExp (pt_cmpR (op_neE hr.units) (pv 3) (pe_lst pa_nil) (nomark _)) (pe_ix ix_tup (pe_ix ix_list (pv 3) (pe_un un_neg pe_int) (fun _ _ => rfl)) pe_int (fun _ _ => rfl)) (pe_op op_sub pe_int pe_int)) ?wa) pa_nil))))))
      (pss_cons (ps_if (pt_val (pe_callB (call_isTX "int") (by rfl) B.b_isinstance PyProof.Rows.boot_isinstance (pa_cons (pv 7) (pa_cons (pe_bltn (v := .ty "int") (by rfl) B.b_int PyProof.Rows.boot_int rfl) pa_nil)))) (pss_one (ps_ret (pe_tup (pa_cons (pv 4) (pa_cons (pv 7) pa_nil))))) pss_nil)
      (pss_one (ps_expr (pe_bm PySem.F.plainAttrs_list PySem.F.slot_list_append PySem.F.type_list_append mt_append (pv 3) (pa_cons (pv 7) pa_nil)))))))))))
      (pss_one (ps_ret (pe_tup (pa_cons (pe_callB call_len_seq (by rfl) B.b_len PySem.boot_len (pa_cons (pv 1) pa_nil)) (pa_cons pe_int pa_nil))))))))), ?_⟩
  case wa =>
    rintro σ H1 Q1 ⟨KD, us, tl, g3, hKD, hus, q⟩
    refine ⟨_, g3, Nat.zero_le _, fun te nte => ?_⟩
    have s2 := (Same.refl H1).put (o := .lst []) nte
    refine ⟨KD, te, _, rfl, rfl, s2 _ _ hKD, upd_same, ?_⟩
    rcases List.eq_nil_or_concat tl with h | ⟨tl', q0, h⟩
    · subst h
      cases hus
      exact ⟨_, rfl, iteF ⟨_, _, rfl, rfl, q _ s2⟩⟩
    · rw [List.concat_eq_append] at h
      subst h
      have hm : aboveI (tl' ++ [q0]) = (q0.2 : Nat) := by unfold aboveI; rw [List.getLast?_concat]
      rw [hm] at q
      obtain ⟨us', v, rfl, hv⟩ : ∃ us' v, us = us' ++ [v] ∧ KnAt K H1 v q0 := by
        rcases List.eq_nil_or_concat us with z | ⟨a, b, z⟩
        · rw [z] at hus
          have := hus.len
          rw [List.length_append] at this
          cases this
        · rw [List.concat_eq_append] at z
          subst z
          have hl1 := hus.len
          rw [List.length_append, List.length_append] at hl1
          have hl1 : a.length = tl'.length := by
            have : a.length + 1 = tl'.length + 1 := hl1
            omega
          obtain ⟨m, hm, hr⟩ := hus.get (i := a.length) (by rw [List.getElem?_append_right (Nat.le_refl _), Nat.sub_self]; rfl)
          rw [hl1, List.getElem?_append_right (Nat.le_refl _), Nat.sub_self] at hm
          cases hm
          exact ⟨a, b, rfl, hr⟩
      have hne : (!(us' ++ [v]).isEmpty) = true := by cases us' <;> rfl
      rw [hne]
      obtain ⟨t, a, b, rfl, ht, _⟩ := hv
      exact ⟨_, rfl, iteT ⟨_, g3, 1, rfl, KD, _, _, _, rfl, rfl, sqL_of (s2 _ _ hKD), atI_last _ _, t, _, 0, _, rfl, rfl, s2.tup ht, atI_nat (j := 0) rfl, q _ s2⟩⟩
  case ws =>
    rintro D σ H1 ⟨KD, l, us, z, k, ws, x0, g3, g5, g6, g4, eK, hl, hx0, q0, q1⟩
    have gx0 : (ws.map V.str)[0]? = some (.str x0) := by rw [List.getElem?_map, hx0]; rfl
    refine ⟨_, g3, KD, _, rfl, .inl (sqL_of eK), rfl, _, rfl, ?_⟩
    have out : (us.length = 60 ∨ (z = 40 ∧ x0 ≠ sgn)) → (tRet (tTup (tCons (tVar 4) (tCons (tC (V.int 0)) tNil)))) D σ H1 := fun h => ⟨_, g4, (by show 2 ≤ sizeLine; decide), fun t nt => q0 h _ t ((Same.refl H1).put nt) sqT_new⟩
    by_cases h60 : us.length = 60
    · rw [show decide (V.int ((us.length : Nat) : Int) = V.int 60) = true from decide_eq_true (by rw [h60]; rfl)]
      exact iteT (out (.inl h60))
    · rw [show decide (V.int ((us.length : Nat) : Int) = V.int 60) = false from decide_eq_false fun e => h60 (by have := V.int.inj e; omega)]
      refine iteF ⟨_, g6, rfl, _, rfl, ?_⟩
      by_cases h40 : z = 40
      · rw [show decide (V.int ((z : Nat) : Int) = V.int 40) = true from decide_eq_true (by rw [h40]; rfl)]
        refine iteT ⟨_, g5, l, _, 0, _, rfl, rfl, sqL_of hl, atI_nat (j := 0) gx0, rfl, _, rfl, ?_⟩
        by_cases hs : x0 = sgn
        · rw [show decide (V.str x0 = V.str (Str.ofString ">")) = true from decide_eq_true (by rw [hs])]
          exact iteF (q1 fun h => by rcases h with h | h; exact h60 h; exact h.2 hs)
        · rw [show decide (V.str x0 = V.str (Str.ofString ">")) = false from decide_eq_false fun e => hs (V.str.inj e)]
          exact iteT (out (.inr ⟨h40, hs⟩))
      · rw [show decide (V.int ((z : Nat) : Int) = V.int 40) = false from decide_eq_false fun e => h40 (by have := V.int.inj e; omega)]
        exact iteF (q1 fun h => by rcases h with h | h; exact h60 h; exact h40 h.1)
  have hT := hT2.fit
  obtain ⟨Ls, eLs⟩ : ∃ Ls, Ls = Txt.split tx (Str.ofString "\n") := ⟨_, rfl⟩
  have htl := hT.len
  have hRwE : rowsT tx = Ls.map wordsT := by rw [eLs]; rfl
  have hrow := hT.row
  have hRl9 := hT.rows
  have hwd := hT2.w9
  obtain ⟨Rw, eRw⟩ : ∃ Rw, Rw = rowsT tx := ⟨_, rfl⟩
  rw [← eLs] at hrow
  rw [← eRw] at hRwE hRl9 hwd q
  have hRlen : Rw.length = Ls.length := by rw [hRwE, List.length_map]
  have hne : ∀ x : Str, wordsT x ≠ [] := fun x => split_ne _ _
  have hLne : Ls ≠ [] := by rw [eLs]; exact split_ne _ _
  have hrn : ∀ ws ∈ Rw, ws ≠ [] ∧ ws.length ≤ 900 := fun ws h => by
    rw [hRwE] at h
    obtain ⟨x, hx, rfl⟩ := List.mem_map.mp h
    exact ⟨hne x, (hrow x hx).2⟩
  refine ⟨_, rfl, ⟨_, rfl⟩, _, _, rfl, rfl, rfl, by rw [sizeLine_eq]; omega, fun tL ntL => ?_⟩
  rw [← eLs]
  refine ⟨tL, rfl, ⟨_, sqL_of upd_same⟩, fun D nD => ?_⟩
  have hDt : tL ≠ D := fun z => by rw [← z, upd_same] at nD; cases nD
  have nD0 : H D = none := ((Same.refl H).put ntL).free nD
  refine lc_it walk_list (fun i H' => ∃ vs : List V, Same H H' ∧ H' tL = some (.lst (Ls.map V.str)) ∧ H' D = some (.lst vs) ∧ All2 (LstAt (fun l => l ≠ D) H') vs (Rw.take i))
    ⟨[], ((Same.refl H).put ntL).put' nD, by rw [upd_ne hDt]; exact upd_same, upd_same, .nil⟩ (fun _ _ _ ⟨_, _, h, _⟩ => sqL_of h) ?_ ?_
  · rintro i y H3 H2 hi ⟨vs, s, etl, eD, hW⟩ ⟨rfl, h2⟩
    have h2 : (Ls.map V.str)[i]? = some y := h2
    rw [List.getElem?_map] at h2
    cases hx : Ls[i]? with
    | none => rw [hx] at h2; cases h2
    | some x =>
      rw [hx] at h2
      obtain rfl : V.str x = y := Option.some.inj h2
      have hok := hrow x (List.mem_of_getElem? hx)
      have hws : Rw[i]? = some (wordsT x) := by rw [hRwE, List.getElem?_map, hx]; rfl
      have hvl := hW.len
      rw [List.length_take] at hvl
      refine ⟨rfl, yes_ ⟨_, rfl, ⟨_, rfl⟩, _, _, rfl, rfl, rfl, by rw [sizeLine_eq]; omega, fun l nl => ?_⟩⟩
      have s3 := (Same.refl H2).put (o := .lst ((Txt.split x (Str.ofString " ")).map V.str)) nl
      have lD : l ≠ D := fun z => by rw [z, eD] at nl; cases nl
      refine ⟨vs, s3 _ _ eD, small1000 (by omega), vs ++ [.ref l], (s.trans s3).put nD0, by rw [upd_ne hDt]; exact s3 _ _ etl, upd_same, ?_⟩
      rw [take_more hws]
      have kD : Keeps (fun l => l ≠ D) (upd H2 l (.lst ((Txt.split x (Str.ofString " ")).map V.str))) (upd (upd H2 l (.lst ((Txt.split x (Str.ofString " ")).map V.str))) D (.lst (vs ++ [.ref l]))) := keeps_own (s3 _ _ eD) fun z => z rfl
      exact ((hW.mono fun _ _ x => x.keeps s3.keeps).mono fun _ _ x => x.keeps kD).snoc (LstAt.keeps (N := fun l => l ≠ D) ⟨l, rfl, lD, upd_same⟩ kD)
  rintro H1 ⟨vs, s1, etl, eD, hW⟩
  rw [List.length_map, ← hRlen, List.take_length] at hW
  have hW : All2 (LstAt AllL H1) vs Rw := hW.mono fun _ _ x => x.re fun _ _ _ _ => trivial
  have hvl := hW.len
  obtain ⟨w0, rs0, eRw0⟩ : ∃ w0 rs0, Rw = w0 :: rs0 := by
    cases Rw with
    | nil => rw [List.length_nil] at hRlen; exact absurd (List.eq_nil_of_length_eq_zero hRlen.symm) hLne
    | cons a b => exact ⟨a, b, rfl⟩
  have hw0 : w0 ∈ Rw := by rw [eRw0]; exact List.mem_cons_self
  obtain ⟨v0, hv0⟩ : ∃ v, vs[0]? = some v := ⟨_, List.getElem?_eq_getElem (by rw [hvl, eRw0, List.length_cons]; omega)⟩
  obtain ⟨w0', hw0', l0, rfl, _, hl0⟩ := hW.get hv0
  obtain rfl : w0 = w0' := by rw [eRw0] at hw0'; exact Option.some.inj hw0'
  refine ⟨_, rfl, D, _, 0, _, rfl, rfl, sqL_of eD, atI_nat (j := 0) hv0, ?_⟩
  refine ⟨l0, w0, rfl, hl0, (hrn w0 hw0).1, (hrn w0 hw0).2, hwd w0 hw0, fun k hk H2 s2 => ?_, fun hk H2 fp s2 hfp => ?_⟩
  · refine ⟨Nat.zero_le _, fun KD nKD => ⟨_, _, rfl, ?_⟩⟩
    refine ⟨_, rfl, _, "int", true, rfl, .int _, by decide +kernel, _, rfl, iteT ⟨_, rfl, (by show 2 ≤ sizeLine; decide), fun t nt => ?_⟩⟩
    refine q _ _ (((s1.trans s2).put' nKD).put' nt) ?_
    rw [show rdB Rw = .inl (0, k) by rw [eRw0]; unfold rdB; dsimp only; rw [hk]]
    exact ⟨t, rfl, sqT_new⟩
  obtain ⟨hxr, hx0, hx60, hxres⟩ := rdF_ok hk (hrn w0 hw0).1
  have hrd : rdB Rw = match rdT (w0.drop 1) 1 [] rs0 with
      | .inl e => .inl e
      | .inr (tl, r2) => match r2 with
        | [] => .inl (0, 0)
        | ws :: r3 => if freeO ws[1]? = false then .inl (1 + tl.length, 1) else if 2 < ws.length then .inl (1 + tl.length, 2) else if r3 ≠ [] then .inl (2 + tl.length, 0) else .inr (w0.drop 1, tl, (ws[1]?).getD "") := by
    rw [eRw0]; unfold rdB; dsimp only; rw [hk]; try rfl
  generalize w0.drop 1 = xs at hxr hx0 hx60 hxres hrd hfp
  refine ⟨Nat.zero_le _, fun KD nKD => ⟨_, _, rfl, ?_⟩⟩
  have s3 : Same H2 (upd H2 KD (.lst [])) := (Same.refl H2).put nKD
  have S3 := (s1.trans s2).trans s3
  have nKD0 : H KD = none := (s1.trans s2).free nKD
  have S13 := s2.trans s3
  have nKD1 : H1 KD = none := s2.free nKD
  have hfp3 := s3.tup hfp
  have eK3 : (upd H2 KD (.lst [])) KD = some (.lst []) := upd_same
  generalize upd H2 KD (.lst []) = H3 at s3 S3 S13 hfp3 eK3 ⊢
  refine ⟨_, rfl, _, "tuple", false, rfl, .tup hfp3, by decide +kernel, _, rfl, iteF ?_⟩
  refine ⟨_, rfl, D, _, rfl, .inl (sqL_of (S13 _ _ eD)), 1, _, rfl, ⟨by decide, by decide, by omega, by omega⟩, ?_⟩
  rw [show (((vs.length : Nat) : Int) - 1).toNat = rs0.length by rw [hvl, eRw0, List.length_cons]; omega]
  refine for_it walk_range (fun i σ H' => ∃ (us : List V) (tl : List (Nd × Nat)) (y4 y5 y6 y7 y8 : Option V), σ = [some (.str tx), some (.ref D), some (.ref fp), some (.ref KD), y4, y5, y6, y7, y8] ∧ Same H1 H' ∧ H' KD = some (.lst us) ∧ All2 (KnAt K H') us tl ∧ tl.length = i ∧ ToldOk xs tl ∧ rdT xs (1 + i) tl (rs0.drop i) = rdT xs 1 [] rs0 ∧ SqT K H' fp (xs.map V.str))
    ⟨[], [], none, none, none, none, none, rfl, S13, eK3, .nil, rfl, .nil, rfl, hfp3⟩ (fun _ _ _ _ _ => trivial) ?_ ?_
  · rintro i y σ H5 H4 hi ⟨us, tl, y4, y5, y6, y7, y8, rfl, s4, eK, hus, htl, hto, hrt, hfp4⟩ ⟨rfl, hy⟩
    have hi : i < rs0.length := hi
    have hy : y = .int (1 + (i : Nat)) := hy
    obtain rfl : y = .int ((1 + i : Nat) : Int) := hy.trans (congrArg V.int (by omega))
    obtain ⟨ws, hws⟩ : ∃ ws, rs0[i]? = some ws := ⟨_, List.getElem?_eq_getElem hi⟩
    have hwR : Rw[1 + i]? = some ws := by rw [eRw0, Nat.add_comm, List.getElem?_cons_succ]; exact hws
    have hwm : ws ∈ Rw := List.mem_of_getElem? hwR
    obtain ⟨v, hv⟩ : ∃ v, vs[1 + i]? = some v := ⟨_, List.getElem?_eq_getElem (by rw [hvl, eRw0, List.length_cons]; omega)⟩
    obtain ⟨ws', hws', l, rfl, _, hl⟩ := hW.get hv
    obtain rfl : ws = ws' := by rw [hwR] at hws'; exact Option.some.inj hws'
    have hdrop : rs0.drop i = ws :: rs0.drop (i + 1) := by
      obtain ⟨hl1, hl2⟩ := List.getElem?_eq_some_iff.mp hws
      rw [List.drop_eq_getElem_cons hl1, hl2]
    rw [hdrop] at hrt
    have hrt : (if ws[0]? = some (Str.ofString "else") then .inr (tl, ws :: rs0.drop (i + 1)) else match rdR xs tl ws with
      | .inl e => .inl (1 + i, e)
      | .inr q => rdT xs (1 + i + 1) (tl ++ [q]) (rs0.drop (i + 1))) = rdT xs 1 [] rs0 := hrt
    obtain ⟨x0, hx0'⟩ : ∃ x0, ws[0]? = some x0 := ⟨_, List.getElem?_eq_getElem (List.length_pos_iff.mpr (hrn ws hwm).1)⟩
    have hul := hus.len
    have hlen := hto.len
    have hl4 := s4 _ _ hl
    have eD4 := s4 _ _ eD
    have hwl : (ws.map V.str).length = ws.length := List.length_map ..
    have gx0 : (ws.map V.str)[0]? = some (.str x0) := by rw [List.getElem?_map, hx0']; rfl
    refine ⟨_, rfl, _, rfl, D, _, _, _, rfl, rfl, sqL_of eD4, atI_nat hv, ?_⟩
    refine ⟨_, rfl, l, _, 0, _, rfl, rfl, sqL_of hl4, atI_nat (j := 0) gx0, rfl, _, rfl, ?_⟩
    have ret : ∀ (a b : Nat), rdB Rw = .inl (a, b) → ∀ H' t, Same H1 H' → SqT K H' t [.int (a : Nat), .int (b : Nat)] → Q (.ref t) H' := fun a b e H' t s' ht => by
      refine q H' (.ref t) (s1.trans s') ?_
      rw [e]
      exact ⟨t, rfl, ht⟩
    by_cases he : x0 = Str.ofString "else"
    · rw [if_pos (by rw [hx0', he])] at hrt
      rw [show decide (V.str x0 = V.str (Str.ofString "else")) = true from decide_eq_true (by rw [he])]
      have hrB : rdB Rw = if freeO ws[1]? = false then .inl (1 + tl.length, 1) else if 2 < ws.length then .inl (1 + tl.length, 2) else if rs0.drop (i + 1) ≠ [] then .inl (2 + tl.length, 0) else .inr (xs, tl, (ws[1]?).getD "") := by rw [hrd, ← hrt]
      rw [htl] at hrB
      refine iteT ⟨_, rfl, l, _, rfl, .inl (sqL_of hl4), _, _, rfl, rfl, _, rfl, ?_⟩
      cases hx1 : ws[1]? with
      | none =>
        have hge : ws.length ≤ 1 := by rw [List.getElem?_eq_none_iff] at hx1; exact hx1
        rw [decide_eq_true (by rw [hwl]; omega)]
        exact iteT ⟨_, rfl, (by show 2 ≤ sizeLine; decide), fun t nt => ret (1 + i) 1 (by rw [hrB, hx1]; rfl) _ t (s4.put' nt) sqT_new⟩
      | some x1 =>
        have hlt := (List.getElem?_eq_some_iff.mp hx1).1
        have gx1 : (ws.map V.str)[1]? = some (.str x1) := by rw [List.getElem?_map, hx1]; rfl
        rw [hx1] at hrB
        rw [decide_eq_false (by rw [hwl]; omega)]
        refine iteF ⟨_, rfl, l, _, 1, _, rfl, rfl, sqL_of hl4, atI_nat (j := 1) gx1, x1, rfl, hwd ws hwm x1 (List.mem_of_getElem? hx1), fun H5 s5 => ⟨_, rfl, ?_⟩⟩
        have s45 := s4.trans s5
        cases hf : freeO (some x1) with
        | false =>
          exact iteT ⟨_, rfl, (by show 2 ≤ sizeLine; decide), fun t nt => ret (1 + i) 1 (by rw [hrB, if_pos hf]) _ t (s45.put' nt) sqT_new⟩
        | true =>
          rw [if_neg (by rw [hf]; decide)] at hrB
          have hl5 := s5 _ _ hl4
          have eD5 := s5 _ _ eD4
          have eK5 := s5 _ _ eK
          refine iteF ⟨_, rfl, l, _, rfl, .inl (sqL_of hl5), _, _, rfl, rfl, _, rfl, ?_⟩
          rw [hwl]
          by_cases h2 : 2 < ws.length
          · rw [if_pos h2] at hrB
            rw [decide_eq_true (by omega)]
            exact iteT ⟨_, rfl, (by show 2 ≤ sizeLine; decide), fun t nt => ret (1 + i) 2 hrB _ t (s45.put' nt) sqT_new⟩
          · rw [if_neg h2] at hrB
            rw [decide_eq_false (by omega)]
            refine iteF ⟨_, rfl, _, 1, rfl, rfl, _, rfl, D, _, rfl, .inl (sqL_of eD5), rfl, _, rfl, ?_⟩
            by_cases hr3 : rs0.drop (i + 1) = []
            · rw [if_neg (fun z => z hr3)] at hrB
              have hr3l : rs0.length ≤ i + 1 := List.drop_eq_nil_iff.mp hr3
              obtain ⟨fr, hf1, hf2, hf3⟩ := RF.of_told hto.st
              have hd6 : fr.dep ≤ 6 := hf2 6 hto.dep
              rw [show decide (V.int (((1 + i : Nat) : Int) + 1) = V.int ((vs.length : Nat) : Int)) = true from decide_eq_true (by rw [hvl, eRw0, List.length_cons]; exact congrArg V.int (by omega))]
              refine iteT ⟨_, rfl, _, rfl, KD, 0, us, fr, rfl, eK5, all2_flatK (hus.mono fun _ _ x => x.keeps (N := NoL) s5.keeps) hf1, by omega, by decide, hd6, fun H6 t6 ws6 s6 ht6 hR6 => ?_⟩
              refine ⟨_, rfl, l, _, 1, _, rfl, rfl, sqL_of (s6 _ _ hl5), atI_nat (j := 1) gx1, (by show 3 ≤ sizeLine; decide), fun t nt => ?_⟩
              have s7 := (Same.refl H6).put (o := .tup [.ref fp, .ref t6, .str x1]) nt
              refine q _ _ (((s1.trans s45).trans s6).trans s7) ?_
              rw [hrB]
              exact ⟨t, fr, rfl, ⟨fp, t6, ws6, sqT_new, ((s5.trans s6).trans s7).tup hfp4, s7.tup ht6, hR6.keeps (N := NoL) s7.keeps⟩, hf1⟩
            · rw [if_pos hr3] at hrB
              have hr3l : i + 1 < rs0.length := by
                rcases Nat.lt_or_ge (i + 1) rs0.length with z | z
                · exact z
                · exact absurd (List.drop_eq_nil_iff.mpr z) hr3
              rw [show decide (V.int (((1 + i : Nat) : Int) + 1) = V.int ((vs.length : Nat) : Int)) = false from decide_eq_false fun z => by have := V.int.inj z; rw [hvl, eRw0, List.length_cons] at this; omega]
              refine iteF ⟨_, rfl, _, 1, rfl, rfl, (by show 2 ≤ sizeLine; decide), fun t nt => ret (2 + i) 0 hrB _ t (s45.put' nt) ?_⟩
              rw [show ((2 + i : Nat) : Int) = ((1 + i : Nat) : Int) + 1 by omega]
              exact sqT_new
    · rw [if_neg (by rw [hx0']; exact fun z => he (Option.some.inj z))] at hrt
      rw [show decide (V.str x0 = V.str (Str.ofString "else")) = false from decide_eq_false fun z => he (V.str.inj z)]
      refine iteF ⟨_, rfl, KD, rfl, ⟨_, sqL_of eK⟩, fun DC nDC => lc_it walk_list (fun j H' => ∃ zs : List V, Same H4 H' ∧ H' DC = some (.lst zs) ∧ zs.length = ((tl.take j).filter fun q => decide (q.2 = 0)).length) ⟨[], (Same.refl H4).put nDC, upd_same, rfl⟩ (fun _ _ _ ⟨_, h, _⟩ => sqL_of (h _ _ eK)) ?_ ?_⟩
      · rintro j y H6 H5 hj ⟨zs, s5, e5, hzl⟩ ⟨rfl, hy⟩
        obtain ⟨q0, hq0, t, _, _, rfl, ht, _⟩ := hus.get hy
        have hj : j < us.length := hj
        refine ⟨rfl, _, rfl, t, _, 0, _, rfl, rfl, s5.tup ht, atI_nat (j := 0) rfl, rfl, _, rfl, ?_⟩
        by_cases h0 : q0.2 = 0
        · rw [show decide (V.int (q0.2 : Nat) = V.int 0) = true from decide_eq_true (by rw [h0]; rfl)]
          refine iteT ⟨_, rfl, zs, e5, small1000 (by rw [hzl]; exact Nat.le_trans (List.length_filter_le _ _) (by rw [List.length_take]; omega)), _, s5.put nDC, upd_same, ?_⟩
          rw [take_more hq0, List.filter_append, List.length_append, List.length_append, hzl, show List.filter (fun q => decide (q.2 = 0)) [q0] = [q0] by rw [List.filter_cons_of_pos (by simpa using h0), List.filter_nil]]
          rfl
        · rw [show decide (V.int (q0.2 : Nat) = V.int 0) = false from decide_eq_false fun z => h0 (by have := V.int.inj z; omega)]
          refine iteF ⟨zs, s5, e5, ?_⟩
          rw [take_more hq0, List.filter_append, List.length_append, hzl, show List.filter (fun q => decide (q.2 = 0)) [q0] = [] by rw [List.filter_cons_of_neg (by simpa using h0), List.filter_nil]]
          rfl
      rintro H5 ⟨zs, s5, e5, hzl⟩
      rw [hul, List.take_length] at hzl
      have hzl : zs.length = outerN tl := hzl
      have s45 := s4.trans s5
      have eK5 := s5 _ _ eK
      have hl5 := s5 _ _ hl4
      have hus5 := hus.mono fun _ _ x => x.keeps (N := NoL) s5.keeps
      have hfp5 := s5.tup hfp4
      have ho40 := hto.out
      refine ⟨DC, _, rfl, .inl (sqL_of e5), ?_⟩
      refine ⟨KD, l, us, zs.length, 1 + i, ws, x0, rfl, rfl, rfl, rfl, eK5, hl5, hx0', fun hst H6 t s6 ht => ?_, fun hns => ?_⟩
      · refine ret (1 + i) 0 ?_ H6 t (s45.trans s6) ht
        have e0 : rdR xs tl ws = .inl 0 := by
          unfold rdR
          by_cases h60 : 60 ≤ tl.length
          · rw [if_pos h60]
          · rcases hst with h | ⟨h, h'⟩
            · omega
            · have hn := (nS_zero hx0').mpr h'
              rw [if_neg h60, if_neg (by omega), if_pos ⟨hn, by omega⟩]
        rw [hrd, ← hrt, e0]
      have h60 : tl.length < 60 := by
        have : us.length ≠ 60 := fun z => hns (.inl z)
        omega
      have hn40 : ¬ (nS ws = 0 ∧ 40 ≤ outerN tl) := fun ⟨a, b⟩ => hns (.inr ⟨by omega, (nS_zero hx0').mp a⟩)
      refine ⟨_, rfl, _, rfl, _, rfl, KD, rfl, ⟨_, sqL_of eK5⟩, fun DN nDN => lc_it walk_list (fun j H' => Same H5 H' ∧ H' DN = some (.lst (((tl.take j).map fun q => q.1.nm).map V.str))) ⟨(Same.refl H5).put nDN, upd_same⟩ (fun _ _ _ h => sqL_of (h.1 _ _ eK5)) ?_ ?_⟩
      · rintro j y H7 H6 hj ⟨s6, e6⟩ ⟨rfl, hy⟩
        obtain ⟨q0, hq0, t, _, _, rfl, ht, _⟩ := hus5.get hy
        have hj : j < us.length := hj
        refine ⟨rfl, yes_ ⟨_, rfl, t, _, 1, _, rfl, rfl, s6.tup ht, atI_nat (j := 1) rfl, grow (acc := fun j => ((tl.take j).map fun q => q.1.nm).map V.str) nDN s6 e6 ?_ ?_⟩⟩
        · rw [List.length_map, List.length_map, List.length_take]
          exact small1000 (by omega)
        · show List.map V.str (List.map _ _) = _
          rw [take_more hq0, List.map_append, List.map_append]
          rfl
      rintro H6 ⟨s6, e6⟩
      rw [hul, List.take_length] at e6
      refine ⟨KD, us, tl, rfl, s6 _ _ eK5, hus5.mono fun _ _ x => x.keeps (N := NoL) s6.keeps, fun H7 s7 => ?_⟩
      have s67 := s6.trans s7
      have s47 := s45.trans s67
      refine ⟨l, fp, DN, ws, xs, tl, rfl, s67 _ _ hl5, s67.tup hfp5, s7 _ _ e6, (hrn ws hwm).2, hwd ws hwm, h60, hn40, fun e hrr H8 s8 => ?_, fun q2 hrr H8 t s8 ht => ?_⟩
      · refine ⟨_, rfl, _, "int", true, rfl, .int _, by decide +kernel, _, rfl, iteT ⟨_, rfl, _, rfl, (by show 2 ≤ sizeLine; decide), fun t nt => ?_⟩⟩
        exact ret (1 + i) e (by rw [hrd, ← hrt, hrr]) _ t ((s47.trans s8).put' nt) sqT_new
      · obtain ⟨t', a, b, et, ht', hab⟩ := id ht
        obtain rfl : t = t' := V.ref.inj et
        refine ⟨_, rfl, _, "tuple", false, rfl, .tup ht', by decide +kernel, _, rfl, iteF ?_⟩
        have s58 := s67.trans s8
        have eK8 := s58 _ _ eK5
        refine ⟨_, rfl, .inl ⟨rfl, _, sqL_of eK8⟩, _, rfl, KD, _, _, rfl, rfl, eK8, small1000 (by omega), ?_⟩
        have kw : Keeps NoL H8 (upd H8 KD (.lst (us ++ [.ref t]))) := keeps_own eK8 (fun z => z)
        rw [hrr] at hrt
        refine ⟨us ++ [.ref t], tl ++ [q2], _, _, _, _, _, rfl, (s47.trans s8).put nKD1, upd_same, ((hus5.mono fun _ _ x => x.keeps (N := NoL) s58.keeps).snoc ht).mono fun _ _ x => x.keeps kw, by rw [List.length_append, htl]; rfl, hto.snoc (rdR_ok hxr.nm hrr), hrt, kw.tup (s58.tup hfp5)⟩
  · rintro σ H4 ⟨us, tl, y4, y5, y6, y7, y8, rfl, s4, eK, hus, htl, hto, hrt, hfp4⟩
    have hrt : rdT xs (1 + rs0.length) tl (rs0.drop rs0.length) = rdT xs 1 [] rs0 := hrt
    rw [List.drop_length] at hrt
    have hrt : Sum.inl (1 + rs0.length, 0) = rdT xs 1 [] rs0 := hrt
    rw [← hrt] at hrd
    refine ⟨_, rfl, D, _, rfl, .inl (sqL_of (s4 _ _ eD)), (by show 2 ≤ sizeLine; decide), fun t nt => ?_⟩
    refine q _ _ ((s1.trans s4).put' nt) ?_
    rw [hrd]
    refine ⟨t, rfl, ?_⟩
    rw [show ((1 + rs0.length : Nat) : Int) = ((vs.length : Nat) : Int) by rw [hvl, eRw0, List.length_cons]; omega]
    exact sqT_new
end
end Sc
namespace Sc
open PySem PySem.Spec PyProof.Rows L2
theorem sc__law_parsed : FnScope ["_law_text_here", "e"] ["_law_text_here"] (defScope s__law_parsed) := ⟨rfl, rfl, rfl, by decide +kernel, rfl, by decide +kernel, by decide +kernel⟩
theorem split_uniq {α : Type} {p : α → Bool} : ∀ {A A' B B' : List α}, (∀ x ∈ A, p x = true) → (∀ x ∈ A', p x = true) → (∀ x t, B = x :: t → p x = false) → (∀ x t, B' = x :: t → p x = false) → A ++ B = A' ++ B' → A = A' ∧ B = B'
  | [], [], _, _, _, _, _, _, h => ⟨rfl, h⟩
  | [], x :: A', B, B', _, h2, h3, _, h => by
    have := h3 x (A' ++ B') h
    rw [h2 x List.mem_cons_self] at this
    cases this
  | x :: A, [], B, B', h1, _, _, h4, h => by
    have := h4 x (A ++ B) h.symm
    rw [h1 x List.mem_cons_self] at this
    cases this
  | x :: A, y :: A', B, B', h1, h2, h3, h4, h => by
    injection h with e1 e2
    obtain ⟨a, b⟩ := split_uniq (fun x hx => h1 x (List.mem_cons_of_mem _ hx)) (fun x hx => h2 x (List.mem_cons_of_mem _ hx)) h3 h4 e2
    exact ⟨by rw [e1, a], b⟩
theorem flat_low {f : RF} {k : Nat} : ∀ x ∈ (f.pre k).map flatN, k ≤ x.2.2.2.2 := fun x hx => by
  obtain ⟨q, hq, rfl⟩ := List.mem_map.mp hx
  exact pre_low f k q hq
theorem flat_head {f : RF} {k : Nat} {x : Str × List Str × List Str × Str × Nat} {t : List (Str × List Str × List Str × Str × Nat)} (h : (f.pre k).map flatN = x :: t) : x.2.2.2.2 = k := by
  cases e : f.pre k with
  | nil => rw [e] at h; cases h
  | cons q r =>
    rw [e, List.map_cons] at h
    injection h with h1 h2
    rw [← h1]
    exact pre_head e
theorem flat_inj : ∀ (f g : RF) (k : Nat), (f.pre k).map flatN = (g.pre k).map flatN → f = g
  | .nil, .nil, _, _ => rfl
  | .nil, .cons .., _, h => nomatch h
  | .cons .., .nil, _, h => nomatch h
  | .cons nm hs fs rl e r, .cons nm' hs' fs' rl' e' r', k, h => by
    have h : flatN (⟨nm, hs, fs, rl, e⟩, k) :: (e.pre (k + 1) ++ r.pre k).map flatN = flatN (⟨nm', hs', fs', rl', e'⟩, k) :: (e'.pre (k + 1) ++ r'.pre k).map flatN := h
    injection h with h1 h2
    rw [List.map_append, List.map_append] at h2
    have hp : ∀ (f : RF), ∀ x ∈ (f.pre (k + 1)).map flatN, decide (k < x.2.2.2.2) = true := fun f x hx => decide_eq_true (flat_low x hx)
    have hq : ∀ (f : RF), ∀ x t, (f.pre k).map flatN = x :: t → decide (k < x.2.2.2.2) = false := fun f x t h => decide_eq_false (by rw [flat_head h]; omega)
    obtain ⟨h3, h4⟩ := split_uniq (p := fun x : Str × List Str × List Str × Str × Nat => decide (k < x.2.2.2.2)) (hp e) (hp e') (hq r) (hq r') h2
    have i1 := flat_inj e e' (k + 1) h3
    have i2 := flat_inj r r' k h4
    unfold flatN at h1
    injection h1 with a1 h1
    injection h1 with a2 h1
    injection h1 with a3 h1
    injection h1 with a4 h1
    have a1 : nm = nm' := a1
    have a2 : hs = hs' := a2
    have a3 : fs = fs' := a3
    have a4 : rl = rl' := a4
    rw [a1, a2, a3, a4, i1, i2]
/-- what a read book keeps -/
theorem rdB_ok {rs : List (List Str)} {xs : List Str} {tl : List (Nd × Nat)} {rl : Str} (hn : ∀ ws ∈ rs, ws ≠ []) (h : rdB rs = .inr (xs, tl, rl)) : Right xs ∧ xs.length ≤ 60 ∧ ToldOk xs tl := by
  cases rs with
  | nil => cases h
  | cons w0 r =>
    unfold rdB at h
    dsimp only at h
    cases hk : rdF w0 with
    | some e => rw [hk] at h; cases h
    | none =>
      rw [hk] at h
      dsimp only at h
      obtain ⟨h1, h2, h3, _⟩ := rdF_ok hk (hn w0 List.mem_cons_self)
      cases ht : rdT (w0.drop 1) 1 [] r with
      | inl e => rw [ht] at h; cases h
      | inr p =>
        obtain ⟨tl', r2⟩ := p
        rw [ht] at h
        dsimp only at h
        have hto := rdT_ok h1.nm ht .nil
        cases r2 with
        | nil => cases h
        | cons ws r3 =>
          dsimp only at h
          split at h
          · cases h
          split at h
          · cases h
          split at h
          · cases h
          injection h with h
          injection h with e1 h
          injection h with e2 e3
          subst e1 e2
          exact ⟨h1, h3, hto⟩
theorem rowsT_ne {tx : Str} : ∀ ws ∈ rowsT tx, ws ≠ [] := fun ws h => by
  obtain ⟨x, _, rfl⟩ := List.mem_map.mp h
  exact split_ne _ _
theorem flat_fit {f : RF} {xs : List Str} {tl : List (Nd × Nat)} (h : (f.pre 0).map flatN = tl.map flatN) (hto : ToldOk xs tl) : f.dep ≤ 6 ∧ f.size ≤ 60 ∧ f.every NdOk := by
  obtain ⟨fr, hf1, hf2, hf3⟩ := RF.of_told hto.st
  have e : f = fr := flat_inj f fr 0 (h.trans hf1.symm)
  have hl := hto.len
  rw [e]
  exact ⟨hf2 6 hto.dep, by omega, told_every hf1 hto.ok⟩
section
variable {P : Program} {w : World} {K : PySem.W.Frag} {mg : Str → Option Value} {base : Heap} {C R B0 CE CT : Addr}
def sp_parsed (K : PySem.W.Frag) : Sp := fun vs H Q _ => ∃ tx : Str, vs = [.str tx] ∧ TxFit2 tx ∧ ∀ H' v, Same H H' → ResAt K H' v (rdB (rowsT tx)) → Q v H'
theorem ok_parsed {f : Addr} {fd : FuncData} (F : Fun K "_law_parsed" "_law_parsed" s__law_parsed f fd) (B : Blt mg) (mC : mg "CourtError" = some (.ref CE)) (mT : mg "InvalidText" = some (.ref CT)) (eT : ErrC K CT) (xT : PySem.W.exmOne K (.ref CT) (.ref CE) = some true) (kT : PySem.W.kitOne K (.ref CT) (.ref CT) = some true) (nR : PySem.W.findIn K (.ref CT) "row" = some none) (nW : PySem.W.findIn K (.ref CT) "word" = some none)
    (c_parse_book : Cal P w K mg base (L2.CX P w) 19 "parse_book" ["text"] (sp_parse K C R B0 CT)) (c__law_seen : Cal P w K mg base CX0 17 "_law_seen" ["_law_book"] (sp_seen K C R B0)) : FnOk P w K mg base CX0 20 f fd ["_law_text_here"] (sp_parsed K) := by
  refine F.ok sc__law_parsed (fun vs H Q E h => by obtain ⟨tx, rfl, _⟩ := h; rfl) (fun cdv A outer s H vs Q E hr h => ?_)
  obtain ⟨tx, rfl, hT, q⟩ := h
  refine ⟨_, pss_one (ps_try_as (X := (cxOf CX0 P w K mg base ["_law_text_here", "e"] "_law_parsed" (defScope s__law_parsed) _ cdv A outer s H E).nox) (i := 1) (c := .ref CE) rfl rfl sc__law_parsed.nd rfl rfl ⟨rfl, by decide, .inl mC⟩ L2.takes0
      (fun W pn xe tk _ => pss_one (ps_ret (pe_cal c__law_seen (hr.mono (by decide)) (pa_cons (pe_calX c_parse_book (hr.mono (by decide)) tk (pa_cons (pv 0) pa_nil)) pa_nil))))
      (fun a oe cls d pn hz hf => (pss_one (ps_ret (pe_ifExp (pt_val (pe_callB (call_isG hz hf) (by rfl) B.b_isinstance PyProof.Rows.boot_isinstance (pa_cons (pv 1) (pa_cons (pe_glob (v := .ref CT) rfl mT rfl) pa_nil)))) (pe_tup (pa_cons (pe_xg hz hf (pv 1)) (pa_cons (pe_xg hz hf (pv 1)) pa_nil))) pe_str))))), ?_⟩
  refine ⟨_, rfl, (fun _ => True), tx, rfl, hT.fit, (fun _ _ => trivial), fun r k hrk H' d sH nd => ?_, fun xs tl rl hrk f hf H' b s' hB => ?_⟩
  · refine ⟨true, xT, fun _ ea _ => ?_, fun z => nomatch z⟩
    have xd : XdOk (some d) (upd H' d (.xd [(("word" : Str), .int (k : Nat)), (("row" : Str), .int (r : Nat))])) := fun dd e => by cases e; exact ⟨_, upd_same⟩
    refine ⟨_, rfl, CT, _, _, _, rfl, eT, xd, rfl, (fun u r => r), kT, _, rfl, iteT ?_⟩
    refine ⟨_, rfl, rfl, CT, _, _, _, rfl, eT, nR, rfl, upd_same, rfl, _, rfl, rfl, CT, _, _, _, rfl, eT, nW, rfl, upd_same, rfl, (by show 2 ≤ sizeLine; decide), fun t nt => ?_⟩
    refine q _ _ ((sH.put' nd).put' nt) ?_
    rw [hrk]
    exact ⟨t, rfl, sqT_new⟩
  · obtain ⟨hx, hx60, hto⟩ := rdB_ok rowsT_ne hrk
    obtain ⟨hd, hz, hev⟩ := flat_fit hf hto
    refine ⟨(fun _ => True), b, xs, f, rl, rfl, hB, by omega, by omega, fun H2 p s2 hs => ?_⟩
    refine q H2 (.ref p) (s'.trans s2) ?_
    rw [hrk]
    exact ⟨p, f, rfl, hs, hf⟩
end
end Sc
namespace Sc
open PySem PySem.Spec PyProof.Rows L2
theorem sc__law_words : FnScope ["_law_rules", "_law_deep", "_law_found", "_law_name", "_law_holding", "_law_failing", "_law_ruling", "_law_inner", "_law_words_here"] ["_law_rules", "_law_deep"] (defScope s__law_words) := ⟨rfl, rfl, rfl, by decide +kernel, rfl, by decide +kernel, by decide +kernel⟩
theorem sc__law_rows_of : FnScope ["_law_drawn_here"] ["_law_drawn_here"] (defScope s__law_rows_of) := ⟨rfl, rfl, rfl, by decide +kernel, rfl, by decide +kernel, by decide +kernel⟩
theorem rep_one {α : Type} (x : α) : ∀ k : Nat, (List.replicate k [x]).flatten = List.replicate k x
  | 0 => rfl
  | k + 1 => by
    rw [List.replicate_succ, List.flatten_cons, rep_one x k]
    rfl
/-- a part of a condition as a list -/
def tPartV (K : PySem.W.Frag) (i : Nat) (wd : Str) : TE := fun σ H Q => ∃ (a : Addr) (xs : List Str), σ[i]? = some (some (.ref a)) ∧ SqT K H a (xs.map V.str) ∧ Fines xs ∧ xs.length ≤ 100 ∧ ∀ H' l, Same H H' → H l = none → H' l = some (.lst ((partW wd xs).map V.str)) → Q (.ref l) H'
section
variable {P : Program} {w : World} {K : PySem.W.Frag} {mg : Str → Option Value} {base : Heap}
def sp_words (K : PySem.W.Frag) (d : Nat) : Sp := fun vs H Q _ => ∃ (p : Addr) (deep : Nat) (ws : List V) (f : RF), vs = [.ref p, .int (deep : Nat)] ∧ SqT K H p ws ∧ RowsAt K H f ws ∧ f.every NdOk ∧ deep + d ≤ 50 ∧ f.dep ≤ d ∧ d ≤ 20 ∧ f.size ≤ 900 ∧ ∀ H' D us, Same H H' → H' D = some (.lst us) → All2 (LstAt AllL H') us ((f.pre deep).map fun q => wordsN q.1 q.2) → Q (.ref D) H'
theorem ok_words {d : Nat} {f : Addr} {fd : FuncData} (F : Fun K "_law_words" "_law_words" s__law_words f fd) (B : Blt mg) (c__law_words : Cal P w K mg base CX0 (d + 1) "_law_words" ["_law_rules", "_law_deep"] (Below (sp_words K) d)) :
    FnOk P w K mg base CX0 (d + 2) f fd ["_law_rules", "_law_deep"] (sp_words K d) := by
  refine F.ok sc__law_words (fun vs H Q E h => by obtain ⟨p, deep, ws, f, rfl, _⟩ := h; rfl) (fun cdv A outer s H vs Q E hr h => ?_)
  obtain ⟨p, deep, ws, f, rfl, hP, hX, hev, hdp, hd, hd20, hz, q⟩ := h
  have hA := hX.all
  have hln := hA.len
  have hlz := RF.nodes_le f
  refine ⟨_, (pss_cons (ps_set (i := 2) sc__law_words.nd rfl (Or.inl rfl) (pe_lst pa_nil))
      (pss_cons (ps_for PassesOwn.never rfl (pi_tup (pv 0)) (pg_tup (by rfl) (pgs_cons (pg_name (i := 3) sc__law_words.nd rfl (Or.inl rfl)) (pgs_cons (pg_name (i := 4) sc__law_words.nd rfl (Or.inl rfl)) (pgs_cons (pg_name (i := 5) sc__law_words.nd rfl (Or.inl rfl)) (pgs_cons (pg_name (i := 6) sc__law_words.nd rfl (Or.inl rfl)) (pgs_cons (pg_name (i := 7) sc__law_words.nd rfl (Or.inl rfl)) pgs_nil)))))) (pss_cons (ps_set (i := 8) sc__law_words.nd rfl (Or.inl rfl) (pe_op op_cat (pe_op op_rep (pe_lst (pa_cons pe_str pa_nil)) (pv 1)) (pe_lst (pa_cons (pv 3) (pa_cons pe_str (pa_cons (pv 6) pa_nil))))))
      (pss_cons (ps_set (i := 8) sc__law_words.nd rfl (Or.inl rfl) (pe_op op_cat (pv 8) (pe_wk (tPartV K 4 "if") (pe_ifExp (pt_cmpR (op_neD hr.units) (pv 4) (pe_tup pa_nil) (nomark _)) (pe_op op_cat (pe_lst (pa_cons pe_str pa_nil)) (pe_callTy call_list_of (by rfl) B.b_list PyProof.Rows.boot_list (pa_cons (pv 4) pa_nil))) (pe_lst pa_nil)) ?wi)))
      (pss_cons (ps_expr (pe_bm PySem.F.plainAttrs_list PySem.F.slot_list_append PySem.F.type_list_append mt_append (pv 2) (pa_cons (pe_op op_cat (pv 8) (pe_wk (tPartV K 5 "not") (pe_ifExp (pt_cmpR (op_neD hr.units) (pv 5) (pe_tup pa_nil) (nomark _)) (pe_op op_cat (pe_lst (pa_cons pe_str pa_nil)) (pe_callTy call_list_of (by rfl) B.b_list PyProof.Rows.boot_list (pa_cons (pv 5) pa_nil))) (pe_lst pa_nil)) ?wn)) pa_nil)))
      (pss_one (ps_set (i := 2) sc__law_words.nd rfl (Or.inl rfl) (pe_op op_cat (pv 2) (pe_cal c__law_words hr (pa_cons (pv 7) (pa_cons (pe_op op_add (pv 1) pe_int) pa_nil))))))))))
      (pss_one (ps_ret (pv 2))))), ?_⟩
  case wi =>
    rintro σ H1 Q1 ⟨a, xs, g4, hS, hf, hl, q⟩
    refine ⟨_, g4, Nat.zero_le _, fun te nte => ?_⟩
    have s0 : Same H1 (upd H1 te (.tup [])) := (Same.refl H1).put nte
    have m0 : (upd H1 te (.tup [])) te = some (.tup []) := upd_same
    have n0 := s0
    generalize upd H1 te (.tup []) = H2 at s0 m0 ⊢
    refine ⟨.tuple (xs.map PyData.str), .tuple [], .tup (s0.tup hS) (dps K _ _), .tup (sqT_of m0) .nil, shT hf, rfl, _, rfl, ?_⟩
    have ed : (PyData.tuple (xs.map PyData.str)).eqv (.tuple []) = decide (xs = []) := eqvA_nil _
    rw [ed]
    refine bcase (fun c1 => ?_) (fun c1 => ?_)
    · have c1 : xs ≠ [] := of_decide_eq_false ((Bool.not_eq_true' _).mp c1)
      refine ⟨(by show 1 ≤ sizeLine; decide), fun l1 n1 => ?_⟩
      have s1 : Same H2 (upd H2 l1 (.lst [.str "if"])) := (Same.refl H2).put n1
      have m1 : (upd H2 l1 (.lst [.str "if"])) l1 = some (.lst [.str "if"]) := upd_same
      generalize upd H2 l1 (.lst [.str "if"]) = H3 at s1 m1 ⊢
      refine ⟨_, g4, a, _, rfl, .inr (s1.tup (s0.tup hS)), fun l2 n2 => ?_⟩
      have s2 : Same H3 (upd H3 l2 (.lst (xs.map V.str))) := (Same.refl H3).put n2
      have m2 : (upd H3 l2 (.lst (xs.map V.str))) l2 = some (.lst (xs.map V.str)) := upd_same
      generalize upd H3 l2 (.lst (xs.map V.str)) = H4 at s2 m2 ⊢
      refine ⟨l1, l2, _, _, rfl, rfl, s2 _ _ m1, m2, by rw [List.length_map, sizeLine_eq]; show 1 + _ ≤ _; omega, fun l3 n3 => ?_⟩
      have s3 : Same H4 (upd H4 l3 (.lst ([V.str "if"] ++ xs.map V.str))) := (Same.refl H4).put n3
      refine q _ l3 (((s0.trans s1).trans s2).trans s3) (((s0.trans s1).trans s2).free n3) ?_
      rw [upd_same, show partW "if" xs = Str.ofString "if" :: xs by unfold partW; rw [if_neg c1]]
      rfl
    · have c1 : xs = [] := of_decide_eq_true ((Bool.not_eq_false' _).mp c1)
      refine ⟨Nat.zero_le _, fun l1 n1 => q _ l1 (s0.put' n1) (s0.free n1) ?_⟩
      rw [upd_same, show partW "if" xs = [] by unfold partW; rw [if_pos c1]]
      rfl
  case wn =>
    rintro σ H1 Q1 ⟨a, xs, g4, hS, hf, hl, q⟩
    refine ⟨_, g4, Nat.zero_le _, fun te nte => ?_⟩
    have s0 : Same H1 (upd H1 te (.tup [])) := (Same.refl H1).put nte
    have m0 : (upd H1 te (.tup [])) te = some (.tup []) := upd_same
    have n0 := s0
    generalize upd H1 te (.tup []) = H2 at s0 m0 ⊢
    refine ⟨.tuple (xs.map PyData.str), .tuple [], .tup (s0.tup hS) (dps K _ _), .tup (sqT_of m0) .nil, shT hf, rfl, _, rfl, ?_⟩
    have ed : (PyData.tuple (xs.map PyData.str)).eqv (.tuple []) = decide (xs = []) := eqvA_nil _
    rw [ed]
    refine bcase (fun c1 => ?_) (fun c1 => ?_)
    · have c1 : xs ≠ [] := of_decide_eq_false ((Bool.not_eq_true' _).mp c1)
      refine ⟨(by show 1 ≤ sizeLine; decide), fun l1 n1 => ?_⟩
      have s1 : Same H2 (upd H2 l1 (.lst [.str "not"])) := (Same.refl H2).put n1
      have m1 : (upd H2 l1 (.lst [.str "not"])) l1 = some (.lst [.str "not"]) := upd_same
      generalize upd H2 l1 (.lst [.str "not"]) = H3 at s1 m1 ⊢
      refine ⟨_, g4, a, _, rfl, .inr (s1.tup (s0.tup hS)), fun l2 n2 => ?_⟩
      have s2 : Same H3 (upd H3 l2 (.lst (xs.map V.str))) := (Same.refl H3).put n2
      have m2 : (upd H3 l2 (.lst (xs.map V.str))) l2 = some (.lst (xs.map V.str)) := upd_same
      generalize upd H3 l2 (.lst (xs.map V.str)) = H4 at s2 m2 ⊢
      refine ⟨l1, l2, _, _, rfl, rfl, s2 _ _ m1, m2, by rw [List.length_map, sizeLine_eq]; show 1 + _ ≤ _; omega, fun l3 n3 => ?_⟩
      have s3 : Same H4 (upd H4 l3 (.lst ([V.str "not"] ++ xs.map V.str))) := (Same.refl H4).put n3
      refine q _ l3 (((s0.trans s1).trans s2).trans s3) (((s0.trans s1).trans s2).free n3) ?_
      rw [upd_same, show partW "not" xs = Str.ofString "not" :: xs by unfold partW; rw [if_neg c1]]
      rfl
    · have c1 : xs = [] := of_decide_eq_true ((Bool.not_eq_false' _).mp c1)
      refine ⟨Nat.zero_le _, fun l1 n1 => q _ l1 (s0.put' n1) (s0.free n1) ?_⟩
      rw [upd_same, show partW "not" xs = [] by unfold partW; rw [if_pos c1]]
      rfl
  have pl : ∀ (wd : Str) (xs : List Str), xs.length ≤ 8 → (partW wd xs).length ≤ 9 := fun wd xs h => by
    unfold partW
    split
    · exact Nat.zero_le _
    · rw [List.length_cons]
      omega
  refine ⟨Nat.zero_le _, fun D0 nD0 => ⟨_, rfl, p, rfl, ⟨_, ((Same.refl H).put nD0).tup hP⟩, for_it walk_tup (fun i σ H' => ∃ (D : Addr) (us : List V) (y3 y4 y5 y6 y7 y8 : Option V), σ = [some (.ref p), some (.int (deep : Nat)), some (.ref D), y3, y4, y5, y6, y7, y8] ∧ Same H H' ∧ H D = none ∧ H' D = some (.lst us) ∧ All2 (LstAt (fun l => l ≠ D) H') us ((RF.preL (f.nodes.take i) deep).map fun q => wordsN q.1 q.2))
    ⟨D0, [], none, none, none, none, none, none, rfl, (Same.refl H).put nD0, nD0, upd_same, .nil⟩ (fun _ _ _ _ ⟨_, _, _, _, _, _, _, _, _, s, _⟩ => s.tup hP) ?_ ?_⟩⟩
  · rintro i y σ H3 H2 hi ⟨D, us, y3, y4, y5, y6, y7, y8, rfl, s, nD, e, hu⟩ ⟨rfl, hy⟩
    obtain ⟨n, hn, hrow⟩ := hA.get hy
    have hmem : n ∈ f.nodes := List.mem_of_getElem? hn
    have hdm := RF.dep_mem f n hmem
    have hsm := RF.size_mem f n hmem
    obtain ⟨hok, hne⟩ := RF.every_nodes.mp hev n hmem
    obtain ⟨d, rfl⟩ : ∃ d', d = d' + 1 := ⟨d - 1, by omega⟩
    have hul := hu.len
    rw [List.length_map] at hul
    have hpl := RF.preL_len (f := f) (i := i) (k := deep)
    have hlen := hok.len
    have x1 := pl "if" n.hs (by omega)
    have x2 := pl "not" n.fs (by omega)
    obtain ⟨o, wa, ba, pa, ws', rfl, hO, hW, hB, hPe, hXe⟩ := hrow.keeps (N := NoL) s.keeps
    refine ⟨o, _, rfl, hO, rfl, _, _, rfl, _, _, rfl, _, _, rfl, _, _, rfl, _, _, rfl, rfl, ?_⟩
    refine ⟨(by show 1 ≤ sizeLine; decide), fun l1 n1 => ?_⟩
    have s1 : Same H2 (upd H2 l1 (.lst [.str ">"])) := (Same.refl H2).put n1
    have m1 : (upd H2 l1 (.lst [.str ">"])) l1 = some (.lst [.str ">"]) := upd_same
    generalize upd H2 l1 (.lst [.str ">"]) = H4 at s1 m1 ⊢
    refine ⟨_, rfl, l1, _, _, rfl, rfl, m1, by omega, by omega, by rw [sizeLine_eq]; show 1 * (deep : Int).toNat ≤ _; omega, fun l2 n2 => ?_⟩
    rw [rep_one, Int.toNat_natCast]
    have s2 : Same H4 (upd H4 l2 (.lst (List.replicate deep (V.str ">")))) := (Same.refl H4).put n2
    have m2 : (upd H4 l2 (.lst (List.replicate deep (V.str ">")))) l2 = some (.lst (List.replicate deep (V.str ">"))) := upd_same
    generalize upd H4 l2 (.lst (List.replicate deep (V.str ">"))) = H5 at s2 m2 ⊢
    refine ⟨_, rfl, _, rfl, (by show 3 ≤ sizeLine; decide), fun l3 n3 => ?_⟩
    have s3 : Same H5 (upd H5 l3 (.lst [.str n.nm, .str "is", .str n.rl])) := (Same.refl H5).put n3
    have m3 : (upd H5 l3 (.lst [.str n.nm, .str "is", .str n.rl])) l3 = some (.lst [.str n.nm, .str "is", .str n.rl]) := upd_same
    generalize upd H5 l3 (.lst [.str n.nm, .str "is", .str n.rl]) = H6 at s3 m3 ⊢
    refine ⟨l2, l3, _, _, rfl, rfl, s3 _ _ m2, m3, by rw [List.length_replicate, sizeLine_eq]; show deep + 3 ≤ _; omega, fun lw nlw => ?_⟩
    have s4 : Same H6 (upd H6 lw (.lst (List.replicate deep (V.str ">") ++ [.str n.nm, .str "is", .str n.rl]))) := (Same.refl H6).put nlw
    have m4 : (upd H6 lw (.lst (List.replicate deep (V.str ">") ++ [.str n.nm, .str "is", .str n.rl]))) lw = some (.lst (((List.replicate deep (Str.ofString ">") : List Str) ++ [n.nm, "is", n.rl]).map V.str)) := by rw [upd_same, List.map_append, List.map_replicate]; rfl
    generalize upd H6 lw (.lst (List.replicate deep (V.str ">") ++ [.str n.nm, .str "is", .str n.rl])) = H7 at s4 m4 ⊢
    have s27 := ((s1.trans s2).trans s3).trans s4
    refine ⟨_, rfl, wa, n.hs, rfl, s27.tup hW, fw_fines hok.c1, by omega, fun H8 l8 s8 n8 e8 => ?_⟩
    refine ⟨lw, l8, _, _, rfl, rfl, s8 _ _ m4, e8, by rw [List.length_map, List.length_map, List.length_append, List.length_replicate, sizeLine_eq]; show deep + 3 + _ ≤ _; omega, fun lw2 n9 => ?_⟩
    rw [← List.map_append]
    have s9 : Same H8 (upd H8 lw2 (.lst ((((List.replicate deep (Str.ofString ">") : List Str) ++ [n.nm, "is", n.rl]) ++ partW "if" n.hs).map V.str))) := (Same.refl H8).put n9
    have m9 : (upd H8 lw2 (.lst ((((List.replicate deep (Str.ofString ">") : List Str) ++ [n.nm, "is", n.rl]) ++ partW "if" n.hs).map V.str))) lw2 = some (.lst ((((List.replicate deep (Str.ofString ">") : List Str) ++ [n.nm, "is", n.rl]) ++ partW "if" n.hs).map V.str)) := upd_same
    generalize upd H8 lw2 (.lst ((((List.replicate deep (Str.ofString ">") : List Str) ++ [n.nm, "is", n.rl]) ++ partW "if" n.hs).map V.str)) = H9 at s9 m9 ⊢
    have s29 := (s27.trans s8).trans s9
    refine ⟨_, rfl, .inl ⟨rfl, _, sqL_of (s29 _ _ e)⟩, _, rfl, ba, n.fs, rfl, s29.tup hB, fw_fines hok.c2, by omega, fun H10 l10 s10 n10 e10 => ?_⟩
    refine ⟨lw2, l10, _, _, rfl, rfl, s10 _ _ m9, e10, by rw [List.length_map, List.length_map, List.length_append, List.length_append, List.length_replicate, sizeLine_eq]; show deep + 3 + _ + _ ≤ _; omega, fun lw3 n11 => ?_⟩
    rw [← List.map_append]
    have s11 : Same H10 (upd H10 lw3 (.lst ((wordsN n deep).map V.str))) := (Same.refl H10).put n11
    have m11 : (upd H10 lw3 (.lst ((wordsN n deep).map V.str))) lw3 = some (.lst ((wordsN n deep).map V.str)) := upd_same
    have ew : (upd H10 lw3 (.lst ((((List.replicate deep (Str.ofString ">") : List Str) ++ [n.nm, "is", n.rl]) ++ partW "if" n.hs ++ partW "not" n.fs).map V.str))) = upd H10 lw3 (.lst ((wordsN n deep).map V.str)) := rfl
    rw [ew]
    generalize upd H10 lw3 (.lst ((wordsN n deep).map V.str)) = H11 at s11 m11 ⊢
    have s211 := (s29.trans s10).trans s11
    have e11 := s211 _ _ e
    have w3D : lw3 ≠ D := fun z => by rw [z, s10 _ _ (s29 _ _ e)] at n11; cases n11
    refine ⟨D, _, _, rfl, rfl, e11, small1000 (by omega), ?_⟩
    have kD : Keeps (fun l => l ≠ D) H11 (upd H11 D (.lst (us ++ [.ref lw3]))) := keeps_own e11 fun z => z rfl
    have hu11 : All2 (LstAt (fun l => l ≠ D) (upd H11 D (.lst (us ++ [.ref lw3])))) (us ++ [.ref lw3]) (((RF.preL (f.nodes.take i) deep).map fun q => wordsN q.1 q.2) ++ [wordsN n deep]) :=
      (hu.mono fun _ _ x => (x.keeps s211.keeps).keeps kD).snoc (LstAt.keeps (N := fun l => l ≠ D) ⟨lw3, rfl, w3D, m11⟩ kD)
    have s12 : Same H (upd H11 D (.lst (us ++ [.ref lw3]))) := (s.trans s211).put nD
    have e12 : (upd H11 D (.lst (us ++ [.ref lw3]))) D = some (.lst (us ++ [.ref lw3])) := upd_same
    have kN : Keeps NoL H2 (upd H11 D (.lst (us ++ [.ref lw3]))) := s211.keeps.trans (keeps_own e11 id)
    have hPe12 := kN.tup hPe
    have hXe12 := hXe.keeps kN
    generalize upd H11 D (.lst (us ++ [.ref lw3])) = H12 at hu11 s12 e12 hPe12 hXe12 ⊢
    refine ⟨_, rfl, _, rfl, _, rfl, deep, 1, rfl, rfl, pa, deep + 1, ws', n.exc, rfl, hPe12, hXe12, hne, ?_, by omega, by omega, by omega, fun H13 D13 us13 s13 e13 hu13 => ?_⟩
    · omega
    have hl13 := hu13.len
    rw [List.length_map, RF.pre_len] at hl13
    refine ⟨D, D13, _, _, rfl, rfl, s13 _ _ e12, e13, by rw [List.length_append, sizeLine_eq]; show us.length + 1 + _ ≤ _; omega, fun l14 n14 => ?_⟩
    have s14 : Same H13 (upd H13 l14 (.lst (us ++ [.ref lw3] ++ us13))) := (Same.refl H13).put n14
    refine ⟨l14, _, _, _, _, _, _, _, rfl, (s12.trans s13).trans s14, (s12.trans s13).free n14, upd_same, ?_⟩
    rw [RF.preL_more hn, List.map_append, List.map_cons]
    have h1 := (hu11.mono fun _ _ x => (LstAt.re (M := fun l => l ≠ l14) (fun b xs _ h z => by rw [z, n14] at h; cases h) (x.keeps s13.keeps)).keeps s14.keeps).app (hu13.mono fun _ _ x => (LstAt.re (M := fun l => l ≠ l14) (fun b xs _ h z => by rw [z, n14] at h; cases h) x).keeps s14.keeps)
    rw [List.append_assoc (List.map _ _)] at h1
    exact h1
  · rintro σ H2 ⟨D, us, y3, y4, y5, y6, y7, y8, rfl, s, nD, e, hu⟩
    rw [hln, RF.preL_all] at hu
    exact ⟨_, rfl, q H2 D us s e (hu.mono fun _ _ x => x.re fun _ _ _ _ => trivial)⟩
def sp_rows_of (K : PySem.W.Frag) : Sp := fun vs H Q _ => ∃ (p fp pr : Addr) (xs : List Str) (rl : Str) (ws : List V) (f : RF), vs = [.ref p] ∧ SqT K H p [.ref fp, .ref pr, .str rl] ∧ SqT K H fp (xs.map V.str) ∧ xs.length ≤ 60 ∧ SqT K H pr ws ∧ RowsAt K H f ws ∧ f.every NdOk ∧ f.dep ≤ 12 ∧ f.size ≤ 60 ∧ ∀ H' D us, Same H H' → H' D = some (.lst us) → All2 (LstAt AllL H') us (rowsB xs (f.pre 0) rl) → Q (.ref D) H'
theorem ok_rows_of {f : Addr} {fd : FuncData} (F : Fun K "_law_rows_of" "_law_rows_of" s__law_rows_of f fd) (B : Blt mg) (c__law_words : Cal P w K mg base CX0 14 "_law_words" ["_law_rules", "_law_deep"] (sp_words K 12)) :
    FnOk P w K mg base CX0 15 f fd ["_law_drawn_here"] (sp_rows_of K) := by
  refine F.ok sc__law_rows_of (fun vs H Q E h => by obtain ⟨p, fp, pr, xs, rl, ws, f, rfl, _⟩ := h; rfl) (fun cdv A outer s H vs Q E hr h => ?_)
  obtain ⟨p, fp, pr, xs, rl, ws, f, rfl, hO, hS, hxl, hP, hX, hev, hd, hz, q⟩ := h
  refine ⟨_, (pss_one (ps_ret (pe_op op_cat (pe_op op_cat (pe_lst (pa_cons (pe_op op_cat (pe_lst (pa_cons pe_str pa_nil)) (pe_callTy call_list_of (by rfl) B.b_list PyProof.Rows.boot_list (pa_cons (pe_ix ix_tup (pv 0) pe_int (fun _ _ => rfl)) pa_nil))) pa_nil)) (pe_cal c__law_words (hr.mono (by decide)) (pa_cons (pe_ix ix_tup (pv 0) pe_int (fun _ _ => rfl)) (pa_cons pe_int pa_nil)))) (pe_lst (pa_cons (pe_lst (pa_cons pe_str (pa_cons (pe_ix ix_tup (pv 0) pe_int (fun _ _ => rfl)) pa_nil))) pa_nil))))), ?_⟩
  refine ⟨(by show 1 ≤ sizeLine; decide), fun l1 n1 => ?_⟩
  have s1 : Same H (upd H l1 (.lst [.str "facts"])) := (Same.refl H).put n1
  have m1 : (upd H l1 (.lst [.str "facts"])) l1 = some (.lst [.str "facts"]) := upd_same
  generalize upd H l1 (.lst [.str "facts"]) = H1 at s1 m1 ⊢
  refine ⟨_, rfl, p, _, 0, _, rfl, rfl, s1.tup hO, atI_nat (j := 0) rfl, fp, _, rfl, .inr (s1.tup hS), fun l2 n2 => ?_⟩
  have s2 : Same H1 (upd H1 l2 (.lst (xs.map V.str))) := (Same.refl H1).put n2
  have m2 : (upd H1 l2 (.lst (xs.map V.str))) l2 = some (.lst (xs.map V.str)) := upd_same
  generalize upd H1 l2 (.lst (xs.map V.str)) = H2 at s2 m2 ⊢
  refine ⟨l1, l2, _, _, rfl, rfl, s2 _ _ m1, m2, by rw [List.length_map, sizeLine_eq]; show 1 + _ ≤ _; omega, fun l3 n3 => ?_⟩
  have s3 : Same H2 (upd H2 l3 (.lst ([V.str "facts"] ++ xs.map V.str))) := (Same.refl H2).put n3
  have m3 : (upd H2 l3 (.lst ([V.str "facts"] ++ xs.map V.str))) l3 = some (.lst ((Str.ofString "facts" :: xs).map V.str)) := upd_same
  generalize upd H2 l3 (.lst ([V.str "facts"] ++ xs.map V.str)) = H3 at s3 m3 ⊢
  refine ⟨(by show 1 ≤ sizeLine; decide), fun l4 n4 => ?_⟩
  have s4 : Same H3 (upd H3 l4 (.lst [.ref l3])) := (Same.refl H3).put n4
  have m4 : (upd H3 l4 (.lst [.ref l3])) l4 = some (.lst [.ref l3]) := upd_same
  generalize upd H3 l4 (.lst [.ref l3]) = H4 at s4 m4 ⊢
  have s04 := ((s1.trans s2).trans s3).trans s4
  refine ⟨_, rfl, p, _, 1, _, rfl, rfl, s04.tup hO, atI_nat (j := 1) rfl, pr, 0, ws, f, rfl, s04.tup hP, hX.keeps (N := NoL) s04.keeps, hev, by decide, hd, by decide, by omega, fun H5 D us s5 eD hu => ?_⟩
  have hul := hu.len
  rw [List.length_map, RF.pre_len] at hul
  refine ⟨l4, D, _, _, rfl, rfl, s5 _ _ m4, eD, by rw [sizeLine_eq]; show 1 + us.length ≤ _; omega, fun l6 n6 => ?_⟩
  have s6 : Same H5 (upd H5 l6 (.lst ([V.ref l3] ++ us))) := (Same.refl H5).put n6
  have m6 : (upd H5 l6 (.lst ([V.ref l3] ++ us))) l6 = some (.lst ([V.ref l3] ++ us)) := upd_same
  generalize upd H5 l6 (.lst ([V.ref l3] ++ us)) = H6 at s6 m6 ⊢
  have s06 := (s04.trans s5).trans s6
  refine ⟨_, rfl, p, _, 2, _, rfl, rfl, s06.tup hO, atI_nat (j := 2) rfl, (by show 2 ≤ sizeLine; decide), fun l7 n7 => ?_⟩
  have s7 : Same H6 (upd H6 l7 (.lst [.str "else", .str rl])) := (Same.refl H6).put n7
  have m7 : (upd H6 l7 (.lst [.str "else", .str rl])) l7 = some (.lst ([Str.ofString "else", rl].map V.str)) := upd_same
  generalize upd H6 l7 (.lst [.str "else", .str rl]) = H7 at s7 m7 ⊢
  refine ⟨(by show 1 ≤ sizeLine; decide), fun l8 n8 => ?_⟩
  have s8 : Same H7 (upd H7 l8 (.lst [.ref l7])) := (Same.refl H7).put n8
  have m8 : (upd H7 l8 (.lst [.ref l7])) l8 = some (.lst [.ref l7]) := upd_same
  generalize upd H7 l8 (.lst [.ref l7]) = H8 at s8 m8 ⊢
  refine ⟨l6, l8, _, _, rfl, rfl, s8 _ _ (s7 _ _ m6), m8, by rw [sizeLine_eq]; show (us.length + 1) + 1 ≤ _; omega, fun l9 n9 => ?_⟩
  have s9 : Same H8 (upd H8 l9 (.lst ([V.ref l3] ++ us ++ [.ref l7]))) := (Same.refl H8).put n9
  have s89 := s8.trans s9
  have s59 := (s6.trans s7).trans s89
  refine q _ l9 _ ((s06.trans s7).trans s89) upd_same ?_
  exact (All2.cons (⟨l3, rfl, trivial, s59 _ _ (s5 _ _ (s4 _ _ m3))⟩ : LstAt AllL _ _ _) (hu.mono fun _ _ x => x.keeps (N := AllL) s59.keeps)).snoc ⟨l7, rfl, trivial, s89 _ _ m7⟩
end
end Sc
namespace Sc
open PySem PySem.Spec PyProof.Rows L2
/-- a word of a changed text -/
def Wd9 (x : Str) : Prop := x.length ≤ 9 ∧ ¬ 10 ∈ TL.tl x
def some12 : List Str := ["", ">", "is", "if", "not", "else", "facts", "late", "ab", "Fog", "ninelette", "z"]
theorem some12_ok : ∀ x ∈ some12, x.length ≤ 9 ∧ ¬ 10 ∈ TL.tl x := by decide +kernel
theorem All2.of_get {α β : Type} {R : α → β → Prop} : ∀ {as : List α} {bs : List β}, as.length = bs.length → (∀ (i : Nat) (a : α) (b : β), as[i]? = some a → bs[i]? = some b → R a b) → All2 R as bs
  | [], [], _, _ => .nil
  | [], _ :: _, h, _ => nomatch h
  | _ :: _, [], h, _ => nomatch h
  | a :: as, b :: bs, h, g => .cons (g 0 a b rfl rfl) (All2.of_get (Nat.succ.inj h) fun i x y hx hy => g (i + 1) x y hx hy)
/-- the rows of a text in a list of lists, each a list of its own -/
structure BI (H : Hp) (a l DD sm : Addr) (rs : List (List Str)) : Prop where
  R : RS H a l
  ne : rs ≠ []
  wd : ∀ ws ∈ rs, ∀ x ∈ ws, Wd9 x
  s : H sm = some (.lst (some12.map V.str))
  sa : sm ≠ a ∧ sm ≠ l ∧ sm ≠ DD
  da : DD ≠ a ∧ DD ≠ l
  at_ : ∃ ps : List Addr, H DD = some (.lst (ps.map V.ref)) ∧ ps.Nodup ∧ (∀ p ∈ ps, p ≠ a ∧ p ≠ l ∧ p ≠ DD ∧ p ≠ sm) ∧ All2 (fun p (ws : List Str) => H p = some (.lst (ws.map V.str))) ps rs
section
variable {H H' : Hp} {a l DD sm : Addr} {rs : List (List Str)}
theorem BI.kp (h : BI H a l DD sm rs) (k : Kp a l H H') : BI H' a l DD sm rs := by
  obtain ⟨ps, h1, h2, h3, h4⟩ := h.at_
  exact ⟨k.new, h.ne, h.wd, k.keep _ _ h.sa.1 h.sa.2.1 h.s, h.sa, h.da, ps, k.keep _ _ h.da.1 h.da.2 h1, h2, h3, All2.of_get h4.len fun i p ws hp hw => by
    obtain ⟨ws', hw', e⟩ := h4.get hp
    rw [hw] at hw'
    cases hw'
    have := h3 p (List.mem_of_getElem? hp)
    exact k.keep _ _ this.1 this.2.1 e⟩
theorem BI.same (h : BI H a l DD sm rs) (s : Same H H') : BI H' a l DD sm rs := by
  obtain ⟨ps, h1, h2, h3, h4⟩ := h.at_
  exact ⟨h.R.same s, h.ne, h.wd, s _ _ h.s, h.sa, h.da, ps, s _ _ h1, h2, h3, h4.mono fun p ws e => s _ _ e⟩
theorem RS.updO {p : Addr} {o : HO} (r : RS H a l) (n1 : p ≠ a) (n2 : p ≠ l) : RS (upd H p o) a l := by
  obtain ⟨st, k, ns, h1, h2, h3⟩ := r
  exact ⟨st, k, ns, by rw [upd_ne n1.symm]; exact h1, by rw [upd_ne n2.symm]; exact h2, h3⟩
theorem BI.len (h : BI H a l DD sm rs) : ∃ us, H DD = some (.lst us) ∧ us.length = rs.length := by
  obtain ⟨ps, h1, h2, h3, h4⟩ := h.at_
  exact ⟨_, h1, by rw [List.length_map, h4.len]⟩
theorem BI.row (h : BI H a l DD sm rs) {r : Nat} {ws : List Str} (hr : rs[r]? = some ws) : ∃ (p : Addr) (us : List V), H DD = some (.lst us) ∧ us.length = rs.length ∧ us[r]? = some (.ref p) ∧ H p = some (.lst (ws.map V.str)) ∧ ∀ ws' : List Str, (∀ x ∈ ws', Wd9 x) → BI (upd H p (.lst (ws'.map V.str))) a l DD sm (rs.set r ws') := by
  obtain ⟨ps, h1, h2, h3, h4⟩ := h.at_
  obtain ⟨p, hp, e⟩ := h4.get' hr
  have hl := h4.len
  have hps := h3 p (List.mem_of_getElem? hp)
  refine ⟨p, _, h1, by rw [List.length_map, hl], by rw [List.getElem?_map, hp]; rfl, e, fun ws' hw' => ?_⟩
  have hrl := (List.getElem?_eq_some_iff.mp hp).1
  refine ⟨h.R.updO hps.1 hps.2.1, fun z => h.ne ?_, fun ws hw x hx => ?_, by rw [upd_ne hps.2.2.2.symm]; exact h.s, h.sa, h.da, ps, by rw [upd_ne hps.2.2.1.symm]; exact h1, h2, h3, All2.of_get (by rw [List.length_set]; exact hl) fun i q ws hq hw => ?_⟩
  · have := congrArg List.length z
    rw [List.length_set] at this
    exact List.eq_nil_of_length_eq_zero this
  · rcases List.mem_or_eq_of_mem_set hw with h' | h'
    · exact h.wd ws h' x hx
    · rw [h'] at hx; exact hw' x hx
  · rw [List.getElem?_set] at hw
    by_cases hi : r = i
    · subst hi
      rw [if_pos rfl, if_pos (by omega)] at hw
      cases hw
      rw [hp] at hq
      cases hq
      exact upd_same
    · rw [if_neg hi] at hw
      have hne : q ≠ p := fun z => by
        subst z
        have := (List.getElem?_inj hrl h2).mp (hp.trans hq.symm)
        exact hi this
      rw [upd_ne hne]
      obtain ⟨ws2, hw2, e2⟩ := h4.get hq
      rw [hw] at hw2
      cases hw2
      exact e2
theorem BI.ins (h : BI H a l DD sm rs) {p : Addr} (n : H p = none) {ws' : List Str} (hw' : ∀ x ∈ ws', Wd9 x) (r : Nat) : ∃ us, H DD = some (.lst us) ∧ us.length = rs.length ∧ BI (upd (upd H p (.lst (ws'.map V.str))) DD (.lst (us.take r ++ [.ref p] ++ us.drop r))) a l DD sm (rs.take r ++ [ws'] ++ rs.drop r) := by
  obtain ⟨ps, h1, h2, h3, h4⟩ := h.at_
  have nDD : DD ≠ p := fun z => by rw [z, n] at h1; cases h1
  have nsm : sm ≠ p := fun z => by have := h.s; rw [z, n] at this; cases this
  obtain ⟨na, nl⟩ := h.R.no n
  have hnp : ∀ q ∈ ps, q ≠ p := fun q hq z => by
    obtain ⟨i, hi⟩ := List.mem_iff_getElem?.mp hq
    obtain ⟨ws, _, e⟩ := h4.get hi
    rw [z, n] at e
    cases e
  refine ⟨_, h1, by rw [List.length_map, h4.len], (h.R.updO na nl).updO h.da.1 h.da.2, fun z => ?_, fun ws hw x hx => ?_, by rw [upd_ne h.sa.2.2, upd_ne nsm]; exact h.s, h.sa, h.da, ps.take r ++ [p] ++ ps.drop r, by rw [upd_same, List.map_append, List.map_append, List.map_take, List.map_drop]; rfl, ?_, fun q hq => ?_, ?_⟩
  · have := congrArg List.length z
    rw [List.length_append, List.length_append] at this
    simp at this
  · rcases List.mem_append.mp hw with hw | hw
    · rcases List.mem_append.mp hw with hw | hw
      · exact h.wd ws (List.mem_of_mem_take hw) x hx
      · rw [List.mem_singleton.mp hw] at hx; exact hw' x hx
    · exact h.wd ws (List.mem_of_mem_drop hw) x hx
  · have hpm : (ps.take r ++ [p] ++ ps.drop r).Perm (p :: ps) := by
      rw [List.append_assoc]
      have e : (ps.take r ++ (p :: ps.drop r)).Perm (p :: (ps.take r ++ ps.drop r)) := List.perm_middle
      rw [List.take_append_drop] at e
      exact e
    exact hpm.nodup_iff.mpr (List.nodup_cons.mpr ⟨fun z => hnp p z rfl, h2⟩)
  · rcases List.mem_append.mp hq with hq | hq
    · rcases List.mem_append.mp hq with hq | hq
      · exact h3 q (List.mem_of_mem_take hq)
      · rw [List.mem_singleton.mp hq]; exact ⟨na, nl, nDD.symm, nsm.symm⟩
    · exact h3 q (List.mem_of_mem_drop hq)
  · have hk : All2 (fun q (ws : List Str) => (upd (upd H p (.lst (ws'.map V.str))) DD (.lst ((ps.map V.ref).take r ++ [.ref p] ++ (ps.map V.ref).drop r))) q = some (.lst (ws.map V.str))) ps rs := All2.of_get h4.len fun i q ws hq hw => by
      obtain ⟨ws2, hw2, e2⟩ := h4.get hq
      rw [hw] at hw2
      cases hw2
      have hm := List.mem_of_getElem? hq
      rw [upd_ne (h3 q hm).2.2.1, upd_ne (hnp q hm)]
      exact e2
    exact ((hk.take r).app (.one (by rw [upd_ne nDD.symm]; exact upd_same))).app (hk.drop r)
theorem BI.pop (h : BI H a l DD sm rs) (h1 : 1 < rs.length) (r : Nat) : ∃ us, H DD = some (.lst us) ∧ us.length = rs.length ∧ BI (upd H DD (.lst (us.eraseIdx r))) a l DD sm (rs.eraseIdx r) := by
  obtain ⟨ps, h0, h2, h3, h4⟩ := h.at_
  refine ⟨_, h0, by rw [List.length_map, h4.len], h.R.updO h.da.1 h.da.2, fun z => ?_, fun ws hw x hx => h.wd ws (List.mem_of_mem_eraseIdx hw) x hx, by rw [upd_ne h.sa.2.2]; exact h.s, h.sa, h.da, ps.eraseIdx r, by rw [upd_same, List.eraseIdx_eq_take_drop_succ, List.eraseIdx_eq_take_drop_succ, List.map_append, List.map_take, List.map_drop], h2.sublist (List.eraseIdx_sublist ..), fun q hq => h3 q (List.mem_of_mem_eraseIdx hq), ?_⟩
  · have := congrArg List.length z
    rw [List.length_eraseIdx] at this
    split at this
    · have : rs.length - 1 = 0 := this
      omega
    · have : rs.length = 0 := this
      omega
  · have hk : All2 (fun q (ws : List Str) => (upd H DD (.lst ((ps.map V.ref).eraseIdx r))) q = some (.lst (ws.map V.str))) ps rs := All2.of_get h4.len fun i q ws hq hw => by
      obtain ⟨ws2, hw2, e2⟩ := h4.get hq
      rw [hw] at hw2
      cases hw2
      rw [upd_ne (h3 q (List.mem_of_getElem? hq)).2.2.1]
      exact e2
    rw [List.eraseIdx_eq_take_drop_succ ps, List.eraseIdx_eq_take_drop_succ rs]
    exact (hk.take r).app (hk.drop (r + 1))
end
end Sc
namespace Sc
open PySem PySem.Spec PyProof.Rows L2
theorem sc__law_text : FnScope ["_law_rows", "_law_words_here"] ["_law_rows"] (defScope s__law_text) := ⟨rfl, rfl, rfl, by decide +kernel, rfl, by decide +kernel, by decide +kernel⟩
theorem sc__law_bent : FnScope ["_law_h", "_law_rows", "_law_some", "_law_lap", "_law_r", "_law_path", "_law_k"] ["_law_h", "_law_rows"] (defScope s__law_bent) := ⟨rfl, rfl, rfl, by decide +kernel, rfl, by decide +kernel, by decide +kernel⟩
def Row9 (ws : List Str) : Prop := ws.length ≤ 60 ∧ ∀ x ∈ ws, x.length ≤ 9
theorem rowText9 {ws : List Str} (h : Row9 ws) : (Txt.join spc ws).length ≤ 600 := by
  have h1 : (Txt.join spc ws).length ≤ (ws.map (·.length)).sum + ws.length * 1 := join_len spc ws
  have h2 : (ws.map (·.length)).sum ≤ ws.length * 9 := sum_le h.2
  have h3 := h.1
  omega
def tIfB (lo hi : Nat) : TS := fun D σ H => ∃ (a l DD sm : Addr) (y3 : Option V) (r pth k : Nat) (rs : List (List Str)), σ = [some (.ref a), some (.ref DD), some (.ref sm), y3, some (.int (r : Nat)), some (.int (pth : Nat)), some (.int (k : Nat))] ∧ BI H a l DD sm rs ∧ rs.length ≤ 60 ∧ (∀ ws ∈ rs, ws.length ≤ 60) ∧ ((lo ≤ pth ∧ pth ≤ hi) → ∃ ws, rs[r]? = some ws ∧ k ≤ ws.length) ∧
  ∀ H' rs', BI H' a l DD sm rs' → (¬ (lo ≤ pth ∧ pth ≤ hi) → rs' = rs) → rs'.length ≤ rs.length + 1 → (∀ m, (∀ ws ∈ rs, ws.length ≤ m) → ∀ ws ∈ rs', ws.length ≤ m + 1) → D.nx σ H'
theorem set_rows {rs : List (List Str)} {r : Nat} {ws ws' : List Str} (hr : rs[r]? = some ws) (hl : ws'.length ≤ ws.length + 1) : (rs.set r ws').length ≤ rs.length + 1 ∧ ∀ m, (∀ ws ∈ rs, ws.length ≤ m) → ∀ ws ∈ rs.set r ws', ws.length ≤ m + 1 := by
  refine ⟨by rw [List.length_set]; omega, fun m h w hw => ?_⟩
  rcases List.mem_or_eq_of_mem_set hw with h' | h'
  · have := h w h'; omega
  · have := h ws (List.mem_of_getElem? hr); rw [h']; omega
section
variable {P : Program} {w : World} {K : PySem.W.Frag} {mg : Str → Option Value} {base : Heap}
def sp_text (K : PySem.W.Frag) : Sp := fun vs H Q _ => ∃ (p : Addr) (us : List V) (rows : List (List Str)), vs = [.ref p] ∧ H p = some (.lst us) ∧ All2 (LstAt AllL H) us rows ∧ (∀ ws ∈ rows, Row9 ws) ∧ rows.length ≤ 100 ∧ ∀ H', Same H H' → Q (.str (Txt.join lf (rows.map (Txt.join spc)))) H'
theorem ok_text {f : Addr} {fd : FuncData} (F : Fun K "_law_text" "_law_text" s__law_text f fd) (B : Blt mg) : FnOk P w K mg base CX0 1 f fd ["_law_rows"] (sp_text K) := by
  refine F.ok sc__law_text (fun vs H Q E h => by obtain ⟨p, us, rows, rfl, _⟩ := h; rfl) (fun cdv A outer s H vs Q E hr h => ?_)
  obtain ⟨p, us, rows, rfl, hp, hu, hrok, hbl, q⟩ := h
  refine ⟨_, (pss_one (ps_ret (pe_join pe_str (pe_lc (own := [("_law_words_here", 1)]) (g := gName 1) (tt := tYes) rfl sc__law_text.nd (pi_list (pv 0)) (blkOk_by (own := [("_law_words_here", 1)]) (N := ["_law_rows", "_law_words_here"]) (sc := defScope s__law_text) (by decide +kernel)) (fun _ _ _ _ _ => (pg_name (i := 1) sc__law_text.nd rfl (Or.inl rfl))) (fun _ _ _ _ _ => pts_nil) (fun _ _ _ _ _ => (pe_.re (pe_join pe_str (pv 1)) (by first | (dsimp only [Cx.blk]; done) | exact rfl))))))), ?_⟩
  have hlen := hu.len
  refine ⟨⟨_, rfl⟩, _, rfl, p, rfl, ⟨_, sqL_of hp⟩, fun D6 nD6 => lc_it walk_list (fun i H' => Same H H' ∧ H' D6 = some (.lst (((rows.take i).map (Txt.join spc)).map V.str))) ⟨(Same.refl H).put nD6, upd_same⟩ (fun _ _ _ h => sqL_of (h.1 _ _ hp)) ?_ ?_⟩
  · rintro i y H12 H13 hi ⟨s, e⟩ ⟨rfl, hy⟩
    obtain ⟨ws', hw', l, rfl, nl', hl'⟩ := hu.get hy
    have hl' := s _ _ hl'
    have rok := hrok _ (List.mem_of_getElem? hw')
    have h2 : (ws'.map (·.length)).sum ≤ ws'.length * 9 := sum_le rok.2
    have h3 := rok.1
    refine ⟨rfl, yes_ ⟨⟨_, rfl⟩, _, rfl, spc, l, ws', rfl, rfl, .inl (sqL_of hl'), ?_, ?_⟩⟩
    · have e : spc.length = 1 := rfl
      rw [e]
      omega
    refine grow (acc := fun i => ((rows.take i).map (Txt.join spc)).map V.str) nD6 s e ?_ ?_
    · rw [List.length_map, List.length_map, List.length_take]
      exact small1000 (by omega)
    · show List.map V.str (List.map _ _) = _
      rw [take_more hw', List.map_append, List.map_append]
      rfl
  rintro H12 ⟨s12, e12⟩
  rw [hlen, List.take_length] at e12
  have h4 : ((rows.map (Txt.join spc)).map (·.length)).sum ≤ (rows.map (Txt.join spc)).length * 600 := sum_le fun x hx => by
    obtain ⟨ws', hw', rfl⟩ := List.mem_map.mp hx
    exact rowText9 (hrok _ hw')
  rw [List.length_map] at h4
  refine ⟨lf, D6, rows.map (Txt.join spc), rfl, rfl, .inl (sqL_of e12), ?_, q H12 s12⟩
  have e : lf.length = 1 := rfl
  rw [e, List.length_map]
  omega
def sp_bent : Sp := fun vs H Q _ => ∃ (a l DD : Addr) (rs : List (List Str)) (n m : Nat), vs = [.ref a, .ref DD] ∧ (∀ sm, H sm = none → BI (upd H sm (.lst (some12.map V.str))) a l DD sm rs) ∧ rs.length ≤ n ∧ n ≤ 50 ∧ m ≤ 50 ∧ (∀ ws ∈ rs, ws.length ≤ m) ∧
  ∀ H' sm rs', BI H' a l DD sm rs' → rs'.length ≤ n + 2 → (∀ ws ∈ rs', ws.length ≤ m + 2) → Q (.ref DD) H'
theorem ok_bent {f : Addr} {fd : FuncData} (F : Fun K "_law_bent" "_law_bent" s__law_bent f fd) (B : Blt mg) (c__law_next : Cal P w K mg base CX0 1 "_law_next" ["_law_h", "_law_limit"] sp_next) : FnOk P w K mg base CX0 2 f fd ["_law_h", "_law_rows"] sp_bent := by
  refine F.ok sc__law_bent (fun vs H Q E h => by obtain ⟨a, l, DD, rs, n, m, rfl, _⟩ := h; rfl) (fun cdv A outer s H vs Q E hr h => ?_)
  obtain ⟨a, l, DD, rs, n, m, rfl, hB, hn, hn50, hm50, hm, q⟩ := h
  refine ⟨_, (pss_cons (ps_set (i := 2) sc__law_bent.nd rfl (Or.inl rfl) (pe_lst (pa_cons pe_str (pa_cons pe_str (pa_cons pe_str (pa_cons pe_str (pa_cons pe_str (pa_cons pe_str (pa_cons pe_str (pa_cons pe_str (pa_cons pe_str (pa_cons pe_str (pa_cons pe_str (pa_cons pe_str pa_nil))))))))))))))
      (pss_cons (ps_for PassesOwn.never rfl (pi_range1 (by rfl) B.b_range (pa_cons (pe_cal c__law_next (hr.mono (by decide)) (pa_cons (pv 0) (pa_cons pe_int pa_nil))) pa_nil)) (pg_name (i := 3) sc__law_bent.nd rfl (Or.inl rfl)) (pss_cons (ps_par (i := 4) (j := 5) rfl sc__law_bent.nd rfl rfl (by decide) rfl rfl (pa_cons (pe_cal c__law_next (hr.mono (by decide)) (pa_cons (pv 0) (pa_cons (pe_callB call_len_seq (by rfl) B.b_len PySem.boot_len (pa_cons (pv 1) pa_nil)) pa_nil))) (pa_cons (pe_cal c__law_next (hr.mono (by decide)) (pa_cons (pv 0) (pa_cons pe_int pa_nil))) pa_nil)) rfl)
      (pss_cons (ps_set (i := 6) sc__law_bent.nd rfl (Or.inl rfl) (pe_cal c__law_next (hr.mono (by decide)) (pa_cons (pv 0) (pa_cons (pe_op op_add (pe_callB call_len_seq (by rfl) B.b_len PySem.boot_len (pa_cons (pe_ix ix_list (pv 1) (pv 4) (fun _ _ => rfl)) pa_nil)) pe_int) pa_nil))))
      (pss_cons (wk_ps (tIfB 0 0) (ps_if (PW.pt (pw_and (pt_cmpR op_eq (pv 5) pe_int (nomark _)) (pw_and1 (pt_cmpR op_lt (pv 6) (pe_callB call_len_seq (by rfl) B.b_len PySem.boot_len (pa_cons (pe_ix ix_list (pv 1) (pv 4) (fun _ _ => rfl)) pa_nil)) (nomark _))))) (pss_one (ps_expr (pe_bm PySem.F.plainAttrs_list PySem.F.slot_list_pop PySem.F.type_list_pop mt_popAt (pe_ix ix_list (pv 1) (pv 4) (fun _ _ => rfl)) (pa_cons (pv 6) pa_nil)))) pss_nil) ?w1)
      (pss_cons (wk_ps (tIfB 1 2) (ps_if (PW.pt (pw_and (pt_cmpR op_lt (pv 5) pe_int (nomark _)) (pw_and1 (pt_cmpR op_gt (pv 5) pe_int (nomark _))))) (pss_one (ps_expr (pe_bm PySem.F.plainAttrs_list PySem.F.slot_list_insert PySem.F.type_list_insert mt_insert (pe_ix ix_list (pv 1) (pv 4) (fun _ _ => rfl)) (pa_cons (pv 6) (pa_cons (pe_ix ix_list (pv 2) (pe_cal c__law_next (hr.mono (by decide)) (pa_cons (pv 0) (pa_cons pe_int pa_nil))) (fun _ _ => rfl)) pa_nil))))) pss_nil) ?w2)
      (pss_cons (wk_ps (tIfB 3 3) (ps_if (PW.pt (pw_and (pt_cmpR op_eq (pv 5) pe_int (nomark _)) (pw_and1 (pt_cmpR op_lt (pv 6) (pe_callB call_len_seq (by rfl) B.b_len PySem.boot_len (pa_cons (pe_ix ix_list (pv 1) (pv 4) (fun _ _ => rfl)) pa_nil)) (nomark _))))) (pss_one (ps_asg (pe_ix ix_list (pv 2) (pe_cal c__law_next (hr.mono (by decide)) (pa_cons (pv 0) (pa_cons pe_int pa_nil))) (fun _ _ => rfl)) (pg_sub (pe_ix ix_list (pv 1) (pv 4) (fun _ _ => rfl)) (pv 6) set_list))) pss_nil) ?w3)
      (pss_cons (wk_ps (tIfB 4 4) (ps_if (pt_cmpR op_eq (pv 5) pe_int (nomark _)) (pss_one (ps_expr (pe_bm PySem.F.plainAttrs_list PySem.F.slot_list_insert PySem.F.type_list_insert mt_insert (pv 1) (pa_cons (pv 4) (pa_cons (pe_callTy call_list_of (by rfl) B.b_list PyProof.Rows.boot_list (pa_cons (pe_ix ix_list (pv 1) (pe_cal c__law_next (hr.mono (by decide)) (pa_cons (pv 0) (pa_cons (pe_callB call_len_seq (by rfl) B.b_len PySem.boot_len (pa_cons (pv 1) pa_nil)) pa_nil))) (fun _ _ => rfl)) pa_nil)) pa_nil))))) pss_nil) ?w4)
      (pss_cons (wk_ps (tIfB 5 5) (ps_if (PW.pt (pw_and (pt_cmpR op_eq (pv 5) pe_int (nomark _)) (pw_and1 (pt_cmpR op_gt (pe_callB call_len_seq (by rfl) B.b_len PySem.boot_len (pa_cons (pv 1) pa_nil)) pe_int (nomark _))))) (pss_one (ps_expr (pe_bm PySem.F.plainAttrs_list PySem.F.slot_list_pop PySem.F.type_list_pop mt_popAt (pv 1) (pa_cons (pv 4) pa_nil)))) pss_nil) ?w5)
      (pss_one (wk_ps (tIfB 6 6) (ps_if (pt_cmpR op_eq (pv 5) pe_int (nomark _)) (pss_one (ps_expr (pe_bm PySem.F.plainAttrs_list PySem.F.slot_list_insert PySem.F.type_list_insert mt_insert (pe_ix ix_list (pv 1) (pv 4) (fun _ _ => rfl)) (pa_cons pe_int (pa_cons pe_str pa_nil))))) pss_nil) ?w6))))))))))
      (pss_one (ps_ret (pv 1))))), ?_⟩
  case w1 =>
    rintro D σ H1 ⟨a, l, DD, sm, y3, r, pth, k, rs, rfl, hB, hl, hw, hc, q⟩
    have stay := q H1 rs hB (fun _ => rfl) (Nat.le_succ _) (fun m h ws hw => Nat.le_succ_of_le (h ws hw))
    refine ⟨_, rfl, rfl, _, rfl, ?_⟩
    by_cases hp : pth = 0
    · rw [show decide (V.int ((pth : Nat) : Int) = V.int 0) = true from decide_eq_true (by rw [hp]; rfl)]
      obtain ⟨ws, hr, hk⟩ := hc ⟨by omega, by omega⟩
      obtain ⟨p, us, eD, ul, hu, ep, mk⟩ := hB.row hr
      refine iteT ⟨_, rfl, _, rfl, _, rfl, DD, _, _, _, rfl, rfl, sqL_of eD, atI_nat hu, p, _, rfl, .inl (sqL_of ep), _, _, rfl, rfl, _, rfl, ?_⟩
      rw [List.length_map]
      by_cases hk2 : k < ws.length
      · rw [decide_eq_true (by omega)]
        have hix : k < (ws.map V.str).length := by rw [List.length_map]; exact hk2
        have hw := hw ws (List.mem_of_getElem? hr)
        refine iteT ⟨_, rfl, _, rfl, DD, _, _, _, rfl, rfl, sqL_of eD, atI_nat hu, .inl ⟨rfl, _, sqL_of ep⟩, _, rfl, p, _, _, k, _, rfl, rfl, ep, by omega, by omega, (ixN_seq (ixN_of hix)).1, List.getElem?_eq_getElem hix, ?_⟩
        have e : (ws.map V.str).eraseIdx k = (ws.eraseIdx k).map V.str := by rw [List.eraseIdx_eq_take_drop_succ, List.eraseIdx_eq_take_drop_succ, List.map_append, List.map_take, List.map_drop]
        rw [e]
        have hsr := set_rows (ws' := ws.eraseIdx k) hr (by rw [List.length_eraseIdx]; split <;> omega)
        exact q _ _ (mk _ fun x hx => hB.wd ws (List.mem_of_getElem? hr) x (List.mem_of_mem_eraseIdx hx)) (fun z => absurd ⟨by omega, by omega⟩ z) hsr.1 hsr.2
      · rw [decide_eq_false (by omega)]
        exact iteF stay
    · rw [show decide (V.int ((pth : Nat) : Int) = V.int 0) = false from decide_eq_false fun z => hp (by have := V.int.inj z; omega)]
      exact iteF stay
  case w2 =>
    rintro D σ H1 ⟨a, l, DD, sm, y3, r, pth, k, rs, rfl, hB, hl, hw, hc, q⟩
    have stay := q H1 rs hB (fun _ => rfl) (Nat.le_succ _) (fun m h ws hw => Nat.le_succ_of_le (h ws hw))
    refine ⟨_, rfl, _, _, rfl, rfl, _, rfl, bcase (fun c1 => ?_) (fun c1 => stay)⟩
    have c1 := of_decide_eq_true c1
    refine ⟨_, rfl, _, _, rfl, rfl, _, rfl, bcase (fun c2 => ?_) (fun c2 => stay)⟩
    have c2 := of_decide_eq_true c2
    obtain ⟨ws, hr, hk⟩ := hc ⟨by omega, by omega⟩
    obtain ⟨p, us, eD, ul, hu, ep, mk0⟩ := hB.row hr
    refine ⟨_, rfl, _, rfl, DD, _, _, _, rfl, rfl, sqL_of eD, atI_nat hu, .inl ⟨rfl, _, sqL_of ep⟩, _, rfl, _, rfl, _, rfl, a, l, 12, rfl, hB.R, by decide, small_lim (by decide) (by decide), fun H2 x0 k2 r0 r1 => ?_⟩
    obtain ⟨j, rfl⟩ := Int.eq_ofNat_of_zero_le r0
    have hj : j < some12.length := by show j < 12; omega
    have hxm : some12[j] ∈ some12 := List.getElem_mem hj
    have hx9 : Wd9 some12[j] := some12_ok _ hxm
    have gx : (some12.map V.str)[j]? = some (.str some12[j]) := by rw [List.getElem?_map, List.getElem?_eq_getElem hj]; rfl
    generalize some12[j] = x at hx9 gx
    have hB2 := hB.kp k2
    obtain ⟨p2, us2, eD2, ul2, hu2, ep2, mk⟩ := hB2.row hr
    have eDk := k2.keep _ _ hB.da.1 hB.da.2 eD
    obtain rfl : us = us2 := by rw [eD2] at eDk; cases eDk; rfl
    obtain rfl : p = p2 := by rw [hu] at hu2; cases hu2; rfl
    have hws' : ∀ z ∈ ws.take k ++ [x] ++ ws.drop k, Wd9 z := fun z hz => by
      have hm := hB.wd ws (List.mem_of_getElem? hr)
      rcases List.mem_append.mp hz with h | h
      · rcases List.mem_append.mp h with h | h
        · exact hm z (List.mem_of_mem_take h)
        · rw [List.mem_singleton.mp h]; exact hx9
      · exact hm z (List.mem_of_mem_drop h)
    have hsr := set_rows (ws' := ws.take k ++ [x] ++ ws.drop k) hr (by rw [List.length_append, List.length_append, List.length_take, List.length_drop]; show min k ws.length + 1 + (ws.length - k) ≤ _; omega)
    have eR : (ws.map V.str).take k ++ [V.str x] ++ (ws.map V.str).drop k = (ws.take k ++ [x] ++ ws.drop k).map V.str := by rw [List.map_append, List.map_append, List.map_take, List.map_drop]; rfl

    refine ⟨sm, _, _, _, rfl, rfl, sqL_of hB2.s, atI_nat gx, p, _, _, _, rfl, rfl, ep2, by rw [List.length_map, sizeLine_eq]; have := hw ws (List.mem_of_getElem? hr); omega, by omega, by have := hw ws (List.mem_of_getElem? hr); omega, ?_⟩
    rw [Int.toNat_natCast, eR]
    exact q _ _ (mk _ hws') (fun z => absurd ⟨by omega, by omega⟩ z) hsr.1 hsr.2
  case w3 =>
    rintro D σ H1 ⟨a, l, DD, sm, y3, r, pth, k, rs, rfl, hB, hl, hw, hc, q⟩
    have stay := q H1 rs hB (fun _ => rfl) (Nat.le_succ _) (fun m h ws hw => Nat.le_succ_of_le (h ws hw))
    refine ⟨_, rfl, rfl, _, rfl, ?_⟩
    by_cases hp : pth = 3
    · rw [show decide (V.int ((pth : Nat) : Int) = V.int 3) = true from decide_eq_true (by rw [hp]; rfl)]
      obtain ⟨ws, hr, hk⟩ := hc ⟨by omega, by omega⟩
      obtain ⟨p, us, eD, ul, hu, ep, mk0⟩ := hB.row hr
      refine iteT ⟨_, rfl, _, rfl, _, rfl, DD, _, _, _, rfl, rfl, sqL_of eD, atI_nat hu, p, _, rfl, .inl (sqL_of ep), _, _, rfl, rfl, _, rfl, ?_⟩
      rw [List.length_map]
      by_cases hk2 : k < ws.length
      · rw [decide_eq_true (by omega)]
        refine iteT ⟨_, rfl, _, rfl, a, l, 12, rfl, hB.R, by decide, small_lim (by decide) (by decide), fun H2 x0 k2 r0 r1 => ?_⟩
        obtain ⟨j, rfl⟩ := Int.eq_ofNat_of_zero_le r0
        have hj : j < some12.length := by show j < 12; omega
        have hxm : some12[j] ∈ some12 := List.getElem_mem hj
        have hx9 : Wd9 some12[j] := some12_ok _ hxm
        have gx : (some12.map V.str)[j]? = some (.str some12[j]) := by rw [List.getElem?_map, List.getElem?_eq_getElem hj]; rfl
        generalize some12[j] = x at hx9 gx
        have hB2 := hB.kp k2
        obtain ⟨p2, us2, eD2, ul2, hu2, ep2, mk⟩ := hB2.row hr
        have hix : k < (ws.map V.str).length := by rw [List.length_map]; exact hk2
        refine ⟨sm, _, _, _, rfl, rfl, sqL_of hB2.s, atI_nat gx, _, rfl, _, rfl, DD, _, _, _, rfl, rfl, sqL_of eD2, atI_nat hu2, _, rfl, p2, _, _, k, rfl, rfl, ep2, ixN_of hix, ?_⟩
        have e : (ws.map V.str).set k (.str x) = (ws.set k x).map V.str := by rw [List.map_set]
        rw [e]
        have hsr := set_rows (ws' := ws.set k x) hr (by rw [List.length_set]; omega)
        refine q _ _ (mk _ fun z hz => ?_) (fun z => absurd ⟨by omega, by omega⟩ z) hsr.1 hsr.2
        rcases List.mem_or_eq_of_mem_set hz with h' | h'
        · exact hB.wd ws (List.mem_of_getElem? hr) z h'
        · rw [h']; exact hx9
      · rw [decide_eq_false (by omega)]
        exact iteF stay
    · rw [show decide (V.int ((pth : Nat) : Int) = V.int 3) = false from decide_eq_false fun z => hp (by have := V.int.inj z; omega)]
      exact iteF stay
  case w4 =>
    rintro D σ H1 ⟨a, l, DD, sm, y3, r, pth, k, rs, rfl, hB, hl, hw, hc, q⟩
    have stay := q H1 rs hB (fun _ => rfl) (Nat.le_succ _) (fun m h ws hw => Nat.le_succ_of_le (h ws hw))
    refine ⟨_, rfl, rfl, _, rfl, ?_⟩
    by_cases hp : pth = 4
    · rw [show decide (V.int ((pth : Nat) : Int) = V.int 4) = true from decide_eq_true (by rw [hp]; rfl)]
      obtain ⟨us, eD, ul⟩ := hB.len
      have hlp : 0 < rs.length := List.length_pos_iff.mpr hB.ne
      obtain ⟨ws0, hr, hk⟩ := hc ⟨by omega, by omega⟩
      have hrl := (List.getElem?_eq_some_iff.mp hr).1
      refine iteT ⟨_, rfl, .inl ⟨rfl, _, sqL_of eD⟩, _, rfl, _, rfl, _, rfl, _, rfl, DD, _, rfl, .inl (sqL_of eD), a, l, _, rfl, hB.R, by omega, small_lim (by omega) (by omega), fun H2 x0 k2 r0 r1 => ?_⟩
      obtain ⟨j, rfl⟩ := Int.eq_ofNat_of_zero_le r0
      have hj : j < rs.length := by omega
      have hB2 := hB.kp k2
      have hrj : rs[j]? = some rs[j] := List.getElem?_eq_getElem hj
      obtain ⟨p2, us2, eD2, ul2, hu2, ep2, mk⟩ := hB2.row hrj
      generalize rs[j] = ws at hrj ep2
      refine ⟨DD, _, _, _, rfl, rfl, sqL_of eD2, atI_nat hu2, p2, _, rfl, .inl (sqL_of ep2), fun p3 np3 => ?_⟩
      obtain ⟨us3, eD3, ul3, hB3⟩ := hB2.ins np3 (ws' := ws) (hB.wd ws (List.mem_of_getElem? hrj)) r
      obtain rfl : us2 = us3 := by rw [eD2] at eD3; cases eD3; rfl
      have s3 := (Same.refl H2).put (o := .lst (ws.map V.str)) np3
      refine ⟨DD, _, _, _, rfl, rfl, s3 _ _ eD2, by rw [sizeLine_eq]; omega, by omega, by omega, ?_⟩
      rw [Int.toNat_natCast]
      refine q _ _ hB3 (fun z => absurd ⟨by omega, by omega⟩ z) ?_ fun m h w hw' => ?_
      · rw [List.length_append, List.length_append, List.length_take, List.length_drop]
        show min r rs.length + 1 + (rs.length - r) ≤ _
        omega
      · rcases List.mem_append.mp hw' with h' | h'
        · rcases List.mem_append.mp h' with h' | h'
          · have := h w (List.mem_of_mem_take h'); omega
          · have := h ws (List.mem_of_getElem? hrj); rw [List.mem_singleton.mp h']; omega
        · have := h w (List.mem_of_mem_drop h'); omega
    · rw [show decide (V.int ((pth : Nat) : Int) = V.int 4) = false from decide_eq_false fun z => hp (by have := V.int.inj z; omega)]
      exact iteF stay
  case w5 =>
    rintro D σ H1 ⟨a, l, DD, sm, y3, r, pth, k, rs, rfl, hB, hl, hw, hc, q⟩
    have stay := q H1 rs hB (fun _ => rfl) (Nat.le_succ _) (fun m h ws hw => Nat.le_succ_of_le (h ws hw))
    refine ⟨_, rfl, rfl, _, rfl, ?_⟩
    by_cases hp : pth = 5
    · rw [show decide (V.int ((pth : Nat) : Int) = V.int 5) = true from decide_eq_true (by rw [hp]; rfl)]
      obtain ⟨us, eD, ul⟩ := hB.len
      obtain ⟨ws0, hr, hk⟩ := hc ⟨by omega, by omega⟩
      have hrl := (List.getElem?_eq_some_iff.mp hr).1
      refine iteT ⟨_, rfl, DD, _, rfl, .inl (sqL_of eD), _, _, rfl, rfl, _, rfl, ?_⟩
      rw [ul]
      by_cases h1 : 1 < rs.length
      · rw [decide_eq_true (by omega)]
        obtain ⟨us3, eD3, ul3, hB3⟩ := hB.pop h1 r
        obtain rfl : us = us3 := by rw [eD] at eD3; cases eD3; rfl
        have hix : r < us.length := by omega
        refine iteT ⟨_, rfl, .inl ⟨rfl, _, sqL_of eD⟩, _, rfl, DD, _, _, r, _, rfl, rfl, eD, by omega, by omega, (ixN_seq (ixN_of hix)).1, List.getElem?_eq_getElem hix, ?_⟩
        refine q _ _ hB3 (fun z => absurd ⟨by omega, by omega⟩ z) ?_ fun m h w hw' => Nat.le_succ_of_le (h w (List.mem_of_mem_eraseIdx hw'))
        rw [List.length_eraseIdx]
        split <;> omega
      · rw [decide_eq_false (by omega)]
        exact iteF stay
    · rw [show decide (V.int ((pth : Nat) : Int) = V.int 5) = false from decide_eq_false fun z => hp (by have := V.int.inj z; omega)]
      exact iteF stay
  case w6 =>
    rintro D σ H1 ⟨a, l, DD, sm, y3, r, pth, k, rs, rfl, hB, hl, hw, hc, q⟩
    have stay := q H1 rs hB (fun _ => rfl) (Nat.le_succ _) (fun m h ws hw => Nat.le_succ_of_le (h ws hw))
    refine ⟨_, rfl, rfl, _, rfl, ?_⟩
    by_cases hp : pth = 6
    · rw [show decide (V.int ((pth : Nat) : Int) = V.int 6) = true from decide_eq_true (by rw [hp]; rfl)]
      obtain ⟨ws, hr, hk⟩ := hc ⟨by omega, by omega⟩
      obtain ⟨p, us, eD, ul, hu, ep, mk⟩ := hB.row hr
      obtain ⟨x, hx⟩ : ∃ x, x = Str.ofString ">" := ⟨_, rfl⟩
      have hx9 : Wd9 x := by rw [hx]; exact some12_ok _ (by decide)
      have hws' : ∀ z ∈ ws.take 0 ++ [x] ++ ws.drop 0, Wd9 z := fun z hz => by
        have hm := hB.wd ws (List.mem_of_getElem? hr)
        rcases List.mem_append.mp hz with h | h
        · rcases List.mem_append.mp h with h | h
          · exact hm z (List.mem_of_mem_take h)
          · rw [List.mem_singleton.mp h]; exact hx9
        · exact hm z (List.mem_of_mem_drop h)
      have hsr := set_rows (ws' := ws.take 0 ++ [x] ++ ws.drop 0) hr (by rw [List.length_append, List.length_append, List.length_take, List.length_drop]; show min 0 ws.length + 1 + (ws.length - 0) ≤ _; omega)
      have eR : (ws.map V.str).take 0 ++ [V.str x] ++ (ws.map V.str).drop 0 = (ws.take 0 ++ [x] ++ ws.drop 0).map V.str := by rw [List.map_append, List.map_append, List.map_take, List.map_drop]; rfl

      refine iteT ⟨_, rfl, _, rfl, DD, _, _, _, rfl, rfl, sqL_of eD, atI_nat hu, .inl ⟨rfl, _, sqL_of ep⟩, p, _, 0, .str x, rfl, (by rw [hx]), ep, by rw [List.length_map, sizeLine_eq]; have := hw ws (List.mem_of_getElem? hr); omega, by decide, by decide, ?_⟩
      show D.nx _ (upd H1 p (.lst ((ws.map V.str).take 0 ++ [V.str x] ++ (ws.map V.str).drop 0)))
      rw [eR]
      exact q _ _ (mk _ hws') (fun z => absurd ⟨by omega, by omega⟩ z) hsr.1 hsr.2
    · rw [show decide (V.int ((pth : Nat) : Int) = V.int 6) = false from decide_eq_false fun z => hp (by have := V.int.inj z; omega)]
      exact iteF stay
  refine ⟨(by show 12 ≤ sizeLine; decide), fun sm nsm => ?_⟩
  have hB := hB sm nsm
  refine ⟨_, rfl, a, l, 3, rfl, hB.R, by decide, small_lim (by decide) (by decide), fun H2 c k2 c0 c1 => ?_⟩
  obtain ⟨c, rfl⟩ := Int.eq_ofNat_of_zero_le c0
  refine ⟨_, rfl, by omega, by omega, for_it walk_range (fun i σ H' => ∃ (rs' : List (List Str)) (y3 y4 y5 y6 : Option V), σ = [some (.ref a), some (.ref DD), some (.ref sm), y3, y4, y5, y6] ∧ BI H' a l DD sm rs' ∧ rs'.length ≤ n + i ∧ ∀ ws ∈ rs', ws.length ≤ m + i)
    ⟨rs, none, none, none, none, rfl, hB.kp k2, hn, hm⟩ (fun _ _ _ _ _ => trivial) ?_ ?_⟩
  · rintro i y σ H4 H3 hi ⟨rs0, y3, y4, y5, y6, rfl, hB3, hn3, hm3⟩ ⟨rfl, hy⟩
    have hi : i < (c : Int).toNat := hi
    have hi2 : i < 2 := by omega
    obtain ⟨us, eD, ul⟩ := hB3.len
    have hlp : 0 < rs0.length := List.length_pos_iff.mpr hB3.ne
    refine ⟨_, rfl, _, rfl, DD, _, rfl, .inl (sqL_of eD), a, l, _, rfl, hB3.R, by omega, small_lim (by omega) (by omega), fun H4 r k4 r0 r1 => ?_⟩
    obtain ⟨r, rfl⟩ := Int.eq_ofNat_of_zero_le r0
    have hr : r < rs0.length := by omega
    have hB4 := hB3.kp k4
    refine ⟨_, rfl, a, l, 7, rfl, hB4.R, by decide, small_lim (by decide) (by decide), fun H5 pth k5 p0 p1 => ⟨_, _, rfl, ?_⟩⟩
    obtain ⟨pth, rfl⟩ := Int.eq_ofNat_of_zero_le p0
    have hB5 := hB4.kp k5
    have hrr : rs0[r]? = some rs0[r] := List.getElem?_eq_getElem hr
    obtain ⟨p, us5, eD5, ul5, hu5, ep5, mk5⟩ := hB5.row hrr
    have hwm : rs0[r] ∈ rs0 := List.getElem_mem hr
    generalize rs0[r] = w0 at hrr ep5 mk5 hwm
    have hw0 := hm3 w0 hwm
    refine ⟨_, rfl, _, rfl, _, rfl, DD, _, _, _, rfl, rfl, sqL_of eD5, atI_nat hu5, p, _, rfl, .inl (sqL_of ep5), _, 1, rfl, rfl, a, l, _, rfl, hB5.R, by rw [List.length_map]; omega, small_lim (by rw [List.length_map]; omega) (by rw [List.length_map]; omega), fun H6 k k6 q0 q1 => ?_⟩
    obtain ⟨k, rfl⟩ := Int.eq_ofNat_of_zero_le q0
    rw [List.length_map] at q1
    have hB6 := hB5.kp k6
    have hk : k ≤ w0.length := by omega
    have hc : ∃ ws, rs0[r]? = some ws ∧ k ≤ ws.length := ⟨w0, hrr, hk⟩
    have b60 : rs0.length ≤ 52 := by omega
    have bw : ∀ ws ∈ rs0, ws.length ≤ m + i := hm3
    refine ⟨a, l, DD, sm, _, r, pth, k, rs0, rfl, hB6, (by omega), (fun ws h => by have := bw ws h; omega), (fun _ => hc), fun Hb1 rt1 hb1 u1 l1 v1 => ?_⟩
    have e1 : 1 ≤ pth → rt1 = rs0 := fun z => u1 (by omega)
    have w1 : ∀ ws ∈ rt1, ws.length ≤ m + (i + 1) := v1 (m + i) bw
    have n1 : rt1.length ≤ rs0.length + 1 := l1
    refine ⟨a, l, DD, sm, _, r, pth, k, rt1, rfl, hb1, (by omega), (fun ws h => by have := w1 ws h; omega), (fun z => by rw [e1 (by omega)]; exact hc), fun Hb2 rt2 hb2 u2 l2 v2 => ?_⟩
    have e2 : 3 ≤ pth → rt2 = rs0 := fun z => (u2 (by omega)).trans (e1 (by omega))
    have w2 : ∀ ws ∈ rt2, ws.length ≤ m + (i + 1) := by
      by_cases z : 1 ≤ pth
      · rw [e1 z] at v2
        exact v2 (m + i) bw
      · rw [u2 (by omega)]
        exact w1
    have n2 : rt2.length ≤ rs0.length + 1 := by
      by_cases z : 1 ≤ pth
      · rw [e1 z] at l2
        exact l2
      · rw [u2 (by omega)]
        exact n1
    refine ⟨a, l, DD, sm, _, r, pth, k, rt2, rfl, hb2, (by omega), (fun ws h => by have := w2 ws h; omega), (fun z => by rw [e2 (by omega)]; exact hc), fun Hb3 rt3 hb3 u3 l3 v3 => ?_⟩
    have e3 : 4 ≤ pth → rt3 = rs0 := fun z => (u3 (by omega)).trans (e2 (by omega))
    have w3 : ∀ ws ∈ rt3, ws.length ≤ m + (i + 1) := by
      by_cases z : 3 ≤ pth
      · rw [e2 z] at v3
        exact v3 (m + i) bw
      · rw [u3 (by omega)]
        exact w2
    have n3 : rt3.length ≤ rs0.length + 1 := by
      by_cases z : 3 ≤ pth
      · rw [e2 z] at l3
        exact l3
      · rw [u3 (by omega)]
        exact n2
    refine ⟨a, l, DD, sm, _, r, pth, k, rt3, rfl, hb3, (by omega), (fun ws h => by have := w3 ws h; omega), (fun z => by rw [e3 (by omega)]; exact hc), fun Hb4 rt4 hb4 u4 l4 v4 => ?_⟩
    have e4 : 5 ≤ pth → rt4 = rs0 := fun z => (u4 (by omega)).trans (e3 (by omega))
    have w4 : ∀ ws ∈ rt4, ws.length ≤ m + (i + 1) := by
      by_cases z : 4 ≤ pth
      · rw [e3 z] at v4
        exact v4 (m + i) bw
      · rw [u4 (by omega)]
        exact w3
    have n4 : rt4.length ≤ rs0.length + 1 := by
      by_cases z : 4 ≤ pth
      · rw [e3 z] at l4
        exact l4
      · rw [u4 (by omega)]
        exact n3
    refine ⟨a, l, DD, sm, _, r, pth, k, rt4, rfl, hb4, (by omega), (fun ws h => by have := w4 ws h; omega), (fun z => by rw [e4 (by omega)]; exact hc), fun Hb5 rt5 hb5 u5 l5 v5 => ?_⟩
    have e5 : 6 ≤ pth → rt5 = rs0 := fun z => (u5 (by omega)).trans (e4 (by omega))
    have w5 : ∀ ws ∈ rt5, ws.length ≤ m + (i + 1) := by
      by_cases z : 5 ≤ pth
      · rw [e4 z] at v5
        exact v5 (m + i) bw
      · rw [u5 (by omega)]
        exact w4
    have n5 : rt5.length ≤ rs0.length + 1 := by
      by_cases z : 5 ≤ pth
      · rw [e4 z] at l5
        exact l5
      · rw [u5 (by omega)]
        exact n4
    refine ⟨a, l, DD, sm, _, r, pth, k, rt5, rfl, hb5, (by omega), (fun ws h => by have := w5 ws h; omega), (fun z => by rw [e5 (by omega)]; exact hc), fun Hb6 rt6 hb6 u6 l6 v6 => ?_⟩
    have e6 : 7 ≤ pth → rt6 = rs0 := fun z => (u6 (by omega)).trans (e5 (by omega))
    have w6 : ∀ ws ∈ rt6, ws.length ≤ m + (i + 1) := by
      by_cases z : 6 ≤ pth
      · rw [e5 z] at v6
        exact v6 (m + i) bw
      · rw [u6 (by omega)]
        exact w5
    have n6 : rt6.length ≤ rs0.length + 1 := by
      by_cases z : 6 ≤ pth
      · rw [e5 z] at l6
        exact l6
      · rw [u6 (by omega)]
        exact n5
    exact ⟨rt6, _, _, _, _, rfl, hb6, by omega, w6⟩
  · rintro σ H3 ⟨rs', y3, y4, y5, y6, rfl, hB3, hn3, hm3⟩
    have hn3 : rs'.length ≤ n + (c : Int).toNat := hn3
    have hm3 : ∀ ws ∈ rs', ws.length ≤ m + (c : Int).toNat := hm3
    exact ⟨_, rfl, q H3 sm rs' hB3 (by omega) fun ws h => by have := hm3 ws h; omega⟩
end
end Sc
namespace Sc
open PySem PySem.Spec PyProof.Rows L2
theorem mem_joinL {c : Nat} {S : List Nat} : ∀ {ps : List (List Nat)}, c ∈ TL.joinL S ps → c ∈ S ∨ ∃ p ∈ ps, c ∈ p
  | [], h => by cases h
  | [p], h => .inr ⟨p, List.mem_cons_self, h⟩
  | p :: q :: r, h => by
    have h : c ∈ p ++ (S ++ TL.joinL S (q :: r)) := h
    rcases List.mem_append.mp h with h | h
    · exact .inr ⟨p, List.mem_cons_self, h⟩
    · rcases List.mem_append.mp h with h | h
      · exact .inl h
      · rcases mem_joinL h with h | ⟨p', h1, h2⟩
        · exact .inl h
        · exact .inr ⟨p', List.mem_cons_of_mem _ h1, h2⟩
theorem mem_join {c : Nat} {y : Str} {ps : List Str} (h : c ∈ TL.tl (Txt.join y ps)) : c ∈ TL.tl y ∨ ∃ p ∈ ps, c ∈ TL.tl p := by
  rw [TL.join_eq, TL.tl_join] at h
  rcases mem_joinL h with h | ⟨p, h1, h2⟩
  · exact .inl h
  · obtain ⟨z, hz, rfl⟩ := List.mem_map.mp h1
    exact .inr ⟨z, hz, h2⟩
/-- a word: no space, no line feed within -/
def WordOk (x : Str) : Prop := ¬ 32 ∈ TL.tl x ∧ ¬ 10 ∈ TL.tl x
theorem name_word {x : Str} (h : isName x = true) : WordOk x := by
  unfold isName at h
  rw [Bool.and_eq_true, Bool.and_eq_true] at h
  have h2 : x.cps.toList.all (fun c => decide (c ∈ letters.cps.toList)) = true := h.2.2
  rw [List.all_eq_true] at h2
  exact ⟨fun z => absurd (of_decide_eq_true (h2 32 z)) (by decide +kernel), fun z => absurd (of_decide_eq_true (h2 10 z)) (by decide +kernel)⟩
theorem wordsN_word {n : Nd} {k : Nat} (h : NdOk n) : ∀ x ∈ wordsN n k, WordOk x := by
  have p2 : ∀ (wd : Str) (xs : List Str), WordOk wd → (∀ x ∈ xs, WordOk x) → ∀ x ∈ partW wd xs, WordOk x := fun wd xs h1 h2 x hx => by
    unfold partW at hx
    split at hx
    · cases hx
    · rcases List.mem_cons.mp hx with rfl | hx
      · exact h1
      · exact h2 x hx
  intro x hx
  unfold wordsN at hx
  rcases List.mem_append.mp hx with hx | hx
  · rcases List.mem_append.mp hx with hx | hx
    · rcases List.mem_append.mp hx with hx | hx
      · rw [List.eq_of_mem_replicate hx]
        exact ⟨by decide +kernel, by decide +kernel⟩
      · rcases List.mem_cons.mp hx with rfl | hx
        · exact name_word h.nm
        rcases List.mem_cons.mp hx with rfl | hx
        · exact ⟨by decide +kernel, by decide +kernel⟩
        rw [List.mem_singleton.mp hx]
        exact name_word h.rl
    · exact p2 "if" n.hs ⟨by decide +kernel, by decide +kernel⟩ (fun x hx => name_word (fw_names h.c1 x hx)) x hx
  · exact p2 "not" n.fs ⟨by decide +kernel, by decide +kernel⟩ (fun x hx => name_word (fw_names h.c2 x hx)) x hx

theorem spl_bound (S : List Nat) : ∀ (l : List Nat) (k : Nat) (acc : List Nat), (TL.spl S k acc l).length ≤ l.length + 1 ∧ ∀ p ∈ TL.spl S k acc l, p.length ≤ acc.length + l.length
  | [], k, acc => by
    rw [TL.spl_nil]
    exact ⟨Nat.le_refl _, fun p hp => by rw [List.mem_singleton.mp hp]; exact Nat.le_refl _⟩
  | c :: r, 0, acc => by
    cases h : TL.pre S (c :: r) with
    | true =>
      rw [TL.spl_hit h]
      have ih := spl_bound S r (S.length - 1) []
      refine ⟨by rw [List.length_cons, List.length_cons]; omega, fun p hp => ?_⟩
      rw [List.length_cons]
      rcases List.mem_cons.mp hp with z | z
      · rw [z]; omega
      · have := ih.2 p z
        rw [List.length_nil] at this
        omega
    | false =>
      rw [TL.spl_miss h]
      have ih := spl_bound S r 0 (acc ++ [c])
      refine ⟨by rw [List.length_cons]; omega, fun p hp => ?_⟩
      have := ih.2 p hp
      rw [List.length_append, List.length_singleton] at this
      rw [List.length_cons]
      omega
  | c :: r, k + 1, acc => by
    show (TL.spl S k acc r).length ≤ _ ∧ _
    have ih := spl_bound S r k acc
    refine ⟨by rw [List.length_cons]; omega, fun p hp => ?_⟩
    have := ih.2 p hp
    rw [List.length_cons]
    omega
theorem split_bound (x y : Str) (hy : TL.tl y ≠ []) (hk : y.cps.all (· < 256) = true) : (Txt.split x y).length ≤ x.length + 1 ∧ ∀ p ∈ Txt.split x y, p.length ≤ x.length := by
  have h := TL.split_spl x y hy (TL.kind_ok hk)
  have b := spl_bound (TL.tl y) (TL.tl x) 0 []
  rw [← h] at b
  rw [List.length_map, ← TL.len_tl] at b
  refine ⟨b.1, fun p hp => ?_⟩
  have := b.2 (TL.tl p) (List.mem_map_of_mem hp)
  rw [List.length_nil, ← TL.len_tl] at this
  omega
theorem wordsT_bound (x : Str) : (wordsT x).length ≤ x.length + 1 ∧ ∀ p ∈ wordsT x, p.length ≤ x.length := split_bound x _ (by decide) (by decide +kernel)
theorem fit_of_rows {tx : Str} (hl : tx.length ≤ 100000) (hr : (Txt.split tx (Str.ofString "\n")).length ≤ 900) (hx : ∀ x ∈ Txt.split tx (Str.ofString "\n"), x.length ≤ 899) : TxFit2 tx := by
  have hw : ∀ ws ∈ rowsT tx, ∀ x ∈ ws, x.length ≤ 899 := fun ws hws x hxw => by
    obtain ⟨y, hy, rfl⟩ := List.mem_map.mp hws
    have h1 := hx y hy
    have h2 := (wordsT_bound y).2 x hxw
    omega
  refine ⟨⟨hl, by unfold rowsT; rw [List.length_map]; exact hr, fun x h => ⟨by have := hx x h; omega, by have := hx x h; have := (wordsT_bound x).1; omega⟩, fun ws h x h' => by have := hw ws h x h'; omega⟩, fun ws h x h' => by have := hw ws h x h'; omega⟩
theorem fit_short {tx : Str} (hl : tx.length ≤ 899) : TxFit2 tx := by
  have b := split_bound tx (Str.ofString "\n") (by decide) (by decide +kernel)
  exact fit_of_rows (by omega) (by have := b.1; omega) fun x h => by have := b.2 x h; omega
theorem fit_rows {rs : List (List Str)} (h0 : rs ≠ []) (hn : rs.length ≤ 100) (hw : ∀ ws ∈ rs, ws.length ≤ 60) (hx : ∀ ws ∈ rs, ∀ x ∈ ws, Wd9 x) : TxFit2 (Txt.join lf (rs.map (Txt.join spc))) := by
  have hl : ∀ ws ∈ rs, (Txt.join spc ws).length ≤ 600 := fun ws h => by
    have h1 : (Txt.join spc ws).length ≤ (ws.map (·.length)).sum + ws.length * 1 := join_len spc ws
    have h2 : (ws.map (·.length)).sum ≤ ws.length * 9 := sum_le fun x hx' => (hx ws h x hx').1
    have h3 := hw ws h
    omega
  have e : Txt.split (Txt.join lf (rs.map (Txt.join spc))) (Str.ofString "\n") = rs.map (Txt.join spc) := by
    refine TL.split_join (s := 10) (S := []) rfl (by decide +kernel) (fun z => h0 (List.map_eq_nil_iff.mp z)) fun p hp z => ?_
    obtain ⟨ws, hws, rfl⟩ := List.mem_map.mp hp
    rcases mem_join z with z | ⟨q, h1, h2⟩
    · exact absurd z (by decide +kernel)
    · exact (hx ws hws q h1).2 h2
  refine fit_of_rows ?_ (by rw [e, List.length_map]; omega) fun x h => ?_
  · have h1 := join_len lf (rs.map (Txt.join spc))
    have h2 : ((rs.map (Txt.join spc)).map (·.length)).sum ≤ (rs.map (Txt.join spc)).length * 600 := sum_le fun x h => by
      obtain ⟨ws, hws, rfl⟩ := List.mem_map.mp h
      exact hl ws hws
    rw [List.length_map] at h1 h2
    have h3 : lf.length = 1 := rfl
    rw [h3] at h1
    omega
  · rw [e] at h
    obtain ⟨ws, hws, rfl⟩ := List.mem_map.mp h
    have := hl ws hws
    omega
/-- the first word that is no sign -/
def keyW (ws : List Str) : Option Str := (ws.dropWhile fun x => decide (x = sgn)).head?
theorem key_words {n : Nd} {k : Nat} (h : n.nm ≠ sgn) : keyW (wordsN n k) = some n.nm := by
  unfold keyW wordsN
  induction k with
  | zero =>
    show (List.dropWhile (fun x => decide (x = sgn)) (n.nm :: _)).head? = _
    rw [List.dropWhile_cons, decide_eq_false h]
    rfl
  | succ k ih =>
    show (List.dropWhile (fun x => decide (x = sgn)) (sgn :: _)).head? = _
    rw [List.dropWhile_cons, decide_eq_true rfl]
    exact ih
theorem rowsB_nodup {xs : List Str} {f : RF} {rl : Str} (hn : f.names.Nodup) (h1 : ∀ x ∈ f.names, x ≠ sgn ∧ x ≠ Str.ofString "facts" ∧ x ≠ Str.ofString "else") : (rowsB xs (f.pre 0) rl).Nodup := by
  refine List.Pairwise.of_map (S := fun a b => a ≠ b) keyW (fun a b h e => h (congrArg keyW e)) ?_
  show ((rowsB xs (f.pre 0) rl).map keyW).Nodup
  have e : (rowsB xs (f.pre 0) rl).map keyW = (Str.ofString "facts" :: (f.names ++ [Str.ofString "else"])).map some := by
    unfold rowsB
    rw [List.map_append, List.map_cons, List.map_map]
    have e1 : (f.pre 0).map (keyW ∘ fun q : Nd × Nat => wordsN q.1 q.2) = f.names.map some := by
      unfold RF.names
      rw [List.map_map]
      refine List.map_congr_left fun q hq => ?_
      exact key_words (h1 q.1.nm (List.mem_map_of_mem hq)).1
    have k1 : keyW (Str.ofString "facts" :: xs) = some (Str.ofString "facts") := by
      unfold keyW
      rw [List.dropWhile_cons, decide_eq_false (show ¬ Str.ofString "facts" = sgn by decide +kernel)]
      rfl
    have k2 : keyW [Str.ofString "else", rl] = some (Str.ofString "else") := by
      unfold keyW
      rw [List.dropWhile_cons, decide_eq_false (show ¬ Str.ofString "else" = sgn by decide +kernel)]
      rfl
    rw [e1, k1]
    show some (Str.ofString "facts") :: (f.names.map some ++ [keyW [Str.ofString "else", rl]]) = some (Str.ofString "facts") :: ((f.names ++ [Str.ofString "else"]).map some)
    rw [k2, List.map_append]
    rfl
  rw [e]
  refine List.Pairwise.map some (fun a b h e => h (Option.some.inj e)) (show (Str.ofString "facts" :: (f.names ++ [Str.ofString "else"])).Nodup from ?_)
  refine List.nodup_cons.mpr ⟨fun z => ?_, List.nodup_append.mpr ⟨hn, List.nodup_cons.mpr ⟨(fun h => nomatch h), List.nodup_nil⟩, fun x hx y hy e => ?_⟩⟩
  · rcases List.mem_append.mp z with z | z
    · exact (h1 _ z).2.1 rfl
    · exact absurd (List.mem_singleton.mp z) (by decide +kernel)
  · rw [List.mem_singleton.mp hy] at e
    exact (h1 x hx).2.2 e
theorem rowsB_fit {xs : List Str} {f : RF} {rl : Str} (hx : ∀ x ∈ xs, isName x = true) (hl : xs.length ≤ 10) (hd : f.dep ≤ 3) (he : f.every NdOk) (hr : isName rl = true) : ∀ ws ∈ rowsB xs (f.pre 0) rl, ws ≠ [] ∧ ws.length ≤ 30 ∧ ∀ x ∈ ws, Wd9 x := by
  have nm9 : ∀ {x : Str}, isName x = true → Wd9 x := fun h => ⟨by have := name_len h; omega, (name_word h).2⟩
  intro ws h
  unfold rowsB at h
  rcases List.mem_append.mp h with h | h
  · rcases List.mem_cons.mp h with rfl | h
    · refine ⟨List.cons_ne_nil _ _, by rw [List.length_cons]; omega, fun x h => ?_⟩
      rcases List.mem_cons.mp h with rfl | h
      · exact ⟨by decide, by decide +kernel⟩
      · exact nm9 (hx x h)
    · obtain ⟨q, hq, rfl⟩ := List.mem_map.mp h
      have hpd := pre_dep f 0 q hq
      have hn := (RF.pre_in (p := NdOk) q hq).2.2 he |>.1
      have hln := hn.len
      have pl : ∀ (wd : Str) (xs : List Str), xs.length ≤ 8 → (partW wd xs).length ≤ 9 := fun wd xs h => by
        unfold partW
        split
        · exact Nat.zero_le _
        · rw [List.length_cons]
          omega
      refine ⟨by unfold wordsN; simp, ?_, fun x hx' => ⟨?_, (wordsN_word hn x hx').2⟩⟩
      · have a1 := pl "if" q.1.hs hln.1
        have a2 := pl "not" q.1.fs hln.2
        unfold wordsN
        rw [List.length_append, List.length_append, List.length_append, List.length_replicate]
        show q.2 + 3 + _ + _ ≤ 30
        omega
      · have := (wordsN_ok hn (k := q.2) (by omega)).2 x hx'
        omega
  · rw [List.mem_singleton.mp h]
    refine ⟨List.cons_ne_nil _ _, (by show 2 ≤ 30; decide), fun x h => ?_⟩
    rcases List.mem_cons.mp h with rfl | h
    · exact ⟨by decide, by decide +kernel⟩
    · rw [List.mem_singleton.mp h]; exact nm9 hr
theorem strs_inj {a b : List Str} (h : a.map V.str = b.map V.str) : a = b := by
  induction a generalizing b with
  | nil => cases b with | nil => rfl | cons _ _ => cases h
  | cons x r ih =>
    cases b with
    | nil => cases h
    | cons y t =>
      injection h with h1 h2
      rw [V.str.inj h1, ih h2]
theorem BI.mk0 {H : Hp} {a l DD sm : Addr} {us : List V} {rs : List (List Str)} (R : RS H a l) (eD : H DD = some (.lst us)) (hu : All2 (LstAt AllL H) us rs) (nd : rs.Nodup) (h0 : rs ≠ []) (hw : ∀ ws ∈ rs, ws ≠ [] ∧ ∀ x ∈ ws, Wd9 x) (n : H sm = none) : BI (upd H sm (.lst (some12.map V.str))) a l DD sm rs := by
  have s := (Same.refl H).put (o := .lst (some12.map V.str)) n
  obtain ⟨sa, sl⟩ := R.no n
  have sD : sm ≠ DD := fun z => by rw [← z, n] at eD; cases eD
  obtain ⟨ps, hps⟩ : ∃ ps : List Addr, us = ps.map V.ref := by
    clear nd h0 hw eD
    induction hu with
    | nil => exact ⟨[], rfl⟩
    | cons h _ ih =>
      obtain ⟨l', e, _, _⟩ := h
      obtain ⟨ps, h2⟩ := ih
      exact ⟨l' :: ps, by rw [e, h2]; rfl⟩
  subst hps
  have hq : All2 (fun p (ws : List Str) => H p = some (.lst (ws.map V.str))) ps rs := All2.of_get (by have := hu.len; rw [List.length_map] at this; exact this) fun i p ws hp hw' => by
    obtain ⟨ws2, h2, l', e, _, h3⟩ := hu.get (i := i) (a := .ref p) (by rw [List.getElem?_map, hp]; rfl)
    rw [hw'] at h2
    cases h2
    cases e
    exact h3
  have hpl := hq.len
  obtain ⟨st, kk, ns, r1, r2, _⟩ := id R
  have hpn : ∀ p ∈ ps, p ≠ a ∧ p ≠ l ∧ p ≠ DD ∧ p ≠ sm := fun p hp => by
    obtain ⟨i, hi⟩ := List.mem_iff_getElem?.mp hp
    obtain ⟨ws, hws, e⟩ := hq.get hi
    have hne := (hw ws (List.mem_of_getElem? hws)).1
    obtain ⟨x, r, rfl⟩ := List.exists_cons_of_ne_nil hne
    refine ⟨fun z => ?_, fun z => ?_, fun z => ?_, fun z => ?_⟩
    · rw [z, r1] at e
      injection e with e; injection e with e; injection e with e; cases e
    · rw [z, r2] at e
      cases ns with
      | nil => injection e with e; injection e with e; cases e
      | cons _ _ => injection e with e; injection e with e; injection e with e; cases e
    · rw [z, eD] at e
      cases ps with
      | nil => cases hp
      | cons _ _ => injection e with e; injection e with e; injection e with e; cases e
    · rw [z, n] at e; cases e
  have hne : ps ≠ [] := fun z => by rw [z] at hpl; exact h0 (List.eq_nil_of_length_eq_zero hpl.symm)
  obtain ⟨p0, pr, rfl⟩ := List.exists_cons_of_ne_nil hne
  refine ⟨R.same s, h0, fun ws h => (hw ws h).2, upd_same, ⟨sa, sl, sD⟩, ⟨fun z => ?_, fun z => ?_⟩, p0 :: pr, s _ _ eD, ?_, hpn, hq.mono fun p ws e => s _ _ e⟩
  · rw [z, r1] at eD
    injection eD with e; injection e with e; injection e with e; cases e
  · rw [z, r2] at eD
    cases ns with
    | nil => injection eD with e; injection e with e; cases e
    | cons _ _ => injection eD with e; injection e with e; injection e with e; cases e
  · rw [List.nodup_iff_pairwise_ne, List.pairwise_iff_getElem]
    intro i j hi hj hij z
    obtain ⟨w1, hw1, e1⟩ := hq.get (List.getElem?_eq_getElem hi)
    obtain ⟨w2, hw2, e2⟩ := hq.get (List.getElem?_eq_getElem hj)
    rw [z, e2] at e1
    have ew : w1 = w2 := (strs_inj (by injection e1 with e1; injection e1)).symm
    rw [ew] at hw1
    have hil := (List.getElem?_eq_some_iff.mp hw1).1
    have := (List.getElem?_inj hil nd).mp (hw1.trans hw2.symm)
    omega
end Sc
namespace Sc
open PySem PySem.Spec PyProof.Rows L2
section
variable {X : Cx} {CX : CXT} {k : Nat} {C g : Addr} {fd : FuncData} {ps : List Str} {sp : Sp} {E : XK}
/-- x in o, o of the class at C with its own __contains__ at g -/
def rInO (C : Addr) (sp : Sp) (E : XK) (neg : Bool) : R2 := fun x y H Q => ∃ (a dx : Addr) (fs : List (Str × V)), y = .ref a ∧ H a = some (.ins C dx fs) ∧ sp [y, x] H (fun v H' => ∃ b, v = .bl b ∧ Q (.bl (if neg then !b else b)) H') E
theorem op_inO (hs : PySem.W.findIn X.K (.ref C) "__contains__" = some (some (.ref g))) (hf : PySem.W.isFn X.K (.ref g) = true) (F : FnOk X.prog X.w X.K X.mg X.base CX k g fd ps sp) (hr : Room k X.A) (hb : Binds X.K fd ps []) (hx : Passes CX X E) : OpR X (compareOp .In) (rInO C sp E false) := by
  intro pins s σ H x y v u Q I rx ry h
  obtain ⟨a, dx, fs, rfl, ha, q⟩ := h
  cases (show u = Value.ref a from ry)
  obtain ⟨mA, O, _⟩ := ins_get I.hok ha
  obtain ⟨od, J, _⟩ := O.look
  obtain ⟨m, hF⟩ := I.fr
  refine PySem.W.in_K hF I.ok.mod.kin J hs hf ?_
  refine wpAny_mono (run_fn (us := [.ref a, v]) (vs := [.ref a, x]) (dvs := []) F hr hb .nil hx I (.cons rfl (.cons rx .nil)) q) (fun w s' z => ?_) fun _ _ x => x
  obtain ⟨z', H', I', rz, b, rfl, qz⟩ := z
  cases rz
  exact wpAny_pure ⟨.bl b, H', I', rfl, qz⟩
theorem op_ninO (hs : PySem.W.findIn X.K (.ref C) "__contains__" = some (some (.ref g))) (hf : PySem.W.isFn X.K (.ref g) = true) (F : FnOk X.prog X.w X.K X.mg X.base CX k g fd ps sp) (hr : Room k X.A) (hb : Binds X.K fd ps []) (hx : Passes CX X E) : OpR X (compareOp .NotIn) (rInO C sp E true) := by
  intro pins s σ H x y v u Q I rx ry h
  obtain ⟨a, dx, fs, rfl, ha, q⟩ := h
  cases (show u = Value.ref a from ry)
  obtain ⟨mA, O, _⟩ := ins_get I.hok ha
  obtain ⟨od, J, _⟩ := O.look
  obtain ⟨m, hF⟩ := I.fr
  refine PySem.W.notIn_K hF I.ok.mod.kin J hs hf ?_
  refine wpAny_mono (run_fn (us := [.ref a, v]) (vs := [.ref a, x]) (dvs := []) F hr hb .nil hx I (.cons rfl (.cons rx .nil)) q) (fun w s' z => ?_) fun _ _ x => x
  obtain ⟨z', H', I', rz, b, rfl, qz⟩ := z
  cases rz
  exact wpAny_pure ⟨.bl (!b), H', I', rfl, qz⟩
/-- o[k], o of the class at C with its own __getitem__ at g -/
def rIxO (C : Addr) (sp : Sp) (E : XK) : R2 := fun x y H Q => ∃ (a dx : Addr) (fs : List (Str × V)), x = .ref a ∧ H a = some (.ins C dx fs) ∧ sp [x, y] H Q E
theorem pe_ixO {a b : Expr} {pos : Pos} {ta tb : TE} (hs : PySem.W.findIn X.K (.ref C) "__getitem__" = some (some (.ref g))) (hfn : PySem.W.fnIn X.K g = true) (hf : PySem.W.isFn X.K (.ref g) = true) (F : FnOk X.prog X.w X.K X.mg X.base CX k g fd ps sp) (hr : Room (k + 1) X.A) (hbd : Binds X.K fd ps []) (hx : Passes CX X E)
    (ha : PE X a ta) (hb : PE X b tb) (hsl : ∀ v u, subscripted b true v u = runValue (.builtin "lifetime.subscript" ⟨[v, u], []⟩)) : PE X (.Subscript a b pos) (tOp (rIxO C sp E) ta tb) := by
  refine ⟨fun pins s σ H Q I h => ?_⟩
  refine Subscript_ (binT ha hb I h fun v u s2 x y H2 I2 rx ry q => ?_)
  obtain ⟨o, dx, fs, rfl, ho, q⟩ := q
  cases (show v = Value.ref o from rx)
  obtain ⟨mA, O, _⟩ := ins_get I2.hok ho
  obtain ⟨od, J, _⟩ := O.look
  obtain ⟨m, hF⟩ := I2.fr
  refine PySem.W.sub_K hF I2.ok.mod.kin J hs hfn hf ?_ (hsl _ _)
  have hl : ([Value.ref o, u] ++ ([] : List Value)).length = ps.length := F.len _ _ _ _ q
  refine wpAny_call (codeAny_mono (F.run X.A.in1 X.stack s2 H2 ⟨[.ref o, u], []⟩ [.ref o, u] [.ref o, y] _ _ hr.in1 I2.env0.in1 (hbd s2 [.ref o, u] I2.kIn hl) (.cons rfl (.cons ry .nil)) q) fun r s' hq => ?_)
  cases r with
  | error e => exact hx pins σ H2 s2 e s' I2 hq
  | ok fl =>
    cases fl with
    | ret w =>
      obtain ⟨v, H', I', rv, qz⟩ := I2.after hq
      exact ⟨v, H', I', rv, qz⟩
    | next => exact hq.elim
    | brk => exact hq.elim
    | cont => exact hq.elim
/-- o op x, o of the class at C with its own method, x a text -/
def rBinS (C : Addr) (sp : Sp) (E : XK) : R2 := fun x y H Q => ∃ (a dx : Addr) (fs : List (Str × V)) (z : Str), x = .ref a ∧ y = .str z ∧ H a = some (.ins C dx fs) ∧ sp [x, y] H Q E
theorem op_binS {op : Operator} {fo ro rc : Option Value} (hc : PySem.W.selfFirst X.K C = true) (hs : PySem.W.findIn X.K (.ref C) (PySem.dunder op.info.2) = some (some (.ref g))) (hf : PySem.W.isFn X.K (.ref g) = true)
    (hR : PySem.W.findIn X.K (.ref C) (dunderR op.info.2) = some rc) (hp : rc = none ∨ ∃ g : Addr, rc = some (.ref g)) (h1 : PySem.W.findIn X.K (.type "str") (PySem.dunder op.info.2) = some fo) (h2 : PySem.W.findIn X.K (.type "str") (dunderR op.info.2) = some ro)
    (hsub : PySem.W.subIn X.K (.type "str") (.ref C) = some false) (F : FnOk X.prog X.w X.K X.mg X.base CX k g fd ps sp) (hr : Room k X.A) (hb : Binds X.K fd ps []) (hx : Passes CX X E) : OpR X (binaryOp op) (rBinS C sp E) := by
  intro pins s σ H x y v u Q I rx ry h
  obtain ⟨a, dx, fs, z, rfl, rfl, ha, q⟩ := h
  cases (show v = Value.ref a from rx)
  obtain ⟨t, rfl⟩ := (show ∃ t, u = Value.str z t from ry)
  obtain ⟨mA, O, _⟩ := ins_get I.hok ha
  obtain ⟨od, J, _⟩ := O.look
  obtain ⟨m, hF⟩ := I.fr
  refine PySem.W.ksp_binT (T := "str") hF I.ok.mod.kin J rfl hc hs hf hR hp h1 h2 hsub ?_
  refine wpAny_mono (run_fn (us := [.ref a, .str z t]) (vs := [.ref a, .str z]) (dvs := []) F hr hb .nil hx I (.cons rfl (.cons ⟨t, rfl⟩ .nil)) q) (fun w s' z => ?_) fun _ _ x => x
  obtain ⟨z', H', I', rz, qz⟩ := z
  exact SlX.cmpback rz ⟨z', H', I', rz, qz⟩
end
end Sc
namespace Sc
open PySem PySem.Spec PyProof.Rows L2
/-- a def that keeps two promises keeps either -/
theorem _root_.L2.FnOk.either {P : Program} {w : World} {K : PySem.W.Frag} {mg : Str → Option Value} {base : Heap} {CX : CXT} {k : Nat} {f : Addr} {fd : FuncData} {ps : List Str} {sp sp' : Sp} (F : FnOk P w K mg base CX k f fd ps sp) (G : FnOk P w K mg base CX k f fd ps sp') :
    FnOk P w K mg base CX k f fd ps (fun vs H Q E => sp vs H Q E ∨ sp' vs H Q E) :=
  ⟨fun vs H Q E h => h.elim (F.len vs H Q E) (G.len vs H Q E), fun A outer s H args us vs Q E hr e b v h => h.elim (F.run A outer s H args us vs Q E hr e b v) (G.run A outer s H args us vs Q E hr e b v)⟩
section
variable {X : Cx}
theorem op_or {f : Value → Value → Sem Value} {r r' : R2} (h : OpR X f r) (h' : OpR X f r') : OpR X f (fun x y H Q => r x y H Q ∨ r' x y H Q) :=
  fun pins s σ H x y v u Q I rx ry q => q.elim (h pins s σ H x y v u Q I rx ry) (h' pins s σ H x y v u Q I rx ry)
/-- a tuple in a tuple of texts: no -/
def rInNo (K : PySem.W.Frag) (neg : Bool) : R2 := fun x y H Q => ∃ (a p : Addr) (ys : List V) (xs : List Str), x = .ref a ∧ y = .ref p ∧ SqT K H a ys ∧ SqT K H p (xs.map V.str) ∧ Q (.bl neg) H
theorem any_no : ∀ xs : List Value, xs.any (fun _ => false) = false
  | [] => rfl
  | _ :: r => by rw [List.any_cons, any_no r]; rfl
theorem strs_of : ∀ {xs : List Str} {us : List Value}, Vals (xs.map V.str) us → ∀ w ∈ us, ∃ z t, w = Value.str z t
  | [], _, .nil => fun w hw => by cases hw
  | x :: r, u :: us, .cons h t => fun w hw => by
    obtain ⟨tk, rfl⟩ := (show ∃ tk, u = Value.str x tk from h)
    rcases List.mem_cons.mp hw with rfl | hw
    · exact ⟨_, _, rfl⟩
    · exact strs_of t w hw
theorem op_in_no (hu : X.A.units + 64 < cLine) : OpR X (compareOp .In) (rInNo X.K false) := by
  intro pins s σ H x y v u Q I rx ry h
  obtain ⟨a, p, ys, xs, rfl, rfl, ha, hp, q⟩ := h
  cases rx
  cases ry
  obtain ⟨its, r, pl, hz⟩ := I.tuple hp
  obtain ⟨its2, r2, pl2, _⟩ := I.tuple ha
  refine SeqAt.in_tupleAt (fun _ => false) pl (fun w hw => ?_) ⟨.bl _, H, I, rfl, ?_⟩
  · obtain ⟨z, t, rfl⟩ := strs_of r w (by simpa using hw)
    exact SeqAt.EqAt.str_tuple z t pl2 (by show X.A.units + 1 < cLine; omega)
  · rw [show its.toArray.any (fun _ => false) = its.any (fun _ => false) by simp, any_no]
    exact q
theorem op_nin_no (hu : X.A.units + 64 < cLine) : OpR X (compareOp .NotIn) (rInNo X.K true) := by
  intro pins s σ H x y v u Q I rx ry h
  obtain ⟨a, p, ys, xs, rfl, rfl, ha, hp, q⟩ := h
  cases rx
  cases ry
  obtain ⟨its, r, pl, hz⟩ := I.tuple hp
  obtain ⟨its2, r2, pl2, _⟩ := I.tuple ha
  refine SeqAt.notIn_tupleAt (fun _ => false) pl (fun w hw => ?_) ⟨.bl _, H, I, rfl, ?_⟩
  · obtain ⟨z, t, rfl⟩ := strs_of r w (by simpa using hw)
    exact SeqAt.EqAt.str_tuple z t pl2 (by show X.A.units + 1 < cLine; omega)
  · rw [show its.toArray.any (fun _ => false) = its.any (fun _ => false) by simp, any_no]
    exact q
end
end Sc
namespace Sc
open PySem PySem.Spec PyProof.Rows L2
theorem sc_law : FnScope ["_law_script", "_law_h", "_law_lap", "_law_rows", "_law_text_here", "_law_letters", "_law_many", "_law_names", "_law_deep", "_law_found", "_law_wide", "_law_k"] ["_law_script"] (defScope s_law) := ⟨rfl, rfl, rfl, by decide +kernel, rfl, by decide +kernel, by decide +kernel⟩
theorem ResAt.same {K : PySem.W.Frag} {H H' : Hp} {v : V} {r : (Nat × Nat) ⊕ (List Str × List (Nd × Nat) × Str)} (s : Same H H') (h : ResAt K H v r) : ResAt K H' v r := by
  rcases r with ⟨a, b⟩ | ⟨xs, tl, rl⟩
  · obtain ⟨t, e, h⟩ := h
    exact ⟨t, e, s.tup h⟩
  · obtain ⟨t, f, e, h, hf⟩ := h
    exact ⟨t, f, e, h.keeps (N := NoL) s.keeps, hf⟩
theorem at_seenN {K : PySem.W.Frag} {H : Hp} {m : Nat} {p : Addr} {xs : List Str} {f : RF} {rl : Str} (h : SeenAt K H p xs f rl) (hm : 12 ≤ m) (l : xs.length ≤ 60) (ev : f.every NdOk) (hz : f.size ≤ 900) (hd : f.dep ≤ 6) : AT K H (m + 2) (.ref p) (.tuple [.tuple (xs.map PyData.str), .tuple f.dats, .str rl]) := by
  obtain ⟨fp, pr, ws, h1, h2, h3, h4⟩ := h
  have hel := h4.len
  have hez := RF.nodes_le f
  refine .tup h1 rfl (by show 3 ≤ 1000000; decide) fun j x d hx hd' => ?_
  match j, hx, hd' with
  | 0, hx, hd' => cases hx; cases hd'; exact at_strs h2 (by omega)
  | 1, hx, hd' => cases hx; cases hd'; exact .tup h3 (by rw [hel, dats_len]) (by omega) fun k x d hx hd'' => at_rows h4 ev hz (by omega) k x d hx hd''
  | 2, hx, hd' => cases hx; cases hd'; exact .str _ _
  | j + 3, hx, hd' => cases hx
theorem res_at {K : PySem.W.Frag} {H : Hp} {v1 v2 : V} {r : (Nat × Nat) ⊕ (List Str × List (Nd × Nat) × Str)} (m : Nat) (hm : 12 ≤ m) (h1 : ResAt K H v1 r) (h2 : ResAt K H v2 r) (fit : ∀ xs tl rl, r = .inr (xs, tl, rl) → xs.length ≤ 60 ∧ ToldOk xs tl) : ∃ d, AT K H (m + 2) v1 d ∧ AT K H (m + 2) v2 d := by
  rcases r with ⟨a, b⟩ | ⟨xs, tl, rl⟩
  · obtain ⟨t1, rfl, h1⟩ := h1
    obtain ⟨t2, rfl, h2⟩ := h2
    have g : ∀ {t : Addr}, SqT K H t [.int (a : Nat), .int (b : Nat)] → AT K H (m + 2) (.ref t) (.tuple [.int (a : Nat), .int (b : Nat)]) := fun h => by
      refine .tup h rfl (by show 2 ≤ 1000000; decide) fun j x d hx hd => ?_
      match j, hx, hd with
      | 0, hx, hd => cases hx; cases hd; exact .int _ _
      | 1, hx, hd => cases hx; cases hd; exact .int _ _
      | j + 2, hx, hd => cases hx
    exact ⟨_, g h1, g h2⟩
  · obtain ⟨t1, f1, rfl, h1, hf1⟩ := h1
    obtain ⟨t2, f2, rfl, h2, hf2⟩ := h2
    obtain rfl : f1 = f2 := flat_inj f1 f2 0 (hf1.trans hf2.symm)
    obtain ⟨hx, hto⟩ := fit _ _ _ rfl
    obtain ⟨hd, hz, hev⟩ := flat_fit hf1 hto
    exact ⟨_, at_seenN h1 hm hx hev (by omega) hd, at_seenN h2 hm hx hev (by omega) hd⟩
theorem names12_len {f : RF} {k : Nat} {ns : List Str} (e : f.names ++ ns = names12.drop k) : f.size ≤ 12 := by
  have h1 := congrArg List.length e
  rw [List.length_append, List.length_drop] at h1
  have h2 : names12.length = 12 := rfl
  have h3 : f.names.length = f.size := by rw [← RF.pre_names f 0, List.length_map, RF.pre_len]
  omega
theorem twelve_words : ∀ x ∈ names12, x ≠ sgn ∧ x ≠ Str.ofString "facts" ∧ x ≠ Str.ofString "else" := by decide +kernel
theorem rowsB_len {xs : List Str} {f : RF} {rl : Str} : (rowsB xs (f.pre 0) rl).length = f.size + 2 := by
  unfold rowsB
  rw [List.length_append, List.length_cons, List.length_map, RF.pre_len]
  rfl
theorem bi_all {H : Hp} {a l DD sm : Addr} {rs : List (List Str)} (h : BI H a l DD sm rs) : ∃ us, H DD = some (.lst us) ∧ All2 (LstAt AllL H) us rs := by
  obtain ⟨ps, h1, _, _, h4⟩ := h.at_
  refine ⟨_, h1, All2.of_get (by rw [List.length_map]; exact h4.len) fun i u ws hu hw => ?_⟩
  rw [List.getElem?_map] at hu
  cases hp : ps[i]? with
  | none => rw [hp] at hu; cases hu
  | some p =>
    rw [hp] at hu
    obtain rfl : V.ref p = u := Option.some.inj hu
    obtain ⟨ws2, hw2, e⟩ := h4.get hp
    rw [hw] at hw2
    cases hw2
    exact ⟨p, rfl, trivial, e⟩
abbrev lt10 : Str := Str.ofString "abcdefghij"
theorem lt_at : ∀ j, j < 10 → lt10.cps.toList[j]? = some (97 + j) := by decide +kernel
abbrev sg (c : Nat) : Str := ⟨#[c]⟩
def nm2 (k : Nat) : Str := sg (97 + k / 10) ++ sg (97 + k % 10)
def nm3 (k : Nat) : Str := (Str.ofString "f" ++ sg (97 + k / 10)) ++ sg (97 + k % 10)
theorem tl_sg (c : Nat) : TL.tl (sg c) = [c] := rfl
theorem nm2_len (k : Nat) : (nm2 k).length = 2 := by
  rw [TL.len_tl, nm2, TL.tl_append, tl_sg, tl_sg]
  rfl
theorem nm3_len (k : Nat) : (nm3 k).length = 3 := by
  rw [TL.len_tl, nm3, TL.tl_append, TL.tl_append, tl_sg, tl_sg]
  rfl
theorem sg_len (c : Nat) : (sg c).length = 1 := rfl
theorem appS_len (x y : Str) : (x ++ y).length = x.length + y.length := by rw [TL.len_tl, TL.tl_append, List.length_append, ← TL.len_tl, ← TL.len_tl]
theorem nm2_ok (k : Nat) : Wd9 (nm2 k) := by
  refine ⟨by rw [nm2_len]; decide, fun h => ?_⟩
  rw [nm2, TL.tl_append, tl_sg, tl_sg] at h
  rcases List.mem_cons.mp h with h | h
  · omega
  · have := List.mem_singleton.mp h
    omega
theorem at_div {k : Nat} (h : k < 100) {i : Int} (e : i = ((k / 10 : Nat) : Int)) : atI lt10.cps.toList i = some (97 + k / 10) := by
  rw [e]
  exact atI_nat (lt_at _ (by omega))
theorem at_mod {k : Nat} {i : Int} (e : i = ((k % 10 : Nat) : Int)) : atI lt10.cps.toList i = some (97 + k % 10) := by
  rw [e]
  exact atI_nat (lt_at _ (by omega))
def tSg : TE := fun σ H Q => ∃ (k d : Int), σ[11]? = some (some (.int k)) ∧ σ[8]? = some (some (.int d)) ∧ ∀ c : Nat, c ≤ 1 → Q (.int (c : Nat)) H
section
variable {P : Program} {w : World} {K : PySem.W.Frag} {mg : Str → Option Value} {base : Heap} {C R B0 CE CT : Addr}
def sp_law (K : PySem.W.Frag) : Sp := fun vs H Q _ => ∃ (s : Addr) (ns : List Int), vs = [.ref s] ∧ SqL K H s (ns.map V.int) ∧ ns.length ≤ 63 ∧ (∀ z ∈ ns, Builtin.Int.intBits z ≤ 1048576) ∧ ∀ H', Q (.bl true) H'
theorem ok_law {f : Addr} {fd : FuncData} (F : Fun K "law" "law" s_law f fd) (B : Blt mg)
    (c__law_mix : Cal P w K mg base CX0 1 "_law_mix" ["_law_script", "_law_seed"] (sp_mix K)) (c__law_next : Cal P w K mg base CX0 1 "_law_next" ["_law_h", "_law_limit"] sp_next)
    (c__law_facts : Cal P w K mg base CX0 2 "_law_facts" ["_law_h", "_law_most"] sp_facts) (c__law_drawn : Cal P w K mg base CX0 6 "_law_drawn" ["_law_h", "_law_facts_here", "_law_most"] (sp_drawn K))
    (c__law_rows_of : Cal P w K mg base CX0 15 "_law_rows_of" ["_law_drawn_here"] (sp_rows_of K)) (c__law_text : Cal P w K mg base CX0 1 "_law_text" ["_law_rows"] (sp_text K)) (c__law_bent : Cal P w K mg base CX0 2 "_law_bent" ["_law_h", "_law_rows"] sp_bent)
    (c__law_read : Cal P w K mg base CX0 9 "_law_read" ["_law_text_here"] (sp_read K)) (c__law_parsed : Cal P w K mg base CX0 20 "_law_parsed" ["_law_text_here"] (sp_parsed K))
    (c__law_alike : Cal P w K mg base CX0 31 "_law_alike" ["_law_found", "_law_due"] (sp_alikeT K 30)) : FnOk P w K mg base CX0 32 f fd ["_law_script"] (sp_law K) := by
  refine F.ok sc_law (fun vs H Q E h => by obtain ⟨s, ns, rfl, _⟩ := h; rfl) (fun cdv A outer s H vs Q E hr h => ?_)
  obtain ⟨s, ns, rfl, hS, hl, hb, q⟩ := h
  refine ⟨_, (pss_cons (ps_set (i := 1) sc_law.nd rfl (Or.inl rfl) (pe_cal c__law_mix (hr.mono (by decide)) (pa_cons (pv 0) (pa_cons pe_int pa_nil))))
      (pss_cons (ps_for PassesOwn.never rfl (pi_range1 (by rfl) B.b_range (pa_cons pe_int pa_nil)) (pg_name (i := 2) sc_law.nd rfl (Or.inl rfl)) (pss_cons (ps_set (i := 3) sc_law.nd rfl (Or.inl rfl) (pe_cal c__law_bent (hr.mono (by decide)) (pa_cons (pv 1) (pa_cons (pe_cal c__law_rows_of (hr.mono (by decide)) (pa_cons (pe_cal c__law_drawn (hr.mono (by decide)) (pa_cons (pv 1) (pa_cons (pe_cal c__law_facts (hr.mono (by decide)) (pa_cons (pv 1) (pa_cons pe_int pa_nil))) (pa_cons pe_int pa_nil)))) pa_nil)) pa_nil))))
      (pss_cons (ps_set (i := 4) sc_law.nd rfl (Or.inl rfl) (pe_cal c__law_text (hr.mono (by decide)) (pa_cons (pv 3) pa_nil)))
      (pss_one (ps_if (pt_not (pt_val (pe_cal c__law_alike (hr.mono (by decide)) (pa_cons (pe_cal c__law_parsed (hr.mono (by decide)) (pa_cons (pv 4) pa_nil)) (pa_cons (pe_cal c__law_read (hr.mono (by decide)) (pa_cons (pv 4) pa_nil)) pa_nil))))) (pss_one (ps_ret pe_bl)) pss_nil)))))
      (pss_cons (ps_asg (pe_tup (pa_cons pe_str (pa_cons (pe_op op_add pe_int (pe_cal c__law_next (hr.mono (by decide)) (pa_cons (pv 1) (pa_cons pe_int pa_nil)))) pa_nil))) (pg_tup (by rfl) (pgs_cons (pg_name (i := 5) sc_law.nd rfl (Or.inr rfl)) (pgs_cons (pg_name (i := 6) sc_law.nd rfl (Or.inl rfl)) pgs_nil))))
      (pss_cons (ps_set (i := 7) sc_law.nd rfl (Or.inr rfl) (pe_lc (own := [("_law_k", 11)]) (g := gName 11) (tt := tYes) rfl sc_law.nd (pi_range1 (by rfl) B.b_range (pa_cons (pv 6) pa_nil)) (blkOk_by (own := [("_law_k", 11)]) (N := ["_law_script", "_law_h", "_law_lap", "_law_rows", "_law_text_here", "_law_letters", "_law_many", "_law_names", "_law_deep", "_law_found", "_law_wide", "_law_k"]) (sc := defScope s_law) (by decide +kernel)) (fun _ _ _ _ _ => (pg_name (i := 11) sc_law.nd rfl (Or.inl rfl))) (fun _ _ _ _ _ => pts_nil) (fun _ _ _ _ _ => (pe_.re (pe_op op_add_str (pe_ix ix_str (pv 5) (pe_op op_fdiv (pv 11) pe_int) (fun _ _ => rfl)) (pe_ix ix_str (pv 5) (pe_op op_mod (pe_callTy call_int1 (by rfl) B.b_int PyProof.Rows.boot_int (pa_cons (pv 11) pa_nil)) pe_int) (fun _ _ => rfl))) (by first | (dsimp only [Cx.blk]; done) | exact rfl)))))
      (pss_cons (ps_set (i := 8) sc_law.nd rfl (Or.inr rfl) (pe_cal c__law_next (hr.mono (by decide)) (pa_cons (pv 1) (pa_cons pe_int pa_nil))))
      (pss_cons (ps_set (i := 3) sc_law.nd rfl (Or.inl rfl) (pe_op op_cat (pe_lst (pa_cons (pe_lst (pa_cons pe_str (pa_cons pe_str pa_nil))) pa_nil)) (pe_lc (own := [("_law_k", 11)]) (g := gName 11) (tt := tYes) rfl sc_law.nd (pi_range1 (by rfl) B.b_range (pa_cons (pv 6) pa_nil)) (blkOk_by (own := [("_law_k", 11)]) (N := ["_law_script", "_law_h", "_law_lap", "_law_rows", "_law_text_here", "_law_letters", "_law_many", "_law_names", "_law_deep", "_law_found", "_law_wide", "_law_k"]) (sc := defScope s_law) (by decide +kernel)) (fun _ _ _ _ _ => (pg_name (i := 11) sc_law.nd rfl (Or.inl rfl))) (fun _ _ _ _ _ => pts_nil) (fun _ _ _ _ _ => (pe_.re (pe_op op_cat (pe_op op_rep (pe_lst (pa_cons pe_str pa_nil)) (pe_wk (tSg) (pe_callTy call_int1 (by rfl) B.b_int PyProof.Rows.boot_int (pa_cons (pe_and (pe_cmpR op_gt (pv 11) pe_int (nomark _)) (pe_one (pe_cmpR op_eq (pv 8) pe_int (nomark _)))) pa_nil)) ?wg)) (pe_lst (pa_cons (pe_ix ix_list (pv 7) (pv 11) (fun _ _ => rfl)) (pa_cons pe_str (pa_cons pe_str pa_nil))))) (by first | (dsimp only [Cx.blk]; done) | exact rfl))))))
      (pss_cons (ps_set (i := 4) sc_law.nd rfl (Or.inl rfl) (pe_cal c__law_text (hr.mono (by decide)) (pa_cons (pe_op op_cat (pv 3) (pe_lst (pa_cons (pe_lst (pa_cons pe_str (pa_cons pe_str pa_nil))) pa_nil))) pa_nil)))
      (pss_cons (ps_set (i := 9) sc_law.nd rfl (Or.inl rfl) (pe_callTy call_tuple_of (by rfl) B.b_tuple PyProof.Rows.boot_tuple (pa_cons (pe_lc (own := [("_law_k", 11)]) (g := gName 11) (tt := tYes) rfl sc_law.nd (pi_range1 (by rfl) B.b_range (pa_cons (pe_op op_add pe_int (pe_cal c__law_next (hr.mono (by decide)) (pa_cons (pv 1) (pa_cons pe_int pa_nil)))) pa_nil)) (blkOk_by (own := [("_law_k", 11)]) (N := ["_law_script", "_law_h", "_law_lap", "_law_rows", "_law_text_here", "_law_letters", "_law_many", "_law_names", "_law_deep", "_law_found", "_law_wide", "_law_k"]) (sc := defScope s_law) (by decide +kernel)) (fun _ _ _ _ _ => (pg_name (i := 11) sc_law.nd rfl (Or.inl rfl))) (fun _ _ _ _ _ => pts_nil) (fun _ _ _ _ _ => (pe_.re (pe_op op_add_str (pe_op op_add_str pe_str (pe_ix ix_str (pv 5) (pe_op op_fdiv (pv 11) pe_int) (fun _ _ => rfl))) (pe_ix ix_str (pv 5) (pe_op op_mod (pe_callTy call_int1 (by rfl) B.b_int PyProof.Rows.boot_int (pa_cons (pv 11) pa_nil)) pe_int) (fun _ _ => rfl))) (by first | (dsimp only [Cx.blk]; done) | exact rfl)))) pa_nil)))
      (pss_cons (ps_set (i := 10) sc_law.nd rfl (Or.inl rfl) (pe_op op_add_str (pe_op op_add_str pe_str (pe_join pe_str (pv 9))) pe_str))
      (pss_one (ps_ret (pe_cal c__law_alike (hr.mono (by decide)) (pa_cons (pe_lst (pa_cons (pe_cal c__law_parsed (hr.mono (by decide)) (pa_cons (pv 4) pa_nil)) (pa_cons (pe_cal c__law_parsed (hr.mono (by decide)) (pa_cons (pv 10) pa_nil)) pa_nil))) (pa_cons (pe_lst (pa_cons (pe_cal c__law_read (hr.mono (by decide)) (pa_cons (pv 4) pa_nil)) (pa_cons (pe_cal c__law_read (hr.mono (by decide)) (pa_cons (pv 10) pa_nil)) pa_nil))) pa_nil)))))))))))))), ?_⟩
  case wg =>
    rintro σ H1 Q1 ⟨k, d, g11, g8, q⟩
    refine ⟨_, g11, _, 20, rfl, rfl, ?_⟩
    have q' : ∀ b : Bool, Q1 (.int (if b = true then 1 else 0)) H1 := fun b => by
      cases b
      · exact q 0 (by decide)
      · exact q 1 (by decide)
    exact ⟨_, rfl, bcase (fun c => ⟨_, g8, rfl, .inr ⟨_, rfl, q' _⟩⟩) (fun c => .inr ⟨_, rfl, q' _⟩)⟩
  refine ⟨.ref s, rfl, s, ns, 60, rfl, hS, hl, hb, by decide, by decide, fun H1 a l s1 R1 => ?_⟩
  refine ⟨8, rfl, by decide, by decide, for_it walk_range (fun i σ H' => ∃ (y0 y2 y3 y4 y5 y6 y7 y8 y9 y10 y11 : Option V), σ = [y0, some (.ref a), y2, y3, y4, y5, y6, y7, y8, y9, y10, y11] ∧ RS H' a l)
      ⟨_, _, _, _, _, _, _, _, _, _, _, rfl, R1⟩ (fun _ _ _ _ _ => trivial) ?_ ?_⟩
  · rintro i x σ H2 H3 hi ⟨y0, y2, y3, y4, y5, y6, y7, y8, y9, y10, y11, rfl, RR⟩ ⟨rfl, hy⟩
    refine ⟨_, rfl, _, rfl, _, rfl, a, l, 10, rfl, RR, by decide, by decide, fun H4 fp fs k4 efp nfp sub f1 f2 => ?_⟩
    have hright : Right fs := ten_right.sub sub
    refine ⟨a, l, fp, fs, 4, rfl, k4.new, sqT_of efp, hright, by omega, by decide, fun H5 p f0 rl k5 dr hn3 => ?_⟩
    obtain ⟨pr, ws, ep, hP, hX⟩ := dr.at_
    obtain ⟨kk, ns', en⟩ := dr.nm
    have hz := names12_len en
    have hdp := dr.dp
    have hev : f0.every NdOk := RF.every_mono (fun n h => h.ok) dr.ev
    have hrl := three_name _ dr.rl
    have hsl : List.Sublist f0.names names12 := (List.sublist_append_left f0.names ns').trans (by rw [en]; exact List.drop_sublist _ _)
    refine ⟨p, fp, pr, fs, rl, ws, f0, rfl, sqT_of ep, k5.tup (sqT_of efp), by omega, hP, hX, hev, by omega, by omega, fun H6 D us s6 eD hus => ?_⟩
    have hfit := rowsB_fit (xs := fs) (rl := rl) hright.nm (by omega) hdp hev hrl
    have hnd := rowsB_nodup (xs := fs) (rl := rl) (names12_nodup.sublist hsl) (fun x hx => twelve_words x (hsl.subset hx))
    have hlen := rowsB_len (xs := fs) (f := f0) (rl := rl)
    refine ⟨a, l, D, rowsB fs (f0.pre 0) rl, 14, 30, rfl, fun sm nsm => BI.mk0 (k5.new.same s6) eD hus hnd (fun z => by rw [z] at hlen; cases hlen) (fun ws h => ⟨(hfit ws h).1, (hfit ws h).2.2⟩) nsm, by omega, by decide, by decide, fun ws h => (hfit ws h).2.1, fun H7 sm rs' hBI hn hm => ?_⟩
    obtain ⟨us7, eD7, hu7⟩ := bi_all hBI
    refine ⟨_, rfl, D, us7, rs', rfl, eD7, hu7, fun ws h => ⟨by have := hm ws h; omega, fun x hx => (hBI.wd ws h x hx).1⟩, by omega, fun H8 s8 => ?_⟩
    have hft : TxFit2 (Txt.join lf (rs'.map (Txt.join spc))) := fit_rows hBI.ne (by omega) (fun ws h => by have := hm ws h; omega) hBI.wd
    generalize Txt.join lf (rs'.map (Txt.join spc)) = tx at hft ⊢
    refine ⟨_, rfl, tx, rfl, hft, fun H9 v1 s9 h1 => ?_⟩
    refine ⟨_, rfl, tx, rfl, hft, fun H10 v2 s10 h2 => ?_⟩
    obtain ⟨d, a1, a2⟩ := res_at 28 (by decide) (h1.same s10) h2 (fun xs tl rl e => (rdB_ok rowsT_ne e).2)
    refine ⟨v1, v2, d, rfl, a1, a2, fun H11 s11 => ?_⟩
    exact ⟨_, rfl, iteF ⟨_, _, _, _, _, _, _, _, _, _, _, rfl, hBI.R.same (((s8.trans s9).trans s10).trans s11)⟩⟩
  · rintro σ H2 ⟨y0, y2, y3, y4, y5, y6, y7, y8, y9, y10, y11, rfl, R⟩
    refine ⟨_, rfl, a, l, 26, rfl, R, by decide, small_lim (by decide) (by decide), fun H3 r k3 r0 r1 => ⟨_, _, rfl, rfl, (by show 2 ≤ sizeLine; decide), fun T nT => ?_⟩⟩
    obtain ⟨r, rfl⟩ := Int.eq_ofNat_of_zero_le r0
    have s4 := (Same.refl H3).put (o := .tup [.str lt10, .int (38 + (r : Nat))]) nT
    refine ⟨T, _, rfl, sqT_new, rfl, _, _, rfl, _, _, rfl, rfl, ?_⟩
    have R4 := k3.new.same s4
    generalize upd H3 T _ = H4 at s4 R4 ⊢
    refine ⟨_, rfl, _, rfl, by omega, by omega, fun DN nDN => lc_it walk_range (fun i H' => Same H4 H' ∧ H' DN = some (.lst (((List.range i).map nm2).map V.str))) ⟨(Same.refl H4).put nDN, upd_same⟩ (fun _ _ _ _ => trivial) ?_ ?_⟩
    · rintro i y H6 H5 hi ⟨s5, e5⟩ ⟨rfl, hy⟩
      have hi : i < (38 + (r : Int)).toNat := hi
      have hy : y = .int (0 + (i : Nat)) := hy
      obtain rfl : y = .int ((i : Nat) : Int) := hy.trans (congrArg V.int (by omega))
      refine ⟨rfl, yes_ ⟨_, rfl, _, rfl, _, 10, rfl, rfl, ⟨by decide, by decide⟩, lt10, _, _, rfl, rfl, by decide, at_div (k := i) (by omega) (by omega), ?_⟩⟩
      refine ⟨_, rfl, _, rfl, .inl ⟨_, rfl, _, 10, rfl, rfl, (by show (0 : Int) < 10; decide), lt10, _, _, rfl, rfl, by decide, at_mod (k := i) (by omega), _, _, rfl, rfl, (by show 1 + 1 ≤ sizeLine; decide), ?_⟩⟩
      refine grow (acc := fun i => ((List.range i).map nm2).map V.str) nDN s5 e5 ?_ ?_
      · rw [List.length_map, List.length_map, List.length_range]
        exact small1000 (by omega)
      · show List.map V.str (List.map nm2 (List.range (i + 1))) = _
        rw [List.range_succ, List.map_append, List.map_append]
        rfl
    rintro H5 ⟨s5, e5⟩
    have R5 := R4.same s5
    obtain ⟨Na, Nl⟩ := R4.no nDN
    refine ⟨_, rfl, a, l, 2, rfl, R5, by decide, small_lim (by decide) (by decide), fun H6 dp k6 d0 d1 => ?_⟩
    have e6 := k6.keep _ _ Na Nl e5
    have R6 := k6.new
    clear s4 s5 e5 R4 R5 nDN
    refine ⟨(by show 2 ≤ sizeLine; decide), fun l1 n1 => ⟨(by show 1 ≤ sizeLine; decide), fun l2 n2 => ?_⟩⟩
    have f1 := (Same.refl H6).put (o := .lst [.str (Str.ofString "facts"), .str (Str.ofString "late")]) n1
    have f2 : Same (upd H6 l1 (.lst [.str (Str.ofString "facts"), .str (Str.ofString "late")])) (upd (upd H6 l1 (.lst [.str (Str.ofString "facts"), .str (Str.ofString "late")])) l2 (.lst [.ref l1])) := (Same.refl _).put n2
    have e1 := f2 _ _ (show (upd H6 l1 (.lst [.str (Str.ofString "facts"), .str (Str.ofString "late")])) l1 = some (.lst [.str (Str.ofString "facts"), .str (Str.ofString "late")]) from upd_same)
    have e2 : (upd (upd H6 l1 (.lst [.str (Str.ofString "facts"), .str (Str.ofString "late")])) l2 (.lst [.ref l1])) l2 = some (.lst [.ref l1]) := upd_same
    have s7 := f1.trans f2
    have R7 := R6.same s7
    have e7 := s7 _ _ e6
    clear n1 n2 f1 f2 s7 R6 e6
    generalize upd (upd H6 l1 (.lst [.str (Str.ofString "facts"), .str (Str.ofString "late")])) l2 (.lst [.ref l1]) = H7 at e1 e2 R7 e7 ⊢
    refine ⟨_, rfl, _, rfl, by omega, by omega, fun D2 nD2 => lc_it walk_range (fun i H' => ∃ (vs : List V) (rs : List (List Str)), Same H7 H' ∧ H' D2 = some (.lst vs) ∧ All2 (LstAt (fun l => l ≠ D2) H') vs rs ∧ rs.length = i ∧ ∀ ws ∈ rs, ws.length ≤ 4 ∧ ∀ x ∈ ws, Wd9 x) ⟨[], [], (Same.refl H7).put nD2, upd_same, .nil, rfl, fun _ h => nomatch h⟩ (fun _ _ _ _ => trivial) ?_ ?_⟩
    · rintro i y H9 H8 hi ⟨vs, rs, s8, e8, hv, hl8, hw⟩ ⟨rfl, hy⟩
      have hi : i < (38 + (r : Int)).toNat := hi
      have hy : y = .int (0 + (i : Nat)) := hy
      obtain rfl : y = .int ((i : Nat) : Int) := hy.trans (congrArg V.int (by omega))
      refine ⟨rfl, yes_ ⟨(by show 1 ≤ sizeLine; decide), fun l3 n3 => ?_⟩⟩
      have s9 := (Same.refl H8).put (o := .lst [.str (Str.ofString ">")]) n3
      have m3 : (upd H8 l3 (.lst [.str (Str.ofString ">")])) l3 = some (.lst [.str (Str.ofString ">")]) := upd_same
      generalize upd H8 l3 (.lst [.str (Str.ofString ">")]) = H9 at s9 m3 ⊢
      refine ⟨_, _, rfl, rfl, fun c hc => ⟨l3, _, _, rfl, rfl, m3, by omega, by omega, by rw [sizeLine_eq]; show 1 * (c : Int).toNat ≤ _; omega, fun l4 n4 => ?_⟩⟩
      rw [rep_one, Int.toNat_natCast]
      have s10 := (Same.refl H9).put (o := .lst (List.replicate c (V.str (Str.ofString ">")))) n4
      have m4 : (upd H9 l4 (.lst (List.replicate c (V.str (Str.ofString ">"))))) l4 = some (.lst (List.replicate c (V.str (Str.ofString ">")))) := upd_same
      generalize upd H9 l4 (.lst (List.replicate c (V.str (Str.ofString ">")))) = H10 at s10 m4 ⊢
      have s810 := s9.trans s10
      have hgn : (((List.range (38 + (r : Int)).toNat).map nm2).map V.str)[i]? = some (.str (nm2 i)) := by rw [List.getElem?_map, List.getElem?_map, List.getElem?_range hi]; rfl
      refine ⟨_, rfl, _, rfl, DN, _, _, _, rfl, rfl, sqL_of (s810 _ _ (s8 _ _ e7)), atI_nat hgn, (by show 3 ≤ sizeLine; decide), fun l5 n5 => ?_⟩
      have s11 := (Same.refl H10).put (o := .lst [.str (nm2 i), .str (Str.ofString "is"), .str (Str.ofString "fine")]) n5
      have m5 : (upd H10 l5 (.lst [.str (nm2 i), .str (Str.ofString "is"), .str (Str.ofString "fine")])) l5 = some (.lst [.str (nm2 i), .str (Str.ofString "is"), .str (Str.ofString "fine")]) := upd_same
      generalize upd H10 l5 (.lst [.str (nm2 i), .str (Str.ofString "is"), .str (Str.ofString "fine")]) = H11 at s11 m5 ⊢
      refine ⟨l4, l5, _, _, rfl, rfl, s11 _ _ m4, m5, by rw [List.length_replicate, sizeLine_eq]; show c + 3 ≤ _; omega, fun l6 n6 => ?_⟩
      have ew : (List.replicate c (V.str (Str.ofString ">")) ++ [.str (nm2 i), .str (Str.ofString "is"), .str (Str.ofString "fine")]) = ((List.replicate c (Str.ofString ">") ++ [nm2 i, Str.ofString "is", Str.ofString "fine"] : List Str).map V.str) := by rw [List.map_append, List.map_replicate]; rfl
      rw [ew]
      obtain ⟨row, hrow⟩ : ∃ row : List Str, row = List.replicate c (Str.ofString ">") ++ [nm2 i, Str.ofString "is", Str.ofString "fine"] := ⟨_, rfl⟩
      rw [← hrow]
      have hr4 : row.length ≤ 4 ∧ ∀ x ∈ row, Wd9 x := by
        rw [hrow]
        refine ⟨by rw [List.length_append, List.length_replicate]; show c + 3 ≤ 4; omega, fun x hx => ?_⟩
        rcases List.mem_append.mp hx with hx | hx
        · rw [List.eq_of_mem_replicate hx]; exact ⟨by decide, by decide +kernel⟩
        · rcases List.mem_cons.mp hx with rfl | hx
          · exact nm2_ok i
          rcases List.mem_cons.mp hx with rfl | hx
          · exact ⟨by decide, by decide +kernel⟩
          · rw [List.mem_singleton.mp hx]; exact ⟨by decide, by decide +kernel⟩
      have s12 := (Same.refl H11).put (o := .lst (row.map V.str)) n6
      have m6 : (upd H11 l6 (.lst (row.map V.str))) l6 = some (.lst (row.map V.str)) := upd_same
      generalize upd H11 l6 (.lst (row.map V.str)) = H12 at s12 m6 ⊢
      have S812 := (s810.trans s11).trans s12
      have e12 := S812 _ _ e8
      have lD : l6 ≠ D2 := fun z => by
        have := (s810.trans s11) _ _ e8
        rw [z, this] at n6
        cases n6
      have hvl := hv.len
      refine ⟨vs, e12, small1000 (by omega), vs ++ [.ref l6], rs ++ [row], (s8.trans S812).put nD2, upd_same, ?_, by rw [List.length_append, hl8]; rfl, fun ws h => ?_⟩
      · have kD : Keeps (fun l => l ≠ D2) H12 (upd H12 D2 (.lst (vs ++ [.ref l6]))) := keeps_own e12 fun z => z rfl
        exact ((hv.mono fun _ _ x => x.keeps S812.keeps).mono fun _ _ x => x.keeps kD).snoc (LstAt.keeps (N := fun l => l ≠ D2) ⟨l6, rfl, lD, m6⟩ kD)
      · rcases List.mem_append.mp h with h | h
        · exact hw ws h
        · rw [List.mem_singleton.mp h]; exact hr4
    rintro H8 ⟨vs, rs, s8, e8, hv, hl8, hw⟩
    have hv : All2 (LstAt AllL H8) vs rs := hv.mono fun _ _ x => x.re fun _ _ _ _ => trivial
    have hl8 : rs.length = (38 + (r : Int)).toNat := hl8
    have hvl := hv.len
    refine ⟨l2, D2, _, _, rfl, rfl, s8 _ _ e2, e8, by rw [sizeLine_eq]; show 1 + vs.length ≤ _; omega, fun DR nDR => ?_⟩
    have s9 := (Same.refl H8).put (o := .lst ([V.ref l1] ++ vs)) nDR
    have e9 : (upd H8 DR (.lst ([V.ref l1] ++ vs))) DR = some (.lst ([V.ref l1] ++ vs)) := upd_same
    have R9 := (R7.same s8).same s9
    have hall : All2 (LstAt AllL (upd H8 DR (.lst ([V.ref l1] ++ vs)))) ([V.ref l1] ++ vs) ([Str.ofString "facts", Str.ofString "late"] :: rs) := .cons ⟨l1, rfl, trivial, s9 _ _ (s8 _ _ e1)⟩ (hv.mono fun _ _ x => x.keeps s9.keeps)
    clear e8 hv e1 e2 R7 e7
    generalize upd H8 DR (.lst ([V.ref l1] ++ vs)) = H9 at s9 e9 R9 hall ⊢
    refine ⟨_, rfl, (by show 2 ≤ sizeLine; decide), fun l5 n5 => ⟨(by show 1 ≤ sizeLine; decide), fun l6 n6 => ?_⟩⟩
    have s10 := (Same.refl H9).put (o := .lst [.str (Str.ofString "else"), .str (Str.ofString "free")]) n5
    have m5 : (upd H9 l5 (.lst [.str (Str.ofString "else"), .str (Str.ofString "free")])) l5 = some (.lst ([Str.ofString "else", Str.ofString "free"].map V.str)) := upd_same
    generalize upd H9 l5 (.lst [.str (Str.ofString "else"), .str (Str.ofString "free")]) = H10 at s10 m5 n6 ⊢
    have s11 := (Same.refl H10).put (o := .lst [.ref l5]) n6
    have m6 : (upd H10 l6 (.lst [.ref l5])) l6 = some (.lst [.ref l5]) := upd_same
    have m5' := s11 _ _ m5
    have S11 := s10.trans s11
    generalize upd H10 l6 (.lst [.ref l5]) = H11 at s11 m6 m5' S11 ⊢
    refine ⟨DR, l6, _, _, rfl, rfl, S11 _ _ e9, m6, by rw [List.length_append, sizeLine_eq]; show 1 + vs.length + 1 ≤ _; omega, fun l7 n7 => ?_⟩
    have s12 := (Same.refl H11).put (o := .lst ([V.ref l1] ++ vs ++ [.ref l5])) n7
    have S12 := S11.trans s12
    have hrs9 : ∀ ws ∈ ([Str.ofString "facts", Str.ofString "late"] :: rs) ++ [[Str.ofString "else", Str.ofString "free"]], ws.length ≤ 4 ∧ ∀ x ∈ ws, Wd9 x := fun ws h => by
      rcases List.mem_append.mp h with h | h
      · rcases List.mem_cons.mp h with rfl | h
        · refine ⟨by show 2 ≤ 4; decide, fun x hx => ?_⟩
          rcases List.mem_cons.mp hx with rfl | hx
          · exact ⟨by decide, by decide +kernel⟩
          · rw [List.mem_singleton.mp hx]; exact ⟨by decide, by decide +kernel⟩
        · exact hw ws h
      · rw [List.mem_singleton.mp h]
        refine ⟨by show 2 ≤ 4; decide, fun x hx => ?_⟩
        rcases List.mem_cons.mp hx with rfl | hx
        · exact ⟨by decide, by decide +kernel⟩
        · rw [List.mem_singleton.mp hx]; exact ⟨by decide, by decide +kernel⟩
    have hrl : (([Str.ofString "facts", Str.ofString "late"] :: rs) ++ [[Str.ofString "else", Str.ofString "free"]]).length ≤ 100 := by
      rw [List.length_append, List.length_cons]
      show rs.length + 1 + 1 ≤ 100
      omega
    have hft : TxFit2 (Txt.join lf ((([Str.ofString "facts", Str.ofString "late"] :: rs) ++ [[Str.ofString "else", Str.ofString "free"]]).map (Txt.join spc))) := fit_rows (by rw [List.cons_append]; exact List.cons_ne_nil _ _) hrl (fun ws h => by have := (hrs9 ws h).1; omega) (fun ws h => (hrs9 ws h).2)
    refine ⟨l7, _, _, rfl, upd_same, (hall.mono fun _ _ x => x.keeps (N := AllL) S12.keeps).snoc ⟨l5, rfl, trivial, s12 _ _ m5'⟩, fun ws h => ⟨by have := (hrs9 ws h).1; omega, fun x hx => ((hrs9 ws h).2 x hx).1⟩, hrl, fun H13 s13 => ?_⟩
    generalize Txt.join lf ((([Str.ofString "facts", Str.ofString "late"] :: rs) ++ [[Str.ofString "else", Str.ofString "free"]]).map (Txt.join spc)) = tx at hft ⊢
    have R13 := (R9.same S12).same s13
    refine ⟨_, rfl, a, l, 4, rfl, R13, by decide, small_lim (by decide) (by decide), fun H14 q4 k14 q0 q1 => ?_⟩
    obtain ⟨q4, rfl⟩ := Int.eq_ofNat_of_zero_le q0
    refine ⟨_, _, rfl, rfl, _, rfl, by omega, by omega, fun DF nDF => lc_it walk_range (fun i H' => Same H14 H' ∧ H' DF = some (.lst (((List.range i).map nm3).map V.str))) ⟨(Same.refl H14).put nDF, upd_same⟩ (fun _ _ _ _ => trivial) ?_ ?_⟩
    · rintro i y H6 H5 hi ⟨s5, e5⟩ ⟨rfl, hy⟩
      have hi : i < (59 + (q4 : Int)).toNat := hi
      have hy : y = .int (0 + (i : Nat)) := hy
      obtain rfl : y = .int ((i : Nat) : Int) := hy.trans (congrArg V.int (by omega))
      refine ⟨rfl, yes_ ⟨_, rfl, _, rfl, _, 10, rfl, rfl, ⟨by decide, by decide⟩, lt10, _, _, rfl, rfl, by decide, at_div (k := i) (by omega) (by omega), _, _, rfl, rfl, (by show 1 + 1 ≤ sizeLine; decide), ?_⟩⟩
      refine ⟨_, rfl, _, rfl, .inl ⟨_, rfl, _, 10, rfl, rfl, (by show (0 : Int) < 10; decide), lt10, _, _, rfl, rfl, by decide, at_mod (k := i) (by omega), _, _, rfl, rfl, (by rw [appS_len]; show 1 + 1 + 1 ≤ sizeLine; decide), ?_⟩⟩
      refine grow (acc := fun i => ((List.range i).map nm3).map V.str) nDF s5 e5 ?_ ?_
      · rw [List.length_map, List.length_map, List.length_range]
        exact small1000 (by omega)
      · show List.map V.str (List.map nm3 (List.range (i + 1))) = _
        rw [List.range_succ, List.map_append, List.map_append]
        rfl
    rintro H15 ⟨s15, e15⟩
    refine ⟨DF, _, rfl, .inl ⟨sqL_of e15, fun TF nTF => ?_⟩⟩
    have s16 := (Same.refl H15).put (o := .tup (((List.range (59 + (q4 : Int)).toNat).map nm3).map V.str)) nTF
    have e16 : SqT K (upd H15 TF (.tup (((List.range (59 + (q4 : Int)).toNat).map nm3).map V.str))) TF (((List.range (59 + (q4 : Int)).toNat).map nm3).map V.str) := sqT_new
    have hfl : ((List.range (59 + (q4 : Int)).toNat).map nm3).length ≤ 63 := by rw [List.length_map, List.length_range]; omega
    have hfs : (((List.range (59 + (q4 : Int)).toNat).map nm3).map (·.length)).sum ≤ ((List.range (59 + (q4 : Int)).toNat).map nm3).length * 3 := sum_le fun x hx => by
      obtain ⟨k, _, rfl⟩ := List.mem_map.mp hx
      rw [nm3_len]
      exact Nat.le_refl _
    have hjl := join_len spc ((List.range (59 + (q4 : Int)).toNat).map nm3)
    have hsp : spc.length = 1 := rfl
    rw [hsp] at hjl
    generalize (List.range (59 + (q4 : Int)).toNat).map nm3 = fnd at e16 hfl hfs hjl ⊢
    generalize upd H15 TF (.tup (fnd.map V.str)) = H16 at e16 ⊢
    refine ⟨⟨_, rfl⟩, _, rfl, spc, TF, fnd, rfl, rfl, .inr e16, by rw [hsp]; omega, ?_⟩
    generalize Txt.join spc fnd = jn at hjl ⊢
    refine ⟨_, _, rfl, rfl, (by show 6 + jn.length ≤ _; rw [sizeLine_eq]; omega), _, _, rfl, rfl, (by rw [appS_len, sizeLine_eq]; show 6 + jn.length + 10 ≤ _; omega), ?_⟩
    have hf2 : TxFit2 (Str.ofString "facts " ++ jn ++ Str.ofString "\nelse fine") := fit_short (by rw [appS_len, appS_len]; show 6 + jn.length + 10 ≤ 899; omega)
    generalize (Str.ofString "facts " ++ jn ++ Str.ofString "\nelse fine") = wd at hf2 ⊢
    refine ⟨_, rfl, tx, rfl, hft, fun H17 v1 s17 g1 => ?_⟩
    refine ⟨_, rfl, wd, rfl, hf2, fun H18 v2 s18 g2 => ⟨(by show 2 ≤ sizeLine; decide), fun L1 nL1 => ?_⟩⟩
    have s19 := (Same.refl H18).put (o := .lst [v1, v2]) nL1
    have m19 : (upd H18 L1 (.lst [v1, v2])) L1 = some (.lst [v1, v2]) := upd_same
    generalize upd H18 L1 (.lst [v1, v2]) = H19 at s19 m19 ⊢
    refine ⟨_, rfl, tx, rfl, hft, fun H20 u1 s20 g3 => ?_⟩
    refine ⟨_, rfl, wd, rfl, hf2, fun H21 u2 s21 g4 => ⟨(by show 2 ≤ sizeLine; decide), fun L2 nL2 => ?_⟩⟩
    have s22 := (Same.refl H21).put (o := .lst [u1, u2]) nL2
    have m22 : (upd H21 L2 (.lst [u1, u2])) L2 = some (.lst [u1, u2]) := upd_same
    generalize upd H21 L2 (.lst [u1, u2]) = H22 at s22 m22 ⊢
    have t20 := (s20.trans s21).trans s22
    have fit := fun (tx : Str) xs tl rl (e : rdB (rowsT tx) = .inr (xs, tl, rl)) => (rdB_ok rowsT_ne e).2
    obtain ⟨d1, a1, b1⟩ := res_at 27 (by decide) (g1.same ((s18.trans s19).trans t20)) (g3.same (s21.trans s22)) (fit tx)
    obtain ⟨d2, a2, b2⟩ := res_at 27 (by decide) (g2.same (s19.trans t20)) (g4.same s22) (fit wd)
    have two : ∀ {L : Addr} {x y : V}, H22 L = some (.lst [x, y]) → AT K H22 29 x d1 → AT K H22 29 y d2 → AT K H22 30 (.ref L) (.list [d1, d2]) := fun e h1 h2 => by
      refine .lst e rfl (by show 2 ≤ 1000000; decide) fun j x d hx hd => ?_
      match j, hx, hd with
      | 0, hx, hd => cases hx; cases hd; exact h1
      | 1, hx, hd => cases hx; cases hd; exact h2
      | j + 2, hx, hd => cases hx
    exact ⟨.ref L1, .ref L2, .list [d1, d2], rfl, two (t20 _ _ m19) a1 a2, two m22 b1 b2, fun H23 s23 => q H23⟩
end
end Sc
namespace Sc
open PySem PySem.Spec PyProof.Rows L2
theorem four {K : PySem.W.Frag} {D : Value} (h1 : PySem.W.findIn K D "index" = some none) (h2 : PySem.W.findIn K D "part" = some none) (h3 : PySem.W.findIn K D "word" = some none) (h4 : PySem.W.findIn K D "fact" = some none) :
    ∀ n ∈ (["index", "part", "word", "fact"] : List Str), PySem.W.findIn K D n = some none := by
  intro n hn
  simp only [List.mem_cons, List.not_mem_nil, or_false] at hn
  rcases hn with rfl | rfl | rfl | rfl
  · exact h1
  · exact h2
  · exact h3
  · exact h4
theorem exm_by {K : PySem.W.Frag} {D C : Addr} (h1 : PySem.W.subIn K (.ref C) (.type "BaseException") = some true) (h2 : PySem.W.isClsIn K C = true) (h3 : PySem.W.typeIn K (.ref C) = some (.type "type")) (h4 : PySem.W.subIn K (.ref D) (.ref C) = some true) : PySem.W.exmOne K (.ref D) (.ref C) = some true := by
  have e1 : (PySem.W.subIn K (.ref C) (.type "BaseException") == some true) = true := by rw [h1] <;> rfl
  have e2 : ((PySem.W.clsIn K C).isSome && PySem.W.typeIn K (.ref C) == some (.type "type")) = true := by
    have h2' : (PySem.W.clsIn K C).isSome = true := h2
    rw [h2', h3] <;> rfl
  unfold PySem.W.exmOne PySem.W.kitCls
  rw [if_pos e1]
  dsimp only
  rw [if_pos e2]
  exact h4
theorem kit_by {K : PySem.W.Frag} {D C : Addr} {b : Bool} (h1 : PySem.W.subIn K (.ref D) (.ref D) = some true) (h2 : PySem.W.isClsIn K C = true) (h3 : PySem.W.typeIn K (.ref C) = some (.type "type")) (h4 : PySem.W.subIn K (.ref D) (.ref C) = some b) : PySem.W.kitOne K (.ref D) (.ref C) = some b := by
  have e2 : ((PySem.W.clsIn K C).isSome && PySem.W.typeIn K (.ref C) == some (.type "type")) = true := by
    have h2' : (PySem.W.clsIn K C).isSome = true := h2
    rw [h2', h3] <;> rfl
  unfold PySem.W.kitOne
  split
  · rename_i e
    have e := eq_of_beq e
    cases e
    exact h1.symm.trans h4
  · unfold PySem.W.kitCls
    dsimp only
    rw [if_pos e2]
    exact h4
theorem kit_ve {K : PySem.W.Frag} {D : Addr} (h : PySem.W.subIn K (.ref D) (.type "ValueError") = some true) : PySem.W.kitOne K (.ref D) (.type "ValueError") = some true := by
  unfold PySem.W.kitOne PySem.W.kitCls
  rw [if_neg (by intro z; cases eq_of_beq z)]
  dsimp only
  rw [if_pos (by decide +kernel)]
  exact h
theorem codeHd_by {K : PySem.W.Frag} {c T : Addr} {o : Obj} (lk : K.lookup c = some o) (h : PySem.W.codeHdIn [(c, o)] c T = true) : PySem.W.codeHdIn K c T = true := by
  unfold PySem.W.codeHdIn at h ⊢
  rw [lk]
  have e : ([(c, o)] : PySem.W.Frag).lookup c = some o := by simp [List.lookup]
  rw [e] at h
  exact h
theorem lookup_no {K : PySem.W.Frag} {a : Addr} (h : (K.map (·.1)).contains a = false) : K.lookup a = none := by
  induction K with
  | nil => rfl
  | cons p r ih =>
    rw [List.map_cons, List.contains_cons, Bool.or_eq_false_iff] at h
    obtain ⟨x, o⟩ := p
    rw [List.lookup_cons, h.1]
    exact ih h.2
theorem sup_by {K : PySem.W.Frag} {C CE : Addr} {z : Value} {nm q nm2 q2 : Str} {N N2 : Addr} {bs bm su bs2 bm2 su2 : List Value} {sn sn2 : List Str} {ab ab2 : Bool} {col col2 : Option Bool} {dd dd2 : Option Addr} {x0 x1 x2 x3 x5 y0 y1 y2 y3 y5 : Option Value}
    (xC : K.lookup C = some (excClassObj nm q C N bs bm true sn su ab col dd x0 x1 x2 x3 x5 "ValueError.__new__")) (xE : K.lookup CE = some (excClassObj nm2 q2 CE N2 bs2 bm2 true sn2 su2 ab2 col2 dd2 y0 y1 y2 y3 y5 "ValueError.__new__"))
    (e : bm = .ref CE :: bm2) (f : PySem.W.findIn K (.ref CE) "__init__" = some (some z)) : PySem.W.ks_superIn K C C "__init__" = some (some z) := by
  subst e
  unfold PySem.W.ks_superIn PySem.W.clsIn
  unfold PySem.W.findIn at f
  dsimp only at f
  rw [xC]
  rw [xE] at f
  simp only [excClassObj] at f ⊢
  simp
  exact f
/-- a def that calls itself: depth by depth -/
theorem rec_all {P : Program} {w : World} {K : PySem.W.Frag} {mg : Str → Option Value} {base : Heap} {S : Nat → Sp} {k : Nat} {x : Str} {f : Addr} {fd : FuncData} {ps : List Str} (step : ∀ d, Cal P w K mg base CX0 (d + k) x ps (Below S d) → FnOk P w K mg base CX0 (d + k + 1) f fd ps (S d))
    (hm : mg x = some (.ref f)) (kp : PySem.W.keepIn K (.ref f) = true) (b : Binds K fd ps []) : ∀ d, FnOk P w K mg base CX0 (d + k + 1) f fd ps (S d)
  | 0 => step 0 ⟨_, _, FnOk.never, hm, kp, b⟩
  | d + 1 => step (d + 1) ⟨_, _, (by have h := rec_all step hm kp b d; rw [show d + k + 1 = d + 1 + k by omega] at h; exact h), hm, kp, b⟩
theorem alikeT_all {P : Program} {w : World} {K : PySem.W.Frag} {mg : Str → Option Value} {base : Heap} {f : Addr} {fd : FuncData} (F : Fun K "_law_alike" "_law_alike" s__law_alike f fd) (B : Blt mg) (hm : mg "_law_alike" = some (.ref f)) (kp : PySem.W.keepIn K (.ref f) = true) (b : Binds K fd ["_law_found", "_law_due"] []) :
    ∀ n, FnOk P w K mg base CX0 (n + 1) f fd ["_law_found", "_law_due"] (sp_alikeT K n)
  | 0 => ok_alikeT0 F B
  | n + 1 => ok_alikeT F B ⟨_, _, alikeT_all F B hm kp b n, hm, kp, b⟩
theorem all_mk {l : PySem.W.OpenLaw} {P : Program} {w : World} {K : PySem.W.Frag} {h : Heap} {mg : Str → Option Value} {fa : Addr} (eP : l.prog = P) (X : K.In h) (G : h.Ns mainGlobals mg) (hfa : mg "law" = some (.ref fa))
    {f_is_name : Addr} {oc_is_name kV_is_name dc_is_name pm_is_name cd_is_name ct_is_name : Value} {od_is_name an_is_name : Option Addr} {sl_is_name : Array (Option Value)}
    {f_rises : Addr} {oc_rises kV_rises dc_rises pm_rises cd_rises ct_rises : Value} {od_rises an_rises : Option Addr} {sl_rises : Array (Option Value)}
    {f_check_facts : Addr} {oc_check_facts kV_check_facts dc_check_facts pm_check_facts cd_check_facts ct_check_facts : Value} {od_check_facts an_check_facts : Option Addr} {sl_check_facts : Array (Option Value)}
    {f_nested : Addr} {oc_nested kV_nested dc_nested pm_nested cd_nested ct_nested : Value} {od_nested an_nested : Option Addr} {sl_nested : Array (Option Value)}
    {f_check_rules : Addr} {oc_check_rules kV_check_rules dc_check_rules pm_check_rules cd_check_rules ct_check_rules : Value} {od_check_rules an_check_rules : Option Addr} {sl_check_rules : Array (Option Value)}
    {f_check_part : Addr} {oc_check_part kV_check_part dc_check_part pm_check_part cd_check_part ct_check_part : Value} {od_check_part an_check_part : Option Addr} {sl_check_part : Array (Option Value)}
    {f_merged : Addr} {oc_merged kV_merged dc_merged pm_merged cd_merged ct_merged : Value} {od_merged an_merged : Option Addr} {sl_merged : Array (Option Value)}
    {f_is_free_name : Addr} {oc_is_free_name kV_is_free_name dc_is_free_name pm_is_free_name cd_is_free_name ct_is_free_name : Value} {od_is_free_name an_is_free_name : Option Addr} {sl_is_free_name : Array (Option Value)}
    {f_read_facts : Addr} {oc_read_facts kV_read_facts dc_read_facts pm_read_facts cd_read_facts ct_read_facts : Value} {od_read_facts an_read_facts : Option Addr} {sl_read_facts : Array (Option Value)}
    {f_read_ending : Addr} {oc_read_ending kV_read_ending dc_read_ending pm_read_ending cd_read_ending ct_read_ending : Value} {od_read_ending an_read_ending : Option Addr} {sl_read_ending : Array (Option Value)}
    {f_read_part : Addr} {oc_read_part kV_read_part dc_read_part pm_read_part cd_read_part ct_read_part : Value} {od_read_part an_read_part : Option Addr} {sl_read_part : Array (Option Value)}
    {f_read_signs : Addr} {oc_read_signs kV_read_signs dc_read_signs pm_read_signs cd_read_signs ct_read_signs : Value} {od_read_signs an_read_signs : Option Addr} {sl_read_signs : Array (Option Value)}
    {f_read_rule : Addr} {oc_read_rule kV_read_rule dc_read_rule pm_read_rule cd_read_rule ct_read_rule : Value} {od_read_rule an_read_rule : Option Addr} {sl_read_rule : Array (Option Value)}
    {f_rules_told : Addr} {oc_rules_told kV_rules_told dc_rules_told pm_rules_told cd_rules_told ct_rules_told : Value} {od_rules_told an_rules_told : Option Addr} {sl_rules_told : Array (Option Value)}
    {f_parse_book : Addr} {oc_parse_book kV_parse_book dc_parse_book pm_parse_book cd_parse_book ct_parse_book : Value} {od_parse_book an_parse_book : Option Addr} {sl_parse_book : Array (Option Value)}
    {f__law_mix : Addr} {oc__law_mix kV__law_mix dc__law_mix pm__law_mix cd__law_mix ct__law_mix : Value} {od__law_mix an__law_mix : Option Addr} {sl__law_mix : Array (Option Value)}
    {f__law_next : Addr} {oc__law_next kV__law_next dc__law_next pm__law_next cd__law_next ct__law_next : Value} {od__law_next an__law_next : Option Addr} {sl__law_next : Array (Option Value)}
    {f__law_alike : Addr} {oc__law_alike kV__law_alike dc__law_alike pm__law_alike cd__law_alike ct__law_alike : Value} {od__law_alike an__law_alike : Option Addr} {sl__law_alike : Array (Option Value)}
    {f__law_facts : Addr} {oc__law_facts kV__law_facts dc__law_facts pm__law_facts cd__law_facts ct__law_facts : Value} {od__law_facts an__law_facts : Option Addr} {sl__law_facts : Array (Option Value)}
    {f__law_sides : Addr} {oc__law_sides kV__law_sides dc__law_sides pm__law_sides cd__law_sides ct__law_sides : Value} {od__law_sides an__law_sides : Option Addr} {sl__law_sides : Array (Option Value)}
    {f__law_rule : Addr} {oc__law_rule kV__law_rule dc__law_rule pm__law_rule cd__law_rule ct__law_rule : Value} {od__law_rule an__law_rule : Option Addr} {sl__law_rule : Array (Option Value)}
    {f__law_drawn : Addr} {oc__law_drawn kV__law_drawn dc__law_drawn pm__law_drawn cd__law_drawn ct__law_drawn : Value} {od__law_drawn an__law_drawn : Option Addr} {sl__law_drawn : Array (Option Value)}
    {f__law_told : Addr} {oc__law_told kV__law_told dc__law_told pm__law_told cd__law_told ct__law_told : Value} {od__law_told an__law_told : Option Addr} {sl__law_told : Array (Option Value)}
    {f__law_seen : Addr} {oc__law_seen kV__law_seen dc__law_seen pm__law_seen cd__law_seen ct__law_seen : Value} {od__law_seen an__law_seen : Option Addr} {sl__law_seen : Array (Option Value)}
    {f__law_words : Addr} {oc__law_words kV__law_words dc__law_words pm__law_words cd__law_words ct__law_words : Value} {od__law_words an__law_words : Option Addr} {sl__law_words : Array (Option Value)}
    {f__law_rows_of : Addr} {oc__law_rows_of kV__law_rows_of dc__law_rows_of pm__law_rows_of cd__law_rows_of ct__law_rows_of : Value} {od__law_rows_of an__law_rows_of : Option Addr} {sl__law_rows_of : Array (Option Value)}
    {f__law_text : Addr} {oc__law_text kV__law_text dc__law_text pm__law_text cd__law_text ct__law_text : Value} {od__law_text an__law_text : Option Addr} {sl__law_text : Array (Option Value)}
    {f__law_named : Addr} {oc__law_named kV__law_named dc__law_named pm__law_named cd__law_named ct__law_named : Value} {od__law_named an__law_named : Option Addr} {sl__law_named : Array (Option Value)}
    {f__law_read_facts : Addr} {oc__law_read_facts kV__law_read_facts dc__law_read_facts pm__law_read_facts cd__law_read_facts ct__law_read_facts : Value} {od__law_read_facts an__law_read_facts : Option Addr} {sl__law_read_facts : Array (Option Value)}
    {f__law_read_side : Addr} {oc__law_read_side kV__law_read_side dc__law_read_side pm__law_read_side cd__law_read_side ct__law_read_side : Value} {od__law_read_side an__law_read_side : Option Addr} {sl__law_read_side : Array (Option Value)}
    {f__law_read_rule : Addr} {oc__law_read_rule kV__law_read_rule dc__law_read_rule pm__law_read_rule cd__law_read_rule ct__law_read_rule : Value} {od__law_read_rule an__law_read_rule : Option Addr} {sl__law_read_rule : Array (Option Value)}
    {f__law_nested : Addr} {oc__law_nested kV__law_nested dc__law_nested pm__law_nested cd__law_nested ct__law_nested : Value} {od__law_nested an__law_nested : Option Addr} {sl__law_nested : Array (Option Value)}
    {f__law_read : Addr} {oc__law_read kV__law_read dc__law_read pm__law_read cd__law_read ct__law_read : Value} {od__law_read an__law_read : Option Addr} {sl__law_read : Array (Option Value)}
    {f__law_parsed : Addr} {oc__law_parsed kV__law_parsed dc__law_parsed pm__law_parsed cd__law_parsed ct__law_parsed : Value} {od__law_parsed an__law_parsed : Option Addr} {sl__law_parsed : Array (Option Value)}
    {f__law_bent : Addr} {oc__law_bent kV__law_bent dc__law_bent pm__law_bent cd__law_bent ct__law_bent : Value} {od__law_bent an__law_bent : Option Addr} {sl__law_bent : Array (Option Value)}
    {f_law : Addr} {oc_law kV_law dc_law pm_law ct_law : Value} {od_law an_law : Option Addr} {sl_law : Array (Option Value)}
    {f_mi : Addr} {oc_mi kV_mi dc_mi pm_mi cd_mi ct_mi : Value} {od_mi an_mi : Option Addr} {sl_mi : Array (Option Value)}
    {f_mh : Addr} {oc_mh kV_mh dc_mh pm_mh cd_mh ct_mh : Value} {od_mh an_mh : Option Addr} {sl_mh : Array (Option Value)}
    {f_mf : Addr} {oc_mf kV_mf dc_mf pm_mf cd_mf ct_mf : Value} {od_mf an_mf : Option Addr} {sl_mf : Array (Option Value)}
    {f_mn : Addr} {oc_mn kV_mn dc_mn pm_mn cd_mn ct_mn : Value} {od_mn an_mn : Option Addr} {sl_mn : Array (Option Value)}
    {f_ri : Addr} {oc_ri kV_ri dc_ri pm_ri cd_ri ct_ri : Value} {od_ri an_ri : Option Addr} {sl_ri : Array (Option Value)}
    {f_rn : Addr} {oc_rn kV_rn dc_rn pm_rn cd_rn ct_rn : Value} {od_rn an_rn : Option Addr} {sl_rn : Array (Option Value)}
    {f_rc : Addr} {oc_rc kV_rc dc_rc pm_rc cd_rc ct_rc : Value} {od_rc an_rc : Option Addr} {sl_rc : Array (Option Value)}
    {f_rr : Addr} {oc_rr kV_rr dc_rr pm_rr cd_rr ct_rr : Value} {od_rr an_rr : Option Addr} {sl_rr : Array (Option Value)}
    {f_re : Addr} {oc_re kV_re dc_re pm_re cd_re ct_re : Value} {od_re an_re : Option Addr} {sl_re : Array (Option Value)}
    {f_rd : Addr} {oc_rd kV_rd dc_rd pm_rd cd_rd ct_rd : Value} {od_rd an_rd : Option Addr} {sl_rd : Array (Option Value)}
    {f_bi : Addr} {oc_bi kV_bi dc_bi pm_bi cd_bi ct_bi : Value} {od_bi an_bi : Option Addr} {sl_bi : Array (Option Value)}
    {f_bf : Addr} {oc_bf kV_bf dc_bf pm_bf cd_bf ct_bf : Value} {od_bf an_bf : Option Addr} {sl_bf : Array (Option Value)}
    {f_bs : Addr} {oc_bs kV_bs dc_bs pm_bs cd_bs ct_bs : Value} {od_bs an_bs : Option Addr} {sl_bs : Array (Option Value)}
    {f_br : Addr} {oc_br kV_br dc_br pm_br cd_br ct_br : Value} {od_br an_br : Option Addr} {sl_br : Array (Option Value)}
    {f_wi : Addr} {oc_wi kV_wi dc_wi pm_wi cd_wi ct_wi : Value} {od_wi an_wi : Option Addr} {sl_wi : Array (Option Value)}
    {f_wa : Addr} {oc_wa kV_wa dc_wa pm_wa cd_wa ct_wa : Value} {od_wa an_wa : Option Addr} {sl_wa : Array (Option Value)}
    {f_wc : Addr} {oc_wc kV_wc dc_wc pm_wc cd_wc ct_wc : Value} {od_wc an_wc : Option Addr} {sl_wc : Array (Option Value)}
    {f_wt : Addr} {oc_wt kV_wt dc_wt pm_wt cd_wt ct_wt : Value} {od_wt an_wt : Option Addr} {sl_wt : Array (Option Value)}
    {f_we : Addr} {oc_we kV_we dc_we pm_we cd_we ct_we : Value} {od_we an_we : Option Addr} {sl_we : Array (Option Value)}
    {CO : Addr}
    {pp_mh : Addr} {rs_mh : List Value}
    {pp_mf : Addr} {rs_mf : List Value}
    {pp_mn : Addr} {rs_mn : List Value}
    {RO : Addr}
    {pp_rn : Addr} {rs_rn : List Value}
    {pp_rc : Addr} {rs_rc : List Value}
    {pp_rr : Addr} {rs_rr : List Value}
    {pp_re : Addr} {rs_re : List Value}
    {pp_rd : Addr} {rs_rd : List Value}
    {BO : Addr}
    {pp_bf : Addr} {rs_bf : List Value}
    {pp_bs : Addr} {rs_bs : List Value}
    {pp_br : Addr} {rs_br : List Value}
    {WO : Addr}
    {rsA : Addr}
    {odR : Option Addr} {nR : Nat} {slR : Array (Option Value)} {uR1 uR2 uR3 uR4 uR5 : Tok}
    {cc_law : Addr}
    {t_LETTERS : Tok}
    {t_LONGEST_NAME : Tok}
    {t_MOST_FACTS : Tok}
    {t_MOST_NAMES : Tok}
    {t_MOST_AROUND : Tok}
    {t_MOST_RULES : Tok}
    {t_MOST_OUTERMOST : Tok}
    {t_SIGN : Tok}
    {CE : Addr}
    {E0 : Addr}
    {E1 : Addr}
    {E2 : Addr}
    {E3 : Addr}
    {E4 : Addr}
    {nmE qE : Str} {NE : Addr} {bsE bmE suE : List Value} {snE : List Str} {abE : Bool} {colE : Option Bool} {ddE : Option Addr} {x0E x1E x2E x3E x5E : Option Value}
    {nmi0 qi0 : Str} {Ni0 : Addr} {bsi0 bmi0 sui0 : List Value} {sni0 : List Str} {abi0 : Bool} {coli0 : Option Bool} {ddi0 odii0 anii0 ccddi0 cddi0 : Option Addr} {x0i0 x1i0 x2i0 x3i0 x5i0 : Option Value} {fIi0 celi0 codi0 : Addr} {ocii0 kVii0 dcii0 pmii0 ctii0 clci0 ccli0 : Value} {slii0 csli0 ccsi0 : Array (Option Value)} {vsi0 : Array Value} {fili0 : Str} {tfii0 : Tok}
    {nmi1 qi1 : Str} {Ni1 : Addr} {bsi1 bmi1 sui1 : List Value} {sni1 : List Str} {abi1 : Bool} {coli1 : Option Bool} {ddi1 odii1 anii1 ccddi1 cddi1 : Option Addr} {x0i1 x1i1 x2i1 x3i1 x5i1 : Option Value} {fIi1 celi1 codi1 : Addr} {ocii1 kVii1 dcii1 pmii1 ctii1 clci1 ccli1 : Value} {slii1 csli1 ccsi1 : Array (Option Value)} {vsi1 : Array Value} {fili1 : Str} {tfii1 : Tok}
    {nmi2 qi2 : Str} {Ni2 : Addr} {bsi2 bmi2 sui2 : List Value} {sni2 : List Str} {abi2 : Bool} {coli2 : Option Bool} {ddi2 odii2 anii2 ccddi2 cddi2 : Option Addr} {x0i2 x1i2 x2i2 x3i2 x5i2 : Option Value} {fIi2 celi2 codi2 : Addr} {ocii2 kVii2 dcii2 pmii2 ctii2 clci2 ccli2 : Value} {slii2 csli2 ccsi2 : Array (Option Value)} {vsi2 : Array Value} {fili2 : Str} {tfii2 : Tok}
    {nmi3 qi3 : Str} {Ni3 : Addr} {bsi3 bmi3 sui3 : List Value} {sni3 : List Str} {abi3 : Bool} {coli3 : Option Bool} {ddi3 odii3 anii3 ccddi3 cddi3 : Option Addr} {x0i3 x1i3 x2i3 x3i3 x5i3 : Option Value} {fIi3 celi3 codi3 : Addr} {ocii3 kVii3 dcii3 pmii3 ctii3 clci3 ccli3 : Value} {slii3 csli3 ccsi3 : Array (Option Value)} {vsi3 : Array Value} {fili3 : Str} {tfii3 : Tok}
    {nmi4 qi4 : Str} {Ni4 : Addr} {bsi4 bmi4 sui4 : List Value} {sni4 : List Str} {abi4 : Bool} {coli4 : Option Bool} {ddi4 odii4 anii4 ccddi4 cddi4 : Option Addr} {x0i4 x1i4 x2i4 x3i4 x5i4 : Option Value} {fIi4 celi4 codi4 : Addr} {ocii4 kVii4 dcii4 pmii4 ctii4 clci4 ccli4 : Value} {slii4 csli4 ccsi4 : Array (Option Value)} {vsi4 : Array Value} {fili4 : Str} {tfii4 : Tok}
    (a_is_name : PySem.W.nsIn K mainGlobals "is_name" = some (some (.ref f_is_name)))
    (l_is_name : K.lookup f_is_name = some ⟨oc_is_name, od_is_name, .func (PySem.W.fnOf "is_name" "is_name" (defArgs s_is_name) (defBody s_is_name) (defScope s_is_name) .none kV_is_name dc_is_name pm_is_name an_is_name cd_is_name ct_is_name), sl_is_name⟩)
    (c_is_name : PySem.W.codeIn K cd_is_name "is_name" = true)
    (k_is_name : PySem.W.keepIn K (.ref f_is_name) = true)
    (a_rises : PySem.W.nsIn K mainGlobals "rises" = some (some (.ref f_rises)))
    (l_rises : K.lookup f_rises = some ⟨oc_rises, od_rises, .func (PySem.W.fnOf "rises" "rises" (defArgs s_rises) (defBody s_rises) (defScope s_rises) .none kV_rises dc_rises pm_rises an_rises cd_rises ct_rises), sl_rises⟩)
    (c_rises : PySem.W.codeIn K cd_rises "rises" = true)
    (k_rises : PySem.W.keepIn K (.ref f_rises) = true)
    (a_check_facts : PySem.W.nsIn K mainGlobals "check_facts" = some (some (.ref f_check_facts)))
    (l_check_facts : K.lookup f_check_facts = some ⟨oc_check_facts, od_check_facts, .func (PySem.W.fnOf "check_facts" "check_facts" (defArgs s_check_facts) (defBody s_check_facts) (defScope s_check_facts) .none kV_check_facts dc_check_facts pm_check_facts an_check_facts cd_check_facts ct_check_facts), sl_check_facts⟩)
    (c_check_facts : PySem.W.codeIn K cd_check_facts "check_facts" = true)
    (k_check_facts : PySem.W.keepIn K (.ref f_check_facts) = true)
    (a_nested : PySem.W.nsIn K mainGlobals "nested" = some (some (.ref f_nested)))
    (l_nested : K.lookup f_nested = some ⟨oc_nested, od_nested, .func (PySem.W.fnOf "nested" "nested" (defArgs s_nested) (defBody s_nested) (defScope s_nested) .none kV_nested dc_nested pm_nested an_nested cd_nested ct_nested), sl_nested⟩)
    (c_nested : PySem.W.codeIn K cd_nested "nested" = true)
    (k_nested : PySem.W.keepIn K (.ref f_nested) = true)
    (a_check_rules : PySem.W.nsIn K mainGlobals "check_rules" = some (some (.ref f_check_rules)))
    (l_check_rules : K.lookup f_check_rules = some ⟨oc_check_rules, od_check_rules, .func (PySem.W.fnOf "check_rules" "check_rules" (defArgs s_check_rules) (defBody s_check_rules) (defScope s_check_rules) .none kV_check_rules dc_check_rules pm_check_rules an_check_rules cd_check_rules ct_check_rules), sl_check_rules⟩)
    (c_check_rules : PySem.W.codeIn K cd_check_rules "check_rules" = true)
    (k_check_rules : PySem.W.keepIn K (.ref f_check_rules) = true)
    (a_check_part : PySem.W.nsIn K mainGlobals "check_part" = some (some (.ref f_check_part)))
    (l_check_part : K.lookup f_check_part = some ⟨oc_check_part, od_check_part, .func (PySem.W.fnOf "check_part" "check_part" (defArgs s_check_part) (defBody s_check_part) (defScope s_check_part) .none kV_check_part dc_check_part pm_check_part an_check_part cd_check_part ct_check_part), sl_check_part⟩)
    (c_check_part : PySem.W.codeIn K cd_check_part "check_part" = true)
    (k_check_part : PySem.W.keepIn K (.ref f_check_part) = true)
    (a_merged : PySem.W.nsIn K mainGlobals "merged" = some (some (.ref f_merged)))
    (l_merged : K.lookup f_merged = some ⟨oc_merged, od_merged, .func (PySem.W.fnOf "merged" "merged" (defArgs s_merged) (defBody s_merged) (defScope s_merged) .none kV_merged dc_merged pm_merged an_merged cd_merged ct_merged), sl_merged⟩)
    (c_merged : PySem.W.codeIn K cd_merged "merged" = true)
    (k_merged : PySem.W.keepIn K (.ref f_merged) = true)
    (a_is_free_name : PySem.W.nsIn K mainGlobals "is_free_name" = some (some (.ref f_is_free_name)))
    (l_is_free_name : K.lookup f_is_free_name = some ⟨oc_is_free_name, od_is_free_name, .func (PySem.W.fnOf "is_free_name" "is_free_name" (defArgs s_is_free_name) (defBody s_is_free_name) (defScope s_is_free_name) .none kV_is_free_name dc_is_free_name pm_is_free_name an_is_free_name cd_is_free_name ct_is_free_name), sl_is_free_name⟩)
    (c_is_free_name : PySem.W.codeIn K cd_is_free_name "is_free_name" = true)
    (k_is_free_name : PySem.W.keepIn K (.ref f_is_free_name) = true)
    (a_read_facts : PySem.W.nsIn K mainGlobals "read_facts" = some (some (.ref f_read_facts)))
    (l_read_facts : K.lookup f_read_facts = some ⟨oc_read_facts, od_read_facts, .func (PySem.W.fnOf "read_facts" "read_facts" (defArgs s_read_facts) (defBody s_read_facts) (defScope s_read_facts) .none kV_read_facts dc_read_facts pm_read_facts an_read_facts cd_read_facts ct_read_facts), sl_read_facts⟩)
    (c_read_facts : PySem.W.codeIn K cd_read_facts "read_facts" = true)
    (k_read_facts : PySem.W.keepIn K (.ref f_read_facts) = true)
    (a_read_ending : PySem.W.nsIn K mainGlobals "read_ending" = some (some (.ref f_read_ending)))
    (l_read_ending : K.lookup f_read_ending = some ⟨oc_read_ending, od_read_ending, .func (PySem.W.fnOf "read_ending" "read_ending" (defArgs s_read_ending) (defBody s_read_ending) (defScope s_read_ending) .none kV_read_ending dc_read_ending pm_read_ending an_read_ending cd_read_ending ct_read_ending), sl_read_ending⟩)
    (c_read_ending : PySem.W.codeIn K cd_read_ending "read_ending" = true)
    (k_read_ending : PySem.W.keepIn K (.ref f_read_ending) = true)
    (a_read_part : PySem.W.nsIn K mainGlobals "read_part" = some (some (.ref f_read_part)))
    (l_read_part : K.lookup f_read_part = some ⟨oc_read_part, od_read_part, .func (PySem.W.fnOf "read_part" "read_part" (defArgs s_read_part) (defBody s_read_part) (defScope s_read_part) .none kV_read_part dc_read_part pm_read_part an_read_part cd_read_part ct_read_part), sl_read_part⟩)
    (c_read_part : PySem.W.codeIn K cd_read_part "read_part" = true)
    (k_read_part : PySem.W.keepIn K (.ref f_read_part) = true)
    (a_read_signs : PySem.W.nsIn K mainGlobals "read_signs" = some (some (.ref f_read_signs)))
    (l_read_signs : K.lookup f_read_signs = some ⟨oc_read_signs, od_read_signs, .func (PySem.W.fnOf "read_signs" "read_signs" (defArgs s_read_signs) (defBody s_read_signs) (defScope s_read_signs) .none kV_read_signs dc_read_signs pm_read_signs an_read_signs cd_read_signs ct_read_signs), sl_read_signs⟩)
    (c_read_signs : PySem.W.codeIn K cd_read_signs "read_signs" = true)
    (k_read_signs : PySem.W.keepIn K (.ref f_read_signs) = true)
    (a_read_rule : PySem.W.nsIn K mainGlobals "read_rule" = some (some (.ref f_read_rule)))
    (l_read_rule : K.lookup f_read_rule = some ⟨oc_read_rule, od_read_rule, .func (PySem.W.fnOf "read_rule" "read_rule" (defArgs s_read_rule) (defBody s_read_rule) (defScope s_read_rule) .none kV_read_rule dc_read_rule pm_read_rule an_read_rule cd_read_rule ct_read_rule), sl_read_rule⟩)
    (c_read_rule : PySem.W.codeIn K cd_read_rule "read_rule" = true)
    (k_read_rule : PySem.W.keepIn K (.ref f_read_rule) = true)
    (a_rules_told : PySem.W.nsIn K mainGlobals "rules_told" = some (some (.ref f_rules_told)))
    (l_rules_told : K.lookup f_rules_told = some ⟨oc_rules_told, od_rules_told, .func (PySem.W.fnOf "rules_told" "rules_told" (defArgs s_rules_told) (defBody s_rules_told) (defScope s_rules_told) .none kV_rules_told dc_rules_told pm_rules_told an_rules_told cd_rules_told ct_rules_told), sl_rules_told⟩)
    (c_rules_told : PySem.W.codeIn K cd_rules_told "rules_told" = true)
    (k_rules_told : PySem.W.keepIn K (.ref f_rules_told) = true)
    (a_parse_book : PySem.W.nsIn K mainGlobals "parse_book" = some (some (.ref f_parse_book)))
    (l_parse_book : K.lookup f_parse_book = some ⟨oc_parse_book, od_parse_book, .func (PySem.W.fnOf "parse_book" "parse_book" (defArgs s_parse_book) (defBody s_parse_book) (defScope s_parse_book) .none kV_parse_book dc_parse_book pm_parse_book an_parse_book cd_parse_book ct_parse_book), sl_parse_book⟩)
    (c_parse_book : PySem.W.codeIn K cd_parse_book "parse_book" = true)
    (k_parse_book : PySem.W.keepIn K (.ref f_parse_book) = true)
    (a__law_mix : PySem.W.nsIn K mainGlobals "_law_mix" = some (some (.ref f__law_mix)))
    (l__law_mix : K.lookup f__law_mix = some ⟨oc__law_mix, od__law_mix, .func (PySem.W.fnOf "_law_mix" "_law_mix" (defArgs s__law_mix) (defBody s__law_mix) (defScope s__law_mix) .none kV__law_mix dc__law_mix pm__law_mix an__law_mix cd__law_mix ct__law_mix), sl__law_mix⟩)
    (c__law_mix : PySem.W.codeIn K cd__law_mix "_law_mix" = true)
    (k__law_mix : PySem.W.keepIn K (.ref f__law_mix) = true)
    (a__law_next : PySem.W.nsIn K mainGlobals "_law_next" = some (some (.ref f__law_next)))
    (l__law_next : K.lookup f__law_next = some ⟨oc__law_next, od__law_next, .func (PySem.W.fnOf "_law_next" "_law_next" (defArgs s__law_next) (defBody s__law_next) (defScope s__law_next) .none kV__law_next dc__law_next pm__law_next an__law_next cd__law_next ct__law_next), sl__law_next⟩)
    (c__law_next : PySem.W.codeIn K cd__law_next "_law_next" = true)
    (k__law_next : PySem.W.keepIn K (.ref f__law_next) = true)
    (a__law_alike : PySem.W.nsIn K mainGlobals "_law_alike" = some (some (.ref f__law_alike)))
    (l__law_alike : K.lookup f__law_alike = some ⟨oc__law_alike, od__law_alike, .func (PySem.W.fnOf "_law_alike" "_law_alike" (defArgs s__law_alike) (defBody s__law_alike) (defScope s__law_alike) .none kV__law_alike dc__law_alike pm__law_alike an__law_alike cd__law_alike ct__law_alike), sl__law_alike⟩)
    (c__law_alike : PySem.W.codeIn K cd__law_alike "_law_alike" = true)
    (k__law_alike : PySem.W.keepIn K (.ref f__law_alike) = true)
    (a__law_facts : PySem.W.nsIn K mainGlobals "_law_facts" = some (some (.ref f__law_facts)))
    (l__law_facts : K.lookup f__law_facts = some ⟨oc__law_facts, od__law_facts, .func (PySem.W.fnOf "_law_facts" "_law_facts" (defArgs s__law_facts) (defBody s__law_facts) (defScope s__law_facts) .none kV__law_facts dc__law_facts pm__law_facts an__law_facts cd__law_facts ct__law_facts), sl__law_facts⟩)
    (c__law_facts : PySem.W.codeIn K cd__law_facts "_law_facts" = true)
    (k__law_facts : PySem.W.keepIn K (.ref f__law_facts) = true)
    (a__law_sides : PySem.W.nsIn K mainGlobals "_law_sides" = some (some (.ref f__law_sides)))
    (l__law_sides : K.lookup f__law_sides = some ⟨oc__law_sides, od__law_sides, .func (PySem.W.fnOf "_law_sides" "_law_sides" (defArgs s__law_sides) (defBody s__law_sides) (defScope s__law_sides) .none kV__law_sides dc__law_sides pm__law_sides an__law_sides cd__law_sides ct__law_sides), sl__law_sides⟩)
    (c__law_sides : PySem.W.codeIn K cd__law_sides "_law_sides" = true)
    (k__law_sides : PySem.W.keepIn K (.ref f__law_sides) = true)
    (a__law_rule : PySem.W.nsIn K mainGlobals "_law_rule" = some (some (.ref f__law_rule)))
    (l__law_rule : K.lookup f__law_rule = some ⟨oc__law_rule, od__law_rule, .func (PySem.W.fnOf "_law_rule" "_law_rule" (defArgs s__law_rule) (defBody s__law_rule) (defScope s__law_rule) .none kV__law_rule dc__law_rule pm__law_rule an__law_rule cd__law_rule ct__law_rule), sl__law_rule⟩)
    (c__law_rule : PySem.W.codeIn K cd__law_rule "_law_rule" = true)
    (k__law_rule : PySem.W.keepIn K (.ref f__law_rule) = true)
    (a__law_drawn : PySem.W.nsIn K mainGlobals "_law_drawn" = some (some (.ref f__law_drawn)))
    (l__law_drawn : K.lookup f__law_drawn = some ⟨oc__law_drawn, od__law_drawn, .func (PySem.W.fnOf "_law_drawn" "_law_drawn" (defArgs s__law_drawn) (defBody s__law_drawn) (defScope s__law_drawn) .none kV__law_drawn dc__law_drawn pm__law_drawn an__law_drawn cd__law_drawn ct__law_drawn), sl__law_drawn⟩)
    (c__law_drawn : PySem.W.codeIn K cd__law_drawn "_law_drawn" = true)
    (k__law_drawn : PySem.W.keepIn K (.ref f__law_drawn) = true)
    (a__law_told : PySem.W.nsIn K mainGlobals "_law_told" = some (some (.ref f__law_told)))
    (l__law_told : K.lookup f__law_told = some ⟨oc__law_told, od__law_told, .func (PySem.W.fnOf "_law_told" "_law_told" (defArgs s__law_told) (defBody s__law_told) (defScope s__law_told) .none kV__law_told dc__law_told pm__law_told an__law_told cd__law_told ct__law_told), sl__law_told⟩)
    (c__law_told : PySem.W.codeIn K cd__law_told "_law_told" = true)
    (k__law_told : PySem.W.keepIn K (.ref f__law_told) = true)
    (a__law_seen : PySem.W.nsIn K mainGlobals "_law_seen" = some (some (.ref f__law_seen)))
    (l__law_seen : K.lookup f__law_seen = some ⟨oc__law_seen, od__law_seen, .func (PySem.W.fnOf "_law_seen" "_law_seen" (defArgs s__law_seen) (defBody s__law_seen) (defScope s__law_seen) .none kV__law_seen dc__law_seen pm__law_seen an__law_seen cd__law_seen ct__law_seen), sl__law_seen⟩)
    (c__law_seen : PySem.W.codeIn K cd__law_seen "_law_seen" = true)
    (k__law_seen : PySem.W.keepIn K (.ref f__law_seen) = true)
    (a__law_words : PySem.W.nsIn K mainGlobals "_law_words" = some (some (.ref f__law_words)))
    (l__law_words : K.lookup f__law_words = some ⟨oc__law_words, od__law_words, .func (PySem.W.fnOf "_law_words" "_law_words" (defArgs s__law_words) (defBody s__law_words) (defScope s__law_words) .none kV__law_words dc__law_words pm__law_words an__law_words cd__law_words ct__law_words), sl__law_words⟩)
    (c__law_words : PySem.W.codeIn K cd__law_words "_law_words" = true)
    (k__law_words : PySem.W.keepIn K (.ref f__law_words) = true)
    (a__law_rows_of : PySem.W.nsIn K mainGlobals "_law_rows_of" = some (some (.ref f__law_rows_of)))
    (l__law_rows_of : K.lookup f__law_rows_of = some ⟨oc__law_rows_of, od__law_rows_of, .func (PySem.W.fnOf "_law_rows_of" "_law_rows_of" (defArgs s__law_rows_of) (defBody s__law_rows_of) (defScope s__law_rows_of) .none kV__law_rows_of dc__law_rows_of pm__law_rows_of an__law_rows_of cd__law_rows_of ct__law_rows_of), sl__law_rows_of⟩)
    (c__law_rows_of : PySem.W.codeIn K cd__law_rows_of "_law_rows_of" = true)
    (k__law_rows_of : PySem.W.keepIn K (.ref f__law_rows_of) = true)
    (a__law_text : PySem.W.nsIn K mainGlobals "_law_text" = some (some (.ref f__law_text)))
    (l__law_text : K.lookup f__law_text = some ⟨oc__law_text, od__law_text, .func (PySem.W.fnOf "_law_text" "_law_text" (defArgs s__law_text) (defBody s__law_text) (defScope s__law_text) .none kV__law_text dc__law_text pm__law_text an__law_text cd__law_text ct__law_text), sl__law_text⟩)
    (c__law_text : PySem.W.codeIn K cd__law_text "_law_text" = true)
    (k__law_text : PySem.W.keepIn K (.ref f__law_text) = true)
    (a__law_named : PySem.W.nsIn K mainGlobals "_law_named" = some (some (.ref f__law_named)))
    (l__law_named : K.lookup f__law_named = some ⟨oc__law_named, od__law_named, .func (PySem.W.fnOf "_law_named" "_law_named" (defArgs s__law_named) (defBody s__law_named) (defScope s__law_named) .none kV__law_named dc__law_named pm__law_named an__law_named cd__law_named ct__law_named), sl__law_named⟩)
    (c__law_named : PySem.W.codeIn K cd__law_named "_law_named" = true)
    (k__law_named : PySem.W.keepIn K (.ref f__law_named) = true)
    (a__law_read_facts : PySem.W.nsIn K mainGlobals "_law_read_facts" = some (some (.ref f__law_read_facts)))
    (l__law_read_facts : K.lookup f__law_read_facts = some ⟨oc__law_read_facts, od__law_read_facts, .func (PySem.W.fnOf "_law_read_facts" "_law_read_facts" (defArgs s__law_read_facts) (defBody s__law_read_facts) (defScope s__law_read_facts) .none kV__law_read_facts dc__law_read_facts pm__law_read_facts an__law_read_facts cd__law_read_facts ct__law_read_facts), sl__law_read_facts⟩)
    (c__law_read_facts : PySem.W.codeIn K cd__law_read_facts "_law_read_facts" = true)
    (k__law_read_facts : PySem.W.keepIn K (.ref f__law_read_facts) = true)
    (a__law_read_side : PySem.W.nsIn K mainGlobals "_law_read_side" = some (some (.ref f__law_read_side)))
    (l__law_read_side : K.lookup f__law_read_side = some ⟨oc__law_read_side, od__law_read_side, .func (PySem.W.fnOf "_law_read_side" "_law_read_side" (defArgs s__law_read_side) (defBody s__law_read_side) (defScope s__law_read_side) .none kV__law_read_side dc__law_read_side pm__law_read_side an__law_read_side cd__law_read_side ct__law_read_side), sl__law_read_side⟩)
    (c__law_read_side : PySem.W.codeIn K cd__law_read_side "_law_read_side" = true)
    (k__law_read_side : PySem.W.keepIn K (.ref f__law_read_side) = true)
    (a__law_read_rule : PySem.W.nsIn K mainGlobals "_law_read_rule" = some (some (.ref f__law_read_rule)))
    (l__law_read_rule : K.lookup f__law_read_rule = some ⟨oc__law_read_rule, od__law_read_rule, .func (PySem.W.fnOf "_law_read_rule" "_law_read_rule" (defArgs s__law_read_rule) (defBody s__law_read_rule) (defScope s__law_read_rule) .none kV__law_read_rule dc__law_read_rule pm__law_read_rule an__law_read_rule cd__law_read_rule ct__law_read_rule), sl__law_read_rule⟩)
    (c__law_read_rule : PySem.W.codeIn K cd__law_read_rule "_law_read_rule" = true)
    (k__law_read_rule : PySem.W.keepIn K (.ref f__law_read_rule) = true)
    (a__law_nested : PySem.W.nsIn K mainGlobals "_law_nested" = some (some (.ref f__law_nested)))
    (l__law_nested : K.lookup f__law_nested = some ⟨oc__law_nested, od__law_nested, .func (PySem.W.fnOf "_law_nested" "_law_nested" (defArgs s__law_nested) (defBody s__law_nested) (defScope s__law_nested) .none kV__law_nested dc__law_nested pm__law_nested an__law_nested cd__law_nested ct__law_nested), sl__law_nested⟩)
    (c__law_nested : PySem.W.codeIn K cd__law_nested "_law_nested" = true)
    (k__law_nested : PySem.W.keepIn K (.ref f__law_nested) = true)
    (a__law_read : PySem.W.nsIn K mainGlobals "_law_read" = some (some (.ref f__law_read)))
    (l__law_read : K.lookup f__law_read = some ⟨oc__law_read, od__law_read, .func (PySem.W.fnOf "_law_read" "_law_read" (defArgs s__law_read) (defBody s__law_read) (defScope s__law_read) .none kV__law_read dc__law_read pm__law_read an__law_read cd__law_read ct__law_read), sl__law_read⟩)
    (c__law_read : PySem.W.codeIn K cd__law_read "_law_read" = true)
    (k__law_read : PySem.W.keepIn K (.ref f__law_read) = true)
    (a__law_parsed : PySem.W.nsIn K mainGlobals "_law_parsed" = some (some (.ref f__law_parsed)))
    (l__law_parsed : K.lookup f__law_parsed = some ⟨oc__law_parsed, od__law_parsed, .func (PySem.W.fnOf "_law_parsed" "_law_parsed" (defArgs s__law_parsed) (defBody s__law_parsed) (defScope s__law_parsed) .none kV__law_parsed dc__law_parsed pm__law_parsed an__law_parsed cd__law_parsed ct__law_parsed), sl__law_parsed⟩)
    (c__law_parsed : PySem.W.codeIn K cd__law_parsed "_law_parsed" = true)
    (k__law_parsed : PySem.W.keepIn K (.ref f__law_parsed) = true)
    (a__law_bent : PySem.W.nsIn K mainGlobals "_law_bent" = some (some (.ref f__law_bent)))
    (l__law_bent : K.lookup f__law_bent = some ⟨oc__law_bent, od__law_bent, .func (PySem.W.fnOf "_law_bent" "_law_bent" (defArgs s__law_bent) (defBody s__law_bent) (defScope s__law_bent) .none kV__law_bent dc__law_bent pm__law_bent an__law_bent cd__law_bent ct__law_bent), sl__law_bent⟩)
    (c__law_bent : PySem.W.codeIn K cd__law_bent "_law_bent" = true)
    (k__law_bent : PySem.W.keepIn K (.ref f__law_bent) = true)
    (a_law : PySem.W.nsIn K mainGlobals "law" = some (some (.ref f_law)))
    (l_law : K.lookup f_law = some ⟨oc_law, od_law, .func (PySem.W.fnOf "law" "law" (defArgs s_law) (defBody s_law) (defScope s_law) .none kV_law dc_law pm_law an_law (.ref cc_law) ct_law), sl_law⟩)
    (c_law : PySem.W.codeIn K (.ref cc_law) "law" = true)
    (k_law : PySem.W.keepIn K (.ref f_law) = true)
    (co : PySem.W.nsIn K mainGlobals "Condition" = some (some (.ref CO)))
    (co_mk : PySem.W.makesIn K CO = true)
    (co_in : PySem.W.findIn K (.ref CO) "__init__" = some (some (.ref f_mi)))
    (co_fn : PySem.W.isFn K (.ref f_mi) = true)
    (co_kp : PySem.W.keepIn K (.ref CO) = true)
    (co_pg : PySem.W.plainGet K CO Str.empty = true)
    (co_hd : PySem.W.hasDictIn K CO = true)
    (co_po : PySem.W.plainOver K CO = true)
    (co_sa : PySem.W.findIn K (.ref CO) "__setattr__" = some (some (.builtin "object.__setattr__")))
    (co_n1 : PySem.W.findIn K (.ref CO) "_holding" = some none)
    (co_n2 : PySem.W.findIn K (.ref CO) "_failing" = some none)
    (co_n3 : PySem.W.findIn K (.ref CO) "_names" = some none)
    (pa_mh : PySem.W.findIn K (.ref CO) "holding" = some (some (.ref pp_mh)))
    (pg_mh : PySem.W.specialIn K (.ref pp_mh) "__get__" = some (some (.builtin "property.__get__")))
    (pt_mh : PySem.W.takesIn K (.ref pp_mh) = some true)
    (pr_mh : PySem.W.recIn K pp_mh "property" = some (.ref f_mh :: rs_mh))
    (pa_mf : PySem.W.findIn K (.ref CO) "failing" = some (some (.ref pp_mf)))
    (pg_mf : PySem.W.specialIn K (.ref pp_mf) "__get__" = some (some (.builtin "property.__get__")))
    (pt_mf : PySem.W.takesIn K (.ref pp_mf) = some true)
    (pr_mf : PySem.W.recIn K pp_mf "property" = some (.ref f_mf :: rs_mf))
    (pa_mn : PySem.W.findIn K (.ref CO) "names" = some (some (.ref pp_mn)))
    (pg_mn : PySem.W.specialIn K (.ref pp_mn) "__get__" = some (some (.builtin "property.__get__")))
    (pt_mn : PySem.W.takesIn K (.ref pp_mn) = some true)
    (pr_mn : PySem.W.recIn K pp_mn "property" = some (.ref f_mn :: rs_mn))
    (ro : PySem.W.nsIn K mainGlobals "Rule" = some (some (.ref RO)))
    (ro_mk : PySem.W.makesIn K RO = true)
    (ro_in : PySem.W.findIn K (.ref RO) "__init__" = some (some (.ref f_ri)))
    (ro_fn : PySem.W.isFn K (.ref f_ri) = true)
    (ro_kp : PySem.W.keepIn K (.ref RO) = true)
    (ro_pg : PySem.W.plainGet K RO Str.empty = true)
    (ro_hd : PySem.W.hasDictIn K RO = true)
    (ro_po : PySem.W.plainOver K RO = true)
    (ro_sa : PySem.W.findIn K (.ref RO) "__setattr__" = some (some (.builtin "object.__setattr__")))
    (ro_n1 : PySem.W.findIn K (.ref RO) "_name" = some none)
    (ro_n2 : PySem.W.findIn K (.ref RO) "_condition" = some none)
    (ro_n3 : PySem.W.findIn K (.ref RO) "_ruling" = some none)
    (ro_n4 : PySem.W.findIn K (.ref RO) "_exceptions" = some none)
    (ro_n5 : PySem.W.findIn K (.ref RO) "_depth" = some none)
    (ro_n6 : PySem.W.findIn K (.ref RO) "_inside" = some none)
    (pa_rn : PySem.W.findIn K (.ref RO) "name" = some (some (.ref pp_rn)))
    (pg_rn : PySem.W.specialIn K (.ref pp_rn) "__get__" = some (some (.builtin "property.__get__")))
    (pt_rn : PySem.W.takesIn K (.ref pp_rn) = some true)
    (pr_rn : PySem.W.recIn K pp_rn "property" = some (.ref f_rn :: rs_rn))
    (pa_rc : PySem.W.findIn K (.ref RO) "condition" = some (some (.ref pp_rc)))
    (pg_rc : PySem.W.specialIn K (.ref pp_rc) "__get__" = some (some (.builtin "property.__get__")))
    (pt_rc : PySem.W.takesIn K (.ref pp_rc) = some true)
    (pr_rc : PySem.W.recIn K pp_rc "property" = some (.ref f_rc :: rs_rc))
    (pa_rr : PySem.W.findIn K (.ref RO) "ruling" = some (some (.ref pp_rr)))
    (pg_rr : PySem.W.specialIn K (.ref pp_rr) "__get__" = some (some (.builtin "property.__get__")))
    (pt_rr : PySem.W.takesIn K (.ref pp_rr) = some true)
    (pr_rr : PySem.W.recIn K pp_rr "property" = some (.ref f_rr :: rs_rr))
    (pa_re : PySem.W.findIn K (.ref RO) "exceptions" = some (some (.ref pp_re)))
    (pg_re : PySem.W.specialIn K (.ref pp_re) "__get__" = some (some (.builtin "property.__get__")))
    (pt_re : PySem.W.takesIn K (.ref pp_re) = some true)
    (pr_re : PySem.W.recIn K pp_re "property" = some (.ref f_re :: rs_re))
    (pa_rd : PySem.W.findIn K (.ref RO) "depth" = some (some (.ref pp_rd)))
    (pg_rd : PySem.W.specialIn K (.ref pp_rd) "__get__" = some (some (.builtin "property.__get__")))
    (pt_rd : PySem.W.takesIn K (.ref pp_rd) = some true)
    (pr_rd : PySem.W.recIn K pp_rd "property" = some (.ref f_rd :: rs_rd))
    (bo : PySem.W.nsIn K mainGlobals "Book" = some (some (.ref BO)))
    (bo_mk : PySem.W.makesIn K BO = true)
    (bo_in : PySem.W.findIn K (.ref BO) "__init__" = some (some (.ref f_bi)))
    (bo_fn : PySem.W.isFn K (.ref f_bi) = true)
    (bo_kp : PySem.W.keepIn K (.ref BO) = true)
    (bo_pg : PySem.W.plainGet K BO Str.empty = true)
    (bo_hd : PySem.W.hasDictIn K BO = true)
    (bo_po : PySem.W.plainOver K BO = true)
    (bo_sa : PySem.W.findIn K (.ref BO) "__setattr__" = some (some (.builtin "object.__setattr__")))
    (bo_n1 : PySem.W.findIn K (.ref BO) "_facts" = some none)
    (bo_n2 : PySem.W.findIn K (.ref BO) "_rules" = some none)
    (bo_n3 : PySem.W.findIn K (.ref BO) "_ruling" = some none)
    (bo_n4 : PySem.W.findIn K (.ref BO) "_numbered" = some none)
    (pa_bf : PySem.W.findIn K (.ref BO) "facts" = some (some (.ref pp_bf)))
    (pg_bf : PySem.W.specialIn K (.ref pp_bf) "__get__" = some (some (.builtin "property.__get__")))
    (pt_bf : PySem.W.takesIn K (.ref pp_bf) = some true)
    (pr_bf : PySem.W.recIn K pp_bf "property" = some (.ref f_bf :: rs_bf))
    (pa_bs : PySem.W.findIn K (.ref BO) "rules" = some (some (.ref pp_bs)))
    (pg_bs : PySem.W.specialIn K (.ref pp_bs) "__get__" = some (some (.builtin "property.__get__")))
    (pt_bs : PySem.W.takesIn K (.ref pp_bs) = some true)
    (pr_bs : PySem.W.recIn K pp_bs "property" = some (.ref f_bs :: rs_bs))
    (pa_br : PySem.W.findIn K (.ref BO) "ruling" = some (some (.ref pp_br)))
    (pg_br : PySem.W.specialIn K (.ref pp_br) "__get__" = some (some (.builtin "property.__get__")))
    (pt_br : PySem.W.takesIn K (.ref pp_br) = some true)
    (pr_br : PySem.W.recIn K pp_br "property" = some (.ref f_br :: rs_br))
    (wo : PySem.W.nsIn K mainGlobals "Words" = some (some (.ref WO)))
    (wo_mk : PySem.W.makesIn K WO = true)
    (wo_in : PySem.W.findIn K (.ref WO) "__init__" = some (some (.ref f_wi)))
    (wo_fn : PySem.W.isFn K (.ref f_wi) = true)
    (wo_kp : PySem.W.keepIn K (.ref WO) = true)
    (wo_pg : PySem.W.plainGet K WO Str.empty = true)
    (wo_hd : PySem.W.hasDictIn K WO = true)
    (wo_po : PySem.W.plainOver K WO = true)
    (wo_sa : PySem.W.findIn K (.ref WO) "__setattr__" = some (some (.builtin "object.__setattr__")))
    (wo_n1 : PySem.W.findIn K (.ref WO) "row" = some none)
    (wo_n2 : PySem.W.findIn K (.ref WO) "left" = some none)
    (wo_n3 : PySem.W.findIn K (.ref WO) "at" = some none)
    (at_wa : PySem.W.findIn K (.ref WO) "ahead" = some (some (.ref f_wa)))
    (fn_wa : PySem.W.isFn K (.ref f_wa) = true)
    (at_wc : PySem.W.findIn K (.ref WO) "check" = some (some (.ref f_wc)))
    (fn_wc : PySem.W.isFn K (.ref f_wc) = true)
    (at_wt : PySem.W.findIn K (.ref WO) "take" = some (some (.ref f_wt)))
    (fn_wt : PySem.W.isFn K (.ref f_wt) = true)
    (at_we : PySem.W.findIn K (.ref WO) "check_end" = some (some (.ref f_we)))
    (fn_we : PySem.W.isFn K (.ref f_we) = true)
    (m_RESERVED : PySem.W.nsIn K mainGlobals "RESERVED" = some (some (.ref rsA)))
    (rs_l : K.lookup rsA = some ⟨.type "tuple", odR, .seq #[.str "facts" uR1, .str "is" uR2, .str "if" uR3, .str "not" uR4, .str "else" uR5] nR, slR⟩)
    (l_mi : K.lookup f_mi = some ⟨oc_mi, od_mi, .func (PySem.W.fnOf "__init__" "Condition.__init__" (defArgs s_Condition___init__) (defBody s_Condition___init__) (defScope s_Condition___init__) .none kV_mi dc_mi pm_mi an_mi cd_mi ct_mi), sl_mi⟩)
    (c_mi : PySem.W.codeIn K cd_mi "Condition.__init__" = true)
    (k_mi : PySem.W.keepIn K (.ref f_mi) = true)
    (l_mh : K.lookup f_mh = some ⟨oc_mh, od_mh, .func (PySem.W.fnOf "holding" "Condition.holding" (defArgs s_Condition_holding) (defBody s_Condition_holding) (defScope s_Condition_holding) .none kV_mh dc_mh pm_mh an_mh cd_mh ct_mh), sl_mh⟩)
    (c_mh : PySem.W.codeIn K cd_mh "Condition.holding" = true)
    (k_mh : PySem.W.keepIn K (.ref f_mh) = true)
    (l_mf : K.lookup f_mf = some ⟨oc_mf, od_mf, .func (PySem.W.fnOf "failing" "Condition.failing" (defArgs s_Condition_failing) (defBody s_Condition_failing) (defScope s_Condition_failing) .none kV_mf dc_mf pm_mf an_mf cd_mf ct_mf), sl_mf⟩)
    (c_mf : PySem.W.codeIn K cd_mf "Condition.failing" = true)
    (k_mf : PySem.W.keepIn K (.ref f_mf) = true)
    (l_mn : K.lookup f_mn = some ⟨oc_mn, od_mn, .func (PySem.W.fnOf "names" "Condition.names" (defArgs s_Condition_names) (defBody s_Condition_names) (defScope s_Condition_names) .none kV_mn dc_mn pm_mn an_mn cd_mn ct_mn), sl_mn⟩)
    (c_mn : PySem.W.codeIn K cd_mn "Condition.names" = true)
    (k_mn : PySem.W.keepIn K (.ref f_mn) = true)
    (l_ri : K.lookup f_ri = some ⟨oc_ri, od_ri, .func (PySem.W.fnOf "__init__" "Rule.__init__" (defArgs s_Rule___init__) (defBody s_Rule___init__) (defScope s_Rule___init__) .none kV_ri dc_ri pm_ri an_ri cd_ri ct_ri), sl_ri⟩)
    (c_ri : PySem.W.codeIn K cd_ri "Rule.__init__" = true)
    (k_ri : PySem.W.keepIn K (.ref f_ri) = true)
    (l_rn : K.lookup f_rn = some ⟨oc_rn, od_rn, .func (PySem.W.fnOf "name" "Rule.name" (defArgs s_Rule_name) (defBody s_Rule_name) (defScope s_Rule_name) .none kV_rn dc_rn pm_rn an_rn cd_rn ct_rn), sl_rn⟩)
    (c_rn : PySem.W.codeIn K cd_rn "Rule.name" = true)
    (k_rn : PySem.W.keepIn K (.ref f_rn) = true)
    (l_rc : K.lookup f_rc = some ⟨oc_rc, od_rc, .func (PySem.W.fnOf "condition" "Rule.condition" (defArgs s_Rule_condition) (defBody s_Rule_condition) (defScope s_Rule_condition) .none kV_rc dc_rc pm_rc an_rc cd_rc ct_rc), sl_rc⟩)
    (c_rc : PySem.W.codeIn K cd_rc "Rule.condition" = true)
    (k_rc : PySem.W.keepIn K (.ref f_rc) = true)
    (l_rr : K.lookup f_rr = some ⟨oc_rr, od_rr, .func (PySem.W.fnOf "ruling" "Rule.ruling" (defArgs s_Rule_ruling) (defBody s_Rule_ruling) (defScope s_Rule_ruling) .none kV_rr dc_rr pm_rr an_rr cd_rr ct_rr), sl_rr⟩)
    (c_rr : PySem.W.codeIn K cd_rr "Rule.ruling" = true)
    (k_rr : PySem.W.keepIn K (.ref f_rr) = true)
    (l_re : K.lookup f_re = some ⟨oc_re, od_re, .func (PySem.W.fnOf "exceptions" "Rule.exceptions" (defArgs s_Rule_exceptions) (defBody s_Rule_exceptions) (defScope s_Rule_exceptions) .none kV_re dc_re pm_re an_re cd_re ct_re), sl_re⟩)
    (c_re : PySem.W.codeIn K cd_re "Rule.exceptions" = true)
    (k_re : PySem.W.keepIn K (.ref f_re) = true)
    (l_rd : K.lookup f_rd = some ⟨oc_rd, od_rd, .func (PySem.W.fnOf "depth" "Rule.depth" (defArgs s_Rule_depth) (defBody s_Rule_depth) (defScope s_Rule_depth) .none kV_rd dc_rd pm_rd an_rd cd_rd ct_rd), sl_rd⟩)
    (c_rd : PySem.W.codeIn K cd_rd "Rule.depth" = true)
    (k_rd : PySem.W.keepIn K (.ref f_rd) = true)
    (l_bi : K.lookup f_bi = some ⟨oc_bi, od_bi, .func (PySem.W.fnOf "__init__" "Book.__init__" (defArgs s_Book___init__) (defBody s_Book___init__) (defScope s_Book___init__) .none kV_bi dc_bi pm_bi an_bi cd_bi ct_bi), sl_bi⟩)
    (c_bi : PySem.W.codeIn K cd_bi "Book.__init__" = true)
    (k_bi : PySem.W.keepIn K (.ref f_bi) = true)
    (l_bf : K.lookup f_bf = some ⟨oc_bf, od_bf, .func (PySem.W.fnOf "facts" "Book.facts" (defArgs s_Book_facts) (defBody s_Book_facts) (defScope s_Book_facts) .none kV_bf dc_bf pm_bf an_bf cd_bf ct_bf), sl_bf⟩)
    (c_bf : PySem.W.codeIn K cd_bf "Book.facts" = true)
    (k_bf : PySem.W.keepIn K (.ref f_bf) = true)
    (l_bs : K.lookup f_bs = some ⟨oc_bs, od_bs, .func (PySem.W.fnOf "rules" "Book.rules" (defArgs s_Book_rules) (defBody s_Book_rules) (defScope s_Book_rules) .none kV_bs dc_bs pm_bs an_bs cd_bs ct_bs), sl_bs⟩)
    (c_bs : PySem.W.codeIn K cd_bs "Book.rules" = true)
    (k_bs : PySem.W.keepIn K (.ref f_bs) = true)
    (l_br : K.lookup f_br = some ⟨oc_br, od_br, .func (PySem.W.fnOf "ruling" "Book.ruling" (defArgs s_Book_ruling) (defBody s_Book_ruling) (defScope s_Book_ruling) .none kV_br dc_br pm_br an_br cd_br ct_br), sl_br⟩)
    (c_br : PySem.W.codeIn K cd_br "Book.ruling" = true)
    (k_br : PySem.W.keepIn K (.ref f_br) = true)
    (l_wi : K.lookup f_wi = some ⟨oc_wi, od_wi, .func (PySem.W.fnOf "__init__" "Words.__init__" (defArgs s_Words___init__) (defBody s_Words___init__) (defScope s_Words___init__) .none kV_wi dc_wi pm_wi an_wi cd_wi ct_wi), sl_wi⟩)
    (c_wi : PySem.W.codeIn K cd_wi "Words.__init__" = true)
    (k_wi : PySem.W.keepIn K (.ref f_wi) = true)
    (l_wa : K.lookup f_wa = some ⟨oc_wa, od_wa, .func (PySem.W.fnOf "ahead" "Words.ahead" (defArgs s_Words_ahead) (defBody s_Words_ahead) (defScope s_Words_ahead) .none kV_wa dc_wa pm_wa an_wa cd_wa ct_wa), sl_wa⟩)
    (c_wa : PySem.W.codeIn K cd_wa "Words.ahead" = true)
    (k_wa : PySem.W.keepIn K (.ref f_wa) = true)
    (l_wc : K.lookup f_wc = some ⟨oc_wc, od_wc, .func (PySem.W.fnOf "check" "Words.check" (defArgs s_Words_check) (defBody s_Words_check) (defScope s_Words_check) .none kV_wc dc_wc pm_wc an_wc cd_wc ct_wc), sl_wc⟩)
    (c_wc : PySem.W.codeIn K cd_wc "Words.check" = true)
    (k_wc : PySem.W.keepIn K (.ref f_wc) = true)
    (l_wt : K.lookup f_wt = some ⟨oc_wt, od_wt, .func (PySem.W.fnOf "take" "Words.take" (defArgs s_Words_take) (defBody s_Words_take) (defScope s_Words_take) .none kV_wt dc_wt pm_wt an_wt cd_wt ct_wt), sl_wt⟩)
    (c_wt : PySem.W.codeIn K cd_wt "Words.take" = true)
    (k_wt : PySem.W.keepIn K (.ref f_wt) = true)
    (l_we : K.lookup f_we = some ⟨oc_we, od_we, .func (PySem.W.fnOf "check_end" "Words.check_end" (defArgs s_Words_check_end) (defBody s_Words_check_end) (defScope s_Words_check_end) .none kV_we dc_we pm_we an_we cd_we ct_we), sl_we⟩)
    (c_we : PySem.W.codeIn K cd_we "Words.check_end" = true)
    (k_we : PySem.W.keepIn K (.ref f_we) = true)
    (b_isinstance : PySem.W.nsIn K mainGlobals "isinstance" = some none)
    (b_len : PySem.W.nsIn K mainGlobals "len" = some none)
    (b_all : PySem.W.nsIn K mainGlobals "all" = some none)
    (b_any : PySem.W.nsIn K mainGlobals "any" = some none)
    (b_sum : PySem.W.nsIn K mainGlobals "sum" = some none)
    (b_max : PySem.W.nsIn K mainGlobals "max" = some none)
    (b_min : PySem.W.nsIn K mainGlobals "min" = some none)
    (b_int : PySem.W.nsIn K mainGlobals "int" = some none)
    (b_str : PySem.W.nsIn K mainGlobals "str" = some none)
    (b_bool : PySem.W.nsIn K mainGlobals "bool" = some none)
    (b_list : PySem.W.nsIn K mainGlobals "list" = some none)
    (b_tuple : PySem.W.nsIn K mainGlobals "tuple" = some none)
    (b_dict : PySem.W.nsIn K mainGlobals "dict" = some none)
    (b_range : PySem.W.nsIn K mainGlobals "range" = some none)
    (b_enumerate : PySem.W.nsIn K mainGlobals "enumerate" = some none)
    (b_sorted : PySem.W.nsIn K mainGlobals "sorted" = some none)
    (b_reversed : PySem.W.nsIn K mainGlobals "reversed" = some none)
    (b_zip : PySem.W.nsIn K mainGlobals "zip" = some none)
    (b_set : PySem.W.nsIn K mainGlobals "set" = some none)
    (b_ValueError : PySem.W.nsIn K mainGlobals "ValueError" = some none)
    (m_LETTERS : PySem.W.nsIn K mainGlobals "LETTERS" = some (some (.str letters t_LETTERS)))
    (m_LONGEST_NAME : PySem.W.nsIn K mainGlobals "LONGEST_NAME" = some (some (.int 8 t_LONGEST_NAME)))
    (m_MOST_FACTS : PySem.W.nsIn K mainGlobals "MOST_FACTS" = some (some (.int 60 t_MOST_FACTS)))
    (m_MOST_NAMES : PySem.W.nsIn K mainGlobals "MOST_NAMES" = some (some (.int 8 t_MOST_NAMES)))
    (m_MOST_AROUND : PySem.W.nsIn K mainGlobals "MOST_AROUND" = some (some (.int 5 t_MOST_AROUND)))
    (m_MOST_RULES : PySem.W.nsIn K mainGlobals "MOST_RULES" = some (some (.int 60 t_MOST_RULES)))
    (m_MOST_OUTERMOST : PySem.W.nsIn K mainGlobals "MOST_OUTERMOST" = some (some (.int 40 t_MOST_OUTERMOST)))
    (m_SIGN : PySem.W.nsIn K mainGlobals "SIGN" = some (some (.str ">" t_SIGN)))
    (m_CourtError : PySem.W.nsIn K mainGlobals "CourtError" = some (some (.ref CE)))
    (m_InvalidFacts : PySem.W.nsIn K mainGlobals "InvalidFacts" = some (some (.ref E0)))
    (m_InvalidCondition : PySem.W.nsIn K mainGlobals "InvalidCondition" = some (some (.ref E1)))
    (m_InvalidRule : PySem.W.nsIn K mainGlobals "InvalidRule" = some (some (.ref E2)))
    (m_InvalidBook : PySem.W.nsIn K mainGlobals "InvalidBook" = some (some (.ref E3)))
    (m_InvalidText : PySem.W.nsIn K mainGlobals "InvalidText" = some (some (.ref E4)))
    (CEbe : PySem.W.subIn K (.ref CE) (.type "BaseException") = some true)
    (CEcl : PySem.W.isClsIn K CE = true)
    (CEty : PySem.W.typeIn K (.ref CE) = some (.type "type"))
    (u_0 : PySem.W.isClsIn K E0 = true)
    (v_0 : PySem.W.typeIn K (.ref E0) = some (.type "type"))
    (u_1 : PySem.W.isClsIn K E1 = true)
    (v_1 : PySem.W.typeIn K (.ref E1) = some (.type "type"))
    (u_2 : PySem.W.isClsIn K E2 = true)
    (v_2 : PySem.W.typeIn K (.ref E2) = some (.type "type"))
    (u_3 : PySem.W.isClsIn K E3 = true)
    (v_3 : PySem.W.typeIn K (.ref E3) = some (.type "type"))
    (u_4 : PySem.W.isClsIn K E4 = true)
    (v_4 : PySem.W.typeIn K (.ref E4) = some (.type "type"))
    (r4_cl : PySem.W.isClsIn K E4 = true)
    (r4_ga : PySem.W.findIn K (.ref E4) "__getattribute__" = some (some (.builtin "BaseException.__getattribute__")))
    (r4_gt : PySem.W.findIn K (.ref E4) "__getattr__" = some none)
    (r4_be : PySem.W.subIn K (.ref E4) (.type "BaseException") = some true)
    (r4_kc : PySem.W.findIn K (.ref E4) "__class__" = some (some (.builtin "object.__class__")))
    (r4_ob : PySem.W.mroIn K E4 (.type "object") = some true)
    (r4_hd : PySem.W.hasDictIn K E4 = true)
    (r4_sC : PySem.W.subIn K (.ref E4) (.ref CE) = some true)
    (r4_ve : PySem.W.subIn K (.ref E4) (.type "ValueError") = some true)
    (r4_k0 : PySem.W.subIn K (.ref E4) (.ref E0) = some false)
    (r4_k1 : PySem.W.subIn K (.ref E4) (.ref E1) = some false)
    (r4_k2 : PySem.W.subIn K (.ref E4) (.ref E2) = some false)
    (r4_k3 : PySem.W.subIn K (.ref E4) (.ref E3) = some false)
    (r4_k4 : PySem.W.subIn K (.ref E4) (.ref E4) = some true)
    (r4_n_index : PySem.W.findIn K (.ref E4) "index" = some none)
    (r4_n_part : PySem.W.findIn K (.ref E4) "part" = some none)
    (r4_n_word : PySem.W.findIn K (.ref E4) "word" = some none)
    (r4_n_fact : PySem.W.findIn K (.ref E4) "fact" = some none)
    (sg : PySem.W.specialIn K (.builtin "object.__class__") "__get__" = some (some (.builtin "getset_descriptor.__get__")))
    (tk : PySem.W.takesIn K (.builtin "object.__class__") = some true)
    (x_E : K.lookup CE = some (excClassObj nmE qE CE NE bsE bmE true snE suE abE colE ddE x0E x1E x2E x3E x5E "ValueError.__new__"))
    (f_E : PySem.W.findIn K (.ref CE) "__init__" = some (some (.builtin "ValueError.__init__")))
    (noS : PySem.W.nsIn K mainGlobals "super" = some none)
    (opq : PySem.W.nsIn K cStatics "thirdparty.any" = some none)
    (i0_x : K.lookup E0 = some (excClassObj nmi0 qi0 E0 Ni0 bsi0 bmi0 true sni0 sui0 abi0 coli0 ddi0 x0i0 x1i0 x2i0 x3i0 x5i0 "ValueError.__new__"))
    (i0_rv : HandSPX.refsVE bmi0 = true)
    (i0_sa : PySem.W.findIn K (.ref E0) "__setattr__" = some (some (.builtin "object.__setattr__")))
    (i0_ty : PySem.W.typeIn K (.ref E0) = some (.type "type"))
    (i0_kC : PySem.W.keepIn K (.ref E0) = true)
    (i0_in : PySem.W.findIn K (.ref E0) "__init__" = some (some (.ref fIi0)))
    (i0_tI : PySem.W.typeIn K (.ref fIi0) = some (.type "function"))
    (i0_lI : K.lookup fIi0 = some ⟨ocii0, odii0, .func (supFd (nf_InvalidFacts celi0 codi0) kVii0 dcii0 pmii0 anii0 ctii0), slii0⟩)
    (i0_cI : PySem.W.codeIn K (.ref codi0) "InvalidFacts.__init__" = true)
    (i0_ce : K.lookup celi0 = some ⟨clci0, ccddi0, .cell (some (.ref E0)), csli0⟩)
    (i0_co : K.lookup codi0 = some ⟨ccli0, cddi0, .fields vsi0, ccsi0⟩)
    (i0_fi : vsi0[2]? = some (.str fili0 tfii0))
    (i0_fe : ((P.main.file : Str) == fili0) = true)
    (i0_sb : PySem.W.mroIn K E0 (.ref E0) = some true)
    (i0_bm : bmi0 = .ref CE :: bmE)
    (i0_vB : PySem.W.subIn K (.ref E0) (.type "ValueError") = some true)
    (i0_bE : PySem.W.subIn K (.ref E0) (.type "BaseException") = some true)
    (i0_f_index : PySem.W.findIn K (.ref E0) "index" = some none)
    (i1_x : K.lookup E1 = some (excClassObj nmi1 qi1 E1 Ni1 bsi1 bmi1 true sni1 sui1 abi1 coli1 ddi1 x0i1 x1i1 x2i1 x3i1 x5i1 "ValueError.__new__"))
    (i1_rv : HandSPX.refsVE bmi1 = true)
    (i1_sa : PySem.W.findIn K (.ref E1) "__setattr__" = some (some (.builtin "object.__setattr__")))
    (i1_ty : PySem.W.typeIn K (.ref E1) = some (.type "type"))
    (i1_kC : PySem.W.keepIn K (.ref E1) = true)
    (i1_in : PySem.W.findIn K (.ref E1) "__init__" = some (some (.ref fIi1)))
    (i1_tI : PySem.W.typeIn K (.ref fIi1) = some (.type "function"))
    (i1_lI : K.lookup fIi1 = some ⟨ocii1, odii1, .func (supFd (nf_InvalidCondition celi1 codi1) kVii1 dcii1 pmii1 anii1 ctii1), slii1⟩)
    (i1_cI : PySem.W.codeIn K (.ref codi1) "InvalidCondition.__init__" = true)
    (i1_ce : K.lookup celi1 = some ⟨clci1, ccddi1, .cell (some (.ref E1)), csli1⟩)
    (i1_co : K.lookup codi1 = some ⟨ccli1, cddi1, .fields vsi1, ccsi1⟩)
    (i1_fi : vsi1[2]? = some (.str fili1 tfii1))
    (i1_fe : ((P.main.file : Str) == fili1) = true)
    (i1_sb : PySem.W.mroIn K E1 (.ref E1) = some true)
    (i1_bm : bmi1 = .ref CE :: bmE)
    (i1_vB : PySem.W.subIn K (.ref E1) (.type "ValueError") = some true)
    (i1_bE : PySem.W.subIn K (.ref E1) (.type "BaseException") = some true)
    (i1_f_part : PySem.W.findIn K (.ref E1) "part" = some none)
    (i1_f_index : PySem.W.findIn K (.ref E1) "index" = some none)
    (i2_x : K.lookup E2 = some (excClassObj nmi2 qi2 E2 Ni2 bsi2 bmi2 true sni2 sui2 abi2 coli2 ddi2 x0i2 x1i2 x2i2 x3i2 x5i2 "ValueError.__new__"))
    (i2_rv : HandSPX.refsVE bmi2 = true)
    (i2_sa : PySem.W.findIn K (.ref E2) "__setattr__" = some (some (.builtin "object.__setattr__")))
    (i2_ty : PySem.W.typeIn K (.ref E2) = some (.type "type"))
    (i2_kC : PySem.W.keepIn K (.ref E2) = true)
    (i2_in : PySem.W.findIn K (.ref E2) "__init__" = some (some (.ref fIi2)))
    (i2_tI : PySem.W.typeIn K (.ref fIi2) = some (.type "function"))
    (i2_lI : K.lookup fIi2 = some ⟨ocii2, odii2, .func (supFd (nf_InvalidRule celi2 codi2) kVii2 dcii2 pmii2 anii2 ctii2), slii2⟩)
    (i2_cI : PySem.W.codeIn K (.ref codi2) "InvalidRule.__init__" = true)
    (i2_ce : K.lookup celi2 = some ⟨clci2, ccddi2, .cell (some (.ref E2)), csli2⟩)
    (i2_co : K.lookup codi2 = some ⟨ccli2, cddi2, .fields vsi2, ccsi2⟩)
    (i2_fi : vsi2[2]? = some (.str fili2 tfii2))
    (i2_fe : ((P.main.file : Str) == fili2) = true)
    (i2_sb : PySem.W.mroIn K E2 (.ref E2) = some true)
    (i2_bm : bmi2 = .ref CE :: bmE)
    (i2_vB : PySem.W.subIn K (.ref E2) (.type "ValueError") = some true)
    (i2_bE : PySem.W.subIn K (.ref E2) (.type "BaseException") = some true)
    (i2_f_part : PySem.W.findIn K (.ref E2) "part" = some none)
    (i3_x : K.lookup E3 = some (excClassObj nmi3 qi3 E3 Ni3 bsi3 bmi3 true sni3 sui3 abi3 coli3 ddi3 x0i3 x1i3 x2i3 x3i3 x5i3 "ValueError.__new__"))
    (i3_rv : HandSPX.refsVE bmi3 = true)
    (i3_sa : PySem.W.findIn K (.ref E3) "__setattr__" = some (some (.builtin "object.__setattr__")))
    (i3_ty : PySem.W.typeIn K (.ref E3) = some (.type "type"))
    (i3_kC : PySem.W.keepIn K (.ref E3) = true)
    (i3_in : PySem.W.findIn K (.ref E3) "__init__" = some (some (.ref fIi3)))
    (i3_tI : PySem.W.typeIn K (.ref fIi3) = some (.type "function"))
    (i3_lI : K.lookup fIi3 = some ⟨ocii3, odii3, .func (supFd (nf_InvalidBook celi3 codi3) kVii3 dcii3 pmii3 anii3 ctii3), slii3⟩)
    (i3_cI : PySem.W.codeIn K (.ref codi3) "InvalidBook.__init__" = true)
    (i3_ce : K.lookup celi3 = some ⟨clci3, ccddi3, .cell (some (.ref E3)), csli3⟩)
    (i3_co : K.lookup codi3 = some ⟨ccli3, cddi3, .fields vsi3, ccsi3⟩)
    (i3_fi : vsi3[2]? = some (.str fili3 tfii3))
    (i3_fe : ((P.main.file : Str) == fili3) = true)
    (i3_sb : PySem.W.mroIn K E3 (.ref E3) = some true)
    (i3_bm : bmi3 = .ref CE :: bmE)
    (i3_vB : PySem.W.subIn K (.ref E3) (.type "ValueError") = some true)
    (i3_bE : PySem.W.subIn K (.ref E3) (.type "BaseException") = some true)
    (i3_f_word : PySem.W.findIn K (.ref E3) "word" = some none)
    (i3_f_index : PySem.W.findIn K (.ref E3) "index" = some none)
    (i4_x : K.lookup E4 = some (excClassObj nmi4 qi4 E4 Ni4 bsi4 bmi4 true sni4 sui4 abi4 coli4 ddi4 x0i4 x1i4 x2i4 x3i4 x5i4 "ValueError.__new__"))
    (i4_rv : HandSPX.refsVE bmi4 = true)
    (i4_sa : PySem.W.findIn K (.ref E4) "__setattr__" = some (some (.builtin "object.__setattr__")))
    (i4_ty : PySem.W.typeIn K (.ref E4) = some (.type "type"))
    (i4_kC : PySem.W.keepIn K (.ref E4) = true)
    (i4_in : PySem.W.findIn K (.ref E4) "__init__" = some (some (.ref fIi4)))
    (i4_tI : PySem.W.typeIn K (.ref fIi4) = some (.type "function"))
    (i4_lI : K.lookup fIi4 = some ⟨ocii4, odii4, .func (supFd (nf_InvalidText celi4 codi4) kVii4 dcii4 pmii4 anii4 ctii4), slii4⟩)
    (i4_cI : PySem.W.codeIn K (.ref codi4) "InvalidText.__init__" = true)
    (i4_ce : K.lookup celi4 = some ⟨clci4, ccddi4, .cell (some (.ref E4)), csli4⟩)
    (i4_co : K.lookup codi4 = some ⟨ccli4, cddi4, .fields vsi4, ccsi4⟩)
    (i4_fi : vsi4[2]? = some (.str fili4 tfii4))
    (i4_fe : ((P.main.file : Str) == fili4) = true)
    (i4_sb : PySem.W.mroIn K E4 (.ref E4) = some true)
    (i4_bm : bmi4 = .ref CE :: bmE)
    (i4_vB : PySem.W.subIn K (.ref E4) (.type "ValueError") = some true)
    (i4_bE : PySem.W.subIn K (.ref E4) (.type "BaseException") = some true)
    (i4_f_row : PySem.W.findIn K (.ref E4) "row" = some none)
    (i4_f_word : PySem.W.findIn K (.ref E4) "word" = some none)
    (top0 : (P.main.scope.names.lookup ("super" : Str)).isSome = false) : LamX.LawAtS l w K CX0 32 63 "_law_script" mg fa h := by
  have e := hfa.symm.trans (PySem.W.mg_of X G a_law)
  cases e
  subst eP
  have B : Blt mg := ⟨PySem.W.mg_none_of X G b_isinstance, PySem.W.mg_none_of X G b_len, PySem.W.mg_none_of X G b_all, PySem.W.mg_none_of X G b_any, PySem.W.mg_none_of X G b_sum, PySem.W.mg_none_of X G b_max, PySem.W.mg_none_of X G b_min, PySem.W.mg_none_of X G b_int, PySem.W.mg_none_of X G b_str, PySem.W.mg_none_of X G b_bool, PySem.W.mg_none_of X G b_list, PySem.W.mg_none_of X G b_tuple, PySem.W.mg_none_of X G b_dict, PySem.W.mg_none_of X G b_range, PySem.W.mg_none_of X G b_enumerate, PySem.W.mg_none_of X G b_sorted, PySem.W.mg_none_of X G b_reversed, PySem.W.mg_none_of X G b_zip, PySem.W.mg_none_of X G b_set, PySem.W.mg_none_of X G b_ValueError⟩
  have F_is_name := fun_mk (st := s_is_name) l_is_name c_is_name k_is_name
  have b_is_name := F_is_name.binds (ps := ["value"]) fun _ _ _ _ _ _ us hl => match us, hl with | [_], _ => rfl
  have F_rises := fun_mk (st := s_rises) l_rises c_rises k_rises
  have b_rises := F_rises.binds (ps := ["names", "index"]) fun _ _ _ _ _ _ us hl => match us, hl with | [_, _], _ => rfl
  have F_check_facts := fun_mk (st := s_check_facts) l_check_facts c_check_facts k_check_facts
  have b_check_facts := F_check_facts.binds (ps := ["facts"]) fun _ _ _ _ _ _ us hl => match us, hl with | [_], _ => rfl
  have F_nested := fun_mk (st := s_nested) l_nested c_nested k_nested
  have b_nested := F_nested.binds (ps := ["rules", "around"]) fun _ _ _ _ _ _ us hl => match us, hl with | [_, _], _ => rfl
  have F_check_rules := fun_mk (st := s_check_rules) l_check_rules c_check_rules k_check_rules
  have b_check_rules := F_check_rules.binds (ps := ["facts", "rules"]) fun _ _ _ _ _ _ us hl => match us, hl with | [_, _], _ => rfl
  have F_check_part := fun_mk (st := s_check_part) l_check_part c_check_part k_check_part
  have b_check_part := F_check_part.binds (ps := ["part", "names", "before"]) fun _ _ _ _ _ _ us hl => match us, hl with | [_, _, _], _ => rfl
  have F_merged := fun_mk (st := s_merged) l_merged c_merged k_merged
  have b_merged := F_merged.binds (ps := ["names", "others"]) fun _ _ _ _ _ _ us hl => match us, hl with | [_, _], _ => rfl
  have F_is_free_name := fun_mk (st := s_is_free_name) l_is_free_name c_is_free_name k_is_free_name
  have b_is_free_name := F_is_free_name.binds (ps := ["word"]) fun _ _ _ _ _ _ us hl => match us, hl with | [_], _ => rfl
  have F_read_facts := fun_mk (st := s_read_facts) l_read_facts c_read_facts k_read_facts
  have b_read_facts := F_read_facts.binds (ps := ["words"]) fun _ _ _ _ _ _ us hl => match us, hl with | [_], _ => rfl
  have F_read_ending := fun_mk (st := s_read_ending) l_read_ending c_read_ending k_read_ending
  have b_read_ending := F_read_ending.binds (ps := ["words"]) fun _ _ _ _ _ _ us hl => match us, hl with | [_], _ => rfl
  have F_read_part := fun_mk (st := s_read_part) l_read_part c_read_part k_read_part
  have b_read_part := F_read_part.binds (ps := ["words", "word", "facts", "taken"]) fun _ _ _ _ _ _ us hl => match us, hl with | [_, _, _, _], _ => rfl
  have F_read_signs := fun_mk (st := s_read_signs) l_read_signs c_read_signs k_read_signs
  have b_read_signs := F_read_signs.binds (ps := ["words", "before"]) fun _ _ _ _ _ _ us hl => match us, hl with | [_, _], _ => rfl
  have F_read_rule := fun_mk (st := s_read_rule) l_read_rule c_read_rule k_read_rule
  have b_read_rule := F_read_rule.binds (ps := ["words", "facts", "before"]) fun _ _ _ _ _ _ us hl => match us, hl with | [_, _, _], _ => rfl
  have F_rules_told := fun_mk (st := s_rules_told) l_rules_told c_rules_told k_rules_told
  have b_rules_told := F_rules_told.binds (ps := ["told"]) fun _ _ _ _ _ _ us hl => match us, hl with | [_], _ => rfl
  have F_parse_book := fun_mk (st := s_parse_book) l_parse_book c_parse_book k_parse_book
  have b_parse_book := F_parse_book.binds (ps := ["text"]) fun _ _ _ _ _ _ us hl => match us, hl with | [_], _ => rfl
  have F__law_mix := fun_mk (st := s__law_mix) l__law_mix c__law_mix k__law_mix
  have b__law_mix := F__law_mix.binds (ps := ["_law_script", "_law_seed"]) fun _ _ _ _ _ _ us hl => match us, hl with | [_, _], _ => rfl
  have F__law_next := fun_mk (st := s__law_next) l__law_next c__law_next k__law_next
  have b__law_next := F__law_next.binds (ps := ["_law_h", "_law_limit"]) fun _ _ _ _ _ _ us hl => match us, hl with | [_, _], _ => rfl
  have F__law_alike := fun_mk (st := s__law_alike) l__law_alike c__law_alike k__law_alike
  have b__law_alike := F__law_alike.binds (ps := ["_law_found", "_law_due"]) fun _ _ _ _ _ _ us hl => match us, hl with | [_, _], _ => rfl
  have F__law_facts := fun_mk (st := s__law_facts) l__law_facts c__law_facts k__law_facts
  have b__law_facts := F__law_facts.binds (ps := ["_law_h", "_law_most"]) fun _ _ _ _ _ _ us hl => match us, hl with | [_, _], _ => rfl
  have F__law_sides := fun_mk (st := s__law_sides) l__law_sides c__law_sides k__law_sides
  have b__law_sides := F__law_sides.binds (ps := ["_law_h", "_law_facts_here", "_law_most"]) fun _ _ _ _ _ _ us hl => match us, hl with | [_, _, _], _ => rfl
  have F__law_rule := fun_mk (st := s__law_rule) l__law_rule c__law_rule k__law_rule
  have b__law_rule := F__law_rule.binds (ps := ["_law_h", "_law_facts_here", "_law_names", "_law_deep"]) fun _ _ _ _ _ _ us hl => match us, hl with | [_, _, _, _], _ => rfl
  have F__law_drawn := fun_mk (st := s__law_drawn) l__law_drawn c__law_drawn k__law_drawn
  have b__law_drawn := F__law_drawn.binds (ps := ["_law_h", "_law_facts_here", "_law_most"]) fun _ _ _ _ _ _ us hl => match us, hl with | [_, _, _], _ => rfl
  have F__law_told := fun_mk (st := s__law_told) l__law_told c__law_told k__law_told
  have b__law_told := F__law_told.binds (ps := ["_law_rules"]) fun _ _ _ _ _ _ us hl => match us, hl with | [_], _ => rfl
  have F__law_seen := fun_mk (st := s__law_seen) l__law_seen c__law_seen k__law_seen
  have b__law_seen := F__law_seen.binds (ps := ["_law_book"]) fun _ _ _ _ _ _ us hl => match us, hl with | [_], _ => rfl
  have F__law_words := fun_mk (st := s__law_words) l__law_words c__law_words k__law_words
  have b__law_words := F__law_words.binds (ps := ["_law_rules", "_law_deep"]) fun _ _ _ _ _ _ us hl => match us, hl with | [_, _], _ => rfl
  have F__law_rows_of := fun_mk (st := s__law_rows_of) l__law_rows_of c__law_rows_of k__law_rows_of
  have b__law_rows_of := F__law_rows_of.binds (ps := ["_law_drawn_here"]) fun _ _ _ _ _ _ us hl => match us, hl with | [_], _ => rfl
  have F__law_text := fun_mk (st := s__law_text) l__law_text c__law_text k__law_text
  have b__law_text := F__law_text.binds (ps := ["_law_rows"]) fun _ _ _ _ _ _ us hl => match us, hl with | [_], _ => rfl
  have F__law_named := fun_mk (st := s__law_named) l__law_named c__law_named k__law_named
  have b__law_named := F__law_named.binds (ps := ["_law_word"]) fun _ _ _ _ _ _ us hl => match us, hl with | [_], _ => rfl
  have F__law_read_facts := fun_mk (st := s__law_read_facts) l__law_read_facts c__law_read_facts k__law_read_facts
  have b__law_read_facts := F__law_read_facts.binds (ps := ["_law_words_here"]) fun _ _ _ _ _ _ us hl => match us, hl with | [_], _ => rfl
  have F__law_read_side := fun_mk (st := s__law_read_side) l__law_read_side c__law_read_side k__law_read_side
  have b__law_read_side := F__law_read_side.binds (ps := ["_law_words_here", "_law_at", "_law_facts_here", "_law_barred", "_law_most"]) fun _ _ _ _ _ _ us hl => match us, hl with | [_, _, _, _, _], _ => rfl
  have F__law_read_rule := fun_mk (st := s__law_read_rule) l__law_read_rule c__law_read_rule k__law_read_rule
  have b__law_read_rule := F__law_read_rule.binds (ps := ["_law_words_here", "_law_facts_here", "_law_names", "_law_above"]) fun _ _ _ _ _ _ us hl => match us, hl with | [_, _, _, _], _ => rfl
  have F__law_nested := fun_mk (st := s__law_nested) l__law_nested c__law_nested k__law_nested
  have b__law_nested := F__law_nested.binds (ps := ["_law_rows", "_law_deep"]) fun _ _ _ _ _ _ us hl => match us, hl with | [_, _], _ => rfl
  have F__law_read := fun_mk (st := s__law_read) l__law_read c__law_read k__law_read
  have b__law_read := F__law_read.binds (ps := ["_law_text_here"]) fun _ _ _ _ _ _ us hl => match us, hl with | [_], _ => rfl
  have F__law_parsed := fun_mk (st := s__law_parsed) l__law_parsed c__law_parsed k__law_parsed
  have b__law_parsed := F__law_parsed.binds (ps := ["_law_text_here"]) fun _ _ _ _ _ _ us hl => match us, hl with | [_], _ => rfl
  have F__law_bent := fun_mk (st := s__law_bent) l__law_bent c__law_bent k__law_bent
  have b__law_bent := F__law_bent.binds (ps := ["_law_h", "_law_rows"]) fun _ _ _ _ _ _ us hl => match us, hl with | [_, _], _ => rfl
  have ec_InvalidText : ErrC K E4 := ⟨r4_cl, r4_ga, r4_gt, r4_be, r4_kc, sg, tk, r4_ob, r4_hd⟩
  have ox_InvalidFacts : OexC K E0 := ⟨⟨_, _, _, _, _, _, _, _, _, _, _, _, _, _, _, i0_x, i0_rv⟩, i0_sa, i0_bE, i0_ty, i0_kC⟩
  have sp_InvalidFacts : SupC l.prog K mg E0 celi0 codi0 := ⟨⟨_, _, _, i0_ce⟩, ⟨_, _, _, _, _, _, i0_co, i0_fi, i0_fe⟩, i0_sb, PySem.W.mg_none_of X G noS, opq, sup_by i0_x x_E i0_bm f_E, i0_vB, top0⟩
  have ox_InvalidCondition : OexC K E1 := ⟨⟨_, _, _, _, _, _, _, _, _, _, _, _, _, _, _, i1_x, i1_rv⟩, i1_sa, i1_bE, i1_ty, i1_kC⟩
  have sp_InvalidCondition : SupC l.prog K mg E1 celi1 codi1 := ⟨⟨_, _, _, i1_ce⟩, ⟨_, _, _, _, _, _, i1_co, i1_fi, i1_fe⟩, i1_sb, PySem.W.mg_none_of X G noS, opq, sup_by i1_x x_E i1_bm f_E, i1_vB, top0⟩
  have ox_InvalidRule : OexC K E2 := ⟨⟨_, _, _, _, _, _, _, _, _, _, _, _, _, _, _, i2_x, i2_rv⟩, i2_sa, i2_bE, i2_ty, i2_kC⟩
  have sp_InvalidRule : SupC l.prog K mg E2 celi2 codi2 := ⟨⟨_, _, _, i2_ce⟩, ⟨_, _, _, _, _, _, i2_co, i2_fi, i2_fe⟩, i2_sb, PySem.W.mg_none_of X G noS, opq, sup_by i2_x x_E i2_bm f_E, i2_vB, top0⟩
  have ox_InvalidBook : OexC K E3 := ⟨⟨_, _, _, _, _, _, _, _, _, _, _, _, _, _, _, i3_x, i3_rv⟩, i3_sa, i3_bE, i3_ty, i3_kC⟩
  have sp_InvalidBook : SupC l.prog K mg E3 celi3 codi3 := ⟨⟨_, _, _, i3_ce⟩, ⟨_, _, _, _, _, _, i3_co, i3_fi, i3_fe⟩, i3_sb, PySem.W.mg_none_of X G noS, opq, sup_by i3_x x_E i3_bm f_E, i3_vB, top0⟩
  have ox_InvalidText : OexC K E4 := ⟨⟨_, _, _, _, _, _, _, _, _, _, _, _, _, _, _, i4_x, i4_rv⟩, i4_sa, i4_bE, i4_ty, i4_kC⟩
  have sp_InvalidText : SupC l.prog K mg E4 celi4 codi4 := ⟨⟨_, _, _, i4_ce⟩, ⟨_, _, _, _, _, _, i4_co, i4_fi, i4_fe⟩, i4_sb, PySem.W.mg_none_of X G noS, opq, sup_by i4_x x_E i4_bm f_E, i4_vB, top0⟩
  have F_mi := fun_mk (st := s_Condition___init__) l_mi c_mi k_mi
  have b_mi := F_mi.binds (ps := ["self", "holding", "failing"]) fun _ _ _ _ _ _ us hl => match us, hl with | [_, _, _], _ => rfl
  have F_mh := fun_mk (st := s_Condition_holding) l_mh c_mh k_mh
  have b_mh := F_mh.binds (ps := ["self"]) fun _ _ _ _ _ _ us hl => match us, hl with | [_], _ => rfl
  have F_mf := fun_mk (st := s_Condition_failing) l_mf c_mf k_mf
  have b_mf := F_mf.binds (ps := ["self"]) fun _ _ _ _ _ _ us hl => match us, hl with | [_], _ => rfl
  have F_mn := fun_mk (st := s_Condition_names) l_mn c_mn k_mn
  have b_mn := F_mn.binds (ps := ["self"]) fun _ _ _ _ _ _ us hl => match us, hl with | [_], _ => rfl
  have F_ri := fun_mk (st := s_Rule___init__) l_ri c_ri k_ri
  have b_ri := F_ri.binds (ps := ["self", "name", "condition", "ruling", "exceptions"]) fun _ _ _ _ _ _ us hl => match us, hl with | [_, _, _, _, _], _ => rfl
  have F_rn := fun_mk (st := s_Rule_name) l_rn c_rn k_rn
  have b_rn := F_rn.binds (ps := ["self"]) fun _ _ _ _ _ _ us hl => match us, hl with | [_], _ => rfl
  have F_rc := fun_mk (st := s_Rule_condition) l_rc c_rc k_rc
  have b_rc := F_rc.binds (ps := ["self"]) fun _ _ _ _ _ _ us hl => match us, hl with | [_], _ => rfl
  have F_rr := fun_mk (st := s_Rule_ruling) l_rr c_rr k_rr
  have b_rr := F_rr.binds (ps := ["self"]) fun _ _ _ _ _ _ us hl => match us, hl with | [_], _ => rfl
  have F_re := fun_mk (st := s_Rule_exceptions) l_re c_re k_re
  have b_re := F_re.binds (ps := ["self"]) fun _ _ _ _ _ _ us hl => match us, hl with | [_], _ => rfl
  have F_rd := fun_mk (st := s_Rule_depth) l_rd c_rd k_rd
  have b_rd := F_rd.binds (ps := ["self"]) fun _ _ _ _ _ _ us hl => match us, hl with | [_], _ => rfl
  have F_bi := fun_mk (st := s_Book___init__) l_bi c_bi k_bi
  have b_bi := F_bi.binds (ps := ["self", "facts", "rules", "ruling"]) fun _ _ _ _ _ _ us hl => match us, hl with | [_, _, _, _], _ => rfl
  have F_bf := fun_mk (st := s_Book_facts) l_bf c_bf k_bf
  have b_bf := F_bf.binds (ps := ["self"]) fun _ _ _ _ _ _ us hl => match us, hl with | [_], _ => rfl
  have F_bs := fun_mk (st := s_Book_rules) l_bs c_bs k_bs
  have b_bs := F_bs.binds (ps := ["self"]) fun _ _ _ _ _ _ us hl => match us, hl with | [_], _ => rfl
  have F_br := fun_mk (st := s_Book_ruling) l_br c_br k_br
  have b_br := F_br.binds (ps := ["self"]) fun _ _ _ _ _ _ us hl => match us, hl with | [_], _ => rfl
  have F_wi := fun_mk (st := s_Words___init__) l_wi c_wi k_wi
  have b_wi := F_wi.binds (ps := ["self", "row", "text"]) fun _ _ _ _ _ _ us hl => match us, hl with | [_, _, _], _ => rfl
  have F_wa := fun_mk (st := s_Words_ahead) l_wa c_wa k_wa
  have b_wa := F_wa.binds (ps := ["self"]) fun _ _ _ _ _ _ us hl => match us, hl with | [_], _ => rfl
  have F_wc := fun_mk (st := s_Words_check) l_wc c_wc k_wc
  have b_wc := F_wc.binds (ps := ["self", "right"]) fun _ _ _ _ _ _ us hl => match us, hl with | [_, _], _ => rfl
  have F_wt := fun_mk (st := s_Words_take) l_wt c_wt k_wt
  have b_wt := F_wt.binds (ps := ["self", "right"]) fun _ _ _ _ _ _ us hl => match us, hl with | [_, _], _ => rfl
  have F_we := fun_mk (st := s_Words_check_end) l_we c_we k_we
  have b_we := F_we.binds (ps := ["self"]) fun _ _ _ _ _ _ us hl => match us, hl with | [_], _ => rfl
  have GN : GNames mg := ⟨⟨_, PySem.W.mg_of X G m_LETTERS⟩, ⟨_, PySem.W.mg_of X G m_LONGEST_NAME⟩⟩
  have CLc : Cls K CO := ⟨co_pg, co_hd, co_po, co_sa⟩
  have CLr : Cls K RO := ⟨ro_pg, ro_hd, ro_po, ro_sa⟩
  have CLb : Cls K BO := ⟨bo_pg, bo_hd, bo_po, bo_sa⟩
  have CLw : Cls K WO := ⟨wo_pg, wo_hd, wo_po, wo_sa⟩
  refine ⟨PySem.W.fnOf "law" "law" (defArgs s_law) (defBody s_law) (defScope s_law) .none kV_law dc_law pm_law an_law (.ref cc_law) ct_law, [], sp_law K, (fun _ h => nomatch h), (fun _ h => nomatch h), (fun _ h => nomatch h), ?_, ?_, ?_⟩
  · exact fun s u => .of_eq rfl
  · exact fun H a ns hl hb ht hS => ⟨a, ns, rfl, hS, hl, hb, fun _ => rfl⟩
  · intro base KB NB TBs
    have e_InvalidFacts : ErrMk l.prog w K mg base "InvalidFacts" E0 ["self", "index"] (sp_init1 E0 "index") := ⟨_, _, ox_InvalidFacts, i0_in, i0_tI, ok_init_InvalidFacts i0_lI i0_cI ox_InvalidFacts sp_InvalidFacts i0_f_index, fun s us _ hl => match us, hl with | [_, _], _ => .of_eq rfl, PySem.W.mg_of X G m_InvalidFacts⟩
    have e_InvalidCondition : ErrMk l.prog w K mg base "InvalidCondition" E1 ["self", "part", "index"] (sp_init2 E1 "part" "index") := ⟨_, _, ox_InvalidCondition, i1_in, i1_tI, ok_init_InvalidCondition i1_lI i1_cI ox_InvalidCondition sp_InvalidCondition i1_f_part i1_f_index, fun s us _ hl => match us, hl with | [_, _, _], _ => .of_eq rfl, PySem.W.mg_of X G m_InvalidCondition⟩
    have e_InvalidRule : ErrMk l.prog w K mg base "InvalidRule" E2 ["self", "part"] (sp_init1 E2 "part") := ⟨_, _, ox_InvalidRule, i2_in, i2_tI, ok_init_InvalidRule i2_lI i2_cI ox_InvalidRule sp_InvalidRule i2_f_part, fun s us _ hl => match us, hl with | [_, _], _ => .of_eq rfl, PySem.W.mg_of X G m_InvalidRule⟩
    have e_InvalidBook : ErrMk l.prog w K mg base "InvalidBook" E3 ["self", "word", "index"] (sp_init2 E3 "word" "index") := ⟨_, _, ox_InvalidBook, i3_in, i3_tI, ok_init_InvalidBook i3_lI i3_cI ox_InvalidBook sp_InvalidBook i3_f_word i3_f_index, fun s us _ hl => match us, hl with | [_, _, _], _ => .of_eq rfl, PySem.W.mg_of X G m_InvalidBook⟩
    have e_InvalidText : ErrMk l.prog w K mg base "InvalidText" E4 ["self", "row", "word"] (sp_init2 E4 "row" "word") := ⟨_, _, ox_InvalidText, i4_in, i4_tI, ok_init_InvalidText i4_lI i4_cI ox_InvalidText sp_InvalidText i4_f_row i4_f_word, fun s us _ hl => match us, hl with | [_, _, _], _ => .of_eq rfl, PySem.W.mg_of X G m_InvalidText⟩
    have hRS : ∀ H : Hp, SqT K H rsA (reserved.map V.str) := fun H => .inr ⟨_, _, _, rs_l, rfl, rfl, (by show 5 ≤ sizeLine; decide), vals_of_strs (.cons _ _ (.cons _ _ (.cons _ _ (.cons _ _ (.cons _ _ .nil)))))⟩
    have c_is_name : Cal l.prog w K mg base CX0 1 "is_name" ["value"] (sp_is_name) := ⟨_, _, (ok_is_name F_is_name B GN), PySem.W.mg_of X G a_is_name, k_is_name, b_is_name⟩
    have c_rises : Cal l.prog w K mg base CX0 1 "rises" ["names", "index"] (sp_rises K) := ⟨_, _, (ok_rises F_rises ), PySem.W.mg_of X G a_rises, k_rises, b_rises⟩
    have c_check_facts : Cal l.prog w K mg base (L2.CX l.prog w) 3 "check_facts" ["facts"] (sp_check_facts K E0) := ⟨_, _, (ok_check_facts F_check_facts B ⟨_, PySem.W.mg_of X G m_MOST_FACTS⟩ e_InvalidFacts c_is_name c_rises), PySem.W.mg_of X G a_check_facts, k_check_facts, b_check_facts⟩
    have c_check_part : Cal l.prog w K mg base (L2.CX l.prog w) 3 "check_part" ["part", "names", "before"] (sp_check_part K E1) := ⟨_, _, (ok_check_part F_check_part B ⟨_, PySem.W.mg_of X G m_MOST_NAMES⟩ e_InvalidCondition c_is_name c_rises), PySem.W.mg_of X G a_check_part, k_check_part, b_check_part⟩
    have c_merged : Cal l.prog w K mg base CX0 1 "merged" ["names", "others"] (sp_merged K) := ⟨_, _, (ok_merged F_merged B), PySem.W.mg_of X G a_merged, k_merged, b_merged⟩
    have pc_mh : PropC l.prog w K mg base CO pp_mh f_mh _ "holding" "_holding" := ⟨⟨pa_mh, pg_mh, pt_mh, ⟨_, pr_mh⟩⟩, ok_holding F_mh CLc co_n1, b_mh⟩
    have pc_mf : PropC l.prog w K mg base CO pp_mf f_mf _ "failing" "_failing" := ⟨⟨pa_mf, pg_mf, pt_mf, ⟨_, pr_mf⟩⟩, ok_failing F_mf CLc co_n2, b_mf⟩
    have pc_mn : PropC l.prog w K mg base CO pp_mn f_mn _ "names" "_names" := ⟨⟨pa_mn, pg_mn, pt_mn, ⟨_, pr_mn⟩⟩, ok_cnames F_mn CLc co_n3, b_mn⟩
    have pc_rn : PropC l.prog w K mg base RO pp_rn f_rn _ "name" "_name" := ⟨⟨pa_rn, pg_rn, pt_rn, ⟨_, pr_rn⟩⟩, ok_Rule_name F_rn CLr ro_n1, b_rn⟩
    have pc_rc : PropC l.prog w K mg base RO pp_rc f_rc _ "condition" "_condition" := ⟨⟨pa_rc, pg_rc, pt_rc, ⟨_, pr_rc⟩⟩, ok_Rule_condition F_rc CLr ro_n2, b_rc⟩
    have pc_rr : PropC l.prog w K mg base RO pp_rr f_rr _ "ruling" "_ruling" := ⟨⟨pa_rr, pg_rr, pt_rr, ⟨_, pr_rr⟩⟩, ok_Rule_ruling F_rr CLr ro_n3, b_rr⟩
    have pc_re : PropC l.prog w K mg base RO pp_re f_re _ "exceptions" "_exceptions" := ⟨⟨pa_re, pg_re, pt_re, ⟨_, pr_re⟩⟩, ok_Rule_exceptions F_re CLr ro_n4, b_re⟩
    have pc_rd : PropC l.prog w K mg base RO pp_rd f_rd _ "depth" "_depth" := ⟨⟨pa_rd, pg_rd, pt_rd, ⟨_, pr_rd⟩⟩, ok_Rule_depth F_rd CLr ro_n5, b_rd⟩
    have pc_bf : PropC l.prog w K mg base BO pp_bf f_bf _ "facts" "_facts" := ⟨⟨pa_bf, pg_bf, pt_bf, ⟨_, pr_bf⟩⟩, ok_Book_facts F_bf CLb bo_n1, b_bf⟩
    have pc_bs : PropC l.prog w K mg base BO pp_bs f_bs _ "rules" "_rules" := ⟨⟨pa_bs, pg_bs, pt_bs, ⟨_, pr_bs⟩⟩, ok_Book_rules F_bs CLb bo_n2, b_bs⟩
    have pc_br : PropC l.prog w K mg base BO pp_br f_br _ "ruling" "_ruling" := ⟨⟨pa_br, pg_br, pt_br, ⟨_, pr_br⟩⟩, ok_Book_ruling F_br CLb bo_n3, b_br⟩
    have kK : CondG l.prog w K mg base CO := ⟨CLc, ⟨_, _, _, pc_mh⟩, ⟨_, _, _, pc_mf⟩, ⟨_, _, _, pc_mn⟩⟩
    have kR : RuleX l.prog w K mg base RO := ⟨CLr, ⟨_, _, _, pc_rn⟩, ⟨_, _, _, pc_rc⟩, ⟨_, _, _, pc_rr⟩, ⟨_, _, _, pc_re⟩, ⟨_, _, _, pc_rd⟩⟩
    have kB : BookX l.prog w K mg base BO := ⟨CLb, ⟨_, _, _, pc_bf⟩, ⟨_, _, _, pc_bs⟩, ⟨_, _, _, pc_br⟩⟩
    have c_nested : Cal l.prog w K mg base CX0 15 "nested" ["rules", "around"] (sp_nested K CO RO 12) := ⟨_, _, rec_all (S := sp_nested K CO RO) (k := 2) (fun d c => ok_nested F_nested kR c) (PySem.W.mg_of X G a_nested) k_nested b_nested 12, PySem.W.mg_of X G a_nested, k_nested, b_nested⟩
    have c_check_rules : Cal l.prog w K mg base (L2.CX l.prog w) 16 "check_rules" ["facts", "rules"] (sp_check_rules K CO RO E3) := ⟨_, _, (ok_check_rules F_check_rules B kR kK (PySem.W.mg_of X G m_MOST_AROUND) (PySem.W.mg_of X G m_MOST_RULES) (PySem.W.mg_of X G m_MOST_OUTERMOST) e_InvalidBook c_nested), PySem.W.mg_of X G a_check_rules, k_check_rules, b_check_rules⟩
    have kM : Mkr l.prog w K mg base 4 "Condition" CO ["self", "holding", "failing"] (sp_cond_init K CO E1) := ⟨_, _, ⟨co_mk, co_in, co_fn, co_kp⟩, ok_cond_init F_mi B CLc co_n1 co_n2 co_n3 c_check_part c_merged, PySem.W.mg_of X G co, b_mi⟩
    have kRM : Mkr l.prog w K mg base 16 "Rule" RO ["self", "name", "condition", "ruling", "exceptions"] (sp_rule_init K CO RO E2) := ⟨_, _, ⟨ro_mk, ro_in, ro_fn, ro_kp⟩, ok_rule_init F_ri B CLr ro_n1 ro_n2 ro_n3 ro_n4 ro_n5 ro_n6 kR e_InvalidRule c_is_name c_nested, PySem.W.mg_of X G ro, b_ri⟩
    have kBM : Mkr l.prog w K mg base 17 "Book" BO ["self", "facts", "rules", "ruling"] (sp_book_init K CO RO BO E0 E3) := ⟨_, _, ⟨bo_mk, bo_in, bo_fn, bo_kp⟩, ok_book_init F_bi B CLb bo_n1 bo_n2 bo_n3 bo_n4 e_InvalidBook c_is_name c_nested c_check_facts c_check_rules, PySem.W.mg_of X G bo, b_bi⟩
    have c__law_mix : Cal l.prog w K mg base CX0 1 "_law_mix" ["_law_script", "_law_seed"] (sp_mix K) := ⟨_, _, (ok_mix F__law_mix B), PySem.W.mg_of X G a__law_mix, k__law_mix, b__law_mix⟩
    have c__law_next : Cal l.prog w K mg base CX0 1 "_law_next" ["_law_h", "_law_limit"] (sp_next) := ⟨_, _, (ok_next F__law_next B), PySem.W.mg_of X G a__law_next, k__law_next, b__law_next⟩
    have c__law_facts : Cal l.prog w K mg base CX0 2 "_law_facts" ["_law_h", "_law_most"] (sp_facts) := ⟨_, _, (ok_facts F__law_facts B c__law_next), PySem.W.mg_of X G a__law_facts, k__law_facts, b__law_facts⟩
    have c__law_sides : Cal l.prog w K mg base CX0 2 "_law_sides" ["_law_h", "_law_facts_here", "_law_most"] (sp_sides K) := ⟨_, _, (ok_sides F__law_sides B c__law_next), PySem.W.mg_of X G a__law_sides, k__law_sides, b__law_sides⟩
    have c__law_rule : Cal l.prog w K mg base CX0 5 "_law_rule" ["_law_h", "_law_facts_here", "_law_names", "_law_deep"] (sp_rule2 K 2) := ⟨_, _, rec_all (S := sp_rule2 K) (k := 2) (fun d c => ok_rule2 F__law_rule B c__law_next c__law_sides c) (PySem.W.mg_of X G a__law_rule) k__law_rule b__law_rule 2, PySem.W.mg_of X G a__law_rule, k__law_rule, b__law_rule⟩
    have c__law_drawn : Cal l.prog w K mg base CX0 6 "_law_drawn" ["_law_h", "_law_facts_here", "_law_most"] (sp_drawn K) := ⟨_, _, (ok_drawn F__law_drawn B c__law_next c__law_rule), PySem.W.mg_of X G a__law_drawn, k__law_drawn, b__law_drawn⟩
    have c__law_told : Cal l.prog w K mg base CX0 16 "_law_told" ["_law_rules"] (sp_told K CO RO 12) := ⟨_, _, rec_all (S := sp_told K CO RO) (k := 3) (fun d c => ok_told F__law_told B kR kK c) (PySem.W.mg_of X G a__law_told) k__law_told b__law_told 12, PySem.W.mg_of X G a__law_told, k__law_told, b__law_told⟩
    have c__law_seen : Cal l.prog w K mg base CX0 17 "_law_seen" ["_law_book"] (sp_seen K CO RO BO) := ⟨_, _, (ok_seen F__law_seen B kB c__law_told), PySem.W.mg_of X G a__law_seen, k__law_seen, b__law_seen⟩
    have c__law_words : Cal l.prog w K mg base CX0 14 "_law_words" ["_law_rules", "_law_deep"] (sp_words K 12) := ⟨_, _, rec_all (S := sp_words K) (k := 1) (fun d c => ok_words F__law_words B c) (PySem.W.mg_of X G a__law_words) k__law_words b__law_words 12, PySem.W.mg_of X G a__law_words, k__law_words, b__law_words⟩
    have c__law_rows_of : Cal l.prog w K mg base CX0 15 "_law_rows_of" ["_law_drawn_here"] (sp_rows_of K) := ⟨_, _, (ok_rows_of F__law_rows_of B c__law_words), PySem.W.mg_of X G a__law_rows_of, k__law_rows_of, b__law_rows_of⟩
    have c__law_text : Cal l.prog w K mg base CX0 1 "_law_text" ["_law_rows"] (sp_text K) := ⟨_, _, (ok_text F__law_text B), PySem.W.mg_of X G a__law_text, k__law_text, b__law_text⟩
    have c__law_named : Cal l.prog w K mg base CX0 1 "_law_named" ["_law_word"] (sp_named) := ⟨_, _, (ok_named F__law_named B), PySem.W.mg_of X G a__law_named, k__law_named, b__law_named⟩
    have c__law_read_facts : Cal l.prog w K mg base CX0 2 "_law_read_facts" ["_law_words_here"] (sp_rdFacts K) := ⟨_, _, (ok_rdFacts F__law_read_facts B c__law_named), PySem.W.mg_of X G a__law_read_facts, k__law_read_facts, b__law_read_facts⟩
    have c__law_read_side : Cal l.prog w K mg base CX0 1 "_law_read_side" ["_law_words_here", "_law_at", "_law_facts_here", "_law_barred", "_law_most"] (sp_rdSide K) := ⟨_, _, (ok_rdSide F__law_read_side B), PySem.W.mg_of X G a__law_read_side, k__law_read_side, b__law_read_side⟩
    have c__law_read_rule : Cal l.prog w K mg base CX0 2 "_law_read_rule" ["_law_words_here", "_law_facts_here", "_law_names", "_law_above"] (sp_rdRule K) := ⟨_, _, (ok_rdRule F__law_read_rule B c__law_named c__law_read_side), PySem.W.mg_of X G a__law_read_rule, k__law_read_rule, b__law_read_rule⟩
    have c__law_nested : Cal l.prog w K mg base CX0 8 "_law_nested" ["_law_rows", "_law_deep"] (sp_nestL K 6) := ⟨_, _, rec_all (S := sp_nestL K) (k := 1) (fun d c => ok_nestL F__law_nested B c) (PySem.W.mg_of X G a__law_nested) k__law_nested b__law_nested 6, PySem.W.mg_of X G a__law_nested, k__law_nested, b__law_nested⟩
    have c__law_read : Cal l.prog w K mg base CX0 9 "_law_read" ["_law_text_here"] (sp_read K) := ⟨_, _, (ok_read F__law_read B c__law_named c__law_read_facts c__law_read_rule c__law_nested), PySem.W.mg_of X G a__law_read, k__law_read, b__law_read⟩
    have c__law_bent : Cal l.prog w K mg base CX0 2 "_law_bent" ["_law_h", "_law_rows"] (sp_bent) := ⟨_, _, (ok_bent F__law_bent B c__law_next), PySem.W.mg_of X G a__law_bent, k__law_bent, b__law_bent⟩
    have c_risesL : Cal l.prog w K mg base CX0 1 "rises" ["names", "index"] sp_risesL := ⟨_, _, ok_risesL F_rises, PySem.W.mg_of X G a_rises, k_rises, b_rises⟩
    have c_is_nameO : Cal l.prog w K mg base CX0 1 "is_name" ["value"] sp_is_nameO := ⟨_, _, FnOk.either (ok_is_name F_is_name B GN) (ok_is_nameN F_is_name B GN), PySem.W.mg_of X G a_is_name, k_is_name, b_is_name⟩
    have mw_ahead : MethR l.prog w K mg base 1 WO "ahead" ["self"] (sp_ahead WO) := ⟨_, _, ⟨at_wa, fn_wa, k_wa⟩, ok_ahead F_wa B CLw wo_n2 wo_n3, b_wa⟩
    have mw_check : MethX l.prog w K mg base 3 WO "check" ["self", "right"] (sp_wcheck WO E4) := ⟨_, _, ⟨at_wc, fn_wc, k_wc⟩, ok_wcheck F_wc B CLw wo_n1 wo_n3 e_InvalidText, b_wc⟩
    have mw_take : MethX l.prog w K mg base 4 WO "take" ["self", "right"] (sp_wtake WO E4) := ⟨_, _, ⟨at_wt, fn_wt, k_wt⟩, ok_wtake F_wt B CLw wo_n2 wo_n3 mw_check, b_wt⟩
    have mw_check_end : MethX l.prog w K mg base 4 WO "check_end" ["self"] (sp_wend WO E4) := ⟨_, _, ⟨at_we, fn_we, k_we⟩, ok_wend F_we B CLw mw_ahead mw_check, b_we⟩
    have kW : Mkr0 l.prog w K mg base 1 "Words" WO ["self", "row", "text"] (sp_winit WO) := ⟨_, _, ⟨wo_mk, wo_in, wo_fn, wo_kp⟩, ok_winit F_wi B CLw wo_n1 wo_n2 wo_n3, PySem.W.mg_of X G wo, b_wi⟩
    have c_is_free_name : Cal l.prog w K mg base CX0 2 "is_free_name" ["word"] (sp_freeO) := ⟨_, _, (ok_freeO F_is_free_name B (PySem.W.mg_of X G m_RESERVED) hRS c_is_nameO), PySem.W.mg_of X G a_is_free_name, k_is_free_name, b_is_free_name⟩
    have c_read_facts : Cal l.prog w K mg base (L2.CX l.prog w) 5 "read_facts" ["words"] (sp_rfacts K WO E4) := ⟨_, _, (ok_rfacts F_read_facts B CLw (PySem.W.mg_of X G m_MOST_FACTS) mw_ahead mw_take c_is_free_name c_risesL), PySem.W.mg_of X G a_read_facts, k_read_facts, b_read_facts⟩
    have c_read_ending : Cal l.prog w K mg base (L2.CX l.prog w) 5 "read_ending" ["words"] (sp_rend WO E4) := ⟨_, _, (ok_rend F_read_ending B CLw mw_ahead mw_take mw_check_end c_is_free_name), PySem.W.mg_of X G a_read_ending, k_read_ending, b_read_ending⟩
    have c_read_part : Cal l.prog w K mg base (L2.CX l.prog w) 5 "read_part" ["words", "word", "facts", "taken"] (sp_rpart K WO E4) := ⟨_, _, (ok_rpart F_read_part B CLw (PySem.W.mg_of X G m_MOST_NAMES) mw_ahead mw_take c_risesL), PySem.W.mg_of X G a_read_part, k_read_part, b_read_part⟩
    have c_read_signs : Cal l.prog w K mg base (L2.CX l.prog w) 5 "read_signs" ["words", "before"] (sp_rsigns K CO WO E4) := ⟨_, _, (ok_rsigns F_read_signs B CLw (PySem.W.mg_of X G m_MOST_AROUND) (PySem.W.mg_of X G m_SIGN) mw_ahead mw_take), PySem.W.mg_of X G a_read_signs, k_read_signs, b_read_signs⟩
    have c_read_rule : Cal l.prog w K mg base (L2.CX l.prog w) 6 "read_rule" ["words", "facts", "before"] (sp_rrule K CO WO E4) := ⟨_, _, (ok_rrule F_read_rule B CLw (PySem.W.mg_of X G m_MOST_RULES) (PySem.W.mg_of X G m_MOST_OUTERMOST) kM mw_ahead mw_check mw_take mw_check_end c_is_free_name c_read_signs c_read_part), PySem.W.mg_of X G a_read_rule, k_read_rule, b_read_rule⟩
    have c_rules_told : Cal l.prog w K mg base CX0 18 "rules_told" ["told"] (sp_rtold K CO RO) := ⟨_, _, (ok_rtold F_rules_told B (PySem.W.mg_of X G m_MOST_AROUND) kRM), PySem.W.mg_of X G a_rules_told, k_rules_told, b_rules_told⟩
    have c_parse_book : Cal l.prog w K mg base (L2.CX l.prog w) 19 "parse_book" ["text"] (sp_parse K CO RO BO E4) := ⟨_, _, (ok_parse F_parse_book B CLw kBM kW e_InvalidText mw_ahead c_read_facts c_read_rule c_read_ending c_rules_told), PySem.W.mg_of X G a_parse_book, k_parse_book, b_parse_book⟩
    have c__law_parsed : Cal l.prog w K mg base CX0 20 "_law_parsed" ["_law_text_here"] (sp_parsed K) := ⟨_, _, (ok_parsed F__law_parsed B (PySem.W.mg_of X G m_CourtError) (PySem.W.mg_of X G m_InvalidText) ec_InvalidText (exm_by CEbe CEcl CEty r4_sC) (kit_by r4_k4 u_4 v_4 r4_k4) i4_f_row i4_f_word c_parse_book c__law_seen), PySem.W.mg_of X G a__law_parsed, k__law_parsed, b__law_parsed⟩
    have c__law_alike : Cal l.prog w K mg base CX0 31 "_law_alike" ["_law_found", "_law_due"] (sp_alikeT K 30) := ⟨_, _, alikeT_all F__law_alike B (PySem.W.mg_of X G a__law_alike) k__law_alike b__law_alike 30, PySem.W.mg_of X G a__law_alike, k__law_alike, b__law_alike⟩
    exact ok_law (fun_mk (st := s_law) l_law c_law k_law) B c__law_mix c__law_next c__law_facts c__law_drawn c__law_rows_of c__law_text c__law_bent c__law_read c__law_parsed c__law_alike
end Sc
/-! the head's facts read by a Hook of one's own: functions by address, all else by one Bool -/
namespace Sc
open PySem PySem.Spec PyProof.Rows L2 HeadY He
theorem all_y {w : World} {K : PySem.W.Frag} {h : Heap} {mg : Str → Option Value} {fa : Addr} (X : K.In h) (G : h.Ns mainGlobals mg) (hfa : mg "law" = some (.ref fa)) (S : SaysY fnL tfL exB h K) : LamX.LawAtS theLaw w K CX0 32 63 "_law_script" mg fa h := by
  obtain ⟨_, _, _, _, _, _, _, _, l_is_name, y_l_is_name⟩ := fn_ok (S.fn 0 rfl) (gx0 S).2.1
  obtain ⟨_, _, _, _, _, _, _, _, l_rises, y_l_rises⟩ := fn_ok (S.fn 1 rfl) (gx0 S).2.2.2.2.1
  obtain ⟨_, _, _, _, _, _, _, _, l_check_facts, y_l_check_facts⟩ := fn_ok (S.fn 2 rfl) (gx0 S).2.2.2.2.2.2.2.1
  obtain ⟨_, _, _, _, _, _, _, _, l_nested, y_l_nested⟩ := fn_ok (S.fn 3 rfl) (gx0 S).2.2.2.2.2.2.2.2.2.2.1
  obtain ⟨_, _, _, _, _, _, _, _, l_check_rules, y_l_check_rules⟩ := fn_ok (S.fn 4 rfl) (gx1 S).2.1
  obtain ⟨_, _, _, _, _, _, _, _, l_check_part, y_l_check_part⟩ := fn_ok (S.fn 5 rfl) (gx1 S).2.2.2.2.1
  obtain ⟨_, _, _, _, _, _, _, _, l_merged, y_l_merged⟩ := fn_ok (S.fn 6 rfl) (gx1 S).2.2.2.2.2.2.2.1
  obtain ⟨_, _, _, _, _, _, _, _, l_is_free_name, y_l_is_free_name⟩ := fn_ok (S.fn 7 rfl) (gx1 S).2.2.2.2.2.2.2.2.2.2.1
  obtain ⟨_, _, _, _, _, _, _, _, l_read_facts, y_l_read_facts⟩ := fn_ok (S.fn 8 rfl) (gx2 S).2.1
  obtain ⟨_, _, _, _, _, _, _, _, l_read_ending, y_l_read_ending⟩ := fn_ok (S.fn 9 rfl) (gx2 S).2.2.2.2.1
  obtain ⟨_, _, _, _, _, _, _, _, l_read_part, y_l_read_part⟩ := fn_ok (S.fn 10 rfl) (gx2 S).2.2.2.2.2.2.2.1
  obtain ⟨_, _, _, _, _, _, _, _, l_read_signs, y_l_read_signs⟩ := fn_ok (S.fn 11 rfl) (gx2 S).2.2.2.2.2.2.2.2.2.2.1
  obtain ⟨_, _, _, _, _, _, _, _, l_read_rule, y_l_read_rule⟩ := fn_ok (S.fn 12 rfl) (gx3 S).2.1
  obtain ⟨_, _, _, _, _, _, _, _, l_rules_told, y_l_rules_told⟩ := fn_ok (S.fn 13 rfl) (gx3 S).2.2.2.2.1
  obtain ⟨_, _, _, _, _, _, _, _, l_parse_book, y_l_parse_book⟩ := fn_ok (S.fn 14 rfl) (gx3 S).2.2.2.2.2.2.2.1
  obtain ⟨_, _, _, _, _, _, _, _, l__law_mix, y_l__law_mix⟩ := fn_ok (S.fn 15 rfl) (gx3 S).2.2.2.2.2.2.2.2.2.2.1
  obtain ⟨_, _, _, _, _, _, _, _, l__law_next, y_l__law_next⟩ := fn_ok (S.fn 16 rfl) (gx4 S).2.1
  obtain ⟨_, _, _, _, _, _, _, _, l__law_alike, y_l__law_alike⟩ := fn_ok (S.fn 17 rfl) (gx4 S).2.2.2.2.1
  obtain ⟨_, _, _, _, _, _, _, _, l__law_facts, y_l__law_facts⟩ := fn_ok (S.fn 18 rfl) (gx4 S).2.2.2.2.2.2.2.1
  obtain ⟨_, _, _, _, _, _, _, _, l__law_sides, y_l__law_sides⟩ := fn_ok (S.fn 19 rfl) (gx4 S).2.2.2.2.2.2.2.2.2.2.1
  obtain ⟨_, _, _, _, _, _, _, _, l__law_rule, y_l__law_rule⟩ := fn_ok (S.fn 20 rfl) (gx5 S).2.1
  obtain ⟨_, _, _, _, _, _, _, _, l__law_drawn, y_l__law_drawn⟩ := fn_ok (S.fn 21 rfl) (gx5 S).2.2.2.2.1
  obtain ⟨_, _, _, _, _, _, _, _, l__law_told, y_l__law_told⟩ := fn_ok (S.fn 22 rfl) (gx5 S).2.2.2.2.2.2.2.1
  obtain ⟨_, _, _, _, _, _, _, _, l__law_seen, y_l__law_seen⟩ := fn_ok (S.fn 23 rfl) (gx5 S).2.2.2.2.2.2.2.2.2.2.1
  obtain ⟨_, _, _, _, _, _, _, _, l__law_words, y_l__law_words⟩ := fn_ok (S.fn 24 rfl) (gx6 S).2.1
  obtain ⟨_, _, _, _, _, _, _, _, l__law_rows_of, y_l__law_rows_of⟩ := fn_ok (S.fn 25 rfl) (gx6 S).2.2.2.2.1
  obtain ⟨_, _, _, _, _, _, _, _, l__law_text, y_l__law_text⟩ := fn_ok (S.fn 26 rfl) (gx6 S).2.2.2.2.2.2.2.1
  obtain ⟨_, _, _, _, _, _, _, _, l__law_named, y_l__law_named⟩ := fn_ok (S.fn 27 rfl) (gx6 S).2.2.2.2.2.2.2.2.2.2.1
  obtain ⟨_, _, _, _, _, _, _, _, l__law_read_facts, y_l__law_read_facts⟩ := fn_ok (S.fn 28 rfl) (gx7 S).2.1
  obtain ⟨_, _, _, _, _, _, _, _, l__law_read_side, y_l__law_read_side⟩ := fn_ok (S.fn 29 rfl) (gx7 S).2.2.2.2.1
  obtain ⟨_, _, _, _, _, _, _, _, l__law_read_rule, y_l__law_read_rule⟩ := fn_ok (S.fn 30 rfl) (gx7 S).2.2.2.2.2.2.2.1
  obtain ⟨_, _, _, _, _, _, _, _, l__law_nested, y_l__law_nested⟩ := fn_ok (S.fn 31 rfl) (gx7 S).2.2.2.2.2.2.2.2.2.2.1
  obtain ⟨_, _, _, _, _, _, _, _, l__law_read, y_l__law_read⟩ := fn_ok (S.fn 32 rfl) (gx8 S).2.1
  obtain ⟨_, _, _, _, _, _, _, _, l__law_parsed, y_l__law_parsed⟩ := fn_ok (S.fn 33 rfl) (gx8 S).2.2.2.2.1
  obtain ⟨_, _, _, _, _, _, _, _, l__law_bent, y_l__law_bent⟩ := fn_ok (S.fn 34 rfl) (gx8 S).2.2.2.2.2.2.2.1
  obtain ⟨_, _, _, _, _, _, _, _, l_law, y_l_law⟩ := fn_ok (S.fn 35 rfl) (gx8 S).2.2.2.2.2.2.2.2.2.2.1
  obtain ⟨_, pr_mh⟩ := rec_is (gx10 S).2.2.2.1
  obtain ⟨_, pr_mf⟩ := rec_is (gx10 S).2.2.2.2.2.2.2.1
  obtain ⟨_, pr_mn⟩ := rec_is (gx10 S).2.2.2.2.2.2.2.2.2.2.2
  obtain ⟨_, pr_rn⟩ := rec_is (gx12 S).2.2.2.2.2.2.1
  obtain ⟨_, pr_rc⟩ := rec_is (gx12 S).2.2.2.2.2.2.2.2.2.2.1
  obtain ⟨_, pr_rr⟩ := rec_is (gx13 S).2.2.1
  obtain ⟨_, pr_re⟩ := rec_is (gx13 S).2.2.2.2.2.2.1
  obtain ⟨_, pr_rd⟩ := rec_is (gx13 S).2.2.2.2.2.2.2.2.2.2.1
  obtain ⟨_, pr_bf⟩ := rec_is (gx15 S).2.2.2.1
  obtain ⟨_, pr_bs⟩ := rec_is (gx15 S).2.2.2.2.2.2.2.1
  obtain ⟨_, pr_br⟩ := rec_is (gx15 S).2.2.2.2.2.2.2.2.2.2.2
  obtain ⟨_, _, _, us_rs_l, hl_rs_l, rs_l⟩ := tup_is (gx17 S).2.2.2.2.2.2.2.2.2.1
  obtain ⟨_, _, _, _, _, rfl⟩ := len5 hl_rs_l
  obtain ⟨_, _, _, _, _, _, _, _, l_mi, y_l_mi⟩ := fn_ok (S.fn 36 rfl) (gx17 S).2.2.2.2.2.2.2.2.2.2.1
  obtain ⟨_, _, _, _, _, _, _, _, l_mh, y_l_mh⟩ := fn_ok (S.fn 37 rfl) (gx18 S).1
  obtain ⟨_, _, _, _, _, _, _, _, l_mf, y_l_mf⟩ := fn_ok (S.fn 38 rfl) (gx18 S).2.2.1
  obtain ⟨_, _, _, _, _, _, _, _, l_mn, y_l_mn⟩ := fn_ok (S.fn 39 rfl) (gx18 S).2.2.2.2.1
  obtain ⟨_, _, _, _, _, _, _, _, l_ri, y_l_ri⟩ := fn_ok (S.fn 40 rfl) (gx18 S).2.2.2.2.2.2.1
  obtain ⟨_, _, _, _, _, _, _, _, l_rn, y_l_rn⟩ := fn_ok (S.fn 41 rfl) (gx18 S).2.2.2.2.2.2.2.2.1
  obtain ⟨_, _, _, _, _, _, _, _, l_rc, y_l_rc⟩ := fn_ok (S.fn 42 rfl) (gx18 S).2.2.2.2.2.2.2.2.2.2.1
  obtain ⟨_, _, _, _, _, _, _, _, l_rr, y_l_rr⟩ := fn_ok (S.fn 43 rfl) (gx19 S).1
  obtain ⟨_, _, _, _, _, _, _, _, l_re, y_l_re⟩ := fn_ok (S.fn 44 rfl) (gx19 S).2.2.1
  obtain ⟨_, _, _, _, _, _, _, _, l_rd, y_l_rd⟩ := fn_ok (S.fn 45 rfl) (gx19 S).2.2.2.2.1
  obtain ⟨_, _, _, _, _, _, _, _, l_bi, y_l_bi⟩ := fn_ok (S.fn 46 rfl) (gx19 S).2.2.2.2.2.2.1
  obtain ⟨_, _, _, _, _, _, _, _, l_bf, y_l_bf⟩ := fn_ok (S.fn 47 rfl) (gx19 S).2.2.2.2.2.2.2.2.1
  obtain ⟨_, _, _, _, _, _, _, _, l_bs, y_l_bs⟩ := fn_ok (S.fn 48 rfl) (gx19 S).2.2.2.2.2.2.2.2.2.2.1
  obtain ⟨_, _, _, _, _, _, _, _, l_br, y_l_br⟩ := fn_ok (S.fn 49 rfl) (gx20 S).1
  obtain ⟨_, _, _, _, _, _, _, _, l_wi, y_l_wi⟩ := fn_ok (S.fn 50 rfl) (gx20 S).2.2.1
  obtain ⟨_, _, _, _, _, _, _, _, l_wa, y_l_wa⟩ := fn_ok (S.fn 51 rfl) (gx20 S).2.2.2.2.1
  obtain ⟨_, _, _, _, _, _, _, _, l_wc, y_l_wc⟩ := fn_ok (S.fn 52 rfl) (gx20 S).2.2.2.2.2.2.1
  obtain ⟨_, _, _, _, _, _, _, _, l_wt, y_l_wt⟩ := fn_ok (S.fn 53 rfl) (gx20 S).2.2.2.2.2.2.2.2.1
  obtain ⟨_, _, _, _, _, _, _, _, l_we, y_l_we⟩ := fn_ok (S.fn 54 rfl) (gx20 S).2.2.2.2.2.2.2.2.2.2.1
  obtain ⟨_, m_LETTERS⟩ := str_is (gx22 S).2.2.2.2.2.2.2.2.1
  obtain ⟨_, m_LONGEST_NAME⟩ := int_is (gx22 S).2.2.2.2.2.2.2.2.2.1
  obtain ⟨_, m_MOST_FACTS⟩ := int_is (gx22 S).2.2.2.2.2.2.2.2.2.2.1
  obtain ⟨_, m_MOST_NAMES⟩ := int_is (gx22 S).2.2.2.2.2.2.2.2.2.2.2
  obtain ⟨_, m_MOST_AROUND⟩ := int_is (gx23 S).1
  obtain ⟨_, m_MOST_RULES⟩ := int_is (gx23 S).2.1
  obtain ⟨_, m_MOST_OUTERMOST⟩ := int_is (gx23 S).2.2.1
  obtain ⟨_, m_SIGN⟩ := str_is (gx23 S).2.2.2.1
  obtain ⟨_, _, _, _, _, _, _, _, _, _, _, _, _, _, x_E⟩ := exc_is (gx26 S).2.2.2.2.2.2.2.1
  obtain ⟨_, _, _, _, _, _, _, _, _, _, _, _, _, _, i0_x⟩ := exc_is (gx26 S).2.2.2.2.2.2.2.2.2.2.2
  obtain ⟨_, _, _, _, _, _, _, _, i0_lI, y_i0_lI⟩ := fn_okC (S.fn 55 rfl) (gx27 S).2.2.2.2.2.2.1
  obtain ⟨_, _, _, i0_ce⟩ := cell_is (gx27 S).2.2.2.2.2.2.2.1
  obtain ⟨_, _, _, _, _, _, i0_co, i0_fi, i0_fe⟩ := file_is (gx27 S).2.2.2.2.2.2.2.2.1
  obtain ⟨_, _, _, _, _, _, _, _, _, _, _, _, _, _, i1_x⟩ := exc_is (gx28 S).2.2.1
  obtain ⟨_, _, _, _, _, _, _, _, i1_lI, y_i1_lI⟩ := fn_okC (S.fn 56 rfl) (gx28 S).2.2.2.2.2.2.2.2.2.1
  obtain ⟨_, _, _, i1_ce⟩ := cell_is (gx28 S).2.2.2.2.2.2.2.2.2.2.1
  obtain ⟨_, _, _, _, _, _, i1_co, i1_fi, i1_fe⟩ := file_is (gx28 S).2.2.2.2.2.2.2.2.2.2.2
  obtain ⟨_, _, _, _, _, _, _, _, _, _, _, _, _, _, i2_x⟩ := exc_is (gx29 S).2.2.2.2.2.2.1
  obtain ⟨_, _, _, _, _, _, _, _, i2_lI, y_i2_lI⟩ := fn_okC (S.fn 57 rfl) (gx30 S).2.1
  obtain ⟨_, _, _, i2_ce⟩ := cell_is (gx30 S).2.2.1
  obtain ⟨_, _, _, _, _, _, i2_co, i2_fi, i2_fe⟩ := file_is (gx30 S).2.2.2.1
  obtain ⟨_, _, _, _, _, _, _, _, _, _, _, _, _, _, i3_x⟩ := exc_is (gx30 S).2.2.2.2.2.2.2.2.2.1
  obtain ⟨_, _, _, _, _, _, _, _, i3_lI, y_i3_lI⟩ := fn_okC (S.fn 58 rfl) (gx31 S).2.2.2.2.1
  obtain ⟨_, _, _, i3_ce⟩ := cell_is (gx31 S).2.2.2.2.2.1
  obtain ⟨_, _, _, _, _, _, i3_co, i3_fi, i3_fe⟩ := file_is (gx31 S).2.2.2.2.2.2.1
  obtain ⟨_, _, _, _, _, _, _, _, _, _, _, _, _, _, i4_x⟩ := exc_is (gx32 S).2.1
  obtain ⟨_, _, _, _, _, _, _, _, i4_lI, y_i4_lI⟩ := fn_okC (S.fn 59 rfl) (gx32 S).2.2.2.2.2.2.2.2.1
  obtain ⟨_, _, _, i4_ce⟩ := cell_is (gx32 S).2.2.2.2.2.2.2.2.2.1
  obtain ⟨_, _, _, _, _, _, i4_co, i4_fi, i4_fe⟩ := file_is (gx32 S).2.2.2.2.2.2.2.2.2.2.1
  exact all_mk (l := theLaw) (P := theRow.prog) (celi0 := (Ad_celi0 K)) (codi0 := (Ad_codi0 K)) (celi1 := (Ad_celi1 K)) (codi1 := (Ad_codi1 K)) (celi2 := (Ad_celi2 K)) (codi2 := (Ad_codi2 K)) (celi3 := (Ad_celi3 K)) (codi3 := (Ad_codi3 K)) (celi4 := (Ad_celi4 K)) (codi4 := (Ad_codi4 K))  rfl X G hfa (gx0 S).1 l_is_name y_l_is_name (gx0 S).2.2.1 (gx0 S).2.2.2.1 l_rises y_l_rises (gx0 S).2.2.2.2.2.1 (gx0 S).2.2.2.2.2.2.1 l_check_facts y_l_check_facts (gx0 S).2.2.2.2.2.2.2.2.1 (gx0 S).2.2.2.2.2.2.2.2.2.1 l_nested y_l_nested (gx0 S).2.2.2.2.2.2.2.2.2.2.2 (gx1 S).1 l_check_rules y_l_check_rules (gx1 S).2.2.1 (gx1 S).2.2.2.1 l_check_part y_l_check_part (gx1 S).2.2.2.2.2.1 (gx1 S).2.2.2.2.2.2.1 l_merged y_l_merged (gx1 S).2.2.2.2.2.2.2.2.1 (gx1 S).2.2.2.2.2.2.2.2.2.1 l_is_free_name y_l_is_free_name (gx1 S).2.2.2.2.2.2.2.2.2.2.2 (gx2 S).1 l_read_facts y_l_read_facts (gx2 S).2.2.1 (gx2 S).2.2.2.1 l_read_ending y_l_read_ending (gx2 S).2.2.2.2.2.1 (gx2 S).2.2.2.2.2.2.1 l_read_part y_l_read_part (gx2 S).2.2.2.2.2.2.2.2.1 (gx2 S).2.2.2.2.2.2.2.2.2.1 l_read_signs y_l_read_signs (gx2 S).2.2.2.2.2.2.2.2.2.2.2 (gx3 S).1 l_read_rule y_l_read_rule (gx3 S).2.2.1 (gx3 S).2.2.2.1 l_rules_told y_l_rules_told (gx3 S).2.2.2.2.2.1 (gx3 S).2.2.2.2.2.2.1 l_parse_book y_l_parse_book (gx3 S).2.2.2.2.2.2.2.2.1 (gx3 S).2.2.2.2.2.2.2.2.2.1 l__law_mix y_l__law_mix (gx3 S).2.2.2.2.2.2.2.2.2.2.2 (gx4 S).1 l__law_next y_l__law_next (gx4 S).2.2.1 (gx4 S).2.2.2.1 l__law_alike y_l__law_alike (gx4 S).2.2.2.2.2.1 (gx4 S).2.2.2.2.2.2.1 l__law_facts y_l__law_facts (gx4 S).2.2.2.2.2.2.2.2.1 (gx4 S).2.2.2.2.2.2.2.2.2.1 l__law_sides y_l__law_sides (gx4 S).2.2.2.2.2.2.2.2.2.2.2 (gx5 S).1 l__law_rule y_l__law_rule (gx5 S).2.2.1 (gx5 S).2.2.2.1 l__law_drawn y_l__law_drawn (gx5 S).2.2.2.2.2.1 (gx5 S).2.2.2.2.2.2.1 l__law_told y_l__law_told (gx5 S).2.2.2.2.2.2.2.2.1 (gx5 S).2.2.2.2.2.2.2.2.2.1 l__law_seen y_l__law_seen (gx5 S).2.2.2.2.2.2.2.2.2.2.2 (gx6 S).1 l__law_words y_l__law_words (gx6 S).2.2.1 (gx6 S).2.2.2.1 l__law_rows_of y_l__law_rows_of (gx6 S).2.2.2.2.2.1 (gx6 S).2.2.2.2.2.2.1 l__law_text y_l__law_text (gx6 S).2.2.2.2.2.2.2.2.1 (gx6 S).2.2.2.2.2.2.2.2.2.1 l__law_named y_l__law_named (gx6 S).2.2.2.2.2.2.2.2.2.2.2 (gx7 S).1 l__law_read_facts y_l__law_read_facts (gx7 S).2.2.1 (gx7 S).2.2.2.1 l__law_read_side y_l__law_read_side (gx7 S).2.2.2.2.2.1 (gx7 S).2.2.2.2.2.2.1 l__law_read_rule y_l__law_read_rule (gx7 S).2.2.2.2.2.2.2.2.1 (gx7 S).2.2.2.2.2.2.2.2.2.1 l__law_nested y_l__law_nested (gx7 S).2.2.2.2.2.2.2.2.2.2.2 (gx8 S).1 l__law_read y_l__law_read (gx8 S).2.2.1 (gx8 S).2.2.2.1 l__law_parsed y_l__law_parsed (gx8 S).2.2.2.2.2.1 (gx8 S).2.2.2.2.2.2.1 l__law_bent y_l__law_bent (gx8 S).2.2.2.2.2.2.2.2.1 (gx8 S).2.2.2.2.2.2.2.2.2.1 l_law y_l_law (gx8 S).2.2.2.2.2.2.2.2.2.2.2 (gx9 S).1 (gx9 S).2.1 (gx9 S).2.2.1 (gx9 S).2.2.2.1 (gx9 S).2.2.2.2.1 (gx9 S).2.2.2.2.2.1 (gx9 S).2.2.2.2.2.2.1 (gx9 S).2.2.2.2.2.2.2.1 (gx9 S).2.2.2.2.2.2.2.2.1 (gx9 S).2.2.2.2.2.2.2.2.2.1 (gx9 S).2.2.2.2.2.2.2.2.2.2.1 (gx9 S).2.2.2.2.2.2.2.2.2.2.2 (gx10 S).1 (gx10 S).2.1 (gx10 S).2.2.1 pr_mh (gx10 S).2.2.2.2.1 (gx10 S).2.2.2.2.2.1 (gx10 S).2.2.2.2.2.2.1 pr_mf (gx10 S).2.2.2.2.2.2.2.2.1 (gx10 S).2.2.2.2.2.2.2.2.2.1 (gx10 S).2.2.2.2.2.2.2.2.2.2.1 pr_mn (gx11 S).1 (gx11 S).2.1 (gx11 S).2.2.1 (gx11 S).2.2.2.1 (gx11 S).2.2.2.2.1 (gx11 S).2.2.2.2.2.1 (gx11 S).2.2.2.2.2.2.1 (gx11 S).2.2.2.2.2.2.2.1 (gx11 S).2.2.2.2.2.2.2.2.1 (gx11 S).2.2.2.2.2.2.2.2.2.1 (gx11 S).2.2.2.2.2.2.2.2.2.2.1 (gx11 S).2.2.2.2.2.2.2.2.2.2.2 (gx12 S).1 (gx12 S).2.1 (gx12 S).2.2.1 (gx12 S).2.2.2.1 (gx12 S).2.2.2.2.1 (gx12 S).2.2.2.2.2.1 pr_rn (gx12 S).2.2.2.2.2.2.2.1 (gx12 S).2.2.2.2.2.2.2.2.1 (gx12 S).2.2.2.2.2.2.2.2.2.1 pr_rc (gx12 S).2.2.2.2.2.2.2.2.2.2.2 (gx13 S).1 (gx13 S).2.1 pr_rr (gx13 S).2.2.2.1 (gx13 S).2.2.2.2.1 (gx13 S).2.2.2.2.2.1 pr_re (gx13 S).2.2.2.2.2.2.2.1 (gx13 S).2.2.2.2.2.2.2.2.1 (gx13 S).2.2.2.2.2.2.2.2.2.1 pr_rd (gx13 S).2.2.2.2.2.2.2.2.2.2.2 (gx14 S).1 (gx14 S).2.1 (gx14 S).2.2.1 (gx14 S).2.2.2.1 (gx14 S).2.2.2.2.1 (gx14 S).2.2.2.2.2.1 (gx14 S).2.2.2.2.2.2.1 (gx14 S).2.2.2.2.2.2.2.1 (gx14 S).2.2.2.2.2.2.2.2.1 (gx14 S).2.2.2.2.2.2.2.2.2.1 (gx14 S).2.2.2.2.2.2.2.2.2.2.1 (gx14 S).2.2.2.2.2.2.2.2.2.2.2 (gx15 S).1 (gx15 S).2.1 (gx15 S).2.2.1 pr_bf (gx15 S).2.2.2.2.1 (gx15 S).2.2.2.2.2.1 (gx15 S).2.2.2.2.2.2.1 pr_bs (gx15 S).2.2.2.2.2.2.2.2.1 (gx15 S).2.2.2.2.2.2.2.2.2.1 (gx15 S).2.2.2.2.2.2.2.2.2.2.1 pr_br (gx16 S).1 (gx16 S).2.1 (gx16 S).2.2.1 (gx16 S).2.2.2.1 (gx16 S).2.2.2.2.1 (gx16 S).2.2.2.2.2.1 (gx16 S).2.2.2.2.2.2.1 (gx16 S).2.2.2.2.2.2.2.1 (gx16 S).2.2.2.2.2.2.2.2.1 (gx16 S).2.2.2.2.2.2.2.2.2.1 (gx16 S).2.2.2.2.2.2.2.2.2.2.1 (gx16 S).2.2.2.2.2.2.2.2.2.2.2 (gx17 S).1 (gx17 S).2.1 (gx17 S).2.2.1 (gx17 S).2.2.2.1 (gx17 S).2.2.2.2.1 (gx17 S).2.2.2.2.2.1 (gx17 S).2.2.2.2.2.2.1 (gx17 S).2.2.2.2.2.2.2.1 (gx17 S).2.2.2.2.2.2.2.2.1 rs_l l_mi y_l_mi (gx17 S).2.2.2.2.2.2.2.2.2.2.2 l_mh y_l_mh (gx18 S).2.1 l_mf y_l_mf (gx18 S).2.2.2.1 l_mn y_l_mn (gx18 S).2.2.2.2.2.1 l_ri y_l_ri (gx18 S).2.2.2.2.2.2.2.1 l_rn y_l_rn (gx18 S).2.2.2.2.2.2.2.2.2.1 l_rc y_l_rc (gx18 S).2.2.2.2.2.2.2.2.2.2.2 l_rr y_l_rr (gx19 S).2.1 l_re y_l_re (gx19 S).2.2.2.1 l_rd y_l_rd (gx19 S).2.2.2.2.2.1 l_bi y_l_bi (gx19 S).2.2.2.2.2.2.2.1 l_bf y_l_bf (gx19 S).2.2.2.2.2.2.2.2.2.1 l_bs y_l_bs (gx19 S).2.2.2.2.2.2.2.2.2.2.2 l_br y_l_br (gx20 S).2.1 l_wi y_l_wi (gx20 S).2.2.2.1 l_wa y_l_wa (gx20 S).2.2.2.2.2.1 l_wc y_l_wc (gx20 S).2.2.2.2.2.2.2.1 l_wt y_l_wt (gx20 S).2.2.2.2.2.2.2.2.2.1 l_we y_l_we (gx20 S).2.2.2.2.2.2.2.2.2.2.2 (gx21 S).1 (gx21 S).2.1 (gx21 S).2.2.1 (gx21 S).2.2.2.1 (gx21 S).2.2.2.2.1 (gx21 S).2.2.2.2.2.1 (gx21 S).2.2.2.2.2.2.1 (gx21 S).2.2.2.2.2.2.2.1 (gx21 S).2.2.2.2.2.2.2.2.1 (gx21 S).2.2.2.2.2.2.2.2.2.1 (gx21 S).2.2.2.2.2.2.2.2.2.2.1 (gx21 S).2.2.2.2.2.2.2.2.2.2.2 (gx22 S).1 (gx22 S).2.1 (gx22 S).2.2.1 (gx22 S).2.2.2.1 (gx22 S).2.2.2.2.1 (gx22 S).2.2.2.2.2.1 (gx22 S).2.2.2.2.2.2.1 (gx22 S).2.2.2.2.2.2.2.1 m_LETTERS m_LONGEST_NAME m_MOST_FACTS m_MOST_NAMES m_MOST_AROUND m_MOST_RULES m_MOST_OUTERMOST m_SIGN (gx23 S).2.2.2.2.1 (gx23 S).2.2.2.2.2.1 (gx23 S).2.2.2.2.2.2.1 (gx23 S).2.2.2.2.2.2.2.1 (gx23 S).2.2.2.2.2.2.2.2.1 (gx23 S).2.2.2.2.2.2.2.2.2.1 (gx23 S).2.2.2.2.2.2.2.2.2.2.1 (gx23 S).2.2.2.2.2.2.2.2.2.2.2 (gx24 S).1 (gx24 S).2.1 (gx24 S).2.2.1 (gx24 S).2.2.2.1 (gx24 S).2.2.2.2.1 (gx24 S).2.2.2.2.2.1 (gx24 S).2.2.2.2.2.2.1 (gx24 S).2.2.2.2.2.2.2.1 (gx24 S).2.2.2.2.2.2.2.2.1 (gx24 S).2.2.2.2.2.2.2.2.2.1 (gx24 S).2.2.2.2.2.2.2.2.2.2.1 (gx24 S).2.2.2.2.2.2.2.2.2.2.2 (gx25 S).1 (gx25 S).2.1 (gx25 S).2.2.1 (gx25 S).2.2.2.1 (gx25 S).2.2.2.2.1 (gx25 S).2.2.2.2.2.1 (gx25 S).2.2.2.2.2.2.1 (gx25 S).2.2.2.2.2.2.2.1 (gx25 S).2.2.2.2.2.2.2.2.1 (gx25 S).2.2.2.2.2.2.2.2.2.1 (gx25 S).2.2.2.2.2.2.2.2.2.2.1 (gx25 S).2.2.2.2.2.2.2.2.2.2.2 (gx26 S).1 (gx26 S).2.1 (gx26 S).2.2.1 (gx26 S).2.2.2.1 (gx26 S).2.2.2.2.1 (gx26 S).2.2.2.2.2.1 (gx26 S).2.2.2.2.2.2.1 x_E (gx26 S).2.2.2.2.2.2.2.2.1 (gx26 S).2.2.2.2.2.2.2.2.2.1 (gx26 S).2.2.2.2.2.2.2.2.2.2.1 i0_x (gx27 S).1 (gx27 S).2.1 (gx27 S).2.2.1 (gx27 S).2.2.2.1 (gx27 S).2.2.2.2.1 (gx27 S).2.2.2.2.2.1 i0_lI y_i0_lI i0_ce i0_co i0_fi i0_fe (gx27 S).2.2.2.2.2.2.2.2.2.1 (gx27 S).2.2.2.2.2.2.2.2.2.2.1 (gx27 S).2.2.2.2.2.2.2.2.2.2.2 (gx28 S).1 (gx28 S).2.1 i1_x (gx28 S).2.2.2.1 (gx28 S).2.2.2.2.1 (gx28 S).2.2.2.2.2.1 (gx28 S).2.2.2.2.2.2.1 (gx28 S).2.2.2.2.2.2.2.1 (gx28 S).2.2.2.2.2.2.2.2.1 i1_lI y_i1_lI i1_ce i1_co i1_fi i1_fe (gx29 S).1 (gx29 S).2.1 (gx29 S).2.2.1 (gx29 S).2.2.2.1 (gx29 S).2.2.2.2.1 (gx29 S).2.2.2.2.2.1 i2_x (gx29 S).2.2.2.2.2.2.2.1 (gx29 S).2.2.2.2.2.2.2.2.1 (gx29 S).2.2.2.2.2.2.2.2.2.1 (gx29 S).2.2.2.2.2.2.2.2.2.2.1 (gx29 S).2.2.2.2.2.2.2.2.2.2.2 (gx30 S).1 i2_lI y_i2_lI i2_ce i2_co i2_fi i2_fe (gx30 S).2.2.2.2.1 (gx30 S).2.2.2.2.2.1 (gx30 S).2.2.2.2.2.2.1 (gx30 S).2.2.2.2.2.2.2.1 (gx30 S).2.2.2.2.2.2.2.2.1 i3_x (gx30 S).2.2.2.2.2.2.2.2.2.2.1 (gx30 S).2.2.2.2.2.2.2.2.2.2.2 (gx31 S).1 (gx31 S).2.1 (gx31 S).2.2.1 (gx31 S).2.2.2.1 i3_lI y_i3_lI i3_ce i3_co i3_fi i3_fe (gx31 S).2.2.2.2.2.2.2.1 (gx31 S).2.2.2.2.2.2.2.2.1 (gx31 S).2.2.2.2.2.2.2.2.2.1 (gx31 S).2.2.2.2.2.2.2.2.2.2.1 (gx31 S).2.2.2.2.2.2.2.2.2.2.2 (gx32 S).1 i4_x (gx32 S).2.2.1 (gx32 S).2.2.2.1 (gx32 S).2.2.2.2.1 (gx32 S).2.2.2.2.2.1 (gx32 S).2.2.2.2.2.2.1 (gx32 S).2.2.2.2.2.2.2.1 i4_lI y_i4_lI i4_ce i4_co i4_fi i4_fe (gx32 S).2.2.2.2.2.2.2.2.2.2.2 (gx33 S).1 (gx33 S).2.1 (gx33 S).2.2.1 (gx33 S).2.2.2.1 (gx33 S).2.2.2.2 (by kernel_rfl)
end Sc
open PySem PySem.W PySem.Calls PyProof.Rows
theorem PySem.Challenge.cw_smallcourt_k56_whole_wrong_texts_located_holds : PySem.Challenge.rw_smallcourt_k56_whole_wrong_texts_located.Holds := by
  w_on; o_law
  refine HandSHeadRun.head_any (r := Sc.theRow) (q := view Sc.theRow.prog [Sc.lawI]) (H := Sc.hk) (ob := Sc.ob) (M := 9000) (loose := Sc.names) (d := HandSHeadRun.topDef Sc.theRow.prog Sc.lawI) (kwd := []) Sc.ob_eq (by kernel_rfl) (fun s => by kernel_rfl) Sc.run (by kernel_rfl) (by kernel_rfl) (by kernel_rfl) (by rfl) (by first | assumption | decide +kernel) (by decide +kernel) ⟨rfl, rfl, rfl, rfl, rfl, by decide +kernel⟩ ?hw ?hc
  case hw => w_witness2
  case hc =>
    refine LamX.walk_ofTsE (l := Sc.theLaw) (n := 63) (k := 32) (CX := fun _ => L2.CX0) (x := "_law_script") rfl (by decide) (by kernel_rfl) ⟨rfl, by decide, by decide⟩ ?F (fun _ _ _ _ _ z => z)
    intro w mg fa h Y G hmg0
    obtain ⟨K, KX, c⟩ := Y
    have hmg : mg ("law" : PySem.Str) = some (.ref fa) := by
      have e : (HandSHeadRun.topDef Sc.theRow.prog Sc.lawI).name = ("law" : PySem.Str) := by kernel_rfl
      rw [← e]
      exact hmg0
    exact ⟨K, KX, Sc.all_y KX G hmg c⟩
