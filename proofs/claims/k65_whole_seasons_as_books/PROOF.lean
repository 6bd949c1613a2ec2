import PyProof.Rows.All
import Wide.All
import OpenK.AllK
import Wide.FinOn
import KE.GoesMore
import HandS.Iter
import KE.KExcSuper
import HandS.Nested
import HandS.ExcInit
import HandS.FStr
import HandS.ForMost
import HandS.ForExc
import HandS.EndTab
import HandS.IsInst
import HandS.SetFor
import HandS.ExcIs
import HandS.ExcField
import HandS.TupAny
import HandS.Wide
import HandS.WideBits
import HandS.Walk
import HandS.Deep
import KE.KExcIs
import PySem.Challenge.RW_smallcourt_k65_whole_seasons_as_books
import HandS.Style
import HandS.Property
import HandS.NamedTupGet
import HandS.More
import HandS.SlotsOwn
import KE.KOpsOwn
import KE.KCallOwn
import HandS.WordsExc
import OpenK.KMeth
import KE.KBits
import KE.BitLaws
import HandS.List
import PyProof.AutoSeq1
import HandS.Gcd
import KE.KMathGC
import HandS.DictComp
import PyProof.EqKinds
import PyProof.NeKinds
import PyProof.CompUse
import HandS.Set
import HandS.TupSets
import PyProof.Rows.SortShellAny
import HandS.Strs
import HandS.SortInts
import HandS.Conv
import HandS.Sort
import KE.KDictList
import HandS.Head2
import HandS.Head3
import HandS.HeadHook4
import HandS.HeadWalk
set_option Elab.async false
set_option linter.all false
set_option maxRecDepth 100000
set_option maxHeartbeats 4000000
namespace Sc
open PySem PySem.Spec PyProof.Rows L2 NdefX
def topS (i : Nat) : Stmt := PySem.Challenge.pw_smallcourt_k65_whole_seasons_as_books.main.body.getD i (.Pass ⟨0, 0, 0, 0⟩)
abbrev s_is_name : Stmt := topS 17
abbrev s_is_integer : Stmt := topS 19
abbrev s_rises : Stmt := topS 20
abbrev s__law_mix : Stmt := topS 75
abbrev s__law_next : Stmt := topS 76
abbrev s__law_facts : Stmt := topS 78
abbrev s_check_facts : Stmt := topS 27
abbrev s_check_case : Stmt := topS 28
abbrev s_check_part : Stmt := topS 72
abbrev s_merged : Stmt := topS 73
abbrev s_Condition___init__ : Stmt := (inClass (topS 71) 0)
abbrev s_Condition_holding : Stmt := (inClass (topS 71) 1)
abbrev s_Condition_failing : Stmt := (inClass (topS 71) 2)
abbrev s_Condition_names : Stmt := (inClass (topS 71) 3)
abbrev s_Condition___len__ : Stmt := (inClass (topS 71) 5)
abbrev s_Condition___call__ : Stmt := (inClass (topS 71) 4)
abbrev s_Condition_within : Stmt := (inClass (topS 71) 8)
abbrev s_Condition___eq__ : Stmt := (inClass (topS 71) 7)
abbrev s_Condition___and__ : Stmt := (inClass (topS 71) 6)
abbrev s_nested : Stmt := topS 48
abbrev s_Rule___init__ : Stmt := (inClass (topS 46) 0)
abbrev s_Rule_name : Stmt := (inClass (topS 46) 1)
abbrev s_Rule_condition : Stmt := (inClass (topS 46) 2)
abbrev s_Rule_ruling : Stmt := (inClass (topS 46) 3)
abbrev s_Rule_exceptions : Stmt := (inClass (topS 46) 4)
abbrev s_Rule_depth : Stmt := (inClass (topS 46) 5)
abbrev s_check_rules : Stmt := topS 49
abbrev s_Book___init__ : Stmt := (inClass (topS 47) 0)
abbrev s_Book_facts : Stmt := (inClass (topS 47) 1)
abbrev s_Book_rules : Stmt := (inClass (topS 47) 2)
abbrev s_Book_ruling : Stmt := (inClass (topS 47) 3)
abbrev s_up_to_first_met : Stmt := topS 40
abbrev s_steps : Stmt := topS 39
abbrev s_looked_into : Stmt := topS 41
abbrev s_bits_of : Stmt := topS 29
abbrev s_cube_of : Stmt := topS 31
abbrev s_clash : Stmt := topS 34
abbrev s_meets : Stmt := topS 32
abbrev s_joined : Stmt := topS 33
abbrev s_rows_within : Stmt := topS 37
abbrev s_rows_of : Stmt := topS 36
abbrev s_Book___contains__ : Stmt := (inClass (topS 47) 7)
abbrev s_Book___getitem__ : Stmt := (inClass (topS 47) 8)
abbrev s_replaced : Stmt := topS 50
abbrev s_Book___sub__ : Stmt := (inClass (topS 47) 10)
abbrev s_Timetable___init__ : Stmt := (inClass (topS 54) 0)
abbrev s_Timetable_ruling_by : Stmt := (inClass (topS 54) 4)
abbrev s_Timetable_met : Stmt := (inClass (topS 54) 2)
abbrev s_Timetable_ruling_on : Stmt := (inClass (topS 54) 3)
abbrev s_names_in : Stmt := topS 52
abbrev s_Timetable_bits_within : Stmt := (inClass (topS 54) 1)
abbrev s_is_day : Stmt := topS 23
abbrev s_check_day : Stmt := topS 24
abbrev s_is_span : Stmt := topS 61
abbrev s_in_span : Stmt := topS 62
abbrev s_check_spans : Stmt := topS 60
abbrev s_Seasons___init__ : Stmt := (inClass (topS 59) 0)
abbrev s_Seasons_period : Stmt := (inClass (topS 59) 3)
abbrev s_Seasons___call__ : Stmt := (inClass (topS 59) 4)
abbrev s_Seasons_book : Stmt := (inClass (topS 59) 1)
abbrev s_Seasons_spans : Stmt := (inClass (topS 59) 2)
abbrev s_forces_of_period : Stmt := topS 68
abbrev s_Book___call__ : Stmt := (inClass (topS 47) 12)
abbrev s_rulings_of_period : Stmt := topS 67
abbrev s_check_word : Stmt := topS 18
abbrev s_next_day : Stmt := topS 64
abbrev s_check_period : Stmt := topS 66
abbrev s_Book_rulings : Stmt := (inClass (topS 47) 5)
abbrev s_count_rulings : Stmt := topS 63
abbrev s_Timetable_lasting : Stmt := (inClass (topS 54) 5)
abbrev s_always : Stmt := topS 65
abbrev s__law_sides : Stmt := topS 79
abbrev s__law_rule : Stmt := topS 80
abbrev s__law_drawn : Stmt := topS 81
abbrev s__law_made : Stmt := topS 82
abbrev s__law_book : Stmt := topS 83
abbrev s__law_all : Stmt := topS 85
abbrev s__law_spans : Stmt := topS 86
abbrev s__law_two : Stmt := topS 77
abbrev s__law_case : Stmt := topS 84
abbrev s_law : Stmt := topS 87
abbrev nf_InvalidFacts (cc c : Addr) : NF := ⟨"__init__", "InvalidFacts.__init__", defArgs (inClass (topS 3) 0), defBody (inClass (topS 3) 0), defScope (inClass (topS 3) 0), [(("__class__" : Str), cc)], c⟩
abbrev nf_InvalidCase (cc c : Addr) : NF := ⟨"__init__", "InvalidCase.__init__", defArgs (inClass (topS 4) 0), defBody (inClass (topS 4) 0), defScope (inClass (topS 4) 0), [(("__class__" : Str), cc)], c⟩
abbrev nf_InvalidCondition (cc c : Addr) : NF := ⟨"__init__", "InvalidCondition.__init__", defArgs (inClass (topS 5) 0), defBody (inClass (topS 5) 0), defScope (inClass (topS 5) 0), [(("__class__" : Str), cc)], c⟩
abbrev nf_InvalidRule (cc c : Addr) : NF := ⟨"__init__", "InvalidRule.__init__", defArgs (inClass (topS 7) 0), defBody (inClass (topS 7) 0), defScope (inClass (topS 7) 0), [(("__class__" : Str), cc)], c⟩
abbrev nf_InvalidBook (cc c : Addr) : NF := ⟨"__init__", "InvalidBook.__init__", defArgs (inClass (topS 8) 0), defBody (inClass (topS 8) 0), defScope (inClass (topS 8) 0), [(("__class__" : Str), cc)], c⟩
abbrev nf_InvalidSpan (cc c : Addr) : NF := ⟨"__init__", "InvalidSpan.__init__", defArgs (inClass (topS 13) 0), defBody (inClass (topS 13) 0), defScope (inClass (topS 13) 0), [(("__class__" : Str), cc)], c⟩
def letters : Str := "abcdefghijklmnopqrstuvwxyz"
def lastDay : Int := 1000000000000000000
end Sc
namespace HeadY
open PySem PySem.Spec PyProof.Rows L2 He
/-! ### addresses -/
def recF (K : PySem.W.Frag) (p : Addr) : Addr := match PySem.W.recIn K p "property" with
  | some (.ref g :: _) => g
  | _ => 0
def codA (K : PySem.W.Frag) (f : Addr) : Addr := match K.lookup f with
  | some ⟨_, _, .func fd, _⟩ => (match fd.code with
    | .ref c => c
    | _ => 0)
  | _ => 0
def cloA (K : PySem.W.Frag) (f : Addr) : Addr := match K.lookup f with
  | some ⟨_, _, .func fd, _⟩ => (match fd.closure with
    | (_, c) :: _ => c
    | _ => 0)
  | _ => 0
def mroT (K : PySem.W.Frag) (C : Addr) : List Value := match K.lookup C with
  | some ⟨_, _, .cls cd, _⟩ => cd.mro.tail
  | _ => []
/-! ### functions -/
abbrev FnY : Type := Option (Str × Str × Arguments × FuncBody × Scope)
def fnY (K : PySem.W.Frag) (a : Addr) : FnY := match K.lookup a with
  | some ⟨_, _, .func fd, _⟩ => some (fd.name, fd.qualname, fd.params, fd.body, fd.scope)
  | _ => none
structure FnDY where
  at_ : PySem.W.Frag → Addr
  name : Str
  qual : Str
  params : Arguments
  body : List Stmt
  scope : Scope
def FnDY.val (d : FnDY) : FnY := some (d.name, d.qual, d.params, .stmts d.body, d.scope)
def fnB (K : PySem.W.Frag) (a : Addr) (q : Str) : Bool := match K.lookup a with
  | some ⟨_, _, .func fd, _⟩ => PySem.W.codeIn K (.ref (codA K a)) q && (decide (fd.code = .ref (codA K a)) && (decide (fd.globals = mainGlobals) && (fd.closure.isEmpty && (decide (fd.defaults = .none) && decide (fd.builtins = builtinsNs)))))
  | _ => false
def fnBC (K : PySem.W.Frag) (a : Addr) (q : Str) : Bool := match K.lookup a with
  | some ⟨_, _, .func fd, _⟩ => PySem.W.codeIn K (.ref (codA K a)) q && (decide (fd.code = .ref (codA K a)) && (decide (fd.globals = mainGlobals) && (decide (fd.closure = [(("__class__" : Str), cloA K a)]) && (decide (fd.defaults = .none) && decide (fd.builtins = builtinsNs)))))
  | _ => false
theorem fn_ok {K : PySem.W.Frag} {a : Addr} {n q : Str} {ps : Arguments} {b : List Stmt} {sc : Scope} (e : fnY K a = some (n, q, ps, .stmts b, sc)) (c : fnB K a q = true) :
    ∃ oc od kV dc pm an ct sl, K.lookup a = some ⟨oc, od, .func (PySem.W.fnOf n q ps b sc .none kV dc pm an (.ref (codA K a)) ct), sl⟩ ∧ PySem.W.codeIn K (.ref (codA K a)) q = true := by
  unfold fnB at c
  unfold fnY at e
  cases z : K.lookup a with
  | none => rw [z] at c; cases c
  | some o =>
    obtain ⟨oc, od, dt, sl⟩ := o
    rw [z] at c e
    cases dt with
    | func fd =>
      obtain ⟨n1, n2, n3, n4, n5, n6, n7, n8, n9, n10, n11, n12, n13, n14, n15⟩ := fd
      have e2 : (some (n1, n2, n3, n4, n5) : FnY) = some (n, q, ps, .stmts b, sc) := e
      simp only [Option.some.injEq, Prod.mk.injEq] at e2
      obtain ⟨h1, h2, h3, h4, h5⟩ := e2
      obtain ⟨c1, c⟩ := ba c
      obtain ⟨c2, c⟩ := ba c
      obtain ⟨c3, c⟩ := ba c
      obtain ⟨c4, c⟩ := ba c
      obtain ⟨c5, c6⟩ := ba c
      have c2 : n13 = _ := of_decide_eq_true c2
      have c3 : n6 = _ := of_decide_eq_true c3
      have c4 : n7 = [] := List.isEmpty_iff.mp c4
      have c5 : n8 = _ := of_decide_eq_true c5
      have c6 : n15 = _ := of_decide_eq_true c6
      exact ⟨oc, od, n9, n10, n11, n12, n14, sl, by rw [h1, h2, h3, h4, h5, c2, c3, c4, c5, c6], c1⟩
    | _ => cases c
theorem fn_okC {K : PySem.W.Frag} {a : Addr} {n q : Str} {ps : Arguments} {b : List Stmt} {sc : Scope} (e : fnY K a = some (n, q, ps, .stmts b, sc)) (c : fnBC K a q = true) :
    ∃ oc od kV dc pm an ct sl, K.lookup a = some ⟨oc, od, .func (PySem.W.fnX n q ps b sc [(("__class__" : Str), cloA K a)] .none kV dc pm an (.ref (codA K a)) ct), sl⟩ ∧ PySem.W.codeIn K (.ref (codA K a)) q = true := by
  unfold fnBC at c
  unfold fnY at e
  cases z : K.lookup a with
  | none => rw [z] at c; cases c
  | some o =>
    obtain ⟨oc, od, dt, sl⟩ := o
    rw [z] at c e
    cases dt with
    | func fd =>
      obtain ⟨n1, n2, n3, n4, n5, n6, n7, n8, n9, n10, n11, n12, n13, n14, n15⟩ := fd
      have e2 : (some (n1, n2, n3, n4, n5) : FnY) = some (n, q, ps, .stmts b, sc) := e
      simp only [Option.some.injEq, Prod.mk.injEq] at e2
      obtain ⟨h1, h2, h3, h4, h5⟩ := e2
      obtain ⟨c1, c⟩ := ba c
      obtain ⟨c2, c⟩ := ba c
      obtain ⟨c3, c⟩ := ba c
      obtain ⟨c4, c⟩ := ba c
      obtain ⟨c5, c6⟩ := ba c
      have c2 : n13 = _ := of_decide_eq_true c2
      have c3 : n6 = _ := of_decide_eq_true c3
      have c4 : n7 = _ := of_decide_eq_true c4
      have c5 : n8 = _ := of_decide_eq_true c5
      have c6 : n15 = _ := of_decide_eq_true c6
      exact ⟨oc, od, n9, n10, n11, n12, n14, sl, by rw [h1, h2, h3, h4, h5, c2, c3, c4, c5, c6], c1⟩
    | _ => cases c
/-! ### shapes -/
def intB (K : PySem.W.Frag) (x : Str) (i : Int) : Bool := match PySem.W.nsIn K mainGlobals x with
  | some (some (.int j _)) => decide (j = i)
  | _ => false
theorem int_is {K : PySem.W.Frag} {x : Str} {i : Int} (c : intB K x i = true) : ∃ t, PySem.W.nsIn K mainGlobals x = some (some (.int i t)) := by
  unfold intB at c
  split at c
  · rename_i j t e
    exact ⟨t, by rw [e, of_decide_eq_true c]⟩
  · cases c
def strB (K : PySem.W.Frag) (x s : Str) : Bool := match PySem.W.nsIn K mainGlobals x with
  | some (some (.str j _)) => decide (j = s)
  | _ => false
theorem str_is {K : PySem.W.Frag} {x s : Str} (c : strB K x s = true) : ∃ t, PySem.W.nsIn K mainGlobals x = some (some (.str s t)) := by
  unfold strB at c
  split at c
  · rename_i j t e
    exact ⟨t, by rw [e, of_decide_eq_true c]⟩
  · cases c
def recB (K : PySem.W.Frag) (p : Addr) : Bool := match PySem.W.recIn K p "property" with
  | some (.ref g :: _) => decide (g = recF K p)
  | _ => false
theorem rec_is {K : PySem.W.Frag} {p : Addr} (c : recB K p = true) : ∃ rs, PySem.W.recIn K p "property" = some (.ref (recF K p) :: rs) := by
  unfold recB at c
  split at c
  · rename_i g rs e
    exact ⟨rs, by rw [e, of_decide_eq_true c]⟩
  · cases c
theorem some_is {α : Type} {o : Option α} (c : o.isSome = true) : ∃ x, o = some x := Option.isSome_iff_exists.mp c
def sixB (id : String) : List (Option Value) → Bool
  | [_, _, _, _, some (.builtin b), _] => decide (b = id)
  | _ => false
theorem six_is {id : String} {l : List (Option Value)} (c : sixB id l = true) : ∃ x0 x1 x2 x3 x5, l = [x0, x1, x2, x3, some (.builtin id), x5] := by
  unfold sixB at c
  split at c
  · have c := of_decide_eq_true c
    exact ⟨_, _, _, _, _, by rw [c]⟩
  · cases c
def excB (K : PySem.W.Frag) (C : Addr) (id : String) : Bool := match K.lookup C with
  | some ⟨.type t, _, .cls cd, sl⟩ => decide (t = "type") && (decide (cd.mro = .ref C :: mroT K C) && (cd.hasDict && (!cd.hasDel && sixB id sl.toList)))
  | _ => false
theorem exc_is {K : PySem.W.Frag} {C : Addr} {id : String} (c : excB K C id = true) :
    ∃ nm q N bs sn su ab col dd x0 x1 x2 x3 x5, K.lookup C = some (excClassObj nm q C N bs (mroT K C) true sn su ab col dd x0 x1 x2 x3 x5 id) := by
  unfold excB at c
  cases z : K.lookup C with
  | none => rw [z] at c; cases c
  | some o =>
    obtain ⟨oc, od, dt, ⟨sl⟩⟩ := o
    rw [z] at c
    cases oc with
    | type t =>
      cases dt with
      | cls cd =>
        obtain ⟨n1, n2, n3, n4, n5, n6, n7, n8, n9, n10, n11⟩ := cd
        obtain ⟨c1, c⟩ := ba c
        obtain ⟨c2, c⟩ := ba c
        obtain ⟨c3, c⟩ := ba c
        obtain ⟨c4, c5⟩ := ba c
        have c1 : t = _ := of_decide_eq_true c1
        have c2 : n3 = _ := of_decide_eq_true c2
        have c3 : n6 = true := c3
        have c4 : n11 = false := by
          cases n11 with
          | false => rfl
          | true => cases c4
        obtain ⟨x0, x1, x2, x3, x5, c5⟩ := six_is (l := sl) c5
        exact ⟨n1, n5, n4, n2, n7, n8, n9, n10, od, x0, x1, x2, x3, x5, by rw [c1, c2, c3, c4, c5]⟩
      | _ => cases c
    | _ => cases dt <;> cases c
def cellB (K : PySem.W.Frag) (c E : Addr) : Bool := match K.lookup c with
  | some ⟨_, _, .cell (some (.ref a)), _⟩ => decide (a = E)
  | _ => false
theorem cell_is {K : PySem.W.Frag} {c E : Addr} (e : cellB K c E = true) : ∃ cl cd sl, K.lookup c = some ⟨cl, cd, .cell (some (.ref E)), sl⟩ := by
  unfold cellB at e
  split at e
  · rename_i a _ z
    exact ⟨_, _, _, by rw [z, of_decide_eq_true e]⟩
  · cases e
def fileB (K : PySem.W.Frag) (c : Addr) (f : Str) : Bool := match K.lookup c with
  | some ⟨_, _, .fields vs, _⟩ => (match (vs[2]? : Option Value) with
    | some (.str x _) => f == x
    | _ => false)
  | _ => false
theorem file_is {K : PySem.W.Frag} {c : Addr} {f : Str} (e : fileB K c f = true) : ∃ cl cd vs sl x t, K.lookup c = some ⟨cl, cd, .fields vs, sl⟩ ∧ vs[2]? = some (.str x t) ∧ (f == x) = true := by
  unfold fileB at e
  split at e
  · rename_i vs _ z
    split at e
    · rename_i x t y
      exact ⟨_, _, _, _, x, t, z, y, e⟩
    · cases e
  · cases e
def strsB : List Value → List Str → Bool
  | [], [] => true
  | .str x _ :: r, s :: ss => decide (x = s) && strsB r ss
  | _, _ => false
theorem strs_is : ∀ {l : List Value} {ss : List Str}, strsB l ss = true → ∃ us : List Tok, us.length = ss.length ∧ l = List.zipWith Value.str ss us
  | [], [], _ => ⟨[], rfl, rfl⟩
  | [], s :: ss, h => by cases h
  | v :: r, [], h => by cases v <;> cases h
  | v :: r, s :: ss, h => by
    cases v with
    | str x t =>
      obtain ⟨h1, h2⟩ := ba h
      obtain ⟨us, e1, e2⟩ := strs_is h2
      refine ⟨t :: us, by simp [e1], ?_⟩
      have h1 : x = s := of_decide_eq_true h1
      rw [h1, e2]
      rfl
    | _ => cases h
def tupB (K : PySem.W.Frag) (a : Addr) (ss : List Str) : Bool := match K.lookup a with
  | some ⟨.type c, _, .seq its _, _⟩ => decide (c = "tuple") && strsB its.toList ss
  | _ => false
theorem tup_is {K : PySem.W.Frag} {a : Addr} {ss : List Str} (e : tupB K a ss = true) : ∃ od n sl, ∃ us : List Tok, us.length = ss.length ∧ K.lookup a = some ⟨.type "tuple", od, .seq ⟨List.zipWith Value.str ss us⟩ n, sl⟩ := by
  unfold tupB at e
  cases z : K.lookup a with
  | none => rw [z] at e; cases e
  | some o =>
    obtain ⟨oc, od, dt, sl⟩ := o
    rw [z] at e
    cases oc with
    | type c =>
      cases dt with
      | seq its n =>
        obtain ⟨⟨its⟩⟩ : Nonempty { x : Array Value // x = its } := ⟨⟨its, rfl⟩⟩
        obtain ⟨e1, e2⟩ := ba e
        obtain ⟨us, h1, h2⟩ := strs_is e2
        have e1 : c = "tuple" := of_decide_eq_true e1
        refine ⟨od, n, sl, us, h1, ?_⟩
        rw [e1, ← h2]
      | _ => cases e
    | _ => cases dt <;> cases e
theorem len1 {α : Type} {us : List α} (h : us.length = 1) : ∃ a, us = [a] := by
  match us, h with
  | [a], _ => exact ⟨a, rfl⟩
theorem len2 {α : Type} {us : List α} (h : us.length = 2) : ∃ a b, us = [a, b] := by
  match us, h with
  | [a, b], _ => exact ⟨a, b, rfl⟩
theorem len3 {α : Type} {us : List α} (h : us.length = 3) : ∃ a b c, us = [a, b, c] := by
  match us, h with
  | [a, b, c], _ => exact ⟨a, b, c, rfl⟩
theorem len4 {α : Type} {us : List α} (h : us.length = 4) : ∃ a b c d, us = [a, b, c, d] := by
  match us, h with
  | [a, b, c, d], _ => exact ⟨a, b, c, d, rfl⟩
theorem len5 {α : Type} {us : List α} (h : us.length = 5) : ∃ a b c d e, us = [a, b, c, d, e] := by
  match us, h with
  | [a, b, c, d, e], _ => exact ⟨a, b, c, d, e, rfl⟩
theorem tbl_is {K : PySem.W.Frag} {c T : Addr} (e : PySem.W.codeHdIn K c T = true) : ∃ o, K.lookup c = some o ∧ PySem.W.codeHdIn [(c, o)] c T = true := by
  cases z : K.lookup c with
  | none =>
    unfold PySem.W.codeHdIn at e
    rw [z] at e
    cases e
  | some o =>
    refine ⟨o, rfl, ?_⟩
    unfold PySem.W.codeHdIn at e ⊢
    have q : ([(c, o)] : PySem.W.Frag).lookup c = some o := by simp [List.lookup]
    rw [q]
    rw [z] at e
    exact e
/-! ### the Hook -/
abbrev AlY : Type := List FnY × Bool
structure SaysY (fn : List FnDY) (tf : List (PySem.W.Frag → Addr)) (ex : PySem.W.Frag → Bool) (h : Heap) (K : PySem.W.Frag) : Prop where
  fns : fn.map (fun d => fnY K (d.at_ K)) = fn.map FnDY.val
  more : ex K = true
  hd : ∀ p ∈ tf, PySem.W.codeHdIn K (p K) (tabOf K (p K)) = true
  out : ∀ p ∈ tf, K.lookup (tabOf K (p K)) = none
  empty : ∀ p ∈ tf, h.get? (tabOf K (p K)) = some { cls := .none, data := .fields #[] }
def tabsY (g : Addr → Option Obj) (tf : List (PySem.W.Frag → Addr)) (K : PySem.W.Frag) : Bool := tf.all fun p => PySem.W.codeHdIn K (p K) (tabOf K (p K)) && (match g (tabOf K (p K)) with
  | some o => emptyTab o
  | none => false)
def obsY (as : List Addr) (fn : List FnDY) (tf : List (PySem.W.Frag → Addr)) (ex : PySem.W.Frag → Bool) (g : Addr → Option Obj) : AlY :=
  (fun K : PySem.W.Frag => (fn.map (fun d => fnY K (d.at_ K)), ex K && tabsY g tf K)) (frT g as)
def valY (fn : List FnDY) : AlY := (fn.map FnDY.val, true)
theorem saysY_of {as : List Addr} {fn : List FnDY} {tf : List (PySem.W.Frag → Addr)} {ex : PySem.W.Frag → Bool} {h : Heap} (e : obsY as fn tf ex h.get? = valY fn) : SaysY fn tf ex h (frT h.get? as) := by
  have e1 : fn.map (fun d => fnY (frT h.get? as) (d.at_ (frT h.get? as))) = fn.map FnDY.val := congrArg (fun z : AlY => z.1) e
  have e2 : (ex (frT h.get? as) && tabsY h.get? tf (frT h.get? as)) = true := congrArg (fun z : AlY => z.2) e
  obtain ⟨h1, h2⟩ := ba e2
  have key : ∀ p ∈ tf, PySem.W.codeHdIn (frT h.get? as) (p (frT h.get? as)) (tabOf (frT h.get? as) (p (frT h.get? as))) = true ∧ ∃ o, h.get? (tabOf (frT h.get? as) (p (frT h.get? as))) = some o ∧ emptyTab o = true := fun p hp => by
    obtain ⟨h3, h4⟩ := ba (List.all_eq_true.mp h2 p hp)
    refine ⟨h3, ?_⟩
    split at h4
    · rename_i o q
      exact ⟨o, q, h4⟩
    · cases h4
  exact ⟨e1, h1, fun p hp => (key p hp).1, fun p hp => by
    obtain ⟨_, o, q, z⟩ := key p hp
    exact frT_none q z, fun p hp => by
    obtain ⟨_, o, q, z⟩ := key p hp
    rw [q, emptyTab_eq z]⟩
def hookY (as : List Addr) (fn : List FnDY) (tf : List (PySem.W.Frag → Addr)) (ex : PySem.W.Frag → Bool) : PySem.W.Hook where
  α := AlY
  obs := fun s => obsY as fn tf ex s.heap.get?
  val := fun _ => valY fn
  says := fun _ h => ∃ K : PySem.W.Frag, K.In h ∧ SaysY fn tf ex h K
  of := fun _ _ e => ⟨_, frT_in, saysY_of e⟩
  keeps := fun _ _ _ ⟨K, hK, c⟩ k => ⟨K, PySem.W.Frag.In.keeps hK k, ⟨c.fns, c.more, c.hd, c.out, fun p hp => k _ _ (c.empty p hp)⟩⟩
theorem obsY_eq {as : List Addr} {fn : List FnDY} {tf : List (PySem.W.Frag → Addr)} {ex : PySem.W.Frag → Bool} {g : Addr → Option Obj} {s : Shared} (h : ∀ a, g a = s.heap.get? a) : obsY as fn tf ex g = (hookY as fn tf ex).obs s := by
  have e : g = s.heap.get? := funext h
  rw [e] <;> rfl
theorem map_join {α β γ δ ε : Type} {X : Option α} {a : α → β} {b : α → γ} {c : α → δ} {d : α → ε} {x : β} {y : γ} {z : δ} {u : ε} (h1 : X.map (fun s => (a s, b s, c s)) = some (x, y, z)) (h2 : X.map (fun s => (a s, b s, d s)) = some (x, y, u)) : ∃ s, X = some s ∧ a s = x ∧ b s = y ∧ c s = z ∧ d s = u := by
  cases X with
  | none => cases h1
  | some s =>
    have e1 : (a s, b s, c s) = (x, y, z) := Option.some.inj h1
    have e2 : (a s, b s, d s) = (x, y, u) := Option.some.inj h2
    simp only [Prod.mk.injEq] at e1 e2
    exact ⟨s, rfl, e1.1, e1.2.1, e1.2.2, e2.2.2⟩
/-- two runs, two parts of what is looked at -/
theorem run_join {r : PySem.W.OpenRow} {q : Program} {M : Nat} {loose : List Str} {w : World} {as : List Addr} {fn1 fn2 : List FnDY} {tf1 tf2 : List (PySem.W.Frag → Addr)} {ex1 ex2 : PySem.W.Frag → Bool}
    (h1 : HandSHeadRun.RunEq r q (hookY as fn1 tf1 ex1) (fun s => obsY as fn1 tf1 ex1 (HandSHeadRun.getT s)) M loose w) (h2 : HandSHeadRun.RunEq r q (hookY as fn2 tf2 ex2) (fun s => obsY as fn2 tf2 ex2 (HandSHeadRun.getT s)) M loose w) :
    HandSHeadRun.RunEq r q (hookY as (fn1 ++ fn2) (tf1 ++ tf2) (fun K => ex1 K && ex2 K)) (fun s => obsY as (fn1 ++ fn2) (tf1 ++ tf2) (fun K => ex1 K && ex2 K) (HandSHeadRun.getT s)) M loose w := by
  intro os
  obtain ⟨s, e, e1, e2, e3, e4⟩ := map_join (h1 os) (h2 os)
  rw [e]
  have e3 : obsY as fn1 tf1 ex1 (HandSHeadRun.getT s) = valY fn1 := e3
  have e4 : obsY as fn2 tf2 ex2 (HandSHeadRun.getT s) = valY fn2 := e4
  have a1 : fn1.map (fun d => fnY (frT (HandSHeadRun.getT s) as) (d.at_ (frT (HandSHeadRun.getT s) as))) = fn1.map FnDY.val := congrArg (fun z : AlY => z.1) e3
  have a2 : (ex1 (frT (HandSHeadRun.getT s) as) && tabsY (HandSHeadRun.getT s) tf1 (frT (HandSHeadRun.getT s) as)) = true := congrArg (fun z : AlY => z.2) e3
  have b1 : fn2.map (fun d => fnY (frT (HandSHeadRun.getT s) as) (d.at_ (frT (HandSHeadRun.getT s) as))) = fn2.map FnDY.val := congrArg (fun z : AlY => z.1) e4
  have b2 : (ex2 (frT (HandSHeadRun.getT s) as) && tabsY (HandSHeadRun.getT s) tf2 (frT (HandSHeadRun.getT s) as)) = true := congrArg (fun z : AlY => z.2) e4
  obtain ⟨a2, a3⟩ := ba a2
  obtain ⟨b2, b3⟩ := ba b2
  have c : obsY as (fn1 ++ fn2) (tf1 ++ tf2) (fun K => ex1 K && ex2 K) (HandSHeadRun.getT s) = valY (fn1 ++ fn2) := by
    show ((fn1 ++ fn2).map (fun d => fnY (frT (HandSHeadRun.getT s) as) (d.at_ (frT (HandSHeadRun.getT s) as))), (ex1 (frT (HandSHeadRun.getT s) as) && ex2 (frT (HandSHeadRun.getT s) as)) && tabsY (HandSHeadRun.getT s) (tf1 ++ tf2) (frT (HandSHeadRun.getT s) as)) = ((fn1 ++ fn2).map FnDY.val, true)
    have t : tabsY (HandSHeadRun.getT s) (tf1 ++ tf2) (frT (HandSHeadRun.getT s) as) = true := by
      unfold tabsY at a3 b3 ⊢
      rw [List.all_append, a3, b3] <;> rfl
    rw [List.map_append, List.map_append, a1, b1, a2, b2, t] <;> rfl
  show some (_, _, _) = some (_, _, _)
  rw [e1, e2]
  exact congrArg (fun z => some (true, PySem.W.openGood q loose, z)) c
/-- the same of a text with imports -/
theorem run_joinI {r : PySem.W.OpenRow} {q : Program} {M : Nat} {loose : List Str} {w : World} {as : List Addr} {fn1 fn2 : List FnDY} {tf1 tf2 : List (PySem.W.Frag → Addr)} {ex1 ex2 : PySem.W.Frag → Bool}
    (h1 : HandSHeadRun.RunEqI r q (hookY as fn1 tf1 ex1) (fun s => obsY as fn1 tf1 ex1 (HandSHeadRun.getT s)) M loose w) (h2 : HandSHeadRun.RunEqI r q (hookY as fn2 tf2 ex2) (fun s => obsY as fn2 tf2 ex2 (HandSHeadRun.getT s)) M loose w) :
    HandSHeadRun.RunEqI r q (hookY as (fn1 ++ fn2) (tf1 ++ tf2) (fun K => ex1 K && ex2 K)) (fun s => obsY as (fn1 ++ fn2) (tf1 ++ tf2) (fun K => ex1 K && ex2 K) (HandSHeadRun.getT s)) M loose w := by
  unfold HandSHeadRun.RunEqI at h1 h2 ⊢
  obtain ⟨⟨s0, s⟩, e, e1, e2, e3, e4⟩ := map_join h1 h2
  rw [e]
  have e3 : obsY as fn1 tf1 ex1 (HandSHeadRun.getT s) = valY fn1 := e3
  have e4 : obsY as fn2 tf2 ex2 (HandSHeadRun.getT s) = valY fn2 := e4
  have a1 : fn1.map (fun d => fnY (frT (HandSHeadRun.getT s) as) (d.at_ (frT (HandSHeadRun.getT s) as))) = fn1.map FnDY.val := congrArg (fun z : AlY => z.1) e3
  have a2 : (ex1 (frT (HandSHeadRun.getT s) as) && tabsY (HandSHeadRun.getT s) tf1 (frT (HandSHeadRun.getT s) as)) = true := congrArg (fun z : AlY => z.2) e3
  have b1 : fn2.map (fun d => fnY (frT (HandSHeadRun.getT s) as) (d.at_ (frT (HandSHeadRun.getT s) as))) = fn2.map FnDY.val := congrArg (fun z : AlY => z.1) e4
  have b2 : (ex2 (frT (HandSHeadRun.getT s) as) && tabsY (HandSHeadRun.getT s) tf2 (frT (HandSHeadRun.getT s) as)) = true := congrArg (fun z : AlY => z.2) e4
  obtain ⟨a2, a3⟩ := ba a2
  obtain ⟨b2, b3⟩ := ba b2
  have c : obsY as (fn1 ++ fn2) (tf1 ++ tf2) (fun K => ex1 K && ex2 K) (HandSHeadRun.getT s) = valY (fn1 ++ fn2) := by
    show ((fn1 ++ fn2).map (fun d => fnY (frT (HandSHeadRun.getT s) as) (d.at_ (frT (HandSHeadRun.getT s) as))), (ex1 (frT (HandSHeadRun.getT s) as) && ex2 (frT (HandSHeadRun.getT s) as)) && tabsY (HandSHeadRun.getT s) (tf1 ++ tf2) (frT (HandSHeadRun.getT s) as)) = ((fn1 ++ fn2).map FnDY.val, true)
    have t : tabsY (HandSHeadRun.getT s) (tf1 ++ tf2) (frT (HandSHeadRun.getT s) as) = true := by
      unfold tabsY at a3 b3 ⊢
      rw [List.all_append, a3, b3] <;> rfl
    rw [List.map_append, List.map_append, a1, b1, a2, b2, t] <;> rfl
  show some (_, _, _) = some (_, _, _)
  rw [e1, e2]
  exact congrArg (fun z => some (true, PySem.W.openGood q loose, z)) c
theorem SaysY.fn {fn : List FnDY} {tf : List (PySem.W.Frag → Addr)} {ex : PySem.W.Frag → Bool} {h : Heap} {K : PySem.W.Frag} (c : SaysY fn tf ex h K) (i : Nat) {d : FnDY} (e : fn[i]? = some d) : fnY K (d.at_ K) = some (d.name, d.qual, d.params, .stmts d.body, d.scope) := by
  have e2 : (fn.map fun d => fnY K (d.at_ K))[i]? = (fn.map FnDY.val)[i]? := by rw [c.fns]
  rw [List.getElem?_map, List.getElem?_map, e] at e2
  exact Option.some.inj e2
end HeadY
namespace Sc
open PySem PySem.Spec PyProof.Rows L2 HeadY He
abbrev theLaw : PySem.W.OpenLaw := PySem.Challenge.rw_smallcourt_k65_whole_seasons_as_books
abbrev theRow : PySem.W.OpenRow := PySem.W.OpenLaw.row PySem.Challenge.rw_smallcourt_k65_whole_seasons_as_books
def theFile : Str := theRow.prog.main.file
def Ad_f_is_name (K : PySem.W.Frag) : Addr := ga K "is_name"
def Ad_f_is_integer (K : PySem.W.Frag) : Addr := ga K "is_integer"
def Ad_f_rises (K : PySem.W.Frag) : Addr := ga K "rises"
def Ad_f_check_facts (K : PySem.W.Frag) : Addr := ga K "check_facts"
def Ad_f_nested (K : PySem.W.Frag) : Addr := ga K "nested"
def Ad_f_check_rules (K : PySem.W.Frag) : Addr := ga K "check_rules"
def Ad_f_check_part (K : PySem.W.Frag) : Addr := ga K "check_part"
def Ad_f_merged (K : PySem.W.Frag) : Addr := ga K "merged"
def Ad_f_replaced (K : PySem.W.Frag) : Addr := ga K "replaced"
def Ad_f_is_day (K : PySem.W.Frag) : Addr := ga K "is_day"
def Ad_f_check_day (K : PySem.W.Frag) : Addr := ga K "check_day"
def Ad_f_check_word (K : PySem.W.Frag) : Addr := ga K "check_word"
def Ad_f_check_case (K : PySem.W.Frag) : Addr := ga K "check_case"
def Ad_f_up_to_first_met (K : PySem.W.Frag) : Addr := ga K "up_to_first_met"
def Ad_f_steps (K : PySem.W.Frag) : Addr := ga K "steps"
def Ad_f_looked_into (K : PySem.W.Frag) : Addr := ga K "looked_into"
def Ad_f_is_span (K : PySem.W.Frag) : Addr := ga K "is_span"
def Ad_f_in_span (K : PySem.W.Frag) : Addr := ga K "in_span"
def Ad_f_check_spans (K : PySem.W.Frag) : Addr := ga K "check_spans"
def Ad_f_bits_of (K : PySem.W.Frag) : Addr := ga K "bits_of"
def Ad_f_cube_of (K : PySem.W.Frag) : Addr := ga K "cube_of"
def Ad_f_clash (K : PySem.W.Frag) : Addr := ga K "clash"
def Ad_f_meets (K : PySem.W.Frag) : Addr := ga K "meets"
def Ad_f_joined (K : PySem.W.Frag) : Addr := ga K "joined"
def Ad_f_rows_within (K : PySem.W.Frag) : Addr := ga K "rows_within"
def Ad_f_rows_of (K : PySem.W.Frag) : Addr := ga K "rows_of"
def Ad_f_names_in (K : PySem.W.Frag) : Addr := ga K "names_in"
def Ad_f_forces_of_period (K : PySem.W.Frag) : Addr := ga K "forces_of_period"
def Ad_f_rulings_of_period (K : PySem.W.Frag) : Addr := ga K "rulings_of_period"
def Ad_f_check_period (K : PySem.W.Frag) : Addr := ga K "check_period"
def Ad_f_next_day (K : PySem.W.Frag) : Addr := ga K "next_day"
def Ad_f_count_rulings (K : PySem.W.Frag) : Addr := ga K "count_rulings"
def Ad_f_always (K : PySem.W.Frag) : Addr := ga K "always"
def Ad_f__law_mix (K : PySem.W.Frag) : Addr := ga K "_law_mix"
def Ad_f__law_next (K : PySem.W.Frag) : Addr := ga K "_law_next"
def Ad_f__law_facts (K : PySem.W.Frag) : Addr := ga K "_law_facts"
def Ad_f__law_sides (K : PySem.W.Frag) : Addr := ga K "_law_sides"
def Ad_f__law_rule (K : PySem.W.Frag) : Addr := ga K "_law_rule"
def Ad_f__law_drawn (K : PySem.W.Frag) : Addr := ga K "_law_drawn"
def Ad_f__law_made (K : PySem.W.Frag) : Addr := ga K "_law_made"
def Ad_f__law_book (K : PySem.W.Frag) : Addr := ga K "_law_book"
def Ad_f__law_all (K : PySem.W.Frag) : Addr := ga K "_law_all"
def Ad_f__law_spans (K : PySem.W.Frag) : Addr := ga K "_law_spans"
def Ad_f__law_two (K : PySem.W.Frag) : Addr := ga K "_law_two"
def Ad_f__law_case (K : PySem.W.Frag) : Addr := ga K "_law_case"
def Ad_f_law (K : PySem.W.Frag) : Addr := ga K "law"
def Ad_CO (K : PySem.W.Frag) : Addr := ga K "Condition"
def Ad_RO (K : PySem.W.Frag) : Addr := ga K "Rule"
def Ad_BO (K : PySem.W.Frag) : Addr := ga K "Book"
def Ad_SE (K : PySem.W.Frag) : Addr := ga K "Seasons"
def Ad_TT (K : PySem.W.Frag) : Addr := ga K "Timetable"
def Ad_CE (K : PySem.W.Frag) : Addr := ga K "CourtError"
def Ad_E0 (K : PySem.W.Frag) : Addr := ga K "InvalidFacts"
def Ad_E1 (K : PySem.W.Frag) : Addr := ga K "InvalidCase"
def Ad_E2 (K : PySem.W.Frag) : Addr := ga K "InvalidCondition"
def Ad_E3 (K : PySem.W.Frag) : Addr := ga K "InvalidRule"
def Ad_E4 (K : PySem.W.Frag) : Addr := ga K "InvalidBook"
def Ad_E5 (K : PySem.W.Frag) : Addr := ga K "UnknownRule"
def Ad_f_mi (K : PySem.W.Frag) : Addr := ma K (Ad_CO K) "__init__"
def Ad_pp_mh (K : PySem.W.Frag) : Addr := ma K (Ad_CO K) "holding"
def Ad_pp_mf (K : PySem.W.Frag) : Addr := ma K (Ad_CO K) "failing"
def Ad_pp_mn (K : PySem.W.Frag) : Addr := ma K (Ad_CO K) "names"
def Ad_f_ri (K : PySem.W.Frag) : Addr := ma K (Ad_RO K) "__init__"
def Ad_pp_rn (K : PySem.W.Frag) : Addr := ma K (Ad_RO K) "name"
def Ad_pp_rc (K : PySem.W.Frag) : Addr := ma K (Ad_RO K) "condition"
def Ad_pp_rr (K : PySem.W.Frag) : Addr := ma K (Ad_RO K) "ruling"
def Ad_pp_re (K : PySem.W.Frag) : Addr := ma K (Ad_RO K) "exceptions"
def Ad_pp_rd (K : PySem.W.Frag) : Addr := ma K (Ad_RO K) "depth"
def Ad_f_bi (K : PySem.W.Frag) : Addr := ma K (Ad_BO K) "__init__"
def Ad_pp_bf (K : PySem.W.Frag) : Addr := ma K (Ad_BO K) "facts"
def Ad_pp_bs (K : PySem.W.Frag) : Addr := ma K (Ad_BO K) "rules"
def Ad_pp_br (K : PySem.W.Frag) : Addr := ma K (Ad_BO K) "ruling"
def Ad_pp_bq (K : PySem.W.Frag) : Addr := ma K (Ad_BO K) "rulings"
def Ad_f_yi (K : PySem.W.Frag) : Addr := ma K (Ad_SE K) "__init__"
def Ad_pp_yb (K : PySem.W.Frag) : Addr := ma K (Ad_SE K) "book"
def Ad_pp_ys (K : PySem.W.Frag) : Addr := ma K (Ad_SE K) "spans"
def Ad_pp_yp (K : PySem.W.Frag) : Addr := ma K (Ad_SE K) "period"
def Ad_f_ti (K : PySem.W.Frag) : Addr := ma K (Ad_TT K) "__init__"
def Ad_f_gc (K : PySem.W.Frag) : Addr := ma K (Ad_BO K) "__contains__"
def Ad_f_gi (K : PySem.W.Frag) : Addr := ma K (Ad_BO K) "__getitem__"
def Ad_f_gs (K : PySem.W.Frag) : Addr := ma K (Ad_BO K) "__sub__"
def Ad_f_bc (K : PySem.W.Frag) : Addr := ma K (Ad_BO K) "__call__"
def Ad_f_mc (K : PySem.W.Frag) : Addr := ma K (Ad_CO K) "__call__"
def Ad_f_yc (K : PySem.W.Frag) : Addr := ma K (Ad_SE K) "__call__"
def Ad_f_tw (K : PySem.W.Frag) : Addr := ma K (Ad_TT K) "bits_within"
def Ad_f_tm (K : PySem.W.Frag) : Addr := ma K (Ad_TT K) "met"
def Ad_f_to (K : PySem.W.Frag) : Addr := ma K (Ad_TT K) "ruling_on"
def Ad_f_tr (K : PySem.W.Frag) : Addr := ma K (Ad_TT K) "ruling_by"
def Ad_f_tl (K : PySem.W.Frag) : Addr := ma K (Ad_TT K) "lasting"
def Ad_fIi0 (K : PySem.W.Frag) : Addr := ma K (Ad_E0 K) "__init__"
def Ad_fIi1 (K : PySem.W.Frag) : Addr := ma K (Ad_E1 K) "__init__"
def Ad_fIi2 (K : PySem.W.Frag) : Addr := ma K (Ad_E2 K) "__init__"
def Ad_fIi3 (K : PySem.W.Frag) : Addr := ma K (Ad_E3 K) "__init__"
def Ad_fIi4 (K : PySem.W.Frag) : Addr := ma K (Ad_E4 K) "__init__"
def Ad_f_mh (K : PySem.W.Frag) : Addr := recF K (Ad_pp_mh K)
def Ad_f_mf (K : PySem.W.Frag) : Addr := recF K (Ad_pp_mf K)
def Ad_f_mn (K : PySem.W.Frag) : Addr := recF K (Ad_pp_mn K)
def Ad_f_rn (K : PySem.W.Frag) : Addr := recF K (Ad_pp_rn K)
def Ad_f_rc (K : PySem.W.Frag) : Addr := recF K (Ad_pp_rc K)
def Ad_f_rr (K : PySem.W.Frag) : Addr := recF K (Ad_pp_rr K)
def Ad_f_re (K : PySem.W.Frag) : Addr := recF K (Ad_pp_re K)
def Ad_f_rd (K : PySem.W.Frag) : Addr := recF K (Ad_pp_rd K)
def Ad_f_bf (K : PySem.W.Frag) : Addr := recF K (Ad_pp_bf K)
def Ad_f_bs (K : PySem.W.Frag) : Addr := recF K (Ad_pp_bs K)
def Ad_f_br (K : PySem.W.Frag) : Addr := recF K (Ad_pp_br K)
def Ad_f_bq (K : PySem.W.Frag) : Addr := recF K (Ad_pp_bq K)
def Ad_f_yb (K : PySem.W.Frag) : Addr := recF K (Ad_pp_yb K)
def Ad_f_ys (K : PySem.W.Frag) : Addr := recF K (Ad_pp_ys K)
def Ad_f_yp (K : PySem.W.Frag) : Addr := recF K (Ad_pp_yp K)
def Ad_cc_law (K : PySem.W.Frag) : Addr := codA K (Ad_f_law K)
def Ad_celi0 (K : PySem.W.Frag) : Addr := cloA K (Ad_fIi0 K)
def Ad_codi0 (K : PySem.W.Frag) : Addr := codA K (Ad_fIi0 K)
def Ad_celi1 (K : PySem.W.Frag) : Addr := cloA K (Ad_fIi1 K)
def Ad_codi1 (K : PySem.W.Frag) : Addr := codA K (Ad_fIi1 K)
def Ad_celi2 (K : PySem.W.Frag) : Addr := cloA K (Ad_fIi2 K)
def Ad_codi2 (K : PySem.W.Frag) : Addr := codA K (Ad_fIi2 K)
def Ad_celi3 (K : PySem.W.Frag) : Addr := cloA K (Ad_fIi3 K)
def Ad_codi3 (K : PySem.W.Frag) : Addr := codA K (Ad_fIi3 K)
def Ad_celi4 (K : PySem.W.Frag) : Addr := cloA K (Ad_fIi4 K)
def Ad_codi4 (K : PySem.W.Frag) : Addr := codA K (Ad_fIi4 K)
def Fx0 (K : PySem.W.Frag) : Prop := (PySem.W.nsIn K mainGlobals "is_name" = some (some (.ref (Ad_f_is_name K)))) ∧ (fnB K (Ad_f_is_name K) "is_name" = true) ∧ (PySem.W.keepIn K (.ref (Ad_f_is_name K)) = true) ∧ (PySem.W.nsIn K mainGlobals "is_integer" = some (some (.ref (Ad_f_is_integer K)))) ∧ (fnB K (Ad_f_is_integer K) "is_integer" = true) ∧ (PySem.W.keepIn K (.ref (Ad_f_is_integer K)) = true) ∧ (PySem.W.nsIn K mainGlobals "rises" = some (some (.ref (Ad_f_rises K)))) ∧ (fnB K (Ad_f_rises K) "rises" = true) ∧ (PySem.W.keepIn K (.ref (Ad_f_rises K)) = true) ∧ (PySem.W.nsIn K mainGlobals "check_facts" = some (some (.ref (Ad_f_check_facts K)))) ∧ (fnB K (Ad_f_check_facts K) "check_facts" = true) ∧ (PySem.W.keepIn K (.ref (Ad_f_check_facts K)) = true)
instance (K : PySem.W.Frag) : Decidable (Fx0 K) := by unfold Fx0; infer_instance
def Fx1 (K : PySem.W.Frag) : Prop := (PySem.W.nsIn K mainGlobals "nested" = some (some (.ref (Ad_f_nested K)))) ∧ (fnB K (Ad_f_nested K) "nested" = true) ∧ (PySem.W.keepIn K (.ref (Ad_f_nested K)) = true) ∧ (PySem.W.nsIn K mainGlobals "check_rules" = some (some (.ref (Ad_f_check_rules K)))) ∧ (fnB K (Ad_f_check_rules K) "check_rules" = true) ∧ (PySem.W.keepIn K (.ref (Ad_f_check_rules K)) = true) ∧ (PySem.W.nsIn K mainGlobals "check_part" = some (some (.ref (Ad_f_check_part K)))) ∧ (fnB K (Ad_f_check_part K) "check_part" = true) ∧ (PySem.W.keepIn K (.ref (Ad_f_check_part K)) = true) ∧ (PySem.W.nsIn K mainGlobals "merged" = some (some (.ref (Ad_f_merged K)))) ∧ (fnB K (Ad_f_merged K) "merged" = true) ∧ (PySem.W.keepIn K (.ref (Ad_f_merged K)) = true)
instance (K : PySem.W.Frag) : Decidable (Fx1 K) := by unfold Fx1; infer_instance
def Fx2 (K : PySem.W.Frag) : Prop := (PySem.W.nsIn K mainGlobals "replaced" = some (some (.ref (Ad_f_replaced K)))) ∧ (fnB K (Ad_f_replaced K) "replaced" = true) ∧ (PySem.W.keepIn K (.ref (Ad_f_replaced K)) = true) ∧ (PySem.W.nsIn K mainGlobals "is_day" = some (some (.ref (Ad_f_is_day K)))) ∧ (fnB K (Ad_f_is_day K) "is_day" = true) ∧ (PySem.W.keepIn K (.ref (Ad_f_is_day K)) = true) ∧ (PySem.W.nsIn K mainGlobals "check_day" = some (some (.ref (Ad_f_check_day K)))) ∧ (fnB K (Ad_f_check_day K) "check_day" = true) ∧ (PySem.W.keepIn K (.ref (Ad_f_check_day K)) = true) ∧ (PySem.W.nsIn K mainGlobals "check_word" = some (some (.ref (Ad_f_check_word K)))) ∧ (fnB K (Ad_f_check_word K) "check_word" = true) ∧ (PySem.W.keepIn K (.ref (Ad_f_check_word K)) = true)
instance (K : PySem.W.Frag) : Decidable (Fx2 K) := by unfold Fx2; infer_instance
def Fx3 (K : PySem.W.Frag) : Prop := (PySem.W.nsIn K mainGlobals "check_case" = some (some (.ref (Ad_f_check_case K)))) ∧ (fnB K (Ad_f_check_case K) "check_case" = true) ∧ (PySem.W.keepIn K (.ref (Ad_f_check_case K)) = true) ∧ (PySem.W.nsIn K mainGlobals "up_to_first_met" = some (some (.ref (Ad_f_up_to_first_met K)))) ∧ (fnB K (Ad_f_up_to_first_met K) "up_to_first_met" = true) ∧ (PySem.W.keepIn K (.ref (Ad_f_up_to_first_met K)) = true) ∧ (PySem.W.nsIn K mainGlobals "steps" = some (some (.ref (Ad_f_steps K)))) ∧ (fnB K (Ad_f_steps K) "steps" = true) ∧ (PySem.W.keepIn K (.ref (Ad_f_steps K)) = true) ∧ (PySem.W.nsIn K mainGlobals "looked_into" = some (some (.ref (Ad_f_looked_into K)))) ∧ (fnB K (Ad_f_looked_into K) "looked_into" = true) ∧ (PySem.W.keepIn K (.ref (Ad_f_looked_into K)) = true)
instance (K : PySem.W.Frag) : Decidable (Fx3 K) := by unfold Fx3; infer_instance
def Fx4 (K : PySem.W.Frag) : Prop := (PySem.W.nsIn K mainGlobals "is_span" = some (some (.ref (Ad_f_is_span K)))) ∧ (fnB K (Ad_f_is_span K) "is_span" = true) ∧ (PySem.W.keepIn K (.ref (Ad_f_is_span K)) = true) ∧ (PySem.W.nsIn K mainGlobals "in_span" = some (some (.ref (Ad_f_in_span K)))) ∧ (fnB K (Ad_f_in_span K) "in_span" = true) ∧ (PySem.W.keepIn K (.ref (Ad_f_in_span K)) = true) ∧ (PySem.W.nsIn K mainGlobals "check_spans" = some (some (.ref (Ad_f_check_spans K)))) ∧ (fnB K (Ad_f_check_spans K) "check_spans" = true) ∧ (PySem.W.keepIn K (.ref (Ad_f_check_spans K)) = true) ∧ (PySem.W.nsIn K mainGlobals "bits_of" = some (some (.ref (Ad_f_bits_of K)))) ∧ (fnB K (Ad_f_bits_of K) "bits_of" = true) ∧ (PySem.W.keepIn K (.ref (Ad_f_bits_of K)) = true)
instance (K : PySem.W.Frag) : Decidable (Fx4 K) := by unfold Fx4; infer_instance
def Fx5 (K : PySem.W.Frag) : Prop := (PySem.W.nsIn K mainGlobals "cube_of" = some (some (.ref (Ad_f_cube_of K)))) ∧ (fnB K (Ad_f_cube_of K) "cube_of" = true) ∧ (PySem.W.keepIn K (.ref (Ad_f_cube_of K)) = true) ∧ (PySem.W.nsIn K mainGlobals "clash" = some (some (.ref (Ad_f_clash K)))) ∧ (fnB K (Ad_f_clash K) "clash" = true) ∧ (PySem.W.keepIn K (.ref (Ad_f_clash K)) = true) ∧ (PySem.W.nsIn K mainGlobals "meets" = some (some (.ref (Ad_f_meets K)))) ∧ (fnB K (Ad_f_meets K) "meets" = true) ∧ (PySem.W.keepIn K (.ref (Ad_f_meets K)) = true) ∧ (PySem.W.nsIn K mainGlobals "joined" = some (some (.ref (Ad_f_joined K)))) ∧ (fnB K (Ad_f_joined K) "joined" = true) ∧ (PySem.W.keepIn K (.ref (Ad_f_joined K)) = true)
instance (K : PySem.W.Frag) : Decidable (Fx5 K) := by unfold Fx5; infer_instance
def Fx6 (K : PySem.W.Frag) : Prop := (PySem.W.nsIn K mainGlobals "rows_within" = some (some (.ref (Ad_f_rows_within K)))) ∧ (fnB K (Ad_f_rows_within K) "rows_within" = true) ∧ (PySem.W.keepIn K (.ref (Ad_f_rows_within K)) = true) ∧ (PySem.W.nsIn K mainGlobals "rows_of" = some (some (.ref (Ad_f_rows_of K)))) ∧ (fnB K (Ad_f_rows_of K) "rows_of" = true) ∧ (PySem.W.keepIn K (.ref (Ad_f_rows_of K)) = true) ∧ (PySem.W.nsIn K mainGlobals "names_in" = some (some (.ref (Ad_f_names_in K)))) ∧ (fnB K (Ad_f_names_in K) "names_in" = true) ∧ (PySem.W.keepIn K (.ref (Ad_f_names_in K)) = true) ∧ (PySem.W.nsIn K mainGlobals "forces_of_period" = some (some (.ref (Ad_f_forces_of_period K)))) ∧ (fnB K (Ad_f_forces_of_period K) "forces_of_period" = true) ∧ (PySem.W.keepIn K (.ref (Ad_f_forces_of_period K)) = true)
instance (K : PySem.W.Frag) : Decidable (Fx6 K) := by unfold Fx6; infer_instance
def Fx7 (K : PySem.W.Frag) : Prop := (PySem.W.nsIn K mainGlobals "rulings_of_period" = some (some (.ref (Ad_f_rulings_of_period K)))) ∧ (fnB K (Ad_f_rulings_of_period K) "rulings_of_period" = true) ∧ (PySem.W.keepIn K (.ref (Ad_f_rulings_of_period K)) = true) ∧ (PySem.W.nsIn K mainGlobals "check_period" = some (some (.ref (Ad_f_check_period K)))) ∧ (fnB K (Ad_f_check_period K) "check_period" = true) ∧ (PySem.W.keepIn K (.ref (Ad_f_check_period K)) = true) ∧ (PySem.W.nsIn K mainGlobals "next_day" = some (some (.ref (Ad_f_next_day K)))) ∧ (fnB K (Ad_f_next_day K) "next_day" = true) ∧ (PySem.W.keepIn K (.ref (Ad_f_next_day K)) = true) ∧ (PySem.W.nsIn K mainGlobals "count_rulings" = some (some (.ref (Ad_f_count_rulings K)))) ∧ (fnB K (Ad_f_count_rulings K) "count_rulings" = true) ∧ (PySem.W.keepIn K (.ref (Ad_f_count_rulings K)) = true)
instance (K : PySem.W.Frag) : Decidable (Fx7 K) := by unfold Fx7; infer_instance
def Fx8 (K : PySem.W.Frag) : Prop := (PySem.W.nsIn K mainGlobals "always" = some (some (.ref (Ad_f_always K)))) ∧ (fnB K (Ad_f_always K) "always" = true) ∧ (PySem.W.keepIn K (.ref (Ad_f_always K)) = true) ∧ (PySem.W.nsIn K mainGlobals "_law_mix" = some (some (.ref (Ad_f__law_mix K)))) ∧ (fnB K (Ad_f__law_mix K) "_law_mix" = true) ∧ (PySem.W.keepIn K (.ref (Ad_f__law_mix K)) = true) ∧ (PySem.W.nsIn K mainGlobals "_law_next" = some (some (.ref (Ad_f__law_next K)))) ∧ (fnB K (Ad_f__law_next K) "_law_next" = true) ∧ (PySem.W.keepIn K (.ref (Ad_f__law_next K)) = true) ∧ (PySem.W.nsIn K mainGlobals "_law_facts" = some (some (.ref (Ad_f__law_facts K)))) ∧ (fnB K (Ad_f__law_facts K) "_law_facts" = true) ∧ (PySem.W.keepIn K (.ref (Ad_f__law_facts K)) = true)
instance (K : PySem.W.Frag) : Decidable (Fx8 K) := by unfold Fx8; infer_instance
def Fx9 (K : PySem.W.Frag) : Prop := (PySem.W.nsIn K mainGlobals "_law_sides" = some (some (.ref (Ad_f__law_sides K)))) ∧ (fnB K (Ad_f__law_sides K) "_law_sides" = true) ∧ (PySem.W.keepIn K (.ref (Ad_f__law_sides K)) = true) ∧ (PySem.W.nsIn K mainGlobals "_law_rule" = some (some (.ref (Ad_f__law_rule K)))) ∧ (fnB K (Ad_f__law_rule K) "_law_rule" = true) ∧ (PySem.W.keepIn K (.ref (Ad_f__law_rule K)) = true) ∧ (PySem.W.nsIn K mainGlobals "_law_drawn" = some (some (.ref (Ad_f__law_drawn K)))) ∧ (fnB K (Ad_f__law_drawn K) "_law_drawn" = true) ∧ (PySem.W.keepIn K (.ref (Ad_f__law_drawn K)) = true) ∧ (PySem.W.nsIn K mainGlobals "_law_made" = some (some (.ref (Ad_f__law_made K)))) ∧ (fnB K (Ad_f__law_made K) "_law_made" = true) ∧ (PySem.W.keepIn K (.ref (Ad_f__law_made K)) = true)
instance (K : PySem.W.Frag) : Decidable (Fx9 K) := by unfold Fx9; infer_instance
def Fx10 (K : PySem.W.Frag) : Prop := (PySem.W.nsIn K mainGlobals "_law_book" = some (some (.ref (Ad_f__law_book K)))) ∧ (fnB K (Ad_f__law_book K) "_law_book" = true) ∧ (PySem.W.keepIn K (.ref (Ad_f__law_book K)) = true) ∧ (PySem.W.nsIn K mainGlobals "_law_all" = some (some (.ref (Ad_f__law_all K)))) ∧ (fnB K (Ad_f__law_all K) "_law_all" = true) ∧ (PySem.W.keepIn K (.ref (Ad_f__law_all K)) = true) ∧ (PySem.W.nsIn K mainGlobals "_law_spans" = some (some (.ref (Ad_f__law_spans K)))) ∧ (fnB K (Ad_f__law_spans K) "_law_spans" = true) ∧ (PySem.W.keepIn K (.ref (Ad_f__law_spans K)) = true) ∧ (PySem.W.nsIn K mainGlobals "_law_two" = some (some (.ref (Ad_f__law_two K)))) ∧ (fnB K (Ad_f__law_two K) "_law_two" = true) ∧ (PySem.W.keepIn K (.ref (Ad_f__law_two K)) = true)
instance (K : PySem.W.Frag) : Decidable (Fx10 K) := by unfold Fx10; infer_instance
def Fx11 (K : PySem.W.Frag) : Prop := (PySem.W.nsIn K mainGlobals "_law_case" = some (some (.ref (Ad_f__law_case K)))) ∧ (fnB K (Ad_f__law_case K) "_law_case" = true) ∧ (PySem.W.keepIn K (.ref (Ad_f__law_case K)) = true) ∧ (PySem.W.nsIn K mainGlobals "law" = some (some (.ref (Ad_f_law K)))) ∧ (fnB K (Ad_f_law K) "law" = true) ∧ (PySem.W.keepIn K (.ref (Ad_f_law K)) = true) ∧ (PySem.W.nsIn K mainGlobals "Condition" = some (some (.ref (Ad_CO K)))) ∧ (PySem.W.makesIn K (Ad_CO K) = true) ∧ (PySem.W.findIn K (.ref (Ad_CO K)) "__init__" = some (some (.ref (Ad_f_mi K)))) ∧ (PySem.W.isFn K (.ref (Ad_f_mi K)) = true) ∧ (PySem.W.keepIn K (.ref (Ad_CO K)) = true) ∧ (PySem.W.plainGet K (Ad_CO K) Str.empty = true)
instance (K : PySem.W.Frag) : Decidable (Fx11 K) := by unfold Fx11; infer_instance
def Fx12 (K : PySem.W.Frag) : Prop := (PySem.W.hasDictIn K (Ad_CO K) = true) ∧ (PySem.W.plainOver K (Ad_CO K) = true) ∧ (PySem.W.findIn K (.ref (Ad_CO K)) "__setattr__" = some (some (.builtin "object.__setattr__"))) ∧ (PySem.W.findIn K (.ref (Ad_CO K)) "_holding" = some none) ∧ (PySem.W.findIn K (.ref (Ad_CO K)) "_failing" = some none) ∧ (PySem.W.findIn K (.ref (Ad_CO K)) "_names" = some none) ∧ (PySem.W.findIn K (.ref (Ad_CO K)) "holding" = some (some (.ref (Ad_pp_mh K)))) ∧ (PySem.W.specialIn K (.ref (Ad_pp_mh K)) "__get__" = some (some (.builtin "property.__get__"))) ∧ (PySem.W.takesIn K (.ref (Ad_pp_mh K)) = some true) ∧ (recB K (Ad_pp_mh K) = true) ∧ (PySem.W.findIn K (.ref (Ad_CO K)) "failing" = some (some (.ref (Ad_pp_mf K)))) ∧ (PySem.W.specialIn K (.ref (Ad_pp_mf K)) "__get__" = some (some (.builtin "property.__get__")))
instance (K : PySem.W.Frag) : Decidable (Fx12 K) := by unfold Fx12; infer_instance
def Fx13 (K : PySem.W.Frag) : Prop := (PySem.W.takesIn K (.ref (Ad_pp_mf K)) = some true) ∧ (recB K (Ad_pp_mf K) = true) ∧ (PySem.W.findIn K (.ref (Ad_CO K)) "names" = some (some (.ref (Ad_pp_mn K)))) ∧ (PySem.W.specialIn K (.ref (Ad_pp_mn K)) "__get__" = some (some (.builtin "property.__get__"))) ∧ (PySem.W.takesIn K (.ref (Ad_pp_mn K)) = some true) ∧ (recB K (Ad_pp_mn K) = true) ∧ (PySem.W.nsIn K mainGlobals "Rule" = some (some (.ref (Ad_RO K)))) ∧ (PySem.W.makesIn K (Ad_RO K) = true) ∧ (PySem.W.findIn K (.ref (Ad_RO K)) "__init__" = some (some (.ref (Ad_f_ri K)))) ∧ (PySem.W.isFn K (.ref (Ad_f_ri K)) = true) ∧ (PySem.W.keepIn K (.ref (Ad_RO K)) = true) ∧ (PySem.W.plainGet K (Ad_RO K) Str.empty = true)
instance (K : PySem.W.Frag) : Decidable (Fx13 K) := by unfold Fx13; infer_instance
def Fx14 (K : PySem.W.Frag) : Prop := (PySem.W.hasDictIn K (Ad_RO K) = true) ∧ (PySem.W.plainOver K (Ad_RO K) = true) ∧ (PySem.W.findIn K (.ref (Ad_RO K)) "__setattr__" = some (some (.builtin "object.__setattr__"))) ∧ (PySem.W.findIn K (.ref (Ad_RO K)) "_name" = some none) ∧ (PySem.W.findIn K (.ref (Ad_RO K)) "_condition" = some none) ∧ (PySem.W.findIn K (.ref (Ad_RO K)) "_ruling" = some none) ∧ (PySem.W.findIn K (.ref (Ad_RO K)) "_exceptions" = some none) ∧ (PySem.W.findIn K (.ref (Ad_RO K)) "_depth" = some none) ∧ (PySem.W.findIn K (.ref (Ad_RO K)) "_inside" = some none) ∧ (PySem.W.findIn K (.ref (Ad_RO K)) "name" = some (some (.ref (Ad_pp_rn K)))) ∧ (PySem.W.specialIn K (.ref (Ad_pp_rn K)) "__get__" = some (some (.builtin "property.__get__"))) ∧ (PySem.W.takesIn K (.ref (Ad_pp_rn K)) = some true)
instance (K : PySem.W.Frag) : Decidable (Fx14 K) := by unfold Fx14; infer_instance
def Fx15 (K : PySem.W.Frag) : Prop := (recB K (Ad_pp_rn K) = true) ∧ (PySem.W.findIn K (.ref (Ad_RO K)) "condition" = some (some (.ref (Ad_pp_rc K)))) ∧ (PySem.W.specialIn K (.ref (Ad_pp_rc K)) "__get__" = some (some (.builtin "property.__get__"))) ∧ (PySem.W.takesIn K (.ref (Ad_pp_rc K)) = some true) ∧ (recB K (Ad_pp_rc K) = true) ∧ (PySem.W.findIn K (.ref (Ad_RO K)) "ruling" = some (some (.ref (Ad_pp_rr K)))) ∧ (PySem.W.specialIn K (.ref (Ad_pp_rr K)) "__get__" = some (some (.builtin "property.__get__"))) ∧ (PySem.W.takesIn K (.ref (Ad_pp_rr K)) = some true) ∧ (recB K (Ad_pp_rr K) = true) ∧ (PySem.W.findIn K (.ref (Ad_RO K)) "exceptions" = some (some (.ref (Ad_pp_re K)))) ∧ (PySem.W.specialIn K (.ref (Ad_pp_re K)) "__get__" = some (some (.builtin "property.__get__"))) ∧ (PySem.W.takesIn K (.ref (Ad_pp_re K)) = some true)
instance (K : PySem.W.Frag) : Decidable (Fx15 K) := by unfold Fx15; infer_instance
def Fx16 (K : PySem.W.Frag) : Prop := (recB K (Ad_pp_re K) = true) ∧ (PySem.W.findIn K (.ref (Ad_RO K)) "depth" = some (some (.ref (Ad_pp_rd K)))) ∧ (PySem.W.specialIn K (.ref (Ad_pp_rd K)) "__get__" = some (some (.builtin "property.__get__"))) ∧ (PySem.W.takesIn K (.ref (Ad_pp_rd K)) = some true) ∧ (recB K (Ad_pp_rd K) = true) ∧ (PySem.W.nsIn K mainGlobals "Book" = some (some (.ref (Ad_BO K)))) ∧ (PySem.W.makesIn K (Ad_BO K) = true) ∧ (PySem.W.findIn K (.ref (Ad_BO K)) "__init__" = some (some (.ref (Ad_f_bi K)))) ∧ (PySem.W.isFn K (.ref (Ad_f_bi K)) = true) ∧ (PySem.W.keepIn K (.ref (Ad_BO K)) = true) ∧ (PySem.W.plainGet K (Ad_BO K) Str.empty = true) ∧ (PySem.W.hasDictIn K (Ad_BO K) = true)
instance (K : PySem.W.Frag) : Decidable (Fx16 K) := by unfold Fx16; infer_instance
def Fx17 (K : PySem.W.Frag) : Prop := (PySem.W.plainOver K (Ad_BO K) = true) ∧ (PySem.W.findIn K (.ref (Ad_BO K)) "__setattr__" = some (some (.builtin "object.__setattr__"))) ∧ (PySem.W.findIn K (.ref (Ad_BO K)) "_facts" = some none) ∧ (PySem.W.findIn K (.ref (Ad_BO K)) "_rules" = some none) ∧ (PySem.W.findIn K (.ref (Ad_BO K)) "_ruling" = some none) ∧ (PySem.W.findIn K (.ref (Ad_BO K)) "_numbered" = some none) ∧ (PySem.W.findIn K (.ref (Ad_BO K)) "facts" = some (some (.ref (Ad_pp_bf K)))) ∧ (PySem.W.specialIn K (.ref (Ad_pp_bf K)) "__get__" = some (some (.builtin "property.__get__"))) ∧ (PySem.W.takesIn K (.ref (Ad_pp_bf K)) = some true) ∧ (recB K (Ad_pp_bf K) = true) ∧ (PySem.W.findIn K (.ref (Ad_BO K)) "rules" = some (some (.ref (Ad_pp_bs K)))) ∧ (PySem.W.specialIn K (.ref (Ad_pp_bs K)) "__get__" = some (some (.builtin "property.__get__")))
instance (K : PySem.W.Frag) : Decidable (Fx17 K) := by unfold Fx17; infer_instance
def Fx18 (K : PySem.W.Frag) : Prop := (PySem.W.takesIn K (.ref (Ad_pp_bs K)) = some true) ∧ (recB K (Ad_pp_bs K) = true) ∧ (PySem.W.findIn K (.ref (Ad_BO K)) "ruling" = some (some (.ref (Ad_pp_br K)))) ∧ (PySem.W.specialIn K (.ref (Ad_pp_br K)) "__get__" = some (some (.builtin "property.__get__"))) ∧ (PySem.W.takesIn K (.ref (Ad_pp_br K)) = some true) ∧ (recB K (Ad_pp_br K) = true) ∧ (PySem.W.findIn K (.ref (Ad_BO K)) "rulings" = some (some (.ref (Ad_pp_bq K)))) ∧ (PySem.W.specialIn K (.ref (Ad_pp_bq K)) "__get__" = some (some (.builtin "property.__get__"))) ∧ (PySem.W.takesIn K (.ref (Ad_pp_bq K)) = some true) ∧ (recB K (Ad_pp_bq K) = true) ∧ (PySem.W.nsIn K mainGlobals "Seasons" = some (some (.ref (Ad_SE K)))) ∧ (PySem.W.makesIn K (Ad_SE K) = true)
instance (K : PySem.W.Frag) : Decidable (Fx18 K) := by unfold Fx18; infer_instance
def Fx19 (K : PySem.W.Frag) : Prop := (PySem.W.findIn K (.ref (Ad_SE K)) "__init__" = some (some (.ref (Ad_f_yi K)))) ∧ (PySem.W.isFn K (.ref (Ad_f_yi K)) = true) ∧ (PySem.W.keepIn K (.ref (Ad_SE K)) = true) ∧ (PySem.W.plainGet K (Ad_SE K) Str.empty = true) ∧ (PySem.W.hasDictIn K (Ad_SE K) = true) ∧ (PySem.W.plainOver K (Ad_SE K) = true) ∧ (PySem.W.findIn K (.ref (Ad_SE K)) "__setattr__" = some (some (.builtin "object.__setattr__"))) ∧ (PySem.W.findIn K (.ref (Ad_SE K)) "_book" = some none) ∧ (PySem.W.findIn K (.ref (Ad_SE K)) "_spans" = some none) ∧ (PySem.W.findIn K (.ref (Ad_SE K)) "_period" = some none) ∧ (PySem.W.findIn K (.ref (Ad_SE K)) "book" = some (some (.ref (Ad_pp_yb K)))) ∧ (PySem.W.specialIn K (.ref (Ad_pp_yb K)) "__get__" = some (some (.builtin "property.__get__")))
instance (K : PySem.W.Frag) : Decidable (Fx19 K) := by unfold Fx19; infer_instance
def Fx20 (K : PySem.W.Frag) : Prop := (PySem.W.takesIn K (.ref (Ad_pp_yb K)) = some true) ∧ (recB K (Ad_pp_yb K) = true) ∧ (PySem.W.findIn K (.ref (Ad_SE K)) "spans" = some (some (.ref (Ad_pp_ys K)))) ∧ (PySem.W.specialIn K (.ref (Ad_pp_ys K)) "__get__" = some (some (.builtin "property.__get__"))) ∧ (PySem.W.takesIn K (.ref (Ad_pp_ys K)) = some true) ∧ (recB K (Ad_pp_ys K) = true) ∧ (PySem.W.findIn K (.ref (Ad_SE K)) "period" = some (some (.ref (Ad_pp_yp K)))) ∧ (PySem.W.specialIn K (.ref (Ad_pp_yp K)) "__get__" = some (some (.builtin "property.__get__"))) ∧ (PySem.W.takesIn K (.ref (Ad_pp_yp K)) = some true) ∧ (recB K (Ad_pp_yp K) = true) ∧ (PySem.W.nsIn K mainGlobals "Timetable" = some (some (.ref (Ad_TT K)))) ∧ (PySem.W.makesIn K (Ad_TT K) = true)
instance (K : PySem.W.Frag) : Decidable (Fx20 K) := by unfold Fx20; infer_instance
def Fx21 (K : PySem.W.Frag) : Prop := (PySem.W.findIn K (.ref (Ad_TT K)) "__init__" = some (some (.ref (Ad_f_ti K)))) ∧ (PySem.W.isFn K (.ref (Ad_f_ti K)) = true) ∧ (PySem.W.keepIn K (.ref (Ad_TT K)) = true) ∧ (PySem.W.plainGet K (Ad_TT K) Str.empty = true) ∧ (PySem.W.hasDictIn K (Ad_TT K) = true) ∧ (PySem.W.plainOver K (Ad_TT K) = true) ∧ (PySem.W.findIn K (.ref (Ad_TT K)) "__setattr__" = some (some (.builtin "object.__setattr__"))) ∧ (PySem.W.findIn K (.ref (Ad_TT K)) "whole" = some none) ∧ (PySem.W.findIn K (.ref (Ad_TT K)) "rows" = some none) ∧ (PySem.W.findIn K (.ref (Ad_TT K)) "everything" = some none) ∧ (PySem.W.findIn K (.ref (Ad_TT K)) "bits_met" = some none) ∧ (PySem.W.findIn K (.ref (Ad_BO K)) "__contains__" = some (some (.ref (Ad_f_gc K))))
instance (K : PySem.W.Frag) : Decidable (Fx21 K) := by unfold Fx21; infer_instance
def Fx22 (K : PySem.W.Frag) : Prop := (PySem.W.isFn K (.ref (Ad_f_gc K)) = true) ∧ (PySem.W.findIn K (.ref (Ad_BO K)) "__getitem__" = some (some (.ref (Ad_f_gi K)))) ∧ (PySem.W.isFn K (.ref (Ad_f_gi K)) = true) ∧ (PySem.W.findIn K (.ref (Ad_BO K)) "__sub__" = some (some (.ref (Ad_f_gs K)))) ∧ (PySem.W.isFn K (.ref (Ad_f_gs K)) = true) ∧ (PySem.W.findIn K (.ref (Ad_BO K)) "__call__" = some (some (.ref (Ad_f_bc K)))) ∧ (PySem.W.isFn K (.ref (Ad_f_bc K)) = true) ∧ (PySem.W.fnIn K (Ad_f_bc K) = true) ∧ (PySem.W.findIn K (.ref (Ad_CO K)) "__call__" = some (some (.ref (Ad_f_mc K)))) ∧ (PySem.W.isFn K (.ref (Ad_f_mc K)) = true) ∧ (PySem.W.fnIn K (Ad_f_mc K) = true) ∧ (PySem.W.findIn K (.ref (Ad_SE K)) "__call__" = some (some (.ref (Ad_f_yc K))))
instance (K : PySem.W.Frag) : Decidable (Fx22 K) := by unfold Fx22; infer_instance
def Fx23 (K : PySem.W.Frag) : Prop := (PySem.W.isFn K (.ref (Ad_f_yc K)) = true) ∧ (PySem.W.fnIn K (Ad_f_yc K) = true) ∧ (PySem.W.findIn K (.ref (Ad_TT K)) "bits_within" = some (some (.ref (Ad_f_tw K)))) ∧ (PySem.W.isFn K (.ref (Ad_f_tw K)) = true) ∧ (PySem.W.findIn K (.ref (Ad_TT K)) "met" = some (some (.ref (Ad_f_tm K)))) ∧ (PySem.W.isFn K (.ref (Ad_f_tm K)) = true) ∧ (PySem.W.findIn K (.ref (Ad_TT K)) "ruling_on" = some (some (.ref (Ad_f_to K)))) ∧ (PySem.W.isFn K (.ref (Ad_f_to K)) = true) ∧ (PySem.W.findIn K (.ref (Ad_TT K)) "ruling_by" = some (some (.ref (Ad_f_tr K)))) ∧ (PySem.W.isFn K (.ref (Ad_f_tr K)) = true) ∧ (PySem.W.findIn K (.ref (Ad_TT K)) "lasting" = some (some (.ref (Ad_f_tl K)))) ∧ (PySem.W.isFn K (.ref (Ad_f_tl K)) = true)
instance (K : PySem.W.Frag) : Decidable (Fx23 K) := by unfold Fx23; infer_instance
def Fx24 (K : PySem.W.Frag) : Prop := (PySem.W.subIn K (.type "str") (.ref (Ad_BO K)) = some false) ∧ (PySem.W.selfFirst K (Ad_BO K) = true) ∧ (PySem.W.findIn K (.ref (Ad_BO K)) "__rsub__" = some none) ∧ ((PySem.W.findIn K (.type "str") "__sub__").isSome = true) ∧ ((PySem.W.findIn K (.type "str") "__rsub__").isSome = true) ∧ (PySem.W.fnIn K (Ad_f_gc K) = true) ∧ (PySem.W.fnIn K (Ad_f_gi K) = true) ∧ (PySem.W.fnIn K (Ad_f_gs K) = true) ∧ (PySem.W.nsIn K mainGlobals "lcm" = some (some (.builtin "math.lcm"))) ∧ (fnB K (Ad_f_mi K) "Condition.__init__" = true) ∧ (PySem.W.keepIn K (.ref (Ad_f_mi K)) = true) ∧ (fnB K (Ad_f_mh K) "Condition.holding" = true)
instance (K : PySem.W.Frag) : Decidable (Fx24 K) := by unfold Fx24; infer_instance
def Fx25 (K : PySem.W.Frag) : Prop := (PySem.W.keepIn K (.ref (Ad_f_mh K)) = true) ∧ (fnB K (Ad_f_mf K) "Condition.failing" = true) ∧ (PySem.W.keepIn K (.ref (Ad_f_mf K)) = true) ∧ (fnB K (Ad_f_mn K) "Condition.names" = true) ∧ (PySem.W.keepIn K (.ref (Ad_f_mn K)) = true) ∧ (fnB K (Ad_f_ri K) "Rule.__init__" = true) ∧ (PySem.W.keepIn K (.ref (Ad_f_ri K)) = true) ∧ (fnB K (Ad_f_rn K) "Rule.name" = true) ∧ (PySem.W.keepIn K (.ref (Ad_f_rn K)) = true) ∧ (fnB K (Ad_f_rc K) "Rule.condition" = true) ∧ (PySem.W.keepIn K (.ref (Ad_f_rc K)) = true) ∧ (fnB K (Ad_f_rr K) "Rule.ruling" = true)
instance (K : PySem.W.Frag) : Decidable (Fx25 K) := by unfold Fx25; infer_instance
def Fx26 (K : PySem.W.Frag) : Prop := (PySem.W.keepIn K (.ref (Ad_f_rr K)) = true) ∧ (fnB K (Ad_f_re K) "Rule.exceptions" = true) ∧ (PySem.W.keepIn K (.ref (Ad_f_re K)) = true) ∧ (fnB K (Ad_f_rd K) "Rule.depth" = true) ∧ (PySem.W.keepIn K (.ref (Ad_f_rd K)) = true) ∧ (fnB K (Ad_f_bi K) "Book.__init__" = true) ∧ (PySem.W.keepIn K (.ref (Ad_f_bi K)) = true) ∧ (fnB K (Ad_f_bf K) "Book.facts" = true) ∧ (PySem.W.keepIn K (.ref (Ad_f_bf K)) = true) ∧ (fnB K (Ad_f_bs K) "Book.rules" = true) ∧ (PySem.W.keepIn K (.ref (Ad_f_bs K)) = true) ∧ (fnB K (Ad_f_br K) "Book.ruling" = true)
instance (K : PySem.W.Frag) : Decidable (Fx26 K) := by unfold Fx26; infer_instance
def Fx27 (K : PySem.W.Frag) : Prop := (PySem.W.keepIn K (.ref (Ad_f_br K)) = true) ∧ (fnB K (Ad_f_bq K) "Book.rulings" = true) ∧ (PySem.W.keepIn K (.ref (Ad_f_bq K)) = true) ∧ (fnB K (Ad_f_yi K) "Seasons.__init__" = true) ∧ (PySem.W.keepIn K (.ref (Ad_f_yi K)) = true) ∧ (fnB K (Ad_f_yb K) "Seasons.book" = true) ∧ (PySem.W.keepIn K (.ref (Ad_f_yb K)) = true) ∧ (fnB K (Ad_f_ys K) "Seasons.spans" = true) ∧ (PySem.W.keepIn K (.ref (Ad_f_ys K)) = true) ∧ (fnB K (Ad_f_yp K) "Seasons.period" = true) ∧ (PySem.W.keepIn K (.ref (Ad_f_yp K)) = true) ∧ (fnB K (Ad_f_ti K) "Timetable.__init__" = true)
instance (K : PySem.W.Frag) : Decidable (Fx27 K) := by unfold Fx27; infer_instance
def Fx28 (K : PySem.W.Frag) : Prop := (PySem.W.keepIn K (.ref (Ad_f_ti K)) = true) ∧ (fnB K (Ad_f_gc K) "Book.__contains__" = true) ∧ (PySem.W.keepIn K (.ref (Ad_f_gc K)) = true) ∧ (fnB K (Ad_f_gi K) "Book.__getitem__" = true) ∧ (PySem.W.keepIn K (.ref (Ad_f_gi K)) = true) ∧ (fnB K (Ad_f_gs K) "Book.__sub__" = true) ∧ (PySem.W.keepIn K (.ref (Ad_f_gs K)) = true) ∧ (fnB K (Ad_f_bc K) "Book.__call__" = true) ∧ (PySem.W.keepIn K (.ref (Ad_f_bc K)) = true) ∧ (fnB K (Ad_f_mc K) "Condition.__call__" = true) ∧ (PySem.W.keepIn K (.ref (Ad_f_mc K)) = true) ∧ (fnB K (Ad_f_yc K) "Seasons.__call__" = true)
instance (K : PySem.W.Frag) : Decidable (Fx28 K) := by unfold Fx28; infer_instance
def Fx29 (K : PySem.W.Frag) : Prop := (PySem.W.keepIn K (.ref (Ad_f_yc K)) = true) ∧ (fnB K (Ad_f_tw K) "Timetable.bits_within" = true) ∧ (PySem.W.keepIn K (.ref (Ad_f_tw K)) = true) ∧ (fnB K (Ad_f_tm K) "Timetable.met" = true) ∧ (PySem.W.keepIn K (.ref (Ad_f_tm K)) = true) ∧ (fnB K (Ad_f_to K) "Timetable.ruling_on" = true) ∧ (PySem.W.keepIn K (.ref (Ad_f_to K)) = true) ∧ (fnB K (Ad_f_tr K) "Timetable.ruling_by" = true) ∧ (PySem.W.keepIn K (.ref (Ad_f_tr K)) = true) ∧ (fnB K (Ad_f_tl K) "Timetable.lasting" = true) ∧ (PySem.W.keepIn K (.ref (Ad_f_tl K)) = true) ∧ (PySem.W.nsIn K mainGlobals "isinstance" = some none)
instance (K : PySem.W.Frag) : Decidable (Fx29 K) := by unfold Fx29; infer_instance
def Fx30 (K : PySem.W.Frag) : Prop := (PySem.W.nsIn K mainGlobals "len" = some none) ∧ (PySem.W.nsIn K mainGlobals "all" = some none) ∧ (PySem.W.nsIn K mainGlobals "any" = some none) ∧ (PySem.W.nsIn K mainGlobals "sum" = some none) ∧ (PySem.W.nsIn K mainGlobals "max" = some none) ∧ (PySem.W.nsIn K mainGlobals "min" = some none) ∧ (PySem.W.nsIn K mainGlobals "int" = some none) ∧ (PySem.W.nsIn K mainGlobals "str" = some none) ∧ (PySem.W.nsIn K mainGlobals "bool" = some none) ∧ (PySem.W.nsIn K mainGlobals "list" = some none) ∧ (PySem.W.nsIn K mainGlobals "tuple" = some none) ∧ (PySem.W.nsIn K mainGlobals "dict" = some none)
instance (K : PySem.W.Frag) : Decidable (Fx30 K) := by unfold Fx30; infer_instance
def Fx31 (K : PySem.W.Frag) : Prop := (PySem.W.nsIn K mainGlobals "range" = some none) ∧ (PySem.W.nsIn K mainGlobals "enumerate" = some none) ∧ (PySem.W.nsIn K mainGlobals "sorted" = some none) ∧ (PySem.W.nsIn K mainGlobals "reversed" = some none) ∧ (PySem.W.nsIn K mainGlobals "zip" = some none) ∧ (PySem.W.nsIn K mainGlobals "set" = some none) ∧ (PySem.W.nsIn K mainGlobals "ValueError" = some none) ∧ (strB K "LETTERS" letters = true) ∧ (intB K "LONGEST_NAME" 8 = true) ∧ (intB K "MOST_FACTS_facts" 60 = true) ∧ (intB K "MOST_NAMES" 8 = true) ∧ (intB K "MOST_AROUND" 5 = true)
instance (K : PySem.W.Frag) : Decidable (Fx31 K) := by unfold Fx31; infer_instance
def Fx32 (K : PySem.W.Frag) : Prop := (intB K "MOST_RULES" 60 = true) ∧ (intB K "MOST_OUTERMOST" 40 = true) ∧ (intB K "LAST_DAY" lastDay = true) ∧ (intB K "LONGEST_SPAN" 100 = true) ∧ (intB K "LONGEST_PERIOD" 5000 = true) ∧ (intB K "MOST_FACTS_seasons" 10 = true) ∧ (PySem.W.nsIn K mainGlobals "CourtError" = some (some (.ref (Ad_CE K)))) ∧ (PySem.W.nsIn K mainGlobals "InvalidFacts" = some (some (.ref (Ad_E0 K)))) ∧ (PySem.W.nsIn K mainGlobals "InvalidCase" = some (some (.ref (Ad_E1 K)))) ∧ (PySem.W.nsIn K mainGlobals "InvalidCondition" = some (some (.ref (Ad_E2 K)))) ∧ (PySem.W.nsIn K mainGlobals "InvalidRule" = some (some (.ref (Ad_E3 K)))) ∧ (PySem.W.nsIn K mainGlobals "InvalidBook" = some (some (.ref (Ad_E4 K))))
instance (K : PySem.W.Frag) : Decidable (Fx32 K) := by unfold Fx32; infer_instance
def Fx33 (K : PySem.W.Frag) : Prop := (PySem.W.nsIn K mainGlobals "UnknownRule" = some (some (.ref (Ad_E5 K)))) ∧ (PySem.W.subIn K (.ref (Ad_CE K)) (.type "BaseException") = some true) ∧ (PySem.W.isClsIn K (Ad_CE K) = true) ∧ (PySem.W.typeIn K (.ref (Ad_CE K)) = some (.type "type")) ∧ (PySem.W.isClsIn K (Ad_E0 K) = true) ∧ (PySem.W.typeIn K (.ref (Ad_E0 K)) = some (.type "type")) ∧ (PySem.W.isClsIn K (Ad_E1 K) = true) ∧ (PySem.W.typeIn K (.ref (Ad_E1 K)) = some (.type "type")) ∧ (PySem.W.isClsIn K (Ad_E2 K) = true) ∧ (PySem.W.typeIn K (.ref (Ad_E2 K)) = some (.type "type")) ∧ (PySem.W.isClsIn K (Ad_E3 K) = true) ∧ (PySem.W.typeIn K (.ref (Ad_E3 K)) = some (.type "type"))
instance (K : PySem.W.Frag) : Decidable (Fx33 K) := by unfold Fx33; infer_instance
def Fx34 (K : PySem.W.Frag) : Prop := (PySem.W.isClsIn K (Ad_E4 K) = true) ∧ (PySem.W.typeIn K (.ref (Ad_E4 K)) = some (.type "type")) ∧ (PySem.W.isClsIn K (Ad_E5 K) = true) ∧ (PySem.W.typeIn K (.ref (Ad_E5 K)) = some (.type "type")) ∧ (PySem.W.specialIn K (.builtin "object.__class__") "__get__" = some (some (.builtin "getset_descriptor.__get__"))) ∧ (PySem.W.takesIn K (.builtin "object.__class__") = some true) ∧ (excB K (Ad_CE K) "ValueError.__new__" = true) ∧ (PySem.W.findIn K (.ref (Ad_CE K)) "__init__" = some (some (.builtin "ValueError.__init__"))) ∧ (PySem.W.nsIn K mainGlobals "super" = some none) ∧ (PySem.W.nsIn K cStatics "thirdparty.any" = some none) ∧ (excB K (Ad_E0 K) "ValueError.__new__" = true) ∧ (HandSPX.refsVE (mroT K (Ad_E0 K)) = true)
instance (K : PySem.W.Frag) : Decidable (Fx34 K) := by unfold Fx34; infer_instance
def Fx35 (K : PySem.W.Frag) : Prop := (PySem.W.findIn K (.ref (Ad_E0 K)) "__setattr__" = some (some (.builtin "object.__setattr__"))) ∧ (PySem.W.typeIn K (.ref (Ad_E0 K)) = some (.type "type")) ∧ (PySem.W.keepIn K (.ref (Ad_E0 K)) = true) ∧ (PySem.W.findIn K (.ref (Ad_E0 K)) "__init__" = some (some (.ref (Ad_fIi0 K)))) ∧ (PySem.W.typeIn K (.ref (Ad_fIi0 K)) = some (.type "function")) ∧ (fnBC K (Ad_fIi0 K) "InvalidFacts.__init__" = true) ∧ (cellB K (Ad_celi0 K) (Ad_E0 K) = true) ∧ (fileB K (Ad_codi0 K) theFile = true) ∧ (PySem.W.mroIn K (Ad_E0 K) (.ref (Ad_E0 K)) = some true) ∧ ((mroT K (Ad_E0 K)) = .ref (Ad_CE K) :: (mroT K (Ad_CE K))) ∧ (PySem.W.subIn K (.ref (Ad_E0 K)) (.type "ValueError") = some true) ∧ (PySem.W.subIn K (.ref (Ad_E0 K)) (.type "BaseException") = some true)
instance (K : PySem.W.Frag) : Decidable (Fx35 K) := by unfold Fx35; infer_instance
def Fx36 (K : PySem.W.Frag) : Prop := (PySem.W.findIn K (.ref (Ad_E0 K)) "index" = some none) ∧ (excB K (Ad_E1 K) "ValueError.__new__" = true) ∧ (HandSPX.refsVE (mroT K (Ad_E1 K)) = true) ∧ (PySem.W.findIn K (.ref (Ad_E1 K)) "__setattr__" = some (some (.builtin "object.__setattr__"))) ∧ (PySem.W.typeIn K (.ref (Ad_E1 K)) = some (.type "type")) ∧ (PySem.W.keepIn K (.ref (Ad_E1 K)) = true) ∧ (PySem.W.findIn K (.ref (Ad_E1 K)) "__init__" = some (some (.ref (Ad_fIi1 K)))) ∧ (PySem.W.typeIn K (.ref (Ad_fIi1 K)) = some (.type "function")) ∧ (fnBC K (Ad_fIi1 K) "InvalidCase.__init__" = true) ∧ (cellB K (Ad_celi1 K) (Ad_E1 K) = true) ∧ (fileB K (Ad_codi1 K) theFile = true) ∧ (PySem.W.mroIn K (Ad_E1 K) (.ref (Ad_E1 K)) = some true)
instance (K : PySem.W.Frag) : Decidable (Fx36 K) := by unfold Fx36; infer_instance
def Fx37 (K : PySem.W.Frag) : Prop := ((mroT K (Ad_E1 K)) = .ref (Ad_CE K) :: (mroT K (Ad_CE K))) ∧ (PySem.W.subIn K (.ref (Ad_E1 K)) (.type "ValueError") = some true) ∧ (PySem.W.subIn K (.ref (Ad_E1 K)) (.type "BaseException") = some true) ∧ (PySem.W.findIn K (.ref (Ad_E1 K)) "index" = some none) ∧ (excB K (Ad_E2 K) "ValueError.__new__" = true) ∧ (HandSPX.refsVE (mroT K (Ad_E2 K)) = true) ∧ (PySem.W.findIn K (.ref (Ad_E2 K)) "__setattr__" = some (some (.builtin "object.__setattr__"))) ∧ (PySem.W.typeIn K (.ref (Ad_E2 K)) = some (.type "type")) ∧ (PySem.W.keepIn K (.ref (Ad_E2 K)) = true) ∧ (PySem.W.findIn K (.ref (Ad_E2 K)) "__init__" = some (some (.ref (Ad_fIi2 K)))) ∧ (PySem.W.typeIn K (.ref (Ad_fIi2 K)) = some (.type "function")) ∧ (fnBC K (Ad_fIi2 K) "InvalidCondition.__init__" = true)
instance (K : PySem.W.Frag) : Decidable (Fx37 K) := by unfold Fx37; infer_instance
def Fx38 (K : PySem.W.Frag) : Prop := (cellB K (Ad_celi2 K) (Ad_E2 K) = true) ∧ (fileB K (Ad_codi2 K) theFile = true) ∧ (PySem.W.mroIn K (Ad_E2 K) (.ref (Ad_E2 K)) = some true) ∧ ((mroT K (Ad_E2 K)) = .ref (Ad_CE K) :: (mroT K (Ad_CE K))) ∧ (PySem.W.subIn K (.ref (Ad_E2 K)) (.type "ValueError") = some true) ∧ (PySem.W.subIn K (.ref (Ad_E2 K)) (.type "BaseException") = some true) ∧ (PySem.W.findIn K (.ref (Ad_E2 K)) "part" = some none) ∧ (PySem.W.findIn K (.ref (Ad_E2 K)) "index" = some none) ∧ (excB K (Ad_E3 K) "ValueError.__new__" = true) ∧ (HandSPX.refsVE (mroT K (Ad_E3 K)) = true) ∧ (PySem.W.findIn K (.ref (Ad_E3 K)) "__setattr__" = some (some (.builtin "object.__setattr__"))) ∧ (PySem.W.typeIn K (.ref (Ad_E3 K)) = some (.type "type"))
instance (K : PySem.W.Frag) : Decidable (Fx38 K) := by unfold Fx38; infer_instance
def Fx39 (K : PySem.W.Frag) : Prop := (PySem.W.keepIn K (.ref (Ad_E3 K)) = true) ∧ (PySem.W.findIn K (.ref (Ad_E3 K)) "__init__" = some (some (.ref (Ad_fIi3 K)))) ∧ (PySem.W.typeIn K (.ref (Ad_fIi3 K)) = some (.type "function")) ∧ (fnBC K (Ad_fIi3 K) "InvalidRule.__init__" = true) ∧ (cellB K (Ad_celi3 K) (Ad_E3 K) = true) ∧ (fileB K (Ad_codi3 K) theFile = true) ∧ (PySem.W.mroIn K (Ad_E3 K) (.ref (Ad_E3 K)) = some true) ∧ ((mroT K (Ad_E3 K)) = .ref (Ad_CE K) :: (mroT K (Ad_CE K))) ∧ (PySem.W.subIn K (.ref (Ad_E3 K)) (.type "ValueError") = some true) ∧ (PySem.W.subIn K (.ref (Ad_E3 K)) (.type "BaseException") = some true) ∧ (PySem.W.findIn K (.ref (Ad_E3 K)) "part" = some none) ∧ (excB K (Ad_E4 K) "ValueError.__new__" = true)
instance (K : PySem.W.Frag) : Decidable (Fx39 K) := by unfold Fx39; infer_instance
def Fx40 (K : PySem.W.Frag) : Prop := (HandSPX.refsVE (mroT K (Ad_E4 K)) = true) ∧ (PySem.W.findIn K (.ref (Ad_E4 K)) "__setattr__" = some (some (.builtin "object.__setattr__"))) ∧ (PySem.W.typeIn K (.ref (Ad_E4 K)) = some (.type "type")) ∧ (PySem.W.keepIn K (.ref (Ad_E4 K)) = true) ∧ (PySem.W.findIn K (.ref (Ad_E4 K)) "__init__" = some (some (.ref (Ad_fIi4 K)))) ∧ (PySem.W.typeIn K (.ref (Ad_fIi4 K)) = some (.type "function")) ∧ (fnBC K (Ad_fIi4 K) "InvalidBook.__init__" = true) ∧ (cellB K (Ad_celi4 K) (Ad_E4 K) = true) ∧ (fileB K (Ad_codi4 K) theFile = true) ∧ (PySem.W.mroIn K (Ad_E4 K) (.ref (Ad_E4 K)) = some true) ∧ ((mroT K (Ad_E4 K)) = .ref (Ad_CE K) :: (mroT K (Ad_CE K))) ∧ (PySem.W.subIn K (.ref (Ad_E4 K)) (.type "ValueError") = some true)
instance (K : PySem.W.Frag) : Decidable (Fx40 K) := by unfold Fx40; infer_instance
def Fx41 (K : PySem.W.Frag) : Prop := (PySem.W.subIn K (.ref (Ad_E4 K)) (.type "BaseException") = some true) ∧ (PySem.W.findIn K (.ref (Ad_E4 K)) "word" = some none) ∧ (PySem.W.findIn K (.ref (Ad_E4 K)) "index" = some none) ∧ (PySem.W.excIn K (Ad_E5 K) [.type "ValueError", .type "Exception", .type "BaseException", .type "object"] "ValueError.__new__" = true) ∧ (PySem.W.keepIn K (.ref (Ad_E5 K)) = true) ∧ (PySem.W.subIn K (.ref (Ad_E5 K)) (.type "BaseException") = some true) ∧ (PySem.W.typeIn K (.ref (Ad_E5 K)) = some (.type "type"))
instance (K : PySem.W.Frag) : Decidable (Fx41 K) := by unfold Fx41; infer_instance
def fn0 : FnDY := ⟨Ad_f_is_name, "is_name", "is_name", defArgs s_is_name, defBody s_is_name, defScope s_is_name⟩
def fn1 : FnDY := ⟨Ad_f_is_integer, "is_integer", "is_integer", defArgs s_is_integer, defBody s_is_integer, defScope s_is_integer⟩
def fn2 : FnDY := ⟨Ad_f_rises, "rises", "rises", defArgs s_rises, defBody s_rises, defScope s_rises⟩
def fn3 : FnDY := ⟨Ad_f_check_facts, "check_facts", "check_facts", defArgs s_check_facts, defBody s_check_facts, defScope s_check_facts⟩
def fn4 : FnDY := ⟨Ad_f_nested, "nested", "nested", defArgs s_nested, defBody s_nested, defScope s_nested⟩
def fn5 : FnDY := ⟨Ad_f_check_rules, "check_rules", "check_rules", defArgs s_check_rules, defBody s_check_rules, defScope s_check_rules⟩
def fn6 : FnDY := ⟨Ad_f_check_part, "check_part", "check_part", defArgs s_check_part, defBody s_check_part, defScope s_check_part⟩
def fn7 : FnDY := ⟨Ad_f_merged, "merged", "merged", defArgs s_merged, defBody s_merged, defScope s_merged⟩
def fn8 : FnDY := ⟨Ad_f_replaced, "replaced", "replaced", defArgs s_replaced, defBody s_replaced, defScope s_replaced⟩
def fn9 : FnDY := ⟨Ad_f_is_day, "is_day", "is_day", defArgs s_is_day, defBody s_is_day, defScope s_is_day⟩
def fn10 : FnDY := ⟨Ad_f_check_day, "check_day", "check_day", defArgs s_check_day, defBody s_check_day, defScope s_check_day⟩
def fn11 : FnDY := ⟨Ad_f_check_word, "check_word", "check_word", defArgs s_check_word, defBody s_check_word, defScope s_check_word⟩
def fn12 : FnDY := ⟨Ad_f_check_case, "check_case", "check_case", defArgs s_check_case, defBody s_check_case, defScope s_check_case⟩
def fn13 : FnDY := ⟨Ad_f_up_to_first_met, "up_to_first_met", "up_to_first_met", defArgs s_up_to_first_met, defBody s_up_to_first_met, defScope s_up_to_first_met⟩
def fn14 : FnDY := ⟨Ad_f_steps, "steps", "steps", defArgs s_steps, defBody s_steps, defScope s_steps⟩
def fn15 : FnDY := ⟨Ad_f_looked_into, "looked_into", "looked_into", defArgs s_looked_into, defBody s_looked_into, defScope s_looked_into⟩
def fn16 : FnDY := ⟨Ad_f_is_span, "is_span", "is_span", defArgs s_is_span, defBody s_is_span, defScope s_is_span⟩
def fn17 : FnDY := ⟨Ad_f_in_span, "in_span", "in_span", defArgs s_in_span, defBody s_in_span, defScope s_in_span⟩
def fn18 : FnDY := ⟨Ad_f_check_spans, "check_spans", "check_spans", defArgs s_check_spans, defBody s_check_spans, defScope s_check_spans⟩
def fn19 : FnDY := ⟨Ad_f_bits_of, "bits_of", "bits_of", defArgs s_bits_of, defBody s_bits_of, defScope s_bits_of⟩
def fn20 : FnDY := ⟨Ad_f_cube_of, "cube_of", "cube_of", defArgs s_cube_of, defBody s_cube_of, defScope s_cube_of⟩
def fn21 : FnDY := ⟨Ad_f_clash, "clash", "clash", defArgs s_clash, defBody s_clash, defScope s_clash⟩
def fn22 : FnDY := ⟨Ad_f_meets, "meets", "meets", defArgs s_meets, defBody s_meets, defScope s_meets⟩
def fn23 : FnDY := ⟨Ad_f_joined, "joined", "joined", defArgs s_joined, defBody s_joined, defScope s_joined⟩
def fn24 : FnDY := ⟨Ad_f_rows_within, "rows_within", "rows_within", defArgs s_rows_within, defBody s_rows_within, defScope s_rows_within⟩
def fn25 : FnDY := ⟨Ad_f_rows_of, "rows_of", "rows_of", defArgs s_rows_of, defBody s_rows_of, defScope s_rows_of⟩
def fn26 : FnDY := ⟨Ad_f_names_in, "names_in", "names_in", defArgs s_names_in, defBody s_names_in, defScope s_names_in⟩
def fn27 : FnDY := ⟨Ad_f_forces_of_period, "forces_of_period", "forces_of_period", defArgs s_forces_of_period, defBody s_forces_of_period, defScope s_forces_of_period⟩
def fn28 : FnDY := ⟨Ad_f_rulings_of_period, "rulings_of_period", "rulings_of_period", defArgs s_rulings_of_period, defBody s_rulings_of_period, defScope s_rulings_of_period⟩
def fn29 : FnDY := ⟨Ad_f_check_period, "check_period", "check_period", defArgs s_check_period, defBody s_check_period, defScope s_check_period⟩
def fn30 : FnDY := ⟨Ad_f_next_day, "next_day", "next_day", defArgs s_next_day, defBody s_next_day, defScope s_next_day⟩
def fn31 : FnDY := ⟨Ad_f_count_rulings, "count_rulings", "count_rulings", defArgs s_count_rulings, defBody s_count_rulings, defScope s_count_rulings⟩
def fn32 : FnDY := ⟨Ad_f_always, "always", "always", defArgs s_always, defBody s_always, defScope s_always⟩
def fn33 : FnDY := ⟨Ad_f__law_mix, "_law_mix", "_law_mix", defArgs s__law_mix, defBody s__law_mix, defScope s__law_mix⟩
def fn34 : FnDY := ⟨Ad_f__law_next, "_law_next", "_law_next", defArgs s__law_next, defBody s__law_next, defScope s__law_next⟩
def fn35 : FnDY := ⟨Ad_f__law_facts, "_law_facts", "_law_facts", defArgs s__law_facts, defBody s__law_facts, defScope s__law_facts⟩
def fn36 : FnDY := ⟨Ad_f__law_sides, "_law_sides", "_law_sides", defArgs s__law_sides, defBody s__law_sides, defScope s__law_sides⟩
def fn37 : FnDY := ⟨Ad_f__law_rule, "_law_rule", "_law_rule", defArgs s__law_rule, defBody s__law_rule, defScope s__law_rule⟩
def fn38 : FnDY := ⟨Ad_f__law_drawn, "_law_drawn", "_law_drawn", defArgs s__law_drawn, defBody s__law_drawn, defScope s__law_drawn⟩
def fn39 : FnDY := ⟨Ad_f__law_made, "_law_made", "_law_made", defArgs s__law_made, defBody s__law_made, defScope s__law_made⟩
def fn40 : FnDY := ⟨Ad_f__law_book, "_law_book", "_law_book", defArgs s__law_book, defBody s__law_book, defScope s__law_book⟩
def fn41 : FnDY := ⟨Ad_f__law_all, "_law_all", "_law_all", defArgs s__law_all, defBody s__law_all, defScope s__law_all⟩
def fn42 : FnDY := ⟨Ad_f__law_spans, "_law_spans", "_law_spans", defArgs s__law_spans, defBody s__law_spans, defScope s__law_spans⟩
def fn43 : FnDY := ⟨Ad_f__law_two, "_law_two", "_law_two", defArgs s__law_two, defBody s__law_two, defScope s__law_two⟩
def fn44 : FnDY := ⟨Ad_f__law_case, "_law_case", "_law_case", defArgs s__law_case, defBody s__law_case, defScope s__law_case⟩
def fn45 : FnDY := ⟨Ad_f_law, "law", "law", defArgs s_law, defBody s_law, defScope s_law⟩
def fn46 : FnDY := ⟨Ad_f_mi, "__init__", "Condition.__init__", defArgs s_Condition___init__, defBody s_Condition___init__, defScope s_Condition___init__⟩
def fn47 : FnDY := ⟨Ad_f_mh, "holding", "Condition.holding", defArgs s_Condition_holding, defBody s_Condition_holding, defScope s_Condition_holding⟩
def fn48 : FnDY := ⟨Ad_f_mf, "failing", "Condition.failing", defArgs s_Condition_failing, defBody s_Condition_failing, defScope s_Condition_failing⟩
def fn49 : FnDY := ⟨Ad_f_mn, "names", "Condition.names", defArgs s_Condition_names, defBody s_Condition_names, defScope s_Condition_names⟩
def fn50 : FnDY := ⟨Ad_f_ri, "__init__", "Rule.__init__", defArgs s_Rule___init__, defBody s_Rule___init__, defScope s_Rule___init__⟩
def fn51 : FnDY := ⟨Ad_f_rn, "name", "Rule.name", defArgs s_Rule_name, defBody s_Rule_name, defScope s_Rule_name⟩
def fn52 : FnDY := ⟨Ad_f_rc, "condition", "Rule.condition", defArgs s_Rule_condition, defBody s_Rule_condition, defScope s_Rule_condition⟩
def fn53 : FnDY := ⟨Ad_f_rr, "ruling", "Rule.ruling", defArgs s_Rule_ruling, defBody s_Rule_ruling, defScope s_Rule_ruling⟩
def fn54 : FnDY := ⟨Ad_f_re, "exceptions", "Rule.exceptions", defArgs s_Rule_exceptions, defBody s_Rule_exceptions, defScope s_Rule_exceptions⟩
def fn55 : FnDY := ⟨Ad_f_rd, "depth", "Rule.depth", defArgs s_Rule_depth, defBody s_Rule_depth, defScope s_Rule_depth⟩
def fn56 : FnDY := ⟨Ad_f_bi, "__init__", "Book.__init__", defArgs s_Book___init__, defBody s_Book___init__, defScope s_Book___init__⟩
def fn57 : FnDY := ⟨Ad_f_bf, "facts", "Book.facts", defArgs s_Book_facts, defBody s_Book_facts, defScope s_Book_facts⟩
def fn58 : FnDY := ⟨Ad_f_bs, "rules", "Book.rules", defArgs s_Book_rules, defBody s_Book_rules, defScope s_Book_rules⟩
def fn59 : FnDY := ⟨Ad_f_br, "ruling", "Book.ruling", defArgs s_Book_ruling, defBody s_Book_ruling, defScope s_Book_ruling⟩
def fn60 : FnDY := ⟨Ad_f_bq, "rulings", "Book.rulings", defArgs s_Book_rulings, defBody s_Book_rulings, defScope s_Book_rulings⟩
def fn61 : FnDY := ⟨Ad_f_yi, "__init__", "Seasons.__init__", defArgs s_Seasons___init__, defBody s_Seasons___init__, defScope s_Seasons___init__⟩
def fn62 : FnDY := ⟨Ad_f_yb, "book", "Seasons.book", defArgs s_Seasons_book, defBody s_Seasons_book, defScope s_Seasons_book⟩
def fn63 : FnDY := ⟨Ad_f_ys, "spans", "Seasons.spans", defArgs s_Seasons_spans, defBody s_Seasons_spans, defScope s_Seasons_spans⟩
def fn64 : FnDY := ⟨Ad_f_yp, "period", "Seasons.period", defArgs s_Seasons_period, defBody s_Seasons_period, defScope s_Seasons_period⟩
def fn65 : FnDY := ⟨Ad_f_ti, "__init__", "Timetable.__init__", defArgs s_Timetable___init__, defBody s_Timetable___init__, defScope s_Timetable___init__⟩
def fn66 : FnDY := ⟨Ad_f_gc, "__contains__", "Book.__contains__", defArgs s_Book___contains__, defBody s_Book___contains__, defScope s_Book___contains__⟩
def fn67 : FnDY := ⟨Ad_f_gi, "__getitem__", "Book.__getitem__", defArgs s_Book___getitem__, defBody s_Book___getitem__, defScope s_Book___getitem__⟩
def fn68 : FnDY := ⟨Ad_f_gs, "__sub__", "Book.__sub__", defArgs s_Book___sub__, defBody s_Book___sub__, defScope s_Book___sub__⟩
def fn69 : FnDY := ⟨Ad_f_bc, "__call__", "Book.__call__", defArgs s_Book___call__, defBody s_Book___call__, defScope s_Book___call__⟩
def fn70 : FnDY := ⟨Ad_f_mc, "__call__", "Condition.__call__", defArgs s_Condition___call__, defBody s_Condition___call__, defScope s_Condition___call__⟩
def fn71 : FnDY := ⟨Ad_f_yc, "__call__", "Seasons.__call__", defArgs s_Seasons___call__, defBody s_Seasons___call__, defScope s_Seasons___call__⟩
def fn72 : FnDY := ⟨Ad_f_tw, "bits_within", "Timetable.bits_within", defArgs s_Timetable_bits_within, defBody s_Timetable_bits_within, defScope s_Timetable_bits_within⟩
def fn73 : FnDY := ⟨Ad_f_tm, "met", "Timetable.met", defArgs s_Timetable_met, defBody s_Timetable_met, defScope s_Timetable_met⟩
def fn74 : FnDY := ⟨Ad_f_to, "ruling_on", "Timetable.ruling_on", defArgs s_Timetable_ruling_on, defBody s_Timetable_ruling_on, defScope s_Timetable_ruling_on⟩
def fn75 : FnDY := ⟨Ad_f_tr, "ruling_by", "Timetable.ruling_by", defArgs s_Timetable_ruling_by, defBody s_Timetable_ruling_by, defScope s_Timetable_ruling_by⟩
def fn76 : FnDY := ⟨Ad_f_tl, "lasting", "Timetable.lasting", defArgs s_Timetable_lasting, defBody s_Timetable_lasting, defScope s_Timetable_lasting⟩
def fn77 : FnDY := ⟨Ad_fIi0, (nf_InvalidFacts 0 0).name, (nf_InvalidFacts 0 0).qual, (nf_InvalidFacts 0 0).params, (nf_InvalidFacts 0 0).body, (nf_InvalidFacts 0 0).scope⟩
def fn78 : FnDY := ⟨Ad_fIi1, (nf_InvalidCase 0 0).name, (nf_InvalidCase 0 0).qual, (nf_InvalidCase 0 0).params, (nf_InvalidCase 0 0).body, (nf_InvalidCase 0 0).scope⟩
def fn79 : FnDY := ⟨Ad_fIi2, (nf_InvalidCondition 0 0).name, (nf_InvalidCondition 0 0).qual, (nf_InvalidCondition 0 0).params, (nf_InvalidCondition 0 0).body, (nf_InvalidCondition 0 0).scope⟩
def fn80 : FnDY := ⟨Ad_fIi3, (nf_InvalidRule 0 0).name, (nf_InvalidRule 0 0).qual, (nf_InvalidRule 0 0).params, (nf_InvalidRule 0 0).body, (nf_InvalidRule 0 0).scope⟩
def fn81 : FnDY := ⟨Ad_fIi4, (nf_InvalidBook 0 0).name, (nf_InvalidBook 0 0).qual, (nf_InvalidBook 0 0).params, (nf_InvalidBook 0 0).body, (nf_InvalidBook 0 0).scope⟩
def ex_0 (K : PySem.W.Frag) : Bool := ([fun K => decide (Fx0 K), fun K => decide (Fx1 K), fun K => decide (Fx2 K), fun K => decide (Fx3 K), fun K => decide (Fx4 K), fun K => decide (Fx5 K), fun K => decide (Fx6 K), fun K => decide (Fx7 K), fun K => decide (Fx8 K)] : List (PySem.W.Frag → Bool)).all fun f => f K
def fn_0 : List FnDY := [fn0, fn1, fn2, fn3, fn4, fn5, fn6, fn7, fn8, fn9, fn10, fn11, fn12, fn13, fn14, fn15, fn16]
def tf_0 : List (PySem.W.Frag → Addr) := []
def ex_1 (K : PySem.W.Frag) : Bool := ([fun K => decide (Fx9 K), fun K => decide (Fx10 K), fun K => decide (Fx11 K), fun K => decide (Fx12 K), fun K => decide (Fx13 K), fun K => decide (Fx14 K), fun K => decide (Fx15 K), fun K => decide (Fx16 K), fun K => decide (Fx17 K)] : List (PySem.W.Frag → Bool)).all fun f => f K
def fn_1 : List FnDY := [fn17, fn18, fn19, fn20, fn21, fn22, fn23, fn24, fn25, fn26, fn27, fn28, fn29, fn30, fn31, fn32, fn33]
def tf_1 : List (PySem.W.Frag → Addr) := []
def ex_2 (K : PySem.W.Frag) : Bool := ([fun K => decide (Fx18 K), fun K => decide (Fx19 K), fun K => decide (Fx20 K), fun K => decide (Fx21 K), fun K => decide (Fx22 K), fun K => decide (Fx23 K), fun K => decide (Fx24 K), fun K => decide (Fx25 K), fun K => decide (Fx26 K)] : List (PySem.W.Frag → Bool)).all fun f => f K
def fn_2 : List FnDY := [fn34, fn35, fn36, fn37, fn38, fn39, fn40, fn41, fn42, fn43, fn44, fn45, fn46, fn47, fn48, fn49, fn50]
def tf_2 : List (PySem.W.Frag → Addr) := []
def ex_3 (K : PySem.W.Frag) : Bool := ([fun K => decide (Fx27 K), fun K => decide (Fx28 K), fun K => decide (Fx29 K), fun K => decide (Fx30 K), fun K => decide (Fx31 K), fun K => decide (Fx32 K), fun K => decide (Fx33 K), fun K => decide (Fx34 K), fun K => decide (Fx35 K)] : List (PySem.W.Frag → Bool)).all fun f => f K
def fn_3 : List FnDY := [fn51, fn52, fn53, fn54, fn55, fn56, fn57, fn58, fn59, fn60, fn61, fn62, fn63, fn64, fn65, fn66, fn67]
def tf_3 : List (PySem.W.Frag → Addr) := []
def ex_4 (K : PySem.W.Frag) : Bool := ([fun K => decide (Fx36 K), fun K => decide (Fx37 K), fun K => decide (Fx38 K), fun K => decide (Fx39 K), fun K => decide (Fx40 K), fun K => decide (Fx41 K)] : List (PySem.W.Frag → Bool)).all fun f => f K
def fn_4 : List FnDY := [fn68, fn69, fn70, fn71, fn72, fn73, fn74, fn75, fn76, fn77, fn78, fn79, fn80, fn81]
def tf_4 : List (PySem.W.Frag → Addr) := []
abbrev fnL : List FnDY := ((((fn_0 ++ fn_1) ++ fn_2) ++ fn_3) ++ fn_4)
abbrev tfL : List (PySem.W.Frag → Addr) := ((((tf_0 ++ tf_1) ++ tf_2) ++ tf_3) ++ tf_4)
abbrev exB : PySem.W.Frag → Bool := (fun K => (fun K => (fun K => (fun K => ex_0 K && ex_1 K) K && ex_2 K) K && ex_3 K) K && ex_4 K)
theorem mem_at {α : Type} {l : List α} {i : Nat} {a : α} (h : l[i]? = some a) : a ∈ l := List.mem_of_getElem? h
theorem all_at {K : PySem.W.Frag} {L : List (PySem.W.Frag → Bool)} (h : (L.all fun f => f K) = true) (i : Nat) {f : PySem.W.Frag → Bool} (e : L[i]? = some f) : f K = true := List.all_eq_true.mp h f (List.mem_of_getElem? e)
theorem more_0 {h : Heap} {K : PySem.W.Frag} (S : SaysY fnL tfL exB h K) : ex_0 K = true := (ba (ba (ba (ba S.more).1).1).1).1
theorem more_1 {h : Heap} {K : PySem.W.Frag} (S : SaysY fnL tfL exB h K) : ex_1 K = true := (ba (ba (ba (ba S.more).1).1).1).2
theorem more_2 {h : Heap} {K : PySem.W.Frag} (S : SaysY fnL tfL exB h K) : ex_2 K = true := (ba (ba (ba S.more).1).1).2
theorem more_3 {h : Heap} {K : PySem.W.Frag} (S : SaysY fnL tfL exB h K) : ex_3 K = true := (ba (ba S.more).1).2
theorem more_4 {h : Heap} {K : PySem.W.Frag} (S : SaysY fnL tfL exB h K) : ex_4 K = true := (ba S.more).2
theorem gx0 {h : Heap} {K : PySem.W.Frag} (S : SaysY fnL tfL exB h K) : Fx0 K := of_decide_eq_true (all_at (more_0 S) 0 rfl)
theorem gx1 {h : Heap} {K : PySem.W.Frag} (S : SaysY fnL tfL exB h K) : Fx1 K := of_decide_eq_true (all_at (more_0 S) 1 rfl)
theorem gx2 {h : Heap} {K : PySem.W.Frag} (S : SaysY fnL tfL exB h K) : Fx2 K := of_decide_eq_true (all_at (more_0 S) 2 rfl)
theorem gx3 {h : Heap} {K : PySem.W.Frag} (S : SaysY fnL tfL exB h K) : Fx3 K := of_decide_eq_true (all_at (more_0 S) 3 rfl)
theorem gx4 {h : Heap} {K : PySem.W.Frag} (S : SaysY fnL tfL exB h K) : Fx4 K := of_decide_eq_true (all_at (more_0 S) 4 rfl)
theorem gx5 {h : Heap} {K : PySem.W.Frag} (S : SaysY fnL tfL exB h K) : Fx5 K := of_decide_eq_true (all_at (more_0 S) 5 rfl)
theorem gx6 {h : Heap} {K : PySem.W.Frag} (S : SaysY fnL tfL exB h K) : Fx6 K := of_decide_eq_true (all_at (more_0 S) 6 rfl)
theorem gx7 {h : Heap} {K : PySem.W.Frag} (S : SaysY fnL tfL exB h K) : Fx7 K := of_decide_eq_true (all_at (more_0 S) 7 rfl)
theorem gx8 {h : Heap} {K : PySem.W.Frag} (S : SaysY fnL tfL exB h K) : Fx8 K := of_decide_eq_true (all_at (more_0 S) 8 rfl)
theorem gx9 {h : Heap} {K : PySem.W.Frag} (S : SaysY fnL tfL exB h K) : Fx9 K := of_decide_eq_true (all_at (more_1 S) 0 rfl)
theorem gx10 {h : Heap} {K : PySem.W.Frag} (S : SaysY fnL tfL exB h K) : Fx10 K := of_decide_eq_true (all_at (more_1 S) 1 rfl)
theorem gx11 {h : Heap} {K : PySem.W.Frag} (S : SaysY fnL tfL exB h K) : Fx11 K := of_decide_eq_true (all_at (more_1 S) 2 rfl)
theorem gx12 {h : Heap} {K : PySem.W.Frag} (S : SaysY fnL tfL exB h K) : Fx12 K := of_decide_eq_true (all_at (more_1 S) 3 rfl)
theorem gx13 {h : Heap} {K : PySem.W.Frag} (S : SaysY fnL tfL exB h K) : Fx13 K := of_decide_eq_true (all_at (more_1 S) 4 rfl)
theorem gx14 {h : Heap} {K : PySem.W.Frag} (S : SaysY fnL tfL exB h K) : Fx14 K := of_decide_eq_true (all_at (more_1 S) 5 rfl)
theorem gx15 {h : Heap} {K : PySem.W.Frag} (S : SaysY fnL tfL exB h K) : Fx15 K := of_decide_eq_true (all_at (more_1 S) 6 rfl)
theorem gx16 {h : Heap} {K : PySem.W.Frag} (S : SaysY fnL tfL exB h K) : Fx16 K := of_decide_eq_true (all_at (more_1 S) 7 rfl)
theorem gx17 {h : Heap} {K : PySem.W.Frag} (S : SaysY fnL tfL exB h K) : Fx17 K := of_decide_eq_true (all_at (more_1 S) 8 rfl)
theorem gx18 {h : Heap} {K : PySem.W.Frag} (S : SaysY fnL tfL exB h K) : Fx18 K := of_decide_eq_true (all_at (more_2 S) 0 rfl)
theorem gx19 {h : Heap} {K : PySem.W.Frag} (S : SaysY fnL tfL exB h K) : Fx19 K := of_decide_eq_true (all_at (more_2 S) 1 rfl)
theorem gx20 {h : Heap} {K : PySem.W.Frag} (S : SaysY fnL tfL exB h K) : Fx20 K := of_decide_eq_true (all_at (more_2 S) 2 rfl)
theorem gx21 {h : Heap} {K : PySem.W.Frag} (S : SaysY fnL tfL exB h K) : Fx21 K := of_decide_eq_true (all_at (more_2 S) 3 rfl)
theorem gx22 {h : Heap} {K : PySem.W.Frag} (S : SaysY fnL tfL exB h K) : Fx22 K := of_decide_eq_true (all_at (more_2 S) 4 rfl)
theorem gx23 {h : Heap} {K : PySem.W.Frag} (S : SaysY fnL tfL exB h K) : Fx23 K := of_decide_eq_true (all_at (more_2 S) 5 rfl)
theorem gx24 {h : Heap} {K : PySem.W.Frag} (S : SaysY fnL tfL exB h K) : Fx24 K := of_decide_eq_true (all_at (more_2 S) 6 rfl)
theorem gx25 {h : Heap} {K : PySem.W.Frag} (S : SaysY fnL tfL exB h K) : Fx25 K := of_decide_eq_true (all_at (more_2 S) 7 rfl)
theorem gx26 {h : Heap} {K : PySem.W.Frag} (S : SaysY fnL tfL exB h K) : Fx26 K := of_decide_eq_true (all_at (more_2 S) 8 rfl)
theorem gx27 {h : Heap} {K : PySem.W.Frag} (S : SaysY fnL tfL exB h K) : Fx27 K := of_decide_eq_true (all_at (more_3 S) 0 rfl)
theorem gx28 {h : Heap} {K : PySem.W.Frag} (S : SaysY fnL tfL exB h K) : Fx28 K := of_decide_eq_true (all_at (more_3 S) 1 rfl)
theorem gx29 {h : Heap} {K : PySem.W.Frag} (S : SaysY fnL tfL exB h K) : Fx29 K := of_decide_eq_true (all_at (more_3 S) 2 rfl)
theorem gx30 {h : Heap} {K : PySem.W.Frag} (S : SaysY fnL tfL exB h K) : Fx30 K := of_decide_eq_true (all_at (more_3 S) 3 rfl)
theorem gx31 {h : Heap} {K : PySem.W.Frag} (S : SaysY fnL tfL exB h K) : Fx31 K := of_decide_eq_true (all_at (more_3 S) 4 rfl)
theorem gx32 {h : Heap} {K : PySem.W.Frag} (S : SaysY fnL tfL exB h K) : Fx32 K := of_decide_eq_true (all_at (more_3 S) 5 rfl)
theorem gx33 {h : Heap} {K : PySem.W.Frag} (S : SaysY fnL tfL exB h K) : Fx33 K := of_decide_eq_true (all_at (more_3 S) 6 rfl)
theorem gx34 {h : Heap} {K : PySem.W.Frag} (S : SaysY fnL tfL exB h K) : Fx34 K := of_decide_eq_true (all_at (more_3 S) 7 rfl)
theorem gx35 {h : Heap} {K : PySem.W.Frag} (S : SaysY fnL tfL exB h K) : Fx35 K := of_decide_eq_true (all_at (more_3 S) 8 rfl)
theorem gx36 {h : Heap} {K : PySem.W.Frag} (S : SaysY fnL tfL exB h K) : Fx36 K := of_decide_eq_true (all_at (more_4 S) 0 rfl)
theorem gx37 {h : Heap} {K : PySem.W.Frag} (S : SaysY fnL tfL exB h K) : Fx37 K := of_decide_eq_true (all_at (more_4 S) 1 rfl)
theorem gx38 {h : Heap} {K : PySem.W.Frag} (S : SaysY fnL tfL exB h K) : Fx38 K := of_decide_eq_true (all_at (more_4 S) 2 rfl)
theorem gx39 {h : Heap} {K : PySem.W.Frag} (S : SaysY fnL tfL exB h K) : Fx39 K := of_decide_eq_true (all_at (more_4 S) 3 rfl)
theorem gx40 {h : Heap} {K : PySem.W.Frag} (S : SaysY fnL tfL exB h K) : Fx40 K := of_decide_eq_true (all_at (more_4 S) 4 rfl)
theorem gx41 {h : Heap} {K : PySem.W.Frag} (S : SaysY fnL tfL exB h K) : Fx41 K := of_decide_eq_true (all_at (more_4 S) 5 rfl)
def nameOf (s : Stmt) : List Str := match s with
  | .FunctionDef n .. => [n]
  | .ClassDef n .. => [n]
  | .Assign [.Name n _] _ _ => [n]
  | _ => []
def lawI : Nat := theRow.prog.main.body.length - 1
def names : List Str := (theRow.prog.main.body.take lawI).flatMap nameOf
def asL : List Addr := [3, 2, 52, 74, 95, 116, 128, 149, 170, 182, 194, 206, 218, 239, 430, 532, 606, 654, 779, 0, 6, 51, 73, 94, 115, 127, 148, 169, 181, 193, 205, 217, 238, 429, 531, 605, 653, 778, 69, 71] ++ [90, 92, 111, 113, 144, 146, 165, 167, 234, 236, 244, 246, 251, 253, 258, 260, 265, 267, 272, 274, 279, 281, 286, 288, 293, 295, 298, 300, 305, 307, 312, 314, 319, 321, 326, 328, 333, 335, 340, 342] ++ [347, 349, 354, 356, 359, 361, 371, 373, 380, 388, 396, 404, 412, 418, 420, 425, 427, 444, 446, 453, 461, 469, 475, 481, 487, 489, 492, 494, 499, 501, 506, 508, 513, 515, 520, 522, 527, 529, 541, 543] ++ [546, 548, 553, 555, 558, 560, 572, 574, 577, 579, 582, 584, 589, 591, 596, 598, 601, 603, 620, 622, 629, 635, 643, 649, 651, 661, 663, 666, 668, 673, 675, 678, 680, 685, 687, 690, 692, 697, 699, 702] ++ [704, 707, 709, 721, 723, 730, 738, 746, 750, 752, 757, 759, 762, 764, 769, 771, 774, 776, 788, 790, 793, 795, 800, 802, 807, 809, 814, 816, 821, 823, 828, 830, 835, 837, 842, 844, 849, 851, 856, 858] ++ [863, 865, 870, 872, 877, 879, 882, 884, 59, 80, 101, 134, 155, 224, 53, 70, 91, 112, 145, 166, 235, 245, 252, 259, 266, 273, 280, 287, 294, 299, 306, 313, 320, 327, 334, 341, 348, 355, 360, 372] ++ [379, 381, 387, 389, 395, 397, 403, 405, 411, 413, 419, 426, 431, 432, 445, 452, 454, 460, 462, 468, 470, 474, 476, 480, 482, 488, 493, 500, 507, 514, 521, 528, 533, 534, 542, 547, 554, 559, 573, 578] ++ [583, 590, 597, 602, 607, 608, 621, 628, 630, 634, 636, 642, 644, 650, 655, 656, 662, 667, 674, 679, 686, 691, 698, 703, 708, 722, 729, 731, 737, 739, 745, 747, 751, 758, 763, 770, 775, 780, 781, 789] ++ [794, 801, 808, 815, 822, 829, 836, 843, 850, 857, 864, 871, 878, 883, 4]
abbrev hk : PySem.W.Hook := hookY asL fnL tfL exB
def ob (s : PySem.W.SharedT) : AlY := obsY asL fnL tfL exB (HandSHeadRun.getT s)
theorem ob_eq (s : PySem.W.SharedT) : ob s = hk.obs s.abs := obsY_eq (HandSHeadRun.getT_eq s)
theorem run_0 (w : World) : HandSHeadRun.RunEqI theRow (PySem.W.view theRow.prog [0, lawI]) (hookY asL fn_0 tf_0 ex_0) (fun s => obsY asL fn_0 tf_0 ex_0 (HandSHeadRun.getT s)) 9000 names w := by
  unfold HandSHeadRun.RunEqI
  kernel_rfl
theorem run_1 (w : World) : HandSHeadRun.RunEqI theRow (PySem.W.view theRow.prog [0, lawI]) (hookY asL fn_1 tf_1 ex_1) (fun s => obsY asL fn_1 tf_1 ex_1 (HandSHeadRun.getT s)) 9000 names w := by
  unfold HandSHeadRun.RunEqI
  kernel_rfl
theorem run_2 (w : World) : HandSHeadRun.RunEqI theRow (PySem.W.view theRow.prog [0, lawI]) (hookY asL fn_2 tf_2 ex_2) (fun s => obsY asL fn_2 tf_2 ex_2 (HandSHeadRun.getT s)) 9000 names w := by
  unfold HandSHeadRun.RunEqI
  kernel_rfl
theorem run_3 (w : World) : HandSHeadRun.RunEqI theRow (PySem.W.view theRow.prog [0, lawI]) (hookY asL fn_3 tf_3 ex_3) (fun s => obsY asL fn_3 tf_3 ex_3 (HandSHeadRun.getT s)) 9000 names w := by
  unfold HandSHeadRun.RunEqI
  kernel_rfl
theorem run_4 (w : World) : HandSHeadRun.RunEqI theRow (PySem.W.view theRow.prog [0, lawI]) (hookY asL fn_4 tf_4 ex_4) (fun s => obsY asL fn_4 tf_4 ex_4 (HandSHeadRun.getT s)) 9000 names w := by
  unfold HandSHeadRun.RunEqI
  kernel_rfl
theorem run (w : World) : HandSHeadRun.RunEqI theRow (PySem.W.view theRow.prog [0, lawI]) hk ob 9000 names w := run_joinI (run_joinI (run_joinI (run_joinI (run_0 w) (run_1 w)) (run_2 w)) (run_3 w)) (run_4 w)
end Sc
namespace Sc
open PySem PySem.Spec PySem.Calls PyProof.Rows L2
/-! ### enumerate(tuple) -/
theorem enumT_new (l : Addr) (items : Array Value) (n : Nat) (dct : Option Addr) (sl : Array (Option Value)) :
    Meets (Builtin.«enumerate.__new__» ⟨[.type "enumerate", .ref l], []⟩) (fun _ R s =>
      s.heap.get? l = some { cls := .type "tuple", dict := dct, data := .seq items n, slots := sl } ∧
      R (.ok (.ret (.ref (s.heap.objs.size + 1)))) { s with heap := (s.heap.push { cls := .type "tuple_iterator", data := .fields #[.ref l, .int 0 0] }).push { cls := .type "enumerate", data := .fields #[.none, .bool false, .ref s.heap.objs.size, rawInt 0, .none, .none] } }) :=
  .of_wp fun prog w A R s h => by
    obtain ⟨hp, g, d, tk, os⟩ := s
    obtain ⟨hl, hR⟩ := h
    have hsub := sub_enumerate
    have hT : Heap.IsTuple hp l items := ⟨_, hl, rfl, n, rfl⟩
    have hz : (hp.push { cls := .type "tuple_iterator", data := .fields #[.ref l, .int 0 0] }).objs.size = hp.objs.size + 1 := Heap.size_push ..
    rw [← hz] at hR
    have it1 : ∀ {A' : Around} {E : Value → Shared → Prop} {Q : Value → Shared → Prop}, Q (.ref hp.objs.size) ⟨hp.push { cls := .type "tuple_iterator", data := .fields #[.ref l, .int 0 0] }, g, d, tk, os⟩ →
        wpAny (model prog w) A' (pyIter (.ref l)) Q E ⟨hp, g, d, tk, os⟩ := fun q => wpAny_pyIter_tuple (s := ⟨hp, g, d, tk, os⟩) hT q
    wp_walk using AutoSeq1.wpAny_loadPart' hl, it1
    refine wpAny_stack_any fun st => wpAny_pure ?_
    split
    · rename_i c _ _ _ _ _
      cases (c == Value.type "enumerate") <;>
      · wp_walk using AutoSeq1.wpAny_loadPart' hl, it1
        exact ⟨_, rfl, hR⟩
    · wp_walk using AutoSeq1.wpAny_loadPart' hl, it1
      exact ⟨_, rfl, hR⟩
section
variable {prog : Program} {w : World} {A : Around} {E : Value → Shared → Prop} {s : Shared}
theorem enumT_call {l : Addr} {items : Array Value} {Q : Value → Shared → Prop} (hL : s.heap.IsTuple l items)
    (h : ∀ h', IsEnum h' (s.heap.objs.size + 1) s.heap.objs.size 0 .none → h'.IsTupleIter s.heap.objs.size l 0 → (∀ b o, s.heap.get? b = some o → h'.get? b = some o) →
      Q (.ref (s.heap.objs.size + 1)) { s with heap := h' }) : wpAny (model prog w) A (call (.type "enumerate") [.ref l]) Q E s := by
  obtain ⟨⟨c, dct, dt, sl⟩, hl, hc, n, hd⟩ := hL
  dsimp only at hc hd
  subst hc hd
  refine callType_new F.called_enumerate (by decide) (F.typeCall_enumerate_1 _) (F.newCall_enumerate_1 _) (fun obj => F.args_object_init_2 obj _) F.entry_enumerate_new (enumT_new l items n dct sl) ⟨hl, ?_⟩
  have hz : (s.heap.push { cls := .type "tuple_iterator", data := .fields #[.ref l, .int 0 0] }).objs.size = s.heap.objs.size + 1 := Heap.size_push ..
  have he := Heap.get?_push_size (s.heap.push { cls := .type "tuple_iterator", data := .fields #[.ref l, .int 0 0] })
    (o := { cls := .type "enumerate", data := .fields #[.none, .bool false, .ref s.heap.objs.size, rawInt 0, .none, .none] }) rfl
  rw [hz] at he
  exact ⟨⟨_, he, rfl⟩, h _ he ⟨_, Heap.get?_push_of_some _ (Heap.get?_push_size _ rfl), rfl, rfl⟩ fun b o x => Heap.get?_push_of_some _ (Heap.get?_push_of_some _ x)⟩
end
/-- the tuple at a, each item in a new pair -/
def IteT (K : PySem.W.Frag) (a : Addr) : It where
  go := fun i H => ∃ (xs : List V) (x : V), SqT K H a xs ∧ xs[i]? = some x
  yld := fun i H v H' => ∃ T x, v = .ref T ∧ H T = none ∧ H' = upd H T (.tup [.int (i : Nat), x]) ∧ ∀ xs, SqT K H a xs → xs[i]? = some x
  stop := fun i H => ∃ xs : List V, SqT K H a xs ∧ xs.length ≤ i
theorem enumT_turn {P : Program} {w : World} {K : PySem.W.Frag} {elts : List Expr} {kk : Nat} {tpos : Pos} (a e it : Addr) :
    Turn P w K (.Tuple elts kk tpos) (IteT K a) [e, it] e (fun i h => (∃ old, IsEnum h e it ((i : Nat) : Int) old) ∧ h.IsTupleIter it a i ∧ e ≠ it) where
  mem := List.mem_cons_self
  obj := fun i h st b hb => by
    obtain ⟨⟨old, he⟩, ⟨o, ho, hc, hd⟩, _⟩ := st
    rcases List.mem_cons.mp hb with rfl | hb
    · exact ⟨_, he, fun v q => nomatch q⟩
    · rcases List.mem_cons.mp hb with rfl | hb
      · exact ⟨o, ho, fun v q => by rw [hd] at q; cases q⟩
      · cases hb
  keep := fun i h h' st k => by
    obtain ⟨⟨old, he⟩, hi, hne⟩ := st
    exact ⟨⟨old, k e (by simp) _ he⟩, hi.at fun o q => k it (by simp) o q, hne⟩
  item := by
    intro X hP hw hK hc i pins s σ H E I hf st hg
    subst hP hw hK
    obtain ⟨⟨old, he⟩, hit, hne⟩ := st
    obtain ⟨xs, x, hq, hx⟩ := hg
    obtain ⟨its, rv, p, hz⟩ := I.tuple hq
    obtain ⟨u, hu, ru⟩ := rv.get hx
    have hel : e < s.heap.objs.size := Heap.lt_size he
    have hil : it < s.heap.objs.size := by obtain ⟨_, q, _⟩ := hit; exact Heap.lt_size q
    have p' : s.heap.IsTuple a its.toArray := p
    have hae : a ≠ e := fun z => by
      obtain ⟨o, ho, hcl, n, hd⟩ := p'
      rw [z, he] at ho
      cases ho
      cases hd
    have hai : a ≠ it := fun z => by
      obtain ⟨o, ho, hcl, n, hd⟩ := p'
      obtain ⟨o2, ho2, hcl2, hd2⟩ := hit
      rw [z, ho2] at ho
      cases ho
      rw [hd2] at hd
      cases hd
    have hlt : i < its.toArray.size := by
      rw [List.size_toArray]
      exact (List.getElem?_eq_some_iff.mp hu).1
    refine wpAny_pyNext_enum_itemD (Draws.tuple (A := X.A.in1) (I.ok.hd hc) it a hai its.toArray) he ⟨hit, p'⟩ hlt hne (by simp [hne, hae.symm]) fun y h' tk hy ho st' hT hsz hk => ?_
    obtain ⟨hit', hp'⟩ := st'
    have ey : y = u := by
      have z : its.toArray[i]? = some u := by simpa using hu
      rw [hy] at z
      exact Option.some.inj z
    subst ey
    refine ⟨_, rfl, wpAny_letOwnedTupleGo_enum (s := { s with heap := h', toks := tk + 1 }) ho fun h'' he' sb => ?_⟩
    have hT2 : h''.get? s.heap.objs.size = some { cls := .type "tuple", data := .seq #[.int i tk, y] } := (sb.2 _ (Nat.ne_of_gt hel)).trans hT
    have new : ObjOk X.prog X.w (upd H s.heap.objs.size (.tup [.int (i : Nat), x])) h'' s.heap.objs.size (.tup [.int (i : Nat), x]) :=
      ⟨by show 2 ≤ sizeLine; decide, [.int i tk, y], .cons ⟨_, rfl⟩ (.cons ru .nil), ⟨_, hT2, rfl, _, rfl⟩⟩
    have I1 : Inv X pins σ (upd H s.heap.objs.size (.tup [.int (i : Nat), x])) { s with heap := h'', toks := tk + 1 } :=
      I.turnedNew (ch := [e, it]) (fun b ob hb q => (sb.2 b (fun z => hb (by simp [z]))).trans (hk b ob (fun z => hb (by simp [z])) (fun z => hb (by simp [z])) q)) hf (Nat.le_refl _) new
    refine ⟨.ref s.heap.objs.size, _, I1, rfl, ⟨_, x, rfl, I.hok.fresh (Nat.le_refl _), rfl, fun ys hy => by rw [I.tuple_inj hy hq]; exact hx⟩, ⟨⟨y, ?_⟩, hit'.at fun o q => (sb.2 it (Ne.symm hne)).trans q, hne⟩, fun b hb => ?_⟩
    · have e1 : ((i + 1 : Nat) : Int) = (i : Int) + 1 := by omega
      rw [e1]
      exact he'
    · have hb' : b < s.heap.objs.size := by
        rcases List.mem_cons.mp hb with rfl | hb
        · exact hel
        · rcases List.mem_cons.mp hb with rfl | hb
          · exact hil
          · cases hb
      rw [upd_ne (Nat.ne_of_lt hb')]
      exact (hf b hb).1
  done := by
    intro X hP hw hK hc i pins s σ H E I hf st hg
    subst hP hw hK
    obtain ⟨⟨old, he⟩, hit, hne⟩ := st
    obtain ⟨xs, hq, hx⟩ := hg
    obtain ⟨its, rv, p, hz⟩ := I.tuple hq
    obtain ⟨f0, f1, f2, f3, f4, f5⟩ := hf it (by simp)
    have hl := rv.length
    have p' : s.heap.IsTuple a its.toArray := p
    have hai : a ≠ it := fun z => by
      obtain ⟨o, ho, hcl, n, hd⟩ := p'
      obtain ⟨o2, ho2, hcl2, hd2⟩ := hit
      rw [z, ho2] at ho
      cases ho
      rw [hd2] at hd
      cases hd
    have D : Draws X.prog X.w X.A.in1 it [it, a] i (fun _ _ => True) (fun j h => h.IsTupleIter it a j ∧ h.IsTuple a its.toArray ∧ j = i) :=
      { live := fun _ _ st => let ⟨o, ho, _⟩ := st.1; ⟨o, ho⟩
        frame := fun _ _ _ st hk => ⟨st.1.at fun o e => hk it (by simp) o e, st.2.1.at fun o e => hk a (by simp) o e, st.2.2⟩
        item := fun j s Q E hj stj hQ => absurd hj (by rw [stj.2.2]; exact Nat.lt_irrefl i)
        done := fun s Q E stj hE => wpAny_nextOf_tuple_end (I.ok.hd hc) stj.1 stj.2.1 (by simp; omega) hE }
    exact wpAny_pyNext_enum_endD D he ⟨hit, p', rfl⟩ fun h' eb => ⟨rfl, I.turned (t' := s.toks) (fun b o hb q => eb b o hb q) f0 f1 f3 f4 f5⟩
  self := fun A i s Q E st h => by
    obtain ⟨⟨_, he⟩, _⟩ := st
    exact wpAny_pyIter_enum he h
def iEnumT (K : PySem.W.Frag) (ta : TA) : TI := fun σ H R => ta σ H fun vs H1 => ∃ a xs, vs = [.ref a] ∧ SqT K H1 a xs ∧ R (IteT K a) H1
theorem pi_enumT {X : Cx} {e : Expr} {ta : TA} {p pos tpos : Pos} {elts : List Expr} {kk : Nat} (hg : Gl X "enumerate") (hm : X.mg "enumerate" = none) (ha : PA X [e] ta) (hs : starEach [e] X.env = [(false, eval e X.env)] := by rfl) :
    PI X (.Tuple elts kk tpos) (.Call (.Name "enumerate" p) [e] [] pos) (iEnumT X.K ta) := by
  refine ⟨fun pins s σ H R I h => ?_⟩
  refine Call_ (ld_blt I hg hm boot_enumerate (PyProof.Rows.callWith_type1 (thn (ha.run pos pins s σ H _ I h) fun us s1 ⟨vs, H1, I1, r1, a, xs, ex, hq, q⟩ => ?_) hs rfl))
  subst ex
  cases r1 with
  | cons r rr =>
    cases rr
    cases r
    obtain ⟨its, rv, p', hz⟩ := I1.tuple hq
    refine enumT_call (show s1.heap.IsTuple a its.toArray from p') fun h' he hit hk => wpAny_pyIter_enum he ?_
    have I2 : Inv X pins σ H1 { s1 with heap := h' } := I1.kept (t' := s1.toks) hk
    refine ⟨s1.heap.objs.size + 1, [s1.heap.objs.size + 1, s1.heap.objs.size], _, _, H1, rfl, I2, enumT_turn a (s1.heap.objs.size + 1) s1.heap.objs.size, ⟨⟨.none, he⟩, hit, Nat.succ_ne_self _⟩, fun b hb => ?_, q⟩
    have hle : s1.heap.objs.size ≤ b := by
      rcases List.mem_cons.mp hb with rfl | hb
      · exact Nat.le_succ _
      · rcases List.mem_cons.mp hb with rfl | hb
        · exact Nat.le_refl _
        · cases hb
    exact I1.fpOk hle (I1.hok.fresh hle)
end Sc
namespace Sc
open PySem PySem.Spec PySem.Calls PyProof.Rows L2 NdefX
/-! ### super().__init__(..) in an own error's __init__ -/
/-- what the written part tells for super() in the __init__ of the class at C: cc its cell, cda the code object of __init__ -/
structure SupC (prog : Program) (K : PySem.W.Frag) (mg : Str → Option Value) (C cc cda : Addr) : Prop where
  cell : ∃ cl cld csl, K.lookup cc = some ⟨cl, cld, .cell (some (.ref C)), csl⟩
  code : ∃ ccl cdd vs ccs file tf, K.lookup cda = some ⟨ccl, cdd, .fields vs, ccs⟩ ∧ vs[2]? = some (.str file tf) ∧ ((prog.main.file : Str) == file) = true
  sub : PySem.W.mroIn K C (.ref C) = some true
  noS : mg "super" = none
  opq : PySem.W.nsIn K cStatics "thirdparty.any" = some none
  up : PySem.W.ks_superIn K C C "__init__" = some (some (.builtin "ValueError.__init__"))
  isB : PySem.W.subIn K (.ref C) (.type "ValueError") = some true
  top : (prog.main.scope.names.lookup ("super" : Str)).isSome = false
section
variable {X : Cx} {pins : List (Addr × Obj)} {σ : L2.St} {H : Hp} {s : Shared} {a C cc cda f : Addr}
theorem sup_bound {u : Addr} {us : List Value} {A : Around} {E : Value → Shared → Prop} {Q : Value → Shared → Prop} (T : OexC X.K C) (I : Inv X pins σ H s) (e : H a = some (exo a C none)) (hu : s.heap.get? u = some (PySem.W.kxs_mw "ValueError.__init__" a)) (hl : us.length ≤ sizeLine)
    (h : ∀ s', Inv X pins σ H s' → Q .none s') : wpAny (model X.prog X.w) A (call (.ref u) us) Q E s := by
  obtain ⟨nm, q, N, bs, bm, sn, sub, ab, col, dd, k0, k1, k2, k3, k5, hC, hbm⟩ := T.cls
  obtain ⟨t1, ho⟩ := exo_at I.hok e
  have hC' := I.kIn _ _ hC
  obtain ⟨hp, g, d, tk, os⟩ := s
  refine wpAny_call (codeAny_of_tree ?_)
  show wpAny _ A.in1 (callAny (.ref u) ⟨us, []⟩) _ _ _
  simp only [callAny]
  refine wpAny_bind (wpAny_load hu ?_)
  have b1 : (Value.type "method-wrapper" == Value.type "method" || Value.type "method-wrapper" == Value.type "builtin_function_or_method" || Value.type "method-wrapper" == Value.type "method-wrapper") = true := by decide
  simp only [PySem.W.kxs_mw, b1, if_true]
  refine PySem.W.KFB.if_so (by decide) (wpAny_bind (PySem.W.check_bound_init PySem.F.excBase_ValueError.toExcCallFacts hC' ho rfl (wpAny_bind (wpAny_pure (wpAny_pure ?_)))))
  refine ⟨plainId_quiet PySem.F.excBase_ValueError.init.plain _, codeAny_builtin PySem.F.excBase_ValueError.initEntry ?_⟩
  refine PySem.W.exc_init_tree (cls := .ref C) (t0 := t1) (dv := none) (c2 := .none) (c3 := .none) (b4 := .bool false) ho hl fun h' k hx _ => ?_
  have J := I.write (t' := tk) (x := a) (e := a) (o := exo a C none) (by rw [e]; exact True.intro) (.inl rfl) k ⟨_, hx⟩ (exo_ok hx)
  have eu : upd H a (exo a C none) = H := funext fun b => by
    by_cases hb : b = a
    · rw [hb, upd_same, e]
    · rw [upd_ne hb]
  rw [eu] at J
  exact h _ J
theorem at_super {pl : Sem Bool} {body : List Stmt} {e : Expr} {es : List Expr} {ta : TA} {D : Ends} {p0 p1 p2 p3 p4 : Pos} {fd : FuncData} {ar : Arg} {oc : Value} {od : Option Addr} {osl : Array (Option Value)}
    (T : OexC X.K C) (S : SupC X.prog X.K X.mg C cc cda) (hks : X.env.kindOf "super" = some .globalImplicit) (hkc : X.env.kindOf "__class__" = some .free) (hcl : X.env.cells.lookup ("__class__" : Str) = some cc)
    (hfu : X.env.func = some f) (hco : X.env.code = .ref cda) (lk : X.K.lookup f = some ⟨oc, od, .func fd, osl⟩) (hp : (fd.params.posonlyargs ++ fd.params.args).head? = some ar) (hN0 : X.N[0]? = some ar.arg) (hka : X.env.kindOf ar.arg = some .local)
    (hA : PA X (e :: es) ta) (I : Inv X pins σ H s) (hσ : σ[0]? = some (some (.ref a))) (ha : H a = some (exo a C none)) (q : ta σ H fun vs H1 => vs.length ≤ 1000 ∧ H1 a = some (exo a C none) ∧ D.nx σ H1)
    (he : starEach (e :: es) X.env = (false, eval e X.env) :: starEach es X.env := by rfl) (hpl : (backTo p3 (starEach es X.env)).any (·.1) = false := by rfl) (hi : interactive X.env = false := by rfl)
    (hev : eval (.Call (.Attribute (.Call (.Name "super" p0) [] [] p1) "__init__" p2) (e :: es) [] p3) X.env = (do
      let ov ← attributeBase (.Call (.Name "super" p0) [] [] p1) "__init__" X.env (eval (.Call (.Name "super" p0) [] [] p1) X.env)
      standAt p2.atName
      let (g, first) ← holding [ov] (getMethod ov "__init__" pl)
      callWith p3 g first (backTo p3 (starEach (e :: es) X.env)) []) := by rfl) (hsw : swapsWith (.Call (.Attribute (.Call (.Name "super" p0) [] [] p1) "__init__" p2) (e :: es) [] p3) none p4.line X.env = pure false := by rfl) :
    PySem.wpAt (model X.prog X.w) X.A (.func body X.env) (exec (.Expr (.Call (.Attribute (.Call (.Name "super" p0) [] [] p1) "__init__" p2) (e :: es) [] p3) p4) X.env) (SP X pins D) X.xe s := by
  obtain ⟨cl, cld, csl, hcell⟩ := S.cell
  obtain ⟨ccl, cdd, vs, ccs, file, tf, hcode, hvs, hfile⟩ := S.code
  have KX := I.kIn
  refine ks_wpAt_Expr_any (ks_wpAt_MethodCall (pl := pl) ?_ hev) hi hsw
  refine ks_wpAt_super_base hks hkc (by decide) hfu (KX _ _ lk) rfl hp hco (KX _ _ hcode) rfl hvs hfile S.top ?_
  obtain ⟨mb, b1, b2⟩ := I.mod.blt
  refine PySem.W.ks_loadName_global I.ok.kind hks (Calls.loadGlobal_builtin (v := .type "super") (by rw [I.ok.glob]; exact I.mod.glob.keeps I.bk) S.noS (by rw [I.ok.blt]; exact b1.keeps I.bk) ((b2 _ (by decide +kernel)).trans (by decide +kernel)) ⟨rfl, ?_⟩)
  refine wpAny_loadName_free I.ok.kind hkc hcl ⟨_, KX _ _ hcell, rfl⟩ ?_
  obtain ⟨m, hn, hloc⟩ := I.loc
  obtain ⟨u, ru, hlook⟩ := hloc 0 ar.arg (.ref a) hN0 hσ (.inl hka)
  obtain rfl : u = Value.ref a := ru
  have hm : m ar.arg = some (.ref a) := by
    rcases hlook with ⟨_, z⟩ | ⟨z, _⟩
    · exact z
    · rcases z with z | z <;> rw [show X.env.kindOf ar.arg = _ from hka] at z <;> cases z
  refine wpAny_loadName_local I.ok.kind hka hn hm ?_
  obtain ⟨nm, qn, N, bs, bm, sn, sub, ab, col, dd, k0, k1, k2, k3, k5, hC, hbm⟩ := T.cls
  have hcls : PySem.W.clsIn X.K C = some { name := nm, bases := bs, mro := .ref C :: bm, ns := N, qualname := qn, hasDict := true, slotNames := sn, subclasses := sub, abstract := ab, collection := col, hasDel := false } := by unfold PySem.W.clsIn; rw [hC] <;> rfl
  obtain ⟨t1, ho⟩ := exo_at I.hok ha
  have hC' := KX _ _ hC
  have ex := S.up
  unfold PySem.W.ks_superIn at ex
  rw [hcls] at ex
  obtain ⟨hp', g, d, tk, os⟩ := s
  refine ks_wpAny_isType_cls hC' rfl ⟨rfl, ?_⟩
  refine ks_wpAny_call_super hC' rfl ho rfl (fun c z => nomatch z) (PySem.W.looks_mroIn KX S.sub) (fun h' e1 k => ?_)
  have I1 : Inv X pins σ H ⟨h', g, d, tk, os⟩ := I.kept (t' := tk) k
  have IA : PySem.W.InstAt h' a { cls := .ref C, dict := none, data := .fields #[.ref t1, .none, .none, .none, .bool false, .none] } C none := ⟨k _ _ ho, rfl, rfl, trivial⟩
  have hIs : PySem.W.Looks (model X.prog X.w) h' (isInstance (.ref a) (.type "ValueError")) true := IA.type.andThen (PySem.W.looks_subIn I1.kIn S.isB)
  refine PySem.W.kxs_getMethod PySem.W.kxs_ValueError e1 (PySem.W.looks_opaque I1.kIn S.opq) (l₀ := .ref C :: bm) (fun A Q E s k q => wpAny_bind ((PySem.W.looks_clsIn I1.kIn hcls) A _ E s k (wpAny_pure q))) rfl I1.kIn ex hIs (PySem.W.ks_ne I1.kIn IA hcls) (by decide) ?_
  have I2 : Inv X pins σ H ⟨h'.push (PySem.W.kxs_mw "ValueError.__init__" a), g, d, tk + 1, os⟩ := I1.kept (t' := tk + 1) fun b o z => Heap.get?_push_of_some _ z
  have hu : (h'.push (PySem.W.kxs_mw "ValueError.__init__" a)).get? h'.objs.size = some (PySem.W.kxs_mw "ValueError.__init__" a) := Heap.get?_push_at rfl rfl
  have hun : H h'.objs.size = none := I1.hok.fresh (Nat.le_refl _)
  have hunf : h'.objs.size ∉ X.fs ∧ h'.objs.size ≠ X.env.locals := ⟨I1.nofs (Nat.le_refl _), fun z => Nat.lt_irrefl _ (by have := I1.lt; rw [← z] at this; exact this)⟩
  have I3 : Inv X ((h'.objs.size, PySem.W.kxs_mw "ValueError.__init__" a) :: pins) σ H ⟨h'.push (PySem.W.kxs_mw "ValueError.__init__" a), g, d, tk + 1, os⟩ := I2.pins_of fun p hp => by
    rcases List.mem_cons.mp hp with rfl | hp
    · exact ⟨hu, hun, hunf.2, hunf.1, fun v z => nomatch z⟩
    · exact I2.pin p (List.mem_append_right _ hp)
  rw [he]
  refine PySem.W.kxs_callWith (i := "ValueError.__init__") (x := a) (first := []) (by show (false || (backTo p3 (starEach es X.env)).any (·.1)) = false; rw [hpl]; rfl) (evalArgs_plain ?_)
  show wpAny _ _ (spliced (backTo p3 ((false, eval e X.env) :: starEach es X.env))) _ _ _
  rw [← he]
  refine thn (hA.run p3 _ _ σ H _ I3 q) fun us s1 ⟨vs, H1, I4, r1, hl, e4, q4⟩ => ?_
  have I5 : Inv X pins σ H1 s1 := I4.pins_of fun p hp => I4.pin p (List.mem_append_right _ (.tail _ hp))
  have hu4 := (I4.pin _ (List.mem_append_right _ List.mem_cons_self)).1
  refine ⟨hu4, ?_⟩
  refine sup_bound T I5 e4 hu4 (by show us.length ≤ sizeLine; rw [← Paired.length r1, sizeLine_eq]; omega) fun s' J => ?_
  exact ⟨σ, H1, J, q4⟩
end
/-! ### the __init__ as a def -/
/-- the reading of a body that begins with super().__init__(e ..) -/
def tInit (C : Addr) (ta : TA) (tr : TS) : TS := fun D σ H => ∃ a : Addr, σ[0]? = some (some (.ref a)) ∧ H a = some (exo a C none) ∧ ta σ H fun vs H1 => vs.length ≤ 1000 ∧ H1 a = some (exo a C none) ∧ tr D σ H1
section
variable {P : Program} {w : World} {K : PySem.W.Frag} {mg : Str → Option Value} {base : Heap} {N ps : List Str} {F : NF} {f C cc : Addr} {k : Nat} {sp : Sp} {kV doc pm ct oc : Value} {an od : Option Addr} {osl : Array (Option Value)}
/-- the def's data as it stands -/
abbrev supFd (F : NF) (kV doc pm : Value) (an : Option Addr) (ct : Value) : FuncData := PySem.W.fnX F.name F.qual F.params F.body F.scope F.cl .none kV doc pm an (.ref F.c) ct
theorem fn_sup {e : Expr} {es : List Expr} {rest : List Stmt} {ar : Arg} {p0 p1 p2 p3 p4 : Pos} (lk : K.lookup f = some ⟨oc, od, .func (supFd F kV doc pm an ct), osl⟩) (hcd : PySem.W.codeIn K (.ref F.c) F.qual = true) (hcl : F.cl = [(("__class__" : Str), cc)])
    (SC : NScope N ps ["__class__"] F.scope) (T : OexC K C) (S : SupC P K mg C cc F.c) (len : ∀ vs H Q E, sp vs H Q E → vs.length = ps.length)
    (hbd : F.body = .Expr (.Call (.Attribute (.Call (.Name "super" p0) [] [] p1) "__init__" p2) (e :: es) [] p3) p4 :: rest)
    (hp : (F.params.posonlyargs ++ F.params.args).head? = some ar) (hN0 : N[0]? = some ar.arg) (hka : F.scope.names.lookup ar.arg = some .local) (hks : F.scope.names.lookup ("super" : Str) = some .globalImplicit)
    (hbody : ∀ (A : Around) (outer : List Env) (s : Shared) (H : Hp) (vs : List V) (Q : VK) (E : XK), Room k (A.deeper (envF F f s.heap.objs.size)) → sp vs H Q E →
      ∃ ta tr, PA (ncx CX0 P w K mg base N F f A outer s H E) (e :: es) ta ∧ PSs (ncx CX0 P w K mg base N F f A outer s H E) rest tr ∧ tInit C ta tr { nx := fun _ H' => Q .non H', rt := Q } (startF N vs [none]) H)
    (hev : ∀ L, ∃ pl, eval (.Call (.Attribute (.Call (.Name "super" p0) [] [] p1) "__init__" p2) (e :: es) [] p3) (envF F f L) = (do
      let ov ← attributeBase (.Call (.Name "super" p0) [] [] p1) "__init__" (envF F f L) (eval (.Call (.Name "super" p0) [] [] p1) (envF F f L))
      standAt p2.atName
      let (g, first) ← holding [ov] (getMethod ov "__init__" pl)
      callWith p3 g first (backTo p3 (starEach (e :: es) (envF F f L))) []))
    (hsw : ∀ L, swapsWith (.Call (.Attribute (.Call (.Name "super" p0) [] [] p1) "__init__" p2) (e :: es) [] p3) none p4.line (envF F f L) = pure false) (he : ∀ L, starEach (e :: es) (envF F f L) = (false, eval e (envF F f L)) :: starEach es (envF F f L))
    (hpl : ∀ L, (backTo p3 (starEach es (envF F f L))).any (·.1) = false) (hi : ∀ L, interactive (envF F f L) = false) :
    FnOk P w K mg base CX0 (k + 1) f (supFd F kV doc pm an ct) ps sp := by
  refine ⟨len, fun A outer s H args us vs Q E hr e0 hb r hsp => ?_⟩
  have hl := len _ _ _ _ hsp
  have KX : K.In s.heap := e0.mod.kin.keeps fun b o e => (e0.bs b o e).1
  have lim : s.heap.NoLimit := e0.mod.nolimit.keeps fun b o e => (e0.bs b o e).1
  obtain ⟨cl, cld, csl, hcell⟩ := S.cell
  have hcH : H cc = none := by
    have z := e0.mod.kin _ _ hcell
    exact (e0.bs _ _ z).2
  have CA : CellsAt F.cl ["__class__"] [none] s.heap H := by
    rw [hcl]
    refine ⟨rfl, fun y c h => ?_, fun x y c h1 h2 => ?_, fun i y h => ?_⟩
    · have q : y = ("__class__" : Str) ∧ c = cc := by
        simp only [List.lookup] at h
        split at h
        · rename_i z; exact ⟨by simpa using z, (Option.some.inj h).symm⟩
        · cases h
      rw [q.2]
      exact ⟨hcH, some (.ref C), ⟨_, KX _ _ hcell, rfl⟩⟩
    · have q : ∀ z, List.lookup z [(("__class__" : Str), cc)] = some c → z = ("__class__" : Str) := fun z h => by
        simp only [List.lookup] at h
        split at h
        · rename_i z; simpa using z
        · cases h
      rw [q x h1, q y h2]
    · cases i with
      | zero =>
        have q : y = ("__class__" : Str) := (Option.some.inj h).symm
        subst q
        exact ⟨cc, by simp [List.lookup], fun v z => by cases z⟩
      | succ i => simp at h
  refine ks_codeAny_call_defAt (fd := supFd F kV doc pm an ct) (body := F.body) (binds := ps.zip us) hr.depth (KX _ _ lk) rfl lim (PySem.W.codeRec_of KX hcd) rfl hb SC.nocell (fun ⟨n, _⟩ hy => SC.par n (List.of_mem_zip hy).1) (fun h₁ hns kp => ?_) SC.co SC.gen SC.kind
  obtain ⟨ta, tr, hta, htr, a, hσ, ha, q⟩ := hbody A outer s H vs Q E (hr.deeper _) hsp
  have I : Inv (ncx CX0 P w K mg base N F f A outer s H E) [] (startF N vs [none]) H { s with heap := h₁, toks := s.toks + (ps.zip us).length } := inv_startN SC hr.hd e0 hl r CA hns kp
  obtain ⟨pl, hev⟩ := hev s.heap.objs.size
  have fin : ∀ {s' : Shared} {σ' : L2.St} {H' : Hp} {v : V} {u : Value}, Inv (ncx CX0 P w K mg base N F f A outer s H E) [] σ' H' s' → L2.RelV v u → Q v H' → CE outer P w H s Q u s' :=
    fun {s' σ' H' v u} J rv q => ⟨v, H', J.os, J.bare, J.base, J.hok, rv, q⟩
  rw [hbd]
  refine ks_wpAt_execs_cons (ks_wpAt_mono (at_super (X := ncx CX0 P w K mg base N F f A outer s H E) (D := { nx := fun σ' H' => tr { nx := fun _ H' => Q .non H', rt := Q } σ' H', rt := fun _ _ => False }) (pl := pl) (f := f) (ar := ar) (fd := supFd F kV doc pm an ct) T S hks (SC.frk _ List.mem_cons_self) (by show F.cl.lookup _ = _; rw [hcl]; simp [List.lookup]) rfl rfl lk hp hN0 hka hta I hσ ha q (he _) (hpl _) (hi _) hev (hsw _)) (fun fl s' hs => ?_) fun _ _ z => z)
  cases fl with
  | ret u =>
    obtain ⟨_, _, _, _, _, z⟩ := hs
    exact z.elim
  | brk =>
    obtain ⟨_, _, _, z⟩ := hs
    exact z.elim
  | cont =>
    obtain ⟨_, _, _, z⟩ := hs
    exact z.elim
  | next =>
    obtain ⟨σ', H', J, z⟩ := hs
    refine PySem.wpAt_of_wpAny (wpAny_mono (htr.run [] s' σ' H' _ J z) (fun fl2 s2 h2 => ?_) fun _ _ y => y)
    cases fl2 with
    | ret u =>
      obtain ⟨v, σ2, H2, J2, rv, q2⟩ := h2
      exact fin J2 rv q2
    | next =>
      obtain ⟨σ2, H2, J2, q2⟩ := h2
      exact fin (v := V.non) (u := Value.none) J2 rfl q2
    | brk =>
      obtain ⟨_, _, _, q2⟩ := h2
      exact q2.elim
    | cont =>
      obtain ⟨_, _, _, q2⟩ := h2
      exact q2.elim
end
end Sc
namespace Sc
open PySem PySem.Spec PyProof.Rows L2
/-- the built-ins are not hidden -/
structure Blt (mg : Str → Option Value) : Prop where
  b_isinstance : mg "isinstance" = none
  b_len : mg "len" = none
  b_all : mg "all" = none
  b_any : mg "any" = none
  b_sum : mg "sum" = none
  b_max : mg "max" = none
  b_min : mg "min" = none
  b_int : mg "int" = none
  b_str : mg "str" = none
  b_bool : mg "bool" = none
  b_list : mg "list" = none
  b_tuple : mg "tuple" = none
  b_dict : mg "dict" = none
  b_range : mg "range" = none
  b_enumerate : mg "enumerate" = none
  b_sorted : mg "sorted" = none
  b_reversed : mg "reversed" = none
  b_zip : mg "zip" = none
  b_set : mg "set" = none
  b_ValueError : mg "ValueError" = none
/-- a def as its callers see it -/
structure Cal (P : Program) (w : World) (K : PySem.W.Frag) (mg : Str → Option Value) (base : Heap) (CX : CXT) (k : Nat) (x : Str) (ps : List Str) (sp : Sp) : Prop where
  ex : ∃ (f : Addr) (fd : FuncData), FnOk P w K mg base CX k f fd ps sp ∧ mg x = some (.ref f) ∧ PySem.W.keepIn K (.ref f) = true ∧ Binds K fd ps []
section
variable {X : Cx} {k : Nat} {x : Str} {ps : List Str} {sp : Sp} {e : Expr} {es : List Expr} {t : TA} {p pos : Pos}
theorem pe_cal (C : Cal X.prog X.w X.K X.mg X.base CX0 k x ps sp) (hr : Room k X.A) (ha : PA X (e :: es) t) (hg : Gl X x := by rfl) (hdb : (x == ("__debug__" : Str)) = false := by decide)
    (he : starEach (e :: es) X.env = (false, eval e X.env) :: starEach es X.env := by rfl) (hpl : (backTo pos (starEach es X.env)).any (·.1) = false := by rfl) : PE X (.Call (.Name x p) (e :: es) [] pos) (tCall sp [] E0 t) := by
  obtain ⟨f, fd, F, hm, hk, hb⟩ := C.ex
  exact pe_call F hr hg hm hk hb .nil pass0 ha hdb he hpl
/-- a def that may raise, where it does not -/
theorem pe_calN (C : Cal X.prog X.w X.K X.mg X.base (L2.CX X.prog X.w) k x ps sp) (hr : Room k X.A) (ha : PA X (e :: es) t) (hg : Gl X x := by rfl) (hdb : (x == ("__debug__" : Str)) = false := by decide)
    (he : starEach (e :: es) X.env = (false, eval e X.env) :: starEach es X.env := by rfl) (hpl : (backTo pos (starEach es X.env)).any (·.1) = false := by rfl) : PE X (.Call (.Name x p) (e :: es) [] pos) (tCall sp [] E0 t) := by
  obtain ⟨f, fd, F, hm, hk, hb⟩ := C.ex
  exact pe_call F hr hg hm hk hb .nil passL ha hdb he hpl
/-- a def that may raise -/
theorem pe_calX {W : WX} (C : Cal X.prog X.w X.K X.mg X.base (L2.CX X.prog X.w) k x ps sp) (hr : Room k X.A) (tk : Takes X W) (ha : PA X (e :: es) t) (hg : Gl X x := by rfl) (hdb : (x == ("__debug__" : Str)) = false := by decide)
    (he : starEach (e :: es) X.env = (false, eval e X.env) :: starEach es X.env := by rfl) (hpl : (backTo pos (starEach es X.env)).any (·.1) = false := by rfl) : PE X (.Call (.Name x p) (e :: es) [] pos) (tCallS sp (WE W) t) := by
  obtain ⟨f, fd, F, hm, hk, hb⟩ := C.ex
  exact pe_callS F hr hg hm hk hb (fun σ => passAt tk σ) ha hdb he hpl
end
/-! ### a reading that does not lean on the state within which it is asked -/
theorem pe_.re {X : Cx} {e : Expr} {t t' : TE} (h : PE X e t) (q : t = t') : PE X e t' := q ▸ h
theorem pts_.re {X : Cx} {es : List Expr} {t t' : TT} (h : PTs X es t) (q : t = t') : PTs X es t' := q ▸ h
theorem pss_.re {X : Cx} {sts : List Stmt} {t t' : TS} (h : PSs X sts t) (q : t = t') : PSs X sts t' := q ▸ h
/-- a value's truth -/
def tTru (K : PySem.W.Frag) (ta : TE) : TT := fun σ H Q => ta σ H fun x H' => ∃ k, TruV K x H' k ∧ Q k H'
theorem pt_tru {X : Cx} {a : Expr} {ta : TE} (ha : PE X a ta) (he : ∀ whole, isTrue a X.env whole = (do let v ← whole; standAt a.pos; holding [v] (truthy v))) : PT X a (tTru X.K ta) := pt_truth ha he
/-! ### lists -/
theorem take_more {α : Type} {l : List α} {i : Nat} {x : α} (h : l[i]? = some x) : l.take (i + 1) = l.take i ++ [x] := by
  rw [List.take_add_one, h]
  rfl
/-! ### heaps -/
theorem _root_.L2.Same.put {H H' : Hp} {p : Addr} {o : HO} (s : Same H H') (n : H p = none) : Same H (upd H' p o) := fun b x e => by
  rw [upd_ne (ne_of_none e n)]
  exact s b x e
theorem _root_.L2.Same.put' {H H' : Hp} {p : Addr} {o : HO} (s : Same H H') (n : H' p = none) : Same H (upd H' p o) := s.put (s.free n)
theorem _root_.L2.Same.tup {K : PySem.W.Frag} {H H' : Hp} {a : Addr} {xs : List V} (e : Same H H') (h : SqT K H a xs) : SqT K H' a xs := by
  rcases h with (h | ⟨o, h⟩) | h
  · exact .inl (.inl (e _ _ h))
  · exact .inl (.inr ⟨o, e _ _ h⟩)
  · exact .inr h
theorem sqT_new {K : PySem.W.Frag} {H : Hp} {p : Addr} {xs : List V} : SqT K (upd H p (.tup xs)) p xs := .inl (.inl upd_same)
theorem sqL_new {K : PySem.W.Frag} {H : Hp} {p : Addr} {xs : List V} : SqL K (upd H p (.lst xs)) p xs := .inl (.inl upd_same)
theorem sqT_of {K : PySem.W.Frag} {H : Hp} {p : Addr} {xs : List V} (h : H p = some (.tup xs)) : SqT K H p xs := .inl (.inl h)
theorem sqL_of {K : PySem.W.Frag} {H : Hp} {p : Addr} {xs : List V} (h : H p = some (.lst xs)) : SqL K H p xs := .inl (.inl h)
/-- a comprehension's list grows -/
theorem grow {H1 H4 : Hp} {D : Addr} {acc : Nat → List V} {i : Nat} {y : V} (nD : H1 D = none) (s : Same H1 H4) (e : H4 D = some (.lst (acc i))) (l : (acc i).length < sizeLine) (n : acc (i + 1) = acc i ++ [y]) :
    ∃ a, H4 D = some (.lst a) ∧ a.length < sizeLine ∧ (Same H1 (upd H4 D (.lst (a ++ [y]))) ∧ (upd H4 D (.lst (a ++ [y]))) D = some (.lst (acc (i + 1)))) :=
  ⟨acc i, e, l, s.put nD, by rw [upd_same, n]⟩
theorem bcase {b : Bool} {A B : Prop} (h1 : b = true → A) (h2 : b = false → B) : if b = true then A else B := by
  cases b with
  | true => exact iteT (h1 rfl)
  | false => exact iteF (h2 rfl)
/-- isinstance(x, T), T a built-in class -/
def rIsT (K : PySem.W.Frag) (T : String) : List V → Hp → VK → Prop := fun xs H Q => ∃ (x : V) (t : String) (b : Bool), xs = [x, .ty T] ∧ TyOf K H x (.type t) ∧ kitB t T = some b ∧ Q (.bl b) H
theorem call_isT {X : Cx} (T : String) : CallR X (.builtin "isinstance") (rIsT X.K T) := by
  intro pins s σ H xs us Q I r h
  obtain ⟨x, t, b, ex, ht, hb, q⟩ := h
  exact call_isi pins s σ H xs us Q I r ⟨_, _, _, _, _, ex, .ty _, .base ht, kit_ty hb, q⟩
/-- a comprehension without a test -/
theorem yes_ {σ : L2.St} {H : Hp} {A : Hp → Prop} {B : Hp → Prop} (h : A H) : tYes σ H fun b H3 => if b = true then A H3 else B H3 := by
  show (if true = true then A H else B H)
  rw [if_pos rfl]
  exact h
/-- as many slots as names -/
theorem takes_len {X : Cx} {W : WX} (tk : Takes X W) : Takes X (fun cls d σ H => σ.length = X.N.length → W cls d σ H) := fun u s' ⟨a, B, sI, pins, σ, H, cls, d, e, I, nb, up, sky, na, os, ag, w⟩ =>
  tk u s' ⟨a, B, sI, pins, σ, H, cls, d, e, I, nb, up, sky, na, os, ag, w I.len⟩
/-! ### walks -/
theorem walk_enumT {K : PySem.W.Frag} {a : Addr} {xs : List V} : Walk (IteT K a) xs.length (fun H => SqT K H a xs) (YPair (fun i => some (.int (i : Nat))) (fun i => xs[i]?)) := by
  refine ⟨fun i _ hi q => ⟨xs, xs[i], q, by simp [hi]⟩, fun _ q => ⟨xs, q, Nat.le_refl _⟩, fun i H v H' _ q y => ?_⟩
  obtain ⟨T, x, h1, h2, h3, h4⟩ := y
  exact ⟨T, .int (i : Nat), x, h1, h2, h3, rfl, h4 xs q⟩
/-! ### list.count of truth values -/
section
variable {X : Cx}
theorem countP_eqU {x : V} : ∀ {xs : List V} {us : List Value}, Vals xs us → xs.all flatV = true → us.countP (eqU x) = xs.countP fun y => eqV y x
  | _, _, .nil, _ => rfl
  | y :: xs, u :: us, .cons r t, f => by
    rw [List.all_cons, Bool.and_eq_true] at f
    rw [List.countP_cons, List.countP_cons, eqU_of r f.1, countP_eqU t f.2]
def rCount (K : PySem.W.Frag) : V → List V → Hp → VK → Prop := fun x xs H Q => ∃ (p : Addr) (ys : List V) (y : V), x = .ref p ∧ xs = [y] ∧ SqL K H p ys ∧ flatV y = true ∧ ys.all flatV = true ∧ Q (.int (ys.countP (fun z => eqV z y) : Nat)) H
theorem mt_lcountB : MtR X "list.count" (rCount X.K) := by
  intro pins s σ H x xs v us Q I rx rxs h
  obtain ⟨p, ys, y, rfl, rfl, hs, fy, fys, q⟩ := h
  cases rx
  cases rxs with
  | cons ry rt =>
    rename_i uy ut
    cases rt
    obtain ⟨its, rv, ⟨⟨cls, dd, data, sl⟩, n, ho, hc, hdn, hd⟩, hlen⟩ := I.list hs
    simp only at hc hd
    subst hc hd
    refine call_meets PySem.F.slot_list_count ⟨_, ho, rfl⟩ PySem.F.entry_list_count (PySem.F.args_list_count_2 _ _)
      (SeqAt.list_countAt p its.toArray n dd sl uy (eqU y)) ⟨ho, fun u' hu' => mem_eqAt ry fy rv fys u' (by simpa using hu'), ?_⟩
    have ec : its.toArray.toList.countP (eqU y) = ys.countP fun z => eqV z y := countP_eqU rv fys
    refine ⟨.int (ys.countP (fun z => eqV z y) : Nat), H, I.tok _, ⟨s.toks, ?_⟩, q⟩
    show Value.int ((its.toArray.toList.countP (eqU y) : Nat) : Int) s.toks = Value.int ((ys.countP (fun z => eqV z y) : Nat) : Int) s.toks
    rw [ec]
end
/-! ### the caught error, whatever it bears -/
/-- an own class of errors, as isinstance and the reading of a field ask for it -/
structure ErrC (K : PySem.W.Frag) (D : Addr) : Prop where
  cl : (PySem.W.clsIn K D).isSome = true
  ga : PySem.W.findIn K (.ref D) "__getattribute__" = some (some (.builtin "BaseException.__getattribute__"))
  gt : PySem.W.findIn K (.ref D) "__getattr__" = some none
  be : PySem.W.subIn K (.ref D) (.type "BaseException") = some true
  kc : PySem.W.findIn K (.ref D) "__class__" = some (some (.builtin "object.__class__"))
  sg : PySem.W.specialIn K (.builtin "object.__class__") "__get__" = some (some (.builtin "getset_descriptor.__get__"))
  tk : PySem.W.takesIn K (.builtin "object.__class__") = some true
  ob : PySem.W.mroIn K D (.type "object") = some true
  hd : PySem.W.hasDictIn K D = true
def errB (K : PySem.W.Frag) (D : Addr) : Bool :=
  (PySem.W.clsIn K D).isSome && (decide (PySem.W.findIn K (.ref D) "__getattribute__" = some (some (.builtin "BaseException.__getattribute__"))) && (decide (PySem.W.findIn K (.ref D) "__getattr__" = some none) &&
  (decide (PySem.W.subIn K (.ref D) (.type "BaseException") = some true) && (decide (PySem.W.findIn K (.ref D) "__class__" = some (some (.builtin "object.__class__"))) &&
  (decide (PySem.W.specialIn K (.builtin "object.__class__") "__get__" = some (some (.builtin "getset_descriptor.__get__"))) && (decide (PySem.W.takesIn K (.builtin "object.__class__") = some true) &&
  (decide (PySem.W.mroIn K D (.type "object") = some true) && PySem.W.hasDictIn K D)))))))
theorem errC_of {K : PySem.W.Frag} {D : Addr} (h : errB K D = true) : ErrC K D := by
  unfold errB at h
  simp only [Bool.and_eq_true, decide_eq_true_eq] at h
  obtain ⟨h1, h2, h3, h4, h5, h6, h7, h8, h9⟩ := h
  exact ⟨h1, h2, h3, h4, h5, h6, h7, h8, h9⟩
section
variable {X : Cx} {a : Addr} {cls : Value} {oe : Obj} {pn : List (Addr × Obj)} {d : Option Addr}
theorem err_inst {D : Addr} {h : Heap} (hz : Zc (.ref D) d oe) (hf : ∃ vs, oe.data = .fields vs) (hget : h.get? a = some oe) (hd : ∀ dd, d = some dd → ∃ od, h.get? dd = some od) : ∃ od, PySem.W.InstAt h a oe D od := by
  obtain ⟨oc, odd, oda, osl⟩ := oe
  obtain ⟨h1, h2⟩ := hz
  obtain ⟨vs, hv⟩ := hf
  dsimp only at h1 h2 hv
  subst h1 h2 hv
  cases odd with
  | none => exact ⟨none, hget, rfl, rfl, trivial⟩
  | some dd =>
    obtain ⟨od, ho⟩ := hd dd rfl
    exact ⟨some od, hget, rfl, rfl, ho⟩
/-- its dict stands, where it has one -/
def XdOk (d : Option Addr) (H : Hp) : Prop := ∀ dd, d = some dd → ∃ fs, H dd = some (.xd fs)
def rIsG (K : PySem.W.Frag) (a : Addr) (cls : Value) (d : Option Addr) : List V → Hp → VK → Prop := fun xs H Q =>
  ∃ (D : Addr) (c : V) (cv : Value) (b : Bool), cls = .ref D ∧ ErrC K D ∧ XdOk d H ∧ xs = [.ref a, c] ∧ (∀ u, RelV c u → u = cv) ∧ PySem.W.kitOne K (.ref D) cv = some b ∧ Q (.bl b) H
theorem call_isG (hz : Zc cls d oe) (hf : ∃ vs, oe.data = .fields vs) : CallR (X.suite a ((a, oe) :: pn)) (.builtin "isinstance") (rIsG X.K a cls d) := by
  intro pins s σ H xs us Q I r h
  obtain ⟨D, c, cv, b, ec, C, hx, rfl, hcv, e, q⟩ := h
  subst ec
  obtain ⟨u1, u2, rfl, r1, r2⟩ := vals2 r
  obtain rfl : u1 = Value.ref a := r1
  have e2 := hcv _ r2
  subst e2
  obtain ⟨hget, _⟩ := I.pin (a, oe) (List.mem_append_left _ List.mem_cons_self)
  obtain ⟨od, J⟩ := err_inst (h := s.heap) hz hf hget fun dd ed => by
    obtain ⟨fs, e⟩ := hx dd ed
    obtain ⟨mA, ⟨o, _, _, ho, _⟩, _⟩ := (show ObjOk X.prog X.w H s.heap dd (.xd fs) from I.hok dd _ e)
    exact ⟨o, ho⟩
  exact PySem.W.kia_one (PySem.W.kitx_exc C.cl C.ga C.gt C.be C.kc C.sg C.tk C.ob) I.kIn J e (fun z => nomatch z) fun tk => ⟨.bl b, H, I.kept (t' := tk) fun _ _ z => z, rfl, q⟩
/-- e.n, e the error that the suite holds -/
def tXg (K : PySem.W.Frag) (a : Addr) (cls : Value) (d : Option Addr) (n : Str) (te : TE) : TE := fun σ H Q => te σ H fun x H1 => x = .ref a ∧ ∃ (D dd : Addr) (fs : List (Str × V)) (v : V), cls = .ref D ∧ ErrC K D ∧ PySem.W.findIn K (.ref D) n = some none ∧ d = some dd ∧ H1 dd = some (.xd fs) ∧ fs.lookup n = some v ∧ Q v H1
theorem pe_xg {e : Expr} {te : TE} {pos : Pos} {n : Str} (hz : Zc cls d oe) (hf : ∃ vs, oe.data = .fields vs) (he : PE (X.suite a ((a, oe) :: pn)) e te) (hb : attributeBase e n X.env (eval e X.env) = eval e X.env := by rfl) :
    PE (X.suite a ((a, oe) :: pn)) (.Attribute e n pos) (tXg X.K a cls d n te) := by
  refine ⟨fun pins s σ H Q I h => attr_of hb (thn (he.run pins s σ H _ I h) fun u s1 hh => ?_)⟩
  obtain ⟨x, H1, I1, rx, ex, D, dd, fs, v, ec, C, hno, ed, ea, l, q⟩ := hh
  subst ex ec ed
  obtain rfl : u = Value.ref a := rx
  obtain ⟨ha, _⟩ := I1.pin (a, oe) (List.mem_append_left _ List.mem_cons_self)
  obtain ⟨vs, hd⟩ := hf
  obtain ⟨mA, hns, hr⟩ := (show ObjOk X.prog X.w H1 s1.heap dd (.xd fs) from I1.hok dd _ ea)
  obtain ⟨od, ho, hl⟩ := lookIn_ns hns
  obtain ⟨u, hu, ru⟩ := RelO.some_of (v := v) (o := mA n) (by rw [← l]; exact hr n)
  have J : PySem.W.InstAt s1.heap a oe D (some od) := ⟨ha, hz.1, by unfold PySem.W.notCls; rw [hd] <;> rfl, by rw [hz.2]; exact ho⟩
  exact HandSPX.exc_get I1.kIn J C.ga C.gt C.be (PySem.W.findObj_own C.hd hno rfl (by rw [hl, hu])) (handed_of ru) ⟨v, H1, I1.tok _, ru, q⟩
end
end Sc
namespace Sc
open PySem PySem.Spec PyProof.Rows L2 NdefX
/-! ### own errors with fields, made and raised -/
/-- what an f-string takes -/
def FOk : V → Prop
  | .int i => i.natAbs.log2 < 1920
  | .str z => z.length ≤ 1000000
  | _ => False
theorem fmt_at {y : V} {R : Str → Prop} (ok : FOk y) (q : ∀ z : Str, z.length ≤ 1000000 → R z) : (∃ z : Str, y = .str z ∧ z.length ≤ sizeLine ∧ R z) ∨ ∃ i : Int, y = .int i ∧ i.natAbs.log2 < 1920 ∧ R (toString i) := by
  cases y with
  | str z => exact .inl ⟨z, rfl, Nat.le_trans ok (by rw [sizeLine_eq]; decide), q z ok⟩
  | int i =>
    refine .inr ⟨i, rfl, ok, q _ ?_⟩
    have e : (PySem.Str.ofString (toString i)).length ≤ 1921 := int_text_len_1921 ok
    exact Nat.le_trans e (by decide)
  | _ => exact ok.elim
theorem fok_nat {i : Nat} (hi : i ≤ 1000) : FOk (.int (i : Nat)) := by
  show (i : Int).natAbs.log2 < 1920
  have e1 : (i : Int).natAbs = i := rfl
  rw [e1]
  by_cases h0 : i = 0
  · subst h0
    decide
  · have := (Nat.log2_lt h0 (k := 10)).mpr (Nat.lt_of_le_of_lt hi (by decide))
    omega
theorem app_len {a b : Str} : (a ++ b).length = a.length + b.length := by
  show (a.cps ++ b.cps).size = a.cps.size + b.cps.size
  exact Array.size_append
/-- a rule of arguments, its reading made monotone -/
theorem pa_mono {X : Cx} {es : List Expr} {ta : TA} (h : PA X es ta) : PA X es (fun σ H Q => ∃ R, ta σ H R ∧ ∀ vs H1, R vs H1 → Q vs H1) := by
  refine ⟨fun pos pins s σ H Q I ⟨R, q, k⟩ => wpAny_mono (h.run pos pins s σ H R I q) (fun us s1 ⟨vs, H1, J, r, z⟩ => ⟨vs, H1, J, r, k vs H1 z⟩) fun _ _ z => z⟩
/-- the promise of an __init__ that keeps its fields fs, in their order -/
def sp_init1 (C : Addr) (f : Str) : Sp := fun vs H Q _ => ∃ (a : Addr) (y : V), vs = [.ref a, y] ∧ H a = some (exo a C none) ∧ FOk y ∧ ∀ dx, H dx = none → dx ≠ a → Q .non (upd (upd H dx (exd dx [(f, y)])) a (exo a C (some dx)))
def sp_init2 (C : Addr) (f g : Str) : Sp := fun vs H Q _ => ∃ (a : Addr) (y z : V), vs = [.ref a, y, z] ∧ H a = some (exo a C none) ∧ FOk y ∧ FOk z ∧
  ∀ dx, H dx = none → dx ≠ a → Q .non (upd (upd (upd H dx (exd dx [(f, y)])) a (exo a C (some dx))) dx (exd dx [(g, z), (f, y)]))
/-- the class x at C, its __init__ keeping sp -/
structure ErrMk (P : Program) (w : World) (K : PySem.W.Frag) (mg : Str → Option Value) (base : Heap) (x : Str) (C : Addr) (ps : List Str) (sp : Sp) : Prop where
  ex : ∃ (fI : Addr) (fd : FuncData), OexC K C ∧ PySem.W.findIn K (.ref C) "__init__" = some (some (.ref fI)) ∧ PySem.W.typeIn K (.ref fI) = some (.type "function") ∧ FnOk P w K mg base CX0 1 fI fd ps sp ∧ Binds K fd ps [] ∧ mg x = some (.ref C)
theorem let_go {H : Hp} {a d : Addr} {o o' u : HO} (n : H a = none) (ne : d ≠ a) : upd (del (upd (upd H d u) a o) a) d o' = upd H d o' := by
  funext b
  by_cases hd : b = d
  · rw [hd, upd_same, upd_same]
  · rw [upd_ne hd, upd_ne hd]
    by_cases ha : b = a
    · rw [ha, del_same, n]
    · rw [del_ne ha, upd_ne ha, upd_ne hd]
section
variable {X : Cx} {x f g : Str} {C : Addr} {ps : List Str} {e e2 : Expr} {te te2 : TE} {p pos : Pos}
/-- x(e): an error whose own dict, new, holds the field -/
def tErr1 (C : Addr) (f : Str) (te : TE) : L2.St → Hp → XK → Prop := fun σ H Q => te σ H fun y H1 => FOk y ∧ ∀ d, H1 d = none → Q (.ref C) (some d) (upd H1 d (.xd [(f, y)]))
theorem pmk_err1 (M : ErrMk X.prog X.w X.K X.mg X.base x C ps (sp_init1 C f)) (hr : Room 2 X.A) (he : PE X e te) (hg : Gl X x := by rfl) (hdb : (x == ("__debug__" : Str)) = false := by decide)
    (hs : starEach [e] X.env = (false, eval e X.env) :: starEach [] X.env := by rfl) : PMk X (.Call (.Name x p) [e] [] pos) (tErr1 C f te) := by
  obtain ⟨fI, fd, T, iC, tI, F, hb, hm⟩ := M.ex
  intro pins s σ H Q I h
  refine pmk_oex (CX := CX0) T iC tI F hr hb .nil (fun _ _ _ _ _ _ _ z => z.elim) hg hm (pa_mono (pa_cons he pa_nil hs)) hdb hs rfl pins s σ H Q I ?_
  refine ⟨fun vs H1 => match vs with
    | [y] => FOk y ∧ ∀ d, H1 d = none → Q (.ref C) (some d) (upd H1 d (.xd [(f, y)]))
    | _ => False, h, fun vs H1 r => ?_⟩
  match vs, r with
  | [y], ⟨ok, q⟩ =>
    refine ⟨by simp, fun a na => ⟨a, y, rfl, upd_same, ok, fun dx nd ne => ⟨rfl, dx, _, upd_same, by rw [upd_ne ne, upd_same], ?_, ?_⟩⟩⟩
    · rw [upd_ne ne] at nd
      exact nd
    · rw [upd_ne ne] at nd
      have e1 : upd (upd (upd H1 a (exo a C none)) dx (exd dx [(f, y)])) a (exo a C (some dx)) = upd (upd H1 dx (exd dx [(f, y)])) a (exo a C (some dx)) := by
        funext b
        by_cases ha : b = a
        · rw [ha, upd_same, upd_same]
        · rw [upd_ne ha, upd_ne ha]
          by_cases hb : b = dx
          · rw [hb, upd_same, upd_same]
          · rw [upd_ne hb, upd_ne hb, upd_ne ha]
      rw [e1, let_go na ne]
      exact q dx nd
/-- x(e, e2): two fields -/
def tErr2 (C : Addr) (f g : Str) (te te2 : TE) : L2.St → Hp → XK → Prop := fun σ H Q => te σ H fun y H0 => te2 σ H0 fun z H1 => (FOk y ∧ FOk z) ∧ ∀ d, H1 d = none → Q (.ref C) (some d) (upd H1 d (.xd [(g, z), (f, y)]))
theorem pmk_err2 (M : ErrMk X.prog X.w X.K X.mg X.base x C ps (sp_init2 C f g)) (hr : Room 2 X.A) (he : PE X e te) (he2 : PE X e2 te2) (hg : Gl X x := by rfl) (hdb : (x == ("__debug__" : Str)) = false := by decide)
    (hs : starEach [e, e2] X.env = (false, eval e X.env) :: starEach [e2] X.env := by rfl) (hs2 : starEach [e2] X.env = (false, eval e2 X.env) :: starEach [] X.env := by rfl) (hpl : (backTo pos (starEach [e2] X.env)).any (·.1) = false := by rfl) :
    PMk X (.Call (.Name x p) [e, e2] [] pos) (tErr2 C f g te te2) := by
  obtain ⟨fI, fd, T, iC, tI, F, hb, hm⟩ := M.ex
  intro pins s σ H Q I h
  refine pmk_oex (CX := CX0) T iC tI F hr hb .nil (fun _ _ _ _ _ _ _ z => z.elim) hg hm (pa_mono (pa_cons he (pa_cons he2 pa_nil hs2) hs)) hdb hs hpl pins s σ H Q I ?_
  refine ⟨fun vs H1 => match vs with
    | [y, z] => (FOk y ∧ FOk z) ∧ ∀ d, H1 d = none → Q (.ref C) (some d) (upd H1 d (.xd [(g, z), (f, y)]))
    | _ => False, h, fun vs H1 r => ?_⟩
  match vs, r with
  | [y, z], ⟨⟨ok, ok2⟩, q⟩ =>
    refine ⟨by simp, fun a na => ⟨a, y, z, rfl, upd_same, ok, ok2, fun dx nd ne => ⟨rfl, dx, _, by rw [upd_ne ne.symm, upd_same], upd_same, ?_, ?_⟩⟩⟩
    · rw [upd_ne ne] at nd
      exact nd
    · rw [upd_ne ne] at nd
      have e1 : upd (del (upd (upd (upd (upd H1 a (exo a C none)) dx (exd dx [(f, y)])) a (exo a C (some dx))) dx (exd dx [(g, z), (f, y)])) a) dx (.xd [(g, z), (f, y)]) = upd H1 dx (.xd [(g, z), (f, y)]) := by
        funext b
        by_cases hb : b = dx
        · rw [hb, upd_same, upd_same]
        · rw [upd_ne hb, upd_ne hb]
          by_cases ha : b = a
          · rw [ha, del_same, na]
          · rw [del_ne ha, upd_ne hb, upd_ne ha, upd_ne hb, upd_ne ha]
      rw [e1]
      exact q dx nd
/-- the class x at C, without an __init__ of its own -/
structure ErrMk0 (K : PySem.W.Frag) (mg : Str → Option Value) (x : Str) (C : Addr) : Prop where
  q : PySem.W.excIn K C [.type "ValueError", .type "Exception", .type "BaseException", .type "object"] "ValueError.__new__" = true
  g : mg x = some (.ref C)
  k : PySem.W.keepIn K (.ref C) = true
  b : PySem.W.subIn K (.ref C) (.type "BaseException") = some true
  t : PySem.W.typeIn K (.ref C) = some (.type "type")
theorem pmk_err0 {m : Str} {j : Nat} {p2 : Pos} (M : ErrMk0 X.K X.mg x C) (hg : Gl X x := by rfl) (hdb : (x == ("__debug__" : Str)) = false := by decide) :
    PMk X (.Call (.Name x p) [.Constant (.str m) j p2] [] pos) (fun _ H Q => Q (.ref C) none H) := pmk_own PySem.F.excBase_ValueError M.q M.g M.k (raises_own M.b M.t) hg hdb
end
end Sc
namespace Sc
open PySem PySem.Spec PyProof.Rows L2 NdefX
section
variable {P : Program} {w : World} {K : PySem.W.Frag} {mg : Str → Option Value} {base : Heap}
theorem sc_init_InvalidFacts : NScope ["self", "index", "__class__"] ["self", "index"] ["__class__"] (defScope (inClass (topS 3) 0)) := nscope_by (by decide +kernel)
theorem ok_init_InvalidFacts {fI C cc c : Addr} {oc kV doc pm ct : Value} {od an : Option Addr} {osl : Array (Option Value)} (lk : K.lookup fI = some ⟨oc, od, .func (supFd (nf_InvalidFacts cc c) kV doc pm an ct), osl⟩)
    (hcd : PySem.W.codeIn K (.ref c) "InvalidFacts.__init__" = true) (T : OexC K C) (S : SupC P K mg C cc c) (n0 : PySem.W.findIn K (.ref C) "index" = some none) : FnOk P w K mg base CX0 1 fI (supFd (nf_InvalidFacts cc c) kV doc pm an ct) ["self", "index"] (sp_init1 C "index") := by
  refine fn_sup (N := ["self", "index", "__class__"]) (ps := ["self", "index"]) lk hcd rfl sc_init_InvalidFacts T S (fun vs H Q E h => ?_) rfl rfl rfl rfl rfl (fun A outer s H vs Q E hr h => ?_) (fun L => ⟨_, rfl⟩) (fun L => rfl) (fun L => rfl) (fun L => rfl) (fun L => rfl)
  · obtain ⟨a, y0, rfl, ha, ok0, q⟩ := h
    rfl
  · obtain ⟨a, y0, rfl, ha, ok0, q⟩ := h
    refine ⟨_, _, pa_cons (pe_joined (PJ.cons pe_str (PJ.cons (pe_fmt (pv 1)) PJ.nil))) pa_nil, pss_one (ps_ost (pv 0) (pv 1)), a, rfl, ha, ?_⟩
    refine ⟨_, rfl, (by rw [sizeLine_eq]; simp only [app_len]; have e0 : Str.empty.length = 0 := rfl; have e1 : (("wrong fact at index " : Str)).length = 20 := (by decide +kernel); omega), ⟨y0, rfl, fmt_at ok0 fun z0 hz0 => ⟨_, rfl, (by rw [sizeLine_eq]; simp only [app_len]; have e0 : Str.empty.length = 0 := rfl; have e1 : (("wrong fact at index " : Str)).length = 20 := (by decide +kernel); omega), ⟨by simp, ha, y0, rfl, .ref a, rfl, a, C, rfl, T, n0, .inl ⟨ha, fun dx nd ne => q dx nd ne⟩⟩⟩⟩⟩

theorem sc_init_InvalidCase : NScope ["self", "index", "__class__"] ["self", "index"] ["__class__"] (defScope (inClass (topS 4) 0)) := nscope_by (by decide +kernel)
theorem ok_init_InvalidCase {fI C cc c : Addr} {oc kV doc pm ct : Value} {od an : Option Addr} {osl : Array (Option Value)} (lk : K.lookup fI = some ⟨oc, od, .func (supFd (nf_InvalidCase cc c) kV doc pm an ct), osl⟩)
    (hcd : PySem.W.codeIn K (.ref c) "InvalidCase.__init__" = true) (T : OexC K C) (S : SupC P K mg C cc c) (n0 : PySem.W.findIn K (.ref C) "index" = some none) : FnOk P w K mg base CX0 1 fI (supFd (nf_InvalidCase cc c) kV doc pm an ct) ["self", "index"] (sp_init1 C "index") := by
  refine fn_sup (N := ["self", "index", "__class__"]) (ps := ["self", "index"]) lk hcd rfl sc_init_InvalidCase T S (fun vs H Q E h => ?_) rfl rfl rfl rfl rfl (fun A outer s H vs Q E hr h => ?_) (fun L => ⟨_, rfl⟩) (fun L => rfl) (fun L => rfl) (fun L => rfl) (fun L => rfl)
  · obtain ⟨a, y0, rfl, ha, ok0, q⟩ := h
    rfl
  · obtain ⟨a, y0, rfl, ha, ok0, q⟩ := h
    refine ⟨_, _, pa_cons (pe_joined (PJ.cons pe_str (PJ.cons (pe_fmt (pv 1)) PJ.nil))) pa_nil, pss_one (ps_ost (pv 0) (pv 1)), a, rfl, ha, ?_⟩
    refine ⟨_, rfl, (by rw [sizeLine_eq]; simp only [app_len]; have e0 : Str.empty.length = 0 := rfl; have e1 : (("wrong name in the case at index " : Str)).length = 32 := (by decide +kernel); omega), ⟨y0, rfl, fmt_at ok0 fun z0 hz0 => ⟨_, rfl, (by rw [sizeLine_eq]; simp only [app_len]; have e0 : Str.empty.length = 0 := rfl; have e1 : (("wrong name in the case at index " : Str)).length = 32 := (by decide +kernel); omega), ⟨by simp, ha, y0, rfl, .ref a, rfl, a, C, rfl, T, n0, .inl ⟨ha, fun dx nd ne => q dx nd ne⟩⟩⟩⟩⟩

theorem sc_init_InvalidCondition : NScope ["self", "part", "index", "__class__"] ["self", "part", "index"] ["__class__"] (defScope (inClass (topS 5) 0)) := nscope_by (by decide +kernel)
theorem ok_init_InvalidCondition {fI C cc c : Addr} {oc kV doc pm ct : Value} {od an : Option Addr} {osl : Array (Option Value)} (lk : K.lookup fI = some ⟨oc, od, .func (supFd (nf_InvalidCondition cc c) kV doc pm an ct), osl⟩)
    (hcd : PySem.W.codeIn K (.ref c) "InvalidCondition.__init__" = true) (T : OexC K C) (S : SupC P K mg C cc c) (n0 : PySem.W.findIn K (.ref C) "part" = some none) (n1 : PySem.W.findIn K (.ref C) "index" = some none) : FnOk P w K mg base CX0 1 fI (supFd (nf_InvalidCondition cc c) kV doc pm an ct) ["self", "part", "index"] (sp_init2 C "part" "index") := by
  refine fn_sup (N := ["self", "part", "index", "__class__"]) (ps := ["self", "part", "index"]) lk hcd rfl sc_init_InvalidCondition T S (fun vs H Q E h => ?_) rfl rfl rfl rfl rfl (fun A outer s H vs Q E hr h => ?_) (fun L => ⟨_, rfl⟩) (fun L => rfl) (fun L => rfl) (fun L => rfl) (fun L => rfl)
  · obtain ⟨a, y0, y1, rfl, ha, ok0, ok1, q⟩ := h
    rfl
  · obtain ⟨a, y0, y1, rfl, ha, ok0, ok1, q⟩ := h
    refine ⟨_, _, pa_cons (pe_joined (PJ.cons pe_str (PJ.cons (pe_fmt (pv 1)) (PJ.cons pe_str (PJ.cons (pe_fmt (pv 2)) PJ.nil))))) pa_nil, pss_cons (ps_ost (pv 0) (pv 1)) (pss_one (ps_ost (pv 0) (pv 2))), a, rfl, ha, ?_⟩
    refine ⟨_, rfl, (by rw [sizeLine_eq]; simp only [app_len]; have e0 : Str.empty.length = 0 := rfl; have e1 : (("wrong name in part " : Str)).length = 19 := (by decide +kernel); have e2 : ((" of the condition at index " : Str)).length = 27 := (by decide +kernel); omega), ⟨y0, rfl, fmt_at ok0 fun z0 hz0 => ⟨_, rfl, (by rw [sizeLine_eq]; simp only [app_len]; have e0 : Str.empty.length = 0 := rfl; have e1 : (("wrong name in part " : Str)).length = 19 := (by decide +kernel); have e2 : ((" of the condition at index " : Str)).length = 27 := (by decide +kernel); omega), ⟨_, rfl, (by rw [sizeLine_eq]; simp only [app_len]; have e0 : Str.empty.length = 0 := rfl; have e1 : (("wrong name in part " : Str)).length = 19 := (by decide +kernel); have e2 : ((" of the condition at index " : Str)).length = 27 := (by decide +kernel); omega), ⟨y1, rfl, fmt_at ok1 fun z1 hz1 => ⟨_, rfl, (by rw [sizeLine_eq]; simp only [app_len]; have e0 : Str.empty.length = 0 := rfl; have e1 : (("wrong name in part " : Str)).length = 19 := (by decide +kernel); have e2 : ((" of the condition at index " : Str)).length = 27 := (by decide +kernel); omega), ⟨by simp, ha, y0, rfl, .ref a, rfl, a, C, rfl, T, n0, .inl ⟨ha, fun dx nd ne => ⟨y1, rfl, .ref a, rfl, a, C, rfl, T, n1, .inr ⟨dx, _, upd_same, by rw [upd_ne ne, upd_same], by simp, q dx nd ne⟩⟩⟩⟩⟩⟩⟩⟩⟩⟩

theorem sc_init_InvalidRule : NScope ["self", "part", "__class__"] ["self", "part"] ["__class__"] (defScope (inClass (topS 7) 0)) := nscope_by (by decide +kernel)
theorem ok_init_InvalidRule {fI C cc c : Addr} {oc kV doc pm ct : Value} {od an : Option Addr} {osl : Array (Option Value)} (lk : K.lookup fI = some ⟨oc, od, .func (supFd (nf_InvalidRule cc c) kV doc pm an ct), osl⟩)
    (hcd : PySem.W.codeIn K (.ref c) "InvalidRule.__init__" = true) (T : OexC K C) (S : SupC P K mg C cc c) (n0 : PySem.W.findIn K (.ref C) "part" = some none) : FnOk P w K mg base CX0 1 fI (supFd (nf_InvalidRule cc c) kV doc pm an ct) ["self", "part"] (sp_init1 C "part") := by
  refine fn_sup (N := ["self", "part", "__class__"]) (ps := ["self", "part"]) lk hcd rfl sc_init_InvalidRule T S (fun vs H Q E h => ?_) rfl rfl rfl rfl rfl (fun A outer s H vs Q E hr h => ?_) (fun L => ⟨_, rfl⟩) (fun L => rfl) (fun L => rfl) (fun L => rfl) (fun L => rfl)
  · obtain ⟨a, y0, rfl, ha, ok0, q⟩ := h
    rfl
  · obtain ⟨a, y0, rfl, ha, ok0, q⟩ := h
    refine ⟨_, _, pa_cons (pe_joined (PJ.cons pe_str (PJ.cons (pe_fmt (pv 1)) (PJ.cons pe_str PJ.nil)))) pa_nil, pss_one (ps_ost (pv 0) (pv 1)), a, rfl, ha, ?_⟩
    refine ⟨_, rfl, (by rw [sizeLine_eq]; simp only [app_len]; have e0 : Str.empty.length = 0 := rfl; have e1 : (("wrong " : Str)).length = 6 := (by decide +kernel); have e2 : ((" of a rule" : Str)).length = 10 := (by decide +kernel); omega), ⟨y0, rfl, fmt_at ok0 fun z0 hz0 => ⟨_, rfl, (by rw [sizeLine_eq]; simp only [app_len]; have e0 : Str.empty.length = 0 := rfl; have e1 : (("wrong " : Str)).length = 6 := (by decide +kernel); have e2 : ((" of a rule" : Str)).length = 10 := (by decide +kernel); omega), ⟨_, rfl, (by rw [sizeLine_eq]; simp only [app_len]; have e0 : Str.empty.length = 0 := rfl; have e1 : (("wrong " : Str)).length = 6 := (by decide +kernel); have e2 : ((" of a rule" : Str)).length = 10 := (by decide +kernel); omega), ⟨by simp, ha, y0, rfl, .ref a, rfl, a, C, rfl, T, n0, .inl ⟨ha, fun dx nd ne => q dx nd ne⟩⟩⟩⟩⟩⟩

theorem sc_init_InvalidBook : NScope ["self", "word", "index", "__class__"] ["self", "word", "index"] ["__class__"] (defScope (inClass (topS 8) 0)) := nscope_by (by decide +kernel)
theorem ok_init_InvalidBook {fI C cc c : Addr} {oc kV doc pm ct : Value} {od an : Option Addr} {osl : Array (Option Value)} (lk : K.lookup fI = some ⟨oc, od, .func (supFd (nf_InvalidBook cc c) kV doc pm an ct), osl⟩)
    (hcd : PySem.W.codeIn K (.ref c) "InvalidBook.__init__" = true) (T : OexC K C) (S : SupC P K mg C cc c) (n0 : PySem.W.findIn K (.ref C) "word" = some none) (n1 : PySem.W.findIn K (.ref C) "index" = some none) : FnOk P w K mg base CX0 1 fI (supFd (nf_InvalidBook cc c) kV doc pm an ct) ["self", "word", "index"] (sp_init2 C "word" "index") := by
  refine fn_sup (N := ["self", "word", "index", "__class__"]) (ps := ["self", "word", "index"]) lk hcd rfl sc_init_InvalidBook T S (fun vs H Q E h => ?_) rfl rfl rfl rfl rfl (fun A outer s H vs Q E hr h => ?_) (fun L => ⟨_, rfl⟩) (fun L => rfl) (fun L => rfl) (fun L => rfl) (fun L => rfl)
  · obtain ⟨a, y0, y1, rfl, ha, ok0, ok1, q⟩ := h
    rfl
  · obtain ⟨a, y0, y1, rfl, ha, ok0, ok1, q⟩ := h
    refine ⟨_, _, pa_cons (pe_joined (PJ.cons pe_str (PJ.cons (pe_fmt (pv 1)) (PJ.cons pe_str (PJ.cons (pe_fmt (pv 2)) PJ.nil))))) pa_nil, pss_cons (ps_ost (pv 0) (pv 1)) (pss_one (ps_ost (pv 0) (pv 2))), a, rfl, ha, ?_⟩
    refine ⟨_, rfl, (by rw [sizeLine_eq]; simp only [app_len]; have e0 : Str.empty.length = 0 := rfl; have e1 : (("wrong book by " : Str)).length = 14 := (by decide +kernel); have e2 : ((" at index " : Str)).length = 10 := (by decide +kernel); omega), ⟨y0, rfl, fmt_at ok0 fun z0 hz0 => ⟨_, rfl, (by rw [sizeLine_eq]; simp only [app_len]; have e0 : Str.empty.length = 0 := rfl; have e1 : (("wrong book by " : Str)).length = 14 := (by decide +kernel); have e2 : ((" at index " : Str)).length = 10 := (by decide +kernel); omega), ⟨_, rfl, (by rw [sizeLine_eq]; simp only [app_len]; have e0 : Str.empty.length = 0 := rfl; have e1 : (("wrong book by " : Str)).length = 14 := (by decide +kernel); have e2 : ((" at index " : Str)).length = 10 := (by decide +kernel); omega), ⟨y1, rfl, fmt_at ok1 fun z1 hz1 => ⟨_, rfl, (by rw [sizeLine_eq]; simp only [app_len]; have e0 : Str.empty.length = 0 := rfl; have e1 : (("wrong book by " : Str)).length = 14 := (by decide +kernel); have e2 : ((" at index " : Str)).length = 10 := (by decide +kernel); omega), ⟨by simp, ha, y0, rfl, .ref a, rfl, a, C, rfl, T, n0, .inl ⟨ha, fun dx nd ne => ⟨y1, rfl, .ref a, rfl, a, C, rfl, T, n1, .inr ⟨dx, _, upd_same, by rw [upd_ne ne, upd_same], by simp, q dx nd ne⟩⟩⟩⟩⟩⟩⟩⟩⟩⟩

theorem sc_init_InvalidSpan : NScope ["self", "rule_name", "__class__"] ["self", "rule_name"] ["__class__"] (defScope (inClass (topS 13) 0)) := nscope_by (by decide +kernel)
theorem ok_init_InvalidSpan {fI C cc c : Addr} {oc kV doc pm ct : Value} {od an : Option Addr} {osl : Array (Option Value)} (lk : K.lookup fI = some ⟨oc, od, .func (supFd (nf_InvalidSpan cc c) kV doc pm an ct), osl⟩)
    (hcd : PySem.W.codeIn K (.ref c) "InvalidSpan.__init__" = true) (T : OexC K C) (S : SupC P K mg C cc c) (n0 : PySem.W.findIn K (.ref C) "rule_name" = some none) : FnOk P w K mg base CX0 1 fI (supFd (nf_InvalidSpan cc c) kV doc pm an ct) ["self", "rule_name"] (sp_init1 C "rule_name") := by
  refine fn_sup (N := ["self", "rule_name", "__class__"]) (ps := ["self", "rule_name"]) lk hcd rfl sc_init_InvalidSpan T S (fun vs H Q E h => ?_) rfl rfl rfl rfl rfl (fun A outer s H vs Q E hr h => ?_) (fun L => ⟨_, rfl⟩) (fun L => rfl) (fun L => rfl) (fun L => rfl) (fun L => rfl)
  · obtain ⟨a, y0, rfl, ha, ok0, q⟩ := h
    rfl
  · obtain ⟨a, y0, rfl, ha, ok0, q⟩ := h
    refine ⟨_, _, pa_cons (pe_joined (PJ.cons pe_str (PJ.cons (pe_fmt (pv 1)) PJ.nil))) pa_nil, pss_one (ps_ost (pv 0) (pv 1)), a, rfl, ha, ?_⟩
    refine ⟨_, rfl, (by rw [sizeLine_eq]; simp only [app_len]; have e0 : Str.empty.length = 0 := rfl; have e1 : (("wrong span of " : Str)).length = 14 := (by decide +kernel); omega), ⟨y0, rfl, fmt_at ok0 fun z0 hz0 => ⟨_, rfl, (by rw [sizeLine_eq]; simp only [app_len]; have e0 : Str.empty.length = 0 := rfl; have e1 : (("wrong span of " : Str)).length = 14 := (by decide +kernel); omega), ⟨by simp, ha, y0, rfl, .ref a, rfl, a, C, rfl, T, n0, .inl ⟨ha, fun dx nd ne => q dx nd ne⟩⟩⟩⟩⟩

end
end Sc
namespace Sc
open PySem PySem.Spec PyProof.Rows L2
/-! ### names -/
theorem sc_is_name : FnScope ["value", "letter"] ["value"] (defScope s_is_name) := ⟨rfl, rfl, rfl, by decide +kernel, rfl, by decide +kernel, by decide +kernel⟩
theorem sc_is_integer : FnScope ["value"] ["value"] (defScope s_is_integer) := ⟨rfl, rfl, rfl, by decide +kernel, rfl, by decide +kernel, by decide +kernel⟩
theorem sc_rises : FnScope ["names", "index"] ["names", "index"] (defScope s_rises) := ⟨rfl, rfl, rfl, by decide +kernel, rfl, by decide +kernel, by decide +kernel⟩
def isLetters (x : Str) : Bool := x.cps.toList.all fun c => decide (c ∈ letters.cps.toList)
def isName (x : Str) : Bool := decide (1 ≤ x.length) && (decide (x.length ≤ 8) && isLetters x)
def isLetterV (c : Nat) : V := .bl (decide (c ∈ letters.cps.toList))
structure GNames (mg : Str → Option Value) : Prop where
  m_LETTERS : ∃ t, mg "LETTERS" = some (.str letters t)
  m_LONGEST : ∃ t, mg "LONGEST_NAME" = some (.int 8 t)
section
variable {P : Program} {w : World} {K : PySem.W.Frag} {mg : Str → Option Value} {base : Heap}
def sp_is_name : Sp := fun vs H Q _ => ∃ x : Str, vs = [.str x] ∧ x.length ≤ sizeLine ∧ ∀ H', Same H H' → Q (.bl (isName x)) H'
theorem ok_is_name {f : Addr} {fd : FuncData} (F : Fun K "is_name" "is_name" s_is_name f fd) (B : Blt mg) (G : GNames mg) : FnOk P w K mg base CX0 1 f fd ["value"] sp_is_name := by
  obtain ⟨⟨t1, mL⟩, ⟨t2, mN⟩⟩ := G
  refine F.ok sc_is_name (fun vs H Q E h => by obtain ⟨x, rfl, _⟩ := h; rfl) (fun cdv A outer s H vs Q E hr h => ?_)
  obtain ⟨x, rfl, hx, q⟩ := h
  refine ⟨_, (pss_cons (ps_if (PW.pt (pw_or (pt_not (pt_val (pe_callB (call_isT "str") (by rfl) B.b_isinstance PyProof.Rows.boot_isinstance (pa_cons (pv 0) (pa_cons (pe_bltn (v := .ty "str") (by rfl) B.b_str PyProof.Rows.boot_str rfl) pa_nil))))) (pw_or1 (pt_not (pt_chain op_le op_le pe_int (pe_callB call_len_str (by rfl) B.b_len PySem.boot_len (pa_cons (pv 0) pa_nil)) (pe_glob (v := .int 8) rfl mN ⟨_, rfl⟩)))))) (pss_one (ps_ret pe_bl)) pss_nil)
      (pss_one (ps_ret (pe_callB (cr_all rfl) (by rfl) B.b_all PyProof.Rows.boot_all (pa_cons (pe_lc (own := [("letter", 1)]) (g := gName 1) (tt := tYes) rfl sc_is_name.nd (pi_str (pv 0)) (blkOk_by (own := [("letter", 1)]) (N := ["value", "letter"]) (sc := defScope s_is_name) (by decide +kernel)) (fun _ _ _ _ _ => (pg_name (i := 1) sc_is_name.nd rfl (Or.inl rfl))) (fun _ _ _ _ _ => pts_nil) (fun _ _ _ _ _ => (pe_.re (pe_cmpR op_in_sign (pv 1) (pe_glob (v := .str "abcdefghijklmnopqrstuvwxyz") rfl mL ⟨_, rfl⟩) rfl) (by first | (dsimp only [Cx.blk]; done) | exact rfl)))) pa_nil))))), ?_⟩
  refine ⟨.str x, rfl, _, "str", true, rfl, .str _, by decide +kernel, _, rfl, iteF ?_⟩
  refine ⟨.str x, rfl, x, rfl, hx, 1, x.length, rfl, rfl, _, rfl, bcase (fun h1 => ?_) (fun h1 => ?_)⟩
  · refine ⟨_, _, rfl, rfl, _, rfl, ?_⟩
    have h1 : 1 ≤ x.length := by have := of_decide_eq_true h1; omega
    by_cases h2 : x.length ≤ 8
    · have e2 : decide ((x.length : Int) ≤ 8) = true := decide_eq_true (by omega)
      rw [e2]
      refine iteF ?_
      refine ⟨.str x, rfl, x, rfl, fun D nD => lc_it walk_str (fun i H' => Same H H' ∧ H' D = some (.lst ((x.cps.toList.take i).map isLetterV))) ⟨(Same.refl H).put nD, upd_same⟩ (fun _ _ _ _ => trivial) ?_ ?_⟩
      · rintro i y H2 H3 hi ⟨s, e⟩ ⟨rfl, c, hc, rfl⟩
        refine ⟨rfl, yes_ ⟨_, rfl, c, letters, rfl, rfl, grow (acc := fun i => .map isLetterV (x.cps.toList.take i)) nD s e ?_ ?_⟩⟩
        · rw [List.length_map, List.length_take]
          exact small1000 (by have : x.cps.toList.length = x.length := rfl; omega)
        · show List.map _ _ = _
          rw [take_more (x := c) (by rw [Array.getElem?_toList]; exact hc), List.map_append]
          rfl
      · rintro H2 ⟨s, e⟩
        have el : x.cps.toList.take x.cps.size = x.cps.toList := List.take_of_length_le (by rw [Array.length_toList]; exact Nat.le_refl _)
        rw [el] at e
        refine ⟨D, x.cps.toList.map fun c => decide (c ∈ letters.cps.toList), rfl, sqL_of (by rw [e, List.map_map]; rfl), ?_⟩
        have ea : isName x = (x.cps.toList.map fun c => decide (c ∈ letters.cps.toList)).all id := by
          unfold isName isLetters
          rw [decide_eq_true h1, decide_eq_true h2, Bool.true_and, Bool.true_and, List.all_map]
          rfl
        rw [← ea]
        exact q H2 s
    · have e2 : decide ((x.length : Int) ≤ 8) = false := decide_eq_false (by omega)
      rw [e2]
      refine iteT ?_
      have e : isName x = false := by unfold isName; rw [decide_eq_false h2, Bool.false_and, Bool.and_false]
      rw [← e]
      exact q H (Same.refl H)
  · have h1 : ¬ 1 ≤ x.length := by have := of_decide_eq_false h1; omega
    refine ⟨_, rfl, iteT ?_⟩
    have e : isName x = false := by unfold isName; rw [decide_eq_false h1, Bool.false_and]
    rw [← e]
    exact q H (Same.refl H)
/-- any value of a built-in kind -/
def sp_is_integer (K : PySem.W.Frag) : Sp := fun vs H Q _ => ∃ (x : V) (t : String) (b c : Bool), vs = [x] ∧ TyOf K H x (.type t) ∧ kitB t "int" = some b ∧ kitB t "bool" = some c ∧ Q (.bl (b && !c)) H
theorem ok_is_integer {f : Addr} {fd : FuncData} (F : Fun K "is_integer" "is_integer" s_is_integer f fd) (B : Blt mg) : FnOk P w K mg base CX0 1 f fd ["value"] (sp_is_integer K) := by
  refine F.ok sc_is_integer (fun vs H Q E h => by obtain ⟨x, _, _, _, rfl, _⟩ := h; rfl) (fun cdv A outer s H vs Q E hr h => ?_)
  obtain ⟨x, t, b, c, rfl, ht, hb, hc, q⟩ := h
  refine ⟨_, (pss_one (ps_ret (pe_and (pe_callB (call_isT "int") (by rfl) B.b_isinstance PyProof.Rows.boot_isinstance (pa_cons (pv 0) (pa_cons (pe_bltn (v := .ty "int") (by rfl) B.b_int PyProof.Rows.boot_int rfl) pa_nil))) (pe_one (pe_not (pe_callB (call_isT "bool") (by rfl) B.b_isinstance PyProof.Rows.boot_isinstance (pa_cons (pv 0) (pa_cons (pe_bltn (v := .ty "bool") (by rfl) B.b_bool PyProof.Rows.boot_bool rfl) pa_nil)))))))), ?_⟩
  refine ⟨x, rfl, x, t, b, rfl, ht, hb, b, rfl, bcase (fun e => ?_) (fun e => ?_)⟩
  · subst e
    exact ⟨x, rfl, x, t, c, rfl, ht, hc, c, rfl, q⟩
  · subst e
    exact q
/-- does the i-th name come behind the one before it -/
def risesAt (xs : List Str) (i : Nat) : Bool := decide (i = 0) || match xs[i - 1]?, xs[i]? with
  | some a, some b => decide (a.cps.toList < b.cps.toList)
  | _, _ => false
def sp_rises (K : PySem.W.Frag) : Sp := fun vs H Q _ => ∃ (a : Addr) (xs : List Str) (i : Nat), vs = [.ref a, .int i] ∧ SqT K H a (xs.map V.str) ∧ i < xs.length ∧ Q (.bl (risesAt xs i)) H
theorem ok_rises {f : Addr} {fd : FuncData} (F : Fun K "rises" "rises" s_rises f fd) : FnOk P w K mg base CX0 1 f fd ["names", "index"] (sp_rises K) := by
  refine F.ok sc_rises (fun vs H Q E h => by obtain ⟨a, xs, i, rfl, _⟩ := h; rfl) (fun cdv A outer s H vs Q E hr h => ?_)
  obtain ⟨a, xs, i, rfl, hS, hi, q⟩ := h
  refine ⟨_, (pss_one (ps_ret (pe_or (pe_cmpR op_eq (pv 1) pe_int (nomark _)) (pe_one (pe_cmpR op_lt_str (pe_ix ix_tup (pv 0) (pe_op op_sub (pv 1) pe_int) (fun _ _ => rfl)) (pe_ix ix_tup (pv 0) (pv 1) (fun _ _ => rfl)) (nomark _)))))), ?_⟩
  refine ⟨_, rfl, rfl, _, rfl, bcase (fun e => ?_) (fun e => ?_)⟩
  · have e0 : i = 0 := by have := V.int.inj (of_decide_eq_true e); omega
    have er : risesAt xs i = true := by unfold risesAt; rw [decide_eq_true e0, Bool.true_or]
    rw [er] at q
    exact q
  · have e0 : i ≠ 0 := fun z => by subst z; exact Bool.noConfusion (e.symm.trans (decide_eq_true rfl))
    have h1 : i - 1 < xs.length := by omega
    have g1 : (xs.map V.str)[i - 1]? = some (.str xs[i - 1]) := by rw [List.getElem?_map, List.getElem?_eq_getElem h1]; rfl
    have g2 : (xs.map V.str)[i]? = some (.str xs[i]) := by rw [List.getElem?_map, List.getElem?_eq_getElem hi]; rfl
    refine ⟨.ref a, rfl, .int i, rfl, i, 1, rfl, rfl, a, _, _, _, rfl, rfl, hS, at_of (j := i - 1) (by omega) g1, .ref a, rfl, .int i, rfl, a, _, _, _, rfl, rfl, hS, at_of rfl g2, xs[i - 1], xs[i], rfl, rfl, ?_⟩
    have er : risesAt xs i = decide (xs[i - 1].cps.toList < xs[i].cps.toList) := by
      unfold risesAt
      rw [decide_eq_false e0, Bool.false_or, List.getElem?_eq_getElem h1, List.getElem?_eq_getElem hi]
    rw [← er]
    exact q
end
end Sc
namespace Sc
open PySem PySem.Spec PyProof.Rows L2
/-! ### the law's draws -/
theorem sc__law_mix : FnScope ["_law_script", "_law_seed", "_law_state", "_law_cell"] ["_law_script", "_law_seed"] (defScope s__law_mix) := ⟨rfl, rfl, rfl, by decide +kernel, rfl, by decide +kernel, by decide +kernel⟩
theorem sc__law_next : FnScope ["_law_h", "_law_limit", "_law_cell"] ["_law_h", "_law_limit"] (defScope s__law_next) := ⟨rfl, rfl, rfl, by decide +kernel, rfl, by decide +kernel, by decide +kernel⟩
theorem sc__law_facts : FnScope ["_law_h", "_law_most", "_law_some", "_law_many"] ["_law_h", "_law_most"] (defScope s__law_facts) := ⟨rfl, rfl, rfl, by decide +kernel, rfl, by decide +kernel, by decide +kernel⟩
def twelve : List Str := ["age", "bad", "cold", "dear", "early", "first", "good", "hot", "idle", "just", "keen", "late"]
/-- the state of the draws: a list at a, its cells at l -/
def RS (H : Hp) (a l : Addr) : Prop := ∃ (st k : Int) (ns : List Int), H a = some (.lst [.int st, .ref l, .int k]) ∧ H l = some (.lst (ns.map V.int)) ∧ 0 ≤ st ∧ st < 2147483647 ∧ ns.length ≤ 63 ∧ ∀ z ∈ ns, Builtin.Int.intBits z ≤ 1048576
/-- all but the draws' state stands -/
structure Kp (a l : Addr) (H H' : Hp) : Prop where
  old : RS H a l
  new : RS H' a l
  keep : ∀ b o, b ≠ a → b ≠ l → H b = some o → H' b = some o
section
variable {P : Program} {w : World} {K : PySem.W.Frag} {mg : Str → Option Value} {base : Heap} {a l : Addr} {H H' H'' : Hp}
theorem RS.ne (r : RS H a l) : a ≠ l := fun z => by
  obtain ⟨st, k, ns, h1, h2, _⟩ := r
  subst z
  rw [h1] at h2
  have e := HO.lst.inj (Option.some.inj h2)
  match ns, e with
  | [x, y, z], e => cases (List.cons.inj (List.cons.inj e).2).1
theorem RS.same (r : RS H a l) (s : Same H H') : RS H' a l := by
  obtain ⟨st, k, ns, h1, h2, q⟩ := r
  exact ⟨st, k, ns, s _ _ h1, s _ _ h2, q⟩
theorem Kp.refl (r : RS H a l) : Kp a l H H := ⟨r, r, fun _ _ _ _ e => e⟩
theorem Kp.trans (k : Kp a l H H') (k' : Kp a l H' H'') : Kp a l H H'' := ⟨k.old, k'.new, fun b o n1 n2 e => k'.keep b o n1 n2 (k.keep b o n1 n2 e)⟩
theorem Kp.of (r : RS H a l) (s : Same H H') : Kp a l H H' := ⟨r, r.same s, fun b o _ _ e => s b o e⟩
theorem Kp.same (k : Kp a l H H') (s : Same H' H'') : Kp a l H H'' := k.trans (.of k.new s)
theorem RS.no {b : Addr} (r : RS H a l) (e : H b = none) : b ≠ a ∧ b ≠ l := by
  obtain ⟨st, k, ns, h1, h2, _⟩ := r
  exact ⟨fun z => (by rw [z, h1] at e; cases e), fun z => (by rw [z, h2] at e; cases e)⟩
theorem RS.not {b : Addr} {o : HO} (r : RS H a l) (e : H b = some o) (n : ∀ xs, o ≠ .lst xs) : b ≠ a ∧ b ≠ l := by
  obtain ⟨st, k, ns, h1, h2, _⟩ := r
  exact ⟨fun z => (by rw [z, h1] at e; exact n _ (Option.some.inj e).symm), fun z => (by rw [z, h2] at e; exact n _ (Option.some.inj e).symm)⟩
theorem Kp.free {b : Addr} (k : Kp a l H H') (e : H' b = none) : H b = none := by
  cases q : H b with
  | none => rfl
  | some o =>
    obtain ⟨n1, n2⟩ := k.new.no e
    rw [k.keep b o n1 n2 q] at e
    cases e
theorem Kp.put {p : Addr} {o : HO} (k : Kp a l H H') (n : H' p = none) : Kp a l H (upd H' p o) := k.same ((Same.refl H').put n)
theorem Kp.put0 {p : Addr} {o : HO} (k : Kp a l H H') (n : H p = none) : Kp a l H (upd H' p o) := by
  obtain ⟨n1, n2⟩ := k.old.no n
  obtain ⟨st, x, ns, h1, h2, q⟩ := k.new
  exact ⟨k.old, ⟨st, x, ns, by rw [upd_ne n1.symm]; exact h1, by rw [upd_ne n2.symm]; exact h2, q⟩, fun b o m1 m2 e => by rw [upd_ne (ne_of_none e n)]; exact k.keep b o m1 m2 e⟩
theorem ixN_of {n j : Nat} (hj : j < n) : ixN n (j : Int) = some j := by
  unfold ixN
  rw [if_pos (by omega), if_pos (by omega)]
  rfl
theorem Kp.obj {b : Addr} {o : HO} (k : Kp a l H H') (e : H b = some o) (n : ∀ xs, o ≠ .lst xs) : H' b = some o := by
  obtain ⟨n1, n2⟩ := k.old.not e n
  exact k.keep b o n1 n2 e
theorem Kp.tup {b : Addr} {xs : List V} (k : Kp a l H H') (h : SqT K H b xs) : SqT K H' b xs := by
  rcases h with (h | ⟨o, h⟩) | h
  · exact .inl (.inl (k.obj h fun _ z => nomatch z))
  · exact .inl (.inr ⟨o, k.obj h fun _ z => nomatch z⟩)
  · exact .inr h
theorem bits_div {x n : Int} (h0 : 0 ≤ x) (hn : 0 < n) : Builtin.Int.intBits (x / n) ≤ Builtin.Int.intBits x := by
  have h1 : 0 ≤ x / n := Int.ediv_nonneg h0 (Int.le_of_lt hn)
  have h2 : x / n ≤ x := Int.ediv_le_self n h0
  unfold Builtin.Int.intBits
  by_cases e : x / n = 0
  · rw [e]
    exact Nat.zero_le _
  · have e2 : x ≠ 0 := fun z => by rw [z, Int.zero_ediv] at e; exact e rfl
    rw [if_neg (by simpa using e), if_neg (by simpa using e2)]
    have e3 : (x / n).natAbs.log2 ≤ x.natAbs.log2 := (Nat.le_log2 (by omega)).mpr (Nat.le_trans (Nat.log2_self_le (by omega)) (by omega))
    omega
theorem small_bits {x : Int} {k : Nat} (h : x.natAbs < 2 ^ k) : Builtin.Int.intBits x ≤ k := by
  unfold Builtin.Int.intBits
  split
  · exact Nat.zero_le k
  · rename_i e
    have e : x ≠ 0 := by simpa using e
    have := (Nat.log2_lt (n := x.natAbs) (by omega)).mpr h
    omega
def sp_mix (K : PySem.W.Frag) : Sp := fun vs H Q _ => ∃ (s : Addr) (ns : List Int) (z : Int), vs = [.ref s, .int z] ∧ SqL K H s (ns.map V.int) ∧ ns.length ≤ 63 ∧ (∀ z ∈ ns, Builtin.Int.intBits z ≤ 1048576) ∧ 0 ≤ z ∧ z < 2147483647 ∧
  ∀ H' a l, Same H H' → RS H' a l → Q (.ref a) H'
theorem ok_mix {f : Addr} {fd : FuncData} (F : Fun K "_law_mix" "_law_mix" s__law_mix f fd) (B : Blt mg) : FnOk P w K mg base CX0 1 f fd ["_law_script", "_law_seed"] (sp_mix K) := by
  refine F.ok sc__law_mix (fun vs H Q E h => by obtain ⟨s, ns, z, rfl, _⟩ := h; rfl) (fun cdv A outer s H vs Q E hr h => ?_)
  obtain ⟨s, ns, z, rfl, hS, hl, hb, z0, z1, q⟩ := h
  refine ⟨_, (pss_cons (ps_set (i := 2) sc__law_mix.nd rfl (Or.inl rfl) (pv 1))
      (pss_cons (ps_for PassesOwn.never rfl (pi_list (pv 0)) (pg_name (i := 3) sc__law_mix.nd rfl (Or.inl rfl)) (pss_one (ps_set (i := 2) sc__law_mix.nd rfl (Or.inl rfl) (pe_op op_mod (pe_callTy call_int1 (by rfl) B.b_int PyProof.Rows.boot_int (pa_cons (pe_op op_add (pe_op op_add (pe_op op_mul (pv 2) pe_int) (pe_op op_mod (pe_callTy call_int1 (by rfl) B.b_int PyProof.Rows.boot_int (pa_cons (pv 3) pa_nil)) pe_int)) pe_int) pa_nil)) pe_int))))
      (pss_one (ps_ret (pe_lst (pa_cons (pv 2) (pa_cons (pe_callTy call_list_of (by rfl) B.b_list PyProof.Rows.boot_list (pa_cons (pv 0) pa_nil)) (pa_cons pe_int pa_nil)))))))), ?_⟩
  refine ⟨_, rfl, .ref s, rfl, s, rfl, ⟨_, hS⟩, for_it walk_list (fun i σ H' => ∃ (st : Int) (y : Option V), σ = [some (.ref s), some (.int z), some (.int st), y] ∧ H' = H ∧ 0 ≤ st ∧ st < 2147483647)
    ⟨z, none, rfl, rfl, z0, z1⟩ (fun i σ H' _ ⟨_, _, _, e, _⟩ => by rw [e]; exact hS) ?_ ?_⟩
  · rintro i x σ H2 H3 hi ⟨st, y, rfl, rfl, h0, h1⟩ ⟨rfl, hx⟩
    obtain ⟨c, hc, rfl⟩ : ∃ c, ns[i]? = some c ∧ x = V.int c := by
      rw [List.getElem?_map] at hx
      cases e : ns[i]? with
      | none => rw [e] at hx; cases hx
      | some c => rw [e] at hx; exact ⟨c, rfl, (Option.some.inj hx).symm⟩
    refine ⟨_, rfl, st, 48271, rfl, rfl, .inl ⟨by omega, by omega⟩, _, rfl, .inl ⟨c, rfl, c, 2147483629, rfl, rfl, (show (0 : Int) < 2147483629 by decide), _, _, rfl, rfl, _, _, rfl, rfl, .inl ⟨_, rfl, _, 2147483647, rfl, rfl, (show (0 : Int) < 2147483647 by decide), ?_⟩⟩⟩
    exact ⟨_, _, rfl, rfl, Int.emod_nonneg _ (by decide), Int.emod_lt_of_pos _ (by decide)⟩
  · rintro σ H2 ⟨st, y, rfl, rfl, h0, h1⟩
    refine ⟨_, rfl, .ref s, rfl, s, _, rfl, .inl hS, fun l nl => ⟨(by show 3 ≤ sizeLine; decide), fun a na => q _ a l ?_ ⟨st, 0, ns, upd_same, ?_, h0, h1, hl, hb⟩⟩⟩
    · exact ((Same.refl _).put nl).put' na
    · rw [upd_ne (ne_of_none upd_same na), upd_same]
def sp_next : Sp := fun vs H Q _ => ∃ (a l : Addr) (n : Int), vs = [.ref a, .int n] ∧ RS H a l ∧ 0 < n ∧ n.natAbs.log2 < 9000 ∧ ∀ H' r, Kp a l H H' → 0 ≤ r → r < n → Q (.int r) H'
theorem ok_next {f : Addr} {fd : FuncData} (F : Fun K "_law_next" "_law_next" s__law_next f fd) (B : Blt mg) : FnOk P w K mg base CX0 1 f fd ["_law_h", "_law_limit"] sp_next := by
  refine F.ok sc__law_next (fun vs H Q E h => by obtain ⟨a, l, n, rfl, _⟩ := h; rfl) (fun cdv A outer s H vs Q E hr h => ?_)
  obtain ⟨a, l, n, rfl, hR, n0, n9, q⟩ := h
  refine ⟨_, (pss_cons (ps_set (i := 2) sc__law_next.nd rfl (Or.inl rfl) (pe_ix ix_list (pe_op op_cat (pe_ix ix_list (pv 0) pe_int (fun _ _ => rfl)) (pe_lst (pa_cons pe_int pa_nil))) (pe_op op_mod (pe_callTy call_int1 (by rfl) B.b_int PyProof.Rows.boot_int (pa_cons (pe_ix ix_list (pv 0) pe_int (fun _ _ => rfl)) pa_nil)) (pe_callB (call_max2 rfl) (by rfl) B.b_max PyProof.Rows.boot_max (pa_cons pe_int (pa_cons (pe_callB call_len_seq (by rfl) B.b_len PySem.boot_len (pa_cons (pe_ix ix_list (pv 0) pe_int (fun _ _ => rfl)) pa_nil)) pa_nil)))) (fun _ _ => rfl)))
      (pss_cons (ps_if (pt_cmpR op_ge (pv 2) (pe_op op_pow pe_int pe_int) (nomark _)) (pss_cons (ps_asg (pe_op op_fdivW (pv 2) (pv 1)) (pg_sub (pe_ix ix_list (pv 0) pe_int (fun _ _ => rfl)) (pe_op op_mod (pe_callTy call_int1 (by rfl) B.b_int PyProof.Rows.boot_int (pa_cons (pe_ix ix_list (pv 0) pe_int (fun _ _ => rfl)) pa_nil)) (pe_callB call_len_seq (by rfl) B.b_len PySem.boot_len (pa_cons (pe_ix ix_list (pv 0) pe_int (fun _ _ => rfl)) pa_nil))) set_list))
      (pss_one (ps_ret (pe_op op_mod (pe_callTy call_int1 (by rfl) B.b_int PyProof.Rows.boot_int (pa_cons (pv 2) pa_nil)) (pv 1))))) pss_nil)
      (pss_cons (ps_asg (pe_op op_mod (pe_callTy call_int1 (by rfl) B.b_int PyProof.Rows.boot_int (pa_cons (pe_op op_add (pe_op op_add (pe_op op_mul (pe_ix ix_list (pv 0) pe_int (fun _ _ => rfl)) pe_int) (pe_op op_mulX (pv 2) pe_int)) pe_int) pa_nil)) pe_int) (pg_sub (pv 0) pe_int set_list))
      (pss_cons (ps_asg (pe_op op_add (pe_ix ix_list (pv 0) pe_int (fun _ _ => rfl)) pe_int) (pg_sub (pv 0) pe_int set_list))
      (pss_one (ps_ret (pe_op op_mod (pe_callTy call_int1 (by rfl) B.b_int PyProof.Rows.boot_int (pa_cons (pe_op op_fdiv (pe_ix ix_list (pv 0) pe_int (fun _ _ => rfl)) pe_int) pa_nil)) (pv 1)))))))), ?_⟩
  obtain ⟨st, k, ns, ha, hl, s0, s1, hlen, hb⟩ := id hR
  have nal := hR.ne
  have hm0 : 0 < (if ((ns.map V.int).length : Int) > 1 then ((ns.map V.int).length : Int) else 1) := by
    split <;> omega
  have hmx : (if ((ns.map V.int).length : Int) > 1 then ((ns.map V.int).length : Int) else 1) ≤ ns.length + 1 := by
    rw [List.length_map]
    split <;> omega
  have hcell : ∃ (j : Nat) (c : Int), k % (if ((ns.map V.int).length : Int) > 1 then ((ns.map V.int).length : Int) else 1) = j ∧ (ns.map V.int ++ [V.int 0])[j]? = some (.int c) ∧ (10 ^ 18 ≤ c → j < ns.length ∧ ns[j]? = some c ∧ k % (ns.length : Int) = j) ∧ Builtin.Int.intBits c ≤ 1048576 := by
    have r0 := Int.emod_nonneg k (Int.ne_of_gt hm0)
    have r1 := Int.emod_lt_of_pos k hm0
    obtain ⟨j, ej⟩ := Int.eq_ofNat_of_zero_le r0
    have ej : k % (if ((ns.map V.int).length : Int) > 1 then ((ns.map V.int).length : Int) else 1) = (j : Int) := ej
    by_cases hj : j < ns.length
    · refine ⟨j, ns[j], ej, ?_, fun _ => ⟨hj, List.getElem?_eq_getElem hj, ?_⟩, hb _ (List.getElem_mem hj)⟩
      · rw [List.getElem?_append_left (by rw [List.length_map]; exact hj), List.getElem?_map, List.getElem?_eq_getElem hj]
        rfl
      · rw [← ej, List.length_map]
        by_cases h1 : (ns.length : Int) > 1
        · rw [if_pos h1]
        · rw [if_neg h1]
          have e1 : (ns.length : Int) = 1 := by omega
          rw [e1]
    · have ejn : j = ns.length := by omega
      refine ⟨j, 0, ej, ?_, fun z => absurd z (by decide), by decide⟩
      rw [List.getElem?_append_right (by rw [List.length_map]; omega), List.length_map, ejn, Nat.sub_self]
      rfl
  obtain ⟨j, c, ej, gc, big, hc⟩ := hcell
  refine ⟨.ref a, rfl, a, _, 1, .ref l, rfl, rfl, sqL_of ha, atI_nat (j := 1) rfl, (by show 1 ≤ sizeLine; decide), fun p np => ?_⟩
  have npa := ne_of_none ha np
  have npl := ne_of_none hl np
  refine ⟨l, p, ns.map V.int, [.int 0], rfl, rfl, by rw [upd_ne npl]; exact hl, upd_same, by rw [List.length_map, sizeLine_eq]; show ns.length + 1 ≤ _; omega, fun p2 np2 => ?_⟩
  have np2' : H p2 = none := by
    cases e : H p2 with
    | none => rfl
    | some o => rw [upd_ne (ne_of_none e np)] at np2; rw [e] at np2; cases np2
  have s2 : Same H (upd (upd H p (.lst [.int 0])) p2 (.lst (ns.map V.int ++ [.int 0]))) := ((Same.refl H).put np).put np2'
  generalize hH2 : upd (upd H p (.lst [.int 0])) p2 (.lst (ns.map V.int ++ [.int 0])) = H2 at s2
  have hp2 : H2 p2 = some (.lst (ns.map V.int ++ [.int 0])) := by rw [← hH2, upd_same]
  have ha2 := s2 _ _ ha
  have hl2 := s2 _ _ hl
  refine ⟨.ref a, rfl, a, _, 2, .int k, rfl, rfl, sqL_of ha2, atI_nat (j := 2) rfl, .inl ⟨k, rfl, ?_⟩⟩
  refine ⟨.ref a, rfl, a, _, 1, .ref l, rfl, rfl, sqL_of ha2, atI_nat (j := 1) rfl, l, _, rfl, .inl (sqL_of hl2), 1, _, rfl, ?_⟩
  refine ⟨k, _, rfl, rfl, hm0, p2, _, _, .int c, rfl, rfl, sqL_of hp2, at_of ej gc, ?_⟩
  refine ⟨.int c, rfl, 10, 18, rfl, rfl, ⟨by decide, by decide, by decide⟩, c, 10 ^ 18, rfl, rfl, _, rfl, bcase (fun c1 => ?_) (fun c1 => ?_)⟩
  · have c1 : (10 : Int) ^ 18 ≤ c := of_decide_eq_true c1
    obtain ⟨hj, gj, ej2⟩ := big c1
    have hlp : 0 < (ns.length : Int) := by omega
    refine ⟨_, rfl, .int n, rfl, c, n, rfl, rfl, ⟨n0, n9⟩, .ref a, rfl, a, _, 1, .ref l, rfl, rfl, sqL_of ha2, atI_nat (j := 1) rfl, .ref a, rfl, a, _, 2, .int k, rfl, rfl, sqL_of ha2, atI_nat (j := 2) rfl, .inl ⟨k, rfl, ?_⟩⟩
    refine ⟨.ref a, rfl, a, _, 1, .ref l, rfl, rfl, sqL_of ha2, atI_nat (j := 1) rfl, l, _, rfl, .inl (sqL_of hl2), k, _, rfl, rfl, by rw [List.length_map]; exact hlp, l, _, _, j, rfl, rfl, hl2, ?_, ?_⟩
    · rw [List.length_map, ej2]
      unfold ixN
      rw [if_pos (by omega), if_pos (by omega)]
      rfl
    · refine ⟨.int c, rfl, .inl ⟨c, rfl, .int n, rfl, c, n, rfl, rfl, n0, q _ _ ⟨hR, ?_, fun b o n1 n2 e => ?_⟩ (Int.emod_nonneg _ (Int.ne_of_gt n0)) (Int.emod_lt_of_pos _ n0)⟩⟩
      · refine ⟨st, k, ns.set j (c / n), by rw [upd_ne nal]; exact ha2, by rw [upd_same, List.map_set], s0, s1, by rw [List.length_set]; exact hlen, fun z hz => ?_⟩
        rcases List.mem_or_eq_of_mem_set hz with h | h
        · exact hb z h
        · rw [h]
          exact Nat.le_trans (bits_div (by omega) n0) hc
      · rw [upd_ne n2]
        exact s2 b o e
  · refine ⟨.ref a, rfl, a, _, 0, .int st, rfl, rfl, sqL_of ha2, atI_nat (j := 0) rfl, st, 48271, rfl, rfl, .inl ⟨by omega, by omega⟩, .int c, rfl, c, 69621, rfl, rfl, ?_, _, _, rfl, rfl, _, 11, rfl, rfl, .inl ⟨_, rfl, _, 2147483647, rfl, rfl, (show (0 : Int) < 2147483647 by decide), .ref a, rfl, ?_⟩⟩
    · show (Builtin.Int.intBits c : Int) + (Builtin.Int.intBits 69621 : Int) ≤ 134217728
      have e1 : Builtin.Int.intBits 69621 ≤ 20 := small_bits (by decide)
      omega
    have z0 : 0 ≤ (st * 48271 + c * 69621 + 11) % 2147483647 := Int.emod_nonneg _ (by decide)
    have z1 : (st * 48271 + c * 69621 + 11) % 2147483647 < 2147483647 := Int.emod_lt_of_pos _ (by decide)
    refine ⟨a, _, 0, 0, rfl, rfl, ha2, rfl, ?_⟩
    refine ⟨.ref a, rfl, a, _, 2, .int k, rfl, rfl, sqL_of upd_same, atI_nat (j := 2) rfl, k, 1, rfl, rfl, .ref a, rfl, a, _, 2, 2, rfl, rfl, upd_same, rfl, ?_⟩
    refine ⟨.ref a, rfl, a, _, 0, .int ((st * 48271 + c * 69621 + 11) % 2147483647), rfl, rfl, sqL_of upd_same, atI_nat (j := 0) rfl, _, 7, rfl, rfl, ⟨by decide, by decide⟩, .inl ⟨_, rfl, .int n, rfl, _, n, rfl, rfl, n0, q _ _ ⟨hR, ?_, fun b o n1 n2 e => ?_⟩ (Int.emod_nonneg _ (Int.ne_of_gt n0)) (Int.emod_lt_of_pos _ n0)⟩⟩
    · exact ⟨_, k + 1, ns, upd_same, by rw [upd_ne nal.symm, upd_ne nal.symm]; exact hl2, z0, z1, hlen, hb⟩
    · rw [upd_ne n1, upd_ne n1]
      exact s2 b o e
theorem map_eraseIdx {α β : Type} {f : α → β} : ∀ (xs : List α) (j : Nat), (xs.map f).eraseIdx j = (xs.eraseIdx j).map f
  | [], _ => rfl
  | _ :: _, 0 => rfl
  | x :: r, j + 1 => by
    show f x :: (r.map f).eraseIdx j = f x :: (r.eraseIdx j).map f
    rw [map_eraseIdx r j]
/-- what stands at a value, read as data, at most n lists or tuples deep -/
inductive AD (H : Hp) : Nat → V → PyData → Prop where
  | non (n : Nat) : AD H n .non .none
  | bl (n : Nat) (b : Bool) : AD H n (.bl b) (.bool b)
  | int (n : Nat) (i : Int) : AD H n (.int i) (.int i)
  | str (n : Nat) (x : Str) : AD H n (.str x) (.str x)
  | lst {n : Nat} {a : Addr} {xs : List V} {ds : List PyData} (e : H a = some (.lst xs)) (l : xs.length = ds.length) (z : xs.length ≤ 1000000) (all : ∀ (i : Nat) (x : V) (d : PyData), xs[i]? = some x → ds[i]? = some d → AD H n x d) : AD H (n + 1) (.ref a) (.list ds)
  | tup {n : Nat} {a : Addr} {xs : List V} {ds : List PyData} (e : H a = some (.tup xs)) (l : xs.length = ds.length) (z : xs.length ≤ 1000000) (all : ∀ (i : Nat) (x : V) (d : PyData), xs[i]? = some x → ds[i]? = some d → AD H n x d) : AD H (n + 1) (.ref a) (.tuple ds)
theorem AD.same {n : Nat} {x : V} {d : PyData} (s : Same H H') (h : AD H n x d) : AD H' n x d := by
  induction h with
  | non n => exact .non n
  | bl n b => exact .bl n b
  | int n i => exact .int n i
  | str n x => exact .str n x
  | lst e l z all ih => exact .lst (s _ _ e) l z ih
  | tup e l z all ih => exact .tup (s _ _ e) l z ih
end
end Sc
namespace Sc
open PySem PySem.Spec PyProof.Rows L2
theorem strAt_inj {xs : List Str} {i : Nat} {x : Str} {v : V} (hx : xs[i]? = some x) (h : (xs.map V.str)[i]? = some v) : V.str x = v := by
  rw [List.getElem?_map, hx] at h
  exact Option.some.inj h
theorem find_none {n : Nat} {p : Nat → Bool} (h : ∀ j, j < n → p j = false) : (List.range n).find? p = none := by
  rw [List.find?_eq_none]
  intro j hj
  rw [h j (List.mem_range.mp hj)]
  exact Bool.false_ne_true
theorem find_at {n i : Nat} {p : Nat → Bool} (hi : i < n) (hp : p i = true) (h : ∀ j, j < i → p j = false) : (List.range n).find? p = some i := by
  rw [List.find?_range_eq_some]
  exact ⟨hp, List.mem_range.mpr hi, fun j hj => by rw [h j hj]; rfl⟩
/-- names that texts of a program may have -/
def Txts (xs : List Str) : Prop := ∀ x ∈ xs, x.length ≤ 1000
def errIx (C : Addr) (i : Nat) (H : Hp) (E : XK) : Prop := ∀ H' d, Same H H' → H' d = none → E (.ref C) (some d) (upd H' d (.xd [(("index" : Str), .int i)]))
theorem flat_strs : ∀ xs : List Str, (xs.map V.str).all flatV = true
  | [] => rfl
  | _ :: r => flat_strs r
theorem inV_str {x : Str} : ∀ xs : List Str, inV (.str x) (xs.map V.str) = decide (x ∈ xs)
  | [] => rfl
  | y :: r => by
    show (eqV (.str y) (.str x) || inV (.str x) (r.map V.str)) = _
    rw [inV_str r]
    show ((y == x) || _) = _
    by_cases h : y = x
    · subst h
      simp
    · have e : (y == x) = false := by simpa using h
      rw [e, Bool.false_or]
      simp [List.mem_cons, show ¬ x = y from fun z => h z.symm]
end Sc
namespace Sc
open PySem PySem.Spec PyProof.Rows L2
/-! ### facts -/
theorem sc_check_facts : FnScope ["facts", "index", "name"] ["facts"] (defScope s_check_facts) := ⟨rfl, rfl, rfl, by decide +kernel, rfl, by decide +kernel, by decide +kernel⟩
theorem sc_check_case : FnScope ["facts", "case", "index", "name"] ["facts", "case"] (defScope s_check_case) := ⟨rfl, rfl, rfl, by decide +kernel, rfl, by decide +kernel, by decide +kernel⟩
/-- the i-th fact is wrong -/
def badAt (xs : List Str) (i : Nat) : Bool := decide (i = 60) || ((match xs[i]? with | some x => !isName x | none => false) || !risesAt xs i)
def firstBad (xs : List Str) : Option Nat := if xs = [] then some 0 else (List.range xs.length).find? (badAt xs)
section
variable {P : Program} {w : World} {K : PySem.W.Frag} {mg : Str → Option Value} {base : Heap} {CF CC CN : Addr}
def sp_check_facts (K : PySem.W.Frag) (C : Addr) : Sp := fun vs H Q E => ∃ (a : Addr) (xs : List Str), vs = [.ref a] ∧ SqT K H a (xs.map V.str) ∧ Txts xs ∧ xs.length ≤ 1000 ∧
  (firstBad xs = none → ∀ H', Same H H' → Q .non H') ∧ (∀ i, firstBad xs = some i → errIx C i H E)
theorem ok_check_facts {f : Addr} {fd : FuncData} (F : Fun K "check_facts" "check_facts" s_check_facts f fd) (B : Blt mg) (mM : ∃ t, mg "MOST_FACTS_facts" = some (.int 60 t))
    (e_InvalidFacts : ErrMk P w K mg base "InvalidFacts" CF ["self", "index"] (sp_init1 CF "index")) (c_is_name : Cal P w K mg base CX0 1 "is_name" ["value"] sp_is_name) (c_rises : Cal P w K mg base CX0 1 "rises" ["names", "index"] (sp_rises K)) :
    FnOk P w K mg base (L2.CX P w) 3 f fd ["facts"] (sp_check_facts K CF) := by
  obtain ⟨t1, mM⟩ := mM
  refine F.okX sc_check_facts (fun vs H Q E h => by obtain ⟨a, xs, rfl, _⟩ := h; rfl) (fun cdv A outer s H vs Q E hr h => ?_)
  obtain ⟨a, xs, rfl, hS, hT, hl, q, e⟩ := h
  refine ⟨_, (pss_cons (ps_if (pt_not (pt_tru (pv 0) (by intro _; rfl))) (pss_one (ps_raise rfl (takes_of rfl rfl rfl rfl) (pmk_err1 e_InvalidFacts (hr.mono (by decide)) pe_int))) pss_nil)
      (pss_one (ps_for (passes_of rfl) rfl (pi_enumT (by rfl) B.b_enumerate (pa_cons (pv 0) pa_nil)) (pg_tup (by rfl) (pgs_cons (pg_name (i := 1) sc_check_facts.nd rfl (Or.inl rfl)) (pgs_cons (pg_name (i := 2) sc_check_facts.nd rfl (Or.inl rfl)) pgs_nil))) (pss_one (ps_if (PW.pt (pw_or (pt_cmpR op_eq (pv 1) (pe_glob (v := .int 60) rfl mM ⟨_, rfl⟩) (nomark _)) (pw_or (pt_not (pt_val (pe_cal c_is_name (hr.mono (by decide)) (pa_cons (pv 2) pa_nil)))) (pw_or1 (pt_not (pt_val (pe_cal c_rises (hr.mono (by decide)) (pa_cons (pv 0) (pa_cons (pv 1) pa_nil))))))))) (pss_one (ps_raise rfl (takes_of rfl rfl rfl rfl) (pmk_err1 e_InvalidFacts (hr.mono (by decide)) (pv 1)))) pss_nil))))), ?_⟩
  refine ⟨.ref a, rfl, _, .inr (.inl ⟨_, hS, rfl⟩), bcase (fun e0 => ?_) (fun e0 => ?_)⟩
  · have ex : xs = [] := by
      cases xs with
      | nil => rfl
      | cons x r => exact Bool.noConfusion (show false = true from e0)
    exact ⟨fok_nat (i := 0) (by decide), fun d nd => e 0 (by unfold firstBad; rw [if_pos ex]) H d (Same.refl H) nd⟩
  · have ex : xs ≠ [] := fun z => by
      subst z
      exact Bool.noConfusion (show true = false from e0)
    have rz : ∀ {i : Nat} {H' : Hp}, i < xs.length → (∀ j, j < i → badAt xs j = false) → badAt xs i = true → Same H H' → ∀ d, H' d = none → E (.ref CF) (some d) (upd H' d (.xd [(("index" : Str), .int (i : Nat))])) :=
      fun {i H'} hi hb hp s d nd => e i (by unfold firstBad; rw [if_neg ex]; exact find_at hi hp hb) H' d s nd
    refine ⟨.ref a, rfl, a, _, rfl, hS, for_it walk_enumT (fun i σ H' => ∃ y1 y2, σ = [some (.ref a), y1, y2] ∧ Same H H' ∧ ∀ j, j < i → badAt xs j = false)
      ⟨none, none, rfl, Same.refl H, fun j hj => absurd hj (Nat.not_lt_zero j)⟩ (fun i σ H' _ ⟨_, _, _, s, _⟩ => s.tup hS) ?_ ?_⟩
    · rintro i x σ H2 H3 hi ⟨y1, y2, rfl, s, hb⟩ ⟨T, v1, v2, rfl, nT, rfl, h1, h2⟩
      obtain rfl : V.int (i : Nat) = v1 := Option.some.inj h1
      rw [List.length_map] at hi
      have hx : xs[i]? = some xs[i] := List.getElem?_eq_getElem hi
      obtain rfl : V.str xs[i] = v2 := strAt_inj hx h2
      have s3 : Same H (upd H2 T (.tup [.int (i : Nat), .str xs[i]])) := s.put' nT
      have rz := fun {H' : Hp} (hp : badAt xs i = true) (sH : Same H H') => rz hi hb hp sH
      refine ⟨T, [.int (i : Nat), .str xs[i]], rfl, sqT_new, rfl, _, _, rfl, _, _, rfl, rfl, ?_⟩
      refine ⟨_, rfl, rfl, _, rfl, bcase (fun c1 => ?_) (fun c1 => ?_)⟩
      · have e60 : i = 60 := by have := V.int.inj (of_decide_eq_true c1); omega
        refine iteT ⟨_, rfl, fok_nat (by omega), rz (by unfold badAt; rw [decide_eq_true e60, Bool.true_or]) s3⟩
      · have n60 : i ≠ 60 := fun z => by subst z; exact Bool.noConfusion (c1.symm.trans (decide_eq_true rfl))
        refine ⟨_, rfl, xs[i], rfl, Nat.le_trans (hT _ (List.getElem_mem hi)) (by rw [sizeLine_eq]; decide), fun H4 s4 => ⟨_, rfl, bcase (fun c2 => ?_) (fun c2 => ?_)⟩⟩
        · refine iteT ⟨_, rfl, fok_nat (by omega), rz (by unfold badAt; rw [hx, decide_eq_false n60, Bool.false_or]; show (!isName xs[i] || _) = true; rw [c2, Bool.true_or]) (s3.trans s4)⟩
        · refine ⟨.ref a, rfl, _, rfl, a, xs, i, rfl, (s3.trans s4).tup hS, hi, _, rfl, bcase (fun c3 => ?_) (fun c3 => ?_)⟩
          · exact ⟨_, rfl, fok_nat (by omega), rz (by unfold badAt; rw [hx, c3, Bool.or_true, Bool.or_true]) (s3.trans s4)⟩
          · refine ⟨_, _, rfl, s3.trans s4, fun j hj => ?_⟩
            by_cases hj2 : j < i
            · exact hb j hj2
            · have ej : j = i := by omega
              subst ej
              unfold badAt
              rw [hx, decide_eq_false n60, c3, Bool.or_false, Bool.false_or]
              exact c2
    · rintro σ H2 ⟨y1, y2, rfl, s, hb⟩
      rw [List.length_map] at hb
      exact q (by unfold firstBad; rw [if_neg ex]; exact find_none hb) H2 s
/-- the i-th name of a case is wrong -/
def outAt (facts cs : List Str) (i : Nat) : Bool := (match cs[i]? with | some x => !decide (x ∈ facts) | none => false) || !risesAt cs i
def firstOut (facts cs : List Str) : Option Nat := (List.range cs.length).find? (outAt facts cs)
def sp_check_case (K : PySem.W.Frag) (C : Addr) : Sp := fun vs H Q E => ∃ (a b : Addr) (xs cs : List Str), vs = [.ref a, .ref b] ∧ SqT K H a (xs.map V.str) ∧ SqT K H b (cs.map V.str) ∧ cs.length ≤ 1000 ∧
  (firstOut xs cs = none → ∀ H', Same H H' → Q .non H') ∧ (∀ i, firstOut xs cs = some i → errIx C i H E)
theorem ok_check_case {f : Addr} {fd : FuncData} (F : Fun K "check_case" "check_case" s_check_case f fd) (B : Blt mg)
    (e_InvalidCase : ErrMk P w K mg base "InvalidCase" CC ["self", "index"] (sp_init1 CC "index")) (c_rises : Cal P w K mg base CX0 1 "rises" ["names", "index"] (sp_rises K)) :
    FnOk P w K mg base (L2.CX P w) 3 f fd ["facts", "case"] (sp_check_case K CC) := by
  refine F.okX sc_check_case (fun vs H Q E h => by obtain ⟨a, b, xs, cs, rfl, _⟩ := h; rfl) (fun cdv A outer s H vs Q E hr h => ?_)
  obtain ⟨a, b, xs, cs, rfl, hS, hC, hl, q, e⟩ := h
  refine ⟨_, (pss_one (ps_for (passes_of rfl) rfl (pi_enumT (by rfl) B.b_enumerate (pa_cons (pv 1) pa_nil)) (pg_tup (by rfl) (pgs_cons (pg_name (i := 2) sc_check_case.nd rfl (Or.inl rfl)) (pgs_cons (pg_name (i := 3) sc_check_case.nd rfl (Or.inl rfl)) pgs_nil))) (pss_one (ps_if (PW.pt (pw_or (pt_cmpR op_notIn_seq (pv 3) (pv 0) rfl) (pw_or1 (pt_not (pt_val (pe_cal c_rises (hr.mono (by decide)) (pa_cons (pv 1) (pa_cons (pv 2) pa_nil)))))))) (pss_one (ps_raise rfl (takes_of rfl rfl rfl rfl) (pmk_err1 e_InvalidCase (hr.mono (by decide)) (pv 2)))) pss_nil)))), ?_⟩
  refine ⟨.ref b, rfl, b, _, rfl, hC, for_it walk_enumT (fun i σ H' => ∃ y1 y2, σ = [some (.ref a), some (.ref b), y1, y2] ∧ Same H H' ∧ ∀ j, j < i → outAt xs cs j = false)
    ⟨none, none, rfl, Same.refl H, fun j hj => absurd hj (Nat.not_lt_zero j)⟩ (fun i σ H' _ ⟨_, _, _, s, _⟩ => s.tup hC) ?_ ?_⟩
  · rintro i x σ H2 H3 hi ⟨y1, y2, rfl, s, hb⟩ ⟨T, v1, v2, rfl, nT, rfl, h1, h2⟩
    obtain rfl : V.int (i : Nat) = v1 := Option.some.inj h1
    rw [List.length_map] at hi
    have hx : cs[i]? = some cs[i] := List.getElem?_eq_getElem hi
    obtain rfl : V.str cs[i] = v2 := strAt_inj hx h2
    have s3 : Same H (upd H2 T (.tup [.int (i : Nat), .str cs[i]])) := s.put' nT
    have rz : ∀ {H' : Hp}, outAt xs cs i = true → Same H H' → ∀ d, H' d = none → E (.ref CC) (some d) (upd H' d (.xd [(("index" : Str), .int (i : Nat))])) := fun {H'} hp sH d nd => e i (find_at hi hp hb) H' d sH nd
    refine ⟨T, [.int (i : Nat), .str cs[i]], rfl, sqT_new, rfl, _, _, rfl, _, _, rfl, rfl, ?_⟩
    refine ⟨.str cs[i], rfl, .ref a, rfl, a, _, rfl, .inr (s3.tup hS), rfl, flat_strs xs, _, rfl, bcase (fun c1 => ?_) (fun c1 => ?_)⟩
    · have c1 : (!decide (cs[i] ∈ xs)) = true := by rw [← inV_str]; exact c1
      exact iteT ⟨_, rfl, fok_nat (by omega), rz (by unfold outAt; rw [hx]; show (!decide (cs[i] ∈ xs) || _) = true; rw [c1, Bool.true_or]) s3⟩
    · have c1 : (!decide (cs[i] ∈ xs)) = false := by rw [← inV_str]; exact c1
      refine ⟨.ref b, rfl, _, rfl, b, cs, i, rfl, s3.tup hC, hi, _, rfl, bcase (fun c3 => ?_) (fun c3 => ?_)⟩
      · exact ⟨_, rfl, fok_nat (by omega), rz (by unfold outAt; rw [hx, c3, Bool.or_true]) s3⟩
      · refine ⟨_, _, rfl, s3, fun j hj => ?_⟩
        by_cases hj2 : j < i
        · exact hb j hj2
        · have ej : j = i := by omega
          subst ej
          unfold outAt
          rw [hx, c3, Bool.or_false]
          exact c1
  · rintro σ H2 ⟨y1, y2, rfl, s, hb⟩
    rw [List.length_map] at hb
    exact q (find_none hb) H2 s
end
end Sc
namespace Sc
open PySem PySem.Spec PyProof.Rows L2
theorem adjust_rev (n : Nat) : Builtin.Slice.sliceAdjust none none (-1) (n : Int) = ((n : Int) - 1, -1) := by
  unfold Builtin.Slice.sliceAdjust
  simp
theorem places_rev (n : Nat) : Builtin.Slice.slicePlaces ((n : Int) - 1) (-1) (-1) = n := by
  unfold Builtin.Slice.slicePlaces
  simp
  omega
section
variable {prog : Program} {w : World} {A : Around} {E : Value → Shared → Prop} {s : Shared}
theorem slApplied_rev {sl : Addr} {vl vu vs : Value} {n : Nat} {Q : Int × Int × Nat → Shared → Prop} (hs : s.heap.IsSliceOf sl vl vu vs) (pl : IsPart vl none) (pu : IsPart vu none) (ps : IsPart vs (some (-1)))
    (h : Q ((n : Int) - 1, -1, n) s) : wpAny (model prog w) A (Builtin.Slice.sliceApplied (.ref sl) (pure (n : Int))) Q E s := by
  obtain ⟨os, hos, hcs, hds⟩ := id hs
  unfold Builtin.Slice.sliceApplied
  refine wpAny_bind (wpAny_bind (wpAny_field hos hds rfl (wpAny_bind (wpAny_field hos hds rfl (wpAny_bind (wpAny_field hos hds rfl (wpAny_pure (wpAny_bind (HT.slicePart_ ps ?_)))))))))
  dsimp only [Option.getD]
  rw [if_neg (by decide)]
  refine wpAny_bind (HT.slicePart_ pl (wpAny_bind (HT.slicePart_ pu (wpAny_bind (wpAny_pure ?_)))))
  rw [adjust_rev]
  dsimp only
  rw [places_rev]
  exact wpAny_pure h
theorem fm_congr {α β : Type} {f g : α → Option β} : ∀ {l : List α}, (∀ x ∈ l, f x = g x) → l.filterMap f = l.filterMap g
  | [], _ => rfl
  | x :: r, h => by
    rw [List.filterMap_cons, List.filterMap_cons, h x List.mem_cons_self, fm_congr (l := r) fun y hy => h y (List.mem_cons_of_mem x hy)]
theorem pick_rev (xs : Array Value) : List.filterMap (fun (k : Nat) => xs[((xs.size : Int) - 1 + (k : Int) * -1).toNat]?) (List.range xs.size) = xs.toList.reverse := by
  have h : ∀ k ∈ List.range xs.size, xs[((xs.size : Int) - 1 + (k : Int) * -1).toNat]? = xs.toList.reverse[k]? := fun k hk => by
    have hk := List.mem_range.mp hk
    have e : ((xs.size : Int) - 1 + (k : Int) * -1).toNat = xs.size - 1 - k := by omega
    rw [e, List.getElem?_reverse (by rw [Array.length_toList]; exact hk), Array.length_toList, Array.getElem?_toList]
  rw [fm_congr h]
  have e : ∀ l : List Value, List.filterMap (fun k => l[k]?) (List.range l.length) = l := fun l => by
    apply List.ext_getElem?
    intro i
    have g : List.filterMap (fun k => l[k]?) (List.range l.length) = (List.range l.length).map (fun k => l[k]?.getD .none) := by
      rw [← List.filterMap_eq_map]
      apply fm_congr
      intro k hk
      have hk := List.mem_range.mp hk
      show l[k]? = some (l[k]?.getD .none)
      rw [List.getElem?_eq_getElem hk]
      rfl
    rw [g, List.getElem?_map]
    by_cases hi : i < l.length
    · rw [List.getElem?_range hi, List.getElem?_eq_getElem hi]
      show some (l[i]?.getD .none) = _
      rw [List.getElem?_eq_getElem hi]
      rfl
    · rw [List.getElem?_eq_none (by rw [List.length_range]; omega), List.getElem?_eq_none (by omega)]
      rfl
  have e2 := e xs.toList.reverse
  rw [List.length_reverse, Array.length_toList] at e2
  exact e2
theorem getItem_tuple_rev {t sl : Addr} {items : Array Value} {vl vu vs : Value} {Q : Value → Shared → Prop} (ht : IsTup s.heap t items) (hs : s.heap.IsSliceOf sl vl vu vs) (pl : IsPart vl none) (pu : IsPart vu none) (ps : IsPart vs (some (-1)))
    (h : Q (.ref s.heap.objs.size) { heap := s.heap.push { cls := .type "tuple", data := .seq items.toList.reverse.toArray }, gens := s.gens, drawn := s.drawn, toks := s.toks, os := s.os }) (hsz : items.size ≤ sizeLine) :
    wpAny (model prog w) A (getItem (.ref t) (.ref sl)) Q E s := by
  obtain ⟨os, hos, hcs, hds⟩ := id hs
  refine wpAny_holding (wpAny_bind (wpAny_sequenceKey ht.typeIs (by decide) (wpAny_bind (wpAny_callSpecial?_slot ht.typeIs slot_tuple_getitem (wpAny_call_entry slot_tuple_getitem ht.typeIs entry_tuple_getitem ?_)))))
  have hTs : s.TypeIs (.ref sl) "slice" := ⟨os, hos, hcs⟩
  unfold Builtin.«tuple.__getitem__»
  rw [show slotArgs "__getitem__" 1 { pos := [Value.ref t, Value.ref sl] } = pure (.ref t, [.ref sl]) from rfl, pure_bind]
  dsimp only
  refine wpAny_bind (tupleItemsOf_ ht (wpAny_bind (wpAny_typeOf hTs ?_)))
  rw [if_pos (by decide)]
  refine wpAny_bind (slApplied_rev hs pl pu ps ?_)
  dsimp only
  rw [if_neg (by simp)]
  rw [pick_rev]
  exact wpAny_bind (wpAny_newObj_type (wpAny_pure ⟨_, rfl, wpAny_pure h⟩) (by show _ ≤ sizeLine; rw [List.size_toArray, List.length_reverse, Array.length_toList]; exact hsz))
end
/-- t[::-1], t a tuple: a new tuple -/
def tRevT (K : PySem.W.Frag) (te : TE) : TE := fun σ H Q => te σ H fun x H1 => ∃ a xs, x = .ref a ∧ SqT K H1 a xs ∧ ∀ p, H1 p = none → Q (.ref p) (upd H1 p (.tup xs.reverse))
theorem pe_revT {X : Cx} {e : Expr} {te : TE} {k : Nat} {p1 p2 p3 pos : Pos} (he : PE X e te) :
    PE X (.Subscript e (.Slice none none (some (.UnaryOp .USub (.Constant (.int 1) k p1) p2)) p3) pos) (tRevT X.K te) := by
  refine ⟨fun pins s σ H Q I h => Subscript_ (thn (he.run pins s σ H _ I h) fun v s1 hh => ?_)⟩
  obtain ⟨x, H1, I1, r1, a, xs, rfl, hx, q⟩ := hh
  cases r1
  have hst : PO X (some (.UnaryOp .USub (.Constant (.int 1) k p1) p2)) _ := po_some (pe_un un_neg pe_int)
  refine wpAny_Slice (thn (po_none.run pins s1 σ H1 (fun o H2 => o = none ∧ H2 = H1) I1 ⟨rfl, rfl⟩) fun vl s2 h2 => ?_)
  obtain ⟨l, H2, I2, pl, rfl, rfl⟩ := h2
  refine thn (po_none.run pins s2 σ H2 (fun o H3 => o = none ∧ H3 = H2) I2 ⟨rfl, rfl⟩) fun vu s3 h3 => ?_
  obtain ⟨u, H3, I3, pu, rfl, rfl⟩ := h3
  refine thn (hst.run pins s3 σ H3 (fun o H4 => o = some (-1) ∧ H4 = H3) I3 ⟨1, rfl, -1, rfl, rfl, rfl⟩) fun vs s4 h4 => ?_
  obtain ⟨st, H4, I4, ps, rfl, rfl⟩ := h4
  have I5 := Inv.kept (t' := s4.toks) I4 fun b ob q => Heap.get?_push_of_some { cls := Value.type "slice", data := Data.fields #[vl, vu, vs] } q
  obtain ⟨its, r, ht, hz⟩ := Inv.tuple I5 hx
  have hl := Vals.length r
  refine tail_any (ops := [.ref a, .ref s4.heap.objs.size]) ht.typeIs slot_tuple_getitem.lookup (getItem_tuple_rev ht (Heap.IsSliceOf.new s4.heap vl vu vs) pl pu ps ?_ (by rw [List.size_toArray, ← hl]; exact hz)) rfl
  have hp : ∀ b u, (s4.heap.push { cls := Value.type "slice", data := Data.fields #[vl, vu, vs] }).get? b = some u → ((s4.heap.push { cls := Value.type "slice", data := Data.fields #[vl, vu, vs] }).push { cls := .type "tuple", data := .seq its.reverse.toArray }).get? b = some u := fun b ob q => Heap.get?_push_of_some _ q
  refine ⟨.ref _, _, Inv.laid I5 hp (Nat.le_refl _) ?_, rfl, q _ (I5.hok.fresh (Nat.le_refl _))⟩
  dsimp only [ObjOk]
  exact ⟨by rw [List.length_reverse]; exact hz, its.reverse, r.reverse, _, Heap.get?_push_size _ (ho := rfl), rfl, _, rfl⟩
end Sc
namespace Sc
open PySem PySem.Spec PyProof.Rows L2
/-! ### conditions -/
theorem sc_check_part : FnScope ["part", "names", "before", "index", "name", "wrong"] ["part", "names", "before"] (defScope s_check_part) := ⟨rfl, rfl, rfl, by decide +kernel, rfl, by decide +kernel, by decide +kernel⟩
theorem sc_merged : FnScope ["names", "others", "name"] ["names", "others"] (defScope s_merged) := ⟨rfl, rfl, rfl, by decide +kernel, rfl, by decide +kernel, by decide +kernel⟩
theorem filter1 {α : Type} (p : α → Bool) (y : α) : List.filter p [y] = if p y = true then [y] else [] := by cases h : p y <;> simp [List.filter, h]
section
variable {P : Program} {w : World} {K : PySem.W.Frag} {mg : Str → Option Value} {base : Heap} {CC : Addr}
/-- the i-th name of a part is wrong; ys the part ahead of it -/
def wrongAt (xs ys : List Str) (i : Nat) : Bool := match xs[i]? with
  | some x => (!isName x || !risesAt xs i) || (decide (8 ≤ ys.length + i) || decide (x ∈ ys))
  | none => false
def firstWrong (xs ys : List Str) : Option Nat := (List.range xs.length).find? (wrongAt xs ys)
def errPI (C : Addr) (part : Int) (i : Nat) (H : Hp) (E : XK) : Prop := ∀ H' d, Same H H' → H' d = none → E (.ref C) (some d) (upd H' d (.xd [(("index" : Str), .int i), (("part" : Str), .int part)]))
def sp_check_part (K : PySem.W.Frag) (C : Addr) : Sp := fun vs H Q E => ∃ (part : Nat) (a b : Addr) (xs ys : List Str), vs = [.int part, .ref a, .ref b] ∧ part ≤ 1 ∧ SqT K H a (xs.map V.str) ∧ SqT K H b (ys.map V.str) ∧ Txts xs ∧ xs.length ≤ 1000 ∧ ys.length ≤ 1000 ∧
  (firstWrong xs ys = none → ∀ H', Same H H' → Q .non H') ∧ (∀ i, firstWrong xs ys = some i → errPI C part i H E)
theorem ok_check_part {f : Addr} {fd : FuncData} (F : Fun K "check_part" "check_part" s_check_part f fd) (B : Blt mg) (mM : ∃ t, mg "MOST_NAMES" = some (.int 8 t))
    (e_InvalidCondition : ErrMk P w K mg base "InvalidCondition" CC ["self", "part", "index"] (sp_init2 CC "part" "index")) (c_is_name : Cal P w K mg base CX0 1 "is_name" ["value"] sp_is_name) (c_rises : Cal P w K mg base CX0 1 "rises" ["names", "index"] (sp_rises K)) :
    FnOk P w K mg base (L2.CX P w) 3 f fd ["part", "names", "before"] (sp_check_part K CC) := by
  obtain ⟨t1, mM⟩ := mM
  refine F.okX sc_check_part (fun vs H Q E h => by obtain ⟨part, a, b, xs, ys, rfl, _⟩ := h; rfl) (fun cdv A outer s H vs Q E hr h => ?_)
  obtain ⟨part, a, b, xs, ys, rfl, hp, hS, hY, hT, hl, hly, q, e⟩ := h
  refine ⟨_, (pss_one (ps_for (passes_of rfl) rfl (pi_enumT (by rfl) B.b_enumerate (pa_cons (pv 1) pa_nil)) (pg_tup (by rfl) (pgs_cons (pg_name (i := 3) sc_check_part.nd rfl (Or.inl rfl)) (pgs_cons (pg_name (i := 4) sc_check_part.nd rfl (Or.inl rfl)) pgs_nil))) (pss_cons (ps_set (i := 5) sc_check_part.nd rfl (Or.inl rfl) (pe_or (pe_not (pe_cal c_is_name (hr.mono (by decide)) (pa_cons (pv 4) pa_nil))) (pe_one (pe_not (pe_cal c_rises (hr.mono (by decide)) (pa_cons (pv 1) (pa_cons (pv 3) pa_nil)))))))
      (pss_one (ps_if (PW.pt (pw_or (pt_val (pv 5)) (pw_or (pt_cmpR op_ge (pe_op op_add (pe_callB call_len_seq (by rfl) B.b_len PySem.boot_len (pa_cons (pv 2) pa_nil)) (pv 3)) (pe_glob (v := .int 8) rfl mM ⟨_, rfl⟩) (nomark _)) (pw_or1 (pt_cmpR op_in_seq (pv 4) (pv 2) rfl))))) (pss_one (ps_raise rfl (takes_of rfl rfl rfl rfl) (pmk_err2 e_InvalidCondition (hr.mono (by decide)) (pv 0) (pv 3)))) pss_nil))))), ?_⟩
  refine ⟨.ref a, rfl, a, _, rfl, hS, for_it walk_enumT (fun i σ H' => ∃ y1 y2 y3, σ = [some (.int part), some (.ref a), some (.ref b), y1, y2, y3] ∧ Same H H' ∧ ∀ j, j < i → wrongAt xs ys j = false)
    ⟨none, none, none, rfl, Same.refl H, fun j hj => absurd hj (Nat.not_lt_zero j)⟩ (fun i σ H' _ ⟨_, _, _, _, s, _⟩ => s.tup hS) ?_ ?_⟩
  · rintro i x σ H2 H3 hi ⟨y1, y2, y3, rfl, s, hb⟩ ⟨T, v1, v2, rfl, nT, rfl, h1, h2⟩
    obtain rfl : V.int (i : Nat) = v1 := Option.some.inj h1
    rw [List.length_map] at hi
    have hx : xs[i]? = some xs[i] := List.getElem?_eq_getElem hi
    obtain rfl : V.str xs[i] = v2 := strAt_inj hx h2
    have s3 : Same H (upd H2 T (.tup [.int (i : Nat), .str xs[i]])) := s.put' nT
    have rz : ∀ {H' : Hp}, wrongAt xs ys i = true → Same H H' → ∀ d, H' d = none → E (.ref CC) (some d) (upd H' d (.xd [(("index" : Str), .int (i : Nat)), (("part" : Str), .int part)])) := fun {H'} hp sH d nd => e i (find_at hi hp hb) H' d sH nd
    refine ⟨T, [.int (i : Nat), .str xs[i]], rfl, sqT_new, rfl, _, _, rfl, _, _, rfl, rfl, ?_⟩
    have ew : wrongAt xs ys i = ((!isName xs[i] || !risesAt xs i) || (decide (8 ≤ ys.length + i) || decide (xs[i] ∈ ys))) := by unfold wrongAt; rw [hx]
    have fk : FOk (.int part) ∧ FOk (.int (i : Nat)) := ⟨fok_nat (by omega), fok_nat (by omega)⟩
    refine ⟨_, rfl, xs[i], rfl, Nat.le_trans (hT _ (List.getElem_mem hi)) (by rw [sizeLine_eq]; decide), fun H4 s4 => ⟨_, rfl, _, rfl, bcase (fun c1 => ?_) (fun c1 => ?_)⟩⟩
    · exact ⟨_, rfl, _, rfl, iteT (iteT ⟨_, rfl, _, rfl, fk, rz (by rw [ew, c1, Bool.true_or, Bool.true_or]) (s3.trans s4)⟩)⟩
    · have s5 := s3.trans s4
      rw [c1, Bool.false_or] at ew
      refine ⟨.ref a, rfl, .int i, rfl, a, xs, i, rfl, s5.tup hS, hi, _, rfl, ?_⟩
      refine ⟨_, rfl, _, rfl, bcase (fun c2 => ?_) (fun c2 => ?_)⟩
      · exact iteT ⟨_, rfl, _, rfl, fk, rz (by rw [ew, c2, Bool.true_or]) s5⟩
      · rw [c2, Bool.false_or] at ew
        refine ⟨.ref b, rfl, b, _, rfl, .inr (s5.tup hY), .int i, rfl, _, i, rfl, rfl, _, 8, rfl, rfl, _, rfl, ?_⟩
        rw [List.length_map]
        by_cases h8 : 8 ≤ ys.length + i
        · rw [decide_eq_true (show (8 : Int) ≤ (ys.length : Int) + (i : Int) by omega)]
          exact iteT (iteT ⟨_, rfl, _, rfl, fk, rz (by rw [ew, decide_eq_true h8, Bool.true_or]) s5⟩)
        · rw [decide_eq_false (show ¬ (8 : Int) ≤ (ys.length : Int) + (i : Int) by omega)]
          rw [decide_eq_false h8, Bool.false_or] at ew
          refine iteF ⟨.str xs[i], rfl, .ref b, rfl, b, _, rfl, .inr (s5.tup hY), rfl, flat_strs ys, _, rfl, bcase (fun c3 => ?_) (fun c3 => ?_)⟩
          · have c3 : decide (xs[i] ∈ ys) = true := by rw [← inV_str]; exact c3
            exact ⟨_, rfl, _, rfl, fk, rz (by rw [ew, c3]) s5⟩
          · have c3 : decide (xs[i] ∈ ys) = false := by rw [← inV_str]; exact c3
            refine ⟨_, _, _, rfl, s5, fun j hj => ?_⟩
            by_cases hj2 : j < i
            · exact hb j hj2
            · have ej : j = i := by omega
              subst ej
              rw [ew, c3]
  · rintro σ H2 ⟨y1, y2, y3, rfl, s, hb⟩
    rw [List.length_map] at hb
    exact q (find_none hb) H2 s
def sp_merged (K : PySem.W.Frag) : Sp := fun vs H Q _ => ∃ (a b : Addr) (xs ys : List Str), vs = [.ref a, .ref b] ∧ SqT K H a (xs.map V.str) ∧ SqT K H b (ys.map V.str) ∧ xs.length + ys.length < 64 ∧
  ∀ H' p (zs : List Str), Same H H' → H' p = some (.tup (zs.map V.str)) → zs.Perm (xs ++ ys.filter fun y => !decide (y ∈ xs)) → sortedS zs = true → Q (.ref p) H'
theorem ok_merged {f : Addr} {fd : FuncData} (F : Fun K "merged" "merged" s_merged f fd) (B : Blt mg) : FnOk P w K mg base CX0 1 f fd ["names", "others"] (sp_merged K) := by
  refine F.ok sc_merged (fun vs H Q E h => by obtain ⟨a, b, xs, ys, rfl, _⟩ := h; rfl) (fun cdv A outer s H vs Q E hr h => ?_)
  obtain ⟨a, b, xs, ys, rfl, hS, hY, hl, q⟩ := h
  refine ⟨_, (pss_one (ps_ret (pe_callTy call_tuple_of (by rfl) B.b_tuple PyProof.Rows.boot_tuple (pa_cons (pe_callB cr_sortedS (by rfl) B.b_sorted (by decide +kernel) (pa_cons (pe_op op_cat (pe_callTy call_list_of (by rfl) B.b_list PyProof.Rows.boot_list (pa_cons (pv 0) pa_nil)) (pe_lc (own := [("name", 2)]) (g := gName 2) rfl sc_merged.nd (pi_tup (pv 1)) (blkOk_by (own := [("name", 2)]) (N := ["names", "others", "name"]) (sc := defScope s_merged) (by decide +kernel)) (fun _ _ _ _ _ => (pg_name (i := 2) sc_merged.nd rfl (Or.inl rfl))) (fun _ _ _ _ _ => (pts_.re (pts_one (pt_cmpR op_notIn_seq (pv 2) (pv 0) rfl)) (by first | (dsimp only [Cx.blk]; done) | exact rfl))) (fun _ _ _ _ _ => (pe_.re (pv 2) (by first | (dsimp only [Cx.blk]; done) | exact rfl))))) pa_nil)) pa_nil)))), ?_⟩
  have big : ∀ {m : Nat}, m ≤ 1000 → m ≤ sizeLine := fun {m} h => by rw [sizeLine_eq]; omega
  refine ⟨.ref a, rfl, a, _, rfl, .inr hS, fun l nl => ?_⟩
  have s1 := (Same.refl H).put (o := .lst (xs.map V.str)) nl
  have e1 : (upd H l (.lst (xs.map V.str))) l = some (.lst (xs.map V.str)) := upd_same
  generalize upd H l (.lst (xs.map V.str)) = H1 at s1 e1 ⊢
  refine ⟨.ref b, rfl, b, rfl, ⟨_, s1.tup hY⟩, fun D nD => lc_it walk_tup (fun i H' => Same H1 H' ∧ H' D = some (.lst (((ys.take i).filter fun y => !decide (y ∈ xs)).map V.str))) ⟨(Same.refl H1).put nD, upd_same⟩ (fun _ _ _ h => (s1.trans h.1).tup hY) ?_ ?_⟩
  · rintro i y H2 H3 hi ⟨s, e⟩ ⟨rfl, hy⟩
    rw [List.length_map] at hi
    have hx : ys[i]? = some ys[i] := List.getElem?_eq_getElem hi
    obtain rfl : V.str ys[i] = y := strAt_inj hx hy
    refine ⟨rfl, .str ys[i], rfl, .ref a, rfl, a, _, rfl, .inr ((s1.trans s).tup hS), rfl, flat_strs xs, _, rfl, bcase (fun c1 => ?_) (fun c1 => ?_)⟩
    · have c1 : (!decide (ys[i] ∈ xs)) = true := by rw [← inV_str]; exact c1
      refine ⟨_, rfl, grow (acc := fun i => ((ys.take i).filter fun y => !decide (y ∈ xs)).map V.str) nD s e ?_ ?_⟩
      · rw [List.length_map]
        refine small1000 (Nat.le_trans (List.length_filter_le _ _) ?_)
        rw [List.length_take]
        omega
      · show List.map V.str _ = _
        rw [take_more hx, List.filter_append, List.map_append, filter1, if_pos c1]
        rfl
    · have c1 : (!decide (ys[i] ∈ xs)) = false := by rw [← inV_str]; exact c1
      refine ⟨s, ?_⟩
      rw [take_more hx, List.filter_append, filter1, if_neg (by rw [c1]; exact Bool.false_ne_true), List.append_nil]
      exact e
  · rintro H2 ⟨s, e⟩
    rw [List.length_map, List.take_length] at e
    have hfl := List.length_filter_le (fun y => !decide (y ∈ xs)) ys
    refine ⟨l, D, _, _, rfl, rfl, s _ _ e1, e, big (by rw [List.length_map, List.length_map]; omega), fun p np => ?_⟩
    have s2 := (s1.trans s).put' (o := .lst (xs.map V.str ++ (ys.filter fun y => !decide (y ∈ xs)).map V.str)) np
    refine ⟨p, xs ++ ys.filter fun y => !decide (y ∈ xs), rfl, ?_, ?_, fun zs p2 hp hs np2 => ?_⟩
    · rw [List.map_append]
      exact sqL_new
    · rw [List.length_append]
      omega
    · refine ⟨p2, _, rfl, .inl ⟨sqL_new, fun p3 np3 => q _ p3 zs ((s2.put' np2).put' np3) upd_same hp hs⟩⟩
end
end Sc
namespace Sc
open PySem PySem.Spec PyProof.Rows L2
/-! ### an object Condition -/
theorem sc_Condition___init__ : FnScope ["self", "holding", "failing"] ["self", "holding", "failing"] (defScope s_Condition___init__) := ⟨rfl, rfl, rfl, by decide +kernel, rfl, by decide +kernel, by decide +kernel⟩
section
variable {P : Program} {w : World} {K : PySem.W.Frag} {mg : Str → Option Value} {base : Heap} {CC C : Addr}
theorem wrongs_none {xs ys : List Str} (h : firstWrong xs ys = none) (i : Nat) (hi : i < xs.length) : ((!isName xs[i] || !risesAt xs i) = false ∧ ¬ 8 ≤ ys.length + i) ∧ ¬ xs[i] ∈ ys := by
  unfold firstWrong at h
  rw [List.find?_eq_none] at h
  have h := (Bool.not_eq_true _).mp (h i (List.mem_range.mpr hi))
  unfold wrongAt at h
  rw [List.getElem?_eq_getElem hi] at h
  dsimp only at h
  rw [Bool.or_eq_false_iff, Bool.or_eq_false_iff (x := decide _)] at h
  exact ⟨⟨h.1, of_decide_eq_false h.2.1⟩, of_decide_eq_false h.2.2⟩
theorem fw_len {xs ys : List Str} (h : firstWrong xs ys = none) : xs.length = 0 ∨ ys.length + xs.length ≤ 8 := by
  by_cases e : xs.length = 0
  · exact .inl e
  · have := (wrongs_none h (xs.length - 1) (by omega)).1.2
    exact .inr (by omega)
theorem fw_out {xs ys : List Str} (h : firstWrong xs ys = none) : ∀ x ∈ xs, ¬ x ∈ ys := by
  intro x hx
  obtain ⟨i, hi, rfl⟩ := List.getElem_of_mem hx
  exact (wrongs_none h i hi).2
theorem filter_out {xs ys : List Str} (h : ∀ x ∈ xs, ¬ x ∈ ys) : xs.filter (fun x => !decide (x ∈ ys)) = xs := by
  rw [List.filter_eq_self]
  intro x hx
  rw [decide_eq_false (h x hx)]
  rfl
/-- all but the object at x stands -/
def SameX (x : Addr) (H H' : Hp) : Prop := ∀ b o, b ≠ x → H b = some o → H' b = some o
/-- the fields of a condition -/
def condF (a b n : Addr) : List (Str × V) := putF "_names" (.ref n) (putF "_failing" (.ref b) (putF "_holding" (.ref a) []))
def sp_cond_init (K : PySem.W.Frag) (C CC : Addr) : Sp := fun vs H Q E => ∃ (x dx a b : Addr) (xs ys : List Str), vs = [.ref x, .ref a, .ref b] ∧ H x = some (.ins C dx []) ∧ SqT K H a (xs.map V.str) ∧ SqT K H b (ys.map V.str) ∧ Txts xs ∧ Txts ys ∧ xs.length ≤ 1000 ∧ ys.length ≤ 1000 ∧
  (∀ i, firstWrong xs [] = some i → errPI CC ((0 : Nat) : Int) i H E) ∧ (firstWrong xs [] = none → (∀ i, firstWrong ys xs = some i → errPI CC ((1 : Nat) : Int) i H E) ∧
  (firstWrong ys xs = none → ∀ H' n zs, SameX x H H' → H' x = some (.ins C dx (condF a b n)) → H' n = some (.tup (zs.map V.str)) → zs.Perm (xs ++ ys) → sortedS zs = true → Q .non H'))
theorem sqT_upd {H : Hp} {x dx a' : Addr} {fs : List (Str × V)} {o : HO} {vs : List V} (hx : H x = some (.ins C dx fs)) (h : SqT K H a' vs) : SqT K (upd H x o) a' vs := by
  rcases h with (h | ⟨ob, h⟩) | h
  · have ne : a' ≠ x := fun e => by rw [e, hx] at h; cases h
    exact .inl (.inl (by rw [upd_ne ne]; exact h))
  · have ne : a' ≠ x := fun e => by rw [e, hx] at h; cases h
    exact .inl (.inr ⟨ob, by rw [upd_ne ne]; exact h⟩)
  · exact .inr h
theorem putF_len (f : Str) (v : V) : ∀ fs : List (Str × V), (putF f v fs).length ≤ fs.length + 1
  | [] => Nat.le_refl 1
  | (g, x) :: r => by
    unfold putF
    split
    · exact Nat.le_succ _
    · show (putF f v r).length + 1 ≤ r.length + 1 + 1
      exact Nat.succ_le_succ (putF_len f v r)
theorem ok_cond_init {f : Addr} {fd : FuncData} (F : Fun K "__init__" "Condition.__init__" s_Condition___init__ f fd) (B : Blt mg) (T : Cls K C) (n1 : NoAttr K C "_holding") (n2 : NoAttr K C "_failing") (n3 : NoAttr K C "_names")
    (c_check_part : Cal P w K mg base (L2.CX P w) 3 "check_part" ["part", "names", "before"] (sp_check_part K CC)) (c_merged : Cal P w K mg base CX0 1 "merged" ["names", "others"] (sp_merged K)) :
    FnOk P w K mg base (L2.CX P w) 4 f fd ["self", "holding", "failing"] (sp_cond_init K C CC) := by
  refine F.okX sc_Condition___init__ (fun vs H Q E h => by obtain ⟨x, dx, a, b, xs, ys, rfl, _⟩ := h; rfl) (fun cdv A outer s H vs Q E hr h => ?_)
  obtain ⟨x, dx, a, b, xs, ys, rfl, hx, hA, hB, tA, tB, lA, lB, e0, q⟩ := h
  refine ⟨_, (pss_cons (ps_expr (pe_calX c_check_part (hr.mono (by decide)) (takes_of rfl rfl rfl rfl) (pa_cons pe_int (pa_cons (pv 1) (pa_cons (pe_tup pa_nil) pa_nil)))))
      (pss_cons (ps_expr (pe_calX c_check_part (hr.mono (by decide)) (takes_of rfl rfl rfl rfl) (pa_cons pe_int (pa_cons (pv 2) (pa_cons (pv 1) pa_nil)))))
      (pss_cons (ps_fld (pv 0) (pv 1) rfl)
      (pss_cons (ps_fld (pv 0) (pv 2) rfl)
      (pss_one (ps_fld (pv 0) (pe_cal c_merged (hr.mono (by decide)) (pa_cons (pv 1) (pa_cons (pv 2) pa_nil))) rfl)))))), ?_⟩
  refine ⟨.ref a, rfl, Nat.zero_le _, fun t nt => ⟨0, a, t, xs, [], rfl, by decide, ((Same.refl H).put nt).tup hA, sqT_new, tA, lA, by decide, fun e1 H1 s1 => ?_, fun i ei H' d sH nd => e0 i ei H' d (((Same.refl H).put nt).trans sH) nd⟩⟩
  obtain ⟨e1', q⟩ := q e1
  have s1 := ((Same.refl H).put nt).trans s1
  refine ⟨.ref b, rfl, .ref a, rfl, 1, b, a, ys, xs, rfl, by decide, s1.tup hB, s1.tup hA, tB, lB, lA, fun e2 H2 s2 => ?_, fun i ei H' d sH nd => e1' i ei H' d (s1.trans sH) nd⟩
  have s2 := s1.trans s2
  have q := q e2
  have hlen : xs.length + ys.length < 64 := by
    have h1 := fw_len e1
    have h2 := fw_len e2
    simp only [List.length_nil] at h1
    omega
  have hx2 := s2 _ _ hx
  refine ⟨.ref a, rfl, .ref x, rfl, x, C, dx, [], rfl, hx2, T, n1, by decide, ?_⟩
  refine ⟨.ref b, rfl, .ref x, rfl, x, C, dx, _, rfl, upd_same, T, n2, Nat.lt_of_le_of_lt (putF_len _ _ _) (by decide), ?_⟩
  refine ⟨.ref a, rfl, .ref b, rfl, a, b, xs, ys, rfl, ?_, ?_, hlen, fun H' p zs sH ep hperm hsort => ?_⟩
  · exact sqT_upd upd_same (sqT_upd hx2 (s2.tup hA))
  · exact sqT_upd upd_same (sqT_upd hx2 (s2.tup hB))
  · rw [filter_out (fw_out e2)] at hperm
    refine ⟨.ref x, rfl, x, C, dx, _, rfl, sH _ _ upd_same, T, n3, Nat.lt_of_le_of_lt (putF_len _ _ _) (Nat.lt_of_le_of_lt (Nat.succ_le_succ (putF_len _ _ _)) (by decide)), q _ p zs (fun b' o ne hb => ?_) upd_same ?_ hperm hsort⟩
    · rw [upd_ne ne]
      refine sH _ _ ?_
      rw [upd_ne ne, upd_ne ne]
      exact s2 _ _ hb
    · have ne : p ≠ x := fun e => by
        have h2 := sH _ _ (upd_same (H := upd H2 x (.ins C dx (putF "_holding" (.ref a) []))) (a := x) (o := .ins C dx (putF "_failing" (.ref b) (putF "_holding" (.ref a) []))))
        rw [e, h2] at ep
        cases ep
      rw [upd_ne ne]
      exact ep
end
end Sc
namespace Sc
open PySem PySem.Spec PyProof.Rows L2
/-- len(o), o an object whose class has its own __len__ -/
def rLenO (C : Addr) (sp : Sp) : List V → Hp → VK → Prop := fun xs H Q => ∃ (a dx : Addr) (fs : List (Str × V)), xs = [.ref a] ∧ H a = some (.ins C dx fs) ∧ sp [.ref a] H (fun v H' => ∃ n : Nat, v = .int n ∧ n < 2 ^ 62 ∧ Q (.int n) H') (fun _ _ _ => False)
theorem call_lenO {X : Cx} {C g : Addr} {k : Nat} {fd : FuncData} {ps : List Str} {sp : Sp} (at_ : PySem.W.findIn X.K (.ref C) "__len__" = some (some (.ref g))) (ty : PySem.W.typeIn X.K (.ref g) = some (.type "function"))
    (F : FnOk X.prog X.w X.K X.mg X.base CX0 k g fd ps sp) (hr : Room (k + 1) X.A) (hb : Binds X.K fd ps []) : CallR X (.builtin "len") (rLenO C sp) := by
  intro pins s σ H xs us Q I r h
  obtain ⟨a, dx, fs, rfl, ea, h⟩ := h
  obtain ⟨u, rfl, ru⟩ := vals1 r
  obtain rfl : u = Value.ref a := ru
  obtain ⟨mA, O, _⟩ := ins_get I.hok ea
  obtain ⟨od, J, _⟩ := ObjM.look O
  have hl : ([Value.ref a] ++ ([] : List Value)).length = ps.length := F.len _ _ _ _ h
  refine Calls.call_function_entry kind_len plain_len entry_len (args_len1 (.ref a)) ?_
  unfold Builtin.len
  rw [show oneArg "len" { pos := [Value.ref a] } = pure (.ref a) from rfl, pure_bind]
  refine wpAny_bind (PySem.W.special_fn I.kIn J at_ ty (wpAny_call (codeAny_mono (F.run X.A.in1 X.stack s H ⟨[.ref a], []⟩ [.ref a] [.ref a] _ _ (Room.in1 hr) (Env0.in1 I.env0) (hb s [.ref a] I.kIn hl) (Paired.cons rfl .nil) h) fun res s' hq => ?_)))
  cases res with
  | error e => exact hq.elim
  | ok fl =>
    cases fl with
    | ret v =>
      obtain ⟨y, H', I', ry, n, rfl, hn, q⟩ := I.after hq
      obtain ⟨t, rfl⟩ := ry
      dsimp only
      have e62 : (2 : Nat) ^ 62 < 2 ^ 63 := by decide
      refine wpAny_bind (wpAny_holding (wpAny_pure (wpAny_bind (wpAny_letGo ?_))))
      have h1 : ¬ (n : Int) < 0 := by omega
      have h2 : ¬ (n : Int) ≥ 2 ^ 63 := by
        have : (n : Int) < 2 ^ 62 := by exact_mod_cast hn
        omega
      rw [if_neg h1, if_neg h2]
      exact wpAny_bind (wpAny_mkInt (wpAny_pure ⟨_, rfl, .int n, H', I'.tok _, ⟨_, rfl⟩, q⟩))
    | next => exact hq.elim
    | brk => exact hq.elim
    | cont => exact hq.elim
end Sc
namespace Sc
open PySem PySem.Spec PyProof.Rows L2
section
variable {P : Program} {w : World} {K : PySem.W.Frag} {mg : Str → Option Value} {base : Heap} {a l : Addr} {H H' H'' : Hp}
theorem wk_ss {X : Cx} {st : List Stmt} {t : TS} (t' : TS) (h : PSs X st t) (w : ∀ D σ H, t' D σ H → t D σ H) : PSs X st t' := ⟨fun pins s σ H D I x => h.run pins s σ H D I (w D σ H x)⟩
/-- a class whose objects a def of its own makes -/
structure Mkr (P : Program) (w : World) (K : PySem.W.Frag) (mg : Str → Option Value) (base : Heap) (k : Nat) (x : Str) (C : Addr) (ps : List Str) (sp : Sp) : Prop where
  ex : ∃ (f : Addr) (fd : FuncData), Mk K C f ∧ FnOk P w K mg base (L2.CX P w) k f fd ps sp ∧ mg x = some (.ref C) ∧ Binds K fd ps []
section
variable {X : Cx} {k : Nat} {x : Str} {C : Addr} {ps : List Str} {sp : Sp} {e : Expr} {es : List Expr} {t : TA} {p pos : Pos}
theorem pe_mkN (M : Mkr X.prog X.w X.K X.mg X.base k x C ps sp) (hr : Room (k + 1) X.A) (ha : PA X (e :: es) t) (hg : Gl X x := by rfl) (hdb : (x == ("__debug__" : Str)) = false := by decide)
    (he : starEach (e :: es) X.env = (false, eval e X.env) :: starEach es X.env := by rfl) (hpl : (backTo pos (starEach es X.env)).any (·.1) = false := by rfl) : PE X (.Call (.Name x p) (e :: es) [] pos) (tMake C sp [] E0 t) := by
  obtain ⟨f, fd, hk, F, hm, hb⟩ := M.ex
  exact pe_make hk F hr hg hm hb .nil passL ha hdb he hpl
theorem pe_mkX {E : XK} (M : Mkr X.prog X.w X.K X.mg X.base k x C ps sp) (hr : Room (k + 1) X.A) (tk : Takes X (fun cls d _ H => E cls d H)) (ha : PA X (e :: es) t) (hg : Gl X x := by rfl) (hdb : (x == ("__debug__" : Str)) = false := by decide)
    (he : starEach (e :: es) X.env = (false, eval e X.env) :: starEach es X.env := by rfl) (hpl : (backTo pos (starEach es X.env)).any (·.1) = false := by rfl) : PE X (.Call (.Name x p) (e :: es) [] pos) (tMake C sp [] E t) := by
  obtain ⟨f, fd, hk, F, hm, hb⟩ := M.ex
  exact pe_make hk F hr hg hm hb .nil (fun pins σ H s e s' I h => passAt tk σ pins H s e s' I h) ha hdb he hpl
end
def sp_prop (C : Addr) (n : Str) : Sp := fun vs H Q _ => ∃ (x dx : Addr) (fs : List (Str × V)) (v : V), vs = [.ref x] ∧ H x = some (.ins C dx fs) ∧ fs.lookup n = some v ∧ Q v H
def sp_len (K : PySem.W.Frag) (C : Addr) : Sp := fun vs H Q _ => ∃ (x dx n : Addr) (fs : List (Str × V)) (zs : List V), vs = [.ref x] ∧ H x = some (.ins C dx fs) ∧ fs.lookup ("_names" : Str) = some (.ref n) ∧ SqT K H n zs ∧ Q (.int zs.length) H
structure CondC (P : Program) (w : World) (K : PySem.W.Frag) (mg : Str → Option Value) (base : Heap) (C p1 g1 p2 g2 p3 g3 g4 : Addr) (fd1 fd2 fd3 fd4 : FuncData) : Prop where
  cls : Cls K C
  p_holding : PropOf K C "holding" p1 g1 ∧ FnOk P w K mg base CX0 1 g1 fd1 ["self"] (sp_prop C "_holding") ∧ Binds K fd1 ["self"] []
  p_failing : PropOf K C "failing" p2 g2 ∧ FnOk P w K mg base CX0 1 g2 fd2 ["self"] (sp_prop C "_failing") ∧ Binds K fd2 ["self"] []
  p_names : PropOf K C "names" p3 g3 ∧ FnOk P w K mg base CX0 1 g3 fd3 ["self"] (sp_prop C "_names") ∧ Binds K fd3 ["self"] []
  lenAt : PySem.W.findIn K (.ref C) "__len__" = some (some (.ref g4))
  lenTy : PySem.W.typeIn K (.ref g4) = some (.type "function")
  lenF : FnOk P w K mg base CX0 1 g4 fd4 ["self"] (sp_len K C)
  lenB : Binds K fd4 ["self"] []
end
end Sc
namespace Sc
open PySem PySem.Spec PyProof.Rows L2
theorem sc_Condition_holding : FnScope ["self"] ["self"] (defScope s_Condition_holding) := ⟨rfl, rfl, rfl, by decide +kernel, rfl, by decide +kernel, by decide +kernel⟩
theorem sc_Condition_failing : FnScope ["self"] ["self"] (defScope s_Condition_failing) := ⟨rfl, rfl, rfl, by decide +kernel, rfl, by decide +kernel, by decide +kernel⟩
theorem sc_Condition_names : FnScope ["self"] ["self"] (defScope s_Condition_names) := ⟨rfl, rfl, rfl, by decide +kernel, rfl, by decide +kernel, by decide +kernel⟩
theorem sc_Condition___len__ : FnScope ["self"] ["self"] (defScope s_Condition___len__) := ⟨rfl, rfl, rfl, by decide +kernel, rfl, by decide +kernel, by decide +kernel⟩
section
variable {P : Program} {w : World} {K : PySem.W.Frag} {mg : Str → Option Value} {base : Heap} {C : Addr}
theorem ok_holding {f : Addr} {fd : FuncData} (F : Fun K "holding" "Condition.holding" s_Condition_holding f fd) (T : Cls K C) (n : NoAttr K C "_holding") : FnOk P w K mg base CX0 1 f fd ["self"] (sp_prop C "_holding") := by
  refine F.ok sc_Condition_holding (fun vs H Q E h => by obtain ⟨x, dx, fs, v, rfl, _⟩ := h; rfl) (fun cdv A outer s H vs Q E hr h => ?_)
  obtain ⟨x, dx, fs, v, rfl, hx, hl, q⟩ := h
  exact ⟨_, (pss_one (ps_ret (pe_fld (pv 0) rfl))), ⟨_, rfl, x, C, dx, fs, v, rfl, hx, T, n, hl, q⟩⟩
theorem ok_failing {f : Addr} {fd : FuncData} (F : Fun K "failing" "Condition.failing" s_Condition_failing f fd) (T : Cls K C) (n : NoAttr K C "_failing") : FnOk P w K mg base CX0 1 f fd ["self"] (sp_prop C "_failing") := by
  refine F.ok sc_Condition_failing (fun vs H Q E h => by obtain ⟨x, dx, fs, v, rfl, _⟩ := h; rfl) (fun cdv A outer s H vs Q E hr h => ?_)
  obtain ⟨x, dx, fs, v, rfl, hx, hl, q⟩ := h
  exact ⟨_, (pss_one (ps_ret (pe_fld (pv 0) rfl))), ⟨_, rfl, x, C, dx, fs, v, rfl, hx, T, n, hl, q⟩⟩
theorem ok_cnames {f : Addr} {fd : FuncData} (F : Fun K "names" "Condition.names" s_Condition_names f fd) (T : Cls K C) (n : NoAttr K C "_names") : FnOk P w K mg base CX0 1 f fd ["self"] (sp_prop C "_names") := by
  refine F.ok sc_Condition_names (fun vs H Q E h => by obtain ⟨x, dx, fs, v, rfl, _⟩ := h; rfl) (fun cdv A outer s H vs Q E hr h => ?_)
  obtain ⟨x, dx, fs, v, rfl, hx, hl, q⟩ := h
  exact ⟨_, (pss_one (ps_ret (pe_fld (pv 0) rfl))), ⟨_, rfl, x, C, dx, fs, v, rfl, hx, T, n, hl, q⟩⟩
theorem ok_clen {f : Addr} {fd : FuncData} (F : Fun K "__len__" "Condition.__len__" s_Condition___len__ f fd) (B : Blt mg) (T : Cls K C) (n : NoAttr K C "_names") : FnOk P w K mg base CX0 1 f fd ["self"] (sp_len K C) := by
  refine F.ok sc_Condition___len__ (fun vs H Q E h => by obtain ⟨x, dx, m, fs, zs, rfl, _⟩ := h; rfl) (fun cdv A outer s H vs Q E hr h => ?_)
  obtain ⟨x, dx, m, fs, zs, rfl, hx, hl, hz, q⟩ := h
  exact ⟨_, (pss_one (ps_ret (pe_callB call_len_seq (by rfl) B.b_len PySem.boot_len (pa_cons (pe_fld (pv 0) rfl) pa_nil)))), ⟨_, rfl, x, C, dx, fs, _, rfl, hx, T, n, hl, m, _, rfl, .inr hz, q⟩⟩
end
end Sc
namespace Sc
open PySem PySem.Spec PyProof.Rows L2
def SLe (a b : Str) : Prop := a.cps.toList ≤ b.cps.toList
theorem rising_pw : ∀ (x : Str) (r : List Str), risingS x r = true → (∀ y ∈ r, SLe x y) ∧ r.Pairwise SLe
  | _, [], _ => ⟨(fun _ h => nomatch h), List.Pairwise.nil⟩
  | x, y :: r, h => by
    have h : (!ltCps y.cps.toList x.cps.toList && risingS y r) = true := h
    rw [Bool.and_eq_true, ltCps_eq] at h
    obtain ⟨h1, h2⟩ := h
    obtain ⟨i1, i2⟩ := rising_pw y r h2
    have hxy : SLe x y := by
      have h1 : ¬ y.cps.toList < x.cps.toList := by simpa using h1
      exact h1
    refine ⟨fun z hz => ?_, List.pairwise_cons.mpr ⟨i1, i2⟩⟩
    rcases List.mem_cons.mp hz with rfl | h
    · exact hxy
    · exact List.le_trans hxy (i1 z h)
theorem sorted_pw : ∀ {r : List Str}, sortedS r = true → r.Pairwise SLe
  | [], _ => .nil
  | x :: r, h => List.pairwise_cons.mpr (rising_pw x r h)
theorem str_ext {a b : Str} (h : a.cps.toList = b.cps.toList) : a = b := by
  obtain ⟨x⟩ := a
  obtain ⟨y⟩ := b
  congr 1
  exact Array.toList_inj.mp h
theorem sorted_uniq {a b : List Str} (p : a.Perm b) (sa : sortedS a = true) (sb : sortedS b = true) : a = b :=
  List.Perm.eq_of_pairwise (le := SLe) (fun x y _ _ h1 h2 => str_ext (List.le_antisymm h1 h2)) (sorted_pw sa) (sorted_pw sb) p
end Sc
namespace OwnX
open PySem PySem.Spec PyProof.Rows PySem.W
section
variable {prog : Program} {w : World} {M : Model} {A : Around} {E : Value → Shared → Prop} {s : Shared} {K : Frag} {x C L f : Addr} {h₀ : Heap} {m : Str → Option Value} {ox : Obj} {od : Option Obj}
/-- x op b, both of the class at C -/
theorem bin_same {op : Operator} {b : Value} {Q : Value → Shared → Prop} (X : K.In s.heap) (I : InstAt s.heap x ox C od) (hb : Looks (model prog w) s.heap (typeOf b) (.ref C)) (hc : selfFirst K C = true)
    (hs : findIn K (.ref C) (PySem.dunder op.info.2) = some (some (.ref f))) (hf : isFn K (.ref f) = true)
    (h : wpAny (model prog w) A (call (.ref f) [.ref x, b]) (PySem.W.CmpBack Q) E s) : wpAny (model prog w) A (binaryOp op (.ref x) b) Q E s := by
  obtain ⟨cd, rest, hcd, hm⟩ := ksp_first hc
  rcases hi : op.info with ⟨sym, nm'⟩
  rw [hi] at hs
  dsimp only at hs
  have one := ksp_try X I hs hf h
  obtain ⟨hh, g, d, tt, os⟩ := s
  have L1 : Looks (model prog w) hh (typeOf (.ref x)) (.ref C) := I.type
  have L3 : Looks (model prog w) hh (fillsNumberSlot (.ref C) nm') true := fills_K X hcd hm hs
  simp only [binaryOp, hi]
  refine wpAny_holding (wpAny_bind ?_)
  unfold binaryOp1
  refine wpAny_bind (L1.at (wpAny_bind (hb.at (wpAny_bind (L3.at ?_)))))
  have e : (Value.ref C == Value.ref C) = true := beq_self_eq_true _
  simp only [e, if_true]
  ksp_lk
  refine wpAny_mono one (fun r s' hr' => ?_) fun _ _ e => e
  obtain ⟨v, rfl, hq⟩ := hr'
  ksp_lk
  exact hq
theorem ifBound_ne {args : List Value} {Q : Option Value → Shared → Prop} (X : K.In s.heap) (I : InstAt s.heap x ox C od) (hs : findIn K (.ref C) "__ne__" = some (some (.builtin "object.__ne__")))
    (h : wpAny M A (call (.builtin "object.__ne__") (.ref x :: args)) (fun v => Q (some v)) E s) : wpAny M A (callSpecialIfBound? (.ref x) "__ne__" args) Q E s := by
  simp only [callSpecialIfBound?, bindSpecialIfBound?]
  refine wpAny_holding (wpAny_bind (wpAny_bind (wpAny_bind (I.type.here ((looks_findIn X hs).here ?_)))))
  refine wpAny_bind (wpAny_askSetting (wpAny_ite ?_))
  have fin : wpAny M A (call (.builtin "object.__ne__") ([.ref x] ++ args) >>= fun v => pure (some v)) Q E s := wpAny_bind (wpAny_mono h (fun v s' h' => wpAny_pure h') fun _ _ h' => h')
  split
  · exact wpAny_bind (wpAny_of_eq (F.cmp_object.ne.bind _) (wpAny_pure (by exact fin)))
  · exact wpAny_tryCatch (wpAny_bind (wpAny_of_eq (F.cmp_object.ne.bind _) (wpAny_pure (by exact fin))))
theorem entry_ne {b : Value} {Q : Fin → Shared → Prop} (X : K.In s.heap) (I : InstAt s.heap x ox C od) (hs : findIn K (.ref C) "__eq__" = some (some (.ref f))) (hf : isFn K (.ref f) = true) (hu : A.units < cLine)
    (h : wpAny (model prog w) A (call (.ref f) [.ref x, b]) (fun v s' => ∃ b, v = .bool b ∧ Q (.done (.ret (.bool (!b)))) s') E s) : wpAny (model prog w) A (Builtin.«object.__ne__» ⟨[.ref x, b], []⟩) Q E s := by
  unfold Builtin.«object.__ne__»
  repeat (first
    | with_reducible refine wpAny_cRoomFor hu ?_
    | (refine wpAny_bind (m := callSpecialIfBound? (.ref x) (Str.ofString "__eq__") [b])
        (ifBound_K X I hs hf (wpAny_mono h (fun r s' hr => by
          obtain ⟨b, rfl, hq⟩ := hr
          repeat (first | exact hq | exact wpAny_pure hq | exact wpAny_truthy_bool hq | (refine wpAny_bind (m := truthy (.bool _)) (wpAny_truthy_bool ?_)) | wp_step)) fun _ _ e => e)))
    | wp_step)
theorem try_ne {b : Value} {Q : Option Value → Shared → Prop} (X : K.In s.heap) (I : InstAt s.heap x ox C od) (hm : mroIn K C (.type "object") = some true) (hn : findIn K (.ref C) "__ne__" = some (some (.builtin "object.__ne__")))
    (hs : findIn K (.ref C) "__eq__" = some (some (.ref f))) (hf : isFn K (.ref f) = true) (hu : A.units + 1 < cLine)
    (h : wpAny (model prog w) A.in1 (call (.ref f) [.ref x, b]) (fun v s' => ∃ b, v = .bool b ∧ Q (some (.bool (!b))) s') E s) : wpAny (model prog w) A (tryCompare (.ref x) "__ne__" b) Q E s := by
  unfold tryCompare
  refine wpAny_bind (ifBound_ne X I hn (wpAny_call (codeAny_call_builtin F.cmp_object.ne.plain F.cmpEntry_ne (check_slot F.cmpKind_ne F.cmpSplit_ne (I.type.andThen (looks_mroIn X hm)) (F.cmpArgs_ne _ _)
    (entry_ne (A := A.in1) X I hs hf hu (wpAny_mono h (fun v s' hv => ?_) fun _ _ e => e))))))
  obtain ⟨b, rfl, hq⟩ := hv
  first | exact ⟨b, rfl, wpAny_pure hq⟩ | exact ⟨b, rfl, wpAny_pure (wpAny_pure hq)⟩ | exact ⟨b, rfl, hq⟩
theorem ne_K {b tb : Value} {Q : Value → Shared → Prop} (hu : A.units + 1 < cLine) (X : K.In s.heap) (I : InstAt s.heap x ox C od) (hb : Looks (model prog w) s.heap (typeOf b) tb) (hnf : notFirst K C tb = true)
    (hm : mroIn K C (.type "object") = some true) (hn : findIn K (.ref C) "__ne__" = some (some (.builtin "object.__ne__"))) (hs : findIn K (.ref C) "__eq__" = some (some (.ref f))) (hf : isFn K (.ref f) = true)
    (h : wpAny (model prog w) A.in1 (call (.ref f) [.ref x, b]) (fun v s' => ∃ b, v = .bool b ∧ Q (.bool (!b)) s') E s) : wpAny (model prog w) A (richCompare .NotEq (.ref x) b) Q E s := by
  have one : wpAny (model prog w) A (tryCompare (.ref x) "__ne__" b) (fun r s' => ∃ v, r = some v ∧ Q v s') E s := try_ne X I hm hn hs hf hu (wpAny_mono h (fun v s' ⟨b, e, q⟩ => ⟨b, e, _, rfl, q⟩) fun _ _ e => e)
  unfold richCompare
  simp only [oneThing_ref]
  refine wpAny_holding (wpAny_bind (wpAny_cRoomFor (Nat.lt_of_succ_lt hu) ?_))
  rw [cmpInfo_NotEq]
  dsimp only
  refine wpAny_bind (I.type.here (wpAny_bind (hb.here ?_)))
  split
  · rename_i q
    have e : subIn K tb (.ref C) = some false := by
      rcases Bool.or_eq_true_iff.mp hnf with e | e
      · rw [beq_iff_eq.mp e] at q; simp at q
      · exact beq_iff_eq.mp e
    refine wpAny_bind ((looks_subIn X e).here ?_)
    simp only [Bool.false_eq_true, if_false]
    refine wpAny_bind (wpAny_mono one (fun r s' z => ?_) fun _ _ e => e)
    obtain ⟨v, rfl, hq⟩ := z
    exact wpAny_pure hq
  · refine wpAny_bind (wpAny_pure ?_)
    simp only [Bool.false_eq_true, if_false]
    refine wpAny_bind (wpAny_mono one (fun r s' z => ?_) fun _ _ e => e)
    obtain ⟨v, rfl, hq⟩ := z
    exact wpAny_pure hq
end
end OwnX
namespace Sc
open PySem PySem.Spec PyProof.Rows L2
/-- a value's type, as comparisons ask for it -/
inductive TyR (K : PySem.W.Frag) (H : Hp) : V → Value → Prop where
  | non : TyR K H .non (.type "NoneType")
  | int (i : Int) : TyR K H (.int i) (.type "int")
  | str (x : Str) : TyR K H (.str x) (.type "str")
  | lst {a : Addr} {xs : List V} (e : SqL K H a xs) : TyR K H (.ref a) (.type "list")
  | tup {a : Addr} {xs : List V} (e : SqT K H a xs) : TyR K H (.ref a) (.type "tuple")
  | ins {a C dx : Addr} {fs : List (Str × V)} (e : H a = some (.ins C dx fs)) : TyR K H (.ref a) (.ref C)
section
variable {X : Cx} {CX : CXT} {C g : Addr} {k : Nat} {fd : FuncData} {ps : List Str} {sp : Sp} {E : XK}
theorem TyR.looks {pins : List (Addr × Obj)} {σ : L2.St} {H : Hp} {s : Shared} {y : V} {t u : Value} (I : Inv X pins σ H s) (h : TyR X.K H y t) (r : RelV y u) {prog : Program} {w : World} : PySem.W.Looks (model prog w) s.heap (typeOf u) t := by
  cases h with
  | non => cases r; exact PySem.W.Looks.of_pure rfl
  | int i => obtain ⟨t, rfl⟩ := r; exact PySem.W.Looks.of_pure rfl
  | str i => obtain ⟨t, rfl⟩ := r; exact PySem.W.Looks.of_pure rfl
  | lst e =>
    cases r
    obtain ⟨its, _, ⟨o, n, ho, hc, _⟩, _⟩ := I.list e
    exact fun A Q E s k q => wpAny_typeOf_ref (k _ _ ho) (by rw [hc]; exact q)
  | tup e =>
    cases r
    obtain ⟨its, _, ⟨o, ho, hc, _⟩, _⟩ := I.tuple e
    exact fun A Q E s k q => wpAny_typeOf_ref (k _ _ ho) (by rw [hc]; exact q)
  | ins e =>
    cases r
    obtain ⟨mA, O, _⟩ := ins_get I.hok e
    obtain ⟨od, J, _⟩ := O.look
    exact J.type
/-- x == y, x of the class at C with its own __eq__ at g -/
def rEqO (K : PySem.W.Frag) (C : Addr) (sp : Sp) (E : XK) : R2 := fun x y H Q => ∃ (a dx : Addr) (fs : List (Str × V)) (tb : Value), x = .ref a ∧ H a = some (.ins C dx fs) ∧ TyR K H y tb ∧ PySem.W.notFirst K C tb = true ∧ sp [x, y] H Q E
theorem op_eqO (hs : PySem.W.findIn X.K (.ref C) "__eq__" = some (some (.ref g))) (hf : PySem.W.isFn X.K (.ref g) = true) (F : FnOk X.prog X.w X.K X.mg X.base CX k g fd ps sp) (hr : Room k X.A) (hb : Binds X.K fd ps []) (hx : Passes CX X E) : OpR X (compareOp .Eq) (rEqO X.K C sp E) := by
  intro pins s σ H x y v u Q I rx ry h
  obtain ⟨a, dx, fs, tb, rfl, ha, hy, hn, q⟩ := h
  cases (show v = Value.ref a from rx)
  obtain ⟨mA, O, _⟩ := ins_get I.hok ha
  obtain ⟨od, J, _⟩ := O.look
  obtain ⟨m, hF⟩ := I.fr
  show wpAny _ _ (richCompare .Eq _ _) _ _ _
  refine PySem.W.cmp_K (op := .Eq) (tb := tb) hr.units0 hF I.ok.mod.kin J (hy.looks I ry) hn hs hf ?_
  refine wpAny_mono (run_fn (us := [.ref a, u]) (vs := [.ref a, y]) (dvs := []) F hr hb .nil hx I (.cons rfl (.cons ry .nil)) q) (fun w s' z => ?_) fun _ _ x => x
  obtain ⟨z', H', I', rz, qz⟩ := z
  exact SlX.cmpback rz ⟨z', H', I', rz, qz⟩
/-- x != y by the same -/
def rNeO (K : PySem.W.Frag) (C : Addr) (sp : Sp) (E : XK) : R2 := fun x y H Q => ∃ (a dx : Addr) (fs : List (Str × V)) (tb : Value), x = .ref a ∧ H a = some (.ins C dx fs) ∧ TyR K H y tb ∧ PySem.W.notFirst K C tb = true ∧ sp [x, y] H (fun v H' => ∃ b, v = .bl b ∧ Q (.bl (!b)) H') E
theorem op_neO (hm : PySem.W.mroIn X.K C (.type "object") = some true) (hne : PySem.W.findIn X.K (.ref C) "__ne__" = some (some (.builtin "object.__ne__"))) (hs : PySem.W.findIn X.K (.ref C) "__eq__" = some (some (.ref g))) (hf : PySem.W.isFn X.K (.ref g) = true)
    (F : FnOk X.prog X.w X.K X.mg X.base CX k g fd ps sp) (hr : Room (k + 1) X.A) (hb : Binds X.K fd ps []) (hx : Passes CX X E) : OpR X (compareOp .NotEq) (rNeO X.K C sp E) := by
  intro pins s σ H x y v u Q I rx ry h
  obtain ⟨a, dx, fs, tb, rfl, ha, hy, hn, q⟩ := h
  cases (show v = Value.ref a from rx)
  obtain ⟨mA, O, _⟩ := ins_get I.hok ha
  obtain ⟨od, J, _⟩ := O.look
  show wpAny _ _ (richCompare .NotEq _ _) _ _ _
  have hu : X.A.units + 1 < cLine := by have := hr.un; omega
  refine OwnX.ne_K hu I.kIn J (hy.looks I ry) hn hm hne hs hf ?_
  have hl : ([Value.ref a, u] ++ ([] : List Value)).length = ps.length := F.len _ _ _ _ q
  refine wpAny_call (codeAny_mono (F.run X.A.in1 X.stack s H ⟨[.ref a, u], []⟩ [.ref a, u] [.ref a, y] _ _ hr.in1 I.env0.in1 (hb s [.ref a, u] I.kIn hl) (.cons rfl (.cons ry .nil)) q) fun r s' hq => ?_)
  cases r with
  | error e => exact hx pins σ H s e s' I hq
  | ok fl =>
    cases fl with
    | ret w =>
      obtain ⟨v, H', I', rv, b, rfl, qz⟩ := I.after hq
      cases rv
      exact ⟨b, rfl, .bl (!b), H', I', rfl, qz⟩
    | next => exact hq.elim
    | brk => exact hq.elim
    | cont => exact hq.elim
/-- x op y, both of the class at C, whose own method for op is at g -/
def rBinO (C : Addr) (sp : Sp) (E : XK) : R2 := fun x y H Q => ∃ (a dx : Addr) (fs : List (Str × V)) (b dy : Addr) (gs : List (Str × V)), x = .ref a ∧ y = .ref b ∧ H a = some (.ins C dx fs) ∧ H b = some (.ins C dy gs) ∧ sp [x, y] H Q E
theorem op_binO {op : Operator} (hc : PySem.W.selfFirst X.K C = true) (hs : PySem.W.findIn X.K (.ref C) (PySem.dunder op.info.2) = some (some (.ref g))) (hf : PySem.W.isFn X.K (.ref g) = true)
    (F : FnOk X.prog X.w X.K X.mg X.base CX k g fd ps sp) (hr : Room k X.A) (hb : Binds X.K fd ps []) (hx : Passes CX X E) : OpR X (binaryOp op) (rBinO C sp E) := by
  intro pins s σ H x y v u Q I rx ry h
  obtain ⟨a, dx, fs, b, dy, gs, rfl, rfl, ha, hy, q⟩ := h
  cases (show v = Value.ref a from rx)
  cases (show u = Value.ref b from ry)
  obtain ⟨mA, O, _⟩ := ins_get I.hok ha
  obtain ⟨od, J, _⟩ := O.look
  obtain ⟨mA', O', _⟩ := ins_get I.hok hy
  obtain ⟨od', J', _⟩ := O'.look
  refine OwnX.bin_same I.kIn J J'.type hc hs hf ?_
  refine wpAny_mono (run_fn (us := [.ref a, .ref b]) (vs := [.ref a, .ref b]) (dvs := []) F hr hb .nil hx I (.cons rfl (.cons rfl .nil)) q) (fun w s' z => ?_) fun _ _ x => x
  obtain ⟨z', H', I', rz, qz⟩ := z
  exact SlX.cmpback rz ⟨z', H', I', rz, qz⟩
end
end Sc
namespace Sc
open PySem PySem.Spec PyProof.Rows L2
/-- texts that can be compared and are not long -/
def Fine (x : Str) : Prop := x.length ≤ 1000 ∧ (PyData.str x).canLay0 = true
def Fines (xs : List Str) : Prop := ∀ x ∈ xs, Fine x
section
variable {P : Program} {w : World} {K : PySem.W.Frag} {mg : Str → Option Value} {base : Heap} {a l : Addr} {H H' H'' : Hp}
theorem Fines.txts {xs : List Str} (h : Fines xs) : Txts xs := fun x hx => (h x hx).1
theorem dps (K : PySem.W.Frag) (H : Hp) : ∀ xs : List Str, DpAll K H (xs.map V.str) (xs.map PyData.str)
  | [] => .nil
  | x :: r => .cons (.str x) (dps K H r)
theorem strs_lay : ∀ {xs : List Str}, Fines xs → PyData.canLayAll0 (xs.map PyData.str) = true
  | [], _ => rfl
  | x :: r, h => by
    show ((PyData.str x).canLay0 && PyData.canLayAll0 (r.map PyData.str)) = true
    rw [(h x List.mem_cons_self).2, strs_lay fun y hy => h y (List.mem_cons_of_mem x hy)]
    rfl
theorem strs_depth : ∀ xs : List Str, PyData.depthAll (xs.map PyData.str) = 0
  | [] => rfl
  | x :: r => by
    show max (PyData.str x).depth (PyData.depthAll (r.map PyData.str)) = 0
    rw [strs_depth r]
    rfl
theorem shT {xs : List Str} (h : Fines xs) : SeqAt.shaped (.tuple (xs.map PyData.str)) = true := by
  unfold SeqAt.shaped
  have e1 : (PyData.tuple (xs.map PyData.str)).canLay0 = true := strs_lay h
  have e2 : (PyData.tuple (xs.map PyData.str)).depth = 1 := by show PyData.depthAll (xs.map PyData.str) + 1 = 1; rw [strs_depth]
  rw [e1, e2]
  rfl
theorem shL {xs : List Str} (h : Fines xs) : SeqAt.shaped (.list (xs.map PyData.str)) = true := by
  unfold SeqAt.shaped
  have e1 : (PyData.list (xs.map PyData.str)).canLay0 = true := strs_lay h
  have e2 : (PyData.list (xs.map PyData.str)).depth = 1 := by show PyData.depthAll (xs.map PyData.str) + 1 = 1; rw [strs_depth]
  rw [e1, e2]
  rfl
theorem eqvA_nil : ∀ xs : List Str, PyData.eqvAll (xs.map PyData.str) [] = decide (xs = [])
  | [] => rfl
  | _ :: _ => rfl
theorem eqvA : ∀ xs ys : List Str, PyData.eqvAll (xs.map PyData.str) (ys.map PyData.str) = decide (xs = ys)
  | [], [] => rfl
  | [], _ :: _ => rfl
  | _ :: _, [] => rfl
  | x :: r, y :: t => by
    show ((x == y) && PyData.eqvAll (r.map PyData.str) (t.map PyData.str)) = _
    rw [eqvA r t]
    by_cases h : x = y
    · subst h
      simp
    · have e : (x == y) = false := by simpa using h
      rw [e, Bool.false_and, decide_eq_false fun z => h (List.cons.inj z).1]
def chr1 (c : Nat) : Str := ⟨#[c]⟩
def oddL (x : Str) (i : Nat) : List Str := ((x.cps.toList.take i).filter fun c => !decide (c ∈ letters.cps.toList)).map chr1
theorem oddL_len {x : Str} {i : Nat} : (oddL x i).length ≤ x.length := by
  unfold oddL
  rw [List.length_map]
  exact Nat.le_trans (List.length_filter_le _ _) (by rw [List.length_take]; exact Nat.min_le_right _ _)
theorem oddL_fine {x : Str} {i : Nat} (h : Fine x) : Fines (oddL x i) := by
  intro y hy
  unfold oddL at hy
  obtain ⟨c, hc, rfl⟩ := List.mem_map.mp hy
  have hc := List.mem_of_mem_take (List.mem_filter.mp hc).1
  refine ⟨(show 1 ≤ 1000 by decide), ?_⟩
  have h2 : PyData.strOk x = true := h.2
  show PyData.strOk (chr1 c) = true
  unfold PyData.strOk at h2 ⊢
  rw [Array.all_eq_true'] at h2
  have h3 := h2 c (by rw [← Array.mem_toList_iff]; exact hc)
  rw [Array.all_eq_true']
  intro y hy
  have ey : y = c := by
    have hy : y ∈ (#[c] : Array Nat) := hy
    simpa using hy
  subst ey
  exact h3
theorem oddL_nil {x : Str} : decide (oddL x x.length = []) = isLetters x := by
  have el : x.cps.toList.take x.length = x.cps.toList := List.take_of_length_le (by rw [Array.length_toList]; exact Nat.le_refl _)
  unfold oddL isLetters
  rw [el]
  cases h : x.cps.toList.all fun c => decide (c ∈ letters.cps.toList) with
  | true =>
    rw [List.all_eq_true] at h
    have e : (x.cps.toList.filter fun c => !decide (c ∈ letters.cps.toList)) = [] := by
      rw [List.filter_eq_nil_iff]
      intro c hc z
      rw [h c hc] at z
      cases z
    rw [e]
    rfl
  | false =>
    rw [decide_eq_false]
    intro z
    have z := List.map_eq_nil_iff.mp z
    rw [List.filter_eq_nil_iff] at z
    rw [List.all_eq_false] at h
    obtain ⟨c, hc, hn⟩ := h
    exact z c hc (by cases e : decide (c ∈ letters.cps.toList) with | true => exact absurd e hn | false => rfl)
theorem risesAt_eq {xs : List Str} {i : Nat} (hi : i < xs.length) (h0 : i ≠ 0) (h1 : i - 1 < xs.length) : risesAt xs i = decide (xs[i - 1].cps.toList < xs[i].cps.toList) := by
  unfold risesAt
  rw [decide_eq_false h0, Bool.false_or, List.getElem?_eq_getElem h1, List.getElem?_eq_getElem hi]
theorem risesAt_0 {xs : List Str} : risesAt xs 0 = true := rfl
theorem strG {xs : List Str} {i : Nat} (hi : i < xs.length) : (xs.map V.str)[i]? = some (.str xs[i]) := by rw [List.getElem?_map, List.getElem?_eq_getElem hi]; rfl
theorem small_lim {z : Int} (h0 : 0 ≤ z) (h1 : z ≤ 1000) : z.natAbs.log2 < 9000 := by
  by_cases e : z.natAbs = 0
  · rw [e]; decide
  · exact (Nat.log2_lt e).mpr (Nat.lt_of_le_of_lt (show z.natAbs ≤ 2 ^ 10 by omega) (Nat.pow_lt_pow_right (by decide) (by decide)))
end
end Sc
namespace Sc
open PySem PySem.Spec PyProof.Rows L2
/-! ### what a condition does -/
theorem sc_Condition___call__ : FnScope ["self", "case", "held", "name"] ["self", "case"] (defScope s_Condition___call__) := ⟨rfl, rfl, rfl, by decide +kernel, rfl, by decide +kernel, by decide +kernel⟩
/-- the texts in their order -/
def srt (l : List Str) : List Str := l.mergeSort fun a b => decide (a.cps.toList ≤ b.cps.toList)
theorem srt_perm (l : List Str) : (srt l).Perm l := List.mergeSort_perm _ _
theorem rising_of : ∀ (x : Str) (r : List Str), (∀ y ∈ r, SLe x y) → r.Pairwise SLe → risingS x r = true
  | _, [], _, _ => rfl
  | x, y :: r, h1, h2 => by
    have h2 := List.pairwise_cons.mp h2
    show (!ltCps y.cps.toList x.cps.toList && risingS y r) = true
    rw [Bool.and_eq_true, ltCps_eq]
    refine ⟨?_, rising_of y r h2.1 h2.2⟩
    have h3 : x.cps.toList ≤ y.cps.toList := h1 y List.mem_cons_self
    rw [decide_eq_false (show ¬ y.cps.toList < x.cps.toList from fun z => List.not_lt.mpr h3 z)]
    rfl
theorem sorted_of : ∀ {r : List Str}, r.Pairwise SLe → sortedS r = true
  | [], _ => rfl
  | x :: r, h => rising_of x r (List.pairwise_cons.mp h).1 (List.pairwise_cons.mp h).2
theorem srt_sorted (l : List Str) : sortedS (srt l) = true := by
  refine sorted_of ((List.pairwise_mergeSort (le := fun a b : Str => decide (a.cps.toList ≤ b.cps.toList)) (fun a b c h1 h2 => ?_) (fun a b => ?_) l).imp fun h => of_decide_eq_true h)
  · exact decide_eq_true (List.le_trans (of_decide_eq_true h1) (of_decide_eq_true h2))
  · rw [Bool.or_eq_true]
    rcases List.le_total a.cps.toList b.cps.toList with h | h
    · exact .inl (decide_eq_true h)
    · exact .inr (decide_eq_true h)
/-- an object Condition -/
structure CondAt (K : PySem.W.Frag) (C : Addr) (H : Hp) (o : Addr) (hs fs : List Str) : Prop where
  at_ : ∃ (dx a b n : Addr) (zs : List Str), H o = some (.ins C dx (condF a b n)) ∧ SqT K H a (hs.map V.str) ∧ SqT K H b (fs.map V.str) ∧ H n = some (.tup (zs.map V.str)) ∧ zs = srt (hs ++ fs)
theorem CondAt.same {K : PySem.W.Frag} {C : Addr} {H H' : Hp} {o : Addr} {hs fs : List Str} (h : CondAt K C H o hs fs) (s : Same H H') : CondAt K C H' o hs fs := by
  obtain ⟨dx, a, b, n, zs, h1, h2, h3, h4, h5⟩ := h.at_
  exact ⟨dx, a, b, n, zs, s _ _ h1, s.tup h2, s.tup h3, s _ _ h4, h5⟩
def meets (hs fs case : List Str) : Bool := (hs.all fun x => decide (x ∈ case)) && !(fs.any fun x => decide (x ∈ case))
section
variable {P : Program} {w : World} {K : PySem.W.Frag} {mg : Str → Option Value} {base : Heap} {CC C : Addr}
/-- [name in case for name in xs]: the truths -/
theorem inAll {H1 : Hp} {D c : Addr} {xs cs : List Str} {W : Nat} {X : Cx} {σ : L2.St} : True := trivial
def sp_ccall (K : PySem.W.Frag) (C : Addr) : Sp := fun vs H Q _ => ∃ (o c : Addr) (hs fs cs : List Str), vs = [.ref o, .ref c] ∧ CondAt K C H o hs fs ∧ SqT K H c (cs.map V.str) ∧ hs.length ≤ 1000 ∧ fs.length ≤ 1000 ∧ ∀ H', Same H H' → Q (.bl (meets hs fs cs)) H'
theorem ok_ccall {f : Addr} {fd : FuncData} (F : Fun K "__call__" "Condition.__call__" s_Condition___call__ f fd) (B : Blt mg) (T : Cls K C) (n1 : NoAttr K C "_holding") (n2 : NoAttr K C "_failing") : FnOk P w K mg base CX0 1 f fd ["self", "case"] (sp_ccall K C) := by
  refine F.ok sc_Condition___call__ (fun vs H Q E h => by obtain ⟨o, c, hs, fs, cs, rfl, _⟩ := h; rfl) (fun cdv A outer s H vs Q E hr h => ?_)
  obtain ⟨o, c, hs, fs, cs, rfl, hC, hc, l1, l2, q⟩ := h
  obtain ⟨dx, a, b, n, zs, ho, ha, hb, _⟩ := hC.at_
  refine ⟨_, (pss_cons (ps_set (i := 2) sc_Condition___call__.nd rfl (Or.inl rfl) (pe_callB (cr_all rfl) (by rfl) B.b_all PyProof.Rows.boot_all (pa_cons (pe_lc (own := [("name", 3)]) (g := gName 3) (tt := tYes) rfl sc_Condition___call__.nd (pi_tup (pe_fld (pv 0) rfl)) (blkOk_by (own := [("name", 3)]) (N := ["self", "case", "held", "name"]) (sc := defScope s_Condition___call__) (by decide +kernel)) (fun _ _ _ _ _ => (pg_name (i := 3) sc_Condition___call__.nd rfl (Or.inl rfl))) (fun _ _ _ _ _ => pts_nil) (fun _ _ _ _ _ => (pe_.re (pe_cmpR op_in_seq (pv 3) (pv 1) rfl) (by first | (dsimp only [Cx.blk]; done) | exact rfl)))) pa_nil)))
      (pss_one (ps_ret (pe_and (pv 2) (pe_one (pe_not (pe_callB (cr_any rfl) (by rfl) B.b_any (by decide +kernel) (pa_cons (pe_lc (own := [("name", 3)]) (g := gName 3) (tt := tYes) rfl sc_Condition___call__.nd (pi_tup (pe_fld (pv 0) rfl)) (blkOk_by (own := [("name", 3)]) (N := ["self", "case", "held", "name"]) (sc := defScope s_Condition___call__) (by decide +kernel)) (fun _ _ _ _ _ => (pg_name (i := 3) sc_Condition___call__.nd rfl (Or.inl rfl))) (fun _ _ _ _ _ => pts_nil) (fun _ _ _ _ _ => (pe_.re (pe_cmpR op_in_seq (pv 3) (pv 1) rfl) (by first | (dsimp only [Cx.blk]; done) | exact rfl)))) pa_nil)))))))), ?_⟩
  refine ⟨_, rfl, o, C, dx, _, .ref a, rfl, ho, T, n1, rfl, a, rfl, ⟨_, ha⟩, fun D nD => lc_it walk_tup (fun i H' => Same H H' ∧ H' D = some (.lst ((hs.take i).map fun x => V.bl (decide (x ∈ cs))))) ⟨(Same.refl H).put nD, upd_same⟩ (fun _ _ _ h => h.1.tup ha) ?_ ?_⟩
  · rintro i y H2 H3 hi ⟨s, e⟩ ⟨rfl, hy⟩
    rw [List.length_map] at hi
    have hx : hs[i]? = some hs[i] := List.getElem?_eq_getElem hi
    obtain rfl : V.str hs[i] = y := strAt_inj hx hy
    refine ⟨rfl, yes_ ⟨_, rfl, _, rfl, c, _, rfl, .inr (s.tup hc), rfl, flat_strs cs, grow (acc := fun i => (hs.take i).map fun x => V.bl (decide (x ∈ cs))) nD s e ?_ ?_⟩⟩
    · rw [List.length_map, List.length_take]
      exact small1000 (by omega)
    · show List.map _ _ = _
      rw [take_more hx, List.map_append]
      simp only [List.map_cons, List.map_nil, inV_str]
      rfl
  · rintro H2 ⟨s, e⟩
    rw [List.length_map, List.take_length] at e
    refine ⟨D, hs.map fun x => decide (x ∈ cs), rfl, sqL_of (by rw [e, List.map_map]; rfl), ?_⟩
    refine ⟨_, rfl, _, rfl, bcase (fun c1 => ?_) (fun c1 => ?_)⟩
    · refine ⟨_, rfl, o, C, dx, _, .ref b, rfl, s _ _ ho, T, n2, rfl, b, rfl, ⟨_, s.tup hb⟩, fun D2 nD2 => lc_it walk_tup (fun i H' => Same H2 H' ∧ H' D2 = some (.lst ((fs.take i).map fun x => V.bl (decide (x ∈ cs))))) ⟨(Same.refl H2).put nD2, upd_same⟩ (fun _ _ _ h => (s.trans h.1).tup hb) ?_ ?_⟩
      · rintro i y H4 H3 hi ⟨s2, e2⟩ ⟨rfl, hy⟩
        rw [List.length_map] at hi
        have hx : fs[i]? = some fs[i] := List.getElem?_eq_getElem hi
        obtain rfl : V.str fs[i] = y := strAt_inj hx hy
        refine ⟨rfl, yes_ ⟨_, rfl, _, rfl, c, _, rfl, .inr ((s.trans s2).tup hc), rfl, flat_strs cs, grow (acc := fun i => (fs.take i).map fun x => V.bl (decide (x ∈ cs))) nD2 s2 e2 ?_ ?_⟩⟩
        · rw [List.length_map, List.length_take]
          exact small1000 (by omega)
        · show List.map _ _ = _
          rw [take_more hx, List.map_append]
          simp only [List.map_cons, List.map_nil, inV_str]
          rfl
      · rintro H4 ⟨s2, e2⟩
        rw [List.length_map, List.take_length] at e2
        refine ⟨D2, fs.map fun x => decide (x ∈ cs), rfl, sqL_of (by rw [e2, List.map_map]; rfl), ?_⟩
        refine ⟨_, rfl, ?_⟩
        have em : meets hs fs cs = !((fs.map fun x => decide (x ∈ cs)).any id) := by
          unfold meets
          rw [List.any_map]
          have c1 : (hs.all fun x => decide (x ∈ cs)) = true := by rw [List.all_map] at c1; exact c1
          rw [c1, Bool.true_and]
          rfl
        rw [← em]
        exact q H4 (s.trans s2)
    · have em : meets hs fs cs = false := by
        unfold meets
        have c1 : (hs.all fun x => decide (x ∈ cs)) = false := by rw [List.all_map] at c1; exact c1
        rw [c1, Bool.false_and]
      rw [← em]
      exact q H2 s
/-! ### within -/
theorem sc_Condition_within : FnScope ["self", "other", "held", "name"] ["self", "other"] (defScope s_Condition_within) := ⟨rfl, rfl, rfl, by decide +kernel, rfl, by decide +kernel, by decide +kernel⟩
def withinC (hs fs gs ks : List Str) : Bool := (gs.all fun x => decide (x ∈ hs)) && (ks.all fun x => decide (x ∈ fs))
def sp_within (K : PySem.W.Frag) (C : Addr) : Sp := fun vs H Q _ => ∃ (o o2 : Addr) (hs fs gs ks : List Str), vs = [.ref o, .ref o2] ∧ CondAt K C H o hs fs ∧ CondAt K C H o2 gs ks ∧ gs.length ≤ 1000 ∧ ks.length ≤ 1000 ∧ ∀ H', Same H H' → Q (.bl (withinC hs fs gs ks)) H'
/-- the getters -/
abbrev PropC (P : Program) (w : World) (K : PySem.W.Frag) (mg : Str → Option Value) (base : Heap) (C p g : Addr) (fd : FuncData) (n f : Str) : Prop := PropOf K C n p g ∧ FnOk P w K mg base CX0 1 g fd ["self"] (sp_prop C f) ∧ Binds K fd ["self"] []
theorem ok_within {f p1' g1 p2' g2 : Addr} {fd fd1 fd2 : FuncData} (F : Fun K "within" "Condition.within" s_Condition_within f fd) (B : Blt mg) (T : Cls K C) (n1 : NoAttr K C "_holding") (n2 : NoAttr K C "_failing")
    (p1 : PropC P w K mg base C p1' g1 fd1 "holding" "_holding") (p2 : PropC P w K mg base C p2' g2 fd2 "failing" "_failing") : FnOk P w K mg base CX0 3 f fd ["self", "other"] (sp_within K C) := by
  refine F.ok sc_Condition_within (fun vs H Q E h => by obtain ⟨o, c, hs, fs, gs, ks, rfl, _⟩ := h; rfl) (fun cdv A outer s H vs Q E hr h => ?_)
  obtain ⟨o, o2, hs, fs, gs, ks, rfl, hC, hD, l1, l2, q⟩ := h
  obtain ⟨dx, a, b, n, zs, ho, ha, hb, _⟩ := hC.at_
  obtain ⟨dx2, a2, b2, n2', zs2, ho2, ha2, hb2, _⟩ := hD.at_
  have lk1 : (condF a2 b2 n2').lookup ("_holding" : Str) = some (.ref a2) := rfl
  have lk2 : (condF a2 b2 n2').lookup ("_failing" : Str) = some (.ref b2) := rfl
  refine ⟨_, (pss_cons (ps_set (i := 2) sc_Condition_within.nd rfl (Or.inl rfl) (pe_callB (cr_all rfl) (by rfl) B.b_all PyProof.Rows.boot_all (pa_cons (pe_lc (own := [("name", 3)]) (g := gName 3) (tt := tYes) rfl sc_Condition_within.nd (pi_tup (pe_prop (pv 1) T p1.1 p1.2.1 (hr.mono (by decide)) p1.2.2 .nil pass0 rfl)) (blkOk_by (own := [("name", 3)]) (N := ["self", "other", "held", "name"]) (sc := defScope s_Condition_within) (by decide +kernel)) (fun _ _ _ _ _ => (pg_name (i := 3) sc_Condition_within.nd rfl (Or.inl rfl))) (fun _ _ _ _ _ => pts_nil) (fun _ _ _ _ _ => (pe_.re (pe_cmpR op_in_seq (pv 3) (pe_fld (pv 0) rfl) rfl) (by first | (dsimp only [Cx.blk]; done) | exact rfl)))) pa_nil)))
      (pss_one (ps_ret (pe_and (pv 2) (pe_one (pe_callB (cr_all rfl) (by rfl) B.b_all PyProof.Rows.boot_all (pa_cons (pe_lc (own := [("name", 3)]) (g := gName 3) (tt := tYes) rfl sc_Condition_within.nd (pi_tup (pe_prop (pv 1) T p2.1 p2.2.1 (hr.mono (by decide)) p2.2.2 .nil pass0 rfl)) (blkOk_by (own := [("name", 3)]) (N := ["self", "other", "held", "name"]) (sc := defScope s_Condition_within) (by decide +kernel)) (fun _ _ _ _ _ => (pg_name (i := 3) sc_Condition_within.nd rfl (Or.inl rfl))) (fun _ _ _ _ _ => pts_nil) (fun _ _ _ _ _ => (pe_.re (pe_cmpR op_in_seq (pv 3) (pe_fld (pv 0) rfl) rfl) (by first | (dsimp only [Cx.blk]; done) | exact rfl)))) pa_nil))))))), ?_⟩
  refine ⟨_, rfl, o2, dx2, _, rfl, ho2, ⟨o2, dx2, _, _, rfl, ho2, lk1, ?_⟩⟩
  refine ⟨a2, rfl, ⟨_, ha2⟩, fun D nD => lc_it walk_tup (fun i H' => Same H H' ∧ H' D = some (.lst ((gs.take i).map fun x => V.bl (decide (x ∈ hs))))) ⟨(Same.refl H).put nD, upd_same⟩ (fun _ _ _ h => h.1.tup ha2) ?_ ?_⟩
  · rintro i y H2 H3 hi ⟨s, e⟩ ⟨rfl, hy⟩
    rw [List.length_map] at hi
    have hx : gs[i]? = some gs[i] := List.getElem?_eq_getElem hi
    obtain rfl : V.str gs[i] = y := strAt_inj hx hy
    refine ⟨rfl, yes_ ⟨_, rfl, _, rfl, o, C, dx, _, .ref a, rfl, s _ _ ho, T, n1, rfl, a, _, rfl, .inr (s.tup ha), rfl, flat_strs hs, grow (acc := fun i => (gs.take i).map fun x => V.bl (decide (x ∈ hs))) nD s e ?_ ?_⟩⟩
    · rw [List.length_map, List.length_take]
      exact small1000 (by omega)
    · show List.map _ _ = _
      rw [take_more hx, List.map_append]
      simp only [List.map_cons, List.map_nil, inV_str]
      rfl
  · rintro H2 ⟨s, e⟩
    rw [List.length_map, List.take_length] at e
    refine ⟨D, gs.map fun x => decide (x ∈ hs), rfl, sqL_of (by rw [e, List.map_map]; rfl), ?_⟩
    refine ⟨_, rfl, _, rfl, bcase (fun c1 => ?_) (fun c1 => ?_)⟩
    · refine ⟨_, rfl, o2, dx2, _, rfl, s _ _ ho2, ⟨o2, dx2, _, _, rfl, s _ _ ho2, lk2, ?_⟩⟩
      refine ⟨b2, rfl, ⟨_, s.tup hb2⟩, fun D2 nD2 => lc_it walk_tup (fun i H' => Same H2 H' ∧ H' D2 = some (.lst ((ks.take i).map fun x => V.bl (decide (x ∈ fs))))) ⟨(Same.refl H2).put nD2, upd_same⟩ (fun _ _ _ h => (s.trans h.1).tup hb2) ?_ ?_⟩
      · rintro i y H4 H3 hi ⟨s2, e2⟩ ⟨rfl, hy⟩
        rw [List.length_map] at hi
        have hx : ks[i]? = some ks[i] := List.getElem?_eq_getElem hi
        obtain rfl : V.str ks[i] = y := strAt_inj hx hy
        have s3 := s.trans s2
        refine ⟨rfl, yes_ ⟨_, rfl, _, rfl, o, C, dx, _, .ref b, rfl, s3 _ _ ho, T, n2, rfl, b, _, rfl, .inr (s3.tup hb), rfl, flat_strs fs, grow (acc := fun i => (ks.take i).map fun x => V.bl (decide (x ∈ fs))) nD2 s2 e2 ?_ ?_⟩⟩
        · rw [List.length_map, List.length_take]
          exact small1000 (by omega)
        · show List.map _ _ = _
          rw [take_more hx, List.map_append]
          simp only [List.map_cons, List.map_nil, inV_str]
          rfl
      · rintro H4 ⟨s2, e2⟩
        rw [List.length_map, List.take_length] at e2
        refine ⟨D2, ks.map fun x => decide (x ∈ fs), rfl, sqL_of (by rw [e2, List.map_map]; rfl), ?_⟩
        have em : withinC hs fs gs ks = (ks.map fun x => decide (x ∈ fs)).all id := by
          unfold withinC
          have c1 : (gs.all fun x => decide (x ∈ hs)) = true := by rw [List.all_map] at c1; exact c1
          rw [c1, Bool.true_and, List.all_map]
          rfl
        rw [← em]
        exact q H4 (s.trans s2)
    · have em : withinC hs fs gs ks = false := by
        unfold withinC
        have c1 : (gs.all fun x => decide (x ∈ hs)) = false := by rw [List.all_map] at c1; exact c1
        rw [c1, Bool.false_and]
      rw [← em]
      exact q H2 s
/-! ### == -/
theorem sc_Condition___eq__ : FnScope ["self", "other"] ["self", "other"] (defScope s_Condition___eq__) := ⟨rfl, rfl, rfl, by decide +kernel, rfl, by decide +kernel, by decide +kernel⟩
theorem dp_strs {H : Hp} {a : Addr} {xs : List Str} (h : SqT K H a (xs.map V.str)) : Dp K H (.ref a) (.tuple (xs.map PyData.str)) := .tup h (dps K H xs)
/-- what isinstance asks of the class at C -/
structure IsiC (K : PySem.W.Frag) (C : Addr) : Prop where
  ca : PySem.W.findIn K (.ref C) "__class__" = some (some (.builtin "object.__class__"))
  cn : PySem.W.specialIn K (.builtin "object.__class__") "__get__" = some (some (.builtin "getset_descriptor.__get__"))
  ct : PySem.W.takesIn K (.builtin "object.__class__") = some true
  cm : PySem.W.mroIn K C (.type "object") = some true
  me : PySem.W.kitOne K (.ref C) (.ref C) = some true
def sp_ceq (K : PySem.W.Frag) (C : Addr) : Sp := fun vs H Q _ => ∃ (o : Addr) (y : V) (hs fs : List Str), vs = [.ref o, y] ∧ CondAt K C H o hs fs ∧ Fines hs ∧ Fines fs ∧
  ((∃ (o2 : Addr) (gs ks : List Str), y = .ref o2 ∧ CondAt K C H o2 gs ks ∧ Fines gs ∧ Fines ks ∧ Q (.bl (decide (hs = gs) && decide (fs = ks))) H) ∨ (∃ t : Value, TyOf K H y t ∧ PySem.W.kitOne K t (.ref C) = some false ∧ Q (.bl false) H))
theorem ok_ceq {f : Addr} {fd : FuncData} (F : Fun K "__eq__" "Condition.__eq__" s_Condition___eq__ f fd) (B : Blt mg) (T : Cls K C) (n1 : NoAttr K C "_holding") (n2 : NoAttr K C "_failing") (mC : mg "Condition" = some (.ref C)) (I : IsiC K C) : FnOk P w K mg base CX0 1 f fd ["self", "other"] (sp_ceq K C) := by
  refine F.ok sc_Condition___eq__ (fun vs H Q E h => by obtain ⟨o, y, hs, fs, rfl, _⟩ := h; rfl) (fun cdv A outer s H vs Q E hr h => ?_)
  obtain ⟨o, y, hs, fs, rfl, hC, f1, f2, q⟩ := h
  obtain ⟨dx, a, b, n, zs, ho, ha, hb, _⟩ := hC.at_
  refine ⟨_, (pss_one (ps_ret (pe_and (pe_callB call_isi (by rfl) B.b_isinstance PyProof.Rows.boot_isinstance (pa_cons (pv 1) (pa_cons (pe_glob (v := .ref _) rfl mC rfl) pa_nil))) (pe_and (pe_cmpR (op_eqD hr.units) (pe_fld (pv 0) rfl) (pe_fld (pv 1) rfl) (nomark _)) (pe_one (pe_cmpR (op_eqD hr.units) (pe_fld (pv 0) rfl) (pe_fld (pv 1) rfl) (nomark _))))))), ?_⟩
  rcases q with ⟨o2, gs, ks, rfl, hD, f3, f4, q⟩ | ⟨t, ht, hk, q⟩
  · obtain ⟨dx2, a2, b2, n2', zs2, ho2, ha2, hb2, _⟩ := hD.at_
    refine ⟨_, rfl, _, _, _, _, _, rfl, .own _, .base (.ins ho2 T I.ca I.cn I.ct I.cm), I.me, _, rfl, iteT ?_⟩
    refine ⟨_, rfl, o, C, dx, _, .ref a, rfl, ho, T, n1, rfl, _, rfl, o2, C, dx2, _, .ref a2, rfl, ho2, T, n1, rfl, _, _, dp_strs ha, dp_strs ha2, shT f1, shT f3, _, rfl, ?_⟩
    have e1 : (PyData.tuple (hs.map PyData.str)).eqv (.tuple (gs.map PyData.str)) = decide (hs = gs) := eqvA hs gs
    rw [e1]
    by_cases c1 : hs = gs
    · rw [decide_eq_true c1]
      rw [decide_eq_true c1, Bool.true_and] at q
      refine iteT ⟨_, rfl, o, C, dx, _, .ref b, rfl, ho, T, n2, rfl, _, rfl, o2, C, dx2, _, .ref b2, rfl, ho2, T, n2, rfl, _, _, dp_strs hb, dp_strs hb2, shT f2, shT f4, ?_⟩
      have e2 : (PyData.tuple (fs.map PyData.str)).eqv (.tuple (ks.map PyData.str)) = decide (fs = ks) := eqvA fs ks
      rw [e2]
      exact q
    · rw [decide_eq_false c1]
      rw [decide_eq_false c1, Bool.false_and] at q
      exact iteF q
  · exact ⟨_, rfl, _, _, _, _, _, rfl, .own _, .base ht, hk, _, rfl, iteF q⟩
/-! ### & -/
theorem sc_Condition___and__ : FnScope ["self", "other", "holding", "failing", "name"] ["self", "other"] (defScope s_Condition___and__) := ⟨rfl, rfl, rfl, by decide +kernel, rfl, by decide +kernel, by decide +kernel⟩
def mrg (xs ys : List Str) : List Str := srt (xs ++ ys.filter fun y => !decide (y ∈ xs))
theorem mrg_txts {xs ys : List Str} (h1 : Txts xs) (h2 : Txts ys) : Txts (mrg xs ys) := fun x hx => by
  have hx := (srt_perm _).mem_iff.mp hx
  rcases List.mem_append.mp hx with h | h
  · exact h1 x h
  · exact h2 x (List.mem_filter.mp h).1
theorem mrg_len {xs ys : List Str} : (mrg xs ys).length ≤ xs.length + ys.length := by
  unfold mrg
  rw [(srt_perm _).length_eq, List.length_append]
  have := List.length_filter_le (fun y => !decide (y ∈ xs)) ys
  omega
theorem srt_uniq {zs l : List Str} (p : zs.Perm l) (s : sortedS zs = true) : zs = srt l := sorted_uniq (p.trans (srt_perm l).symm) s (srt_sorted l)
/-- a name of the one is in the other -/
def meetN (xs ys : List Str) : Bool := xs.any fun x => decide (x ∈ ys)
def sp_cand (K : PySem.W.Frag) (C CC CN : Addr) : Sp := fun vs H Q E => ∃ (o o2 : Addr) (hs fs gs ks : List Str), vs = [.ref o, .ref o2] ∧ CondAt K C H o hs fs ∧ CondAt K C H o2 gs ks ∧ Txts hs ∧ Txts fs ∧ Txts gs ∧ Txts ks ∧ hs.length + gs.length < 64 ∧ fs.length + ks.length < 64 ∧
  (meetN (mrg hs gs) (mrg fs ks) = true → ∀ H', Same H H' → E (.ref CN) none H') ∧ (meetN (mrg hs gs) (mrg fs ks) = false →
    (∀ i, firstWrong (mrg hs gs) [] = some i → errPI CC ((0 : Nat) : Int) i H E) ∧ (firstWrong (mrg hs gs) [] = none → (∀ i, firstWrong (mrg fs ks) (mrg hs gs) = some i → errPI CC ((1 : Nat) : Int) i H E) ∧
    (firstWrong (mrg fs ks) (mrg hs gs) = none → ∀ H' o3, Same H H' → H o3 = none → CondAt K C H' o3 (mrg hs gs) (mrg fs ks) → Q (.ref o3) H')))
theorem ok_cand {f p1' g1 p2' g2 CN : Addr} {fd fd1 fd2 : FuncData} (F : Fun K "__and__" "Condition.__and__" s_Condition___and__ f fd) (B : Blt mg) (T : Cls K C) (n1 : NoAttr K C "_holding") (n2 : NoAttr K C "_failing")
    (p1 : PropC P w K mg base C p1' g1 fd1 "holding" "_holding") (p2 : PropC P w K mg base C p2' g2 fd2 "failing" "_failing") (e_NeverMet : ErrMk0 K mg "NeverMet" CN)
    (c_merged : Cal P w K mg base CX0 1 "merged" ["names", "others"] (sp_merged K)) (k_Condition : Mkr P w K mg base 4 "Condition" C ["self", "holding", "failing"] (sp_cond_init K C CC)) : FnOk P w K mg base (L2.CX P w) 6 f fd ["self", "other"] (sp_cand K C CC CN) := by
  refine F.okX sc_Condition___and__ (fun vs H Q E h => by obtain ⟨o, o2, hs, fs, gs, ks, rfl, _⟩ := h; rfl) (fun cdv A outer s H vs Q E hr h => ?_)
  obtain ⟨o, o2, hs, fs, gs, ks, rfl, hC, hD, t1, t2, t3, t4, l1, l2, qE, q⟩ := h
  obtain ⟨dx, a, b, n, zs, ho, ha, hb, _⟩ := hC.at_
  obtain ⟨dx2, a2, b2, n2', zs2, ho2, ha2, hb2, _⟩ := hD.at_
  have lk1 : (condF a2 b2 n2').lookup ("_holding" : Str) = some (.ref a2) := rfl
  have lk2 : (condF a2 b2 n2').lookup ("_failing" : Str) = some (.ref b2) := rfl
  refine ⟨_, (pss_cons (ps_set (i := 2) sc_Condition___and__.nd rfl (Or.inl rfl) (pe_cal c_merged (hr.mono (by decide)) (pa_cons (pe_fld (pv 0) rfl) (pa_cons (pe_prop (pv 1) T p1.1 p1.2.1 (hr.mono (by decide)) p1.2.2 .nil pass0 rfl) pa_nil))))
      (pss_cons (ps_set (i := 3) sc_Condition___and__.nd rfl (Or.inr rfl) (pe_cal c_merged (hr.mono (by decide)) (pa_cons (pe_fld (pv 0) rfl) (pa_cons (pe_prop (pv 1) T p2.1 p2.2.1 (hr.mono (by decide)) p2.2.2 .nil pass0 rfl) pa_nil))))
      (pss_cons (ps_if (pt_val (pe_callB (cr_any rfl) (by rfl) B.b_any (by decide +kernel) (pa_cons (pe_lc (own := [("name", 4)]) (g := gName 4) (tt := tYes) rfl sc_Condition___and__.nd (pi_tup (pv 2)) (blkOk_by (own := [("name", 4)]) (N := ["self", "other", "holding", "failing", "name"]) (sc := defScope s_Condition___and__) (by decide +kernel)) (fun _ _ _ _ _ => (pg_name (i := 4) sc_Condition___and__.nd rfl (Or.inl rfl))) (fun _ _ _ _ _ => pts_nil) (fun _ _ _ _ _ => (pe_.re (pe_cmpR op_in_seq (pv 4) (pv 3) rfl) (by first | (dsimp only [Cx.blk]; done) | exact rfl)))) pa_nil))) (pss_one (ps_raise rfl (takes_of rfl rfl rfl rfl) (pmk_err0 e_NeverMet))) pss_nil)
      (pss_one (ps_ret (pe_mkX k_Condition (hr.mono (by decide)) (takes_of rfl rfl rfl rfl) (pa_cons (pv 2) (pa_cons (pv 3) pa_nil)))))))), ?_⟩
  refine ⟨_, rfl, o, C, dx, _, .ref a, rfl, ho, T, n1, rfl, _, rfl, o2, dx2, _, rfl, ho2, ⟨o2, dx2, _, _, rfl, ho2, lk1, ?_⟩⟩
  refine ⟨a, a2, hs, gs, rfl, ha, ha2, l1, fun H1 hA za s1 eA pA sA => ?_⟩
  obtain rfl : za = mrg hs gs := srt_uniq pA sA
  refine ⟨_, rfl, o, C, dx, _, .ref b, rfl, s1 _ _ ho, T, n2, rfl, _, rfl, o2, dx2, _, rfl, s1 _ _ ho2, ⟨o2, dx2, _, _, rfl, s1 _ _ ho2, lk2, ?_⟩⟩
  refine ⟨b, b2, fs, ks, rfl, s1.tup hb, s1.tup hb2, l2, fun H2 hB zb s2 eB pB sB => ?_⟩
  obtain rfl : zb = mrg fs ks := srt_uniq pB sB
  have s12 := s1.trans s2
  have eA2 := s2 _ _ eA
  refine ⟨_, rfl, hA, rfl, ⟨_, sqT_of eA2⟩, fun D nD => lc_it walk_tup (fun i H' => Same H2 H' ∧ H' D = some (.lst (((mrg hs gs).take i).map fun x => V.bl (decide (x ∈ mrg fs ks))))) ⟨(Same.refl H2).put nD, upd_same⟩ (fun _ _ _ h => h.1.tup (sqT_of eA2)) ?_ ?_⟩
  · rintro i y H4 H3 hi ⟨s, e⟩ ⟨rfl, hy⟩
    rw [List.length_map] at hi
    have hx : (mrg hs gs)[i]? = some (mrg hs gs)[i] := List.getElem?_eq_getElem hi
    obtain rfl : V.str (mrg hs gs)[i] = y := strAt_inj hx hy
    refine ⟨rfl, yes_ ⟨_, rfl, _, rfl, hB, _, rfl, .inr (sqT_of (s _ _ eB)), rfl, flat_strs _, grow (acc := fun i => ((mrg hs gs).take i).map fun x => V.bl (decide (x ∈ mrg fs ks))) nD s e ?_ ?_⟩⟩
    · rw [List.length_map, List.length_take]
      have := mrg_len (xs := hs) (ys := gs)
      exact small1000 (by omega)
    · show List.map _ _ = _
      rw [take_more hx, List.map_append]
      simp only [List.map_cons, List.map_nil, inV_str]
      rfl
  · rintro H4 ⟨s, e⟩
    rw [List.length_map, List.take_length] at e
    refine ⟨D, (mrg hs gs).map fun x => decide (x ∈ mrg fs ks), rfl, sqL_of (by rw [e, List.map_map]; rfl), ?_⟩
    have em : ((mrg hs gs).map fun x => decide (x ∈ mrg fs ks)).any id = meetN (mrg hs gs) (mrg fs ks) := by
      rw [List.any_map]
      rfl
    rw [em]
    refine ⟨_, rfl, bcase (fun c1 => ?_) (fun c1 => ?_)⟩
    · exact qE c1 H4 (s12.trans s)
    · obtain ⟨q0, q⟩ := q c1
      have s4 := s12.trans s
      have eA4 := s _ _ eA2
      have eB4 := s _ _ eB
      refine ⟨_, rfl, _, rfl, fun o3 dx3 nx ndx nex => ?_⟩
      have s5 : Same H4 (upd (upd H4 dx3 (.own o3)) o3 (.ins C dx3 [])) := ((Same.refl H4).put ndx).put nx
      have m1 := mrg_len (xs := hs) (ys := gs)
      have m2 := mrg_len (xs := fs) (ys := ks)
      refine ⟨o3, dx3, hA, hB, _, _, rfl, upd_same, sqT_of (s5 _ _ eA4), sqT_of (s5 _ _ eB4), mrg_txts t1 t3, mrg_txts t2 t4, by omega, by omega, fun i ei H' d sH nd => q0 i ei H' d ((s4.trans s5).trans sH) nd, fun en => ?_⟩
      obtain ⟨q1, q⟩ := q en
      refine ⟨fun i ei H' d sH nd => q1 i ei H' d ((s4.trans s5).trans sH) nd, fun en2 H' n3 zs3 sX hx hn hperm hsort => ⟨rfl, ?_⟩⟩
      have sS : Same H4 H' := fun b' o' h => sX b' o' (fun e => by rw [e, nx] at h; cases h) (s5 _ _ h)
      exact q en2 H' o3 (s4.trans sS) (s4.free nx) ⟨dx3, hA, hB, n3, zs3, hx, sqT_of (sS _ _ eA4), sqT_of (sS _ _ eB4), hn, srt_uniq hperm hsort⟩
end
end Sc
namespace Sc
open PySem PySem.Spec PyProof.Rows L2
/-- o(e, ..), o an object whose class has its own __call__; the arguments leave it as it is -/
def tCallO (C : Addr) (sp : Sp) (E : XK) (te : TE) (t : TA) : TE := fun σ H Q => te σ H fun x H1 => ∃ (a : Addr), x = .ref a ∧
  t σ H1 fun vs H2 => (∃ (dx : Addr) (fs : List (Str × V)), H2 a = some (.ins C dx fs)) ∧ sp (.ref a :: vs) H2 Q E
theorem callWith_o {M : Model} {A : Around} {E : Value → Shared → Prop} {s : Shared} {pos : Pos} {x C : Addr} {first : List Value} {Q : Value → Shared → Prop} {args : List (Bool × Sem Value)} (hplain : args.any (·.1) = false)
    (h : wpAny M A (evalArgs (.ref x) true args []) (fun a s₁ => (∃ ox od, PySem.W.InstAt s₁.heap x ox C od ∧ ox.data = Data.plain) ∧ wpAny M A (call (.ref x) (first ++ a.pos) a.kw) Q E s₁) E s) : wpAny M A (callWith pos (.ref x) first args []) Q E s := by
  unfold callWith
  refine wpAny_bind (wpAny_holding (wpAny_mono h (fun a s₁ h₁ => wpAny_bind (wpAny_standAt ?_)) (fun _ _ z => z)))
  obtain ⟨⟨ox, od, J, hd⟩, h₂⟩ := h₁
  have L := PySem.W.kco_keeper (M := M) J hd
  simp only [hplain, List.any_nil, Bool.or_false]
  exact wpAny_bind (PySem.W.Looks.here L (wpAny_bind (wpAny_mono (wpAny_operateT h₂) (fun r s₂ hr => wpAny_bind (wpAny_holding (wpAny_point (wpAny_pure hr)))) (fun _ _ z => z))))
theorem pe_callO {X : Cx} {CX : CXT} {C g : Addr} {k : Nat} {fd : FuncData} {ps : List Str} {sp : Sp} {E : XK} {te : TE} {t : TA} {x : Str} {e : Expr} {es : List Expr} {p pos : Pos}
    (at_ : PySem.W.findIn X.K (.ref C) "__call__" = some (some (.ref g))) (fn : PySem.W.isFn X.K (.ref g) = true) (fi : PySem.W.fnIn X.K g = true)
    (F : FnOk X.prog X.w X.K X.mg X.base CX k g fd ps sp) (hr : Room k X.A) (hb : Binds X.K fd ps []) (hx : Passes CX X E) (ho : PE X (.Name x p) te) (ha : PA X (e :: es) t)
    (he : starEach (e :: es) X.env = (false, eval e X.env) :: starEach es X.env := by rfl) (hpl : (backTo pos (starEach es X.env)).any (·.1) = false := by rfl) :
    PE X (.Call (.Name x p) (e :: es) [] pos) (tCallO C sp E te t) := by
  refine ⟨fun pins s σ H Q I h => wpAny_Call_NameR (thn (ho.run pins s σ H _ I h) fun u s1 hh => ?_)⟩
  obtain ⟨y, H1, I1, ry, a, rfl, h⟩ := hh
  obtain rfl : u = Value.ref a := ry
  have hr0 := ha.run pos pins s1 σ H1 _ I1 h
  have eb : backTo pos (starEach (e :: es) X.env) = (false, eval e X.env) :: backTo pos (starEach es X.env) := by rw [he]; rfl
  rw [eb] at hr0 ⊢
  refine callWith_o (C := C) (by rw [List.any_cons, hpl]; rfl) (Calls.evalArgs_plain (thn hr0 fun us s2 hh => ?_))
  obtain ⟨vs, H2, I2, rv, ⟨dx, fs, ea⟩, hq⟩ := hh
  obtain ⟨mA, O, _⟩ := ins_get I2.hok ea
  obtain ⟨od, J, _⟩ := ObjM.look O
  have hl : (Value.ref a :: us).length = ps.length := by
    have := F.len _ _ _ _ hq
    rw [← this, List.length_cons, List.length_cons, Vals.length rv]
  refine ⟨⟨_, _, J, rfl⟩, wpAny_call (PySem.W.kco_code I2.kIn J rfl at_ fn fi (codeAny_mono (F.run X.A X.stack s2 H2 ⟨.ref a :: us, []⟩ (.ref a :: us) (.ref a :: vs) Q E hr I2.env0 ?_ (Paired.cons rfl rv) hq) fun res s' hcr => ?_))⟩
  · have := hb s2 (.ref a :: us) I2.kIn (by rw [List.append_nil]; exact hl)
    rw [List.append_nil] at this
    exact this
  · cases res with
    | error er => exact hx pins σ H2 s2 er s' I2 hcr
    | ok fl =>
      cases fl with
      | ret v => exact I2.after hcr
      | next => exact hcr.elim
      | brk => exact hcr.elim
      | cont => exact hcr.elim
end Sc
namespace Sc
open PySem PySem.Spec PyProof.Rows L2
/-- the class Condition as its users see it -/
structure CondX (P : Program) (w : World) (K : PySem.W.Frag) (mg : Str → Option Value) (base : Heap) (C CC CN : Addr) : Prop where
  cls : Cls K C
  isi : IsiC K C
  holding : ∃ p g fd, PropC P w K mg base C p g fd "holding" "_holding"
  failing : ∃ p g fd, PropC P w K mg base C p g fd "failing" "_failing"
  names : ∃ p g fd, PropC P w K mg base C p g fd "names" "_names"
  call : ∃ g fd, PySem.W.findIn K (.ref C) "__call__" = some (some (.ref g)) ∧ PySem.W.isFn K (.ref g) = true ∧ PySem.W.fnIn K g = true ∧ FnOk P w K mg base CX0 1 g fd ["self", "case"] (sp_ccall K C) ∧ Binds K fd ["self", "case"] []
  eq : ∃ g fd, PySem.W.findIn K (.ref C) "__eq__" = some (some (.ref g)) ∧ PySem.W.isFn K (.ref g) = true ∧ FnOk P w K mg base CX0 1 g fd ["self", "other"] (sp_ceq K C) ∧ Binds K fd ["self", "other"] []
  ne : PySem.W.findIn K (.ref C) "__ne__" = some (some (.builtin "object.__ne__"))
  and_ : PySem.W.selfFirst K C = true ∧ ∃ g fd, PySem.W.findIn K (.ref C) "__and__" = some (some (.ref g)) ∧ PySem.W.isFn K (.ref g) = true ∧ FnOk P w K mg base (L2.CX P w) 6 g fd ["self", "other"] (sp_cand K C CC CN) ∧ Binds K fd ["self", "other"] []
  within_ : ∃ g fd, Meth K C "within" g ∧ FnOk P w K mg base CX0 3 g fd ["self", "other"] (sp_within K C) ∧ Binds K fd ["self", "other"] []
section
variable {X : Cx} {C CC CN : Addr} {e o : Expr} {es : List Expr} {ta te : TE} {t : TA} {x : Str} {p pos apos : Pos} {E : XK}
theorem pe_cprop {f n : Str} (M : ∃ p g fd, PropC X.prog X.w X.K X.mg X.base C p g fd n f) (c : Cls X.K C) (hr : Room 2 X.A) (he : PE X e ta) (hab : attributeBase e n X.env (eval e X.env) = eval e X.env := by rfl) : PE X (.Attribute e n pos) (tProp C (sp_prop C f) [] E0 ta) := by
  obtain ⟨p, g, fd, h1, h2, h3⟩ := M
  exact pe_prop he c h1 h2 hr h3 .nil pass0 hab
theorem pe_cc (M : CondX X.prog X.w X.K X.mg X.base C CC CN) (hr : Room 1 X.A) (ho : PE X (.Name x p) te) (ha : PA X (e :: es) t)
    (he : starEach (e :: es) X.env = (false, eval e X.env) :: starEach es X.env := by rfl) (hpl : (backTo pos (starEach es X.env)).any (·.1) = false := by rfl) : PE X (.Call (.Name x p) (e :: es) [] pos) (tCallO C (sp_ccall X.K C) E0 te t) := by
  obtain ⟨g, fd, h1, h2, h3, F, hb⟩ := M.call
  exact pe_callO h1 h2 h3 F hr hb pass0 ho ha he hpl
theorem op_ceq (M : CondX X.prog X.w X.K X.mg X.base C CC CN) (hr : Room 1 X.A) : OpR X (compareOp .Eq) (rEqO X.K C (sp_ceq X.K C) E0) := by
  obtain ⟨g, fd, h1, h2, F, hb⟩ := M.eq
  exact op_eqO h1 h2 F hr hb pass0
theorem op_cne (M : CondX X.prog X.w X.K X.mg X.base C CC CN) (hr : Room 2 X.A) : OpR X (compareOp .NotEq) (rNeO X.K C (sp_ceq X.K C) E0) := by
  obtain ⟨g, fd, h1, h2, F, hb⟩ := M.eq
  exact op_neO M.isi.cm M.ne h1 h2 F hr hb pass0
theorem op_candN (M : CondX X.prog X.w X.K X.mg X.base C CC CN) (hr : Room 6 X.A) : OpR X (binaryOp .BitAnd) (rBinO C (sp_cand X.K C CC CN) E0) := by
  obtain ⟨h0, g, fd, h1, h2, F, hb⟩ := M.and_
  exact op_binO h0 h1 h2 F hr hb passL
theorem op_candX (M : CondX X.prog X.w X.K X.mg X.base C CC CN) (hr : Room 6 X.A) (tk : Takes X (fun cls d _ H => E cls d H)) : OpR X (binaryOp .BitAnd) (rBinO C (sp_cand X.K C CC CN) E) := by
  obtain ⟨h0, g, fd, h1, h2, F, hb⟩ := M.and_
  exact op_binO h0 h1 h2 F hr hb (fun pins σ H s e s' I h => passAt tk σ pins H s e s' I h)
theorem pe_cwithin {pl : Sem Bool} (M : CondX X.prog X.w X.K X.mg X.base C CC CN) (hr : Room 3 X.A) (he : PE X o ta) (ha : PA X (e :: es) t)
    (hst : starEach (e :: es) X.env = (false, eval e X.env) :: starEach es X.env := by rfl) (hpl : (backTo pos (starEach es X.env)).any (·.1) = false := by rfl)
    (ht : eval (.Call (.Attribute o "within" apos) (e :: es) [] pos) X.env = (do
      let ov ← eval o X.env
      standAt apos.atName
      let (f, first) ← holding [ov] (getMethod ov "within" pl)
      callWith pos f first (backTo pos (starEach (e :: es) X.env)) (backToKw pos (keywordEach [] X.env))) := by rfl) : PE X (.Call (.Attribute o "within" apos) (e :: es) [] pos) (tMeth C "within" (sp_within X.K C) [] E0 ta t) := by
  obtain ⟨g, fd, h1, F, hb⟩ := M.within_
  exact pe_meth he M.cls h1 F hr hb .nil pass0 ha hst hpl ht
end
end Sc
namespace Sc
open PySem PySem.Spec PyProof.Rows L2
theorem wk_ps {X : Cx} {st : Stmt} {t : TS} (t' : TS) (h : PS X st t) (w : ∀ D σ H, t' D σ H → t D σ H) : PS X st t' := ⟨fun pins s σ H D I x => h.run pins s σ H D I (w D σ H x)⟩
/-! ### rules as data -/
inductive All2 {α β : Type} (R : α → β → Prop) : List α → List β → Prop where
  | nil : All2 R [] []
  | cons {a : α} {b : β} {as : List α} {bs : List β} (h : R a b) (t : All2 R as bs) : All2 R (a :: as) (b :: bs)
namespace All2
variable {α β : Type} {R S : α → β → Prop} {as as' : List α} {bs bs' : List β}
theorem len (h : All2 R as bs) : as.length = bs.length := by
  induction h with
  | nil => rfl
  | cons _ _ ih => rw [List.length_cons, List.length_cons, ih]
theorem mono (h : All2 R as bs) (f : ∀ a b, R a b → S a b) : All2 S as bs := by
  induction h with
  | nil => exact .nil
  | cons h _ ih => exact .cons (f _ _ h) ih
theorem monoM (h : All2 R as bs) (f : ∀ a b, b ∈ bs → R a b → S a b) : All2 S as bs := by
  induction h with
  | nil => exact .nil
  | cons h _ ih => exact .cons (f _ _ List.mem_cons_self h) (ih fun a b m => f a b (List.mem_cons_of_mem _ m))
theorem app (h : All2 R as bs) (k : All2 R as' bs') : All2 R (as ++ as') (bs ++ bs') := by
  induction h with
  | nil => exact k
  | cons h _ ih => exact .cons h ih
theorem one {a : α} {b : β} (h : R a b) : All2 R [a] [b] := .cons h .nil
theorem snoc {a : α} {b : β} (h : All2 R as bs) (r : R a b) : All2 R (as ++ [a]) (bs ++ [b]) := h.app (one r)
theorem get (h : All2 R as bs) : ∀ {i : Nat} {a : α}, as[i]? = some a → ∃ b, bs[i]? = some b ∧ R a b := by
  induction h with
  | nil => intro i a e; cases i <;> cases e
  | cons h _ ih =>
    intro i a e
    cases i with
    | zero => cases e; exact ⟨_, rfl, h⟩
    | succ i => exact ih e
theorem get' (h : All2 R as bs) : ∀ {i : Nat} {b : β}, bs[i]? = some b → ∃ a, as[i]? = some a ∧ R a b := by
  induction h with
  | nil => intro i a e; cases i <;> cases e
  | cons h _ ih =>
    intro i a e
    cases i with
    | zero => cases e; exact ⟨_, rfl, h⟩
    | succ i => exact ih e
theorem at' (h : All2 R as bs) {i : Nat} (hi : i < bs.length) : ∃ a, as[i]? = some a ∧ R a bs[i] := h.get' (List.getElem?_eq_getElem hi)
end All2
/-- a row of rules, each with its exceptions -/
inductive RF where
  | nil : RF
  | cons (nm : Str) (hs fs : List Str) (rl : Str) (exc rest : RF) : RF
structure Nd where
  nm : Str
  hs : List Str
  fs : List Str
  rl : Str
  exc : RF
namespace RF
def nodes : RF → List Nd
  | .nil => []
  | .cons nm hs fs rl exc rest => ⟨nm, hs, fs, rl, exc⟩ :: rest.nodes
def dep : RF → Nat
  | .nil => 0
  | .cons _ _ _ _ exc rest => max (exc.dep + 1) rest.dep
def size : RF → Nat
  | .nil => 0
  | .cons _ _ _ _ exc rest => exc.size + 1 + rest.size
/-- all rules by their numbers, and within how many they stand -/
def pre : RF → Nat → List (Nd × Nat)
  | .nil, _ => []
  | .cons nm hs fs rl exc rest, k => (⟨nm, hs, fs, rl, exc⟩, k) :: (exc.pre (k + 1) ++ rest.pre k)
def ofNodes : List Nd → RF
  | [] => .nil
  | n :: r => .cons n.nm n.hs n.fs n.rl n.exc (ofNodes r)
theorem nodes_of : ∀ ns : List Nd, (ofNodes ns).nodes = ns
  | [] => rfl
  | n :: r => by show n :: (ofNodes r).nodes = n :: r; rw [nodes_of r]
theorem of_nodes : ∀ f : RF, ofNodes f.nodes = f
  | .nil => rfl
  | .cons nm hs fs rl exc rest => by show RF.cons nm hs fs rl exc (ofNodes rest.nodes) = _; rw [of_nodes rest]
theorem pre_nodes : ∀ (f : RF) (k : Nat), f.pre k = f.nodes.flatMap fun n => (n, k) :: n.exc.pre (k + 1)
  | .nil, _ => rfl
  | .cons nm hs fs rl exc rest, k => by
    show (_, k) :: (exc.pre (k + 1) ++ rest.pre k) = _
    rw [pre_nodes rest k]
    rfl
theorem pre_len : ∀ (f : RF) (k : Nat), (f.pre k).length = f.size
  | .nil, _ => rfl
  | .cons nm hs fs rl exc rest, k => by
    show ((_, k) :: (exc.pre (k + 1) ++ rest.pre k)).length = exc.size + 1 + rest.size
    rw [List.length_cons, List.length_append, pre_len exc, pre_len rest]
    omega
theorem dep_nil : ∀ f : RF, f.dep = 0 → f = .nil
  | .nil, _ => rfl
  | .cons _ _ _ _ exc rest, h => by
    have h : max (exc.dep + 1) rest.dep = 0 := h
    omega
theorem dep_mem : ∀ (f : RF) (n : Nd), n ∈ f.nodes → n.exc.dep + 1 ≤ f.dep
  | .nil, n, h => nomatch h
  | .cons nm hs fs rl exc rest, n, h => by
    show _ ≤ max (exc.dep + 1) rest.dep
    rcases List.mem_cons.mp h with rfl | h
    · exact Nat.le_max_left _ _
    · exact Nat.le_trans (dep_mem rest n h) (Nat.le_max_right _ _)
theorem dep_le : ∀ (f : RF) (d : Nat), (∀ n ∈ f.nodes, n.exc.dep + 1 ≤ d) → f.dep ≤ d
  | .nil, d, _ => Nat.zero_le d
  | .cons nm hs fs rl exc rest, d, h => by
    show max (exc.dep + 1) rest.dep ≤ d
    exact Nat.max_le.mpr ⟨h _ List.mem_cons_self, dep_le rest d fun n m => h n (List.mem_cons_of_mem _ m)⟩
theorem size_mem : ∀ (f : RF) (n : Nd), n ∈ f.nodes → n.exc.size + 1 ≤ f.size
  | .nil, n, h => nomatch h
  | .cons nm hs fs rl exc rest, n, h => by
    show _ ≤ exc.size + 1 + rest.size
    rcases List.mem_cons.mp h with rfl | h
    · show exc.size + 1 ≤ _
      omega
    · have := size_mem rest n h
      omega
theorem nodes_le : ∀ f : RF, f.nodes.length ≤ f.size
  | .nil => Nat.le_refl 0
  | .cons nm hs fs rl exc rest => by
    show rest.nodes.length + 1 ≤ exc.size + 1 + rest.size
    have := nodes_le rest
    omega
/-- the names of all rules, by their numbers -/
def names (f : RF) : List Str := (f.pre 0).map fun p => p.1.nm
theorem pre_names : ∀ (f : RF) (k : Nat), (f.pre k).map (fun p => p.1.nm) = f.names
  | .nil, _ => rfl
  | .cons nm hs fs rl exc rest, k => by
    unfold names
    show nm :: ((exc.pre (k + 1) ++ rest.pre k).map fun p => p.1.nm) = nm :: ((exc.pre (0 + 1) ++ rest.pre 0).map fun p => p.1.nm)
    rw [List.map_append, List.map_append, pre_names exc, pre_names exc, pre_names rest, pre_names rest]
/-- the first rules of a row, with their exceptions, by their numbers -/
def preL (ns : List Nd) (k : Nat) : List (Nd × Nat) := ns.flatMap fun n => (n, k) :: n.exc.pre (k + 1)
theorem preL_more {f : RF} {i k : Nat} {n : Nd} (h : f.nodes[i]? = some n) : preL (f.nodes.take (i + 1)) k = preL (f.nodes.take i) k ++ ((n, k) :: n.exc.pre (k + 1)) := by
  unfold preL
  rw [take_more h, List.flatMap_append]
  simp
theorem preL_all {f : RF} {k : Nat} : preL (f.nodes.take f.nodes.length) k = f.pre k := by
  rw [List.take_length, pre_nodes]
  rfl
theorem preL_len {f : RF} {i k : Nat} : (preL (f.nodes.take i) k).length ≤ f.size := by
  have e : preL f.nodes k = preL (f.nodes.take i) k ++ preL (f.nodes.drop i) k := by
    unfold preL
    rw [← List.flatMap_append, List.take_append_drop]
  have e2 : (preL f.nodes k).length = f.size := by
    rw [← pre_len f k, pre_nodes]
    rfl
  rw [← e2, e, List.length_append]
  exact Nat.le_add_right _ _
end RF
/-! ### where they stand -/
/-- an object that is made, to its last field -/
def DoneF (fs : List (Str × V)) : Bool := (fs.lookup ("_inside" : Str)).isSome || ((fs.lookup ("_names" : Str)).isSome || (fs.lookup ("_numbered" : Str)).isSome)
/-- what steps that change only lists of the law's own, or an object that is being made, leave as it is -/
def dkB : HO → Bool
  | .dK _ => true
  | .frz _ (.dK _) => true
  | _ => false
def Stays (N : Addr → Prop) (b : Addr) (o : HO) : Prop := (∀ xs, o = .lst xs → N b) ∧ (∀ C dx fs, o = .ins C dx fs → DoneF fs = true) ∧ (∀ ps, o ≠ .tbl ps) ∧ dkB o = false
def Keeps (N : Addr → Prop) (H H' : Hp) : Prop := ∀ b o, Stays N b o → H b = some o → H' b = some o
section
variable {K : PySem.W.Frag} {C R : Addr} {N : Addr → Prop} {H H' H'' : Hp}
theorem _root_.L2.Same.keeps (s : Same H H') : Keeps N H H' := fun b o _ e => s b o e
theorem Keeps.trans (h : Keeps N H H') (k : Keeps N H' H'') : Keeps N H H'' := fun b o st e => k b o st (h b o st e)
theorem Kp.keeps {a l : Addr} (k : Kp a l H H') (na : ¬ N a) (nl : ¬ N l) : Keeps N H H' := fun b o st e => by
  by_cases z : ∃ xs, o = .lst xs
  · obtain ⟨xs, rfl⟩ := z
    have := st.1 xs rfl
    exact k.keep b _ (fun z => na (z ▸ this)) (fun z => nl (z ▸ this)) e
  · exact k.obj e fun xs z2 => z ⟨xs, z2⟩
theorem SameX.keeps {x dx : Addr} {fs : List (Str × V)} (s : SameX x H H') (e : H x = some (.ins R dx fs)) (n : DoneF fs = false := by rfl) : Keeps N H H' := fun b o st h => s b o (fun z => by rw [z, e] at h; exact Bool.noConfusion (n.symm.trans (st.2.1 R dx fs (Option.some.inj h).symm))) h
/-- an object that is being made changes -/
theorem keeps_make {x dx : Addr} {fs : List (Str × V)} {o : HO} (e : H x = some (.ins R dx fs)) (n : DoneF fs = false := by rfl) : Keeps N H (upd H x o) := SameX.keeps (fun b o' ne h => by rw [upd_ne ne]; exact h) e n
theorem stays_tup {b : Addr} {xs : List V} : Stays N b (.tup xs) := ⟨(fun _ z => nomatch z), (fun _ _ _ z => nomatch z), (fun _ z => nomatch z), rfl⟩
theorem stays_ins {b C dx : Addr} {fs : List (Str × V)} (h : DoneF fs = true := by rfl) : Stays N b (.ins C dx fs) := ⟨(fun _ z => nomatch z), (fun _ _ _ z => by cases z; exact h), (fun _ z => nomatch z), rfl⟩
theorem stays_lst {b : Addr} {xs : List V} (h : N b) : Stays N b (.lst xs) := ⟨(fun _ _ => h), (fun _ _ _ z => nomatch z), (fun _ z => nomatch z), rfl⟩
theorem Keeps.tup {b : Addr} {xs : List V} (k : Keeps N H H') (h : SqT K H b xs) : SqT K H' b xs := by
  rcases h with (h | ⟨o, h⟩) | h
  · exact .inl (.inl (k _ _ stays_tup h))
  · exact .inl (.inr ⟨o, k _ _ ⟨(fun _ z => nomatch z), (fun _ _ _ z => nomatch z), (fun _ z => nomatch z), rfl⟩ h⟩)
  · exact .inr h
theorem CondAt.keeps {o : Addr} {hs fs : List Str} (h : CondAt K C H o hs fs) (k : Keeps N H H') : CondAt K C H' o hs fs := by
  obtain ⟨dx, a, b, n, zs, h1, h2, h3, h4, h5⟩ := h.at_
  exact ⟨dx, a, b, n, zs, k _ _ stays_ins h1, k.tup h2, k.tup h3, k _ _ stays_tup h4, h5⟩
/-- the fields of a rule -/
def ruleF (nm : Str) (c : Addr) (rl : Str) (p : Addr) (d : Int) (l : Addr) : List (Str × V) :=
  putF "_inside" (.ref l) (putF "_depth" (.int d) (putF "_exceptions" (.ref p) (putF "_ruling" (.str rl) (putF "_condition" (.ref c) (putF "_name" (.str nm) [])))))
def ForAt (K : PySem.W.Frag) (C R : Addr) (N : Addr → Prop) (H : Hp) : RF → List V → Prop
  | .nil, vs => vs = []
  | .cons nm hs fs rl exc rest, vs => ∃ (o dx c p l : Addr) (ws vs' : List V), vs = .ref o :: vs' ∧ H o = some (.ins R dx (ruleF nm c rl p ((exc.dep + 1 : Nat) : Int) l)) ∧ CondAt K C H c hs fs ∧ SqT K H p ws ∧ (N l ∧ H l = some (.lst ((nm :: exc.names).map V.str))) ∧
      ForAt K C R N H exc ws ∧ ForAt K C R N H rest vs'
def NdAt (K : PySem.W.Frag) (C R : Addr) (N : Addr → Prop) (H : Hp) (o : Addr) (n : Nd) : Prop := ∃ (dx c p l : Addr) (ws : List V), H o = some (.ins R dx (ruleF n.nm c n.rl p ((n.exc.dep + 1 : Nat) : Int) l)) ∧ CondAt K C H c n.hs n.fs ∧ SqT K H p ws ∧ (N l ∧ H l = some (.lst ((n.nm :: n.exc.names).map V.str))) ∧ ForAt K C R N H n.exc ws
def RefAt (K : PySem.W.Frag) (C R : Addr) (N : Addr → Prop) (H : Hp) (v : V) (n : Nd) : Prop := ∃ o, v = .ref o ∧ NdAt K C R N H o n
theorem stays_rule {b : Addr} {dx c p l : Addr} {nm rl : Str} {d : Int} : Stays N b (.ins R dx (ruleF nm c rl p d l)) := stays_ins
theorem ForAt.keeps (k : Keeps N H H') : ∀ {f : RF} {vs : List V}, ForAt K C R N H f vs → ForAt K C R N H' f vs
  | .nil, _, h => h
  | .cons nm hs fs rl exc rest, vs, h => by
    obtain ⟨o, dx, c, p, l, ws, vs', e, h1, h2, h3, ⟨h4, h5⟩, h6, h7⟩ := h
    exact ⟨o, dx, c, p, l, ws, vs', e, k _ _ stays_rule h1, h2.keeps k, k.tup h3, ⟨h4, k _ _ (stays_lst h4) h5⟩, ForAt.keeps k h6, ForAt.keeps k h7⟩
theorem NdAt.keeps {o : Addr} {n : Nd} (h : NdAt K C R N H o n) (k : Keeps N H H') : NdAt K C R N H' o n := by
  obtain ⟨dx, c, p, l, ws, h1, h2, h3, ⟨h4, h5⟩, h6⟩ := h
  exact ⟨dx, c, p, l, ws, k _ _ stays_rule h1, h2.keeps k, k.tup h3, ⟨h4, k _ _ (stays_lst h4) h5⟩, h6.keeps k⟩
theorem RefAt.keeps {v : V} {n : Nd} (h : RefAt K C R N H v n) (k : Keeps N H H') : RefAt K C R N H' v n := by
  obtain ⟨o, e, h⟩ := h
  exact ⟨o, e, h.keeps k⟩
theorem ForAt.all : ∀ {f : RF} {vs : List V}, ForAt K C R N H f vs → All2 (RefAt K C R N H) vs f.nodes
  | .nil, _, h => by
    obtain rfl : _ = [] := h
    exact .nil
  | .cons nm hs fs rl exc rest, vs, h => by
    obtain ⟨o, dx, c, p, l, ws, vs', rfl, h1, h2, h3, h4, h6, h7⟩ := h
    exact .cons ⟨o, rfl, dx, c, p, l, ws, h1, h2, h3, h4, h6⟩ h7.all
theorem ForAt.of : ∀ {f : RF} {vs : List V}, All2 (RefAt K C R N H) vs f.nodes → ForAt K C R N H f vs
  | .nil, _, h => by
    cases h
    rfl
  | .cons nm hs fs rl exc rest, vs, h => by
    cases h with
    | cons h t =>
      obtain ⟨o, rfl, dx, c, p, l, ws, h1, h2, h3, h4, h6⟩ := h
      exact ⟨o, dx, c, p, l, ws, _, rfl, h1, h2, h3, h4, h6, ForAt.of t⟩
theorem ForAt.len {f : RF} {vs : List V} (h : ForAt K C R N H f vs) : vs.length = f.nodes.length := h.all.len
theorem ForAt.re {M : Addr → Prop} (g : ∀ b xs, N b → H b = some (.lst xs) → M b) : ∀ {f : RF} {vs : List V}, ForAt K C R N H f vs → ForAt K C R M H f vs
  | .nil, _, h => h
  | .cons nm hs fs rl exc rest, vs, h => by
    obtain ⟨o, dx, c, p, l, ws, vs', e, h1, h2, h3, ⟨h4, h5⟩, h6, h7⟩ := h
    exact ⟨o, dx, c, p, l, ws, vs', e, h1, h2, h3, ⟨g _ _ h4 h5, h5⟩, ForAt.re g h6, ForAt.re g h7⟩
theorem NdAt.re {M : Addr → Prop} (g : ∀ b xs, N b → H b = some (.lst xs) → M b) {o : Addr} {n : Nd} (h : NdAt K C R N H o n) : NdAt K C R M H o n := by
  obtain ⟨dx, c, p, l, ws, h1, h2, h3, ⟨h4, h5⟩, h6⟩ := h
  exact ⟨dx, c, p, l, ws, h1, h2, h3, ⟨g _ _ h4 h5, h5⟩, h6.re g⟩
/-- the addresses of N that are in use -/
def Used (N : Addr → Prop) (H : Hp) (b : Addr) : Prop := N b ∧ H b ≠ none
theorem ForAt.used {f : RF} {vs : List V} (h : ForAt K C R N H f vs) : ForAt K C R (Used N H) H f vs := h.re fun b xs n e => ⟨n, by rw [e]; exact fun z => nomatch z⟩
theorem used_not {D : Addr} (n : H D = none) : ¬ Used N H D := fun h => h.2 n
theorem SameX.keeps' {D : Addr} (s : SameX D H H') (n : ¬ N D) (z : ∀ o, H D = some o → ∃ xs, o = .lst xs) : Keeps N H H' := fun b o st h => s b o (fun e => by
  subst e
  obtain ⟨xs, rfl⟩ := z o h
  exact n (st.1 xs rfl)) h
/-- a list of one's own changes -/
theorem keeps_own {D : Addr} {xs : List V} {o : HO} (e : H D = some (.lst xs)) (n : ¬ N D) : Keeps N H (upd H D o) := SameX.keeps' (fun b o' ne h => by rw [upd_ne ne]; exact h) n fun o' h => by rw [e] at h; exact ⟨xs, (Option.some.inj h).symm⟩
/-- a dict that is locked, or let go -/
theorem keeps_dk {d : Addr} {o0 o : HO} (e : H d = some o0) (h : dkB o0 = true) : Keeps N H (upd H d o) := fun b ob st eb => by
  by_cases z : b = d
  · subst z
    rw [e] at eb
    cases eb
    exact absurd (h.symm.trans st.2.2.2) (by decide)
  · rw [upd_ne z]
    exact eb
/-- a list of tuples (rule, number of rules around) -/
def PairAt (K : PySem.W.Frag) (C R : Addr) (N : Addr → Prop) (H : Hp) (v : V) (n : Nd × Nat) : Prop := ∃ (t o : Addr), v = .ref t ∧ H t = some (.tup [.ref o, .int (n.2 : Nat)]) ∧ NdAt K C R N H o n.1
theorem PairAt.keeps {v : V} {n : Nd × Nat} (h : PairAt K C R N H v n) (k : Keeps N H H') : PairAt K C R N H' v n := by
  obtain ⟨t, o, e, h1, h2⟩ := h
  exact ⟨t, o, e, k _ _ stays_tup h1, h2.keeps k⟩
theorem PairAt.re {M : Addr → Prop} (g : ∀ b xs, N b → H b = some (.lst xs) → M b) {v : V} {n : Nd × Nat} (h : PairAt K C R N H v n) : PairAt K C R M H v n := by
  obtain ⟨t, o, e, h1, h2⟩ := h
  exact ⟨t, o, e, h1, h2.re g⟩
abbrev PreAt (K : PySem.W.Frag) (C R : Addr) (N : Addr → Prop) (H : Hp) (us : List V) (ps : List (Nd × Nat)) : Prop := All2 (PairAt K C R N H) us ps
theorem PreAt.keeps {us : List V} {ps : List (Nd × Nat)} (h : PreAt K C R N H us ps) (k : Keeps N H H') : PreAt K C R N H' us ps := h.mono fun _ _ x => x.keeps k
/-! ### the law's rows: tuples -/
def RowsAt (K : PySem.W.Frag) (H : Hp) : RF → List V → Prop
  | .nil, vs => vs = []
  | .cons nm hs fs rl exc rest, vs => ∃ (o w b p : Addr) (ws vs' : List V), vs = .ref o :: vs' ∧ SqT K H o [.str nm, .ref w, .ref b, .str rl, .ref p] ∧ SqT K H w (hs.map V.str) ∧ SqT K H b (fs.map V.str) ∧ SqT K H p ws ∧ RowsAt K H exc ws ∧ RowsAt K H rest vs'
def RowAt (K : PySem.W.Frag) (H : Hp) (v : V) (n : Nd) : Prop := ∃ (o w b p : Addr) (ws : List V), v = .ref o ∧ SqT K H o [.str n.nm, .ref w, .ref b, .str n.rl, .ref p] ∧ SqT K H w (n.hs.map V.str) ∧ SqT K H b (n.fs.map V.str) ∧ SqT K H p ws ∧ RowsAt K H n.exc ws
theorem RowsAt.keeps (k : Keeps N H H') : ∀ {f : RF} {vs : List V}, RowsAt K H f vs → RowsAt K H' f vs
  | .nil, _, h => h
  | .cons nm hs fs rl exc rest, vs, h => by
    obtain ⟨o, w, b, p, ws, vs', e, h1, h2, h3, h4, h6, h7⟩ := h
    exact ⟨o, w, b, p, ws, vs', e, k.tup h1, k.tup h2, k.tup h3, k.tup h4, RowsAt.keeps k h6, RowsAt.keeps k h7⟩
theorem RowAt.keeps {v : V} {n : Nd} (h : RowAt K H v n) (k : Keeps N H H') : RowAt K H' v n := by
  obtain ⟨o, w, b, p, ws, e, h1, h2, h3, h4, h6⟩ := h
  exact ⟨o, w, b, p, ws, e, k.tup h1, k.tup h2, k.tup h3, k.tup h4, h6.keeps k⟩
theorem RowsAt.all : ∀ {f : RF} {vs : List V}, RowsAt K H f vs → All2 (RowAt K H) vs f.nodes
  | .nil, _, h => by
    obtain rfl : _ = [] := h
    exact .nil
  | .cons nm hs fs rl exc rest, vs, h => by
    obtain ⟨o, w, b, p, ws, vs', rfl, h1, h2, h3, h4, h6, h7⟩ := h
    exact .cons ⟨o, w, b, p, ws, rfl, h1, h2, h3, h4, h6⟩ h7.all
theorem RowsAt.of : ∀ {f : RF} {vs : List V}, All2 (RowAt K H) vs f.nodes → RowsAt K H f vs
  | .nil, _, h => by
    cases h
    rfl
  | .cons nm hs fs rl exc rest, vs, h => by
    cases h with
    | cons h t =>
      obtain ⟨o, w, b, p, ws, rfl, h1, h2, h3, h4, h6⟩ := h
      exact ⟨o, w, b, p, ws, _, rfl, h1, h2, h3, h4, h6, RowsAt.of t⟩
theorem RowsAt.len {f : RF} {vs : List V} (h : RowsAt K H f vs) : vs.length = f.nodes.length := h.all.len
end
end Sc
namespace Sc
open PySem PySem.Spec PyProof.Rows L2
/-! ### rules -/
/-- a getter as its users see it -/
abbrev PropX (P : Program) (w : World) (K : PySem.W.Frag) (mg : Str → Option Value) (base : Heap) (C : Addr) (n f : Str) : Prop := ∃ p g fd, PropC P w K mg base C p g fd n f
/-- the class Rule as its users see it -/
structure RuleX (P : Program) (w : World) (K : PySem.W.Frag) (mg : Str → Option Value) (base : Heap) (R : Addr) : Prop where
  cls : Cls K R
  name : PropX P w K mg base R "name" "_name"
  condition : PropX P w K mg base R "condition" "_condition"
  ruling : PropX P w K mg base R "ruling" "_ruling"
  exceptions : PropX P w K mg base R "exceptions" "_exceptions"
  depth : PropX P w K mg base R "depth" "_depth"
/-- the getters of a condition -/
structure CondG (P : Program) (w : World) (K : PySem.W.Frag) (mg : Str → Option Value) (base : Heap) (C : Addr) : Prop where
  cls : Cls K C
  holding : PropX P w K mg base C "holding" "_holding"
  failing : PropX P w K mg base C "failing" "_failing"
  names : PropX P w K mg base C "names" "_names"
def Below (S : Nat → Sp) : Nat → Sp
  | 0 => fun _ _ _ _ => False
  | d + 1 => S d
theorem sc_nested : FnScope ["rules", "around", "found", "rule"] ["rules", "around"] (defScope s_nested) := ⟨rfl, rfl, rfl, by decide +kernel, rfl, by decide +kernel, by decide +kernel⟩
section
variable {P : Program} {w : World} {K : PySem.W.Frag} {mg : Str → Option Value} {base : Heap} {C R : Addr}
theorem FnOk.never {CX : CXT} {k : Nat} {f : Addr} {fd : FuncData} {ps : List Str} : FnOk P w K mg base CX k f fd ps (fun _ _ _ _ => False) := ⟨fun _ _ _ _ h => h.elim, fun _ _ _ _ _ _ _ _ _ _ _ _ _ h => h.elim⟩
def sp_nested (K : PySem.W.Frag) (C R : Addr) (d : Nat) : Sp := fun vs H Q _ => ∃ (N : Addr → Prop) (p : Addr) (k : Nat) (ws : List V) (f : RF), vs = [.ref p, .int (k : Nat)] ∧ SqT K H p ws ∧ ForAt K C R N H f ws ∧ f.dep ≤ d ∧ f.size ≤ 900 ∧
  ∀ H' D us, Same H H' → H D = none → H' D = some (.lst us) → PreAt K C R N H' us (f.pre k) → Q (.ref D) H'
theorem ok_nested {d : Nat} {f : Addr} {fd : FuncData} (F : Fun K "nested" "nested" s_nested f fd) (kR : RuleX P w K mg base R) (c_nested : Cal P w K mg base CX0 (d + 2) "nested" ["rules", "around"] (Below (sp_nested K C R) d)) :
    FnOk P w K mg base CX0 (d + 3) f fd ["rules", "around"] (sp_nested K C R d) := by
  refine F.ok sc_nested (fun vs H Q E h => by obtain ⟨N, p, k, ws, f, rfl, _⟩ := h; rfl) (fun cdv A outer s H vs Q E hr h => ?_)
  obtain ⟨N, p, k, ws, f, rfl, hP, hF, hd, hz, q⟩ := h
  have hA := hF.used.all
  have hln := hA.len
  have hlz := RF.nodes_le f
  refine ⟨_, (pss_cons (ps_set (i := 2) sc_nested.nd rfl (Or.inl rfl) (pe_lst pa_nil))
      (pss_cons (ps_for PassesOwn.never rfl (pi_tup (pv 0)) (pg_name (i := 3) sc_nested.nd rfl (Or.inl rfl)) (pss_cons (ps_expr (pe_bm PySem.F.plainAttrs_list PySem.F.slot_list_append PySem.F.type_list_append mt_append (pv 2) (pa_cons (pe_tup (pa_cons (pv 3) (pa_cons (pv 1) pa_nil))) pa_nil)))
      (pss_one (ps_expr (pe_bm PySem.F.plainAttrs_list PySem.F.slot_list_extend PySem.F.type_list_extend mt_extend (pv 2) (pa_cons (pe_cal c_nested hr (pa_cons (pe_cprop kR.exceptions kR.cls (hr.mono (by omega)) (pv 3)) (pa_cons (pe_op op_add (pv 1) pe_int) pa_nil))) pa_nil))))))
      (pss_one (ps_ret (pv 2))))), ?_⟩
  refine ⟨Nat.zero_le _, fun D nD => ⟨_, rfl, p, rfl, ⟨_, ((Same.refl H).put nD).tup hP⟩, for_it walk_tup (fun i σ H' => ∃ us y, σ = [some (.ref p), some (.int (k : Nat)), some (.ref D), y] ∧ Same H H' ∧ H' D = some (.lst us) ∧ PreAt K C R (Used N H) H' us (RF.preL (f.nodes.take i) k))
    ⟨[], none, rfl, (Same.refl H).put nD, upd_same, .nil⟩ (fun _ _ _ _ ⟨_, _, _, s, _⟩ => s.tup hP) ?_ ?_⟩⟩
  · rintro i y σ H3 H2 hi ⟨us, y', rfl, s, e, hu⟩ ⟨rfl, hy⟩
    have nU := used_not (N := N) nD
    obtain ⟨n, hn, o, rfl, hN⟩ := hA.get hy
    have hmem : n ∈ f.nodes := List.mem_of_getElem? hn
    have hdm := RF.dep_mem f n hmem
    have hsm := RF.size_mem f n hmem
    obtain ⟨d, rfl⟩ : ∃ d', d = d' + 1 := ⟨d - 1, by omega⟩
    have hul := hu.len
    have hpl := RF.preL_len (f := f) (i := i) (k := k)
    have hpl2 := RF.preL_len (f := f) (i := i + 1) (k := k)
    rw [RF.preL_more hn, List.length_append, List.length_cons, RF.pre_len] at hpl2
    refine ⟨_, rfl, .inl ⟨rfl, _, sqL_of e⟩, _, rfl, _, rfl, (by show 2 ≤ sizeLine; decide), fun t nt => ?_⟩
    have s3 := s.put' (o := .tup [.ref o, .int (k : Nat)]) nt
    have e3 : (upd H2 t (.tup [.ref o, .int (k : Nat)])) D = some (.lst us) := by rw [upd_ne (ne_of_none e nt)]; exact e
    have t3 : (upd H2 t (.tup [.ref o, .int (k : Nat)])) t = some (.tup [.ref o, .int (k : Nat)]) := upd_same
    have s23 : Same H2 (upd H2 t (.tup [.ref o, .int (k : Nat)])) := (Same.refl H2).put nt
    have hu3 := hu.keeps s23.keeps
    clear s23
    generalize upd H2 t (.tup [.ref o, .int (k : Nat)]) = H3 at s3 e3 t3 hu3 ⊢
    refine ⟨D, _, _, rfl, rfl, e3, small1000 (by omega), ?_⟩
    have s4 : Same H (upd H3 D (.lst (us ++ [.ref t]))) := s3.put nD
    have e4 : (upd H3 D (.lst (us ++ [.ref t]))) D = some (.lst (us ++ [.ref t])) := upd_same
    have tD : t ≠ D := fun z => by rw [z, e3] at t3; cases t3
    have hu4 : PreAt K C R (Used N H) (upd H3 D (.lst (us ++ [.ref t]))) (us ++ [.ref t]) (RF.preL (f.nodes.take i) k ++ [(n, k)]) :=
      (hu3.keeps (keeps_own e3 nU)).snoc ⟨t, o, rfl, by rw [upd_ne tD]; exact t3, hN.keeps s4.keeps⟩
    generalize upd H3 D (.lst (us ++ [.ref t])) = H4 at s4 e4 hu4 ⊢
    obtain ⟨dx, c, pe, l, ws', ho, hc, hpe, hl, hfe⟩ := hN
    refine ⟨_, rfl, .inl ⟨rfl, _, sqL_of e4⟩, _, rfl, o, dx, _, rfl, s4 _ _ ho, ⟨o, dx, _, _, rfl, s4 _ _ ho, rfl, ?_⟩⟩
    refine ⟨_, rfl, k, 1, rfl, rfl, ?_⟩
    refine ⟨_, pe, k + 1, ws', n.exc, rfl, s4.tup hpe, hfe.keeps s4.keeps, by omega, by omega, fun H5 D5 us5 s5 n5 e5 hu5 => ?_⟩
    have s45 := s4.trans s5
    have e45 := s5 _ _ e4
    refine ⟨D, D5, _, _, rfl, rfl, e45, e5, ?_, ?_⟩
    · have := hu5.len
      rw [RF.pre_len] at this
      have h4 := hu4.len
      rw [List.length_append (bs := [(n, k)]), List.length_singleton] at h4
      exact Nat.le_of_lt (small1000 (by omega))
    refine ⟨_, _, rfl, s45.put nD, upd_same, ?_⟩
    rw [RF.preL_more hn]
    have h1 := (hu4.keeps s5.keeps).app hu5
    have h2 := PreAt.keeps h1 (keeps_own (o := .lst (us ++ [.ref t] ++ us5)) e45 nU)
    rw [show RF.preL (f.nodes.take i) k ++ [(n, k)] ++ n.exc.pre (k + 1) = RF.preL (f.nodes.take i) k ++ ((n, k) :: n.exc.pre (k + 1)) by simp] at h2
    exact h2
  · rintro σ H2 ⟨us, y, rfl, s, e, hu⟩
    rw [hln, RF.preL_all] at hu
    exact ⟨_, rfl, q H2 D us s nD e (hu.mono fun _ _ x => x.re fun b xs h _ => h.1)⟩
end
end Sc
namespace Sc
open PySem PySem.Spec PyProof.Rows L2
/-! ### an object Rule -/
theorem sc_Rule___init__ : FnScope ["self", "name", "condition", "ruling", "exceptions", "rule", "_"] ["self", "name", "condition", "ruling", "exceptions"] (defScope s_Rule___init__) := ⟨rfl, rfl, rfl, by decide +kernel, rfl, by decide +kernel, by decide +kernel⟩
theorem sc_Rule_name : FnScope ["self"] ["self"] (defScope s_Rule_name) := ⟨rfl, rfl, rfl, by decide +kernel, rfl, by decide +kernel, by decide +kernel⟩
theorem sc_Rule_condition : FnScope ["self"] ["self"] (defScope s_Rule_condition) := ⟨rfl, rfl, rfl, by decide +kernel, rfl, by decide +kernel, by decide +kernel⟩
theorem sc_Rule_ruling : FnScope ["self"] ["self"] (defScope s_Rule_ruling) := ⟨rfl, rfl, rfl, by decide +kernel, rfl, by decide +kernel, by decide +kernel⟩
theorem sc_Rule_exceptions : FnScope ["self"] ["self"] (defScope s_Rule_exceptions) := ⟨rfl, rfl, rfl, by decide +kernel, rfl, by decide +kernel, by decide +kernel⟩
theorem sc_Rule_depth : FnScope ["self"] ["self"] (defScope s_Rule_depth) := ⟨rfl, rfl, rfl, by decide +kernel, rfl, by decide +kernel, by decide +kernel⟩
section
variable {P : Program} {w : World} {K : PySem.W.Frag} {mg : Str → Option Value} {base : Heap} {C R CR : Addr}
theorem ok_Rule_name {f : Addr} {fd : FuncData} (F : Fun K "name" "Rule.name" s_Rule_name f fd) (T : Cls K R) (n : NoAttr K R "_name") : FnOk P w K mg base CX0 1 f fd ["self"] (sp_prop R "_name") := by
  refine F.ok sc_Rule_name (fun vs H Q E h => by obtain ⟨x, dx, fs, v, rfl, _⟩ := h; rfl) (fun cdv A outer s H vs Q E hr h => ?_)
  obtain ⟨x, dx, fs, v, rfl, hx, hl, q⟩ := h
  exact ⟨_, (pss_one (ps_ret (pe_fld (pv 0) rfl))), ⟨_, rfl, x, R, dx, fs, v, rfl, hx, T, n, hl, q⟩⟩
theorem ok_Rule_condition {f : Addr} {fd : FuncData} (F : Fun K "condition" "Rule.condition" s_Rule_condition f fd) (T : Cls K R) (n : NoAttr K R "_condition") : FnOk P w K mg base CX0 1 f fd ["self"] (sp_prop R "_condition") := by
  refine F.ok sc_Rule_condition (fun vs H Q E h => by obtain ⟨x, dx, fs, v, rfl, _⟩ := h; rfl) (fun cdv A outer s H vs Q E hr h => ?_)
  obtain ⟨x, dx, fs, v, rfl, hx, hl, q⟩ := h
  exact ⟨_, (pss_one (ps_ret (pe_fld (pv 0) rfl))), ⟨_, rfl, x, R, dx, fs, v, rfl, hx, T, n, hl, q⟩⟩
theorem ok_Rule_ruling {f : Addr} {fd : FuncData} (F : Fun K "ruling" "Rule.ruling" s_Rule_ruling f fd) (T : Cls K R) (n : NoAttr K R "_ruling") : FnOk P w K mg base CX0 1 f fd ["self"] (sp_prop R "_ruling") := by
  refine F.ok sc_Rule_ruling (fun vs H Q E h => by obtain ⟨x, dx, fs, v, rfl, _⟩ := h; rfl) (fun cdv A outer s H vs Q E hr h => ?_)
  obtain ⟨x, dx, fs, v, rfl, hx, hl, q⟩ := h
  exact ⟨_, (pss_one (ps_ret (pe_fld (pv 0) rfl))), ⟨_, rfl, x, R, dx, fs, v, rfl, hx, T, n, hl, q⟩⟩
theorem ok_Rule_exceptions {f : Addr} {fd : FuncData} (F : Fun K "exceptions" "Rule.exceptions" s_Rule_exceptions f fd) (T : Cls K R) (n : NoAttr K R "_exceptions") : FnOk P w K mg base CX0 1 f fd ["self"] (sp_prop R "_exceptions") := by
  refine F.ok sc_Rule_exceptions (fun vs H Q E h => by obtain ⟨x, dx, fs, v, rfl, _⟩ := h; rfl) (fun cdv A outer s H vs Q E hr h => ?_)
  obtain ⟨x, dx, fs, v, rfl, hx, hl, q⟩ := h
  exact ⟨_, (pss_one (ps_ret (pe_fld (pv 0) rfl))), ⟨_, rfl, x, R, dx, fs, v, rfl, hx, T, n, hl, q⟩⟩
theorem ok_Rule_depth {f : Addr} {fd : FuncData} (F : Fun K "depth" "Rule.depth" s_Rule_depth f fd) (T : Cls K R) (n : NoAttr K R "_depth") : FnOk P w K mg base CX0 1 f fd ["self"] (sp_prop R "_depth") := by
  refine F.ok sc_Rule_depth (fun vs H Q E h => by obtain ⟨x, dx, fs, v, rfl, _⟩ := h; rfl) (fun cdv A outer s H vs Q E hr h => ?_)
  obtain ⟨x, dx, fs, v, rfl, hx, hl, q⟩ := h
  exact ⟨_, (pss_one (ps_ret (pe_fld (pv 0) rfl))), ⟨_, rfl, x, R, dx, fs, v, rfl, hx, T, n, hl, q⟩⟩
theorem putF_le {f : Str} {v : V} {fs : List (Str × V)} {n : Nat} (h : fs.length ≤ n) : (putF f v fs).length ≤ n + 1 := Nat.le_trans (putF_len f v fs) (Nat.succ_le_succ h)
theorem SameX.refl {x : Addr} {H : Hp} : SameX x H H := fun _ _ _ e => e
theorem SameX.put {x : Addr} {H H' : Hp} {o : HO} (s : SameX x H H') : SameX x H (upd H' x o) := fun b o' ne e => by rw [upd_ne ne]; exact s b o' ne e
theorem SameX.same {x : Addr} {H H' H'' : Hp} (s : SameX x H H') (k : Same H' H'') : SameX x H H'' := fun b o ne e => k _ _ (s b o ne e)
theorem SameX.of {x : Addr} {H H' : Hp} (k : Same H H') : SameX x H H' := fun b o _ e => k _ _ e
theorem SameX.free {x l : Addr} {H H' : Hp} (s : SameX x H H') (ne : l ≠ x) (n : H' l = none) : H l = none := by
  cases e : H l with
  | none => rfl
  | some o => rw [s l o ne e] at n; cases n
theorem dep_is {f : RF} {m : Int} (hm : m ∈ (0 : Int) :: f.nodes.map fun n => ((n.exc.dep + 1 : Nat) : Int)) (hle : ∀ y, y ∈ ((0 : Int) :: f.nodes.map fun n => ((n.exc.dep + 1 : Nat) : Int)) → y ≤ m) : m = (f.dep : Nat) := by
  have h0 := hle 0 List.mem_cons_self
  obtain ⟨k, rfl⟩ := Int.eq_ofNat_of_zero_le h0
  have h1 : f.dep ≤ k := RF.dep_le f k fun n hn => by
    have := hle _ (List.mem_cons_of_mem _ (List.mem_map.mpr ⟨n, hn, rfl⟩))
    omega
  have h2 : k ≤ f.dep := by
    rcases List.mem_cons.mp hm with h | h
    · omega
    · obtain ⟨n, hn, e⟩ := List.mem_map.mp h
      have := RF.dep_mem f n hn
      omega
  omega
def errPt (C : Addr) (w : Str) (H : Hp) (E : XK) : Prop := ∀ H' d, Same H H' → H' d = none → E (.ref C) (some d) (upd H' d (.xd [(("part" : Str), .str w)]))
def sp_rule_init (K : PySem.W.Frag) (C R CR : Addr) : Sp := fun vs H Q E => ∃ (N : Addr → Prop) (x dx c p : Addr) (nm rl : Str) (ws : List V) (exc : RF), vs = [.ref x, .str nm, .ref c, .str rl, .ref p] ∧ H x = some (.ins R dx []) ∧ SqT K H p ws ∧ ForAt K C R N H exc ws ∧ nm.length ≤ 1000 ∧ rl.length ≤ 1000 ∧ exc.dep ≤ 12 ∧ exc.size ≤ 900 ∧
  (isName nm = false → errPt CR "name" H E) ∧ (isName nm = true → (isName rl = false → errPt CR "ruling" H E) ∧ (isName rl = true →
    ∀ H' l, SameX x H H' → H' x = some (.ins R dx (ruleF nm c rl p ((exc.dep + 1 : Nat) : Int) l)) → l ≠ x → H l = none → H' l = some (.lst ((nm :: exc.names).map V.str)) → Q .non H'))
theorem ok_rule_init {f : Addr} {fd : FuncData} (F : Fun K "__init__" "Rule.__init__" s_Rule___init__ f fd) (B : Blt mg) (T : Cls K R) (n1 : NoAttr K R "_name") (n2 : NoAttr K R "_condition") (n3 : NoAttr K R "_ruling") (n4 : NoAttr K R "_exceptions") (n5 : NoAttr K R "_depth") (n6 : NoAttr K R "_inside")
    (kR : RuleX P w K mg base R) (e_InvalidRule : ErrMk P w K mg base "InvalidRule" CR ["self", "part"] (sp_init1 CR "part")) (c_is_name : Cal P w K mg base CX0 1 "is_name" ["value"] sp_is_name) (c_nested : Cal P w K mg base CX0 15 "nested" ["rules", "around"] (sp_nested K C R 12)) :
    FnOk P w K mg base (L2.CX P w) 16 f fd ["self", "name", "condition", "ruling", "exceptions"] (sp_rule_init K C R CR) := by
  refine F.okX sc_Rule___init__ (fun vs H Q E h => by obtain ⟨N, x, dx, c, p, nm, rl, ws, exc, rfl, _⟩ := h; rfl) (fun cdv A outer s H vs Q E hr h => ?_)
  obtain ⟨N, x, dx, c, p, nm, rl, ws, exc, rfl, hx, hP, hF, ln, lr, hd, hz, e1, q⟩ := h
  refine ⟨_, (pss_cons (ps_if (pt_not (pt_val (pe_cal c_is_name (hr.mono (by decide)) (pa_cons (pv 1) pa_nil)))) (pss_one (ps_raise rfl (takes_of rfl rfl rfl rfl) (pmk_err1 e_InvalidRule (hr.mono (by decide)) pe_str))) pss_nil)
      (pss_cons (ps_if (pt_not (pt_val (pe_cal c_is_name (hr.mono (by decide)) (pa_cons (pv 3) pa_nil)))) (pss_one (ps_raise rfl (takes_of rfl rfl rfl rfl) (pmk_err1 e_InvalidRule (hr.mono (by decide)) pe_str))) pss_nil)
      (pss_cons (ps_fld (pv 0) (pv 1) rfl)
      (pss_cons (ps_fld (pv 0) (pv 2) rfl)
      (pss_cons (ps_fld (pv 0) (pv 3) rfl)
      (pss_cons (ps_fld (pv 0) (pv 4) rfl)
      (pss_cons (ps_fld (pv 0) (pe_op op_add pe_int (pe_callB (cr_max rfl) (by rfl) B.b_max PyProof.Rows.boot_max (pa_cons (pe_op op_cat (pe_lst (pa_cons pe_int pa_nil)) (pe_lc (own := [("rule", 5)]) (g := gName 5) (tt := tYes) rfl sc_Rule___init__.nd (pi_tup (pv 4)) (blkOk_by (own := [("rule", 5)]) (N := ["self", "name", "condition", "ruling", "exceptions", "rule", "_"]) (sc := defScope s_Rule___init__) (by decide +kernel)) (fun _ _ _ _ _ => (pg_name (i := 5) sc_Rule___init__.nd rfl (Or.inl rfl))) (fun _ _ _ _ _ => pts_nil) (fun _ _ _ _ _ => (pe_.re (pe_cprop kR.depth kR.cls (hr.mono (by decide)) (pv 5)) (by first | (dsimp only [Cx.blk]; done) | exact rfl))))) pa_nil))) rfl)
      (pss_one (ps_fld (pv 0) (pe_op op_cat (pe_lst (pa_cons (pv 1) pa_nil)) (pe_lc (own := [("rule", 5), ("_", 6)]) (g := gTup K 2 (gCons (gName 5) (gCons (gName 6) gNil))) (tt := tYes) rfl sc_Rule___init__.nd (pi_list (pe_cal c_nested (hr.mono (by decide)) (pa_cons (pv 4) (pa_cons pe_int pa_nil)))) (blkOk_by (own := [("rule", 5), ("_", 6)]) (N := ["self", "name", "condition", "ruling", "exceptions", "rule", "_"]) (sc := defScope s_Rule___init__) (by decide +kernel)) (fun _ _ _ _ _ => (pg_tup (by rfl) (pgs_cons (pg_name (i := 5) sc_Rule___init__.nd rfl (Or.inl rfl)) (pgs_cons (pg_name (i := 6) sc_Rule___init__.nd rfl (Or.inl rfl)) pgs_nil)))) (fun _ _ _ _ _ => pts_nil) (fun _ _ _ _ _ => (pe_.re (pe_cprop kR.name kR.cls (hr.mono (by decide)) (pv 5)) (by first | (dsimp only [Cx.blk]; done) | exact rfl))))) rfl))))))))), ?_⟩
  have big : ∀ {m : Nat}, m ≤ 1000 → m ≤ sizeLine := fun {m} h => by rw [sizeLine_eq]; omega
  have fkp : ∀ wd : Str, wd.length ≤ 1000 → FOk (.str wd) := fun wd h => Nat.le_trans h (by decide)
  refine ⟨_, rfl, nm, rfl, big ln, fun H1 s1 => ⟨_, rfl, bcase (fun c1 => ?_) (fun c1 => ?_)⟩⟩
  · exact ⟨fkp "name" (by decide), fun d nd => e1 ((Bool.not_eq_true' _).mp c1) H1 d s1 nd⟩
  obtain ⟨e2, q⟩ := q ((Bool.not_eq_false' _).mp c1)
  refine ⟨_, rfl, rl, rfl, big lr, fun H2 s2 => ⟨_, rfl, bcase (fun c2 => ?_) (fun c2 => ?_)⟩⟩
  · exact ⟨fkp "ruling" (by decide), fun d nd => e2 ((Bool.not_eq_true' _).mp c2) H2 d (s1.trans s2) nd⟩
  have q := q ((Bool.not_eq_false' _).mp c2)
  have s12 := s1.trans s2
  have hx2 := s12 _ _ hx
  refine ⟨_, rfl, _, rfl, x, R, dx, _, rfl, hx2, T, n1, by decide, ?_⟩
  refine ⟨_, rfl, _, rfl, x, R, dx, _, rfl, upd_same, T, n2, Nat.lt_of_le_of_lt (putF_le (Nat.zero_le 0)) (by decide), ?_⟩
  refine ⟨_, rfl, _, rfl, x, R, dx, _, rfl, upd_same, T, n3, Nat.lt_of_le_of_lt (putF_le (putF_le (Nat.zero_le 0))) (by decide), ?_⟩
  refine ⟨_, rfl, _, rfl, x, R, dx, _, rfl, upd_same, T, n4, Nat.lt_of_le_of_lt (putF_le (putF_le (putF_le (Nat.zero_le 0)))) (by decide), ?_⟩
  have sx : SameX x H (upd (upd (upd (upd H2 x (.ins R dx (putF "_name" (.str nm) []))) x (.ins R dx (putF "_condition" (.ref c) (putF "_name" (.str nm) [])))) x (.ins R dx (putF "_ruling" (.str rl) (putF "_condition" (.ref c) (putF "_name" (.str nm) []))))) x (.ins R dx (putF "_exceptions" (.ref p) (putF "_ruling" (.str rl) (putF "_condition" (.ref c) (putF "_name" (.str nm) [])))))) := ((((SameX.of s12).put).put).put).put
  have hx6 : (upd (upd (upd (upd H2 x (.ins R dx (putF "_name" (.str nm) []))) x (.ins R dx (putF "_condition" (.ref c) (putF "_name" (.str nm) [])))) x (.ins R dx (putF "_ruling" (.str rl) (putF "_condition" (.ref c) (putF "_name" (.str nm) []))))) x (.ins R dx (putF "_exceptions" (.ref p) (putF "_ruling" (.str rl) (putF "_condition" (.ref c) (putF "_name" (.str nm) [])))))) x = some (.ins R dx (putF "_exceptions" (.ref p) (putF "_ruling" (.str rl) (putF "_condition" (.ref c) (putF "_name" (.str nm) []))))) := upd_same
  generalize upd (upd (upd (upd H2 x (.ins R dx (putF "_name" (.str nm) []))) x (.ins R dx (putF "_condition" (.ref c) (putF "_name" (.str nm) [])))) x (.ins R dx (putF "_ruling" (.str rl) (putF "_condition" (.ref c) (putF "_name" (.str nm) []))))) x (.ins R dx (putF "_exceptions" (.ref p) (putF "_ruling" (.str rl) (putF "_condition" (.ref c) (putF "_name" (.str nm) []))))) = H6 at sx hx6 ⊢
  have k6 : Keeps N H H6 := sx.keeps hx
  have hP6 := k6.tup hP
  have hF6 := hF.keeps k6
  have hA6 := hF6.all
  have hln := hA6.len
  have hlz := RF.nodes_le exc
  refine ⟨(by show 1 ≤ sizeLine; decide), fun l0 nl0 => ?_⟩
  have s0 : Same H6 (upd H6 l0 (.lst [.int 0])) := (Same.refl H6).put nl0
  have el0 : (upd H6 l0 (.lst [.int 0])) l0 = some (.lst [.int 0]) := upd_same
  generalize upd H6 l0 (.lst [.int 0]) = H7 at s0 el0 ⊢
  refine ⟨_, rfl, p, rfl, ⟨_, s0.tup hP6⟩, fun D nD => lc_it walk_tup (fun i H' => Same H7 H' ∧ H' D = some (.lst ((exc.nodes.take i).map fun n => V.int ((n.exc.dep + 1 : Nat) : Int)))) ⟨(Same.refl H7).put nD, upd_same⟩ (fun _ _ _ h => (s0.trans h.1).tup hP6) ?_ ?_⟩
  · rintro i y H8 H9 hi ⟨s, e⟩ ⟨rfl, hy⟩
    obtain ⟨n, hn, o, rfl, hN⟩ := hA6.get hy
    obtain ⟨dx', c', p', l', ws', ho, _⟩ := hN
    have ho := s _ _ (s0 _ _ ho)
    refine ⟨rfl, yes_ ⟨_, rfl, o, dx', _, rfl, ho, o, dx', _, _, rfl, ho, rfl, grow (acc := fun i => (exc.nodes.take i).map fun n => V.int ((n.exc.dep + 1 : Nat) : Int)) nD s e ?_ ?_⟩⟩
    · rw [List.length_map, List.length_take]
      exact small1000 (by omega)
    · show List.map _ _ = _
      rw [take_more hn, List.map_append]
      rfl
  rintro H8 ⟨s8, e8⟩
  rw [hln, List.take_length] at e8
  have el8 := s8 _ _ el0
  refine ⟨l0, D, _, _, rfl, rfl, el8, e8, ?_, fun l2 nl2 => ?_⟩
  · rw [List.length_map]
    exact big (by show 1 + _ ≤ _; omega)
  have s9 : Same H8 (upd H8 l2 (.lst ([V.int 0] ++ exc.nodes.map fun n => V.int ((n.exc.dep + 1 : Nat) : Int)))) := (Same.refl H8).put nl2
  have e9 : (upd H8 l2 (.lst ([V.int 0] ++ exc.nodes.map fun n => V.int ((n.exc.dep + 1 : Nat) : Int)))) l2 = some (.lst ([V.int 0] ++ exc.nodes.map fun n => V.int ((n.exc.dep + 1 : Nat) : Int))) := upd_same
  generalize upd H8 l2 (.lst ([V.int 0] ++ exc.nodes.map fun n => V.int ((n.exc.dep + 1 : Nat) : Int))) = H9 at s9 e9 ⊢
  refine ⟨l2, (0 : Int) :: exc.nodes.map (fun n => ((n.exc.dep + 1 : Nat) : Int)), rfl, sqL_of (by rw [e9, List.map_cons, List.map_map]; rfl), Nat.succ_pos _, fun m hm hle => ?_⟩
  obtain rfl := dep_is hm hle
  have s69 := (s0.trans s8).trans s9
  have hx9 := s69 _ _ hx6
  refine ⟨1, _, rfl, rfl, _, rfl, x, R, dx, _, rfl, hx9, T, n5, Nat.lt_of_le_of_lt (putF_le (putF_le (putF_le (putF_le (Nat.zero_le 0))))) (by decide), ?_⟩
  have sx10 : SameX x H (upd H9 x (.ins R dx (putF "_depth" (.int (1 + (exc.dep : Int))) (putF "_exceptions" (.ref p) (putF "_ruling" (.str rl) (putF "_condition" (.ref c) (putF "_name" (.str nm) []))))))) := (sx.same s69).put
  have hx10 : (upd H9 x (.ins R dx (putF "_depth" (.int (1 + (exc.dep : Int))) (putF "_exceptions" (.ref p) (putF "_ruling" (.str rl) (putF "_condition" (.ref c) (putF "_name" (.str nm) []))))))) x = some (.ins R dx (putF "_depth" (.int (1 + (exc.dep : Int))) (putF "_exceptions" (.ref p) (putF "_ruling" (.str rl) (putF "_condition" (.ref c) (putF "_name" (.str nm) [])))))) := upd_same
  generalize upd H9 x (.ins R dx (putF "_depth" (.int (1 + (exc.dep : Int))) (putF "_exceptions" (.ref p) (putF "_ruling" (.str rl) (putF "_condition" (.ref c) (putF "_name" (.str nm) [])))))) = H10 at sx10 hx10 ⊢
  rw [show 1 + (exc.dep : Int) = ((exc.dep + 1 : Nat) : Int) by omega] at hx10
  have k10 : Keeps N H H10 := sx10.keeps hx
  refine ⟨_, rfl, (by show 1 ≤ sizeLine; decide), fun l1 nl1 => ?_⟩
  have s11 : Same H10 (upd H10 l1 (.lst [.str nm])) := (Same.refl H10).put nl1
  have e11 : (upd H10 l1 (.lst [.str nm])) l1 = some (.lst [.str nm]) := upd_same
  generalize upd H10 l1 (.lst [.str nm]) = H11 at s11 e11 ⊢
  refine ⟨_, rfl, N, p, 1, ws, exc, rfl, s11.tup (k10.tup hP), (hF.keeps k10).keeps s11.keeps, hd, hz, fun H12 D3 us s12' nD3 eD3 hu => ?_⟩
  have hul := hu.len
  rw [RF.pre_len] at hul
  refine ⟨D3, rfl, ⟨_, sqL_of eD3⟩, fun D4 nD4 => lc_it walk_list (fun i H' => Same H12 H' ∧ H' D4 = some (.lst (((exc.pre 1).take i).map fun q => V.str q.1.nm))) ⟨(Same.refl H12).put nD4, upd_same⟩ (fun _ _ _ h => sqL_of (h.1 _ _ eD3)) ?_ ?_⟩
  · rintro i y H13 H14 hi ⟨s, e⟩ ⟨rfl, hy⟩
    obtain ⟨⟨n, k⟩, hq, t, o, rfl, ht, hN⟩ := hu.get hy
    obtain ⟨dx', c', p', l', ws', ho, _⟩ := hN
    have ho := s _ _ ho
    have ht := s _ _ ht
    refine ⟨t, [.ref o, .int (k : Nat)], rfl, sqT_of ht, rfl, _, _, rfl, _, _, rfl, rfl, rfl, yes_ ⟨_, rfl, o, dx', _, rfl, ho, o, dx', _, _, rfl, ho, rfl, grow (acc := fun i => ((exc.pre 1).take i).map fun q => V.str q.1.nm) nD4 s e ?_ ?_⟩⟩
    · rw [List.length_map, List.length_take, RF.pre_len]
      exact small1000 (by omega)
    · show List.map _ _ = _
      rw [take_more hq, List.map_append]
      rfl
  rintro H13 ⟨s13, e13⟩
  rw [hu.len, List.take_length] at e13
  have e13 : H13 D4 = some (.lst (exc.names.map V.str)) := by rw [e13, ← RF.pre_names exc 1, List.map_map]; rfl
  have s1013 := (s11.trans s12').trans s13
  refine ⟨l1, D4, _, _, rfl, rfl, s13 _ _ (s12' _ _ e11), e13, ?_, fun l2' nl2' => ?_⟩
  · rw [List.length_map, ← RF.pre_names exc 1, List.length_map, RF.pre_len]
    exact big (by show 1 + _ ≤ _; omega)
  have s14 : Same H13 (upd H13 l2' (.lst ([V.str nm] ++ exc.names.map V.str))) := (Same.refl H13).put nl2'
  have e14 : (upd H13 l2' (.lst ([V.str nm] ++ exc.names.map V.str))) l2' = some (.lst ((nm :: exc.names).map V.str)) := upd_same
  generalize upd H13 l2' (.lst ([V.str nm] ++ exc.names.map V.str)) = H14 at s14 e14 ⊢
  have s1014 := s1013.trans s14
  have hx14 := s1014 _ _ hx10
  have ne : l2' ≠ x := fun z => by rw [z, hx14] at e14; cases e14
  refine ⟨_, rfl, x, R, dx, _, rfl, hx14, T, n6, Nat.lt_of_le_of_lt (putF_le (putF_le (putF_le (putF_le (putF_le (Nat.zero_le 0)))))) (by decide), ?_⟩
  exact q _ l2' (sx10.same s1014).put upd_same ne (sx10.free ne (s1013.free nl2')) (by rw [upd_ne ne]; exact e14)
end
end Sc
namespace Sc
open PySem PySem.Spec PyProof.Rows L2
theorem sc_check_rules : FnScope ["facts", "rules", "names", "outermost", "index", "rule", "around", "name"] ["facts", "rules"] (defScope s_check_rules) := ⟨rfl, rfl, rfl, by decide +kernel, rfl, by decide +kernel, by decide +kernel⟩
/-- the word for a rule of a book that is wrong: met the names ahead of it, out how many are outermost -/
def faultAt (facts met : List Str) (out i : Nat) (n : Nd) (k : Nat) : Option Str :=
  if n.nm ∈ met then some "name" else if ((srt (n.hs ++ n.fs)).any fun x => !decide (x ∈ facts)) = true then some "condition" else if 5 < k then some "depth" else if i = 60 ∨ 40 < out then some "many" else none
def outNext (out k : Nat) : Nat := if k = 0 then out + 1 else out
def firstFault (facts : List Str) : List (Nd × Nat) → List Str → Nat → Nat → Option (Str × Nat)
  | [], _, _, _ => none
  | (n, k) :: r, met, out, i => match faultAt facts met (outNext out k) i n k with
    | some w => some (w, i)
    | none => firstFault facts r (met ++ [n.nm]) (outNext out k) (i + 1)
/-- the error that tells a word and an index -/
def errWI (C : Addr) (w : Str) (i : Int) (H : Hp) (E : XK) : Prop := ∀ H' d, Same H H' → H' d = none → E (.ref C) (some d) (upd H' d (.xd [(("index" : Str), .int i), (("word" : Str), .str w)]))
/-- parts that are no longer than those of a condition -/
def RF.Fit (f : RF) : Prop := ∀ q ∈ f.pre 0, q.1.hs.length + q.1.fs.length ≤ 100
section
variable {P : Program} {w : World} {K : PySem.W.Frag} {mg : Str → Option Value} {base : Heap} {C R CB : Addr}
theorem set_same' {σ : L2.St} {i : Nat} {v : Option V} (h : σ[i]? = some v) : σ.set i v = σ := by
  apply List.ext_getElem?
  intro j
  rw [List.getElem?_set]
  split
  · rename_i e
    subst e
    split
    · exact h.symm
    · rename_i c
      rw [List.getElem?_eq_none (by omega)] at h
      cases h
  · rfl
/-- if around == 0: outermost = outermost + 1 -/
def tOut (i j : Nat) : TS := fun D σ H => ∃ (out k : Nat), σ[i]? = some (some (.int (out : Nat))) ∧ σ[j]? = some (some (.int (k : Nat))) ∧ D.nx (σ.set i (some (.int (outNext out k : Nat)))) H
def sp_check_rules (K : PySem.W.Frag) (C R CB : Addr) : Sp := fun vs H Q E => ∃ (N : Addr → Prop) (a p : Addr) (xs : List Str) (ws : List V) (f : RF), vs = [.ref a, .ref p] ∧ SqT K H a (xs.map V.str) ∧ SqT K H p ws ∧ ForAt K C R N H f ws ∧ f.dep ≤ 12 ∧ f.size ≤ 900 ∧ f.Fit ∧
  (firstFault xs (f.pre 0) [] 0 0 = none → ∀ H', Same H H' → Q .non H') ∧ (∀ wd i, firstFault xs (f.pre 0) [] 0 0 = some (wd, i) → wd.length ≤ 1000 → errWI CB wd i H E)
theorem drop_at {α : Type} {l : List α} {i : Nat} {x : α} (h : l[i]? = some x) : l.drop i = x :: l.drop (i + 1) := by
  have hi : i < l.length := by
    by_cases c : i < l.length
    · exact c
    · rw [List.getElem?_eq_none (by omega)] at h; cases h
  rw [List.drop_eq_getElem_cons hi]
  rw [List.getElem?_eq_getElem hi] at h
  rw [Option.some.inj h]
theorem ok_check_rules {f : Addr} {fd : FuncData} {t1 t2 t3 : Tok} (F : Fun K "check_rules" "check_rules" s_check_rules f fd) (B : Blt mg) (kR : RuleX P w K mg base R) (kK : CondG P w K mg base C) (m_MOST_AROUND : mg "MOST_AROUND" = some (.int 5 t1)) (m_MOST_RULES : mg "MOST_RULES" = some (.int 60 t2)) (m_MOST_OUTERMOST : mg "MOST_OUTERMOST" = some (.int 40 t3))
    (e_InvalidBook : ErrMk P w K mg base "InvalidBook" CB ["self", "word", "index"] (sp_init2 CB "word" "index")) (c_nested : Cal P w K mg base CX0 15 "nested" ["rules", "around"] (sp_nested K C R 12)) :
    FnOk P w K mg base (L2.CX P w) 16 f fd ["facts", "rules"] (sp_check_rules K C R CB) := by
  refine F.okX sc_check_rules (fun vs H Q E h => by obtain ⟨N, a, p, xs, ws, f, rfl, _⟩ := h; rfl) (fun cdv A outer s H vs Q E hr h => ?_)
  obtain ⟨N, a, p, xs, ws, f, rfl, hA, hP, hF, hd, hz, hfit, q, er⟩ := h
  refine ⟨_, (pss_cons (ps_set (i := 2) sc_check_rules.nd rfl (Or.inl rfl) (pe_lst pa_nil))
      (pss_cons (ps_set (i := 3) sc_check_rules.nd rfl (Or.inl rfl) pe_int)
      (pss_one (ps_for (passes_of rfl) rfl (pi_enum (by rfl) B.b_enumerate (pa_cons (pe_cal c_nested (hr.mono (by decide)) (pa_cons (pv 1) (pa_cons pe_int pa_nil))) pa_nil)) (pg_tup (by rfl) (pgs_cons (pg_name (i := 4) sc_check_rules.nd rfl (Or.inl rfl)) (pgs_cons (pg_tup (by rfl) (pgs_cons (pg_name (i := 5) sc_check_rules.nd rfl (Or.inl rfl)) (pgs_cons (pg_name (i := 6) sc_check_rules.nd rfl (Or.inl rfl)) pgs_nil))) pgs_nil))) (pss_cons (wk_ps (tOut 3 6) (ps_if (pt_cmpR op_eq (pv 6) pe_int (nomark _)) (pss_one (ps_set (i := 3) sc_check_rules.nd rfl (Or.inl rfl) (pe_op op_add (pv 3) pe_int))) pss_nil) ?wo)
      (pss_cons (ps_if (pt_cmpR op_in_seq (pe_cprop kR.name kR.cls (hr.mono (by decide)) (pv 5)) (pv 2) rfl) (pss_one (ps_raise rfl (takes_of rfl rfl rfl rfl) (pmk_err2 e_InvalidBook (hr.mono (by decide)) pe_str (pv 4)))) pss_nil)
      (pss_cons (ps_if (pt_val (pe_callB (cr_any rfl) (by rfl) B.b_any (by decide +kernel) (pa_cons (pe_lc (own := [("name", 7)]) (g := gName 7) (tt := tYes) rfl sc_check_rules.nd (pi_tup (pe_cprop kK.names kK.cls (hr.mono (by decide)) (pe_cprop kR.condition kR.cls (hr.mono (by decide)) (pv 5)))) (blkOk_by (own := [("name", 7)]) (N := ["facts", "rules", "names", "outermost", "index", "rule", "around", "name"]) (sc := defScope s_check_rules) (by decide +kernel)) (fun _ _ _ _ _ => (pg_name (i := 7) sc_check_rules.nd rfl (Or.inl rfl))) (fun _ _ _ _ _ => pts_nil) (fun _ _ _ _ _ => (pe_.re (pe_cmpR op_notIn_seq (pv 7) (pv 0) rfl) (by first | (dsimp only [Cx.blk]; done) | exact rfl)))) pa_nil))) (pss_one (ps_raise rfl (takes_of rfl rfl rfl rfl) (pmk_err2 e_InvalidBook (hr.mono (by decide)) pe_str (pv 4)))) pss_nil)
      (pss_cons (ps_if (pt_cmpR op_gt (pv 6) (pe_glob (v := .int 5) rfl m_MOST_AROUND ⟨_, rfl⟩) (nomark _)) (pss_one (ps_raise rfl (takes_of rfl rfl rfl rfl) (pmk_err2 e_InvalidBook (hr.mono (by decide)) pe_str (pv 4)))) pss_nil)
      (pss_cons (ps_if (PW.pt (pw_or (pt_cmpR op_eq (pv 4) (pe_glob (v := .int 60) rfl m_MOST_RULES ⟨_, rfl⟩) (nomark _)) (pw_or1 (pt_cmpR op_gt (pv 3) (pe_glob (v := .int 40) rfl m_MOST_OUTERMOST ⟨_, rfl⟩) (nomark _))))) (pss_one (ps_raise rfl (takes_of rfl rfl rfl rfl) (pmk_err2 e_InvalidBook (hr.mono (by decide)) pe_str (pv 4)))) pss_nil)
      (pss_one (ps_expr (pe_bm PySem.F.plainAttrs_list PySem.F.slot_list_append PySem.F.type_list_append mt_append (pv 2) (pa_cons (pe_cprop kR.name kR.cls (hr.mono (by decide)) (pv 5)) pa_nil))))))))))))), ?_⟩
  case wo =>
    rintro D σ H1 ⟨out, k, h3, h6, q⟩
    refine ⟨_, h6, rfl, _, rfl, bcase (fun c => ?_) (fun c => ?_)⟩
    · have c : k = 0 := by have := V.int.inj (of_decide_eq_true c); omega
      subst c
      exact ⟨_, h3, out, 1, rfl, rfl, q⟩
    · have c : k ≠ 0 := fun z => by subst z; exact Bool.noConfusion (c.symm.trans (decide_eq_true rfl))
      unfold outNext at q
      rw [if_neg c, set_same' h3] at q
      exact q
  refine ⟨Nat.zero_le _, fun NL nNL => ?_⟩
  have s0 : Same H (upd H NL (.lst [])) := (Same.refl H).put nNL
  have e0 : (upd H NL (.lst [])) NL = some (.lst ([].map V.str)) := upd_same
  generalize upd H NL (.lst []) = H0 at s0 e0 ⊢
  refine ⟨_, rfl, Used N H, p, 0, ws, f, rfl, s0.tup hP, hF.used.keeps s0.keeps, hd, hz, fun H1 D us s1 nD e1 hu1 => ?_⟩
  have hul := hu1.len
  rw [RF.pre_len] at hul
  refine ⟨D, _, rfl, sqL_of e1, for_it walk_enum (fun i σ H' => ∃ (met : List Str) (out : Nat) (y4 y5 y6 y7 : Option V), σ = [some (.ref a), some (.ref p), some (.ref NL), some (.int (out : Nat)), y4, y5, y6, y7] ∧ Same H H' ∧ H' D = some (.lst us) ∧ PreAt K C R (Used N H) H' us (f.pre 0) ∧ H' NL = some (.lst (met.map V.str)) ∧ met.length = i ∧
      firstFault xs (f.pre 0) [] 0 0 = firstFault xs ((f.pre 0).drop i) met out i)
    ⟨[], 0, none, none, none, none, rfl, s0.trans s1, e1, hu1, s1 _ _ e0, rfl, rfl⟩ (fun _ _ _ _ ⟨_, _, _, _, _, _, _, _, e, _⟩ => sqL_of e) ?_ ?_⟩
  · rintro i x σ H2 H3 hi ⟨met, out, y4, y5, y6, y7, rfl, s, eD, hu, eN, hm, hff⟩ ⟨T, v1, v2, rfl, nT, rfl, h1, h2⟩
    obtain rfl : V.int (i : Nat) = v1 := Option.some.inj h1
    obtain ⟨⟨n, k⟩, hq, t, o, rfl, ht, hN⟩ := hu.get h2
    have hfitq := hfit _ (List.mem_of_getElem? hq)
    rw [drop_at hq] at hff
    dsimp only at ht hN hfitq
    have s23 : Same H2 (upd H2 T (.tup [.int (i : Nat), .ref t])) := (Same.refl H2).put nT
    have s3 := s.trans s23
    have eD3 := s23 _ _ eD
    have eN3 := s23 _ _ eN
    have ht3 := s23 _ _ ht
    have hN3 := hN.keeps s23.keeps
    have hu3 := hu.keeps s23.keeps
    have eT3 : (upd H2 T (.tup [.int (i : Nat), .ref t])) T = some (.tup [.int (i : Nat), .ref t]) := upd_same
    clear s23
    generalize upd H2 T (.tup [.int (i : Nat), .ref t]) = H3 at s3 eD3 eN3 ht3 hN3 hu3 eT3 ⊢
    refine ⟨T, [.int (i : Nat), .ref t], rfl, sqT_of eT3, rfl, _, _, rfl, _, _, rfl, t, [.ref o, .int (k : Nat)], rfl, sqT_of ht3, rfl, _, _, rfl, _, _, rfl, rfl, rfl, ?_⟩
    refine ⟨out, k, rfl, rfl, ?_⟩
    obtain ⟨dx, c, pe, l, ws', ho, hc, hpe, hl, hfe⟩ := hN3
    have hi9 : i ≤ 1000 := by omega
    have fkw : ∀ wd : Str, wd.length ≤ 1000 → FOk (.str wd) ∧ FOk (.int (i : Nat)) := fun wd h => ⟨Nat.le_trans h (by decide), fok_nat hi9⟩
    have rz : ∀ {wd : Str} {H' : Hp}, faultAt xs met (outNext out k) i n k = some wd → wd.length ≤ 1000 → Same H H' → ∀ d, H' d = none → E (.ref CB) (some d) (upd H' d (.xd [(("index" : Str), .int (i : Nat)), (("word" : Str), .str wd)])) := fun {wd H'} hf hw sH d nd => er wd i (by rw [hff]; unfold firstFault; rw [hf]) hw H' d sH nd
    refine ⟨_, rfl, o, dx, _, rfl, ho, o, dx, _, _, rfl, ho, rfl, _, rfl, NL, _, rfl, .inl (sqL_of eN3), rfl, flat_strs met, _, rfl, bcase (fun c1 => ?_) (fun c1 => ?_)⟩
    · have c1 : decide (n.nm ∈ met) = true := by rw [← inV_str]; exact c1
      exact ⟨_, rfl, fkw "name" (by decide), rz (by unfold faultAt; rw [if_pos (of_decide_eq_true c1)]) (by decide) s3⟩
    have c1 : decide (n.nm ∈ met) = false := by rw [← inV_str]; exact c1
    have f1 : faultAt xs met (outNext out k) i n k = if ((srt (n.hs ++ n.fs)).any fun x => !decide (x ∈ xs)) = true then some (Str.ofString "condition") else if 5 < k then some (Str.ofString "depth") else if i = 60 ∨ 40 < outNext out k then some (Str.ofString "many") else none := by
      unfold faultAt
      rw [if_neg (of_decide_eq_false c1)]
    obtain ⟨dxc, ca, cb, cn, zs, hco, hca, hcb, hcn, hzs⟩ := hc.at_
    have hzl : zs.length ≤ 100 := by
      rw [hzs, (srt_perm _).length_eq, List.length_append]
      exact hfitq
    refine ⟨_, rfl, o, dx, _, rfl, ho, o, dx, _, _, rfl, ho, rfl, c, dxc, _, rfl, hco, c, dxc, _, _, rfl, hco, rfl, cn, rfl, ⟨_, sqT_of hcn⟩, fun D2 nD2 => lc_it walk_tup (fun j H' => Same H3 H' ∧ H' D2 = some (.lst ((zs.take j).map fun x => V.bl (!decide (x ∈ xs))))) ⟨(Same.refl H3).put nD2, upd_same⟩ (fun _ _ _ h => h.1.tup (sqT_of hcn)) ?_ ?_⟩
    · rintro j y H4 H5 hj ⟨s4, e4⟩ ⟨rfl, hy⟩
      rw [List.length_map] at hj
      have hx : zs[j]? = some zs[j] := List.getElem?_eq_getElem hj
      obtain rfl : V.str zs[j] = y := strAt_inj hx hy
      refine ⟨rfl, yes_ ⟨_, rfl, _, rfl, a, _, rfl, .inr ((s3.trans s4).tup hA), rfl, flat_strs _, grow (acc := fun j => (zs.take j).map fun x => V.bl (!decide (x ∈ xs))) nD2 s4 e4 ?_ ?_⟩⟩
      · rw [List.length_map, List.length_take]
        exact small1000 (by omega)
      · show List.map _ _ = _
        rw [take_more hx, List.map_append]
        simp only [List.map_cons, List.map_nil, inV_str]
        rfl
    rintro H4 ⟨s4, e4⟩
    rw [List.length_map, List.take_length] at e4
    refine ⟨D2, zs.map fun x => !decide (x ∈ xs), rfl, sqL_of (by rw [e4, List.map_map]; rfl), ?_⟩
    have em : (zs.map fun x => !decide (x ∈ xs)).any id = (srt (n.hs ++ n.fs)).any fun x => !decide (x ∈ xs) := by
      rw [List.any_map, hzs]
      rfl
    rw [em]
    have s5 := s3.trans s4
    refine ⟨_, rfl, bcase (fun c2 => ?_) (fun c2 => ?_)⟩
    · exact ⟨_, rfl, fkw "condition" (by decide), rz (by rw [f1, if_pos c2]) (by decide) s5⟩
    have f2 : faultAt xs met (outNext out k) i n k = if 5 < k then some (Str.ofString "depth") else if i = 60 ∨ 40 < outNext out k then some (Str.ofString "many") else none := by
      rw [f1, if_neg (by rw [c2]; exact Bool.false_ne_true)]
    refine ⟨_, rfl, k, 5, rfl, rfl, _, rfl, bcase (fun c3 => ?_) (fun c3 => ?_)⟩
    · have c3 : 5 < k := by have := of_decide_eq_true c3; omega
      exact ⟨_, rfl, fkw "depth" (by decide), rz (by rw [f2, if_pos c3]) (by decide) s5⟩
    have c3 : ¬ 5 < k := by have := of_decide_eq_false c3; omega
    rw [if_neg c3] at f2
    refine ⟨_, rfl, rfl, _, rfl, bcase (fun c4 => ?_) (fun c4 => ?_)⟩
    · have e60 : i = 60 := by have := V.int.inj (of_decide_eq_true c4); omega
      exact iteT ⟨_, rfl, fkw "many" (by decide), rz (by rw [f2, if_pos (.inl e60)]) (by decide) s5⟩
    have n60 : i ≠ 60 := fun z => by subst z; exact Bool.noConfusion (c4.symm.trans (decide_eq_true rfl))
    refine ⟨_, rfl, outNext out k, 40, rfl, rfl, _, rfl, bcase (fun c5 => ?_) (fun c5 => ?_)⟩
    · have c5 : 40 < outNext out k := by have := of_decide_eq_true c5; omega
      exact ⟨_, rfl, fkw "many" (by decide), rz (by rw [f2, if_pos (.inr c5)]) (by decide) s5⟩
    have c5 : ¬ 40 < outNext out k := by have := of_decide_eq_false c5; omega
    rw [if_neg (fun z => z.elim n60 c5)] at f2
    have eN5 := s4 _ _ eN3
    have ho5 := s4 _ _ ho
    refine ⟨_, rfl, .inl ⟨rfl, _, sqL_of eN5⟩, _, rfl, o, dx, _, rfl, ho5, o, dx, _, _, rfl, ho5, rfl, NL, _, _, rfl, rfl, eN5, ?_, ?_⟩
    · rw [List.length_map]
      exact small1000 (by omega)
    have nDL : D ≠ NL := fun z => by rw [z, e0] at nD; cases nD
    refine ⟨met ++ [n.nm], outNext out k, _, _, _, _, rfl, s5.put nNL, by rw [upd_ne nDL]; exact s4 _ _ eD3, (hu3.keeps s4.keeps).keeps (keeps_own eN5 (used_not nNL)), by rw [upd_same, List.map_append]; rfl, by rw [List.length_append, List.length_singleton, hm], ?_⟩
    rw [hff]
    show (match faultAt xs met (outNext out k) i n k with | some w => some (w, i) | none => _) = _
    rw [f2]
  · rintro σ H2 ⟨met, out, y4, y5, y6, y7, rfl, s, eD, hu, eN, hm, hff⟩
    have hl : us.length = (f.pre 0).length := hu1.len
    rw [hl, List.drop_length] at hff
    exact q hff H2 s
end
end Sc
namespace Sc
open PySem PySem.Spec PyProof.Rows L2
/-! ### an object Book -/
theorem sc_Book___init__ : FnScope ["self", "facts", "rules", "ruling", "rule", "_"] ["self", "facts", "rules", "ruling"] (defScope s_Book___init__) := ⟨rfl, rfl, rfl, by decide +kernel, rfl, by decide +kernel, by decide +kernel⟩
theorem sc_Book_facts : FnScope ["self"] ["self"] (defScope s_Book_facts) := ⟨rfl, rfl, rfl, by decide +kernel, rfl, by decide +kernel, by decide +kernel⟩
theorem sc_Book_rules : FnScope ["self"] ["self"] (defScope s_Book_rules) := ⟨rfl, rfl, rfl, by decide +kernel, rfl, by decide +kernel, by decide +kernel⟩
theorem sc_Book_ruling : FnScope ["self"] ["self"] (defScope s_Book_ruling) := ⟨rfl, rfl, rfl, by decide +kernel, rfl, by decide +kernel, by decide +kernel⟩
section
variable {P : Program} {w : World} {K : PySem.W.Frag} {mg : Str → Option Value} {base : Heap} {C R B CF CB : Addr}
theorem ok_Book_facts {f : Addr} {fd : FuncData} (F : Fun K "facts" "Book.facts" s_Book_facts f fd) (T : Cls K B) (n : NoAttr K B "_facts") : FnOk P w K mg base CX0 1 f fd ["self"] (sp_prop B "_facts") := by
  refine F.ok sc_Book_facts (fun vs H Q E h => by obtain ⟨x, dx, fs, v, rfl, _⟩ := h; rfl) (fun cdv A outer s H vs Q E hr h => ?_)
  obtain ⟨x, dx, fs, v, rfl, hx, hl, q⟩ := h
  exact ⟨_, (pss_one (ps_ret (pe_fld (pv 0) rfl))), ⟨_, rfl, x, B, dx, fs, v, rfl, hx, T, n, hl, q⟩⟩
theorem ok_Book_rules {f : Addr} {fd : FuncData} (F : Fun K "rules" "Book.rules" s_Book_rules f fd) (T : Cls K B) (n : NoAttr K B "_rules") : FnOk P w K mg base CX0 1 f fd ["self"] (sp_prop B "_rules") := by
  refine F.ok sc_Book_rules (fun vs H Q E h => by obtain ⟨x, dx, fs, v, rfl, _⟩ := h; rfl) (fun cdv A outer s H vs Q E hr h => ?_)
  obtain ⟨x, dx, fs, v, rfl, hx, hl, q⟩ := h
  exact ⟨_, (pss_one (ps_ret (pe_fld (pv 0) rfl))), ⟨_, rfl, x, B, dx, fs, v, rfl, hx, T, n, hl, q⟩⟩
theorem ok_Book_ruling {f : Addr} {fd : FuncData} (F : Fun K "ruling" "Book.ruling" s_Book_ruling f fd) (T : Cls K B) (n : NoAttr K B "_ruling") : FnOk P w K mg base CX0 1 f fd ["self"] (sp_prop B "_ruling") := by
  refine F.ok sc_Book_ruling (fun vs H Q E h => by obtain ⟨x, dx, fs, v, rfl, _⟩ := h; rfl) (fun cdv A outer s H vs Q E hr h => ?_)
  obtain ⟨x, dx, fs, v, rfl, hx, hl, q⟩ := h
  exact ⟨_, (pss_one (ps_ret (pe_fld (pv 0) rfl))), ⟨_, rfl, x, B, dx, fs, v, rfl, hx, T, n, hl, q⟩⟩
/-- the fields of a book -/
def bookF (a p : Addr) (rl : Str) (l : Addr) : List (Str × V) := putF "_numbered" (.ref l) (putF "_ruling" (.str rl) (putF "_rules" (.ref p) (putF "_facts" (.ref a) [])))
def BookAt (K : PySem.W.Frag) (C R B : Addr) (N : Addr → Prop) (H : Hp) (o : Addr) (xs : List Str) (f : RF) (rl : Str) : Prop := ∃ (dx a p l : Addr) (ws us : List V), H o = some (.ins B dx (bookF a p rl l)) ∧ SqT K H a (xs.map V.str) ∧ SqT K H p ws ∧ ForAt K C R N H f ws ∧ (N l ∧ H l = some (.lst us)) ∧ All2 (RefAt K C R N H) us ((f.pre 0).map fun q => q.1)
theorem BookAt.keeps {N : Addr → Prop} {H H' : Hp} {o : Addr} {xs : List Str} {f : RF} {rl : Str} (h : BookAt K C R B N H o xs f rl) (k : Keeps N H H') : BookAt K C R B N H' o xs f rl := by
  obtain ⟨dx, a, p, l, ws, us, h1, h2, h3, h4, ⟨h5, h6⟩, h7⟩ := h
  exact ⟨dx, a, p, l, ws, us, k _ _ stays_ins h1, k.tup h2, k.tup h3, h4.keeps k, ⟨h5, k _ _ (stays_lst h5) h6⟩, h7.mono fun _ _ x => x.keeps k⟩
def sp_book_init (K : PySem.W.Frag) (C R B CF CB : Addr) : Sp := fun vs H Q E => ∃ (N : Addr → Prop) (x dx a p : Addr) (xs : List Str) (rl : Str) (ws : List V) (f : RF), vs = [.ref x, .ref a, .ref p, .str rl] ∧ H x = some (.ins B dx []) ∧ SqT K H a (xs.map V.str) ∧ Txts xs ∧ xs.length ≤ 1000 ∧ SqT K H p ws ∧ ForAt K C R N H f ws ∧ f.dep ≤ 12 ∧ f.size ≤ 900 ∧ f.Fit ∧ rl.length ≤ 1000 ∧
  (∀ i, firstBad xs = some i → errIx CF i H E) ∧ (firstBad xs = none → (∀ wd i, firstFault xs (f.pre 0) [] 0 0 = some (wd, i) → wd.length ≤ 1000 → errWI CB wd (i : Nat) H E) ∧ (firstFault xs (f.pre 0) [] 0 0 = none →
    (isName rl = false → errWI CB "ruling" (-1) H E) ∧ (isName rl = true → ∀ H' l us, SameX x H H' → H' x = some (.ins B dx (bookF a p rl l)) → l ≠ x → H l = none → H' l = some (.lst us) → All2 (RefAt K C R N H') us ((f.pre 0).map fun q => q.1) → Q .non H')))
theorem ok_book_init {f : Addr} {fd : FuncData} (F : Fun K "__init__" "Book.__init__" s_Book___init__ f fd) (Bl : Blt mg) (T : Cls K B) (n1 : NoAttr K B "_facts") (n2 : NoAttr K B "_rules") (n3 : NoAttr K B "_ruling") (n4 : NoAttr K B "_numbered")
    (e_InvalidBook : ErrMk P w K mg base "InvalidBook" CB ["self", "word", "index"] (sp_init2 CB "word" "index")) (c_is_name : Cal P w K mg base CX0 1 "is_name" ["value"] sp_is_name) (c_nested : Cal P w K mg base CX0 15 "nested" ["rules", "around"] (sp_nested K C R 12))
    (c_check_facts : Cal P w K mg base (L2.CX P w) 3 "check_facts" ["facts"] (sp_check_facts K CF)) (c_check_rules : Cal P w K mg base (L2.CX P w) 16 "check_rules" ["facts", "rules"] (sp_check_rules K C R CB)) :
    FnOk P w K mg base (L2.CX P w) 17 f fd ["self", "facts", "rules", "ruling"] (sp_book_init K C R B CF CB) := by
  refine F.okX sc_Book___init__ (fun vs H Q E h => by obtain ⟨N, x, dx, a, p, xs, rl, ws, f, rfl, _⟩ := h; rfl) (fun cdv A outer s H vs Q E hr h => ?_)
  obtain ⟨N, x, dx, a, p, xs, rl, ws, f, rfl, hx, hA, tA, lA, hP, hF, hd, hz, hfit, lr, e1, q⟩ := h
  refine ⟨_, (pss_cons (ps_expr (pe_calX c_check_facts (hr.mono (by decide)) (takes_of rfl rfl rfl rfl) (pa_cons (pv 1) pa_nil)))
      (pss_cons (ps_expr (pe_calX c_check_rules (hr.mono (by decide)) (takes_of rfl rfl rfl rfl) (pa_cons (pv 1) (pa_cons (pv 2) pa_nil))))
      (pss_cons (ps_if (pt_not (pt_val (pe_cal c_is_name (hr.mono (by decide)) (pa_cons (pv 3) pa_nil)))) (pss_one (ps_raise rfl (takes_of rfl rfl rfl rfl) (pmk_err2 e_InvalidBook (hr.mono (by decide)) pe_str (pe_un un_neg pe_int)))) pss_nil)
      (pss_cons (ps_fld (pv 0) (pv 1) rfl)
      (pss_cons (ps_fld (pv 0) (pv 2) rfl)
      (pss_cons (ps_fld (pv 0) (pv 3) rfl)
      (pss_one (ps_fld (pv 0) (pe_lc (own := [("rule", 4), ("_", 5)]) (g := gTup K 2 (gCons (gName 4) (gCons (gName 5) gNil))) (tt := tYes) rfl sc_Book___init__.nd (pi_list (pe_cal c_nested (hr.mono (by decide)) (pa_cons (pv 2) (pa_cons pe_int pa_nil)))) (blkOk_by (own := [("rule", 4), ("_", 5)]) (N := ["self", "facts", "rules", "ruling", "rule", "_"]) (sc := defScope s_Book___init__) (by decide +kernel)) (fun _ _ _ _ _ => (pg_tup (by rfl) (pgs_cons (pg_name (i := 4) sc_Book___init__.nd rfl (Or.inl rfl)) (pgs_cons (pg_name (i := 5) sc_Book___init__.nd rfl (Or.inl rfl)) pgs_nil)))) (fun _ _ _ _ _ => pts_nil) (fun _ _ _ _ _ => (pe_.re (pv 4) (by first | (dsimp only [Cx.blk]; done) | exact rfl)))) rfl)))))))), ?_⟩
  have big : ∀ {m : Nat}, m ≤ 1000 → m ≤ sizeLine := fun {m} h => by rw [sizeLine_eq]; omega
  refine ⟨_, rfl, a, xs, rfl, hA, tA, lA, fun z1 H1 s1 => ?_, e1⟩
  obtain ⟨e2, q⟩ := q z1
  refine ⟨_, rfl, _, rfl, N, a, p, xs, ws, f, rfl, s1.tup hA, s1.tup hP, hF.keeps s1.keeps, hd, hz, hfit, fun z2 H2 s2 => ?_, fun wd i ei hw H' d sH nd => e2 wd i ei hw H' d (s1.trans sH) nd⟩
  obtain ⟨e3, q⟩ := q z2
  have s12 := s1.trans s2
  refine ⟨_, rfl, rl, rfl, big lr, fun H3 s3 => ⟨_, rfl, bcase (fun c1 => ?_) (fun c1 => ?_)⟩⟩
  · exact ⟨1, rfl, ⟨Nat.le_trans (show (Str.ofString "ruling").length ≤ 1000 by decide) (by decide), (show (-1 : Int).natAbs.log2 < 1920 by decide)⟩, fun d nd => e3 ((Bool.not_eq_true' _).mp c1) H3 d (s12.trans s3) nd⟩
  have q := q ((Bool.not_eq_false' _).mp c1)
  have s13 := s12.trans s3
  have hx3 := s13 _ _ hx
  refine ⟨_, rfl, _, rfl, x, B, dx, _, rfl, hx3, T, n1, by decide, ?_⟩
  refine ⟨_, rfl, _, rfl, x, B, dx, _, rfl, upd_same, T, n2, Nat.lt_of_le_of_lt (putF_le (Nat.zero_le 0)) (by decide), ?_⟩
  refine ⟨_, rfl, _, rfl, x, B, dx, _, rfl, upd_same, T, n3, Nat.lt_of_le_of_lt (putF_le (putF_le (Nat.zero_le 0))) (by decide), ?_⟩
  have sx : SameX x H (upd (upd (upd H3 x (.ins B dx (putF "_facts" (.ref a) []))) x (.ins B dx (putF "_rules" (.ref p) (putF "_facts" (.ref a) [])))) x (.ins B dx (putF "_ruling" (.str rl) (putF "_rules" (.ref p) (putF "_facts" (.ref a) []))))) := (((SameX.of s13).put).put).put
  have hx6 : (upd (upd (upd H3 x (.ins B dx (putF "_facts" (.ref a) []))) x (.ins B dx (putF "_rules" (.ref p) (putF "_facts" (.ref a) [])))) x (.ins B dx (putF "_ruling" (.str rl) (putF "_rules" (.ref p) (putF "_facts" (.ref a) []))))) x = some (.ins B dx (putF "_ruling" (.str rl) (putF "_rules" (.ref p) (putF "_facts" (.ref a) [])))) := upd_same
  generalize upd (upd (upd H3 x (.ins B dx (putF "_facts" (.ref a) []))) x (.ins B dx (putF "_rules" (.ref p) (putF "_facts" (.ref a) [])))) x (.ins B dx (putF "_ruling" (.str rl) (putF "_rules" (.ref p) (putF "_facts" (.ref a) [])))) = H6 at sx hx6 ⊢
  have k6 : Keeps N H H6 := sx.keeps hx
  refine ⟨_, rfl, N, p, 0, ws, f, rfl, k6.tup hP, hF.keeps k6, hd, hz, fun H7 D us s7 nD eD hu => ?_⟩
  have hul := hu.len
  rw [RF.pre_len] at hul
  refine ⟨D, rfl, ⟨_, sqL_of eD⟩, fun D2 nD2 => lc_it walk_list (fun i H' => Same H7 H' ∧ ∃ rs, H' D2 = some (.lst rs) ∧ All2 (RefAt K C R N H7) rs (((f.pre 0).take i).map fun q => q.1)) ⟨(Same.refl H7).put nD2, [], upd_same, .nil⟩ (fun _ _ _ h => sqL_of (h.1 _ _ eD)) ?_ ?_⟩
  · rintro i y H8 H9 hi ⟨s, rs, e, hr2⟩ ⟨rfl, hy⟩
    obtain ⟨⟨n, k⟩, hq, t, o, rfl, ht, hN⟩ := hu.get hy
    have ht := s _ _ ht
    have hrl := hr2.len
    rw [List.length_map, List.length_take, RF.pre_len] at hrl
    refine ⟨t, [.ref o, .int (k : Nat)], rfl, sqT_of ht, rfl, _, _, rfl, _, _, rfl, rfl, rfl, yes_ ⟨_, rfl, rs, e, small1000 (by omega), s.put nD2, _, upd_same, ?_⟩⟩
    rw [take_more hq, List.map_append]
    exact hr2.snoc ⟨o, rfl, hN⟩
  rintro H8 ⟨s8, rs, e8, hr2⟩
  rw [hu.len, List.take_length] at hr2
  have s68 := s7.trans s8
  have hx8 := s68 _ _ hx6
  have ne : D2 ≠ x := fun z => by rw [z, hx8] at e8; cases e8
  refine ⟨_, rfl, x, B, dx, _, rfl, hx8, T, n4, Nat.lt_of_le_of_lt (putF_le (putF_le (putF_le (Nat.zero_le 0)))) (by decide), ?_⟩
  have kk : Keeps N H7 (upd H8 x (.ins B dx (putF "_numbered" (.ref D2) (putF "_ruling" (.str rl) (putF "_rules" (.ref p) (putF "_facts" (.ref a) [])))))) := Keeps.trans s8.keeps (keeps_make hx8)
  exact q _ D2 rs (sx.same s68).put upd_same ne (sx.free ne (s7.free nD2)) (by rw [upd_ne ne]; exact e8) (hr2.mono fun _ _ x => x.keeps kk)
end
end Sc
namespace Sc
open PySem PySem.Spec PyProof.Rows L2
section
variable {X : Cx} {CX : CXT} {k : Nat} {C g : Addr} {fd : FuncData} {ps : List Str} {sp : Sp} {E : XK}
/-- x in o, o of the class at C with its own __contains__ at g -/
def rInO (C : Addr) (sp : Sp) (E : XK) (neg : Bool) : R2 := fun x y H Q => ∃ (a dx : Addr) (fs : List (Str × V)), y = .ref a ∧ H a = some (.ins C dx fs) ∧ sp [y, x] H (fun v H' => ∃ b, v = .bl b ∧ Q (.bl (if neg then !b else b)) H') E
theorem op_inO (hs : PySem.W.findIn X.K (.ref C) "__contains__" = some (some (.ref g))) (hf : PySem.W.isFn X.K (.ref g) = true) (F : FnOk X.prog X.w X.K X.mg X.base CX k g fd ps sp) (hr : Room k X.A) (hb : Binds X.K fd ps []) (hx : Passes CX X E) : OpR X (compareOp .In) (rInO C sp E false) := by
  intro pins s σ H x y v u Q I rx ry h
  obtain ⟨a, dx, fs, rfl, ha, q⟩ := h
  cases (show u = Value.ref a from ry)
  obtain ⟨mA, O, _⟩ := ins_get I.hok ha
  obtain ⟨od, J, _⟩ := O.look
  obtain ⟨m, hF⟩ := I.fr
  refine PySem.W.in_K hF I.ok.mod.kin J hs hf ?_
  refine wpAny_mono (run_fn (us := [.ref a, v]) (vs := [.ref a, x]) (dvs := []) F hr hb .nil hx I (.cons rfl (.cons rx .nil)) q) (fun w s' z => ?_) fun _ _ x => x
  obtain ⟨z', H', I', rz, b, rfl, qz⟩ := z
  cases rz
  exact wpAny_pure ⟨.bl b, H', I', rfl, qz⟩
theorem op_ninO (hs : PySem.W.findIn X.K (.ref C) "__contains__" = some (some (.ref g))) (hf : PySem.W.isFn X.K (.ref g) = true) (F : FnOk X.prog X.w X.K X.mg X.base CX k g fd ps sp) (hr : Room k X.A) (hb : Binds X.K fd ps []) (hx : Passes CX X E) : OpR X (compareOp .NotIn) (rInO C sp E true) := by
  intro pins s σ H x y v u Q I rx ry h
  obtain ⟨a, dx, fs, rfl, ha, q⟩ := h
  cases (show u = Value.ref a from ry)
  obtain ⟨mA, O, _⟩ := ins_get I.hok ha
  obtain ⟨od, J, _⟩ := O.look
  obtain ⟨m, hF⟩ := I.fr
  refine PySem.W.notIn_K hF I.ok.mod.kin J hs hf ?_
  refine wpAny_mono (run_fn (us := [.ref a, v]) (vs := [.ref a, x]) (dvs := []) F hr hb .nil hx I (.cons rfl (.cons rx .nil)) q) (fun w s' z => ?_) fun _ _ x => x
  obtain ⟨z', H', I', rz, b, rfl, qz⟩ := z
  cases rz
  exact wpAny_pure ⟨.bl (!b), H', I', rfl, qz⟩
/-- o[k], o of the class at C with its own __getitem__ at g -/
def rIxO (C : Addr) (sp : Sp) (E : XK) : R2 := fun x y H Q => ∃ (a dx : Addr) (fs : List (Str × V)), x = .ref a ∧ H a = some (.ins C dx fs) ∧ sp [x, y] H Q E
theorem pe_ixO {a b : Expr} {pos : Pos} {ta tb : TE} (hs : PySem.W.findIn X.K (.ref C) "__getitem__" = some (some (.ref g))) (hfn : PySem.W.fnIn X.K g = true) (hf : PySem.W.isFn X.K (.ref g) = true) (F : FnOk X.prog X.w X.K X.mg X.base CX k g fd ps sp) (hr : Room (k + 1) X.A) (hbd : Binds X.K fd ps []) (hx : Passes CX X E)
    (ha : PE X a ta) (hb : PE X b tb) (hsl : ∀ v u, subscripted b true v u = runValue (.builtin "lifetime.subscript" ⟨[v, u], []⟩)) : PE X (.Subscript a b pos) (tOp (rIxO C sp E) ta tb) := by
  refine ⟨fun pins s σ H Q I h => ?_⟩
  refine Subscript_ (binT ha hb I h fun v u s2 x y H2 I2 rx ry q => ?_)
  obtain ⟨o, dx, fs, rfl, ho, q⟩ := q
  cases (show v = Value.ref o from rx)
  obtain ⟨mA, O, _⟩ := ins_get I2.hok ho
  obtain ⟨od, J, _⟩ := O.look
  obtain ⟨m, hF⟩ := I2.fr
  refine PySem.W.sub_K hF I2.ok.mod.kin J hs hfn hf ?_ (hsl _ _)
  have hl : ([Value.ref o, u] ++ ([] : List Value)).length = ps.length := F.len _ _ _ _ q
  refine wpAny_call (codeAny_mono (F.run X.A.in1 X.stack s2 H2 ⟨[.ref o, u], []⟩ [.ref o, u] [.ref o, y] _ _ hr.in1 I2.env0.in1 (hbd s2 [.ref o, u] I2.kIn hl) (.cons rfl (.cons ry .nil)) q) fun r s' hq => ?_)
  cases r with
  | error e => exact hx pins σ H2 s2 e s' I2 hq
  | ok fl =>
    cases fl with
    | ret w =>
      obtain ⟨v, H', I', rv, qz⟩ := I2.after hq
      exact ⟨v, H', I', rv, qz⟩
    | next => exact hq.elim
    | brk => exact hq.elim
    | cont => exact hq.elim
/-- o op x, o of the class at C with its own method, x a text -/
def rBinS (C : Addr) (sp : Sp) (E : XK) : R2 := fun x y H Q => ∃ (a dx : Addr) (fs : List (Str × V)) (z : Str), x = .ref a ∧ y = .str z ∧ H a = some (.ins C dx fs) ∧ sp [x, y] H Q E
theorem op_binS {op : Operator} {fo ro rc : Option Value} (hc : PySem.W.selfFirst X.K C = true) (hs : PySem.W.findIn X.K (.ref C) (PySem.dunder op.info.2) = some (some (.ref g))) (hf : PySem.W.isFn X.K (.ref g) = true)
    (hR : PySem.W.findIn X.K (.ref C) (dunderR op.info.2) = some rc) (hp : rc = none ∨ ∃ g : Addr, rc = some (.ref g)) (h1 : PySem.W.findIn X.K (.type "str") (PySem.dunder op.info.2) = some fo) (h2 : PySem.W.findIn X.K (.type "str") (dunderR op.info.2) = some ro)
    (hsub : PySem.W.subIn X.K (.type "str") (.ref C) = some false) (F : FnOk X.prog X.w X.K X.mg X.base CX k g fd ps sp) (hr : Room k X.A) (hb : Binds X.K fd ps []) (hx : Passes CX X E) : OpR X (binaryOp op) (rBinS C sp E) := by
  intro pins s σ H x y v u Q I rx ry h
  obtain ⟨a, dx, fs, z, rfl, rfl, ha, q⟩ := h
  cases (show v = Value.ref a from rx)
  obtain ⟨t, rfl⟩ := (show ∃ t, u = Value.str z t from ry)
  obtain ⟨mA, O, _⟩ := ins_get I.hok ha
  obtain ⟨od, J, _⟩ := O.look
  obtain ⟨m, hF⟩ := I.fr
  refine PySem.W.ksp_binT (T := "str") hF I.ok.mod.kin J rfl hc hs hf hR hp h1 h2 hsub ?_
  refine wpAny_mono (run_fn (us := [.ref a, .str z t]) (vs := [.ref a, .str z]) (dvs := []) F hr hb .nil hx I (.cons rfl (.cons ⟨t, rfl⟩ .nil)) q) (fun w s' z => ?_) fun _ _ x => x
  obtain ⟨z', H', I', rz, qz⟩ := z
  exact SlX.cmpback rz ⟨z', H', I', rz, qz⟩
end
end Sc
namespace Sc
open PySem PySem.Spec PyProof.Rows L2
/-- a def that keeps two promises keeps either -/
theorem _root_.L2.FnOk.either {P : Program} {w : World} {K : PySem.W.Frag} {mg : Str → Option Value} {base : Heap} {CX : CXT} {k : Nat} {f : Addr} {fd : FuncData} {ps : List Str} {sp sp' : Sp} (F : FnOk P w K mg base CX k f fd ps sp) (G : FnOk P w K mg base CX k f fd ps sp') :
    FnOk P w K mg base CX k f fd ps (fun vs H Q E => sp vs H Q E ∨ sp' vs H Q E) :=
  ⟨fun vs H Q E h => h.elim (F.len vs H Q E) (G.len vs H Q E), fun A outer s H args us vs Q E hr e b v h => h.elim (F.run A outer s H args us vs Q E hr e b v) (G.run A outer s H args us vs Q E hr e b v)⟩
section
variable {X : Cx}
theorem op_or {f : Value → Value → Sem Value} {r r' : R2} (h : OpR X f r) (h' : OpR X f r') : OpR X f (fun x y H Q => r x y H Q ∨ r' x y H Q) :=
  fun pins s σ H x y v u Q I rx ry q => q.elim (h pins s σ H x y v u Q I rx ry) (h' pins s σ H x y v u Q I rx ry)
/-- a tuple in a tuple of texts: no -/
def rInNo (K : PySem.W.Frag) (neg : Bool) : R2 := fun x y H Q => ∃ (a p : Addr) (ys : List V) (xs : List Str), x = .ref a ∧ y = .ref p ∧ SqT K H a ys ∧ SqT K H p (xs.map V.str) ∧ Q (.bl neg) H
theorem any_no : ∀ xs : List Value, xs.any (fun _ => false) = false
  | [] => rfl
  | _ :: r => by rw [List.any_cons, any_no r]; rfl
theorem strs_of : ∀ {xs : List Str} {us : List Value}, Vals (xs.map V.str) us → ∀ w ∈ us, ∃ z t, w = Value.str z t
  | [], _, .nil => fun w hw => by cases hw
  | x :: r, u :: us, .cons h t => fun w hw => by
    obtain ⟨tk, rfl⟩ := (show ∃ tk, u = Value.str x tk from h)
    rcases List.mem_cons.mp hw with rfl | hw
    · exact ⟨_, _, rfl⟩
    · exact strs_of t w hw
theorem op_in_no (hu : X.A.units + 64 < cLine) : OpR X (compareOp .In) (rInNo X.K false) := by
  intro pins s σ H x y v u Q I rx ry h
  obtain ⟨a, p, ys, xs, rfl, rfl, ha, hp, q⟩ := h
  cases rx
  cases ry
  obtain ⟨its, r, pl, hz⟩ := I.tuple hp
  obtain ⟨its2, r2, pl2, _⟩ := I.tuple ha
  refine SeqAt.in_tupleAt (fun _ => false) pl (fun w hw => ?_) ⟨.bl _, H, I, rfl, ?_⟩
  · obtain ⟨z, t, rfl⟩ := strs_of r w (by simpa using hw)
    exact SeqAt.EqAt.str_tuple z t pl2 (by show X.A.units + 1 < cLine; omega)
  · rw [show its.toArray.any (fun _ => false) = its.any (fun _ => false) by simp, any_no]
    exact q
theorem op_nin_no (hu : X.A.units + 64 < cLine) : OpR X (compareOp .NotIn) (rInNo X.K true) := by
  intro pins s σ H x y v u Q I rx ry h
  obtain ⟨a, p, ys, xs, rfl, rfl, ha, hp, q⟩ := h
  cases rx
  cases ry
  obtain ⟨its, r, pl, hz⟩ := I.tuple hp
  obtain ⟨its2, r2, pl2, _⟩ := I.tuple ha
  refine SeqAt.notIn_tupleAt (fun _ => false) pl (fun w hw => ?_) ⟨.bl _, H, I, rfl, ?_⟩
  · obtain ⟨z, t, rfl⟩ := strs_of r w (by simpa using hw)
    exact SeqAt.EqAt.str_tuple z t pl2 (by show X.A.units + 1 < cLine; omega)
  · rw [show its.toArray.any (fun _ => false) = its.any (fun _ => false) by simp, any_no]
    exact q
end
end Sc
namespace Sc
open PySem PySem.Spec PyProof.Rows L2
/-- a method that the class at C has of its own, as the operators find it -/
structure MethO (P : Program) (w : World) (K : PySem.W.Frag) (mg : Str → Option Value) (base : Heap) (CX : CXT) (k : Nat) (C : Addr) (n : Str) (ps : List Str) (sp : Sp) : Prop where
  ex : ∃ (g : Addr) (fd : FuncData), PySem.W.findIn K (.ref C) n = some (some (.ref g)) ∧ PySem.W.isFn K (.ref g) = true ∧ PySem.W.fnIn K g = true ∧ FnOk P w K mg base CX k g fd ps sp ∧ Binds K fd ps []
/-- what an operator against a text asks of the class besides -/
structure BinT (K : PySem.W.Frag) (C : Addr) (op : Operator) : Prop where
  first : PySem.W.selfFirst K C = true
  right : ∃ rc, PySem.W.findIn K (.ref C) (dunderR op.info.2) = some rc ∧ (rc = none ∨ ∃ g : Addr, rc = some (.ref g))
  t1 : ∃ fo, PySem.W.findIn K (.type "str") (PySem.dunder op.info.2) = some fo
  t2 : ∃ ro, PySem.W.findIn K (.type "str") (dunderR op.info.2) = some ro
  sub : PySem.W.subIn K (.type "str") (.ref C) = some false
section
variable {X : Cx} {k : Nat} {C : Addr} {ps : List Str} {sp : Sp} {E : XK}
theorem op_inM (M : MethO X.prog X.w X.K X.mg X.base CX0 k C "__contains__" ps sp) (hr : Room k X.A) : OpR X (compareOp .In) (rInO C sp E0 false) := by
  obtain ⟨g, fd, h1, h2, _, F, hb⟩ := M.ex
  exact op_inO h1 h2 F hr hb pass0
theorem op_ninM (M : MethO X.prog X.w X.K X.mg X.base CX0 k C "__contains__" ps sp) (hr : Room k X.A) : OpR X (compareOp .NotIn) (rInO C sp E0 true) := by
  obtain ⟨g, fd, h1, h2, _, F, hb⟩ := M.ex
  exact op_ninO h1 h2 F hr hb pass0
theorem pe_ixM {a b : Expr} {pos : Pos} {ta tb : TE} (M : MethO X.prog X.w X.K X.mg X.base (L2.CX X.prog X.w) k C "__getitem__" ps sp) (hr : Room (k + 1) X.A) (tk : Takes X (fun cls d _ H => E cls d H)) (ha : PE X a ta) (hb : PE X b tb)
    (hsl : ∀ v u, subscripted b true v u = runValue (.builtin "lifetime.subscript" ⟨[v, u], []⟩)) : PE X (.Subscript a b pos) (tOp (rIxO C sp E) ta tb) := by
  obtain ⟨g, fd, h1, h2, h3, F, hbd⟩ := M.ex
  exact pe_ixO h1 h3 h2 F hr hbd (fun pins σ H s e s' I h => passAt tk σ pins H s e s' I h) ha hb hsl
theorem op_subM {op : Operator} {n : Str} (M : MethO X.prog X.w X.K X.mg X.base (L2.CX X.prog X.w) k C n ps sp) (T : BinT X.K C op) (en : n = PySem.dunder op.info.2) (hr : Room k X.A) (tk : Takes X (fun cls d _ H => E cls d H)) : OpR X (binaryOp op) (rBinS C sp E) := by
  subst en
  obtain ⟨g, fd, h1, h2, h3, F, hbd⟩ := M.ex
  obtain ⟨rc, r1, r2⟩ := T.right
  obtain ⟨fo, f1⟩ := T.t1
  obtain ⟨ro, f2⟩ := T.t2
  exact op_binS T.first h1 h2 r1 r2 f1 f2 T.sub F hr hbd (fun pins σ H s e s' I h => passAt tk σ pins H s e s' I h)
end
end Sc
namespace Sc
open PySem PySem.Spec PyProof.Rows L2
/-! ### xs[i] += e -/
def rGetL (K : PySem.W.Frag) : V → V → Hp → VK → Prop := fun x y H Q => ∃ (p : Addr) (xs : List V) (i : Nat) (v : V), x = .ref p ∧ y = .int i ∧ SqL K H p xs ∧ xs[i]? = some v ∧ Q v H
theorem get_list {X : Cx} : PGet X (rGetL X.K) := by
  intro pins s σ H x y v u Q I rx ry h
  obtain ⟨p, xs, i, z, rfl, rfl, hq, he, q⟩ := h
  cases rx
  obtain ⟨t, rfl⟩ := ry
  obtain ⟨its, r, pl, hz⟩ := I.list hq
  obtain ⟨w, ew, rw'⟩ := r.get he
  have hl := r.length
  have hn := line63
  have hi : i < its.length := by
    by_cases c : i < its.length
    · exact c
    · rw [List.getElem?_eq_none (by omega)] at ew; cases ew
  exact wpAny_getItem_list pl.isList (by omega) (by omega) (by simpa using ew) ⟨z, H, I, rw', q⟩
/-! ### rows of rules, longer and shorter -/
namespace RF
/-- something of all rules -/
def every (p : Nd → Prop) : RF → Prop
  | .nil => True
  | .cons nm hs fs rl exc rest => p ⟨nm, hs, fs, rl, exc⟩ ∧ exc.every p ∧ rest.every p
theorem every_nodes {p : Nd → Prop} : ∀ {f : RF}, f.every p ↔ ∀ n ∈ f.nodes, p n ∧ n.exc.every p
  | .nil => ⟨(fun _ _ h => nomatch h), fun _ => trivial⟩
  | .cons nm hs fs rl exc rest => by
    constructor
    · rintro ⟨h1, h2, h3⟩ n hn
      rcases List.mem_cons.mp hn with rfl | hn
      · exact ⟨h1, h2⟩
      · exact every_nodes.mp h3 n hn
    · intro h
      exact ⟨(h _ List.mem_cons_self).1, (h _ List.mem_cons_self).2, every_nodes.mpr fun n hn => h n (List.mem_cons_of_mem _ hn)⟩
theorem every_pre {p : Nd → Prop} : ∀ {f : RF} {k : Nat}, f.every p → ∀ q ∈ f.pre k, p q.1
  | .nil, k, _, q, h => nomatch h
  | .cons nm hs fs rl exc rest, k, h, q, hq => by
    rcases List.mem_cons.mp hq with rfl | hq
    · exact h.1
    rcases List.mem_append.mp hq with hq | hq
    · exact every_pre h.2.1 q hq
    · exact every_pre h.2.2 q hq
theorem every_mono {p r : Nd → Prop} (g : ∀ n, p n → r n) : ∀ {f : RF}, f.every p → f.every r
  | .nil, _ => trivial
  | .cons nm hs fs rl exc rest, h => ⟨g _ h.1, every_mono g h.2.1, every_mono g h.2.2⟩
def snoc : RF → Nd → RF
  | .nil, n => .cons n.nm n.hs n.fs n.rl n.exc .nil
  | .cons nm hs fs rl exc rest, n => .cons nm hs fs rl exc (rest.snoc n)
theorem snoc_nodes : ∀ (f : RF) (n : Nd), (f.snoc n).nodes = f.nodes ++ [n]
  | .nil, n => rfl
  | .cons nm hs fs rl exc rest, n => by show _ :: (rest.snoc n).nodes = _; rw [snoc_nodes rest n]; rfl
theorem snoc_size : ∀ (f : RF) (n : Nd), (f.snoc n).size = f.size + (n.exc.size + 1)
  | .nil, n => by show n.exc.size + 1 + 0 = 0 + _; omega
  | .cons nm hs fs rl exc rest, n => by show exc.size + 1 + (rest.snoc n).size = exc.size + 1 + rest.size + _; rw [snoc_size rest n]; omega
theorem snoc_dep : ∀ (f : RF) (n : Nd), (f.snoc n).dep = max f.dep (n.exc.dep + 1)
  | .nil, n => by show max (n.exc.dep + 1) 0 = max 0 _; omega
  | .cons nm hs fs rl exc rest, n => by show max (exc.dep + 1) (rest.snoc n).dep = max (max (exc.dep + 1) rest.dep) _; rw [snoc_dep rest n]; omega
theorem snoc_pre : ∀ (f : RF) (n : Nd) (k : Nat), (f.snoc n).pre k = f.pre k ++ ((n, k) :: n.exc.pre (k + 1))
  | .nil, n, k => by show (_, k) :: (n.exc.pre (k + 1) ++ []) = [] ++ _; rw [List.append_nil]; rfl
  | .cons nm hs fs rl exc rest, n, k => by show (_, k) :: (exc.pre (k + 1) ++ (rest.snoc n).pre k) = (_, k) :: (exc.pre (k + 1) ++ rest.pre k) ++ _; rw [snoc_pre rest n k]; simp
theorem snoc_names (f : RF) (n : Nd) : (f.snoc n).names = f.names ++ n.nm :: n.exc.names := by
  rw [← pre_names (f.snoc n) 0, snoc_pre, List.map_append, pre_names, List.map_cons, pre_names]
theorem snoc_every {p : Nd → Prop} {f : RF} {n : Nd} (h : f.every p) (h1 : p n) (h2 : n.exc.every p) : (f.snoc n).every p := every_nodes.mpr fun m hm => by
  rw [snoc_nodes] at hm
  rcases List.mem_append.mp hm with hm | hm
  · exact every_nodes.mp h m hm
  · rw [List.mem_singleton.mp hm]
    exact ⟨h1, h2⟩
end RF
theorem rows_snoc {K : PySem.W.Frag} {H : Hp} {f : RF} {vs : List V} {v : V} {n : Nd} (h : RowsAt K H f vs) (r : RowAt K H v n) : RowsAt K H (f.snoc n) (vs ++ [v]) := RowsAt.of (by rw [RF.snoc_nodes]; exact h.all.snoc r)
/-! ### all but the draws' state and a counter stands -/
structure Kc (a l c : Addr) (H H' : Hp) : Prop where
  old : RS H a l
  new : RS H' a l
  keep : ∀ b o, b ≠ a → b ≠ l → b ≠ c → H b = some o → H' b = some o
abbrev NoL : Addr → Prop := fun _ => False
section
variable {K : PySem.W.Frag} {a l c : Addr} {H H' H'' : Hp}
theorem Kp.kc (k : Kp a l H H') : Kc a l c H H' := ⟨k.old, k.new, fun b o n1 n2 _ e => k.keep b o n1 n2 e⟩
theorem Kc.trans (k : Kc a l c H H') (k' : Kc a l c H' H'') : Kc a l c H H'' := ⟨k.old, k'.new, fun b o n1 n2 n3 e => k'.keep b o n1 n2 n3 (k.keep b o n1 n2 n3 e)⟩
theorem Kc.of (r : RS H a l) (s : Same H H') : Kc a l c H H' := ⟨r, r.same s, fun b o _ _ _ e => s b o e⟩
theorem Kc.same (k : Kc a l c H H') (s : Same H' H'') : Kc a l c H H'' := k.trans (.of k.new s)
theorem Kc.put0 {p : Addr} {o : HO} (k : Kc a l c H H') (n : H p = none) : Kc a l c H (upd H' p o) := by
  obtain ⟨n1, n2⟩ := k.old.no n
  obtain ⟨st, x, ns, h1, h2, q⟩ := k.new
  exact ⟨k.old, ⟨st, x, ns, by rw [upd_ne n1.symm]; exact h1, by rw [upd_ne n2.symm]; exact h2, q⟩, fun b o m1 m2 m3 e => by rw [upd_ne (ne_of_none e n)]; exact k.keep b o m1 m2 m3 e⟩
/-- the counter changes -/
theorem Kc.count {o : HO} (k : Kc a l c H H') (n1 : c ≠ a) (n2 : c ≠ l) : Kc a l c H (upd H' c o) := by
  obtain ⟨st, x, ns, h1, h2, q⟩ := k.new
  exact ⟨k.old, ⟨st, x, ns, by rw [upd_ne n1.symm]; exact h1, by rw [upd_ne n2.symm]; exact h2, q⟩, fun b o m1 m2 m3 e => by rw [upd_ne m3]; exact k.keep b o m1 m2 m3 e⟩
theorem Kc.keeps {xs : List V} (k : Kc a l c H H') (e : H c = some (.lst xs)) : Keeps NoL H H' := fun b o st h => by
  obtain ⟨sd, x, ns, h1, h2, q⟩ := k.old
  have nl : ∀ zs, o ≠ .lst zs := fun zs z => st.1 zs z
  exact k.keep b o (fun z => by rw [z, h1] at h; exact nl _ (Option.some.inj h).symm) (fun z => by rw [z, h2] at h; exact nl _ (Option.some.inj h).symm) (fun z => by rw [z, e] at h; exact nl _ (Option.some.inj h).symm) h
theorem Kp.keepsN (k : Kp a l H H') : Keeps NoL H H' := k.keeps id id
theorem Kc.free {b : Addr} {xs : List V} (k : Kc a l c H H') (ec : H' c = some (.lst xs)) (e : H' b = none) : H b = none := by
  cases q : H b with
  | none => rfl
  | some o =>
    obtain ⟨n1, n2⟩ := k.new.no e
    rw [k.keep b o n1 n2 (fun z => by rw [z, ec] at e; cases e) q] at e
    cases e
end
/-! ### drawn rules -/
def fourR : List Str := ["pay", "warn", "free", "none"]
/-- the name of the i-th drawn rule -/
def rn (i : Nat) : Str := Str.ofString "r" ++ (⟨#[letters.cps.toList.getD i 0]⟩ : Str)
def rnames (c n : Nat) : List Str := (List.range' c n).map rn
theorem rnames_app {c n m : Nat} : rnames c n ++ rnames (c + n) m = rnames c (n + m) := by
  unfold rnames
  rw [← List.map_append, List.range'_append_1]
theorem rnames_one {c m : Nat} : rn c :: rnames (c + 1) m = rnames c (m + 1) := rfl
theorem rn_name : ∀ i, i < 24 → isName (rn i) = true := by decide +kernel
theorem four_name : ∀ x ∈ fourR, isName x = true := by decide +kernel
end Sc
namespace Sc
open PySem PySem.Spec PyProof.Rows L2
/-! ### slices of tuples -/
section
variable {K : PySem.W.Frag} {H : Hp}
theorem sl_any {b : Addr} {vs : List V} {lo hi : Option Int} {Q : VK} (hS : SqT K H b vs) (q : ∀ p H', Same H H' → SqT K H' p (cutV vs lo hi) → Q (.ref p) H') : rSlA K (.ref b) lo hi H Q :=
  ⟨b, vs, rfl, hS, fun c => q b H (Same.refl H) (by
    have e : cutV vs lo hi = vs := by
      unfold cutV
      rw [c.1, c.2, List.drop_zero, Nat.sub_zero, List.take_length]
    rw [e]
    exact hS), fun _ p np => q p _ ((Same.refl H).put np) sqT_new⟩
theorem cat_any {b c : Addr} {xs ys : List V} {Q : VK} (hA : SqT K H b xs) (hB : SqT K H c ys) (hl : xs.length + ys.length ≤ sizeLine) (q : ∀ p H', Same H H' → SqT K H' p (xs ++ ys) → Q (.ref p) H') : rCatA K (.ref b) (.ref c) H Q :=
  ⟨b, c, xs, ys, rfl, rfl, hA, hB, hl, fun e => q c H (Same.refl H) (by rw [e]; exact hB), fun _ e => q b H (Same.refl H) (by rw [e, List.append_nil]; exact hA), fun _ _ p np => q p _ ((Same.refl H).put np) sqT_new⟩
theorem sIx_nat (n d k : Nat) : HT.sIx n d (some (k : Int)) = min k n := by
  unfold HT.sIx
  first
    | (simp; done)
    | (simp; omega)
    | (split <;> omega)
theorem cut_to (vs : List V) (m : Nat) : cutV vs none (some (m : Int)) = vs.take m := by
  unfold cutV
  rw [sIx_nat]
  show (vs.drop 0).take (min m vs.length - 0) = _
  rw [List.drop_zero, Nat.sub_zero]
  by_cases h : m ≤ vs.length
  · rw [Nat.min_eq_left h]
  · rw [Nat.min_eq_right (by omega), List.take_length, List.take_of_length_le (by omega)]
theorem cut_from (vs : List V) (k : Nat) : cutV vs (some (k : Int)) none = vs.drop k := by
  unfold cutV
  rw [sIx_nat]
  show (vs.drop (min k vs.length)).take (vs.length - min k vs.length) = _
  by_cases h : k ≤ vs.length
  · rw [Nat.min_eq_left h, List.take_of_length_le (by rw [List.length_drop]; exact Nat.le_refl _)]
  · rw [Nat.min_eq_right (by omega), List.drop_length, List.drop_of_length_le (by omega)]
    exact List.take_nil
theorem cut_part (vs : List V) (k m : Nat) : cutV vs (some (k : Int)) (some (m : Int)) = (vs.drop k).take (m - k) := by
  unfold cutV
  rw [sIx_nat, sIx_nat]
  by_cases h : k ≤ vs.length
  · rw [Nat.min_eq_left h]
    by_cases h2 : m ≤ vs.length
    · rw [Nat.min_eq_left h2]
    · rw [Nat.min_eq_right (by omega), List.take_of_length_le (by rw [List.length_drop]; exact Nat.le_refl _), List.take_of_length_le (by rw [List.length_drop]; omega)]
  · rw [Nat.min_eq_right (show vs.length ≤ k by omega), List.drop_length, List.drop_of_length_le (show vs.length ≤ k by omega), List.take_nil, List.take_nil]
end
end Sc
namespace Sc
open PySem
/-! ### parts of a text -/
def stAt (b : List Stmt) (i : Nat) : Stmt := b.getD i (.Pass ⟨0, 0, 0, 0⟩)
def forB : Stmt → List Stmt
  | .For _ _ b _ _ => b
  | _ => []
def whileB : Stmt → List Stmt
  | .While _ b _ _ => b
  | _ => []
def ifB : Stmt → List Stmt
  | .If _ b _ _ => b
  | _ => []
def ifE : Stmt → List Stmt
  | .If _ _ b _ => b
  | _ => []
end Sc
namespace Sc
open PySem PySem.Spec PyProof.Rows L2
namespace RF
def app (f g : RF) : RF := ofNodes (f.nodes ++ g.nodes)
theorem app_nodes (f g : RF) : (f.app g).nodes = f.nodes ++ g.nodes := nodes_of _
theorem of_size : ∀ ns ms : List Nd, (ofNodes (ns ++ ms)).size = (ofNodes ns).size + (ofNodes ms).size
  | [], ms => by show (ofNodes ms).size = 0 + _; omega
  | n :: r, ms => by
    show n.exc.size + 1 + (ofNodes (r ++ ms)).size = n.exc.size + 1 + (ofNodes r).size + _
    rw [of_size r ms]
    omega
theorem app_size (f g : RF) : (f.app g).size = f.size + g.size := by
  unfold app
  rw [of_size, of_nodes, of_nodes]
theorem app_dep {f g : RF} {d : Nat} (h : f.dep ≤ d) (k : g.dep ≤ d) : (f.app g).dep ≤ d := dep_le _ d fun n hn => by
  rw [app_nodes] at hn
  rcases List.mem_append.mp hn with hn | hn
  · exact Nat.le_trans (dep_mem f n hn) h
  · exact Nat.le_trans (dep_mem g n hn) k
theorem app_every {p : Nd → Prop} {f g : RF} (h : f.every p) (k : g.every p) : (f.app g).every p := every_nodes.mpr fun n hn => by
  rw [app_nodes] at hn
  rcases List.mem_append.mp hn with hn | hn
  · exact every_nodes.mp h n hn
  · exact every_nodes.mp k n hn
/-- the first rules, the others -/
def head (f : RF) (i : Nat) : RF := ofNodes (f.nodes.take i)
def rest (f : RF) (i : Nat) : RF := ofNodes (f.nodes.drop i)
theorem head_nodes (f : RF) (i : Nat) : (f.head i).nodes = f.nodes.take i := nodes_of _
theorem rest_nodes (f : RF) (i : Nat) : (f.rest i).nodes = f.nodes.drop i := nodes_of _
theorem head_rest (f : RF) (i : Nat) : (f.head i).app (f.rest i) = f := by
  unfold app
  rw [head_nodes, rest_nodes, List.take_append_drop, of_nodes]
theorem cut_size (f : RF) (i : Nat) : (f.head i).size + (f.rest i).size = f.size := by rw [← app_size, head_rest]
theorem head_dep (f : RF) (i : Nat) : (f.head i).dep ≤ f.dep := dep_le _ _ fun n hn => dep_mem f n (List.mem_of_mem_take (by rw [head_nodes] at hn; exact hn))
theorem rest_dep (f : RF) (i : Nat) : (f.rest i).dep ≤ f.dep := dep_le _ _ fun n hn => dep_mem f n (List.mem_of_mem_drop (by rw [rest_nodes] at hn; exact hn))
theorem head_every {p : Nd → Prop} {f : RF} (h : f.every p) (i : Nat) : (f.head i).every p := every_nodes.mpr fun n hn => every_nodes.mp h n (List.mem_of_mem_take (by rw [head_nodes] at hn; exact hn))
theorem rest_every {p : Nd → Prop} {f : RF} (h : f.every p) (i : Nat) : (f.rest i).every p := every_nodes.mpr fun n hn => every_nodes.mp h n (List.mem_of_mem_drop (by rw [rest_nodes] at hn; exact hn))
/-- a row of one rule -/
def only (n : Nd) : RF := .cons n.nm n.hs n.fs n.rl n.exc .nil
theorem only_size (n : Nd) : (only n).size = n.exc.size + 1 := rfl
theorem only_dep (n : Nd) : (only n).dep = n.exc.dep + 1 := Nat.max_zero _
theorem only_every {p : Nd → Prop} {n : Nd} (h : p n) (k : n.exc.every p) : (only n).every p := ⟨h, k, trivial⟩
end RF
namespace All2
variable {α β : Type} {R : α → β → Prop}
theorem take {as : List α} {bs : List β} (h : All2 R as bs) : ∀ i, All2 R (as.take i) (bs.take i) := by
  induction h with
  | nil => intro i; rw [List.take_nil, List.take_nil]; exact .nil
  | cons h _ ih =>
    intro i
    cases i with
    | zero => exact .nil
    | succ i => exact .cons h (ih i)
theorem drop {as : List α} {bs : List β} (h : All2 R as bs) : ∀ i, All2 R (as.drop i) (bs.drop i) := by
  induction h with
  | nil => intro i; rw [List.drop_nil, List.drop_nil]; exact .nil
  | cons h t ih =>
    intro i
    cases i with
    | zero => exact .cons h t
    | succ i => exact ih i
end All2
section
variable {K : PySem.W.Frag} {H : Hp} {f g : RF} {vs us : List V} {v : V} {n : Nd}
theorem rows_app (h : RowsAt K H f vs) (k : RowsAt K H g us) : RowsAt K H (f.app g) (vs ++ us) := RowsAt.of (by rw [RF.app_nodes]; exact h.all.app k.all)
theorem rows_head (h : RowsAt K H f vs) (i : Nat) : RowsAt K H (f.head i) (vs.take i) := RowsAt.of (by rw [RF.head_nodes]; exact h.all.take i)
theorem rows_rest (h : RowsAt K H f vs) (i : Nat) : RowsAt K H (f.rest i) (vs.drop i) := RowsAt.of (by rw [RF.rest_nodes]; exact h.all.drop i)
theorem rows_only (h : RowAt K H v n) : RowsAt K H (.only n) [v] := RowsAt.of (.one h)
theorem cut_last (vs : List V) : cutV vs (some (-1)) none = vs.drop (vs.length - 1) := by
  unfold cutV
  have e1 : HT.sIx vs.length 0 (some (-1)) = vs.length - 1 := by
    unfold HT.sIx
    dsimp only
    rw [if_pos (by decide)]
    omega
  have e2 : HT.sIx vs.length vs.length none = vs.length := rfl
  rw [e1, e2, List.take_of_length_le]
  rw [List.length_drop]
  exact Nat.le_refl _
end
end Sc
namespace Sc
open PySem
/-! ### cases by their numbers -/
def caseOf : List Str → Nat → List Str
  | [], _ => []
  | x :: r, n => (if n % 2 = 1 then [x] else []) ++ caseOf r (n / 2)
def bitN (n k : Nat) : Bool := decide (n / 2 ^ k % 2 = 1)
theorem bitN_succ {n k : Nat} : bitN n (k + 1) = bitN (n / 2) k := by
  unfold bitN
  rw [Nat.pow_succ, Nat.mul_comm, ← Nat.div_div_eq_div_mul]
theorem caseOf_more : ∀ (fs : List Str) (n i : Nat) (x : Str), fs[i]? = some x → caseOf (fs.take (i + 1)) n = caseOf (fs.take i) n ++ (if bitN n i = true then [x] else [])
  | y :: r, n, 0, x, h => by
    have h : y = x := Option.some.inj h
    subst h
    show (if n % 2 = 1 then [y] else []) ++ caseOf [] (n / 2) = [] ++ _
    unfold bitN caseOf
    rw [Nat.pow_zero, Nat.div_one, List.append_nil, List.nil_append]
    by_cases c : n % 2 = 1
    · rw [if_pos c, if_pos (decide_eq_true c)]
    · rw [if_neg c, if_neg (by rw [decide_eq_false c]; exact Bool.false_ne_true)]
  | y :: r, n, i + 1, x, h => by
    have h : r[i]? = some x := h
    show (if n % 2 = 1 then [y] else []) ++ caseOf (r.take (i + 1)) (n / 2) = ((if n % 2 = 1 then [y] else []) ++ caseOf (r.take i) (n / 2)) ++ _
    rw [caseOf_more r (n / 2) i x h, List.append_assoc, bitN_succ]
theorem caseOf_sub : ∀ (fs : List Str) (n : Nat), List.Sublist (caseOf fs n) fs
  | [], _ => .slnil
  | x :: r, n => by
    unfold caseOf
    by_cases c : n % 2 = 1
    · rw [if_pos c]
      exact (caseOf_sub r _).cons₂ x
    · rw [if_neg c]
      exact (caseOf_sub r _).cons x
/-- each choice of the facts is a case -/
theorem caseOf_all (p : Str → Bool) : ∀ fs : List Str, ∃ n, n < 2 ^ fs.length ∧ caseOf fs n = fs.filter p
  | [] => ⟨0, by decide, rfl⟩
  | x :: r => by
    obtain ⟨n, h1, h2⟩ := caseOf_all p r
    cases c : p x with
    | true =>
      refine ⟨2 * n + 1, by rw [List.length_cons, Nat.pow_succ]; omega, ?_⟩
      unfold caseOf
      rw [if_pos (by omega), show (2 * n + 1) / 2 = n by omega, h2, List.filter_cons, if_pos c]
      rfl
    | false =>
      refine ⟨2 * n, by rw [List.length_cons, Nat.pow_succ]; omega, ?_⟩
      unfold caseOf
      rw [if_neg (by omega), show (2 * n) / 2 = n by omega, h2, List.filter_cons, if_neg (by rw [c]; exact Bool.false_ne_true)]
      rfl
end Sc
namespace Sc
open PySem PySem.Spec PyProof.Rows L2
/-! ### rising rows of the twelve facts -/
def SLt (a b : Str) : Prop := a.cps.toList < b.cps.toList
instance (a b : Str) : Decidable (SLt a b) := inferInstanceAs (Decidable (a.cps.toList < b.cps.toList))
structure Good (xs : List Str) : Prop where
  up : xs.Pairwise SLt
  mem : ∀ x ∈ xs, x ∈ twelve
theorem twelve_up : twelve.Pairwise SLt := by decide +kernel
theorem twelve_name : ∀ x ∈ twelve, isName x = true := by decide +kernel
theorem twelve_good : Good twelve := ⟨twelve_up, fun _ h => h⟩
theorem Good.sub {xs ys : List Str} (h : Good ys) (s : List.Sublist xs ys) : Good xs := ⟨h.up.sublist s, fun x hx => h.mem x (s.subset hx)⟩
theorem Good.nodup {xs : List Str} (h : Good xs) : xs.Nodup := h.up.imp fun {a b} hl e => by subst e; exact List.lt_irrefl _ hl
theorem Good.fines {xs : List Str} (h : Good xs) (tf : Fines twelve) : Fines xs := fun x hx => tf x (h.mem x hx)
theorem Good.le {xs : List Str} (h : Good xs) : xs.Pairwise SLe := h.up.imp fun hl => List.le_of_lt hl
theorem good_nil : Good [] := ⟨.nil, fun _ h => nomatch h⟩
theorem Good.srt {xs : List Str} (h : Good xs) : srt xs = xs := sorted_uniq (srt_perm xs) (srt_sorted xs) (sorted_of h.le)
theorem lt_of {a b : Str} (h : SLe a b) (n : a ≠ b) : SLt a b := by
  by_cases c : a.cps.toList < b.cps.toList
  · exact c
  · exact absurd (str_ext (List.le_antisymm h (List.not_lt.mp c))) n
theorem srt_good {xs : List Str} (nd : xs.Nodup) (m : ∀ x ∈ xs, x ∈ twelve) : Good (srt xs) := by
  have nd2 : (Sc.srt xs).Nodup := (srt_perm xs).nodup_iff.mpr nd
  refine ⟨?_, fun x hx => m x ((srt_perm xs).mem_iff.mp hx)⟩
  exact ((sorted_pw (srt_sorted xs)).and nd2).imp fun h => lt_of h.1 h.2
theorem mem_mrg {xs ys : List Str} {x : Str} : x ∈ mrg xs ys ↔ x ∈ xs ∨ x ∈ ys := by
  unfold mrg
  rw [(srt_perm _).mem_iff, List.mem_append, List.mem_filter]
  constructor
  · rintro (h | h)
    · exact .inl h
    · exact .inr h.1
  · rintro (h | h)
    · exact .inl h
    · by_cases c : x ∈ xs
      · exact .inl c
      · exact .inr ⟨h, by rw [decide_eq_false c]; rfl⟩
theorem Good.mrg {xs ys : List Str} (h : Good xs) (k : Good ys) : Good (mrg xs ys) := by
  refine srt_good ?_ fun x hx => ?_
  · rw [List.nodup_append]
    refine ⟨h.nodup, (List.filter_sublist).nodup k.nodup, fun a ha b hb e => ?_⟩
    subst e
    have := (List.mem_filter.mp hb).2
    rw [decide_eq_true ha] at this
    cases this
  · rcases List.mem_append.mp hx with h1 | h1
    · exact h.mem x h1
    · exact k.mem x (List.mem_filter.mp h1).1
/-- a good row is told by its members -/
theorem Good.ext {xs ys : List Str} (h : Good xs) (k : Good ys) (e : ∀ x, x ∈ xs ↔ x ∈ ys) : xs = ys := by
  have p : xs.Perm ys := (List.perm_ext_iff_of_nodup h.nodup k.nodup).mpr e
  exact sorted_uniq p (sorted_of h.le) (sorted_of k.le)
theorem rises_pw {xs : List Str} (h : xs.Pairwise SLt) {i : Nat} (hi : i < xs.length) : risesAt xs i = true := by
  by_cases h0 : i = 0
  · subst h0
    rfl
  · rw [risesAt_eq hi h0 (by omega)]
    exact decide_eq_true (List.pairwise_iff_getElem.mp h (i - 1) i (by omega) hi (by omega))
theorem Good.none {xs ys : List Str} (h : Good xs) (l : ys.length + xs.length ≤ 8) (d : ∀ x ∈ xs, ¬ x ∈ ys) : firstWrong xs ys = none := by
  unfold firstWrong
  rw [List.find?_eq_none]
  intro i hi
  have hi := List.mem_range.mp hi
  unfold wrongAt
  rw [List.getElem?_eq_getElem hi]
  dsimp only
  rw [twelve_name _ (h.mem _ (List.getElem_mem hi)), rises_pw h.up hi, decide_eq_false (show ¬ 8 ≤ ys.length + i by omega), decide_eq_false (d _ (List.getElem_mem hi))]
  exact Bool.false_ne_true
/-! ### two conditions over the same cases -/
theorem meets_iff {hs fs cs : List Str} : meets hs fs cs = true ↔ (∀ x ∈ hs, x ∈ cs) ∧ ∀ x ∈ fs, ¬ x ∈ cs := by
  unfold meets
  rw [Bool.and_eq_true, List.all_eq_true, Bool.not_eq_true', List.any_eq_false]
  constructor
  · rintro ⟨h1, h2⟩
    exact ⟨fun x hx => of_decide_eq_true (h1 x hx), fun x hx hc => h2 x hx (decide_eq_true hc)⟩
  · rintro ⟨h1, h2⟩
    exact ⟨fun x hx => decide_eq_true (h1 x hx), fun x hx hc => h2 x hx (of_decide_eq_true hc)⟩
theorem meets_mrg {hs fs gs ks cs : List Str} : meets (mrg hs gs) (mrg fs ks) cs = (meets hs fs cs && meets gs ks cs) := by
  rw [Bool.eq_iff_iff, Bool.and_eq_true, meets_iff, meets_iff, meets_iff]
  constructor
  · rintro ⟨h1, h2⟩
    exact ⟨⟨fun x hx => h1 x (mem_mrg.mpr (.inl hx)), fun x hx => h2 x (mem_mrg.mpr (.inl hx))⟩, fun x hx => h1 x (mem_mrg.mpr (.inr hx)), fun x hx => h2 x (mem_mrg.mpr (.inr hx))⟩
  · rintro ⟨⟨h1, h2⟩, h3, h4⟩
    refine ⟨fun x hx => ?_, fun x hx => ?_⟩
    · rcases mem_mrg.mp hx with h | h
      · exact h1 x h
      · exact h3 x h
    · rcases mem_mrg.mp hx with h | h
      · exact h2 x h
      · exact h4 x h
/-- a case that meets the joined condition: what must hold, and no more -/
theorem met_case {fs ws bs : List Str} (s1 : ∀ x ∈ ws, x ∈ fs) (d : ∀ x ∈ ws, ¬ x ∈ bs) : meets ws bs (fs.filter fun x => decide (x ∈ ws)) = true := by
  rw [meets_iff]
  refine ⟨fun x hx => List.mem_filter.mpr ⟨s1 x hx, decide_eq_true hx⟩, fun x hx hc => ?_⟩
  exact d x (of_decide_eq_true (List.mem_filter.mp hc).2) hx
theorem both_iff {fs hs ks gs ls : List Str} (h1 : ∀ x ∈ hs, x ∈ fs) (h2 : ∀ x ∈ gs, x ∈ fs) :
    (∃ n, n < 2 ^ fs.length ∧ (meets hs ks (caseOf fs n) && meets gs ls (caseOf fs n)) = true) ↔ meetN (mrg hs gs) (mrg ks ls) = false := by
  constructor
  · rintro ⟨n, _, h⟩
    rw [← meets_mrg, meets_iff] at h
    unfold meetN
    rw [List.any_eq_false]
    intro x hx hc
    exact h.2 x (of_decide_eq_true hc) (h.1 x hx)
  · intro h
    obtain ⟨n, hn, e⟩ := caseOf_all (fun x => decide (x ∈ mrg hs gs)) fs
    refine ⟨n, hn, ?_⟩
    rw [← meets_mrg, e]
    refine met_case (fun x hx => ?_) (fun x hx hc => ?_)
    · rcases mem_mrg.mp hx with h' | h'
      · exact h1 x h'
      · exact h2 x h'
    · unfold meetN at h
      rw [List.any_eq_false] at h
      exact h x hx (decide_eq_true hc)
theorem within_iff {fs hs ks gs ls : List Str} (h1 : ∀ x ∈ hs, x ∈ fs) (h2 : ∀ x ∈ ls, x ∈ fs) (d : ∀ x ∈ hs, ¬ x ∈ ks) :
    withinC hs ks gs ls = true ↔ ∀ n, n < 2 ^ fs.length → (meets hs ks (caseOf fs n) && !meets gs ls (caseOf fs n)) = false := by
  unfold withinC
  rw [Bool.and_eq_true, List.all_eq_true, List.all_eq_true]
  constructor
  · rintro ⟨q1, q2⟩ n _
    cases c : meets hs ks (caseOf fs n) with
    | false => rfl
    | true =>
      have c := meets_iff.mp c
      have : meets gs ls (caseOf fs n) = true := meets_iff.mpr ⟨fun x hx => c.1 x (of_decide_eq_true (q1 x hx)), fun x hx => c.2 x (of_decide_eq_true (q2 x hx))⟩
      rw [this]
      rfl
  · intro q
    constructor
    · intro x hx
      obtain ⟨n, hn, e⟩ := caseOf_all (fun x => decide (x ∈ hs)) fs
      have h := q n hn
      rw [e, met_case h1 d, Bool.true_and] at h
      have h : meets gs ls (fs.filter fun x => decide (x ∈ hs)) = true := by
        cases c : meets gs ls (fs.filter fun x => decide (x ∈ hs)) with
        | true => rfl
        | false => rw [c] at h; cases h
      exact (List.mem_filter.mp ((meets_iff.mp h).1 x hx)).2
    · intro x hx
      obtain ⟨n, hn, e⟩ := caseOf_all (fun x => !decide (x ∈ ks)) fs
      have h := q n hn
      have m : meets hs ks (fs.filter fun x => !decide (x ∈ ks)) = true := by
        rw [meets_iff]
        refine ⟨fun y hy => List.mem_filter.mpr ⟨h1 y hy, by rw [decide_eq_false (d y hy)]; rfl⟩, fun y hy hc => ?_⟩
        have := (List.mem_filter.mp hc).2
        rw [decide_eq_true hy] at this
        cases this
      rw [e, m, Bool.true_and] at h
      have h : meets gs ls (fs.filter fun x => !decide (x ∈ ks)) = true := by
        cases c : meets gs ls (fs.filter fun x => !decide (x ∈ ks)) with
        | true => rfl
        | false => rw [c] at h; cases h
      refine decide_eq_true (Classical.byContradiction fun nk => ?_)
      exact (meets_iff.mp h).2 x hx (List.mem_filter.mpr ⟨h2 x hx, by rw [decide_eq_false nk]; rfl⟩)
end Sc
namespace Sc
open PySem PySem.Spec PyProof.Rows L2
/-! ### rules of right parts -/
structure NdOk (n : Nd) : Prop where
  nm : isName n.nm = true
  rl : isName n.rl = true
  c1 : firstWrong n.hs [] = none
  c2 : firstWrong n.fs n.hs = none
theorem name_len {x : Str} (h : isName x = true) : x.length ≤ 8 := by
  unfold isName at h
  rw [Bool.and_eq_true, Bool.and_eq_true] at h
  exact of_decide_eq_true h.2.1
theorem fw_names {xs ys : List Str} (h : firstWrong xs ys = none) : ∀ x ∈ xs, isName x = true := by
  intro x hx
  obtain ⟨i, hi, rfl⟩ := List.getElem_of_mem hx
  have := (wrongs_none h i hi).1.1
  rw [Bool.or_eq_false_iff] at this
  exact (Bool.not_eq_false' _).mp this.1
theorem fw_txts {xs ys : List Str} (h : firstWrong xs ys = none) : Txts xs := fun x hx => Nat.le_trans (name_len (fw_names h x hx)) (by decide)
theorem NdOk.len {n : Nd} (h : NdOk n) : n.hs.length ≤ 8 ∧ n.fs.length ≤ 8 := by
  have h1 := fw_len h.c1
  have h2 := fw_len h.c2
  simp only [List.length_nil] at h1
  omega
theorem fit_of {f : RF} (h : f.every NdOk) : f.Fit := fun q hq => by
  have := (RF.every_pre h q hq).len
  omega
theorem name_fine {x : Str} (h : isName x = true) : Fine x := by
  refine ⟨Nat.le_trans (name_len h) (by decide), ?_⟩
  unfold isName isLetters at h
  rw [Bool.and_eq_true, Bool.and_eq_true, List.all_eq_true] at h
  have hL : PyData.strOk letters = true := by decide +kernel
  show PyData.strOk x = true
  unfold PyData.strOk at hL ⊢
  rw [Array.all_eq_true'] at hL ⊢
  intro c hc
  exact hL c (by rw [← Array.mem_toList_iff]; exact of_decide_eq_true (h.2.2 c (by rw [Array.mem_toList_iff]; exact hc)))
theorem fw_fines {xs ys : List Str} (h : firstWrong xs ys = none) : Fines xs := fun x hx => name_fine (fw_names h x hx)
/-- names in their order -/
structure Right (xs : List Str) : Prop where
  up : xs.Pairwise SLt
  nm : ∀ x ∈ xs, isName x = true
theorem Right.sub {xs ys : List Str} (h : Right ys) (s : List.Sublist xs ys) : Right xs := ⟨h.up.sublist s, fun x hx => h.nm x (s.subset hx)⟩
theorem Right.nodup {xs : List Str} (h : Right xs) : xs.Nodup := h.up.imp fun {a b} hl e => by subst e; exact List.lt_irrefl _ hl
theorem Right.fines {xs : List Str} (h : Right xs) : Fines xs := fun x hx => name_fine (h.nm x hx)
theorem Right.none {xs ys : List Str} (h : Right xs) (l : ys.length + xs.length ≤ 8) (d : ∀ x ∈ xs, ¬ x ∈ ys) : firstWrong xs ys = none := by
  unfold firstWrong
  rw [List.find?_eq_none]
  intro i hi
  have hi := List.mem_range.mp hi
  unfold wrongAt
  rw [List.getElem?_eq_getElem hi]
  dsimp only
  rw [h.nm _ (List.getElem_mem hi), rises_pw h.up hi, decide_eq_false (show ¬ 8 ≤ ys.length + i by omega), decide_eq_false (d _ (List.getElem_mem hi))]
  exact Bool.false_ne_true
theorem Right.bad {xs : List Str} (g : Right xs) (h0 : xs ≠ []) (h1 : xs.length ≤ 60) : firstBad xs = Option.none := by
  unfold firstBad
  rw [if_neg h0, List.find?_eq_none]
  intro i hi
  have hi := List.mem_range.mp hi
  unfold badAt
  rw [List.getElem?_eq_getElem hi]
  dsimp only
  rw [g.nm _ (List.getElem_mem hi), rises_pw g.up hi, decide_eq_false (show ¬ i = 60 by omega)]
  exact Bool.false_ne_true
/-- a row of distinct names, sorted -/
theorem right_of {xs zs : List Str} (p : zs.Perm xs) (s : sortedS zs = true) (nd : xs.Nodup) (nm : ∀ x ∈ xs, isName x = true) : Right zs :=
  ⟨((sorted_pw s).and (p.nodup_iff.mpr nd)).imp fun h => lt_of h.1 h.2, fun x hx => nm x (p.mem_iff.mp hx)⟩
end Sc
namespace Sc
open PySem PySem.Spec PyProof.Rows L2
/-! ### how rules are read -/
theorem sc_up_to_first_met : FnScope ["rules", "case", "looked", "rule", "condition", "met"] ["rules", "case"] (defScope s_up_to_first_met) := ⟨rfl, rfl, rfl, by decide +kernel, rfl, by decide +kernel, by decide +kernel⟩
theorem sc_steps : FnScope ["rules", "case", "looked", "rule", "met"] ["rules", "case"] (defScope s_steps) := ⟨rfl, rfl, rfl, by decide +kernel, rfl, by decide +kernel, by decide +kernel⟩
theorem sc_looked_into : FnScope ["rules", "case", "rule", "met"] ["rules", "case"] (defScope s_looked_into) := ⟨rfl, rfl, rfl, by decide +kernel, rfl, by decide +kernel, by decide +kernel⟩
/-- is a rule met -/
abbrev Nd.met (cs : List Str) (n : Nd) : Bool := meets n.hs n.fs cs
def uptoL (cs : List Str) : List Nd → List (Nd × Bool)
  | [] => []
  | n :: r => if n.met cs = true then [(n, true)] else (n, false) :: uptoL cs r
theorem uptoL_end {cs : List Str} : ∀ {l : List Nd}, (∀ n ∈ l, n.met cs = false) → uptoL cs l = l.map fun n => (n, false)
  | [], _ => rfl
  | n :: r, h => by
    show (if n.met cs = true then _ else _) = _
    rw [if_neg (by rw [h n List.mem_cons_self]; exact Bool.false_ne_true), uptoL_end fun m hm => h m (List.mem_cons_of_mem _ hm)]
    rfl
theorem uptoL_hit {cs : List Str} : ∀ {l : List Nd} {i : Nat} {n : Nd}, l[i]? = some n → n.met cs = true → (∀ m ∈ l.take i, m.met cs = false) → uptoL cs l = ((l.take i).map fun n => (n, false)) ++ [(n, true)]
  | m :: r, 0, n, hi, hm, _ => by
    cases hi
    show (if _ then _ else _) = _
    rw [if_pos hm]
    rfl
  | m :: r, i + 1, n, hi, hm, h => by
    show (if m.met cs = true then _ else _) = _
    rw [if_neg (by rw [h m (by rw [List.take_succ_cons]; exact List.mem_cons_self)]; exact Bool.false_ne_true), uptoL_hit (l := r) (i := i) (by simpa using hi) hm fun x hx => h x (by rw [List.take_succ_cons]; exact List.mem_cons_of_mem _ hx)]
    rw [List.take_succ_cons]
    rfl
theorem uptoL_len {cs : List Str} : ∀ l : List Nd, (uptoL cs l).length ≤ l.length
  | [] => Nat.le_refl _
  | n :: r => by
    show (if n.met cs = true then _ else _ : List (Nd × Bool)).length ≤ _
    split
    · show 1 ≤ r.length + 1; omega
    · show (uptoL cs r).length + 1 ≤ r.length + 1; have := uptoL_len (cs := cs) r; omega
theorem uptoL_mem {cs : List Str} : ∀ {l : List Nd} {q : Nd × Bool}, q ∈ uptoL cs l → q.1 ∈ l
  | n :: r, q, h => by
    have h : q ∈ (if n.met cs = true then [(n, true)] else (n, false) :: uptoL cs r) := h
    split at h
    · rw [List.mem_singleton.mp h]; exact List.mem_cons_self
    · rcases List.mem_cons.mp h with rfl | h
      · exact List.mem_cons_self
      · exact List.mem_cons_of_mem _ (uptoL_mem h)
theorem uptoL_ne {cs : List Str} : ∀ {l : List Nd}, l ≠ [] → uptoL cs l ≠ []
  | [], h => absurd rfl h
  | n :: r, _ => by
    show (if n.met cs = true then _ else _ : List (Nd × Bool)) ≠ []
    split <;> exact List.cons_ne_nil _ _
namespace RF
/-- the rules beside each other that are looked at -/
def upto (cs : List Str) (f : RF) : List (Nd × Bool) := uptoL cs f.nodes
/-- all rules that are looked at -/
def steps (cs : List Str) : RF → List (Nd × Bool)
  | .nil => []
  | .cons nm hs fs rl exc rest => if meets hs fs cs = true then (⟨nm, hs, fs, rl, exc⟩, true) :: exc.steps cs else (⟨nm, hs, fs, rl, exc⟩, false) :: rest.steps cs
/-- the rules that are looked into -/
def way (cs : List Str) : RF → List Nd
  | .nil => []
  | .cons nm hs fs rl exc rest => if meets hs fs cs = true then ⟨nm, hs, fs, rl, exc⟩ :: exc.way cs else rest.way cs
/-- the rules behind those that are looked at -/
def next (cs : List Str) (f : RF) : RF := match (f.upto cs).getLast? with
  | some (n, true) => n.exc
  | _ => .nil
theorem steps_upto (cs : List Str) : ∀ f : RF, f.steps cs = f.upto cs ++ (f.next cs).steps cs
  | .nil => rfl
  | .cons nm hs fs rl exc rest => by
    have ih := steps_upto cs rest
    unfold next upto at ih ⊢
    show (if meets hs fs cs = true then _ else _) = (if meets hs fs cs = true then _ else _ : List (Nd × Bool)) ++ _
    have e : uptoL cs (RF.cons nm hs fs rl exc rest).nodes = if meets hs fs cs = true then [(⟨nm, hs, fs, rl, exc⟩, true)] else (⟨nm, hs, fs, rl, exc⟩, false) :: uptoL cs rest.nodes := rfl
    rw [e]
    by_cases h : meets hs fs cs = true
    · rw [if_pos h, if_pos h]
      rfl
    · rw [if_neg h, if_neg h, ih, List.cons_append]
      cases h2 : uptoL cs rest.nodes with
      | nil => rfl
      | cons q r => rw [List.getLast?_cons_cons]
theorem next_of {cs : List Str} {f : RF} {qs : List (Nd × Bool)} {q : Nd × Bool} (h : f.upto cs = qs ++ [q]) : f.next cs = if q.2 = true then q.1.exc else .nil := by
  unfold next
  rw [h, List.getLast?_concat]
  obtain ⟨n, b⟩ := q
  cases b <;> rfl
theorem dep_pos : ∀ {f : RF}, f ≠ .nil → 1 ≤ f.dep
  | .nil, h => absurd rfl h
  | .cons nm hs fs rl exc rest, _ => by
    show 1 ≤ max (exc.dep + 1) rest.dep
    omega
theorem nodes_ne : ∀ {f : RF}, f ≠ .nil → f.nodes ≠ []
  | .nil, h => absurd rfl h
  | .cons nm hs fs rl exc rest, _ => List.cons_ne_nil _ _
theorem steps_way (cs : List Str) : ∀ f : RF, ((f.steps cs).filter fun q => q.2).map (fun q => q.1) = f.way cs
  | .nil => rfl
  | .cons nm hs fs rl exc rest => by
    have h1 := steps_way cs exc
    have h2 := steps_way cs rest
    unfold steps way
    by_cases h : meets hs fs cs = true
    · rw [if_pos h, if_pos h, List.filter_cons_of_pos rfl, List.map_cons, h1]
    · rw [if_neg h, if_neg h, List.filter_cons_of_neg Bool.false_ne_true, h2]
theorem steps_size (cs : List Str) : ∀ f : RF, (f.steps cs).length ≤ f.size
  | .nil => Nat.le_refl _
  | .cons nm hs fs rl exc rest => by
    have h1 := steps_size cs exc
    have h2 := steps_size cs rest
    unfold steps
    show _ ≤ exc.size + 1 + rest.size
    split
    · rw [List.length_cons]; omega
    · rw [List.length_cons]; omega
theorem way_dep (cs : List Str) : ∀ f : RF, (f.way cs).length ≤ f.dep
  | .nil => Nat.le_refl _
  | .cons nm hs fs rl exc rest => by
    have h1 := way_dep cs exc
    have h2 := way_dep cs rest
    unfold way
    show _ ≤ max (exc.dep + 1) rest.dep
    split
    · rw [List.length_cons]; omega
    · omega
theorem way_every {p : Nd → Prop} (cs : List Str) : ∀ {f : RF}, f.every p → ∀ n ∈ f.way cs, p n
  | .nil, _, n, h => nomatch h
  | .cons nm hs fs rl exc rest, hp, n, h => by
    unfold way at h
    split at h
    · rcases List.mem_cons.mp h with rfl | h
      · exact hp.1
      · exact way_every cs hp.2.1 n h
    · exact way_every cs hp.2.2 n h
end RF
section
variable {P : Program} {w : World} {K : PySem.W.Frag} {mg : Str → Option Value} {base : Heap} {C R : Addr}
/-- the class Condition, with its call -/
structure CondW (P : Program) (w : World) (K : PySem.W.Frag) (mg : Str → Option Value) (base : Heap) (C : Addr) : Prop extends CondG P w K mg base C where
  call : MethO P w K mg base CX0 1 C "__call__" ["self", "case"] (sp_ccall K C)
theorem pe_cK {X : Cx} {C : Addr} {te : TE} {t : TA} {x : Str} {e : Expr} {es : List Expr} {p pos : Pos} (M : CondW X.prog X.w X.K X.mg X.base C) (hr : Room 1 X.A) (ho : PE X (.Name x p) te) (ha : PA X (e :: es) t)
    (he : starEach (e :: es) X.env = (false, eval e X.env) :: starEach es X.env := by rfl) (hpl : (backTo pos (starEach es X.env)).any (·.1) = false := by rfl) : PE X (.Call (.Name x p) (e :: es) [] pos) (tCallO C (sp_ccall X.K C) E0 te t) := by
  obtain ⟨g, fd, h1, h2, h3, F, hb⟩ := M.call.ex
  exact pe_callO h1 h2 h3 F hr hb pass0 ho ha he hpl
/-- a rule, and whether it is met, in a tuple -/
def StepAt (K : PySem.W.Frag) (C R : Addr) (N : Addr → Prop) (H : Hp) (v : V) (q : Nd × Bool) : Prop := ∃ t o, v = .ref t ∧ H t = some (.tup [.ref o, .bl q.2]) ∧ NdAt K C R N H o q.1
theorem StepAt.keeps {N : Addr → Prop} {H H' : Hp} {v : V} {q : Nd × Bool} (h : StepAt K C R N H v q) (k : Keeps N H H') : StepAt K C R N H' v q := by
  obtain ⟨t, o, e, h1, h2⟩ := h
  exact ⟨t, o, e, k _ _ stays_tup h1, h2.keeps k⟩
theorem StepAt.re {N M : Addr → Prop} {H : Hp} (g : ∀ b xs, N b → H b = some (.lst xs) → M b) {v : V} {q : Nd × Bool} (h : StepAt K C R N H v q) : StepAt K C R M H v q := by
  obtain ⟨t, o, e, h1, h2⟩ := h
  exact ⟨t, o, e, h1, h2.re g⟩
def sp_upto (K : PySem.W.Frag) (C R : Addr) : Sp := fun vs H Q _ => ∃ (N : Addr → Prop) (p c : Addr) (cs : List Str) (ws : List V) (f : RF), vs = [.ref p, .ref c] ∧ SqT K H p ws ∧ ForAt K C R N H f ws ∧ SqT K H c (cs.map V.str) ∧ f.size ≤ 900 ∧ f.every NdOk ∧
  ∀ H' D us, Same H H' → H' D = some (.lst us) → All2 (StepAt K C R N H') us (f.upto cs) → Q (.ref D) H'
theorem ok_upto {f : Addr} {fd : FuncData} (F : Fun K "up_to_first_met" "up_to_first_met" s_up_to_first_met f fd) (Bl : Blt mg) (kR : RuleX P w K mg base R) (kK : CondW P w K mg base C) :
    FnOk P w K mg base CX0 6 f fd ["rules", "case"] (sp_upto K C R) := by
  refine F.ok sc_up_to_first_met (fun vs H Q E h => by obtain ⟨N, p, c, cs, ws, f, rfl, _⟩ := h; rfl) (fun cdv A outer s H vs Q E hr h => ?_)
  obtain ⟨N, p, c, cs, ws, f, rfl, hP, hF, hC, hz, hev, q⟩ := h
  refine ⟨_, (pss_cons (ps_set (i := 2) sc_up_to_first_met.nd rfl (Or.inl rfl) (pe_lst pa_nil))
      (pss_cons (ps_for PassesOwn.never rfl (pi_tup (pv 0)) (pg_name (i := 3) sc_up_to_first_met.nd rfl (Or.inl rfl)) (pss_cons (ps_set (i := 4) sc_up_to_first_met.nd rfl (Or.inl rfl) (pe_cprop kR.condition kR.cls (hr.mono (by decide)) (pv 3)))
      (pss_cons (ps_set (i := 5) sc_up_to_first_met.nd rfl (Or.inl rfl) (pe_cK kK (hr.mono (by decide)) (pv 4) (pa_cons (pv 1) pa_nil)))
      (pss_cons (ps_expr (pe_bm PySem.F.plainAttrs_list PySem.F.slot_list_append PySem.F.type_list_append mt_append (pv 2) (pa_cons (pe_tup (pa_cons (pv 3) (pa_cons (pv 5) pa_nil))) pa_nil)))
      (pss_one (ps_if (pt_val (pv 5)) (pss_one ps_break) pss_nil))))))
      (pss_one (ps_ret (pv 2))))), ?_⟩
  have hA := hF.used.all
  have hln := hA.len
  have hlz := RF.nodes_le f
  refine ⟨Nat.zero_le _, fun D nD => ⟨_, rfl, p, rfl, ⟨_, ((Same.refl H).put nD).tup hP⟩, for_it walk_tup (fun i σ H' => ∃ (us : List V) (y3 y4 y5 : Option V), σ = [some (.ref p), some (.ref c), some (.ref D), y3, y4, y5] ∧ Same H H' ∧ H' D = some (.lst us) ∧ All2 (StepAt K C R (Used N H) H') us ((f.nodes.take i).map fun n => (n, false)) ∧ ∀ m ∈ f.nodes.take i, m.met cs = false)
    ⟨[], none, none, none, rfl, (Same.refl H).put nD, upd_same, .nil, fun m hm => nomatch hm⟩ (fun _ _ _ _ ⟨_, _, _, _, _, s, _⟩ => s.tup hP) ?_ ?_⟩⟩
  · rintro i y σ H3 H2 hi ⟨us, y3, y4, y5, rfl, s, e, hu, hno⟩ ⟨rfl, hy⟩
    have nU := used_not (N := N) nD
    obtain ⟨n, hn, o, rfl, hN⟩ := hA.get hy
    have hmem : n ∈ f.nodes := List.mem_of_getElem? hn
    obtain ⟨hok, hne⟩ := RF.every_nodes.mp hev n hmem
    have hlen := hok.len
    have hul := hu.len
    rw [List.length_map, List.length_take] at hul
    have hN2 := hN.keeps (N := Used N H) s.keeps
    obtain ⟨dx, k, pe, l, ws', ho, hc, hpe, hl, hfe⟩ := id hN2
    obtain ⟨dxk, hk⟩ : ∃ (dxk : Addr) (fk : _), H2 k = some (.ins C dxk fk) := by obtain ⟨dxk, _, _, _, _, hk, _⟩ := id hc; exact ⟨_, _, hk⟩
    obtain ⟨fk, hk⟩ := hk
    refine ⟨_, rfl, o, dx, _, rfl, ho, ⟨o, dx, _, _, rfl, ho, rfl, ?_⟩⟩
    refine ⟨_, rfl, k, rfl, _, rfl, ⟨dxk, _, hk⟩, k, c, n.hs, n.fs, cs, rfl, hc, s.tup hC, by omega, by omega, fun H4 s4 => ?_⟩
    have s04 := s.trans s4
    refine ⟨_, rfl, .inl ⟨rfl, _, sqL_of (s4 _ _ e)⟩, _, rfl, _, rfl, (by show 2 ≤ sizeLine; decide), fun t nt => ?_⟩
    have s5 : Same H4 (upd H4 t (.tup [.ref o, .bl (n.met cs)])) := (Same.refl H4).put nt
    have t5 : (upd H4 t (.tup [.ref o, .bl (n.met cs)])) t = some (.tup [.ref o, .bl (n.met cs)]) := upd_same
    generalize upd H4 t (.tup [.ref o, .bl (n.met cs)]) = H5 at s5 t5 ⊢
    have s45 := s4.trans s5
    have e5 := s45 _ _ e
    refine ⟨D, _, _, rfl, rfl, e5, small1000 (by omega), ?_⟩
    have s06 : Same H (upd H5 D (.lst (us ++ [.ref t]))) := (s.trans s45).put nD
    have e6 : (upd H5 D (.lst (us ++ [.ref t]))) D = some (.lst (us ++ [.ref t])) := upd_same
    have tD : t ≠ D := fun z => by rw [z, e5] at t5; cases t5
    have hu6 : All2 (StepAt K C R (Used N H) (upd H5 D (.lst (us ++ [.ref t])))) (us ++ [.ref t]) (((f.nodes.take i).map fun n => (n, false)) ++ [(n, n.met cs)]) :=
      (hu.mono fun _ _ x => (x.keeps s45.keeps).keeps (keeps_own e5 nU)).snoc ⟨t, o, rfl, by rw [upd_ne tD]; exact t5, (hN2.keeps s45.keeps).keeps (keeps_own e5 nU)⟩
    generalize upd H5 D (.lst (us ++ [.ref t])) = H6 at s06 e6 hu6 ⊢
    refine ⟨_, rfl, _, rfl, bcase (fun c1 => ?_) (fun c1 => ?_)⟩
    · refine ⟨_, rfl, q H6 D _ s06 e6 ?_⟩
      unfold RF.upto
      rw [uptoL_hit hn c1 hno]
      have c1 : n.met cs = true := c1
      rw [c1] at hu6
      exact hu6.mono fun _ _ x => x.re fun b xs h _ => h.1
    · have c1 : n.met cs = false := c1
      rw [c1] at hu6
      refine ⟨_, _, _, _, rfl, s06, e6, ?_, ?_⟩
      · rw [take_more hn, List.map_append]
        exact hu6
      · rw [take_more hn]
        intro m hm
        rcases List.mem_append.mp hm with hm | hm
        · exact hno m hm
        · rw [List.mem_singleton.mp hm]; exact c1
  · rintro σ H2 ⟨us, y3, y4, y5, rfl, s, e, hu, hno⟩
    rw [hln, List.take_length] at hu hno
    refine ⟨_, rfl, q H2 D us s e ?_⟩
    unfold RF.upto
    rw [uptoL_end hno]
    exact hu.mono fun _ _ x => x.re fun b xs h _ => h.1
def sp_steps (K : PySem.W.Frag) (C R : Addr) : Sp := fun vs H Q _ => ∃ (N : Addr → Prop) (p c : Addr) (cs : List Str) (ws : List V) (f : RF), vs = [.ref p, .ref c] ∧ SqT K H p ws ∧ ForAt K C R N H f ws ∧ SqT K H c (cs.map V.str) ∧ f.size ≤ 900 ∧ f.every NdOk ∧
  ∀ H' D us, Same H H' → H' D = some (.lst us) → All2 (StepAt K C R N H') us (f.steps cs) → Q (.ref D) H'
theorem ok_steps {f : Addr} {fd : FuncData} (F : Fun K "steps" "steps" s_steps f fd) (Bl : Blt mg) (kR : RuleX P w K mg base R) (c_up_to_first_met : Cal P w K mg base CX0 6 "up_to_first_met" ["rules", "case"] (sp_upto K C R)) :
    FnOk P w K mg base CX0 8 f fd ["rules", "case"] (sp_steps K C R) := by
  refine F.ok sc_steps (fun vs H Q E h => by obtain ⟨N, p, c, cs, ws, f, rfl, _⟩ := h; rfl) (fun cdv A outer s H vs Q E hr h => ?_)
  obtain ⟨N, p, c, cs, ws, f, rfl, hP, hF, hC, hz, hev, q⟩ := h
  refine ⟨_, (pss_cons (ps_set (i := 2) sc_steps.nd rfl (Or.inl rfl) (pe_lst pa_nil))
      (pss_cons (ps_while PassesOwn.never (pt_tru (pv 0) (by intro _; rfl)) (pss_cons (ps_expr (pe_bm PySem.F.plainAttrs_list PySem.F.slot_list_extend PySem.F.type_list_extend mt_extend (pv 2) (pa_cons (pe_cal c_up_to_first_met (hr.mono (by decide)) (pa_cons (pv 0) (pa_cons (pv 1) pa_nil))) pa_nil)))
      (pss_cons (ps_asg (pe_ix ix_list (pv 2) (pe_un un_neg pe_int) (fun _ _ => rfl)) (pg_tup (by rfl) (pgs_cons (pg_name (i := 3) sc_steps.nd rfl (Or.inl rfl)) (pgs_cons (pg_name (i := 4) sc_steps.nd rfl (Or.inl rfl)) pgs_nil))))
      (pss_one (ps_set (i := 0) sc_steps.nd rfl (Or.inl rfl) (pe_ifExp (pt_val (pv 4)) (pe_cprop kR.exceptions kR.cls (hr.mono (by decide)) (pv 3)) (pe_tup pa_nil)))))))
      (pss_one (ps_ret (pv 2))))), ?_⟩
  have hmax := RF.steps_size cs f
  refine ⟨Nat.zero_le _, fun D nD => ⟨fun k σ H' => ∃ (g : RF) (p' : Addr) (ws us : List V) (acc : List (Nd × Bool)) (y3 y4 : Option V), k = g.dep ∧ σ = [some (.ref p'), some (.ref c), some (.ref D), y3, y4] ∧ Same H H' ∧ SqT K H' p' ws ∧ ForAt K C R (Used N H) H' g ws ∧ H' D = some (.lst us) ∧ All2 (StepAt K C R (Used N H) H') us acc ∧ f.steps cs = acc ++ g.steps cs ∧ g.size ≤ f.size ∧ g.every NdOk,
    ⟨_, f, p, ws, [], [], none, none, rfl, rfl, (Same.refl H).put nD, ((Same.refl H).put nD).tup hP, hF.used.keeps ((Same.refl H).put nD).keeps, upd_same, .nil, rfl, Nat.le_refl _, hev⟩, ?_⟩⟩
  have nU := used_not (N := N) nD
  rintro k σ H1 ⟨g, p', ws, us, acc, y3, y4, rfl, rfl, s, hP', hG, e, hu, hst, hsz, hgev⟩
  have hgl := hG.all.len
  refine ⟨_, rfl, _, .inr (.inl ⟨_, hP', rfl⟩), bcase (fun c1 => ?_) (fun c1 => ?_)⟩
  · have hg : g ≠ .nil := fun z => by
      subst z
      have hG : ws = [] := hG
      rw [hG] at c1
      cases c1
    have hne := uptoL_ne (cs := cs) (RF.nodes_ne hg)
    obtain ⟨qs, q', hq⟩ : ∃ qs q', g.upto cs = qs ++ [q'] := (List.eq_nil_or_concat (g.upto cs)).elim (fun z => absurd z hne) fun ⟨a, b, e⟩ => ⟨a, b, by rw [e, List.concat_eq_append]⟩
    have hmem : q'.1 ∈ g.nodes := uptoL_mem (cs := cs) (by show q' ∈ g.upto cs; rw [hq]; exact List.mem_append_right _ (List.mem_singleton.mpr rfl))
    have hdm := RF.dep_mem g q'.1 hmem
    have hsm := RF.size_mem g q'.1 hmem
    have hnx := RF.next_of hq
    have hsu := RF.steps_upto cs g
    have hslen : acc.length + (g.upto cs).length + ((g.next cs).steps cs).length = (f.steps cs).length := by rw [hst, hsu, List.length_append, List.length_append]; omega
    have hul := hu.len
    refine ⟨fun σ' H' => ∃ (g' : RF) (p2 : Addr) (ws2 us2 : List V) (acc2 : List (Nd × Bool)) (z3 z4 : Option V), g'.dep < g.dep ∧ σ' = [some (.ref p2), some (.ref c), some (.ref D), z3, z4] ∧ Same H H' ∧ SqT K H' p2 ws2 ∧ ForAt K C R (Used N H) H' g' ws2 ∧ H' D = some (.lst us2) ∧ All2 (StepAt K C R (Used N H) H') us2 acc2 ∧ f.steps cs = acc2 ++ g'.steps cs ∧ g'.size ≤ f.size ∧ g'.every NdOk,
      fun σ' H' ⟨g', p2, ws2, us2, acc2, z3, z4, lt, x⟩ => ⟨_, lt, g', p2, ws2, us2, acc2, z3, z4, rfl, x⟩, ?_⟩
    refine ⟨_, rfl, .inl ⟨rfl, _, sqL_of e⟩, _, rfl, _, rfl, Used N H, p', c, cs, ws, g, rfl, hP', hG, s.tup hC, by omega, hgev, fun H2 D2 us2 s2 e2 hu2 => ?_⟩
    have eD := s2 _ _ e
    have hul2 := hu2.len
    refine ⟨D, D2, _, _, rfl, rfl, eD, e2, by rw [sizeLine_eq]; omega, ?_⟩
    have s12 := s.trans s2
    have hk : Keeps (Used N H) H2 (upd H2 D (.lst (us ++ us2))) := keeps_own eD nU
    have s13 : Same H (upd H2 D (.lst (us ++ us2))) := s12.put nD
    have e3 : (upd H2 D (.lst (us ++ us2))) D = some (.lst (us ++ us2)) := upd_same
    have hu3 : All2 (StepAt K C R (Used N H) (upd H2 D (.lst (us ++ us2)))) (us ++ us2) (acc ++ g.upto cs) := (hu.mono fun _ _ x => (x.keeps s2.keeps).keeps hk).app (hu2.mono fun _ _ x => x.keeps hk)
    generalize upd H2 D (.lst (us ++ us2)) = H3 at s13 e3 hu3 ⊢
    rw [hq, List.length_append, List.length_singleton] at hul2
    obtain ⟨vs, v, hv⟩ : ∃ vs v, us2 = vs ++ [v] := (List.eq_nil_or_concat us2).elim (fun z => by rw [z] at hul2; cases hul2) fun ⟨a, b, e⟩ => ⟨a, b, by rw [e, List.concat_eq_append]⟩
    subst hv
    rw [List.length_append, List.length_singleton] at hul2
    have hlast : StepAt K C R (Used N H) H3 v q' := by
      have h1 : (us ++ (vs ++ [v]))[us.length + vs.length]? = some v := by rw [← List.append_assoc, ← List.length_append, List.getElem?_concat_length]
      obtain ⟨q2, h2, h3⟩ := hu3.get h1
      have h4 : (acc ++ g.upto cs)[us.length + vs.length]? = some q' := by rw [hq, ← List.append_assoc, show us.length + vs.length = (acc ++ qs).length by rw [List.length_append]; omega, List.getElem?_concat_length]
      rw [h4] at h2
      cases h2
      exact h3
    obtain ⟨t, o, rfl, ht, hN⟩ := hlast
    refine ⟨_, rfl, 1, rfl, D, _, _, _, rfl, rfl, sqL_of e3, (by rw [← List.append_assoc]; exact atI_last _ _), ?_⟩
    refine ⟨t, [.ref o, .bl q'.2], rfl, sqT_of ht, rfl, _, _, rfl, _, _, rfl, rfl, ?_⟩
    obtain ⟨dx, k', pe, l, ws', ho, hc, hpe, hl, hfe⟩ := id hN
    obtain ⟨hok', hne'⟩ := RF.every_nodes.mp hgev _ hmem
    refine ⟨_, rfl, _, rfl, bcase (fun c2 => ?_) (fun c2 => ?_)⟩
    · have c2 : q'.2 = true := c2
      rw [if_pos c2] at hnx
      refine ⟨_, rfl, o, dx, _, rfl, ho, ⟨o, dx, _, _, rfl, ho, rfl, ?_⟩⟩
      refine ⟨q'.1.exc, pe, ws', _, acc ++ g.upto cs, _, _, by omega, rfl, s13, hpe, hfe, e3, hu3, ?_, by omega, hne'⟩
      rw [hst, hsu, hnx, List.append_assoc]
    · have c2 : q'.2 = false := c2
      rw [if_neg (by rw [c2]; exact Bool.false_ne_true)] at hnx
      refine ⟨Nat.zero_le _, fun t0 n0 => ?_⟩
      have s4 : Same H3 (upd H3 t0 (.tup [])) := (Same.refl H3).put n0
      refine ⟨.nil, t0, [], _, acc ++ g.upto cs, _, _, RF.dep_pos hg, rfl, s13.trans s4, sqT_new, rfl, s4 _ _ e3, hu3.mono fun _ _ x => x.keeps s4.keeps, ?_, Nat.zero_le _, trivial⟩
      rw [hst, hsu, hnx, List.append_assoc]
  · have hg : g = .nil := by
      cases g with
      | nil => rfl
      | cons nm hs fs rl exc rest => 
        obtain ⟨o, dx, c', p2, l2, ws1, vs', rfl, _⟩ := hG
        cases c1
    subst hg
    have hst : f.steps cs = acc := by rw [hst]; exact List.append_nil _
    refine ⟨_, rfl, q H1 D us s e ?_⟩
    rw [hst]
    exact hu.mono fun _ _ x => x.re fun b xs h _ => h.1
def sp_looked (K : PySem.W.Frag) (C R : Addr) : Sp := fun vs H Q _ => ∃ (N : Addr → Prop) (p c : Addr) (cs : List Str) (ws : List V) (f : RF), vs = [.ref p, .ref c] ∧ SqT K H p ws ∧ ForAt K C R N H f ws ∧ SqT K H c (cs.map V.str) ∧ f.size ≤ 900 ∧ f.every NdOk ∧
  ∀ H' D us, Same H H' → H' D = some (.lst us) → All2 (RefAt K C R N H') us (f.way cs) → Q (.ref D) H'
def into (qs : List (Nd × Bool)) : List Nd := (qs.filter fun q => q.2).map fun q => q.1
theorem ok_looked {f : Addr} {fd : FuncData} (F : Fun K "looked_into" "looked_into" s_looked_into f fd) (Bl : Blt mg) (c_steps : Cal P w K mg base CX0 8 "steps" ["rules", "case"] (sp_steps K C R)) :
    FnOk P w K mg base CX0 9 f fd ["rules", "case"] (sp_looked K C R) := by
  refine F.ok sc_looked_into (fun vs H Q E h => by obtain ⟨N, p, c, cs, ws, f, rfl, _⟩ := h; rfl) (fun cdv A outer s H vs Q E hr h => ?_)
  obtain ⟨N, p, c, cs, ws, f, rfl, hP, hF, hC, hz, hev, q⟩ := h
  refine ⟨_, (pss_one (ps_ret (pe_lc (own := [("rule", 2), ("met", 3)]) (g := gTup K 2 (gCons (gName 2) (gCons (gName 3) gNil))) rfl sc_looked_into.nd (pi_list (pe_cal c_steps (hr.mono (by decide)) (pa_cons (pv 0) (pa_cons (pv 1) pa_nil)))) (blkOk_by (own := [("rule", 2), ("met", 3)]) (N := ["rules", "case", "rule", "met"]) (sc := defScope s_looked_into) (by decide +kernel)) (fun _ _ _ _ _ => (pg_tup (by rfl) (pgs_cons (pg_name (i := 2) sc_looked_into.nd rfl (Or.inl rfl)) (pgs_cons (pg_name (i := 3) sc_looked_into.nd rfl (Or.inl rfl)) pgs_nil)))) (fun _ _ _ _ _ => (pts_.re (pts_one (pt_val (pv 3))) (by first | (dsimp only [Cx.blk]; done) | exact rfl))) (fun _ _ _ _ _ => (pe_.re (pv 2) (by first | (dsimp only [Cx.blk]; done) | exact rfl)))))), ?_⟩
  have hmax := RF.steps_size cs f
  refine ⟨_, rfl, _, rfl, N, p, c, cs, ws, f, rfl, hP, hF, hC, hz, hev, fun H1 D us s1 eD hu => ?_⟩
  have hul := hu.len
  refine ⟨D, rfl, ⟨_, sqL_of eD⟩, fun D2 nD2 => lc_it walk_list (fun i H' => Same H1 H' ∧ ∃ rs, H' D2 = some (.lst rs) ∧ All2 (RefAt K C R N H1) rs (into ((f.steps cs).take i))) ⟨(Same.refl H1).put nD2, [], upd_same, .nil⟩ (fun _ _ _ h => sqL_of (h.1 _ _ eD)) ?_ ?_⟩
  · rintro i y H3 H2 hi ⟨s, rs, e, hr2⟩ ⟨rfl, hy⟩
    obtain ⟨⟨n, b⟩, hq, t, o, rfl, ht, hN⟩ := hu.get hy
    have ht := s _ _ ht
    have hrl := hr2.len
    have hil : (into ((f.steps cs).take i)).length ≤ 900 := by
      unfold into
      rw [List.length_map]
      exact Nat.le_trans (List.length_filter_le _ _) (by rw [List.length_take]; omega)
    refine ⟨t, [.ref o, .bl b], rfl, sqT_of ht, rfl, _, _, rfl, _, _, rfl, rfl, ?_⟩
    refine ⟨rfl, _, rfl, _, rfl, bcase (fun c1 => ?_) (fun c1 => ?_)⟩
    · have c1 : b = true := c1
      subst c1
      refine ⟨_, rfl, rs, e, small1000 (by omega), s.put nD2, _, upd_same, ?_⟩
      rw [take_more hq]
      unfold into at hr2 ⊢
      rw [List.filter_append, List.map_append]
      exact hr2.snoc ⟨o, rfl, hN⟩
    · have c1 : b = false := c1
      subst c1
      refine ⟨s, _, e, ?_⟩
      rw [take_more hq]
      unfold into at hr2 ⊢
      rw [List.filter_append, show List.filter (fun q : Nd × Bool => q.2) [(n, false)] = [] from rfl, List.append_nil]
      exact hr2
  rintro H2 ⟨s, rs, e, hr2⟩
  rw [hu.len, List.take_length] at hr2
  unfold into at hr2
  rw [RF.steps_way] at hr2
  exact q H2 D2 rs (s1.trans s) e (hr2.mono fun _ _ x => x.keeps s.keeps)
end
end Sc
namespace Sc
open PySem PySem.Spec PyProof.Rows L2
/-! ### the case with a number -/
def bitAt (n : Int) (j : Nat) : Bool := Builtin.bitAnd (n / 2 ^ j) 1 != 0
def namesL (facts : List Str) (n : Int) (i : Nat) : List Str := (List.range i).filterMap fun j => if bitAt n j = true then facts[j]? else none
def namesOf (facts : List Str) (n : Int) : List Str := namesL facts n facts.length
theorem namesL_more {facts : List Str} {n : Int} {i : Nat} {x : Str} (h : bitAt n i = true) (hx : facts[i]? = some x) : namesL facts n (i + 1) = namesL facts n i ++ [x] := by
  unfold namesL
  rw [List.range_succ, List.filterMap_append]
  simp [h, hx]
theorem namesL_same {facts : List Str} {n : Int} {i : Nat} (h : bitAt n i = false) : namesL facts n (i + 1) = namesL facts n i := by
  unfold namesL
  rw [List.range_succ, List.filterMap_append]
  simp [h]
theorem namesL_len {facts : List Str} {n : Int} {i : Nat} : (namesL facts n i).length ≤ i := by
  unfold namesL
  exact Nat.le_trans (List.length_filterMap_le _ _) (by rw [List.length_range]; exact Nat.le_refl i)
theorem bit_mod (n : Int) (j : Nat) : bitAt n j = decide (n / 2 ^ j % 2 = 1) := by
  unfold bitAt
  have e : Builtin.bitAnd (n / 2 ^ j) 1 = n / 2 ^ j % 2 := bitAnd_m1 (n / 2 ^ j)
  rw [e]
  rcases Int.emod_two_eq (n / 2 ^ j) with h | h <;> rw [h] <;> rfl
theorem fm_sub {facts : List Str} {n : Int} : ∀ k i, List.Sublist ((List.range' i k).filterMap fun j => if bitAt n j = true then facts[j]? else none) (facts.drop i)
  | 0, i => List.nil_sublist _
  | k + 1, i => by
    have ih := fm_sub (facts := facts) (n := n) k (i + 1)
    rw [List.range'_succ, List.filterMap_cons]
    by_cases hi : i < facts.length
    · rw [List.drop_eq_getElem_cons hi]
      by_cases b : bitAt n i = true
      · rw [if_pos b, List.getElem?_eq_getElem hi]
        exact ih.cons₂ _
      · rw [if_neg b]
        exact ih.cons _
    · have e : (if bitAt n i = true then facts[i]? else none) = none := by
        split
        · exact List.getElem?_eq_none (by omega)
        · rfl
      rw [e]
      rw [List.drop_eq_nil_of_le (by omega)] at ih ⊢
      exact ih
theorem names_sub (facts : List Str) (n : Int) : List.Sublist (namesOf facts n) facts := by
  unfold namesOf namesL
  rw [List.range_eq_range']
  exact fm_sub (facts := facts) (n := n) facts.length 0
theorem out_sub {xs cs ns : List Str} (s : List.Sublist ns cs) (m : ∀ x ∈ cs, x ∈ xs) (u : cs.Pairwise SLt) : firstOut xs ns = none := by
  unfold firstOut
  rw [List.find?_eq_none]
  intro i hi
  have hi := List.mem_range.mp hi
  unfold outAt
  rw [List.getElem?_eq_getElem hi, rises_pw (u.sublist s) hi]
  have : ns[i] ∈ xs := m _ (s.subset (List.getElem_mem hi))
  simp [this]
end Sc
namespace Sc
open PySem PySem.Spec PyProof.Rows L2
theorem sc_bits_of : FnScope ["facts", "names", "place", "name"] ["facts", "names"] (defScope s_bits_of) := ⟨rfl, rfl, rfl, by decide +kernel, rfl, by decide +kernel, by decide +kernel⟩
section
variable {P : Program} {w : World} {K : PySem.W.Frag} {mg : Str → Option Value} {base : Heap}
/-- the j-th fact is among the names -/
def heldAt (facts names : List Str) (j : Nat) : Bool := match facts[j]? with | some x => decide (x ∈ names) | none => false
def bitsL (facts names : List Str) (i : Nat) : List Int := ((List.range i).filter (heldAt facts names)).map fun j => 2 ^ j
def bitsOf (facts names : List Str) : Int := (bitsL facts names facts.length).sum
theorem bitsL_more {facts names : List Str} {i : Nat} (h : heldAt facts names i = true) : bitsL facts names (i + 1) = bitsL facts names i ++ [2 ^ i] := by
  unfold bitsL
  rw [List.range_succ, List.filter_append, List.map_append]
  simp [h]
theorem bitsL_same {facts names : List Str} {i : Nat} (h : heldAt facts names i = false) : bitsL facts names (i + 1) = bitsL facts names i := by
  unfold bitsL
  rw [List.range_succ, List.filter_append, List.map_append]
  simp [h]
theorem bitsL_len {facts names : List Str} {i : Nat} : (bitsL facts names i).length ≤ i := by
  unfold bitsL
  rw [List.length_map]
  exact Nat.le_trans (List.length_filter_le _ _) (by rw [List.length_range]; exact Nat.le_refl i)
def sp_bits_of (K : PySem.W.Frag) : Sp := fun vs H Q _ => ∃ (a b : Addr) (xs cs : List Str), vs = [.ref a, .ref b] ∧ SqT K H a (xs.map V.str) ∧ SqT K H b (cs.map V.str) ∧ xs.length ≤ 1000 ∧ ∀ H', Same H H' → Q (.int (bitsOf xs cs)) H'
theorem ok_bits_of {f : Addr} {fd : FuncData} (F : Fun K "bits_of" "bits_of" s_bits_of f fd) (B : Blt mg) : FnOk P w K mg base CX0 1 f fd ["facts", "names"] (sp_bits_of K) := by
  refine F.ok sc_bits_of (fun vs H Q E h => by obtain ⟨a, b, xs, cs, rfl, _⟩ := h; rfl) (fun cdv A outer s H vs Q E hr h => ?_)
  obtain ⟨a, b, xs, cs, rfl, hS, hC, hl, q⟩ := h
  refine ⟨_, (pss_one (ps_ret (pe_callB (cr_sum rfl) (by rfl) B.b_sum PyProof.Rows.boot_sum (pa_cons (pe_lc (own := [("place", 2), ("name", 3)]) (g := gTup K 2 (gCons (gName 2) (gCons (gName 3) gNil))) rfl sc_bits_of.nd (pi_enumT (by rfl) B.b_enumerate (pa_cons (pv 0) pa_nil)) (blkOk_by (own := [("place", 2), ("name", 3)]) (N := ["facts", "names", "place", "name"]) (sc := defScope s_bits_of) (by decide +kernel)) (fun _ _ _ _ _ => (pg_tup (by rfl) (pgs_cons (pg_name (i := 2) sc_bits_of.nd rfl (Or.inl rfl)) (pgs_cons (pg_name (i := 3) sc_bits_of.nd rfl (Or.inl rfl)) pgs_nil)))) (fun _ _ _ _ _ => (pts_.re (pts_one (pt_cmpR op_in_seq (pv 3) (pv 1) rfl)) (by first | (dsimp only [Cx.blk]; done) | exact rfl))) (fun _ _ _ _ _ => (pe_.re (pe_op op_shl pe_int (pv 2)) (by first | (dsimp only [Cx.blk]; done) | exact rfl)))) pa_nil)))), ?_⟩
  refine ⟨.ref a, rfl, a, _, rfl, hS, fun D nD => lc_it walk_enumT (fun i H' => Same H H' ∧ H' D = some (.lst ((bitsL xs cs i).map V.int))) ⟨(Same.refl H).put nD, upd_same⟩ (fun _ _ _ h => h.1.tup hS) ?_ ?_⟩
  · rintro i y H2 H3 hi ⟨s, e⟩ ⟨T, v1, v2, rfl, nT, rfl, h1, h2⟩
    obtain rfl : V.int (i : Nat) = v1 := Option.some.inj h1
    rw [List.length_map] at hi
    have hx : xs[i]? = some xs[i] := List.getElem?_eq_getElem hi
    obtain rfl : V.str xs[i] = v2 := strAt_inj hx h2
    have s3 : Same H (upd H2 T (.tup [.int (i : Nat), .str xs[i]])) := s.put' nT
    have e3 : (upd H2 T (.tup [.int (i : Nat), .str xs[i]])) D = some (.lst ((bitsL xs cs i).map V.int)) := by rw [upd_ne (ne_of_none e nT)]; exact e
    have eh : heldAt xs cs i = decide (xs[i] ∈ cs) := by unfold heldAt; rw [hx]
    refine ⟨T, [.int (i : Nat), .str xs[i]], rfl, sqT_new, rfl, _, _, rfl, _, _, rfl, rfl, rfl, ?_⟩
    refine ⟨.str xs[i], rfl, .ref b, rfl, b, _, rfl, .inr (s3.tup hC), rfl, flat_strs cs, _, rfl, bcase (fun c1 => ?_) (fun c1 => ?_)⟩
    · have c1 : heldAt xs cs i = true := by rw [eh, ← inV_str]; exact c1
      refine ⟨.int (i : Nat), rfl, 1, i, rfl, rfl, ⟨by omega, by omega, by decide⟩, grow (acc := fun i => (bitsL xs cs i).map V.int) nD s3 e3 ?_ ?_⟩
      · rw [List.length_map]
        exact small1000 (Nat.le_trans bitsL_len (by omega))
      · show List.map V.int _ = _
        rw [bitsL_more c1, List.map_append]
        show _ ++ [V.int (2 ^ i)] = _ ++ [V.int (1 * 2 ^ i)]
        rw [Int.one_mul]
    · have c1 : heldAt xs cs i = false := by rw [eh, ← inV_str]; exact c1
      refine ⟨s3, ?_⟩
      rw [bitsL_same c1]
      exact e3
  · rintro H2 ⟨s, e⟩
    rw [List.length_map] at e
    exact ⟨D, bitsL xs cs xs.length, rfl, sqL_of e, q H2 s⟩
def bsum (xs cs : List Str) (i : Nat) : Int := (bitsL xs cs i).sum
theorem bsum_succ {xs cs : List Str} {i : Nat} : bsum xs cs (i + 1) = bsum xs cs i + (if heldAt xs cs i = true then 2 ^ i else 0) := by
  unfold bsum
  split
  · rename_i h
    rw [bitsL_more h, List.sum_append]
    simp
  · rename_i h
    rw [bitsL_same (by simpa using h)]
    simp
theorem bsum_lt {xs cs : List Str} : ∀ i, 0 ≤ bsum xs cs i ∧ bsum xs cs i < 2 ^ i
  | 0 => by unfold bsum bitsL; simp
  | i + 1 => by
    obtain ⟨h0, h1⟩ := bsum_lt (xs := xs) (cs := cs) i
    rw [bsum_succ, Int.pow_succ]
    split <;> omega
theorem bsum_bit {xs cs : List Str} : ∀ i j, j < i → bitAt (bsum xs cs i) j = heldAt xs cs j
  | 0, j, h => absurd h (Nat.not_lt_zero j)
  | i + 1, j, h => by
    obtain ⟨h0, h1⟩ := bsum_lt (xs := xs) (cs := cs) i
    rw [bsum_succ, bit_mod]
    by_cases e : j = i
    · subst e
      have p : (0 : Int) < 2 ^ j := Int.pow_pos (by decide)
      split
      · rename_i hh
        have e1 : (bsum xs cs j + 2 ^ j) / 2 ^ j = 1 := by
          rw [Int.add_ediv_of_dvd_right (Int.dvd_refl _), Int.ediv_self (by omega), Int.ediv_eq_zero_of_lt h0 h1]
          rfl
        rw [e1, hh]
        rfl
      · rename_i hh
        rw [Int.add_zero, Int.ediv_eq_zero_of_lt h0 h1]
        have hh : heldAt xs cs j = false := by simpa using hh
        rw [hh]
        rfl
    · have hj : j < i := by omega
      rw [← bsum_bit i j hj, bit_mod]
      split
      · have p : (0 : Int) < 2 ^ j := Int.pow_pos (by decide)
        have e2 : (2 : Int) ^ i = 2 ^ j * (2 * 2 ^ (i - j - 1)) := by
          rw [← Int.pow_succ', ← Int.pow_add]
          congr 1
          omega
        rw [e2, Int.add_mul_ediv_left _ _ (by omega), Int.add_mul_emod_self_left]
      · rw [Int.add_zero]

theorem bit_0 (n : Int) : bitAt n 0 = decide (n % 2 = 1) := by
  rw [bit_mod]
  have : n / 2 ^ 0 = n := by rw [Int.pow_zero, Int.ediv_one]
  rw [this]
theorem bit_s (n : Int) (j : Nat) : bitAt n (j + 1) = bitAt (n / 2) j := by
  rw [bit_mod, bit_mod]
  have : n / 2 ^ (j + 1) = n / 2 / 2 ^ j := by
    rw [Int.pow_succ, Int.mul_comm, Int.ediv_ediv_of_nonneg (by decide)]
  rw [this]
theorem band_bit : ∀ (j : Nat) (x y : Int), bitAt (Builtin.bitAnd x y) j = (bitAt x j && bitAt y j)
  | 0, x, y => by
    rw [bit_0, bit_0, bit_0, PySem.W.kbt_halves x y]
    rcases Int.emod_two_eq x with h | h <;> rcases Int.emod_two_eq y with k | k <;> rw [h, k] <;> simp <;> omega
  | j + 1, x, y => by
    rw [bit_s, bit_s, bit_s, ← band_bit j]
    congr 1
    rw [PySem.W.kbt_halves x y]
    split <;> omega
theorem bnot_bit : ∀ (j : Nat) (x : Int), bitAt (Builtin.bitNot x) j = !bitAt x j
  | 0, x => by
    rw [bit_0, bit_0]
    show decide ((-x - 1) % 2 = 1) = !decide (x % 2 = 1)
    rcases Int.emod_two_eq x with h | h
    · rw [show (-x - 1) % 2 = 1 by omega, h]; rfl
    · rw [show (-x - 1) % 2 = 0 by omega, h]; rfl
  | j + 1, x => by
    rw [bit_s, bit_s, ← bnot_bit j]
    congr 1
    show (-x - 1) / 2 = -(x / 2) - 1
    omega
theorem held_bit {xs cs : List Str} {j : Nat} (h : j < xs.length) : bitAt (bitsOf xs cs) j = decide (xs[j] ∈ cs) := by
  have e : bitAt (bitsOf xs cs) j = heldAt xs cs j := bsum_bit (xs := xs) (cs := cs) xs.length j h
  rw [e]
  unfold heldAt
  rw [List.getElem?_eq_getElem h]
theorem names_filter {xs : List Str} {p : Str → Bool} {n : Int} (h : ∀ j (hj : j < xs.length), bitAt n j = p xs[j]) : namesOf xs n = xs.filter p := by
  unfold namesOf namesL
  have key : ∀ k, k ≤ xs.length → (List.range k).filterMap (fun j => if bitAt n j = true then xs[j]? else none) = (xs.take k).filter p := by
    intro k
    induction k with
    | zero => intro _; rfl
    | succ k ih =>
      intro hk
      have hx : xs[k]? = some xs[k] := List.getElem?_eq_getElem hk
      rw [List.range_succ, List.filterMap_append, ih (by omega), take_more hx, List.filter_append]
      congr 1
      rw [List.filterMap_cons, h k hk, hx]
      cases e : p xs[k] with
      | true => simp [e]
      | false => simp [e]
  have := key xs.length (Nat.le_refl _)
  rw [List.take_length] at this
  exact this
theorem small_zero : ∀ (k : Nat) (n : Int), 0 ≤ n → n < 2 ^ k → (∀ j, j < k → bitAt n j = false) → n = 0
  | 0, n, h0, h1, _ => by rw [Int.pow_zero] at h1; omega
  | k + 1, n, h0, h1, hb => by
    have h2 := hb 0 (Nat.succ_pos k)
    rw [bit_0, decide_eq_false_iff_not] at h2
    have h3 := small_zero k (n / 2) (by omega) (by rw [Int.pow_succ] at h1; omega) fun j hj => by rw [← bit_s]; exact hb (j + 1) (by omega)
    omega
theorem bits_range {xs cs : List Str} : 0 ≤ bitsOf xs cs ∧ bitsOf xs cs < 2 ^ xs.length := bsum_lt (xs := xs) (cs := cs) xs.length
/-- two numbers share no bit: the names share no fact -/
theorem band_zero {xs as bs : List Str} : Builtin.bitAnd (bitsOf xs as) (bitsOf xs bs) = 0 ↔ ∀ x ∈ xs, ¬ (x ∈ as ∧ x ∈ bs) := by
  obtain ⟨b0, b1⟩ := bits_range (xs := xs) (cs := bs)
  obtain ⟨r0, r1⟩ := bitAnd_range (bitsOf xs as) b0
  constructor
  · intro z x hx ⟨h1, h2⟩
    obtain ⟨j, hj, rfl⟩ := List.getElem_of_mem hx
    have := band_bit j (bitsOf xs as) (bitsOf xs bs)
    rw [z, held_bit hj, held_bit hj, decide_eq_true h1, decide_eq_true h2, bit_mod] at this
    rw [Int.zero_ediv] at this
    exact absurd this (by decide)
  · intro h
    refine small_zero xs.length _ r0 (by omega) fun j hj => ?_
    rw [band_bit, held_bit hj, held_bit hj, ← Bool.decide_and]
    exact decide_eq_false (h _ (List.getElem_mem hj))
/-- what is left of a part -/
theorem names_rest {xs as bs : List Str} : namesOf xs (Builtin.bitAnd (bitsOf xs as) (Builtin.bitNot (bitsOf xs bs))) = xs.filter fun x => decide (x ∈ as) && !decide (x ∈ bs) :=
  names_filter fun j hj => by rw [band_bit, bnot_bit, held_bit hj, held_bit hj]
end
end Sc
namespace Sc
open PySem PySem.Spec PyProof.Rows L2
theorem sc_cube_of : FnScope ["facts", "condition"] ["facts", "condition"] (defScope s_cube_of) := ⟨rfl, rfl, rfl, by decide +kernel, rfl, by decide +kernel, by decide +kernel⟩
theorem sc_clash : FnScope ["cube", "other"] ["cube", "other"] (defScope s_clash) := ⟨rfl, rfl, rfl, by decide +kernel, rfl, by decide +kernel, by decide +kernel⟩
theorem sc_meets : FnScope ["number", "cube", "holds", "fails"] ["number", "cube"] (defScope s_meets) := ⟨rfl, rfl, rfl, by decide +kernel, rfl, by decide +kernel, by decide +kernel⟩
section
variable {P : Program} {w : World} {K : PySem.W.Frag} {mg : Str → Option Value} {base : Heap} {C R B : Addr}
def sp_cube_of (K : PySem.W.Frag) (C : Addr) : Sp := fun vs H Q _ => ∃ (a o : Addr) (xs hs fs : List Str), vs = [.ref a, .ref o] ∧ SqT K H a (xs.map V.str) ∧ xs.length ≤ 1000 ∧ CondAt K C H o hs fs ∧ ∀ H' p, Same H H' → SqT K H' p [.int (bitsOf xs hs), .int (bitsOf xs fs)] → Q (.ref p) H'
theorem ok_cube_of {f : Addr} {fd : FuncData} (F : Fun K "cube_of" "cube_of" s_cube_of f fd) (B : Blt mg) (kK : CondG P w K mg base C) (c_bits_of : Cal P w K mg base CX0 1 "bits_of" ["facts", "names"] (sp_bits_of K)) : FnOk P w K mg base CX0 3 f fd ["facts", "condition"] (sp_cube_of K C) := by
  refine F.ok sc_cube_of (fun vs H Q E h => by obtain ⟨a, o, xs, hs, fs, rfl, _⟩ := h; rfl) (fun cdv A outer s H vs Q E hr h => ?_)
  obtain ⟨a, o, xs, hs, fs, rfl, hS, hl, hC, q⟩ := h
  refine ⟨_, (pss_one (ps_ret (pe_tup (pa_cons (pe_cal c_bits_of (hr.mono (by decide)) (pa_cons (pv 0) (pa_cons (pe_cprop kK.holding kK.cls (hr.mono (by decide)) (pv 1)) pa_nil))) (pa_cons (pe_cal c_bits_of (hr.mono (by decide)) (pa_cons (pv 0) (pa_cons (pe_cprop kK.failing kK.cls (hr.mono (by decide)) (pv 1)) pa_nil))) pa_nil))))), ?_⟩
  obtain ⟨dx, ca, cb, cn, zs, ho, hca, hcb, _⟩ := hC.at_
  refine ⟨_, rfl, _, rfl, o, dx, _, rfl, ho, o, dx, _, _, rfl, ho, rfl, a, ca, xs, hs, rfl, hS, hca, hl, fun H1 s1 => ?_⟩
  refine ⟨_, rfl, _, rfl, o, dx, _, rfl, s1 _ _ ho, o, dx, _, _, rfl, s1 _ _ ho, rfl, a, cb, xs, fs, rfl, s1.tup hS, s1.tup hcb, hl, fun H2 s2 => ?_⟩
  exact ⟨(by show 2 ≤ sizeLine; decide), fun p np => q _ p ((s1.trans s2).trans ((Same.refl H2).put np)) sqT_new⟩
def sp_clash (K : PySem.W.Frag) : Sp := fun vs H Q _ => ∃ (a b : Addr) (x y u v : Int), vs = [.ref a, .ref b] ∧ SqT K H a [.int x, .int y] ∧ SqT K H b [.int u, .int v] ∧ Q (.bl (decide (Builtin.bitAnd x v ≠ 0) || decide (Builtin.bitAnd y u ≠ 0))) H
theorem ok_clash {f : Addr} {fd : FuncData} (F : Fun K "clash" "clash" s_clash f fd) (B : Blt mg) : FnOk P w K mg base CX0 1 f fd ["cube", "other"] (sp_clash K) := by
  refine F.ok sc_clash (fun vs H Q E h => by obtain ⟨a, b, x, y, u, v, rfl, _⟩ := h; rfl) (fun cdv A outer s H vs Q E hr h => ?_)
  obtain ⟨a, b, x, y, u, v, rfl, hA, hB, q⟩ := h
  refine ⟨_, (pss_one (ps_ret (pe_or (pe_cmpR op_ne (pe_op op_and (pe_ix ix_tup (pv 0) pe_int (fun _ _ => rfl)) (pe_ix ix_tup (pv 1) pe_int (fun _ _ => rfl))) pe_int (nomark _)) (pe_one (pe_cmpR op_ne (pe_op op_and (pe_ix ix_tup (pv 0) pe_int (fun _ _ => rfl)) (pe_ix ix_tup (pv 1) pe_int (fun _ _ => rfl))) pe_int (nomark _)))))), ?_⟩
  have z : ∀ n : Int, (!decide (V.int n = V.int 0)) = decide (n ≠ 0) := fun n => by rw [dec_int]; by_cases h : n = 0 <;> simp [h]
  refine ⟨_, rfl, a, _, 0, _, rfl, rfl, hA, atI_nat (j := 0) rfl, _, rfl, b, _, 1, _, rfl, rfl, hB, atI_nat (j := 1) rfl, _, _, rfl, rfl, rfl, _, rfl, ?_⟩
  rw [z]
  cases e : decide (Builtin.bitAnd x v ≠ 0) with
  | true =>
    rw [e] at q
    exact q
  | false =>
    rw [e] at q
    refine iteF ?_
    refine ⟨_, rfl, a, _, 1, _, rfl, rfl, hA, atI_nat (j := 1) rfl, _, rfl, b, _, 0, _, rfl, rfl, hB, atI_nat (j := 0) rfl, _, _, rfl, rfl, rfl, ?_⟩
    rw [z]
    exact q
def sp_cmeets (K : PySem.W.Frag) : Sp := fun vs H Q _ => ∃ (b : Addr) (n x y : Int), vs = [.int n, .ref b] ∧ SqT K H b [.int x, .int y] ∧ Q (.bl (decide (Builtin.bitAnd n (Builtin.bitOr x y) = x))) H
theorem ok_cmeets {f : Addr} {fd : FuncData} (F : Fun K "meets" "meets" s_meets f fd) (B : Blt mg) : FnOk P w K mg base CX0 1 f fd ["number", "cube"] (sp_cmeets K) := by
  refine F.ok sc_meets (fun vs H Q E h => by obtain ⟨b, n, x, y, rfl, _⟩ := h; rfl) (fun cdv A outer s H vs Q E hr h => ?_)
  obtain ⟨b, n, x, y, rfl, hB, q⟩ := h
  refine ⟨_, (pss_cons (ps_asg (pv 1) (pg_tup (by rfl) (pgs_cons (pg_name (i := 2) sc_meets.nd rfl (Or.inl rfl)) (pgs_cons (pg_name (i := 3) sc_meets.nd rfl (Or.inl rfl)) pgs_nil))))
      (pss_one (ps_ret (pe_cmpR op_eq (pe_op op_and (pv 0) (pe_op L2.op_or (pv 2) (pv 3))) (pv 2) (nomark _))))), ?_⟩
  refine ⟨_, rfl, b, _, rfl, hB, rfl, _, _, rfl, _, _, rfl, rfl, ?_⟩
  refine ⟨_, rfl, _, rfl, _, rfl, _, _, rfl, rfl, _, _, rfl, rfl, _, rfl, rfl, ?_⟩
  rw [dec_int]
  exact q
end
end Sc
namespace Sc
open PySem PySem.Spec PyProof.Rows L2
/-! ### two cubes as one -/
theorem bor_bit (j : Nat) (x y : Int) : bitAt (Builtin.bitOr x y) j = (bitAt x j || bitAt y j) := by
  unfold Builtin.bitOr
  rw [bnot_bit, band_bit, bnot_bit, bnot_bit]
  cases bitAt x j <;> cases bitAt y j <;> rfl
theorem bits_uniq : ∀ (k : Nat) (m n : Int), 0 ≤ m → m < 2 ^ k → 0 ≤ n → n < 2 ^ k → (∀ j, j < k → bitAt m j = bitAt n j) → m = n
  | 0, m, n, h0, h1, h2, h3, _ => by rw [Int.pow_zero] at h1 h3; omega
  | k + 1, m, n, h0, h1, h2, h3, hb => by
    have e := hb 0 (Nat.succ_pos k)
    rw [bit_0, bit_0, decide_eq_decide] at e
    rw [Int.pow_succ] at h1 h3
    have h4 := bits_uniq k (m / 2) (n / 2) (by omega) (by omega) (by omega) (by omega) fun j hj => by rw [← bit_s, ← bit_s]; exact hb (j + 1) (by omega)
    have r1 := Int.emod_two_eq m
    have r2 := Int.emod_two_eq n
    omega
theorem bits_nil {xs : List Str} : bitsOf xs [] = 0 := by
  obtain ⟨c0, c1⟩ := bits_range (xs := xs) (cs := [])
  refine small_zero xs.length _ c0 c1 fun j hj => ?_
  rw [held_bit hj]
  exact decide_eq_false fun h => nomatch h
/-- the facts of two parts, in the order of the facts -/
def joinF (xs as bs : List Str) : List Str := xs.filter fun x => decide (x ∈ as) || decide (x ∈ bs)
theorem mem_joinF {xs as bs : List Str} {x : Str} : x ∈ joinF xs as bs ↔ x ∈ xs ∧ (x ∈ as ∨ x ∈ bs) := by
  unfold joinF
  rw [List.mem_filter, Bool.or_eq_true, decide_eq_true_iff, decide_eq_true_iff]
theorem bor_join {xs as bs : List Str} : Builtin.bitOr (bitsOf xs as) (bitsOf xs bs) = bitsOf xs (joinF xs as bs) := by
  obtain ⟨a0, a1⟩ := bits_range (xs := xs) (cs := as)
  obtain ⟨b0, b1⟩ := bits_range (xs := xs) (cs := bs)
  obtain ⟨c0, c1⟩ := bits_range (xs := xs) (cs := joinF xs as bs)
  have e := bitOr_nn a0 b0
  have p : (((2 : Nat) ^ xs.length : Nat) : Int) = (2 : Int) ^ xs.length := by push_cast; rfl
  have l := Nat.or_lt_two_pow (n := xs.length) (x := (bitsOf xs as).toNat) (y := (bitsOf xs bs).toNat) (by omega) (by omega)
  refine bits_uniq xs.length _ _ (by rw [e]; exact Int.natCast_nonneg _) (by rw [e]; omega) c0 c1 fun j hj => ?_
  rw [bor_bit, held_bit hj, held_bit hj, held_bit hj, Bool.eq_iff_iff, Bool.or_eq_true, decide_eq_true_iff, decide_eq_true_iff, decide_eq_true_iff, mem_joinF]
  exact ⟨fun h => ⟨List.getElem_mem hj, h⟩, fun h => h.2⟩
/-- a rule that a given condition leaves nothing of -/
def cl (ws bs hs fs : List Str) : Bool := hs.any (fun x => decide (x ∈ bs)) || fs.any (fun x => decide (x ∈ ws))
/-- a rule over facts -/
structure Un (xs : List Str) (n : Nd) : Prop where
  nm : isName n.nm = true
  rl : isName n.rl = true
  s1 : List.Sublist n.hs xs
  s2 : List.Sublist n.fs xs
  dj : ∀ x ∈ n.hs, ¬ x ∈ n.fs
  l8 : n.hs.length + n.fs.length ≤ 8
theorem Un.ok {xs : List Str} {n : Nd} (h : Un xs n) (g : Good xs) : NdOk n :=
  ⟨h.nm, h.rl, (g.sub h.s1).none (by have := h.l8; show 0 + _ ≤ 8; omega) (fun _ _ h => nomatch h), (g.sub h.s2).none (by have := h.l8; omega) fun x hx z => h.dj x z hx⟩
theorem cl_bits {xs ws bs hs fs : List Str} (h1 : ∀ x ∈ hs, x ∈ xs) (h2 : ∀ x ∈ fs, x ∈ xs) :
    (decide (Builtin.bitAnd (bitsOf xs hs) (bitsOf xs bs) ≠ 0) || decide (Builtin.bitAnd (bitsOf xs fs) (bitsOf xs ws) ≠ 0)) = cl ws bs hs fs := by
  have e : ∀ {as cs : List Str}, (∀ x ∈ as, x ∈ xs) → decide (Builtin.bitAnd (bitsOf xs as) (bitsOf xs cs) ≠ 0) = as.any fun x => decide (x ∈ cs) := fun {as cs} h => by
    rw [Bool.eq_iff_iff, decide_eq_true_iff, List.any_eq_true, ne_eq, band_zero]
    constructor
    · intro z
      simp only [Classical.not_forall, Classical.not_not] at z
      obtain ⟨x, _, h1, h2⟩ := z
      exact ⟨x, h1, decide_eq_true h2⟩
    · rintro ⟨x, h1, h2⟩ z
      exact z x (h x h1) ⟨h1, of_decide_eq_true h2⟩
  rw [e h1, e h2]
  rfl
theorem meets_iff17 {hs fs cs : List Str} : meets hs fs cs = true ↔ (∀ x ∈ hs, x ∈ cs) ∧ ∀ x ∈ fs, ¬ x ∈ cs := by
  unfold meets
  rw [Bool.and_eq_true, List.all_eq_true, Bool.not_eq_true', List.any_eq_false]
  constructor
  · rintro ⟨h1, h2⟩
    exact ⟨fun x hx => of_decide_eq_true (h1 x hx), fun x hx z => h2 x hx (decide_eq_true z)⟩
  · rintro ⟨h1, h2⟩
    exact ⟨fun x hx => decide_eq_true (h1 x hx), fun x hx z => h2 x hx (of_decide_eq_true z)⟩
theorem cl_iff {ws bs hs fs : List Str} : cl ws bs hs fs = true ↔ (∃ x ∈ hs, x ∈ bs) ∨ ∃ x ∈ fs, x ∈ ws := by
  unfold cl
  rw [Bool.or_eq_true, List.any_eq_true, List.any_eq_true]
  simp only [decide_eq_true_iff]
/-! ### a book without exceptions -/
namespace RF
def flat (xs ws bs : List Str) : RF → List Nd
  | .nil => []
  | .cons nm hs fs rl exc rest => (if cl ws bs hs fs = true then [] else flat xs (joinF xs ws hs) (joinF xs bs fs) exc ++ [⟨nm, joinF xs ws hs, joinF xs bs fs, rl, .nil⟩]) ++ flat xs ws bs rest
theorem flat_len {xs : List Str} : ∀ {ws bs : List Str} (f : RF), (flat xs ws bs f).length ≤ f.size
  | _, _, .nil => Nat.le_refl 0
  | ws, bs, .cons nm hs fs rl exc rest => by
    have h1 := flat_len (xs := xs) (ws := joinF xs ws hs) (bs := joinF xs bs fs) exc
    have h2 := flat_len (xs := xs) (ws := ws) (bs := bs) rest
    show ((if cl ws bs hs fs = true then [] else flat xs (joinF xs ws hs) (joinF xs bs fs) exc ++ [_]) ++ flat xs ws bs rest).length ≤ exc.size + 1 + rest.size
    rw [List.length_append]
    split
    · show 0 + _ ≤ _; omega
    · rw [List.length_append]; show _ + 1 + _ ≤ _; omega
/-- each row is over the facts, and what must hold is apart from what must fail -/
theorem flat_dj {xs : List Str} : ∀ {ws bs : List Str} {f : RF}, (∀ x ∈ ws, ¬ x ∈ bs) → (f.every fun n => ∀ x ∈ n.hs, ¬ x ∈ n.fs) → ∀ n ∈ flat xs ws bs f, List.Sublist n.hs xs ∧ List.Sublist n.fs xs ∧ (∀ x ∈ n.hs, ¬ x ∈ n.fs) ∧ n.exc = .nil
  | _, _, .nil, _, _, n, h => nomatch h
  | ws, bs, .cons nm hs fs rl exc rest, d, ⟨e1, e2, e3⟩, n, h => by
    have h : n ∈ (if cl ws bs hs fs = true then [] else flat xs (joinF xs ws hs) (joinF xs bs fs) exc ++ [⟨nm, joinF xs ws hs, joinF xs bs fs, rl, .nil⟩]) ++ flat xs ws bs rest := h
    rcases List.mem_append.mp h with h | h
    · split at h
      · cases h
      rename_i nc
      rw [cl_iff] at nc
      have dj : ∀ x ∈ joinF xs ws hs, ¬ x ∈ joinF xs bs fs := fun x hx hy => by
        obtain ⟨_, p⟩ := mem_joinF.mp hx
        obtain ⟨_, q⟩ := mem_joinF.mp hy
        rcases p with p | p <;> rcases q with q | q
        · exact d x p q
        · exact nc (.inr ⟨x, q, p⟩)
        · exact nc (.inl ⟨x, p, q⟩)
        · exact e1 x p q
      rcases List.mem_append.mp h with h | h
      · exact flat_dj dj e2 n h
      · rw [List.mem_singleton.mp h]
        exact ⟨List.filter_sublist, List.filter_sublist, dj, rfl⟩
    · exact flat_dj d e3 n h
/-- each row names at least what stands around it -/
theorem flat_sup {xs : List Str} : ∀ {ws bs : List Str} {f : RF}, (∀ x ∈ ws, x ∈ xs) → (∀ x ∈ bs, x ∈ xs) → ∀ n ∈ flat xs ws bs f, (∀ x ∈ ws, x ∈ n.hs) ∧ ∀ x ∈ bs, x ∈ n.fs
  | _, _, .nil, _, _, n, h => nomatch h
  | ws, bs, .cons nm hs fs rl exc rest, h1, h2, n, h => by
    have h : n ∈ (if cl ws bs hs fs = true then [] else flat xs (joinF xs ws hs) (joinF xs bs fs) exc ++ [⟨nm, joinF xs ws hs, joinF xs bs fs, rl, .nil⟩]) ++ flat xs ws bs rest := h
    rcases List.mem_append.mp h with h | h
    · split at h
      · cases h
      rcases List.mem_append.mp h with h | h
      · obtain ⟨q1, q2⟩ := flat_sup (xs := xs) (ws := joinF xs ws hs) (bs := joinF xs bs fs) (f := exc) (fun x hx => (mem_joinF.mp hx).1) (fun x hx => (mem_joinF.mp hx).1) n h
        exact ⟨fun x hx => q1 x (mem_joinF.mpr ⟨h1 x hx, .inl hx⟩), fun x hx => q2 x (mem_joinF.mpr ⟨h2 x hx, .inl hx⟩)⟩
      · rw [List.mem_singleton.mp h]
        exact ⟨fun x hx => mem_joinF.mpr ⟨h1 x hx, .inl hx⟩, fun x hx => mem_joinF.mpr ⟨h2 x hx, .inl hx⟩⟩
    · exact flat_sup h1 h2 n h
/-- the first row that a case meets tells what the rules tell -/
theorem flat_find {xs cs : List Str} : ∀ {ws bs : List Str} {f : RF}, (∀ x ∈ ws, x ∈ xs) → (∀ x ∈ bs, x ∈ xs) → (∀ x ∈ ws, x ∈ cs) → (∀ x ∈ bs, ¬ x ∈ cs) → (f.every fun n => (∀ x ∈ n.hs, x ∈ xs) ∧ ∀ x ∈ n.fs, x ∈ xs) →
    ((flat xs ws bs f).find? fun n => n.met cs).map (fun n => (n.nm, n.rl)) = (f.way cs).getLast?.map fun n => (n.nm, n.rl)
  | _, _, .nil, _, _, _, _, _ => rfl
  | ws, bs, .cons nm hs fs rl exc rest, h1, h2, h3, h4, ⟨⟨e1, e2⟩, e3, e4⟩ => by
    have i1 := flat_find (xs := xs) (cs := cs) (ws := ws) (bs := bs) (f := rest) h1 h2 h3 h4 e4
    show (((if cl ws bs hs fs = true then [] else flat xs (joinF xs ws hs) (joinF xs bs fs) exc ++ [(⟨nm, joinF xs ws hs, joinF xs bs fs, rl, .nil⟩ : Nd)]) ++ flat xs ws bs rest).find? fun n : Nd => n.met cs).map (fun n : Nd => (n.nm, n.rl)) = (if meets hs fs cs = true then (⟨nm, hs, fs, rl, exc⟩ : Nd) :: exc.way cs else rest.way cs).getLast?.map fun n : Nd => (n.nm, n.rl)
    rw [List.find?_append]
    by_cases m : meets hs fs cs = true
    · rw [if_pos m]
      obtain ⟨m1, m2⟩ := meets_iff17.mp m
      have nc : ¬ cl ws bs hs fs = true := by
        rw [cl_iff]
        rintro (⟨x, hx, hb⟩ | ⟨x, hx, hw⟩)
        · exact h4 x hb (m1 x hx)
        · exact m2 x hx (h3 x hw)
      rw [if_neg nc, List.find?_append]
      have j1 : ∀ x ∈ joinF xs ws hs, x ∈ cs := fun x hx => (mem_joinF.mp hx).2.elim (h3 x) (m1 x)
      have j2 : ∀ x ∈ joinF xs bs fs, ¬ x ∈ cs := fun x hx => (mem_joinF.mp hx).2.elim (h4 x) (m2 x)
      have i2 := flat_find (xs := xs) (cs := cs) (ws := joinF xs ws hs) (bs := joinF xs bs fs) (f := exc) (fun x hx => (mem_joinF.mp hx).1) (fun x hx => (mem_joinF.mp hx).1) j1 j2 e3
      have own : (List.find? (fun n => Nd.met cs n) [(⟨nm, joinF xs ws hs, joinF xs bs fs, rl, .nil⟩ : Nd)]) = some ⟨nm, joinF xs ws hs, joinF xs bs fs, rl, .nil⟩ := by
        rw [List.find?_cons, show Nd.met cs (⟨nm, joinF xs ws hs, joinF xs bs fs, rl, .nil⟩ : Nd) = true from meets_iff17.mpr ⟨j1, j2⟩]
      rw [own]
      cases hw : exc.way cs with
      | nil =>
        rw [hw] at i2
        have i2 : (List.find? (fun n => Nd.met cs n) (flat xs (joinF xs ws hs) (joinF xs bs fs) exc)).map (fun n => (n.nm, n.rl)) = none := i2
        rw [Option.map_eq_none_iff] at i2
        rw [i2]
        rfl
      | cons w r =>
        rw [hw] at i2
        rw [List.getLast?_cons_cons, ← i2]
        cases h : List.find? (fun n => Nd.met cs n) (flat xs (joinF xs ws hs) (joinF xs bs fs) exc) with
        | none =>
          rw [h] at i2
          rw [List.getLast?_cons] at i2
          cases i2
        | some y => rfl
    · rw [if_neg m, ← i1]
      have none1 : List.find? (fun n => Nd.met cs n) (if cl ws bs hs fs = true then [] else flat xs (joinF xs ws hs) (joinF xs bs fs) exc ++ [⟨nm, joinF xs ws hs, joinF xs bs fs, rl, .nil⟩]) = none := by
        rw [List.find?_eq_none]
        intro n hn z
        obtain ⟨z1, z2⟩ := meets_iff17.mp z
        split at hn
        · cases hn
        have sup : (∀ x ∈ joinF xs ws hs, x ∈ n.hs) ∧ ∀ x ∈ joinF xs bs fs, x ∈ n.fs := by
          rcases List.mem_append.mp hn with hn | hn
          · exact flat_sup (fun x hx => (mem_joinF.mp hx).1) (fun x hx => (mem_joinF.mp hx).1) n hn
          · rw [List.mem_singleton.mp hn]
            exact ⟨fun x hx => hx, fun x hx => hx⟩
        exact m (meets_iff17.mpr ⟨fun x hx => z1 x (sup.1 x (mem_joinF.mpr ⟨e1 x hx, .inr hx⟩)), fun x hx => z2 x (sup.2 x (mem_joinF.mpr ⟨e2 x hx, .inr hx⟩))⟩)
      rw [none1]
      rfl
/-- rows one beside another: the first one that is met is the way -/
theorem ofNodes_way {cs : List Str} : ∀ {l : List Nd}, (∀ n ∈ l, n.exc = .nil) → (ofNodes l).way cs = (l.find? fun n => n.met cs).toList
  | [], _ => rfl
  | n :: r, h => by
    have ih := ofNodes_way (cs := cs) (l := r) fun m hm => h m (List.mem_cons_of_mem _ hm)
    have e := h n List.mem_cons_self
    obtain ⟨nm, hs, fs, rl, exc⟩ := n
    have e : exc = .nil := e
    subst e
    show (if meets hs fs cs = true then (⟨nm, hs, fs, rl, .nil⟩ : Nd) :: RF.way cs .nil else (ofNodes r).way cs) = _
    rw [List.find?_cons]
    by_cases m : meets hs fs cs = true
    · rw [if_pos m, show Nd.met cs (⟨nm, hs, fs, rl, .nil⟩ : Nd) = true from m]; rfl
    · rw [if_neg m, show Nd.met cs (⟨nm, hs, fs, rl, .nil⟩ : Nd) = false from (Bool.not_eq_true _).mp m]; exact ih
end RF
end Sc
namespace Sc
open PySem PySem.Spec PyProof.Rows L2
structure BookX (P : Program) (w : World) (K : PySem.W.Frag) (mg : Str → Option Value) (base : Heap) (B : Addr) : Prop where
  cls : Cls K B
  facts : PropX P w K mg base B "facts" "_facts"
  rules : PropX P w K mg base B "rules" "_rules"
  ruling : PropX P w K mg base B "ruling" "_ruling"
end Sc
namespace Sc
open PySem PySem.Spec PyProof.Rows L2
theorem sc_joined : FnScope ["cube", "other"] ["cube", "other"] (defScope s_joined) := ⟨rfl, rfl, rfl, by decide +kernel, rfl, by decide +kernel, by decide +kernel⟩
theorem sc_rows_within : FnScope ["facts", "rules", "around", "rows", "rule", "own", "cube"] ["facts", "rules", "around"] (defScope s_rows_within) := ⟨rfl, rfl, rfl, by decide +kernel, rfl, by decide +kernel, by decide +kernel⟩
theorem joinF_comm {xs as bs : List Str} : joinF xs as bs = joinF xs bs as := List.filter_congr fun x _ => Bool.or_comm _ _
namespace RF
def flatL (xs ws bs : List Str) (ns : List Nd) : List Nd := ns.flatMap fun n => if cl ws bs n.hs n.fs = true then [] else flat xs (joinF xs ws n.hs) (joinF xs bs n.fs) n.exc ++ [⟨n.nm, joinF xs ws n.hs, joinF xs bs n.fs, n.rl, .nil⟩]
theorem flat_nodes {xs ws bs : List Str} : ∀ f : RF, flat xs ws bs f = flatL xs ws bs f.nodes
  | .nil => rfl
  | .cons nm hs fs rl exc rest => by
    show _ ++ flat xs ws bs rest = _ ++ flatL xs ws bs rest.nodes
    rw [flat_nodes rest]
theorem flatL_more {xs ws bs : List Str} {ns : List Nd} {i : Nat} {n : Nd} (h : ns[i]? = some n) : flatL xs ws bs (ns.take (i + 1)) = flatL xs ws bs (ns.take i) ++ (if cl ws bs n.hs n.fs = true then [] else flat xs (joinF xs ws n.hs) (joinF xs bs n.fs) n.exc ++ [⟨n.nm, joinF xs ws n.hs, joinF xs bs n.fs, n.rl, .nil⟩]) := by
  unfold flatL
  rw [take_more h, List.flatMap_append, List.flatMap_singleton]
theorem flatL_le {xs ws bs : List Str} {f : RF} {i : Nat} : (flatL xs ws bs (f.nodes.take i)).length ≤ f.size := by
  have h := flat_len (xs := xs) (ws := ws) (bs := bs) f
  rw [flat_nodes] at h
  have e : flatL xs ws bs f.nodes = flatL xs ws bs (f.nodes.take i) ++ flatL xs ws bs (f.nodes.drop i) := by
    unfold flatL
    rw [← List.flatMap_append, List.take_append_drop]
  rw [e, List.length_append] at h
  omega
end RF
theorem sc_rows_of : FnScope ["book"] ["book"] (defScope s_rows_of) := ⟨rfl, rfl, rfl, by decide +kernel, rfl, by decide +kernel, by decide +kernel⟩
section
variable {P : Program} {w : World} {K : PySem.W.Frag} {mg : Str → Option Value} {base : Heap} {C R B CC CR : Addr}
/-- a row: a cube and its rule -/
def FRow (K : PySem.W.Frag) (C R : Addr) (N : Addr → Prop) (xs : List Str) (H : Hp) (v : V) (n : Nd) : Prop := ∃ (t cu o : Addr) (m : Nd), v = .ref t ∧ SqT K H t [.ref cu, .ref o] ∧ SqT K H cu [.int (bitsOf xs n.hs), .int (bitsOf xs n.fs)] ∧ NdAt K C R N H o m ∧ m.nm = n.nm ∧ m.rl = n.rl
theorem FRow.keeps {N : Addr → Prop} {xs : List Str} {H H' : Hp} {v : V} {n : Nd} (h : FRow K C R N xs H v n) (k : Keeps N H H') : FRow K C R N xs H' v n := by
  obtain ⟨t, cu, o, m, e, h1, h2, h3, h4⟩ := h
  exact ⟨t, cu, o, m, e, k.tup h1, k.tup h2, h3.keeps k, h4⟩
theorem FRow.re {N M : Addr → Prop} {xs : List Str} {H : Hp} {v : V} {n : Nd} (g : ∀ b xs, N b → H b = some (.lst xs) → M b) (h : FRow K C R N xs H v n) : FRow K C R M xs H v n := by
  obtain ⟨t, cu, o, m, e, h1, h2, h3, h4⟩ := h
  exact ⟨t, cu, o, m, e, h1, h2, h3.re g, h4⟩
def sp_joined (K : PySem.W.Frag) : Sp := fun vs H Q _ => ∃ (a b : Addr) (x y u v : Int), vs = [.ref a, .ref b] ∧ SqT K H a [.int x, .int y] ∧ SqT K H b [.int u, .int v] ∧ ∀ H' p, Same H H' → SqT K H' p [.int (Builtin.bitOr x u), .int (Builtin.bitOr y v)] → Q (.ref p) H'
theorem ok_joined {f : Addr} {fd : FuncData} (F : Fun K "joined" "joined" s_joined f fd) (B : Blt mg) : FnOk P w K mg base CX0 1 f fd ["cube", "other"] (sp_joined K) := by
  refine F.ok sc_joined (fun vs H Q E h => by obtain ⟨a, b, x, y, u, v, rfl, _⟩ := h; rfl) (fun cdv A outer s H vs Q E hr h => ?_)
  obtain ⟨a, b, x, y, u, v, rfl, hA, hB, q⟩ := h
  refine ⟨_, (pss_one (ps_ret (pe_tup (pa_cons (pe_op L2.op_or (pe_ix ix_tup (pv 0) pe_int (fun _ _ => rfl)) (pe_ix ix_tup (pv 1) pe_int (fun _ _ => rfl))) (pa_cons (pe_op L2.op_or (pe_ix ix_tup (pv 0) pe_int (fun _ _ => rfl)) (pe_ix ix_tup (pv 1) pe_int (fun _ _ => rfl))) pa_nil))))), ?_⟩
  refine ⟨_, rfl, a, _, 0, _, rfl, rfl, hA, atI_nat (j := 0) rfl, _, rfl, b, _, 0, _, rfl, rfl, hB, atI_nat (j := 0) rfl, _, _, rfl, rfl, ?_⟩
  refine ⟨_, rfl, a, _, 1, _, rfl, rfl, hA, atI_nat (j := 1) rfl, _, rfl, b, _, 1, _, rfl, rfl, hB, atI_nat (j := 1) rfl, _, _, rfl, rfl, ?_⟩
  exact ⟨(by show 2 ≤ sizeLine; decide), fun p np => q _ p ((Same.refl H).put np) sqT_new⟩
def sp_rwithin (K : PySem.W.Frag) (C R : Addr) (d : Nat) : Sp := fun vs H Q _ => ∃ (N : Addr → Prop) (a p g : Addr) (xs ws bs : List Str) (rs : List V) (f : RF), vs = [.ref a, .ref p, .ref g] ∧ SqT K H a (xs.map V.str) ∧ xs.length ≤ 1000 ∧ SqT K H p rs ∧ ForAt K C R N H f rs ∧ SqT K H g [.int (bitsOf xs ws), .int (bitsOf xs bs)] ∧ (∀ l, H l = none → N l) ∧
  f.dep ≤ d ∧ f.dep ≤ 12 ∧ f.size ≤ 900 ∧ (f.every fun n => (∀ x ∈ n.hs, x ∈ xs) ∧ ∀ x ∈ n.fs, x ∈ xs) ∧ ∀ H' D us, Same H H' → H D = none → H' D = some (.lst us) → All2 (FRow K C R N xs H') us (f.flat xs ws bs) → Q (.ref D) H'
theorem ok_rwithin {d : Nat} {f : Addr} {fd : FuncData} (F : Fun K "rows_within" "rows_within" s_rows_within f fd) (B : Blt mg) (kR : RuleX P w K mg base R)
    (c_cube_of : Cal P w K mg base CX0 3 "cube_of" ["facts", "condition"] (sp_cube_of K C)) (c_clash : Cal P w K mg base CX0 1 "clash" ["cube", "other"] (sp_clash K)) (c_joined : Cal P w K mg base CX0 1 "joined" ["cube", "other"] (sp_joined K))
    (c_rows_within : Cal P w K mg base CX0 (d + 3) "rows_within" ["facts", "rules", "around"] (Below (sp_rwithin K C R) d)) :
    FnOk P w K mg base CX0 (d + 4) f fd ["facts", "rules", "around"] (sp_rwithin K C R d) := by
  refine F.ok sc_rows_within (fun vs H Q E h => by obtain ⟨N, a, p, g, xs, ws, bs, rs, f, rfl, _⟩ := h; rfl) (fun cdv A outer s H vs Q E hr h => ?_)
  obtain ⟨N, a, p, g, xs, ws, bs, rs, f, rfl, hS, hl, hP, hF, hG, hN, hd, hd12, hz, hev, q⟩ := h
  refine ⟨_, (pss_cons (ps_set (i := 3) sc_rows_within.nd rfl (Or.inl rfl) (pe_lst pa_nil))
      (pss_cons (ps_for PassesOwn.never rfl (pi_tup (pv 1)) (pg_name (i := 4) sc_rows_within.nd rfl (Or.inl rfl)) (pss_cons (ps_set (i := 5) sc_rows_within.nd rfl (Or.inl rfl) (pe_cal c_cube_of (hr.mono (by omega)) (pa_cons (pv 0) (pa_cons (pe_cprop kR.condition kR.cls (hr.mono (by omega)) (pv 4)) pa_nil))))
      (pss_one (ps_if (pt_not (pt_val (pe_cal c_clash (hr.mono (by omega)) (pa_cons (pv 5) (pa_cons (pv 2) pa_nil))))) (pss_cons (ps_set (i := 6) sc_rows_within.nd rfl (Or.inl rfl) (pe_cal c_joined (hr.mono (by omega)) (pa_cons (pv 5) (pa_cons (pv 2) pa_nil))))
      (pss_cons (ps_expr (pe_bm PySem.F.plainAttrs_list PySem.F.slot_list_extend PySem.F.type_list_extend mt_extend (pv 3) (pa_cons (pe_cal c_rows_within hr (pa_cons (pv 0) (pa_cons (pe_cprop kR.exceptions kR.cls (hr.mono (by omega)) (pv 4)) (pa_cons (pv 6) pa_nil)))) pa_nil)))
      (pss_one (ps_expr (pe_bm PySem.F.plainAttrs_list PySem.F.slot_list_append PySem.F.type_list_append mt_append (pv 3) (pa_cons (pe_tup (pa_cons (pv 6) (pa_cons (pv 4) pa_nil))) pa_nil)))))) pss_nil))))
      (pss_one (ps_ret (pv 3))))), ?_⟩
  refine ⟨Nat.zero_le _, fun D nD => ?_⟩
  have g0 : ∀ b xs, N b → H b = some (.lst xs) → N b ∧ b ≠ D := fun b xs h e => ⟨h, fun z => by rw [z, nD] at e; cases e⟩
  have hA := (hF.re g0).all
  have hln := hA.len
  have s0 : Same H (upd H D (.lst [])) := (Same.refl H).put nD
  have e0 : (upd H D (.lst [])) D = some (.lst []) := upd_same
  generalize upd H D (.lst []) = H0 at s0 e0 ⊢
  refine ⟨_, rfl, p, rfl, ⟨_, s0.tup hP⟩, for_it walk_tup (fun i σ H' => ∃ (us : List V) (y4 y5 y6 : Option V), σ = [some (.ref a), some (.ref p), some (.ref g), some (.ref D), y4, y5, y6] ∧ Same H H' ∧ H' D = some (.lst us) ∧ All2 (FRow K C R (fun l => N l ∧ l ≠ D) xs H') us (RF.flatL xs ws bs (f.nodes.take i)))
    ⟨[], none, none, none, rfl, s0, e0, .nil⟩ (fun _ _ _ _ ⟨_, _, _, _, _, s, _⟩ => s.tup hP) ?_ ?_⟩
  · rintro i y σ H4 H3 hi ⟨us, y4, y5, y6, rfl, s, e, hus⟩ ⟨rfl, hy⟩
    obtain ⟨n, hn, o, rfl, hNd⟩ := hA.get hy
    have hmem : n ∈ f.nodes := List.mem_of_getElem? hn
    have hdm := RF.dep_mem _ n hmem
    have hsm := RF.size_mem _ n hmem
    obtain ⟨⟨hu1, hu2⟩, hne⟩ := RF.every_nodes.mp hev n hmem
    have hul := hus.len
    have hub := RF.flatL_le (xs := xs) (ws := ws) (bs := bs) (f := f) (i := i)
    have hub2 := RF.flatL_le (xs := xs) (ws := ws) (bs := bs) (f := f) (i := i + 1)
    rw [RF.flatL_more hn] at hub2
    obtain ⟨dx', c', pe', l', ws', ho', hc', hpe', hle', hfe'⟩ := id hNd
    have ho3 := s _ _ ho'
    refine ⟨_, rfl, _, rfl, o, dx', _, rfl, ho3, o, dx', _, _, rfl, ho3, rfl, a, c', xs, n.hs, n.fs, rfl, s.tup hS, hl, hc'.keeps (N := NoL) s.keeps, fun H5 cu s5 hcu => ?_⟩
    have s05 := s.trans s5
    refine ⟨_, rfl, _, rfl, cu, g, _, _, _, _, rfl, hcu, s05.tup hG, ?_⟩
    rw [cl_bits hu1 hu2]
    refine ⟨_, rfl, ?_⟩
    cases ec : cl ws bs n.hs n.fs with
    | true =>
      refine iteF ⟨us, _, _, _, rfl, s05, s5 _ _ e, ?_⟩
      rw [RF.flatL_more hn, if_pos ec, List.append_nil]
      exact hus.mono fun _ _ x => x.keeps s5.keeps
    | false =>
      have ec' : ¬ cl ws bs n.hs n.fs = true := by rw [ec]; decide
      refine iteT ?_
      rw [if_neg ec', List.length_append, List.length_append] at hub2
      obtain ⟨d, rfl⟩ : ∃ d', d = d' + 1 := ⟨d - 1, by omega⟩
      refine ⟨_, rfl, _, rfl, cu, g, _, _, _, _, rfl, hcu, s05.tup hG, fun H6 jo s6 hjo => ?_⟩
      rw [bor_join, bor_join, joinF_comm, joinF_comm (as := n.fs)] at hjo
      have s06 := s05.trans s6
      have e6 := s6 _ _ (s5 _ _ e)
      have ho6 := s06 _ _ ho'
      refine ⟨_, rfl, .inl ⟨rfl, _, sqL_of e6⟩, _, rfl, _, rfl, o, dx', _, rfl, ho6, o, dx', _, _, rfl, ho6, rfl, _, rfl, fun l => N l ∧ l ≠ D, a, pe', jo, xs, joinF xs ws n.hs, joinF xs bs n.fs, ws', n.exc, rfl, s06.tup hS, hl, s06.tup hpe', hfe'.keeps s06.keeps, hjo, (fun l nl => ⟨hN l (s06.free nl), (fun z => by rw [z, e6] at nl; cases nl)⟩), by omega, by omega, by omega, hne, fun H7 D2 us2 s7 nD2 e2 hu2 => ?_⟩
      have s07 := s06.trans s7
      have e7 := s7 _ _ e6
      have nDD : D2 ≠ D := fun z => by rw [z, e6] at nD2; cases nD2
      have hul2 := hu2.len
      refine ⟨D, D2, us, us2, rfl, rfl, e7, e2, by rw [sizeLine_eq]; omega, ?_⟩
      have k8 : Keeps (fun l => N l ∧ l ≠ D) H7 (upd H7 D (.lst (us ++ us2))) := keeps_own e7 fun z => z.2 rfl
      have s8 : Same H (upd H7 D (.lst (us ++ us2))) := s07.put nD
      have e8 : (upd H7 D (.lst (us ++ us2))) D = some (.lst (us ++ us2)) := upd_same
      have k38 : Keeps (fun l => N l ∧ l ≠ D) H3 (upd H7 D (.lst (us ++ us2))) := (s5.trans (s6.trans s7)).keeps.trans k8
      have hjo8 := k8.tup (s7.tup hjo)
      generalize upd H7 D (.lst (us ++ us2)) = H8 at k8 s8 e8 k38 hjo8 ⊢
      refine ⟨_, rfl, .inl ⟨rfl, _, sqL_of e8⟩, _, rfl, _, rfl, (by show 2 ≤ sizeLine; decide), fun tt ntt => ?_⟩
      have s9 : Same H8 (upd H8 tt (.tup [.ref jo, .ref o])) := (Same.refl H8).put ntt
      have et : (upd H8 tt (.tup [.ref jo, .ref o])) tt = some (.tup [.ref jo, .ref o]) := upd_same
      generalize upd H8 tt (.tup [.ref jo, .ref o]) = H9 at s9 et ⊢
      have e9 := s9 _ _ e8
      refine ⟨D, _, _, rfl, rfl, e9, small1000 (by rw [List.length_append]; omega), ?_⟩
      have kk : Keeps (fun l => N l ∧ l ≠ D) H9 (upd H9 D (.lst (us ++ us2 ++ [.ref tt]))) := keeps_own e9 fun z => z.2 rfl
      refine ⟨us ++ us2 ++ [.ref tt], _, _, _, rfl, (s8.trans s9).put nD, upd_same, ?_⟩
      rw [RF.flatL_more hn, if_neg ec', ← List.append_assoc]
      have hrow : FRow K C R (fun l => N l ∧ l ≠ D) xs H9 (.ref tt) ⟨n.nm, joinF xs ws n.hs, joinF xs bs n.fs, n.rl, .nil⟩ := ⟨tt, jo, o, n, rfl, sqT_of et, s9.tup hjo8, (hNd.keeps s8.keeps).keeps s9.keeps, rfl, rfl⟩
      exact (((hus.mono fun _ _ x => (x.keeps k38).keeps s9.keeps).app (hu2.mono fun _ _ x => (x.keeps k8).keeps s9.keeps)).mono fun _ _ x => x.keeps kk).snoc (hrow.keeps kk)
  · rintro σ H3 ⟨us, y4, y5, y6, rfl, s, e, hus⟩
    rw [hln, List.take_length, ← RF.flat_nodes] at hus
    exact ⟨_, rfl, q H3 D us s nD e (hus.mono fun _ _ x => x.re fun b xs h _ => h.1)⟩
def sp_rows_of (K : PySem.W.Frag) (C R B : Addr) : Sp := fun vs H Q _ => ∃ (N : Addr → Prop) (o : Addr) (xs : List Str) (f : RF) (rl : Str), vs = [.ref o] ∧ BookAt K C R B N H o xs f rl ∧ (∀ l, H l = none → N l) ∧ xs.length ≤ 1000 ∧ f.dep ≤ 12 ∧ f.size ≤ 900 ∧ (f.every fun n => (∀ x ∈ n.hs, x ∈ xs) ∧ ∀ x ∈ n.fs, x ∈ xs) ∧
  ∀ H' D us, Same H H' → H' D = some (.lst us) → All2 (FRow K C R N xs H') us (f.flat xs [] []) → Q (.ref D) H'
theorem ok_rows_of {f : Addr} {fd : FuncData} (F : Fun K "rows_of" "rows_of" s_rows_of f fd) (Bl : Blt mg) (kB : BookX P w K mg base B) (c_rows_within : Cal P w K mg base CX0 16 "rows_within" ["facts", "rules", "around"] (sp_rwithin K C R 12)) : FnOk P w K mg base CX0 17 f fd ["book"] (sp_rows_of K C R B) := by
  refine F.ok sc_rows_of (fun vs H Q E h => by obtain ⟨N, o, xs, f, rl, rfl, _⟩ := h; rfl) (fun cdv A outer s H vs Q E hr h => ?_)
  obtain ⟨N, o, xs, f, rl, rfl, ⟨dx, a, p, l, rs, us, ho, hS, hP, hF, hl, hus⟩, fr, hxl, hd, hz, hev, q⟩ := h
  refine ⟨_, (pss_one (ps_ret (pe_cal c_rows_within (hr.mono (by decide)) (pa_cons (pe_cprop kB.facts kB.cls (hr.mono (by decide)) (pv 0)) (pa_cons (pe_cprop kB.rules kB.cls (hr.mono (by decide)) (pv 0)) (pa_cons (pe_tup (pa_cons pe_int (pa_cons pe_int pa_nil))) pa_nil)))))), ?_⟩
  refine ⟨_, rfl, o, dx, _, rfl, ho, o, dx, _, _, rfl, ho, rfl, _, rfl, o, dx, _, rfl, ho, o, dx, _, _, rfl, ho, rfl, (by show 2 ≤ sizeLine; decide), fun t nt => ?_⟩
  have s1 : Same H (upd H t (.tup [.int 0, .int 0])) := (Same.refl H).put nt
  have e1 : SqT K (upd H t (.tup [.int 0, .int 0])) t [.int (bitsOf xs []), .int (bitsOf xs [])] := by rw [bits_nil]; exact sqT_new
  generalize upd H t (.tup [.int 0, .int 0]) = H1 at s1 e1 ⊢
  exact ⟨N, a, p, t, xs, [], [], rs, f, rfl, s1.tup hS, hxl, s1.tup hP, hF.keeps s1.keeps, e1, (fun l nl => fr l (s1.free nl)), hd, hd, hz, hev, fun H2 D us s2 _ e2 hu => q H2 D us (s1.trans s2) e2 hu⟩
end
end Sc
namespace Sc
open PySem PySem.Spec PyProof.Rows L2
/-! ### the lowest bit of a number -/
theorem bit_zero (i : Nat) : bitAt 0 i = false := by
  rw [bit_mod]
  simp
theorem pow_bit : ∀ j i : Nat, bitAt ((2 : Int) ^ j) i = decide (i = j)
  | 0, 0 => by rw [bit_0]; rfl
  | 0, i + 1 => by
    rw [bit_s, show ((2 : Int) ^ 0) / 2 = 0 by decide, bit_zero]
    exact (decide_eq_false (by omega)).symm
  | j + 1, 0 => by
    rw [bit_0, Int.pow_succ]
    rw [decide_eq_false (by omega)]
    exact (decide_eq_false (by omega)).symm
  | j + 1, i + 1 => by
    rw [bit_s, Int.pow_succ, Int.mul_ediv_cancel _ (by decide), pow_bit j i]
    by_cases c : i = j
    · rw [decide_eq_true c, decide_eq_true (by omega)]
    · rw [decide_eq_false c, decide_eq_false (by omega)]
theorem neg_bits : ∀ (j : Nat) (n : Int), bitAt n j = true → (∀ i, i < j → bitAt n i = false) → (∀ i, i < j → bitAt (-n) i = false) ∧ bitAt (-n) j = true ∧ ∀ i, j < i → bitAt (-n) i = !bitAt n i
  | 0, n, h, _ => by
    rw [bit_0] at h
    have h := of_decide_eq_true h
    refine ⟨fun i hi => absurd hi (Nat.not_lt_zero i), ?_, fun i hi => ?_⟩
    · rw [bit_0]
      exact decide_eq_true (by omega)
    · obtain ⟨i, rfl⟩ : ∃ i', i = i' + 1 := ⟨i - 1, by omega⟩
      rw [bit_s, bit_s]
      have e : (-n) / 2 = Builtin.bitNot (n / 2) := by
        show _ = -(n / 2) - 1
        omega
      rw [e, bnot_bit]
  | j + 1, n, h, lo => by
    have h0 := lo 0 (by omega)
    rw [bit_0] at h0
    have h0 : ¬ n % 2 = 1 := of_decide_eq_false h0
    rw [bit_s] at h
    obtain ⟨a, b, c⟩ := neg_bits j (n / 2) h fun i hi => by rw [← bit_s]; exact lo (i + 1) (by omega)
    have e : (-n) / 2 = -(n / 2) := by omega
    refine ⟨fun i hi => ?_, ?_, fun i hi => ?_⟩
    · cases i with
      | zero => rw [bit_0]; exact decide_eq_false (by omega)
      | succ i => rw [bit_s, e]; exact a i (by omega)
    · rw [bit_s, e]; exact b
    · obtain ⟨i, rfl⟩ : ∃ i', i = i' + 1 := ⟨i - 1, by omega⟩
      rw [bit_s, bit_s, e]
      exact c i (by omega)
theorem low_and {n : Int} {j k : Nat} (h0 : 0 ≤ n) (hk : n < 2 ^ k) (hjk : j < k) (h : bitAt n j = true) (lo : ∀ i, i < j → bitAt n i = false) : Builtin.bitAnd n (-n) = 2 ^ j := by
  obtain ⟨a, b, c⟩ := neg_bits j n h lo
  have hr : 0 ≤ Builtin.bitAnd n (-n) ∧ Builtin.bitAnd n (-n) ≤ n := by
    rw [bitAnd_comm]
    exact bitAnd_range (-n) h0
  have hp : (2 : Int) ^ j < 2 ^ k := by
    have : (2 : Nat) ^ j < 2 ^ k := Nat.pow_lt_pow_right (by decide) hjk
    exact_mod_cast this
  have hp0 : (0 : Int) ≤ 2 ^ j := by
    have : 0 ≤ (2 : Nat) ^ j := Nat.zero_le _
    exact_mod_cast this
  refine bits_uniq k _ _ hr.1 (by omega) hp0 hp fun i _ => ?_
  rw [band_bit, pow_bit]
  rcases Nat.lt_trichotomy i j with hi | hi | hi
  · rw [lo i hi, decide_eq_false (by omega)]
    rfl
  · rw [hi, h, b, decide_eq_true rfl]
    rfl
  · rw [c i hi, decide_eq_false (by omega)]
    cases bitAt n i <;> rfl
theorem len_pow (j : Nat) : Builtin.Int.intBits ((2 : Int) ^ j) = j + 1 := by
  have e : ((2 : Int) ^ j) = ((2 ^ j : Nat) : Int) := by push_cast; rfl
  have hp : 0 < 2 ^ j := Nat.pow_pos (by decide)
  unfold Builtin.Int.intBits
  rw [e, if_neg (by simpa using (show ((2 ^ j : Nat) : Int) ≠ 0 by omega))]
  rw [Int.natAbs_natCast, Nat.log2_two_pow]
/-- the place of the lowest bit -/
theorem low_place {n : Int} {j k : Nat} (h0 : 0 ≤ n) (hk : n < 2 ^ k) (hjk : j < k) (h : bitAt n j = true) (lo : ∀ i, i < j → bitAt n i = false) : ((Builtin.Int.intBits (Builtin.bitAnd n (-n)) : Nat) : Int) - 1 = (j : Nat) := by
  rw [low_and h0 hk hjk h lo, len_pow]
  omega
/-- the first thing that a number's bits tell of -/
theorem low_find {α : Type} {L : List α} {p : α → Bool} {B : Int} (h0 : 0 ≤ B) (hk : B < 2 ^ L.length) (hb : ∀ (j : Nat) (n : α), L[j]? = some n → bitAt B j = p n) : (B = 0 ∧ L.find? p = none) ∨ ∃ (j : Nat) (n : α), L[j]? = some n ∧ L.find? p = some n ∧ B ≠ 0 ∧ ((Builtin.Int.intBits (Builtin.bitAnd B (-B)) : Nat) : Int) - 1 = (j : Nat) := by
  cases e : L.find? p with
  | none =>
    refine .inl ⟨small_zero L.length B h0 hk fun j hj => ?_, rfl⟩
    rw [hb j _ (List.getElem?_eq_getElem hj)]
    have := List.find?_eq_none.mp e _ (List.getElem_mem hj)
    cases h : p L[j] with
    | true => exact absurd h this
    | false => rfl
  | some n =>
    obtain ⟨hp, j, hj, hn, hlo⟩ := List.find?_eq_some_iff_getElem.mp e
    have hb1 : bitAt B j = true := by rw [hb j n (by rw [List.getElem?_eq_getElem hj, hn]), hp]
    have lo : ∀ i, i < j → bitAt B i = false := fun i hi => by
      rw [hb i _ (List.getElem?_eq_getElem (by omega : i < L.length))]
      have := hlo i hi
      simpa using this
    refine .inr ⟨j, n, by rw [List.getElem?_eq_getElem hj, hn], rfl, fun z => ?_, low_place h0 hk hj hb1 lo⟩
    rw [z, bit_zero] at hb1
    cases hb1
/-! ### a number made of bits -/
def bsP (q : Nat → Bool) : Nat → Int
  | 0 => 0
  | i + 1 => bsP q i + (if q i = true then 2 ^ i else 0)
def bsL (q : Nat → Bool) (i : Nat) : List Int := ((List.range i).filter q).map fun j => (2 : Int) ^ j
theorem bsL_more {q : Nat → Bool} {i : Nat} : bsL q (i + 1) = bsL q i ++ (if q i = true then [(2 : Int) ^ i] else []) := by
  unfold bsL
  rw [List.range_succ, List.filter_append, List.map_append]
  congr 1
  rw [List.filter_cons]
  split <;> rfl
theorem bsL_sum {q : Nat → Bool} : ∀ i, (bsL q i).sum = bsP q i
  | 0 => rfl
  | i + 1 => by
    rw [bsL_more, List.sum_append, bsL_sum i]
    show _ = bsP q i + _
    congr 1
    split
    · show (2 : Int) ^ i + 0 = _
      rw [Int.add_zero]
    · rfl
theorem bsL_len {q : Nat → Bool} {i : Nat} : (bsL q i).length ≤ i := by
  unfold bsL
  rw [List.length_map]
  exact Nat.le_trans (List.length_filter_le _ _) (by rw [List.length_range]; exact Nat.le_refl i)
theorem bsP_lt {q : Nat → Bool} : ∀ i, 0 ≤ bsP q i ∧ bsP q i < 2 ^ i
  | 0 => ⟨Int.le_refl 0, (by show (0 : Int) < 1; decide)⟩
  | i + 1 => by
    obtain ⟨h0, h1⟩ := bsP_lt (q := q) i
    show 0 ≤ bsP q i + _ ∧ bsP q i + _ < _
    rw [Int.pow_succ]
    split <;> omega
theorem bsP_bit {q : Nat → Bool} : ∀ i j, j < i → bitAt (bsP q i) j = q j
  | 0, j, h => absurd h (Nat.not_lt_zero j)
  | i + 1, j, h => by
    obtain ⟨h0, h1⟩ := bsP_lt (q := q) i
    show bitAt (bsP q i + (if q i = true then 2 ^ i else 0)) j = _
    rw [bit_mod]
    by_cases e : j = i
    · subst e
      have p : (0 : Int) < 2 ^ j := Int.pow_pos (by decide)
      split
      · rename_i hh
        have e1 : (bsP q j + 2 ^ j) / 2 ^ j = 1 := by
          rw [Int.add_ediv_of_dvd_right (Int.dvd_refl _), Int.ediv_self (by omega), Int.ediv_eq_zero_of_lt h0 h1]
          rfl
        rw [e1, hh]
        rfl
      · rename_i hh
        rw [Int.add_zero, Int.ediv_eq_zero_of_lt h0 h1]
        have hh : q j = false := by simpa using hh
        rw [hh]
        rfl
    · have hj : j < i := by omega
      rw [← bsP_bit (q := q) i j hj, bit_mod]
      split
      · have p : (0 : Int) < 2 ^ j := Int.pow_pos (by decide)
        have e2 : (2 : Int) ^ i = 2 ^ j * (2 * 2 ^ (i - j - 1)) := by
          rw [← Int.pow_succ', ← Int.pow_add]
          congr 1
          omega
        rw [e2, Int.add_mul_ediv_left _ _ (by omega), Int.add_mul_emod_self_left]
      · rw [Int.add_zero]
end Sc
namespace Sc
open PySem PySem.Spec PyProof.Rows L2
/-! ### what a book is asked -/
theorem sc_Book___contains__ : FnScope ["self", "name", "rule"] ["self", "name"] (defScope s_Book___contains__) := ⟨rfl, rfl, rfl, by decide +kernel, rfl, by decide +kernel, by decide +kernel⟩
theorem sc_Book___getitem__ : FnScope ["self", "name", "rule"] ["self", "name"] (defScope s_Book___getitem__) := ⟨rfl, rfl, rfl, by decide +kernel, rfl, by decide +kernel, by decide +kernel⟩
theorem decV_str {a b : Str} : decide (V.str a = V.str b) = decide (a = b) := by
  rw [decide_eq_decide]
  exact ⟨V.str.inj, fun h => by rw [h]⟩
section
variable {P : Program} {w : World} {K : PySem.W.Frag} {mg : Str → Option Value} {base : Heap} {C R B CF CB CU : Addr}
def sp_contains (K : PySem.W.Frag) (C R B : Addr) : Sp := fun vs H Q _ => ∃ (N : Addr → Prop) (o : Addr) (xs : List Str) (f : RF) (rl nm : Str), vs = [.ref o, .str nm] ∧ BookAt K C R B N H o xs f rl ∧ f.size ≤ 900 ∧ ∀ H', Same H H' → Q (.bl (decide (nm ∈ f.names))) H'
theorem ok_contains {f : Addr} {fd : FuncData} (F : Fun K "__contains__" "Book.__contains__" s_Book___contains__ f fd) (Bl : Blt mg) (T : Cls K B) (n4 : NoAttr K B "_numbered") (kR : RuleX P w K mg base R) :
    FnOk P w K mg base CX0 3 f fd ["self", "name"] (sp_contains K C R B) := by
  refine F.ok sc_Book___contains__ (fun vs H Q E h => by obtain ⟨N, o, xs, f, rl, nm, rfl, _⟩ := h; rfl) (fun cdv A outer s H vs Q E hr h => ?_)
  obtain ⟨N, o, xs, f, rl, nm, rfl, ⟨dx, a, p, l, ws, us, ho, hS, hP, hF, ⟨nl, hl⟩, hus⟩, hz, q⟩ := h
  have hlen := hus.len
  rw [List.length_map, RF.pre_len] at hlen
  refine ⟨_, (pss_one (ps_ret (pe_callB (cr_any rfl) (by rfl) Bl.b_any (by decide +kernel) (pa_cons (pe_lc (own := [("rule", 2)]) (g := gName 2) (tt := tYes) rfl sc_Book___contains__.nd (pi_list (pe_fld (pv 0) rfl)) (blkOk_by (own := [("rule", 2)]) (N := ["self", "name", "rule"]) (sc := defScope s_Book___contains__) (by decide +kernel)) (fun _ _ _ _ _ => (pg_name (i := 2) sc_Book___contains__.nd rfl (Or.inl rfl))) (fun _ _ _ _ _ => pts_nil) (fun _ _ _ _ _ => (pe_.re (pe_cmpR op_eq (pe_cprop kR.name kR.cls (hr.mono (by decide)) (pv 2)) (pv 1) (nomark _)) (by first | (dsimp only [Cx.blk]; done) | exact rfl)))) pa_nil)))), ?_⟩
  refine ⟨_, rfl, o, B, dx, _, _, rfl, ho, T, n4, rfl, l, rfl, ⟨_, sqL_of hl⟩, fun D nD => lc_it walk_list (fun i H' => Same H H' ∧ H' D = some (.lst ((((f.pre 0).map fun q => q.1).take i).map fun n => V.bl (decide (n.nm = nm))))) ⟨(Same.refl H).put nD, upd_same⟩ (fun _ _ _ h => sqL_of (h.1 _ _ hl)) ?_ ?_⟩
  · rintro i y H2 H3 hi ⟨s, e⟩ ⟨rfl, hy⟩
    obtain ⟨n, hn, o', rfl, hN⟩ := hus.get hy
    obtain ⟨dx', c', pe', l', ws', ho', _⟩ := hN.keeps (N := N) s.keeps
    refine ⟨rfl, yes_ ⟨_, rfl, o', dx', _, rfl, ho', o', dx', _, _, rfl, ho', rfl, _, rfl, rfl, ?_⟩⟩
    refine grow (acc := fun i => (((f.pre 0).map fun q => q.1).take i).map fun n => V.bl (decide (n.nm = nm))) nD s e ?_ ?_
    · rw [List.length_map, List.length_take, List.length_map, RF.pre_len]
      exact small1000 (by omega)
    · show List.map _ _ = List.map _ _ ++ _
      rw [take_more hn, List.map_append, decV_str]
      rfl
  rintro H2 ⟨s, e⟩
  rw [hus.len, List.take_length] at e
  refine ⟨D, ((f.pre 0).map fun q => q.1).map fun n => decide (n.nm = nm), rfl, sqL_of (by rw [e]; simp only [List.map_map]; rfl), ?_⟩
  have h := q H2 s
  rw [show decide (nm ∈ f.names) = (((f.pre 0).map fun q => q.1).map fun n => decide (n.nm = nm)).any id by
    rw [List.any_map, List.any_map, Bool.eq_iff_iff, decide_eq_true_iff, List.any_eq_true]
    unfold RF.names
    rw [List.mem_map]
    exact ⟨fun ⟨q, hq, e⟩ => ⟨q, hq, decide_eq_true e⟩, fun ⟨q, hq, e⟩ => ⟨q, hq, of_decide_eq_true e⟩⟩] at h
  exact h
/-- the first rule of a name -/
def RF.find (f : RF) (nm : Str) : Option Nd := ((f.pre 0).map fun q => q.1).find? fun n => decide (n.nm = nm)
def sp_getitem (K : PySem.W.Frag) (C R B CU : Addr) : Sp := fun vs H Q E => ∃ (N : Addr → Prop) (o : Addr) (xs : List Str) (f : RF) (rl nm : Str), vs = [.ref o, .str nm] ∧ BookAt K C R B N H o xs f rl ∧ f.size ≤ 900 ∧
  (∀ n v, f.find nm = some n → RefAt K C R N H v n → Q v H) ∧ (f.find nm = none → ∀ H', Same H H' → E (.ref CU) none H')
theorem ok_getitem {f : Addr} {fd : FuncData} (F : Fun K "__getitem__" "Book.__getitem__" s_Book___getitem__ f fd) (Bl : Blt mg) (T : Cls K B) (n4 : NoAttr K B "_numbered") (kR : RuleX P w K mg base R) (e_UnknownRule : ErrMk0 K mg "UnknownRule" CU) :
    FnOk P w K mg base (L2.CX P w) 3 f fd ["self", "name"] (sp_getitem K C R B CU) := by
  refine F.okX sc_Book___getitem__ (fun vs H Q E h => by obtain ⟨N, o, xs, f, rl, nm, rfl, _⟩ := h; rfl) (fun cdv A outer s H vs Q E hr h => ?_)
  obtain ⟨N, o, xs, f, rl, nm, rfl, ⟨dx, a, p, l, ws, us, ho, hS, hP, hF, ⟨nl, hl⟩, hus⟩, hz, q, er⟩ := h
  have hlen := hus.len
  rw [List.length_map, RF.pre_len] at hlen
  refine ⟨_, (pss_cons (ps_for (passes_of rfl) rfl (pi_list (pe_fld (pv 0) rfl)) (pg_name (i := 2) sc_Book___getitem__.nd rfl (Or.inl rfl)) (pss_one (ps_if (pt_cmpR op_eq (pe_cprop kR.name kR.cls (hr.mono (by decide)) (pv 2)) (pv 1) (nomark _)) (pss_one (ps_ret (pv 2))) pss_nil)))
      (pss_one (ps_raise rfl (takes_of rfl rfl rfl rfl) (pmk_err0 e_UnknownRule)))), ?_⟩
  refine ⟨_, rfl, o, B, dx, _, _, rfl, ho, T, n4, rfl, l, rfl, ⟨_, sqL_of hl⟩, for_it walk_list (fun i σ H' => ∃ y, σ = [some (.ref o), some (.str nm), y] ∧ H' = H ∧ ∀ (j : Nat) (n : Nd), j < i → ((f.pre 0).map fun q => q.1)[j]? = some n → n.nm ≠ nm) ⟨none, rfl, rfl, fun j n hj => absurd hj (Nat.not_lt_zero j)⟩ (fun _ _ _ _ ⟨_, _, e, _⟩ => by rw [e]; exact sqL_of hl) ?_ ?_⟩
  · rintro i y σ H2 H3 hi ⟨y', rfl, rfl, hne⟩ ⟨rfl, hy⟩
    obtain ⟨n, hn, o', rfl, hN⟩ := hus.get hy
    have hR : RefAt K C R N _ (.ref o') n := ⟨o', rfl, hN⟩
    obtain ⟨dx', c', pe', l', ws', ho', _⟩ := hN
    refine ⟨_, rfl, o', dx', _, rfl, ho', o', dx', _, _, rfl, ho', rfl, _, rfl, rfl, _, rfl, bcase (fun c1 => ?_) (fun c1 => ?_)⟩
    · have c1 := V.str.inj (of_decide_eq_true c1)
      refine ⟨_, rfl, q n _ ?_ hR⟩
      unfold RF.find
      rw [List.find?_eq_some_iff_getElem]
      obtain ⟨hil, e⟩ := List.getElem?_eq_some_iff.mp hn
      refine ⟨decide_eq_true c1, i, hil, e, fun j hj => ?_⟩
      rw [decide_eq_false (hne j _ hj (List.getElem?_eq_getElem (by omega)))]
      rfl
    · have c1 : n.nm ≠ nm := fun z => of_decide_eq_false c1 (by rw [z])
      refine ⟨_, rfl, rfl, fun j m hj hm => ?_⟩
      by_cases hji : j < i
      · exact hne j m hji hm
      · have e : j = i := by omega
        subst e
        rw [hn] at hm
        cases hm
        exact c1
  · rintro σ H2 ⟨y', rfl, rfl, hne⟩
    refine er ?_ H2 (Same.refl H2)
    unfold RF.find
    rw [List.find?_eq_none]
    intro m hm
    obtain ⟨j, hj, e⟩ := List.getElem_of_mem hm
    rw [decide_eq_false (hne j m (by rw [hus.len]; exact hj) (by rw [List.getElem?_eq_getElem hj, e]))]
    exact Bool.false_ne_true
end
end Sc
namespace Sc
open PySem PySem.Spec PyProof.Rows L2
/-! ### rows of rules that are edited -/
def RF.path (nm : Str) : RF → List Nd
  | .nil => []
  | .cons n hs fs rl exc rest => if n = nm then [⟨n, hs, fs, rl, exc⟩] else if RF.path nm exc = [] then RF.path nm rest else ⟨n, hs, fs, rl, exc⟩ :: RF.path nm exc
theorem RF.path_no {nm : Str} : ∀ {f : RF}, ¬ nm ∈ f.names → f.path nm = []
  | .nil, _ => rfl
  | .cons n hs fs rl exc rest, h => by
    rw [← RF.pre_names _ 0] at h
    have e : ((RF.cons n hs fs rl exc rest).pre 0).map (fun p => p.1.nm) = n :: (exc.names ++ rest.names) := by
      show n :: ((exc.pre 1 ++ rest.pre 0).map _) = _
      rw [List.map_append, RF.pre_names, RF.pre_names]
    rw [e] at h
    have h1 : ¬ n = nm := fun z => h (by rw [z]; exact List.mem_cons_self)
    show (if n = nm then _ else if RF.path nm exc = [] then RF.path nm rest else _) = _
    rw [if_neg h1, if_pos (RF.path_no fun z => h (List.mem_cons_of_mem _ (List.mem_append_left _ z)))]
    exact RF.path_no fun z => h (List.mem_cons_of_mem _ (List.mem_append_right _ z))
/-- the same rule with other exceptions -/
def Nd.wE (n : Nd) (e : RF) : Nd := ⟨n.nm, n.hs, n.fs, n.rl, e⟩
namespace RF
theorem ext_nodes {f g : RF} (h : f.nodes = g.nodes) : f = g := by rw [← of_nodes f, h, of_nodes]
theorem names_cons {n : Str} {hs fs : List Str} {rl : Str} {exc rest : RF} : (RF.cons n hs fs rl exc rest).names = n :: (exc.names ++ rest.names) := by
  rw [← pre_names _ 0]
  show n :: ((exc.pre 1 ++ rest.pre 0).map _) = _
  rw [List.map_append, pre_names, pre_names]
theorem names_nil : RF.nil.names = [] := rfl
theorem names_flat : ∀ f : RF, f.names = f.nodes.flatMap fun n => n.nm :: n.exc.names
  | .nil => rfl
  | .cons n hs fs rl exc rest => by
    rw [names_cons, names_flat rest]
    rfl
theorem mem_names {f : RF} {x : Str} : x ∈ f.names ↔ ∃ n ∈ f.nodes, x = n.nm ∨ x ∈ n.exc.names := by
  rw [names_flat, List.mem_flatMap]
  simp only [List.mem_cons]
/-- others ahead of a row -/
def put : List Nd → RF → RF
  | [], f => f
  | n :: r, f => .cons n.nm n.hs n.fs n.rl n.exc (put r f)
theorem put_nodes : ∀ (os : List Nd) (f : RF), (put os f).nodes = os ++ f.nodes
  | [], _ => rfl
  | n :: r, f => by
    show n :: (put r f).nodes = _
    rw [put_nodes r f]
    rfl
theorem put_of (os ns : List Nd) : put os (ofNodes ns) = ofNodes (os ++ ns) := ext_nodes (by rw [put_nodes, nodes_of, nodes_of])
/-- a change at the rule of a name -/
def upd (nm : Str) (G : Nd → RF → RF) : RF → RF
  | .nil => .nil
  | .cons n hs fs rl exc rest => if n = nm then G ⟨n, hs, fs, rl, exc⟩ rest else .cons n hs fs rl (upd nm G exc) (upd nm G rest)
theorem upd_no {nm : Str} {G : Nd → RF → RF} : ∀ {f : RF}, ¬ nm ∈ f.names → upd nm G f = f
  | .nil, _ => rfl
  | .cons n hs fs rl exc rest, h => by
    rw [names_cons] at h
    show (if n = nm then _ else RF.cons n hs fs rl (upd nm G exc) (upd nm G rest)) = _
    rw [if_neg fun z => h (by rw [z]; exact List.mem_cons_self), upd_no fun z => h (List.mem_cons_of_mem _ (List.mem_append_left _ z)), upd_no fun z => h (List.mem_cons_of_mem _ (List.mem_append_right _ z))]
theorem upd_at {nm : Str} {G : Nd → RF → RF} : ∀ {f : RF} {k : Nat} {n : Nd}, f.nodes[k]? = some n → n.nm = nm → (∀ m ∈ f.nodes.take k, m.nm ≠ nm ∧ ¬ nm ∈ m.exc.names) → upd nm G f = put (f.nodes.take k) (G n (ofNodes (f.nodes.drop (k + 1))))
  | .nil, k, n, h, _, _ => by cases k <;> cases h
  | .cons x hs fs rl exc rest, 0, n, h, e, _ => by
    cases h
    show (if x = nm then _ else _) = G ⟨x, hs, fs, rl, exc⟩ (ofNodes rest.nodes)
    rw [if_pos e, of_nodes]
  | .cons x hs fs rl exc rest, k + 1, n, h, e, off => by
    have h0 := off ⟨x, hs, fs, rl, exc⟩ List.mem_cons_self
    show (if x = nm then _ else RF.cons x hs fs rl (upd nm G exc) (upd nm G rest)) = _
    rw [if_neg h0.1, upd_no h0.2, upd_at (f := rest) (k := k) h e fun m hm => off m (List.mem_cons_of_mem _ hm)]
    rfl
theorem upd_map {nm : Str} {G : Nd → RF → RF} : ∀ {f : RF}, (∀ n ∈ f.nodes, n.nm ≠ nm) → (upd nm G f).nodes = f.nodes.map fun n => n.wE (upd nm G n.exc)
  | .nil, _ => rfl
  | .cons x hs fs rl exc rest, h => by
    show (if x = nm then G _ _ else RF.cons x hs fs rl (upd nm G exc) (upd nm G rest)).nodes = _
    rw [if_neg (h _ List.mem_cons_self)]
    show _ :: (upd nm G rest).nodes = _
    rw [upd_map (f := rest) fun m hm => h m (List.mem_cons_of_mem _ hm)]
    rfl
/-- others in the place of the rules of a name, as the program does it -/
def repl (nm : Str) (os : List Nd) : RF → RF
  | .nil => .nil
  | .cons n hs fs rl exc rest => if n = nm then put os (repl nm os rest) else .cons n hs fs rl (repl nm os exc) (repl nm os rest)
def replL (nm : Str) (os : List Nd) (ns : List Nd) : List Nd := ns.flatMap fun n => if n.nm = nm then os else [n.wE (repl nm os n.exc)]
theorem repl_nodes {nm : Str} {os : List Nd} : ∀ f : RF, (repl nm os f).nodes = replL nm os f.nodes
  | .nil => rfl
  | .cons n hs fs rl exc rest => by
    have ih := repl_nodes (nm := nm) (os := os) rest
    show (if n = nm then put os (repl nm os rest) else RF.cons n hs fs rl (repl nm os exc) (repl nm os rest)).nodes = (if n = nm then os else [Nd.wE ⟨n, hs, fs, rl, exc⟩ (repl nm os exc)]) ++ replL nm os rest.nodes
    by_cases e : n = nm
    · rw [if_pos e, if_pos e, put_nodes, ih]
    · rw [if_neg e, if_neg e, ← ih]
      rfl
theorem replL_more {nm : Str} {os : List Nd} {ns : List Nd} {i : Nat} {n : Nd} (h : ns[i]? = some n) : replL nm os (ns.take (i + 1)) = replL nm os (ns.take i) ++ (if n.nm = nm then os else [n.wE (repl nm os n.exc)]) := by
  unfold replL
  rw [take_more h, List.flatMap_append]
  simp
theorem repl_no {nm : Str} {os : List Nd} : ∀ {f : RF}, ¬ nm ∈ f.names → repl nm os f = f
  | .nil, _ => rfl
  | .cons n hs fs rl exc rest, h => by
    rw [names_cons] at h
    show (if n = nm then _ else RF.cons n hs fs rl (repl nm os exc) (repl nm os rest)) = _
    rw [if_neg fun z => h (by rw [z]; exact List.mem_cons_self), repl_no fun z => h (List.mem_cons_of_mem _ (List.mem_append_left _ z)), repl_no fun z => h (List.mem_cons_of_mem _ (List.mem_append_right _ z))]
theorem nodup_cons {n : Str} {hs fs : List Str} {rl : Str} {exc rest : RF} (h : (RF.cons n hs fs rl exc rest).names.Nodup) :
    ¬ n ∈ exc.names ∧ ¬ n ∈ rest.names ∧ exc.names.Nodup ∧ rest.names.Nodup ∧ ∀ x ∈ exc.names, ¬ x ∈ rest.names := by
  rw [names_cons, List.nodup_cons, List.nodup_append] at h
  obtain ⟨h1, h2, h3, h4⟩ := h
  exact ⟨fun z => h1 (List.mem_append_left _ z), fun z => h1 (List.mem_append_right _ z), h2, h3, fun x hx hy => h4 x hx x hy rfl⟩
theorem nodup_node : ∀ {f : RF}, f.names.Nodup → ∀ n ∈ f.nodes, n.exc.names.Nodup ∧ ¬ n.nm ∈ n.exc.names
  | .nil, _, _, hn => nomatch hn
  | .cons x hs fs rl exc rest, h, n, hn => by
    obtain ⟨h1, h2, h3, h4, h5⟩ := nodup_cons h
    rcases List.mem_cons.mp hn with rfl | hn
    · exact ⟨h3, h1⟩
    · exact nodup_node h4 n hn
theorem repl_upd {nm : Str} {os : List Nd} : ∀ {f : RF}, f.names.Nodup → repl nm os f = upd nm (fun _ rest => put os rest) f
  | .nil, _ => rfl
  | .cons n hs fs rl exc rest, h => by
    obtain ⟨h1, h2, h3, h4, h5⟩ := nodup_cons h
    show (if n = nm then put os (repl nm os rest) else RF.cons n hs fs rl (repl nm os exc) (repl nm os rest)) = (if n = nm then put os rest else RF.cons n hs fs rl (upd nm _ exc) (upd nm _ rest))
    by_cases e : n = nm
    · subst e
      rw [if_pos rfl, if_pos rfl, repl_no h2]
    · rw [if_neg e, if_neg e, repl_upd h3, repl_upd h4]
theorem find_nil {nm : Str} : RF.nil.find nm = none := rfl
theorem pre_fst' : ∀ (f : RF) (k j : Nat), (f.pre k).map (fun q => q.1) = (f.pre j).map fun q => q.1
  | .nil, _, _ => rfl
  | .cons nm hs fs rl exc rest, k, j => by
    show _ :: (exc.pre (k + 1) ++ rest.pre k).map _ = _ :: (exc.pre (j + 1) ++ rest.pre j).map _
    rw [List.map_append, List.map_append, pre_fst' exc (k + 1) (j + 1), pre_fst' rest k j]
theorem find_cons {n nm : Str} {hs fs : List Str} {rl : Str} {exc rest : RF} : (RF.cons n hs fs rl exc rest).find nm = if n = nm then some ⟨n, hs, fs, rl, exc⟩ else (exc.find nm).or (rest.find nm) := by
  unfold find
  show (_ :: (exc.pre 1 ++ rest.pre 0).map _).find? _ = _
  rw [List.find?_cons]
  by_cases e : n = nm
  · rw [if_pos e]
    dsimp only
    rw [decide_eq_true e]
  · rw [if_neg e]
    dsimp only
    rw [decide_eq_false e, List.map_append, List.find?_append, pre_fst' exc 1 0]
theorem find_none {nm : Str} : ∀ {f : RF}, ¬ nm ∈ f.names → f.find nm = none
  | .nil, _ => rfl
  | .cons n hs fs rl exc rest, h => by
    rw [names_cons] at h
    rw [find_cons, if_neg fun z => h (by rw [z]; exact List.mem_cons_self), find_none fun z => h (List.mem_cons_of_mem _ (List.mem_append_left _ z)), find_none fun z => h (List.mem_cons_of_mem _ (List.mem_append_right _ z))]
    rfl
theorem find_some {nm : Str} : ∀ {f : RF}, nm ∈ f.names → ∃ n, f.find nm = some n ∧ n.nm = nm
  | .nil, h => nomatch h
  | .cons n hs fs rl exc rest, h => by
    rw [find_cons]
    by_cases e : n = nm
    · rw [if_pos e]
      exact ⟨_, rfl, e⟩
    · rw [if_neg e]
      by_cases c : nm ∈ exc.names
      · obtain ⟨m, h1, h2⟩ := find_some c
        rw [h1]
        exact ⟨m, rfl, h2⟩
      · rw [names_cons] at h
        have hr : nm ∈ rest.names := by
          rcases List.mem_cons.mp h with h | h
          · exact absurd h.symm e
          · rcases List.mem_append.mp h with h | h
            · exact absurd h c
            · exact h
        rw [find_none c]
        exact find_some hr
/-- a change leans on the one rule of that name -/
theorem upd_find {nm : Str} {G G' : Nd → RF → RF} {n0 : Nd} (g : G n0 = G' n0) : ∀ {f : RF}, f.names.Nodup → (nm ∈ f.names → f.find nm = some n0) → upd nm G f = upd nm G' f
  | .nil, _, _ => rfl
  | .cons n hs fs rl exc rest, h, hf => by
    obtain ⟨h1, h2, h3, h4, h5⟩ := nodup_cons h
    rw [find_cons, names_cons] at hf
    show (if n = nm then G _ _ else RF.cons n hs fs rl (upd nm G exc) (upd nm G rest)) = (if n = nm then G' _ _ else RF.cons n hs fs rl (upd nm G' exc) (upd nm G' rest))
    by_cases e : n = nm
    · rw [if_pos e, if_pos e]
      rw [if_pos e] at hf
      rw [Option.some.inj (hf (by rw [e]; exact List.mem_cons_self)), g]
    · rw [if_neg e, if_neg e]
      rw [if_neg e] at hf
      rw [upd_find g h3 (fun c => ?_), upd_find g h4 (fun c => ?_)]
      · have hc : ¬ nm ∈ exc.names := fun z => h5 _ z c
        have hf := hf (List.mem_cons_of_mem _ (List.mem_append_right _ c))
        rw [find_none hc] at hf
        exact hf
      · have hf := hf (List.mem_cons_of_mem _ (List.mem_append_left _ c))
        obtain ⟨m, e1, _⟩ := find_some c
        rw [e1] at hf
        rw [e1]
        exact hf
end RF
/-- what an amendment makes of a rule -/
inductive Op where
  | strike
  | swap
  | before (m : Nd)
  | add (m : Nd)
  | ruling (s : Str)
  | cond (hs fs : List Str)
def Op.news : Op → Nd → List Nd
  | .strike, _ => []
  | .swap, n => [n]
  | .before m, n => [m, n]
  | .add m, n => [n.wE (n.exc.snoc m)]
  | .ruling s, n => [⟨n.nm, n.hs, n.fs, s, n.exc⟩]
  | .cond hs fs, n => [⟨n.nm, hs, fs, n.rl, n.exc⟩]
def swapG (n : Nd) : RF → RF
  | .nil => RF.put [n] .nil
  | .cons a b c d e r => .cons a b c d e (RF.put [n] r)
def Op.G : Op → Nd → RF → RF
  | .swap, n, rest => swapG n rest
  | op, n, rest => RF.put (op.news n) rest
namespace RF
/-- the rule directly behind, beside it -/
def nxt (nm : Str) : RF → Option Nd
  | .nil => none
  | .cons n hs fs rl exc rest => if n = nm then rest.nodes.head? else if nm ∈ exc.names then nxt nm exc else nxt nm rest
theorem nxt_mem {nm : Str} : ∀ {f : RF} {b : Nd}, nxt nm f = some b → b.nm ∈ f.names
  | .nil, b, h => nomatch h
  | .cons n hs fs rl exc rest, b, h => by
    unfold nxt at h
    rw [names_cons]
    by_cases e : n = nm
    · rw [if_pos e] at h
      have hb : b ∈ rest.nodes := List.mem_of_mem_head? h
      exact List.mem_cons_of_mem _ (List.mem_append_right _ (mem_names.mpr ⟨b, hb, .inl rfl⟩))
    · rw [if_neg e] at h
      by_cases c : nm ∈ exc.names
      · rw [if_pos c] at h
        exact List.mem_cons_of_mem _ (List.mem_append_left _ (nxt_mem h))
      · rw [if_neg c] at h
        exact List.mem_cons_of_mem _ (List.mem_append_right _ (nxt_mem h))
/-- out of its place, and then in again, ahead of the other -/
theorem swap_two {nm : Str} {b n0 : Nd} : ∀ {f : RF}, f.names.Nodup → nm ∈ f.names → nxt nm f = some b → f.find nm = some n0 → upd nm (fun _ rest => put [b, n0] rest) (upd b.nm (fun _ rest => rest) f) = upd nm swapG f
  | .nil, _, h, _, _ => nomatch h
  | .cons n hs fs rl exc rest, h, hm, hx, hf => by
    obtain ⟨h1, h2, h3, h4, h5⟩ := nodup_cons h
    unfold nxt at hx
    rw [find_cons] at hf
    by_cases e : n = nm
    · subst e
      rw [if_pos rfl] at hx hf
      cases hf
      cases rest with
      | nil => exact nomatch hx
      | cons a g c d ex r =>
        cases hx
        have na : ¬ n = a := fun z => h2 (by rw [names_cons, z]; exact List.mem_cons_self)
        have ne : ¬ a ∈ exc.names := fun z => h5 _ z (by rw [names_cons]; exact List.mem_cons_self)
        show upd n _ (if n = a then _ else RF.cons n hs fs rl (upd a _ exc) (if a = a then r else _)) = (if n = n then _ else _)
        rw [if_neg na, if_pos rfl, if_pos rfl, upd_no ne]
        show (if n = n then _ else _) = _
        rw [if_pos rfl]
        rfl
    · rw [if_neg e] at hx hf
      by_cases c : nm ∈ exc.names
      · rw [if_pos c] at hx
        have hb := nxt_mem hx
        have nb : ¬ n = b.nm := fun z => h1 (by rw [z]; exact hb)
        have nr : ¬ b.nm ∈ rest.names := h5 _ hb
        have nr2 : ¬ nm ∈ rest.names := h5 _ c
        obtain ⟨m, e1, _⟩ := find_some c
        rw [e1] at hf
        have hf : exc.find nm = some n0 := by rw [e1]; exact hf
        show upd nm _ (if n = b.nm then _ else RF.cons n hs fs rl (upd b.nm _ exc) (upd b.nm _ rest)) = (if n = nm then _ else RF.cons n hs fs rl (upd nm swapG exc) (upd nm swapG rest))
        rw [if_neg nb, if_neg e, upd_no nr, upd_no (G := swapG) nr2, ← swap_two h3 c hx hf]
        show (if n = nm then _ else RF.cons n hs fs rl (upd nm _ _) (upd nm _ rest)) = _
        rw [if_neg e, upd_no (G := fun _ rest => put [b, n0] rest) nr2]
      · rw [if_neg c] at hx
        rw [find_none c] at hf
        have hb := nxt_mem hx
        have nb : ¬ n = b.nm := fun z => h2 (by rw [z]; exact hb)
        have ne : ¬ b.nm ∈ exc.names := fun z => h5 _ z hb
        have hr : nm ∈ rest.names := by
          rw [names_cons] at hm
          rcases List.mem_cons.mp hm with z | z
          · exact absurd z.symm e
          · rcases List.mem_append.mp z with z | z
            · exact absurd z c
            · exact z
        show upd nm _ (if n = b.nm then _ else RF.cons n hs fs rl (upd b.nm _ exc) (upd b.nm _ rest)) = (if n = nm then _ else RF.cons n hs fs rl (upd nm swapG exc) (upd nm swapG rest))
        rw [if_neg nb, if_neg e, upd_no ne, upd_no (G := swapG) c, ← swap_two h4 hr hx hf]
        show (if n = nm then _ else RF.cons n hs fs rl (upd nm _ exc) (upd nm _ _)) = _
        rw [if_neg e, upd_no (G := fun _ rest => put [b, n0] rest) c]
end RF
end Sc
namespace Sc
open PySem PySem.Spec PyProof.Rows L2
namespace RF
/-! ### how large, how deep, of which names -/
theorem put_size : ∀ (os : List Nd) (f : RF), (put os f).size = (ofNodes os).size + f.size
  | [], f => by show f.size = 0 + f.size; omega
  | n :: r, f => by
    show n.exc.size + 1 + (put r f).size = n.exc.size + 1 + (ofNodes r).size + f.size
    rw [put_size r f]
    omega
theorem put_dep : ∀ (os : List Nd) (f : RF), (put os f).dep = max (ofNodes os).dep f.dep
  | [], f => by show f.dep = max 0 f.dep; omega
  | n :: r, f => by
    show max (n.exc.dep + 1) (put r f).dep = max (max (n.exc.dep + 1) (ofNodes r).dep) f.dep
    rw [put_dep r f]
    omega
theorem put_every {p : Nd → Prop} {os : List Nd} {f : RF} (h : ∀ n ∈ os, p n ∧ n.exc.every p) (k : f.every p) : (put os f).every p := every_nodes.mpr fun n hn => by
  rw [put_nodes] at hn
  rcases List.mem_append.mp hn with hn | hn
  · exact h n hn
  · exact every_nodes.mp k n hn
theorem put_names (os : List Nd) (f : RF) : (put os f).names = (ofNodes os).names ++ f.names := by
  rw [names_flat, put_nodes, List.flatMap_append, ← names_flat, names_flat (ofNodes os), nodes_of]
theorem upd_size {nm : Str} {G : Nd → RF → RF} {e : Nat} (g : ∀ n rest, (G n rest).size ≤ n.exc.size + 1 + rest.size + e) : ∀ {f : RF}, f.names.Nodup → (upd nm G f).size ≤ f.size + e
  | .nil, _ => Nat.zero_le _
  | .cons n hs fs rl exc rest, h => by
    obtain ⟨h1, h2, h3, h4, h5⟩ := nodup_cons h
    show (if n = nm then G _ _ else RF.cons n hs fs rl (upd nm G exc) (upd nm G rest)).size ≤ exc.size + 1 + rest.size + e
    by_cases c : n = nm
    · rw [if_pos c]
      exact g _ _
    · rw [if_neg c]
      show (upd nm G exc).size + 1 + (upd nm G rest).size ≤ _
      by_cases d : nm ∈ exc.names
      · rw [upd_no (h5 _ d)]
        have := upd_size (nm := nm) g h3
        omega
      · rw [upd_no d]
        have := upd_size (nm := nm) g h4
        omega
theorem upd_dep {nm : Str} {G : Nd → RF → RF} {e : Nat} (g : ∀ n rest, (G n rest).dep ≤ max (n.exc.dep + 1) rest.dep + e) : ∀ {f : RF}, (upd nm G f).dep ≤ f.dep + e
  | .nil => Nat.zero_le _
  | .cons n hs fs rl exc rest => by
    show (if n = nm then G _ _ else RF.cons n hs fs rl (upd nm G exc) (upd nm G rest)).dep ≤ max (exc.dep + 1) rest.dep + e
    by_cases c : n = nm
    · rw [if_pos c]
      exact g _ _
    · rw [if_neg c]
      show max ((upd nm G exc).dep + 1) (upd nm G rest).dep ≤ _
      have h1 := upd_dep (nm := nm) (f := exc) g
      have h2 := upd_dep (nm := nm) (f := rest) g
      omega
theorem upd_every {nm : Str} {G : Nd → RF → RF} {p : Nd → Prop} (hp : ∀ n e, p n → p (n.wE e)) (g : ∀ n rest, p n → n.exc.every p → rest.every p → (G n rest).every p) : ∀ {f : RF}, f.every p → (upd nm G f).every p
  | .nil, _ => trivial
  | .cons n hs fs rl exc rest, h => by
    obtain ⟨h1, h2, h3⟩ := h
    show (if n = nm then G _ _ else RF.cons n hs fs rl (upd nm G exc) (upd nm G rest)).every p
    by_cases c : n = nm
    · rw [if_pos c]
      exact g _ _ h1 h2 h3
    · rw [if_neg c]
      exact ⟨hp _ _ h1, upd_every hp g h2, upd_every hp g h3⟩
theorem upd_names {nm : Str} {G : Nd → RF → RF} (g : ∀ n rest, (n.nm :: (n.exc.names ++ rest.names)).Nodup → (G n rest).names.Nodup ∧ ∀ x ∈ (G n rest).names, x ∈ n.nm :: (n.exc.names ++ rest.names)) : ∀ {f : RF}, f.names.Nodup → (upd nm G f).names.Nodup ∧ ∀ x ∈ (upd nm G f).names, x ∈ f.names
  | .nil, _ => ⟨.nil, fun _ h => h⟩
  | .cons n hs fs rl exc rest, h => by
    obtain ⟨h1, h2, h3, h4, h5⟩ := nodup_cons h
    show (if n = nm then G _ _ else RF.cons n hs fs rl (upd nm G exc) (upd nm G rest)).names.Nodup ∧ ∀ x ∈ (if n = nm then G _ _ else RF.cons n hs fs rl (upd nm G exc) (upd nm G rest)).names, x ∈ _
    by_cases c : n = nm
    · rw [if_pos c, names_cons]
      rw [names_cons] at h
      exact g ⟨n, hs, fs, rl, exc⟩ rest h
    · rw [if_neg c, names_cons, names_cons]
      obtain ⟨a1, a2⟩ := upd_names (nm := nm) g h3
      obtain ⟨b1, b2⟩ := upd_names (nm := nm) g h4
      refine ⟨List.nodup_cons.mpr ⟨fun z => ?_, List.nodup_append.mpr ⟨a1, b1, fun x hx y hy e => ?_⟩⟩, fun x hx => ?_⟩
      · rcases List.mem_append.mp z with z | z
        · exact h1 (a2 _ z)
        · exact h2 (b2 _ z)
      · subst e
        exact h5 x (a2 _ hx) (b2 _ hy)
      · rcases List.mem_cons.mp hx with rfl | hx
        · exact List.mem_cons_self
        · refine List.mem_cons_of_mem _ ?_
          rcases List.mem_append.mp hx with hx | hx
          · exact List.mem_append_left _ (a2 _ hx)
          · exact List.mem_append_right _ (b2 _ hx)
/-! ### where a rule stands -/
/-- the row in which a rule stands -/
def rowIn (nm : Str) (top : RF) : RF → RF
  | .nil => top
  | .cons n hs fs rl exc rest => if n = nm then top else if nm ∈ exc.names then rowIn nm exc exc else rowIn nm top rest
theorem path_some {nm : Str} : ∀ {f : RF}, nm ∈ f.names → f.path nm ≠ []
  | .nil, h => nomatch h
  | .cons n hs fs rl exc rest, h => by
    show (if n = nm then _ else if RF.path nm exc = [] then RF.path nm rest else _) ≠ []
    by_cases e : n = nm
    · rw [if_pos e]
      exact List.cons_ne_nil _ _
    · rw [if_neg e]
      by_cases c : RF.path nm exc = []
      · rw [if_pos c]
        refine path_some ?_
        rw [names_cons] at h
        rcases List.mem_cons.mp h with z | z
        · exact absurd z.symm e
        · rcases List.mem_append.mp z with z | z
          · exact absurd c (path_some z)
          · exact z
      · rw [if_neg c]
        exact List.cons_ne_nil _ _
theorem path_row {nm : Str} : ∀ {f : RF} (top : RF), nm ∈ f.names → (((f.path nm).length = 1 ∧ rowIn nm top f = top) ∨ ∃ q, (f.path nm)[(f.path nm).length - 2]? = some q ∧ 2 ≤ (f.path nm).length ∧ rowIn nm top f = q.exc)
  | .nil, _, h => nomatch h
  | .cons n hs fs rl exc rest, top, h => by
    have e0 : RF.path nm (RF.cons n hs fs rl exc rest) = (if n = nm then [⟨n, hs, fs, rl, exc⟩] else if RF.path nm exc = [] then RF.path nm rest else ⟨n, hs, fs, rl, exc⟩ :: RF.path nm exc) := rfl
    have e1 : rowIn nm top (RF.cons n hs fs rl exc rest) = (if n = nm then top else if nm ∈ exc.names then rowIn nm exc exc else rowIn nm top rest) := rfl
    rw [e0, e1]
    by_cases e : n = nm
    · rw [if_pos e, if_pos e]
      exact .inl ⟨rfl, rfl⟩
    · rw [if_neg e, if_neg e]
      by_cases c : nm ∈ exc.names
      · rw [if_neg (path_some c), if_pos c]
        refine .inr ?_
        rcases path_row exc c with ⟨h1, h2⟩ | ⟨q, h1, h2, h3⟩
        · refine ⟨⟨n, hs, fs, rl, exc⟩, ?_, by rw [List.length_cons]; omega, h2⟩
          rw [List.length_cons, h1]
          rfl
        · refine ⟨q, ?_, by rw [List.length_cons]; omega, h3⟩
          rw [List.length_cons, ← h1]
          show (_ :: RF.path nm exc)[(RF.path nm exc).length + 1 - 2]? = _
          rw [show (RF.path nm exc).length + 1 - 2 = (RF.path nm exc).length - 2 + 1 by omega]
          rfl
      · rw [if_pos (path_no c), if_neg c]
        refine path_row top ?_
        rw [names_cons] at h
        rcases List.mem_cons.mp h with z | z
        · exact absurd z.symm e
        · rcases List.mem_append.mp z with z | z
          · exact absurd z c
          · exact z
/-- how many stand beside the rule, and its place there -/
def besL (nm : Str) (m : Nat) : Nat → RF → Option (Nat × Nat)
  | _, .nil => none
  | k, .cons n hs fs rl exc rest => if n = nm then some (m, k) else match besL nm exc.nodes.length 0 exc with
    | some r => some r
    | none => besL nm m (k + 1) rest
def bes (nm : Str) (f : RF) : Option (Nat × Nat) := besL nm f.nodes.length 0 f
theorem besL_none {nm : Str} {m : Nat} : ∀ {f : RF} {k : Nat}, ¬ nm ∈ f.names → besL nm m k f = none
  | .nil, _, _ => rfl
  | .cons n hs fs rl exc rest, k, h => by
    rw [names_cons] at h
    show (if n = nm then _ else match besL nm exc.nodes.length 0 exc with | some r => some r | none => besL nm m (k + 1) rest) = _
    rw [if_neg fun z => h (by rw [z]; exact List.mem_cons_self), besL_none (f := exc) fun z => h (List.mem_cons_of_mem _ (List.mem_append_left _ z))]
    exact besL_none fun z => h (List.mem_cons_of_mem _ (List.mem_append_right _ z))
theorem row_at {nm : Str} : ∀ {f : RF} {top : RF} {pre : List Nd}, nm ∈ f.names → top.nodes = pre ++ f.nodes → (∀ p ∈ pre, p.nm ≠ nm) →
    ∃ (k : Nat) (n : Nd), besL nm top.nodes.length pre.length f = some ((rowIn nm top f).nodes.length, k) ∧ (rowIn nm top f).nodes[k]? = some n ∧ n.nm = nm ∧ (∀ (j : Nat) (p : Nd), j < k → (rowIn nm top f).nodes[j]? = some p → p.nm ≠ nm) ∧ nxt nm f = (rowIn nm top f).nodes[k + 1]?
  | .nil, _, _, h, _, _ => nomatch h
  | .cons n hs fs rl exc rest, top, pre, h, ht, hp => by
    have e1 : rowIn nm top (RF.cons n hs fs rl exc rest) = (if n = nm then top else if nm ∈ exc.names then rowIn nm exc exc else rowIn nm top rest) := rfl
    have e2 : besL nm top.nodes.length pre.length (RF.cons n hs fs rl exc rest) = (if n = nm then some (top.nodes.length, pre.length) else match besL nm exc.nodes.length 0 exc with | some r => some r | none => besL nm top.nodes.length (pre.length + 1) rest) := rfl
    have e3 : nxt nm (RF.cons n hs fs rl exc rest) = (if n = nm then rest.nodes.head? else if nm ∈ exc.names then nxt nm exc else nxt nm rest) := rfl
    rw [e1, e2, e3]
    by_cases e : n = nm
    · rw [if_pos e, if_pos e, if_pos e]
      refine ⟨pre.length, ⟨n, hs, fs, rl, exc⟩, rfl, ?_, e, fun j p hj hpj => ?_, ?_⟩
      · rw [ht, List.getElem?_append_right (Nat.le_refl _), Nat.sub_self]
        rfl
      · rw [ht, List.getElem?_append_left hj] at hpj
        exact hp p (List.mem_of_getElem? hpj)
      · rw [ht, List.getElem?_append_right (Nat.le_succ _), show pre.length + 1 - pre.length = 1 by omega]
        show rest.nodes.head? = rest.nodes[0]?
        cases rest.nodes <;> rfl
    · rw [if_neg e, if_neg e, if_neg e]
      by_cases c : nm ∈ exc.names
      · rw [if_pos c, if_pos c]
        obtain ⟨k, m, h1, h2, h3, h4, h5⟩ := row_at (f := exc) (top := exc) (pre := []) c rfl (fun _ h => nomatch h)
        have h1 : besL nm exc.nodes.length 0 exc = _ := h1
        rw [h1]
        exact ⟨k, m, rfl, h2, h3, h4, h5⟩
      · rw [if_neg c, if_neg c, besL_none (f := exc) c]
        have hr : nm ∈ rest.names := by
          rw [names_cons] at h
          rcases List.mem_cons.mp h with z | z
          · exact absurd z.symm e
          · rcases List.mem_append.mp z with z | z
            · exact absurd z c
            · exact z
        obtain ⟨k, m, h1, h2, h3, h4, h5⟩ := row_at (f := rest) (top := top) (pre := pre ++ [⟨n, hs, fs, rl, exc⟩]) hr (by rw [ht, List.append_assoc]; rfl) (fun p hpp => by
          rcases List.mem_append.mp hpp with z | z
          · exact hp p z
          · rw [List.mem_singleton.mp z]
            exact e)
        rw [List.length_append] at h1
        exact ⟨k, m, h1, h2, h3, h4, h5⟩
/-- beside, and the one behind -/
theorem bes_nxt {nm : Str} {f : RF} (h : nm ∈ f.names) : ∃ m k, bes nm f = some (m, k) ∧ k < m ∧ (nxt nm f = none ↔ k + 1 = m) := by
  obtain ⟨k, n, h1, h2, h3, h4, h5⟩ := row_at (f := f) (top := f) (pre := []) h rfl (fun _ h => nomatch h)
  have hk : k < (rowIn nm f f).nodes.length := by
    by_cases c : k < (rowIn nm f f).nodes.length
    · exact c
    · rw [List.getElem?_eq_none (by omega)] at h2
      cases h2
  refine ⟨_, k, h1, hk, ?_⟩
  rw [h5, List.getElem?_eq_none_iff]
  omega
/-- in the exceptions of a rule beside none of that name -/
theorem nxt_in {nm : Str} : ∀ {f : RF}, f.names.Nodup → (∀ n ∈ f.nodes, n.nm ≠ nm) → ∀ n ∈ f.nodes, nm ∈ n.exc.names → nxt nm f = nxt nm n.exc
  | .nil, _, _, _, h, _ => nomatch h
  | .cons x hs fs rl exc rest, h, hne, n, hn, hm => by
    obtain ⟨h1, h2, h3, h4, h5⟩ := nodup_cons h
    show (if x = nm then _ else if nm ∈ exc.names then nxt nm exc else nxt nm rest) = _
    rw [if_neg (hne _ List.mem_cons_self)]
    rcases List.mem_cons.mp hn with rfl | hn
    · rw [if_pos hm]
    · have hr : nm ∈ rest.names := mem_names.mpr ⟨n, hn, .inr hm⟩
      rw [if_neg fun z => h5 _ z hr]
      exact nxt_in h4 (fun m hm => hne m (List.mem_cons_of_mem _ hm)) n hn hm
/-- at its place in the row -/
theorem nxt_here {nm : Str} : ∀ {f : RF} {k : Nat} {n : Nd}, f.nodes[k]? = some n → n.nm = nm → (∀ m ∈ f.nodes.take k, m.nm ≠ nm ∧ ¬ nm ∈ m.exc.names) → nxt nm f = f.nodes[k + 1]?
  | .nil, k, n, h, _, _ => by cases k <;> cases h
  | .cons x hs fs rl exc rest, 0, n, h, e, _ => by
    cases h
    show (if x = nm then rest.nodes.head? else _) = rest.nodes[0]?
    rw [if_pos e]
    cases rest.nodes <;> rfl
  | .cons x hs fs rl exc rest, k + 1, n, h, e, off => by
    have h0 := off ⟨x, hs, fs, rl, exc⟩ List.mem_cons_self
    show (if x = nm then _ else if nm ∈ exc.names then nxt nm exc else nxt nm rest) = _
    rw [if_neg h0.1, if_neg h0.2]
    exact nxt_here (f := rest) (k := k) h e fun m hm => off m (List.mem_cons_of_mem _ hm)
/-- ahead of a rule, beside it, its name stands nowhere -/
theorem ahead {nm : Str} : ∀ {f : RF} {k : Nat} {n : Nd}, f.names.Nodup → f.nodes[k]? = some n → n.nm = nm → ∀ m ∈ f.nodes.take k, m.nm ≠ nm ∧ ¬ nm ∈ m.exc.names
  | .nil, k, n, _, h, _ => by cases k <;> cases h
  | .cons x hs fs rl exc rest, 0, n, _, _, _ => fun m hm => nomatch hm
  | .cons x hs fs rl exc rest, k + 1, n, h, hn, e => fun m hm => by
    obtain ⟨h1, h2, h3, h4, h5⟩ := nodup_cons h
    have hr : nm ∈ rest.names := mem_names.mpr ⟨n, List.mem_of_getElem? (show rest.nodes[k]? = some n from hn), .inl e.symm⟩
    rcases List.mem_cons.mp hm with rfl | hm
    · exact ⟨fun z => h2 (by rw [show x = nm from z]; exact hr), fun z => h5 _ z hr⟩
    · exact ahead (f := rest) (k := k) h4 hn e m hm
theorem pre_dep' : ∀ {f : RF} {k D : Nat}, (∀ q ∈ f.pre k, q.2 ≤ D) → k ≤ D + 1 → f.dep + k ≤ D + 1
  | .nil, k, D, _, h => by show 0 + k ≤ _; omega
  | .cons n hs fs rl exc rest, k, D, h, hk => by
    show max (exc.dep + 1) rest.dep + k ≤ D + 1
    have h0 : k ≤ D := h _ List.mem_cons_self
    have h1 := pre_dep' (f := exc) (k := k + 1) (D := D) (fun q hq => h q (List.mem_cons_of_mem _ (List.mem_append_left _ hq))) (by omega)
    have h2 := pre_dep' (f := rest) (k := k) (D := D) (fun q hq => h q (List.mem_cons_of_mem _ (List.mem_append_right _ hq))) hk
    omega
end RF
/-! ### faults -/
theorem fault_none {xs : List Str} : ∀ {ps : List (Nd × Nat)} {met : List Str} {out i : Nat}, met.Nodup → firstFault xs ps met out i = none → (met ++ ps.map fun q => q.1.nm).Nodup ∧ ∀ q ∈ ps, q.2 ≤ 5
  | [], met, _, _, hm, _ => by
    rw [List.map_nil, List.append_nil]
    exact ⟨hm, fun _ h => nomatch h⟩
  | (n, k) :: r, met, out, i, hm, h => by
    unfold firstFault at h
    cases e : faultAt xs met (outNext out k) i n k with
    | some w => rw [e] at h; cases h
    | none =>
      rw [e] at h
      unfold faultAt at e
      split at e
      · cases e
      · rename_i hn
        split at e
        · cases e
        · split at e
          · cases e
          · rename_i hk
            obtain ⟨h1, h2⟩ := fault_none (ps := r) (met := met ++ [n.nm]) (List.nodup_append.mpr ⟨hm, List.pairwise_singleton _ _, fun y hy z hz e => by
              rw [List.mem_singleton.mp hz] at e
              subst e
              exact hn hy⟩) h
            refine ⟨?_, fun q hq => ?_⟩
            · rw [List.append_assoc] at h1
              exact h1
            · rcases List.mem_cons.mp hq with rfl | hq
              · show k ≤ 5
                omega
              · exact h2 q hq
theorem fault_step {xs met : List Str} {out i k : Nat} {n : Nd} {r : List (Nd × Nat)} (hc : ((srt (n.hs ++ n.fs)).any fun x => !decide (x ∈ xs)) = false) (hi : i < 60) (ho : out + 1 ≤ 40) :
    firstFault xs ((n, k) :: r) met out i = if n.nm ∈ met then some ((Str.ofString "name"), i) else if 5 < k then some ((Str.ofString "depth"), i) else firstFault xs r (met ++ [n.nm]) (outNext out k) (i + 1) := by
  have hon : outNext out k ≤ out + 1 := by unfold outNext; split <;> omega
  show (match faultAt xs met (outNext out k) i n k with | some w => some (w, i) | none => firstFault xs r (met ++ [n.nm]) (outNext out k) (i + 1)) = _
  unfold faultAt
  rw [hc]
  by_cases h1 : n.nm ∈ met
  · rw [if_pos h1, if_pos h1]
  · rw [if_neg h1, if_neg h1, if_neg Bool.false_ne_true]
    by_cases h2 : 5 < k
    · rw [if_pos h2, if_pos h2]
    · rw [if_neg h2, if_neg h2, if_neg (by omega)]
end Sc
namespace PySem.AutoSeq1
theorem list_extend_list_tuple_any (l : Addr) (items : Array Value) (n : Nat) (b : Addr) (items2 : Array Value) (n2 : Nat) (od : Option Addr) (os2 : Array (Option Value)) (hs0 : ¬(!items.isEmpty && Builtin.List.listTooLong (items.size + items2.size)) = true) (hs1 : items.size ≤ sizeLine) (hs2 : items.size + items2.size ≤ sizeLine + 1) :
    Meets (Builtin.«list.extend» ⟨[.ref l, .ref b], []⟩) (fun _ R s => s.heap.get? l = some { cls := .type "list", dict := none, data := .seq items n, slots := #[] } ∧ s.heap.get? b = some { cls := .type "tuple", dict := od, data := .seq items2 n2, slots := os2 } ∧ R (.ok (.ret Value.none)) { s with heap := s.heap.update l (Obj.mapSeq fun x => x ++ items2), toks := s.toks }) :=
  .of_wp fun prog w A R s h => by
    obtain ⟨hp, g, d, tk, os⟩ := s; obtain ⟨hl, hb, h⟩ := h; have f1 := idx_int; have f2 := sub_tuple_tuple; have f3 := sub_list_list; have f4 := sub_tuple_list; have f5 := sub_list_tuple;
    have hz' : (items ++ items2).size ≤ sizeLine + 1 := by rw [Array.size_append]; exact hs2
    wp_walk using (wpAny_updateSeq hl rfl (hz := hs1) (_hz' := hz')), wpAny_loadPart' hl, wpAny_loadPart' hb; exact ⟨_, rfl, h⟩
end PySem.AutoSeq1
namespace Sc
open PySem PySem.Spec PyProof.Rows L2
/-! ### xs.extend(t) of a tuple -/
def rExtendT (K : PySem.W.Frag) : V → List V → Hp → VK → Prop := fun x vs H Q => ∃ l b xs zs, x = .ref l ∧ vs = [.ref b] ∧ H l = some (.lst xs) ∧ SqT K H b zs ∧ xs.length + zs.length ≤ sizeLine ∧ Q .non (upd H l (.lst (xs ++ zs)))
theorem mt_extendT {X : Cx} : MtM X "list.extend" (rExtendT X.K) := by
  intro pins s σ H x vs v us Q I rx rv h
  obtain ⟨l, b, xs, zs, rfl, rfl, hH, hB, hz, q⟩ := h
  cases rx
  obtain ⟨u, rfl, ru⟩ := rv.one
  cases ru
  obtain ⟨z, its, n, r, hl, e⟩ := I.lstM hH
  obtain ⟨its2, r2, ⟨⟨oc, od, oda, os2⟩, e2, hc, n2, hd⟩, _⟩ := I.tuple hB
  cases hc
  cases hd
  have hl2 := r2.length
  have hsz : its.toArray.size + its2.toArray.size ≤ sizeLine := by rw [List.size_toArray, List.size_toArray]; omega
  have hlong : ¬ (!its.toArray.isEmpty && Builtin.List.listTooLong (its.toArray.size + its2.toArray.size)) = true := by
    rw [notLongL hsz, Bool.and_false]
    exact Bool.false_ne_true
  refine call_meets F.slot_list_extend ⟨_, e, rfl⟩ F.entry_list_extend (F.args_list_extend_2 _ _)
    (AutoSeq1.list_extend_list_tuple_any l its.toArray n b its2.toArray n2 od os2 hlong (by rw [List.size_toArray]; omega) (by omega)) ⟨e, e2, ?_⟩
  refine ⟨.non, _, I.lset (its' := its ++ its2) hH e (by simp) (r.append r2) ?_, rfl, q⟩
  rw [List.length_append]
  omega
end Sc
namespace Sc
open PySem PySem.Spec PyProof.Rows L2
theorem sc_replaced : FnScope ["rules", "name", "others", "made", "rule", "inner"] ["rules", "name", "others"] (defScope s_replaced) := ⟨rfl, rfl, rfl, by decide +kernel, rfl, by decide +kernel, by decide +kernel⟩
theorem RF.repl_size {nm : Str} {os : List Nd} {f : RF} (h : f.names.Nodup) : (RF.repl nm os f).size ≤ f.size + (RF.ofNodes os).size := by
  rw [RF.repl_upd h]
  refine RF.upd_size (fun n rest => ?_) h
  rw [RF.put_size]
  omega
theorem RF.repl_dep {nm : Str} {os : List Nd} {f : RF} (h : f.names.Nodup) : (RF.repl nm os f).dep ≤ f.dep + (RF.ofNodes os).dep := by
  rw [RF.repl_upd h]
  refine RF.upd_dep (fun n rest => ?_)
  rw [RF.put_dep]
  omega
theorem RF.replL_le {nm : Str} {os : List Nd} {f : RF} {i : Nat} : (RF.replL nm os (f.nodes.take i)).length ≤ (RF.repl nm os f).size := by
  refine Nat.le_trans ?_ (RF.nodes_le _)
  rw [RF.repl_nodes]
  have e : RF.replL nm os f.nodes = RF.replL nm os (f.nodes.take i) ++ RF.replL nm os (f.nodes.drop i) := by
    unfold RF.replL
    rw [← List.flatMap_append, List.take_append_drop]
  rw [e, List.length_append]
  exact Nat.le_add_right _ _
section
variable {P : Program} {w : World} {K : PySem.W.Frag} {mg : Str → Option Value} {base : Heap} {C R B CC CR CF CB CU CN : Addr}
def sp_replaced (K : PySem.W.Frag) (C R : Addr) (d : Nat) : Sp := fun vs H Q _ => ∃ (N : Addr → Prop) (p q : Addr) (nm : Str) (ws us : List V) (f : RF) (os : List Nd), vs = [.ref p, .str nm, .ref q] ∧ SqT K H p ws ∧ ForAt K C R N H f ws ∧ SqT K H q us ∧ All2 (RefAt K C R N H) us os ∧ (∀ l, H l = none → N l) ∧
  f.names.Nodup ∧ f.dep ≤ d ∧ f.dep + (RF.ofNodes os).dep ≤ 12 ∧ f.size + (RF.ofNodes os).size ≤ 900 ∧ f.every NdOk ∧ ∀ H' p' rs, Same H H' → SqT K H' p' rs → ForAt K C R N H' (RF.repl nm os f) rs → Q (.ref p') H'
theorem ok_replaced {d : Nat} {f : Addr} {fd : FuncData} (F : Fun K "replaced" "replaced" s_replaced f fd) (B : Blt mg) (kR : RuleX P w K mg base R) (k_Rule : Mkr P w K mg base 16 "Rule" R ["self", "name", "condition", "ruling", "exceptions"] (sp_rule_init K C R CR))
    (c_replaced : Cal P w K mg base CX0 (d + 17) "replaced" ["rules", "name", "others"] (Below (sp_replaced K C R) d)) :
    FnOk P w K mg base CX0 (d + 18) f fd ["rules", "name", "others"] (sp_replaced K C R d) := by
  refine F.ok sc_replaced (fun vs H Q E h => by obtain ⟨N, p, q, nm, ws, us, f, os, rfl, _⟩ := h; rfl) (fun cdv A outer s H vs Q E hr h => ?_)
  obtain ⟨N, p, q0, nm, ws, us, f, os, rfl, hP, hF, hO, hos, hN, hnd, hd, hd12, hz, hev, q⟩ := h
  refine ⟨_, (pss_cons (ps_set (i := 3) sc_replaced.nd rfl (Or.inl rfl) (pe_lst pa_nil))
      (pss_cons (ps_for PassesOwn.never rfl (pi_tup (pv 0)) (pg_name (i := 4) sc_replaced.nd rfl (Or.inl rfl)) (pss_one (ps_if (pt_cmpR op_eq (pe_cprop kR.name kR.cls (hr.mono (by omega)) (pv 4)) (pv 1) (nomark _)) (pss_one (ps_expr (pe_bm PySem.F.plainAttrs_list PySem.F.slot_list_extend PySem.F.type_list_extend mt_extendT (pv 3) (pa_cons (pv 2) pa_nil)))) (pss_cons (ps_set (i := 5) sc_replaced.nd rfl (Or.inl rfl) (pe_cal c_replaced hr (pa_cons (pe_cprop kR.exceptions kR.cls (hr.mono (by omega)) (pv 4)) (pa_cons (pv 1) (pa_cons (pv 2) pa_nil)))))
      (pss_one (ps_expr (pe_bm PySem.F.plainAttrs_list PySem.F.slot_list_append PySem.F.type_list_append mt_append (pv 3) (pa_cons (pe_mkN k_Rule (hr.mono (by omega)) (pa_cons (pe_cprop kR.name kR.cls (hr.mono (by omega)) (pv 4)) (pa_cons (pe_cprop kR.condition kR.cls (hr.mono (by omega)) (pv 4)) (pa_cons (pe_cprop kR.ruling kR.cls (hr.mono (by omega)) (pv 4)) (pa_cons (pv 5) pa_nil))))) pa_nil))))))))
      (pss_one (ps_ret (pe_callTy call_tuple_of (by rfl) B.b_tuple PyProof.Rows.boot_tuple (pa_cons (pv 3) pa_nil)))))), ?_⟩
  have hrz := RF.repl_size (nm := nm) (os := os) hnd
  have hlo := hos.len
  have hoz : os.length ≤ (RF.ofNodes os).size := by
    have := RF.nodes_le (RF.ofNodes os)
    rw [RF.nodes_of] at this
    exact this
  refine ⟨Nat.zero_le _, fun D nD => ?_⟩
  have g0 : ∀ b xs, N b → H b = some (.lst xs) → N b ∧ b ≠ D := fun b xs h e => ⟨h, fun z => by rw [z, nD] at e; cases e⟩
  have hA := (hF.re g0).all
  have hos : All2 (RefAt K C R (fun l => N l ∧ l ≠ D) H) us os := hos.mono fun _ _ ⟨o, e, x⟩ => ⟨o, e, x.re g0⟩
  have hln := hA.len
  have s0 : Same H (upd H D (.lst [])) := (Same.refl H).put nD
  have e0 : (upd H D (.lst [])) D = some (.lst []) := upd_same
  generalize upd H D (.lst []) = H0 at s0 e0 ⊢
  refine ⟨_, rfl, p, rfl, ⟨_, s0.tup hP⟩, for_it walk_tup (fun i σ H' => ∃ (rs : List V) (y4 y5 : Option V), σ = [some (.ref p), some (.str nm), some (.ref q0), some (.ref D), y4, y5] ∧ Same H H' ∧ H' D = some (.lst rs) ∧ All2 (RefAt K C R (fun l => N l ∧ l ≠ D) H') rs (RF.replL nm os (f.nodes.take i)))
    ⟨[], none, none, rfl, s0, e0, .nil⟩ (fun _ _ _ _ ⟨_, _, _, _, s, _⟩ => s.tup hP) ?_ ?_⟩
  · rintro i y σ H4 H3 hi ⟨rs, y4, y5, rfl, s, e, hrs⟩ ⟨rfl, hy⟩
    obtain ⟨n, hn, o, rfl, hNd⟩ := hA.get hy
    have hmem : n ∈ f.nodes := List.mem_of_getElem? hn
    have hdm := RF.dep_mem _ n hmem
    have hsm := RF.size_mem _ n hmem
    obtain ⟨hok, hne⟩ := RF.every_nodes.mp hev n hmem
    obtain ⟨hndx, _⟩ := RF.nodup_node hnd n hmem
    have hrl := hrs.len
    have hrb := RF.replL_le (nm := nm) (os := os) (f := f) (i := i)
    have hrb2 := RF.replL_le (nm := nm) (os := os) (f := f) (i := i + 1)
    rw [RF.replL_more hn] at hrb2
    obtain ⟨dx', c', pe', l', ws', ho', hc', hpe', hle', hfe'⟩ := hNd
    have ho3 := s _ _ ho'
    refine ⟨_, rfl, o, dx', _, rfl, ho3, o, dx', _, _, rfl, ho3, rfl, _, rfl, rfl, _, rfl, bcase (fun c1 => ?_) (fun c1 => ?_)⟩
    · have c1 : n.nm = nm := V.str.inj (of_decide_eq_true c1)
      refine ⟨_, rfl, .inl ⟨rfl, _, sqL_of e⟩, _, rfl, D, q0, _, _, rfl, rfl, e, s.tup hO, ?_, ?_⟩
      · rw [if_pos c1, List.length_append] at hrb2
        rw [sizeLine_eq]
        omega
      have kk : Keeps (fun l => N l ∧ l ≠ D) H3 (upd H3 D (.lst (rs ++ us))) := keeps_own e fun z => z.2 rfl
      refine ⟨rs ++ us, _, _, rfl, s.put nD, upd_same, ?_⟩
      rw [RF.replL_more hn, if_pos c1]
      exact (hrs.mono fun _ _ x => x.keeps kk).app (hos.mono fun _ _ x => (x.keeps s.keeps).keeps kk)
    have c1 : n.nm ≠ nm := fun z => of_decide_eq_false c1 (by rw [z])
    obtain ⟨d, rfl⟩ : ∃ d', d = d' + 1 := ⟨d - 1, by omega⟩
    refine ⟨_, rfl, o, dx', _, rfl, ho3, o, dx', _, _, rfl, ho3, rfl, _, rfl, _, rfl, fun l => N l ∧ l ≠ D, pe', q0, nm, ws', us, n.exc, os, rfl, s.tup hpe', hfe'.keeps s.keeps, s.tup hO, hos.mono fun _ _ x => x.keeps s.keeps, fun l nl => ⟨hN l (s.free nl), (fun z => by rw [z, e] at nl; cases nl)⟩, hndx, by omega, by omega, by omega, hne, fun H6 t us6 s6 ht hF6 => ?_⟩
    have e6 := s6 _ _ e
    have s36 := s.trans s6
    have ho6 := s36 _ _ ho'
    refine ⟨_, rfl, .inl ⟨rfl, _, sqL_of e6⟩, _, rfl, o, dx', _, rfl, ho6, o, dx', _, _, rfl, ho6, rfl, _, rfl, o, dx', _, rfl, ho6, o, dx', _, _, rfl, ho6, rfl, _, rfl, o, dx', _, rfl, ho6, o, dx', _, _, rfl, ho6, rfl, _, rfl, fun x dx nx ndx nex => ?_⟩
    have s7 : Same H6 (upd (upd H6 dx (.own x)) x (.ins R dx [])) := ((Same.refl H6).put ndx).put nx
    have l1 := name_len hok.nm
    have l2 := name_len hok.rl
    have hrz2 := RF.repl_size (nm := nm) (os := os) hndx
    have hrd2 := RF.repl_dep (nm := nm) (os := os) hndx
    refine ⟨fun l => N l ∧ l ≠ D, x, dx, c', t, n.nm, n.rl, us6, RF.repl nm os n.exc, rfl, upd_same, s7.tup ht, hF6.keeps s7.keeps, by omega, by omega, by omega, by omega, (fun e => by rw [hok.nm] at e; cases e), fun _ => ⟨(fun e => by rw [hok.rl] at e; cases e), fun _ H8 l sX8 hx8 nelx nl el => ⟨rfl, ?_⟩⟩⟩
    have s8 : Same H6 H8 := fun b' o' h => sX8 b' o' (fun e => by rw [e, nx] at h; cases h) (s7 _ _ h)
    have s38 := s6.trans s8
    have s08 := s.trans s38
    have e8 := s8 _ _ e6
    have fl : H6 l = none := s7.free nl
    have hnd8 : NdAt K C R (fun l => N l ∧ l ≠ D) H8 x (n.wE (RF.repl nm os n.exc)) := ⟨dx, c', t, l, us6, hx8, hc'.keeps (N := NoL) s08.keeps, s8.tup ht, ⟨⟨hN l (s36.free fl), (fun z => by rw [z, e6] at fl; cases fl)⟩, el⟩, hF6.keeps s8.keeps⟩
    refine ⟨D, _, _, rfl, rfl, e8, small1000 (by omega), ?_⟩
    have kk : Keeps (fun l => N l ∧ l ≠ D) H8 (upd H8 D (.lst (rs ++ [.ref x]))) := keeps_own e8 fun z => z.2 rfl
    refine ⟨rs ++ [.ref x], _, _, rfl, s08.put nD, upd_same, ?_⟩
    rw [RF.replL_more hn, if_neg c1]
    exact (hrs.mono fun _ _ x => (x.keeps s38.keeps).keeps kk).snoc ⟨x, rfl, hnd8.keeps kk⟩
  · rintro σ H3 ⟨rs, y4, y5, rfl, s, e, hrs⟩
    rw [hln, List.take_length, ← RF.repl_nodes] at hrs
    refine ⟨_, rfl, D, _, rfl, .inl ⟨sqL_of e, fun t nt => ?_⟩⟩
    have s4 : Same H3 (upd H3 t (.tup rs)) := (Same.refl H3).put nt
    exact q _ t rs (s.trans s4) sqT_new (ForAt.of (hrs.mono fun _ _ ⟨o, e, x⟩ => ⟨o, e, (x.re fun b xs h _ => h.1).keeps s4.keeps⟩))
end
end Sc
namespace Sc
open PySem PySem.Spec PyProof.Rows L2
theorem sc_Book___sub__ : FnScope ["self", "name"] ["self", "name"] (defScope s_Book___sub__) := ⟨rfl, rfl, rfl, by decide +kernel, rfl, by decide +kernel, by decide +kernel⟩
/-- a right book, not too large -/
structure BkOk (xs : List Str) (f : RF) (rl : Str) : Prop where
  tS : Txts xs
  lS : xs.length ≤ 60
  hb : firstBad xs = none
  hrl : isName rl = true
  nd : f.names.Nodup
  dep : f.dep ≤ 6
  size : f.size ≤ 100
  ev : f.every NdOk
theorem NdOk.wE {n : Nd} {e : RF} (h : NdOk n) : NdOk (n.wE e) := ⟨h.nm, h.rl, h.c1, h.c2⟩
/-- out of its place -/
theorem BkOk.out {xs : List Str} {f : RF} {rl nm : Str} (h : BkOk xs f rl) : (RF.repl nm [] f).names.Nodup ∧ (RF.repl nm [] f).dep ≤ f.dep ∧ (RF.repl nm [] f).size ≤ f.size ∧ (RF.repl nm [] f).every NdOk := by
  refine ⟨?_, RF.repl_dep h.nd, RF.repl_size h.nd, ?_⟩
  · rw [RF.repl_upd h.nd]
    refine (RF.upd_names (fun n rest hn => ?_) h.nd).1
    rw [List.nodup_cons, List.nodup_append] at hn
    exact ⟨hn.2.2.1, fun x hx => List.mem_cons_of_mem _ (List.mem_append_right _ hx)⟩
  · rw [RF.repl_upd h.nd]
    exact RF.upd_every (fun n e hn => hn.wE) (fun n rest _ _ h3 => h3) h.ev
section
variable {P : Program} {w : World} {K : PySem.W.Frag} {mg : Str → Option Value} {base : Heap} {C R B CC CR CF CB CU CN CA : Addr}
/-- what comes of a book that is made -/
def Out (K : PySem.W.Frag) (C R B CB : Addr) (N : Addr → Prop) (xs : List Str) (f : RF) (rl : Str) (H : Hp) (Q : VK) (E : XK) : Prop := (∀ wd i, firstFault xs (f.pre 0) [] 0 0 = some (wd, i) → errWI CB wd (i : Nat) H E) ∧ (firstFault xs (f.pre 0) [] 0 0 = none → ∀ H' b, Same H H' → BookAt K C R B N H' b xs f rl → Q (.ref b) H')
theorem errWI.same {D : Addr} {wd : Str} {i : Int} {H H' : Hp} {E : XK} (s : Same H H') (h : errWI D wd i H E) : errWI D wd i H' E := fun H1 d s1 n => h H1 d (s.trans s1) n
theorem Out.same {N : Addr → Prop} {xs : List Str} {f : RF} {rl : Str} {H H' : Hp} {Q : VK} {E : XK} (s : Same H H') (h : Out K C R B CB N xs f rl H Q E) : Out K C R B CB N xs f rl H' Q E := ⟨fun wd i e => (h.1 wd i e).same s, fun e H1 b s1 hb => h.2 e H1 b (s.trans s1) hb⟩
theorem book_of {N : Addr → Prop} {H4 : Hp} {x dx a p : Addr} {xs : List Str} {rl : Str} {ws : List V} {f : RF} {Q : VK} {E : XK} (nx : H4 x = none) (ndx : H4 dx = none) (nex : dx ≠ x) (fr : ∀ l, H4 l = none → N l) (hA : SqT K H4 a (xs.map V.str)) (tS : Txts xs) (lS : xs.length ≤ 60) (hb : firstBad xs = none)
    (hP : SqT K H4 p ws) (hF : ForAt K C R N H4 f ws) (hd : f.dep ≤ 12) (hz : f.size ≤ 900) (hfit : f.Fit) (hrl : isName rl = true) (q : Out K C R B CB N xs f rl H4 Q E) :
    sp_book_init K C R B CF CB [.ref x, .ref a, .ref p, .str rl] (upd (upd H4 dx (.own x)) x (.ins B dx [])) (fun v H' => v = .non ∧ Q (.ref x) H') E := by
  have s5 : Same H4 (upd (upd H4 dx (.own x)) x (.ins B dx [])) := ((Same.refl H4).put ndx).put nx
  have ll := name_len hrl
  refine ⟨N, x, dx, a, p, xs, rl, ws, f, rfl, upd_same, s5.tup hA, tS, by omega, s5.tup hP, hF.keeps s5.keeps, hd, hz, hfit, by omega, (fun i ei => by rw [hb] at ei; cases ei), fun _ => ⟨(fun wd i ei _ => (q.1 wd i ei).same s5), fun hff => ⟨(fun e => by rw [hrl] at e; cases e), fun _ H6 l6 us2 sX6 hx6 nelx nl6 el hus6 => ⟨rfl, ?_⟩⟩⟩⟩
  have s6 : Same H4 H6 := fun b' o' h => sX6 b' o' (fun e => by rw [e, nx] at h; cases h) (s5 _ _ h)
  exact q.2 hff H6 x s6 ⟨dx, a, p, l6, ws, us2, hx6, s6.tup hA, s6.tup hP, hF.keeps s6.keeps, ⟨fr l6 (s5.free nl6), el⟩, hus6⟩
def sp_sub (K : PySem.W.Frag) (C R B CB CU : Addr) : Sp := fun vs H Q E => ∃ (N : Addr → Prop) (o : Addr) (xs : List Str) (f : RF) (rl nm : Str), vs = [.ref o, .str nm] ∧ BookAt K C R B N H o xs f rl ∧ BkOk xs f rl ∧ (∀ l, H l = none → N l) ∧
  (¬ nm ∈ f.names → ∀ H', Same H H' → E (.ref CU) none H') ∧ (nm ∈ f.names → Out K C R B CB N xs (RF.repl nm [] f) rl H Q E)
theorem ok_sub {f : Addr} {fd : FuncData} (F : Fun K "__sub__" "Book.__sub__" s_Book___sub__ f fd) (Bl : Blt mg) (T : Cls K B) (n1 : NoAttr K B "_facts") (n2 : NoAttr K B "_rules") (n3 : NoAttr K B "_ruling") (k_Book : Mkr P w K mg base 17 "Book" B ["self", "facts", "rules", "ruling"] (sp_book_init K C R B CF CB))
    (mCon : MethO P w K mg base CX0 3 B "__contains__" ["self", "name"] (sp_contains K C R B)) (c_replaced : Cal P w K mg base CX0 30 "replaced" ["rules", "name", "others"] (sp_replaced K C R 12)) (e_UnknownRule : ErrMk0 K mg "UnknownRule" CU) :
    FnOk P w K mg base (L2.CX P w) 32 f fd ["self", "name"] (sp_sub K C R B CB CU) := by
  refine F.okX sc_Book___sub__ (fun vs H Q E h => by obtain ⟨N, o, xs, f, rl, nm, rfl, _⟩ := h; rfl) (fun cdv A outer s H vs Q E hr h => ?_)
  obtain ⟨N, o, xs, f, rl, nm, rfl, hB, hk, fr, eu, q⟩ := h
  refine ⟨_, (pss_cons (ps_if (pt_cmpR (op_ninM mCon (hr.mono (by decide))) (pv 1) (pv 0) rfl) (pss_one (ps_raise rfl (takes_of rfl rfl rfl rfl) (pmk_err0 e_UnknownRule))) pss_nil)
      (pss_one (ps_ret (pe_mkX k_Book (hr.mono (by decide)) (takes_of rfl rfl rfl rfl) (pa_cons (pe_fld (pv 0) rfl) (pa_cons (pe_cal c_replaced (hr.mono (by decide)) (pa_cons (pe_fld (pv 0) rfl) (pa_cons (pv 1) (pa_cons (pe_tup pa_nil) pa_nil)))) (pa_cons (pe_fld (pv 0) rfl) pa_nil))))))), ?_⟩
  have hdep := hk.dep
  have hsz := hk.size
  obtain ⟨dx, a, p, l, ws, us, ho, hS, hP, hF, ⟨nl, hl⟩, hus⟩ := id hB
  refine ⟨_, rfl, _, rfl, o, dx, _, rfl, ho, N, o, xs, f, rl, nm, rfl, hB, by omega, fun H1 s1 => ⟨_, rfl, _, rfl, ?_⟩⟩
  rw [if_pos rfl]
  by_cases hno : nm ∈ f.names
  · rw [decide_eq_true hno]
    have q := q hno
    have ho1 := s1 _ _ ho
    obtain ⟨o1, o2, o3, o4⟩ := hk.out (nm := nm)
    refine iteF ?_
    refine ⟨_, rfl, o, B, dx, _, _, rfl, ho1, T, n1, rfl, _, rfl, o, B, dx, _, _, rfl, ho1, T, n2, rfl, _, rfl, Nat.zero_le _, fun t0 n0' => ?_⟩
    have s2 : Same H1 (upd H1 t0 (.tup [])) := (Same.refl H1).put n0'
    have e2 : (upd H1 t0 (.tup [])) t0 = some (.tup []) := upd_same
    generalize upd H1 t0 (.tup []) = H2 at s2 e2 ⊢
    have s02 := s1.trans s2
    have e00 : (RF.ofNodes []).dep = 0 ∧ (RF.ofNodes []).size = 0 := ⟨rfl, rfl⟩
    refine ⟨N, p, t0, nm, ws, [], f, [], rfl, s02.tup hP, hF.keeps s02.keeps, sqT_of e2, .nil, (fun l nl => fr l (s02.free nl)), hk.nd, by omega, by omega, by omega, hk.ev, fun H3 p3 rs3 s3 hp3 hF3 => ?_⟩
    have s03 := s02.trans s3
    have ho3 := s03 _ _ ho
    refine ⟨_, rfl, o, B, dx, _, _, rfl, ho3, T, n3, rfl, fun x dx2 nx ndx nex => ?_⟩
    exact book_of nx ndx nex (fun l nl => fr l (s03.free nl)) (s03.tup hS) hk.tS hk.lS hk.hb hp3 hF3 (by omega) (by omega) (fit_of o4) hk.hrl (q.same s03)
  · rw [decide_eq_false hno]
    exact iteT (eu hno H1 s1)
end
end Sc
namespace Sc
open PySem PySem.Spec PyProof.Rows L2
namespace RF
/-- the rules whose names are kept, with those of their exceptions -/
def filt (p : Str → Bool) : RF → RF
  | .nil => .nil
  | .cons nm hs fs rl exc rest => if p nm = true then .cons nm hs fs rl (filt p exc) (filt p rest) else filt p rest
theorem names_c39 (nm : Str) (hs fs : List Str) (rl : Str) (exc rest : RF) : (RF.cons nm hs fs rl exc rest).names = nm :: (exc.names ++ rest.names) := by
  show nm :: ((exc.pre 1 ++ rest.pre 0).map fun q => q.1.nm) = _
  rw [List.map_append, RF.pre_names exc 1, RF.pre_names rest 0]
theorem filt_repl (nm : Str) : ∀ f : RF, repl nm [] f = filt (fun x => decide (x ≠ nm)) f
  | .nil => rfl
  | .cons n hs fs rl exc rest => by
    unfold repl filt
    by_cases h : n = nm
    · rw [if_pos h, if_neg (by simpa using h)]
      exact filt_repl nm rest
    · rw [if_neg h, if_pos (by simpa using h), filt_repl nm exc, filt_repl nm rest]
theorem filt_filt (p q : Str → Bool) : ∀ f : RF, filt p (filt q f) = filt (fun x => q x && p x) f
  | .nil => rfl
  | .cons n hs fs rl exc rest => by
    conv => lhs; arg 2; unfold filt
    conv => rhs; unfold filt
    cases hq : q n with
    | false =>
      rw [if_neg (by decide), if_neg (by rw [Bool.false_and]; decide)]
      exact filt_filt p q rest
    | true =>
      rw [if_pos rfl, Bool.true_and]
      conv => lhs; unfold filt
      rw [filt_filt p q exc, filt_filt p q rest]
theorem filt_congr {p q : Str → Bool} : ∀ {f : RF}, (∀ x ∈ f.names, p x = q x) → filt p f = filt q f
  | .nil, _ => rfl
  | .cons n hs fs rl exc rest, h => by
    rw [names_c39] at h
    have h1 := filt_congr (f := exc) fun x hx => h x (List.mem_cons_of_mem _ (List.mem_append_left _ hx))
    have h2 := filt_congr (f := rest) fun x hx => h x (List.mem_cons_of_mem _ (List.mem_append_right _ hx))
    unfold filt
    rw [h n List.mem_cons_self, h1, h2]
theorem filt_all {p : Str → Bool} : ∀ {f : RF}, (∀ x ∈ f.names, p x = true) → filt p f = f
  | .nil, _ => rfl
  | .cons n hs fs rl exc rest, h => by
    rw [names_c39] at h
    have h1 := filt_all (f := exc) fun x hx => h x (List.mem_cons_of_mem _ (List.mem_append_left _ hx))
    have h2 := filt_all (f := rest) fun x hx => h x (List.mem_cons_of_mem _ (List.mem_append_right _ hx))
    unfold filt
    rw [if_pos (h n List.mem_cons_self), h1, h2]
theorem filt_names (p : Str → Bool) : ∀ f : RF, (filt p f).names.Sublist f.names
  | .nil => .slnil
  | .cons n hs fs rl exc rest => by
    unfold filt
    rw [names_c39]
    by_cases h : p n = true
    · rw [if_pos h, names_c39]
      exact ((filt_names p exc).append (filt_names p rest)).cons₂ n
    · rw [if_neg h]
      exact ((filt_names p rest).trans (List.sublist_append_right _ _)).cons n
theorem filt_keep (p : Str → Bool) : ∀ f : RF, ∀ x ∈ (filt p f).names, p x = true
  | .nil, x, h => by cases h
  | .cons n hs fs rl exc rest, x, h => by
    unfold filt at h
    by_cases hp : p n = true
    · rw [if_pos hp, names_c39] at h
      rcases List.mem_cons.mp h with h | h
      · rw [h]; exact hp
      rcases List.mem_append.mp h with h | h
      · exact filt_keep p exc x h
      · exact filt_keep p rest x h
    · rw [if_neg hp] at h
      exact filt_keep p rest x h
theorem filt_size (p : Str → Bool) : ∀ f : RF, (filt p f).size ≤ f.size
  | .nil => Nat.le_refl _
  | .cons n hs fs rl exc rest => by
    have h1 := filt_size p exc
    have h2 := filt_size p rest
    unfold filt
    by_cases hp : p n = true
    · rw [if_pos hp]; show (filt p exc).size + 1 + (filt p rest).size ≤ exc.size + 1 + rest.size; omega
    · rw [if_neg hp]; show _ ≤ exc.size + 1 + rest.size; omega
theorem filt_dep (p : Str → Bool) : ∀ f : RF, (filt p f).dep ≤ f.dep
  | .nil => Nat.le_refl _
  | .cons n hs fs rl exc rest => by
    have h1 := filt_dep p exc
    have h2 := filt_dep p rest
    unfold filt
    by_cases hp : p n = true
    · rw [if_pos hp]; show max ((filt p exc).dep + 1) (filt p rest).dep ≤ max (exc.dep + 1) rest.dep; omega
    · rw [if_neg hp]; show _ ≤ max (exc.dep + 1) rest.dep; omega
theorem filt_every {P : Nd → Prop} (hP : ∀ n e, P n → P (n.wE e)) (p : Str → Bool) : ∀ {f : RF}, f.every P → (filt p f).every P
  | .nil, _ => trivial
  | .cons n hs fs rl exc rest, h => by
    unfold filt
    by_cases hp : p n = true
    · rw [if_pos hp]
      exact ⟨hP ⟨n, hs, fs, rl, exc⟩ (filt p exc) h.1, filt_every hP p h.2.1, filt_every hP p h.2.2⟩
    · rw [if_neg hp]
      exact filt_every hP p h.2.2
end RF
/-- a span of days: period, first, count -/
structure Spn where
  p : Nat
  f : Nat
  c : Nat
structure SpnOk (s : Spn) : Prop where
  p1 : 1 ≤ s.p
  p2 : s.p ≤ 12
  f1 : s.f < s.p
  c1 : 1 ≤ s.c
  c2 : s.c ≤ s.p
  dv : s.p ∣ 84
/-- is a day in the span -/
def inS (s : Spn) (day : Int) : Bool := decide ((day - (s.f : Nat)) % ((s.p : Nat) : Int) < ((s.c : Nat) : Int))
/-- does a rule stand on a day -/
def stays (sp : List (Str × Spn)) (day : Int) (nm : Str) : Bool := sp.all fun q => !decide (q.1 = nm) || inS q.2 day
theorem stays_snoc {sp : List (Str × Spn)} {q : Str × Spn} {day : Int} {nm : Str} : stays (sp ++ [q]) day nm = (stays sp day nm && (!decide (q.1 = nm) || inS q.2 day)) := by
  unfold stays
  rw [List.all_append, List.all_cons, List.all_nil, Bool.and_true]
/-- the common period of spans -/
def perN (sp : List (Str × Spn)) : Nat := sp.foldl (fun a q => Nat.lcm a q.2.p) 1
theorem perN_snoc {sp : List (Str × Spn)} {q : Str × Spn} : perN (sp ++ [q]) = Nat.lcm (perN sp) q.2.p := by
  unfold perN
  rw [List.foldl_append]
  rfl
theorem per_dv : ∀ {sp : List (Str × Spn)} {a : Nat}, a ∣ 84 → (∀ q ∈ sp, q.2.p ∣ 84) → sp.foldl (fun a q => Nat.lcm a q.2.p) a ∣ 84
  | [], a, h, _ => h
  | q :: r, a, h, hs => by
    show r.foldl (fun a q => Nat.lcm a q.2.p) (Nat.lcm a q.2.p) ∣ 84
    exact per_dv (sp := r) (a := Nat.lcm a q.2.p) (Nat.lcm_dvd h (hs q List.mem_cons_self)) fun x hx => hs x (List.mem_cons_of_mem _ hx)
theorem perN_dv {sp : List (Str × Spn)} (h : ∀ q ∈ sp, SpnOk q.2) : perN sp ∣ 84 := per_dv (Nat.one_dvd _) fun q hq => (h q hq).dv
theorem perN_le {sp : List (Str × Spn)} (h : ∀ q ∈ sp, SpnOk q.2) : perN sp ≤ 84 := Nat.le_of_dvd (by decide) (perN_dv h)
theorem perN_pos {sp : List (Str × Spn)} (h : ∀ q ∈ sp, SpnOk q.2) : 1 ≤ perN sp := Nat.pos_of_dvd_of_pos (perN_dv h) (by decide)
theorem dv_per0 : ∀ {sp : List (Str × Spn)} {a : Nat}, a ∣ sp.foldl (fun a q => Nat.lcm a q.2.p) a
  | [], a => Nat.dvd_refl _
  | q :: r, a => Nat.dvd_trans (Nat.dvd_lcm_left a q.2.p) dv_per0
theorem dv_per : ∀ {sp : List (Str × Spn)} {a : Nat}, ∀ q ∈ sp, q.2.p ∣ sp.foldl (fun a q => Nat.lcm a q.2.p) a
  | [], _, q, h => nomatch h
  | q0 :: r, a, q, h => by
    rcases List.mem_cons.mp h with h | h
    · rw [h]
      exact Nat.dvd_trans (Nat.dvd_lcm_right a q0.2.p) dv_per0
    · exact dv_per (sp := r) (a := Nat.lcm a q0.2.p) q h
theorem inS_per {s : Spn} {P : Nat} (h : s.p ∣ P) (day : Int) : inS s (day % (P : Nat)) = inS s day := by
  unfold inS
  have hd : ((s.p : Nat) : Int) ∣ ((P : Nat) : Int) := Int.natCast_dvd_natCast.mpr h
  have e : (day % ((P : Nat) : Int) - ((s.f : Nat) : Int)) % ((s.p : Nat) : Int) = (day - ((s.f : Nat) : Int)) % ((s.p : Nat) : Int) := by
    rw [Int.sub_emod, Int.emod_emod_of_dvd day hd, ← Int.sub_emod]
  rw [e]
theorem stays_per {sp : List (Str × Spn)} {day : Int} {nm : Str} : stays sp (day % ((perN sp : Nat) : Int)) nm = stays sp day nm := by
  unfold stays
  rw [Bool.eq_iff_iff, List.all_eq_true, List.all_eq_true]
  exact forall_congr' fun q => forall_congr' fun hq => by rw [inS_per (P := perN sp) (dv_per (sp := sp) (a := 1) q hq)]
/-- the book behind the spans ahead of one -/
theorem filt_step {sp : List (Str × Spn)} {q : Str × Spn} {day : Int} {f : RF} : RF.filt (stays (sp ++ [q]) day) f = if q.1 ∈ (RF.filt (stays sp day) f).names ∧ inS q.2 day = false then RF.repl q.1 [] (RF.filt (stays sp day) f) else RF.filt (stays sp day) f := by
  have e : stays (sp ++ [q]) day = fun x => stays sp day x && (!decide (q.1 = x) || inS q.2 day) := funext fun x => stays_snoc
  rw [e, ← RF.filt_filt (fun x => !decide (q.1 = x) || inS q.2 day) (stays sp day) f]
  by_cases h : q.1 ∈ (RF.filt (stays sp day) f).names ∧ inS q.2 day = false
  · rw [if_pos h, RF.filt_repl]
    refine RF.filt_congr fun x _ => ?_
    rw [h.2, Bool.or_false]
    by_cases hx : q.1 = x
    · subst hx
      simp
    · have hx' : x ≠ q.1 := fun z => hx z.symm
      simp [hx, hx']
  · rw [if_neg h]
    refine RF.filt_all fun x hx => ?_
    cases hi : inS q.2 day with
    | true => rw [Bool.or_true]
    | false =>
      have hne : q.1 ≠ x := fun z => h ⟨by rw [z]; exact hx, hi⟩
      rw [decide_eq_false hne]; rfl
end Sc
namespace Sc
open PySem PySem.Spec PyProof.Rows L2
/-! ### lines of a book some of whose rules are gone -/
namespace RF
theorem names_ctt (nm : Str) (hs fs : List Str) (rl : Str) (exc rest : RF) : (RF.cons nm hs fs rl exc rest).names = nm :: (exc.names ++ rest.names) := by
  show nm :: ((exc.pre 1 ++ rest.pre 0).map fun q => q.1.nm) = _
  rw [List.map_append, RF.pre_names exc 1, RF.pre_names rest 0]
theorem flat_in {xs : List Str} : ∀ {ws bs : List Str} {f : RF}, ∀ n ∈ RF.flat xs ws bs f, n.nm ∈ f.names
  | _, _, .nil, n, h => nomatch h
  | ws, bs, .cons nm hs fs rl exc rest, n, h => by
    rw [names_ctt]
    have h : n ∈ (if cl ws bs hs fs = true then [] else flat xs (joinF xs ws hs) (joinF xs bs fs) exc ++ [⟨nm, joinF xs ws hs, joinF xs bs fs, rl, .nil⟩]) ++ flat xs ws bs rest := h
    rcases List.mem_append.mp h with h | h
    · split at h
      · cases h
      · rcases List.mem_append.mp h with h | h
        · exact List.mem_cons_of_mem _ (List.mem_append_left _ (flat_in n h))
        · rw [List.mem_singleton.mp h]; exact List.mem_cons_self
    · exact List.mem_cons_of_mem _ (List.mem_append_right _ (flat_in n h))
theorem flat_filt {xs : List Str} {p : Str → Bool} : ∀ {ws bs : List Str} {f : RF}, f.names.Nodup → (filt p f).flat xs ws bs = (f.flat xs ws bs).filter fun n => decide (n.nm ∈ (filt p f).names)
  | _, _, .nil, _ => rfl
  | ws, bs, .cons nm hs fs rl exc rest, nd => by
    rw [names_ctt, List.nodup_cons, List.nodup_append] at nd
    obtain ⟨n1, n2, n3, n4⟩ := nd
    have ihe := flat_filt (xs := xs) (p := p) (ws := joinF xs ws hs) (bs := joinF xs bs fs) n2
    have ihr := flat_filt (xs := xs) (p := p) (ws := ws) (bs := bs) n3
    have se := (filt_names p exc).subset
    have sr := (filt_names p rest).subset
    show (if p nm = true then RF.cons nm hs fs rl (filt p exc) (filt p rest) else filt p rest).flat xs ws bs = ((if cl ws bs hs fs = true then ([] : List Nd) else flat xs (joinF xs ws hs) (joinF xs bs fs) exc ++ [(⟨nm, joinF xs ws hs, joinF xs bs fs, rl, .nil⟩ : Nd)]) ++ flat xs ws bs rest).filter fun n => decide (n.nm ∈ (if p nm = true then RF.cons nm hs fs rl (filt p exc) (filt p rest) else filt p rest).names)
    by_cases c : p nm = true
    · rw [if_pos c, names_ctt, List.filter_append]
      have er : (flat xs ws bs rest).filter (fun n => decide (n.nm ∈ nm :: ((filt p exc).names ++ (filt p rest).names))) = (filt p rest).flat xs ws bs := by
        rw [ihr]
        refine List.filter_congr fun n hn => ?_
        have hm := flat_in n hn
        rw [Bool.eq_iff_iff, decide_eq_true_iff, decide_eq_true_iff, List.mem_cons, List.mem_append]
        constructor
        · rintro (h | h | h)
          · exact absurd (List.mem_append_right _ (h ▸ hm)) n1
          · exact absurd rfl (n4 _ (se h) _ hm)
          · exact h
        · exact fun h => .inr (.inr h)
      rw [er]
      show (if cl ws bs hs fs = true then [] else flat xs (joinF xs ws hs) (joinF xs bs fs) (filt p exc) ++ [⟨nm, joinF xs ws hs, joinF xs bs fs, rl, .nil⟩]) ++ flat xs ws bs (filt p rest) = _
      congr 1
      split
      · rfl
      · rw [List.filter_append, ihe]
        congr 1
        · refine List.filter_congr fun n hn => ?_
          have hm := flat_in n hn
          rw [Bool.eq_iff_iff, decide_eq_true_iff, decide_eq_true_iff, List.mem_cons, List.mem_append]
          constructor
          · exact fun h => .inr (.inl h)
          · rintro (h | h | h)
            · exact absurd (List.mem_append_left _ (h ▸ hm)) n1
            · exact h
            · exact absurd rfl (n4 _ hm _ (sr h))
        · rw [List.filter_cons, if_pos (decide_eq_true (show nm ∈ nm :: ((filt p exc).names ++ (filt p rest).names) from List.mem_cons_self))]
          rfl
    · rw [if_neg c, List.filter_append, ← ihr]
      have e0 : (if cl ws bs hs fs = true then ([] : List Nd) else flat xs (joinF xs ws hs) (joinF xs bs fs) exc ++ [⟨nm, joinF xs ws hs, joinF xs bs fs, rl, .nil⟩]).filter (fun n => decide (n.nm ∈ (filt p rest).names)) = [] := by
        rw [List.filter_eq_nil_iff]
        intro n hn hd
        have hd := sr (of_decide_eq_true hd)
        split at hn
        · cases hn
        · rcases List.mem_append.mp hn with hn | hn
          · exact n4 _ (flat_in n hn) _ hd rfl
          · rw [List.mem_singleton.mp hn] at hd
            exact n1 (List.mem_append_right _ hd)
      rw [e0, List.nil_append]
/-- a rule and all within it -/
def ins (f : RF) (r : Str) : List Str := match f.find r with
  | some n => n.nm :: n.exc.names
  | none => []
theorem ins_no {f : RF} {r : Str} (h : ¬ r ∈ f.names) : f.ins r = [] := by
  unfold ins
  rw [find_none h]
theorem ins_cons {n : Str} {hs fs : List Str} {rl : Str} {exc rest : RF} {r : Str} : (RF.cons n hs fs rl exc rest).ins r = if n = r then n :: exc.names else if r ∈ exc.names then exc.ins r else rest.ins r := by
  unfold ins
  rw [find_cons]
  by_cases c : n = r
  · rw [if_pos c, if_pos c]
  · rw [if_neg c, if_neg c]
    by_cases d : r ∈ exc.names
    · obtain ⟨m, hm, _⟩ := find_some d
      rw [if_pos d, hm]
      rfl
    · rw [if_neg d, find_none d]
      rfl
theorem ins_sub : ∀ {f : RF} {r m : Str}, m ∈ f.ins r → m ∈ f.names ∧ r ∈ f.names
  | .nil, r, m, h => nomatch h
  | .cons n hs fs rl exc rest, r, m, h => by
    rw [ins_cons] at h
    rw [names_ctt]
    by_cases c : n = r
    · rw [if_pos c] at h
      refine ⟨?_, by rw [c]; exact List.mem_cons_self⟩
      rcases List.mem_cons.mp h with h | h
      · rw [h]; exact List.mem_cons_self
      · exact List.mem_cons_of_mem _ (List.mem_append_left _ h)
    · rw [if_neg c] at h
      split at h
      · obtain ⟨a, b⟩ := ins_sub h
        exact ⟨List.mem_cons_of_mem _ (List.mem_append_left _ a), List.mem_cons_of_mem _ (List.mem_append_left _ b)⟩
      · obtain ⟨a, b⟩ := ins_sub h
        exact ⟨List.mem_cons_of_mem _ (List.mem_append_right _ a), List.mem_cons_of_mem _ (List.mem_append_right _ b)⟩
/-- what stays of the names -/
theorem filt_mem {p : Str → Bool} {m : Str} : ∀ {f : RF}, f.names.Nodup → m ∈ f.names → (m ∈ (filt p f).names ↔ ∀ r, p r = false → ¬ m ∈ f.ins r)
  | .nil, _, h => nomatch h
  | .cons n hs fs rl exc rest, nd, h => by
    rw [names_ctt, List.nodup_cons, List.nodup_append] at nd
    obtain ⟨n1, n2, n3, n4⟩ := nd
    rw [names_ctt] at h
    have se := (filt_names p exc).subset
    have sr := (filt_names p rest).subset
    have key : m ∈ (filt p (RF.cons n hs fs rl exc rest)).names ↔ (p n = true ∧ (m = n ∨ m ∈ (filt p exc).names)) ∨ m ∈ (filt p rest).names := by
      show m ∈ (if p n = true then RF.cons n hs fs rl (filt p exc) (filt p rest) else filt p rest).names ↔ _
      by_cases c : p n = true
      · rw [if_pos c, names_ctt, List.mem_cons, List.mem_append]
        constructor
        · rintro (h | h | h)
          · exact .inl ⟨c, .inl h⟩
          · exact .inl ⟨c, .inr h⟩
          · exact .inr h
        · rintro (⟨_, h | h⟩ | h)
          · exact .inl h
          · exact .inr (.inl h)
          · exact .inr (.inr h)
      · rw [if_neg c]
        exact ⟨.inr, fun h => h.elim (fun h => absurd h.1 c) id⟩
    rw [key]
    rcases List.mem_cons.mp h with h | h
    · -- the rule itself
      subst h
      have o1 : ¬ m ∈ exc.names := fun z => n1 (List.mem_append_left _ z)
      have o2 : ¬ m ∈ rest.names := fun z => n1 (List.mem_append_right _ z)
      constructor
      · rintro (⟨c, _⟩ | hr)
        · intro r hr hm
          rw [ins_cons] at hm
          by_cases e : m = r
          · rw [← e, c] at hr; cases hr
          · rw [if_neg e] at hm
            split at hm
            · exact o1 (ins_sub hm).1
            · exact o2 (ins_sub hm).1
        · exact absurd (sr hr) o2
      · intro hall
        refine .inl ⟨?_, .inl rfl⟩
        cases c : p m with
        | true => rfl
        | false => exact absurd (by rw [ins_cons, if_pos rfl]; exact List.mem_cons_self) (hall m c)
    rcases List.mem_append.mp h with h | h
    · have hne : m ≠ n := fun z => n1 (by rw [← z]; exact List.mem_append_left _ h)
      have o2 : ¬ m ∈ rest.names := fun z => n4 _ h _ z rfl
      have ih := filt_mem (p := p) n2 h
      constructor
      · rintro (⟨c, hx | hx⟩ | hr)
        · exact absurd hx hne
        · intro r hr hm
          rw [ins_cons] at hm
          by_cases e : n = r
          · rw [← e, c] at hr; cases hr
          · rw [if_neg e] at hm
            split at hm
            · exact ih.mp hx r hr hm
            · exact o2 (ins_sub hm).1
        · exact absurd (sr hr) o2
      · intro hall
        refine .inl ⟨?_, .inr (ih.mpr fun r hr hm => ?_)⟩
        · cases c : p n with
          | true => rfl
          | false => exact absurd (by rw [ins_cons, if_pos rfl]; exact List.mem_cons_of_mem _ h) (hall n c)
        · have hre := (ins_sub hm).2
          refine hall r hr ?_
          rw [ins_cons, if_neg (fun z => n1 (by rw [z]; exact List.mem_append_left _ hre)), if_pos hre]
          exact hm
    · have hne : m ≠ n := fun z => n1 (by rw [← z]; exact List.mem_append_right _ h)
      have o1 : ¬ m ∈ exc.names := fun z => n4 _ z _ h rfl
      have ih := filt_mem (p := p) n3 h
      constructor
      · rintro (⟨c, hx | hx⟩ | hx)
        · exact absurd hx hne
        · exact absurd (se hx) o1
        · intro r hr hm
          rw [ins_cons] at hm
          by_cases e : n = r
          · rw [if_pos e] at hm
            rcases List.mem_cons.mp hm with hm | hm
            · exact hne hm
            · exact o1 hm
          · rw [if_neg e] at hm
            split at hm
            · exact o1 (ins_sub hm).1
            · exact ih.mp hx r hr hm
      · intro hall
        refine .inr (ih.mpr fun r hr hm => ?_)
        have hre := (ins_sub hm).2
        refine hall r hr ?_
        rw [ins_cons, if_neg (fun z => n1 (by rw [z]; exact List.mem_append_right _ hre)), if_neg (fun z => n4 _ z _ hre rfl)]
        exact hm
end RF
end Sc
namespace Sc
open PySem PySem.Spec PyProof.Rows L2
theorem sc_Timetable___init__ : FnScope ["self", "book"] ["self", "book"] (defScope s_Timetable___init__) := ⟨rfl, rfl, rfl, by decide +kernel, rfl, by decide +kernel, by decide +kernel⟩
theorem sc_Timetable_ruling_by : FnScope ["self", "bits", "_", "rule"] ["self", "bits"] (defScope s_Timetable_ruling_by) := ⟨rfl, rfl, rfl, by decide +kernel, rfl, by decide +kernel, by decide +kernel⟩
/-- the fields of a timetable -/
def ttF (b D : Addr) (e : Int) (dd : Addr) : List (Str × V) := putF "bits_met" (.ref dd) (putF "everything" (.int e) (putF "rows" (.ref D) (putF "whole" (.ref b) [])))
section
variable {P : Program} {w : World} {K : PySem.W.Frag} {mg : Str → Option Value} {base : Heap} {C R B TT : Addr}
/-- a timetable of a book -/
structure TtAt (K : PySem.W.Frag) (C R B TT : Addr) (N : Addr → Prop) (H : Hp) (x dx b D dd : Addr) (us : List V) (xs : List Str) (f : RF) (rl : Str) : Prop where
  o : H x = some (.ins TT dx (ttF b D (2 ^ (f.flat xs [] []).length - 1) dd))
  bk : BookAt K C R B N H b xs f rl
  rows : H D = some (.lst us)
  ln : All2 (FRow K C R N xs H) us (f.flat xs [] [])
def sp_by (K : PySem.W.Frag) (C R B TT : Addr) : Sp := fun vs H Q _ => ∃ (N : Addr → Prop) (x dx b D dd : Addr) (us : List V) (xs : List Str) (f : RF) (rl : Str) (n : Int) (p : Nd → Bool), vs = [.ref x, .int n] ∧ TtAt K C R B TT N H x dx b D dd us xs f rl ∧ 0 ≤ n ∧ n < 2 ^ (f.flat xs [] []).length ∧
  (∀ (j : Nat) (m : Nd), (f.flat xs [] [])[j]? = some m → bitAt n j = p m) ∧ f.size ≤ 900 ∧ ∀ H', Same H H' → Q (.str (match (f.flat xs [] []).find? p with | some m => m.rl | none => rl)) H'
theorem ok_by {f : Addr} {fd : FuncData} (F : Fun K "ruling_by" "Timetable.ruling_by" s_Timetable_ruling_by f fd) (Bl : Blt mg) (T : Cls K TT) (n1 : NoAttr K TT "whole") (n2 : NoAttr K TT "rows") (kR : RuleX P w K mg base R) (kB : BookX P w K mg base B) : FnOk P w K mg base CX0 3 f fd ["self", "bits"] (sp_by K C R B TT) := by
  refine F.ok sc_Timetable_ruling_by (fun vs H Q E h => by obtain ⟨N, x, dx, b, D, dd, us, xs, f, rl, n, p, rfl, _⟩ := h; rfl) (fun cdv A outer s H vs Q E hr h => ?_)
  obtain ⟨N, x, dx, b, D, dd, us, xs, f, rl, n, p, rfl, hT, h0, hk, hb, hz, q⟩ := h
  refine ⟨_, (pss_cons (ps_if (pt_cmpR op_eq (pv 1) pe_int (nomark _)) (pss_one (ps_ret (pe_cprop kB.ruling kB.cls (hr.mono (by decide)) (pe_fld (pv 0) rfl)))) pss_nil)
      (pss_cons (ps_asg (pe_ix ix_list (pe_fld (pv 0) rfl) (pe_op op_sub (pe_bits (pe_op L2.op_and (pv 1) (pe_un un_neg (pv 1)))) pe_int) (fun _ _ => rfl)) (pg_tup (by rfl) (pgs_cons (pg_name (i := 2) sc_Timetable_ruling_by.nd rfl (Or.inl rfl)) (pgs_cons (pg_name (i := 3) sc_Timetable_ruling_by.nd rfl (Or.inl rfl)) pgs_nil))))
      (pss_one (ps_ret (pe_cprop kR.ruling kR.cls (hr.mono (by decide)) (pv 3)))))), ?_⟩
  obtain ⟨dxb, a, pr, l, ws, us2, hob, hS, hP, hF, _, _⟩ := id hT.bk
  have hll := RF.flat_len (xs := xs) (ws := []) (bs := []) f
  refine ⟨_, rfl, rfl, _, rfl, ?_⟩
  rcases low_find h0 hk hb with ⟨e0, e1⟩ | ⟨j, m, hj, e1, hne, hlow⟩
  · rw [e1] at q
    rw [decide_eq_true (show V.int n = V.int 0 by rw [e0])]
    refine iteT ⟨_, rfl, x, TT, dx, _, .ref b, rfl, hT.o, T, n1, rfl, b, dxb, _, rfl, hob, b, dxb, _, _, rfl, hob, rfl, ?_⟩
    exact q H (Same.refl H)
  · rw [e1] at q
    rw [decide_eq_false (show ¬ V.int n = V.int 0 from fun z => hne (V.int.inj z))]
    obtain ⟨v, hv, t, cu, o, m', rfl, ht, hcu, hN, hnm, hrl⟩ := hT.ln.get' hj
    obtain ⟨dx', c', pe', l', ws', ho', _⟩ := id hN
    refine iteF ⟨_, rfl, x, TT, dx, _, .ref D, rfl, hT.o, T, n2, rfl, _, rfl, _, rfl, _, rfl, _, _, rfl, rfl, _, rfl, _, _, rfl, rfl, D, _, _, .ref t, rfl, rfl, sqL_of hT.rows, (by rw [hlow]; exact atI_nat hv), ?_⟩
    refine ⟨t, _, rfl, ht, rfl, _, _, rfl, _, _, rfl, rfl, ?_⟩
    refine ⟨_, rfl, o, dx', _, rfl, ho', o, dx', _, _, rfl, ho', rfl, ?_⟩
    have q : ∀ H', Same H H' → Q (V.str m.rl) H' := q
    rw [← hrl] at q
    exact q H (Same.refl H)
end
end Sc
namespace Sc
open PySem PySem.Spec PyProof.Rows L2
theorem sc_Timetable_met : FnScope ["self", "number", "bits", "index", "cube", "_"] ["self", "number"] (defScope s_Timetable_met) := ⟨rfl, rfl, rfl, by decide +kernel, rfl, by decide +kernel, by decide +kernel⟩
/-- which lines a case meets, as a number -/
def metB (xs : List Str) (m : Int) (n : Nd) : Bool := decide (Builtin.bitAnd m (Builtin.bitOr (bitsOf xs n.hs) (bitsOf xs n.fs)) = bitsOf xs n.hs)
def atB {α : Type} (p : α → Bool) (L : List α) (j : Nat) : Bool := match L[j]? with
  | some n => p n
  | none => false
theorem atB_of {α : Type} {p : α → Bool} {L : List α} {j : Nat} {n : α} (h : L[j]? = some n) : atB p L j = p n := by
  unfold atB
  rw [h]
def metN (xs : List Str) (L : List Nd) (m : Int) : Int := bsP (atB (metB xs m) L) L.length
section
variable {P : Program} {w : World} {K : PySem.W.Frag} {mg : Str → Option Value} {base : Heap} {C R B TT : Addr}
/-- what a timetable keeps of the cases that it was asked for -/
def MetAt (H : Hp) (dd : Addr) (xs : List Str) (L : List Nd) (c : Nat) : Prop := ∃ kvs : List (Key × V), H dd = some (.dK kvs) ∧ kvs.length ≤ c ∧ ∀ k v, valV kvs k = some v → ∃ m : Int, k = .inl m ∧ v = .int (metN xs L m)
def sp_met (K : PySem.W.Frag) (C R B TT : Addr) : Sp := fun vs H Q _ => ∃ (N : Addr → Prop) (x dx b D dd : Addr) (us : List V) (xs : List Str) (f : RF) (rl : Str) (m : Int) (c : Nat), vs = [.ref x, .int m] ∧ TtAt K C R B TT N H x dx b D dd us xs f rl ∧ MetAt H dd xs (f.flat xs [] []) c ∧ c ≤ 100000 ∧ f.size ≤ 900 ∧
  ∀ H', SameX dd H H' → MetAt H' dd xs (f.flat xs [] []) (c + 1) → Q (.int (metN xs (f.flat xs [] []) m)) H'
theorem ok_met {f : Addr} {fd : FuncData} (F : Fun K "met" "Timetable.met" s_Timetable_met f fd) (Bl : Blt mg) (T : Cls K TT) (n2 : NoAttr K TT "rows") (n4 : NoAttr K TT "bits_met") (c_meets : Cal P w K mg base CX0 1 "meets" ["number", "cube"] (sp_cmeets K)) : FnOk P w K mg base CX0 2 f fd ["self", "number"] (sp_met K C R B TT) := by
  refine F.ok sc_Timetable_met (fun vs H Q E h => by obtain ⟨N, x, dx, b, D, dd, us, xs, f, rl, m, cc, rfl, _⟩ := h; rfl) (fun cdv A outer s H vs Q E hr h => ?_)
  obtain ⟨N, x, dx, b, D, dd, us, xs, f, rl, m, cc, rfl, hT, hM, hcc, hz, q⟩ := h
  refine ⟨_, (pss_cons (ps_if (pt_cmp (pc_dnotin (Nat.lt_of_le_of_lt (Nat.add_le_add_left (by decide) _) hr.units) (pv 1) (pe_fld (pv 0) rfl))) (pss_cons (ps_set (i := 2) sc_Timetable_met.nd rfl (Or.inl rfl) (pe_callB (cr_sum rfl) (by rfl) Bl.b_sum PyProof.Rows.boot_sum (pa_cons (pe_lc (own := [("index", 3), ("cube", 4), ("_", 5)]) (g := gTup K 2 (gCons (gName 3) (gCons (gTup K 2 (gCons (gName 4) (gCons (gName 5) gNil))) gNil))) rfl sc_Timetable_met.nd (pi_enum (by rfl) Bl.b_enumerate (pa_cons (pe_fld (pv 0) rfl) pa_nil)) (blkOk_by (own := [("index", 3), ("cube", 4), ("_", 5)]) (N := ["self", "number", "bits", "index", "cube", "_"]) (sc := defScope s_Timetable_met) (by decide +kernel)) (fun _ _ _ _ _ => (pg_tup (by rfl) (pgs_cons (pg_name (i := 3) sc_Timetable_met.nd rfl (Or.inl rfl)) (pgs_cons (pg_tup (by rfl) (pgs_cons (pg_name (i := 4) sc_Timetable_met.nd rfl (Or.inl rfl)) (pgs_cons (pg_name (i := 5) sc_Timetable_met.nd rfl (Or.inl rfl)) pgs_nil))) pgs_nil)))) (fun _ _ _ _ _ => (pts_.re (pts_one (pt_val (pe_cal c_meets (hr.mono (by decide)) (pa_cons (pv 1) (pa_cons (pv 4) pa_nil))))) (by first | (dsimp only [Cx.blk]; done) | exact rfl))) (fun _ _ _ _ _ => (pe_.re (pe_op op_shl pe_int (pv 3)) (by first | (dsimp only [Cx.blk]; done) | exact rfl)))) pa_nil)))
      (pss_one (ps_dput (Nat.lt_of_le_of_lt (Nat.add_le_add_left (by decide) _) hr.units) (pe_fld (pv 0) rfl) (pv 1) (pv 2) rfl))) pss_nil)
      (pss_one (ps_ret (pe_dget (Nat.lt_of_le_of_lt (Nat.add_le_add_left (by decide) _) hr.units) (pe_fld (pv 0) rfl) (pv 1) (fun _ _ => rfl))))), ?_⟩
  obtain ⟨kvs, hd, hl, hv⟩ := hM
  have hll := RF.flat_len (xs := xs) (ws := []) (bs := []) f
  refine ⟨_, rfl, _, rfl, x, TT, dx, _, .ref dd, rfl, hT.o, T, n4, rfl, dd, valV kvs (.inl m), rfl, .inl ⟨kvs, .inl m, .inl hd, rfl, rfl⟩, ?_⟩
  refine ⟨_, rfl, ?_⟩
  cases e : valV kvs (.inl m) with
  | some v =>
    obtain ⟨m', em, rfl⟩ := hv _ _ e
    cases em
    refine iteF ⟨_, rfl, x, TT, dx, _, .ref dd, rfl, hT.o, T, n4, rfl, _, rfl, dd, _, rfl, .inl ⟨kvs, .inl m, .inl hd, rfl, e.symm⟩, ?_⟩
    exact q H (fun b o _ h => h) ⟨kvs, hd, by omega, hv⟩
  | none =>
    refine iteT ⟨_, rfl, x, TT, dx, _, .ref D, rfl, hT.o, T, n2, rfl, D, _, rfl, sqL_of hT.rows, fun D2 nD2 => lc_it walk_enum (fun i H' => Same H H' ∧ H' D2 = some (.lst ((bsL (atB (metB xs m) (f.flat xs [] [])) i).map V.int))) ⟨(Same.refl H).put nD2, upd_same⟩ (fun _ _ _ h => sqL_of (h.1 _ _ hT.rows)) ?_ ?_⟩
    · rintro i y H2 H3 hi ⟨s, es⟩ ⟨tp, v1, v2, rfl, nt, rfl, h1, h2⟩
      obtain rfl : V.int (i : Nat) = v1 := Option.some.inj h1
      obtain ⟨n, hn, t2, cu, o, m', rfl, ht2, hcu, _⟩ := hT.ln.get h2
      have hi' : i < (f.flat xs [] []).length := (List.getElem?_eq_some_iff.mp hn).1
      have s3 : Same H (upd H2 tp (.tup [.int (i : Nat), .ref t2])) := s.put' nt
      have e3 : (upd H2 tp (.tup [.int (i : Nat), .ref t2])) D2 = some (.lst ((bsL (atB (metB xs m) (f.flat xs [] [])) i).map V.int)) := by rw [upd_ne (ne_of_none es nt)]; exact es
      refine ⟨tp, [.int (i : Nat), .ref t2], rfl, sqT_new, rfl, _, _, rfl, _, _, rfl, t2, _, rfl, s3.tup ht2, rfl, _, _, rfl, _, _, rfl, rfl, rfl, rfl, ?_⟩
      generalize upd H2 tp (.tup [.int (i : Nat), .ref t2]) = H3 at s3 e3 ⊢
      refine ⟨_, rfl, _, rfl, cu, m, _, _, rfl, s3.tup hcu, _, rfl, ?_⟩
      have hat := atB_of (p := metB xs m) hn
      have hlb := bsL_len (q := atB (metB xs m) (f.flat xs [] [])) (i := i)
      show if metB xs m n = true then _ else _
      refine bcase (fun c1 => ?_) (fun c1 => ?_)
      · refine ⟨_, rfl, 1, i, rfl, rfl, ⟨by omega, by omega, by decide⟩, grow (acc := fun i => (bsL (atB (metB xs m) (f.flat xs [] [])) i).map V.int) nD2 s3 e3 ?_ ?_⟩
        · rw [List.length_map]
          exact small1000 (by omega)
        · show List.map V.int _ = _ ++ [V.int (1 * 2 ^ ((i : Nat) : Int).toNat)]
          rw [bsL_more, if_pos (by rw [hat, c1]), List.map_append, Int.one_mul, Int.toNat_natCast]
          rfl
      · refine ⟨s3, ?_⟩
        rw [bsL_more, if_neg (by rw [hat, c1]; exact Bool.false_ne_true), List.append_nil]
        exact e3
    · rintro H2 ⟨s, es⟩
      have hll2 := hT.ln.len
      rw [hll2] at es
      refine ⟨D2, _, rfl, sqL_of es, ?_⟩
      rw [bsL_sum]
      have hxd : x ≠ dd := fun z => by have h := hT.o; rw [z, hd] at h; cases h
      have hd2 := s _ _ hd
      have ho2 := s _ _ hT.o
      refine ⟨_, rfl, _, rfl, x, TT, dx, _, .ref dd, rfl, ho2, T, n4, rfl, _, rfl, dd, _, rfl, .inl ⟨kvs, .inl m, hd2, rfl, by rw [sizeLine_eq]; omega, rfl⟩, ?_⟩
      have ev : valV (putK kvs (.inl m) (.int (bsP (atB (metB xs m) (f.flat xs [] [])) (f.flat xs [] []).length))) (.inl m) = some (.int (metN xs (f.flat xs [] []) m)) := by rw [valV_put, if_pos rfl]; rfl
      refine ⟨_, rfl, x, TT, dx, _, .ref dd, rfl, (by rw [upd_ne hxd]; exact ho2), T, n4, rfl, _, rfl, dd, _, rfl, .inl ⟨_, .inl m, .inl upd_same, rfl, ev.symm⟩, ?_⟩
      refine q _ (fun b' o' ne h => by rw [upd_ne ne]; exact s _ _ h) ⟨_, upd_same, Nat.le_trans (length_putK _ _ _) (by omega), fun k v hk => ?_⟩
      rw [valV_put] at hk
      split at hk
      · rename_i ek
        cases hk
        exact ⟨m, ek, rfl⟩
      · exact hv k v hk
end
end Sc
namespace Sc
open PySem PySem.Spec PyProof.Rows L2
theorem sc_Timetable_ruling_on : FnScope ["self", "number", "force"] ["self", "number", "force"] (defScope s_Timetable_ruling_on) := ⟨rfl, rfl, rfl, by decide +kernel, rfl, by decide +kernel, by decide +kernel⟩
/-- a method of a class, no property -/
structure MethR (P : Program) (w : World) (K : PySem.W.Frag) (mg : Str → Option Value) (base : Heap) (k : Nat) (C : Addr) (m : Str) (ps : List Str) (sp : Sp) : Prop where
  ex : ∃ (g : Addr) (fd : FuncData), Meth K C m g ∧ FnOk P w K mg base CX0 k g fd ps sp ∧ Binds K fd ps []
section
variable {X : Cx} {k : Nat} {C : Addr} {m : Str} {ps : List Str} {sp : Sp} {e o : Expr} {es : List Expr} {ta : TE} {t : TA} {pos apos : Pos}
theorem pe_me {pl : Sem Bool} (T : Cls X.K C) (M : MethR X.prog X.w X.K X.mg X.base k C m ps sp) (hr : Room k X.A) (he : PE X o ta) (ha : PA X (e :: es) t)
    (hst : starEach (e :: es) X.env = (false, eval e X.env) :: starEach es X.env := by rfl) (hpl : (backTo pos (starEach es X.env)).any (·.1) = false := by rfl)
    (ht : eval (.Call (.Attribute o m apos) (e :: es) [] pos) X.env = (do
      let ov ← eval o X.env
      standAt apos.atName
      let (f, first) ← holding [ov] (getMethod ov m pl)
      callWith pos f first (backTo pos (starEach (e :: es) X.env)) (backToKw pos (keywordEach [] X.env))) := by rfl) : PE X (.Call (.Attribute o m apos) (e :: es) [] pos) (tMeth C m sp [] E0 ta t) := by
  obtain ⟨g, fd, h1, F, hb⟩ := M.ex
  exact pe_meth he T h1 F hr hb .nil pass0 ha hst hpl ht
theorem pe_me0 {pl : Sem Bool} (T : Cls X.K C) (M : MethR X.prog X.w X.K X.mg X.base k C m ps sp) (hr : Room k X.A) (he : PE X o ta)
    (ht : eval (.Call (.Attribute o m apos) [] [] pos) X.env = (do
      let ov ← eval o X.env
      standAt apos.atName
      let (f, first) ← holding [ov] (getMethod ov m pl)
      callWith pos f first (backTo pos (starEach [] X.env)) (backToKw pos (keywordEach [] X.env))) := by rfl) : PE X (.Call (.Attribute o m apos) [] [] pos) (tMeth C m sp [] E0 ta tNil) := by
  obtain ⟨g, fd, h1, F, hb⟩ := M.ex
  exact pe_meth0 he T h1 F hr hb .nil pass0 ht
end
/-- what a dict alone changed -/
theorem SameX.keepsD {N : Addr → Prop} {d : Addr} {H H' : Hp} {kvs : List (Key × V)} (s : SameX d H H') (e : H d = some (.dK kvs)) : Keeps N H H' := fun b o st h => s b o (fun z => by
  rw [z, e] at h
  cases h
  exact Bool.noConfusion (st.2.2.2 : true = false)) h
section
variable {P : Program} {w : World} {K : PySem.W.Frag} {mg : Str → Option Value} {base : Heap} {C R B TT : Addr}
theorem TtAt.met {N : Addr → Prop} {H H' : Hp} {x dx b D dd : Addr} {us : List V} {xs : List Str} {f : RF} {rl : Str} {kvs : List (Key × V)} (h : TtAt K C R B TT N H x dx b D dd us xs f rl) (s : SameX dd H H') (e : H dd = some (.dK kvs)) : TtAt K C R B TT N H' x dx b D dd us xs f rl :=
  ⟨s _ _ (fun z => by have h := h.o; rw [z, e] at h; cases h) h.o, h.bk.keeps (s.keepsD e), s _ _ (fun z => by have h := h.rows; rw [z, e] at h; cases h) h.rows, h.ln.mono fun _ _ y => y.keeps (s.keepsD e)⟩
theorem TtAt.same {N : Addr → Prop} {H H' : Hp} {x dx b D dd : Addr} {us : List V} {xs : List Str} {f : RF} {rl : Str} (h : TtAt K C R B TT N H x dx b D dd us xs f rl) (s : Same H H') : TtAt K C R B TT N H' x dx b D dd us xs f rl :=
  ⟨s _ _ h.o, h.bk.keeps s.keeps, s _ _ h.rows, h.ln.mono fun _ _ y => y.keeps s.keeps⟩
/-- the ruling of a case by the lines that stay -/
def lineRul (xs : List Str) (L : List Nd) (rl : Str) (m : Int) (keep : Nd → Bool) : Str := match L.find? (fun n => metB xs m n && keep n) with
  | some n => n.rl
  | none => rl
def sp_on (K : PySem.W.Frag) (C R B TT : Addr) : Sp := fun vs H Q _ => ∃ (N : Addr → Prop) (x dx b D dd : Addr) (us : List V) (xs : List Str) (f : RF) (rl : Str) (m force : Int) (c : Nat) (keep : Nd → Bool), vs = [.ref x, .int m, .int force] ∧ TtAt K C R B TT N H x dx b D dd us xs f rl ∧ MetAt H dd xs (f.flat xs [] []) c ∧ c ≤ 100000 ∧ f.size ≤ 900 ∧
  (∀ (j : Nat) (n : Nd), (f.flat xs [] [])[j]? = some n → bitAt force j = keep n) ∧
  ∀ H', SameX dd H H' → MetAt H' dd xs (f.flat xs [] []) (c + 1) → Q (.str (lineRul xs (f.flat xs [] []) rl m keep)) H'
theorem ok_on {f : Addr} {fd : FuncData} (F : Fun K "ruling_on" "Timetable.ruling_on" s_Timetable_ruling_on f fd) (Bl : Blt mg) (CLt : Cls K TT) (mt_met : MethR P w K mg base 2 TT "met" ["self", "number"] (sp_met K C R B TT)) (mt_ruling_by : MethR P w K mg base 3 TT "ruling_by" ["self", "bits"] (sp_by K C R B TT)) : FnOk P w K mg base CX0 4 f fd ["self", "number", "force"] (sp_on K C R B TT) := by
  refine F.ok sc_Timetable_ruling_on (fun vs H Q E h => by obtain ⟨N, x, dx, b, D, dd, us, xs, f, rl, m, force, c, keep, rfl, _⟩ := h; rfl) (fun cdv A outer s H vs Q E hr h => ?_)
  obtain ⟨N, x, dx, b, D, dd, us, xs, f, rl, m, force, c, keep, rfl, hT, hM, hc, hz, hf, q⟩ := h
  refine ⟨_, (pss_one (ps_ret (pe_me CLt mt_ruling_by (hr.mono (by decide)) (pv 0) (pa_cons (pe_op L2.op_and (pe_me CLt mt_met (hr.mono (by decide)) (pv 0) (pa_cons (pv 1) pa_nil)) (pv 2)) pa_nil)))), ?_⟩
  obtain ⟨kvs, hd, hl, hv⟩ := id hM
  have hb := bsP_lt (q := atB (metB xs m) (f.flat xs [] [])) (f.flat xs [] []).length
  have hr : 0 ≤ Builtin.bitAnd (metN xs (f.flat xs [] []) m) force ∧ Builtin.bitAnd (metN xs (f.flat xs [] []) m) force ≤ metN xs (f.flat xs [] []) m := by
    rw [bitAnd_comm]
    exact bitAnd_range force hb.1
  refine ⟨_, rfl, x, dx, _, rfl, hT.o, rfl, _, rfl, x, dx, _, rfl, hT.o, rfl, _, rfl, N, x, dx, b, D, dd, us, xs, f, rl, m, c, rfl, hT, hM, hc, hz, fun H2 s2 hM2 => ?_⟩
  have hT2 := hT.met s2 hd
  refine ⟨_, rfl, _, _, rfl, rfl, N, x, dx, b, D, dd, us, xs, f, rl, _, fun n => metB xs m n && keep n, rfl, hT2, hr.1, Int.lt_of_le_of_lt hr.2 hb.2, fun j n hj => ?_, hz, fun H3 s3 => ?_⟩
  · rw [band_bit, hf j n hj]
    congr 1
    rw [← atB_of (p := metB xs m) hj]
    exact bsP_bit _ _ (List.getElem?_eq_some_iff.mp hj).1
  · obtain ⟨kvs2, hd2, hl2, hv2⟩ := hM2
    exact q H3 (fun b' o' ne h => s3 _ _ (s2 b' o' ne h)) ⟨kvs2, s3 _ _ hd2, hl2, hv2⟩
def sp_ttInit (K : PySem.W.Frag) (C R B TT : Addr) : Sp := fun vs H Q _ => ∃ (N : Addr → Prop) (x dx b : Addr) (xs : List Str) (f : RF) (rl : Str), vs = [.ref x, .ref b] ∧ H x = some (.ins TT dx []) ∧ BookAt K C R B N H b xs f rl ∧ (∀ l, H l = none → N l) ∧ xs.length ≤ 1000 ∧ f.dep ≤ 12 ∧ f.size ≤ 900 ∧ (f.every fun n => (∀ x ∈ n.hs, x ∈ xs) ∧ ∀ x ∈ n.fs, x ∈ xs) ∧
  ∀ H' D dd us, SameX x H H' → H dd = none → TtAt K C R B TT N H' x dx b D dd us xs f rl → MetAt H' dd xs (f.flat xs [] []) 0 → Q .non H'
theorem ok_ttInit {f : Addr} {fd : FuncData} (F : Fun K "__init__" "Timetable.__init__" s_Timetable___init__ f fd) (Bl : Blt mg) (T : Cls K TT) (n1 : NoAttr K TT "whole") (n2 : NoAttr K TT "rows") (n3 : NoAttr K TT "everything") (n4 : NoAttr K TT "bits_met") (c_rows_of : Cal P w K mg base CX0 17 "rows_of" ["book"] (sp_rows_of K C R B)) : FnOk P w K mg base CX0 18 f fd ["self", "book"] (sp_ttInit K C R B TT) := by
  refine F.ok sc_Timetable___init__ (fun vs H Q E h => by obtain ⟨N, x, dx, b, xs, f, rl, rfl, _⟩ := h; rfl) (fun cdv A outer s H vs Q E hr h => ?_)
  obtain ⟨N, x, dx, b, xs, f, rl, rfl, hx, hB, hN, hxl, hd, hz, hsub, q⟩ := h
  refine ⟨_, (pss_cons (ps_fld (pv 0) (pv 1) rfl)
      (pss_cons (ps_fld (pv 0) (pe_cal c_rows_of (hr.mono (by decide)) (pa_cons (pv 1) pa_nil)) rfl)
      (pss_cons (ps_fld (pv 0) (pe_op op_sub (pe_op op_shlW pe_int (pe_callB call_len_seq (by rfl) Bl.b_len PySem.boot_len (pa_cons (pe_fld (pv 0) rfl) pa_nil))) pe_int) rfl)
      (pss_one (ps_fld (pv 0) pe_dnewK rfl))))), ?_⟩
  have bx : b ≠ x := fun z => by
    obtain ⟨dx', _, _, _, _, _, hb, _⟩ := id hB
    rw [z, hx] at hb
    injection hb with hb
    injection hb with _ _ hb
    cases hb
  refine ⟨_, rfl, _, rfl, x, TT, dx, [], rfl, hx, T, n1, (by show 0 < 1000; decide), ?_⟩
  have x1 : SameX x H (upd H x (.ins TT dx (putF "whole" (.ref b) []))) := fun b' ob n e => by rw [upd_ne n]; exact e
  have hx1 : (upd H x (.ins TT dx (putF "whole" (.ref b) []))) x = some (.ins TT dx (putF "whole" (.ref b) [])) := upd_same
  have hn1 : ∀ l, (upd H x (.ins TT dx (putF "whole" (.ref b) []))) l = none → H l = none := fun l h => by
    by_cases z : l = x
    · rw [z, upd_same] at h; cases h
    · rw [upd_ne z] at h; exact h
  generalize upd H x (.ins TT dx (putF "whole" (.ref b) [])) = H1 at x1 hx1 hn1 ⊢
  have kX : ∀ H', SameX x H H' → Keeps N H H' := fun H' s => SameX.keeps s hx rfl
  have hB1 := hB.keeps (kX _ x1)
  refine ⟨_, rfl, N, b, xs, f, rl, rfl, hB1, (fun l h => hN l (hn1 l h)), hxl, hd, hz, hsub, fun H2 D us s2 eD hus => ?_⟩
  have x2 : SameX x H H2 := fun b' ob n e => s2 _ _ (x1 b' ob n e)
  have hx2 := s2 _ _ hx1
  have hlen := hus.len
  have hll := RF.flat_len (xs := xs) (ws := []) (bs := []) f
  have Dx : D ≠ x := fun z => by rw [z, hx2] at eD; cases eD
  refine ⟨_, rfl, x, TT, dx, _, rfl, hx2, T, n2, (by show 1 < 1000; decide), ?_⟩
  have x3 : SameX x H (upd H2 x (.ins TT dx (putF "rows" (.ref D) (putF "whole" (.ref b) [])))) := fun b' ob n e => by rw [upd_ne n]; exact x2 b' ob n e
  have hx3 : (upd H2 x (.ins TT dx (putF "rows" (.ref D) (putF "whole" (.ref b) [])))) x = some (.ins TT dx (putF "rows" (.ref D) (putF "whole" (.ref b) []))) := upd_same
  have eD3 : (upd H2 x (.ins TT dx (putF "rows" (.ref D) (putF "whole" (.ref b) [])))) D = some (.lst us) := by rw [upd_ne Dx]; exact eD
  have hus3 := hus.mono fun _ _ y => y.keeps (SameX.keeps (N := N) (H' := upd H2 x (.ins TT dx (putF "rows" (.ref D) (putF "whole" (.ref b) [])))) (x := x) (fun b' ob n e => by rw [upd_ne n]; exact e) hx2 rfl)
  generalize upd H2 x (.ins TT dx (putF "rows" (.ref D) (putF "whole" (.ref b) []))) = H3 at x3 hx3 eD3 hus3 ⊢
  have hlk : (putF "rows" (V.ref D) (putF "whole" (V.ref b) [])).lookup (Str.ofString "rows") = some (.ref D) := rfl
  refine ⟨_, rfl, x, TT, dx, _, .ref D, rfl, hx3, T, n2, rfl, D, us, rfl, .inl (sqL_of eD3), 1, (us.length : Nat), rfl, rfl, shl_ok (i := 1) (j := us.length) (n := 1) (by decide) (by omega), _, _, rfl, rfl, _, rfl, x, TT, dx, _, rfl, hx3, T, n3, (by show 2 < 1000; decide), ?_⟩
  have ev : (1 : Int) * 2 ^ ((us.length : Nat) : Int).toNat - 1 = 2 ^ (f.flat xs [] []).length - 1 := by rw [Int.one_mul, Int.toNat_natCast, hlen]
  show Ends.nx _ _ (upd H3 x (.ins TT dx (putF "everything" (.int ((1 : Int) * 2 ^ ((us.length : Nat) : Int).toNat - 1)) (putF "rows" (.ref D) (putF "whole" (.ref b) [])))))
  rw [ev]
  generalize he : (2 : Int) ^ (f.flat xs [] []).length - 1 = ee
  have x4 : SameX x H (upd H3 x (.ins TT dx (putF "everything" (.int ee) (putF "rows" (.ref D) (putF "whole" (.ref b) []))))) := fun b' ob n e => by rw [upd_ne n]; exact x3 b' ob n e
  have hx4 : (upd H3 x (.ins TT dx (putF "everything" (.int ee) (putF "rows" (.ref D) (putF "whole" (.ref b) []))))) x = some (.ins TT dx (putF "everything" (.int ee) (putF "rows" (.ref D) (putF "whole" (.ref b) [])))) := upd_same
  have eD4 : (upd H3 x (.ins TT dx (putF "everything" (.int ee) (putF "rows" (.ref D) (putF "whole" (.ref b) []))))) D = some (.lst us) := by rw [upd_ne Dx]; exact eD3
  have hus4 := hus3.mono fun _ _ y => y.keeps (SameX.keeps (N := N) (H' := upd H3 x (.ins TT dx (putF "everything" (.int ee) (putF "rows" (.ref D) (putF "whole" (.ref b) []))))) (x := x) (fun b' ob n e => by rw [upd_ne n]; exact e) hx3 rfl)
  generalize upd H3 x (.ins TT dx (putF "everything" (.int ee) (putF "rows" (.ref D) (putF "whole" (.ref b) [])))) = H4 at x4 hx4 eD4 hus4 ⊢
  intro dd ndd
  have xd : x ≠ dd := fun z => by rw [← z, hx4] at ndd; cases ndd
  have Dd : D ≠ dd := fun z => by rw [← z, eD4] at ndd; cases ndd
  have s5 : Same H4 (upd H4 dd (.dK [])) := (Same.refl H4).put ndd
  refine ⟨_, rfl, x, TT, dx, _, rfl, s5 _ _ hx4, T, n4, (by show 3 < 1000; decide), ?_⟩
  have x6 : SameX x H (upd (upd H4 dd (.dK [])) x (.ins TT dx (ttF b D ee dd))) := fun b' ob n e => by rw [upd_ne n]; exact s5 _ _ (x4 b' ob n e)
  have k6 : Keeps N H4 (upd (upd H4 dd (.dK [])) x (.ins TT dx (ttF b D ee dd))) := SameX.keeps (x := x) (fun b' ob n e => by rw [upd_ne n]; exact s5 _ _ e) hx4 rfl
  have ndd0 : H dd = none := by
    cases e : H dd with
    | none => rfl
    | some o => rw [x4 _ _ xd.symm e] at ndd; cases ndd
  refine q _ D dd us x6 ndd0 ⟨by rw [he]; exact upd_same, hB.keeps (kX _ x6), by rw [upd_ne Dx]; exact s5 _ _ eD4, hus4.mono fun _ _ y => y.keeps k6⟩ ⟨[], by rw [upd_ne xd.symm]; exact upd_same, Nat.le_refl _, fun k v h => by cases h⟩
end
end Sc
namespace Sc
open PySem PySem.Spec PyProof.Rows L2
theorem sc_names_in : FnScope ["rule", "inner", "_"] ["rule"] (defScope s_names_in) := ⟨rfl, rfl, rfl, by decide +kernel, rfl, by decide +kernel, by decide +kernel⟩
def Nd.pn (n : Nd) : List Str := (RF.ofNodes [n]).names
section
variable {P : Program} {w : World} {K : PySem.W.Frag} {mg : Str → Option Value} {base : Heap} {C R B : Addr}
def sp_names_in (K : PySem.W.Frag) (C R : Addr) : Sp := fun vs H Q _ => ∃ (N : Addr → Prop) (v : V) (n : Nd), vs = [v] ∧ RefAt K C R N H v n ∧ n.exc.dep ≤ 11 ∧ n.exc.size ≤ 800 ∧ ∀ H' D, Same H H' → H' D = some (.lst (n.pn.map V.str)) → Q (.ref D) H'
theorem ok_names_in {f : Addr} {fd : FuncData} (F : Fun K "names_in" "names_in" s_names_in f fd) (Bl : Blt mg) (kR : RuleX P w K mg base R) (c_nested : Cal P w K mg base CX0 15 "nested" ["rules", "around"] (sp_nested K C R 12)) : FnOk P w K mg base CX0 16 f fd ["rule"] (sp_names_in K C R) := by
  refine F.ok sc_names_in (fun vs H Q E h => by obtain ⟨N, v, n, rfl, _⟩ := h; rfl) (fun cdv A outer s H vs Q E hr h => ?_)
  obtain ⟨N, v, n, rfl, hN, hd, hz, q⟩ := h
  refine ⟨_, (pss_one (ps_ret (pe_lc (own := [("inner", 1), ("_", 2)]) (g := gTup K 2 (gCons (gName 1) (gCons (gName 2) gNil))) (tt := tYes) rfl sc_names_in.nd (pi_list (pe_cal c_nested (hr.mono (by decide)) (pa_cons (pe_tup (pa_cons (pv 0) pa_nil)) (pa_cons pe_int pa_nil)))) (blkOk_by (own := [("inner", 1), ("_", 2)]) (N := ["rule", "inner", "_"]) (sc := defScope s_names_in) (by decide +kernel)) (fun _ _ _ _ _ => (pg_tup (by rfl) (pgs_cons (pg_name (i := 1) sc_names_in.nd rfl (Or.inl rfl)) (pgs_cons (pg_name (i := 2) sc_names_in.nd rfl (Or.inl rfl)) pgs_nil)))) (fun _ _ _ _ _ => pts_nil) (fun _ _ _ _ _ => (pe_.re (pe_cprop kR.name kR.cls (hr.mono (by decide)) (pv 1)) (by first | (dsimp only [Cx.blk]; done) | exact rfl)))))), ?_⟩
  have hdp : (RF.ofNodes [n]).dep ≤ 12 := by show max (n.exc.dep + 1) 0 ≤ 12; omega
  have hsp : (RF.ofNodes [n]).size ≤ 900 := by show n.exc.size + 1 + 0 ≤ 900; omega
  refine ⟨_, rfl, (by show 1 ≤ sizeLine; decide), fun t nt => ?_⟩
  have s1 := (Same.refl H).put (o := .tup [v]) nt
  refine ⟨N, t, 0, [v], RF.ofNodes [n], rfl, sqT_of upd_same, ForAt.of (f := RF.ofNodes [n]) (.cons (hN.keeps s1.keeps) .nil), hdp, hsp, fun H7 D us s7 nD eD hu => ?_⟩
  have hul := hu.len
  rw [RF.pre_len] at hul
  have s17 := s1.trans s7
  refine ⟨D, rfl, ⟨_, sqL_of eD⟩, fun D2 nD2 => lc_it walk_list (fun i H' => Same H7 H' ∧ H' D2 = some (.lst ((((RF.ofNodes [n]).pre 0).take i).map fun q => V.str q.1.nm))) ⟨(Same.refl H7).put nD2, upd_same⟩ (fun _ _ _ h => sqL_of (h.1 _ _ eD)) ?_ ?_⟩
  · rintro i y H8 H9 hi ⟨s8, e⟩ ⟨rfl, hy⟩
    obtain ⟨⟨n2, k⟩, hq, t2, o, rfl, ht, hN2⟩ := hu.get hy
    have ht := s8 _ _ ht
    obtain ⟨dx', c', pe', l', ws', ho', hc', hpe', hle', hfe'⟩ := hN2.keeps (N := N) s8.keeps
    refine ⟨t2, [.ref o, .int (k : Nat)], rfl, sqT_of ht, rfl, _, _, rfl, _, _, rfl, rfl, rfl, yes_ ⟨_, rfl, o, dx', _, rfl, ho', o, dx', _, _, rfl, ho', rfl, _, e, ?_, s8.put nD2, ?_⟩⟩
    · have : i < us.length := hi
      rw [sizeLine_eq, List.length_map, List.length_take]
      omega
    · rw [take_more hq, List.map_append]
      exact upd_same
  rintro H8 ⟨s8, e8⟩
  rw [hu.len, List.take_length] at e8
  refine q H8 D2 (s17.trans s8) ?_
  rw [e8]
  unfold Nd.pn
  rw [← RF.pre_names _ 0, List.map_map]
  rfl
end
end Sc
namespace Sc
open PySem PySem.Spec PyProof.Rows L2
theorem sc_Timetable_bits_within : FnScope ["self", "name", "inside", "index", "_", "rule"] ["self", "name"] (defScope s_Timetable_bits_within) := ⟨rfl, rfl, rfl, by decide +kernel, rfl, by decide +kernel, by decide +kernel⟩
theorem pe_ixN {X : Cx} {k : Nat} {C : Addr} {ps : List Str} {sp : Sp} {a b : Expr} {pos : Pos} {ta tb : TE} (M : MethO X.prog X.w X.K X.mg X.base (L2.CX X.prog X.w) k C "__getitem__" ps sp) (hr : Room (k + 1) X.A) (ha : PE X a ta) (hb : PE X b tb)
    (hsl : ∀ v u, subscripted b true v u = runValue (.builtin "lifetime.subscript" ⟨[v, u], []⟩)) : PE X (.Subscript a b pos) (tOp (rIxO C sp E0) ta tb) := by
  obtain ⟨g, fd, h1, h2, h3, F, hbd⟩ := M.ex
  exact pe_ixO h1 h3 h2 F hr hbd passL ha hb hsl
namespace RF
theorem find_small {nm : Str} : ∀ {f : RF} {b : Nd}, f.find nm = some b → b.exc.dep + 1 ≤ f.dep ∧ b.exc.size + 1 ≤ f.size
  | .nil, b, h => nomatch h
  | .cons n hs fs rl exc rest, b, h => by
    rw [find_cons] at h
    show b.exc.dep + 1 ≤ max (exc.dep + 1) rest.dep ∧ b.exc.size + 1 ≤ exc.size + 1 + rest.size
    split at h
    · cases h
      exact ⟨by show exc.dep + 1 ≤ _; omega, by show exc.size + 1 ≤ _; omega⟩
    · cases e : exc.find nm with
      | some m =>
        rw [e] at h
        cases h
        obtain ⟨a3, a4⟩ := find_small e
        exact ⟨by omega, by omega⟩
      | none =>
        rw [e] at h
        obtain ⟨a3, a4⟩ := find_small (f := rest) h
        exact ⟨by omega, by omega⟩
end RF
/-- the lines of a rule and of all within it -/
def insB (f : RF) (nm : Str) (n : Nd) : Bool := decide (n.nm ∈ f.ins nm)
def insN (f : RF) (L : List Nd) (nm : Str) : Int := bsP (atB (insB f nm) L) L.length
section
variable {P : Program} {w : World} {K : PySem.W.Frag} {mg : Str → Option Value} {base : Heap} {C R B TT CU : Addr}
def sp_bw (K : PySem.W.Frag) (C R B TT : Addr) : Sp := fun vs H Q _ => ∃ (N : Addr → Prop) (x dx b D dd : Addr) (us : List V) (xs : List Str) (f : RF) (rl nm : Str), vs = [.ref x, .str nm] ∧ TtAt K C R B TT N H x dx b D dd us xs f rl ∧ f.names.Nodup ∧ nm ∈ f.names ∧ f.dep ≤ 11 ∧ f.size ≤ 800 ∧ ∀ H', Same H H' → Q (.int (insN f (f.flat xs [] []) nm)) H'
theorem ok_bw {f : Addr} {fd : FuncData} (F : Fun K "bits_within" "Timetable.bits_within" s_Timetable_bits_within f fd) (Bl : Blt mg) (T : Cls K TT) (n1 : NoAttr K TT "whole") (n2 : NoAttr K TT "rows") (kR : RuleX P w K mg base R) (mIt : MethO P w K mg base (L2.CX P w) 3 B "__getitem__" ["self", "name"] (sp_getitem K C R B CU)) (c_names_in : Cal P w K mg base CX0 16 "names_in" ["rule"] (sp_names_in K C R)) : FnOk P w K mg base CX0 17 f fd ["self", "name"] (sp_bw K C R B TT) := by
  refine F.ok sc_Timetable_bits_within (fun vs H Q E h => by obtain ⟨N, x, dx, b, D, dd, us, xs, f, rl, nm, rfl, _⟩ := h; rfl) (fun cdv A outer s H vs Q E hr h => ?_)
  obtain ⟨N, x, dx, b, D, dd, us, xs, f, rl, nm, rfl, hT, hnd, hnm, hd, hz, q⟩ := h
  refine ⟨_, (pss_cons (ps_set (i := 2) sc_Timetable_bits_within.nd rfl (Or.inr rfl) (pe_cal c_names_in (hr.mono (by decide)) (pa_cons (pe_ixN mIt (hr.mono (by decide)) (pe_fld (pv 0) rfl) (pv 1) (fun _ _ => rfl)) pa_nil)))
      (pss_one (ps_ret (pe_callB (cr_sum rfl) (by rfl) Bl.b_sum PyProof.Rows.boot_sum (pa_cons (pe_lc (own := [("index", 3), ("_", 4), ("rule", 5)]) (g := gTup K 2 (gCons (gName 3) (gCons (gTup K 2 (gCons (gName 4) (gCons (gName 5) gNil))) gNil))) rfl sc_Timetable_bits_within.nd (pi_enum (by rfl) Bl.b_enumerate (pa_cons (pe_fld (pv 0) rfl) pa_nil)) (blkOk_by (own := [("index", 3), ("_", 4), ("rule", 5)]) (N := ["self", "name", "inside", "index", "_", "rule"]) (sc := defScope s_Timetable_bits_within) (by decide +kernel)) (fun _ _ _ _ _ => (pg_tup (by rfl) (pgs_cons (pg_name (i := 3) sc_Timetable_bits_within.nd rfl (Or.inl rfl)) (pgs_cons (pg_tup (by rfl) (pgs_cons (pg_name (i := 4) sc_Timetable_bits_within.nd rfl (Or.inl rfl)) (pgs_cons (pg_name (i := 5) sc_Timetable_bits_within.nd rfl (Or.inl rfl)) pgs_nil))) pgs_nil)))) (fun _ _ _ _ _ => (pts_.re (pts_one (pt_cmpR op_in_seq (pe_cprop kR.name kR.cls (hr.mono (by decide)) (pv 5)) (pv 2) rfl)) (by first | (dsimp only [Cx.blk]; done) | exact rfl))) (fun _ _ _ _ _ => (pe_.re (pe_op op_shl pe_int (pv 3)) (by first | (dsimp only [Cx.blk]; done) | exact rfl)))) pa_nil))))), ?_⟩
  obtain ⟨dxb, a, pr, l, ws, us2, hob, _⟩ := id hT.bk
  have hll := RF.flat_len (xs := xs) (ws := []) (bs := []) f
  refine ⟨_, rfl, x, TT, dx, _, .ref b, rfl, hT.o, T, n1, rfl, _, rfl, b, dxb, _, rfl, hob, N, b, xs, f, rl, nm, rfl, hT.bk, by omega, fun n v hn hR => ?_, fun e => ?_⟩
  case refine_2 =>
    obtain ⟨n, hn, _⟩ := RF.find_some hnm
    rw [hn] at e
    cases e
  have hfs := RF.find_small hn
  refine ⟨N, v, n, rfl, hR, by omega, by omega, fun H2 Di s2 eDi => ?_⟩
  have epn : n.pn = f.ins nm := by
    unfold Nd.pn RF.ins
    rw [hn]
    show (RF.cons n.nm n.hs n.fs n.rl n.exc .nil).names = _
    rw [RF.names_ctt]
    show n.nm :: (n.exc.names ++ []) = _
    rw [List.append_nil]
  rw [epn] at eDi
  have hT2 := hT.same s2
  refine ⟨_, rfl, x, TT, dx, _, .ref D, rfl, hT2.o, T, n2, rfl, D, _, rfl, sqL_of hT2.rows, fun D2 nD2 => lc_it walk_enum (fun i H' => Same H2 H' ∧ H' D2 = some (.lst ((bsL (atB (insB f nm) (f.flat xs [] [])) i).map V.int))) ⟨(Same.refl H2).put nD2, upd_same⟩ (fun _ _ _ h => sqL_of (h.1 _ _ hT2.rows)) ?_ ?_⟩
  · rintro i y H3 H4 hi ⟨s, es⟩ ⟨tp, v1, v2, rfl, nt, rfl, h1, h2⟩
    obtain rfl : V.int (i : Nat) = v1 := Option.some.inj h1
    obtain ⟨n, hn, t2, cu, o, m', rfl, ht2, hcu, hN, hnm', hrl'⟩ := hT2.ln.get h2
    have hi' : i < (f.flat xs [] []).length := (List.getElem?_eq_some_iff.mp hn).1
    have s3 : Same H2 (upd H3 tp (.tup [.int (i : Nat), .ref t2])) := s.put' nt
    have e3 : (upd H3 tp (.tup [.int (i : Nat), .ref t2])) D2 = some (.lst ((bsL (atB (insB f nm) (f.flat xs [] [])) i).map V.int)) := by rw [upd_ne (ne_of_none es nt)]; exact es
    refine ⟨tp, [.int (i : Nat), .ref t2], rfl, sqT_new, rfl, _, _, rfl, _, _, rfl, t2, _, rfl, s3.tup ht2, rfl, _, _, rfl, _, _, rfl, rfl, rfl, rfl, ?_⟩
    generalize upd H3 tp (.tup [.int (i : Nat), .ref t2]) = H5 at s3 e3 ⊢
    obtain ⟨dx', c', pe', l', ws', ho', _⟩ := hN.keeps (N := N) s3.keeps
    have hat := atB_of (p := insB f nm) hn
    have hlb := bsL_len (q := atB (insB f nm) (f.flat xs [] [])) (i := i)
    refine ⟨_, rfl, o, dx', _, rfl, ho', o, dx', _, _, rfl, ho', rfl, _, rfl, Di, _, rfl, .inl (sqL_of (s3 _ _ eDi)), rfl, flat_strs _, _, rfl, ?_⟩
    rw [if_neg (by decide), inV_str, hnm']
    show if insB f nm n = true then _ else _
    refine bcase (fun c1 => ?_) (fun c1 => ?_)
    · refine ⟨_, rfl, 1, i, rfl, rfl, ⟨by omega, by omega, by decide⟩, grow (acc := fun i => (bsL (atB (insB f nm) (f.flat xs [] [])) i).map V.int) nD2 s3 e3 ?_ ?_⟩
      · rw [List.length_map]
        exact small1000 (by omega)
      · show List.map V.int _ = _ ++ [V.int (1 * 2 ^ ((i : Nat) : Int).toNat)]
        rw [bsL_more, if_pos (by rw [hat, c1]), List.map_append, Int.one_mul, Int.toNat_natCast]
        rfl
    · refine ⟨s3, ?_⟩
      rw [bsL_more, if_neg (by rw [hat, c1]; exact Bool.false_ne_true), List.append_nil]
      exact e3
  · rintro H3 ⟨s, es⟩
    have hll2 := hT.ln.len
    rw [hll2] at es
    refine ⟨D2, _, rfl, sqL_of es, ?_⟩
    rw [bsL_sum]
    exact q H3 (s2.trans s)
end
end Sc
namespace Sc
open PySem PySem.Spec PyProof.Rows L2
/-- the == of a class -/
structure EqO (P : Program) (w : World) (K : PySem.W.Frag) (mg : Str → Option Value) (base : Heap) (k : Nat) (C : Addr) (sp : Sp) : Prop where
  ex : ∃ (g : Addr) (fd : FuncData), PySem.W.findIn K (.ref C) "__eq__" = some (some (.ref g)) ∧ PySem.W.isFn K (.ref g) = true ∧ FnOk P w K mg base CX0 k g fd ["self", "other"] sp ∧ Binds K fd ["self", "other"] []
  ob : PySem.W.mroIn K C (.type "object") = some true
  ne : PySem.W.findIn K (.ref C) "__ne__" = some (some (.builtin "object.__ne__"))
section
variable {X : Cx} {k : Nat} {C : Addr} {ps : List Str} {sp : Sp}
theorem op_eqM (M : EqO X.prog X.w X.K X.mg X.base k C sp) (hr : Room k X.A) : OpR X (compareOp .Eq) (rEqO X.K C sp E0) := by
  obtain ⟨g, fd, h1, h2, F, hb⟩ := M.ex
  exact op_eqO h1 h2 F hr hb pass0
theorem op_neM (M : EqO X.prog X.w X.K X.mg X.base k C sp) (hr : Room (k + 1) X.A) : OpR X (compareOp .NotEq) (rNeO X.K C sp E0) := by
  obtain ⟨g, fd, h1, h2, F, hb⟩ := M.ex
  exact op_neO M.ob M.ne h1 h2 F hr hb pass0
theorem op_subN {op : Operator} {n : Str} (M : MethO X.prog X.w X.K X.mg X.base (L2.CX X.prog X.w) k C n ps sp) (T : BinT X.K C op) (en : n = PySem.dunder op.info.2) (hr : Room k X.A) : OpR X (binaryOp op) (rBinS C sp E0) := by
  subst en
  obtain ⟨g, fd, h1, h2, h3, F, hbd⟩ := M.ex
  obtain ⟨rc, r1, r2⟩ := T.right
  obtain ⟨fo, f1⟩ := T.t1
  obtain ⟨ro, f2⟩ := T.t2
  exact op_binS T.first h1 h2 r1 r2 f1 f2 T.sub F hr hbd passL
end
/-! ### math.lcm -/
def rLcm : List V → Hp → VK → Prop := fun vs H Q => ∃ a b : Int, vs = [.int a, .int b] ∧ a.natAbs < 2 ^ 64 ∧ b.natAbs < 2 ^ 64 ∧ Q (.int ((Nat.lcm a.natAbs b.natAbs : Nat) : Int)) H
theorem cr_lcm {X : Cx} : CallR X (.builtin "math.lcm") rLcm := by
  intro pins s σ H vs us Q I r h
  obtain ⟨a, b, rfl, ha, hb, q⟩ := h
  obtain ⟨t, u, rfl⟩ := Vals.int2 r
  exact PySem.W.mc_lcm ha hb fun _ => ⟨.int _, H, I.tok _, ⟨_, rfl⟩, q⟩
end Sc
namespace Sc
open PySem PySem.Spec PyProof.Rows L2
/-- a block within a block that uses no name from around -/
theorem blkOk_any {N : List Str} {sc sc' scope : Scope} {own : List (Str × Nat)} (h : BlkOk N sc scope own) (nf : (scope.names.all fun y => match y.2 with | .free => false | _ => true) = true) : BlkOk N sc' scope own :=
  ⟨h.kind, h.uniq, h.ix, fun y hy e => by
    have q := List.all_eq_true.mp nf y hy
    rw [e] at q
    exact Bool.noConfusion q, h.own⟩
/-! ### a list of whatever items against an empty one -/
def rNilE (neg : Bool) : R2 := fun x y H Q => ∃ (a b : Addr) (xs : List V), x = .ref a ∧ y = .ref b ∧ H a = some (.lst xs) ∧ H b = some (.lst []) ∧ Q (.bl (if neg then !xs.isEmpty else xs.isEmpty)) H
section
variable {X : Cx}
theorem op_neE (hu : X.A.units + 64 < cLine) : OpR X (compareOp .NotEq) (rNilE true) := by
  intro pins s σ H x y v u Q I rx ry h
  obtain ⟨a, b, xs, rfl, rfl, ha, hb, q⟩ := h
  cases rx
  cases ry
  obtain ⟨its, r, p1, _⟩ := I.list (.inl (.inl ha))
  obtain ⟨its2, r2, p2, _⟩ := I.list (.inl (.inl hb))
  have h1 := r.length
  have h2 := r2.length
  have z2 : its2 = [] := List.length_eq_zero_iff.mp (by rw [← h2]; rfl)
  subst z2
  cases xs with
  | nil =>
    have z1 : its = [] := List.length_eq_zero_iff.mp (by rw [← h1]; rfl)
    subst z1
    exact EqBoolInt.of_rcne (SeqAt.RcNeAt.lists (e := fun _ => true) p1.isList p2.isList rfl (by omega) (fun j hj _ => absurd hj (Nat.not_lt_zero j))) ⟨.bl _, H, I, rfl, q⟩
  | cons z r0 =>
    exact EqBoolInt.of_rcne (SeqAt.RcNeAt.lists_lengths p1.isList p2.isList (by
      have : its.length ≠ 0 := by rw [← h1, List.length_cons]; omega
      simpa using fun e => this (by rw [e]; rfl)) (by omega)) ⟨.bl _, H, I, rfl, q⟩
theorem op_eqE (hu : X.A.units + 64 < cLine) : OpR X (compareOp .Eq) (rNilE false) := by
  intro pins s σ H x y v u Q I rx ry h
  obtain ⟨a, b, xs, rfl, rfl, ha, hb, q⟩ := h
  cases rx
  cases ry
  obtain ⟨its, r, p1, _⟩ := I.list (.inl (.inl ha))
  obtain ⟨its2, r2, p2, _⟩ := I.list (.inl (.inl hb))
  have h1 := r.length
  have h2 := r2.length
  have z2 : its2 = [] := List.length_eq_zero_iff.mp (by rw [← h2]; rfl)
  subst z2
  cases xs with
  | nil =>
    have z1 : its = [] := List.length_eq_zero_iff.mp (by rw [← h1]; rfl)
    subst z1
    exact EqBoolInt.of_rc (SeqAt.RcAt.lists (e := fun _ => true) p1.isList p2.isList rfl (by omega) (fun j hj _ => absurd hj (Nat.not_lt_zero j))) ⟨.bl _, H, I, rfl, q⟩
  | cons z r0 =>
    exact EqBoolInt.of_rc (SeqAt.RcAt.lists_lengths p1.isList p2.isList (by
      have : its.length ≠ 0 := by rw [← h1, List.length_cons]; omega
      simpa using fun e => this (by rw [e]; rfl)) (by omega)) ⟨.bl _, H, I, rfl, q⟩
end
end Sc
namespace Sc
open PySem PySem.Spec PyProof.Rows L2
theorem tyT {K : PySem.W.Frag} {H : Hp} {a : Addr} {xs : List V} (h : SqT K H a xs) : TyX K H (.ref a) (.type "tuple") := by
  rcases h with (h | ⟨o, h⟩) | ⟨o, its, n, hk, hc, _⟩
  · exact .base (.tup h)
  · exact .fTuple h
  · exact .kTuple hk hc
theorem _root_.L2.TyX.lst {K : PySem.W.Frag} {H : Hp} {a : Addr} {xs : List V} (h : H a = some (.lst xs)) : TyX K H (.ref a) (.type "list") := .base (.lst h)
theorem _root_.L2.TyX.int {K : PySem.W.Frag} {H : Hp} (i : Int) : TyX K H (.int i) (.type "int") := .base (.int i)
theorem _root_.L2.TyX.str {K : PySem.W.Frag} {H : Hp} (x : Str) : TyX K H (.str x) (.type "str") := .base (.str x)
theorem _root_.L2.TyX.tup {K : PySem.W.Frag} {H : Hp} {a : Addr} {xs : List V} (h : SqT K H a xs) : TyX K H (.ref a) (.type "tuple") := tyT h
def rIsTX (K : PySem.W.Frag) (T : String) : List V → Hp → VK → Prop := fun xs H Q => ∃ (x : V) (t : String) (b : Bool), xs = [x, .ty T] ∧ TyX K H x (.type t) ∧ kitB t T = some b ∧ Q (.bl b) H
theorem call_isTX {X : Cx} (T : String) : CallR X (.builtin "isinstance") (rIsTX X.K T) := by
  intro pins s σ H xs us Q I r h
  obtain ⟨x, t, b, ex, ht, hb, q⟩ := h
  exact call_isi pins s σ H xs us Q I r ⟨_, _, _, _, _, ex, .ty _, ht, kit_ty hb, q⟩
end Sc
namespace Sc
open PySem PySem.Spec PyProof.Rows L2
theorem sc_is_day : FnScope ["value"] ["value"] (defScope s_is_day) := ⟨rfl, rfl, rfl, by decide +kernel, rfl, by decide +kernel, by decide +kernel⟩
theorem sc_check_day : FnScope ["value"] ["value"] (defScope s_check_day) := ⟨rfl, rfl, rfl, by decide +kernel, rfl, by decide +kernel, by decide +kernel⟩
theorem sc_is_span : FnScope ["value", "period", "first", "count", "number"] ["value"] (defScope s_is_span) := ⟨rfl, rfl, rfl, by decide +kernel, rfl, by decide +kernel, by decide +kernel⟩
theorem sc_in_span : FnScope ["span", "day", "period", "first", "count"] ["span", "day"] (defScope s_in_span) := ⟨rfl, rfl, rfl, by decide +kernel, rfl, by decide +kernel, by decide +kernel⟩
theorem sc_check_spans : FnScope ["book", "spans", "name", "span"] ["book", "spans"] (defScope s_check_spans) := ⟨rfl, rfl, rfl, by decide +kernel, rfl, by decide +kernel, by decide +kernel⟩
abbrev SpV (s : Spn) : List V := [.int (s.p : Nat), .int (s.f : Nat), .int (s.c : Nat)]
/-- spans in a dict -/
def SpKv (K : PySem.W.Frag) (H : Hp) (kv : Key × V) (q : Str × Spn) : Prop := kv.1 = .inr q.1 ∧ ∃ t : Addr, kv.2 = .ref t ∧ SqT K H t (SpV q.2)
theorem SpKv.same {K : PySem.W.Frag} {H H' : Hp} {kv : Key × V} {q : Str × Spn} (h : SpKv K H kv q) {N : Addr → Prop} (k : Keeps N H H') : SpKv K H' kv q := by
  obtain ⟨e, t, e2, h⟩ := h
  exact ⟨e, t, e2, k.tup h⟩
/-- what was locked is let go -/
theorem unlock_same {H H2 : Hp} {d : Addr} {od : Obj} {u : HO} (hd : H d = some u) (s : Same (upd H d (.frz od u)) H2) : Same H (upd H2 d u) := fun b o e => by
  by_cases z : b = d
  · subst z
    rw [hd] at e
    cases e
    exact upd_same
  · rw [upd_ne z]
    exact s b o (by rw [upd_ne z]; exact e)
theorem rep_snoc {α : Type} (x : α) (i : Nat) : List.replicate (i + 1) x = List.replicate i x ++ [x] := List.replicate_succ'
section
variable {P : Program} {w : World} {K : PySem.W.Frag} {mg : Str → Option Value} {base : Heap} {C R B : Addr}
def sp_is_day : Sp := fun vs H Q _ => ∃ i : Int, vs = [.int i] ∧ 0 ≤ i ∧ i ≤ lastDay ∧ Q (.bl true) H
theorem ok_is_day {f : Addr} {fd : FuncData} {t1 : Tok} (F : Fun K "is_day" "is_day" s_is_day f fd) (m_LAST_DAY : mg "LAST_DAY" = some (.int lastDay t1)) (c_is_integer : Cal P w K mg base CX0 1 "is_integer" ["value"] (sp_is_integer K)) : FnOk P w K mg base CX0 2 f fd ["value"] sp_is_day := by
  refine F.ok sc_is_day (fun vs H Q E h => by obtain ⟨i, rfl, _⟩ := h; rfl) (fun cdv A outer s H vs Q E hr h => ?_)
  obtain ⟨i, rfl, h0, h1, q⟩ := h
  refine ⟨_, (pss_one (ps_ret (pe_and (pe_cal c_is_integer (hr.mono (by decide)) (pa_cons (pv 0) pa_nil)) (pe_one (pe_chain op_le op_le pe_int (pv 0) (pe_glob (v := .int lastDay) rfl m_LAST_DAY ⟨_, rfl⟩)))))), ?_⟩
  refine ⟨_, rfl, .int i, "int", true, false, rfl, .int i, by decide +kernel, by decide +kernel, _, rfl, iteT ?_⟩
  refine ⟨_, rfl, _, _, rfl, rfl, _, rfl, ?_⟩
  rw [decide_eq_true h0]
  refine iteT ⟨_, _, rfl, rfl, ?_⟩
  show Q (.bl (decide (i ≤ lastDay))) H
  rw [decide_eq_true h1]
  exact q
def sp_check_day : Sp := fun vs H Q _ => ∃ i : Int, vs = [.int i] ∧ 0 ≤ i ∧ i ≤ lastDay ∧ Q .non H
theorem ok_check_day {f : Addr} {fd : FuncData} (F : Fun K "check_day" "check_day" s_check_day f fd) (c_is_day : Cal P w K mg base CX0 2 "is_day" ["value"] sp_is_day) : FnOk P w K mg base CX0 3 f fd ["value"] sp_check_day := by
  refine F.ok sc_check_day (fun vs H Q E h => by obtain ⟨i, rfl, _⟩ := h; rfl) (fun cdv A outer s H vs Q E hr h => ?_)
  obtain ⟨i, rfl, h0, h1, q⟩ := h
  refine ⟨_, (pss_one (ps_if (pt_not (pt_val (pe_cal c_is_day (hr.mono (by decide)) (pa_cons (pv 0) pa_nil)))) pss_never pss_nil)), ?_⟩
  exact ⟨_, rfl, i, rfl, h0, h1, _, rfl, iteF q⟩
def sp_in_span (K : PySem.W.Frag) : Sp := fun vs H Q _ => ∃ (t : Addr) (s : Spn) (day : Int), vs = [.ref t, .int day] ∧ SqT K H t (SpV s) ∧ 1 ≤ s.p ∧ Q (.bl (inS s day)) H
theorem ok_in_span {f : Addr} {fd : FuncData} (F : Fun K "in_span" "in_span" s_in_span f fd) : FnOk P w K mg base CX0 1 f fd ["span", "day"] (sp_in_span K) := by
  refine F.ok sc_in_span (fun vs H Q E h => by obtain ⟨t, s, day, rfl, _⟩ := h; rfl) (fun cdv A outer s H vs Q E hr h => ?_)
  obtain ⟨t, s, day, rfl, hS, hp, q⟩ := h
  refine ⟨_, (pss_cons (ps_asg (pv 0) (pg_tup (by rfl) (pgs_cons (pg_name (i := 2) sc_in_span.nd rfl (Or.inl rfl)) (pgs_cons (pg_name (i := 3) sc_in_span.nd rfl (Or.inl rfl)) (pgs_cons (pg_name (i := 4) sc_in_span.nd rfl (Or.inl rfl)) pgs_nil)))))
      (pss_one (ps_ret (pe_cmpR op_lt (pe_op op_mod (pe_op op_sub (pv 1) (pv 3)) (pv 2)) (pv 4) (nomark _))))), ?_⟩
  refine ⟨_, rfl, t, _, rfl, hS, rfl, _, _, rfl, _, _, rfl, _, _, rfl, rfl, ?_⟩
  refine ⟨_, rfl, _, rfl, _, _, rfl, rfl, _, rfl, _, _, rfl, rfl, by omega, _, rfl, _, _, rfl, rfl, ?_⟩
  exact q
def sp_is_span (K : PySem.W.Frag) : Sp := fun vs H Q _ => ∃ (t : Addr) (s : Spn), vs = [.ref t] ∧ SqT K H t (SpV s) ∧ SpnOk s ∧ ∀ H', Same H H' → Q (.bl true) H'
theorem ok_is_span {f : Addr} {fd : FuncData} {t1 : Tok} (F : Fun K "is_span" "is_span" s_is_span f fd) (Bl : Blt mg) (m_LONGEST_SPAN : mg "LONGEST_SPAN" = some (.int 100 t1)) (c_is_integer : Cal P w K mg base CX0 1 "is_integer" ["value"] (sp_is_integer K)) : FnOk P w K mg base CX0 2 f fd ["value"] (sp_is_span K) := by
  refine F.ok sc_is_span (fun vs H Q E h => by obtain ⟨t, s, rfl, _⟩ := h; rfl) (fun cdv A outer s H vs Q E hr h => ?_)
  obtain ⟨t, s, rfl, hS, hk, q⟩ := h
  refine ⟨_, (pss_cons (ps_if (PW.pt (pw_or (pt_not (pt_val (pe_callB (call_isTX "tuple") (by rfl) Bl.b_isinstance PyProof.Rows.boot_isinstance (pa_cons (pv 0) (pa_cons (pe_bltn (v := .ty "tuple") (by rfl) Bl.b_tuple PyProof.Rows.boot_tuple rfl) pa_nil))))) (pw_or (pt_cmpR op_ne (pe_callB call_len_seq (by rfl) Bl.b_len PySem.boot_len (pa_cons (pv 0) pa_nil)) pe_int (nomark _)) (pw_or1 (pt_not (pt_val (pe_callB (cr_all rfl) (by rfl) Bl.b_all PyProof.Rows.boot_all (pa_cons (pe_lc (own := [("number", 4)]) (g := gName 4) (tt := tYes) rfl sc_is_span.nd (pi_tup (pv 0)) (blkOk_by (own := [("number", 4)]) (N := ["value", "period", "first", "count", "number"]) (sc := defScope s_is_span) (by decide +kernel)) (fun _ _ _ _ _ => (pg_name (i := 4) sc_is_span.nd rfl (Or.inl rfl))) (fun _ _ _ _ _ => pts_nil) (fun _ _ _ _ _ => (pe_.re (pe_cal c_is_integer (hr.mono (by decide)) (pa_cons (pv 4) pa_nil)) (by first | (dsimp only [Cx.blk]; done) | exact rfl)))) pa_nil)))))))) (pss_one (ps_ret pe_bl)) pss_nil)
      (pss_cons (ps_asg (pv 0) (pg_tup (by rfl) (pgs_cons (pg_name (i := 1) sc_is_span.nd rfl (Or.inl rfl)) (pgs_cons (pg_name (i := 2) sc_is_span.nd rfl (Or.inl rfl)) (pgs_cons (pg_name (i := 3) sc_is_span.nd rfl (Or.inl rfl)) pgs_nil)))))
      (pss_one (ps_ret (pe_and (pe_chain op_le op_le pe_int (pv 1) (pe_glob (v := .int 100) rfl m_LONGEST_SPAN ⟨_, rfl⟩)) (pe_and (pe_chain op_le op_lt pe_int (pv 2) (pv 1)) (pe_one (pe_chain op_le op_le pe_int (pv 3) (pv 1))))))))), ?_⟩
  refine ⟨_, rfl, _, "tuple", true, rfl, .tup hS, by decide +kernel, true, rfl, iteF ?_⟩
  refine ⟨_, rfl, t, _, rfl, .inr hS, rfl, _, rfl, iteF ?_⟩
  refine ⟨_, rfl, t, rfl, ⟨_, hS⟩, fun D nD => lc_it walk_tup (fun i H' => Same H H' ∧ H' D = some (.lst (List.replicate i (V.bl true)))) ⟨(Same.refl H).put nD, upd_same⟩ (fun _ _ _ h => h.1.tup hS) ?_ ?_⟩
  · rintro i y H2 H3 hi ⟨s2, e⟩ ⟨rfl, hy⟩
    have hi : i < 3 := hi
    obtain ⟨z, rfl⟩ : ∃ z : Int, y = .int z := by
      match i, hi, hy with
      | 0, _, hy => exact ⟨_, (Option.some.inj hy).symm⟩
      | 1, _, hy => exact ⟨_, (Option.some.inj hy).symm⟩
      | 2, _, hy => exact ⟨_, (Option.some.inj hy).symm⟩
    refine ⟨rfl, yes_ ⟨_, rfl, .int z, "int", true, false, rfl, .int z, by decide +kernel, by decide +kernel, ?_⟩⟩
    exact grow (acc := fun i => List.replicate i (V.bl true)) nD s2 e (by rw [List.length_replicate]; exact small1000 (by omega)) (rep_snoc _ i)
  rintro H2 ⟨s2, e⟩
  have e : H2 D = some (.lst ([true, true, true].map V.bl)) := e
  have hS2 := s2.tup hS
  have p1 := hk.p1
  have p2 := hk.p2
  have f1 := hk.f1
  have c1 := hk.c1
  have c2 := hk.c2
  refine ⟨D, [true, true, true], rfl, sqL_of e, _, rfl, iteF ?_⟩
  refine ⟨_, rfl, t, _, rfl, hS2, rfl, _, _, rfl, _, _, rfl, _, _, rfl, rfl, ?_⟩
  refine ⟨_, rfl, _, _, rfl, rfl, _, rfl, ?_⟩
  rw [decide_eq_true (by omega)]
  refine iteT ⟨_, _, rfl, rfl, _, rfl, ?_⟩
  rw [decide_eq_true (by omega)]
  refine iteT ⟨_, rfl, _, _, rfl, rfl, _, rfl, ?_⟩
  rw [decide_eq_true (by omega)]
  refine iteT ⟨_, rfl, _, _, rfl, rfl, _, rfl, ?_⟩
  rw [decide_eq_true (by omega)]
  refine iteT ⟨_, rfl, _, _, rfl, rfl, _, rfl, ?_⟩
  rw [decide_eq_true (by omega)]
  refine iteT ⟨_, rfl, _, _, rfl, rfl, ?_⟩
  show Q (V.bl (decide (((s.c : Nat) : Int) ≤ ((s.p : Nat) : Int)))) H2
  rw [decide_eq_true (by omega)]
  exact q H2 s2
def sp_check_spans (K : PySem.W.Frag) (C R B : Addr) : Sp := fun vs H Q _ => ∃ (N : Addr → Prop) (b d : Addr) (xs : List Str) (f : RF) (rl : Str) (kvs : List (Key × V)) (sp : List (Str × Spn)), vs = [.ref b, .ref d] ∧ BookAt K C R B N H b xs f rl ∧ f.size ≤ 100 ∧ H d = some (.dK kvs) ∧ All2 (SpKv K H) kvs sp ∧ (∀ q ∈ sp, SpnOk q.2 ∧ q.1 ∈ f.names) ∧ sp.length ≤ 100 ∧ ∀ H', Same H H' → Q .non H'
theorem ok_check_spans {f : Addr} {fd : FuncData} (F : Fun K "check_spans" "check_spans" s_check_spans f fd) (Bl : Blt mg) (mCon : MethO P w K mg base CX0 3 B "__contains__" ["self", "name"] (sp_contains K C R B)) (c_is_span : Cal P w K mg base CX0 2 "is_span" ["value"] (sp_is_span K)) : FnOk P w K mg base CX0 4 f fd ["book", "spans"] (sp_check_spans K C R B) := by
  refine F.ok sc_check_spans (fun vs H Q E h => by obtain ⟨N, b, d, xs, f, rl, kvs, sp, rfl, _⟩ := h; rfl) (fun cdv A outer s H vs Q E hr h => ?_)
  obtain ⟨N, b, d, xs, f, rl, kvs, sp, rfl, hB, hz, hd, hsp, hok, hl, q⟩ := h
  refine ⟨_, (pss_cons (ps_if (pt_val (pe_callB (cr_any rfl) (by rfl) Bl.b_any (by decide +kernel) (pa_cons (pe_lock (pe_lc (own := [("name", 2)]) (g := gName 2) (tt := tYes) rfl sc_check_spans.nd (pi_keys (pv 1)) (blkOk_by (own := [("name", 2)]) (N := ["book", "spans", "name", "span"]) (sc := defScope s_check_spans) (by decide +kernel)) (fun _ _ _ _ _ => (pg_name (i := 2) sc_check_spans.nd rfl (Or.inl rfl))) (fun _ _ _ _ _ => pts_nil) (fun _ _ _ _ _ => (pe_.re (pe_cmpR (op_ninM mCon (hr.mono (by decide))) (pv 2) (pv 0) rfl) (by first | (dsimp only [Cx.blk]; done) | exact rfl))))) pa_nil))) pss_never pss_nil)
      (pss_one (ps_lock (ps_for PassesOwn.never rfl (pi_items (pv 1)) (pg_tup (by rfl) (pgs_cons (pg_name (i := 2) sc_check_spans.nd rfl (Or.inl rfl)) (pgs_cons (pg_name (i := 3) sc_check_spans.nd rfl (Or.inl rfl)) pgs_nil))) (pss_one (ps_if (pt_not (pt_val (pe_cal c_is_span (hr.mono (by decide)) (pa_cons (pv 3) pa_nil)))) pss_never pss_nil)))))), ?_⟩
  have hlen := hsp.len
  have sL : ∀ od : Obj, Keeps N H (upd H d (.frz od (.dK kvs))) := fun od => keeps_dk hd rfl
  refine ⟨d, _, hd, trivial, fun od => ⟨_, rfl, d, od, rfl, .inl ⟨kvs, upd_same, fun D nD => ?_⟩⟩⟩
  have hBL := hB.keeps (sL od)
  generalize hHL : upd H d (.frz od (.dK kvs)) = HL at nD hBL ⊢
  have eL : HL d = some (.frz od (.dK kvs)) := by rw [← hHL]; exact upd_same
  refine lc_it walk_keys (fun i H' => Same HL H' ∧ H' D = some (.lst (List.replicate i (V.bl false)))) ⟨(Same.refl HL).put nD, upd_same⟩ (fun _ _ _ h => h.1 _ _ eL) ?_ ?_
  · rintro i y H2 H3 hi ⟨s2, e⟩ ⟨rfl, k, v, hkv, rfl⟩
    obtain ⟨q0, hq0, hk, _⟩ := hsp.get hkv
    have hk : k = .inr q0.1 := hk
    subst hk
    have hB2 := hBL.keeps (N := N) s2.keeps
    obtain ⟨dx, _, _, _, _, _, hob, _⟩ := id hB2
    have hin := (hok q0 (List.mem_of_getElem? hq0)).2
    refine ⟨rfl, yes_ ⟨_, rfl, _, rfl, b, dx, _, rfl, hob, N, b, xs, f, rl, q0.1, rfl, hB2, by omega, fun H3 s3 => ⟨_, rfl, ?_⟩⟩⟩
    rw [if_pos rfl, decide_eq_true hin]
    exact grow (acc := fun i => List.replicate i (V.bl false)) nD (s2.trans s3) (s3 _ _ e) (by rw [List.length_replicate]; exact small1000 (by have := (List.getElem?_eq_some_iff.mp hkv).1; omega)) (rep_snoc _ i)
  rintro H2 ⟨s2, e⟩
  refine ⟨s2 _ _ eL, ?_⟩
  have hDd : D ≠ d := fun z => by rw [z, eL] at nD; cases nD
  have s02 : Same H (upd H2 d (.dK kvs)) := unlock_same (od := od) hd (by rw [hHL]; exact s2)
  have e2 : (upd H2 d (.dK kvs)) D = some (.lst ((List.replicate kvs.length false).map V.bl)) := by rw [upd_ne hDd, List.map_replicate]; exact e
  generalize upd H2 d (.dK kvs) = H3 at s02 e2 ⊢
  have hany : (List.replicate kvs.length false).any id = false := by
    rw [List.any_eq_false]
    intro x hx
    rw [List.eq_of_mem_replicate hx]
    decide
  refine ⟨D, List.replicate kvs.length false, rfl, sqL_of e2, _, rfl, ?_⟩
  rw [hany]
  refine iteF ?_
  have hd3 := s02 _ _ hd
  refine ⟨d, _, hd3, trivial, fun od => ?_⟩
  have s3L : Keeps N H3 (upd H3 d (.frz od (.dK kvs))) := keeps_dk hd3 rfl
  have hsp3 := hsp.mono fun _ _ x => (x.same (N := N) s02.keeps).same s3L
  generalize hHL3 : upd H3 d (.frz od (.dK kvs)) = HL3 at hsp3 ⊢
  have eL3 : HL3 d = some (.frz od (.dK kvs)) := by rw [← hHL3]; exact upd_same
  refine ⟨_, rfl, d, od, kvs, rfl, eL3, for_it walk_items (fun i σ H' => ∃ y2 y3 : Option V, σ = [some (.ref b), some (.ref d), y2, y3] ∧ Same HL3 H') ⟨none, none, rfl, Same.refl _⟩ (fun _ _ _ _ ⟨_, _, _, s⟩ => s _ _ eL3) ?_ ?_⟩
  · rintro i y σ H4 H5 hi ⟨y2, y3, rfl, s4⟩ ⟨T, v1, v2, rfl, nT, rfl, h1, h2⟩
    have h1 : kvs[i]?.map (fun kv => kV kv.1) = some v1 := h1
    have h2 : kvs[i]?.map Prod.snd = some v2 := h2
    cases hkv : kvs[i]? with
    | none => rw [hkv] at h1; cases h1
    | some kv =>
      rw [hkv] at h1 h2
      obtain ⟨q0, hq0, hk, t, hv, ht⟩ := hsp3.get hkv
      obtain rfl : kV kv.1 = v1 := Option.some.inj h1
      obtain rfl : kv.2 = v2 := Option.some.inj h2
      have s5 := (Same.refl H4).put (o := .tup [kV kv.1, kv.2]) nT
      have hok0 := (hok q0 (List.mem_of_getElem? hq0)).1
      refine ⟨T, _, rfl, sqT_of upd_same, rfl, _, _, rfl, _, _, rfl, rfl, ?_⟩
      refine ⟨_, rfl, t, q0.2, (by rw [hv]; rfl), (s4.trans s5).tup ht, hok0, fun H6 s6 => ?_⟩
      exact ⟨_, rfl, iteF ⟨_, _, rfl, (s4.trans s5).trans s6⟩⟩
  · rintro σ H4 ⟨y2, y3, rfl, s4⟩
    refine ⟨s4 _ _ eL3, ?_⟩
    exact q _ (s02.trans (unlock_same (od := od) hd3 (by rw [hHL3]; exact s4)))
end
end Sc
namespace Sc
open PySem PySem.Spec PyProof.Rows L2
theorem sc_Seasons___init__ : FnScope ["self", "book", "spans", "period", "_", "name"] ["self", "book", "spans"] (defScope s_Seasons___init__) := ⟨rfl, rfl, rfl, by decide +kernel, rfl, by decide +kernel, by decide +kernel⟩
theorem sc_Seasons_period : FnScope ["self"] ["self"] (defScope s_Seasons_period) := ⟨rfl, rfl, rfl, by decide +kernel, rfl, by decide +kernel, by decide +kernel⟩
theorem sc_Seasons___call__ : FnScope ["self", "day", "book", "name", "span"] ["self", "day"] (defScope s_Seasons___call__) := ⟨rfl, rfl, rfl, by decide +kernel, rfl, by decide +kernel, by decide +kernel⟩
theorem dc_it {J : It} {n : Nat} {G : Hp → Prop} {Y : Nat → Hp → V → Hp → Prop} (w : Walk J n G Y) {g : TG} {tt : TT} {tk tv : TE} {vs : List Nat} {σ : L2.St} {H1 : Hp} {D : Addr} {Qd : Hp → Prop} (Pv : Nat → Hp → Prop) (h0 : Pv 0 (upd H1 D (.dK []))) (hG : ∀ i H, i ≤ n → Pv i H → G H)
    (hs : ∀ i x H H', i < n → Pv i H → Y i H x H' → g x (wipe σ vs) H' fun σ2 H2 => wipe σ2 vs = wipe σ vs ∧ tt σ2 H2 fun b H3 =>
      if b = true then tk σ2 H3 fun y H4 => tv σ2 H4 fun z H5 => ∃ (kvs : List (Key × V)) (k : Key), y = kV k ∧ H5 D = some (.dK kvs) ∧ kvs.length < sizeLine ∧ Pv (i + 1) (upd H5 D (.dK (putK kvs k z))) else Pv (i + 1) H3) (hd : ∀ H, Pv n H → Qd H) :
    ∃ W : Nat → Nat → Hp → Prop, (∃ m, W 0 m (upd H1 D (.dK []))) ∧ ∀ i m H, W i m H →
      (J.stop i H ∧ Qd H) ∨ (J.go i H ∧ ∃ Nx : Hp → Prop, (∀ H', Nx H' → ∃ m', m' < m ∧ W (i + 1) m' H') ∧ ∀ x H', J.yld i H x H' → g x (wipe σ vs) H' fun σ2 H2 => wipe σ2 vs = wipe σ vs ∧ tt σ2 H2 fun b H3 =>
        if b = true then tk σ2 H3 fun y H4 => tv σ2 H4 fun z H5 => ∃ (kvs : List (Key × V)) (k : Key), y = kV k ∧ H5 D = some (.dK kvs) ∧ kvs.length < sizeLine ∧ Nx (upd H5 D (.dK (putK kvs k z))) else Nx H3) := by
  refine ⟨fun i m H => m = n - i ∧ i ≤ n ∧ Pv i H, ⟨n, by simp, Nat.zero_le _, h0⟩, ?_⟩
  rintro i m H ⟨rfl, hi, p⟩
  have q := hG i H hi p
  by_cases hlt : i < n
  · exact .inr ⟨w.goes i H hlt q, Pv (i + 1), fun H' p' => ⟨n - (i + 1), by omega, rfl, hlt, p'⟩, fun x H' y => hs i x H H' hlt p (w.yields i H x H' hlt q y)⟩
  · have e : i = n := by omega
    subst e
    exact .inl ⟨w.stops H q, hd H p⟩
theorem valV_at : ∀ {kvs : List (Key × V)} {i : Nat} {k : Key} {v : V}, (kvs.map fun kv => kv.1).Nodup → kvs[i]? = some (k, v) → valV kvs k = some v
  | [], i, k, v, _, h => by cases h
  | kv :: r, 0, k, v, _, h => by
    obtain rfl : kv = (k, v) := Option.some.inj h
    unfold valV
    rw [List.find?_cons, decide_eq_true rfl]
    rfl
  | kv :: r, i + 1, k, v, hn, h => by
    rw [List.getElem?_cons_succ] at h
    rw [List.map_cons, List.nodup_cons] at hn
    have hne : kv.1 ≠ k := fun z => hn.1 (by rw [z]; exact List.mem_map.mpr ⟨(k, v), List.mem_of_getElem? h, rfl⟩)
    have ih := valV_at hn.2 h
    unfold valV at ih ⊢
    rw [List.find?_cons, decide_eq_false hne]
    exact ih
theorem valV_take {kvs : List (Key × V)} {i : Nat} {k : Key} {v : V} (hn : (kvs.map fun kv => kv.1).Nodup) (h : kvs[i]? = some (k, v)) : valV (kvs.take i) k = none := by
  unfold valV
  rw [Option.map_eq_none_iff, List.find?_eq_none]
  intro kv hkv hd
  have hd : kv.1 = k := of_decide_eq_true hd
  obtain ⟨j, hj⟩ := List.mem_iff_getElem?.mp hkv
  have hjl := (List.getElem?_eq_some_iff.mp hj).1
  rw [List.length_take] at hjl
  rw [List.getElem?_take_of_lt (by omega)] at hj
  have e1 : (kvs.map fun kv => kv.1)[j]? = some k := by rw [List.getElem?_map, hj, ← hd]; rfl
  have e2 : (kvs.map fun kv => kv.1)[i]? = some k := by rw [List.getElem?_map, h]; rfl
  have := (List.getElem?_inj (List.getElem?_eq_some_iff.mp e1).1 hn).mp (e1.trans e2.symm)
  omega
theorem keys_nd {K : PySem.W.Frag} {H : Hp} {kvs : List (Key × V)} {sp : List (Str × Spn)} (h : All2 (SpKv K H) kvs sp) (hn : (sp.map fun q => q.1).Nodup) : (kvs.map fun kv => kv.1).Nodup := by
  have e : (kvs.map fun kv => kv.1) = (sp.map fun q => q.1).map Sum.inr := by
    clear hn
    induction h with
    | nil => rfl
    | cons h _ ih => rw [List.map_cons, List.map_cons, List.map_cons, ih, h.1]
  rw [e]
  exact List.Pairwise.map _ (fun a b h e => h (Sum.inr.inj e)) hn
/-- the fields of seasons -/
def seaF (b d : Addr) (p : Nat) : List (Str × V) := putF "_period" (.int (p : Nat)) (putF "_spans" (.ref d) (putF "_book" (.ref b) []))
section
variable {P : Program} {w : World} {K : PySem.W.Frag} {mg : Str → Option Value} {base : Heap} {C R B CB CU SE : Addr}
/-- seasons of a book -/
def SeaAt (K : PySem.W.Frag) (C R B SE : Addr) (N : Addr → Prop) (H : Hp) (x : Addr) (xs : List Str) (f : RF) (rl : Str) (sp : List (Str × Spn)) : Prop := ∃ (dx b d : Addr) (kvs : List (Key × V)), H x = some (.ins SE dx (seaF b d (perN sp))) ∧ BookAt K C R B N H b xs f rl ∧ H d = some (.dK kvs) ∧ All2 (SpKv K H) kvs sp
theorem SeaAt.same {N : Addr → Prop} {H H' : Hp} {x : Addr} {xs : List Str} {f : RF} {rl : Str} {sp : List (Str × Spn)} (h : SeaAt K C R B SE N H x xs f rl sp) (s : Same H H') : SeaAt K C R B SE N H' x xs f rl sp := by
  obtain ⟨dx, b, d, kvs, h1, h2, h3, h4⟩ := h
  exact ⟨dx, b, d, kvs, s _ _ h1, h2.keeps s.keeps, s _ _ h3, h4.mono fun _ _ x => x.same (N := N) s.keeps⟩
def sp_seaInit (K : PySem.W.Frag) (C R B SE : Addr) : Sp := fun vs H Q _ => ∃ (N : Addr → Prop) (o dx b d : Addr) (xs : List Str) (f : RF) (rl : Str) (kvs : List (Key × V)) (sp : List (Str × Spn)), vs = [.ref o, .ref b, .ref d] ∧ H o = some (.ins SE dx []) ∧ BookAt K C R B N H b xs f rl ∧ f.size ≤ 100 ∧ H d = some (.dK kvs) ∧ All2 (SpKv K H) kvs sp ∧ (∀ q ∈ sp, SpnOk q.2 ∧ q.1 ∈ f.names) ∧ (sp.map fun q => q.1).Nodup ∧ sp.length ≤ 100 ∧ ∀ H', SeaAt K C R B SE N H' o xs f rl sp → SameX o H H' → Q .non H'
theorem ok_seaInit {f : Addr} {fd : FuncData} (F : Fun K "__init__" "Seasons.__init__" s_Seasons___init__ f fd) (Bl : Blt mg) (T : Cls K SE) (n1 : NoAttr K SE "_book") (n2 : NoAttr K SE "_spans") (n3 : NoAttr K SE "_period") (m_lcm : mg "lcm" = some (.builtin "math.lcm")) (c_check_spans : Cal P w K mg base CX0 4 "check_spans" ["book", "spans"] (sp_check_spans K C R B)) : FnOk P w K mg base CX0 5 f fd ["self", "book", "spans"] (sp_seaInit K C R B SE) := by
  refine F.ok sc_Seasons___init__ (fun vs H Q E h => by obtain ⟨N, o, dx, b, d, xs, f, rl, kvs, sp, rfl, _⟩ := h; rfl) (fun cdv A outer s H vs Q E hr h => ?_)
  obtain ⟨N, o, dx, b, d, xs, f, rl, kvs, sp, rfl, ho, hB, hz, hd, hsp, hok, hnd, hl, q⟩ := h
  refine ⟨_, (pss_cons (ps_expr (pe_cal c_check_spans (hr.mono (by decide)) (pa_cons (pv 1) (pa_cons (pv 2) pa_nil))))
      (pss_cons (ps_fld (pv 0) (pv 1) rfl)
      (pss_cons (ps_fld (pv 0) (pe_lock (pe_dc (own := [("name", 5)]) (g := gName 5) (tt := tYes) rfl sc_Seasons___init__.nd (pi_keys (pv 2)) (blkOk_by (own := [("name", 5)]) (N := ["self", "book", "spans", "period", "_", "name"]) (sc := defScope s_Seasons___init__) (by decide +kernel)) (fun _ _ _ _ _ => (pg_name (i := 5) sc_Seasons___init__.nd rfl (Or.inl rfl))) (fun _ _ _ _ _ => pts_nil) (fun _ _ _ _ _ => (pe_.re (pv 5) (by first | (dsimp only [Cx.blk]; done) | exact rfl))) (fun _ _ _ _ _ => (pe_.re (pe_dget (Nat.lt_of_le_of_lt (Nat.add_le_add_left (by decide) _) hr.units) (pv 2) (pv 5) (fun _ _ => rfl)) (by first | (dsimp only [Cx.blk]; done) | exact rfl))))) rfl)
      (pss_cons (ps_fld (pv 0) pe_int rfl)
      (pss_one (ps_lock (ps_for PassesOwn.never rfl (pi_values (pv 2)) (pg_tup (by rfl) (pgs_cons (pg_name (i := 3) sc_Seasons___init__.nd rfl (Or.inl rfl)) (pgs_cons (pg_name (i := 4) sc_Seasons___init__.nd rfl (Or.inl rfl)) (pgs_cons (pg_name (i := 4) sc_Seasons___init__.nd rfl (Or.inl rfl)) pgs_nil)))) (pss_one (ps_fld (pv 0) (pe_callBfun cr_lcm rfl m_lcm (pa_cons (pe_fld (pv 0) rfl) (pa_cons (pv 3) pa_nil))) rfl))))))))), ?_⟩
  have hlen := hsp.len
  have hknd := keys_nd hsp hnd
  refine ⟨_, rfl, _, rfl, N, b, d, xs, f, rl, kvs, sp, rfl, hB, hz, hd, hsp, hok, hl, fun H1 s1 => ?_⟩
  have hdo : d ≠ o := fun z => by rw [z, ho] at hd; cases hd
  have bo : b ≠ o := fun z => by
    obtain ⟨dx', _, _, _, _, _, hb, _⟩ := id hB
    rw [z, ho] at hb
    injection hb with hb
    injection hb with _ _ hb
    cases hb
  refine ⟨_, rfl, _, rfl, o, SE, dx, [], rfl, s1 _ _ ho, T, n1, (by show 0 < 1000; decide), ?_⟩
  have x1 : SameX o H (upd H1 o (.ins SE dx (putF "_book" (.ref b) []))) := fun b' ob n e => by rw [upd_ne n]; exact s1 _ _ e
  have ho1 : (upd H1 o (.ins SE dx (putF "_book" (.ref b) []))) o = some (.ins SE dx (putF "_book" (.ref b) [])) := upd_same
  generalize upd H1 o (.ins SE dx (putF "_book" (.ref b) [])) = H2 at x1 ho1 ⊢
  have hd2 := x1 _ _ hdo hd
  have kX : ∀ H', SameX o H H' → Keeps N H H' := fun H' s => SameX.keeps s ho rfl
  refine ⟨d, _, hd2, trivial, fun od => ⟨_, rfl, d, od, rfl, .inl ⟨kvs, upd_same, fun D nD => ?_⟩⟩⟩
  generalize hHL : upd H2 d (.frz od (.dK kvs)) = HL at nD ⊢
  have eL : HL d = some (.frz od (.dK kvs)) := by rw [← hHL]; exact upd_same
  have hDd : D ≠ d := fun z => by rw [z, eL] at nD; cases nD
  refine dc_it walk_keys (fun i H' => Same HL H' ∧ H' D = some (.dK (kvs.take i))) ⟨(Same.refl HL).put nD, upd_same⟩ (fun _ _ _ h => h.1 _ _ eL) ?_ ?_
  · rintro i y H4 H3 hi ⟨s3, e3⟩ ⟨rfl, k, v, hkv, rfl⟩
    refine ⟨rfl, yes_ ⟨_, rfl, _, rfl, _, rfl, d, v, rfl, .inl ⟨kvs, k, .inr ⟨od, s3 _ _ eL⟩, rfl, (valV_at hknd hkv).symm⟩, kvs.take i, k, rfl, e3, small1000 (by rw [List.length_take]; have := (List.getElem?_eq_some_iff.mp hkv).1; omega), s3.put nD, ?_⟩⟩
    rw [upd_same, putK_new v (valV_take hknd hkv), take_more hkv]
  rintro H3 ⟨s3, e3⟩
  rw [List.take_length] at e3
  refine ⟨s3 _ _ eL, ?_⟩
  have s24 : Same H2 (upd H3 d (.dK kvs)) := unlock_same (od := od) hd2 (by rw [hHL]; exact s3)
  have e4 : (upd H3 d (.dK kvs)) D = some (.dK kvs) := by rw [upd_ne hDd]; exact e3
  generalize upd H3 d (.dK kvs) = H4 at s24 e4 ⊢
  have x4 : SameX o H H4 := fun b' ob n e => s24 _ _ (x1 b' ob n e)
  have ho4 := s24 _ _ ho1
  have hDo : D ≠ o := fun z => by rw [z, ho4] at e4; cases e4
  refine ⟨_, rfl, o, SE, dx, _, rfl, ho4, T, n2, (by show 1 < 1000; decide), ?_⟩
  refine ⟨_, rfl, o, SE, dx, _, rfl, upd_same, T, n3, (by show 2 < 1000; decide), ?_⟩
  have ho6 : (upd (upd H4 o (.ins SE dx (putF "_spans" (.ref D) (putF "_book" (.ref b) [])))) o (.ins SE dx (putF "_period" (.int 1) (putF "_spans" (.ref D) (putF "_book" (.ref b) []))))) o = some (.ins SE dx (seaF b D 1)) := upd_same
  have x6 : SameX o H (upd (upd H4 o (.ins SE dx (putF "_spans" (.ref D) (putF "_book" (.ref b) [])))) o (.ins SE dx (putF "_period" (.int 1) (putF "_spans" (.ref D) (putF "_book" (.ref b) []))))) := fun b' ob n e => by rw [upd_ne n, upd_ne n]; exact x4 b' ob n e
  have e6 : (upd (upd H4 o (.ins SE dx (putF "_spans" (.ref D) (putF "_book" (.ref b) [])))) o (.ins SE dx (putF "_period" (.int 1) (putF "_spans" (.ref D) (putF "_book" (.ref b) []))))) D = some (.dK kvs) := by rw [upd_ne hDo, upd_ne hDo]; exact e4
  generalize upd (upd H4 o (.ins SE dx (putF "_spans" (.ref D) (putF "_book" (.ref b) [])))) o (.ins SE dx (putF "_period" (.int 1) (putF "_spans" (.ref D) (putF "_book" (.ref b) [])))) = H6 at ho6 x6 e6 ⊢
  have hd6 := x6 _ _ hdo hd
  refine ⟨d, _, hd6, trivial, fun od2 => ?_⟩
  have hsp6 : All2 (SpKv K H6) kvs sp := hsp.mono fun _ _ x => x.same (N := N) (kX _ x6)
  have sL6 : Keeps N H6 (upd H6 d (.frz od2 (.dK kvs))) := keeps_dk hd6 rfl
  have hspL := hsp6.mono fun _ _ x => x.same sL6
  have hoL : (upd H6 d (.frz od2 (.dK kvs))) o = some (.ins SE dx (seaF b D (perN (sp.take 0)))) := by rw [upd_ne hdo.symm]; exact ho6
  generalize hHM : upd H6 d (.frz od2 (.dK kvs)) = HM at hspL hoL ⊢
  have eM : HM d = some (.frz od2 (.dK kvs)) := by rw [← hHM]; exact upd_same
  refine ⟨_, rfl, d, od2, kvs, rfl, eM, for_it walk_values (fun i σ H' => ∃ y3 y4 y5 : Option V, σ = [some (.ref o), some (.ref b), some (.ref d), y3, y4, y5] ∧ H' o = some (.ins SE dx (seaF b D (perN (sp.take i)))) ∧ SameX o HM H') ⟨none, none, none, rfl, hoL, fun b' ob _ e => e⟩ (fun _ _ _ _ ⟨_, _, _, _, _, s⟩ => s _ _ hdo eM) ?_ ?_⟩
  · rintro i y σ H8 H7 hi ⟨y3, y4, y5, rfl, ho7, x7⟩ ⟨rfl, k, hkv⟩
    obtain ⟨q0, hq0, hk, t, hv, ht⟩ := hspL.get hkv
    obtain rfl : y = .ref t := hv
    have ht7 : SqT K H7 t (SpV q0.2) := (SameX.keeps (N := N) x7 hoL rfl).tup ht
    have hok0 := (hok q0 (List.mem_of_getElem? hq0)).1
    have hpi : perN (sp.take i) ≤ 84 := perN_le fun q hq => (hok q (List.mem_of_mem_take hq)).1
    have hp12 := hok0.p2
    refine ⟨t, _, rfl, ht7, rfl, _, _, rfl, _, _, rfl, _, _, rfl, rfl, ?_⟩
    refine ⟨_, rfl, o, SE, dx, _, _, rfl, ho7, T, n3, rfl, _, rfl, _, _, rfl, by omega, by omega, ?_⟩
    refine ⟨_, rfl, o, SE, dx, _, rfl, ho7, T, n3, (by show 3 < 1000; decide), ?_⟩
    refine ⟨_, _, _, rfl, ?_, fun b' ob n e => by rw [upd_ne n]; exact x7 b' ob n e⟩
    rw [upd_same, take_more hq0, perN_snoc]
    rfl
  · rintro σ H7 ⟨y3, y4, y5, rfl, ho7, x7⟩
    have ho7 : H7 o = some (.ins SE dx (seaF b D (perN (sp.take kvs.length)))) := ho7
    rw [hlen, List.take_length] at ho7
    refine ⟨x7 _ _ hdo eM, ?_⟩
    have x8 : SameX o H6 (upd H7 d (.dK kvs)) := fun b' ob n e => by
      by_cases z : b' = d
      · subst z
        rw [hd6] at e
        cases e
        exact upd_same
      · rw [upd_ne z]
        exact x7 b' ob n (by rw [← hHM, upd_ne z]; exact e)
    have x9 : SameX o H (upd H7 d (.dK kvs)) := fun b' ob n e => x8 b' ob n (x6 b' ob n e)
    have k9 := kX _ x9
    refine q _ ⟨dx, b, D, kvs, by rw [upd_ne hdo.symm]; exact ho7, hB.keeps k9, x8 _ _ hDo e6, hsp.mono fun _ _ x => x.same k9⟩ x9
def sp_seaPeriod (K : PySem.W.Frag) (C R B SE : Addr) : Sp := fun vs H Q _ => ∃ (N : Addr → Prop) (x : Addr) (xs : List Str) (f : RF) (rl : Str) (sp : List (Str × Spn)), vs = [.ref x] ∧ SeaAt K C R B SE N H x xs f rl sp ∧ Q (.int (perN sp : Nat)) H
theorem ok_seaPeriod {f : Addr} {fd : FuncData} (F : Fun K "period" "Seasons.period" s_Seasons_period f fd) (T : Cls K SE) (n3 : NoAttr K SE "_period") : FnOk P w K mg base CX0 1 f fd ["self"] (sp_seaPeriod K C R B SE) := by
  refine F.ok sc_Seasons_period (fun vs H Q E h => by obtain ⟨N, x, xs, f, rl, sp, rfl, _⟩ := h; rfl) (fun cdv A outer s H vs Q E hr h => ?_)
  obtain ⟨N, x, xs, f, rl, sp, rfl, ⟨dx, b, d, kvs, hx, _⟩, q⟩ := h
  refine ⟨_, (pss_one (ps_ret (pe_fld (pv 0) rfl))), ?_⟩
  exact ⟨_, rfl, x, SE, dx, _, _, rfl, hx, T, n3, rfl, q⟩
/-- a right rule of a book of such facts -/
structure N3 (xs : List Str) (n : Nd) : Prop where
  ok : NdOk n
  s1 : ∀ x ∈ n.hs, x ∈ xs
  s2 : ∀ x ∈ n.fs, x ∈ xs
theorem no_fault3 {xs : List Str} : ∀ {ps : List (Nd × Nat)} {met : List Str} {out i : Nat}, (∀ q ∈ ps, (∀ x ∈ q.1.hs, x ∈ xs) ∧ ∀ x ∈ q.1.fs, x ∈ xs) → (∀ q ∈ ps, q.2 ≤ 5) → (met ++ ps.map fun q => q.1.nm).Nodup → i + ps.length ≤ 60 → out + ps.length ≤ 40 → firstFault xs ps met out i = none
  | [], _, _, _, _, _, _, _, _ => rfl
  | (n, k) :: r, met, out, i, h1, h2, h3, h4, h5 => by
    have hs := h1 _ List.mem_cons_self
    have hk : k ≤ 5 := h2 _ List.mem_cons_self
    rw [List.length_cons] at h4 h5
    have hon : outNext out k ≤ out + 1 := by unfold outNext; split <;> omega
    have hm : ¬ n.nm ∈ met := fun z => (List.nodup_append.mp h3).2.2 _ z _ List.mem_cons_self rfl
    have f0 : faultAt xs met (outNext out k) i n k = none := by
      unfold faultAt
      rw [if_neg hm, if_neg, if_neg (by omega), if_neg (by omega)]
      rw [Bool.not_eq_true, List.any_eq_false]
      intro x hx
      have hx := (srt_perm _).mem_iff.mp hx
      rw [decide_eq_true (show x ∈ xs from (List.mem_append.mp hx).elim (hs.1 x) (hs.2 x))]
      decide
    unfold firstFault
    rw [f0]
    refine no_fault3 (fun q hq => h1 q (List.mem_cons_of_mem _ hq)) (fun q hq => h2 q (List.mem_cons_of_mem _ hq)) ?_ (by omega) (by omega)
    rw [List.append_assoc]
    exact h3
theorem pre_dep3 : ∀ (f : RF) (k : Nat), ∀ q ∈ f.pre k, q.2 + 1 ≤ k + f.dep
  | .nil, k, q, h => nomatch h
  | .cons nm hs fs rl exc rest, k, q, h => by
    show _ ≤ k + max (exc.dep + 1) rest.dep
    rcases List.mem_cons.mp h with rfl | h
    · show k + 1 ≤ _
      omega
    rcases List.mem_append.mp h with h | h
    · have := pre_dep3 exc (k + 1) q h
      omega
    · have := pre_dep3 rest k q h
      omega
/-- a right book of few rules -/
structure Bk3 (xs : List Str) (f : RF) (rl : Str) : Prop where
  tS : Txts xs
  lS : xs.length ≤ 60
  hb : firstBad xs = none
  hrl : isName rl = true
  nd : f.names.Nodup
  dep : f.dep ≤ 6
  size : f.size ≤ 20
  ev : f.every (N3 xs)
theorem Bk3.filt {xs : List Str} {f : RF} {rl : Str} (h : Bk3 xs f rl) (p : Str → Bool) : Bk3 xs (RF.filt p f) rl :=
  ⟨h.tS, h.lS, h.hb, h.hrl, h.nd.sublist (RF.filt_names p f), Nat.le_trans (RF.filt_dep p f) h.dep, Nat.le_trans (RF.filt_size p f) h.size, RF.filt_every (fun n e hn => ⟨hn.ok.wE, hn.s1, hn.s2⟩) p h.ev⟩
theorem Bk3.ok {xs : List Str} {f : RF} {rl : Str} (h : Bk3 xs f rl) : BkOk xs f rl := ⟨h.tS, h.lS, h.hb, h.hrl, h.nd, h.dep, by have := h.size; omega, RF.every_mono (fun n h => h.ok) h.ev⟩
theorem Bk3.ff {xs : List Str} {f : RF} {rl : Str} (h : Bk3 xs f rl) : firstFault xs (f.pre 0) [] 0 0 = none := by
  have h1 := h.size
  have h2 := h.dep
  refine no_fault3 (fun q hq => ?_) (fun q hq => ?_) (by rw [List.nil_append, RF.pre_names]; exact h.nd) (by rw [RF.pre_len]; omega) (by rw [RF.pre_len]; omega)
  · have hn := RF.every_pre h.ev q hq
    exact ⟨hn.s1, hn.s2⟩
  · have := pre_dep3 f 0 q hq
    omega
/-- the book of a day -/
def sp_seaCall (K : PySem.W.Frag) (C R B SE : Addr) : Sp := fun vs H Q _ => ∃ (N : Addr → Prop) (x : Addr) (xs : List Str) (f : RF) (rl : Str) (sp : List (Str × Spn)) (day : Int), vs = [.ref x, .int day] ∧ SeaAt K C R B SE N H x xs f rl sp ∧ Bk3 xs f rl ∧ (∀ l, H l = none → N l) ∧ (∀ q ∈ sp, SpnOk q.2) ∧ 0 ≤ day ∧ day ≤ lastDay ∧ ∀ H' b, Same H H' → BookAt K C R B N H' b xs (RF.filt (stays sp day) f) rl → Q (.ref b) H'
theorem ok_seaCall {f : Addr} {fd : FuncData} (F : Fun K "__call__" "Seasons.__call__" s_Seasons___call__ f fd) (Bl : Blt mg) (T : Cls K SE) (n1 : NoAttr K SE "_book") (n2 : NoAttr K SE "_spans") (c_check_day : Cal P w K mg base CX0 3 "check_day" ["value"] sp_check_day) (c_in_span : Cal P w K mg base CX0 1 "in_span" ["span", "day"] (sp_in_span K))
    (mCon : MethO P w K mg base CX0 3 B "__contains__" ["self", "name"] (sp_contains K C R B)) (mSub : MethO P w K mg base (L2.CX P w) 32 B "__sub__" ["self", "name"] (sp_sub K C R B CB CU)) (bT : BinT K B .Sub) : FnOk P w K mg base CX0 33 f fd ["self", "day"] (sp_seaCall K C R B SE) := by
  refine F.ok sc_Seasons___call__ (fun vs H Q E h => by obtain ⟨N, x, xs, f, rl, sp, day, rfl, _⟩ := h; rfl) (fun cdv A outer s H vs Q E hr h => ?_)
  obtain ⟨N, x, xs, f, rl, sp, day, rfl, ⟨dx, b, d, kvs, hx, hB, hd, hsp⟩, hk, hN, hok, d0, d1, q⟩ := h
  refine ⟨_, (pss_cons (ps_expr (pe_cal c_check_day (hr.mono (by decide)) (pa_cons (pv 1) pa_nil)))
      (pss_cons (ps_set (i := 2) sc_Seasons___call__.nd rfl (Or.inl rfl) (pe_fld (pv 0) rfl))
      (pss_cons (ps_lock (ps_for PassesOwn.never rfl (pi_items (pe_fld (pv 0) rfl)) (pg_tup (by rfl) (pgs_cons (pg_name (i := 3) sc_Seasons___call__.nd rfl (Or.inl rfl)) (pgs_cons (pg_name (i := 4) sc_Seasons___call__.nd rfl (Or.inl rfl)) pgs_nil))) (pss_one (ps_if (PW.pt (pw_and (pt_cmpR (op_inM mCon (hr.mono (by decide))) (pv 3) (pv 2) rfl) (pw_and1 (pt_not (pt_val (pe_cal c_in_span (hr.mono (by decide)) (pa_cons (pv 4) (pa_cons (pv 1) pa_nil)))))))) (pss_one (ps_set (i := 2) sc_Seasons___call__.nd rfl (Or.inl rfl) (pe_op (op_subN mSub bT rfl (hr.mono (by decide))) (pv 2) (pv 3)))) pss_nil))))
      (pss_one (ps_ret (pv 2)))))), ?_⟩
  have hlen := hsp.len
  have hxd : x ≠ d := fun z => by rw [z, hd] at hx; cases hx
  refine ⟨_, rfl, day, rfl, d0, d1, ?_⟩
  refine ⟨_, rfl, x, SE, dx, _, _, rfl, hx, T, n1, rfl, ?_⟩
  refine ⟨d, _, hd, trivial, fun od => ?_⟩
  have sL : Keeps N H (upd H d (.frz od (.dK kvs))) := keeps_dk hd rfl
  have hspL := hsp.mono fun _ _ x => x.same sL
  have hBL := hB.keeps sL
  have hxL : (upd H d (.frz od (.dK kvs))) x = some (.ins SE dx (seaF b d (perN sp))) := by rw [upd_ne hxd]; exact hx
  have hfree : ∀ l, (upd H d (.frz od (.dK kvs))) l = none → N l := fun l hl => hN l (by
    by_cases z : l = d
    · rw [z, upd_same] at hl; cases hl
    · rw [upd_ne z] at hl; exact hl)
  generalize hHL : upd H d (.frz od (.dK kvs)) = HL at hspL hBL hxL hfree ⊢
  have eL : HL d = some (.frz od (.dK kvs)) := by rw [← hHL]; exact upd_same
  have h00 : RF.filt (stays ([] : List (Str × Spn)) day) f = f := RF.filt_all fun _ _ => rfl
  refine ⟨_, rfl, x, SE, dx, _, _, rfl, hxL, T, n2, rfl, d, od, kvs, rfl, eL, for_it walk_items (fun i σ H' => ∃ (b' : Addr) (y3 y4 : Option V), σ = [some (.ref x), some (.int day), some (.ref b'), y3, y4] ∧ Same HL H' ∧ BookAt K C R B N H' b' xs (RF.filt (stays (sp.take i) day) f) rl) ⟨b, none, none, rfl, Same.refl _, by rw [List.take_zero, h00]; exact hBL⟩ (fun _ _ _ _ ⟨_, _, _, _, s, _⟩ => s _ _ eL) ?_ ?_⟩
  · rintro i y σ H4 H5 hi ⟨b', y3, y4, rfl, s4, hB4⟩ ⟨Tt, v1, v2, rfl, nT, rfl, h1, h2⟩
    have h1 : kvs[i]?.map (fun kv => kV kv.1) = some v1 := h1
    have h2 : kvs[i]?.map Prod.snd = some v2 := h2
    cases hkv : kvs[i]? with
    | none => rw [hkv] at h1; cases h1
    | some kv =>
      rw [hkv] at h1 h2
      obtain ⟨q0, hq0, hk0, t, hv, ht⟩ := hspL.get hkv
      obtain rfl : kV kv.1 = v1 := Option.some.inj h1
      obtain rfl : kv.2 = v2 := Option.some.inj h2
      have s5 := (Same.refl H4).put (o := .tup [kV kv.1, kv.2]) nT
      have hok0 := hok q0 (List.mem_of_getElem? hq0)
      have hB5 := hB4.keeps (N := N) s5.keeps
      have s05 := s4.trans s5
      have eT : (upd H4 Tt (.tup [kV kv.1, kv.2])) Tt = some (.tup [kV kv.1, kv.2]) := upd_same
      generalize upd H4 Tt (.tup [kV kv.1, kv.2]) = H5 at s5 hB5 s05 eT ⊢
      have hfs : RF.filt (stays (sp.take (i + 1)) day) f = if q0.1 ∈ (RF.filt (stays (sp.take i) day) f).names ∧ inS q0.2 day = false then RF.repl q0.1 [] (RF.filt (stays (sp.take i) day) f) else RF.filt (stays (sp.take i) day) f := by rw [take_more hq0]; exact filt_step
      have hk3 := hk.filt (stays (sp.take i) day)
      obtain ⟨dxb, _, _, _, _, _, hob, _⟩ := id hB5
      have hkk : kV kv.1 = .str q0.1 := by rw [hk0]; rfl
      refine ⟨Tt, _, rfl, sqT_of eT, rfl, _, _, rfl, _, _, rfl, rfl, ?_⟩
      refine ⟨_, rfl, _, rfl, b', dxb, _, rfl, hob, N, b', xs, _, rl, q0.1, (by rw [hkk]), hB5, by have := hk3.size; omega, fun H6 s6 => ⟨_, rfl, _, rfl, ?_⟩⟩
      rw [if_neg (by decide)]
      have s06 := s05.trans s6
      have hB6 := hB5.keeps (N := N) s6.keeps
      have ht6 := s06.tup ht
      by_cases hin : q0.1 ∈ (RF.filt (stays (sp.take i) day) f).names
      · rw [decide_eq_true hin]
        refine iteT ⟨_, rfl, _, rfl, t, q0.2, day, (by rw [hv]; rfl), ht6, hok0.p1, _, rfl, ?_⟩
        cases hi2 : inS q0.2 day with
        | true =>
          rw [if_neg (fun z => by rw [hi2] at z; cases z.2)] at hfs
          exact iteF ⟨b', _, _, rfl, s06, by rw [hfs]; exact hB6⟩
        | false =>
          rw [if_pos ⟨hin, hi2⟩] at hfs
          refine iteT ?_
          obtain ⟨dxb6, _, _, _, _, _, hob6, _⟩ := id hB6
          have hk4 : Bk3 xs (RF.filt (stays (sp.take (i + 1)) day) f) rl := hk.filt _
          refine ⟨_, rfl, _, rfl, b', dxb6, _, q0.1, rfl, hkk, hob6, N, b', xs, _, rl, q0.1, (by rw [hkk]), hB6, hk3.ok, (fun l hl => hfree l (s06.free hl)), (fun z => absurd hin z), fun _ => ?_⟩
          rw [← hfs]
          refine ⟨(fun wd i' e => by rw [hk4.ff] at e; cases e), fun _ H7 b7 s7 hB7 => ?_⟩
          exact ⟨b7, _, _, rfl, s06.trans s7, hB7⟩
      · rw [decide_eq_false hin]
        rw [if_neg (fun z => hin z.1)] at hfs
        exact iteF (iteF ⟨b', _, _, rfl, s06, by rw [hfs]; exact hB6⟩)
  · rintro σ H4 ⟨b', y3, y4, rfl, s4, hB4⟩
    have hB4 : BookAt K C R B N H4 b' xs (RF.filt (stays (sp.take kvs.length) day) f) rl := hB4
    rw [hlen, List.take_length] at hB4
    refine ⟨s4 _ _ eL, _, rfl, ?_⟩
    exact q _ b' (unlock_same (od := od) hd (by rw [hHL]; exact s4)) (hB4.keeps (keeps_dk (s4 _ _ eL) rfl))
end
end Sc
namespace Sc
open PySem PySem.Spec PyProof.Rows L2
theorem sc_Seasons_book : FnScope ["self"] ["self"] (defScope s_Seasons_book) := ⟨rfl, rfl, rfl, by decide +kernel, rfl, by decide +kernel, by decide +kernel⟩
theorem sc_Seasons_spans : FnScope ["self", "name"] ["self"] (defScope s_Seasons_spans) := ⟨rfl, rfl, rfl, by decide +kernel, rfl, by decide +kernel, by decide +kernel⟩
section
variable {P : Program} {w : World} {K : PySem.W.Frag} {mg : Str → Option Value} {base : Heap} {C R B SE : Addr}
def sp_seaBook (K : PySem.W.Frag) (C R B SE : Addr) : Sp := fun vs H Q _ => ∃ (N : Addr → Prop) (x : Addr) (xs : List Str) (f : RF) (rl : Str) (sp : List (Str × Spn)), vs = [.ref x] ∧ SeaAt K C R B SE N H x xs f rl sp ∧ ∀ b, BookAt K C R B N H b xs f rl → Q (.ref b) H
theorem ok_seaBook {f : Addr} {fd : FuncData} (F : Fun K "book" "Seasons.book" s_Seasons_book f fd) (T : Cls K SE) (n1 : NoAttr K SE "_book") : FnOk P w K mg base CX0 1 f fd ["self"] (sp_seaBook K C R B SE) := by
  refine F.ok sc_Seasons_book (fun vs H Q E h => by obtain ⟨N, x, xs, f, rl, sp, rfl, _⟩ := h; rfl) (fun cdv A outer s H vs Q E hr h => ?_)
  obtain ⟨N, x, xs, f, rl, sp, rfl, ⟨dx, b, d, kvs, hx, hB, hd, hsp⟩, q⟩ := h
  exact ⟨_, (pss_one (ps_ret (pe_fld (pv 0) rfl))), ⟨_, rfl, x, SE, dx, _, .ref b, rfl, hx, T, n1, rfl, q b hB⟩⟩
def sp_seaSpans (K : PySem.W.Frag) (C R B SE : Addr) : Sp := fun vs H Q _ => ∃ (N : Addr → Prop) (x : Addr) (xs : List Str) (f : RF) (rl : Str) (sp : List (Str × Spn)), vs = [.ref x] ∧ SeaAt K C R B SE N H x xs f rl sp ∧ (sp.map fun q => q.1).Nodup ∧ sp.length ≤ 100 ∧ ∀ H' D kvs, Same H H' → H' D = some (.dK kvs) → All2 (SpKv K H') kvs sp → Q (.ref D) H'
theorem ok_seaSpans {f : Addr} {fd : FuncData} (F : Fun K "spans" "Seasons.spans" s_Seasons_spans f fd) (T : Cls K SE) (n2 : NoAttr K SE "_spans") : FnOk P w K mg base CX0 1 f fd ["self"] (sp_seaSpans K C R B SE) := by
  refine F.ok sc_Seasons_spans (fun vs H Q E h => by obtain ⟨N, x, xs, f, rl, sp, rfl, _⟩ := h; rfl) (fun cdv A outer s H vs Q E hr h => ?_)
  obtain ⟨N, x, xs, f, rl, sp, rfl, ⟨dx, b, d, kvs, hx, hB, hd, hsp⟩, hnd, hl, q⟩ := h
  refine ⟨_, (pss_one (ps_ret (pe_lock (pe_dc (own := [("name", 1)]) (g := gName 1) (tt := tYes) rfl sc_Seasons_spans.nd (pi_keys (pe_fld (pv 0) rfl)) (blkOk_by (own := [("name", 1)]) (N := ["self", "name"]) (sc := defScope s_Seasons_spans) (by decide +kernel)) (fun _ _ _ _ _ => (pg_name (i := 1) sc_Seasons_spans.nd rfl (Or.inl rfl))) (fun _ _ _ _ _ => pts_nil) (fun _ _ _ _ _ => (pe_.re (pv 1) (by first | (dsimp only [Cx.blk]; done) | exact rfl))) (fun _ _ _ _ _ => (pe_.re (pe_dget (Nat.lt_of_le_of_lt (Nat.add_le_add_left (by decide) _) hr.units) (pe_fld (pv 0) rfl) (pv 1) (fun _ _ => rfl)) (by first | (dsimp only [Cx.blk]; done) | exact rfl))))))), ?_⟩
  have hlen := hsp.len
  have hknd := keys_nd hsp hnd
  have hdx : x ≠ d := fun z => by rw [z, hd] at hx; cases hx
  refine ⟨d, _, hd, trivial, fun od => ?_⟩
  generalize hHL : upd H d (.frz od (.dK kvs)) = HL
  have eL : HL d = some (.frz od (.dK kvs)) := by rw [← hHL]; exact upd_same
  have hxL : HL x = some (.ins SE dx (seaF b d (perN sp))) := by rw [← hHL, upd_ne hdx]; exact hx
  refine ⟨_, rfl, x, SE, dx, _, .ref d, rfl, hxL, T, n2, rfl, d, od, rfl, .inl ⟨kvs, eL, fun D nD => ?_⟩⟩
  have hDd : D ≠ d := fun z => by rw [z, eL] at nD; cases nD
  refine dc_it walk_keys (fun i H' => Same HL H' ∧ H' D = some (.dK (kvs.take i))) ⟨(Same.refl HL).put nD, upd_same⟩ (fun _ _ _ h => h.1 _ _ eL) ?_ ?_
  · rintro i y H4 H3 hi ⟨s3, e3⟩ ⟨rfl, k, v, hkv, rfl⟩
    refine ⟨rfl, yes_ ⟨_, rfl, _, rfl, x, SE, dx, _, .ref d, rfl, s3 _ _ hxL, T, n2, rfl, _, rfl, d, v, rfl, .inl ⟨kvs, k, .inr ⟨od, s3 _ _ eL⟩, rfl, (valV_at hknd hkv).symm⟩, kvs.take i, k, rfl, e3, small1000 (by rw [List.length_take]; have := (List.getElem?_eq_some_iff.mp hkv).1; omega), s3.put nD, ?_⟩⟩
    rw [upd_same, putK_new v (valV_take hknd hkv), take_more hkv]
  rintro H3 ⟨s3, e3⟩
  rw [List.take_length] at e3
  refine ⟨s3 _ _ eL, ?_⟩
  have s24 : Same H (upd H3 d (.dK kvs)) := unlock_same (od := od) hd (by rw [hHL]; exact s3)
  have e4 : (upd H3 d (.dK kvs)) D = some (.dK kvs) := by rw [upd_ne hDd]; exact e3
  exact q _ D kvs s24 e4 (hsp.mono fun _ _ y => y.same (N := N) s24.keeps)
end
end Sc
namespace L2
open PySem PySem.Spec PyProof.Rows
section
variable {X : Cx}
/-- name = {..: .. for ..} on one line, the name a local -/
theorem ps_setDc {i : Nat} {y : Str} {py : Pos} {kx vx tg iter : Expr} {ifs : List Expr} {scope : Scope} {own : List (Str × Nat)} {pos spos : Pos} {wi : TI} {g : TG} {tt : TT} {tk tv : TE} (hc : X.calm = true) (hN : X.N.Nodup) (hy : X.N[i]? = some y) (hyl : X.env.scope.names.lookup y = some .local)
    (hsw : swapsWith (.DictComp kx vx [⟨tg, iter, ifs, 0⟩] scope pos) (some (.Name y py)) spos.line X.env = pure true) (hi : PI X tg iter wi) (ok : BlkOk X.N X.env.scope scope own)
    (hg : ∀ (s : Shared) (H : Hp) (C : Addr) (cl : List (Str × Addr)) (fp : List Addr), PG (X.blk s H scope (compEnvC scope cl C X.env) fp) tg g) (ht : ∀ (s : Shared) (H : Hp) (C : Addr) (cl : List (Str × Addr)) (fp : List Addr), PTs (X.blk s H scope (compEnvC scope cl C X.env) fp) ifs tt)
    (hk : ∀ (s : Shared) (H : Hp) (C : Addr) (cl : List (Str × Addr)) (fp : List Addr), PE (X.blk s H scope (compEnvC scope cl C X.env) fp) kx tk)
    (he : ∀ (s : Shared) (H : Hp) (C : Addr) (cl : List (Str × Addr)) (fp : List Addr), PE (X.blk s H scope (compEnvC scope cl C X.env) fp) vx tv) (hs : ∀ x, foldedSetIterable iter X.env x = pure x := by intro _; rfl) :
    PS X (.Assign [.Name y py] (.DictComp kx vx [⟨tg, iter, ifs, 0⟩] scope pos) spos) (tAsg (tDc wi g tt tk tv (own.map (·.2))) (gName i)) := by
  refine ⟨fun pins s σ H D I h => ?_⟩
  rw [exec_Assign_Name_used _ _ _ _ hsw]
  refine wpAny_bind (wpAny_standAt (wpAny_bind ?_))
  show wpAny _ X.A (do let _ ← comprehension (.DictComp kx vx [⟨tg, iter, ifs, 0⟩] scope pos) scope X.env (firstIterPos [⟨tg, iter, ifs, 0⟩] pos) newDict false (eval iter X.env) (some (assign (.Name y py) X.env))) _ _ s
  have h : tDc wi g tt tk tv (own.map (·.2)) σ H (fun x H1 => gName i x σ H1 D.nx) := h
  refine wpAny_bind (thn (dc_core (Qf := fun _ s' => SP X pins D .next s') hc hN I hi ok hg ht hk he hs h fun L C s' m H' I' q hn f => ?_) fun _ s' hq => wpAny_pure (wpAny_pure hq))
  show wpAny _ _ (assign (.Name y py) X.env (.ref L)) _ _ _
  refine wpAny_assign_Name (store_ok2 (v := V.ref L) I' hN hy (.inl hyl) rfl (fun s2 I2 ⟨a, sb, ha⟩ => ?_) (.inr hyl))
  obtain ⟨f0, f1, f2, f3, f4, f5⟩ := f
  have haC : C ≠ a := by
    rcases ha with z | z
    · rw [z]; exact f1
    · exact fun e => f4 y a z e.symm
  refine ⟨m, hn.sameBut sb haC, fun h3 sb3 => ?_⟩
  exact ⟨_, H', I2.turned (t' := s2.toks) (fun b o hb e => (sb3.2 b hb).trans e) f0 f1 f3 f4 f5, q⟩
theorem sw_trueD {kx vx : Expr} {gs : List Comprehension} {scope : Scope} {pos py : Pos} {y : Str} {l : Nat} {env : Env} (hk : env.scope.kind = .function) (hy : env.scope.names.lookup y = some .local) (hl : (py.line == pos.line) = true)
    (ha : (scope.names.any fun (n, k) => n == y && (k == .local || k == .cell)) = false) : swapsWith (.DictComp kx vx gs scope pos) (some (.Name y py)) l env = pure true := by
  have ky : env.kindOf y = some .local := hy
  have hb : env.blockKind = .function := by unfold Env.blockKind; rw [hk]; rfl
  unfold swapsWith
  simp only [hb, ky, ha, Expr.pos, hl]
  rfl
end
end L2
namespace Sc
open PySem PySem.Spec PyProof.Rows L2
theorem sc_forces_of_period : FnScope ["seasons", "table", "spans", "name", "bits", "forces", "day", "gone", "span"] ["seasons", "table"] (defScope s_forces_of_period) := ⟨rfl, rfl, rfl, by decide +kernel, rfl, by decide +kernel, by decide +kernel⟩
/-- a property of a class that is worked out -/
def PropM (P : Program) (w : World) (K : PySem.W.Frag) (mg : Str → Option Value) (base : Heap) (C : Addr) (n : Str) (k : Nat) (sp : Sp) : Prop := ∃ p g fd, PropOf K C n p g ∧ FnOk P w K mg base CX0 k g fd ["self"] sp ∧ Binds K fd ["self"] []
theorem pe_propM {X : Cx} {k : Nat} {C : Addr} {n : Str} {sp : Sp} {e : Expr} {ta : TE} {pos : Pos} (M : PropM X.prog X.w X.K X.mg X.base C n k sp) (hr : Room (k + 1) X.A) (c : Cls X.K C) (he : PE X e ta) (hab : attributeBase e n X.env (eval e X.env) = eval e X.env := by rfl) : PE X (.Attribute e n pos) (tProp C sp [] E0 ta) := by
  obtain ⟨p, g, fd, h1, h2, h3⟩ := M
  exact pe_prop he c h1 h2 hr h3 .nil pass0 hab
/-! ### what is in force on a day -/
theorem ones_bit : ∀ k j : Nat, j < k → bitAt ((2 : Int) ^ k - 1) j = true
  | 0, j, h => absurd h (Nat.not_lt_zero j)
  | k + 1, 0, _ => by
    rw [bit_0, Int.pow_succ]
    exact decide_eq_true (by omega)
  | k + 1, j + 1, h => by
    rw [bit_s, Int.pow_succ, show ((2 : Int) ^ k * 2 - 1) / 2 = 2 ^ k - 1 by omega]
    exact ones_bit k j (by omega)
def goneN (f : RF) (L : List Nd) (day : Int) : List (Str × Spn) → Int → Int
  | [], a => a
  | q :: r, a => goneN f L day r (if inS q.2 day = true then a else Builtin.bitOr a (insN f L q.1))
def forceN (f : RF) (L : List Nd) (sp : List (Str × Spn)) (day : Int) : Int := Builtin.bitAnd (2 ^ L.length - 1) (Builtin.bitNot (goneN f L day sp 0))
theorem gone_snoc {f : RF} {L : List Nd} {day : Int} : ∀ {sp : List (Str × Spn)} {q : Str × Spn} {a : Int}, goneN f L day (sp ++ [q]) a = (if inS q.2 day = true then goneN f L day sp a else Builtin.bitOr (goneN f L day sp a) (insN f L q.1))
  | [], q, a => rfl
  | p :: r, q, a => by
    show goneN f L day (r ++ [q]) _ = _
    rw [gone_snoc]
    rfl
theorem gone_bit {f : RF} {L : List Nd} {day : Int} {j : Nat} {n : Nd} (h : L[j]? = some n) : ∀ {sp : List (Str × Spn)} {a : Int}, bitAt (goneN f L day sp a) j = (bitAt a j || sp.any fun q => !inS q.2 day && insB f q.1 n)
  | [], a => (Bool.or_false _).symm
  | q :: r, a => by
    show bitAt (goneN f L day r _) j = _
    rw [gone_bit h, List.any_cons, ← Bool.or_assoc]
    congr 1
    split
    · rename_i c
      rw [c]
      show _ = (_ || false)
      rw [Bool.or_false]
    · rename_i c
      have c : inS q.2 day = false := by simpa using c
      rw [c, bor_bit]
      congr 1
      show bitAt (bsP _ _) j = (true && _)
      rw [bsP_bit _ _ (List.getElem?_eq_some_iff.mp h).1, atB_of h]
      rfl
def keepB (f : RF) (sp : List (Str × Spn)) (day : Int) (n : Nd) : Bool := decide (n.nm ∈ (RF.filt (stays sp day) f).names)
theorem force_bit {xs : List Str} {f : RF} {sp : List (Str × Spn)} {day : Int} {j : Nat} {n : Nd} (hnd : f.names.Nodup) (h : (f.flat xs [] [])[j]? = some n) : bitAt (forceN f (f.flat xs [] []) sp day) j = keepB f sp day n := by
  have hm := RF.flat_in n (List.mem_of_getElem? h)
  unfold forceN
  rw [band_bit, ones_bit _ _ (List.getElem?_eq_some_iff.mp h).1, bnot_bit, gone_bit h, Bool.true_and, bit_zero, Bool.false_or]
  unfold keepB
  rw [Bool.eq_iff_iff, decide_eq_true_iff, RF.filt_mem hnd hm, Bool.not_eq_true', List.any_eq_false]
  constructor
  · intro ha r hr hin
    unfold stays at hr
    obtain ⟨q, hq, hqr⟩ := List.all_eq_false.mp hr
    have hqr : ¬ (!decide (q.1 = r) || inS q.2 day) = true := hqr
    rw [Bool.or_eq_true, Bool.not_eq_true', not_or] at hqr
    have e1 : q.1 = r := by
      by_cases c : q.1 = r
      · exact c
      · exact absurd (decide_eq_false c) hqr.1
    have e2 : inS q.2 day = false := by simpa using hqr.2
    refine ha q hq ?_
    rw [e2]
    show insB f q.1 n = true
    unfold insB
    rw [e1]
    exact decide_eq_true hin
  · intro ha q hq hc
    rw [Bool.and_eq_true, Bool.not_eq_true'] at hc
    refine ha q.1 ?_ (of_decide_eq_true hc.2)
    unfold stays
    rw [List.all_eq_false]
    refine ⟨q, hq, ?_⟩
    rw [decide_eq_true rfl, hc.1]
    decide
section
variable {P : Program} {w : World} {K : PySem.W.Frag} {mg : Str → Option Value} {base : Heap} {C R B TT SE CU : Addr}
theorem TtAt.sx {N : Addr → Prop} {H H' : Hp} {x dx b D dd d : Addr} {us : List V} {xs : List Str} {f : RF} {rl : Str} {kvs : List (Key × V)} (h : TtAt K C R B TT N H x dx b D dd us xs f rl) (s : SameX d H H') (e : H d = some (.dK kvs)) : TtAt K C R B TT N H' x dx b D dd us xs f rl :=
  ⟨s _ _ (fun z => by have h := h.o; rw [z, e] at h; cases h) h.o, h.bk.keeps (s.keepsD e), s _ _ (fun z => by have h := h.rows; rw [z, e] at h; cases h) h.rows, h.ln.mono fun _ _ y => y.keeps (s.keepsD e)⟩
def sp_forces (K : PySem.W.Frag) (C R B TT SE : Addr) : Sp := fun vs H Q _ => ∃ (N : Addr → Prop) (y x dx b D dd : Addr) (us : List V) (xs : List Str) (f : RF) (rl : Str) (sp : List (Str × Spn)), vs = [.ref y, .ref x] ∧ SeaAt K C R B SE N H y xs f rl sp ∧ TtAt K C R B TT N H x dx b D dd us xs f rl ∧ f.names.Nodup ∧ f.dep ≤ 11 ∧ f.size ≤ 800 ∧
  (sp.map fun q => q.1).Nodup ∧ sp.length ≤ 100 ∧ (∀ q ∈ sp, SpnOk q.2 ∧ q.1 ∈ f.names) ∧ ∀ H' D', Same H H' → H' D' = some (.lst ((List.range (perN sp)).map fun d => V.int (forceN f (f.flat xs [] []) sp (d : Nat)))) → Q (.ref D') H'
theorem ok_forces {f : Addr} {fd : FuncData} (F : Fun K "forces_of_period" "forces_of_period" s_forces_of_period f fd) (Bl : Blt mg) (CLt : Cls K TT) (CLe : Cls K SE) (nE : NoAttr K TT "everything") (mSp : PropM P w K mg base SE "spans" 1 (sp_seaSpans K C R B SE)) (mPer : PropM P w K mg base SE "period" 1 (sp_seaPeriod K C R B SE)) (mt_bits_within : MethR P w K mg base 17 TT "bits_within" ["self", "name"] (sp_bw K C R B TT)) (c_in_span : Cal P w K mg base CX0 1 "in_span" ["span", "day"] (sp_in_span K)) : FnOk P w K mg base CX0 18 f fd ["seasons", "table"] (sp_forces K C R B TT SE) := by
  refine F.ok sc_forces_of_period (fun vs H Q E h => by obtain ⟨N, y, x, dx, b, D, dd, us, xs, f, rl, sp, rfl, _⟩ := h; rfl) (fun cdv A outer s H vs Q E hr h => ?_)
  obtain ⟨N, y, x, dx, b, D, dd, us, xs, f, rl, sp, rfl, hS, hT, hnd, hd, hz, hsn, hsl, hso, q⟩ := h
  refine ⟨_, (pss_cons (ps_set (i := 2) sc_forces_of_period.nd rfl (Or.inl rfl) (pe_propM mSp (hr.mono (by decide)) CLe (pv 0)))
      (pss_cons (ps_lock (ps_setDc (i := 4) (own := [("name", 3)]) (g := gName 3) (tt := tYes) rfl sc_forces_of_period.nd rfl rfl (sw_trueD rfl rfl rfl (by decide +kernel)) (pi_keys (pv 2)) (blkOk_by (own := [("name", 3)]) (N := ["seasons", "table", "spans", "name", "bits", "forces", "day", "gone", "span"]) (sc := defScope s_forces_of_period) (by decide +kernel)) (fun _ _ _ _ _ => (pg_name (i := 3) sc_forces_of_period.nd rfl (Or.inl rfl))) (fun _ _ _ _ _ => pts_nil) (fun _ _ _ _ _ => (pe_.re (pv 3) (by first | (dsimp only [Cx.blk]; done) | exact rfl))) (fun _ _ _ _ _ => (pe_.re (pe_me CLt mt_bits_within (hr.mono (by decide)) (pv 1) (pa_cons (pv 3) pa_nil)) (by first | (dsimp only [Cx.blk]; done) | exact rfl)))))
      (pss_cons (ps_set (i := 5) sc_forces_of_period.nd rfl (Or.inl rfl) (pe_lst pa_nil))
      (pss_cons (ps_for PassesOwn.never rfl (pi_range1 (by rfl) Bl.b_range (pa_cons (pe_propM mPer (hr.mono (by decide)) CLe (pv 0)) pa_nil)) (pg_name (i := 6) sc_forces_of_period.nd rfl (Or.inl rfl)) (pss_cons (ps_set (i := 7) sc_forces_of_period.nd rfl (Or.inl rfl) pe_int)
      (pss_cons (ps_lock (ps_for PassesOwn.never rfl (pi_items (pv 2)) (pg_tup (by rfl) (pgs_cons (pg_name (i := 3) sc_forces_of_period.nd rfl (Or.inl rfl)) (pgs_cons (pg_name (i := 8) sc_forces_of_period.nd rfl (Or.inl rfl)) pgs_nil))) (pss_one (ps_if (pt_not (pt_val (pe_cal c_in_span (hr.mono (by decide)) (pa_cons (pv 8) (pa_cons (pv 6) pa_nil))))) (pss_one (ps_set (i := 7) sc_forces_of_period.nd rfl (Or.inl rfl) (pe_op L2.op_or (pv 7) (pe_dget (Nat.lt_of_le_of_lt (Nat.add_le_add_left (by decide) _) hr.units) (pv 4) (pv 3) (fun _ _ => rfl))))) pss_nil))))
      (pss_one (ps_expr (pe_bm PySem.F.plainAttrs_list PySem.F.slot_list_append PySem.F.type_list_append mt_append (pv 5) (pa_cons (pe_op L2.op_and (pe_fld (pv 1) rfl) (pe_un un_inv (pv 7))) pa_nil)))))))
      (pss_one (ps_ret (pv 5))))))), ?_⟩
  have hso' := hso
  obtain ⟨dy, yb, yd, ykvs, hy, _⟩ := id hS
  refine ⟨_, rfl, y, dy, _, rfl, hy, N, y, xs, f, rl, sp, rfl, hS, hsn, hsl, fun H1 Ds kvs s1 eDs hkv => ?_⟩
  have hT1 := hT.same s1
  have hS1 := hS.same s1
  have hlen := hkv.len
  have hknd := keys_nd hkv hsn
  refine ⟨Ds, _, eDs, trivial, fun od => ?_⟩
  have xL : SameX Ds H1 (upd H1 Ds (.frz od (.dK kvs))) := fun b' o' ne e => by rw [upd_ne ne]; exact e
  have hTL := hT1.sx xL eDs
  generalize hHL : upd H1 Ds (.frz od (.dK kvs)) = HL at xL hTL ⊢
  have eL : HL Ds = some (.frz od (.dK kvs)) := by rw [← hHL]; exact upd_same
  refine ⟨_, rfl, Ds, od, rfl, .inl ⟨kvs, eL, fun Db nDb => ?_⟩⟩
  have hDb : Db ≠ Ds := fun z => by rw [z, eL] at nDb; cases nDb
  generalize hL : f.flat xs [] [] = L
  obtain ⟨BV, hBV⟩ : ∃ BV : List (Key × V), BV = sp.map fun q => ((Sum.inr q.1 : Key), V.int (insN f L q.1)) := ⟨_, rfl⟩
  have hbn : (BV.map fun kv => kv.1).Nodup := by
    have e : (BV.map fun kv => kv.1) = (sp.map fun q => q.1).map Sum.inr := by rw [hBV, List.map_map, List.map_map]; rfl
    rw [e]
    exact List.Pairwise.map _ (fun a b h e => h (Sum.inr.inj e)) hsn
  have hba : ∀ (i : Nat) (q : Str × Spn), sp[i]? = some q → BV[i]? = some (.inr q.1, .int (insN f L q.1)) := fun i q h => by rw [hBV, List.getElem?_map, h]; rfl
  have hbl : BV.length = sp.length := by rw [hBV, List.length_map]
  refine dc_it walk_keys (fun i H' => Same HL H' ∧ H' Db = some (.dK (BV.take i))) ⟨(Same.refl HL).put nDb, upd_same⟩ (fun _ _ _ h => h.1 _ _ eL) ?_ ?_
  · rintro i v0 H4 H3 hi ⟨s3, e3⟩ ⟨rfl, k, v, hkvi, rfl⟩
    obtain ⟨qq, hqq, hk1, _⟩ := hkv.get hkvi
    have hk1 : k = .inr qq.1 := hk1
    subst hk1
    have hmem := List.mem_of_getElem? hqq
    refine ⟨rfl, yes_ ⟨_, rfl, _, rfl, x, dx, _, rfl, (hTL.same s3).o, rfl, _, rfl, N, x, dx, b, D, dd, us, xs, f, rl, qq.1, rfl, hTL.same s3, hnd, (hso _ hmem).2, hd, hz, fun H5 s5 => ?_⟩⟩
    rw [hL]
    refine ⟨_, .inr qq.1, rfl, s5 _ _ e3, small1000 (by rw [List.length_take]; omega), (s3.trans s5).put nDb, ?_⟩
    rw [upd_same, putK_new _ (valV_take hbn (hba i qq hqq)), take_more (hba i qq hqq)]
  rintro H3 ⟨s3, e3⟩
  rw [hlen, ← hbl, List.take_length] at e3
  refine ⟨s3 _ _ eL, ?_⟩
  have s13 : Same H1 (upd H3 Ds (.dK kvs)) := unlock_same (od := od) eDs (by rw [hHL]; exact s3)
  have e4 : (upd H3 Ds (.dK kvs)) Db = some (.dK BV) := by rw [upd_ne hDb]; exact e3
  generalize upd H3 Ds (.dK kvs) = H4 at s13 e4 ⊢
  clear hTL xL s3 e3 eL nDb hHL HL
  have s04 := s1.trans s13
  refine ⟨Nat.zero_le _, fun Df nDf => ?_⟩
  have s5 : Same H4 (upd H4 Df (.lst [])) := (Same.refl H4).put nDf
  have e5 : (upd H4 Df (.lst [])) Df = some (.lst []) := upd_same
  have nD0 : H Df = none := s04.free nDf
  generalize upd H4 Df (.lst []) = H5 at s5 e5 ⊢
  have s05 := s04.trans s5
  have hS5 := hS.same s05
  obtain ⟨dy5, yb5, yd5, ykvs5, hy5, _⟩ := id hS5
  have hper1 := perN_pos (fun q hq => (hso q hq).1)
  have hper2 := perN_le (fun q hq => (hso q hq).1)
  refine ⟨_, rfl, y, dy5, _, rfl, hy5, N, y, xs, f, rl, sp, rfl, hS5, _, rfl, by omega, by omega, for_it walk_range (fun i σ H' => ∃ (y3 y6 y7 y8 : Option V), σ = [some (.ref y), some (.ref x), some (.ref Ds), y3, some (.ref Db), some (.ref Df), y6, y7, y8] ∧ Same H H' ∧ H' Df = some (.lst ((List.range i).map fun d => V.int (forceN f L sp (d : Nat)))) ∧ H' Ds = some (.dK kvs) ∧ H' Db = some (.dK BV) ∧ All2 (SpKv K H') kvs sp)
    ⟨_, _, _, _, rfl, s05, e5, s5 _ _ (s13 _ _ eDs), s5 _ _ e4, hkv.mono fun _ _ z => z.same (N := N) (s13.trans s5).keeps⟩ (fun _ _ _ _ _ => trivial) ?_ ?_⟩
  · rintro i v0 σ H6' H6 hi ⟨y3, y6, y7, y8, rfl, s6, e6, eDs6, eDb6, hkv6⟩ ⟨rfl, hyv⟩
    have hyv : v0 = V.int (i : Nat) := by rw [hyv]; show V.int (0 + (i : Nat)) = _; rw [Int.zero_add]
    subst hyv
    have hi : i < perN sp := by simpa using hi
    have hdist : Df ≠ Ds := fun z => by rw [z, eDs6] at e6; cases e6
    have hdist2 : Db ≠ Ds ∨ BV = kvs := by
      by_cases z : Db = Ds
      · rw [z, eDs6] at eDb6; exact .inr (HO.dK.inj (Option.some.inj eDb6)).symm
      · exact .inl z
    refine ⟨Ds, _, eDs6, trivial, fun od2 => ?_⟩
    have kL : Keeps N H6 (upd H6 Ds (.frz od2 (.dK kvs))) := keeps_dk eDs6 rfl
    have hkvL := hkv6.mono fun _ _ z => z.same kL
    have eDbL : (upd H6 Ds (.frz od2 (.dK kvs))) Db = some (.dK BV) := by rw [upd_ne hDb]; exact eDb6
    have eDfL : (upd H6 Ds (.frz od2 (.dK kvs))) Df = H6 Df := by rw [upd_ne hdist]
    generalize hHM : upd H6 Ds (.frz od2 (.dK kvs)) = HM at hkvL eDbL eDfL ⊢
    have eM : HM Ds = some (.frz od2 (.dK kvs)) := by rw [← hHM]; exact upd_same
    refine ⟨_, rfl, Ds, od2, kvs, rfl, eM, for_it walk_items (fun j σ H' => ∃ (y3 y8 : Option V), σ = [some (.ref y), some (.ref x), some (.ref Ds), y3, some (.ref Db), some (.ref Df), some (.int (i : Nat)), some (.int (goneN f L (i : Nat) (sp.take j) 0)), y8] ∧ Same HM H') ⟨_, _, rfl, Same.refl _⟩ (fun _ _ _ _ ⟨_, _, _, s⟩ => s _ _ eM) ?_ ?_⟩
    · rintro j v0 σ H7 H8 hj ⟨y3, y8, rfl, s7⟩ ⟨Tt, v1, v2, rfl, nT, rfl, h1, h2⟩
      have h1 : kvs[j]?.map (fun kv => kV kv.1) = some v1 := h1
      have h2 : kvs[j]?.map Prod.snd = some v2 := h2
      cases hkvj : kvs[j]? with
      | none => rw [hkvj] at h1; cases h1
      | some kv =>
        rw [hkvj] at h1 h2
        obtain ⟨q0, hq0, hk0, t, hv, ht⟩ := hkvL.get hkvj
        obtain rfl : kV kv.1 = v1 := Option.some.inj h1
        obtain rfl : kv.2 = v2 := Option.some.inj h2
        have s8 : Same HM (upd H7 Tt (.tup [kV kv.1, kv.2])) := s7.put' nT
        have eT : (upd H7 Tt (.tup [kV kv.1, kv.2])) Tt = some (.tup [kV kv.1, kv.2]) := upd_same
        generalize upd H7 Tt (.tup [kV kv.1, kv.2]) = H8 at s8 eT ⊢
        have hkk : kV kv.1 = .str q0.1 := by rw [hk0]; rfl
        have hok0 := (hso q0 (List.mem_of_getElem? hq0)).1
        refine ⟨Tt, _, rfl, sqT_of eT, rfl, _, _, rfl, _, _, rfl, rfl, ?_⟩
        refine ⟨_, rfl, _, rfl, t, q0.2, (i : Nat), (by rw [hv]; rfl), s8.tup ht, hok0.p1, _, rfl, ?_⟩
        have hg : goneN f L (i : Nat) (sp.take (j + 1)) 0 = if inS q0.2 (i : Nat) = true then goneN f L (i : Nat) (sp.take j) 0 else Builtin.bitOr (goneN f L (i : Nat) (sp.take j) 0) (insN f L q0.1) := by rw [take_more hq0]; exact gone_snoc
        cases hin : inS q0.2 ((i : Nat) : Int) with
        | true =>
          rw [if_pos hin] at hg
          exact iteF ⟨_, _, by rw [hg]; rfl, s8⟩
        | false =>
          rw [if_neg (by rw [hin]; exact Bool.false_ne_true)] at hg
          refine iteT ⟨_, rfl, _, rfl, _, rfl, Db, .int (insN f L q0.1), rfl, .inl ⟨BV, .inr q0.1, .inl (s8 _ _ eDbL), hkk, (valV_at hbn (hba j q0 hq0)).symm⟩, _, _, rfl, rfl, ?_⟩
          exact ⟨_, _, by rw [hg]; rfl, s8⟩
    · rintro σ H7 ⟨y3, y8, rfl, s7⟩
      refine ⟨s7 _ _ eM, ?_⟩
      have s67 : Same H6 (upd H7 Ds (.dK kvs)) := unlock_same (od := od2) eDs6 (by rw [hHM]; exact s7)
      rw [hlen, List.take_length]
      have e7 := s67 _ _ e6
      have eDb7 := s67 _ _ eDb6
      have eDs7 := s67 _ _ eDs6
      have hkv7 := hkv6.mono fun _ _ z => z.same (N := N) s67.keeps
      have s07 := s6.trans s67
      generalize upd H7 Ds (.dK kvs) = H8 at e7 eDb7 eDs7 hkv7 s07 ⊢
      have hT8 := hT.same s07
      have hbf : Db ≠ Df := fun z => by rw [z, e7] at eDb7; cases eDb7
      refine ⟨_, rfl, .inl ⟨rfl, _, sqL_of e7⟩, _, rfl, x, TT, dx, ttF b D (2 ^ L.length - 1) dd, .int (2 ^ L.length - 1), rfl, (by have h := hT8.o; rw [hL] at h; exact h), CLt, nE, rfl, _, rfl, _, rfl, _, _, rfl, rfl, Df, _, _, rfl, rfl, e7, (by rw [sizeLine_eq, List.length_map, List.length_range]; omega), ?_⟩
      have kk : Keeps NoL H8 (upd H8 Df (.lst (((List.range i).map fun d => V.int (forceN f L sp (d : Nat))) ++ [V.int (forceN f L sp (i : Nat))]))) := keeps_own e7 id
      refine ⟨_, _, _, _, rfl, s07.put nD0, ?_, by rw [upd_ne hdist.symm]; exact eDs7, by rw [upd_ne hbf]; exact eDb7, hkv7.mono fun _ _ z => z.same kk⟩
      rw [upd_same, List.range_succ, List.map_append]
      rfl
  · rintro σ H6 ⟨y3, y6, y7, y8, rfl, s6, e6, _⟩
    have e6 : H6 Df = some (.lst ((List.range (perN sp)).map fun d => V.int (forceN f L sp (d : Nat)))) := by simpa using e6
    exact ⟨_, rfl, q H6 Df s6 (by rw [hL]; exact e6)⟩
end
end Sc
namespace Sc
open PySem PySem.Spec PyProof.Rows L2
theorem sc_Book___call__ : FnScope ["self", "case", "way"] ["self", "case"] (defScope s_Book___call__) := ⟨rfl, rfl, rfl, by decide +kernel, rfl, by decide +kernel, by decide +kernel⟩
/-- the ruling of a case -/
def RF.ruled (cs : List Str) (f : RF) (rl : Str) : Str := match (f.way cs).getLast? with
  | some n => n.rl
  | none => rl
section
variable {P : Program} {w : World} {K : PySem.W.Frag} {mg : Str → Option Value} {base : Heap} {C R B CC : Addr}
def sp_bcall (K : PySem.W.Frag) (C R B CC : Addr) : Sp := fun vs H Q E => ∃ (N : Addr → Prop) (o c : Addr) (xs : List Str) (f : RF) (rl : Str) (cs : List Str), vs = [.ref o, .ref c] ∧ BookAt K C R B N H o xs f rl ∧ f.size ≤ 900 ∧ f.every NdOk ∧ SqT K H c (cs.map V.str) ∧ cs.length ≤ 1000 ∧
  (∀ i, firstOut xs cs = some i → errIx CC i H E) ∧ (firstOut xs cs = none → ∀ H', Same H H' → Q (.str (f.ruled cs rl)) H')
theorem ok_bcall {f : Addr} {fd : FuncData} (F : Fun K "__call__" "Book.__call__" s_Book___call__ f fd) (Bl : Blt mg) (T : Cls K B) (n1 : NoAttr K B "_facts") (n2 : NoAttr K B "_rules") (n3 : NoAttr K B "_ruling") (kR : RuleX P w K mg base R)
    (c_check_case : Cal P w K mg base (L2.CX P w) 3 "check_case" ["facts", "case"] (sp_check_case K CC)) (c_looked_into : Cal P w K mg base CX0 9 "looked_into" ["rules", "case"] (sp_looked K C R)) :
    FnOk P w K mg base (L2.CX P w) 11 f fd ["self", "case"] (sp_bcall K C R B CC) := by
  refine F.okX sc_Book___call__ (fun vs H Q E h => by obtain ⟨N, o, c, xs, f, rl, cs, rfl, _⟩ := h; rfl) (fun cdv A outer s H vs Q E hr h => ?_)
  obtain ⟨N, o, c, xs, f, rl, cs, rfl, ⟨dx, a, p, l, ws, us, ho, hS, hP, hF, hl, hus⟩, hz, hev, hC, hcl, hbad, hok⟩ := h
  refine ⟨_, (pss_cons (ps_expr (pe_calX c_check_case (hr.mono (by decide)) (takes_of rfl rfl rfl rfl) (pa_cons (pe_fld (pv 0) rfl) (pa_cons (pv 1) pa_nil))))
      (pss_cons (ps_set (i := 2) sc_Book___call__.nd rfl (Or.inl rfl) (pe_cal c_looked_into (hr.mono (by decide)) (pa_cons (pe_fld (pv 0) rfl) (pa_cons (pv 1) pa_nil))))
      (pss_one (ps_ret (pe_ifExp (pt_tru (pv 2) (by intro _; rfl)) (pe_cprop kR.ruling kR.cls (hr.mono (by decide)) (pe_ix ix_list (pv 2) (pe_un un_neg pe_int) (fun _ _ => rfl))) (pe_fld (pv 0) rfl)))))), ?_⟩
  refine ⟨_, rfl, o, B, dx, _, _, rfl, ho, T, n1, rfl, _, rfl, a, c, xs, cs, rfl, hS, hC, hcl, fun hn H1 s1 => ?_, fun i hi => hbad i hi⟩
  have ho1 := s1 _ _ ho
  refine ⟨_, rfl, o, B, dx, _, _, rfl, ho1, T, n2, rfl, _, rfl, N, p, c, cs, ws, f, rfl, s1.tup hP, hF.keeps s1.keeps, s1.tup hC, hz, hev, fun H2 D us2 s2 e2 hu2 => ?_⟩
  have ho2 := s2 _ _ ho1
  refine ⟨_, rfl, _, .inl ⟨_, sqL_of e2, rfl⟩, bcase (fun c1 => ?_) (fun c1 => ?_)⟩
  · obtain ⟨ns, n, hq⟩ : ∃ ns n, f.way cs = ns ++ [n] := (List.eq_nil_or_concat (f.way cs)).elim (fun z => by
      rw [z] at hu2
      cases hu2
      cases c1) fun ⟨a, b, e⟩ => ⟨a, b, by rw [e, List.concat_eq_append]⟩
    have hr0 := hok hn H2 (s1.trans s2)
    unfold RF.ruled at hr0
    rw [hq, List.getLast?_concat] at hr0
    rw [hq] at hu2
    have hul2 := hu2.len
    rw [List.length_append, List.length_singleton] at hul2
    obtain ⟨vs, v, hv⟩ : ∃ vs v, us2 = vs ++ [v] := (List.eq_nil_or_concat us2).elim (fun z => by rw [z] at hul2; cases hul2) fun ⟨a, b, e⟩ => ⟨a, b, by rw [e, List.concat_eq_append]⟩
    subst hv
    rw [List.length_append, List.length_singleton] at hul2
    obtain ⟨q2, h2, o2, rfl, dx2, k2, pe2, l2, ws2, ho3, _⟩ := hu2.get (show (vs ++ [v])[vs.length]? = some v from List.getElem?_concat_length)
    rw [show vs.length = ns.length by omega, List.getElem?_concat_length] at h2
    cases h2
    refine ⟨_, rfl, 1, rfl, D, _, _, _, rfl, rfl, sqL_of e2, atI_last _ _, ?_⟩
    exact ⟨o2, dx2, _, rfl, ho3, o2, dx2, _, _, rfl, ho3, rfl, hr0⟩
  · have hw : f.way cs = [] := by
      cases hw : f.way cs with
      | nil => rfl
      | cons n r =>
        rw [hw] at hu2
        cases hu2
        cases c1
    have hr0 := hok hn H2 (s1.trans s2)
    unfold RF.ruled at hr0
    rw [hw] at hr0
    exact ⟨_, rfl, o, B, dx, _, _, rfl, ho2, T, n3, rfl, hr0⟩
end
end Sc
namespace Sc
open PySem PySem.Spec PyProof.Rows L2
/-- a case by its number meets a cube -/
theorem meets_num {xs hs fs : List Str} {j : Nat} (hj : j < 2 ^ xs.length) (nd : xs.Nodup) (h1 : List.Sublist hs xs) (h2 : List.Sublist fs xs) (dj : ∀ x ∈ hs, ¬ x ∈ fs) :
    decide (Builtin.bitAnd (j : Int) (Builtin.bitOr (bitsOf xs hs) (bitsOf xs fs)) = bitsOf xs hs) = meets hs fs (namesOf xs (j : Nat)) := by
  have hn : namesOf xs (j : Nat) = xs.filter fun x => bitAt (j : Nat) (xs.idxOf x) := names_filter fun k hk => by rw [nd.idxOf_getElem]
  have hm : ∀ k (hk : k < xs.length), xs[k] ∈ namesOf xs (j : Nat) ↔ bitAt (j : Nat) k = true := fun k hk => by
    rw [hn, List.mem_filter, nd.idxOf_getElem]
    exact ⟨fun h => h.2, fun h => ⟨List.getElem_mem hk, h⟩⟩
  obtain ⟨a0, a1⟩ := bits_range (xs := xs) (cs := hs)
  obtain ⟨b0, b1⟩ := bits_range (xs := xs) (cs := fs)
  have eo := bitOr_nn a0 b0
  have ea : Builtin.bitAnd (j : Int) (Builtin.bitOr (bitsOf xs hs) (bitsOf xs fs)) = ((j &&& ((bitsOf xs hs).toNat ||| (bitsOf xs fs).toNat) : Nat) : Int) := by
    rw [eo]
    rfl
  have p : (((2 : Nat) ^ xs.length : Nat) : Int) = (2 : Int) ^ xs.length := by push_cast; rfl
  have hlt : (j &&& ((bitsOf xs hs).toNat ||| (bitsOf xs fs).toNat)) < 2 ^ xs.length := Nat.lt_of_le_of_lt Nat.and_le_left hj
  have key : Builtin.bitAnd (j : Int) (Builtin.bitOr (bitsOf xs hs) (bitsOf xs fs)) = bitsOf xs hs ↔ ∀ k (hk : k < xs.length), (bitAt (j : Nat) k && (decide (xs[k] ∈ hs) || decide (xs[k] ∈ fs))) = decide (xs[k] ∈ hs) := by
    constructor
    · intro e k hk
      have h := congrArg (bitAt · k) e
      simp only [band_bit, bor_bit, held_bit hk] at h
      exact h
    · intro h
      refine bits_uniq xs.length _ _ (by rw [ea]; exact Int.natCast_nonneg _) (by rw [ea]; omega) a0 a1 fun k hk => ?_
      rw [band_bit, bor_bit, held_bit hk, held_bit hk]
      exact h k hk
  rw [Bool.eq_iff_iff, decide_eq_true_iff, key, meets_iff17]
  constructor
  · intro h
    constructor
    · intro x hx
      obtain ⟨k, hk, rfl⟩ := List.mem_iff_getElem.mp (h1.subset hx)
      have := h k hk
      rw [decide_eq_true hx, Bool.true_or, Bool.and_true] at this
      exact (hm k hk).mpr this
    · intro x hx z
      obtain ⟨k, hk, rfl⟩ := List.mem_iff_getElem.mp (h2.subset hx)
      have := h k hk
      rw [decide_eq_true hx, decide_eq_false fun y => dj _ y hx, (hm k hk).mp z] at this
      cases this
  · rintro ⟨q1, q2⟩ k hk
    by_cases c1 : xs[k] ∈ hs
    · rw [(hm k hk).mp (q1 _ c1), decide_eq_true c1]
      rfl
    · rw [decide_eq_false c1, Bool.false_or]
      by_cases c2 : xs[k] ∈ fs
      · have : bitAt (j : Nat) k = false := Bool.eq_false_iff.mpr fun z => q2 _ c2 ((hm k hk).mpr z)
        rw [this, Bool.false_and]
      · rw [decide_eq_false c2, Bool.and_false]
/-- what the first row that is met tells is the ruling -/
theorem find_ruled {xs cs : List Str} {f : RF} {rl : Str} (hev : f.every fun n => (∀ x ∈ n.hs, x ∈ xs) ∧ ∀ x ∈ n.fs, x ∈ xs) : (match (f.flat xs [] []).find? (fun n => n.met cs) with | some n => n.rl | none => rl) = f.ruled cs rl := by
  have h := RF.flat_find (xs := xs) (cs := cs) (ws := []) (bs := []) (f := f) (fun _ h => nomatch h) (fun _ h => nomatch h) (fun _ h => nomatch h) (fun _ h => nomatch h) hev
  unfold RF.ruled
  cases h1 : (f.flat xs [] []).find? (fun n => n.met cs) with
  | none =>
    rw [h1] at h
    cases h2 : (f.way cs).getLast? with
    | none => rfl
    | some m => rw [h2] at h; cases h
  | some n =>
    rw [h1] at h
    cases h2 : (f.way cs).getLast? with
    | none => rw [h2] at h; cases h
    | some m =>
      rw [h2] at h
      injection h with h
      injection h with h3 h4
theorem find_congr {α : Type} {p q : α → Bool} : ∀ {l : List α}, (∀ a ∈ l, p a = q a) → l.find? p = l.find? q
  | [], _ => rfl
  | a :: r, h => by
    rw [List.find?_cons, List.find?_cons, h a List.mem_cons_self, find_congr fun b hb => h b (List.mem_cons_of_mem _ hb)]
/-- the ruling by the lines in force is that of the book of the day -/
theorem line_ruled {xs : List Str} {f : RF} {rl : Str} {sp : List (Str × Spn)} {day : Int} {m : Nat} (nd : xs.Nodup) (hnd : f.names.Nodup) (hev : f.every fun n => (∀ x ∈ n.hs, x ∈ xs) ∧ ∀ x ∈ n.fs, x ∈ xs) (hdj : f.every fun n => ∀ x ∈ n.hs, ¬ x ∈ n.fs) (hm : m < 2 ^ xs.length) :
    lineRul xs (f.flat xs [] []) rl (m : Nat) (keepB f sp day) = (RF.filt (stays sp day) f).ruled (namesOf xs (m : Nat)) rl := by
  have hev2 : (RF.filt (stays sp day) f).every fun n => (∀ x ∈ n.hs, x ∈ xs) ∧ ∀ x ∈ n.fs, x ∈ xs := RF.filt_every (fun n e h => h) _ hev
  rw [← find_ruled hev2, RF.flat_filt hnd, List.find?_filter]
  unfold lineRul
  have hc : (f.flat xs [] []).find? (fun n => metB xs (m : Nat) n && keepB f sp day n) = (f.flat xs [] []).find? (fun n => decide (decide (n.nm ∈ (RF.filt (stays sp day) f).names) = true ∧ n.met (namesOf xs (m : Nat)) = true)) := by
    refine find_congr fun n hn => ?_
    obtain ⟨d1, d2, d3, _⟩ := RF.flat_dj (xs := xs) (ws := []) (bs := []) (f := f) (fun _ h => nomatch h) hdj n hn
    show (decide _ && _) = _
    rw [meets_num hm nd d1 d2 d3, Bool.and_comm, Bool.eq_iff_iff, Bool.and_eq_true, decide_eq_true_iff]
    exact Iff.rfl
  rw [hc]
  all_goals first | rfl | (generalize (f.flat xs [] []).find? _ = o; cases o <;> rfl)
end Sc
namespace Sc
open PySem PySem.Spec PyProof.Rows L2
theorem sc_rulings_of_period : FnScope ["seasons", "case", "table", "number", "force"] ["seasons", "case"] (defScope s_rulings_of_period) := ⟨rfl, rfl, rfl, by decide +kernel, rfl, by decide +kernel, by decide +kernel⟩
structure Mkr0 (P : Program) (w : World) (K : PySem.W.Frag) (mg : Str → Option Value) (base : Heap) (k : Nat) (x : Str) (C : Addr) (ps : List Str) (sp : Sp) : Prop where
  ex : ∃ (f : Addr) (fd : FuncData), Mk K C f ∧ FnOk P w K mg base CX0 k f fd ps sp ∧ mg x = some (.ref C) ∧ Binds K fd ps []
section
variable {X : Cx} {k : Nat} {x : Str} {C : Addr} {ps : List Str} {sp : Sp} {e : Expr} {es : List Expr} {t : TA} {p pos : Pos}
theorem pe_mk0 (M : Mkr0 X.prog X.w X.K X.mg X.base k x C ps sp) (hr : Room (k + 1) X.A) (ha : PA X (e :: es) t) (hg : Gl X x := by rfl) (hdb : (x == ("__debug__" : Str)) = false := by decide)
    (he : starEach (e :: es) X.env = (false, eval e X.env) :: starEach es X.env := by rfl) (hpl : (backTo pos (starEach es X.env)).any (·.1) = false := by rfl) : PE X (.Call (.Name x p) (e :: es) [] pos) (tMake C sp [] E0 t) := by
  obtain ⟨f, fd, hk, F, hm, hb⟩ := M.ex
  exact pe_make hk F hr hg hm hb .nil pass0 ha hdb he hpl
end
section
variable {P : Program} {w : World} {K : PySem.W.Frag} {mg : Str → Option Value} {base : Heap} {C R B TT SE CU : Addr}
theorem filt_sub {cs xs : List Str} (s : List.Sublist cs xs) : xs.Nodup → xs.filter (fun x => decide (x ∈ cs)) = cs := by
  induction s with
  | slnil => exact fun _ => rfl
  | cons a s ih =>
    intro nd
    obtain ⟨n1, n2⟩ := List.nodup_cons.mp nd
    rw [List.filter_cons, if_neg (by rw [decide_eq_true_iff]; exact fun h => n1 (s.subset h))]
    exact ih n2
  | cons_cons a s ih =>
    intro nd
    obtain ⟨n1, n2⟩ := List.nodup_cons.mp nd
    rw [List.filter_cons, if_pos (decide_eq_true List.mem_cons_self)]
    congr 1
    rw [← ih n2]
    refine List.filter_congr fun x hx => ?_
    rw [Bool.eq_iff_iff, decide_eq_true_iff, decide_eq_true_iff, ih n2, List.mem_cons]
    exact ⟨fun h => h.elim (fun e => absurd (e ▸ hx) n1) id, .inr⟩
theorem names_bits {cs xs : List Str} (s : List.Sublist cs xs) (nd : xs.Nodup) : namesOf xs (bitsOf xs cs) = cs := by
  rw [names_filter (p := fun x => decide (x ∈ cs)) fun j hj => held_bit hj]
  exact filt_sub s nd
/-- what is asked of seasons that are drawn -/
structure SeaOk (xs : List Str) (f : RF) (sp : List (Str × Spn)) : Prop where
  g : xs.Nodup
  xl : xs.length ≤ 12
  nd : f.names.Nodup
  dp : f.dep ≤ 11
  sz : f.size ≤ 800
  sub : f.every fun n => (∀ x ∈ n.hs, x ∈ xs) ∧ ∀ x ∈ n.fs, x ∈ xs
  dj : f.every fun n => ∀ x ∈ n.hs, ¬ x ∈ n.fs
  sn : (sp.map fun q => q.1).Nodup
  sl : sp.length ≤ 100
  so : ∀ q ∈ sp, SpnOk q.2 ∧ q.1 ∈ f.names
def sp_rop (K : PySem.W.Frag) (C R B TT SE : Addr) : Sp := fun vs H Q _ => ∃ (N : Addr → Prop) (y c : Addr) (xs : List Str) (f : RF) (rl : Str) (sp : List (Str × Spn)) (cs : List Str), vs = [.ref y, .ref c] ∧ SeaAt K C R B SE N H y xs f rl sp ∧ SeaOk xs f sp ∧ (∀ l, H l = none → N l) ∧ SqT K H c (cs.map V.str) ∧ List.Sublist cs xs ∧
  ∀ H' D', Same H H' → H' D' = some (.lst ((List.range (perN sp)).map fun d => V.str ((RF.filt (stays sp (d : Nat)) f).ruled cs rl))) → Q (.ref D') H'
theorem ok_rop {f : Addr} {fd : FuncData} (F : Fun K "rulings_of_period" "rulings_of_period" s_rulings_of_period f fd) (Bl : Blt mg) (CLt : Cls K TT) (CLe : Cls K SE) (kB : BookX P w K mg base B) (k_Timetable : Mkr0 P w K mg base 18 "Timetable" TT ["self", "book"] (sp_ttInit K C R B TT)) (mBk : PropM P w K mg base SE "book" 1 (sp_seaBook K C R B SE)) (mt_ruling_on : MethR P w K mg base 4 TT "ruling_on" ["self", "number", "force"] (sp_on K C R B TT)) (c_forces_of_period : Cal P w K mg base CX0 18 "forces_of_period" ["seasons", "table"] (sp_forces K C R B TT SE)) (c_bits_of : Cal P w K mg base CX0 1 "bits_of" ["facts", "names"] (sp_bits_of K)) : FnOk P w K mg base CX0 20 f fd ["seasons", "case"] (sp_rop K C R B TT SE) := by
  refine F.ok sc_rulings_of_period (fun vs H Q E h => by obtain ⟨N, y, c, xs, f, rl, sp, cs, rfl, _⟩ := h; rfl) (fun cdv A outer s H vs Q E hr h => ?_)
  obtain ⟨N, y, c, xs, f, rl, sp, cs, rfl, hS, hO, hN, hC, hsub, q⟩ := h
  refine ⟨_, (pss_cons (ps_set (i := 2) sc_rulings_of_period.nd rfl (Or.inr rfl) (pe_mk0 k_Timetable (hr.mono (by decide)) (pa_cons (pe_propM mBk (hr.mono (by decide)) CLe (pv 0)) pa_nil)))
      (pss_cons (ps_set (i := 3) sc_rulings_of_period.nd rfl (Or.inr rfl) (pe_cal c_bits_of (hr.mono (by decide)) (pa_cons (pe_cprop kB.facts kB.cls (hr.mono (by decide)) (pe_propM mBk (hr.mono (by decide)) CLe (pv 0))) (pa_cons (pv 1) pa_nil))))
      (pss_one (ps_ret (pe_lc (own := [("force", 4)]) (g := gName 4) (tt := tYes) rfl sc_rulings_of_period.nd (pi_list (pe_cal c_forces_of_period (hr.mono (by decide)) (pa_cons (pv 0) (pa_cons (pv 2) pa_nil)))) (blkOk_by (own := [("force", 4)]) (N := ["seasons", "case", "table", "number", "force"]) (sc := defScope s_rulings_of_period) (by decide +kernel)) (fun _ _ _ _ _ => (pg_name (i := 4) sc_rulings_of_period.nd rfl (Or.inl rfl))) (fun _ _ _ _ _ => pts_nil) (fun _ _ _ _ _ => (pe_.re (pe_me CLt mt_ruling_on (hr.mono (by decide)) (pv 2) (pa_cons (pv 3) (pa_cons (pv 4) pa_nil))) (by first | (dsimp only [Cx.blk]; done) | exact rfl)))))))), ?_⟩
  obtain ⟨dy, yb, yd, ykvs, hy, _⟩ := id hS
  have hxl := hO.xl
  have hdp := hO.dp
  have hsz := hO.sz
  have hper2 := perN_le (fun q hq => (hO.so q hq).1)
  refine ⟨_, rfl, y, dy, _, rfl, hy, N, y, xs, f, rl, sp, rfl, hS, fun b hB => ?_⟩
  intro x dx nx ndx nex
  have s1 : Same H (upd (upd H dx (.own x)) x (.ins TT dx [])) := ((Same.refl H).put ndx).put nx
  generalize hH1 : upd (upd H dx (.own x)) x (.ins TT dx []) = H1 at s1
  have hx1 : H1 x = some (.ins TT dx []) := by rw [← hH1]; exact upd_same
  refine ⟨N, x, dx, b, xs, f, rl, rfl, hx1, hB.keeps s1.keeps, (fun l hl => hN l (s1.free hl)), by omega, by omega, by omega, hO.sub, fun H2 D dd us x2 ndd1 hT hM => ⟨rfl, ?_⟩⟩
  have ndd : H dd = none := s1.free ndd1
  have s02 : Same H H2 := fun b' o' e => x2 b' o' (fun z => by rw [z, nx] at e; cases e) (s1 _ _ e)
  have hS2 := hS.same s02
  obtain ⟨dy2, yb2, yd2, ykvs2, hy2, _⟩ := id hS2
  refine ⟨_, rfl, y, dy2, _, rfl, hy2, N, y, xs, f, rl, sp, rfl, hS2, fun b2 hB2 => ?_⟩
  obtain ⟨dxb, a, pr, l, ws, us2, hob, hSa, _⟩ := id hB2
  refine ⟨b2, dxb, _, rfl, hob, b2, dxb, _, _, rfl, hob, rfl, _, rfl, a, c, xs, cs, rfl, hSa, s02.tup hC, by omega, fun H3 s3 => ?_⟩
  have hT3 := hT.same s3
  have s03 := s02.trans s3
  refine ⟨_, rfl, _, rfl, N, y, x, dx, b, D, dd, us, xs, f, rl, sp, rfl, hS.same s03, hT3, hO.nd, hdp, hsz, hO.sn, hO.sl, hO.so, fun H4 Df s4 eDf => ?_⟩
  have hT4 := hT3.same s4
  have s04 := s03.trans s4
  obtain ⟨kvs0, hd0, hl0, hv0⟩ := hM
  have hd4 := s4 _ _ (s3 _ _ hd0)
  refine ⟨Df, rfl, ⟨_, sqL_of eDf⟩, fun D5 nD5 => lc_it walk_list (fun i H' => SameX dd H4 H' ∧ MetAt H' dd xs (f.flat xs [] []) i ∧ H' D5 = some (.lst ((List.range i).map fun d => V.str (lineRul xs (f.flat xs [] []) rl (bitsOf xs cs) (keepB f sp (d : Nat)))))) ⟨?_, ?_, upd_same⟩ (fun _ _ _ h => sqL_of (h.1 _ _ (fun z => by rw [z, hd4] at eDf; cases eDf) eDf)) ?_ ?_⟩
  · exact fun b' o' _ e => ((Same.refl H4).put nD5) _ _ e
  · exact ⟨kvs0, ((Same.refl H4).put nD5) _ _ hd4, hl0, hv0⟩
  · rintro i v Ha Hb hi ⟨xb, hMb, eb⟩ ⟨rfl, hv⟩
    rw [List.getElem?_map] at hv
    have hi : i < perN sp := by simpa using hi
    rw [List.getElem?_range hi] at hv
    obtain rfl : V.int (forceN f (f.flat xs [] []) sp (i : Nat)) = v := Option.some.inj hv
    have hTb := hT4.sx xb hd4
    refine ⟨rfl, yes_ ⟨_, rfl, x, dx, _, rfl, hTb.o, rfl, _, rfl, _, rfl, N, x, dx, b, D, dd, us, xs, f, rl, _, _, i, keepB f sp (i : Nat), rfl, hTb, hMb, by omega, by omega, fun j n hj => force_bit hO.nd hj, fun H6 x6 hM6 => ?_⟩⟩
    have hMb' := hMb
    obtain ⟨kb, hdb, _, _⟩ := hMb'
    have d5 : D5 ≠ dd := fun z => by rw [z, hdb] at eb; cases eb
    have e6 := x6 _ _ d5 eb
    obtain ⟨k6, hd6, hl6, hv6⟩ := hM6
    refine ⟨_, e6, by rw [List.length_map, List.length_range, sizeLine_eq]; omega, ?_, ⟨k6, by rw [upd_ne d5.symm]; exact hd6, hl6, hv6⟩, ?_⟩
    · exact fun b' o' ne e => by rw [upd_ne (ne_of_none e nD5)]; exact x6 _ _ ne (xb _ _ ne e)
    · rw [upd_same, List.range_succ, List.map_append]
      rfl
  · rintro H5 ⟨x5, hM5, e5⟩
    have e5 : H5 D5 = some (.lst ((List.range (perN sp)).map fun d => V.str (lineRul xs (f.flat xs [] []) rl (bitsOf xs cs) (keepB f sp (d : Nat))))) := by simpa using e5
    refine q H5 D5 (fun b' o' e => x5 b' o' (fun z => by rw [z, ndd] at e; cases e) (s04 _ _ e)) ?_
    rw [e5]
    congr 2
    refine List.map_congr_left fun d _ => ?_
    obtain ⟨b0, b1⟩ := bits_range (xs := xs) (cs := cs)
    have eb : bitsOf xs cs = (((bitsOf xs cs).toNat : Nat) : Int) := (Int.toNat_of_nonneg b0).symm
    have hlt : (bitsOf xs cs).toNat < 2 ^ xs.length := by
      have p : (((2 : Nat) ^ xs.length : Nat) : Int) = (2 : Int) ^ xs.length := by push_cast; rfl
      omega
    congr 1
    rw [eb, line_ruled hO.g hO.nd hO.sub hO.dj hlt, ← eb, names_bits hsub hO.g]
end
end Sc
namespace Sc
open PySem PySem.Spec PyProof.Rows L2
theorem sc_check_word : FnScope ["ruling"] ["ruling"] (defScope s_check_word) := ⟨rfl, rfl, rfl, by decide +kernel, rfl, by decide +kernel, by decide +kernel⟩
theorem sc_next_day : FnScope ["seasons", "case", "ruling", "day", "rulings", "later"] ["seasons", "case", "ruling", "day"] (defScope s_next_day) := ⟨rfl, rfl, rfl, by decide +kernel, rfl, by decide +kernel, by decide +kernel⟩
theorem sc_check_period : FnScope ["seasons"] ["seasons"] (defScope s_check_period) := ⟨rfl, rfl, rfl, by decide +kernel, rfl, by decide +kernel, by decide +kernel⟩
section
variable {P : Program} {w : World} {K : PySem.W.Frag} {mg : Str → Option Value} {base : Heap} {C R B TT SE CU : Addr}
def sp_cper (K : PySem.W.Frag) (C R B SE : Addr) : Sp := fun vs H Q _ => ∃ (N : Addr → Prop) (y : Addr) (xs : List Str) (f : RF) (rl : Str) (sp : List (Str × Spn)), vs = [.ref y] ∧ SeaAt K C R B SE N H y xs f rl sp ∧ (∀ q ∈ sp, SpnOk q.2) ∧ Q .non H
theorem ok_cper {f : Addr} {fd : FuncData} {t1 : Tok} (F : Fun K "check_period" "check_period" s_check_period f fd) (Bl : Blt mg) (CLe : Cls K SE) (m_LONGEST_PERIOD : mg "LONGEST_PERIOD" = some (.int 5000 t1)) (mPer : PropM P w K mg base SE "period" 1 (sp_seaPeriod K C R B SE)) : FnOk P w K mg base CX0 3 f fd ["seasons"] (sp_cper K C R B SE) := by
  refine F.ok sc_check_period (fun vs H Q E h => by obtain ⟨N, y, xs, f, rl, sp, rfl, _⟩ := h; rfl) (fun cdv A outer s H vs Q E hr h => ?_)
  obtain ⟨N, y, xs, f, rl, sp, rfl, hS, hso, q⟩ := h
  have hp := perN_le hso
  obtain ⟨dy, yb, yd, ykvs, hy, _⟩ := id hS
  refine ⟨_, (pss_one (ps_if (pt_cmpR op_gt (pe_propM mPer (hr.mono (by decide)) CLe (pv 0)) (pe_glob (v := .int 5000) rfl m_LONGEST_PERIOD ⟨_, rfl⟩) (nomark _)) pss_never pss_nil)), ?_⟩
  refine ⟨_, rfl, y, dy, _, rfl, hy, N, y, xs, f, rl, sp, rfl, hS, _, _, rfl, rfl, ?_⟩
  refine ⟨_, rfl, ?_⟩
  rw [decide_eq_false (show ¬ (5000 : Int) < ((perN sp : Nat) : Int) by omega)]
  first
    | exact ⟨rfl, q⟩
    | exact iteF q
    | exact q
def sp_check_word : Sp := fun vs H Q _ => ∃ x : Str, vs = [.str x] ∧ isName x = true ∧ ∀ H', Same H H' → Q .non H'
theorem ok_check_word {f : Addr} {fd : FuncData} (F : Fun K "check_word" "check_word" s_check_word f fd) (B : Blt mg) (c_is_name : Cal P w K mg base CX0 1 "is_name" ["value"] sp_is_name) : FnOk P w K mg base CX0 2 f fd ["ruling"] sp_check_word := by
  refine F.ok sc_check_word (fun vs H Q E h => by obtain ⟨x, rfl, _⟩ := h; rfl) (fun cdv A outer s H vs Q E hr h => ?_)
  obtain ⟨x, rfl, hx, q⟩ := h
  refine ⟨_, (pss_one (ps_if (pt_not (pt_val (pe_cal c_is_name (hr.mono (by decide)) (pa_cons (pv 0) pa_nil)))) pss_never pss_nil)), ?_⟩
  have := name_len hx
  refine ⟨_, rfl, x, rfl, by rw [sizeLine_eq]; omega, fun H1 s1 => ?_⟩
  rw [hx]
  exact ⟨_, rfl, iteF (q H1 s1)⟩
def sp_nday (K : PySem.W.Frag) (C R B SE : Addr) : Sp := fun vs H Q _ => ∃ (N : Addr → Prop) (y c : Addr) (xs : List Str) (f : RF) (rl r : Str) (sp : List (Str × Spn)) (cs : List Str) (day : Int), vs = [.ref y, .ref c, .str r, .int day] ∧ SeaAt K C R B SE N H y xs f rl sp ∧ SeaOk xs f sp ∧ (∀ l, H l = none → N l) ∧ SqT K H c (cs.map V.str) ∧ List.Sublist cs xs ∧ firstOut xs cs = none ∧ isName r = true ∧ 0 ≤ day ∧ day ≤ lastDay ∧
  ∀ H', Same H H' → Q (match (List.range (perN sp)).find? (fun t => decide ((RF.filt (stays sp (day + (t : Nat))) f).ruled cs rl = r)) with | some t => .int (day + (t : Nat)) | none => .non) H'
theorem ok_nday {f : Addr} {fd : FuncData} {CC : Addr} (F : Fun K "next_day" "next_day" s_next_day f fd) (Bl : Blt mg) (CLe : Cls K SE) (kB : BookX P w K mg base B) (mPer : PropM P w K mg base SE "period" 1 (sp_seaPeriod K C R B SE)) (mBk : PropM P w K mg base SE "book" 1 (sp_seaBook K C R B SE)) (c_check_case : Cal P w K mg base (L2.CX P w) 3 "check_case" ["facts", "case"] (sp_check_case K CC)) (c_check_word : Cal P w K mg base CX0 2 "check_word" ["ruling"] sp_check_word) (c_check_day : Cal P w K mg base CX0 3 "check_day" ["value"] sp_check_day) (c_check_period : Cal P w K mg base CX0 3 "check_period" ["seasons"] (sp_cper K C R B SE)) (c_rulings_of_period : Cal P w K mg base CX0 20 "rulings_of_period" ["seasons", "case"] (sp_rop K C R B TT SE)) : FnOk P w K mg base CX0 22 f fd ["seasons", "case", "ruling", "day"] (sp_nday K C R B SE) := by
  refine F.ok sc_next_day (fun vs H Q E h => by obtain ⟨N, y, c, xs, f, rl, r, sp, cs, day, rfl, _⟩ := h; rfl) (fun cdv A outer s H vs Q E hr h => ?_)
  obtain ⟨N, y, c, xs, f, rl, r, sp, cs, day, rfl, hS, hO, hN, hC, hsub, hout, hr', d0, d1, q⟩ := h
  refine ⟨_, (pss_cons (ps_expr (pe_calN c_check_case (hr.mono (by decide)) (pa_cons (pe_cprop kB.facts kB.cls (hr.mono (by decide)) (pe_propM mBk (hr.mono (by decide)) CLe (pv 0))) (pa_cons (pv 1) pa_nil))))
      (pss_cons (ps_expr (pe_cal c_check_word (hr.mono (by decide)) (pa_cons (pv 2) pa_nil)))
      (pss_cons (ps_expr (pe_cal c_check_day (hr.mono (by decide)) (pa_cons (pv 3) pa_nil)))
      (pss_cons (ps_expr (pe_cal c_check_period (hr.mono (by decide)) (pa_cons (pv 0) pa_nil)))
      (pss_cons (ps_set (i := 4) sc_next_day.nd rfl (Or.inl rfl) (pe_cal c_rulings_of_period (hr.mono (by decide)) (pa_cons (pv 0) (pa_cons (pv 1) pa_nil))))
      (pss_cons (ps_for PassesOwn.never rfl (pi_range1 (by rfl) Bl.b_range (pa_cons (pe_propM mPer (hr.mono (by decide)) CLe (pv 0)) pa_nil)) (pg_name (i := 5) sc_next_day.nd rfl (Or.inl rfl)) (pss_one (ps_if (pt_cmpR op_eq (pe_ix ix_list (pv 4) (pe_op op_mod (pe_op op_add (pv 3) (pv 5)) (pe_propM mPer (hr.mono (by decide)) CLe (pv 0))) (fun _ _ => rfl)) (pv 2) (nomark _)) (pss_one (ps_ret (pe_op op_add (pv 3) (pv 5)))) pss_nil)))
      (pss_one (ps_ret pe_non)))))))), ?_⟩
  obtain ⟨dy, yb, yd, ykvs, hy, _⟩ := id hS
  have hxl := hO.xl
  have hcl := hsub.length_le
  have hp1 := perN_pos (fun q hq => (hO.so q hq).1)
  have hp2 := perN_le (fun q hq => (hO.so q hq).1)
  have hla : lastDay < 2 ^ 61 := by decide
  refine ⟨_, rfl, y, dy, _, rfl, hy, N, y, xs, f, rl, sp, rfl, hS, fun b hB => ?_⟩
  obtain ⟨dxb, a, pr, l, ws, us2, hob, hSa, _⟩ := id hB
  refine ⟨b, dxb, _, rfl, hob, b, dxb, _, _, rfl, hob, rfl, _, rfl, a, c, xs, cs, rfl, hSa, hC, by omega, fun hn H1 s1 => ?_, fun i hi => by rw [hout] at hi; cases hi⟩
  refine ⟨_, rfl, r, rfl, hr', fun H2 s2 => ?_⟩
  refine ⟨_, rfl, day, rfl, d0, d1, ?_⟩
  have s12 := s1.trans s2
  have S2 := hS.same s12
  refine ⟨_, rfl, N, y, xs, f, rl, sp, rfl, S2, (fun q hq => (hO.so q hq).1), ?_⟩
  refine ⟨_, rfl, _, rfl, N, y, c, xs, f, rl, sp, cs, rfl, S2, hO, (fun l hl => hN l (s12.free hl)), s12.tup hC, hsub, fun H3 D s3 e3 => ?_⟩
  have s13 := s12.trans s3
  have S3 := hS.same s13
  obtain ⟨dy3, yb3, yd3, ykvs3, hy3, _⟩ := id S3
  have q := q H3 s13
  refine ⟨_, rfl, y, dy3, _, rfl, hy3, N, y, xs, f, rl, sp, rfl, S3, _, rfl, by omega, by omega, for_it walk_range (fun i σ H' => ∃ (y5 : Option V), σ = [some (.ref y), some (.ref c), some (.str r), some (.int day), some (.ref D), y5] ∧ H' = H3 ∧ ∀ t, t < i → (RF.filt (stays sp (day + (t : Nat))) f).ruled cs rl ≠ r) ⟨_, rfl, rfl, fun t h => absurd h (Nat.not_lt_zero t)⟩ (fun _ _ _ _ _ => trivial) ?_ ?_⟩
  · rintro i v σ Ha Hb hi ⟨y5, rfl, rfl, hne⟩ ⟨rfl, hv⟩
    have hi : i < perN sp := by simpa using hi
    obtain rfl : v = V.int (i : Nat) := by rw [hv]; show V.int (0 + (i : Nat)) = _; rw [Int.zero_add]
    have hpp : (0 : Int) < ((perN sp : Nat) : Int) := by omega
    have hm0 := Int.emod_nonneg (day + (i : Nat)) (show ((perN sp : Nat) : Int) ≠ 0 by omega)
    have hm1 := Int.emod_lt_of_pos (day + (i : Nat)) hpp
    obtain ⟨k, hk⟩ := Int.eq_ofNat_of_zero_le hm0
    have hkl : k < perN sp := by omega
    have hat : ((List.range (perN sp)).map fun d => V.str ((RF.filt (stays sp (d : Nat)) f).ruled cs rl))[k]? = some (.str ((RF.filt (stays sp (k : Nat)) f).ruled cs rl)) := by
      rw [List.getElem?_map, List.getElem?_range hkl]
      rfl
    have hsame : (RF.filt (stays sp (k : Nat)) f).ruled cs rl = (RF.filt (stays sp (day + (i : Nat))) f).ruled cs rl := by
      rw [RF.filt_congr (p := stays sp ((k : Nat) : Int)) (q := stays sp (day + (i : Nat))) fun x _ => by
        have h := stays_per (sp := sp) (day := day + (i : Nat)) (nm := x)
        rw [hk] at h
        exact h]
    have e3b := e3
    refine ⟨_, rfl, _, rfl, _, rfl, _, _, rfl, rfl, _, rfl, y, dy3, _, rfl, hy3, N, y, xs, f, rl, sp, rfl, S3, _, _, rfl, rfl, hpp, D, _, _, .str ((RF.filt (stays sp (day + (i : Nat))) f).ruled cs rl), rfl, rfl, sqL_of e3b, (by rw [hk, ← hsame]; exact atI_nat hat), ?_⟩
    refine ⟨_, rfl, rfl, _, rfl, ?_⟩
    by_cases hc : (RF.filt (stays sp (day + (i : Nat))) f).ruled cs rl = r
    · rw [decide_eq_true (show V.str _ = V.str r from congrArg V.str hc)]
      have hsome : (List.range (perN sp)).find? (fun t => decide ((RF.filt (stays sp (day + (t : Nat))) f).ruled cs rl = r)) = some i := by
        rw [List.find?_range_eq_some]
        refine ⟨decide_eq_true hc, List.mem_range.mpr hi, fun j hj => ?_⟩
        rw [decide_eq_false (hne j hj)]
        rfl
      rw [hsome] at q
      exact iteT ⟨_, rfl, _, rfl, _, _, rfl, rfl, q⟩
    · rw [decide_eq_false (show ¬ V.str _ = V.str r from fun z => hc (V.str.inj z))]
      refine iteF ⟨_, rfl, rfl, fun t ht => ?_⟩
      by_cases e : t = i
      · rw [e]; exact hc
      · exact hne t (by omega)
  · rintro σ Hb ⟨y5, rfl, rfl, hne⟩
    have hnone : (List.range (perN sp)).find? (fun t => decide ((RF.filt (stays sp (day + (t : Nat))) f).ruled cs rl = r)) = none := by
      rw [List.find?_eq_none]
      intro t ht hd
      refine hne t ?_ (of_decide_eq_true hd)
      have := List.mem_range.mp ht
      first
        | exact this
        | (simpa using this)
    rw [hnone] at q
    exact q
end
end Sc
namespace SetS
open PySem PySem.Spec PyProof.Rows L2
/-! ### sets of texts -/
def txt (e : Int × Value) : Str := match e.2 with | .str x _ => x | _ => ⟨#[]⟩
/-- an entry of a set of texts -/
def Ent (P : Program) (w : World) (e : Int × Value) : Prop := ∃ x t, e.2 = Value.str x t ∧ e.1 = (strKind P w).hash x
/-- the set at a has the texts zs, in some order -/
def TxtSet (P : Program) (w : World) (h : Heap) (a : Addr) (zs : List Str) : Prop :=
  ∃ o es ep t, (h.get? a = some o ∧ o.ExactSet ∧ o.data = .set es ep t) ∧ ((∀ e ∈ es.toList, Ent P w e) ∧ es.toList.map txt = zs ∧ zs.Nodup) ∧
    (es.size < scanBound ∧ t.fits es.size = true ∧ Ris t.place.toList ∧ (w.params.followText "set-order" = true ∨ t.led = true))
section
variable {P : Program} {w : World} {A : Around} {E : Value → Shared → Prop} {s : Shared} {h h' : Heap} {a : Addr} {zs : List Str}
theorem TxtSet.kept (R : TxtSet P w h a zs) (k : ∀ o, h.get? a = some o → h'.get? a = some o) : TxtSet P w h' a zs := by
  obtain ⟨o, es, ep, t, ⟨ho, q⟩, r⟩ := R
  exact ⟨o, es, ep, t, ⟨k o ho, q⟩, r⟩
theorem ent_is {e : Int × Value} (g : Ent P w e) (x : Str) : (strKind P w).is x e.2 = true ↔ txt e = x := by
  obtain ⟨y, t, e1, _⟩ := g
  unfold txt
  rw [e1]
  constructor
  · intro q
    obtain ⟨u, q⟩ := Value.isStrOf_shape (show Value.isStrOf x (Value.str y t) = true from q)
    cases q
    rfl
  · rintro rfl
    exact strKind_is P w y t
theorem ent_elems {l : List (Int × Value)} (g : ∀ e ∈ l, Ent P w e) : ElemsOf (strKind P w) l := fun e he => by
  obtain ⟨x, t, h1, h2⟩ := g e he
  refine ⟨⟨x, ?_, h2⟩, ?_⟩
  · rw [h1]; exact strKind_is P w x t
  · rw [h1]; rfl
theorem mem_txt {l : List (Int × Value)} (g : ∀ e ∈ l, Ent P w e) (x : Str) : x ∈ l.map txt ↔ ∃ e ∈ l, (strKind P w).is x e.2 = true := by
  rw [List.mem_map]
  exact ⟨fun ⟨e, he, q⟩ => ⟨e, he, (ent_is (g e he) x).mpr q⟩, fun ⟨e, he, q⟩ => ⟨e, he, (ent_is (g e he) x).mp q⟩⟩
/-- the rows are laid, and all anew where the table is too full -/
theorem lay {gv : Bool → Sem Unit} (hg : ∀ (b : Bool) (s₁ : Shared) (Q' : Unit → Shared → Prop), Q' () s₁ → wpAny (model P w) A (gv b) Q' E s₁)
    {o : Obj} {es : Array (Int × Value)} {ep : Nat} {t : SetTable} (ho : s.heap.get? a = some o) (hex : o.ExactSet) (hd : o.data = .set es ep t)
    {es1 : Array (Int × Value)} {t2 : SetTable} (g1 : ∀ e ∈ es1.toList, Ent P w e) (nd1 : (es1.toList.map txt).Nodup) (hb1 : es1.size < scanBound) (hf2 : t2.fits es1.size = true) (hr : Ris t2.place.toList)
    (hl : w.params.followText "set-order" = true ∨ t2.led = true) {wd : Bool} {R : Option Bool → Shared → Prop}
    (hR : ∀ h' zs', Heap.SameBut a s.heap h' → TxtSet P w h' a zs' → zs'.Perm (es1.toList.map txt) → R (some true) { s with heap := h' }) :
    wpAny (model P w) A (do
        storeSet a es1 t2
        if (!wd && t2.tooFull) = true then do
            gv (relayAll t2 es1 (SetTable.grown es1.size)).2.2
            storeSet a (relayAll t2 es1 (SetTable.grown es1.size)).1 (relayAll t2 es1 (SetTable.grown es1.size)).2.1
            pure (some true)
          else pure (some true)) R E s := by
  have o1 := store_at (es' := es1) (t' := t2) ho hd
  have b1 := Heap.SameBut.update s.heap a (Obj.putSet es1 t2)
  refine wpAny_bind (wpAny_storeSet_of ho hd ?_ (fits_of_scanBound hb1))
  split
  · have p3 := relayAll_perm t2 es1 (SetTable.grown es1.size)
    have f3 := relayAll_fits t2 es1 (SetTable.grown es1.size)
    have r3 := relayAll_ris t2 es1 (SetTable.grown es1.size)
    have l3 := relayAll_led t2 es1 (SetTable.grown es1.size)
    rcases hz : relayAll t2 es1 (SetTable.grown es1.size) with ⟨es2, t3, gave⟩
    rw [hz] at p3 f3 r3 l3
    dsimp only at p3 f3 r3 l3 ⊢
    have z3 : es2.size < scanBound := by rw [← Array.length_toList, p3.length_eq, Array.length_toList]; exact hb1
    refine wpAny_bind (hg _ _ _ (wpAny_bind (wpAny_storeSet_of o1 rfl ?_ (fits_of_scanBound z3))))
    refine wpAny_pure (hR _ _ (b1.trans (Heap.SameBut.update _ a _)) ⟨_, es2, _, t3, ⟨store_at (es' := es2) (t' := t3) o1 rfl, hex, rfl⟩, ⟨fun e he => g1 e (p3.mem_iff.mp he), rfl, (p3.map txt).nodup_iff.mpr nd1⟩, z3, f3, r3, hl.imp id fun z => by rw [l3]; exact z⟩ (p3.map txt))
  · exact wpAny_pure (hR _ _ b1 ⟨_, es1, _, t2, ⟨o1, hex, rfl⟩, ⟨g1, rfl, nd1⟩, hb1, hf2, hr, hl⟩ (List.Perm.refl _))
/-- a text is put in -/
theorem add {x : Str} {tk : Tok} {Q : Bool → Shared → Prop} (R : TxtSet P w s.heap a zs) (room : zs.length + 1 < scanBound)
    (hQ : ∀ b h' zs', Heap.SameBut a s.heap h' → TxtSet P w h' a zs' → (∀ y, y ∈ zs' ↔ y ∈ zs ∨ y = x) → zs'.length ≤ zs.length + 1 → Q b { s with heap := h' }) :
    wpAny (model P w) A (setAddHashed a (.str x tk) ((strKind P w).hash x)) Q E s := by
  obtain ⟨o, es, ep, t, ⟨ho, hex, hd⟩, ⟨g, rfl, nd⟩, hb, hf, hr, hl⟩ := R
  have hk : (strKind P w).is x (.str x tk) = true := strKind_is P w x tk
  have hc : (Value.str x tk).scannable = true := rfl
  have el : ElemsOf (strKind P w) es.toList := ent_elems g
  unfold setAddHashed setAddHashedIn
  refine wpAny_holding (wpAny_bind (wpAny_setState_of ho hd hf ?_))
  dsimp only
  rw [byScan_of hc hb el]
  simp only [↓reduceIte]
  unfold setAddByScan
  refine wpAny_bind (wpAny_bind (wpAny_rule (wpAny_bind (wpAny_setScan_of hk ho hd hf el ?_))))
  cases hfi : List.findIdx? (fun e => (strKind P w).is x e.2) es.toList with
  | some j =>
    obtain ⟨hj, pj, _⟩ := List.findIdx?_eq_some_iff_getElem.mp hfi
    have hx : x ∈ es.toList.map txt := (mem_txt g x).mpr ⟨_, List.getElem_mem hj, pj⟩
    dsimp only
    exact wpAny_pure (wpAny_pure (hQ _ s.heap _ (Heap.SameBut.refl a s.heap) ⟨o, es, ep, t, ⟨ho, hex, hd⟩, ⟨g, rfl, nd⟩, hb, hf, hr, hl⟩ (fun y => ⟨.inl, fun z => z.elim id fun e => e ▸ hx⟩) (Nat.le_succ _)))
  | none =>
    have nx : x ∉ es.toList.map txt := fun z => by
      obtain ⟨e, he, q⟩ := (mem_txt g x).mp z
      have c := List.findIdx?_eq_none_iff.mp hfi e he
      rw [q] at c
      cases c
    have gw : ∀ (b : Bool) {s₁ : Shared} {Q' : Unit → Shared → Prop}, Q' () s₁ → wpAny (model P w) A (match b with | true => rule "set.scan.the-table-gave-way" | false => pure ()) Q' E s₁ := by
      intro b s₁ Q' q
      cases b
      · exact wpAny_pure q
      · exact wpAny_rule q
    have p1 := layNew_perm t es ((strKind P w).hash x) (.str x tk)
    have f1 := layNew_fits t es ((strKind P w).hash x) (.str x tk)
    have r1 := layNew_ris t es ((strKind P w).hash x) (.str x tk) hr
    have l1 := layNew_led t es ((strKind P w).hash x) (.str x tk)
    dsimp only
    rcases hz : layNew t es ((strKind P w).hash x) (.str x tk) with ⟨es1, t1, wd, gave⟩
    rw [hz] at p1 f1 r1 l1
    dsimp only at p1 f1 r1 l1 ⊢
    rw [Array.toList_push] at p1
    have p2 : es1.toList.Perm (((strKind P w).hash x, Value.str x tk) :: es.toList) := p1.trans (List.perm_append_singleton _ _)
    have p3 : (es1.toList.map txt).Perm (x :: es.toList.map txt) := p2.map txt
    have g1 : ∀ e ∈ es1.toList, Ent P w e := fun e he => by
      rcases List.mem_cons.mp (p2.mem_iff.mp he) with z | z
      · rw [z]; exact ⟨x, tk, rfl, rfl⟩
      · exact g e z
    have nd1 : (es1.toList.map txt).Nodup := p3.nodup_iff.mpr (List.nodup_cons.mpr ⟨nx, nd⟩)
    have hb1 : es1.size < scanBound := by
      have e1 := p2.length_eq
      rw [Array.length_toList, List.length_cons] at e1
      rw [List.length_map] at room
      omega
    have hl1 : w.params.followText "set-order" = true ∨ t1.led = true := hl.imp id fun z => by rw [l1]; exact z
    have fin : ∀ b h' zs', Heap.SameBut a s.heap h' → TxtSet P w h' a zs' → zs'.Perm (es1.toList.map txt) → Q b { s with heap := h' } := fun b h' zs' sb r p => by
      have p := p.trans p3
      refine hQ b h' zs' sb r (fun y => ?_) (Nat.le_of_eq p.length_eq)
      rw [p.mem_iff, List.mem_cons]
      exact Or.comm
    refine wpAny_bind (gw _ ?_)
    split
    · refine wpAny_bind ?_
      rw [hashByValue_scannable 8 hc]
      refine wpAny_pure (lay ?_ ho hex hd g1 nd1 hb1 ?_ ?_ ?_ ?_)
      · intro b s₁ Q' q
        cases b
        · exact wpAny_pure q
        · exact wpAny_rule q
      · first | (split <;> first | exact f1 | exact SetTable.fits_plain_off f1) | exact f1
      · first | (split <;> exact r1) | exact r1
      · first | (split <;> exact hl1) | exact hl1
      · exact fun h' zs' sb r p => wpAny_pure (fin _ h' zs' sb r p)
    · refine wpAny_bind (wpAny_pure ?_)
      simp only [↓reduceIte]
      refine lay ?_ ho hex hd g1 nd1 hb1 f1 r1 hl1 ?_
      · intro b s₁ Q' q
        cases b
        · exact wpAny_pure q
        · exact wpAny_rule q
      · exact fun h' zs' sb r p => wpAny_pure (fin _ h' zs' sb r p)

theorem fresh {h : Heap} (ho : h.get? a = some { cls := .type "set", dict := none, data := .set #[] 0 (.fresh 0 0 (!w.params.followText "set-order")) }) : TxtSet P w h a [] := by
  refine ⟨_, #[], 0, _, ⟨ho, ⟨rfl, rfl, rfl⟩, rfl⟩, ⟨(fun e he => by simp at he), rfl, List.nodup_nil⟩, by decide, rfl, List.Pairwise.nil, ?_⟩
  show _ ∨ (!w.params.followText "set-order") = true
  cases w.params.followText "set-order"
  · exact .inr rfl
  · exact .inl rfl
/-- what has been met of the texts is in the set -/
def Met (ss : List Str) (i : Nat) (zs : List Str) : Prop := (∀ y, y ∈ zs ↔ y ∈ ss.take i) ∧ zs.length ≤ i
theorem update {I : Addr} {fp wr : List Addr} {G : Array GenState → Array GenState → Prop} {n : Nat} {Pv : Nat → Value → Prop} {St : Nat → Shared → Prop} {R : Result → Shared → Prop}
    (W : WalksS P w A.in1 I fp wr G n Pv St) (S : Addr) (hS : S ∉ fp) (ss : List Str) (hn : n = ss.length) (hb : ss.length + 1 < scanBound) (hv : ∀ i v, Pv i v → ∃ x t, ss[i]? = some x ∧ v = .str x t)
    (fin : ∀ (s0 s' : Shared) zs, Moved (S :: wr) G s0 s' → TxtSet P w s'.heap S zs → Met ss n zs → s0 = s → R (.ok (.ret .none)) s') :
    ∀ (k i : Nat) (s1 : Shared), n - i = k → i ≤ n → St i s1 → (∃ zs, TxtSet P w s1.heap S zs ∧ Met ss i zs) → (∀ s', Moved (S :: wr) G s1 s' → Moved (S :: wr) G s s') →
      codeAny (model P w) A (.builtin "set.update.loop" ⟨[.ref S, .ref I], []⟩) R s1 := by
  have out : S ∉ wr := fun z => hS (W.sub _ z)
  have more : ∀ b ∈ wr, b ∈ S :: wr := fun b z => List.mem_cons_of_mem _ z
  intro k
  induction k with
  | zero =>
    intro i s1 hk hi hst ⟨zs, hz, m⟩ gone
    obtain rfl : i = n := by omega
    refine codeAny_builtin F.entry_set_update_loop ?_
    rw [Around.under_plainId F.plain_set_update_loop _]
    show wpAny _ A.in1 (pyNext (.ref I) >>= _) _ _ s1
    refine wpAny_bind (W.done s1 _ _ hst fun s2 mv => ?_)
    show wpAny _ A.in1 (ret Value.none) _ _ s2
    exact wpAny_pure (fin s s2 zs (gone s2 (mv.mono more)) (hz.kept fun o e => mv.heap S o out e) m rfl)
  | succ k ih =>
    intro i s1 hk hi hst ⟨zs, hz, m⟩ gone
    have lt : i < n := by omega
    refine codeAny_builtin F.entry_set_update_loop ?_
    rw [Around.under_plainId F.plain_set_update_loop _]
    show wpAny _ A.in1 (pyNext (.ref I) >>= _) _ _ s1
    refine wpAny_bind (W.item i s1 _ _ lt hst fun v s2 hp hst2 mv => ?_)
    obtain ⟨x, t, hx, rfl⟩ := hv i v hp
    have hz2 := hz.kept (h' := s2.heap) fun o e => mv.heap S o out e
    show wpAny _ A.in1 (holding [Value.str x t] (setAdd S (.str x t)) >>= _) _ _ s2
    refine wpAny_bind (wpAny_holding ?_)
    unfold setAdd
    refine wpAny_holding (wpAny_bind ((strKind P w).pyHash (k := x) (strKind_is P w x t) ?_))
    have ml := m.2
    refine add (s := { s2 with toks := s2.toks + 1 }) hz2 (by omega) fun b h3 zs3 sb hz3 mem len => ?_
    have m3 : Met ss (i + 1) zs3 := by
      refine ⟨fun y => ?_, by omega⟩
      rw [mem, m.1, List.take_add_one, hx, List.mem_append]
      simp
    have mv3 : Moved (S :: wr) G s1 { s2 with heap := h3, toks := s2.toks + 1 } := (mv.mono more).then_heap (Nat.le_succ _) fun b o hb e => by
      rw [sb.2 b fun z => hb (by rw [z]; exact List.mem_cons_self)]
      exact e
    refine wpAny_pure ⟨plainId_quiet F.plain_set_update_loop _, ih (i + 1) _ (by omega) lt (W.frame _ s2 _ _ hst2 (Nat.le_succ _) fun b hb o e => ?_) ⟨zs3, hz3, m3⟩ fun s' h => gone s' (Moved.trans W.gtrans mv3 h)⟩
    rw [sb.2 b fun z => hS (by rw [← z]; exact hb)]
    exact e

/-- an empty set's object -/
abbrev emp (w : World) : Obj := { cls := .type "set", dict := none, data := .set #[] 0 (.fresh 0 0 (!w.params.followText "set-order")) }
set_option maxRecDepth 100000 in
set_option maxHeartbeats 3200000 in
/-- set(x): the set is made, and filled by its __init__ -/
theorem made {x : Value} {Z : Shared → Prop} {Q : Value → Shared → Prop}
    (hi : wpAny (model P w) A.in1.in1 (Builtin.«set.__init__» ⟨[.ref s.heap.objs.size, x], []⟩)
      (fun fin s' => match fin with | .done f => wants (fun r s₂ => r = .none ∧ Z s₂) E (.ok f) s' | .again c' => c'.quiet = true ∧ codeAny (model P w) A.in1 c' (wants (fun r s₂ => r = .none ∧ Z s₂) E) s')
      (fun e s' => wants (fun r s₂ => r = .none ∧ Z s₂) E (.error e) s') { s with heap := s.heap.push (emp w) })
    (hq : ∀ s₂, Z s₂ → Q (.ref s.heap.objs.size) s₂) : wpAny (model P w) A (call (.type "set") [x]) Q E s := by
  have cf := F.called_set
  obtain ⟨c, tl, mro⟩ := cf.mro
  have q1 := cf.made
  have q2 := cf.sub
  have q3 := cf.notType
  have q4 := cf.canCreate
  have q5 := F.typeCall_set_1 x
  have q6 := cf.init.lookup
  have q7 := cf.init.bind (.ref s.heap.objs.size)
  refine wpAny_call (codeAny_of_tree ?_)
  show wpAny _ _ (callAny (.type "set") _) _ _ _
  refine wpAny_pure ⟨Code.quiet_builtin _ (by decide +kernel), codeAny_builtin F.entry_type_call ?_⟩
  rw [Around.under_plain (weight_type_call_type "set" [x] []) rfl]
  repeat (any_goals (first | assumption | wp_step))
  have new := code_set_led1 (P := P) (w := w) (A := A.in1) (s := s) (E := E) x (Q₁ := fun obj s₁ => obj = .ref s.heap.objs.size ∧ s₁ = { s with heap := s.heap.push (emp w) }) ⟨rfl, rfl⟩
  refine codeAny_mono new fun r s₁ hr => ?_
  rcases r with e | fl
  · exact hr
  rcases fl with _ | obj | _ | _
  all_goals first | exact hr.elim | skip
  obtain ⟨rfl, rfl⟩ := hr
  have isS : Shared.TypeIs { s with heap := s.heap.push (emp w) } (.ref s.heap.objs.size) "set" := ⟨_, Heap.get?_push_size _ rfl, rfl⟩
  repeat (any_goals (first | assumption | wp_step))
  refine codeAny_mono (codeAny_call_builtin (R := wants (fun r s₂ => r = .none ∧ Z s₂) E) cf.init.plain F.entry_set_init (check_set_init_1 isS hi)) fun r₂ s₂ hr₂ => ?_
  rcases r₂ with e | fl₂
  · exact hr₂
  rcases fl₂ with _ | r | _ | _
  all_goals first | exact hr₂.elim | skip
  obtain ⟨rfl, z⟩ := hr₂
  repeat (any_goals (first | assumption | wp_step))
  exact hq _ z

theorem strs_at : ∀ {vs : List Value} {ss : List Str}, StrsAre vs ss → ∀ (i : Nat) (v : Value), vs[i]? = some v → ∃ x t, ss[i]? = some x ∧ v = .str x t
  | _, _, .cons y t r, 0, v, e => ⟨y, t, rfl, (Option.some.inj e).symm⟩
  | _, _, .cons y t r, i + 1, v, e => strs_at r i v e

set_option maxRecDepth 100000 in
set_option maxHeartbeats 3200000 in
/-- set(xs), xs a tuple of texts -/
theorem of_tuple {l : Addr} {items : Array Value} {ss : List Str} {Q : Value → Shared → Prop} (hh : A.handled = none) (hl : s.heap.IsTuple l items) (hit : StrsAre items.toList ss) (hb : ss.length + 1 < scanBound)
    (hq : ∀ (h' : Heap) (tk : Nat) zs, TxtSet P w h' s.heap.objs.size zs → Met ss ss.length zs → (∀ b o, s.heap.get? b = some o → h'.get? b = some o) → Q (.ref s.heap.objs.size) { s with heap := h', toks := tk }) :
    wpAny (model P w) A (call (.type "set") [.ref l]) Q E s := by
  have hn : items.size = ss.length := by
    have q := StrsAre.length hit
    rw [Array.length_toList] at q
    exact q
  refine made (Z := fun s₂ => ∃ h' tk zs, s₂ = { s with heap := h', toks := tk } ∧ TxtSet P w h' s.heap.objs.size zs ∧ Met ss ss.length zs ∧ ∀ b o, s.heap.get? b = some o → h'.get? b = some o) ?_ fun s₂ hz => ?_
  · obtain ⟨ol, hol, hc, nl, hd⟩ := hl
    obtain ⟨ocl, odi, oda, osl⟩ := ol
    simp only at hc hd
    subst hc
    subst hd
    have S0 : (s.heap.push (emp w)).get? s.heap.objs.size = some (emp w) := Heap.get?_push_size _ rfl
    have isS : Shared.TypeIs { s with heap := s.heap.push (emp w) } (.ref s.heap.objs.size) "set" := ⟨_, S0, rfl⟩
    have hol' : (s.heap.push (emp w)).get? l = some { cls := .type "tuple", dict := odi, data := .seq items nl, slots := osl } := Heap.get?_push_of_some _ hol
    have n1 := F.sub_tuple_set
    have n2 := F.sub_tuple_frozenset
    have n3 : (Value.type "tuple" == Value.type "dict") = false := by decide
    have hl1 : (s.heap.push (emp w)).IsTuple l items := ⟨_, hol', rfl, nl, rfl⟩
    unfold Builtin.«set.__init__» noKeywords Builtin.Frozenset.updateFrom
    generalize hPI : pyIter = PI
    wp_walk
    subst hPI
    refine wpAny_pyIter_tuple hl1 (wpAny_bind (wpAny_runValue ?_))
    have lt0 : l < s.heap.objs.size := Heap.lt_size hol
    have hh3 : A.in1.in1.in1.handled = none := by simp [hh]
    have nI : l ≠ (s.heap.push (emp w)).objs.size := by
      rw [Heap.size_push]
      exact Nat.ne_of_lt (Nat.lt_succ_of_lt lt0)
    have nS : s.heap.objs.size ∉ [(s.heap.push (emp w)).objs.size, l] := by
      rw [Heap.size_push]
      simp only [List.mem_cons, List.not_mem_nil, or_false, not_or]
      exact ⟨Nat.ne_of_lt (Nat.lt_succ_self _), Nat.ne_of_gt lt0⟩
    have hv : ∀ (i : Nat) (v : Value), items[i]? = some v → ∃ x t, ss[i]? = some x ∧ v = .str x t := fun i v e => by
      rw [← Array.getElem?_toList] at e
      exact strs_at hit i v e
    refine update (s := { s with heap := (s.heap.push (emp w)).push { cls := .type "tuple_iterator", data := .fields #[.ref l, .int 0 0] } }) ((Walks.tuple hh3 _ l nI items).toS) s.heap.objs.size nS ss hn hb hv
      (fun s0 s' zs mv hz m e0 => ?_) (items.size - 0) 0 _ (by omega) (Nat.zero_le _) ⟨⟨_, Heap.get?_push_size _ rfl, rfl, rfl⟩, hl1.push _⟩ ⟨[], fresh (Heap.get?_push_of_some _ S0), fun y => (by simp), Nat.le_refl 0⟩ (fun _ z => z)
    subst e0
    obtain ⟨h', g2, d', tk', os'⟩ := s'
    obtain rfl : g2 = s.gens := mv.gens
    obtain rfl : d' = s.drawn := mv.drawn
    obtain rfl : os' = s.os := mv.os
    show wpAny _ _ _ _ _ _
    refine wpAny_pure ?_
    show wpAny _ _ (ret Value.none) _ _ _
    rw [hn] at m
    refine wpAny_pure ⟨rfl, h', tk', zs, rfl, hz, m, fun b o e => ?_⟩
    have lb : b < s.heap.objs.size := Heap.lt_size e
    refine mv.heap b o ?_ (Heap.get?_push_of_some _ (Heap.get?_push_of_some _ e))
    simp only [List.mem_cons, List.not_mem_nil, or_false, not_or]
    refine ⟨Nat.ne_of_lt lb, ?_⟩
    rw [Heap.size_push]
    exact Nat.ne_of_lt (Nat.lt_succ_of_lt lb)
  · obtain ⟨h', tk, zs, rfl, hz, m, k⟩ := hz
    exact hq h' tk zs hz m k

set_option maxRecDepth 100000 in
set_option maxHeartbeats 3200000 in
/-- set(xs), xs a list of texts -/
theorem of_list {l : Addr} {items : Array Value} {ss : List Str} {Q : Value → Shared → Prop} (hh : A.handled = none) (hl : s.heap.IsList l items) (hit : StrsAre items.toList ss) (hb : ss.length + 1 < scanBound)
    (hq : ∀ (h' : Heap) (tk : Nat) zs, TxtSet P w h' s.heap.objs.size zs → Met ss ss.length zs → (∀ b o, s.heap.get? b = some o → h'.get? b = some o) → Q (.ref s.heap.objs.size) { s with heap := h', toks := tk }) :
    wpAny (model P w) A (call (.type "set") [.ref l]) Q E s := by
  have hn : items.size = ss.length := by
    have q := StrsAre.length hit
    rw [Array.length_toList] at q
    exact q
  refine made (Z := fun s₂ => ∃ h' tk zs, s₂ = { s with heap := h', toks := tk } ∧ TxtSet P w h' s.heap.objs.size zs ∧ Met ss ss.length zs ∧ ∀ b o, s.heap.get? b = some o → h'.get? b = some o) ?_ fun s₂ hz => ?_
  · obtain ⟨ol, hol, hc, nl, hd⟩ := hl
    obtain ⟨ocl, odi, oda, osl⟩ := ol
    simp only at hc hd
    subst hc
    subst hd
    have S0 : (s.heap.push (emp w)).get? s.heap.objs.size = some (emp w) := Heap.get?_push_size _ rfl
    have isS : Shared.TypeIs { s with heap := s.heap.push (emp w) } (.ref s.heap.objs.size) "set" := ⟨_, S0, rfl⟩
    have hol' : (s.heap.push (emp w)).get? l = some { cls := .type "list", dict := odi, data := .seq items nl, slots := osl } := Heap.get?_push_of_some _ hol
    have n1 := F.sub_list_set
    have n2 := F.sub_list_frozenset
    have n3 : (Value.type "list" == Value.type "dict") = false := by decide
    have hl1 : (s.heap.push (emp w)).IsList l items := ⟨_, hol', rfl, nl, rfl⟩
    unfold Builtin.«set.__init__» noKeywords Builtin.Frozenset.updateFrom
    generalize hPI : pyIter = PI
    wp_walk
    subst hPI
    refine wpAny_pyIter_list hl1 (wpAny_bind (wpAny_runValue ?_))
    have lt0 : l < s.heap.objs.size := Heap.lt_size hol
    have hh3 : A.in1.in1.in1.handled = none := by simp [hh]
    have nI : l ≠ (s.heap.push (emp w)).objs.size := by
      rw [Heap.size_push]
      exact Nat.ne_of_lt (Nat.lt_succ_of_lt lt0)
    have nS : s.heap.objs.size ∉ [(s.heap.push (emp w)).objs.size, l] := by
      rw [Heap.size_push]
      simp only [List.mem_cons, List.not_mem_nil, or_false, not_or]
      exact ⟨Nat.ne_of_lt (Nat.lt_succ_self _), Nat.ne_of_gt lt0⟩
    have hv : ∀ (i : Nat) (v : Value), items[i]? = some v → ∃ x t, ss[i]? = some x ∧ v = .str x t := fun i v e => by
      rw [← Array.getElem?_toList] at e
      exact strs_at hit i v e
    refine update (s := { s with heap := (s.heap.push (emp w)).push { cls := .type "list_iterator", data := .fields #[.ref l, .int 0 0] } }) ((Walks.list hh3 _ l nI items).toS) s.heap.objs.size nS ss hn hb hv
      (fun s0 s' zs mv hz m e0 => ?_) (items.size - 0) 0 _ (by omega) (Nat.zero_le _) ⟨⟨_, Heap.get?_push_size _ rfl, rfl, rfl⟩, hl1.push _⟩ ⟨[], fresh (Heap.get?_push_of_some _ S0), fun y => (by simp), Nat.le_refl 0⟩ (fun _ z => z)
    subst e0
    obtain ⟨h', g2, d', tk', os'⟩ := s'
    obtain rfl : g2 = s.gens := mv.gens
    obtain rfl : d' = s.drawn := mv.drawn
    obtain rfl : os' = s.os := mv.os
    show wpAny _ _ _ _ _ _
    refine wpAny_pure ?_
    show wpAny _ _ (ret Value.none) _ _ _
    rw [hn] at m
    refine wpAny_pure ⟨rfl, h', tk', zs, rfl, hz, m, fun b o e => ?_⟩
    have lb : b < s.heap.objs.size := Heap.lt_size e
    refine mv.heap b o ?_ (Heap.get?_push_of_some _ (Heap.get?_push_of_some _ e))
    simp only [List.mem_cons, List.not_mem_nil, or_false, not_or]
    refine ⟨Nat.ne_of_lt lb, ?_⟩
    rw [Heap.size_push]
    exact Nat.ne_of_lt (Nat.lt_succ_of_lt lb)
  · obtain ⟨h', tk, zs, rfl, hz, m, k⟩ := hz
    exact hq h' tk zs hz m k
end
end SetS
namespace SetS
open PySem PySem.Spec PyProof.Rows L2
section
variable {P : Program} {w : World} {A : Around} {E : Value → Shared → Prop} {s : Shared} {a : Addr} {zs : List Str}
/-- sorted(set) -/
theorem sorted_ {Q : Value → Shared → Prop} (R : TxtSet P w s.heap a zs) (hh : A.handled = none)
    (hq : ∀ s' p (out : Array Value) (c : Nat) ys, (∀ b o, s.heap.get? b = some o → s'.heap.get? b = some o) → s'.gens = s.gens → s'.os = s.os → s.heap.objs.size ≤ p → s'.heap.get? p = some (seqObj "list" out c) →
      StrsAre out.toList ys → ys.Perm zs → sortedS ys = true → Q (.ref p) s') : wpAny (model P w) A (call (.builtin "sorted") [.ref a]) Q E s := by
  obtain ⟨o, es, ep, t, ⟨ho, hex, hd⟩, ⟨g, rfl, nd⟩, hb, hf, hr, hl⟩ := R
  refine Calls.call_function_entry kind_sorted plain_sorted entry_sorted (args_sorted1 _) ?_
  unfold Builtin.«sorted»
  refine wpAny_bind (m := checkCount "sorted" 1 1 _) (wpAny_pure ?_)
  refine wpAny_bind (collect_set (A := A.in1) hh ⟨o, ho, hex.1, hd⟩ hf hb hr hl fun s1 vs k1 z1 g1 o1 pm => ?_)
  have all : ∀ v, v ∈ vs → ∃ x t, v = Value.str x t := fun v hv => by
    obtain ⟨e, he, q⟩ := List.mem_map.mp (pm.mem_iff.mp hv)
    obtain ⟨x, t, h1, _⟩ := g e he
    exact ⟨x, t, by rw [← q]; exact h1⟩
  have sv := strsAre_map vs all
  have pz : (vs.map strOf).Perm (es.toList.map txt) := by
    have q := pm.map strOf
    rw [List.map_map] at q
    refine q.trans (List.Perm.of_eq (List.map_congr_left fun e he => ?_))
    obtain ⟨x, t, h1, _⟩ := g e he
    show strOf e.2 = txt e
    unfold txt
    rw [h1]
    rfl
  have vl : vs.length ≤ sizeLine := by
    rw [pm.length_eq, List.length_map, Array.length_toList]
    exact fits_of_scanBound hb
  refine wpAny_bind (wpAny_newList ?_ vl)
  have oL : (s1.heap.push (seqObj "list" vs.toArray 0)).get? s1.heap.objs.size = some (seqObj "list" vs.toArray 0) := Heap.get?_push_size _ rfl
  refine wpAny_bind (wpAny_holding (wpAny_call_entry slot_list_sort ⟨_, oL, rfl⟩ entry_list_sort
    (list_sort_treeKAny strKind_oneLt oL sv.keysOf (fun v₁ v₂ rest e => keyKind_strs (by rw [← e]; exact sv)) vl fun st hp hs => ⟨_, rfl, ?_⟩) (args_list_sort _)))
  obtain ⟨ys, y1, y2, y3⟩ := sorted_out_str sv hp hs
  obtain ⟨c, hc⟩ := sortedHeap_at (vs := vs) (out := (arrOf st).map (·.2)) oL
  refine wpAny_pure ⟨_, rfl, hq _ s1.heap.objs.size _ c ys (fun b u e => ?_) g1 o1 z1 hc y1 (y2.trans pz) y3⟩
  have q := k1 b u e
  have lt := Heap.lt_size q
  show (sortedHeap (s1.heap.push (seqObj "list" vs.toArray 0)) s1.heap.objs.size vs _).get? b = some u
  rw [sortedHeap_old (Nat.ne_of_lt lt) (by rw [size_push']; exact Nat.lt_succ_of_lt lt)]
  exact Heap.get?_push_of_some _ q
end
/-! ### over the layer -/
def TxtO (P : Program) (w : World) (a : Addr) (zs : List Str) : HO := .ext fun h => TxtSet P w h a zs
theorem txtO_new {P : Program} {w : World} {H : Hp} {h : Heap} {a : Addr} {zs : List Str} (R : TxtSet P w h a zs) : ObjOk P w H h a (TxtO P w a zs) := by
  have ⟨o, es, ep, t, ⟨ho, q⟩, r⟩ := R
  refine ⟨R, ⟨o, ho⟩, fun h1 h2 p k => ?_⟩
  exact TxtSet.kept (show TxtSet P w h1 a zs from p) k
section
variable {X : Cx}
theorem strsAre_vals : ∀ {ss : List Str} {us : List Value}, Vals (ss.map V.str) us → StrsAre us ss
  | [], _, .nil => .nil
  | x :: ss, _, .cons r t => by
    obtain ⟨tk, rfl⟩ := r
    exact .cons x tk (strsAre_vals t)
/-- set(xs), xs texts -/
def rSetS (K : PySem.W.Frag) (P : Program) (w : World) : List V → Hp → VK → Prop := fun xs H Q => ∃ (l : Addr) (ss : List Str), xs = [V.ref l] ∧ (SqL K H l (ss.map V.str) ∨ SqT K H l (ss.map V.str)) ∧ ss.length ≤ 1000 ∧
  ∀ a zs, H a = none → zs.Nodup → (∀ y, y ∈ zs ↔ y ∈ ss) → zs.length ≤ ss.length → Q (.ref a) (upd H a (TxtO P w a zs))
theorem nd_of {P : Program} {w : World} {h : Heap} {a : Addr} {zs : List Str} (R : TxtSet P w h a zs) : zs.Nodup := by
  obtain ⟨_, _, _, _, _, ⟨_, _, nd⟩, _⟩ := R
  exact nd
theorem cr_setS (hc : X.calm = true) : CallR X (.type "set") (rSetS X.K X.prog X.w) := by
  intro pins s σ H xs us Q I r h
  obtain ⟨l, ss, rfl, hl, hf, q⟩ := h
  rw [Vals.ref1 r]
  have hb : ss.length + 1 < scanBound := by unfold scanBound; omega
  have hn : H s.heap.objs.size = none := I.hok.fresh (Nat.le_refl _)
  have go : ∀ (h' : Heap) (tk : Nat) zs, TxtSet X.prog X.w h' s.heap.objs.size zs → Met ss ss.length zs → (∀ b o, s.heap.get? b = some o → h'.get? b = some o) →
      EP X pins σ Q (.ref s.heap.objs.size) { s with heap := h', toks := tk } := fun h' tk zs R m k => by
    refine ⟨.ref s.heap.objs.size, upd H s.heap.objs.size (TxtO X.prog X.w s.heap.objs.size zs), I.laid (t' := tk) k (Nat.le_refl _) (txtO_new R), rfl, q _ zs hn (nd_of R) (fun y => ?_) m.2⟩
    rw [m.1 y, List.take_length]
  rcases hl with hl | hl
  · obtain ⟨its, rv, pl, hz⟩ := I.list hl
    exact of_list (P := X.prog) (w := X.w) (I.ok.hd hc) pl.isList (by simpa using strsAre_vals rv) hb go
  · obtain ⟨its, rv, pl, hz⟩ := I.tuple hl
    exact of_tuple (P := X.prog) (w := X.w) (I.ok.hd hc) pl (by simpa using strsAre_vals rv) hb go
/-- sorted(set of texts) -/
def rSortedSS (P : Program) (w : World) : List V → Hp → VK → Prop := fun vs H Q => ∃ (a : Addr) (zs : List Str), vs = [V.ref a] ∧ H a = some (TxtO P w a zs) ∧ zs.length ≤ 1000 ∧
  ∀ ys p, ys.Perm zs → sortedS ys = true → H p = none → Q (.ref p) (upd H p (.lst (ys.map V.str)))
theorem cr_sortedSS (hc : X.calm = true) : CallR X (.builtin "sorted") (rSortedSS X.prog X.w) := by
  intro pins s σ H vs us Q I r h
  obtain ⟨a, zs, rfl, ha, hz, q⟩ := h
  have R : TxtSet X.prog X.w s.heap a zs := (I.hok a _ ha).1
  rw [Vals.ref1 r]
  refine sorted_ R (I.ok.hd hc) fun s' p out c ys k g o hp hg hy pm so => ?_
  have hlen : (ys.map V.str).length ≤ sizeLine := by rw [List.length_map, pm.length_eq, sizeLine_eq]; omega
  have hn : H p = none := I.hok.fresh hp
  have J : Inv X pins σ (upd H p (.lst (ys.map V.str))) { s with heap := s'.heap, gens := s'.gens, drawn := s'.drawn, toks := s'.toks } :=
    I.call (ch := []) (Un.laid k hp hn) (I.hok.laid k hp ⟨hlen, out.toList, c, vals_of_strs hy, hg⟩) (by rw [g]; exact I.bare) (fun _ z => nomatch z)
  have e : s' = { s with heap := s'.heap, gens := s'.gens, drawn := s'.drawn, toks := s'.toks } := by
    cases s'
    cases s
    cases o
    rfl
  rw [e]
  exact ⟨.ref p, _, J, rfl, q ys p pm so hn⟩
end
end SetS
namespace Sc
open PySem PySem.Spec PyProof.Rows L2
theorem sc_Book_rulings : FnScope ["self", "rule"] ["self"] (defScope s_Book_rulings) := ⟨rfl, rfl, rfl, by decide +kernel, rfl, by decide +kernel, by decide +kernel⟩
/-- sorted(set(xs)), texts -/
theorem sortedS_fin {K : PySem.W.Frag} {P : Program} {w : World} {H : Hp} {D : Addr} {ss : List Str} {Q : VK} (e : H D = some (.lst (ss.map V.str))) (hl : ss.length ≤ 1000)
    (q : ∀ H' D' (ys : List Str), L2.Same H H' → H' D' = some (.lst (ys.map V.str)) → sortedS ys = true → ys.Nodup → (∀ y, y ∈ ys ↔ y ∈ ss) → ys.length ≤ ss.length → Q (.ref D') H') : SetS.rSetS K P w [.ref D] H fun x H1 => SetS.rSortedSS P w [x] H1 Q :=
  ⟨D, ss, rfl, .inl (.inl (.inl e)), hl, fun a zs na nd hm hz => ⟨a, zs, rfl, upd_same, by omega, fun ys b hp hs nb => q _ b ys (((Same.refl H).put na).put' nb) upd_same hs (hp.nodup_iff.mpr nd) (fun y => hp.mem_iff.trans (hm y)) (by rw [hp.length_eq]; exact hz)⟩⟩
/-- two sorted rows of the same distinct texts -/
theorem sortedS_eq {a b : List Str} (sa : sortedS a = true) (sb : sortedS b = true) (na : a.Nodup) (nb : b.Nodup) (h : ∀ y, y ∈ a ↔ y ∈ b) : a = b := sorted_uniq ((List.perm_ext_iff_of_nodup na nb).mpr h) sa sb
def RF.rls (f : RF) : List Str := (f.pre 0).map fun q => q.1.rl
section
variable {P : Program} {w : World} {K : PySem.W.Frag} {mg : Str → Option Value} {base : Heap} {C R B : Addr}
def sp_brulings (K : PySem.W.Frag) (C R B : Addr) : Sp := fun vs H Q _ => ∃ (N : Addr → Prop) (o : Addr) (xs : List Str) (f : RF) (rl : Str), vs = [.ref o] ∧ BookAt K C R B N H o xs f rl ∧ f.size ≤ 900 ∧ ∀ H' D ys, Same H H' → H' D = some (.lst (ys.map V.str)) → sortedS ys = true → ys.Nodup → (∀ y, y ∈ ys ↔ y = rl ∨ y ∈ f.rls) → ys.length ≤ 901 → Q (.ref D) H'
theorem ok_brulings {f : Addr} {fd : FuncData} (F : Fun K "rulings" "Book.rulings" s_Book_rulings f fd) (Bl : Blt mg) (T : Cls K B) (n3 : NoAttr K B "_ruling") (n4 : NoAttr K B "_numbered") (kR : RuleX P w K mg base R) : FnOk P w K mg base CX0 3 f fd ["self"] (sp_brulings K C R B) := by
  refine F.ok sc_Book_rulings (fun vs H Q E h => by obtain ⟨N, o, xs, f, rl, rfl, _⟩ := h; rfl) (fun cdv A outer s H vs Q E hr h => ?_)
  obtain ⟨N, o, xs, f, rl, rfl, ⟨dx, a, p, l, ws, us, ho, hS, hP, hF, ⟨nl, hl⟩, hus⟩, hz, q⟩ := h
  have hlen := hus.len
  rw [List.length_map, RF.pre_len] at hlen
  refine ⟨_, (pss_one (ps_ret (pe_callB (SetS.cr_sortedSS rfl) (by rfl) Bl.b_sorted (by decide +kernel) (pa_cons (pe_callTy (SetS.cr_setS rfl) (by rfl) Bl.b_set (by decide +kernel) (pa_cons (pe_op op_cat (pe_lst (pa_cons (pe_fld (pv 0) rfl) pa_nil)) (pe_lc (own := [("rule", 1)]) (g := gName 1) (tt := tYes) rfl sc_Book_rulings.nd (pi_list (pe_fld (pv 0) rfl)) (blkOk_by (own := [("rule", 1)]) (N := ["self", "rule"]) (sc := defScope s_Book_rulings) (by decide +kernel)) (fun _ _ _ _ _ => (pg_name (i := 1) sc_Book_rulings.nd rfl (Or.inl rfl))) (fun _ _ _ _ _ => pts_nil) (fun _ _ _ _ _ => (pe_.re (pe_cprop kR.ruling kR.cls (hr.mono (by decide)) (pv 1)) (by first | (dsimp only [Cx.blk]; done) | exact rfl))))) pa_nil)) pa_nil)))), ?_⟩
  refine ⟨_, rfl, o, B, dx, _, _, rfl, ho, T, n3, rfl, (by show 1 ≤ sizeLine; decide), fun D0 nD0 => ?_⟩
  have s1 : Same H (upd H D0 (.lst [.str rl])) := (Same.refl H).put nD0
  have e1 : (upd H D0 (.lst [.str rl])) D0 = some (.lst [.str rl]) := upd_same
  generalize upd H D0 (.lst [.str rl]) = H1 at s1 e1 ⊢
  have hl1 := s1 _ _ hl
  refine ⟨_, rfl, o, B, dx, _, _, rfl, s1 _ _ ho, T, n4, rfl, l, rfl, ⟨_, sqL_of hl1⟩, fun D nD => lc_it walk_list (fun i H' => Same H1 H' ∧ H' D = some (.lst (((((f.pre 0).map fun q => q.1).take i).map fun n => n.rl).map V.str))) ⟨(Same.refl H1).put nD, upd_same⟩ (fun _ _ _ h => sqL_of (h.1 _ _ hl1)) ?_ ?_⟩
  · rintro i y H2 H3 hi ⟨s, e⟩ ⟨rfl, hy⟩
    obtain ⟨n, hn, o', rfl, hN⟩ := hus.get hy
    obtain ⟨dx', c', pe', l', ws', ho', _⟩ := hN.keeps (N := N) (s1.trans s).keeps
    refine ⟨rfl, yes_ ⟨_, rfl, o', dx', _, rfl, ho', o', dx', _, _, rfl, ho', rfl, _, e, ?_, s.put nD, ?_⟩⟩
    · rw [List.length_map, List.length_map, List.length_take, List.length_map, RF.pre_len]
      exact small1000 (by omega)
    · rw [upd_same, take_more hn, List.map_append, List.map_append]
      rfl
  rintro H2 ⟨s, e⟩
  rw [hus.len, List.take_length] at e
  have e : H2 D = some (.lst (f.rls.map V.str)) := by
    rw [e]
    unfold RF.rls
    rw [List.map_map, List.map_map, List.map_map]
    rfl
  have hrl : f.rls.length = f.size := by unfold RF.rls; rw [List.length_map, RF.pre_len]
  refine ⟨D0, D, _, _, rfl, rfl, s _ _ e1, e, by rw [sizeLine_eq, List.length_map]; show 1 + _ ≤ _; omega, fun D4 nD4 => ?_⟩
  have s4 : Same H2 (upd H2 D4 (.lst ([.str rl] ++ f.rls.map V.str))) := (Same.refl H2).put nD4
  have e4 : (upd H2 D4 (.lst ([.str rl] ++ f.rls.map V.str))) D4 = some (.lst ((rl :: f.rls).map V.str)) := upd_same
  generalize upd H2 D4 (.lst ([.str rl] ++ f.rls.map V.str)) = H4 at s4 e4 ⊢
  dsimp only [tNil]
  refine sortedS_fin e4 (by rw [List.length_cons]; omega) fun H5 D5 ys s5 e5 hs nd hm hl5 => ?_
  rw [List.length_cons] at hl5
  exact q H5 D5 ys (s1.trans (s.trans (s4.trans s5))) e5 hs nd (fun y => (hm y).trans List.mem_cons) (by omega)
end
end Sc
/-! how many of the first n numbers have a property that comes again after P of them: counted by the first P -/
namespace Cnt65
def accN (g : Nat → Bool) (n P : Nat) : Nat → Nat
  | 0 => 0
  | i + 1 => accN g n P i + (if g i = true then (n + P - 1 - i) / P else 0)
theorem div_succ {m P : Nat} (hP : 0 < P) : (m + 1) / P = m / P + (if (m + 1) % P = 0 then 1 else 0) := by
  rw [Nat.succ_div]
  congr 1
  by_cases c : P ∣ m + 1
  · rw [if_pos c, if_pos (Nat.mod_eq_zero_of_dvd c)]
  · rw [if_neg c, if_neg fun z => c (Nat.dvd_of_mod_eq_zero z)]
theorem at_rest {n P i : Nat} (hi : i < P) : (n + P - 1 - i + 1) % P = 0 ↔ i = n % P := by
  have hP : 0 < P := by omega
  have hn := Nat.div_add_mod n P
  have hm := Nat.mod_lt n hP
  generalize n % P = r at hn hm
  generalize n / P = q at hn
  have e : n + P - 1 - i + 1 = P * q + (r + P - i) := by omega
  rw [e, Nat.mul_add_mod]
  constructor
  · intro h
    by_cases c : i = r
    · exact c
    · by_cases d : i < r
      · rw [show r + P - i = (r - i) + P by omega, Nat.add_mod_right, Nat.mod_eq_of_lt (by omega)] at h
        omega
      · rw [Nat.mod_eq_of_lt (by omega)] at h
        omega
  · intro h
    rw [h, show r + P - r = P by omega, Nat.mod_self]
theorem acc_step {g : Nat → Bool} {n P : Nat} : ∀ {i : Nat}, i ≤ P → accN g (n + 1) P i = accN g n P i + (if n % P < i ∧ g (n % P) = true then 1 else 0)
  | 0, _ => by rw [if_neg (fun z => absurd z.1 (Nat.not_lt_zero _))]; rfl
  | i + 1, h => by
    have ih := acc_step (g := g) (n := n) (P := P) (i := i) (by omega)
    show accN g (n + 1) P i + (if g i = true then (n + 1 + P - 1 - i) / P else 0) = accN g n P i + (if g i = true then (n + P - 1 - i) / P else 0) + _
    rw [ih]
    have e : (n + 1 + P - 1 - i) / P = (n + P - 1 - i) / P + (if i = n % P then 1 else 0) := by
      rw [show n + 1 + P - 1 - i = n + P - 1 - i + 1 by omega, div_succ (by omega)]
      congr 1
      by_cases c : i = n % P
      · rw [if_pos c, if_pos ((at_rest (by omega)).mpr c)]
      · rw [if_neg c, if_neg fun z => c ((at_rest (by omega)).mp z)]
    rw [e]
    by_cases hg : g i = true
    · rw [if_pos hg, if_pos hg]
      by_cases c : i = n % P
      · rw [if_pos c, if_neg (fun z => by omega), if_pos ⟨by omega, by rw [← c]; exact hg⟩]
        try omega
      · rw [if_neg c]
        by_cases d : n % P < i ∧ g (n % P) = true
        · rw [if_pos d, if_pos ⟨by omega, d.2⟩]
          omega
        · rw [if_neg d, if_neg (fun z => d ⟨by omega, z.2⟩)]
          omega
    · rw [if_neg hg, if_neg hg]
      by_cases d : n % P < i ∧ g (n % P) = true
      · rw [if_pos d, if_pos ⟨by omega, d.2⟩]
      · rw [if_neg d, if_neg (fun z => by
          by_cases c : i = n % P
          · exact hg (by rw [c]; exact z.2)
          · exact d ⟨by omega, z.2⟩)]
theorem acc_zero {g : Nat → Bool} {P : Nat} : ∀ {i : Nat}, i ≤ P → accN g 0 P i = 0
  | 0, _ => rfl
  | i + 1, h => by
    show accN g 0 P i + _ = 0
    rw [acc_zero (by omega), Nat.div_eq_of_lt (by omega)]
    split <;> rfl
theorem acc_all {g : Nat → Bool} {P : Nat} (hP : 0 < P) (hg : ∀ t, g t = g (t % P)) : ∀ n, accN g n P P = ((List.range n).filter g).length
  | 0 => acc_zero (Nat.le_refl P)
  | n + 1 => by
    rw [acc_step (Nat.le_refl P), acc_all hP hg n, List.range_succ, List.filter_append, List.length_append]
    congr 1
    rw [List.filter_cons, hg n]
    have := Nat.mod_lt n hP
    by_cases c : g (n % P) = true
    · rw [if_pos ⟨this, c⟩, if_pos c]; rfl
    · rw [if_neg (fun z => c z.2), if_neg c]; rfl
end Cnt65
namespace Sc
open PySem PySem.Spec PyProof.Rows L2
theorem sc_count_rulings : FnScope ["seasons", "case", "days", "rulings", "ruling", "told", "day"] ["seasons", "case", "days"] (defScope s_count_rulings) := ⟨rfl, rfl, rfl, by decide +kernel, rfl, by decide +kernel, by decide +kernel⟩
theorem putK_map {ys : List Str} {a : Str → Int} {r0 : Str} {z : Int} (h : r0 ∈ ys) : putK (ys.map fun r => ((Sum.inr r : Key), V.int (a r))) (.inr r0) (.int z) = ys.map fun r => ((Sum.inr r : Key), V.int (if r = r0 then z else a r)) := by
  unfold putK
  rw [if_pos, List.map_map]
  · refine List.map_congr_left fun r _ => ?_
    show (if (Sum.inr r : Key) = Sum.inr r0 then ((Sum.inr r : Key), V.int z) else (Sum.inr r, V.int (a r))) = _
    by_cases c : r = r0
    · rw [if_pos (by rw [c]), if_pos c]
    · rw [if_neg (fun z => c (Sum.inr.inj z)), if_neg c]
  · rw [List.any_eq_true]
    exact ⟨(.inr r0, .int (a r0)), List.mem_map.mpr ⟨r0, h, rfl⟩, decide_eq_true rfl⟩
theorem valV_mapS {ys : List Str} {a : Str → Int} {r0 : Str} (h : r0 ∈ ys) : valV (ys.map fun r => ((Sum.inr r : Key), V.int (a r))) (.inr r0) = some (.int (a r0)) := by
  induction ys with
  | nil => cases h
  | cons y r ih =>
    rw [List.map_cons]
    by_cases c : y = r0
    · rw [valV_pos (by rw [c]), c]
    · rw [valV_neg (fun z => c (Sum.inr.inj z))]
      rcases List.mem_cons.mp h with h | h
      · exact absurd h.symm c
      · exact ih h
section
variable {P : Program} {w : World} {K : PySem.W.Frag} {mg : Str → Option Value} {base : Heap} {C R B TT SE CU : Addr}
namespace RF
theorem rls_cons {nm : Str} {hs fs : List Str} {r : Str} {exc rest : RF} {x : Str} : x ∈ (RF.cons nm hs fs r exc rest).rls ↔ x = r ∨ x ∈ exc.rls ∨ x ∈ rest.rls := by
  have e : ∀ (g : RF) (k : Nat), (x ∈ (g.pre k).map fun q => q.1.rl) ↔ x ∈ g.rls := fun g k => by
    have h : ((g.pre k).map fun q => q.1) = ((g.pre 0).map fun q => q.1) := by
      have h2 : ∀ (g : RF) (k : Nat), ((g.pre k).map fun q => q.1) = ((g.pre (k + 1)).map fun q => q.1) := by
        intro g
        induction g with
        | nil => intro k; rfl
        | cons nm hs fs r exc rest ihe ihr =>
          intro k
          show _ :: ((exc.pre (k + 1) ++ rest.pre k).map _) = _ :: ((exc.pre (k + 1 + 1) ++ rest.pre (k + 1)).map _)
          rw [List.map_append, List.map_append, ihe (k + 1), ihr k]
      induction k with
      | zero => rfl
      | succ k ih => rw [← h2 g k, ih]
    have h3 : ((g.pre k).map fun q => q.1.rl) = ((g.pre k).map fun q => q.1).map fun n => n.rl := by rw [List.map_map]; rfl
    rw [h3, h, List.map_map]
    exact Iff.rfl
  unfold RF.rls
  show x ∈ (_ :: (exc.pre 1 ++ rest.pre 0)).map _ ↔ _
  rw [List.map_cons, List.mem_cons, List.map_append, List.mem_append, e exc 1]
  exact Iff.rfl
theorem way_rls {cs : List Str} : ∀ {f : RF}, ∀ n ∈ f.way cs, n.rl ∈ f.rls
  | .nil, n, h => nomatch h
  | .cons nm hs fs r exc rest, n, h => by
    rw [rls_cons]
    have h : n ∈ (if meets hs fs cs = true then ⟨nm, hs, fs, r, exc⟩ :: exc.way cs else rest.way cs) := h
    split at h
    · rcases List.mem_cons.mp h with h | h
      · rw [h]; exact .inl rfl
      · exact .inr (.inl (way_rls n h))
    · exact .inr (.inr (way_rls n h))
theorem filt_rls {p : Str → Bool} {x : Str} : ∀ {f : RF}, x ∈ (filt p f).rls → x ∈ f.rls
  | .nil, h => nomatch h
  | .cons nm hs fs r exc rest, h => by
    rw [rls_cons]
    have h : x ∈ (if p nm = true then RF.cons nm hs fs r (filt p exc) (filt p rest) else filt p rest).rls := h
    split at h
    · rcases rls_cons.mp h with h | h | h
      · exact .inl h
      · exact .inr (.inl (filt_rls h))
      · exact .inr (.inr (filt_rls h))
    · exact .inr (.inr (filt_rls h))
theorem ruled_in {p : Str → Bool} {cs : List Str} {rl : Str} {f : RF} : (filt p f).ruled cs rl = rl ∨ (filt p f).ruled cs rl ∈ f.rls := by
  unfold RF.ruled
  cases e : ((filt p f).way cs).getLast? with
  | none => exact .inl rfl
  | some n => exact .inr (filt_rls (way_rls n (List.mem_of_getLast? e)))
end RF
/-- on how many of the first days a case has a ruling -/
def cntD (f : RF) (sp : List (Str × Spn)) (cs : List Str) (rl : Str) (n : Nat) (r : Str) : Nat := ((List.range n).filter fun t => decide ((RF.filt (stays sp (t : Nat)) f).ruled cs rl = r)).length
def sp_cnt (K : PySem.W.Frag) (C R B SE : Addr) : Sp := fun vs H Q _ => ∃ (N : Addr → Prop) (y c : Addr) (xs : List Str) (f : RF) (rl : Str) (sp : List (Str × Spn)) (cs : List Str) (n : Nat), vs = [.ref y, .ref c, .int (n : Nat)] ∧ SeaAt K C R B SE N H y xs f rl sp ∧ SeaOk xs f sp ∧ (∀ l, H l = none → N l) ∧ SqT K H c (cs.map V.str) ∧ List.Sublist cs xs ∧ firstOut xs cs = none ∧ ((n : Nat) : Int) ≤ lastDay ∧
  ∀ H' D (ys : List Str), Same H H' → H' D = some (.dK (ys.map fun r => ((Sum.inr r : Key), V.int (cntD f sp cs rl n r : Nat)))) → sortedS ys = true → ys.Nodup → (∀ r, r ∈ ys ↔ r = rl ∨ r ∈ f.rls) → Q (.ref D) H'
theorem ok_cnt {f : Addr} {fd : FuncData} {CC : Addr} (F : Fun K "count_rulings" "count_rulings" s_count_rulings f fd) (Bl : Blt mg) (CLe : Cls K SE) (kB : BookX P w K mg base B) (mPer : PropM P w K mg base SE "period" 1 (sp_seaPeriod K C R B SE)) (mBk : PropM P w K mg base SE "book" 1 (sp_seaBook K C R B SE)) (mRl : PropM P w K mg base B "rulings" 3 (sp_brulings K C R B)) (c_check_case : Cal P w K mg base (L2.CX P w) 3 "check_case" ["facts", "case"] (sp_check_case K CC)) (c_check_day : Cal P w K mg base CX0 3 "check_day" ["value"] sp_check_day) (c_check_period : Cal P w K mg base CX0 3 "check_period" ["seasons"] (sp_cper K C R B SE)) (c_rulings_of_period : Cal P w K mg base CX0 20 "rulings_of_period" ["seasons", "case"] (sp_rop K C R B TT SE)) : FnOk P w K mg base CX0 22 f fd ["seasons", "case", "days"] (sp_cnt K C R B SE) := by
  refine F.ok sc_count_rulings (fun vs H Q E h => by obtain ⟨N, y, c, xs, f, rl, sp, cs, n, rfl, _⟩ := h; rfl) (fun cdv A outer s H vs Q E hr h => ?_)
  obtain ⟨N, y, c, xs, f, rl, sp, cs, n, rfl, hS, hO, hN, hC, hsub, hout, d1, q⟩ := h
  refine ⟨_, (pss_cons (ps_expr (pe_calN c_check_case (hr.mono (by decide)) (pa_cons (pe_cprop kB.facts kB.cls (hr.mono (by decide)) (pe_propM mBk (hr.mono (by decide)) CLe (pv 0))) (pa_cons (pv 1) pa_nil))))
      (pss_cons (ps_expr (pe_cal c_check_day (hr.mono (by decide)) (pa_cons (pv 2) pa_nil)))
      (pss_cons (ps_expr (pe_cal c_check_period (hr.mono (by decide)) (pa_cons (pv 0) pa_nil)))
      (pss_cons (ps_set (i := 3) sc_count_rulings.nd rfl (Or.inl rfl) (pe_cal c_rulings_of_period (hr.mono (by decide)) (pa_cons (pv 0) (pa_cons (pv 1) pa_nil))))
      (pss_cons (ps_setDc (i := 5) (own := [("ruling", 4)]) (g := gName 4) (tt := tYes) rfl sc_count_rulings.nd rfl rfl (sw_trueD rfl rfl rfl (by decide +kernel)) (pi_list (pe_propM mRl (hr.mono (by decide)) kB.cls (pe_propM mBk (hr.mono (by decide)) CLe (pv 0)))) (blkOk_by (own := [("ruling", 4)]) (N := ["seasons", "case", "days", "rulings", "ruling", "told", "day"]) (sc := defScope s_count_rulings) (by decide +kernel)) (fun _ _ _ _ _ => (pg_name (i := 4) sc_count_rulings.nd rfl (Or.inl rfl))) (fun _ _ _ _ _ => pts_nil) (fun _ _ _ _ _ => (pe_.re (pv 4) (by first | (dsimp only [Cx.blk]; done) | exact rfl))) (fun _ _ _ _ _ => (pe_.re pe_int (by first | (dsimp only [Cx.blk]; done) | exact rfl))))
      (pss_cons (ps_for PassesOwn.never rfl (pi_enum (by rfl) Bl.b_enumerate (pa_cons (pv 3) pa_nil)) (pg_tup (by rfl) (pgs_cons (pg_name (i := 6) sc_count_rulings.nd rfl (Or.inl rfl)) (pgs_cons (pg_name (i := 4) sc_count_rulings.nd rfl (Or.inl rfl)) pgs_nil))) (pss_one (ps_daug (Nat.lt_of_le_of_lt (Nat.add_le_add_left (by decide) _) hr.units) (pv 5) (pv 4) (pe_op op_fdiv (pe_op op_sub (pe_op op_add (pe_op op_sub (pv 2) (pv 6)) (pe_propM mPer (hr.mono (by decide)) CLe (pv 0))) pe_int) (pe_propM mPer (hr.mono (by decide)) CLe (pv 0))) iop_add (by intros; rfl))))
      (pss_one (ps_ret (pv 5))))))))), ?_⟩
  obtain ⟨dy, yb, yd, ykvs, hy, _⟩ := id hS
  have hxl := hO.xl
  have hsz := hO.sz
  have hcl := hsub.length_le
  have hp1 := perN_pos (fun q hq => (hO.so q hq).1)
  have hp2 := perN_le (fun q hq => (hO.so q hq).1)
  refine ⟨_, rfl, y, dy, _, rfl, hy, N, y, xs, f, rl, sp, rfl, hS, fun b hB => ?_⟩
  obtain ⟨dxb, a, pr, l, ws, us2, hob, hSa, _⟩ := id hB
  refine ⟨b, dxb, _, rfl, hob, b, dxb, _, _, rfl, hob, rfl, _, rfl, a, c, xs, cs, rfl, hSa, hC, by omega, fun hn H1 s1 => ?_, fun i hi => by rw [hout] at hi; cases hi⟩
  refine ⟨_, rfl, (n : Nat), rfl, by omega, d1, ?_⟩
  have S1 := hS.same s1
  refine ⟨_, rfl, N, y, xs, f, rl, sp, rfl, S1, (fun q hq => (hO.so q hq).1), ?_⟩
  refine ⟨_, rfl, _, rfl, N, y, c, xs, f, rl, sp, cs, rfl, S1, hO, (fun l hl => hN l (s1.free hl)), s1.tup hC, hsub, fun H3 D s3 e3 => ?_⟩
  have s13 := s1.trans s3
  have S3 := hS.same s13
  obtain ⟨dy3, yb3, yd3, ykvs3, hy3, _⟩ := id S3
  refine ⟨_, rfl, y, dy3, _, rfl, hy3, N, y, xs, f, rl, sp, rfl, S3, fun b3 hB3 => ?_⟩
  obtain ⟨dxb3, a3, pr3, l3, ws3, us3, hob3, _⟩ := id hB3
  refine ⟨b3, dxb3, _, rfl, hob3, N, b3, xs, f, rl, rfl, hB3, by omega, fun H4 Dy ys s4 e4 hsrt hynd hmem hylen => ?_⟩
  refine ⟨Dy, rfl, ⟨_, sqL_of e4⟩, fun Db nDb => dc_it walk_list (fun i H' => Same H4 H' ∧ H' Db = some (.dK ((ys.take i).map fun r => ((Sum.inr r : Key), V.int 0)))) ⟨(Same.refl H4).put nDb, upd_same⟩ (fun _ _ _ h => sqL_of (h.1 _ _ e4)) ?_ ?_⟩
  · rintro i v Ha Hb hi ⟨sb, eb⟩ ⟨rfl, hv⟩
    rw [List.getElem?_map] at hv
    obtain ⟨r, hr2, rfl⟩ := Option.map_eq_some_iff.mp hv
    have hn2 : valV ((ys.take i).map fun r => ((Sum.inr r : Key), V.int 0)) (.inr r) = none := by
      unfold valV
      rw [Option.map_eq_none_iff, List.find?_eq_none]
      intro kv hkv hd
      obtain ⟨r', hr', rfl⟩ := List.mem_map.mp hkv
      have hd : r' = r := Sum.inr.inj (of_decide_eq_true hd)
      rw [hd] at hr'
      obtain ⟨j, hj⟩ := List.mem_iff_getElem?.mp hr'
      have hjl := (List.getElem?_eq_some_iff.mp hj).1
      rw [List.length_take] at hjl
      rw [List.getElem?_take_of_lt (by omega)] at hj
      have := (List.getElem?_inj (List.getElem?_eq_some_iff.mp hj).1 hynd).mp (hj.trans hr2.symm)
      omega
    refine ⟨rfl, yes_ ⟨_, rfl, _, .inr r, rfl, eb, by rw [List.length_map, List.length_take, sizeLine_eq]; omega, sb.put nDb, ?_⟩⟩
    rw [upd_same, putK_new _ hn2, take_more hr2, List.map_append]
    rfl
  rintro H5 ⟨s5, e5⟩
  rw [List.length_map, List.take_length] at e5
  obtain ⟨gg, hgg⟩ : ∃ gg : Str → Nat → Bool, gg = fun r t => decide ((RF.filt (stays sp (t : Nat)) f).ruled cs rl = r) := ⟨_, rfl⟩
  have s45 := s5
  have e30 := s4 _ _ e3
  refine ⟨_, rfl, D, _, rfl, sqL_of (s5 _ _ e30), for_it walk_enum (fun i σ H' => ∃ (y4 y6 : Option V), σ = [some (.ref y), some (.ref c), some (.int (n : Nat)), some (.ref D), y4, some (.ref Db), y6] ∧ Same H4 H' ∧ H' Db = some (.dK (ys.map fun r => ((Sum.inr r : Key), V.int (Cnt65.accN (gg r) n (perN sp) i : Nat)))))
    ⟨_, _, rfl, s5, e5⟩ (fun _ _ _ _ ⟨_, _, _, s, _⟩ => sqL_of (s _ _ e30)) ?_ ?_⟩
  · clear e5 s5 s45
    rintro i v σ Ha Hb hi ⟨y4, y6, rfl, s, eb⟩ ⟨tp, v1, v2, rfl, nt, rfl, h1, h2⟩
    obtain rfl : V.int (i : Nat) = v1 := Option.some.inj h1
    have h2 : ((List.range (perN sp)).map fun d => V.str ((RF.filt (stays sp (d : Nat)) f).ruled cs rl))[i]? = some v2 := h2
    rw [List.getElem?_map] at h2
    have hi : i < perN sp := by simpa using hi
    rw [List.getElem?_range hi] at h2
    obtain rfl : V.str ((RF.filt (stays sp (i : Nat)) f).ruled cs rl) = v2 := Option.some.inj h2
    have hin : (RF.filt (stays sp (i : Nat)) f).ruled cs rl ∈ ys := (hmem _).mpr RF.ruled_in
    generalize hri : (RF.filt (stays sp (i : Nat)) f).ruled cs rl = ri at hin ⊢
    have s6 : Same H4 (upd Ha tp (.tup [.int (i : Nat), .str ri])) := s.put' nt
    have e6 : (upd Ha tp (.tup [.int (i : Nat), .str ri])) Db = some (.dK (ys.map fun r => ((Sum.inr r : Key), V.int (Cnt65.accN (gg r) n (perN sp) i : Nat)))) := by rw [upd_ne (ne_of_none eb nt)]; exact eb
    have eT : (upd Ha tp (.tup [.int (i : Nat), .str ri])) tp = some (.tup [.int (i : Nat), .str ri]) := upd_same
    generalize upd Ha tp (.tup [.int (i : Nat), .str ri]) = H6 at s6 e6 eT ⊢
    have S6 := hS.same (s13.trans (s4.trans s6))
    obtain ⟨dy6, yb6, yd6, ykvs6, hy6, _⟩ := id S6
    refine ⟨tp, _, rfl, sqT_of eT, rfl, _, _, rfl, _, _, rfl, rfl, ?_⟩
    refine ⟨_, rfl, _, rfl, Db, _, rfl, .inl ⟨_, .inr ri, .inl e6, rfl, (valV_mapS hin).symm⟩, ?_⟩
    refine ⟨_, rfl, _, rfl, _, _, rfl, rfl, _, rfl, y, dy6, _, rfl, hy6, N, y, xs, f, rl, sp, rfl, S6, _, _, rfl, rfl, _, _, rfl, rfl, _, rfl, y, dy6, _, rfl, hy6, N, y, xs, f, rl, sp, rfl, S6, _, _, rfl, rfl, ⟨by omega, by omega⟩, _, _, rfl, rfl, _, .inl ⟨_, .inr ri, e6, rfl, by rw [List.length_map, sizeLine_eq]; omega, rfl⟩, ?_⟩
    refine ⟨_, _, rfl, s6.put nDb, ?_⟩
    rw [upd_same]
    refine congrArg some (congrArg HO.dK ((putK_map hin).trans (List.map_congr_left fun r _ => ?_)))
    congr 2
    show _ = ((Cnt65.accN (gg r) n (perN sp) i + (if gg r i = true then (n + perN sp - 1 - i) / perN sp else 0) : Nat) : Int)
    have eg : gg r i = decide (ri = r) := by rw [hgg, ← hri]
    have ed : (((n : Nat) : Int) - (i : Nat) + (perN sp : Nat) - 1) / ((perN sp : Nat) : Int) = (((n + perN sp - 1 - i) / perN sp : Nat) : Int) := by
      rw [show (((n : Nat) : Int) - (i : Nat) + (perN sp : Nat) - 1) = ((n + perN sp - 1 - i : Nat) : Int) by omega]
      rfl
    by_cases c : r = ri
    · rw [if_pos c, eg, if_pos (decide_eq_true c.symm), ed, c]
      push_cast
      rfl
    · rw [if_neg c, eg, if_neg (by rw [decide_eq_true_iff]; exact fun z => c z.symm)]
      rfl
  · rintro σ Hb ⟨y4, y6, rfl, s, eb⟩
    refine ⟨_, rfl, q Hb Db ys (s13.trans (s4.trans s)) ?_ hsrt hynd hmem⟩
    rw [eb]
    refine congrArg some (congrArg HO.dK (List.map_congr_left fun r _ => ?_))
    congr 2
    have hfin : Cnt65.accN (gg r) n (perN sp) (perN sp) = cntD f sp cs rl n r := by
      rw [Cnt65.acc_all hp1 (g := gg r) fun t => ?_]
      · rw [hgg]; rfl
      · rw [hgg]
        show decide _ = decide _
        rw [RF.filt_congr (p := stays sp ((t : Nat) : Int)) (q := stays sp ((t % perN sp : Nat) : Int)) fun x _ => by
          have h := stays_per (sp := sp) (day := ((t : Nat) : Int)) (nm := x)
          rw [← h]
          rfl]
    rw [← hfin]
    first
      | rfl
      | (simp)
end
end Sc
/-! sorted of a set of ints, any number of them -/
namespace SetBig
open PySem PySem.Spec PySem.Calls PyProof.Rows L2
section
variable {P : Program} {w : World} {A : Around} {s : Shared} {E : Value → Shared → Prop} {a : Addr}
theorem sorted_setB {S : Int → Bool} {n : Nat} {Q : Value → Shared → Prop} (R : SetR w s.heap a S n) (hh : A.handled = none) (hn1 : n ≤ 1000000)
    (hQ : ∀ s' p (out : Array Value) (c : Nat) (ns : List Int), (∀ b o, s.heap.get? b = some o → s'.heap.get? b = some o) → s'.gens = s.gens → s'.os = s.os → s.heap.objs.size ≤ p →
      s'.heap.get? p = some (seqObj "list" out c) → IntsAre out.toList ns → ns.Pairwise (· < ·) → (∀ k, k ∈ ns ↔ S k = true) → ns.length = n → Q (.ref p) s') :
    wpAny (model P w) A (call (.builtin "sorted") [.ref a]) Q E s := by
  obtain ⟨o, es, ep, t, ho, hex, hd, g, nd, hm, hb, hf, hn, hr, hl⟩ := R
  refine Calls.call_function_entry kind_sorted plain_sorted entry_sorted (args_sorted1 _) ?_
  unfold Builtin.«sorted»
  refine wpAny_bind (m := checkCount "sorted" 1 1 _) (wpAny_pure ?_)
  refine wpAny_bind (collect_set (A := A.in1) hh ⟨o, ho, hex.1, hd⟩ hf hb hr hl fun s1 vs k1 hz g1 o1 pm => ?_)
  have hvl : vs.length = n := by rw [pm.length_eq, List.length_map, Array.length_toList]; exact hn
  have hI : IntsAre vs (vs.map Builtin.Re.reRawOf) := ints_of vs fun v hv => by
    obtain ⟨e, he, q⟩ := List.mem_map.mp (pm.mem_iff.mp hv)
    obtain ⟨k, tk, h1, _⟩ := g e he
    exact ⟨k, tk, by rw [← q]; exact h1⟩
  have pk : (vs.map Builtin.Re.reRawOf).Perm (es.toList.map keyOf) := by
    have q := pm.map Builtin.Re.reRawOf
    rw [List.map_map] at q
    exact q
  have hvz : vs.length ≤ sizeLine := by rw [hvl, sizeLine_eq]; omega
  refine wpAny_bind (wpAny_newList ?_ hvz)
  have hoL : (s1.heap.push (seqObj "list" vs.toArray 0)).get? s1.heap.objs.size = some (seqObj "list" vs.toArray 0) := Heap.get?_push_size _ rfl
  refine wpAny_bind (wpAny_holding (wpAny_call_entry slot_list_sort ⟨_, hoL, rfl⟩ entry_list_sort (SrtO.list_sort_ord SrtO.swo_int hoL hvz (fun h2 => SrtO.ints_sortable hI h2) fun out hs hst => ⟨_, rfl, ?_⟩) (args_list_sort _)))
  obtain ⟨b1, b2, b3⟩ := SrtO.ints_out hI hs hst
  obtain ⟨c, hc⟩ := sortedHeap_at (vs := vs) (out := out.toArray) hoL
  have pn : (out.map SrtO.iv).Perm (es.toList.map keyOf) := b2.trans pk
  refine wpAny_pure ⟨_, rfl, hQ _ s1.heap.objs.size out.toArray c (out.map SrtO.iv) (fun b u e => ?_) g1 o1 hz hc b1 (lt_of_le_nodup _ b3 (pn.nodup_iff.mpr nd)) (fun k => by rw [pn.mem_iff, ← hm k]) ?_⟩
  · have q := k1 b u e
    have hlt := Heap.lt_size q
    show (sortedHeap (s1.heap.push (seqObj "list" vs.toArray 0)) s1.heap.objs.size vs out.toArray).get? b = some u
    rw [sortedHeap_old (Nat.ne_of_lt hlt) (by rw [size_push']; exact Nat.lt_succ_of_lt hlt)]
    exact Heap.get?_push_of_some _ q
  · rw [pn.length_eq, List.length_map, Array.length_toList]; exact hn
end
end SetBig
namespace L2
open PySem PySem.Spec PyProof.Rows
def rSortedSetB (w : World) : List V → Hp → VK → Prop := fun vs H Q => ∃ (a : Addr) (S : Int → Bool) (n : Nat), vs = [V.ref a] ∧ H a = some (SetO w a S n) ∧ n ≤ 1000000 ∧
  ∀ (ns : List Int) (p : Addr), ns.Pairwise (· < ·) → (∀ k : Int, k ∈ ns ↔ S k = true) → ns.length = n → H p = none → Q (.ref p) (upd H p (.lst (ns.map V.int)))
theorem cr_sortedSetB {X : Cx} (hc : X.calm = true) : CallR X (.builtin "sorted") (rSortedSetB X.w) := by
  intro pins s σ H vs us Q I r h
  obtain ⟨a, S, n, rfl, ha, h64, q⟩ := h
  have R := setO_get I ha
  rw [Vals.ref1 r]
  refine SetBig.sorted_setB R (I.ok.hd hc) h64 fun s' p out c ns k g o hp hg hi hs hm hl => ?_
  have hlen : (ns.map V.int).length ≤ sizeLine := by rw [List.length_map, hl, sizeLine_eq]; omega
  have hn : H p = none := I.hok.fresh hp
  have J : Inv X pins σ (upd H p (.lst (ns.map V.int))) { s with heap := s'.heap, gens := s'.gens, drawn := s'.drawn, toks := s'.toks } :=
    I.call (ch := []) (Un.laid k hp hn) (I.hok.laid k hp ⟨hlen, out.toList, c, vals_of_ints hi, hg⟩) (by rw [g]; exact I.bare) (fun _ z => nomatch z)
  have e : s' = { s with heap := s'.heap, gens := s'.gens, drawn := s'.drawn, toks := s'.toks } := by
    cases s'
    cases s
    cases o
    rfl
  rw [e]
  exact ⟨.ref p, _, J, rfl, q ns p hs hm hl hn⟩
end L2
namespace SetJ
open PySem PySem.Spec PyProof.Rows L2
section
variable {P : Program} {w : World} {A : Around} {E : Value → Shared → Prop} {s : Shared}
theorem ints_at : ∀ {vs : List Value} {ns : List Int}, IntsAre vs ns → ∀ (i : Nat) (v : Value), vs[i]? = some v → ∃ k t, ns[i]? = some k ∧ v = .int k t
  | _, _, .cons y t r, 0, v, e => ⟨y, t, rfl, (Option.some.inj e).symm⟩
  | _, _, .cons y t r, i + 1, v, e => ints_at r i v e
/-- the set of a list of numbers -/
theorem of_list {l : Addr} {items : Array Value} {ns : List Int} {Q : Value → Shared → Prop} (hh : A.handled = none) (hl : s.heap.IsList l items) (hit : IntsAre items.toList ns) (hb : ns.length + 1 < scanBound)
    (hq : ∀ (h' : Heap) (tk c : Nat), SetR w h' s.heap.objs.size (fun j => decide (j ∈ ns)) c → c ≤ ns.length → (∀ b o, s.heap.get? b = some o → h'.get? b = some o) → Q (.ref s.heap.objs.size) { s with heap := h', toks := tk }) :
    wpAny (model P w) A (call (.type "set") [.ref l]) Q E s := by
  have hn : items.size = ns.length := by
    have q := IntsAre.length hit
    rw [Array.length_toList] at q
    exact q
  refine SetS.made (Z := fun s₂ => ∃ h' tk c, s₂ = { s with heap := h', toks := tk } ∧ SetR w h' s.heap.objs.size (fun j => decide (j ∈ ns)) c ∧ c ≤ ns.length ∧ ∀ b o, s.heap.get? b = some o → h'.get? b = some o) ?_ fun s₂ hz => ?_
  · obtain ⟨ol, hol, hc, nl, hd⟩ := hl
    obtain ⟨ocl, odi, oda, osl⟩ := ol
    simp only at hc hd
    subst hc
    subst hd
    have S0 : (s.heap.push (SetS.emp w)).get? s.heap.objs.size = some (SetS.emp w) := Heap.get?_push_size _ rfl
    have isS : Shared.TypeIs { s with heap := s.heap.push (SetS.emp w) } (.ref s.heap.objs.size) "set" := ⟨_, S0, rfl⟩
    have hol' : (s.heap.push (SetS.emp w)).get? l = some { cls := .type "list", dict := odi, data := .seq items nl, slots := osl } := Heap.get?_push_of_some _ hol
    have n1 := F.sub_list_set
    have n2 := F.sub_list_frozenset
    have n3 : (Value.type "list" == Value.type "dict") = false := by decide
    have hl1 : (s.heap.push (SetS.emp w)).IsList l items := ⟨_, hol', rfl, nl, rfl⟩
    unfold Builtin.«set.__init__» noKeywords Builtin.Frozenset.updateFrom
    generalize hPI : pyIter = PI
    wp_walk
    subst hPI
    refine wpAny_pyIter_list hl1 (wpAny_bind (wpAny_runValue ?_))
    have lt0 : l < s.heap.objs.size := Heap.lt_size hol
    have hh3 : A.in1.in1.in1.handled = none := by simp [hh]
    have nI : l ≠ (s.heap.push (SetS.emp w)).objs.size := by
      rw [Heap.size_push]
      exact Nat.ne_of_lt (Nat.lt_succ_of_lt lt0)
    have nS : s.heap.objs.size ∉ [(s.heap.push (SetS.emp w)).objs.size, l] := by
      rw [Heap.size_push]
      simp only [List.mem_cons, List.not_mem_nil, or_false, not_or]
      exact ⟨Nat.ne_of_lt (Nat.lt_succ_self _), Nat.ne_of_gt lt0⟩
    have hv : ∀ (i : Nat) (v : Value), items[i]? = some v → ∃ k t, ns[i]? = some k ∧ v = .int k t := fun i v e => by
      rw [← Array.getElem?_toList] at e
      exact ints_at hit i v e
    refine set_update_ints ((Walks.list hh3 _ l nI items).toS) s.heap.objs.size nS ns hn hb hv (items.size - 0) 0
      { s with heap := (s.heap.push (SetS.emp w)).push { cls := .type "list_iterator", data := .fields #[.ref l, .int 0 0] } } (by omega) (Nat.zero_le _) ⟨⟨_, Heap.get?_push_size _ rfl, rfl, rfl⟩, hl1.push _⟩ ⟨0, Nat.le_refl 0, setR_new_at (Heap.get?_push_of_some _ S0)⟩
      (fun s' c mv hc hz => ?_)
    obtain ⟨h', g2, d', tk', os'⟩ := s'
    obtain rfl : g2 = s.gens := mv.gens
    obtain rfl : d' = s.drawn := mv.drawn
    obtain rfl : os' = s.os := mv.os
    show wpAny _ _ _ _ _ _
    refine wpAny_pure ?_
    show wpAny _ _ (ret Value.none) _ _ _
    refine wpAny_pure ⟨rfl, h', tk', c, rfl, hz, by omega, fun b o e => ?_⟩
    have lb : b < s.heap.objs.size := Heap.lt_size e
    refine mv.heap b o ?_ (Heap.get?_push_of_some _ (Heap.get?_push_of_some _ e))
    simp only [List.mem_cons, List.not_mem_nil, or_false, not_or]
    refine ⟨Nat.ne_of_lt lb, ?_⟩
    rw [Heap.size_push]
    exact Nat.ne_of_lt (Nat.lt_succ_of_lt lb)
  · obtain ⟨h', tk, c, rfl, hz, m, k⟩ := hz
    exact hq h' tk c hz m k
end
section
variable {X : Cx}
/-- set(ns), ns a list of numbers -/
def rSetI (K : PySem.W.Frag) (w : World) : List V → Hp → VK → Prop := fun xs H Q => ∃ (l : Addr) (ns : List Int), xs = [V.ref l] ∧ SqL K H l (ns.map V.int) ∧ ns.length ≤ 1000 ∧
  ∀ a c, H a = none → c ≤ ns.length → Q (.ref a) (upd H a (SetO w a (fun j => decide (j ∈ ns)) c))
theorem cr_setI (hc : X.calm = true) : CallR X (.type "set") (rSetI X.K X.w) := by
  intro pins s σ H xs us Q I r h
  obtain ⟨l, ns, rfl, hl, hf, q⟩ := h
  rw [Vals.ref1 r]
  obtain ⟨its, rv, pl, hz⟩ := I.list hl
  refine of_list (P := X.prog) (w := X.w) (ns := ns) (I.ok.hd hc) pl.isList (by simpa using ints_of_vals rv) (by unfold scanBound; omega) fun h' tk c R m k => ?_
  exact ⟨.ref s.heap.objs.size, upd H s.heap.objs.size (SetO X.w s.heap.objs.size (fun j => decide (j ∈ ns)) c), I.laid (t' := tk) k (Nat.le_refl _) (setO_new R), rfl, q _ c (I.hok.fresh (Nat.le_refl _)) m⟩
/-- sorted(set(ns)) -/
theorem sorted_fin {K : PySem.W.Frag} {w : World} {H : Hp} {D : Addr} {ns : List Int} {Q : VK} (e : H D = some (.lst (ns.map V.int))) (hl : ns.length ≤ 1000)
    (q : ∀ H' D' (zs : List Int), L2.Same H H' → H' D' = some (.lst (zs.map V.int)) → zs.Pairwise (· < ·) → (∀ k, k ∈ zs ↔ k ∈ ns) → zs.length ≤ ns.length → Q (.ref D') H') : rSetI K w [.ref D] H fun x H1 => rSortedSetB w [x] H1 Q :=
  ⟨D, ns, rfl, .inl (.inl e), hl, fun a c na hc => ⟨a, _, c, rfl, upd_same, by omega, fun zs b hb hm hn nb => q _ b zs (((Same.refl H).put na).put' nb) upd_same hb (fun k => by rw [hm k, decide_eq_true_iff]) (by omega)⟩⟩
end
end SetJ
namespace Sc
open PySem PySem.Spec PyProof.Rows L2
theorem sc_Timetable_lasting : FnScope ["self", "number", "forces", "found", "first", "bits", "force"] ["self", "number", "forces"] (defScope s_Timetable_lasting) := ⟨rfl, rfl, rfl, by decide +kernel, rfl, by decide +kernel, by decide +kernel⟩
section
variable {P : Program} {w : World} {K : PySem.W.Frag} {mg : Str → Option Value} {base : Heap} {C R B TT SE CU : Addr}
/-- the ruling that lasts over some forces -/
def lastV (rul : Int → Str) (fs : List Int) : V := match fs with
  | [] => .non
  | a :: r => if r.all (fun b => decide (rul b = rul a)) = true then .str (rul a) else .non
theorem lastV_all {rul : Int → Str} {fs : List Int} {r : Str} (hne : fs ≠ []) (h : ∀ F ∈ fs, rul F = r) : lastV rul fs = .str r := by
  cases fs with
  | nil => exact absurd rfl hne
  | cons a t =>
    have ha := h a List.mem_cons_self
    show (if _ then _ else _) = _
    rw [if_pos (by rw [List.all_eq_true]; intro b hb; exact decide_eq_true ((h b (List.mem_cons_of_mem _ hb)).trans ha.symm)), ha]
theorem lastV_not {rul : Int → Str} {fs : List Int} {F G : Int} (hF : F ∈ fs) (hG : G ∈ fs) (hne : rul F ≠ rul G) : lastV rul fs = .non := by
  cases fs with
  | nil => cases hF
  | cons a t =>
    show (if _ then _ else _) = _
    rw [if_neg]
    intro h
    rw [List.all_eq_true] at h
    have key : ∀ b ∈ a :: t, rul b = rul a := fun b hb => by
      rcases List.mem_cons.mp hb with rfl | hb
      · rfl
      · exact of_decide_eq_true (h b hb)
    exact hne ((key F hF).trans (key G hG).symm)
theorem by_lr {N : Addr → Prop} {H : Hp} {x dx b D dd : Addr} {us : List V} {xs : List Str} {f : RF} {rl : Str} {z m : Int} {kp : Nd → Bool} {Q : VK} {E : XK} (hT : TtAt K C R B TT N H x dx b D dd us xs f rl) (h0 : 0 ≤ z) (h1 : z < 2 ^ (f.flat xs [] []).length) (hb : ∀ (j : Nat) (n : Nd), (f.flat xs [] [])[j]? = some n → bitAt z j = (metB xs m n && kp n)) (hz : f.size ≤ 900)
    (q : ∀ H', Same H H' → Q (.str (lineRul xs (f.flat xs [] []) rl m kp)) H') : sp_by K C R B TT [.ref x, .int z] H Q E :=
  ⟨N, x, dx, b, D, dd, us, xs, f, rl, z, fun n => metB xs m n && kp n, rfl, hT, h0, h1, hb, hz, fun H' s => q H' s⟩
def sp_last (K : PySem.W.Frag) (C R B TT : Addr) : Sp := fun vs H Q _ => ∃ (N : Addr → Prop) (x dx b D dd L : Addr) (us : List V) (xs : List Str) (f : RF) (rl : Str) (m : Int) (c : Nat) (fs : List Int) (rul : Int → Str), vs = [.ref x, .int m, .ref L] ∧ TtAt K C R B TT N H x dx b D dd us xs f rl ∧ MetAt H dd xs (f.flat xs [] []) c ∧ c + fs.length ≤ 100000 ∧ f.size ≤ 900 ∧ H L = some (.lst (fs.map V.int)) ∧ fs ≠ [] ∧ fs.length ≤ 1000 ∧
  (∀ F ∈ fs, ∃ keep : Nd → Bool, (∀ (j : Nat) (n : Nd), (f.flat xs [] [])[j]? = some n → bitAt F j = keep n) ∧ rul F = lineRul xs (f.flat xs [] []) rl m keep) ∧
  ∀ H', SameX dd H H' → MetAt H' dd xs (f.flat xs [] []) (c + fs.length) → Q (lastV rul fs) H'
theorem ok_last {f : Addr} {fd : FuncData} (F : Fun K "lasting" "Timetable.lasting" s_Timetable_lasting f fd) (Bl : Blt mg) (CLt : Cls K TT) (mt_met : MethR P w K mg base 2 TT "met" ["self", "number"] (sp_met K C R B TT)) (mt_ruling_by : MethR P w K mg base 3 TT "ruling_by" ["self", "bits"] (sp_by K C R B TT)) : FnOk P w K mg base CX0 5 f fd ["self", "number", "forces"] (sp_last K C R B TT) := by
  refine F.ok sc_Timetable_lasting (fun vs H Q E h => by obtain ⟨N, x, dx, b, D, dd, L, us, xs, f, rl, m, c, fs, rul, rfl, _⟩ := h; rfl) (fun cdv A outer s H vs Q E hr h => ?_)
  obtain ⟨N, x, dx, b, D, dd, L, us, xs, f, rl, m, c, fs, rul, rfl, hT, hM, hc, hz, eL, hne, hfl, hF, q⟩ := h
  refine ⟨_, (pss_cons (ps_set (i := 3) sc_Timetable_lasting.nd rfl (Or.inl rfl) (pe_callB (cr_sortedSetB rfl) (by rfl) Bl.b_sorted (by decide +kernel) (pa_cons (pe_callTy (SetJ.cr_setI rfl) (by rfl) Bl.b_set (by decide +kernel) (pa_cons (pe_lc (own := [("force", 6)]) (g := gName 6) (tt := tYes) rfl sc_Timetable_lasting.nd (pi_list (pv 2)) (blkOk_by (own := [("force", 6)]) (N := ["self", "number", "forces", "found", "first", "bits", "force"]) (sc := defScope s_Timetable_lasting) (by decide +kernel)) (fun _ _ _ _ _ => (pg_name (i := 6) sc_Timetable_lasting.nd rfl (Or.inl rfl))) (fun _ _ _ _ _ => pts_nil) (fun _ _ _ _ _ => (pe_.re (pe_op L2.op_and (pe_me CLt mt_met (hr.mono (by decide)) (pv 0) (pa_cons (pv 1) pa_nil)) (pv 6)) (by first | (dsimp only [Cx.blk]; done) | exact rfl)))) pa_nil)) pa_nil)))
      (pss_cons (ps_set (i := 4) sc_Timetable_lasting.nd rfl (Or.inl rfl) (pe_me CLt mt_ruling_by (hr.mono (by decide)) (pv 0) (pa_cons (pe_ix ix_list (pv 3) pe_int (fun _ _ => rfl)) pa_nil)))
      (pss_cons (ps_for PassesOwn.never rfl (pi_list (pv 3)) (pg_name (i := 5) sc_Timetable_lasting.nd rfl (Or.inl rfl)) (pss_one (ps_if (pt_cmpR op_ne (pe_me CLt mt_ruling_by (hr.mono (by decide)) (pv 0) (pa_cons (pv 5) pa_nil)) (pv 4) (nomark _)) (pss_one (ps_ret pe_non)) pss_nil)))
      (pss_one (ps_ret (pv 4)))))), ?_⟩
  obtain ⟨kvs0, hd0, hl0, hv0⟩ := id hM
  have hbit : ∀ F ∈ fs, ∃ keep : Nd → Bool, (∀ (j : Nat) (n : Nd), (f.flat xs [] [])[j]? = some n → bitAt (Builtin.bitAnd (metN xs (f.flat xs [] []) m) F) j = (metB xs m n && keep n)) ∧ rul F = lineRul xs (f.flat xs [] []) rl m keep := fun F hFm => by
    obtain ⟨keep, hk, hr⟩ := hF F hFm
    refine ⟨keep, fun j n hj => ?_, hr⟩
    rw [band_bit, hk j n hj]
    congr 1
    rw [← atB_of (p := metB xs m) hj]
    exact bsP_bit _ _ (List.getElem?_eq_some_iff.mp hj).1
  have hsame : ∀ F ∈ fs, ∀ G ∈ fs, Builtin.bitAnd (metN xs (f.flat xs [] []) m) F = Builtin.bitAnd (metN xs (f.flat xs [] []) m) G → rul F = rul G := fun F hF1 G hG1 e => by
    obtain ⟨k1, h1, r1⟩ := hbit F hF1
    obtain ⟨k2, h2, r2⟩ := hbit G hG1
    rw [r1, r2]
    unfold lineRul
    rw [find_congr (p := fun n => metB xs m n && k1 n) (q := fun n => metB xs m n && k2 n) fun n hn => ?_]
    obtain ⟨j, hj⟩ := List.mem_iff_getElem?.mp hn
    rw [← h1 j n hj, ← h2 j n hj, e]
  have hrg : ∀ F : Int, 0 ≤ Builtin.bitAnd (metN xs (f.flat xs [] []) m) F ∧ Builtin.bitAnd (metN xs (f.flat xs [] []) m) F < 2 ^ (f.flat xs [] []).length := fun F => by
    have hb := bsP_lt (q := atB (metB xs m) (f.flat xs [] [])) (f.flat xs [] []).length
    have h2 : 0 ≤ Builtin.bitAnd (metN xs (f.flat xs [] []) m) F ∧ Builtin.bitAnd (metN xs (f.flat xs [] []) m) F ≤ metN xs (f.flat xs [] []) m := by
      rw [bitAnd_comm]
      exact bitAnd_range F hb.1
    exact ⟨h2.1, Int.lt_of_le_of_lt h2.2 hb.2⟩
  refine ⟨_, rfl, L, rfl, ⟨_, sqL_of eL⟩, fun D5 nD5 => lc_it walk_list (fun i H' => SameX dd H H' ∧ MetAt H' dd xs (f.flat xs [] []) (c + i) ∧ H' D5 = some (.lst (((fs.take i).map fun F => Builtin.bitAnd (metN xs (f.flat xs [] []) m) F).map V.int))) ⟨?_, ?_, upd_same⟩ (fun _ _ _ h => sqL_of (h.1 _ _ (fun z => by rw [z, hd0] at eL; cases eL) eL)) ?_ ?_⟩
  · exact fun b' o' _ e => ((Same.refl H).put nD5) _ _ e
  · exact ⟨kvs0, ((Same.refl H).put nD5) _ _ hd0, hl0, hv0⟩
  · rintro i v Ha Hb hi ⟨xb, hMb, eb⟩ ⟨rfl, hv⟩
    rw [List.getElem?_map] at hv
    obtain ⟨F, hFi, rfl⟩ := Option.map_eq_some_iff.mp hv
    have hi : i < fs.length := (List.getElem?_eq_some_iff.mp hFi).1
    have hTb := hT.sx xb hd0
    refine ⟨rfl, yes_ ⟨_, rfl, x, dx, _, rfl, hTb.o, rfl, _, rfl, N, x, dx, b, D, dd, us, xs, f, rl, m, c + i, rfl, hTb, hMb, by omega, by omega, fun H6 x6 hM6 => ?_⟩⟩
    have hMb' := hMb
    obtain ⟨kb, hdb, _, _⟩ := hMb'
    have d5 : D5 ≠ dd := fun z => by rw [z, hdb] at eb; cases eb
    have e6 := x6 _ _ d5 eb
    obtain ⟨k6, hd6, hl6, hv6⟩ := hM6
    refine ⟨_, rfl, _, _, rfl, rfl, _, e6, by rw [List.length_map, List.length_map, List.length_take, sizeLine_eq]; omega, ?_, ⟨k6, by rw [upd_ne d5.symm]; exact hd6, by omega, hv6⟩, ?_⟩
    · exact fun b' o' ne e => by rw [upd_ne (ne_of_none e nD5)]; exact x6 _ _ ne (xb _ _ ne e)
    · rw [upd_same, take_more hFi, List.map_append, List.map_append]
      rfl
  rintro H5 ⟨x5, hM5, e5⟩
  rw [List.length_map] at hM5 e5
  rw [List.take_length] at e5
  dsimp only [tNil]
  refine SetJ.sorted_fin e5 (by rw [List.length_map]; omega) fun H6 D6 zs s6 e6 hasc hmem hzl => ?_
  rw [List.length_map] at hzl
  have hT6 := (hT.sx x5 hd0).same s6
  obtain ⟨k5, hd5, hl5, hv5⟩ := hM5
  have hM6 : MetAt H6 dd xs (f.flat xs [] []) (c + fs.length) := ⟨k5, s6 _ _ hd5, hl5, hv5⟩
  have q : ∀ H', Same H6 H' → Q (lastV rul fs) H' := fun H' s' => q H' (fun b' o' ne e => s' _ _ (s6 _ _ (x5 _ _ ne e))) ⟨k5, s' _ _ (s6 _ _ hd5), hl5, hv5⟩
  have hzs : ∀ z ∈ zs, ∃ F ∈ fs, z = Builtin.bitAnd (metN xs (f.flat xs [] []) m) F := fun z hz => by
    obtain ⟨F, hF1, e⟩ := List.mem_map.mp ((hmem z).mp hz)
    exact ⟨F, hF1, e.symm⟩
  obtain ⟨F0, fs0, efs⟩ := List.exists_cons_of_ne_nil hne
  have hzne : zs ≠ [] := fun z => by
    have h := (hmem (Builtin.bitAnd (metN xs (f.flat xs [] []) m) F0)).mpr (List.mem_map.mpr ⟨F0, by rw [efs]; exact List.mem_cons_self, rfl⟩)
    rw [z] at h
    cases h
  obtain ⟨z0, zs0, ezs⟩ := List.exists_cons_of_ne_nil hzne
  obtain ⟨G0, hG0, ez0⟩ := hzs z0 (by rw [ezs]; exact List.mem_cons_self)
  obtain ⟨kp0, hk0, hr0⟩ := hbit G0 hG0
  have hat0 : atI (zs.map V.int) 0 = some (.int z0) := by rw [ezs]; exact atI_nat (j := 0) rfl
  refine ⟨_, rfl, x, dx, _, rfl, hT6.o, rfl, _, rfl, D6, _, _, .int z0, rfl, rfl, sqL_of e6, hat0, ?_⟩
  dsimp only [tNil]
  refine by_lr (m := m) (kp := kp0) hT6 (by rw [ez0]; exact (hrg G0).1) (by rw [ez0]; exact (hrg G0).2) (fun j n hj => by rw [ez0]; exact hk0 j n hj) hz fun H7 s7 => ?_
  rw [← hr0]
  refine ⟨_, rfl, D6, rfl, ⟨_, sqL_of (s7 _ _ e6)⟩, for_it walk_list (fun i σ H' => ∃ (y5 y6 : Option V), σ = [some (.ref x), some (.int m), some (.ref L), some (.ref D6), some (.str (rul G0)), y5, y6] ∧ Same H6 H' ∧ ∀ k, k < i → ∀ F ∈ fs, zs[k]? = some (Builtin.bitAnd (metN xs (f.flat xs [] []) m) F) → rul F = rul G0) ⟨_, _, rfl, s7, fun k h => absurd h (Nat.not_lt_zero k)⟩ (fun _ _ _ _ ⟨_, _, _, s, _⟩ => sqL_of (s _ _ e6)) ?_ ?_⟩
  · rintro i v σ Ha Hb hi ⟨y5, y6, rfl, s, hall⟩ ⟨rfl, hv⟩
    rw [List.getElem?_map] at hv
    obtain ⟨z, hzi, rfl⟩ := Option.map_eq_some_iff.mp hv
    obtain ⟨G, hG, ez⟩ := hzs z (List.mem_of_getElem? hzi)
    obtain ⟨kp, hk, hr1⟩ := hbit G hG
    have hTb := hT6.same s
    refine ⟨_, rfl, x, dx, _, rfl, hTb.o, rfl, _, rfl, ?_⟩
    dsimp only [tNil]
    refine by_lr (m := m) (kp := kp) hTb (by rw [ez]; exact (hrg G).1) (by rw [ez]; exact (hrg G).2) (fun j n hj => by rw [ez]; exact hk j n hj) hz fun H8 s8 => ?_
    rw [← hr1]
    refine ⟨_, rfl, rfl, _, rfl, ?_⟩
    have s68 := s.trans s8
    by_cases c1 : rul G = rul G0
    · rw [decide_eq_true (congrArg V.str c1)]
      refine iteF ⟨_, _, rfl, s68, fun k hk F hF1 hz1 => ?_⟩
      by_cases e : k = i
      · subst e
        rw [hzi, ez] at hz1
        exact (hsame F hF1 G hG (Option.some.inj hz1).symm).trans c1
      · exact hall k (by omega) F hF1 hz1
    · rw [decide_eq_false (fun z => c1 (V.str.inj z))]
      have q := q H8 s68
      rw [lastV_not hG hG0 c1] at q
      exact iteT q
  · rintro σ Hb ⟨y5, y6, rfl, s, hall⟩
    have q := q Hb s
    rw [lastV_all (r := rul G0) hne fun F hF1 => ?_] at q
    · exact ⟨_, rfl, q⟩
    · have hm := (hmem (Builtin.bitAnd (metN xs (f.flat xs [] []) m) F)).mpr (List.mem_map.mpr ⟨F, hF1, rfl⟩)
      obtain ⟨k, hk⟩ := List.mem_iff_getElem?.mp hm
      have hkl := (List.getElem?_eq_some_iff.mp hk).1
      exact hall k (by rw [List.length_map]; exact hkl) F hF1 hk
end
end Sc
namespace Sc
open PySem PySem.Spec PyProof.Rows L2
theorem sc_always : FnScope ["seasons", "book", "table", "forces", "ruling", "told", "number"] ["seasons"] (defScope s_always) := ⟨rfl, rfl, rfl, by decide +kernel, rfl, by decide +kernel, by decide +kernel⟩
section
variable {P : Program} {w : World} {K : PySem.W.Frag} {mg : Str → Option Value} {base : Heap} {C R B TT SE CU : Addr}
theorem sum_one {ys : List Str} {a : Str → Nat} {r : Str} (hn : ys.Nodup) (h : r ∈ ys) : (ys.map fun s => if s = r then a r + 1 else a s).sum = (ys.map a).sum + 1 := by
  induction ys with
  | nil => cases h
  | cons y t ih =>
    obtain ⟨n1, n2⟩ := List.nodup_cons.mp hn
    rw [List.map_cons, List.map_cons, List.sum_cons, List.sum_cons]
    rcases List.mem_cons.mp h with e | h
    · subst e
      rw [if_pos rfl]
      have : (t.map fun s => if s = r then a r + 1 else a s) = t.map a := List.map_congr_left fun s hs => if_neg fun z => n1 (by rw [← z]; exact hs)
      rw [this]
      omega
    · rw [if_neg (fun z => n1 (by rw [z]; exact h)), ih n2 h]
      omega
theorem TtAt.sx2 {N : Addr → Prop} {H H' : Hp} {x dx b D dd d d2 : Addr} {us : List V} {xs : List Str} {f : RF} {rl : Str} {kvs kvs2 : List (Key × V)} (h : TtAt K C R B TT N H x dx b D dd us xs f rl) (s : ∀ b o, b ≠ d → b ≠ d2 → H b = some o → H' b = some o) (e : H d = some (.dK kvs)) (e2 : H d2 = some (.dK kvs2)) : TtAt K C R B TT N H' x dx b D dd us xs f rl := by
  have kk : Keeps N H H' := fun b o st h => s b o (fun z => by
    rw [z, e] at h
    cases h
    exact Bool.noConfusion (st.2.2.2 : true = false)) (fun z => by
    rw [z, e2] at h
    cases h
    exact Bool.noConfusion (st.2.2.2 : true = false)) h
  exact ⟨s _ _ (fun z => by have h := h.o; rw [z, e] at h; cases h) (fun z => by have h := h.o; rw [z, e2] at h; cases h) h.o, h.bk.keeps kk, s _ _ (fun z => by have h := h.rows; rw [z, e] at h; cases h) (fun z => by have h := h.rows; rw [z, e2] at h; cases h) h.rows, h.ln.mono fun _ _ y => y.keeps kk⟩
theorem lastV_in {rul : Int → Str} {fs : List Int} : lastV rul fs = .non ∧ (∀ F, fs ≠ [F]) ∨ (fs = [] ∧ lastV rul fs = .non) ∨ ∃ F ∈ fs, lastV rul fs = .str (rul F) := by
  cases fs with
  | nil => exact .inr (.inl ⟨rfl, rfl⟩)
  | cons a t =>
    unfold lastV
    dsimp only
    by_cases c : (t.all fun b => decide (rul b = rul a)) = true
    · rw [if_pos c]
      exact .inr (.inr ⟨a, List.mem_cons_self, rfl⟩)
    · rw [if_neg c]
      refine .inl ⟨rfl, fun F e => ?_⟩
      injection e with e1 e2
      rw [e2] at c
      exact c rfl
theorem sum_none {ys : List Str} : (ys.map fun _ => 0).sum = 0 := by
  induction ys with
  | nil => rfl
  | cons y t ih => rw [List.map_cons, List.sum_cons, ih]
def sp_alw (K : PySem.W.Frag) (C R B SE : Addr) : Sp := fun vs H Q _ => ∃ (N : Addr → Prop) (y : Addr) (xs : List Str) (f : RF) (rl : Str) (sp : List (Str × Spn)), vs = [.ref y] ∧ SeaAt K C R B SE N H y xs f rl sp ∧ SeaOk xs f sp ∧ (∀ l, H l = none → N l) ∧ xs.length ≤ 10 ∧
  ∀ H' D (ys : List Str) (a : Str → Nat), Same H H' → H' D = some (.dK (ys.map fun r => ((Sum.inr r : Key), V.int (a r : Nat)))) → ys.length ≤ 901 → (ys.map a).sum ≤ 2 ^ xs.length → (perN sp = 1 → (ys.map a).sum = 2 ^ xs.length) → Q (.ref D) H'
theorem ok_alw {f : Addr} {fd : FuncData} {t1 : Tok} (F : Fun K "always" "always" s_always f fd) (Bl : Blt mg) (CLe : Cls K SE) (CLt : Cls K TT) (m_MOST_FACTS_seasons : mg "MOST_FACTS_seasons" = some (.int 10 t1)) (kB : BookX P w K mg base B) (k_Timetable : Mkr0 P w K mg base 18 "Timetable" TT ["self", "book"] (sp_ttInit K C R B TT)) (mBk : PropM P w K mg base SE "book" 1 (sp_seaBook K C R B SE)) (mRl : PropM P w K mg base B "rulings" 3 (sp_brulings K C R B)) (mt_lasting : MethR P w K mg base 5 TT "lasting" ["self", "number", "forces"] (sp_last K C R B TT)) (c_check_period : Cal P w K mg base CX0 3 "check_period" ["seasons"] (sp_cper K C R B SE)) (c_forces_of_period : Cal P w K mg base CX0 18 "forces_of_period" ["seasons", "table"] (sp_forces K C R B TT SE)) : FnOk P w K mg base CX0 20 f fd ["seasons"] (sp_alw K C R B SE) := by
  refine F.ok sc_always (fun vs H Q E h => by obtain ⟨N, y, xs, f, rl, sp, rfl, _⟩ := h; rfl) (fun cdv A outer s H vs Q E hr h => ?_)
  obtain ⟨N, y, xs, f, rl, sp, rfl, hS, hO, hN, hx10, q⟩ := h
  refine ⟨_, (pss_cons (ps_expr (pe_cal c_check_period (hr.mono (by decide)) (pa_cons (pv 0) pa_nil)))
      (pss_cons (ps_set (i := 1) sc_always.nd rfl (Or.inl rfl) (pe_propM mBk (hr.mono (by decide)) CLe (pv 0)))
      (pss_cons (ps_if (pt_cmpR op_gt (pe_callB call_len_seq (by rfl) Bl.b_len PySem.boot_len (pa_cons (pe_cprop kB.facts kB.cls (hr.mono (by decide)) (pv 1)) pa_nil)) (pe_glob (v := .int 10) rfl m_MOST_FACTS_seasons ⟨_, rfl⟩) (nomark _)) pss_never pss_nil)
      (pss_cons (ps_set (i := 2) sc_always.nd rfl (Or.inl rfl) (pe_mk0 k_Timetable (hr.mono (by decide)) (pa_cons (pv 1) pa_nil)))
      (pss_cons (ps_set (i := 3) sc_always.nd rfl (Or.inl rfl) (pe_callB (cr_sortedSetB rfl) (by rfl) Bl.b_sorted (by decide +kernel) (pa_cons (pe_callTy (SetJ.cr_setI rfl) (by rfl) Bl.b_set (by decide +kernel) (pa_cons (pe_cal c_forces_of_period (hr.mono (by decide)) (pa_cons (pv 0) (pa_cons (pv 2) pa_nil))) pa_nil)) pa_nil)))
      (pss_cons (ps_setDc (i := 5) (own := [("ruling", 4)]) (g := gName 4) (tt := tYes) rfl sc_always.nd rfl rfl (sw_trueD rfl rfl rfl (by decide +kernel)) (pi_list (pe_propM mRl (hr.mono (by decide)) kB.cls (pv 1))) (blkOk_by (own := [("ruling", 4)]) (N := ["seasons", "book", "table", "forces", "ruling", "told", "number"]) (sc := defScope s_always) (by decide +kernel)) (fun _ _ _ _ _ => (pg_name (i := 4) sc_always.nd rfl (Or.inl rfl))) (fun _ _ _ _ _ => pts_nil) (fun _ _ _ _ _ => (pe_.re (pv 4) (by first | (dsimp only [Cx.blk]; done) | exact rfl))) (fun _ _ _ _ _ => (pe_.re pe_int (by first | (dsimp only [Cx.blk]; done) | exact rfl))))
      (pss_cons (ps_for PassesOwn.never rfl (pi_range1 (by rfl) Bl.b_range (pa_cons (pe_op op_shlW pe_int (pe_callB call_len_seq (by rfl) Bl.b_len PySem.boot_len (pa_cons (pe_cprop kB.facts kB.cls (hr.mono (by decide)) (pv 1)) pa_nil))) pa_nil)) (pg_name (i := 6) sc_always.nd rfl (Or.inl rfl)) (pss_cons (ps_set (i := 4) sc_always.nd rfl (Or.inl rfl) (pe_me CLt mt_lasting (hr.mono (by decide)) (pv 2) (pa_cons (pv 6) (pa_cons (pv 3) pa_nil))))
      (pss_one (ps_if (pt_cmpR op_notN (pv 4) pe_non (nomark _)) (pss_one (ps_daug (Nat.lt_of_le_of_lt (Nat.add_le_add_left (by decide) _) hr.units) (pv 5) (pv 4) pe_int iop_add (by intros; rfl))) pss_nil))))
      (pss_one (ps_ret (pv 5)))))))))), ?_⟩
  obtain ⟨dy, yb, yd, ykvs, hy, _⟩ := id hS
  have hxl := hO.xl
  have hdp := hO.dp
  have hsz := hO.sz
  have hp1 := perN_pos (fun q hq => (hO.so q hq).1)
  have hp2 := perN_le (fun q hq => (hO.so q hq).1)
  refine ⟨_, rfl, N, y, xs, f, rl, sp, rfl, hS, (fun q hq => (hO.so q hq).1), ?_⟩
  refine ⟨_, rfl, y, dy, _, rfl, hy, N, y, xs, f, rl, sp, rfl, hS, fun b hB => ?_⟩
  obtain ⟨dxb, a, pr, l, ws, us0, hob, hSa, _⟩ := id hB
  refine ⟨_, rfl, b, dxb, _, rfl, hob, b, dxb, _, _, rfl, hob, rfl, a, _, rfl, .inr hSa, _, _, rfl, rfl, ?_⟩
  refine ⟨_, rfl, ?_⟩
  rw [List.length_map, decide_eq_false (show ¬ (10 : Int) < ((xs.length : Nat) : Int) by omega)]
  refine iteF ⟨_, rfl, ?_⟩
  intro x dx nx ndx nex
  have s1 : Same H (upd (upd H dx (.own x)) x (.ins TT dx [])) := ((Same.refl H).put ndx).put nx
  generalize hH1 : upd (upd H dx (.own x)) x (.ins TT dx []) = H1 at s1
  have hx1 : H1 x = some (.ins TT dx []) := by rw [← hH1]; exact upd_same
  refine ⟨N, x, dx, b, xs, f, rl, rfl, hx1, hB.keeps s1.keeps, (fun l hl => hN l (s1.free hl)), by omega, by omega, by omega, hO.sub, fun H2 D dd us x2 ndd1 hT hM => ⟨rfl, ?_⟩⟩
  have ndd : H dd = none := s1.free ndd1
  have s02 : Same H H2 := fun b' o' e => x2 b' o' (fun z => by rw [z, nx] at e; cases e) (s1 _ _ e)
  have hS2 := hS.same s02
  obtain ⟨kvs0, hd0, hl0, hv0⟩ := id hM
  refine ⟨_, rfl, _, rfl, N, y, x, dx, b, D, dd, us, xs, f, rl, sp, rfl, hS2, hT, hO.nd, hdp, hsz, hO.sn, hO.sl, hO.so, fun H4 Df s4 eDf => ?_⟩
  have eDf : H4 Df = some (.lst (((List.range (perN sp)).map fun d => forceN f (f.flat xs [] []) sp (d : Nat)).map V.int)) := by rw [eDf, List.map_map]; rfl
  dsimp only [tNil]
  refine SetJ.sorted_fin eDf (by rw [List.length_map, List.length_range]; omega) fun H5 D5 fs s5 e5 hasc hmem hfl => ?_
  rw [List.length_map, List.length_range] at hfl
  have s25 := s4.trans s5
  have hT5 := hT.same s25
  have s05 := s02.trans s25
  have hB5 := hB.keeps (N := N) s05.keeps
  obtain ⟨dxb5, a5, pr5, l5, ws5, us5, hob5, hSa5, _⟩ := id hB5
  refine ⟨_, rfl, b, dxb5, _, rfl, hob5, N, b, xs, f, rl, rfl, hB5, by omega, fun H6 Dy ys s6 e6 hsrt hynd hymem hylen => ?_⟩
  refine ⟨Dy, rfl, ⟨_, sqL_of e6⟩, fun Db nDb => dc_it walk_list (fun i H' => Same H6 H' ∧ H' Db = some (.dK ((ys.take i).map fun r => ((Sum.inr r : Key), V.int 0)))) ⟨(Same.refl H6).put nDb, upd_same⟩ (fun _ _ _ h => sqL_of (h.1 _ _ e6)) ?_ ?_⟩
  · rintro i v Ha Hb hi ⟨sb, eb⟩ ⟨rfl, hv⟩
    rw [List.getElem?_map] at hv
    obtain ⟨r, hr2, rfl⟩ := Option.map_eq_some_iff.mp hv
    have hn2 : valV ((ys.take i).map fun r => ((Sum.inr r : Key), V.int 0)) (.inr r) = none := by
      unfold valV
      rw [Option.map_eq_none_iff, List.find?_eq_none]
      intro kv hkv hd
      obtain ⟨r', hr', rfl⟩ := List.mem_map.mp hkv
      have hd : r' = r := Sum.inr.inj (of_decide_eq_true hd)
      rw [hd] at hr'
      obtain ⟨j, hj⟩ := List.mem_iff_getElem?.mp hr'
      have hjl := (List.getElem?_eq_some_iff.mp hj).1
      rw [List.length_take] at hjl
      rw [List.getElem?_take_of_lt (by omega)] at hj
      have := (List.getElem?_inj (List.getElem?_eq_some_iff.mp hj).1 hynd).mp (hj.trans hr2.symm)
      omega
    refine ⟨rfl, yes_ ⟨_, rfl, _, .inr r, rfl, eb, by rw [List.length_map, List.length_take, sizeLine_eq]; omega, sb.put nDb, ?_⟩⟩
    rw [upd_same, putK_new _ hn2, take_more hr2, List.map_append]
    rfl
  rintro H7 ⟨s7, e7⟩
  rw [List.length_map, List.take_length] at e7
  have s27 := s25.trans (s6.trans s7)
  have s07 := s02.trans s27
  have hT7 := hT.same s27
  have hB7 := hB.keeps (N := N) s07.keeps
  obtain ⟨dxb7, a7, pr7, l7, ws7, us7, hob7, hSa7, _⟩ := id hB7
  have eF7 := (s6.trans s7) _ _ e5
  have hd7 := s27 _ _ hd0
  obtain ⟨M, hMp⟩ : ∃ M : Nat, M = 2 ^ xs.length := ⟨_, rfl⟩
  have hpow : M ≤ 1024 := by rw [hMp]; exact Nat.le_trans (Nat.pow_le_pow_right (by decide) hx10) (by decide)
  have hne : fs ≠ [] := fun z => by
    have h := (hmem (forceN f (f.flat xs [] []) sp ((0 : Nat) : Int))).mpr (List.mem_map.mpr ⟨0, List.mem_range.mpr (by omega), rfl⟩)
    rw [z] at h
    cases h
  have hex : ∀ F ∈ fs, ∃ d : Nat, F = forceN f (f.flat xs [] []) sp (d : Nat) := fun F hF => by
    obtain ⟨d, _, e⟩ := List.mem_map.mp ((hmem F).mp hF)
    exact ⟨d, e.symm⟩
  obtain ⟨dOf, hdOf⟩ : ∃ dOf : Int → Nat, ∀ F ∈ fs, F = forceN f (f.flat xs [] []) sp ((dOf F : Nat) : Int) := by
    classical
    refine ⟨fun F => if h : ∃ d : Nat, F = forceN f (f.flat xs [] []) sp (d : Nat) then Classical.choose h else 0, fun F hF => ?_⟩
    have h := hex F hF
    show F = forceN f (f.flat xs [] []) sp ((if h : ∃ d : Nat, F = forceN f (f.flat xs [] []) sp (d : Nat) then Classical.choose h else 0 : Nat) : Int)
    rw [dif_pos h]
    exact Classical.choose_spec h
  have hDbd : Db ≠ dd := fun z => by
    have h := (s25.trans s6) _ _ hd0
    rw [z] at nDb
    rw [nDb] at h
    cases h
  have nDbH : H Db = none := (s05.trans s6).free nDb
  have hD5b : D5 ≠ Db := fun z => by rw [z, e7] at eF7; cases eF7
  have hD5d : D5 ≠ dd := fun z => by rw [z, hd7] at eF7; cases eF7
  refine ⟨_, rfl, b, dxb7, _, rfl, hob7, b, dxb7, _, _, rfl, hob7, rfl, a7, _, rfl, .inr hSa7, 1, ((xs.map V.str).length : Nat), rfl, rfl, shl_ok (i := 1) (j := (xs.map V.str).length) (n := 1) (by decide) (by rw [List.length_map]; omega), ?_⟩
  have ev : (1 : Int) * 2 ^ (((xs.map V.str).length : Nat) : Int).toNat = ((M : Nat) : Int) := by
    rw [hMp, Int.one_mul, Int.toNat_natCast, List.length_map]
    push_cast
    rfl
  refine ⟨((M : Nat) : Int), congrArg (fun z => [V.int z]) ev, by omega, by omega, for_it walk_range (fun i σ H' => ∃ (y4 y6 : Option V) (cn : Str → Nat), σ = [some (.ref y), some (.ref b), some (.ref x), some (.ref D5), y4, some (.ref Db), y6] ∧ (∀ b' o', b' ≠ dd → b' ≠ Db → H7 b' = some o' → H' b' = some o') ∧ MetAt H' dd xs (f.flat xs [] []) (i * fs.length) ∧ H' Db = some (.dK (ys.map fun r => ((Sum.inr r : Key), V.int (cn r : Nat)))) ∧ (ys.map cn).sum ≤ i ∧ (perN sp = 1 → (ys.map cn).sum = i)) ⟨_, _, fun _ => 0, rfl, fun _ _ _ _ h => h, ⟨kvs0, hd7, by omega, hv0⟩, e7, ?_, fun _ => ?_⟩ (fun _ _ _ _ _ => trivial) ?_ ?_⟩
  · rw [sum_none]; exact Nat.le_refl _
  · exact sum_none
  · rintro i v σ Ha Hb hi ⟨y4, y6, cn, rfl, sX, hMb, eb, hle, heq⟩ ⟨rfl, hv⟩
    have hi : i < M := by simpa using hi
    obtain rfl : v = V.int (i : Nat) := by rw [hv]; show V.int (0 + (i : Nat)) = _; rw [Int.zero_add]
    have hTb := hT7.sx2 sX hd7 e7
    have hmul : i * fs.length ≤ 1023 * 84 := Nat.mul_le_mul (by omega) (by omega)
    obtain ⟨rul, hrul⟩ : ∃ rul : Int → Str, rul = fun F => lineRul xs (f.flat xs [] []) rl (i : Nat) (keepB f sp ((dOf F : Nat) : Int)) := ⟨_, rfl⟩
    have hin : ∀ F, rul F ∈ ys := fun F => by
      rw [hymem, hrul]
      dsimp only
      rw [line_ruled hO.g hO.nd hO.sub hO.dj (show i < 2 ^ xs.length by rw [← hMp]; exact hi)]
      exact RF.ruled_in
    refine ⟨_, rfl, x, dx, _, rfl, hTb.o, rfl, _, rfl, _, rfl, N, x, dx, b, D, dd, D5, us, xs, f, rl, (i : Nat), i * fs.length, fs, rul, rfl, hTb, hMb, by omega, by omega, sX _ _ hD5d hD5b eF7, hne, by omega, fun F hF => ⟨keepB f sp ((dOf F : Nat) : Int), fun j n hj => ?_, by rw [hrul]⟩, fun H8 x8 hM8 => ?_⟩
    · rw [hdOf F hF]
      have h := force_bit (sp := sp) (day := ((dOf F : Nat) : Int)) hO.nd hj
      rw [← hdOf F hF] at h ⊢
      exact h
    have e8 := x8 _ _ hDbd eb
    have sX8 : ∀ b' o', b' ≠ dd → b' ≠ Db → H7 b' = some o' → H8 b' = some o' := fun b' o' n1 n2 e => x8 _ _ n1 (sX _ _ n1 n2 e)
    have hM8 : MetAt H8 dd xs (f.flat xs [] []) ((i + 1) * fs.length) := by rw [Nat.succ_mul]; exact hM8
    refine ⟨_, rfl, rfl, _, rfl, ?_⟩
    rcases lastV_in (rul := rul) (fs := fs) with ⟨ev, h1⟩ | ⟨ev, _⟩ | ⟨F, hF, ev⟩
    · rw [ev, decide_eq_true rfl]
      refine iteF ⟨_, _, cn, rfl, sX8, hM8, e8, by omega, fun hp => ?_⟩
      obtain ⟨F0, t0, ef⟩ := List.exists_cons_of_ne_nil hne
      rw [ef, hp, List.length_cons] at hfl
      exact absurd (by rw [ef, List.length_eq_zero_iff.mp (show t0.length = 0 by omega)]) (h1 F0)
    · exact absurd ev hne
    · rw [ev, decide_eq_false (fun z => by cases z)]
      obtain ⟨k8, hd8, hl8, hv8⟩ := hM8
      refine iteT ⟨_, rfl, _, rfl, Db, _, rfl, .inl ⟨_, .inr (rul F), .inl e8, rfl, (valV_mapS (hin F)).symm⟩, ?_⟩
      refine ⟨_, _, rfl, rfl, _, .inl ⟨_, .inr (rul F), e8, rfl, by rw [List.length_map, sizeLine_eq]; omega, rfl⟩, ?_⟩
      have hsum := sum_one (a := cn) hynd (hin F)
      refine ⟨_, _, fun r => if r = rul F then cn (rul F) + 1 else cn r, rfl, fun b' o' n1 n2 e => by rw [upd_ne n2]; exact sX8 _ _ n1 n2 e, ⟨k8, by rw [upd_ne hDbd.symm]; exact hd8, hl8, hv8⟩, ?_, by omega, fun hp => by have := heq hp; omega⟩
      rw [upd_same]
      refine congrArg some (congrArg HO.dK ((putK_map (hin F)).trans (List.map_congr_left fun r _ => ?_)))
      congr 2
      dsimp only
      by_cases c : r = rul F
      · rw [if_pos c, if_pos c]; rfl
      · rw [if_neg c, if_neg c]
  · rintro σ Hb ⟨y4, y6, cn, rfl, sX, hMb, eb, hle, heq⟩
    refine ⟨_, rfl, q Hb Db ys cn (fun b' o' e => sX _ _ (fun z => by rw [z, ndd] at e; cases e) (fun z => by rw [z, nDbH] at e; cases e) (s07 _ _ e)) eb hylen (by rw [← hMp]; simpa using hle) (by rw [← hMp]; simpa using heq)⟩
end
end Sc
namespace Sc
open PySem PySem.Spec PyProof.Rows L2
/-! ### the draws of the laws from k31 on -/
theorem sc__law_sides : FnScope ["_law_h", "_law_facts_here", "_law_most", "_law_rest", "_law_holding", "_law_failing", "_law_k", "_law_one"] ["_law_h", "_law_facts_here", "_law_most"] (defScope s__law_sides) := ⟨rfl, rfl, rfl, by decide +kernel, rfl, by decide +kernel, by decide +kernel⟩
def ten : List Str := ["crew", "debt", "fog", "gate", "late", "mail", "noon", "paid", "rain", "warm"]
theorem ten_right : Right ten := ⟨by decide +kernel, by decide +kernel⟩
section
variable {P : Program} {w : World} {K : PySem.W.Frag} {mg : Str → Option Value} {base : Heap}
def sp_facts : Sp := fun vs H Q _ => ∃ (a l : Addr) (m : Nat), vs = [.ref a, .int (m : Nat)] ∧ RS H a l ∧ 1 ≤ m ∧ m ≤ 10 ∧ ∀ H' p fs, Kp a l H H' → H' p = some (.tup (fs.map V.str)) → H p = none → List.Sublist fs ten → 1 ≤ fs.length → fs.length ≤ m → Q (.ref p) H'
theorem ok_facts {f : Addr} {fd : FuncData} (F : Fun K "_law_facts" "_law_facts" s__law_facts f fd) (B : Blt mg) (c__law_next : Cal P w K mg base CX0 1 "_law_next" ["_law_h", "_law_limit"] sp_next) : FnOk P w K mg base CX0 2 f fd ["_law_h", "_law_most"] sp_facts := by
  refine F.ok sc__law_facts (fun vs H Q E h => by obtain ⟨a, l, c, rfl, _⟩ := h; rfl) (fun cdv A outer s H vs Q E hr h => ?_)
  obtain ⟨a, l, c, rfl, hR, c0, c1, q⟩ := h
  refine ⟨_, (pss_cons (ps_set (i := 2) sc__law_facts.nd rfl (Or.inl rfl) (pe_lst (pa_cons pe_str (pa_cons pe_str (pa_cons pe_str (pa_cons pe_str (pa_cons pe_str (pa_cons pe_str (pa_cons pe_str (pa_cons pe_str (pa_cons pe_str (pa_cons pe_str pa_nil))))))))))))
      (pss_cons (ps_set (i := 3) sc__law_facts.nd rfl (Or.inl rfl) (pe_op op_add pe_int (pe_cal c__law_next (hr.mono (by decide)) (pa_cons (pv 0) (pa_cons (pv 1) pa_nil)))))
      (pss_cons (ps_while PassesOwn.never (pt_cmpR op_gt (pe_callB call_len_seq (by rfl) B.b_len PySem.boot_len (pa_cons (pv 2) pa_nil)) (pv 3) (nomark _)) (pss_one (ps_expr (pe_bm PySem.F.plainAttrs_list PySem.F.slot_list_pop PySem.F.type_list_pop mt_popAt (pv 2) (pa_cons (pe_cal c__law_next (hr.mono (by decide)) (pa_cons (pv 0) (pa_cons (pe_callB call_len_seq (by rfl) B.b_len PySem.boot_len (pa_cons (pv 2) pa_nil)) pa_nil))) pa_nil)))))
      (pss_one (ps_ret (pe_callTy call_tuple_of (by rfl) B.b_tuple PyProof.Rows.boot_tuple (pa_cons (pv 2) pa_nil))))))), ?_⟩
  refine ⟨(by show 10 ≤ sizeLine; decide), fun p np => ?_⟩
  obtain ⟨npa, npl⟩ := hR.no np
  have k0 := (Kp.refl hR).put (o := .lst (ten.map V.str)) np
  have e0 : (upd H p (.lst (ten.map V.str))) p = some (.lst (ten.map V.str)) := upd_same
  refine ⟨_, rfl, _, rfl, a, l, _, rfl, k0.new, by omega, small_lim (by omega) (by omega), fun H1 r k1 r0 r1 => ⟨1, r, rfl, rfl, ?_⟩⟩
  obtain ⟨m, rfl⟩ := Int.eq_ofNat_of_zero_le r0
  refine ⟨fun k σ H' => ∃ zs : List Str, k = zs.length ∧ σ = [some (.ref a), some (.int (c : Nat)), some (.ref p), some (.int (1 + (m : Nat)))] ∧ Kp a l H H' ∧ H' p = some (.lst (zs.map V.str)) ∧ List.Sublist zs ten ∧ m + 1 ≤ zs.length,
    ⟨_, ten, rfl, rfl, k0.trans k1, k1.keep p _ npa npl e0, List.Sublist.refl _, (by show m + 1 ≤ 10; omega)⟩, ?_⟩
  rintro k σ H1 ⟨zs, rfl, rfl, k1, e1, sb, hc⟩
  have hz : zs.length ≤ 10 := sb.length_le
  refine ⟨.ref p, rfl, p, _, rfl, .inl (sqL_of e1), _, rfl, _, _, rfl, rfl, _, rfl, bcase (fun t1 => ?_) (fun t1 => ?_)⟩
  · have t1 : 1 + (m : Int) < ((zs.map V.str).length : Int) := of_decide_eq_true t1
    rw [List.length_map] at t1
    refine ⟨fun σ' H' => ∃ zs' : List Str, zs'.length < zs.length ∧ (σ' = [some (.ref a), some (.int (c : Nat)), some (.ref p), some (.int (1 + (m : Nat)))] ∧ Kp a l H H' ∧ H' p = some (.lst (zs'.map V.str)) ∧ List.Sublist zs' ten ∧ m + 1 ≤ zs'.length),
      fun σ' H' ⟨zs', lt, x⟩ => ⟨_, lt, zs', rfl, x⟩, ?_⟩
    refine ⟨.ref p, rfl, .inl ⟨rfl, _, sqL_of e1⟩, .ref a, rfl, .ref p, rfl, p, _, rfl, .inl (sqL_of e1), a, l, _, rfl, k1.new, by rw [List.length_map]; omega, ?_, fun H2 r k2 r0 r1 => ?_⟩
    · rw [List.length_map]
      exact Nat.lt_of_le_of_lt (Nat.log2_le_self _) (by show zs.length < 9000; omega)
    · have e2 : H2 p = some (.lst (zs.map V.str)) := k2.keep p _ npa npl e1
      rw [List.length_map] at r1
      obtain ⟨j, rfl⟩ := Int.eq_ofNat_of_zero_le r0
      have hj : j < zs.length := by omega
      have hj' : j < (zs.map V.str).length := by rw [List.length_map]; exact hj
      refine ⟨p, _, _, j, _, rfl, rfl, e2, by omega, by omega, (ixN_seq (ixN_of hj')).1, List.getElem?_eq_getElem hj', zs.eraseIdx j, ?_, rfl, (k1.trans k2).put0 np, ?_, (List.eraseIdx_sublist zs j).trans sb, ?_⟩
      · rw [List.length_eraseIdx_of_lt hj]
        omega
      · rw [upd_same, map_eraseIdx]
      · rw [List.length_eraseIdx_of_lt hj]
        omega
  · have t1 : ¬ 1 + (m : Int) < ((zs.map V.str).length : Int) := of_decide_eq_false t1
    rw [List.length_map] at t1
    refine ⟨.ref p, rfl, p, _, rfl, .inl ⟨sqL_of e1, fun t nt => q _ t zs (k1.put nt) upd_same (k1.free nt) sb (by omega) (by omega)⟩⟩
/-- the parts of a drawn condition -/
structure Side (fs hs gs : List Str) (m : Nat) : Prop where
  r1 : Right hs
  r2 : Right gs
  s1 : ∀ x ∈ hs, x ∈ fs
  s2 : ∀ x ∈ gs, x ∈ fs
  dj : ∀ x ∈ gs, ¬ x ∈ hs
  le : hs.length + gs.length ≤ m
theorem erase_perm {α : Type} : ∀ {zs : List α} {j : Nat} (h : j < zs.length), (zs[j] :: zs.eraseIdx j).Perm zs
  | z :: r, 0, _ => List.Perm.refl _
  | z :: r, j + 1, h => by
    have hj : j < r.length := by simpa using h
    have ih := erase_perm hj
    show (r[j] :: z :: r.eraseIdx j).Perm (z :: r)
    exact (List.Perm.swap _ _ _).trans (ih.cons z)
def sp_sides (K : PySem.W.Frag) : Sp := fun vs H Q _ => ∃ (a l fp : Addr) (fs : List Str) (m : Nat), vs = [.ref a, .ref fp, .int (m : Nat)] ∧ RS H a l ∧ SqT K H fp (fs.map V.str) ∧ fs.length ≤ 60 ∧ Right fs ∧ m ≤ 8 ∧
  ∀ H' p pw pb hs gs, Kp a l H H' → H' p = some (.tup [.ref pw, .ref pb]) → H' pw = some (.tup (hs.map V.str)) → H' pb = some (.tup (gs.map V.str)) → Side fs hs gs m → Q (.ref p) H'
theorem ok_sides {f : Addr} {fd : FuncData} (F : Fun K "_law_sides" "_law_sides" s__law_sides f fd) (B : Blt mg) (c__law_next : Cal P w K mg base CX0 1 "_law_next" ["_law_h", "_law_limit"] sp_next) : FnOk P w K mg base CX0 2 f fd ["_law_h", "_law_facts_here", "_law_most"] (sp_sides K) := by
  refine F.ok sc__law_sides (fun vs H Q E h => by obtain ⟨a, l, fp, fs, m, rfl, _⟩ := h; rfl) (fun cdv A outer s H vs Q E hr h => ?_)
  obtain ⟨a, l, fp, fs, m, rfl, R, hS, hl, hfs, hm, q⟩ := h
  refine ⟨_, (pss_cons (ps_par3 (i := 3) (j := 4) (l := 5) rfl sc__law_sides.nd rfl rfl rfl (by decide) (by decide) (by decide) rfl rfl rfl (pa_cons (pe_callTy call_list_of (by rfl) B.b_list PyProof.Rows.boot_list (pa_cons (pv 1) pa_nil)) (pa_cons (pe_lst pa_nil) (pa_cons (pe_lst pa_nil) pa_nil))) rfl)
      (pss_cons (ps_for PassesOwn.never rfl (pi_range1 (by rfl) B.b_range (pa_cons (pe_cal c__law_next (hr.mono (by decide)) (pa_cons (pv 0) (pa_cons (pe_op op_add (pe_callB (call_min2 rfl) (by rfl) B.b_min (by decide +kernel) (pa_cons (pv 2) (pa_cons (pe_callB call_len_seq (by rfl) B.b_len PySem.boot_len (pa_cons (pv 1) pa_nil)) pa_nil))) pe_int) pa_nil))) pa_nil)) (pg_name (i := 6) sc__law_sides.nd rfl (Or.inl rfl)) (pss_cons (ps_set (i := 7) sc__law_sides.nd rfl (Or.inl rfl) (pe_bm PySem.F.plainAttrs_list PySem.F.slot_list_pop PySem.F.type_list_pop mt_popAt (pv 3) (pa_cons (pe_cal c__law_next (hr.mono (by decide)) (pa_cons (pv 0) (pa_cons (pe_callB call_len_seq (by rfl) B.b_len PySem.boot_len (pa_cons (pv 3) pa_nil)) pa_nil))) pa_nil)))
      (pss_one (ps_if (pt_cmpR op_gt (pe_cal c__law_next (hr.mono (by decide)) (pa_cons (pv 0) (pa_cons pe_int pa_nil))) pe_int (nomark _)) (pss_one (ps_expr (pe_bm PySem.F.plainAttrs_list PySem.F.slot_list_append PySem.F.type_list_append mt_append (pv 4) (pa_cons (pv 7) pa_nil)))) (pss_one (ps_expr (pe_bm PySem.F.plainAttrs_list PySem.F.slot_list_append PySem.F.type_list_append mt_append (pv 5) (pa_cons (pv 7) pa_nil))))))))
      (pss_one (ps_ret (pe_tup (pa_cons (pe_callTy call_tuple_of (by rfl) B.b_tuple PyProof.Rows.boot_tuple (pa_cons (pe_callB cr_sortedS (by rfl) B.b_sorted (by decide +kernel) (pa_cons (pv 4) pa_nil)) pa_nil)) (pa_cons (pe_callTy call_tuple_of (by rfl) B.b_tuple PyProof.Rows.boot_tuple (pa_cons (pe_callB cr_sortedS (by rfl) B.b_sorted (by decide +kernel) (pa_cons (pv 5) pa_nil)) pa_nil)) pa_nil))))))), ?_⟩
  refine ⟨_, rfl, fp, _, rfl, .inr hS, fun lr nr => ⟨Nat.zero_le _, fun lw nw => ⟨Nat.zero_le _, fun lb nb => ⟨_, _, _, rfl, ?_⟩⟩⟩⟩
  have s1 : Same H (upd H lr (.lst (fs.map V.str))) := (Same.refl H).put nr
  have s2 : Same H (upd (upd H lr (.lst (fs.map V.str))) lw (.lst [])) := s1.put' nw
  have s3 : Same H (upd (upd (upd H lr (.lst (fs.map V.str))) lw (.lst [])) lb (.lst [])) := s2.put' nb
  have wr : lr ≠ lw := ne_of_none upd_same nw
  have wb : lw ≠ lb := ne_of_none upd_same nb
  have rb : lr ≠ lb := ne_of_none (show _ = some (HO.lst (fs.map V.str)) by rw [upd_ne wr]; exact upd_same) nb
  have er : (upd (upd (upd H lr (.lst (fs.map V.str))) lw (.lst [])) lb (.lst [])) lr = some (.lst (fs.map V.str)) := by rw [upd_ne rb, upd_ne wr]; exact upd_same
  have ew : (upd (upd (upd H lr (.lst (fs.map V.str))) lw (.lst [])) lb (.lst [])) lw = some (.lst (([] : List Str).map V.str)) := by rw [upd_ne wb]; exact upd_same
  have eb : (upd (upd (upd H lr (.lst (fs.map V.str))) lw (.lst [])) lb (.lst [])) lb = some (.lst (([] : List Str).map V.str)) := upd_same
  have fw : H lw = none := s1.free nw
  have fb : H lb = none := s2.free nb
  generalize upd (upd (upd H lr (.lst (fs.map V.str))) lw (.lst [])) lb (.lst []) = H0 at s3 er ew eb ⊢
  obtain ⟨ra, rl⟩ := R.no nr
  obtain ⟨wa, wl⟩ := R.no fw
  obtain ⟨ba, bl⟩ := R.no fb
  have k0 := Kp.of R s3
  have hmn : (if (fs.length : Int) < m then (fs.length : Int) else m) = ((min fs.length m : Nat) : Int) := by split <;> omega
  refine ⟨_, rfl, _, rfl, _, rfl, fp, _, rfl, .inr (k0.tup hS), _, _, rfl, _, 1, rfl, rfl, ?_⟩
  rw [List.length_map, hmn]
  refine ⟨a, l, _, rfl, k0.new, by omega, small_lim (by omega) (by omega), fun H1 r k1 r0 r1 => ?_⟩
  obtain ⟨n, rfl⟩ := Int.eq_ofNat_of_zero_le r0
  have hn : n ≤ min fs.length m := by omega
  have hnd := hfs.nodup
  refine ⟨_, rfl, by omega, by omega, for_it walk_range (fun i σ H' => ∃ (rest ws bs : List Str) (y6 y7 : Option V), σ = [some (.ref a), some (.ref fp), some (.int (m : Nat)), some (.ref lr), some (.ref lw), some (.ref lb), y6, y7] ∧ Kp a l H H' ∧ H' lr = some (.lst (rest.map V.str)) ∧ H' lw = some (.lst (ws.map V.str)) ∧ H' lb = some (.lst (bs.map V.str)) ∧
      (rest ++ (ws ++ bs)).Perm fs ∧ ws.length + bs.length = i)
    ⟨fs, [], [], none, none, rfl, k0.trans k1, k1.keep _ _ ra rl er, k1.keep _ _ wa wl ew, k1.keep _ _ ba bl eb, by rw [List.append_nil, List.append_nil], rfl⟩ (fun _ _ _ _ _ => trivial) ?_ ?_⟩
  · rintro i y σ H3 H2 hi ⟨rest, ws, bs, y6, y7, rfl, k, er, ew, eb, hp, hlen⟩ ⟨rfl, hy⟩
    have hi : i < n := hi
    have hpl := hp.length_eq
    rw [List.length_append, List.length_append] at hpl
    refine ⟨_, rfl, .inl ⟨rfl, _, sqL_of er⟩, _, rfl, _, rfl, lr, _, rfl, .inl (sqL_of er), a, l, _, rfl, k.new, by rw [List.length_map]; omega, small_lim (by omega) (by rw [List.length_map]; omega), fun H4 r4 k4 r40 r41 => ?_⟩
    rw [List.length_map] at r41
    obtain ⟨j, rfl⟩ := Int.eq_ofNat_of_zero_le r40
    have hj : j < rest.length := by omega
    have hj' : j < (rest.map V.str).length := by rw [List.length_map]; exact hj
    have er4 := k4.keep _ _ ra rl er
    have ew4 := k4.keep _ _ wa wl ew
    have eb4 := k4.keep _ _ ba bl eb
    refine ⟨lr, _, _, j, _, rfl, rfl, er4, by omega, by omega, (ixN_seq (ixN_of hj')).1, List.getElem?_eq_getElem hj', ?_⟩
    rw [List.getElem_map]
    have k5 : Kp a l H (upd H4 lr (.lst ((rest.eraseIdx j).map V.str))) := (k.trans k4).put0 nr
    have er5 : (upd H4 lr (.lst ((rest.eraseIdx j).map V.str))) lr = some (.lst ((rest.eraseIdx j).map V.str)) := upd_same
    have ew5 : (upd H4 lr (.lst ((rest.eraseIdx j).map V.str))) lw = some (.lst (ws.map V.str)) := by rw [upd_ne wr.symm]; exact ew4
    have eb5 : (upd H4 lr (.lst ((rest.eraseIdx j).map V.str))) lb = some (.lst (bs.map V.str)) := by rw [upd_ne rb.symm]; exact eb4
    have hpe := erase_perm hj
    rw [map_eraseIdx]
    generalize upd H4 lr (.lst ((rest.eraseIdx j).map V.str)) = H5 at k5 er5 ew5 eb5 ⊢
    refine ⟨_, rfl, a, l, 3, rfl, k5.new, by decide, small_lim (by decide) (by decide), fun H6 r6 k6 r60 r61 => ⟨r6, 0, rfl, rfl, _, rfl, ?_⟩⟩
    have kk := k5.trans k6
    have er6 := k6.keep _ _ ra rl er5
    have ew6 := k6.keep _ _ wa wl ew5
    have eb6 := k6.keep _ _ ba bl eb5
    refine bcase (fun c1 => ?_) (fun c1 => ?_)
    · refine ⟨_, rfl, .inl ⟨rfl, _, sqL_of ew6⟩, _, rfl, lw, _, _, rfl, rfl, ew6, by rw [List.length_map]; exact small1000 (by omega), ?_⟩
      refine ⟨rest.eraseIdx j, ws ++ [rest[j]], bs, _, _, rfl, kk.put0 fw, by rw [upd_ne wr]; exact er6, by rw [upd_same, List.map_append]; rfl, by rw [upd_ne wb.symm]; exact eb6, ?_, by rw [List.length_append, List.length_singleton]; omega⟩
      refine List.Perm.trans ?_ hp
      refine List.Perm.trans ?_ (hpe.append_right (ws ++ bs))
      show (rest.eraseIdx j ++ ((ws ++ [rest[j]]) ++ bs)).Perm (rest[j] :: (rest.eraseIdx j ++ (ws ++ bs)))
      rw [List.append_assoc, ← List.append_assoc]
      have h1 : ((rest.eraseIdx j ++ ws) ++ ([rest[j]] ++ bs)).Perm (rest[j] :: ((rest.eraseIdx j ++ ws) ++ bs)) := List.perm_middle
      rw [List.append_assoc (rest.eraseIdx j) ws bs] at h1
      exact h1
    · refine ⟨_, rfl, .inl ⟨rfl, _, sqL_of eb6⟩, _, rfl, lb, _, _, rfl, rfl, eb6, by rw [List.length_map]; exact small1000 (by omega), ?_⟩
      refine ⟨rest.eraseIdx j, ws, bs ++ [rest[j]], _, _, rfl, kk.put0 fb, by rw [upd_ne rb]; exact er6, by rw [upd_ne wb]; exact ew6, by rw [upd_same, List.map_append]; rfl, ?_, by rw [List.length_append, List.length_singleton]; omega⟩
      refine List.Perm.trans ?_ hp
      refine List.Perm.trans ?_ (hpe.append_right (ws ++ bs))
      show (rest.eraseIdx j ++ (ws ++ (bs ++ [rest[j]]))).Perm (rest[j] :: (rest.eraseIdx j ++ (ws ++ bs)))
      rw [← List.append_assoc, ← List.append_assoc, ← List.append_assoc]
      exact List.perm_append_singleton _ _
  · rintro σ H2 ⟨rest, ws, bs, y6, y7, rfl, k, er, ew, eb, hp, hlen⟩
    have hlen : ws.length + bs.length = n := hlen
    have hsub : (ws ++ bs).Perm (ws ++ bs) := List.Perm.refl _
    have hnd2 : (rest ++ (ws ++ bs)).Nodup := hp.nodup_iff.mpr hnd
    have hin : ∀ x ∈ ws ++ bs, x ∈ fs := fun x hx => hp.mem_iff.mp (List.mem_append_right _ hx)
    have nd3 : (ws ++ bs).Nodup := (List.nodup_append.mp hnd2).2.1
    have ndw := (List.nodup_append.mp nd3).1
    have ndb := (List.nodup_append.mp nd3).2.1
    refine ⟨_, rfl, lw, ws, rfl, sqL_of ew, by omega, fun zs p hz1 hz2 np => ?_⟩
    have s4 : Same H2 (upd H2 p (.lst (zs.map V.str))) := (Same.refl H2).put np
    have e4 : (upd H2 p (.lst (zs.map V.str))) p = some (.lst (zs.map V.str)) := upd_same
    generalize upd H2 p (.lst (zs.map V.str)) = H3 at s4 e4 ⊢
    refine ⟨p, _, rfl, .inl ⟨sqL_of e4, fun t nt => ?_⟩⟩
    have s5 : Same H3 (upd H3 t (.tup (zs.map V.str))) := (Same.refl H3).put nt
    have e5 : (upd H3 t (.tup (zs.map V.str))) t = some (.tup (zs.map V.str)) := upd_same
    generalize upd H3 t (.tup (zs.map V.str)) = H4 at s5 e5 ⊢
    have s25 := s4.trans s5
    refine ⟨_, rfl, lb, bs, rfl, sqL_of (s25 _ _ eb), by omega, fun zs2 p2 hy1 hy2 np2 => ?_⟩
    have s6 : Same H4 (upd H4 p2 (.lst (zs2.map V.str))) := (Same.refl H4).put np2
    have e6 : (upd H4 p2 (.lst (zs2.map V.str))) p2 = some (.lst (zs2.map V.str)) := upd_same
    generalize upd H4 p2 (.lst (zs2.map V.str)) = H5 at s6 e6 ⊢
    refine ⟨p2, _, rfl, .inl ⟨sqL_of e6, fun t2 nt2 => ?_⟩⟩
    have s7 : Same H5 (upd H5 t2 (.tup (zs2.map V.str))) := (Same.refl H5).put nt2
    have e7 : (upd H5 t2 (.tup (zs2.map V.str))) t2 = some (.tup (zs2.map V.str)) := upd_same
    generalize upd H5 t2 (.tup (zs2.map V.str)) = H6 at s7 e7 ⊢
    refine ⟨(by show 2 ≤ sizeLine; decide), fun t3 nt3 => ?_⟩
    have s8 : Same H6 (upd H6 t3 (.tup [.ref t, .ref t2])) := (Same.refl H6).put nt3
    have s47 := (s6.trans s7).trans s8
    refine q _ t3 t t2 zs zs2 (k.same (s25.trans s47)) upd_same (s47 _ _ e5) (s8 _ _ e7) ⟨right_of hz1 hz2 ndw fun x hx => hfs.nm x (hin x (List.mem_append_left _ hx)), right_of hy1 hy2 ndb fun x hx => hfs.nm x (hin x (List.mem_append_right _ hx)), fun x hx => hin x (List.mem_append_left _ (hz1.mem_iff.mp hx)), fun x hx => hin x (List.mem_append_right _ (hy1.mem_iff.mp hx)), fun x hx hw => (List.nodup_append.mp nd3).2.2 x (hz1.mem_iff.mp hw) x (hy1.mem_iff.mp hx) rfl, ?_⟩
    rw [hz1.length_eq, hy1.length_eq]
    omega
end
end Sc
namespace Sc
open PySem PySem.Spec PyProof.Rows L2
theorem sc__law_rule : FnScope ["_law_h", "_law_facts_here", "_law_names", "_law_deep", "_law_name", "_law_sides_here", "_law_ruling", "_law_inner", "_law_k"] ["_law_h", "_law_facts_here", "_law_names", "_law_deep"] (defScope s__law_rule) := ⟨rfl, rfl, rfl, by decide +kernel, rfl, by decide +kernel, by decide +kernel⟩
theorem sc__law_drawn : FnScope ["_law_h", "_law_facts_here", "_law_most", "_law_names", "_law_rules", "_law_k"] ["_law_h", "_law_facts_here", "_law_most"] (defScope s__law_drawn) := ⟨rfl, rfl, rfl, by decide +kernel, rfl, by decide +kernel, by decide +kernel⟩
def three : List Str := ["fine", "free", "warn"]
theorem three_name : ∀ x ∈ three, isName x = true := by decide +kernel
theorem pe_wk {X : Cx} {e : Expr} {t : TE} (t' : TE) (h : PE X e t) (w : ∀ σ H Q, t' σ H Q → t σ H Q) : PE X e t' := ⟨fun pins s σ H Q I x => h.run pins s σ H Q I (w σ H Q x)⟩
/-- a drawn rule of such facts -/
structure N2 (fs : List Str) (n : Nd) : Prop where
  ok : NdOk n
  s1 : ∀ x ∈ n.hs, x ∈ fs
  s2 : ∀ x ∈ n.fs, x ∈ fs
/-- next(3) if deep > 0 else 0 -/
def tCount : TE := fun σ H Q => ∃ (a l : Addr) (deep : Nat), σ[0]? = some (some (.ref a)) ∧ σ[3]? = some (some (.int (deep : Nat))) ∧ RS H a l ∧ ∀ H' (n : Nat), Kp a l H H' → n ≤ 2 → (n = 0 ∨ 0 < deep) → Q (.int (n : Nat)) H'
section
variable {P : Program} {w : World} {K : PySem.W.Frag} {mg : Str → Option Value} {base : Heap}
def sp_rule2 (K : PySem.W.Frag) (d : Nat) : Sp := fun vs H Q _ => ∃ (a l fp nl : Addr) (fs : List Str) (x : Str) (ns : List Str) (deep : Nat), vs = [.ref a, .ref fp, .ref nl, .int (deep : Nat)] ∧ RS H a l ∧ SqT K H fp (fs.map V.str) ∧ Right fs ∧ fs.length ≤ 60 ∧ H nl = some (.lst ((x :: ns).map V.str)) ∧ nl ≠ a ∧ nl ≠ l ∧
  (∀ y ∈ x :: ns, isName y = true) ∧ ns.length ≤ 20 ∧ deep ≤ d ∧
  ∀ H' v n ns', Kc a l nl H H' → RowAt K H' v n → N2 fs n → n.exc.every (N2 fs) → n.nm :: (n.exc.names ++ ns') = x :: ns → H' nl = some (.lst (ns'.map V.str)) → n.exc.dep ≤ deep → Q v H'
theorem ok_rule2 {d : Nat} {f : Addr} {fd : FuncData} (F : Fun K "_law_rule" "_law_rule" s__law_rule f fd) (B : Blt mg) (c__law_next : Cal P w K mg base CX0 1 "_law_next" ["_law_h", "_law_limit"] sp_next) (c__law_sides : Cal P w K mg base CX0 2 "_law_sides" ["_law_h", "_law_facts_here", "_law_most"] (sp_sides K))
    (c__law_rule : Cal P w K mg base CX0 (d + 2) "_law_rule" ["_law_h", "_law_facts_here", "_law_names", "_law_deep"] (Below (sp_rule2 K) d)) : FnOk P w K mg base CX0 (d + 3) f fd ["_law_h", "_law_facts_here", "_law_names", "_law_deep"] (sp_rule2 K d) := by
  refine F.ok sc__law_rule (fun vs H Q E h => by obtain ⟨a, l, fp, nl, fs, x, ns, deep, rfl, _⟩ := h; rfl) (fun cdv A outer s H vs Q E hr h => ?_)
  obtain ⟨a, l, fp, nl, fs, x, ns, deep, rfl, R, hS, hfs, hfl, en, na, nl', hnm, hnl, hd, q⟩ := h
  refine ⟨_, (pss_cons (ps_par (i := 4) (j := 5) rfl sc__law_rule.nd rfl rfl (by decide) rfl rfl (pa_cons (pe_bm PySem.F.plainAttrs_list PySem.F.slot_list_pop PySem.F.type_list_pop mt_popAt (pv 2) (pa_cons pe_int pa_nil)) (pa_cons (pe_cal c__law_sides (hr.mono (by omega)) (pa_cons (pv 0) (pa_cons (pv 1) (pa_cons pe_int pa_nil)))) pa_nil)) rfl)
      (pss_cons (ps_par (i := 6) (j := 7) rfl sc__law_rule.nd rfl rfl (by decide) rfl rfl (pa_cons (pe_ix ix_list (pe_lst (pa_cons pe_str (pa_cons pe_str (pa_cons pe_str pa_nil)))) (pe_cal c__law_next (hr.mono (by omega)) (pa_cons (pv 0) (pa_cons pe_int pa_nil))) (fun _ _ => rfl)) (pa_cons (pe_lst pa_nil) pa_nil)) rfl)
      (pss_cons (ps_for PassesOwn.never rfl (pi_range1 (by rfl) B.b_range (pa_cons (pe_wk (tCount) (pe_ifExp (pt_cmpR op_gt (pv 3) pe_int (nomark _)) (pe_cal c__law_next (hr.mono (by omega)) (pa_cons (pv 0) (pa_cons pe_int pa_nil))) pe_int) ?we) pa_nil)) (pg_name (i := 8) sc__law_rule.nd rfl (Or.inl rfl)) (pss_one (ps_if (pt_cmpR (op_neD hr.units) (pv 2) (pe_lst pa_nil) (nomark _)) (pss_one (ps_expr (pe_bm PySem.F.plainAttrs_list PySem.F.slot_list_append PySem.F.type_list_append mt_append (pv 7) (pa_cons (pe_cal c__law_rule hr (pa_cons (pv 0) (pa_cons (pv 1) (pa_cons (pv 2) (pa_cons (pe_op op_sub (pv 3) pe_int) pa_nil))))) pa_nil)))) pss_nil)))
      (pss_one (ps_ret (pe_tup (pa_cons (pv 4) (pa_cons (pe_ix ix_tup (pv 5) pe_int (fun _ _ => rfl)) (pa_cons (pe_ix ix_tup (pv 5) pe_int (fun _ _ => rfl)) (pa_cons (pv 6) (pa_cons (pe_callTy call_tuple_of (by rfl) B.b_tuple PyProof.Rows.boot_tuple (pa_cons (pv 7) pa_nil)) pa_nil))))))))))), ?_⟩
  case we =>
    rintro σ H1 Q1 ⟨a, l, deep, g0, g3, R, q⟩
    refine ⟨_, g3, deep, 0, rfl, rfl, _, rfl, bcase (fun c1 => ?_) (fun c1 => ?_)⟩
    · have c1 : 0 < deep := by have := of_decide_eq_true c1; omega
      refine ⟨_, g0, a, l, 3, rfl, R, by decide, small_lim (by decide) (by decide), fun H2 r k r0 r1 => ?_⟩
      obtain ⟨m, rfl⟩ := Int.eq_ofNat_of_zero_le r0
      exact q H2 m k (by omega) (.inr c1)
    · exact q H1 0 (Kp.refl R) (by decide) (.inl rfl)
  have hix : 0 < ((x :: ns).map V.str).length := by rw [List.length_map, List.length_cons]; omega
  refine ⟨_, rfl, .inl ⟨rfl, _, sqL_of en⟩, nl, _, _, 0, .str x, rfl, rfl, en, by omega, by decide, (ixN_seq (ixN_of hix)).1, rfl, ?_⟩
  have k1 : Kc a l nl H (upd H nl (.lst (ns.map V.str))) := (Kc.of R (Same.refl H)).count na nl'
  have en1 : (upd H nl (.lst (ns.map V.str))) nl = some (.lst (ns.map V.str)) := upd_same
  rw [show ((x :: ns).map V.str).eraseIdx 0 = ns.map V.str from rfl]
  generalize upd H nl (.lst (ns.map V.str)) = H1 at k1 en1 ⊢
  refine ⟨_, rfl, _, rfl, a, l, fp, fs, 2, rfl, k1.new, (k1.keeps en).tup hS, hfl, hfs, by decide, fun H2 p pw pb hs gs k2 ep epw epb sd => ⟨_, _, rfl, ?_⟩⟩
  have kc2 := k1.trans (Kp.kc k2)
  have en2 := k2.keep _ _ na nl' en1
  refine ⟨(by show 3 ≤ sizeLine; decide), fun lp nlp => ?_⟩
  have s3 : Same H2 (upd H2 lp (.lst (three.map V.str))) := (Same.refl H2).put nlp
  have elp : (upd H2 lp (.lst (three.map V.str))) lp = some (.lst (three.map V.str)) := upd_same
  obtain ⟨la, ll⟩ := kc2.new.no nlp
  have R3 := kc2.new.same s3
  refine ⟨_, rfl, a, l, 3, rfl, R3, by decide, small_lim (by decide) (by decide), fun H4 r4 k4 r40 r41 => ?_⟩
  obtain ⟨j, rfl⟩ := Int.eq_ofNat_of_zero_le r40
  have hj : j < three.length := by show j < 3; omega
  have elp4 := k4.keep _ _ la ll elp
  refine ⟨lp, _, _, .str three[j], rfl, rfl, sqL_of elp4, atI_nat (j := j) (by rw [List.getElem?_map, List.getElem?_eq_getElem hj]; rfl), ?_⟩
  have hrl : three[j] ∈ three := List.getElem_mem hj
  generalize three[j] = rl at hrl ⊢
  refine ⟨Nat.zero_le _, fun li ni => ⟨_, _, rfl, ?_⟩⟩
  have kp24 : Keeps NoL H2 H4 := s3.keeps.trans k4.keepsN
  have kc4 := (kc2.same s3).trans (Kp.kc k4)
  have en4 := k4.keep _ _ na nl' (s3 _ _ en2)
  obtain ⟨ia, il⟩ := kc4.new.no ni
  have inl : li ≠ nl := fun z => by rw [z, en4] at ni; cases ni
  have s5 : Same H4 (upd H4 li (.lst [])) := (Same.refl H4).put ni
  have ei5 : (upd H4 li (.lst [])) li = some (.lst []) := upd_same
  have fi : H li = none := kc4.free en4 ni
  have kc5 := kc4.same s5
  have en5 := s5 _ _ en4
  have kp25 : Keeps NoL H2 (upd H4 li (.lst [])) := kp24.trans s5.keeps
  generalize upd H4 li (.lst []) = H5 at s5 ei5 kc5 en5 kp25 ⊢
  refine ⟨a, l, deep, rfl, rfl, kc5.new, fun H6 n6 k6 hn6 hdn => ?_⟩
  have hxn := hnm x List.mem_cons_self
  refine ⟨_, rfl, by omega, by omega, for_it walk_range (fun i σ H' => ∃ (g : RF) (us : List V) (ns' : List Str) (y8 : Option V), σ = [some (.ref a), some (.ref fp), some (.ref nl), some (.int (deep : Nat)), some (.str x), some (.ref p), some (.str rl), some (.ref li), y8] ∧ Kc a l nl H H' ∧ Keeps NoL H2 H' ∧ H' li = some (.lst us) ∧ RowsAt K H' g us ∧ g.every (N2 fs) ∧
      g.names ++ ns' = ns ∧ H' nl = some (.lst (ns'.map V.str)) ∧ g.dep ≤ deep)
    ⟨.nil, [], ns, none, rfl, kc5.trans (Kp.kc k6), kp25.trans k6.keepsN, k6.keep _ _ ia il ei5, rfl, trivial, rfl, k6.keep _ _ na nl' en5, Nat.zero_le _⟩ (fun _ _ _ _ _ => trivial) ?_ ?_⟩
  · rintro i y σ H8 H7 hi ⟨g, us, ns', y8, rfl, kc, kp, ei, hg, hev, hnn, en, hdp⟩ ⟨rfl, hy⟩
    have hi : i < n6 := hi
    have hd0 : 0 < deep := by omega
    have hsub : ∀ y ∈ ns', isName y = true := fun y hy => hnm y (List.mem_cons_of_mem _ (by rw [← hnn]; exact List.mem_append_right _ hy))
    have hln : g.names.length + ns'.length = ns.length := by rw [← List.length_append, hnn]
    refine ⟨_, rfl, Nat.zero_le _, fun te nte => ⟨.list (ns'.map PyData.str), .list [], .lst (sqL_of (by rw [upd_ne (ne_of_none en nte)]; exact en)) (dps K _ _), .lst sqL_new .nil, shL (fun z hz => name_fine (hsub z hz)), rfl, _, rfl, ?_⟩⟩
    have ed : (PyData.list (ns'.map PyData.str)).eqv (.list []) = decide (ns' = []) := eqvA_nil _
    rw [ed]
    have s9 : Same H7 (upd H7 te (.lst [])) := (Same.refl H7).put nte
    have en9 := s9 _ _ en
    have ei9 := s9 _ _ ei
    have kc9 := kc.same s9
    have kp9 : Keeps NoL H2 (upd H7 te (.lst [])) := kp.trans s9.keeps
    have hg9 := hg.keeps (N := NoL) s9.keeps
    generalize upd H7 te (.lst []) = H9 at s9 en9 ei9 kc9 kp9 hg9 ⊢
    refine bcase (fun c1 => ?_) (fun c1 => ?_)
    · have c1 : ns' ≠ [] := of_decide_eq_false ((Bool.not_eq_true' _).mp c1)
      obtain ⟨x', r', rfl⟩ := List.exists_cons_of_ne_nil c1
      obtain ⟨d, rfl⟩ : ∃ d', d = d' + 1 := ⟨d - 1, by omega⟩
      refine ⟨_, rfl, .inl ⟨rfl, _, sqL_of ei9⟩, _, rfl, _, rfl, _, rfl, _, rfl, deep, 1, rfl, rfl, ?_⟩
      rw [List.length_cons] at hln
      refine ⟨a, l, fp, nl, fs, x', r', deep - 1, (by show [V.ref a, V.ref fp, V.ref nl, V.int ((deep : Int) - 1)] = _; rw [show (deep : Int) - 1 = ((deep - 1 : Nat) : Int) by omega]), kc9.new, (kc9.keeps (show H nl = some (.lst ((x :: ns).map V.str)) by assumption)).tup hS, hfs, hfl, en9, na, nl', hsub, by omega, by omega, fun H10 v n ns2 k10 hrow hN hNe hnn2 en10 hdn2 => ?_⟩
      have ei10 := k10.keep _ _ ia il inl ei9
      have kk10 : Keeps NoL H9 H10 := k10.keeps en9
      refine ⟨li, _, _, rfl, rfl, ei10, ?_, ?_⟩
      · have := hg.len
        have h2 := RF.nodes_le g
        have h3 : g.names.length = g.size := by unfold RF.names; rw [List.length_map, RF.pre_len]
        exact small1000 (by omega)
      have kw : Keeps NoL H10 (upd H10 li (.lst (us ++ [v]))) := keeps_own ei10 id
      refine ⟨g.snoc n, us ++ [v], ns2, _, rfl, (kc9.trans k10).put0 fi, (kp9.trans kk10).trans kw, upd_same, rows_snoc ((hg9.keeps kk10).keeps kw) (hrow.keeps kw), RF.snoc_every hev hN hNe, ?_, by rw [upd_ne inl.symm]; exact en10, ?_⟩
      · rw [RF.snoc_names, ← hnn, ← hnn2, List.append_assoc]
        rfl
      · rw [RF.snoc_dep]
        omega
    · exact ⟨g, us, ns', _, rfl, kc9, kp9, ei9, hg9, hev, hnn, en9, hdp⟩
  · rintro σ H7 ⟨g, us, ns', y8, rfl, kc, kp, ei, hg, hev, hnn, en, hdp⟩
    have ep7 : SqT K H7 p [.ref pw, .ref pb] := kp.tup (sqT_of ep)
    refine ⟨_, rfl, _, rfl, p, _, 0, _, rfl, rfl, ep7, atI_nat (j := 0) rfl, _, rfl, p, _, 1, _, rfl, rfl, ep7, atI_nat (j := 1) rfl, _, rfl, _, rfl, li, _, rfl, .inl ⟨sqL_of ei, fun t nt => ?_⟩⟩
    have s8 : Same H7 (upd H7 t (.tup us)) := (Same.refl H7).put nt
    have e8 : (upd H7 t (.tup us)) t = some (.tup us) := upd_same
    generalize upd H7 t (.tup us) = H8 at s8 e8 ⊢
    refine ⟨(by show 5 ≤ sizeLine; decide), fun t2 nt2 => ?_⟩
    have s9 : Same H8 (upd H8 t2 (.tup [.str x, .ref pw, .ref pb, .str rl, .ref t])) := (Same.refl H8).put nt2
    have e9 : (upd H8 t2 (.tup [.str x, .ref pw, .ref pb, .str rl, .ref t])) t2 = some (.tup [.str x, .ref pw, .ref pb, .str rl, .ref t]) := upd_same
    have s79 := s8.trans s9
    have kp9 : Keeps NoL H2 _ := kp.trans s79.keeps
    have h8 := sd.le
    refine q _ (.ref t2) ⟨x, hs, gs, rl, g⟩ ns' (kc.same s79) ⟨t2, pw, pb, t, us, rfl, sqT_of e9, kp9.tup (sqT_of epw), kp9.tup (sqT_of epb), sqT_of (s9 _ _ e8), hg.keeps (N := NoL) s79.keeps⟩ ⟨⟨hxn, three_name _ hrl, sd.r1.none (by show 0 + hs.length ≤ 8; omega) (fun _ _ h => nomatch h), sd.r2.none (by show hs.length + gs.length ≤ 8; omega) sd.dj⟩, sd.s1, sd.s2⟩ hev ?_ (s79 _ _ en) hdp
    show x :: (g.names ++ ns') = x :: ns
    rw [hnn]
theorem Kc.kp {H H' : Hp} {a l c : Addr} (k : Kc a l c H H') (n : H c = none) : Kp a l H H' := ⟨k.old, k.new, fun b o m1 m2 e => k.keep b o m1 m2 (ne_of_none e n) e⟩
/-- the names that rules are drawn from -/
def names12 : List Str := ["hue", "ox", "ab", "ivy", "tar", "bay", "elm", "sun", "cat", "zed", "kin", "rye"]
theorem names12_name : ∀ x ∈ names12, isName x = true := by decide +kernel
theorem names12_nodup : names12.Nodup := by decide +kernel
/-- a drawn book -/
structure Drawn2 (K : PySem.W.Frag) (H : Hp) (p fp : Addr) (fs : List Str) (f : RF) (rl : Str) : Prop where
  at_ : ∃ (pr : Addr) (ws : List V), H p = some (.tup [.ref fp, .ref pr, .str rl]) ∧ SqT K H pr ws ∧ RowsAt K H f ws
  ev : f.every (N2 fs)
  nm : ∃ k ns, f.names ++ ns = names12.drop k
  dp : f.dep ≤ 3
  rl : rl ∈ three
def sp_drawn (K : PySem.W.Frag) : Sp := fun vs H Q _ => ∃ (a l fp : Addr) (fs : List Str) (m : Nat), vs = [.ref a, .ref fp, .int (m : Nat)] ∧ RS H a l ∧ SqT K H fp (fs.map V.str) ∧ Right fs ∧ fs.length ≤ 60 ∧ m ≤ 20 ∧
  ∀ H' p f rl, Kp a l H H' → Drawn2 K H' p fp fs f rl → f.nodes.length ≤ m → Q (.ref p) H'
theorem ok_drawn {f : Addr} {fd : FuncData} (F : Fun K "_law_drawn" "_law_drawn" s__law_drawn f fd) (B : Blt mg) (c__law_next : Cal P w K mg base CX0 1 "_law_next" ["_law_h", "_law_limit"] sp_next)
    (c__law_rule : Cal P w K mg base CX0 5 "_law_rule" ["_law_h", "_law_facts_here", "_law_names", "_law_deep"] (sp_rule2 K 2)) : FnOk P w K mg base CX0 6 f fd ["_law_h", "_law_facts_here", "_law_most"] (sp_drawn K) := by
  refine F.ok sc__law_drawn (fun vs H Q E h => by obtain ⟨a, l, fp, fs, m, rfl, _⟩ := h; rfl) (fun cdv A outer s H vs Q E hr h => ?_)
  obtain ⟨a, l, fp, fs, m, rfl, R, hS, hfs, hfl, hm, q⟩ := h
  refine ⟨_, (pss_cons (ps_par (i := 3) (j := 4) rfl sc__law_drawn.nd rfl rfl (by decide) rfl rfl (pa_cons (pe_lst (pa_cons pe_str (pa_cons pe_str (pa_cons pe_str (pa_cons pe_str (pa_cons pe_str (pa_cons pe_str (pa_cons pe_str (pa_cons pe_str (pa_cons pe_str (pa_cons pe_str (pa_cons pe_str (pa_cons pe_str pa_nil))))))))))))) (pa_cons (pe_lst pa_nil) pa_nil)) rfl)
      (pss_cons (ps_set (i := 3) sc__law_drawn.nd rfl (Or.inl rfl) (pe_slice sl_list (pv 3) (po_some (pe_cal c__law_next (hr.mono (by decide)) (pa_cons (pv 0) (pa_cons pe_int pa_nil)))) po_none))
      (pss_cons (ps_for PassesOwn.never rfl (pi_range1 (by rfl) B.b_range (pa_cons (pe_cal c__law_next (hr.mono (by decide)) (pa_cons (pv 0) (pa_cons (pe_op op_add (pv 2) pe_int) pa_nil))) pa_nil)) (pg_name (i := 5) sc__law_drawn.nd rfl (Or.inl rfl)) (pss_one (ps_if (pt_cmpR (op_neD hr.units) (pv 3) (pe_lst pa_nil) (nomark _)) (pss_one (ps_expr (pe_bm PySem.F.plainAttrs_list PySem.F.slot_list_append PySem.F.type_list_append mt_append (pv 4) (pa_cons (pe_cal c__law_rule (hr.mono (by decide)) (pa_cons (pv 0) (pa_cons (pv 1) (pa_cons (pv 3) (pa_cons pe_int pa_nil))))) pa_nil)))) pss_nil)))
      (pss_one (ps_ret (pe_tup (pa_cons (pv 1) (pa_cons (pe_callTy call_tuple_of (by rfl) B.b_tuple PyProof.Rows.boot_tuple (pa_cons (pv 4) pa_nil)) (pa_cons (pe_ix ix_list (pe_lst (pa_cons pe_str (pa_cons pe_str (pa_cons pe_str pa_nil)))) (pe_cal c__law_next (hr.mono (by decide)) (pa_cons (pv 0) (pa_cons pe_int pa_nil))) (fun _ _ => rfl)) pa_nil))))))))), ?_⟩
  refine ⟨(by show 12 ≤ sizeLine; decide), fun l0 n0 => ⟨Nat.zero_le _, fun li ni => ⟨_, _, rfl, ?_⟩⟩⟩
  have s1 : Same H (upd H l0 (.lst (names12.map V.str))) := (Same.refl H).put n0
  have s2 : Same H (upd (upd H l0 (.lst (names12.map V.str))) li (.lst [])) := s1.put' ni
  have i0 : l0 ≠ li := ne_of_none upd_same ni
  have e0 : (upd (upd H l0 (.lst (names12.map V.str))) li (.lst [])) l0 = some (.lst (names12.map V.str)) := by rw [upd_ne i0]; exact upd_same
  have ei : (upd (upd H l0 (.lst (names12.map V.str))) li (.lst [])) li = some (.lst []) := upd_same
  have fi : H li = none := s1.free ni
  obtain ⟨ia, il⟩ := R.no fi
  obtain ⟨za, zl⟩ := R.no n0
  have R2 := R.same s2
  refine ⟨_, rfl, _, rfl, a, l, 4, rfl, R2, by decide, small_lim (by decide) (by decide), fun H3 r k3 r0 r1 => ?_⟩
  obtain ⟨k, rfl⟩ := Int.eq_ofNat_of_zero_le r0
  have e03 : H3 l0 = some (.lst (names12.map V.str)) := k3.keep _ _ za zl e0
  have ei3 : H3 li = some (.lst []) := k3.keep _ _ ia il ei
  have k03 : Kp a l H H3 := (Kp.of R s2).trans k3
  refine ⟨_, rfl, ?_⟩
  dsimp only [tNoPart]
  refine ⟨l0, _, rfl, sqL_of e03, fun nl nnl => ?_⟩
  rw [cut_from, ← List.map_drop]
  have s4 : Same H3 (upd H3 nl (.lst ((names12.drop k).map V.str))) := (Same.refl H3).put nnl
  have en4 : (upd H3 nl (.lst ((names12.drop k).map V.str))) nl = some (.lst ((names12.drop k).map V.str)) := upd_same
  have ei4 := s4 _ _ ei3
  have fn : H nl = none := k03.free nnl
  have inl : li ≠ nl := fun z => by rw [z, nnl] at ei3; cases ei3
  have k04 := k03.same s4
  generalize upd H3 nl (.lst ((names12.drop k).map V.str)) = H4 at s4 en4 ei4 k04 ⊢
  obtain ⟨na, nl'⟩ := R.no fn
  refine ⟨_, rfl, _, rfl, m, 1, rfl, rfl, a, l, _, rfl, k04.new, by omega, small_lim (by omega) (by omega), fun H5 r5 k5 r50 r51 => ?_⟩
  obtain ⟨n5, rfl⟩ := Int.eq_ofNat_of_zero_le r50
  have hdl : (names12.drop k).length ≤ 12 := by rw [List.length_drop]; exact Nat.sub_le _ _
  have hdn : ∀ y ∈ names12.drop k, isName y = true := fun y hy => names12_name y (List.mem_of_mem_drop hy)
  refine ⟨_, rfl, by omega, by omega, for_it walk_range (fun i σ H' => ∃ (g : RF) (us : List V) (ns' : List Str) (y5 : Option V), σ = [some (.ref a), some (.ref fp), some (.int (m : Nat)), some (.ref nl), some (.ref li), y5] ∧ Kc a l nl H H' ∧ H' li = some (.lst us) ∧ RowsAt K H' g us ∧ g.every (N2 fs) ∧
      g.names ++ ns' = names12.drop k ∧ H' nl = some (.lst (ns'.map V.str)) ∧ g.dep ≤ 3 ∧ g.nodes.length ≤ i)
    ⟨.nil, [], _, none, rfl, Kp.kc (k04.trans k5), k5.keep _ _ ia il ei4, rfl, trivial, rfl, k5.keep _ _ na nl' en4, Nat.zero_le _, Nat.le_refl _⟩ (fun _ _ _ _ _ => trivial) ?_ ?_⟩
  · rintro i y σ H8 H7 hi ⟨g, us, ns', y5, rfl, kc, ei, hg, hev, hnn, en, hdp, hgl⟩ ⟨rfl, hy⟩
    have hsub : ∀ y ∈ ns', isName y = true := fun y hy => hdn y (by rw [← hnn]; exact List.mem_append_right _ hy)
    have hln : g.names.length + ns'.length = (names12.drop k).length := by rw [← List.length_append, hnn]
    refine ⟨_, rfl, Nat.zero_le _, fun te nte => ⟨.list (ns'.map PyData.str), .list [], .lst (sqL_of (by rw [upd_ne (ne_of_none en nte)]; exact en)) (dps K _ _), .lst sqL_new .nil, shL (fun z hz => name_fine (hsub z hz)), rfl, _, rfl, ?_⟩⟩
    have ed : (PyData.list (ns'.map PyData.str)).eqv (.list []) = decide (ns' = []) := eqvA_nil _
    rw [ed]
    have s9 : Same H7 (upd H7 te (.lst [])) := (Same.refl H7).put nte
    have en9 := s9 _ _ en
    have ei9 := s9 _ _ ei
    have kc9 := kc.same s9
    have hg9 := hg.keeps (N := NoL) s9.keeps
    generalize upd H7 te (.lst []) = H9 at s9 en9 ei9 kc9 hg9 ⊢
    refine bcase (fun c1 => ?_) (fun c1 => ?_)
    · have c1 : ns' ≠ [] := of_decide_eq_false ((Bool.not_eq_true' _).mp c1)
      obtain ⟨x', r', rfl⟩ := List.exists_cons_of_ne_nil c1
      refine ⟨_, rfl, .inl ⟨rfl, _, sqL_of ei9⟩, _, rfl, _, rfl, _, rfl, ?_⟩
      rw [List.length_cons] at hln
      refine ⟨a, l, fp, nl, fs, x', r', 2, rfl, kc9.new, ((kc9.kp fn).tup hS), hfs, hfl, en9, na, nl', hsub, by omega, by decide, fun H10 v n ns2 k10 hrow hN hNe hnn2 en10 hdn2 => ?_⟩
      have ei10 := k10.keep _ _ ia il inl ei9
      have kk10 : Keeps NoL H9 H10 := k10.keeps en9
      refine ⟨li, _, _, rfl, rfl, ei10, ?_, ?_⟩
      · have := hg.len
        have h2 := RF.nodes_le g
        have h3 : g.names.length = g.size := by unfold RF.names; rw [List.length_map, RF.pre_len]
        exact small1000 (by omega)
      have kw : Keeps NoL H10 (upd H10 li (.lst (us ++ [v]))) := keeps_own ei10 id
      refine ⟨g.snoc n, us ++ [v], ns2, _, rfl, (kc9.trans k10).put0 fi, upd_same, rows_snoc ((hg9.keeps kk10).keeps kw) (hrow.keeps kw), RF.snoc_every hev hN hNe, ?_, by rw [upd_ne inl.symm]; exact en10, ?_, by rw [RF.snoc_nodes, List.length_append, List.length_singleton]; omega⟩
      · rw [RF.snoc_names, ← hnn, ← hnn2, List.append_assoc]
        rfl
      · rw [RF.snoc_dep]
        omega
    · exact ⟨g, us, ns', _, rfl, kc9, ei9, hg9, hev, hnn, en9, hdp, Nat.le_succ_of_le hgl⟩
  · rintro σ H7 ⟨g, us, ns', y5, rfl, kc, ei, hg, hev, hnn, en, hdp, hgl⟩
    have hgl : g.nodes.length ≤ n5 := hgl
    refine ⟨_, rfl, _, rfl, li, _, rfl, .inl ⟨sqL_of ei, fun t nt => ?_⟩⟩
    have s8 : Same H7 (upd H7 t (.tup us)) := (Same.refl H7).put nt
    have e8 : (upd H7 t (.tup us)) t = some (.tup us) := upd_same
    have kc8 := kc.same s8
    have hg8 := hg.keeps (N := NoL) s8.keeps
    have en8 := s8 _ _ en
    generalize upd H7 t (.tup us) = H8 at s8 e8 kc8 hg8 en8 ⊢
    refine ⟨(by show 3 ≤ sizeLine; decide), fun lp nlp => ?_⟩
    have s9 : Same H8 (upd H8 lp (.lst (three.map V.str))) := (Same.refl H8).put nlp
    have elp : (upd H8 lp (.lst (three.map V.str))) lp = some (.lst (three.map V.str)) := upd_same
    obtain ⟨la, ll⟩ := kc8.new.no nlp
    have kc9 := kc8.same s9
    refine ⟨_, rfl, a, l, 3, rfl, kc9.new, by decide, small_lim (by decide) (by decide), fun H10 r10 k10 r100 r101 => ?_⟩
    obtain ⟨j, rfl⟩ := Int.eq_ofNat_of_zero_le r100
    have hj : j < three.length := by show j < 3; omega
    have elp10 := k10.keep _ _ la ll elp
    refine ⟨lp, _, _, .str three[j], rfl, rfl, sqL_of elp10, atI_nat (j := j) (by rw [List.getElem?_map, List.getElem?_eq_getElem hj]; rfl), ?_⟩
    have hrl : three[j] ∈ three := List.getElem_mem hj
    generalize three[j] = rl at hrl ⊢
    refine ⟨(by show 3 ≤ sizeLine; decide), fun t2 nt2 => ?_⟩
    have kk : Keeps NoL H8 H10 := s9.keeps.trans k10.keepsN
    have s11 : Same H10 (upd H10 t2 (.tup [.ref fp, .ref t, .str rl])) := (Same.refl H10).put nt2
    refine q _ t2 g rl ((((kc9.trans (Kp.kc k10)).kp fn)).same s11) ⟨⟨t, us, upd_same, s11.tup (kk.tup (sqT_of e8)), (hg8.keeps kk).keeps (N := NoL) s11.keeps⟩, hev, ⟨k, ns', hnn⟩, hdp, hrl⟩ (by omega)
end
end Sc
namespace Sc
open PySem PySem.Spec PyProof.Rows L2
theorem sc__law_made : FnScope ["_law_rules", "_law_found", "_law_name", "_law_holding", "_law_failing", "_law_ruling", "_law_inner"] ["_law_rules"] (defScope s__law_made) := ⟨rfl, rfl, rfl, by decide +kernel, rfl, by decide +kernel, by decide +kernel⟩
theorem sc__law_book : FnScope ["_law_drawn_here"] ["_law_drawn_here"] (defScope s__law_book) := ⟨rfl, rfl, rfl, by decide +kernel, rfl, by decide +kernel, by decide +kernel⟩
section
variable {P : Program} {w : World} {K : PySem.W.Frag} {mg : Str → Option Value} {base : Heap} {C R B CC CR CF CB : Addr}
def sp_made (K : PySem.W.Frag) (C R : Addr) (d : Nat) : Sp := fun vs H Q _ => ∃ (N : Addr → Prop) (p : Addr) (ws : List V) (f : RF), vs = [.ref p] ∧ SqT K H p ws ∧ RowsAt K H f ws ∧ (∀ l, H l = none → N l) ∧ f.dep ≤ d ∧ d ≤ 12 ∧ f.size ≤ 900 ∧ f.every NdOk ∧
  ∀ H' p' us, Same H H' → SqT K H' p' us → ForAt K C R N H' f us → Q (.ref p') H'
theorem ok_made {d : Nat} {f : Addr} {fd : FuncData} (F : Fun K "_law_made" "_law_made" s__law_made f fd) (B : Blt mg) (k_Condition : Mkr P w K mg base 4 "Condition" C ["self", "holding", "failing"] (sp_cond_init K C CC)) (k_Rule : Mkr P w K mg base 16 "Rule" R ["self", "name", "condition", "ruling", "exceptions"] (sp_rule_init K C R CR))
    (c__law_made : Cal P w K mg base CX0 (d + 17) "_law_made" ["_law_rules"] (Below (sp_made K C R) d)) :
    FnOk P w K mg base CX0 (d + 18) f fd ["_law_rules"] (sp_made K C R d) := by
  refine F.ok sc__law_made (fun vs H Q E h => by obtain ⟨N, p, ws, f, rfl, _⟩ := h; rfl) (fun cdv A outer s H vs Q E hr h => ?_)
  obtain ⟨N, p, ws, f, rfl, hP, hX, hN, hd, hd12, hz, hev, q⟩ := h
  refine ⟨_, (pss_cons (ps_set (i := 1) sc__law_made.nd rfl (Or.inl rfl) (pe_lst pa_nil))
      (pss_cons (ps_for PassesOwn.never rfl (pi_tup (pv 0)) (pg_tup (by rfl) (pgs_cons (pg_name (i := 2) sc__law_made.nd rfl (Or.inl rfl)) (pgs_cons (pg_name (i := 3) sc__law_made.nd rfl (Or.inl rfl)) (pgs_cons (pg_name (i := 4) sc__law_made.nd rfl (Or.inl rfl)) (pgs_cons (pg_name (i := 5) sc__law_made.nd rfl (Or.inl rfl)) (pgs_cons (pg_name (i := 6) sc__law_made.nd rfl (Or.inl rfl)) pgs_nil)))))) (pss_one (ps_expr (pe_bm PySem.F.plainAttrs_list PySem.F.slot_list_append PySem.F.type_list_append mt_append (pv 1) (pa_cons (pe_mkN k_Rule (hr.mono (by omega)) (pa_cons (pv 2) (pa_cons (pe_mkN k_Condition (hr.mono (by omega)) (pa_cons (pv 3) (pa_cons (pv 4) pa_nil))) (pa_cons (pv 5) (pa_cons (pe_cal c__law_made hr (pa_cons (pv 6) pa_nil)) pa_nil))))) pa_nil)))))
      (pss_one (ps_ret (pe_callTy call_tuple_of (by rfl) B.b_tuple PyProof.Rows.boot_tuple (pa_cons (pv 1) pa_nil)))))), ?_⟩
  have hA := hX.all
  have hln := hA.len
  have hlz := RF.nodes_le f
  refine ⟨Nat.zero_le _, fun D nD => ?_⟩
  have s0 : Same H (upd H D (.lst [])) := (Same.refl H).put nD
  have e0 : (upd H D (.lst [])) D = some (.lst []) := upd_same
  generalize upd H D (.lst []) = H0 at s0 e0 ⊢
  refine ⟨_, rfl, p, rfl, ⟨_, s0.tup hP⟩, for_it walk_tup (fun i σ H' => ∃ (rs : List V) (y2 y3 y4 y5 y6 : Option V), σ = [some (.ref p), some (.ref D), y2, y3, y4, y5, y6] ∧ Same H H' ∧ H' D = some (.lst rs) ∧ All2 (RefAt K C R (fun l => N l ∧ l ≠ D) H') rs (f.nodes.take i))
    ⟨[], none, none, none, none, none, rfl, s0, e0, .nil⟩ (fun _ _ _ _ ⟨_, _, _, _, _, _, _, s, _⟩ => s.tup hP) ?_ ?_⟩
  · rintro i y σ H4 H3 hi ⟨rs, y2, y3, y4, y5, y6, rfl, s, e, hrs⟩ ⟨rfl, hy⟩
    obtain ⟨n, hn, hrow⟩ := hA.get hy
    have hmem : n ∈ f.nodes := List.mem_of_getElem? hn
    have hdm := RF.dep_mem _ n hmem
    have hsm := RF.size_mem _ n hmem
    obtain ⟨hok, hne⟩ := RF.every_nodes.mp hev n hmem
    obtain ⟨d, rfl⟩ : ∃ d', d = d' + 1 := ⟨d - 1, by omega⟩
    have hrl := hrs.len
    rw [List.length_take] at hrl
    obtain ⟨o, wa, ba, pa, ws', rfl, hO, hW, hB, hPe, hXe⟩ := hrow.keeps (N := NoL) s.keeps
    refine ⟨o, _, rfl, hO, rfl, _, _, rfl, _, _, rfl, _, _, rfl, _, _, rfl, _, _, rfl, rfl, ?_⟩
    refine ⟨_, rfl, .inl ⟨rfl, _, sqL_of e⟩, _, rfl, _, rfl, _, rfl, fun c dxc nc ndc nec => ?_⟩
    have s1 : Same H3 (upd (upd H3 dxc (.own c)) c (.ins C dxc [])) := ((Same.refl H3).put ndc).put nc
    have hlen := hok.len
    refine ⟨c, dxc, wa, ba, n.hs, n.fs, rfl, upd_same, s1.tup hW, s1.tup hB, fw_txts hok.c1, fw_txts hok.c2, by omega, by omega, (fun i e => by rw [hok.c1] at e; cases e), fun _ => ⟨(fun i e => by rw [hok.c2] at e; cases e), fun _ H5 nn zs sX hc hnn hperm hsort => ⟨rfl, ?_⟩⟩⟩
    have s2 : Same H3 H5 := fun b' o' h => sX b' o' (fun e => by rw [e, nc] at h; cases h) (s1 _ _ h)
    have hcond : CondAt K C H5 c n.hs n.fs := ⟨dxc, wa, ba, nn, zs, hc, s2.tup hW, s2.tup hB, hnn, srt_uniq hperm hsort⟩
    have s05 := s.trans s2
    have e5 := s2 _ _ e
    refine ⟨_, rfl, _, rfl, fun l => N l ∧ l ≠ D, pa, ws', n.exc, rfl, s2.tup hPe, hXe.keeps (N := NoL) s2.keeps, fun l nl => ⟨hN l (s05.free nl), (fun z => by rw [z, e5] at nl; cases nl)⟩, by omega, by omega, by omega, hne, fun H6 t us s6 ht hF => ?_⟩
    have e6 := s6 _ _ e5
    intro x dx nx ndx nex
    have s7 : Same H6 (upd (upd H6 dx (.own x)) x (.ins R dx [])) := ((Same.refl H6).put ndx).put nx
    have l1 := name_len hok.nm
    have l2 := name_len hok.rl
    refine ⟨fun l => N l ∧ l ≠ D, x, dx, c, t, n.nm, n.rl, us, n.exc, rfl, upd_same, s7.tup ht, hF.keeps s7.keeps, by omega, by omega, by omega, by omega, (fun e => by rw [hok.nm] at e; cases e), fun _ => ⟨(fun e => by rw [hok.rl] at e; cases e), fun _ H8 l sX8 hx8 nelx nl el => ⟨rfl, ?_⟩⟩⟩
    have s8 : Same H6 H8 := fun b' o' h => sX8 b' o' (fun e => by rw [e, nx] at h; cases h) (s7 _ _ h)
    have s38 := (s2.trans s6).trans s8
    have s08 := s.trans s38
    have e8 := s8 _ _ e6
    have fl : H6 l = none := s7.free nl
    have hnd : NdAt K C R (fun l => N l ∧ l ≠ D) H8 x n := ⟨dx, c, t, l, us, hx8, (hcond.same s6).same s8, s8.tup ht, ⟨⟨hN l ((s05.trans s6).free fl), (fun z => by rw [z, e6] at fl; cases fl)⟩, el⟩, hF.keeps s8.keeps⟩
    refine ⟨D, _, _, rfl, rfl, e8, small1000 (by omega), ?_⟩
    have kk : Keeps (fun l => N l ∧ l ≠ D) H8 (upd H8 D (.lst (rs ++ [.ref x]))) := keeps_own e8 fun z => z.2 rfl
    refine ⟨rs ++ [.ref x], _, _, _, _, _, rfl, s08.put nD, upd_same, ?_⟩
    rw [take_more hn]
    exact (hrs.mono fun _ _ x => (x.keeps s38.keeps).keeps kk).snoc ⟨x, rfl, hnd.keeps kk⟩
  · rintro σ H3 ⟨rs, y2, y3, y4, y5, y6, rfl, s, e, hrs⟩
    rw [hln, List.take_length] at hrs
    refine ⟨_, rfl, D, _, rfl, .inl ⟨sqL_of e, fun t nt => ?_⟩⟩
    have s4 : Same H3 (upd H3 t (.tup rs)) := (Same.refl H3).put nt
    exact q _ t rs (s.trans s4) sqT_new (ForAt.of (hrs.mono fun _ _ ⟨o, e, x⟩ => ⟨o, e, (x.re fun b xs h _ => h.1).keeps s4.keeps⟩))
def sp_book2 (K : PySem.W.Frag) (C R B : Addr) : Sp := fun vs H Q _ => ∃ (N : Addr → Prop) (p fp pr : Addr) (xs : List Str) (last : Str) (ws : List V) (f : RF), vs = [.ref p] ∧ SqT K H p [.ref fp, .ref pr, .str last] ∧ SqT K H fp (xs.map V.str) ∧ Txts xs ∧ xs.length ≤ 1000 ∧ SqT K H pr ws ∧ RowsAt K H f ws ∧ (∀ l, H l = none → N l) ∧ f.every NdOk ∧ f.dep ≤ 12 ∧ f.size ≤ 900 ∧
  firstBad xs = none ∧ firstFault xs (f.pre 0) [] 0 0 = none ∧ isName last = true ∧ ∀ H' o, Same H H' → BookAt K C R B N H' o xs f last → Q (.ref o) H'
theorem ok_book2 {f : Addr} {fd : FuncData} (F : Fun K "_law_book" "_law_book" s__law_book f fd) (Bl : Blt mg) (k_Book : Mkr P w K mg base 17 "Book" B ["self", "facts", "rules", "ruling"] (sp_book_init K C R B CF CB))
    (c__law_made : Cal P w K mg base CX0 30 "_law_made" ["_law_rules"] (sp_made K C R 12)) :
    FnOk P w K mg base CX0 31 f fd ["_law_drawn_here"] (sp_book2 K C R B) := by
  refine F.ok sc__law_book (fun vs H Q E h => by obtain ⟨N, p, fp, pr, xs, last, ws, f, rfl, _⟩ := h; rfl) (fun cdv A outer s H vs Q E hr h => ?_)
  obtain ⟨N, p, fp, pr, xs, last, ws, f, rfl, hO, hS, tS, lS, hP, hX, hN, hev, hd, hz, hb, hff, hlast, q⟩ := h
  refine ⟨_, (pss_one (ps_ret (pe_mkN k_Book (hr.mono (by decide)) (pa_cons (pe_ix ix_tup (pv 0) pe_int (fun _ _ => rfl)) (pa_cons (pe_cal c__law_made (hr.mono (by decide)) (pa_cons (pe_ix ix_tup (pv 0) pe_int (fun _ _ => rfl)) pa_nil)) (pa_cons (pe_ix ix_tup (pv 0) pe_int (fun _ _ => rfl)) pa_nil)))))), ?_⟩
  refine ⟨_, rfl, p, _, 0, _, rfl, rfl, hO, atI_nat (j := 0) rfl, _, rfl, p, _, 1, _, rfl, rfl, hO, atI_nat (j := 1) rfl, N, pr, ws, f, rfl, hP, hX, hN, hd, by decide, hz, hev, fun H4 t us s4 ht hF => ?_⟩
  refine ⟨_, rfl, p, _, 2, _, rfl, rfl, s4.tup hO, atI_nat (j := 2) rfl, fun x dx nx ndx nex => ?_⟩
  have s5 : Same H4 (upd (upd H4 dx (.own x)) x (.ins B dx [])) := ((Same.refl H4).put ndx).put nx
  have s05 := s4.trans s5
  have ll := name_len hlast
  refine ⟨N, x, dx, fp, t, xs, last, us, f, rfl, upd_same, s05.tup hS, tS, lS, s5.tup ht, hF.keeps s5.keeps, hd, hz, fit_of hev, by omega, (fun i ei => by rw [hb] at ei; cases ei), fun _ => ⟨(fun wd i ei => by rw [hff] at ei; cases ei), fun _ => ⟨(fun z => by rw [hlast] at z; cases z), fun _ H6 l us2 sX6 hx6 nelx nl el hus => ⟨rfl, ?_⟩⟩⟩⟩
  have s6 : Same H4 H6 := fun b' o' h => sX6 b' o' (fun e => by rw [e, nx] at h; cases h) (s5 _ _ h)
  have s06 := s4.trans s6
  exact q H6 x s06 ⟨dx, fp, t, l, us, us2, hx6, s06.tup hS, s6.tup ht, hF.keeps s6.keeps, ⟨hN l (s4.free (s5.free nl)), el⟩, hus⟩
end
end Sc
namespace Sc
open PySem PySem.Spec PyProof.Rows L2
theorem sc__law_all : FnScope ["_law_rules", "_law_found", "_law_rule_here"] ["_law_rules"] (defScope s__law_all) := ⟨rfl, rfl, rfl, by decide +kernel, rfl, by decide +kernel, by decide +kernel⟩
section
variable {P : Program} {w : World} {K : PySem.W.Frag} {mg : Str → Option Value} {base : Heap}
def sp_all (K : PySem.W.Frag) (d : Nat) : Sp := fun vs H Q _ => ∃ (p : Addr) (ws : List V) (f : RF), vs = [.ref p] ∧ SqT K H p ws ∧ RowsAt K H f ws ∧ f.dep ≤ d ∧ f.size ≤ 900 ∧ ∀ H' D us, Same H H' → H' D = some (.lst us) → All2 (RowAt K H') us ((f.pre 0).map fun q => q.1) → Q (.ref D) H'
theorem pre_fst : ∀ (f : RF) (k : Nat), (f.pre k).map (fun q => q.1) = (f.pre 0).map fun q => q.1 := by
  intro f
  have h : ∀ (f : RF) (k j : Nat), (f.pre k).map (fun q => q.1) = (f.pre j).map fun q => q.1 := by
    intro f
    induction f with
    | nil => intro k j; rfl
    | cons nm hs fs rl exc rest ih1 ih2 =>
      intro k j
      show _ :: (exc.pre (k + 1) ++ rest.pre k).map _ = _ :: (exc.pre (j + 1) ++ rest.pre j).map _
      rw [List.map_append, List.map_append, ih1 (k + 1) (j + 1), ih2 k j]
  exact fun k => h f k 0
theorem ok_all {d : Nat} {f : Addr} {fd : FuncData} (F : Fun K "_law_all" "_law_all" s__law_all f fd) (B : Blt mg) (c__law_all : Cal P w K mg base CX0 (d + 1) "_law_all" ["_law_rules"] (Below (sp_all K) d)) :
    FnOk P w K mg base CX0 (d + 2) f fd ["_law_rules"] (sp_all K d) := by
  refine F.ok sc__law_all (fun vs H Q E h => by obtain ⟨p, ws, f, rfl, _⟩ := h; rfl) (fun cdv A outer s H vs Q E hr h => ?_)
  obtain ⟨p, ws, f, rfl, hP, hX, hd, hz, q⟩ := h
  have hA := hX.all
  have hln := hA.len
  have hlz := RF.nodes_le f
  refine ⟨_, (pss_cons (ps_set (i := 1) sc__law_all.nd rfl (Or.inl rfl) (pe_lst pa_nil))
      (pss_cons (ps_for PassesOwn.never rfl (pi_tup (pv 0)) (pg_name (i := 2) sc__law_all.nd rfl (Or.inl rfl)) (pss_one (ps_set (i := 1) sc__law_all.nd rfl (Or.inl rfl) (pe_op op_cat (pe_op op_cat (pv 1) (pe_lst (pa_cons (pv 2) pa_nil))) (pe_cal c__law_all hr (pa_cons (pe_ix ix_tup (pv 2) pe_int (fun _ _ => rfl)) pa_nil))))))
      (pss_one (ps_ret (pv 1))))), ?_⟩
  refine ⟨Nat.zero_le _, fun D0 nD0 => ⟨_, rfl, p, rfl, ⟨_, ((Same.refl H).put nD0).tup hP⟩, for_it walk_tup (fun i σ H' => ∃ (D : Addr) (us : List V) (y : Option V), σ = [some (.ref p), some (.ref D), y] ∧ Same H H' ∧ H' D = some (.lst us) ∧ All2 (RowAt K H') us ((RF.preL (f.nodes.take i) 0).map fun q => q.1))
    ⟨D0, [], none, rfl, (Same.refl H).put nD0, upd_same, .nil⟩ (fun _ _ _ _ ⟨_, _, _, _, s, _⟩ => s.tup hP) ?_ ?_⟩⟩
  · rintro i y σ H3 H2 hi ⟨D, us, y', rfl, s, e, hu⟩ ⟨rfl, hy⟩
    obtain ⟨n, hn, hrow⟩ := hA.get hy
    have hmem : n ∈ f.nodes := List.mem_of_getElem? hn
    have hdm := RF.dep_mem f n hmem
    have hsm := RF.size_mem f n hmem
    obtain ⟨d, rfl⟩ : ∃ d', d = d' + 1 := ⟨d - 1, by omega⟩
    have hul := hu.len
    rw [List.length_map] at hul
    have hpl := RF.preL_len (f := f) (i := i) (k := 0)
    have hrow2 := hrow.keeps (N := NoL) s.keeps
    refine ⟨_, rfl, _, rfl, (by show 1 ≤ sizeLine; decide), fun l1 n1 => ?_⟩
    have s1 : Same H2 (upd H2 l1 (.lst [y])) := (Same.refl H2).put n1
    have m1 : (upd H2 l1 (.lst [y])) l1 = some (.lst [y]) := upd_same
    generalize upd H2 l1 (.lst [y]) = H4 at s1 m1 ⊢
    refine ⟨D, l1, _, _, rfl, rfl, s1 _ _ e, m1, by rw [sizeLine_eq]; show us.length + 1 ≤ _; omega, fun l2 n2 => ?_⟩
    have s2 : Same H4 (upd H4 l2 (.lst (us ++ [y]))) := (Same.refl H4).put n2
    have m2 : (upd H4 l2 (.lst (us ++ [y]))) l2 = some (.lst (us ++ [y])) := upd_same
    generalize upd H4 l2 (.lst (us ++ [y])) = H5 at s2 m2 ⊢
    have s25 := s1.trans s2
    obtain ⟨o, wa, ba, pa, ws', ho, hO, hW, hB, hPe, hXe⟩ := hrow2.keeps (N := NoL) s25.keeps
    refine ⟨_, rfl, o, _, 4, _, ho, rfl, hO, atI_nat (j := 4) rfl, pa, ws', n.exc, rfl, hPe, hXe, by omega, by omega, fun H6 D6 us6 s6 e6 hu6 => ?_⟩
    have hl6 := hu6.len
    rw [List.length_map, RF.pre_len] at hl6
    refine ⟨l2, D6, _, _, rfl, rfl, s6 _ _ m2, e6, by rw [List.length_append, sizeLine_eq]; show us.length + 1 + _ ≤ _; omega, fun l7 n7 => ?_⟩
    have s7 : Same H6 (upd H6 l7 (.lst (us ++ [y] ++ us6))) := (Same.refl H6).put n7
    have s27 := (s25.trans s6).trans s7
    refine ⟨l7, _, _, rfl, s.trans s27, upd_same, ?_⟩
    rw [RF.preL_more hn, List.map_append, List.map_cons, pre_fst n.exc 1]
    have h1 := ((hu.mono fun _ _ x => x.keeps (N := NoL) s27.keeps).snoc (hrow2.keeps (N := NoL) s27.keeps)).app (hu6.mono fun _ _ x => x.keeps (N := NoL) s7.keeps)
    rw [List.append_assoc (List.map _ _)] at h1
    exact h1
  · rintro σ H2 ⟨D, us, y, rfl, s, e, hu⟩
    rw [hln, RF.preL_all] at hu
    exact ⟨_, rfl, q H2 D us s e hu⟩
end
end Sc
namespace Sc
open PySem PySem.Spec PyProof.Rows L2
theorem sc__law_spans : FnScope ["_law_h", "_law_drawn_here", "_law_found", "_law_rule_here", "_law_period"] ["_law_h", "_law_drawn_here"] (defScope s__law_spans) := ⟨rfl, rfl, rfl, by decide +kernel, rfl, by decide +kernel, by decide +kernel⟩
/-- a span as the law draws it -/
def SpRow (K : PySem.W.Frag) (H : Hp) (v : V) (q : Str × Spn) : Prop := ∃ t t2 : Addr, v = .ref t ∧ SqT K H t [.str q.1, .ref t2] ∧ SqT K H t2 (SpV q.2)
theorem SpRow.keeps {K : PySem.W.Frag} {N : Addr → Prop} {H H' : Hp} {v : V} {q : Str × Spn} (h : SpRow K H v q) (k : Keeps N H H') : SpRow K H' v q := by
  obtain ⟨t, t2, e, h1, h2⟩ := h
  exact ⟨t, t2, e, k.tup h1, k.tup h2⟩
def pers : List Nat := [1, 2, 3, 4, 6, 7, 12]
theorem pers_ok : ∀ p ∈ pers, 1 ≤ p ∧ p ≤ 12 ∧ p ∣ 84 := by decide
theorem pers_at {j : Nat} (h : j < 7) : ∃ p : Nat, atI ([.int 1, .int 2, .int 3, .int 4, .int 6, .int 7, .int 12] : List V) (j : Nat) = some (.int (p : Nat)) ∧ 1 ≤ p ∧ p ≤ 12 ∧ p ∣ 84 := by
  match j, h with
  | 0, _ => exact ⟨1, rfl, by decide⟩
  | 1, _ => exact ⟨2, rfl, by decide⟩
  | 2, _ => exact ⟨3, rfl, by decide⟩
  | 3, _ => exact ⟨4, rfl, by decide⟩
  | 4, _ => exact ⟨6, rfl, by decide⟩
  | 5, _ => exact ⟨7, rfl, by decide⟩
  | 6, _ => exact ⟨12, rfl, by decide⟩
theorem small_log {p : Nat} (h : p ≤ 12) : ((p : Nat) : Int).natAbs.log2 < 9000 := by
  have : ∀ p : Nat, p < 13 → p.log2 < 9000 := by decide
  exact this p (by omega)
section
variable {P : Program} {w : World} {K : PySem.W.Frag} {mg : Str → Option Value} {base : Heap}
def sp_spans (K : PySem.W.Frag) : Sp := fun vs H Q _ => ∃ (a l p fp pr : Addr) (rl : V) (ws : List V) (f : RF), vs = [.ref a, .ref p] ∧ RS H a l ∧ SqT K H p [.ref fp, .ref pr, rl] ∧ SqT K H pr ws ∧ RowsAt K H f ws ∧ f.dep ≤ 3 ∧ f.size ≤ 12 ∧
  ∀ H' D us (sp : List (Str × Spn)), Kp a l H H' → D ≠ a → D ≠ l → H' D = some (.lst us) → All2 (SpRow K H') us sp → (∀ q ∈ sp, SpnOk q.2) → (sp.map fun q => q.1).Sublist f.names → Q (.ref D) H'
theorem ok_spans {f : Addr} {fd : FuncData} (F : Fun K "_law_spans" "_law_spans" s__law_spans f fd) (B : Blt mg) (c__law_next : Cal P w K mg base CX0 1 "_law_next" ["_law_h", "_law_limit"] sp_next) (c__law_all : Cal P w K mg base CX0 14 "_law_all" ["_law_rules"] (sp_all K 12)) : FnOk P w K mg base CX0 15 f fd ["_law_h", "_law_drawn_here"] (sp_spans K) := by
  refine F.ok sc__law_spans (fun vs H Q E h => by obtain ⟨a, l, p, fp, pr, rl, ws, f, rfl, _⟩ := h; rfl) (fun cdv A outer s H vs Q E hr h => ?_)
  obtain ⟨a, l, p, fp, pr, rl, ws, f, rfl, R, hP, hR, hX, hd, hz, q⟩ := h
  refine ⟨_, (pss_cons (ps_set (i := 2) sc__law_spans.nd rfl (Or.inl rfl) (pe_lst pa_nil))
      (pss_cons (ps_for PassesOwn.never rfl (pi_list (pe_cal c__law_all (hr.mono (by decide)) (pa_cons (pe_ix ix_tup (pv 1) pe_int (fun _ _ => rfl)) pa_nil))) (pg_name (i := 3) sc__law_spans.nd rfl (Or.inl rfl)) (pss_one (ps_if (pt_cmpR op_eq (pe_cal c__law_next (hr.mono (by decide)) (pa_cons (pv 0) (pa_cons pe_int pa_nil))) pe_int (nomark _)) (pss_cons (ps_set (i := 4) sc__law_spans.nd rfl (Or.inl rfl) (pe_ix ix_list (pe_lst (pa_cons pe_int (pa_cons pe_int (pa_cons pe_int (pa_cons pe_int (pa_cons pe_int (pa_cons pe_int (pa_cons pe_int pa_nil)))))))) (pe_cal c__law_next (hr.mono (by decide)) (pa_cons (pv 0) (pa_cons pe_int pa_nil))) (fun _ _ => rfl)))
      (pss_one (ps_expr (pe_bm PySem.F.plainAttrs_list PySem.F.slot_list_append PySem.F.type_list_append mt_append (pv 2) (pa_cons (pe_tup (pa_cons (pe_ix ix_tup (pv 3) pe_int (fun _ _ => rfl)) (pa_cons (pe_tup (pa_cons (pv 4) (pa_cons (pe_cal c__law_next (hr.mono (by decide)) (pa_cons (pv 0) (pa_cons (pv 4) pa_nil))) (pa_cons (pe_op op_add pe_int (pe_cal c__law_next (hr.mono (by decide)) (pa_cons (pv 0) (pa_cons (pv 4) pa_nil)))) pa_nil)))) pa_nil))) pa_nil))))) pss_nil)))
      (pss_one (ps_ret (pv 2))))), ?_⟩
  refine ⟨Nat.zero_le _, fun D nD => ?_⟩
  have s0 : Same H (upd H D (.lst [])) := (Same.refl H).put nD
  have e0 : (upd H D (.lst [])) D = some (.lst []) := upd_same
  obtain ⟨Da, Dl⟩ := R.no nD
  have nDH := nD
  generalize upd H D (.lst []) = H0 at s0 e0 ⊢
  refine ⟨_, rfl, p, _, 1, _, rfl, rfl, s0.tup hP, atI_nat (j := 1) rfl, pr, ws, f, rfl, s0.tup hR, hX.keeps (N := NoL) s0.keeps, by omega, by omega, fun H1 D1 us s1 eD1 hus => ?_⟩
  have hul := hus.len
  rw [List.length_map, RF.pre_len] at hul
  have R1 : RS H1 a l := (R.same s0).same s1
  have eDH := s1 _ _ e0
  have hne : ∀ {i : Nat} {v : V}, us[i]? = some v → D1 ≠ D ∧ D1 ≠ a ∧ D1 ≠ l := fun {i v} hv => by
    cases us with
    | nil => rw [List.getElem?_nil] at hv; cases hv
    | cons v0 r =>
      obtain ⟨n0, _, o, _, _, _, _, rfl, _⟩ := hus.get (i := 0) (a := v0) rfl
      refine ⟨fun z => ?_, fun z => ?_, fun z => ?_⟩
      · rw [← z, eD1] at eDH; cases eDH
      · obtain ⟨st, x, ns, h1, h2, _⟩ := R1
        rw [← z, eD1] at h1; cases h1
      · obtain ⟨st, x, ns, h1, h2, _⟩ := R1
        rw [← z, eD1] at h2
        cases ns <;> cases h2
  refine ⟨D1, rfl, ⟨us, sqL_of eD1⟩, for_it walk_list (fun i σ H' => ∃ (y3 y4 : Option V) (ws : List V) (sp : List (Str × Spn)), σ = [some (.ref a), some (.ref p), some (.ref D), y3, y4] ∧ Kc a l D H1 H' ∧ H' D1 = some (.lst us) ∧ H' D = some (.lst ws) ∧ All2 (SpRow K H') ws sp ∧ (∀ q ∈ sp, SpnOk q.2) ∧ (sp.map fun q => q.1).Sublist (f.names.take i)) ⟨none, none, [], [], rfl, .of R1 (Same.refl _), eD1, eDH, .nil, (fun _ h => nomatch h), .slnil⟩ (fun _ _ _ _ ⟨_, _, _, _, _, _, e, _⟩ => sqL_of e) ?_ ?_⟩
  · rintro i y σ H2 H3 hi ⟨y3, y4, ws, sp, rfl, k2, eU, eW, hws, hok, hsub⟩ ⟨rfl, hy⟩
    obtain ⟨d1, d2, d3⟩ := hne hy
    obtain ⟨n, hn, o, wa, ba, pa, ws', rfl, hO, _⟩ := hus.get hy
    have hnm : f.names[i]? = some n.nm := by
      rw [← RF.pre_names f 0]
      rw [List.getElem?_map] at hn ⊢
      cases hp : (f.pre 0)[i]? with
      | none => rw [hp] at hn; cases hn
      | some q => rw [hp] at hn; exact congrArg (fun z => some (Nd.nm z)) (Option.some.inj hn)
    have hlen : ws.length ≤ 12 := by
      have h1 := hsub.length_le
      rw [List.length_map, List.length_take] at h1
      have h2 := hws.len
      omega
    refine ⟨_, rfl, a, l, 2, rfl, k2.new, by decide, by decide, fun H4 r k4 r0 r1 => ⟨rfl, _, rfl, bcase (fun c => ?_) (fun c => ?_)⟩⟩
    · refine ⟨(by show 7 ≤ sizeLine; rw [sizeLine_eq]; decide), fun L nL => ?_⟩
      have k5 := (k2.trans k4.kc).put0 (o := .lst ([.int 1, .int 2, .int 3, .int 4, .int 6, .int 7, .int 12] : List V)) (k2.free eW (k4.free nL))
      have s5 : Same H4 (upd H4 L (.lst ([.int 1, .int 2, .int 3, .int 4, .int 6, .int 7, .int 12] : List V))) := (Same.refl H4).put nL
      have e5 : (upd H4 L (.lst ([.int 1, .int 2, .int 3, .int 4, .int 6, .int 7, .int 12] : List V))) L = some (.lst ([.int 1, .int 2, .int 3, .int 4, .int 6, .int 7, .int 12] : List V)) := upd_same
      have eU5 := s5 _ _ (k4.keep _ _ d2 d3 eU)
      have eW5 := s5 _ _ (k4.keep _ _ Da Dl eW)
      have hws5 := (hws.mono fun _ _ x => x.keeps (N := NoL) k4.keepsN).mono fun _ _ x => x.keeps (N := NoL) s5.keeps
      have nLa := k4.new.no nL
      generalize upd H4 L (.lst ([.int 1, .int 2, .int 3, .int 4, .int 6, .int 7, .int 12] : List V)) = H5 at s5 e5 eU5 eW5 hws5 k5 ⊢
      refine ⟨_, rfl, a, l, 7, rfl, k5.new, by decide, by decide, fun H6 r6 k6 r60 r61 => ?_⟩
      obtain ⟨j, rfl⟩ : ∃ j : Nat, r6 = j := ⟨r6.toNat, by omega⟩
      obtain ⟨per, hat, p1, p2, pd⟩ := pers_at (j := j) (by omega)
      have e6 := k6.keep _ _ nLa.1 nLa.2 e5
      refine ⟨L, _, _, _, rfl, rfl, sqL_of e6, hat, ?_⟩
      have hO6 : SqT K H6 o _ := ((((k2.keeps eDH).trans k4.keepsN).trans s5.keeps).trans k6.keepsN).tup hO
      have eW6 := k6.keep _ _ Da Dl eW5
      have eU6 := k6.keep _ _ d2 d3 eU5
      refine ⟨_, rfl, .inl ⟨rfl, _, sqL_of eW6⟩, _, rfl, _, _, _, _, rfl, rfl, hO6, atI_nat (j := 0) rfl, ?_⟩
      refine ⟨_, rfl, _, rfl, _, rfl, a, l, _, rfl, k6.new, by omega, small_log (by omega), fun H7 r7 k7 r70 r71 => ?_⟩
      refine ⟨_, rfl, _, rfl, a, l, _, rfl, k7.new, by omega, small_log (by omega), fun H8 r8 k8 r80 r81 => ?_⟩
      obtain ⟨j7, rfl⟩ : ∃ j : Nat, r7 = j := ⟨r7.toNat, by omega⟩
      obtain ⟨j8, rfl⟩ : ∃ j : Nat, r8 = j := ⟨r8.toNat, by omega⟩
      have eS : ([.int (per : Nat), .int (j7 : Nat), .int (1 + (j8 : Nat))] : List V) = SpV ⟨per, j7, 1 + j8⟩ := by show _ = [V.int _, V.int _, V.int _]; rw [Int.natCast_add]; rfl
      have k68 := k6.trans (k7.trans k8)
      have k08 := k5.trans k68.kc
      have eW8 := k68.keep _ _ Da Dl eW5
      have eU8 := k68.keep _ _ d2 d3 eU5
      have hws8 := hws5.mono fun _ _ x => x.keeps (N := NoL) k68.keepsN
      refine ⟨_, _, rfl, rfl, (by show 3 ≤ sizeLine; rw [sizeLine_eq]; decide), fun t2 nt2 => ⟨(by show 2 ≤ sizeLine; rw [sizeLine_eq]; decide), fun t nt => ?_⟩⟩
      rw [eS] at nt ⊢
      have s9 : Same H8 (upd H8 t2 (.tup (SpV ⟨per, j7, 1 + j8⟩))) := (Same.refl H8).put nt2
      have m9 : (upd H8 t2 (.tup (SpV ⟨per, j7, 1 + j8⟩))) t2 = some (.tup (SpV ⟨per, j7, 1 + j8⟩)) := upd_same
      generalize upd H8 t2 (.tup (SpV ⟨per, j7, 1 + j8⟩)) = H9 at s9 m9 nt ⊢
      have s10 : Same H9 (upd H9 t (.tup [.str n.nm, .ref t2])) := (Same.refl H9).put nt
      have m10 : (upd H9 t (.tup [.str n.nm, .ref t2])) t = some (.tup [.str n.nm, .ref t2]) := upd_same
      generalize upd H9 t (.tup [.str n.nm, .ref t2]) = H10 at s10 m10 ⊢
      have s810 := s9.trans s10
      have eW10 := s810 _ _ eW8
      have k10 := k08.same s810
      have hrow : SpRow K H10 (.ref t) (n.nm, ⟨per, j7, 1 + j8⟩) := ⟨t, t2, rfl, sqT_of m10, s10.tup (sqT_of m9)⟩
      refine ⟨D, ws, _, rfl, rfl, eW10, by rw [sizeLine_eq]; omega, ?_⟩
      have kw : Keeps NoL H10 (upd H10 D (.lst (ws ++ [.ref t]))) := keeps_own eW10 id
      refine ⟨_, _, ws ++ [.ref t], sp ++ [(n.nm, ⟨per, j7, 1 + j8⟩)], rfl, k10.count Da Dl, by rw [upd_ne d1]; exact s810 _ _ eU8, upd_same, ((hws8.mono fun _ _ x => x.keeps (N := NoL) s810.keeps).snoc hrow).mono fun _ _ x => x.keeps kw, fun q hq => ?_, ?_⟩
      · rcases List.mem_append.mp hq with hq | hq
        · exact hok q hq
        · rw [List.mem_singleton.mp hq]
          exact ⟨p1, p2, (by show j7 < per; omega), (by show 1 ≤ 1 + j8; omega), (by show 1 + j8 ≤ per; omega), pd⟩
      · rw [take_more hnm, List.map_append]
        exact hsub.append (List.Sublist.refl _)
    · refine ⟨_, _, ws, sp, rfl, k2.trans k4.kc, k4.keep _ _ d2 d3 eU, k4.keep _ _ Da Dl eW, hws.mono fun _ _ x => x.keeps (N := NoL) k4.keepsN, hok, hsub.trans ?_⟩
      rw [take_more hnm]
      exact List.sublist_append_left _ _
  · rintro σ H2 ⟨y3, y4, ws, sp, rfl, k2, eU, eW, hws, hok, hsub⟩
    refine ⟨_, rfl, q _ D ws sp ⟨R, k2.new, fun b o n1 n2 e => k2.keep _ _ n1 n2 (fun z => ?_) (s1 _ _ (s0 _ _ e))⟩ Da Dl eW hws hok ?_⟩
    · rw [z, nDH] at e; cases e
    · have : us.length = f.names.length := by rw [hul, ← RF.pre_names f 0, List.length_map, RF.pre_len]
      rw [this, List.take_length] at hsub
      exact hsub
end
end Sc
namespace Sc
open PySem PySem.Spec PyProof.Rows L2
theorem sc__law_two : FnScope ["_law_count", "_law_found", "_law_k"] ["_law_count"] (defScope s__law_two) := ⟨rfl, rfl, rfl, by decide +kernel, rfl, by decide +kernel, by decide +kernel⟩
theorem sc__law_case : FnScope ["_law_facts_here", "_law_number", "_law_found", "_law_fact"] ["_law_facts_here", "_law_number"] (defScope s__law_case) := ⟨rfl, rfl, rfl, by decide +kernel, rfl, by decide +kernel, by decide +kernel⟩
section
variable {P : Program} {w : World} {K : PySem.W.Frag} {mg : Str → Option Value} {base : Heap}
def sp_two : Sp := fun vs H Q _ => ∃ n : Nat, vs = [.int (n : Nat)] ∧ n ≤ 60 ∧ Q (.int ((2 ^ n : Nat) : Int)) H
theorem ok_two {f : Addr} {fd : FuncData} (F : Fun K "_law_two" "_law_two" s__law_two f fd) (B : Blt mg) : FnOk P w K mg base CX0 1 f fd ["_law_count"] sp_two := by
  refine F.ok sc__law_two (fun vs H Q E h => by obtain ⟨n, rfl, _⟩ := h; rfl) (fun cdv A outer s H vs Q E hr h => ?_)
  obtain ⟨n, rfl, hn, q⟩ := h
  refine ⟨_, (pss_cons (ps_set (i := 1) sc__law_two.nd rfl (Or.inl rfl) pe_int)
      (pss_cons (ps_for PassesOwn.never rfl (pi_range1 (by rfl) B.b_range (pa_cons (pv 0) pa_nil)) (pg_name (i := 2) sc__law_two.nd rfl (Or.inl rfl)) (pss_one (ps_set (i := 1) sc__law_two.nd rfl (Or.inl rfl) (pe_op op_mul (pv 1) pe_int))))
      (pss_one (ps_ret (pv 1))))), ?_⟩
  refine ⟨_, rfl, _, rfl, by omega, by omega, for_it walk_range (fun i σ H' => ∃ y, σ = [some (.int (n : Nat)), some (.int ((2 ^ i : Nat) : Int)), y] ∧ H' = H) ⟨none, rfl, rfl⟩ (fun _ _ _ _ _ => trivial) ?_ ?_⟩
  · rintro i x σ H1 H2 hi ⟨y, rfl, rfl⟩ ⟨rfl, hy⟩
    refine ⟨_, rfl, _, 2, rfl, rfl, .inr ⟨by decide, by decide⟩, ?_⟩
    refine ⟨some x, ?_, rfl⟩
    show [some (V.int (n : Nat)), some (V.int (((2 ^ i : Nat) : Int) * 2)), some x] = _
    rw [show ((2 ^ i : Nat) : Int) * 2 = ((2 ^ (i + 1) : Nat) : Int) by rw [Nat.pow_succ]; omega]
  · rintro σ H1 ⟨y, rfl, rfl⟩
    exact ⟨_, rfl, by simpa using q⟩
def sp_lcase (K : PySem.W.Frag) : Sp := fun vs H Q _ => ∃ (a : Addr) (xs : List Str) (n : Nat), vs = [.ref a, .int (n : Nat)] ∧ SqT K H a (xs.map V.str) ∧ xs.length ≤ 60 ∧ n < 2 ^ 62 ∧
  ∀ H' p, Same H H' → H' p = some (.tup ((namesOf xs (n : Nat)).map V.str)) → Q (.ref p) H'
theorem ok_lcase {f : Addr} {fd : FuncData} (F : Fun K "_law_case" "_law_case" s__law_case f fd) (B : Blt mg) : FnOk P w K mg base CX0 1 f fd ["_law_facts_here", "_law_number"] (sp_lcase K) := by
  refine F.ok sc__law_case (fun vs H Q E h => by obtain ⟨a, xs, n, rfl, _⟩ := h; rfl) (fun cdv A outer s H vs Q E hr h => ?_)
  obtain ⟨a, xs, n, rfl, hS, hl, hn, q⟩ := h
  refine ⟨_, (pss_cons (ps_set (i := 2) sc__law_case.nd rfl (Or.inl rfl) (pe_lst pa_nil))
      (pss_cons (ps_for PassesOwn.never rfl (pi_tup (pv 0)) (pg_name (i := 3) sc__law_case.nd rfl (Or.inl rfl)) (pss_cons (ps_if (pt_cmpR op_eq (pe_op op_mod (pe_callTy call_int1 (by rfl) B.b_int PyProof.Rows.boot_int (pa_cons (pv 1) pa_nil)) pe_int) pe_int (nomark _)) (pss_one (ps_expr (pe_bm PySem.F.plainAttrs_list PySem.F.slot_list_append PySem.F.type_list_append mt_append (pv 2) (pa_cons (pv 3) pa_nil)))) pss_nil)
      (pss_one (ps_set (i := 1) sc__law_case.nd rfl (Or.inl rfl) (pe_op op_fdiv (pv 1) pe_int)))))
      (pss_one (ps_ret (pe_callTy call_tuple_of (by rfl) B.b_tuple PyProof.Rows.boot_tuple (pa_cons (pv 2) pa_nil)))))), ?_⟩
  refine ⟨Nat.zero_le _, fun D nD => ⟨_, rfl, ?_⟩⟩
  refine ⟨a, rfl, ⟨_, ((Same.refl H).put nD).tup hS⟩, for_it walk_tup (fun i σ H' => ∃ y, σ = [some (.ref a), some (.int ((n / 2 ^ i : Nat) : Int)), some (.ref D), y] ∧ Same H H' ∧ H' D = some (.lst ((namesL xs (n : Nat) i).map V.str)))
    ⟨none, by rw [show n / 2 ^ 0 = n from Nat.div_one n]; rfl, (Same.refl H).put nD, upd_same⟩ (fun _ _ _ _ ⟨_, _, s, _⟩ => s.tup hS) ?_ ?_⟩
  · rintro i y σ H3 H2 hi ⟨y3, rfl, s, e⟩ ⟨rfl, hy⟩
    rw [List.length_map] at hi
    have hx : xs[i]? = some xs[i] := List.getElem?_eq_getElem hi
    obtain rfl : V.str xs[i] = y := strAt_inj hx hy
    have hbit : bitAt (n : Nat) i = decide ((((n / 2 ^ i : Nat) : Int)) % 2 = 1) := by
      rw [bit_mod]
      congr 2
    have hdiv : (((n / 2 ^ i : Nat) : Int)) / 2 = ((n / 2 ^ (i + 1) : Nat) : Int) := by
      rw [Nat.pow_succ, ← Nat.div_div_eq_div_mul]
      omega
    have hst : [some (V.ref a), some (V.int ((((n / 2 ^ i : Nat) : Int)) / 2)), some (V.ref D), some (V.str xs[i])] = [some (V.ref a), some (V.int ((n / 2 ^ (i + 1) : Nat) : Int)), some (V.ref D), some (V.str xs[i])] := by rw [hdiv]
    have hnl := namesL_len (facts := xs) (n := (n : Nat)) (i := i)
    refine ⟨_, rfl, .inl ⟨_, rfl, _, 2, rfl, rfl, (show (0 : Int) < 2 by decide), rfl, _, rfl, bcase (fun c1 => ?_) (fun c1 => ?_)⟩⟩
    · have c1 : bitAt (n : Nat) i = true := by
        rw [hbit]
        have h := V.int.inj (of_decide_eq_true c1)
        exact decide_eq_true h
      refine ⟨_, rfl, .inl ⟨rfl, _, sqL_of e⟩, _, rfl, D, _, _, rfl, rfl, e, small1000 (by rw [List.length_map]; omega), ?_⟩
      refine ⟨_, rfl, _, 2, rfl, rfl, ⟨by decide, by decide⟩, some (.str xs[i]), hst, s.put nD, ?_⟩
      rw [upd_same, namesL_more c1 hx, List.map_append]
      rfl
    · have c1 : bitAt (n : Nat) i = false := by
        rw [hbit]
        exact decide_eq_false fun z => of_decide_eq_false c1 (congrArg V.int z)
      refine ⟨_, rfl, _, 2, rfl, rfl, ⟨by decide, by decide⟩, some (.str xs[i]), hst, s, ?_⟩
      rw [namesL_same c1]
      exact e
  · rintro σ H2 ⟨y3, rfl, s, e⟩
    rw [List.length_map] at e
    exact ⟨_, rfl, D, _, rfl, .inl ⟨sqL_of e, fun p np => q _ p (s.put' np) upd_same⟩⟩
end
end Sc
/-! list(o.values()) of a dict -/
namespace L2
open PySem PySem.Spec PySem.Calls PyProof.Rows PySem.W
def tListVals (td : TE) : TE := fun σ H Q => td σ H fun x H1 => ∃ (a : Addr) (kvs : List (Key × V)), x = V.ref a ∧ H1 a = some (.dK kvs) ∧ kvs.length ≤ 1000000 ∧ ∀ p, H1 p = none → Q (.ref p) (upd H1 p (.lst (kvs.map (·.2))))
theorem vals_kv : ∀ {kvs : List (Key × V)} {us : List Value}, us.length = kvs.length → (∀ (i : Nat) (v : Value), us[i]? = some v → ∃ k x, kvs[i]? = some (k, x) ∧ RelV x v) → Vals (kvs.map (·.2)) us
  | [], [], _, _ => .nil
  | [], _ :: _, h, _ => by cases h
  | _ :: _, [], h, _ => by cases h
  | (k, x) :: r, u :: us, h, g => by
    obtain ⟨k', x', e, rx⟩ := g 0 u rfl
    cases e
    exact .cons rx (vals_kv (Nat.succ.inj h) fun i v e => g (i + 1) v e)
section
variable {X : Cx} {o : Expr} {p pos apos mpos : Pos} {td : TE}
theorem pe_listVals (hc : X.calm = true) (hg : Gl X "list") (hm : X.mg "list" = none) (hd : PE X o td) (hbase : attributeBase o "values" X.env (eval o X.env) = eval o X.env := by rfl) (hline : (apos.endLine == mpos.line) = true := by rfl)
    (hse : starEach [Expr.Call (.Attribute o "values" apos) [] [] mpos] X.env = [(false, eval (Expr.Call (.Attribute o "values" apos) [] [] mpos) X.env)] := by rfl) :
    PE X (.Call (.Name "list" p) [.Call (.Attribute o "values" apos) [] [] mpos] [] pos) (tListVals td) := by
  refine ⟨fun pins s σ H Q I h => ?_⟩
  refine wpAny_Call_Name_kw (ld_blt I hg hm (u := .type "list") (by first | rfl | decide +kernel) ?_ (by first | decide +kernel | decide) (by first | decide +kernel | decide))
  rw [hse]
  refine PySem.callWith_type1 (wpAny_Call_method0_late hbase hline (thn (hd.run pins s σ H _ I h) fun v s1 ⟨x, H1, I1, r1, a, kvs, ex, ha, hkl, q⟩ => ?_))
  subst ex
  obtain rfl : v = Value.ref a := r1
  obtain ⟨_, hsys, vs, rel, dof⟩ := dk_of I1.hok ha
  obtain ⟨ep, dat⟩ := dof.dictAt
  have dat' := dat
  obtain ⟨ob, es, ho, ex, hdat, hko, hpr, hnd⟩ := dat'
  refine ⟨"dict", "dict.values", F.plainAttrs_dict, F.slot_dict_values, F.type_dict_values, ⟨ob, ho, ex.1⟩, fun b e => ?_, Calls.callWith_builtin rfl (PySem.evalArgs_none ?_)⟩
  · cases e
    exact ⟨ob, ho, ex.2.1⟩
  refine call_meetsIn F.slot_dict_values ⟨ob, ho, ex.1⟩ F.entry_dict_values (F.args_dict_values_1 _) (meets_dict_values (mixKind X.prog X.w) a hsys) ⟨⟨vs, dof⟩, ?_⟩
  have k1 : ∀ b u, s1.heap.get? b = some u → (s1.heap.push { cls := .type "dict_values", data := .fields #[.ref a] }).get? b = some u := fun b u e => Heap.get?_push_of_some _ e
  have dat1 : (s1.heap.push { cls := .type "dict_values", data := .fields #[.ref a] }).DictAt (mixKind X.prog X.w) a vs ep := dat.keep k1
  have hlv : vs.length = kvs.length := (KV.length rel).symm
  have hlz : vs.length ≤ sizeLine := by rw [hlv, sizeLine_eq]; omega
  refine kdl_call (kdl_values (r := s1.heap.objs.size) (d := a) (kvs := vs) (ep := ep) (knd := mixKind X.prog X.w)) (I.ok.hd hc) ⟨⟨_, Heap.get?_push_size _ rfl, rfl, rfl⟩, dat1⟩ hlz fun h' tk acc' c' hk hD hacc => ?_
  have hsz : (s1.heap.push { cls := .type "dict_values", data := .fields #[.ref a] }).objs.size = s1.heap.objs.size + 1 := Heap.size_push _ _
  have hv : Vals (kvs.map (·.2)) acc'.toList := vals_kv (by rw [Array.length_toList, hacc.1, hlv]) fun i v e => by
    obtain ⟨k, hk2⟩ := hacc.2 i v (by rw [← Array.getElem?_toList]; exact e)
    obtain ⟨x, h1, h2⟩ := KV.at' rel hk2
    exact ⟨k, x, h1, h2⟩
  rw [hsz] at hD ⊢
  have hn : H1 (s1.heap.objs.size + 1) = none := I1.hok.fresh (Nat.le_succ _)
  exact ⟨.ref (s1.heap.objs.size + 1), _, I1.laid (t' := tk) (fun b u e => hk b u (k1 b u e)) (Nat.le_succ _) (show ObjOk X.prog X.w _ h' _ (.lst (kvs.map (·.2))) from ⟨by rw [List.length_map, sizeLine_eq]; omega, acc'.toList, c', hv, by rw [Array.toArray_toList]; exact hD⟩), rfl, q _ hn⟩
end
end L2
namespace Sc
open PySem PySem.Spec PyProof.Rows L2
theorem sc_law : FnScope ["_law_script", "_law_h", "_law_k", "_law_drawn_here", "_law_seasons", "_law_many", "_law_start", "_law_day", "_law_books", "_law_kept", "_law_j", "_law_case_here", "_law_rulings", "_law_found", "_law_before", "_law_ruling", "_law_book_here"] ["_law_script"] (defScope s_law) := ⟨rfl, rfl, rfl, by decide +kernel, rfl, by decide +kernel, by decide +kernel⟩
section
variable {X : Cx} {k : Nat} {x : Str} {C : Addr} {ps : List Str} {sp : Sp} {e : Expr} {es : List Expr} {t : TA} {p pos : Pos}
theorem pe_callSea {te : TE} (M : MethO X.prog X.w X.K X.mg X.base CX0 k C "__call__" ps sp) (hr : Room k X.A) (ho : PE X (.Name x p) te) (ha : PA X (e :: es) t)
    (he : starEach (e :: es) X.env = (false, eval e X.env) :: starEach es X.env := by rfl) (hpl : (backTo pos (starEach es X.env)).any (·.1) = false := by rfl) : PE X (.Call (.Name x p) (e :: es) [] pos) (Sc.tCallO C sp E0 te t) := by
  obtain ⟨g, fd, h1, h2, h3, F, hb⟩ := M.ex
  exact Sc.pe_callO h1 h2 h3 F hr hb pass0 ho ha he hpl
theorem pe_cBN {C R B CC : Addr} {te : TE} (M : MethO X.prog X.w X.K X.mg X.base (L2.CX X.prog X.w) 11 B "__call__" ["self", "case"] (sp_bcall X.K C R B CC)) (hr : Room 11 X.A) (ho : PE X (.Name x p) te) (ha : PA X (e :: es) t)
    (he : starEach (e :: es) X.env = (false, eval e X.env) :: starEach es X.env := by rfl) (hpl : (backTo pos (starEach es X.env)).any (·.1) = false := by rfl) : PE X (.Call (.Name x p) (e :: es) [] pos) (tCallO B (sp_bcall X.K C R B CC) E0 te t) := by
  obtain ⟨g, fd, h1, h2, h3, F, hb⟩ := M.ex
  exact pe_callO h1 h2 h3 F hr hb passL ho ha he hpl
end
theorem names12_len {f : RF} {k : Nat} {ns : List Str} (e : f.names ++ ns = names12.drop k) : f.size ≤ 12 := by
  have h1 := congrArg List.length e
  rw [List.length_append, List.length_drop] at h1
  have h2 : names12.length = 12 := rfl
  have h3 : f.names.length = f.size := by rw [← RF.pre_names f 0, List.length_map, RF.pre_len]
  omega
/-- all but the draws' own lists -/
abbrev NotDraw (a l : Addr) : Addr → Prop := fun b => b ≠ a ∧ b ≠ l
/-- pairs that stand for a dict -/
theorem rows_kvs {K : PySem.W.Frag} {H : Hp} {us : List V} {sp : List (Str × Spn)} (h : All2 (SpRow K H) us sp) : ∃ (ps : List Addr) (kvs : List (Key × V)), us = ps.map V.ref ∧ Paired (fun p kv => SqT K H p [kV kv.1, kv.2]) ps kvs ∧ All2 (SpKv K H) kvs sp := by
  induction h with
  | nil => exact ⟨[], [], rfl, .nil, .nil⟩
  | @cons v q vs qs h _ ih =>
    obtain ⟨ps, kvs, rfl, h2, h3⟩ := ih
    obtain ⟨t, t2, rfl, g1, g2⟩ := h
    exact ⟨t :: ps, (.inr q.1, .ref t2) :: kvs, rfl, .cons g1 h2, .cons ⟨rfl, t2, rfl, g2⟩ h3⟩
theorem merge_new : ∀ {more kvs : List (Key × V)}, ((kvs ++ more).map fun kv => kv.1).Nodup → mergeK kvs more = kvs ++ more
  | [], kvs, _ => by rw [List.append_nil]; rfl
  | kv :: r, kvs, h => by
    have hv : valV kvs kv.1 = none := by
      unfold valV
      rw [Option.map_eq_none_iff, List.find?_eq_none]
      intro x hx hd
      have hd : x.1 = kv.1 := of_decide_eq_true hd
      rw [List.map_append, List.map_cons] at h
      exact (List.nodup_append.mp h).2.2 _ (List.mem_map.mpr ⟨x, hx, rfl⟩) _ List.mem_cons_self hd
    show mergeK (putK kvs kv.1 kv.2) r = _
    rw [putK_new _ hv, merge_new (by rw [List.append_assoc]; exact h), List.append_assoc]
    rfl
theorem SeaAt.kp {K : PySem.W.Frag} {C R B SE a l : Addr} {N : Addr → Prop} {H H' : Hp} {x : Addr} {xs : List Str} {f : RF} {rl : Str} {sp : List (Str × Spn)} (h : SeaAt K C R B SE N H x xs f rl sp) (k : Kp a l H H') (na : ¬ N a) (nl : ¬ N l) : SeaAt K C R B SE N H' x xs f rl sp := by
  obtain ⟨dx, b, d, kvs, h1, h2, h3, h4⟩ := h
  exact ⟨dx, b, d, kvs, k.obj h1 (fun _ z => by cases z), h2.keeps (k.keeps na nl), k.obj h3 (fun _ z => by cases z), h4.mono fun _ _ x => x.same (N := NoL) k.keepsN⟩
/-- a right rule's parts share no name -/
theorem dj_of {n : Nd} (h : NdOk n) : ∀ x ∈ n.hs, ¬ x ∈ n.fs := fun x hx hf => by
  obtain ⟨i, hi, rfl⟩ := List.getElem_of_mem hf
  have h := wrongs_none h.c2 i hi
  simp [hx] at h
/-! ### what the law counts -/
theorem cnt_drop {p : Nat → Bool} {a m : Nat} : ((List.range (a + m)).filter p).length = ((List.range a).filter p).length + (((List.range (a + m)).drop a).filter p).length := by
  have e : (List.range (a + m)).take a = List.range a := by rw [List.take_range]; congr 1; omega
  rw [← List.length_append, ← List.filter_append]
  conv => rhs; rw [← e]
  rw [List.take_append_drop]
theorem cnt_sum {ys : List Str} {R : Nat → Str} (hn : ys.Nodup) (h : ∀ t, R t ∈ ys) : ∀ n : Nat, (ys.map fun r => ((List.range n).filter fun t => decide (R t = r)).length).sum = n
  | 0 => sum_none
  | n + 1 => by
    have ih := cnt_sum hn h n
    have e : (ys.map fun r => ((List.range (n + 1)).filter fun t => decide (R t = r)).length) = ys.map fun s => if s = R n then (fun r => ((List.range n).filter fun t => decide (R t = r)).length) (R n) + 1 else (fun r => ((List.range n).filter fun t => decide (R t = r)).length) s := by
      refine List.map_congr_left fun r _ => ?_
      rw [List.range_succ, List.filter_append, List.length_append]
      by_cases c : r = R n
      · rw [if_pos c, c]; simp
      · have c2 : ¬ R n = r := fun z => c z.symm
        rw [if_neg c]; simp [c2]
    rw [e, sum_one (a := fun r => ((List.range n).filter fun t => decide (R t = r)).length) hn (h n), ih]
section
variable {K : PySem.W.Frag} {C R B SE : Addr}
theorem BookAt.re {N M : Addr → Prop} {H : Hp} {o : Addr} {xs : List Str} {f : RF} {rl : Str} (g : ∀ b xs, N b → H b = some (.lst xs) → M b) (h : BookAt K C R B N H o xs f rl) : BookAt K C R B M H o xs f rl := by
  obtain ⟨dx, a, p, l, ws, us, h1, h2, h3, h4, ⟨h5, h6⟩, h7⟩ := h
  exact ⟨dx, a, p, l, ws, us, h1, h2, h3, h4.re g, ⟨g _ _ h5 h6, h6⟩, h7.mono fun _ _ ⟨o, e, x⟩ => ⟨o, e, x.re g⟩⟩
theorem SeaAt.re {N M : Addr → Prop} {H : Hp} {x : Addr} {xs : List Str} {f : RF} {rl : Str} {sp : List (Str × Spn)} (h : SeaAt K C R B SE N H x xs f rl sp) (g : ∀ b xs, N b → H b = some (.lst xs) → M b) : SeaAt K C R B SE M H x xs f rl sp := by
  obtain ⟨dx, b, d, kvs, h1, h2, h3, h4⟩ := h
  exact ⟨dx, b, d, kvs, h1, h2.re g, h3, h4⟩
end
theorem nday_at {K : PySem.W.Frag} {C R B SE : Addr} {N : Addr → Prop} {H : Hp} {y c : Addr} {xs : List Str} {f : RF} {rl r : Str} {sp : List (Str × Spn)} {cs : List Str} {day : Int} {t : Nat} {Q : VK} {E : XK} (hS : SeaAt K C R B SE N H y xs f rl sp) (hO : SeaOk xs f sp) (hN : ∀ l, H l = none → N l) (hC : SqT K H c (cs.map V.str)) (hsub : List.Sublist cs xs) (hout : firstOut xs cs = none) (hr : isName r = true) (d0 : 0 ≤ day) (d1 : day ≤ lastDay)
    (hf : (List.range (perN sp)).find? (fun t => decide ((RF.filt (stays sp (day + (t : Nat))) f).ruled cs rl = r)) = some t) (q : ∀ H', Same H H' → Q (.int (day + (t : Nat))) H') : sp_nday K C R B SE [.ref y, .ref c, .str r, .int day] H Q E :=
  ⟨N, y, c, xs, f, rl, r, sp, cs, day, rfl, hS, hO, hN, hC, hsub, hout, hr, d0, d1, fun H' s => by rw [hf]; exact q H' s⟩
theorem rls_name {f : RF} (h : f.every NdOk) : ∀ r ∈ f.rls, isName r = true := fun r hr => by
  obtain ⟨q, hq, rfl⟩ := List.mem_map.mp hr
  exact (RF.every_pre h q hq).rl
theorem nd_len : ∀ {xs ys : List Str}, xs.Nodup → (∀ x ∈ xs, x ∈ ys) → xs.length ≤ ys.length
  | [], _, _, _ => Nat.zero_le _
  | a :: t, ys, hn, h => by
    obtain ⟨n1, n2⟩ := List.nodup_cons.mp hn
    have ha := h a List.mem_cons_self
    have ih := nd_len (xs := t) (ys := ys.erase a) n2 fun x hx => (List.mem_erase_of_ne (fun z => n1 (by rw [← z]; exact hx))).mpr (h x (List.mem_cons_of_mem _ hx))
    rw [List.length_erase_of_mem ha] at ih
    have : 0 < ys.length := List.length_pos_of_mem ha
    rw [List.length_cons]
    omega
theorem sum_cast {ys : List Str} {g : Str → Nat} : (ys.map fun r => ((g r : Nat) : Int)).sum = (((ys.map fun r => g r).sum : Nat) : Int) := by
  induction ys with
  | nil => rfl
  | cons y t ih => rw [List.map_cons, List.map_cons, List.sum_cons, List.sum_cons, ih, Int.natCast_add]
/-- the book of a day -/
def BkDay (K : PySem.W.Frag) (C R B : Addr) (N : Addr → Prop) (H : Hp) (fs : List Str) (f : RF) (rl : Str) (sp : List (Str × Spn)) (v : V) (d : Nat) : Prop := ∃ b : Addr, v = .ref b ∧ BookAt K C R B N H b fs (RF.filt (stays sp ((d : Nat) : Int)) f) rl
theorem BkDay.keeps {K : PySem.W.Frag} {C R B : Addr} {N : Addr → Prop} {H H' : Hp} {fs : List Str} {f : RF} {rl : Str} {sp : List (Str × Spn)} {v : V} {d : Nat} (h : BkDay K C R B N H fs f rl sp v d) (k : Keeps N H H') : BkDay K C R B N H' fs f rl sp v d := by
  obtain ⟨b, e, h⟩ := h
  exact ⟨b, e, h.keeps k⟩
section
variable {P : Program} {w : World} {K : PySem.W.Frag} {mg : Str → Option Value} {base : Heap} {C R B0 SE : Addr}
def sp_law (K : PySem.W.Frag) : Sp := fun vs H Q _ => ∃ (s : Addr) (ns : List Int), vs = [.ref s] ∧ SqL K H s (ns.map V.int) ∧ ns.length ≤ 63 ∧ (∀ z ∈ ns, Builtin.Int.intBits z ≤ 1048576) ∧ ∀ H', Q (.bl true) H'
theorem ok_law {f : Addr} {fd : FuncData} {CC : Addr} (F : Fun K "law" "law" s_law f fd) (B : Blt mg) (CLe : Cls K SE)
    (c__law_mix : Cal P w K mg base CX0 1 "_law_mix" ["_law_script", "_law_seed"] (sp_mix K)) (c__law_next : Cal P w K mg base CX0 1 "_law_next" ["_law_h", "_law_limit"] sp_next)
    (c__law_facts : Cal P w K mg base CX0 2 "_law_facts" ["_law_h", "_law_most"] sp_facts) (c__law_drawn : Cal P w K mg base CX0 6 "_law_drawn" ["_law_h", "_law_facts_here", "_law_most"] (sp_drawn K))
    (c__law_spans : Cal P w K mg base CX0 15 "_law_spans" ["_law_h", "_law_drawn_here"] (sp_spans K)) (c__law_book : Cal P w K mg base CX0 31 "_law_book" ["_law_drawn_here"] (sp_book2 K C R B0))
    (c__law_two : Cal P w K mg base CX0 1 "_law_two" ["_law_count"] sp_two) (c__law_case : Cal P w K mg base CX0 1 "_law_case" ["_law_facts_here", "_law_number"] (sp_lcase K))
    (k_Seasons : Mkr0 P w K mg base 5 "Seasons" SE ["self", "book", "spans"] (sp_seaInit K C R B0 SE)) (mPer : PropM P w K mg base SE "period" 1 (sp_seaPeriod K C R B0 SE)) (mCall : MethO P w K mg base CX0 33 SE "__call__" ["self", "day"] (sp_seaCall K C R B0 SE))
    (mCallB : MethO P w K mg base (L2.CX P w) 11 B0 "__call__" ["self", "case"] (sp_bcall K C R B0 CC))
    (c_always : Cal P w K mg base CX0 20 "always" ["seasons"] (sp_alw K C R B0 SE)) (c_count_rulings : Cal P w K mg base CX0 22 "count_rulings" ["seasons", "case", "days"] (sp_cnt K C R B0 SE)) (c_next_day : Cal P w K mg base CX0 22 "next_day" ["seasons", "case", "ruling", "day"] (sp_nday K C R B0 SE)) : FnOk P w K mg base CX0 34 f fd ["_law_script"] (sp_law K) := by
  refine F.ok sc_law (fun vs H Q E h => by obtain ⟨s, ns, rfl, _⟩ := h; rfl) (fun cdv A outer s H vs Q E hr h => ?_)
  obtain ⟨s, ns, rfl, hS, hl, hb, q⟩ := h
  refine ⟨_, (pss_cons (ps_set (i := 1) sc_law.nd rfl (Or.inl rfl) (pe_cal c__law_mix (hr.mono (by decide)) (pa_cons (pv 0) (pa_cons pe_int pa_nil))))
      (pss_cons (ps_for PassesOwn.never rfl (pi_range1 (by rfl) B.b_range (pa_cons pe_int pa_nil)) (pg_name (i := 2) sc_law.nd rfl (Or.inl rfl)) (pss_cons (ps_set (i := 3) sc_law.nd rfl (Or.inl rfl) (pe_cal c__law_drawn (hr.mono (by decide)) (pa_cons (pv 1) (pa_cons (pe_cal c__law_facts (hr.mono (by decide)) (pa_cons (pv 1) (pa_cons pe_int pa_nil))) (pa_cons pe_int pa_nil)))))
      (pss_cons (ps_set (i := 4) sc_law.nd rfl (Or.inr rfl) (pe_mk0 k_Seasons (hr.mono (by decide)) (pa_cons (pe_cal c__law_book (hr.mono (by decide)) (pa_cons (pv 3) pa_nil)) (pa_cons (pe_callTy (call_dictP rfl) (by rfl) B.b_dict (by decide +kernel) (pa_cons (pe_cal c__law_spans (hr.mono (by decide)) (pa_cons (pv 1) (pa_cons (pv 3) pa_nil))) pa_nil)) pa_nil))))
      (pss_cons (ps_par (i := 5) (j := 6) rfl sc_law.nd rfl rfl (by decide) rfl rfl (pa_cons (pe_op op_add pe_int (pe_cal c__law_next (hr.mono (by decide)) (pa_cons (pv 1) (pa_cons pe_int pa_nil)))) (pa_cons (pe_cal c__law_next (hr.mono (by decide)) (pa_cons (pv 1) (pa_cons pe_int pa_nil))) pa_nil)) rfl)
      (pss_cons (ps_setLc (i := 8) (own := [("_law_day", 7)]) (g := gName 7) (tt := tYes) rfl sc_law.nd rfl rfl (sw_true rfl rfl rfl (by decide +kernel)) (pi_range1 (by rfl) B.b_range (pa_cons (pe_op op_add (pv 6) (pv 5)) pa_nil)) (blkOk_by (own := [("_law_day", 7)]) (N := ["_law_script", "_law_h", "_law_k", "_law_drawn_here", "_law_seasons", "_law_many", "_law_start", "_law_day", "_law_books", "_law_kept", "_law_j", "_law_case_here", "_law_rulings", "_law_found", "_law_before", "_law_ruling", "_law_book_here"]) (sc := defScope s_law) (by decide +kernel)) (fun _ _ _ _ _ => (pg_name (i := 7) sc_law.nd rfl (Or.inl rfl))) (fun _ _ _ _ _ => pts_nil) (fun _ _ _ _ _ => (pe_.re (pe_callSea mCall (hr.mono (by decide)) (pv 4) (pa_cons (pv 7) pa_nil)) (by first | (dsimp only [Cx.blk]; done) | exact rfl))))
      (pss_cons (ps_set (i := 9) sc_law.nd rfl (Or.inl rfl) (pe_cal c_always (hr.mono (by decide)) (pa_cons (pv 4) pa_nil)))
      (pss_cons (ps_for PassesOwn.never rfl (pi_range1 (by rfl) B.b_range (pa_cons (pe_cal c__law_two (hr.mono (by decide)) (pa_cons (pe_callB call_len_seq (by rfl) B.b_len PySem.boot_len (pa_cons (pe_ix ix_tup (pv 3) pe_int (fun _ _ => rfl)) pa_nil)) pa_nil)) pa_nil)) (pg_name (i := 10) sc_law.nd rfl (Or.inl rfl)) (pss_cons (ps_set (i := 11) sc_law.nd rfl (Or.inr rfl) (pe_cal c__law_case (hr.mono (by decide)) (pa_cons (pe_ix ix_tup (pv 3) pe_int (fun _ _ => rfl)) (pa_cons (pv 10) pa_nil))))
      (pss_cons (ps_setLc (i := 12) (own := [("_law_book_here", 16)]) (g := gName 16) (tt := tYes) rfl sc_law.nd rfl rfl (sw_true rfl rfl rfl (by decide +kernel)) (pi_list (pv 8)) (blkOk_by (own := [("_law_book_here", 16)]) (N := ["_law_script", "_law_h", "_law_k", "_law_drawn_here", "_law_seasons", "_law_many", "_law_start", "_law_day", "_law_books", "_law_kept", "_law_j", "_law_case_here", "_law_rulings", "_law_found", "_law_before", "_law_ruling", "_law_book_here"]) (sc := defScope s_law) (by decide +kernel)) (fun _ _ _ _ _ => (pg_name (i := 16) sc_law.nd rfl (Or.inl rfl))) (fun _ _ _ _ _ => pts_nil) (fun _ _ _ _ _ => (pe_.re (pe_cBN mCallB (hr.mono (by decide)) (pv 16) (pa_cons (pv 11) pa_nil)) (by first | (dsimp only [Cx.blk]; done) | exact rfl))))
      (pss_cons (ps_par (i := 13) (j := 14) rfl sc_law.nd rfl rfl (by decide) rfl rfl (pa_cons (pe_cal c_count_rulings (hr.mono (by decide)) (pa_cons (pv 4) (pa_cons (pv 11) (pa_cons (pe_op op_add (pv 6) (pv 5)) pa_nil)))) (pa_cons (pe_cal c_count_rulings (hr.mono (by decide)) (pa_cons (pv 4) (pa_cons (pv 11) (pa_cons (pv 6) pa_nil)))) pa_nil)) rfl)
      (pss_cons (ps_lock (ps_for PassesOwn.never rfl (pi_keys (pv 13)) (pg_name (i := 15) sc_law.nd rfl (Or.inl rfl)) (pss_one (ps_if (pt_cmpR op_ne (pe_op op_sub (pe_dget (Nat.lt_of_le_of_lt (Nat.add_le_add_left (by decide) _) hr.units) (pv 13) (pv 15) (fun _ _ => rfl)) (pe_dget (Nat.lt_of_le_of_lt (Nat.add_le_add_left (by decide) _) hr.units) (pv 14) (pv 15) (fun _ _ => rfl))) (pe_bm PySem.F.plainAttrs_list PySem.F.slot_list_count PySem.F.type_list_count mt_lcountB (pe_slice sl_list (pv 12) (po_some (pv 6)) po_none) (pa_cons (pv 15) pa_nil)) (nomark _)) (pss_one (ps_ret pe_bl)) pss_nil))))
      (pss_cons (ps_set (i := 7) sc_law.nd rfl (Or.inl rfl) (pe_cal c_next_day (hr.mono (by decide)) (pa_cons (pv 4) (pa_cons (pv 11) (pa_cons (pe_ix ix_list (pv 12) (pe_un un_neg pe_int) (fun _ _ => rfl)) (pa_cons (pv 6) pa_nil))))))
      (pss_cons (ps_if (PW.pt (pw_or (pt_cmpR op_isN (pv 7) pe_non (nomark _)) (pw_or1 (pt_cmpR op_ne (pe_bm PySem.F.plainAttrs_list PySem.F.slot_list_index PySem.F.type_list_index mt_index (pe_slice sl_list (pv 12) (po_some (pv 6)) po_none) (pa_cons (pe_ix ix_list (pv 12) (pe_un un_neg pe_int) (fun _ _ => rfl)) pa_nil)) (pe_op op_sub (pv 7) (pv 6)) (nomark _))))) (pss_one (ps_ret pe_bl)) pss_nil)
      (pss_one (ps_if (pt_cmpR op_ne (pe_callB (cr_sum rfl) (by rfl) B.b_sum PyProof.Rows.boot_sum (pa_cons (pe_listVals rfl rfl B.b_list (pv 13)) pa_nil)) (pe_op op_add (pv 6) (pv 5)) (nomark _)) (pss_one (ps_ret pe_bl)) pss_nil)))))))))
      (pss_cons (ps_set (i := 5) sc_law.nd rfl (Or.inl rfl) (pe_callB (cr_sum rfl) (by rfl) B.b_sum PyProof.Rows.boot_sum (pa_cons (pe_listVals rfl rfl B.b_list (pv 9)) pa_nil)))
      (pss_one (ps_if (PW.pt (pw_or (pt_cmpR op_gt (pv 5) (pe_cal c__law_two (hr.mono (by decide)) (pa_cons (pe_callB call_len_seq (by rfl) B.b_len PySem.boot_len (pa_cons (pe_ix ix_tup (pv 3) pe_int (fun _ _ => rfl)) pa_nil)) pa_nil)) (nomark _)) (pw_or1 (PW.pt (pw_and (pt_cmpR op_eq (pe_propM mPer (hr.mono (by decide)) CLe (pv 4)) pe_int (nomark _)) (pw_and1 (pt_cmpR op_lt (pv 5) (pe_cal c__law_two (hr.mono (by decide)) (pa_cons (pe_callB call_len_seq (by rfl) B.b_len PySem.boot_len (pa_cons (pe_ix ix_tup (pv 3) pe_int (fun _ _ => rfl)) pa_nil)) pa_nil)) (nomark _)))))))) (pss_one (ps_ret pe_bl)) pss_nil))))))))))
      (pss_one (ps_ret pe_bl)))), ?_⟩
  refine ⟨.ref s, rfl, s, ns, 69, rfl, hS, hl, hb, by decide, by decide, fun H1 a l s1 R1 => ?_⟩
  refine ⟨2, rfl, by decide, by decide, for_it walk_range (fun i σ H' => ∃ (y0 y2 y3 y4 y5 y6 y7 y8 y9 y10 y11 y12 y13 y14 y15 y16 : Option V), σ = [y0, some (.ref a), y2, y3, y4, y5, y6, y7, y8, y9, y10, y11, y12, y13, y14, y15, y16] ∧ RS H' a l)
      ⟨_, _, _, _, _, _, _, _, _, _, _, _, _, _, _, _, rfl, R1⟩ (fun _ _ _ _ _ => trivial) ?_ ?_⟩
  · rintro i x σ H2 H3 hi ⟨y0, y2, y3, y4, y5, y6, y7, y8, y9, y10, y11, y12, y13, y14, y15, y16, rfl, RR⟩ ⟨rfl, hy⟩
    refine ⟨_, rfl, _, rfl, a, l, 3, rfl, RR, by decide, by decide, fun H4 fp fs k4 efp nfp sub f1 f2 => ?_⟩
    have hright : Right fs := ten_right.sub sub
    refine ⟨a, l, fp, fs, 4, rfl, k4.new, sqT_of efp, hright, by omega, by decide, fun H5 p f rl k5 dr hn3 => ?_⟩
    obtain ⟨pr, ws, ep, hP, hX⟩ := dr.at_
    have hS5 : SqT K H5 fp (fs.map V.str) := k5.tup (sqT_of efp)
    have hnames := dr.nm
    have hsz : f.size ≤ 12 := by obtain ⟨k, ns, e⟩ := hnames; exact names12_len e
    have hdp := dr.dp
    have hfs0 : fs ≠ [] := fun z => by rw [z] at f1; exact absurd f1 (by decide)
    have hnod : f.names.Nodup := by
      obtain ⟨k, ns', e⟩ := hnames
      have h1 : (f.names ++ ns').Nodup := by rw [e]; exact names12_nodup.sublist (List.drop_sublist _ _)
      exact (List.nodup_append.mp h1).1
    have hrl := three_name _ dr.rl
    have hev : f.every NdOk := RF.every_mono (fun n h => h.ok) dr.ev
    have hbad := hright.bad hfs0 (by omega)
    have hK : Bk3 fs f rl := ⟨hright.fines.txts, by omega, hbad, hrl, hnod, by omega, by omega, RF.every_mono (fun n h => ⟨h.ok, h.s1, h.s2⟩) dr.ev⟩
    have hff := hK.ff
    have hsub2 : f.every fun n => (∀ x ∈ n.hs, x ∈ fs) ∧ ∀ x ∈ n.fs, x ∈ fs := RF.every_mono (fun n h => ⟨h.s1, h.s2⟩) dr.ev
    have hdj : f.every fun n => ∀ x ∈ n.hs, ¬ x ∈ n.fs := RF.every_mono (fun n h => dj_of h.ok) dr.ev
    have R5 := k5.new
    refine ⟨_, rfl, NotDraw a l, p, fp, pr, fs, rl, ws, f, rfl, sqT_of ep, hS5, hright.fines.txts, by omega, hP, hX, (fun b e => R5.no e), hev, by omega, by omega, hbad, hff, hrl, fun H6 ob s6 hB6 => ?_⟩
    have R6 := R5.same s6
    have hP6 := s6.tup (sqT_of (K := K) ep)
    refine ⟨_, rfl, _, rfl, a, l, p, fp, pr, .str rl, ws, f, rfl, R6, hP6, s6.tup hP, hX.keeps (N := NoL) s6.keeps, hdp, hsz, fun H7 D us sp k7 Da Dl eD hus hok hsub => ?_⟩
    have na : ¬ NotDraw a l a := fun h => h.1 rfl
    have nl : ¬ NotDraw a l l := fun h => h.2 rfl
    have hspn : (sp.map fun q => q.1).Nodup := hnod.sublist hsub
    have hmem : ∀ q ∈ sp, SpnOk q.2 ∧ q.1 ∈ f.names := fun q hq => ⟨hok q hq, hsub.subset (List.mem_map.mpr ⟨q, hq, rfl⟩)⟩
    have hspl : sp.length ≤ 12 := by
      have h1 := hsub.length_le
      have h2 : f.names.length = f.size := by rw [← RF.pre_names f 0, List.length_map, RF.pre_len]
      rw [List.length_map] at h1
      omega
    have R7 := k7.new
    have hP7 : SqT K H7 p [.ref fp, .ref pr, .str rl] := k7.tup hP6
    have hS7 := k7.tup (s6.tup hS5)
    have hB7 := hB6.keeps (k7.keeps na nl)
    obtain ⟨ps, kvs, eus, hpair, hkvs⟩ := rows_kvs hus
    have hmk : mergeK [] kvs = kvs := merge_new (keys_nd hkvs hspn)
    refine ⟨D, ps, kvs, rfl, (by rw [← eus]; exact sqL_of eD), hpair, fun d nd => ?_⟩
    rw [hmk]
    have s8 : Same H7 (upd H7 d (.dK kvs)) := (Same.refl H7).put nd
    have e8 : (upd H7 d (.dK kvs)) d = some (.dK kvs) := upd_same
    generalize upd H7 d (.dK kvs) = H8 at s8 e8 ⊢
    intro o dx no ndx nox
    have s9 : Same H8 (upd (upd H8 dx (.own o)) o (.ins SE dx [])) := ((Same.refl H8).put ndx).put no
    have o9 : (upd (upd H8 dx (.own o)) o (.ins SE dx [])) o = some (.ins SE dx []) := upd_same
    generalize upd (upd H8 dx (.own o)) o (.ins SE dx []) = H9 at s9 o9 ⊢
    have s79 := s8.trans s9
    refine ⟨NotDraw a l, o, dx, ob, d, fs, f, rl, kvs, sp, rfl, o9, hB7.keeps s79.keeps, by omega, s9 _ _ e8, hkvs.mono fun _ _ x => x.same (N := NoL) s79.keeps, hmem, hspn, by omega, fun H10 hSea x10 => ⟨rfl, ?_⟩⟩
    have k10 : Keeps NoL H9 H10 := SameX.keeps x10 o9 rfl
    have R9 := R7.same s79
    have R10 : RS H10 a l := by
      obtain ⟨st, k, ns, h1, h2, h3⟩ := R9
      exact ⟨st, k, ns, x10 _ _ (fun z => by rw [z, o9] at h1; cases h1) h1, x10 _ _ (fun z => by rw [z, o9] at h2; cases h2) h2, h3⟩
    have hP10 := k10.tup (s79.tup hP7)
    have hS10 := k10.tup (s79.tup hS7)
    have hO : SeaOk fs f sp := ⟨hright.nodup, by omega, hnod, by omega, by omega, hsub2, hdj, hspn, by omega, hmem⟩
    clear hB7 hB6 hkvs hpair hus eD hS5 hS7 hP7 hP6 hX ep dr
    refine ⟨_, rfl, a, l, 40, rfl, R10, by decide, by decide, fun H11 r11 k11 r110 r111 => ?_⟩
    refine ⟨_, _, rfl, rfl, _, rfl, a, l, 40, rfl, k11.new, by decide, by decide, fun H12 r12 k12 r120 r121 => ?_⟩
    obtain ⟨m0, rfl⟩ : ∃ j : Nat, r11 = j := ⟨r11.toNat, by omega⟩
    obtain ⟨st, rfl⟩ : ∃ j : Nat, r12 = j := ⟨r12.toNat, by omega⟩
    have em : (1 : Int) + (m0 : Nat) = ((m0 + 1 : Nat) : Int) := by push_cast; omega
    obtain ⟨mn, hmn⟩ : ∃ mn : Nat, mn = m0 + 1 := ⟨_, rfl⟩
    have k1012 := k11.trans k12
    have R12 := k12.new
    have hSea12 := hSea.kp k1012 na nl
    have hP12 := k1012.tup hP10
    have hS12 := k1012.tup hS10
    have fr : ∀ {H' : Hp}, Same H12 H' → ∀ l', H' l' = none → NotDraw a l l' := fun s l' e => (R12.same s).no e
    refine ⟨.int (mn : Nat), .int (st : Nat), (by rw [hmn, ← em]), ?_⟩
    refine ⟨_, rfl, _, rfl, _, _, rfl, rfl, ((st + mn : Nat) : Int), by push_cast; rfl, by omega, by omega, fun D2 nD2 => lc_it walk_range (fun i H' => Same H12 H' ∧ ∃ us, H' D2 = some (.lst us) ∧ All2 (BkDay K C R B0 (fun b => NotDraw a l b ∧ b ≠ D2) H' fs f rl sp) us (List.range i)) ⟨(Same.refl H12).put nD2, [], upd_same, .nil⟩ (fun _ _ _ _ => trivial) ?_ ?_⟩
    · rintro i v Ha Hb hi ⟨sa, us2, ea, hus2⟩ ⟨rfl, hv⟩
      have hi : i < st + mn := by
        have hi : i < (((st + mn : Nat) : Int)).toNat := hi
        rw [Int.toNat_natCast] at hi
        exact hi
      obtain rfl : v = V.int (i : Nat) := by rw [hv]; show V.int (0 + (i : Nat)) = _; rw [Int.zero_add]
      have hSeaA := (hSea12.re (M := fun b => NotDraw a l b ∧ b ≠ D2) fun b xs n e => ⟨n, fun z => by rw [z, nD2] at e; cases e⟩).same sa
      obtain ⟨dxo, bo, do_, kvo, hob, _⟩ := id hSeaA
      have hul := hus2.len
      rw [List.length_range] at hul
      refine ⟨rfl, yes_ ⟨_, rfl, o, rfl, _, rfl, ⟨_, _, hob⟩, (fun b => NotDraw a l b ∧ b ≠ D2), o, fs, f, rl, sp, (i : Nat), rfl, hSeaA, hK, (fun b e => ⟨fr sa b e, fun z => by rw [z, ea] at e; cases e⟩), hok, by omega, by unfold lastDay; omega, fun Hc b sc hBc => ?_⟩⟩
      refine ⟨us2, sc _ _ ea, by rw [sizeLine_eq]; omega, (sa.trans sc).put nD2, us2 ++ [.ref b], upd_same, ?_⟩
      have sd : Keeps (fun b => NotDraw a l b ∧ b ≠ D2) Hc (upd Hc D2 (.lst (us2 ++ [.ref b]))) := keeps_own (sc _ _ ea) fun z => z.2 rfl
      rw [List.range_succ]
      exact (((hus2.mono fun _ _ y => y.keeps sc.keeps).snoc ⟨b, rfl, hBc⟩).mono fun _ _ y => y.keeps sd)
    rintro H13 ⟨s13, us, eU, hus⟩
    have hus : All2 (BkDay K C R B0 (fun b => NotDraw a l b ∧ b ≠ D2) H13 fs f rl sp) us (List.range (st + mn)) := hus
    have hul := hus.len
    rw [List.length_range] at hul
    have hSea13 := hSea12.same s13
    refine ⟨_, rfl, NotDraw a l, o, fs, f, rl, sp, rfl, hSea13, hO, fr s13, by omega, fun H14 Dk yk ck s14 eDk hykl hsum1 hsum2 => ?_⟩
    have s1214 := s13.trans s14
    have hP14 := s1214.tup hP12
    have hS14 := s1214.tup hS12
    have hpow : 2 ^ fs.length ≤ 8 := Nat.le_trans (Nat.pow_le_pow_right (by decide) (show fs.length ≤ 3 by omega)) (by decide)
    have hSea14 := hSea12.same s1214
    have hus14 := hus.mono fun _ _ y => y.keeps s14.keeps
    have eU14 := s14 _ _ eU
    have R14 := R12.same s1214
    refine ⟨_, rfl, p, _, 0, _, rfl, rfl, hP14, atI_nat (j := 0) rfl, fp, _, rfl, .inr hS14, fs.length, by rw [List.length_map]; rfl, by omega, ?_⟩
    refine ⟨_, rfl, by omega, by omega, for_it walk_range (fun i σ H' => ∃ (y0 y2 y7 y10 y11 y12 y13 y14 y15 y16 : Option V), σ = [y0, some (.ref a), y2, some (.ref p), some (.ref o), some (.int (mn : Nat)), some (.int (st : Nat)), y7, some (.ref D2), some (.ref Dk), y10, y11, y12, y13, y14, y15, y16] ∧ Same H14 H')
      ⟨_, _, _, _, _, _, _, _, _, _, rfl, Same.refl _⟩ (fun _ _ _ _ _ => trivial) ?_ ?_⟩
    · rintro j v σ Ha Hb hj ⟨z0, z2, z7, z10, z11, z12, z13, z14, z15, z16, rfl, sa⟩ ⟨rfl, hv⟩
      have hj : j < 2 ^ fs.length := by
        have hj : j < (((2 ^ fs.length : Nat) : Int)).toNat := hj
        rw [Int.toNat_natCast] at hj
        exact hj
      obtain rfl : v = V.int (j : Nat) := by rw [hv]; show V.int (0 + (j : Nat)) = _; rw [Int.zero_add]
      have hj62 : j < 2 ^ 62 := Nat.lt_of_lt_of_le hj (Nat.le_trans hpow (by decide))
      refine ⟨_, rfl, p, _, 0, _, rfl, rfl, sa.tup hP14, atI_nat (j := 0) rfl, _, rfl, fp, fs, j, rfl, sa.tup hS14, by omega, hj62, fun Hc pc sc ec => ?_⟩
      have hcs : firstOut fs (namesOf fs (j : Nat)) = none := out_sub (names_sub fs (j : Nat)) (fun x h => h) hright.up
      have hcsub := names_sub fs (j : Nat)
      have hcl := hcsub.length_le
      generalize namesOf fs (j : Nat) = cs at ec hcs hcl hcsub
      have s14c := sa.trans sc
      have hRr : ∀ d : Nat, (RF.filt (stays sp (d : Nat)) f).ruled cs rl = (RF.filt (stays sp (d : Nat)) f).ruled cs rl := fun _ => rfl
      obtain ⟨R, hR⟩ : ∃ R : Nat → Str, R = fun d => (RF.filt (stays sp ((d : Nat) : Int)) f).ruled cs rl := ⟨_, rfl⟩
      have eUc := s14c _ _ eU14
      refine ⟨_, rfl, D2, rfl, ⟨us, sqL_of eUc⟩, fun D6 nD6 => lc_it walk_list (fun i H' => Same Hc H' ∧ H' D6 = some (.lst (((List.range i).map R).map V.str))) ⟨(Same.refl Hc).put nD6, upd_same⟩ (fun _ _ _ h => sqL_of (h.1 _ _ eUc)) ?_ ?_⟩
      · rintro i v Hd He hi ⟨sd, ed⟩ ⟨rfl, hv⟩
        obtain ⟨d, hd, b, rfl, hBd⟩ := hus14.get hv
        have hi : i < us.length := hi
        rw [List.getElem?_range (by omega)] at hd
        obtain rfl : i = d := Option.some.inj hd
        have hBd := hBd.keeps (N := fun b => NotDraw a l b ∧ b ≠ D2) (s14c.trans sd).keeps
        obtain ⟨dxb, _, _, _, _, _, hob, _⟩ := id hBd
        have hFi := hK.filt (stays sp (i : Nat))
        have hFz := hFi.size
        refine ⟨rfl, yes_ ⟨_, rfl, b, rfl, _, rfl, ⟨_, _, hob⟩, _, b, pc, fs, _, rl, cs, rfl, hBd, by omega, RF.every_mono (fun n h => h.ok) hFi.ev, sd.tup (sqT_of ec), by omega, (fun i hi => by rw [hcs] at hi; cases hi), fun _ He se => ?_⟩⟩
        refine grow (acc := fun i => ((List.range i).map R).map V.str) nD6 (sd.trans se) (se _ _ ed) (by rw [List.length_map, List.length_map, List.length_range, sizeLine_eq]; omega) ?_
        rw [hR]
        show List.map _ (List.map _ (List.range (i + 1))) = _ ++ _
        rw [List.range_succ, List.map_append, List.map_append]
        rfl
      rintro Hd ⟨sd, ed⟩
      rw [hul] at ed
      have s14d := s14c.trans sd
      have hSead := hSea14.same s14d
      have s12d := s1214.trans s14d
      refine ⟨_, rfl, _, rfl, _, rfl, _, rfl, _, _, rfl, rfl, NotDraw a l, o, pc, fs, f, rl, sp, cs, st + mn, (by push_cast; rfl), hSead, hO, fr s12d, sd.tup (sqT_of ec), hcsub, hcs, by unfold lastDay; omega, fun He Df ys se eDf hsrt hynd hymem => ?_⟩
      refine ⟨_, rfl, _, rfl, _, rfl, NotDraw a l, o, pc, fs, f, rl, sp, cs, st, rfl, hSead.same se, hO, fr (s12d.trans se), (sd.trans se).tup (sqT_of ec), hcsub, hcs, by unfold lastDay; omega, fun Hf Dg ys2 sf eDg _ hynd2 hymem2 => ?_⟩
      refine ⟨_, _, rfl, ?_⟩
      have eDf2 := sf _ _ eDf
      refine ⟨Df, _, eDf2, trivial, fun od => ?_⟩
      generalize hHL : upd Hf Df (.frz od (.dK (ys.map fun r => ((Sum.inr r : Key), V.int (cntD f sp cs rl (st + mn) r : Nat))))) = HL
      have eL : HL Df = some (.frz od (.dK (ys.map fun r => ((Sum.inr r : Key), V.int (cntD f sp cs rl (st + mn) r : Nat))))) := by rw [← hHL]; exact upd_same
      have hgf : HL Dg = some (.dK (ys2.map fun r => ((Sum.inr r : Key), V.int (cntD f sp cs rl st r : Nat)))) ∨ ∃ o, HL Dg = some (.frz o (.dK (ys2.map fun r => ((Sum.inr r : Key), V.int (cntD f sp cs rl st r : Nat))))) := by
        by_cases z : Dg = Df
        · refine .inr ⟨od, ?_⟩
          rw [z, eL]
          rw [z, eDf2] at eDg
          rw [HO.dK.inj (Option.some.inj eDg)]
        · refine .inl ?_
          rw [← hHL, upd_ne z]
          exact eDg
      have hD6f : D6 ≠ Df := fun z => by
        have h := (se.trans sf) _ _ ed
        rw [z, eDf2] at h
        cases h
      have ed6 : HL D6 = some (.lst (((List.range (st + mn)).map R).map V.str)) := by rw [← hHL, upd_ne hD6f]; exact (se.trans sf) _ _ ed
      refine ⟨_, rfl, Df, od, rfl, .inl ⟨_, eL, for_it walk_keys (fun i σ H' => ∃ (y15 : Option V), σ = [z0, some (.ref a), z2, some (.ref p), some (.ref o), some (.int (mn : Nat)), some (.int (st : Nat)), z7, some (.ref D2), some (.ref Dk), some (.int (j : Nat)), some (.ref pc), some (.ref D6), some (.ref Df), some (.ref Dg), y15, z16] ∧ Same HL H') ⟨_, rfl, Same.refl _⟩ (fun _ _ _ _ ⟨_, _, s⟩ => s _ _ eL) ?_ ?_⟩⟩
      · rintro i v0 σ Hg0 Hg hi ⟨y15, rfl, sg⟩ ⟨rfl, k, v, hkv, rfl⟩
        rw [List.getElem?_map] at hkv
        obtain ⟨r, hri, ekv⟩ := Option.map_eq_some_iff.mp hkv
        cases ekv
        have hin := List.mem_of_getElem? hri
        have hin2 : r ∈ ys2 := (hymem2 r).mpr ((hymem r).mp hin)
        have hgg : Hg Dg = some (.dK (ys2.map fun r => ((Sum.inr r : Key), V.int (cntD f sp cs rl st r : Nat)))) ∨ ∃ o, Hg Dg = some (.frz o (.dK (ys2.map fun r => ((Sum.inr r : Key), V.int (cntD f sp cs rl st r : Nat))))) := hgf.elim (fun h => .inl (sg _ _ h)) fun ⟨o, h⟩ => .inr ⟨o, sg _ _ h⟩
        refine ⟨_, rfl, _, rfl, Df, _, rfl, .inl ⟨_, .inr r, .inr ⟨od, sg _ _ eL⟩, rfl, (valV_mapS (a := fun r => ((cntD f sp cs rl (st + mn) r : Nat) : Int)) hin).symm⟩, ?_⟩
        refine ⟨_, rfl, _, rfl, Dg, _, rfl, .inl ⟨_, .inr r, hgg, rfl, (valV_mapS (a := fun r => ((cntD f sp cs rl st r : Nat) : Int)) hin2).symm⟩, _, _, rfl, rfl, ?_⟩
        refine ⟨_, rfl, ?_⟩
        delta tNoPart
        refine ⟨_, rfl, _, rfl, D6, _, rfl, sqL_of (sg _ _ ed6), fun Ds nDs => ?_⟩
        rw [cut_from]
        have sh : Same Hg (upd Hg Ds (.lst ((((List.range (st + mn)).map R).map V.str).drop st))) := (Same.refl Hg).put nDs
        have eds : (upd Hg Ds (.lst ((((List.range (st + mn)).map R).map V.str).drop st))) Ds = some (.lst (((((List.range (st + mn)).drop st).map R).map V.str))) := by rw [upd_same, List.map_drop, List.map_drop]
        generalize upd Hg Ds (.lst ((((List.range (st + mn)).map R).map V.str).drop st)) = Hh at sh eds ⊢
        refine ⟨.inl ⟨rfl, _, sqL_of eds⟩, _, rfl, Ds, _, .str r, rfl, rfl, sqL_of eds, rfl, flat_strs _, ?_⟩
        have hcnt := cnt_drop (p := fun t => decide (R t = r)) (a := st) (m := mn)
        have hc2 : (((((List.range (st + mn)).drop st).map R).map V.str).countP fun z => eqV z (.str r)) = (((List.range (st + mn)).drop st).filter fun t => decide (R t = r)).length := by
          rw [List.countP_map, List.countP_map, List.countP_eq_length_filter]
          congr 1
        have hc3 : ((cntD f sp cs rl (st + mn) r : Nat) : Int) - ((cntD f sp cs rl st r : Nat) : Int) = (((((List.range (st + mn)).drop st).map R).map V.str).countP fun z => eqV z (.str r) : Nat) := by
          have h1 : cntD f sp cs rl (st + mn) r = ((List.range (st + mn)).filter fun t => decide (R t = r)).length := by rw [hR]; rfl
          have h2 : cntD f sp cs rl st r = ((List.range st).filter fun t => decide (R t = r)).length := by rw [hR]; rfl
          rw [hc2, h1, h2, hcnt]
          omega
        refine ⟨rfl, _, rfl, ?_⟩
        rw [decide_eq_true (congrArg V.int hc3)]
        exact iteF ⟨_, rfl, sg.trans sh⟩
      · rintro σ Hg ⟨y15, rfl, sg⟩
        refine ⟨sg _ _ eL, ?_⟩
        have su : Same Hf (upd Hg Df (.dK (ys.map fun r => ((Sum.inr r : Key), V.int (cntD f sp cs rl (st + mn) r : Nat))))) := unlock_same (od := od) eDf2 (by rw [hHL]; exact sg)
        generalize upd Hg Df (.dK (ys.map fun r => ((Sum.inr r : Key), V.int (cntD f sp cs rl (st + mn) r : Nat)))) = Hu at su ⊢
        clear hHL eL hgf ed6 sg
        have sdu := (se.trans sf).trans su
        have s14u := s14d.trans sdu
        have s12u := s12d.trans sdu
        have edu := sdu _ _ ed
        have hRmod : ∀ d : Nat, R (d % perN sp) = R d := fun d => by
          rw [hR]
          dsimp only
          rw [RF.filt_congr (p := stays sp ((d % perN sp : Nat) : Int)) (q := stays sp ((d : Nat) : Int)) fun x _ => by
            have h := stays_per (sp := sp) (day := ((d : Nat) : Int)) (nm := x)
            rw [← h]
            rfl]
        have hp1 := perN_pos hok
        have hday : ∀ t : Nat, (RF.filt (stays sp (((st : Nat) : Int) + ((t : Nat) : Int))) f).ruled cs rl = R (st + t) := fun t => by rw [hR, ← Int.natCast_add]
        obtain ⟨t0, hf0, ht0, hr0, hn0⟩ : ∃ t0, (List.range (perN sp)).find? (fun t => decide ((RF.filt (stays sp (((st : Nat) : Int) + ((t : Nat) : Int))) f).ruled cs rl = R (st + mn - 1))) = some t0 ∧ t0 < mn ∧ R (st + t0) = R (st + mn - 1) ∧ ∀ m, m < t0 → R (st + m) ≠ R (st + mn - 1) := by
          have h1 : (mn - 1) % perN sp < perN sp := Nat.mod_lt _ (by omega)
          have h2 : (mn - 1) % perN sp ≤ mn - 1 := Nat.mod_le _ _
          have h3 : R (st + (mn - 1) % perN sp) = R (st + mn - 1) := by
            rw [← hRmod, Nat.add_mod_mod, hRmod]
            congr 1
            omega
          cases e : (List.range (perN sp)).find? (fun t => decide ((RF.filt (stays sp (((st : Nat) : Int) + ((t : Nat) : Int))) f).ruled cs rl = R (st + mn - 1))) with
          | none =>
            rw [List.find?_eq_none] at e
            exact absurd (decide_eq_true (by rw [hday]; exact h3)) (e _ (List.mem_range.mpr h1))
          | some t0 =>
            rw [List.find?_range_eq_some] at e
            obtain ⟨e1, e2, e3⟩ := e
            have e1 := of_decide_eq_true e1
            rw [hday] at e1
            refine ⟨t0, rfl, ?_, e1, fun m hm z => ?_⟩
            · by_cases c : t0 < mn
              · exact c
              · have := e3 _ (show (mn - 1) % perN sp < t0 by omega)
                rw [decide_eq_true (by rw [hday]; exact h3)] at this
                cases this
            · have := e3 m hm
              rw [decide_eq_true (by rw [hday]; exact z)] at this
              cases this
        have hlast : atI ((((List.range (st + mn)).map R).map V.str)) (-1) = some (.str (R (st + mn - 1))) := by
          have e : ((List.range (st + mn)).map R).map V.str = ((List.range (st + mn - 1)).map R).map V.str ++ [V.str (R (st + mn - 1))] := by
            have e2 : st + mn = (st + mn - 1) + 1 := by omega
            conv => lhs; rw [e2]
            rw [List.range_succ, List.map_append, List.map_append]
            rfl
          rw [e]
          exact atI_last _ _
        have hRin : ∀ d : Nat, R d = rl ∨ R d ∈ f.rls := fun d => by rw [hR]; exact RF.ruled_in
        have hname : isName (R (st + mn - 1)) = true := (hRin _).elim (fun e => by rw [e]; exact hrl) fun h => rls_name hev _ h
        refine ⟨_, rfl, _, rfl, _, rfl, 1, rfl, D6, _, _, .str (R (st + mn - 1)), rfl, rfl, sqL_of edu, hlast, _, rfl, ?_⟩
        dsimp only [tNil]
        refine nday_at (hSea14.same s14u) hO (fr s12u) ((sd.trans sdu).tup (sqT_of ec)) hcsub hcs hname (by omega) (by unfold lastDay; omega) hf0 fun Hv sv => ?_
        refine ⟨_, rfl, rfl, _, rfl, ?_⟩
        rw [decide_eq_false (fun z => by cases z)]
        refine iteF ⟨_, rfl, ?_⟩
        delta tNoPart
        refine ⟨_, rfl, _, rfl, D6, _, rfl, sqL_of (sv _ _ edu), fun Ds nDs => ?_⟩
        rw [cut_from]
        have sh : Same Hv (upd Hv Ds (.lst ((((List.range (st + mn)).map R).map V.str).drop st))) := (Same.refl Hv).put nDs
        have eds : (upd Hv Ds (.lst ((((List.range (st + mn)).map R).map V.str).drop st))) Ds = some (.lst (((((List.range (st + mn)).drop st).map R).map V.str))) := by rw [upd_same, List.map_drop, List.map_drop]
        have hdat : ∀ m, m < mn → (((((List.range (st + mn)).drop st).map R).map V.str))[m]? = some (.str (R (st + m))) := fun m hm => by
          rw [List.getElem?_map, List.getElem?_map, List.getElem?_drop, List.getElem?_range (by omega)]
          rfl
        generalize upd Hv Ds (.lst ((((List.range (st + mn)).map R).map V.str).drop st)) = Hw at sh eds ⊢
        have edw := (sv.trans sh) _ _ edu
        refine ⟨.inl ⟨rfl, _, sqL_of eds⟩, _, rfl, 1, rfl, D6, _, _, .str (R (st + mn - 1)), rfl, rfl, sqL_of edw, hlast, Ds, _, .str (R (st + mn - 1)), t0, .str (R (st + t0)), rfl, rfl, sqL_of eds, rfl, flat_strs _, hdat t0 ht0, (by rw [hr0]; exact beq_self_eq_true _), (fun m z' hm hz => ?_), ?_⟩
        · rw [hdat m (by omega)] at hz
          obtain rfl := Option.some.inj hz
          show (R (st + m) == R (st + mn - 1)) = false
          exact beq_eq_false_iff_ne.mpr (hn0 m hm)
        refine ⟨_, rfl, _, rfl, _, _, rfl, rfl, rfl, _, rfl, ?_⟩
        rw [decide_eq_true (show V.int ((t0 : Nat) : Int) = V.int (((st : Nat) : Int) + ((t0 : Nat) : Int) - ((st : Nat) : Int)) from congrArg V.int (by omega))]
        refine iteF ?_
        have efw := (su.trans (sv.trans sh)) _ _ eDf2
        have hylen : ys.length ≤ 13 := by
          have h1 := nd_len hynd (ys := rl :: f.rls) fun x hx => List.mem_cons.mpr ((hymem x).mp hx)
          have h2 : f.rls.length = f.size := by unfold RF.rls; rw [List.length_map, RF.pre_len]
          rw [List.length_cons] at h1
          omega
        have hval : ((ys.map fun r => ((Sum.inr r : Key), V.int (cntD f sp cs rl (st + mn) r : Nat))).map fun kv => kv.2) = (ys.map fun r => ((cntD f sp cs rl (st + mn) r : Nat) : Int)).map V.int := by rw [List.map_map, List.map_map]; rfl
        have hsum : (ys.map fun r => ((cntD f sp cs rl (st + mn) r : Nat) : Int)).sum = ((st + mn : Nat) : Int) := by
          rw [sum_cast]
          have h := cnt_sum hynd (R := R) (fun d => (hymem _).mpr (hRin d)) (st + mn)
          have e : (ys.map fun r => cntD f sp cs rl (st + mn) r) = ys.map fun r => ((List.range (st + mn)).filter fun t => decide (R t = r)).length := by rw [hR]; rfl
          rw [e, h]
        refine ⟨_, rfl, Df, _, rfl, efw, (by rw [List.length_map]; omega), fun Dl nDl => ?_⟩
        rw [hval]
        refine ⟨Dl, _, rfl, sqL_of upd_same, _, rfl, _, rfl, _, _, rfl, rfl, rfl, _, rfl, ?_⟩
        rw [decide_eq_true (show V.int _ = V.int (((st : Nat) : Int) + ((mn : Nat) : Int)) from congrArg V.int (by rw [hsum]; push_cast; rfl))]
        exact iteF ⟨_, _, _, _, _, _, _, _, _, _, rfl, (s14u.trans (sv.trans sh)).put' nDl⟩
    · rintro σ Ha ⟨z0, z2, z7, z10, z11, z12, z13, z14, z15, z16, rfl, sa⟩
      have hval : ((yk.map fun r => ((Sum.inr r : Key), V.int (ck r : Nat))).map fun kv => kv.2) = (yk.map fun r => ((ck r : Nat) : Int)).map V.int := by rw [List.map_map, List.map_map]; rfl
      refine ⟨_, rfl, Dk, _, rfl, sa _ _ eDk, (by rw [List.length_map]; omega), fun Dl nDl => ?_⟩
      rw [hval]
      have sb := sa.put' (o := .lst ((yk.map fun r => ((ck r : Nat) : Int)).map V.int)) nDl
      refine ⟨Dl, _, rfl, sqL_of upd_same, ?_⟩
      generalize upd Ha Dl (.lst ((yk.map fun r => ((ck r : Nat) : Int)).map V.int)) = Hx at sb ⊢
      have es : (yk.map fun r => ((ck r : Nat) : Int)).sum = (((yk.map ck).sum : Nat) : Int) := sum_cast
      rw [es]
      have hPx := sb.tup hP14
      have hSx := sb.tup hS14
      have hSeax := hSea14.same sb
      obtain ⟨dxo, bo, do_, kvo, hob, _⟩ := id hSeax
      refine ⟨_, rfl, _, rfl, p, _, 0, _, rfl, rfl, hPx, atI_nat (j := 0) rfl, fp, _, rfl, .inr hSx, fs.length, by rw [List.length_map]; rfl, by omega, _, _, rfl, rfl, _, rfl, ?_⟩
      rw [decide_eq_false (show ¬ (((2 ^ fs.length : Nat) : Int)) < (((yk.map ck).sum : Nat) : Int) by omega)]
      refine iteF ?_
      refine ⟨_, rfl, o, dxo, _, rfl, hob, NotDraw a l, o, fs, f, rl, sp, rfl, hSeax, rfl, _, rfl, ?_⟩
      have hend : ∃ y0 y2 y3 y4 y5 y6 y7 y8 y9 y10 y11 y12 y13 y14 y15 y16 : Option V, ([z0, some (V.ref a), z2, some (V.ref p), some (V.ref o), some (V.int mn), some (V.int st), z7, some (V.ref D2), some (V.ref Dk), z10, z11, z12, z13, z14, z15, z16].set 5 (some (V.int ((yk.map ck).sum : Nat)))) = [y0, some (V.ref a), y2, y3, y4, y5, y6, y7, y8, y9, y10, y11, y12, y13, y14, y15, y16] ∧ RS Hx a l := ⟨_, _, _, _, _, _, _, _, _, _, _, _, _, _, _, _, rfl, R14.same sb⟩
      by_cases c : perN sp = 1
      · rw [decide_eq_true (show V.int ((perN sp : Nat) : Int) = V.int 1 from congrArg V.int (by omega))]
        have hs2 := hsum2 c
        refine iteT ⟨_, rfl, _, rfl, p, _, 0, _, rfl, rfl, hPx, atI_nat (j := 0) rfl, fp, _, rfl, .inr hSx, fs.length, by rw [List.length_map]; rfl, by omega, _, _, rfl, rfl, _, rfl, ?_⟩
        rw [decide_eq_false (show ¬ (((yk.map ck).sum : Nat) : Int) < (((2 ^ fs.length : Nat) : Int)) by omega)]
        exact iteF hend
      · rw [decide_eq_false (fun z => c (by have := V.int.inj z; omega))]
        exact iteF (iteF hend)
  · rintro H2 σ ⟨y0, y2, y3, y4, y5, y6, y7, y8, y9, y10, y11, y12, y13, y14, y15, y16, rfl, R⟩
    exact q _
end
end Sc
namespace Sc
open PySem PySem.Spec PyProof.Rows L2
theorem four {K : PySem.W.Frag} {D : Value} (h1 : PySem.W.findIn K D "index" = some none) (h2 : PySem.W.findIn K D "part" = some none) (h3 : PySem.W.findIn K D "word" = some none) (h4 : PySem.W.findIn K D "fact" = some none) :
    ∀ n ∈ (["index", "part", "word", "fact"] : List Str), PySem.W.findIn K D n = some none := by
  intro n hn
  simp only [List.mem_cons, List.not_mem_nil, or_false] at hn
  rcases hn with rfl | rfl | rfl | rfl
  · exact h1
  · exact h2
  · exact h3
  · exact h4
theorem exm_by {K : PySem.W.Frag} {D C : Addr} (h1 : PySem.W.subIn K (.ref C) (.type "BaseException") = some true) (h2 : PySem.W.isClsIn K C = true) (h3 : PySem.W.typeIn K (.ref C) = some (.type "type")) (h4 : PySem.W.subIn K (.ref D) (.ref C) = some true) : PySem.W.exmOne K (.ref D) (.ref C) = some true := by
  have e1 : (PySem.W.subIn K (.ref C) (.type "BaseException") == some true) = true := by rw [h1] <;> rfl
  have e2 : ((PySem.W.clsIn K C).isSome && PySem.W.typeIn K (.ref C) == some (.type "type")) = true := by
    have h2' : (PySem.W.clsIn K C).isSome = true := h2
    rw [h2', h3] <;> rfl
  unfold PySem.W.exmOne PySem.W.kitCls
  rw [if_pos e1]
  dsimp only
  rw [if_pos e2]
  exact h4
theorem kit_by {K : PySem.W.Frag} {D C : Addr} {b : Bool} (h1 : PySem.W.subIn K (.ref D) (.ref D) = some true) (h2 : PySem.W.isClsIn K C = true) (h3 : PySem.W.typeIn K (.ref C) = some (.type "type")) (h4 : PySem.W.subIn K (.ref D) (.ref C) = some b) : PySem.W.kitOne K (.ref D) (.ref C) = some b := by
  have e2 : ((PySem.W.clsIn K C).isSome && PySem.W.typeIn K (.ref C) == some (.type "type")) = true := by
    have h2' : (PySem.W.clsIn K C).isSome = true := h2
    rw [h2', h3] <;> rfl
  unfold PySem.W.kitOne
  split
  · rename_i e
    have e := eq_of_beq e
    cases e
    exact h1.symm.trans h4
  · unfold PySem.W.kitCls
    dsimp only
    rw [if_pos e2]
    exact h4
theorem kit_ve {K : PySem.W.Frag} {D : Addr} (h : PySem.W.subIn K (.ref D) (.type "ValueError") = some true) : PySem.W.kitOne K (.ref D) (.type "ValueError") = some true := by
  unfold PySem.W.kitOne PySem.W.kitCls
  rw [if_neg (by intro z; cases eq_of_beq z)]
  dsimp only
  rw [if_pos (by decide +kernel)]
  exact h
theorem codeHd_by {K : PySem.W.Frag} {c T : Addr} {o : Obj} (lk : K.lookup c = some o) (h : PySem.W.codeHdIn [(c, o)] c T = true) : PySem.W.codeHdIn K c T = true := by
  unfold PySem.W.codeHdIn at h ⊢
  rw [lk]
  have e : ([(c, o)] : PySem.W.Frag).lookup c = some o := by simp [List.lookup]
  rw [e] at h
  exact h
theorem lookup_no {K : PySem.W.Frag} {a : Addr} (h : (K.map (·.1)).contains a = false) : K.lookup a = none := by
  induction K with
  | nil => rfl
  | cons p r ih =>
    rw [List.map_cons, List.contains_cons, Bool.or_eq_false_iff] at h
    obtain ⟨x, o⟩ := p
    rw [List.lookup_cons, h.1]
    exact ih h.2
theorem sup_by {K : PySem.W.Frag} {C CE : Addr} {z : Value} {nm q nm2 q2 : Str} {N N2 : Addr} {bs bm su bs2 bm2 su2 : List Value} {sn sn2 : List Str} {ab ab2 : Bool} {col col2 : Option Bool} {dd dd2 : Option Addr} {x0 x1 x2 x3 x5 y0 y1 y2 y3 y5 : Option Value}
    (xC : K.lookup C = some (excClassObj nm q C N bs bm true sn su ab col dd x0 x1 x2 x3 x5 "ValueError.__new__")) (xE : K.lookup CE = some (excClassObj nm2 q2 CE N2 bs2 bm2 true sn2 su2 ab2 col2 dd2 y0 y1 y2 y3 y5 "ValueError.__new__"))
    (e : bm = .ref CE :: bm2) (f : PySem.W.findIn K (.ref CE) "__init__" = some (some z)) : PySem.W.ks_superIn K C C "__init__" = some (some z) := by
  subst e
  unfold PySem.W.ks_superIn PySem.W.clsIn
  unfold PySem.W.findIn at f
  dsimp only at f
  rw [xC]
  rw [xE] at f
  simp only [excClassObj] at f ⊢
  simp
  exact f
/-- a def that calls itself: depth by depth -/
theorem rec_all {P : Program} {w : World} {K : PySem.W.Frag} {mg : Str → Option Value} {base : Heap} {S : Nat → Sp} {k : Nat} {x : Str} {f : Addr} {fd : FuncData} {ps : List Str} (step : ∀ d, Cal P w K mg base CX0 (d + k) x ps (Below S d) → FnOk P w K mg base CX0 (d + k + 1) f fd ps (S d))
    (hm : mg x = some (.ref f)) (kp : PySem.W.keepIn K (.ref f) = true) (b : Binds K fd ps []) : ∀ d, FnOk P w K mg base CX0 (d + k + 1) f fd ps (S d)
  | 0 => step 0 ⟨_, _, FnOk.never, hm, kp, b⟩
  | d + 1 => step (d + 1) ⟨_, _, (by have h := rec_all step hm kp b d; rw [show d + k + 1 = d + 1 + k by omega] at h; exact h), hm, kp, b⟩
theorem all_mk {l : PySem.W.OpenLaw} {P : Program} {w : World} {K : PySem.W.Frag} {h : Heap} {mg : Str → Option Value} {fa : Addr} (eP : l.prog = P) (X : K.In h) (G : h.Ns mainGlobals mg) (hfa : mg "law" = some (.ref fa))
    {f_is_name : Addr} {oc_is_name kV_is_name dc_is_name pm_is_name cd_is_name ct_is_name : Value} {od_is_name an_is_name : Option Addr} {sl_is_name : Array (Option Value)}
    {f_is_integer : Addr} {oc_is_integer kV_is_integer dc_is_integer pm_is_integer cd_is_integer ct_is_integer : Value} {od_is_integer an_is_integer : Option Addr} {sl_is_integer : Array (Option Value)}
    {f_rises : Addr} {oc_rises kV_rises dc_rises pm_rises cd_rises ct_rises : Value} {od_rises an_rises : Option Addr} {sl_rises : Array (Option Value)}
    {f_check_facts : Addr} {oc_check_facts kV_check_facts dc_check_facts pm_check_facts cd_check_facts ct_check_facts : Value} {od_check_facts an_check_facts : Option Addr} {sl_check_facts : Array (Option Value)}
    {f_nested : Addr} {oc_nested kV_nested dc_nested pm_nested cd_nested ct_nested : Value} {od_nested an_nested : Option Addr} {sl_nested : Array (Option Value)}
    {f_check_rules : Addr} {oc_check_rules kV_check_rules dc_check_rules pm_check_rules cd_check_rules ct_check_rules : Value} {od_check_rules an_check_rules : Option Addr} {sl_check_rules : Array (Option Value)}
    {f_check_part : Addr} {oc_check_part kV_check_part dc_check_part pm_check_part cd_check_part ct_check_part : Value} {od_check_part an_check_part : Option Addr} {sl_check_part : Array (Option Value)}
    {f_merged : Addr} {oc_merged kV_merged dc_merged pm_merged cd_merged ct_merged : Value} {od_merged an_merged : Option Addr} {sl_merged : Array (Option Value)}
    {f_replaced : Addr} {oc_replaced kV_replaced dc_replaced pm_replaced cd_replaced ct_replaced : Value} {od_replaced an_replaced : Option Addr} {sl_replaced : Array (Option Value)}
    {f_is_day : Addr} {oc_is_day kV_is_day dc_is_day pm_is_day cd_is_day ct_is_day : Value} {od_is_day an_is_day : Option Addr} {sl_is_day : Array (Option Value)}
    {f_check_day : Addr} {oc_check_day kV_check_day dc_check_day pm_check_day cd_check_day ct_check_day : Value} {od_check_day an_check_day : Option Addr} {sl_check_day : Array (Option Value)}
    {f_check_word : Addr} {oc_check_word kV_check_word dc_check_word pm_check_word cd_check_word ct_check_word : Value} {od_check_word an_check_word : Option Addr} {sl_check_word : Array (Option Value)}
    {f_check_case : Addr} {oc_check_case kV_check_case dc_check_case pm_check_case cd_check_case ct_check_case : Value} {od_check_case an_check_case : Option Addr} {sl_check_case : Array (Option Value)}
    {f_up_to_first_met : Addr} {oc_up_to_first_met kV_up_to_first_met dc_up_to_first_met pm_up_to_first_met cd_up_to_first_met ct_up_to_first_met : Value} {od_up_to_first_met an_up_to_first_met : Option Addr} {sl_up_to_first_met : Array (Option Value)}
    {f_steps : Addr} {oc_steps kV_steps dc_steps pm_steps cd_steps ct_steps : Value} {od_steps an_steps : Option Addr} {sl_steps : Array (Option Value)}
    {f_looked_into : Addr} {oc_looked_into kV_looked_into dc_looked_into pm_looked_into cd_looked_into ct_looked_into : Value} {od_looked_into an_looked_into : Option Addr} {sl_looked_into : Array (Option Value)}
    {f_is_span : Addr} {oc_is_span kV_is_span dc_is_span pm_is_span cd_is_span ct_is_span : Value} {od_is_span an_is_span : Option Addr} {sl_is_span : Array (Option Value)}
    {f_in_span : Addr} {oc_in_span kV_in_span dc_in_span pm_in_span cd_in_span ct_in_span : Value} {od_in_span an_in_span : Option Addr} {sl_in_span : Array (Option Value)}
    {f_check_spans : Addr} {oc_check_spans kV_check_spans dc_check_spans pm_check_spans cd_check_spans ct_check_spans : Value} {od_check_spans an_check_spans : Option Addr} {sl_check_spans : Array (Option Value)}
    {f_bits_of : Addr} {oc_bits_of kV_bits_of dc_bits_of pm_bits_of cd_bits_of ct_bits_of : Value} {od_bits_of an_bits_of : Option Addr} {sl_bits_of : Array (Option Value)}
    {f_cube_of : Addr} {oc_cube_of kV_cube_of dc_cube_of pm_cube_of cd_cube_of ct_cube_of : Value} {od_cube_of an_cube_of : Option Addr} {sl_cube_of : Array (Option Value)}
    {f_clash : Addr} {oc_clash kV_clash dc_clash pm_clash cd_clash ct_clash : Value} {od_clash an_clash : Option Addr} {sl_clash : Array (Option Value)}
    {f_meets : Addr} {oc_meets kV_meets dc_meets pm_meets cd_meets ct_meets : Value} {od_meets an_meets : Option Addr} {sl_meets : Array (Option Value)}
    {f_joined : Addr} {oc_joined kV_joined dc_joined pm_joined cd_joined ct_joined : Value} {od_joined an_joined : Option Addr} {sl_joined : Array (Option Value)}
    {f_rows_within : Addr} {oc_rows_within kV_rows_within dc_rows_within pm_rows_within cd_rows_within ct_rows_within : Value} {od_rows_within an_rows_within : Option Addr} {sl_rows_within : Array (Option Value)}
    {f_rows_of : Addr} {oc_rows_of kV_rows_of dc_rows_of pm_rows_of cd_rows_of ct_rows_of : Value} {od_rows_of an_rows_of : Option Addr} {sl_rows_of : Array (Option Value)}
    {f_names_in : Addr} {oc_names_in kV_names_in dc_names_in pm_names_in cd_names_in ct_names_in : Value} {od_names_in an_names_in : Option Addr} {sl_names_in : Array (Option Value)}
    {f_forces_of_period : Addr} {oc_forces_of_period kV_forces_of_period dc_forces_of_period pm_forces_of_period cd_forces_of_period ct_forces_of_period : Value} {od_forces_of_period an_forces_of_period : Option Addr} {sl_forces_of_period : Array (Option Value)}
    {f_rulings_of_period : Addr} {oc_rulings_of_period kV_rulings_of_period dc_rulings_of_period pm_rulings_of_period cd_rulings_of_period ct_rulings_of_period : Value} {od_rulings_of_period an_rulings_of_period : Option Addr} {sl_rulings_of_period : Array (Option Value)}
    {f_check_period : Addr} {oc_check_period kV_check_period dc_check_period pm_check_period cd_check_period ct_check_period : Value} {od_check_period an_check_period : Option Addr} {sl_check_period : Array (Option Value)}
    {f_next_day : Addr} {oc_next_day kV_next_day dc_next_day pm_next_day cd_next_day ct_next_day : Value} {od_next_day an_next_day : Option Addr} {sl_next_day : Array (Option Value)}
    {f_count_rulings : Addr} {oc_count_rulings kV_count_rulings dc_count_rulings pm_count_rulings cd_count_rulings ct_count_rulings : Value} {od_count_rulings an_count_rulings : Option Addr} {sl_count_rulings : Array (Option Value)}
    {f_always : Addr} {oc_always kV_always dc_always pm_always cd_always ct_always : Value} {od_always an_always : Option Addr} {sl_always : Array (Option Value)}
    {f__law_mix : Addr} {oc__law_mix kV__law_mix dc__law_mix pm__law_mix cd__law_mix ct__law_mix : Value} {od__law_mix an__law_mix : Option Addr} {sl__law_mix : Array (Option Value)}
    {f__law_next : Addr} {oc__law_next kV__law_next dc__law_next pm__law_next cd__law_next ct__law_next : Value} {od__law_next an__law_next : Option Addr} {sl__law_next : Array (Option Value)}
    {f__law_facts : Addr} {oc__law_facts kV__law_facts dc__law_facts pm__law_facts cd__law_facts ct__law_facts : Value} {od__law_facts an__law_facts : Option Addr} {sl__law_facts : Array (Option Value)}
    {f__law_sides : Addr} {oc__law_sides kV__law_sides dc__law_sides pm__law_sides cd__law_sides ct__law_sides : Value} {od__law_sides an__law_sides : Option Addr} {sl__law_sides : Array (Option Value)}
    {f__law_rule : Addr} {oc__law_rule kV__law_rule dc__law_rule pm__law_rule cd__law_rule ct__law_rule : Value} {od__law_rule an__law_rule : Option Addr} {sl__law_rule : Array (Option Value)}
    {f__law_drawn : Addr} {oc__law_drawn kV__law_drawn dc__law_drawn pm__law_drawn cd__law_drawn ct__law_drawn : Value} {od__law_drawn an__law_drawn : Option Addr} {sl__law_drawn : Array (Option Value)}
    {f__law_made : Addr} {oc__law_made kV__law_made dc__law_made pm__law_made cd__law_made ct__law_made : Value} {od__law_made an__law_made : Option Addr} {sl__law_made : Array (Option Value)}
    {f__law_book : Addr} {oc__law_book kV__law_book dc__law_book pm__law_book cd__law_book ct__law_book : Value} {od__law_book an__law_book : Option Addr} {sl__law_book : Array (Option Value)}
    {f__law_all : Addr} {oc__law_all kV__law_all dc__law_all pm__law_all cd__law_all ct__law_all : Value} {od__law_all an__law_all : Option Addr} {sl__law_all : Array (Option Value)}
    {f__law_spans : Addr} {oc__law_spans kV__law_spans dc__law_spans pm__law_spans cd__law_spans ct__law_spans : Value} {od__law_spans an__law_spans : Option Addr} {sl__law_spans : Array (Option Value)}
    {f__law_two : Addr} {oc__law_two kV__law_two dc__law_two pm__law_two cd__law_two ct__law_two : Value} {od__law_two an__law_two : Option Addr} {sl__law_two : Array (Option Value)}
    {f__law_case : Addr} {oc__law_case kV__law_case dc__law_case pm__law_case cd__law_case ct__law_case : Value} {od__law_case an__law_case : Option Addr} {sl__law_case : Array (Option Value)}
    {f_law : Addr} {oc_law kV_law dc_law pm_law ct_law : Value} {od_law an_law : Option Addr} {sl_law : Array (Option Value)}
    {f_mi : Addr} {oc_mi kV_mi dc_mi pm_mi cd_mi ct_mi : Value} {od_mi an_mi : Option Addr} {sl_mi : Array (Option Value)}
    {f_mh : Addr} {oc_mh kV_mh dc_mh pm_mh cd_mh ct_mh : Value} {od_mh an_mh : Option Addr} {sl_mh : Array (Option Value)}
    {f_mf : Addr} {oc_mf kV_mf dc_mf pm_mf cd_mf ct_mf : Value} {od_mf an_mf : Option Addr} {sl_mf : Array (Option Value)}
    {f_mn : Addr} {oc_mn kV_mn dc_mn pm_mn cd_mn ct_mn : Value} {od_mn an_mn : Option Addr} {sl_mn : Array (Option Value)}
    {f_ri : Addr} {oc_ri kV_ri dc_ri pm_ri cd_ri ct_ri : Value} {od_ri an_ri : Option Addr} {sl_ri : Array (Option Value)}
    {f_rn : Addr} {oc_rn kV_rn dc_rn pm_rn cd_rn ct_rn : Value} {od_rn an_rn : Option Addr} {sl_rn : Array (Option Value)}
    {f_rc : Addr} {oc_rc kV_rc dc_rc pm_rc cd_rc ct_rc : Value} {od_rc an_rc : Option Addr} {sl_rc : Array (Option Value)}
    {f_rr : Addr} {oc_rr kV_rr dc_rr pm_rr cd_rr ct_rr : Value} {od_rr an_rr : Option Addr} {sl_rr : Array (Option Value)}
    {f_re : Addr} {oc_re kV_re dc_re pm_re cd_re ct_re : Value} {od_re an_re : Option Addr} {sl_re : Array (Option Value)}
    {f_rd : Addr} {oc_rd kV_rd dc_rd pm_rd cd_rd ct_rd : Value} {od_rd an_rd : Option Addr} {sl_rd : Array (Option Value)}
    {f_bi : Addr} {oc_bi kV_bi dc_bi pm_bi cd_bi ct_bi : Value} {od_bi an_bi : Option Addr} {sl_bi : Array (Option Value)}
    {f_bf : Addr} {oc_bf kV_bf dc_bf pm_bf cd_bf ct_bf : Value} {od_bf an_bf : Option Addr} {sl_bf : Array (Option Value)}
    {f_bs : Addr} {oc_bs kV_bs dc_bs pm_bs cd_bs ct_bs : Value} {od_bs an_bs : Option Addr} {sl_bs : Array (Option Value)}
    {f_br : Addr} {oc_br kV_br dc_br pm_br cd_br ct_br : Value} {od_br an_br : Option Addr} {sl_br : Array (Option Value)}
    {f_bq : Addr} {oc_bq kV_bq dc_bq pm_bq cd_bq ct_bq : Value} {od_bq an_bq : Option Addr} {sl_bq : Array (Option Value)}
    {f_yi : Addr} {oc_yi kV_yi dc_yi pm_yi cd_yi ct_yi : Value} {od_yi an_yi : Option Addr} {sl_yi : Array (Option Value)}
    {f_yb : Addr} {oc_yb kV_yb dc_yb pm_yb cd_yb ct_yb : Value} {od_yb an_yb : Option Addr} {sl_yb : Array (Option Value)}
    {f_ys : Addr} {oc_ys kV_ys dc_ys pm_ys cd_ys ct_ys : Value} {od_ys an_ys : Option Addr} {sl_ys : Array (Option Value)}
    {f_yp : Addr} {oc_yp kV_yp dc_yp pm_yp cd_yp ct_yp : Value} {od_yp an_yp : Option Addr} {sl_yp : Array (Option Value)}
    {f_ti : Addr} {oc_ti kV_ti dc_ti pm_ti cd_ti ct_ti : Value} {od_ti an_ti : Option Addr} {sl_ti : Array (Option Value)}
    {f_gc : Addr} {oc_gc kV_gc dc_gc pm_gc cd_gc ct_gc : Value} {od_gc an_gc : Option Addr} {sl_gc : Array (Option Value)}
    {f_gi : Addr} {oc_gi kV_gi dc_gi pm_gi cd_gi ct_gi : Value} {od_gi an_gi : Option Addr} {sl_gi : Array (Option Value)}
    {f_gs : Addr} {oc_gs kV_gs dc_gs pm_gs cd_gs ct_gs : Value} {od_gs an_gs : Option Addr} {sl_gs : Array (Option Value)}
    {f_bc : Addr} {oc_bc kV_bc dc_bc pm_bc cd_bc ct_bc : Value} {od_bc an_bc : Option Addr} {sl_bc : Array (Option Value)}
    {f_mc : Addr} {oc_mc kV_mc dc_mc pm_mc cd_mc ct_mc : Value} {od_mc an_mc : Option Addr} {sl_mc : Array (Option Value)}
    {f_yc : Addr} {oc_yc kV_yc dc_yc pm_yc cd_yc ct_yc : Value} {od_yc an_yc : Option Addr} {sl_yc : Array (Option Value)}
    {f_tw : Addr} {oc_tw kV_tw dc_tw pm_tw cd_tw ct_tw : Value} {od_tw an_tw : Option Addr} {sl_tw : Array (Option Value)}
    {f_tm : Addr} {oc_tm kV_tm dc_tm pm_tm cd_tm ct_tm : Value} {od_tm an_tm : Option Addr} {sl_tm : Array (Option Value)}
    {f_to : Addr} {oc_to kV_to dc_to pm_to cd_to ct_to : Value} {od_to an_to : Option Addr} {sl_to : Array (Option Value)}
    {f_tr : Addr} {oc_tr kV_tr dc_tr pm_tr cd_tr ct_tr : Value} {od_tr an_tr : Option Addr} {sl_tr : Array (Option Value)}
    {f_tl : Addr} {oc_tl kV_tl dc_tl pm_tl cd_tl ct_tl : Value} {od_tl an_tl : Option Addr} {sl_tl : Array (Option Value)}
    {CO : Addr}
    {pp_mh : Addr} {rs_mh : List Value}
    {pp_mf : Addr} {rs_mf : List Value}
    {pp_mn : Addr} {rs_mn : List Value}
    {RO : Addr}
    {pp_rn : Addr} {rs_rn : List Value}
    {pp_rc : Addr} {rs_rc : List Value}
    {pp_rr : Addr} {rs_rr : List Value}
    {pp_re : Addr} {rs_re : List Value}
    {pp_rd : Addr} {rs_rd : List Value}
    {BO : Addr}
    {pp_bf : Addr} {rs_bf : List Value}
    {pp_bs : Addr} {rs_bs : List Value}
    {pp_br : Addr} {rs_br : List Value}
    {pp_bq : Addr} {rs_bq : List Value}
    {SE : Addr}
    {pp_yb : Addr} {rs_yb : List Value}
    {pp_ys : Addr} {rs_ys : List Value}
    {pp_yp : Addr} {rs_yp : List Value}
    {TT : Addr}
    {fo_s : Option Value}
    {fo_r : Option Value}
    {cc_law : Addr}
    {t_LETTERS : Tok}
    {t_LONGEST_NAME : Tok}
    {t_MOST_FACTS_facts : Tok}
    {t_MOST_NAMES : Tok}
    {t_MOST_AROUND : Tok}
    {t_MOST_RULES : Tok}
    {t_MOST_OUTERMOST : Tok}
    {t_LAST_DAY : Tok}
    {t_LONGEST_SPAN : Tok}
    {t_LONGEST_PERIOD : Tok}
    {t_MOST_FACTS_seasons : Tok}
    {CE : Addr}
    {E0 : Addr}
    {E1 : Addr}
    {E2 : Addr}
    {E3 : Addr}
    {E4 : Addr}
    {E5 : Addr}
    {nmE qE : Str} {NE : Addr} {bsE bmE suE : List Value} {snE : List Str} {abE : Bool} {colE : Option Bool} {ddE : Option Addr} {x0E x1E x2E x3E x5E : Option Value}
    {nmi0 qi0 : Str} {Ni0 : Addr} {bsi0 bmi0 sui0 : List Value} {sni0 : List Str} {abi0 : Bool} {coli0 : Option Bool} {ddi0 odii0 anii0 ccddi0 cddi0 : Option Addr} {x0i0 x1i0 x2i0 x3i0 x5i0 : Option Value} {fIi0 celi0 codi0 : Addr} {ocii0 kVii0 dcii0 pmii0 ctii0 clci0 ccli0 : Value} {slii0 csli0 ccsi0 : Array (Option Value)} {vsi0 : Array Value} {fili0 : Str} {tfii0 : Tok}
    {nmi1 qi1 : Str} {Ni1 : Addr} {bsi1 bmi1 sui1 : List Value} {sni1 : List Str} {abi1 : Bool} {coli1 : Option Bool} {ddi1 odii1 anii1 ccddi1 cddi1 : Option Addr} {x0i1 x1i1 x2i1 x3i1 x5i1 : Option Value} {fIi1 celi1 codi1 : Addr} {ocii1 kVii1 dcii1 pmii1 ctii1 clci1 ccli1 : Value} {slii1 csli1 ccsi1 : Array (Option Value)} {vsi1 : Array Value} {fili1 : Str} {tfii1 : Tok}
    {nmi2 qi2 : Str} {Ni2 : Addr} {bsi2 bmi2 sui2 : List Value} {sni2 : List Str} {abi2 : Bool} {coli2 : Option Bool} {ddi2 odii2 anii2 ccddi2 cddi2 : Option Addr} {x0i2 x1i2 x2i2 x3i2 x5i2 : Option Value} {fIi2 celi2 codi2 : Addr} {ocii2 kVii2 dcii2 pmii2 ctii2 clci2 ccli2 : Value} {slii2 csli2 ccsi2 : Array (Option Value)} {vsi2 : Array Value} {fili2 : Str} {tfii2 : Tok}
    {nmi3 qi3 : Str} {Ni3 : Addr} {bsi3 bmi3 sui3 : List Value} {sni3 : List Str} {abi3 : Bool} {coli3 : Option Bool} {ddi3 odii3 anii3 ccddi3 cddi3 : Option Addr} {x0i3 x1i3 x2i3 x3i3 x5i3 : Option Value} {fIi3 celi3 codi3 : Addr} {ocii3 kVii3 dcii3 pmii3 ctii3 clci3 ccli3 : Value} {slii3 csli3 ccsi3 : Array (Option Value)} {vsi3 : Array Value} {fili3 : Str} {tfii3 : Tok}
    {nmi4 qi4 : Str} {Ni4 : Addr} {bsi4 bmi4 sui4 : List Value} {sni4 : List Str} {abi4 : Bool} {coli4 : Option Bool} {ddi4 odii4 anii4 ccddi4 cddi4 : Option Addr} {x0i4 x1i4 x2i4 x3i4 x5i4 : Option Value} {fIi4 celi4 codi4 : Addr} {ocii4 kVii4 dcii4 pmii4 ctii4 clci4 ccli4 : Value} {slii4 csli4 ccsi4 : Array (Option Value)} {vsi4 : Array Value} {fili4 : Str} {tfii4 : Tok}
    (a_is_name : PySem.W.nsIn K mainGlobals "is_name" = some (some (.ref f_is_name)))
    (l_is_name : K.lookup f_is_name = some ⟨oc_is_name, od_is_name, .func (PySem.W.fnOf "is_name" "is_name" (defArgs s_is_name) (defBody s_is_name) (defScope s_is_name) .none kV_is_name dc_is_name pm_is_name an_is_name cd_is_name ct_is_name), sl_is_name⟩)
    (c_is_name : PySem.W.codeIn K cd_is_name "is_name" = true)
    (k_is_name : PySem.W.keepIn K (.ref f_is_name) = true)
    (a_is_integer : PySem.W.nsIn K mainGlobals "is_integer" = some (some (.ref f_is_integer)))
    (l_is_integer : K.lookup f_is_integer = some ⟨oc_is_integer, od_is_integer, .func (PySem.W.fnOf "is_integer" "is_integer" (defArgs s_is_integer) (defBody s_is_integer) (defScope s_is_integer) .none kV_is_integer dc_is_integer pm_is_integer an_is_integer cd_is_integer ct_is_integer), sl_is_integer⟩)
    (c_is_integer : PySem.W.codeIn K cd_is_integer "is_integer" = true)
    (k_is_integer : PySem.W.keepIn K (.ref f_is_integer) = true)
    (a_rises : PySem.W.nsIn K mainGlobals "rises" = some (some (.ref f_rises)))
    (l_rises : K.lookup f_rises = some ⟨oc_rises, od_rises, .func (PySem.W.fnOf "rises" "rises" (defArgs s_rises) (defBody s_rises) (defScope s_rises) .none kV_rises dc_rises pm_rises an_rises cd_rises ct_rises), sl_rises⟩)
    (c_rises : PySem.W.codeIn K cd_rises "rises" = true)
    (k_rises : PySem.W.keepIn K (.ref f_rises) = true)
    (a_check_facts : PySem.W.nsIn K mainGlobals "check_facts" = some (some (.ref f_check_facts)))
    (l_check_facts : K.lookup f_check_facts = some ⟨oc_check_facts, od_check_facts, .func (PySem.W.fnOf "check_facts" "check_facts" (defArgs s_check_facts) (defBody s_check_facts) (defScope s_check_facts) .none kV_check_facts dc_check_facts pm_check_facts an_check_facts cd_check_facts ct_check_facts), sl_check_facts⟩)
    (c_check_facts : PySem.W.codeIn K cd_check_facts "check_facts" = true)
    (k_check_facts : PySem.W.keepIn K (.ref f_check_facts) = true)
    (a_nested : PySem.W.nsIn K mainGlobals "nested" = some (some (.ref f_nested)))
    (l_nested : K.lookup f_nested = some ⟨oc_nested, od_nested, .func (PySem.W.fnOf "nested" "nested" (defArgs s_nested) (defBody s_nested) (defScope s_nested) .none kV_nested dc_nested pm_nested an_nested cd_nested ct_nested), sl_nested⟩)
    (c_nested : PySem.W.codeIn K cd_nested "nested" = true)
    (k_nested : PySem.W.keepIn K (.ref f_nested) = true)
    (a_check_rules : PySem.W.nsIn K mainGlobals "check_rules" = some (some (.ref f_check_rules)))
    (l_check_rules : K.lookup f_check_rules = some ⟨oc_check_rules, od_check_rules, .func (PySem.W.fnOf "check_rules" "check_rules" (defArgs s_check_rules) (defBody s_check_rules) (defScope s_check_rules) .none kV_check_rules dc_check_rules pm_check_rules an_check_rules cd_check_rules ct_check_rules), sl_check_rules⟩)
    (c_check_rules : PySem.W.codeIn K cd_check_rules "check_rules" = true)
    (k_check_rules : PySem.W.keepIn K (.ref f_check_rules) = true)
    (a_check_part : PySem.W.nsIn K mainGlobals "check_part" = some (some (.ref f_check_part)))
    (l_check_part : K.lookup f_check_part = some ⟨oc_check_part, od_check_part, .func (PySem.W.fnOf "check_part" "check_part" (defArgs s_check_part) (defBody s_check_part) (defScope s_check_part) .none kV_check_part dc_check_part pm_check_part an_check_part cd_check_part ct_check_part), sl_check_part⟩)
    (c_check_part : PySem.W.codeIn K cd_check_part "check_part" = true)
    (k_check_part : PySem.W.keepIn K (.ref f_check_part) = true)
    (a_merged : PySem.W.nsIn K mainGlobals "merged" = some (some (.ref f_merged)))
    (l_merged : K.lookup f_merged = some ⟨oc_merged, od_merged, .func (PySem.W.fnOf "merged" "merged" (defArgs s_merged) (defBody s_merged) (defScope s_merged) .none kV_merged dc_merged pm_merged an_merged cd_merged ct_merged), sl_merged⟩)
    (c_merged : PySem.W.codeIn K cd_merged "merged" = true)
    (k_merged : PySem.W.keepIn K (.ref f_merged) = true)
    (a_replaced : PySem.W.nsIn K mainGlobals "replaced" = some (some (.ref f_replaced)))
    (l_replaced : K.lookup f_replaced = some ⟨oc_replaced, od_replaced, .func (PySem.W.fnOf "replaced" "replaced" (defArgs s_replaced) (defBody s_replaced) (defScope s_replaced) .none kV_replaced dc_replaced pm_replaced an_replaced cd_replaced ct_replaced), sl_replaced⟩)
    (c_replaced : PySem.W.codeIn K cd_replaced "replaced" = true)
    (k_replaced : PySem.W.keepIn K (.ref f_replaced) = true)
    (a_is_day : PySem.W.nsIn K mainGlobals "is_day" = some (some (.ref f_is_day)))
    (l_is_day : K.lookup f_is_day = some ⟨oc_is_day, od_is_day, .func (PySem.W.fnOf "is_day" "is_day" (defArgs s_is_day) (defBody s_is_day) (defScope s_is_day) .none kV_is_day dc_is_day pm_is_day an_is_day cd_is_day ct_is_day), sl_is_day⟩)
    (c_is_day : PySem.W.codeIn K cd_is_day "is_day" = true)
    (k_is_day : PySem.W.keepIn K (.ref f_is_day) = true)
    (a_check_day : PySem.W.nsIn K mainGlobals "check_day" = some (some (.ref f_check_day)))
    (l_check_day : K.lookup f_check_day = some ⟨oc_check_day, od_check_day, .func (PySem.W.fnOf "check_day" "check_day" (defArgs s_check_day) (defBody s_check_day) (defScope s_check_day) .none kV_check_day dc_check_day pm_check_day an_check_day cd_check_day ct_check_day), sl_check_day⟩)
    (c_check_day : PySem.W.codeIn K cd_check_day "check_day" = true)
    (k_check_day : PySem.W.keepIn K (.ref f_check_day) = true)
    (a_check_word : PySem.W.nsIn K mainGlobals "check_word" = some (some (.ref f_check_word)))
    (l_check_word : K.lookup f_check_word = some ⟨oc_check_word, od_check_word, .func (PySem.W.fnOf "check_word" "check_word" (defArgs s_check_word) (defBody s_check_word) (defScope s_check_word) .none kV_check_word dc_check_word pm_check_word an_check_word cd_check_word ct_check_word), sl_check_word⟩)
    (c_check_word : PySem.W.codeIn K cd_check_word "check_word" = true)
    (k_check_word : PySem.W.keepIn K (.ref f_check_word) = true)
    (a_check_case : PySem.W.nsIn K mainGlobals "check_case" = some (some (.ref f_check_case)))
    (l_check_case : K.lookup f_check_case = some ⟨oc_check_case, od_check_case, .func (PySem.W.fnOf "check_case" "check_case" (defArgs s_check_case) (defBody s_check_case) (defScope s_check_case) .none kV_check_case dc_check_case pm_check_case an_check_case cd_check_case ct_check_case), sl_check_case⟩)
    (c_check_case : PySem.W.codeIn K cd_check_case "check_case" = true)
    (k_check_case : PySem.W.keepIn K (.ref f_check_case) = true)
    (a_up_to_first_met : PySem.W.nsIn K mainGlobals "up_to_first_met" = some (some (.ref f_up_to_first_met)))
    (l_up_to_first_met : K.lookup f_up_to_first_met = some ⟨oc_up_to_first_met, od_up_to_first_met, .func (PySem.W.fnOf "up_to_first_met" "up_to_first_met" (defArgs s_up_to_first_met) (defBody s_up_to_first_met) (defScope s_up_to_first_met) .none kV_up_to_first_met dc_up_to_first_met pm_up_to_first_met an_up_to_first_met cd_up_to_first_met ct_up_to_first_met), sl_up_to_first_met⟩)
    (c_up_to_first_met : PySem.W.codeIn K cd_up_to_first_met "up_to_first_met" = true)
    (k_up_to_first_met : PySem.W.keepIn K (.ref f_up_to_first_met) = true)
    (a_steps : PySem.W.nsIn K mainGlobals "steps" = some (some (.ref f_steps)))
    (l_steps : K.lookup f_steps = some ⟨oc_steps, od_steps, .func (PySem.W.fnOf "steps" "steps" (defArgs s_steps) (defBody s_steps) (defScope s_steps) .none kV_steps dc_steps pm_steps an_steps cd_steps ct_steps), sl_steps⟩)
    (c_steps : PySem.W.codeIn K cd_steps "steps" = true)
    (k_steps : PySem.W.keepIn K (.ref f_steps) = true)
    (a_looked_into : PySem.W.nsIn K mainGlobals "looked_into" = some (some (.ref f_looked_into)))
    (l_looked_into : K.lookup f_looked_into = some ⟨oc_looked_into, od_looked_into, .func (PySem.W.fnOf "looked_into" "looked_into" (defArgs s_looked_into) (defBody s_looked_into) (defScope s_looked_into) .none kV_looked_into dc_looked_into pm_looked_into an_looked_into cd_looked_into ct_looked_into), sl_looked_into⟩)
    (c_looked_into : PySem.W.codeIn K cd_looked_into "looked_into" = true)
    (k_looked_into : PySem.W.keepIn K (.ref f_looked_into) = true)
    (a_is_span : PySem.W.nsIn K mainGlobals "is_span" = some (some (.ref f_is_span)))
    (l_is_span : K.lookup f_is_span = some ⟨oc_is_span, od_is_span, .func (PySem.W.fnOf "is_span" "is_span" (defArgs s_is_span) (defBody s_is_span) (defScope s_is_span) .none kV_is_span dc_is_span pm_is_span an_is_span cd_is_span ct_is_span), sl_is_span⟩)
    (c_is_span : PySem.W.codeIn K cd_is_span "is_span" = true)
    (k_is_span : PySem.W.keepIn K (.ref f_is_span) = true)
    (a_in_span : PySem.W.nsIn K mainGlobals "in_span" = some (some (.ref f_in_span)))
    (l_in_span : K.lookup f_in_span = some ⟨oc_in_span, od_in_span, .func (PySem.W.fnOf "in_span" "in_span" (defArgs s_in_span) (defBody s_in_span) (defScope s_in_span) .none kV_in_span dc_in_span pm_in_span an_in_span cd_in_span ct_in_span), sl_in_span⟩)
    (c_in_span : PySem.W.codeIn K cd_in_span "in_span" = true)
    (k_in_span : PySem.W.keepIn K (.ref f_in_span) = true)
    (a_check_spans : PySem.W.nsIn K mainGlobals "check_spans" = some (some (.ref f_check_spans)))
    (l_check_spans : K.lookup f_check_spans = some ⟨oc_check_spans, od_check_spans, .func (PySem.W.fnOf "check_spans" "check_spans" (defArgs s_check_spans) (defBody s_check_spans) (defScope s_check_spans) .none kV_check_spans dc_check_spans pm_check_spans an_check_spans cd_check_spans ct_check_spans), sl_check_spans⟩)
    (c_check_spans : PySem.W.codeIn K cd_check_spans "check_spans" = true)
    (k_check_spans : PySem.W.keepIn K (.ref f_check_spans) = true)
    (a_bits_of : PySem.W.nsIn K mainGlobals "bits_of" = some (some (.ref f_bits_of)))
    (l_bits_of : K.lookup f_bits_of = some ⟨oc_bits_of, od_bits_of, .func (PySem.W.fnOf "bits_of" "bits_of" (defArgs s_bits_of) (defBody s_bits_of) (defScope s_bits_of) .none kV_bits_of dc_bits_of pm_bits_of an_bits_of cd_bits_of ct_bits_of), sl_bits_of⟩)
    (c_bits_of : PySem.W.codeIn K cd_bits_of "bits_of" = true)
    (k_bits_of : PySem.W.keepIn K (.ref f_bits_of) = true)
    (a_cube_of : PySem.W.nsIn K mainGlobals "cube_of" = some (some (.ref f_cube_of)))
    (l_cube_of : K.lookup f_cube_of = some ⟨oc_cube_of, od_cube_of, .func (PySem.W.fnOf "cube_of" "cube_of" (defArgs s_cube_of) (defBody s_cube_of) (defScope s_cube_of) .none kV_cube_of dc_cube_of pm_cube_of an_cube_of cd_cube_of ct_cube_of), sl_cube_of⟩)
    (c_cube_of : PySem.W.codeIn K cd_cube_of "cube_of" = true)
    (k_cube_of : PySem.W.keepIn K (.ref f_cube_of) = true)
    (a_clash : PySem.W.nsIn K mainGlobals "clash" = some (some (.ref f_clash)))
    (l_clash : K.lookup f_clash = some ⟨oc_clash, od_clash, .func (PySem.W.fnOf "clash" "clash" (defArgs s_clash) (defBody s_clash) (defScope s_clash) .none kV_clash dc_clash pm_clash an_clash cd_clash ct_clash), sl_clash⟩)
    (c_clash : PySem.W.codeIn K cd_clash "clash" = true)
    (k_clash : PySem.W.keepIn K (.ref f_clash) = true)
    (a_meets : PySem.W.nsIn K mainGlobals "meets" = some (some (.ref f_meets)))
    (l_meets : K.lookup f_meets = some ⟨oc_meets, od_meets, .func (PySem.W.fnOf "meets" "meets" (defArgs s_meets) (defBody s_meets) (defScope s_meets) .none kV_meets dc_meets pm_meets an_meets cd_meets ct_meets), sl_meets⟩)
    (c_meets : PySem.W.codeIn K cd_meets "meets" = true)
    (k_meets : PySem.W.keepIn K (.ref f_meets) = true)
    (a_joined : PySem.W.nsIn K mainGlobals "joined" = some (some (.ref f_joined)))
    (l_joined : K.lookup f_joined = some ⟨oc_joined, od_joined, .func (PySem.W.fnOf "joined" "joined" (defArgs s_joined) (defBody s_joined) (defScope s_joined) .none kV_joined dc_joined pm_joined an_joined cd_joined ct_joined), sl_joined⟩)
    (c_joined : PySem.W.codeIn K cd_joined "joined" = true)
    (k_joined : PySem.W.keepIn K (.ref f_joined) = true)
    (a_rows_within : PySem.W.nsIn K mainGlobals "rows_within" = some (some (.ref f_rows_within)))
    (l_rows_within : K.lookup f_rows_within = some ⟨oc_rows_within, od_rows_within, .func (PySem.W.fnOf "rows_within" "rows_within" (defArgs s_rows_within) (defBody s_rows_within) (defScope s_rows_within) .none kV_rows_within dc_rows_within pm_rows_within an_rows_within cd_rows_within ct_rows_within), sl_rows_within⟩)
    (c_rows_within : PySem.W.codeIn K cd_rows_within "rows_within" = true)
    (k_rows_within : PySem.W.keepIn K (.ref f_rows_within) = true)
    (a_rows_of : PySem.W.nsIn K mainGlobals "rows_of" = some (some (.ref f_rows_of)))
    (l_rows_of : K.lookup f_rows_of = some ⟨oc_rows_of, od_rows_of, .func (PySem.W.fnOf "rows_of" "rows_of" (defArgs s_rows_of) (defBody s_rows_of) (defScope s_rows_of) .none kV_rows_of dc_rows_of pm_rows_of an_rows_of cd_rows_of ct_rows_of), sl_rows_of⟩)
    (c_rows_of : PySem.W.codeIn K cd_rows_of "rows_of" = true)
    (k_rows_of : PySem.W.keepIn K (.ref f_rows_of) = true)
    (a_names_in : PySem.W.nsIn K mainGlobals "names_in" = some (some (.ref f_names_in)))
    (l_names_in : K.lookup f_names_in = some ⟨oc_names_in, od_names_in, .func (PySem.W.fnOf "names_in" "names_in" (defArgs s_names_in) (defBody s_names_in) (defScope s_names_in) .none kV_names_in dc_names_in pm_names_in an_names_in cd_names_in ct_names_in), sl_names_in⟩)
    (c_names_in : PySem.W.codeIn K cd_names_in "names_in" = true)
    (k_names_in : PySem.W.keepIn K (.ref f_names_in) = true)
    (a_forces_of_period : PySem.W.nsIn K mainGlobals "forces_of_period" = some (some (.ref f_forces_of_period)))
    (l_forces_of_period : K.lookup f_forces_of_period = some ⟨oc_forces_of_period, od_forces_of_period, .func (PySem.W.fnOf "forces_of_period" "forces_of_period" (defArgs s_forces_of_period) (defBody s_forces_of_period) (defScope s_forces_of_period) .none kV_forces_of_period dc_forces_of_period pm_forces_of_period an_forces_of_period cd_forces_of_period ct_forces_of_period), sl_forces_of_period⟩)
    (c_forces_of_period : PySem.W.codeIn K cd_forces_of_period "forces_of_period" = true)
    (k_forces_of_period : PySem.W.keepIn K (.ref f_forces_of_period) = true)
    (a_rulings_of_period : PySem.W.nsIn K mainGlobals "rulings_of_period" = some (some (.ref f_rulings_of_period)))
    (l_rulings_of_period : K.lookup f_rulings_of_period = some ⟨oc_rulings_of_period, od_rulings_of_period, .func (PySem.W.fnOf "rulings_of_period" "rulings_of_period" (defArgs s_rulings_of_period) (defBody s_rulings_of_period) (defScope s_rulings_of_period) .none kV_rulings_of_period dc_rulings_of_period pm_rulings_of_period an_rulings_of_period cd_rulings_of_period ct_rulings_of_period), sl_rulings_of_period⟩)
    (c_rulings_of_period : PySem.W.codeIn K cd_rulings_of_period "rulings_of_period" = true)
    (k_rulings_of_period : PySem.W.keepIn K (.ref f_rulings_of_period) = true)
    (a_check_period : PySem.W.nsIn K mainGlobals "check_period" = some (some (.ref f_check_period)))
    (l_check_period : K.lookup f_check_period = some ⟨oc_check_period, od_check_period, .func (PySem.W.fnOf "check_period" "check_period" (defArgs s_check_period) (defBody s_check_period) (defScope s_check_period) .none kV_check_period dc_check_period pm_check_period an_check_period cd_check_period ct_check_period), sl_check_period⟩)
    (c_check_period : PySem.W.codeIn K cd_check_period "check_period" = true)
    (k_check_period : PySem.W.keepIn K (.ref f_check_period) = true)
    (a_next_day : PySem.W.nsIn K mainGlobals "next_day" = some (some (.ref f_next_day)))
    (l_next_day : K.lookup f_next_day = some ⟨oc_next_day, od_next_day, .func (PySem.W.fnOf "next_day" "next_day" (defArgs s_next_day) (defBody s_next_day) (defScope s_next_day) .none kV_next_day dc_next_day pm_next_day an_next_day cd_next_day ct_next_day), sl_next_day⟩)
    (c_next_day : PySem.W.codeIn K cd_next_day "next_day" = true)
    (k_next_day : PySem.W.keepIn K (.ref f_next_day) = true)
    (a_count_rulings : PySem.W.nsIn K mainGlobals "count_rulings" = some (some (.ref f_count_rulings)))
    (l_count_rulings : K.lookup f_count_rulings = some ⟨oc_count_rulings, od_count_rulings, .func (PySem.W.fnOf "count_rulings" "count_rulings" (defArgs s_count_rulings) (defBody s_count_rulings) (defScope s_count_rulings) .none kV_count_rulings dc_count_rulings pm_count_rulings an_count_rulings cd_count_rulings ct_count_rulings), sl_count_rulings⟩)
    (c_count_rulings : PySem.W.codeIn K cd_count_rulings "count_rulings" = true)
    (k_count_rulings : PySem.W.keepIn K (.ref f_count_rulings) = true)
    (a_always : PySem.W.nsIn K mainGlobals "always" = some (some (.ref f_always)))
    (l_always : K.lookup f_always = some ⟨oc_always, od_always, .func (PySem.W.fnOf "always" "always" (defArgs s_always) (defBody s_always) (defScope s_always) .none kV_always dc_always pm_always an_always cd_always ct_always), sl_always⟩)
    (c_always : PySem.W.codeIn K cd_always "always" = true)
    (k_always : PySem.W.keepIn K (.ref f_always) = true)
    (a__law_mix : PySem.W.nsIn K mainGlobals "_law_mix" = some (some (.ref f__law_mix)))
    (l__law_mix : K.lookup f__law_mix = some ⟨oc__law_mix, od__law_mix, .func (PySem.W.fnOf "_law_mix" "_law_mix" (defArgs s__law_mix) (defBody s__law_mix) (defScope s__law_mix) .none kV__law_mix dc__law_mix pm__law_mix an__law_mix cd__law_mix ct__law_mix), sl__law_mix⟩)
    (c__law_mix : PySem.W.codeIn K cd__law_mix "_law_mix" = true)
    (k__law_mix : PySem.W.keepIn K (.ref f__law_mix) = true)
    (a__law_next : PySem.W.nsIn K mainGlobals "_law_next" = some (some (.ref f__law_next)))
    (l__law_next : K.lookup f__law_next = some ⟨oc__law_next, od__law_next, .func (PySem.W.fnOf "_law_next" "_law_next" (defArgs s__law_next) (defBody s__law_next) (defScope s__law_next) .none kV__law_next dc__law_next pm__law_next an__law_next cd__law_next ct__law_next), sl__law_next⟩)
    (c__law_next : PySem.W.codeIn K cd__law_next "_law_next" = true)
    (k__law_next : PySem.W.keepIn K (.ref f__law_next) = true)
    (a__law_facts : PySem.W.nsIn K mainGlobals "_law_facts" = some (some (.ref f__law_facts)))
    (l__law_facts : K.lookup f__law_facts = some ⟨oc__law_facts, od__law_facts, .func (PySem.W.fnOf "_law_facts" "_law_facts" (defArgs s__law_facts) (defBody s__law_facts) (defScope s__law_facts) .none kV__law_facts dc__law_facts pm__law_facts an__law_facts cd__law_facts ct__law_facts), sl__law_facts⟩)
    (c__law_facts : PySem.W.codeIn K cd__law_facts "_law_facts" = true)
    (k__law_facts : PySem.W.keepIn K (.ref f__law_facts) = true)
    (a__law_sides : PySem.W.nsIn K mainGlobals "_law_sides" = some (some (.ref f__law_sides)))
    (l__law_sides : K.lookup f__law_sides = some ⟨oc__law_sides, od__law_sides, .func (PySem.W.fnOf "_law_sides" "_law_sides" (defArgs s__law_sides) (defBody s__law_sides) (defScope s__law_sides) .none kV__law_sides dc__law_sides pm__law_sides an__law_sides cd__law_sides ct__law_sides), sl__law_sides⟩)
    (c__law_sides : PySem.W.codeIn K cd__law_sides "_law_sides" = true)
    (k__law_sides : PySem.W.keepIn K (.ref f__law_sides) = true)
    (a__law_rule : PySem.W.nsIn K mainGlobals "_law_rule" = some (some (.ref f__law_rule)))
    (l__law_rule : K.lookup f__law_rule = some ⟨oc__law_rule, od__law_rule, .func (PySem.W.fnOf "_law_rule" "_law_rule" (defArgs s__law_rule) (defBody s__law_rule) (defScope s__law_rule) .none kV__law_rule dc__law_rule pm__law_rule an__law_rule cd__law_rule ct__law_rule), sl__law_rule⟩)
    (c__law_rule : PySem.W.codeIn K cd__law_rule "_law_rule" = true)
    (k__law_rule : PySem.W.keepIn K (.ref f__law_rule) = true)
    (a__law_drawn : PySem.W.nsIn K mainGlobals "_law_drawn" = some (some (.ref f__law_drawn)))
    (l__law_drawn : K.lookup f__law_drawn = some ⟨oc__law_drawn, od__law_drawn, .func (PySem.W.fnOf "_law_drawn" "_law_drawn" (defArgs s__law_drawn) (defBody s__law_drawn) (defScope s__law_drawn) .none kV__law_drawn dc__law_drawn pm__law_drawn an__law_drawn cd__law_drawn ct__law_drawn), sl__law_drawn⟩)
    (c__law_drawn : PySem.W.codeIn K cd__law_drawn "_law_drawn" = true)
    (k__law_drawn : PySem.W.keepIn K (.ref f__law_drawn) = true)
    (a__law_made : PySem.W.nsIn K mainGlobals "_law_made" = some (some (.ref f__law_made)))
    (l__law_made : K.lookup f__law_made = some ⟨oc__law_made, od__law_made, .func (PySem.W.fnOf "_law_made" "_law_made" (defArgs s__law_made) (defBody s__law_made) (defScope s__law_made) .none kV__law_made dc__law_made pm__law_made an__law_made cd__law_made ct__law_made), sl__law_made⟩)
    (c__law_made : PySem.W.codeIn K cd__law_made "_law_made" = true)
    (k__law_made : PySem.W.keepIn K (.ref f__law_made) = true)
    (a__law_book : PySem.W.nsIn K mainGlobals "_law_book" = some (some (.ref f__law_book)))
    (l__law_book : K.lookup f__law_book = some ⟨oc__law_book, od__law_book, .func (PySem.W.fnOf "_law_book" "_law_book" (defArgs s__law_book) (defBody s__law_book) (defScope s__law_book) .none kV__law_book dc__law_book pm__law_book an__law_book cd__law_book ct__law_book), sl__law_book⟩)
    (c__law_book : PySem.W.codeIn K cd__law_book "_law_book" = true)
    (k__law_book : PySem.W.keepIn K (.ref f__law_book) = true)
    (a__law_all : PySem.W.nsIn K mainGlobals "_law_all" = some (some (.ref f__law_all)))
    (l__law_all : K.lookup f__law_all = some ⟨oc__law_all, od__law_all, .func (PySem.W.fnOf "_law_all" "_law_all" (defArgs s__law_all) (defBody s__law_all) (defScope s__law_all) .none kV__law_all dc__law_all pm__law_all an__law_all cd__law_all ct__law_all), sl__law_all⟩)
    (c__law_all : PySem.W.codeIn K cd__law_all "_law_all" = true)
    (k__law_all : PySem.W.keepIn K (.ref f__law_all) = true)
    (a__law_spans : PySem.W.nsIn K mainGlobals "_law_spans" = some (some (.ref f__law_spans)))
    (l__law_spans : K.lookup f__law_spans = some ⟨oc__law_spans, od__law_spans, .func (PySem.W.fnOf "_law_spans" "_law_spans" (defArgs s__law_spans) (defBody s__law_spans) (defScope s__law_spans) .none kV__law_spans dc__law_spans pm__law_spans an__law_spans cd__law_spans ct__law_spans), sl__law_spans⟩)
    (c__law_spans : PySem.W.codeIn K cd__law_spans "_law_spans" = true)
    (k__law_spans : PySem.W.keepIn K (.ref f__law_spans) = true)
    (a__law_two : PySem.W.nsIn K mainGlobals "_law_two" = some (some (.ref f__law_two)))
    (l__law_two : K.lookup f__law_two = some ⟨oc__law_two, od__law_two, .func (PySem.W.fnOf "_law_two" "_law_two" (defArgs s__law_two) (defBody s__law_two) (defScope s__law_two) .none kV__law_two dc__law_two pm__law_two an__law_two cd__law_two ct__law_two), sl__law_two⟩)
    (c__law_two : PySem.W.codeIn K cd__law_two "_law_two" = true)
    (k__law_two : PySem.W.keepIn K (.ref f__law_two) = true)
    (a__law_case : PySem.W.nsIn K mainGlobals "_law_case" = some (some (.ref f__law_case)))
    (l__law_case : K.lookup f__law_case = some ⟨oc__law_case, od__law_case, .func (PySem.W.fnOf "_law_case" "_law_case" (defArgs s__law_case) (defBody s__law_case) (defScope s__law_case) .none kV__law_case dc__law_case pm__law_case an__law_case cd__law_case ct__law_case), sl__law_case⟩)
    (c__law_case : PySem.W.codeIn K cd__law_case "_law_case" = true)
    (k__law_case : PySem.W.keepIn K (.ref f__law_case) = true)
    (a_law : PySem.W.nsIn K mainGlobals "law" = some (some (.ref f_law)))
    (l_law : K.lookup f_law = some ⟨oc_law, od_law, .func (PySem.W.fnOf "law" "law" (defArgs s_law) (defBody s_law) (defScope s_law) .none kV_law dc_law pm_law an_law (.ref cc_law) ct_law), sl_law⟩)
    (c_law : PySem.W.codeIn K (.ref cc_law) "law" = true)
    (k_law : PySem.W.keepIn K (.ref f_law) = true)
    (co : PySem.W.nsIn K mainGlobals "Condition" = some (some (.ref CO)))
    (co_mk : PySem.W.makesIn K CO = true)
    (co_in : PySem.W.findIn K (.ref CO) "__init__" = some (some (.ref f_mi)))
    (co_fn : PySem.W.isFn K (.ref f_mi) = true)
    (co_kp : PySem.W.keepIn K (.ref CO) = true)
    (co_pg : PySem.W.plainGet K CO Str.empty = true)
    (co_hd : PySem.W.hasDictIn K CO = true)
    (co_po : PySem.W.plainOver K CO = true)
    (co_sa : PySem.W.findIn K (.ref CO) "__setattr__" = some (some (.builtin "object.__setattr__")))
    (co_n1 : PySem.W.findIn K (.ref CO) "_holding" = some none)
    (co_n2 : PySem.W.findIn K (.ref CO) "_failing" = some none)
    (co_n3 : PySem.W.findIn K (.ref CO) "_names" = some none)
    (pa_mh : PySem.W.findIn K (.ref CO) "holding" = some (some (.ref pp_mh)))
    (pg_mh : PySem.W.specialIn K (.ref pp_mh) "__get__" = some (some (.builtin "property.__get__")))
    (pt_mh : PySem.W.takesIn K (.ref pp_mh) = some true)
    (pr_mh : PySem.W.recIn K pp_mh "property" = some (.ref f_mh :: rs_mh))
    (pa_mf : PySem.W.findIn K (.ref CO) "failing" = some (some (.ref pp_mf)))
    (pg_mf : PySem.W.specialIn K (.ref pp_mf) "__get__" = some (some (.builtin "property.__get__")))
    (pt_mf : PySem.W.takesIn K (.ref pp_mf) = some true)
    (pr_mf : PySem.W.recIn K pp_mf "property" = some (.ref f_mf :: rs_mf))
    (pa_mn : PySem.W.findIn K (.ref CO) "names" = some (some (.ref pp_mn)))
    (pg_mn : PySem.W.specialIn K (.ref pp_mn) "__get__" = some (some (.builtin "property.__get__")))
    (pt_mn : PySem.W.takesIn K (.ref pp_mn) = some true)
    (pr_mn : PySem.W.recIn K pp_mn "property" = some (.ref f_mn :: rs_mn))
    (ro : PySem.W.nsIn K mainGlobals "Rule" = some (some (.ref RO)))
    (ro_mk : PySem.W.makesIn K RO = true)
    (ro_in : PySem.W.findIn K (.ref RO) "__init__" = some (some (.ref f_ri)))
    (ro_fn : PySem.W.isFn K (.ref f_ri) = true)
    (ro_kp : PySem.W.keepIn K (.ref RO) = true)
    (ro_pg : PySem.W.plainGet K RO Str.empty = true)
    (ro_hd : PySem.W.hasDictIn K RO = true)
    (ro_po : PySem.W.plainOver K RO = true)
    (ro_sa : PySem.W.findIn K (.ref RO) "__setattr__" = some (some (.builtin "object.__setattr__")))
    (ro_n1 : PySem.W.findIn K (.ref RO) "_name" = some none)
    (ro_n2 : PySem.W.findIn K (.ref RO) "_condition" = some none)
    (ro_n3 : PySem.W.findIn K (.ref RO) "_ruling" = some none)
    (ro_n4 : PySem.W.findIn K (.ref RO) "_exceptions" = some none)
    (ro_n5 : PySem.W.findIn K (.ref RO) "_depth" = some none)
    (ro_n6 : PySem.W.findIn K (.ref RO) "_inside" = some none)
    (pa_rn : PySem.W.findIn K (.ref RO) "name" = some (some (.ref pp_rn)))
    (pg_rn : PySem.W.specialIn K (.ref pp_rn) "__get__" = some (some (.builtin "property.__get__")))
    (pt_rn : PySem.W.takesIn K (.ref pp_rn) = some true)
    (pr_rn : PySem.W.recIn K pp_rn "property" = some (.ref f_rn :: rs_rn))
    (pa_rc : PySem.W.findIn K (.ref RO) "condition" = some (some (.ref pp_rc)))
    (pg_rc : PySem.W.specialIn K (.ref pp_rc) "__get__" = some (some (.builtin "property.__get__")))
    (pt_rc : PySem.W.takesIn K (.ref pp_rc) = some true)
    (pr_rc : PySem.W.recIn K pp_rc "property" = some (.ref f_rc :: rs_rc))
    (pa_rr : PySem.W.findIn K (.ref RO) "ruling" = some (some (.ref pp_rr)))
    (pg_rr : PySem.W.specialIn K (.ref pp_rr) "__get__" = some (some (.builtin "property.__get__")))
    (pt_rr : PySem.W.takesIn K (.ref pp_rr) = some true)
    (pr_rr : PySem.W.recIn K pp_rr "property" = some (.ref f_rr :: rs_rr))
    (pa_re : PySem.W.findIn K (.ref RO) "exceptions" = some (some (.ref pp_re)))
    (pg_re : PySem.W.specialIn K (.ref pp_re) "__get__" = some (some (.builtin "property.__get__")))
    (pt_re : PySem.W.takesIn K (.ref pp_re) = some true)
    (pr_re : PySem.W.recIn K pp_re "property" = some (.ref f_re :: rs_re))
    (pa_rd : PySem.W.findIn K (.ref RO) "depth" = some (some (.ref pp_rd)))
    (pg_rd : PySem.W.specialIn K (.ref pp_rd) "__get__" = some (some (.builtin "property.__get__")))
    (pt_rd : PySem.W.takesIn K (.ref pp_rd) = some true)
    (pr_rd : PySem.W.recIn K pp_rd "property" = some (.ref f_rd :: rs_rd))
    (bo : PySem.W.nsIn K mainGlobals "Book" = some (some (.ref BO)))
    (bo_mk : PySem.W.makesIn K BO = true)
    (bo_in : PySem.W.findIn K (.ref BO) "__init__" = some (some (.ref f_bi)))
    (bo_fn : PySem.W.isFn K (.ref f_bi) = true)
    (bo_kp : PySem.W.keepIn K (.ref BO) = true)
    (bo_pg : PySem.W.plainGet K BO Str.empty = true)
    (bo_hd : PySem.W.hasDictIn K BO = true)
    (bo_po : PySem.W.plainOver K BO = true)
    (bo_sa : PySem.W.findIn K (.ref BO) "__setattr__" = some (some (.builtin "object.__setattr__")))
    (bo_n1 : PySem.W.findIn K (.ref BO) "_facts" = some none)
    (bo_n2 : PySem.W.findIn K (.ref BO) "_rules" = some none)
    (bo_n3 : PySem.W.findIn K (.ref BO) "_ruling" = some none)
    (bo_n4 : PySem.W.findIn K (.ref BO) "_numbered" = some none)
    (pa_bf : PySem.W.findIn K (.ref BO) "facts" = some (some (.ref pp_bf)))
    (pg_bf : PySem.W.specialIn K (.ref pp_bf) "__get__" = some (some (.builtin "property.__get__")))
    (pt_bf : PySem.W.takesIn K (.ref pp_bf) = some true)
    (pr_bf : PySem.W.recIn K pp_bf "property" = some (.ref f_bf :: rs_bf))
    (pa_bs : PySem.W.findIn K (.ref BO) "rules" = some (some (.ref pp_bs)))
    (pg_bs : PySem.W.specialIn K (.ref pp_bs) "__get__" = some (some (.builtin "property.__get__")))
    (pt_bs : PySem.W.takesIn K (.ref pp_bs) = some true)
    (pr_bs : PySem.W.recIn K pp_bs "property" = some (.ref f_bs :: rs_bs))
    (pa_br : PySem.W.findIn K (.ref BO) "ruling" = some (some (.ref pp_br)))
    (pg_br : PySem.W.specialIn K (.ref pp_br) "__get__" = some (some (.builtin "property.__get__")))
    (pt_br : PySem.W.takesIn K (.ref pp_br) = some true)
    (pr_br : PySem.W.recIn K pp_br "property" = some (.ref f_br :: rs_br))
    (pa_bq : PySem.W.findIn K (.ref BO) "rulings" = some (some (.ref pp_bq)))
    (pg_bq : PySem.W.specialIn K (.ref pp_bq) "__get__" = some (some (.builtin "property.__get__")))
    (pt_bq : PySem.W.takesIn K (.ref pp_bq) = some true)
    (pr_bq : PySem.W.recIn K pp_bq "property" = some (.ref f_bq :: rs_bq))
    (yo : PySem.W.nsIn K mainGlobals "Seasons" = some (some (.ref SE)))
    (yo_mk : PySem.W.makesIn K SE = true)
    (yo_in : PySem.W.findIn K (.ref SE) "__init__" = some (some (.ref f_yi)))
    (yo_fn : PySem.W.isFn K (.ref f_yi) = true)
    (yo_kp : PySem.W.keepIn K (.ref SE) = true)
    (yo_pg : PySem.W.plainGet K SE Str.empty = true)
    (yo_hd : PySem.W.hasDictIn K SE = true)
    (yo_po : PySem.W.plainOver K SE = true)
    (yo_sa : PySem.W.findIn K (.ref SE) "__setattr__" = some (some (.builtin "object.__setattr__")))
    (yo_n1 : PySem.W.findIn K (.ref SE) "_book" = some none)
    (yo_n2 : PySem.W.findIn K (.ref SE) "_spans" = some none)
    (yo_n3 : PySem.W.findIn K (.ref SE) "_period" = some none)
    (pa_yb : PySem.W.findIn K (.ref SE) "book" = some (some (.ref pp_yb)))
    (pg_yb : PySem.W.specialIn K (.ref pp_yb) "__get__" = some (some (.builtin "property.__get__")))
    (pt_yb : PySem.W.takesIn K (.ref pp_yb) = some true)
    (pr_yb : PySem.W.recIn K pp_yb "property" = some (.ref f_yb :: rs_yb))
    (pa_ys : PySem.W.findIn K (.ref SE) "spans" = some (some (.ref pp_ys)))
    (pg_ys : PySem.W.specialIn K (.ref pp_ys) "__get__" = some (some (.builtin "property.__get__")))
    (pt_ys : PySem.W.takesIn K (.ref pp_ys) = some true)
    (pr_ys : PySem.W.recIn K pp_ys "property" = some (.ref f_ys :: rs_ys))
    (pa_yp : PySem.W.findIn K (.ref SE) "period" = some (some (.ref pp_yp)))
    (pg_yp : PySem.W.specialIn K (.ref pp_yp) "__get__" = some (some (.builtin "property.__get__")))
    (pt_yp : PySem.W.takesIn K (.ref pp_yp) = some true)
    (pr_yp : PySem.W.recIn K pp_yp "property" = some (.ref f_yp :: rs_yp))
    (to : PySem.W.nsIn K mainGlobals "Timetable" = some (some (.ref TT)))
    (to_mk : PySem.W.makesIn K TT = true)
    (to_in : PySem.W.findIn K (.ref TT) "__init__" = some (some (.ref f_ti)))
    (to_fn : PySem.W.isFn K (.ref f_ti) = true)
    (to_kp : PySem.W.keepIn K (.ref TT) = true)
    (to_pg : PySem.W.plainGet K TT Str.empty = true)
    (to_hd : PySem.W.hasDictIn K TT = true)
    (to_po : PySem.W.plainOver K TT = true)
    (to_sa : PySem.W.findIn K (.ref TT) "__setattr__" = some (some (.builtin "object.__setattr__")))
    (to_n1 : PySem.W.findIn K (.ref TT) "whole" = some none)
    (to_n2 : PySem.W.findIn K (.ref TT) "rows" = some none)
    (to_n3 : PySem.W.findIn K (.ref TT) "everything" = some none)
    (to_n4 : PySem.W.findIn K (.ref TT) "bits_met" = some none)
    (at_gc : PySem.W.findIn K (.ref BO) "__contains__" = some (some (.ref f_gc)))
    (fn_gc : PySem.W.isFn K (.ref f_gc) = true)
    (at_gi : PySem.W.findIn K (.ref BO) "__getitem__" = some (some (.ref f_gi)))
    (fn_gi : PySem.W.isFn K (.ref f_gi) = true)
    (at_gs : PySem.W.findIn K (.ref BO) "__sub__" = some (some (.ref f_gs)))
    (fn_gs : PySem.W.isFn K (.ref f_gs) = true)
    (at_bc : PySem.W.findIn K (.ref BO) "__call__" = some (some (.ref f_bc)))
    (fn_bc : PySem.W.isFn K (.ref f_bc) = true)
    (fi_bc : PySem.W.fnIn K f_bc = true)
    (at_mc : PySem.W.findIn K (.ref CO) "__call__" = some (some (.ref f_mc)))
    (fn_mc : PySem.W.isFn K (.ref f_mc) = true)
    (fi_mc : PySem.W.fnIn K f_mc = true)
    (at_yc : PySem.W.findIn K (.ref SE) "__call__" = some (some (.ref f_yc)))
    (fn_yc : PySem.W.isFn K (.ref f_yc) = true)
    (fi_yc : PySem.W.fnIn K f_yc = true)
    (at_tw : PySem.W.findIn K (.ref TT) "bits_within" = some (some (.ref f_tw)))
    (fn_tw : PySem.W.isFn K (.ref f_tw) = true)
    (at_tm : PySem.W.findIn K (.ref TT) "met" = some (some (.ref f_tm)))
    (fn_tm : PySem.W.isFn K (.ref f_tm) = true)
    (at_to : PySem.W.findIn K (.ref TT) "ruling_on" = some (some (.ref f_to)))
    (fn_to : PySem.W.isFn K (.ref f_to) = true)
    (at_tr : PySem.W.findIn K (.ref TT) "ruling_by" = some (some (.ref f_tr)))
    (fn_tr : PySem.W.isFn K (.ref f_tr) = true)
    (at_tl : PySem.W.findIn K (.ref TT) "lasting" = some (some (.ref f_tl)))
    (fn_tl : PySem.W.isFn K (.ref f_tl) = true)
    (bo_bstr : PySem.W.subIn K (.type "str") (.ref BO) = some false)
    (bo_sf : PySem.W.selfFirst K BO = true)
    (bo_rs : PySem.W.findIn K (.ref BO) "__rsub__" = some none)
    (st_s : PySem.W.findIn K (.type "str") "__sub__" = some fo_s)
    (st_r : PySem.W.findIn K (.type "str") "__rsub__" = some fo_r)
    (fi_gc : PySem.W.fnIn K f_gc = true)
    (fi_gi : PySem.W.fnIn K f_gi = true)
    (fi_gs : PySem.W.fnIn K f_gs = true)
    (m_lcm : PySem.W.nsIn K mainGlobals "lcm" = some (some (.builtin "math.lcm")))
    (l_mi : K.lookup f_mi = some ⟨oc_mi, od_mi, .func (PySem.W.fnOf "__init__" "Condition.__init__" (defArgs s_Condition___init__) (defBody s_Condition___init__) (defScope s_Condition___init__) .none kV_mi dc_mi pm_mi an_mi cd_mi ct_mi), sl_mi⟩)
    (c_mi : PySem.W.codeIn K cd_mi "Condition.__init__" = true)
    (k_mi : PySem.W.keepIn K (.ref f_mi) = true)
    (l_mh : K.lookup f_mh = some ⟨oc_mh, od_mh, .func (PySem.W.fnOf "holding" "Condition.holding" (defArgs s_Condition_holding) (defBody s_Condition_holding) (defScope s_Condition_holding) .none kV_mh dc_mh pm_mh an_mh cd_mh ct_mh), sl_mh⟩)
    (c_mh : PySem.W.codeIn K cd_mh "Condition.holding" = true)
    (k_mh : PySem.W.keepIn K (.ref f_mh) = true)
    (l_mf : K.lookup f_mf = some ⟨oc_mf, od_mf, .func (PySem.W.fnOf "failing" "Condition.failing" (defArgs s_Condition_failing) (defBody s_Condition_failing) (defScope s_Condition_failing) .none kV_mf dc_mf pm_mf an_mf cd_mf ct_mf), sl_mf⟩)
    (c_mf : PySem.W.codeIn K cd_mf "Condition.failing" = true)
    (k_mf : PySem.W.keepIn K (.ref f_mf) = true)
    (l_mn : K.lookup f_mn = some ⟨oc_mn, od_mn, .func (PySem.W.fnOf "names" "Condition.names" (defArgs s_Condition_names) (defBody s_Condition_names) (defScope s_Condition_names) .none kV_mn dc_mn pm_mn an_mn cd_mn ct_mn), sl_mn⟩)
    (c_mn : PySem.W.codeIn K cd_mn "Condition.names" = true)
    (k_mn : PySem.W.keepIn K (.ref f_mn) = true)
    (l_ri : K.lookup f_ri = some ⟨oc_ri, od_ri, .func (PySem.W.fnOf "__init__" "Rule.__init__" (defArgs s_Rule___init__) (defBody s_Rule___init__) (defScope s_Rule___init__) .none kV_ri dc_ri pm_ri an_ri cd_ri ct_ri), sl_ri⟩)
    (c_ri : PySem.W.codeIn K cd_ri "Rule.__init__" = true)
    (k_ri : PySem.W.keepIn K (.ref f_ri) = true)
    (l_rn : K.lookup f_rn = some ⟨oc_rn, od_rn, .func (PySem.W.fnOf "name" "Rule.name" (defArgs s_Rule_name) (defBody s_Rule_name) (defScope s_Rule_name) .none kV_rn dc_rn pm_rn an_rn cd_rn ct_rn), sl_rn⟩)
    (c_rn : PySem.W.codeIn K cd_rn "Rule.name" = true)
    (k_rn : PySem.W.keepIn K (.ref f_rn) = true)
    (l_rc : K.lookup f_rc = some ⟨oc_rc, od_rc, .func (PySem.W.fnOf "condition" "Rule.condition" (defArgs s_Rule_condition) (defBody s_Rule_condition) (defScope s_Rule_condition) .none kV_rc dc_rc pm_rc an_rc cd_rc ct_rc), sl_rc⟩)
    (c_rc : PySem.W.codeIn K cd_rc "Rule.condition" = true)
    (k_rc : PySem.W.keepIn K (.ref f_rc) = true)
    (l_rr : K.lookup f_rr = some ⟨oc_rr, od_rr, .func (PySem.W.fnOf "ruling" "Rule.ruling" (defArgs s_Rule_ruling) (defBody s_Rule_ruling) (defScope s_Rule_ruling) .none kV_rr dc_rr pm_rr an_rr cd_rr ct_rr), sl_rr⟩)
    (c_rr : PySem.W.codeIn K cd_rr "Rule.ruling" = true)
    (k_rr : PySem.W.keepIn K (.ref f_rr) = true)
    (l_re : K.lookup f_re = some ⟨oc_re, od_re, .func (PySem.W.fnOf "exceptions" "Rule.exceptions" (defArgs s_Rule_exceptions) (defBody s_Rule_exceptions) (defScope s_Rule_exceptions) .none kV_re dc_re pm_re an_re cd_re ct_re), sl_re⟩)
    (c_re : PySem.W.codeIn K cd_re "Rule.exceptions" = true)
    (k_re : PySem.W.keepIn K (.ref f_re) = true)
    (l_rd : K.lookup f_rd = some ⟨oc_rd, od_rd, .func (PySem.W.fnOf "depth" "Rule.depth" (defArgs s_Rule_depth) (defBody s_Rule_depth) (defScope s_Rule_depth) .none kV_rd dc_rd pm_rd an_rd cd_rd ct_rd), sl_rd⟩)
    (c_rd : PySem.W.codeIn K cd_rd "Rule.depth" = true)
    (k_rd : PySem.W.keepIn K (.ref f_rd) = true)
    (l_bi : K.lookup f_bi = some ⟨oc_bi, od_bi, .func (PySem.W.fnOf "__init__" "Book.__init__" (defArgs s_Book___init__) (defBody s_Book___init__) (defScope s_Book___init__) .none kV_bi dc_bi pm_bi an_bi cd_bi ct_bi), sl_bi⟩)
    (c_bi : PySem.W.codeIn K cd_bi "Book.__init__" = true)
    (k_bi : PySem.W.keepIn K (.ref f_bi) = true)
    (l_bf : K.lookup f_bf = some ⟨oc_bf, od_bf, .func (PySem.W.fnOf "facts" "Book.facts" (defArgs s_Book_facts) (defBody s_Book_facts) (defScope s_Book_facts) .none kV_bf dc_bf pm_bf an_bf cd_bf ct_bf), sl_bf⟩)
    (c_bf : PySem.W.codeIn K cd_bf "Book.facts" = true)
    (k_bf : PySem.W.keepIn K (.ref f_bf) = true)
    (l_bs : K.lookup f_bs = some ⟨oc_bs, od_bs, .func (PySem.W.fnOf "rules" "Book.rules" (defArgs s_Book_rules) (defBody s_Book_rules) (defScope s_Book_rules) .none kV_bs dc_bs pm_bs an_bs cd_bs ct_bs), sl_bs⟩)
    (c_bs : PySem.W.codeIn K cd_bs "Book.rules" = true)
    (k_bs : PySem.W.keepIn K (.ref f_bs) = true)
    (l_br : K.lookup f_br = some ⟨oc_br, od_br, .func (PySem.W.fnOf "ruling" "Book.ruling" (defArgs s_Book_ruling) (defBody s_Book_ruling) (defScope s_Book_ruling) .none kV_br dc_br pm_br an_br cd_br ct_br), sl_br⟩)
    (c_br : PySem.W.codeIn K cd_br "Book.ruling" = true)
    (k_br : PySem.W.keepIn K (.ref f_br) = true)
    (l_bq : K.lookup f_bq = some ⟨oc_bq, od_bq, .func (PySem.W.fnOf "rulings" "Book.rulings" (defArgs s_Book_rulings) (defBody s_Book_rulings) (defScope s_Book_rulings) .none kV_bq dc_bq pm_bq an_bq cd_bq ct_bq), sl_bq⟩)
    (c_bq : PySem.W.codeIn K cd_bq "Book.rulings" = true)
    (k_bq : PySem.W.keepIn K (.ref f_bq) = true)
    (l_yi : K.lookup f_yi = some ⟨oc_yi, od_yi, .func (PySem.W.fnOf "__init__" "Seasons.__init__" (defArgs s_Seasons___init__) (defBody s_Seasons___init__) (defScope s_Seasons___init__) .none kV_yi dc_yi pm_yi an_yi cd_yi ct_yi), sl_yi⟩)
    (c_yi : PySem.W.codeIn K cd_yi "Seasons.__init__" = true)
    (k_yi : PySem.W.keepIn K (.ref f_yi) = true)
    (l_yb : K.lookup f_yb = some ⟨oc_yb, od_yb, .func (PySem.W.fnOf "book" "Seasons.book" (defArgs s_Seasons_book) (defBody s_Seasons_book) (defScope s_Seasons_book) .none kV_yb dc_yb pm_yb an_yb cd_yb ct_yb), sl_yb⟩)
    (c_yb : PySem.W.codeIn K cd_yb "Seasons.book" = true)
    (k_yb : PySem.W.keepIn K (.ref f_yb) = true)
    (l_ys : K.lookup f_ys = some ⟨oc_ys, od_ys, .func (PySem.W.fnOf "spans" "Seasons.spans" (defArgs s_Seasons_spans) (defBody s_Seasons_spans) (defScope s_Seasons_spans) .none kV_ys dc_ys pm_ys an_ys cd_ys ct_ys), sl_ys⟩)
    (c_ys : PySem.W.codeIn K cd_ys "Seasons.spans" = true)
    (k_ys : PySem.W.keepIn K (.ref f_ys) = true)
    (l_yp : K.lookup f_yp = some ⟨oc_yp, od_yp, .func (PySem.W.fnOf "period" "Seasons.period" (defArgs s_Seasons_period) (defBody s_Seasons_period) (defScope s_Seasons_period) .none kV_yp dc_yp pm_yp an_yp cd_yp ct_yp), sl_yp⟩)
    (c_yp : PySem.W.codeIn K cd_yp "Seasons.period" = true)
    (k_yp : PySem.W.keepIn K (.ref f_yp) = true)
    (l_ti : K.lookup f_ti = some ⟨oc_ti, od_ti, .func (PySem.W.fnOf "__init__" "Timetable.__init__" (defArgs s_Timetable___init__) (defBody s_Timetable___init__) (defScope s_Timetable___init__) .none kV_ti dc_ti pm_ti an_ti cd_ti ct_ti), sl_ti⟩)
    (c_ti : PySem.W.codeIn K cd_ti "Timetable.__init__" = true)
    (k_ti : PySem.W.keepIn K (.ref f_ti) = true)
    (l_gc : K.lookup f_gc = some ⟨oc_gc, od_gc, .func (PySem.W.fnOf "__contains__" "Book.__contains__" (defArgs s_Book___contains__) (defBody s_Book___contains__) (defScope s_Book___contains__) .none kV_gc dc_gc pm_gc an_gc cd_gc ct_gc), sl_gc⟩)
    (c_gc : PySem.W.codeIn K cd_gc "Book.__contains__" = true)
    (k_gc : PySem.W.keepIn K (.ref f_gc) = true)
    (l_gi : K.lookup f_gi = some ⟨oc_gi, od_gi, .func (PySem.W.fnOf "__getitem__" "Book.__getitem__" (defArgs s_Book___getitem__) (defBody s_Book___getitem__) (defScope s_Book___getitem__) .none kV_gi dc_gi pm_gi an_gi cd_gi ct_gi), sl_gi⟩)
    (c_gi : PySem.W.codeIn K cd_gi "Book.__getitem__" = true)
    (k_gi : PySem.W.keepIn K (.ref f_gi) = true)
    (l_gs : K.lookup f_gs = some ⟨oc_gs, od_gs, .func (PySem.W.fnOf "__sub__" "Book.__sub__" (defArgs s_Book___sub__) (defBody s_Book___sub__) (defScope s_Book___sub__) .none kV_gs dc_gs pm_gs an_gs cd_gs ct_gs), sl_gs⟩)
    (c_gs : PySem.W.codeIn K cd_gs "Book.__sub__" = true)
    (k_gs : PySem.W.keepIn K (.ref f_gs) = true)
    (l_bc : K.lookup f_bc = some ⟨oc_bc, od_bc, .func (PySem.W.fnOf "__call__" "Book.__call__" (defArgs s_Book___call__) (defBody s_Book___call__) (defScope s_Book___call__) .none kV_bc dc_bc pm_bc an_bc cd_bc ct_bc), sl_bc⟩)
    (c_bc : PySem.W.codeIn K cd_bc "Book.__call__" = true)
    (k_bc : PySem.W.keepIn K (.ref f_bc) = true)
    (l_mc : K.lookup f_mc = some ⟨oc_mc, od_mc, .func (PySem.W.fnOf "__call__" "Condition.__call__" (defArgs s_Condition___call__) (defBody s_Condition___call__) (defScope s_Condition___call__) .none kV_mc dc_mc pm_mc an_mc cd_mc ct_mc), sl_mc⟩)
    (c_mc : PySem.W.codeIn K cd_mc "Condition.__call__" = true)
    (k_mc : PySem.W.keepIn K (.ref f_mc) = true)
    (l_yc : K.lookup f_yc = some ⟨oc_yc, od_yc, .func (PySem.W.fnOf "__call__" "Seasons.__call__" (defArgs s_Seasons___call__) (defBody s_Seasons___call__) (defScope s_Seasons___call__) .none kV_yc dc_yc pm_yc an_yc cd_yc ct_yc), sl_yc⟩)
    (c_yc : PySem.W.codeIn K cd_yc "Seasons.__call__" = true)
    (k_yc : PySem.W.keepIn K (.ref f_yc) = true)
    (l_tw : K.lookup f_tw = some ⟨oc_tw, od_tw, .func (PySem.W.fnOf "bits_within" "Timetable.bits_within" (defArgs s_Timetable_bits_within) (defBody s_Timetable_bits_within) (defScope s_Timetable_bits_within) .none kV_tw dc_tw pm_tw an_tw cd_tw ct_tw), sl_tw⟩)
    (c_tw : PySem.W.codeIn K cd_tw "Timetable.bits_within" = true)
    (k_tw : PySem.W.keepIn K (.ref f_tw) = true)
    (l_tm : K.lookup f_tm = some ⟨oc_tm, od_tm, .func (PySem.W.fnOf "met" "Timetable.met" (defArgs s_Timetable_met) (defBody s_Timetable_met) (defScope s_Timetable_met) .none kV_tm dc_tm pm_tm an_tm cd_tm ct_tm), sl_tm⟩)
    (c_tm : PySem.W.codeIn K cd_tm "Timetable.met" = true)
    (k_tm : PySem.W.keepIn K (.ref f_tm) = true)
    (l_to : K.lookup f_to = some ⟨oc_to, od_to, .func (PySem.W.fnOf "ruling_on" "Timetable.ruling_on" (defArgs s_Timetable_ruling_on) (defBody s_Timetable_ruling_on) (defScope s_Timetable_ruling_on) .none kV_to dc_to pm_to an_to cd_to ct_to), sl_to⟩)
    (c_to : PySem.W.codeIn K cd_to "Timetable.ruling_on" = true)
    (k_to : PySem.W.keepIn K (.ref f_to) = true)
    (l_tr : K.lookup f_tr = some ⟨oc_tr, od_tr, .func (PySem.W.fnOf "ruling_by" "Timetable.ruling_by" (defArgs s_Timetable_ruling_by) (defBody s_Timetable_ruling_by) (defScope s_Timetable_ruling_by) .none kV_tr dc_tr pm_tr an_tr cd_tr ct_tr), sl_tr⟩)
    (c_tr : PySem.W.codeIn K cd_tr "Timetable.ruling_by" = true)
    (k_tr : PySem.W.keepIn K (.ref f_tr) = true)
    (l_tl : K.lookup f_tl = some ⟨oc_tl, od_tl, .func (PySem.W.fnOf "lasting" "Timetable.lasting" (defArgs s_Timetable_lasting) (defBody s_Timetable_lasting) (defScope s_Timetable_lasting) .none kV_tl dc_tl pm_tl an_tl cd_tl ct_tl), sl_tl⟩)
    (c_tl : PySem.W.codeIn K cd_tl "Timetable.lasting" = true)
    (k_tl : PySem.W.keepIn K (.ref f_tl) = true)
    (b_isinstance : PySem.W.nsIn K mainGlobals "isinstance" = some none)
    (b_len : PySem.W.nsIn K mainGlobals "len" = some none)
    (b_all : PySem.W.nsIn K mainGlobals "all" = some none)
    (b_any : PySem.W.nsIn K mainGlobals "any" = some none)
    (b_sum : PySem.W.nsIn K mainGlobals "sum" = some none)
    (b_max : PySem.W.nsIn K mainGlobals "max" = some none)
    (b_min : PySem.W.nsIn K mainGlobals "min" = some none)
    (b_int : PySem.W.nsIn K mainGlobals "int" = some none)
    (b_str : PySem.W.nsIn K mainGlobals "str" = some none)
    (b_bool : PySem.W.nsIn K mainGlobals "bool" = some none)
    (b_list : PySem.W.nsIn K mainGlobals "list" = some none)
    (b_tuple : PySem.W.nsIn K mainGlobals "tuple" = some none)
    (b_dict : PySem.W.nsIn K mainGlobals "dict" = some none)
    (b_range : PySem.W.nsIn K mainGlobals "range" = some none)
    (b_enumerate : PySem.W.nsIn K mainGlobals "enumerate" = some none)
    (b_sorted : PySem.W.nsIn K mainGlobals "sorted" = some none)
    (b_reversed : PySem.W.nsIn K mainGlobals "reversed" = some none)
    (b_zip : PySem.W.nsIn K mainGlobals "zip" = some none)
    (b_set : PySem.W.nsIn K mainGlobals "set" = some none)
    (b_ValueError : PySem.W.nsIn K mainGlobals "ValueError" = some none)
    (m_LETTERS : PySem.W.nsIn K mainGlobals "LETTERS" = some (some (.str letters t_LETTERS)))
    (m_LONGEST_NAME : PySem.W.nsIn K mainGlobals "LONGEST_NAME" = some (some (.int 8 t_LONGEST_NAME)))
    (m_MOST_FACTS_facts : PySem.W.nsIn K mainGlobals "MOST_FACTS_facts" = some (some (.int 60 t_MOST_FACTS_facts)))
    (m_MOST_NAMES : PySem.W.nsIn K mainGlobals "MOST_NAMES" = some (some (.int 8 t_MOST_NAMES)))
    (m_MOST_AROUND : PySem.W.nsIn K mainGlobals "MOST_AROUND" = some (some (.int 5 t_MOST_AROUND)))
    (m_MOST_RULES : PySem.W.nsIn K mainGlobals "MOST_RULES" = some (some (.int 60 t_MOST_RULES)))
    (m_MOST_OUTERMOST : PySem.W.nsIn K mainGlobals "MOST_OUTERMOST" = some (some (.int 40 t_MOST_OUTERMOST)))
    (m_LAST_DAY : PySem.W.nsIn K mainGlobals "LAST_DAY" = some (some (.int lastDay t_LAST_DAY)))
    (m_LONGEST_SPAN : PySem.W.nsIn K mainGlobals "LONGEST_SPAN" = some (some (.int 100 t_LONGEST_SPAN)))
    (m_LONGEST_PERIOD : PySem.W.nsIn K mainGlobals "LONGEST_PERIOD" = some (some (.int 5000 t_LONGEST_PERIOD)))
    (m_MOST_FACTS_seasons : PySem.W.nsIn K mainGlobals "MOST_FACTS_seasons" = some (some (.int 10 t_MOST_FACTS_seasons)))
    (m_CourtError : PySem.W.nsIn K mainGlobals "CourtError" = some (some (.ref CE)))
    (m_InvalidFacts : PySem.W.nsIn K mainGlobals "InvalidFacts" = some (some (.ref E0)))
    (m_InvalidCase : PySem.W.nsIn K mainGlobals "InvalidCase" = some (some (.ref E1)))
    (m_InvalidCondition : PySem.W.nsIn K mainGlobals "InvalidCondition" = some (some (.ref E2)))
    (m_InvalidRule : PySem.W.nsIn K mainGlobals "InvalidRule" = some (some (.ref E3)))
    (m_InvalidBook : PySem.W.nsIn K mainGlobals "InvalidBook" = some (some (.ref E4)))
    (m_UnknownRule : PySem.W.nsIn K mainGlobals "UnknownRule" = some (some (.ref E5)))
    (CEbe : PySem.W.subIn K (.ref CE) (.type "BaseException") = some true)
    (CEcl : PySem.W.isClsIn K CE = true)
    (CEty : PySem.W.typeIn K (.ref CE) = some (.type "type"))
    (u_0 : PySem.W.isClsIn K E0 = true)
    (v_0 : PySem.W.typeIn K (.ref E0) = some (.type "type"))
    (u_1 : PySem.W.isClsIn K E1 = true)
    (v_1 : PySem.W.typeIn K (.ref E1) = some (.type "type"))
    (u_2 : PySem.W.isClsIn K E2 = true)
    (v_2 : PySem.W.typeIn K (.ref E2) = some (.type "type"))
    (u_3 : PySem.W.isClsIn K E3 = true)
    (v_3 : PySem.W.typeIn K (.ref E3) = some (.type "type"))
    (u_4 : PySem.W.isClsIn K E4 = true)
    (v_4 : PySem.W.typeIn K (.ref E4) = some (.type "type"))
    (u_5 : PySem.W.isClsIn K E5 = true)
    (v_5 : PySem.W.typeIn K (.ref E5) = some (.type "type"))
    (sg : PySem.W.specialIn K (.builtin "object.__class__") "__get__" = some (some (.builtin "getset_descriptor.__get__")))
    (tk : PySem.W.takesIn K (.builtin "object.__class__") = some true)
    (x_E : K.lookup CE = some (excClassObj nmE qE CE NE bsE bmE true snE suE abE colE ddE x0E x1E x2E x3E x5E "ValueError.__new__"))
    (f_E : PySem.W.findIn K (.ref CE) "__init__" = some (some (.builtin "ValueError.__init__")))
    (noS : PySem.W.nsIn K mainGlobals "super" = some none)
    (opq : PySem.W.nsIn K cStatics "thirdparty.any" = some none)
    (i0_x : K.lookup E0 = some (excClassObj nmi0 qi0 E0 Ni0 bsi0 bmi0 true sni0 sui0 abi0 coli0 ddi0 x0i0 x1i0 x2i0 x3i0 x5i0 "ValueError.__new__"))
    (i0_rv : HandSPX.refsVE bmi0 = true)
    (i0_sa : PySem.W.findIn K (.ref E0) "__setattr__" = some (some (.builtin "object.__setattr__")))
    (i0_ty : PySem.W.typeIn K (.ref E0) = some (.type "type"))
    (i0_kC : PySem.W.keepIn K (.ref E0) = true)
    (i0_in : PySem.W.findIn K (.ref E0) "__init__" = some (some (.ref fIi0)))
    (i0_tI : PySem.W.typeIn K (.ref fIi0) = some (.type "function"))
    (i0_lI : K.lookup fIi0 = some ⟨ocii0, odii0, .func (supFd (nf_InvalidFacts celi0 codi0) kVii0 dcii0 pmii0 anii0 ctii0), slii0⟩)
    (i0_cI : PySem.W.codeIn K (.ref codi0) "InvalidFacts.__init__" = true)
    (i0_ce : K.lookup celi0 = some ⟨clci0, ccddi0, .cell (some (.ref E0)), csli0⟩)
    (i0_co : K.lookup codi0 = some ⟨ccli0, cddi0, .fields vsi0, ccsi0⟩)
    (i0_fi : vsi0[2]? = some (.str fili0 tfii0))
    (i0_fe : ((P.main.file : Str) == fili0) = true)
    (i0_sb : PySem.W.mroIn K E0 (.ref E0) = some true)
    (i0_bm : bmi0 = .ref CE :: bmE)
    (i0_vB : PySem.W.subIn K (.ref E0) (.type "ValueError") = some true)
    (i0_bE : PySem.W.subIn K (.ref E0) (.type "BaseException") = some true)
    (i0_f_index : PySem.W.findIn K (.ref E0) "index" = some none)
    (i1_x : K.lookup E1 = some (excClassObj nmi1 qi1 E1 Ni1 bsi1 bmi1 true sni1 sui1 abi1 coli1 ddi1 x0i1 x1i1 x2i1 x3i1 x5i1 "ValueError.__new__"))
    (i1_rv : HandSPX.refsVE bmi1 = true)
    (i1_sa : PySem.W.findIn K (.ref E1) "__setattr__" = some (some (.builtin "object.__setattr__")))
    (i1_ty : PySem.W.typeIn K (.ref E1) = some (.type "type"))
    (i1_kC : PySem.W.keepIn K (.ref E1) = true)
    (i1_in : PySem.W.findIn K (.ref E1) "__init__" = some (some (.ref fIi1)))
    (i1_tI : PySem.W.typeIn K (.ref fIi1) = some (.type "function"))
    (i1_lI : K.lookup fIi1 = some ⟨ocii1, odii1, .func (supFd (nf_InvalidCase celi1 codi1) kVii1 dcii1 pmii1 anii1 ctii1), slii1⟩)
    (i1_cI : PySem.W.codeIn K (.ref codi1) "InvalidCase.__init__" = true)
    (i1_ce : K.lookup celi1 = some ⟨clci1, ccddi1, .cell (some (.ref E1)), csli1⟩)
    (i1_co : K.lookup codi1 = some ⟨ccli1, cddi1, .fields vsi1, ccsi1⟩)
    (i1_fi : vsi1[2]? = some (.str fili1 tfii1))
    (i1_fe : ((P.main.file : Str) == fili1) = true)
    (i1_sb : PySem.W.mroIn K E1 (.ref E1) = some true)
    (i1_bm : bmi1 = .ref CE :: bmE)
    (i1_vB : PySem.W.subIn K (.ref E1) (.type "ValueError") = some true)
    (i1_bE : PySem.W.subIn K (.ref E1) (.type "BaseException") = some true)
    (i1_f_index : PySem.W.findIn K (.ref E1) "index" = some none)
    (i2_x : K.lookup E2 = some (excClassObj nmi2 qi2 E2 Ni2 bsi2 bmi2 true sni2 sui2 abi2 coli2 ddi2 x0i2 x1i2 x2i2 x3i2 x5i2 "ValueError.__new__"))
    (i2_rv : HandSPX.refsVE bmi2 = true)
    (i2_sa : PySem.W.findIn K (.ref E2) "__setattr__" = some (some (.builtin "object.__setattr__")))
    (i2_ty : PySem.W.typeIn K (.ref E2) = some (.type "type"))
    (i2_kC : PySem.W.keepIn K (.ref E2) = true)
    (i2_in : PySem.W.findIn K (.ref E2) "__init__" = some (some (.ref fIi2)))
    (i2_tI : PySem.W.typeIn K (.ref fIi2) = some (.type "function"))
    (i2_lI : K.lookup fIi2 = some ⟨ocii2, odii2, .func (supFd (nf_InvalidCondition celi2 codi2) kVii2 dcii2 pmii2 anii2 ctii2), slii2⟩)
    (i2_cI : PySem.W.codeIn K (.ref codi2) "InvalidCondition.__init__" = true)
    (i2_ce : K.lookup celi2 = some ⟨clci2, ccddi2, .cell (some (.ref E2)), csli2⟩)
    (i2_co : K.lookup codi2 = some ⟨ccli2, cddi2, .fields vsi2, ccsi2⟩)
    (i2_fi : vsi2[2]? = some (.str fili2 tfii2))
    (i2_fe : ((P.main.file : Str) == fili2) = true)
    (i2_sb : PySem.W.mroIn K E2 (.ref E2) = some true)
    (i2_bm : bmi2 = .ref CE :: bmE)
    (i2_vB : PySem.W.subIn K (.ref E2) (.type "ValueError") = some true)
    (i2_bE : PySem.W.subIn K (.ref E2) (.type "BaseException") = some true)
    (i2_f_part : PySem.W.findIn K (.ref E2) "part" = some none)
    (i2_f_index : PySem.W.findIn K (.ref E2) "index" = some none)
    (i3_x : K.lookup E3 = some (excClassObj nmi3 qi3 E3 Ni3 bsi3 bmi3 true sni3 sui3 abi3 coli3 ddi3 x0i3 x1i3 x2i3 x3i3 x5i3 "ValueError.__new__"))
    (i3_rv : HandSPX.refsVE bmi3 = true)
    (i3_sa : PySem.W.findIn K (.ref E3) "__setattr__" = some (some (.builtin "object.__setattr__")))
    (i3_ty : PySem.W.typeIn K (.ref E3) = some (.type "type"))
    (i3_kC : PySem.W.keepIn K (.ref E3) = true)
    (i3_in : PySem.W.findIn K (.ref E3) "__init__" = some (some (.ref fIi3)))
    (i3_tI : PySem.W.typeIn K (.ref fIi3) = some (.type "function"))
    (i3_lI : K.lookup fIi3 = some ⟨ocii3, odii3, .func (supFd (nf_InvalidRule celi3 codi3) kVii3 dcii3 pmii3 anii3 ctii3), slii3⟩)
    (i3_cI : PySem.W.codeIn K (.ref codi3) "InvalidRule.__init__" = true)
    (i3_ce : K.lookup celi3 = some ⟨clci3, ccddi3, .cell (some (.ref E3)), csli3⟩)
    (i3_co : K.lookup codi3 = some ⟨ccli3, cddi3, .fields vsi3, ccsi3⟩)
    (i3_fi : vsi3[2]? = some (.str fili3 tfii3))
    (i3_fe : ((P.main.file : Str) == fili3) = true)
    (i3_sb : PySem.W.mroIn K E3 (.ref E3) = some true)
    (i3_bm : bmi3 = .ref CE :: bmE)
    (i3_vB : PySem.W.subIn K (.ref E3) (.type "ValueError") = some true)
    (i3_bE : PySem.W.subIn K (.ref E3) (.type "BaseException") = some true)
    (i3_f_part : PySem.W.findIn K (.ref E3) "part" = some none)
    (i4_x : K.lookup E4 = some (excClassObj nmi4 qi4 E4 Ni4 bsi4 bmi4 true sni4 sui4 abi4 coli4 ddi4 x0i4 x1i4 x2i4 x3i4 x5i4 "ValueError.__new__"))
    (i4_rv : HandSPX.refsVE bmi4 = true)
    (i4_sa : PySem.W.findIn K (.ref E4) "__setattr__" = some (some (.builtin "object.__setattr__")))
    (i4_ty : PySem.W.typeIn K (.ref E4) = some (.type "type"))
    (i4_kC : PySem.W.keepIn K (.ref E4) = true)
    (i4_in : PySem.W.findIn K (.ref E4) "__init__" = some (some (.ref fIi4)))
    (i4_tI : PySem.W.typeIn K (.ref fIi4) = some (.type "function"))
    (i4_lI : K.lookup fIi4 = some ⟨ocii4, odii4, .func (supFd (nf_InvalidBook celi4 codi4) kVii4 dcii4 pmii4 anii4 ctii4), slii4⟩)
    (i4_cI : PySem.W.codeIn K (.ref codi4) "InvalidBook.__init__" = true)
    (i4_ce : K.lookup celi4 = some ⟨clci4, ccddi4, .cell (some (.ref E4)), csli4⟩)
    (i4_co : K.lookup codi4 = some ⟨ccli4, cddi4, .fields vsi4, ccsi4⟩)
    (i4_fi : vsi4[2]? = some (.str fili4 tfii4))
    (i4_fe : ((P.main.file : Str) == fili4) = true)
    (i4_sb : PySem.W.mroIn K E4 (.ref E4) = some true)
    (i4_bm : bmi4 = .ref CE :: bmE)
    (i4_vB : PySem.W.subIn K (.ref E4) (.type "ValueError") = some true)
    (i4_bE : PySem.W.subIn K (.ref E4) (.type "BaseException") = some true)
    (i4_f_word : PySem.W.findIn K (.ref E4) "word" = some none)
    (i4_f_index : PySem.W.findIn K (.ref E4) "index" = some none)
    (p5_q : PySem.W.excIn K E5 [.type "ValueError", .type "Exception", .type "BaseException", .type "object"] "ValueError.__new__" = true)
    (p5_k : PySem.W.keepIn K (.ref E5) = true)
    (p5_b : PySem.W.subIn K (.ref E5) (.type "BaseException") = some true)
    (p5_t : PySem.W.typeIn K (.ref E5) = some (.type "type"))
    (top0 : (P.main.scope.names.lookup ("super" : Str)).isSome = false) : LamX.LawAtS l w K CX0 34 63 "_law_script" mg fa h := by
  have e := hfa.symm.trans (PySem.W.mg_of X G a_law)
  cases e
  subst eP
  have B : Blt mg := ⟨PySem.W.mg_none_of X G b_isinstance, PySem.W.mg_none_of X G b_len, PySem.W.mg_none_of X G b_all, PySem.W.mg_none_of X G b_any, PySem.W.mg_none_of X G b_sum, PySem.W.mg_none_of X G b_max, PySem.W.mg_none_of X G b_min, PySem.W.mg_none_of X G b_int, PySem.W.mg_none_of X G b_str, PySem.W.mg_none_of X G b_bool, PySem.W.mg_none_of X G b_list, PySem.W.mg_none_of X G b_tuple, PySem.W.mg_none_of X G b_dict, PySem.W.mg_none_of X G b_range, PySem.W.mg_none_of X G b_enumerate, PySem.W.mg_none_of X G b_sorted, PySem.W.mg_none_of X G b_reversed, PySem.W.mg_none_of X G b_zip, PySem.W.mg_none_of X G b_set, PySem.W.mg_none_of X G b_ValueError⟩
  have F_is_name := fun_mk (st := s_is_name) l_is_name c_is_name k_is_name
  have b_is_name := F_is_name.binds (ps := ["value"]) fun _ _ _ _ _ _ us hl => match us, hl with | [_], _ => rfl
  have F_is_integer := fun_mk (st := s_is_integer) l_is_integer c_is_integer k_is_integer
  have b_is_integer := F_is_integer.binds (ps := ["value"]) fun _ _ _ _ _ _ us hl => match us, hl with | [_], _ => rfl
  have F_rises := fun_mk (st := s_rises) l_rises c_rises k_rises
  have b_rises := F_rises.binds (ps := ["names", "index"]) fun _ _ _ _ _ _ us hl => match us, hl with | [_, _], _ => rfl
  have F_check_facts := fun_mk (st := s_check_facts) l_check_facts c_check_facts k_check_facts
  have b_check_facts := F_check_facts.binds (ps := ["facts"]) fun _ _ _ _ _ _ us hl => match us, hl with | [_], _ => rfl
  have F_nested := fun_mk (st := s_nested) l_nested c_nested k_nested
  have b_nested := F_nested.binds (ps := ["rules", "around"]) fun _ _ _ _ _ _ us hl => match us, hl with | [_, _], _ => rfl
  have F_check_rules := fun_mk (st := s_check_rules) l_check_rules c_check_rules k_check_rules
  have b_check_rules := F_check_rules.binds (ps := ["facts", "rules"]) fun _ _ _ _ _ _ us hl => match us, hl with | [_, _], _ => rfl
  have F_check_part := fun_mk (st := s_check_part) l_check_part c_check_part k_check_part
  have b_check_part := F_check_part.binds (ps := ["part", "names", "before"]) fun _ _ _ _ _ _ us hl => match us, hl with | [_, _, _], _ => rfl
  have F_merged := fun_mk (st := s_merged) l_merged c_merged k_merged
  have b_merged := F_merged.binds (ps := ["names", "others"]) fun _ _ _ _ _ _ us hl => match us, hl with | [_, _], _ => rfl
  have F_replaced := fun_mk (st := s_replaced) l_replaced c_replaced k_replaced
  have b_replaced := F_replaced.binds (ps := ["rules", "name", "others"]) fun _ _ _ _ _ _ us hl => match us, hl with | [_, _, _], _ => rfl
  have F_is_day := fun_mk (st := s_is_day) l_is_day c_is_day k_is_day
  have b_is_day := F_is_day.binds (ps := ["value"]) fun _ _ _ _ _ _ us hl => match us, hl with | [_], _ => rfl
  have F_check_day := fun_mk (st := s_check_day) l_check_day c_check_day k_check_day
  have b_check_day := F_check_day.binds (ps := ["value"]) fun _ _ _ _ _ _ us hl => match us, hl with | [_], _ => rfl
  have F_check_word := fun_mk (st := s_check_word) l_check_word c_check_word k_check_word
  have b_check_word := F_check_word.binds (ps := ["ruling"]) fun _ _ _ _ _ _ us hl => match us, hl with | [_], _ => rfl
  have F_check_case := fun_mk (st := s_check_case) l_check_case c_check_case k_check_case
  have b_check_case := F_check_case.binds (ps := ["facts", "case"]) fun _ _ _ _ _ _ us hl => match us, hl with | [_, _], _ => rfl
  have F_up_to_first_met := fun_mk (st := s_up_to_first_met) l_up_to_first_met c_up_to_first_met k_up_to_first_met
  have b_up_to_first_met := F_up_to_first_met.binds (ps := ["rules", "case"]) fun _ _ _ _ _ _ us hl => match us, hl with | [_, _], _ => rfl
  have F_steps := fun_mk (st := s_steps) l_steps c_steps k_steps
  have b_steps := F_steps.binds (ps := ["rules", "case"]) fun _ _ _ _ _ _ us hl => match us, hl with | [_, _], _ => rfl
  have F_looked_into := fun_mk (st := s_looked_into) l_looked_into c_looked_into k_looked_into
  have b_looked_into := F_looked_into.binds (ps := ["rules", "case"]) fun _ _ _ _ _ _ us hl => match us, hl with | [_, _], _ => rfl
  have F_is_span := fun_mk (st := s_is_span) l_is_span c_is_span k_is_span
  have b_is_span := F_is_span.binds (ps := ["value"]) fun _ _ _ _ _ _ us hl => match us, hl with | [_], _ => rfl
  have F_in_span := fun_mk (st := s_in_span) l_in_span c_in_span k_in_span
  have b_in_span := F_in_span.binds (ps := ["span", "day"]) fun _ _ _ _ _ _ us hl => match us, hl with | [_, _], _ => rfl
  have F_check_spans := fun_mk (st := s_check_spans) l_check_spans c_check_spans k_check_spans
  have b_check_spans := F_check_spans.binds (ps := ["book", "spans"]) fun _ _ _ _ _ _ us hl => match us, hl with | [_, _], _ => rfl
  have F_bits_of := fun_mk (st := s_bits_of) l_bits_of c_bits_of k_bits_of
  have b_bits_of := F_bits_of.binds (ps := ["facts", "names"]) fun _ _ _ _ _ _ us hl => match us, hl with | [_, _], _ => rfl
  have F_cube_of := fun_mk (st := s_cube_of) l_cube_of c_cube_of k_cube_of
  have b_cube_of := F_cube_of.binds (ps := ["facts", "condition"]) fun _ _ _ _ _ _ us hl => match us, hl with | [_, _], _ => rfl
  have F_clash := fun_mk (st := s_clash) l_clash c_clash k_clash
  have b_clash := F_clash.binds (ps := ["cube", "other"]) fun _ _ _ _ _ _ us hl => match us, hl with | [_, _], _ => rfl
  have F_meets := fun_mk (st := s_meets) l_meets c_meets k_meets
  have b_meets := F_meets.binds (ps := ["number", "cube"]) fun _ _ _ _ _ _ us hl => match us, hl with | [_, _], _ => rfl
  have F_joined := fun_mk (st := s_joined) l_joined c_joined k_joined
  have b_joined := F_joined.binds (ps := ["cube", "other"]) fun _ _ _ _ _ _ us hl => match us, hl with | [_, _], _ => rfl
  have F_rows_within := fun_mk (st := s_rows_within) l_rows_within c_rows_within k_rows_within
  have b_rows_within := F_rows_within.binds (ps := ["facts", "rules", "around"]) fun _ _ _ _ _ _ us hl => match us, hl with | [_, _, _], _ => rfl
  have F_rows_of := fun_mk (st := s_rows_of) l_rows_of c_rows_of k_rows_of
  have b_rows_of := F_rows_of.binds (ps := ["book"]) fun _ _ _ _ _ _ us hl => match us, hl with | [_], _ => rfl
  have F_names_in := fun_mk (st := s_names_in) l_names_in c_names_in k_names_in
  have b_names_in := F_names_in.binds (ps := ["rule"]) fun _ _ _ _ _ _ us hl => match us, hl with | [_], _ => rfl
  have F_forces_of_period := fun_mk (st := s_forces_of_period) l_forces_of_period c_forces_of_period k_forces_of_period
  have b_forces_of_period := F_forces_of_period.binds (ps := ["seasons", "table"]) fun _ _ _ _ _ _ us hl => match us, hl with | [_, _], _ => rfl
  have F_rulings_of_period := fun_mk (st := s_rulings_of_period) l_rulings_of_period c_rulings_of_period k_rulings_of_period
  have b_rulings_of_period := F_rulings_of_period.binds (ps := ["seasons", "case"]) fun _ _ _ _ _ _ us hl => match us, hl with | [_, _], _ => rfl
  have F_check_period := fun_mk (st := s_check_period) l_check_period c_check_period k_check_period
  have b_check_period := F_check_period.binds (ps := ["seasons"]) fun _ _ _ _ _ _ us hl => match us, hl with | [_], _ => rfl
  have F_next_day := fun_mk (st := s_next_day) l_next_day c_next_day k_next_day
  have b_next_day := F_next_day.binds (ps := ["seasons", "case", "ruling", "day"]) fun _ _ _ _ _ _ us hl => match us, hl with | [_, _, _, _], _ => rfl
  have F_count_rulings := fun_mk (st := s_count_rulings) l_count_rulings c_count_rulings k_count_rulings
  have b_count_rulings := F_count_rulings.binds (ps := ["seasons", "case", "days"]) fun _ _ _ _ _ _ us hl => match us, hl with | [_, _, _], _ => rfl
  have F_always := fun_mk (st := s_always) l_always c_always k_always
  have b_always := F_always.binds (ps := ["seasons"]) fun _ _ _ _ _ _ us hl => match us, hl with | [_], _ => rfl
  have F__law_mix := fun_mk (st := s__law_mix) l__law_mix c__law_mix k__law_mix
  have b__law_mix := F__law_mix.binds (ps := ["_law_script", "_law_seed"]) fun _ _ _ _ _ _ us hl => match us, hl with | [_, _], _ => rfl
  have F__law_next := fun_mk (st := s__law_next) l__law_next c__law_next k__law_next
  have b__law_next := F__law_next.binds (ps := ["_law_h", "_law_limit"]) fun _ _ _ _ _ _ us hl => match us, hl with | [_, _], _ => rfl
  have F__law_facts := fun_mk (st := s__law_facts) l__law_facts c__law_facts k__law_facts
  have b__law_facts := F__law_facts.binds (ps := ["_law_h", "_law_most"]) fun _ _ _ _ _ _ us hl => match us, hl with | [_, _], _ => rfl
  have F__law_sides := fun_mk (st := s__law_sides) l__law_sides c__law_sides k__law_sides
  have b__law_sides := F__law_sides.binds (ps := ["_law_h", "_law_facts_here", "_law_most"]) fun _ _ _ _ _ _ us hl => match us, hl with | [_, _, _], _ => rfl
  have F__law_rule := fun_mk (st := s__law_rule) l__law_rule c__law_rule k__law_rule
  have b__law_rule := F__law_rule.binds (ps := ["_law_h", "_law_facts_here", "_law_names", "_law_deep"]) fun _ _ _ _ _ _ us hl => match us, hl with | [_, _, _, _], _ => rfl
  have F__law_drawn := fun_mk (st := s__law_drawn) l__law_drawn c__law_drawn k__law_drawn
  have b__law_drawn := F__law_drawn.binds (ps := ["_law_h", "_law_facts_here", "_law_most"]) fun _ _ _ _ _ _ us hl => match us, hl with | [_, _, _], _ => rfl
  have F__law_made := fun_mk (st := s__law_made) l__law_made c__law_made k__law_made
  have b__law_made := F__law_made.binds (ps := ["_law_rules"]) fun _ _ _ _ _ _ us hl => match us, hl with | [_], _ => rfl
  have F__law_book := fun_mk (st := s__law_book) l__law_book c__law_book k__law_book
  have b__law_book := F__law_book.binds (ps := ["_law_drawn_here"]) fun _ _ _ _ _ _ us hl => match us, hl with | [_], _ => rfl
  have F__law_all := fun_mk (st := s__law_all) l__law_all c__law_all k__law_all
  have b__law_all := F__law_all.binds (ps := ["_law_rules"]) fun _ _ _ _ _ _ us hl => match us, hl with | [_], _ => rfl
  have F__law_spans := fun_mk (st := s__law_spans) l__law_spans c__law_spans k__law_spans
  have b__law_spans := F__law_spans.binds (ps := ["_law_h", "_law_drawn_here"]) fun _ _ _ _ _ _ us hl => match us, hl with | [_, _], _ => rfl
  have F__law_two := fun_mk (st := s__law_two) l__law_two c__law_two k__law_two
  have b__law_two := F__law_two.binds (ps := ["_law_count"]) fun _ _ _ _ _ _ us hl => match us, hl with | [_], _ => rfl
  have F__law_case := fun_mk (st := s__law_case) l__law_case c__law_case k__law_case
  have b__law_case := F__law_case.binds (ps := ["_law_facts_here", "_law_number"]) fun _ _ _ _ _ _ us hl => match us, hl with | [_, _], _ => rfl
  have ox_InvalidFacts : OexC K E0 := ⟨⟨_, _, _, _, _, _, _, _, _, _, _, _, _, _, _, i0_x, i0_rv⟩, i0_sa, i0_bE, i0_ty, i0_kC⟩
  have sp_InvalidFacts : SupC l.prog K mg E0 celi0 codi0 := ⟨⟨_, _, _, i0_ce⟩, ⟨_, _, _, _, _, _, i0_co, i0_fi, i0_fe⟩, i0_sb, PySem.W.mg_none_of X G noS, opq, sup_by i0_x x_E i0_bm f_E, i0_vB, top0⟩
  have ox_InvalidCase : OexC K E1 := ⟨⟨_, _, _, _, _, _, _, _, _, _, _, _, _, _, _, i1_x, i1_rv⟩, i1_sa, i1_bE, i1_ty, i1_kC⟩
  have sp_InvalidCase : SupC l.prog K mg E1 celi1 codi1 := ⟨⟨_, _, _, i1_ce⟩, ⟨_, _, _, _, _, _, i1_co, i1_fi, i1_fe⟩, i1_sb, PySem.W.mg_none_of X G noS, opq, sup_by i1_x x_E i1_bm f_E, i1_vB, top0⟩
  have ox_InvalidCondition : OexC K E2 := ⟨⟨_, _, _, _, _, _, _, _, _, _, _, _, _, _, _, i2_x, i2_rv⟩, i2_sa, i2_bE, i2_ty, i2_kC⟩
  have sp_InvalidCondition : SupC l.prog K mg E2 celi2 codi2 := ⟨⟨_, _, _, i2_ce⟩, ⟨_, _, _, _, _, _, i2_co, i2_fi, i2_fe⟩, i2_sb, PySem.W.mg_none_of X G noS, opq, sup_by i2_x x_E i2_bm f_E, i2_vB, top0⟩
  have ox_InvalidRule : OexC K E3 := ⟨⟨_, _, _, _, _, _, _, _, _, _, _, _, _, _, _, i3_x, i3_rv⟩, i3_sa, i3_bE, i3_ty, i3_kC⟩
  have sp_InvalidRule : SupC l.prog K mg E3 celi3 codi3 := ⟨⟨_, _, _, i3_ce⟩, ⟨_, _, _, _, _, _, i3_co, i3_fi, i3_fe⟩, i3_sb, PySem.W.mg_none_of X G noS, opq, sup_by i3_x x_E i3_bm f_E, i3_vB, top0⟩
  have ox_InvalidBook : OexC K E4 := ⟨⟨_, _, _, _, _, _, _, _, _, _, _, _, _, _, _, i4_x, i4_rv⟩, i4_sa, i4_bE, i4_ty, i4_kC⟩
  have sp_InvalidBook : SupC l.prog K mg E4 celi4 codi4 := ⟨⟨_, _, _, i4_ce⟩, ⟨_, _, _, _, _, _, i4_co, i4_fi, i4_fe⟩, i4_sb, PySem.W.mg_none_of X G noS, opq, sup_by i4_x x_E i4_bm f_E, i4_vB, top0⟩
  have F_mi := fun_mk (st := s_Condition___init__) l_mi c_mi k_mi
  have b_mi := F_mi.binds (ps := ["self", "holding", "failing"]) fun _ _ _ _ _ _ us hl => match us, hl with | [_, _, _], _ => rfl
  have F_mh := fun_mk (st := s_Condition_holding) l_mh c_mh k_mh
  have b_mh := F_mh.binds (ps := ["self"]) fun _ _ _ _ _ _ us hl => match us, hl with | [_], _ => rfl
  have F_mf := fun_mk (st := s_Condition_failing) l_mf c_mf k_mf
  have b_mf := F_mf.binds (ps := ["self"]) fun _ _ _ _ _ _ us hl => match us, hl with | [_], _ => rfl
  have F_mn := fun_mk (st := s_Condition_names) l_mn c_mn k_mn
  have b_mn := F_mn.binds (ps := ["self"]) fun _ _ _ _ _ _ us hl => match us, hl with | [_], _ => rfl
  have F_ri := fun_mk (st := s_Rule___init__) l_ri c_ri k_ri
  have b_ri := F_ri.binds (ps := ["self", "name", "condition", "ruling", "exceptions"]) fun _ _ _ _ _ _ us hl => match us, hl with | [_, _, _, _, _], _ => rfl
  have F_rn := fun_mk (st := s_Rule_name) l_rn c_rn k_rn
  have b_rn := F_rn.binds (ps := ["self"]) fun _ _ _ _ _ _ us hl => match us, hl with | [_], _ => rfl
  have F_rc := fun_mk (st := s_Rule_condition) l_rc c_rc k_rc
  have b_rc := F_rc.binds (ps := ["self"]) fun _ _ _ _ _ _ us hl => match us, hl with | [_], _ => rfl
  have F_rr := fun_mk (st := s_Rule_ruling) l_rr c_rr k_rr
  have b_rr := F_rr.binds (ps := ["self"]) fun _ _ _ _ _ _ us hl => match us, hl with | [_], _ => rfl
  have F_re := fun_mk (st := s_Rule_exceptions) l_re c_re k_re
  have b_re := F_re.binds (ps := ["self"]) fun _ _ _ _ _ _ us hl => match us, hl with | [_], _ => rfl
  have F_rd := fun_mk (st := s_Rule_depth) l_rd c_rd k_rd
  have b_rd := F_rd.binds (ps := ["self"]) fun _ _ _ _ _ _ us hl => match us, hl with | [_], _ => rfl
  have F_bi := fun_mk (st := s_Book___init__) l_bi c_bi k_bi
  have b_bi := F_bi.binds (ps := ["self", "facts", "rules", "ruling"]) fun _ _ _ _ _ _ us hl => match us, hl with | [_, _, _, _], _ => rfl
  have F_bf := fun_mk (st := s_Book_facts) l_bf c_bf k_bf
  have b_bf := F_bf.binds (ps := ["self"]) fun _ _ _ _ _ _ us hl => match us, hl with | [_], _ => rfl
  have F_bs := fun_mk (st := s_Book_rules) l_bs c_bs k_bs
  have b_bs := F_bs.binds (ps := ["self"]) fun _ _ _ _ _ _ us hl => match us, hl with | [_], _ => rfl
  have F_br := fun_mk (st := s_Book_ruling) l_br c_br k_br
  have b_br := F_br.binds (ps := ["self"]) fun _ _ _ _ _ _ us hl => match us, hl with | [_], _ => rfl
  have F_bq := fun_mk (st := s_Book_rulings) l_bq c_bq k_bq
  have b_bq := F_bq.binds (ps := ["self"]) fun _ _ _ _ _ _ us hl => match us, hl with | [_], _ => rfl
  have F_yi := fun_mk (st := s_Seasons___init__) l_yi c_yi k_yi
  have b_yi := F_yi.binds (ps := ["self", "book", "spans"]) fun _ _ _ _ _ _ us hl => match us, hl with | [_, _, _], _ => rfl
  have F_yb := fun_mk (st := s_Seasons_book) l_yb c_yb k_yb
  have b_yb := F_yb.binds (ps := ["self"]) fun _ _ _ _ _ _ us hl => match us, hl with | [_], _ => rfl
  have F_ys := fun_mk (st := s_Seasons_spans) l_ys c_ys k_ys
  have b_ys := F_ys.binds (ps := ["self"]) fun _ _ _ _ _ _ us hl => match us, hl with | [_], _ => rfl
  have F_yp := fun_mk (st := s_Seasons_period) l_yp c_yp k_yp
  have b_yp := F_yp.binds (ps := ["self"]) fun _ _ _ _ _ _ us hl => match us, hl with | [_], _ => rfl
  have F_ti := fun_mk (st := s_Timetable___init__) l_ti c_ti k_ti
  have b_ti := F_ti.binds (ps := ["self", "book"]) fun _ _ _ _ _ _ us hl => match us, hl with | [_, _], _ => rfl
  have F_gc := fun_mk (st := s_Book___contains__) l_gc c_gc k_gc
  have b_gc := F_gc.binds (ps := ["self", "name"]) fun _ _ _ _ _ _ us hl => match us, hl with | [_, _], _ => rfl
  have F_gi := fun_mk (st := s_Book___getitem__) l_gi c_gi k_gi
  have b_gi := F_gi.binds (ps := ["self", "name"]) fun _ _ _ _ _ _ us hl => match us, hl with | [_, _], _ => rfl
  have F_gs := fun_mk (st := s_Book___sub__) l_gs c_gs k_gs
  have b_gs := F_gs.binds (ps := ["self", "name"]) fun _ _ _ _ _ _ us hl => match us, hl with | [_, _], _ => rfl
  have F_bc := fun_mk (st := s_Book___call__) l_bc c_bc k_bc
  have b_bc := F_bc.binds (ps := ["self", "case"]) fun _ _ _ _ _ _ us hl => match us, hl with | [_, _], _ => rfl
  have F_mc := fun_mk (st := s_Condition___call__) l_mc c_mc k_mc
  have b_mc := F_mc.binds (ps := ["self", "case"]) fun _ _ _ _ _ _ us hl => match us, hl with | [_, _], _ => rfl
  have F_yc := fun_mk (st := s_Seasons___call__) l_yc c_yc k_yc
  have b_yc := F_yc.binds (ps := ["self", "day"]) fun _ _ _ _ _ _ us hl => match us, hl with | [_, _], _ => rfl
  have F_tw := fun_mk (st := s_Timetable_bits_within) l_tw c_tw k_tw
  have b_tw := F_tw.binds (ps := ["self", "name"]) fun _ _ _ _ _ _ us hl => match us, hl with | [_, _], _ => rfl
  have F_tm := fun_mk (st := s_Timetable_met) l_tm c_tm k_tm
  have b_tm := F_tm.binds (ps := ["self", "number"]) fun _ _ _ _ _ _ us hl => match us, hl with | [_, _], _ => rfl
  have F_to := fun_mk (st := s_Timetable_ruling_on) l_to c_to k_to
  have b_to := F_to.binds (ps := ["self", "number", "force"]) fun _ _ _ _ _ _ us hl => match us, hl with | [_, _, _], _ => rfl
  have F_tr := fun_mk (st := s_Timetable_ruling_by) l_tr c_tr k_tr
  have b_tr := F_tr.binds (ps := ["self", "bits"]) fun _ _ _ _ _ _ us hl => match us, hl with | [_, _], _ => rfl
  have F_tl := fun_mk (st := s_Timetable_lasting) l_tl c_tl k_tl
  have b_tl := F_tl.binds (ps := ["self", "number", "forces"]) fun _ _ _ _ _ _ us hl => match us, hl with | [_, _, _], _ => rfl
  have GN : GNames mg := ⟨⟨_, PySem.W.mg_of X G m_LETTERS⟩, ⟨_, PySem.W.mg_of X G m_LONGEST_NAME⟩⟩
  have CLc : Cls K CO := ⟨co_pg, co_hd, co_po, co_sa⟩
  have CLr : Cls K RO := ⟨ro_pg, ro_hd, ro_po, ro_sa⟩
  have CLb : Cls K BO := ⟨bo_pg, bo_hd, bo_po, bo_sa⟩
  have CLy : Cls K SE := ⟨yo_pg, yo_hd, yo_po, yo_sa⟩
  have CLt : Cls K TT := ⟨to_pg, to_hd, to_po, to_sa⟩
  refine ⟨PySem.W.fnOf "law" "law" (defArgs s_law) (defBody s_law) (defScope s_law) .none kV_law dc_law pm_law an_law (.ref cc_law) ct_law, [], sp_law K, (fun _ h => nomatch h), (fun _ h => nomatch h), (fun _ h => nomatch h), ?_, ?_, ?_⟩
  · exact fun s u => .of_eq rfl
  · exact fun H a ns hl hb ht hS => ⟨a, ns, rfl, hS, hl, hb, fun _ => rfl⟩
  · intro base KB NB TBs
    have e_InvalidFacts : ErrMk l.prog w K mg base "InvalidFacts" E0 ["self", "index"] (sp_init1 E0 "index") := ⟨_, _, ox_InvalidFacts, i0_in, i0_tI, ok_init_InvalidFacts i0_lI i0_cI ox_InvalidFacts sp_InvalidFacts i0_f_index, fun s us _ hl => match us, hl with | [_, _], _ => .of_eq rfl, PySem.W.mg_of X G m_InvalidFacts⟩
    have e_InvalidCase : ErrMk l.prog w K mg base "InvalidCase" E1 ["self", "index"] (sp_init1 E1 "index") := ⟨_, _, ox_InvalidCase, i1_in, i1_tI, ok_init_InvalidCase i1_lI i1_cI ox_InvalidCase sp_InvalidCase i1_f_index, fun s us _ hl => match us, hl with | [_, _], _ => .of_eq rfl, PySem.W.mg_of X G m_InvalidCase⟩
    have e_InvalidCondition : ErrMk l.prog w K mg base "InvalidCondition" E2 ["self", "part", "index"] (sp_init2 E2 "part" "index") := ⟨_, _, ox_InvalidCondition, i2_in, i2_tI, ok_init_InvalidCondition i2_lI i2_cI ox_InvalidCondition sp_InvalidCondition i2_f_part i2_f_index, fun s us _ hl => match us, hl with | [_, _, _], _ => .of_eq rfl, PySem.W.mg_of X G m_InvalidCondition⟩
    have e_InvalidRule : ErrMk l.prog w K mg base "InvalidRule" E3 ["self", "part"] (sp_init1 E3 "part") := ⟨_, _, ox_InvalidRule, i3_in, i3_tI, ok_init_InvalidRule i3_lI i3_cI ox_InvalidRule sp_InvalidRule i3_f_part, fun s us _ hl => match us, hl with | [_, _], _ => .of_eq rfl, PySem.W.mg_of X G m_InvalidRule⟩
    have e_InvalidBook : ErrMk l.prog w K mg base "InvalidBook" E4 ["self", "word", "index"] (sp_init2 E4 "word" "index") := ⟨_, _, ox_InvalidBook, i4_in, i4_tI, ok_init_InvalidBook i4_lI i4_cI ox_InvalidBook sp_InvalidBook i4_f_word i4_f_index, fun s us _ hl => match us, hl with | [_, _, _], _ => .of_eq rfl, PySem.W.mg_of X G m_InvalidBook⟩
    have e_UnknownRule : ErrMk0 K mg "UnknownRule" E5 := ⟨p5_q, PySem.W.mg_of X G m_UnknownRule, p5_k, p5_b, p5_t⟩
    have c_is_name : Cal l.prog w K mg base CX0 1 "is_name" ["value"] (sp_is_name) := ⟨_, _, (ok_is_name F_is_name B GN), PySem.W.mg_of X G a_is_name, k_is_name, b_is_name⟩
    have c_is_integer : Cal l.prog w K mg base CX0 1 "is_integer" ["value"] (sp_is_integer K) := ⟨_, _, (ok_is_integer F_is_integer B), PySem.W.mg_of X G a_is_integer, k_is_integer, b_is_integer⟩
    have c_rises : Cal l.prog w K mg base CX0 1 "rises" ["names", "index"] (sp_rises K) := ⟨_, _, (ok_rises F_rises ), PySem.W.mg_of X G a_rises, k_rises, b_rises⟩
    have c_check_facts : Cal l.prog w K mg base (L2.CX l.prog w) 3 "check_facts" ["facts"] (sp_check_facts K E0) := ⟨_, _, (ok_check_facts F_check_facts B ⟨_, PySem.W.mg_of X G m_MOST_FACTS_facts⟩ e_InvalidFacts c_is_name c_rises), PySem.W.mg_of X G a_check_facts, k_check_facts, b_check_facts⟩
    have c_check_case : Cal l.prog w K mg base (L2.CX l.prog w) 3 "check_case" ["facts", "case"] (sp_check_case K E1) := ⟨_, _, (ok_check_case F_check_case B e_InvalidCase c_rises), PySem.W.mg_of X G a_check_case, k_check_case, b_check_case⟩
    have c_check_part : Cal l.prog w K mg base (L2.CX l.prog w) 3 "check_part" ["part", "names", "before"] (sp_check_part K E2) := ⟨_, _, (ok_check_part F_check_part B ⟨_, PySem.W.mg_of X G m_MOST_NAMES⟩ e_InvalidCondition c_is_name c_rises), PySem.W.mg_of X G a_check_part, k_check_part, b_check_part⟩
    have c_merged : Cal l.prog w K mg base CX0 1 "merged" ["names", "others"] (sp_merged K) := ⟨_, _, (ok_merged F_merged B), PySem.W.mg_of X G a_merged, k_merged, b_merged⟩
    have pc_mh : PropC l.prog w K mg base CO pp_mh f_mh _ "holding" "_holding" := ⟨⟨pa_mh, pg_mh, pt_mh, ⟨_, pr_mh⟩⟩, ok_holding F_mh CLc co_n1, b_mh⟩
    have pc_mf : PropC l.prog w K mg base CO pp_mf f_mf _ "failing" "_failing" := ⟨⟨pa_mf, pg_mf, pt_mf, ⟨_, pr_mf⟩⟩, ok_failing F_mf CLc co_n2, b_mf⟩
    have pc_mn : PropC l.prog w K mg base CO pp_mn f_mn _ "names" "_names" := ⟨⟨pa_mn, pg_mn, pt_mn, ⟨_, pr_mn⟩⟩, ok_cnames F_mn CLc co_n3, b_mn⟩
    have pc_rn : PropC l.prog w K mg base RO pp_rn f_rn _ "name" "_name" := ⟨⟨pa_rn, pg_rn, pt_rn, ⟨_, pr_rn⟩⟩, ok_Rule_name F_rn CLr ro_n1, b_rn⟩
    have pc_rc : PropC l.prog w K mg base RO pp_rc f_rc _ "condition" "_condition" := ⟨⟨pa_rc, pg_rc, pt_rc, ⟨_, pr_rc⟩⟩, ok_Rule_condition F_rc CLr ro_n2, b_rc⟩
    have pc_rr : PropC l.prog w K mg base RO pp_rr f_rr _ "ruling" "_ruling" := ⟨⟨pa_rr, pg_rr, pt_rr, ⟨_, pr_rr⟩⟩, ok_Rule_ruling F_rr CLr ro_n3, b_rr⟩
    have pc_re : PropC l.prog w K mg base RO pp_re f_re _ "exceptions" "_exceptions" := ⟨⟨pa_re, pg_re, pt_re, ⟨_, pr_re⟩⟩, ok_Rule_exceptions F_re CLr ro_n4, b_re⟩
    have pc_rd : PropC l.prog w K mg base RO pp_rd f_rd _ "depth" "_depth" := ⟨⟨pa_rd, pg_rd, pt_rd, ⟨_, pr_rd⟩⟩, ok_Rule_depth F_rd CLr ro_n5, b_rd⟩
    have pc_bf : PropC l.prog w K mg base BO pp_bf f_bf _ "facts" "_facts" := ⟨⟨pa_bf, pg_bf, pt_bf, ⟨_, pr_bf⟩⟩, ok_Book_facts F_bf CLb bo_n1, b_bf⟩
    have pc_bs : PropC l.prog w K mg base BO pp_bs f_bs _ "rules" "_rules" := ⟨⟨pa_bs, pg_bs, pt_bs, ⟨_, pr_bs⟩⟩, ok_Book_rules F_bs CLb bo_n2, b_bs⟩
    have pc_br : PropC l.prog w K mg base BO pp_br f_br _ "ruling" "_ruling" := ⟨⟨pa_br, pg_br, pt_br, ⟨_, pr_br⟩⟩, ok_Book_ruling F_br CLb bo_n3, b_br⟩
    have kK : CondG l.prog w K mg base CO := ⟨CLc, ⟨_, _, _, pc_mh⟩, ⟨_, _, _, pc_mf⟩, ⟨_, _, _, pc_mn⟩⟩
    have kR : RuleX l.prog w K mg base RO := ⟨CLr, ⟨_, _, _, pc_rn⟩, ⟨_, _, _, pc_rc⟩, ⟨_, _, _, pc_rr⟩, ⟨_, _, _, pc_re⟩, ⟨_, _, _, pc_rd⟩⟩
    have kB : BookX l.prog w K mg base BO := ⟨CLb, ⟨_, _, _, pc_bf⟩, ⟨_, _, _, pc_bs⟩, ⟨_, _, _, pc_br⟩⟩
    have c_nested : Cal l.prog w K mg base CX0 15 "nested" ["rules", "around"] (sp_nested K CO RO 12) := ⟨_, _, rec_all (S := sp_nested K CO RO) (k := 2) (fun d c => ok_nested F_nested kR c) (PySem.W.mg_of X G a_nested) k_nested b_nested 12, PySem.W.mg_of X G a_nested, k_nested, b_nested⟩
    have c_check_rules : Cal l.prog w K mg base (L2.CX l.prog w) 16 "check_rules" ["facts", "rules"] (sp_check_rules K CO RO E4) := ⟨_, _, (ok_check_rules F_check_rules B kR kK (PySem.W.mg_of X G m_MOST_AROUND) (PySem.W.mg_of X G m_MOST_RULES) (PySem.W.mg_of X G m_MOST_OUTERMOST) e_InvalidBook c_nested), PySem.W.mg_of X G a_check_rules, k_check_rules, b_check_rules⟩
    have kM : Mkr l.prog w K mg base 4 "Condition" CO ["self", "holding", "failing"] (sp_cond_init K CO E2) := ⟨_, _, ⟨co_mk, co_in, co_fn, co_kp⟩, ok_cond_init F_mi B CLc co_n1 co_n2 co_n3 c_check_part c_merged, PySem.W.mg_of X G co, b_mi⟩
    have kRM : Mkr l.prog w K mg base 16 "Rule" RO ["self", "name", "condition", "ruling", "exceptions"] (sp_rule_init K CO RO E3) := ⟨_, _, ⟨ro_mk, ro_in, ro_fn, ro_kp⟩, ok_rule_init F_ri B CLr ro_n1 ro_n2 ro_n3 ro_n4 ro_n5 ro_n6 kR e_InvalidRule c_is_name c_nested, PySem.W.mg_of X G ro, b_ri⟩
    have kBM : Mkr l.prog w K mg base 17 "Book" BO ["self", "facts", "rules", "ruling"] (sp_book_init K CO RO BO E0 E4) := ⟨_, _, ⟨bo_mk, bo_in, bo_fn, bo_kp⟩, ok_book_init F_bi B CLb bo_n1 bo_n2 bo_n3 bo_n4 e_InvalidBook c_is_name c_nested c_check_facts c_check_rules, PySem.W.mg_of X G bo, b_bi⟩
    have kW : CondW l.prog w K mg base CO := ⟨kK, ⟨_, _, at_mc, fn_mc, fi_mc, ok_ccall F_mc B CLc co_n1 co_n2, b_mc⟩⟩
    have c_up_to_first_met : Cal l.prog w K mg base CX0 6 "up_to_first_met" ["rules", "case"] (sp_upto K CO RO) := ⟨_, _, (ok_upto F_up_to_first_met B kR kW), PySem.W.mg_of X G a_up_to_first_met, k_up_to_first_met, b_up_to_first_met⟩
    have c_steps : Cal l.prog w K mg base CX0 8 "steps" ["rules", "case"] (sp_steps K CO RO) := ⟨_, _, (ok_steps F_steps B kR c_up_to_first_met), PySem.W.mg_of X G a_steps, k_steps, b_steps⟩
    have c_looked_into : Cal l.prog w K mg base CX0 9 "looked_into" ["rules", "case"] (sp_looked K CO RO) := ⟨_, _, (ok_looked F_looked_into B c_steps), PySem.W.mg_of X G a_looked_into, k_looked_into, b_looked_into⟩
    have c__law_mix : Cal l.prog w K mg base CX0 1 "_law_mix" ["_law_script", "_law_seed"] (sp_mix K) := ⟨_, _, (ok_mix F__law_mix B), PySem.W.mg_of X G a__law_mix, k__law_mix, b__law_mix⟩
    have c__law_next : Cal l.prog w K mg base CX0 1 "_law_next" ["_law_h", "_law_limit"] (sp_next) := ⟨_, _, (ok_next F__law_next B), PySem.W.mg_of X G a__law_next, k__law_next, b__law_next⟩
    have c__law_facts : Cal l.prog w K mg base CX0 2 "_law_facts" ["_law_h", "_law_most"] (sp_facts) := ⟨_, _, (ok_facts F__law_facts B c__law_next), PySem.W.mg_of X G a__law_facts, k__law_facts, b__law_facts⟩
    have c__law_sides : Cal l.prog w K mg base CX0 2 "_law_sides" ["_law_h", "_law_facts_here", "_law_most"] (sp_sides K) := ⟨_, _, (ok_sides F__law_sides B c__law_next), PySem.W.mg_of X G a__law_sides, k__law_sides, b__law_sides⟩
    have c__law_rule : Cal l.prog w K mg base CX0 5 "_law_rule" ["_law_h", "_law_facts_here", "_law_names", "_law_deep"] (sp_rule2 K 2) := ⟨_, _, rec_all (S := sp_rule2 K) (k := 2) (fun d c => ok_rule2 F__law_rule B c__law_next c__law_sides c) (PySem.W.mg_of X G a__law_rule) k__law_rule b__law_rule 2, PySem.W.mg_of X G a__law_rule, k__law_rule, b__law_rule⟩
    have c__law_drawn : Cal l.prog w K mg base CX0 6 "_law_drawn" ["_law_h", "_law_facts_here", "_law_most"] (sp_drawn K) := ⟨_, _, (ok_drawn F__law_drawn B c__law_next c__law_rule), PySem.W.mg_of X G a__law_drawn, k__law_drawn, b__law_drawn⟩
    have c__law_made : Cal l.prog w K mg base CX0 30 "_law_made" ["_law_rules"] (sp_made K CO RO 12) := ⟨_, _, rec_all (S := sp_made K CO RO) (k := 17) (fun d c => ok_made F__law_made B kM kRM c) (PySem.W.mg_of X G a__law_made) k__law_made b__law_made 12, PySem.W.mg_of X G a__law_made, k__law_made, b__law_made⟩
    have c__law_book : Cal l.prog w K mg base CX0 31 "_law_book" ["_law_drawn_here"] (sp_book2 K CO RO BO) := ⟨_, _, (ok_book2 F__law_book B kBM c__law_made), PySem.W.mg_of X G a__law_book, k__law_book, b__law_book⟩
    have c__law_all : Cal l.prog w K mg base CX0 14 "_law_all" ["_law_rules"] (sp_all K 12) := ⟨_, _, rec_all (S := sp_all K) (k := 1) (fun d c => ok_all F__law_all B c) (PySem.W.mg_of X G a__law_all) k__law_all b__law_all 12, PySem.W.mg_of X G a__law_all, k__law_all, b__law_all⟩
    have c__law_spans : Cal l.prog w K mg base CX0 15 "_law_spans" ["_law_h", "_law_drawn_here"] (sp_spans K) := ⟨_, _, (ok_spans F__law_spans B c__law_next c__law_all), PySem.W.mg_of X G a__law_spans, k__law_spans, b__law_spans⟩
    have c__law_two : Cal l.prog w K mg base CX0 1 "_law_two" ["_law_count"] (sp_two) := ⟨_, _, (ok_two F__law_two B), PySem.W.mg_of X G a__law_two, k__law_two, b__law_two⟩
    have c__law_case : Cal l.prog w K mg base CX0 1 "_law_case" ["_law_facts_here", "_law_number"] (sp_lcase K) := ⟨_, _, (ok_lcase F__law_case B), PySem.W.mg_of X G a__law_case, k__law_case, b__law_case⟩
    have c_replaced : Cal l.prog w K mg base CX0 30 "replaced" ["rules", "name", "others"] (sp_replaced K CO RO 12) := ⟨_, _, rec_all (S := sp_replaced K CO RO) (k := 17) (fun d c => ok_replaced F_replaced B kR kRM c) (PySem.W.mg_of X G a_replaced) k_replaced b_replaced 12, PySem.W.mg_of X G a_replaced, k_replaced, b_replaced⟩
    have mCon : MethO l.prog w K mg base CX0 3 BO "__contains__" ["self", "name"] (sp_contains K CO RO BO) := ⟨_, _, at_gc, fn_gc, fi_gc, ok_contains F_gc B CLb bo_n4 kR, b_gc⟩
    have mIt : MethO l.prog w K mg base (L2.CX l.prog w) 3 BO "__getitem__" ["self", "name"] (sp_getitem K CO RO BO E5) := ⟨_, _, at_gi, fn_gi, fi_gi, ok_getitem F_gi B CLb bo_n4 kR e_UnknownRule, b_gi⟩
    have mSub : MethO l.prog w K mg base (L2.CX l.prog w) 32 BO "__sub__" ["self", "name"] (sp_sub K CO RO BO E4 E5) := ⟨_, _, at_gs, fn_gs, fi_gs, ok_sub F_gs B CLb bo_n1 bo_n2 bo_n3 kBM mCon c_replaced e_UnknownRule, b_gs⟩
    have bT : BinT K BO .Sub := ⟨bo_sf, ⟨_, bo_rs, .inl rfl⟩, ⟨_, st_s⟩, ⟨_, st_r⟩, bo_bstr⟩
    have mCallB : MethO l.prog w K mg base (L2.CX l.prog w) 11 BO "__call__" ["self", "case"] (sp_bcall K CO RO BO E1) := ⟨_, _, at_bc, fn_bc, fi_bc, ok_bcall F_bc B CLb bo_n1 bo_n2 bo_n3 kR c_check_case c_looked_into, b_bc⟩
    have c_is_day : Cal l.prog w K mg base CX0 2 "is_day" ["value"] (sp_is_day) := ⟨_, _, (ok_is_day F_is_day (PySem.W.mg_of X G m_LAST_DAY) c_is_integer), PySem.W.mg_of X G a_is_day, k_is_day, b_is_day⟩
    have c_check_day : Cal l.prog w K mg base CX0 3 "check_day" ["value"] (sp_check_day) := ⟨_, _, (ok_check_day F_check_day c_is_day), PySem.W.mg_of X G a_check_day, k_check_day, b_check_day⟩
    have c_check_word : Cal l.prog w K mg base CX0 2 "check_word" ["ruling"] (sp_check_word) := ⟨_, _, (ok_check_word F_check_word B c_is_name), PySem.W.mg_of X G a_check_word, k_check_word, b_check_word⟩
    have c_is_span : Cal l.prog w K mg base CX0 2 "is_span" ["value"] (sp_is_span K) := ⟨_, _, (ok_is_span F_is_span B (PySem.W.mg_of X G m_LONGEST_SPAN) c_is_integer), PySem.W.mg_of X G a_is_span, k_is_span, b_is_span⟩
    have c_in_span : Cal l.prog w K mg base CX0 1 "in_span" ["span", "day"] (sp_in_span K) := ⟨_, _, (ok_in_span F_in_span ), PySem.W.mg_of X G a_in_span, k_in_span, b_in_span⟩
    have c_check_spans : Cal l.prog w K mg base CX0 4 "check_spans" ["book", "spans"] (sp_check_spans K CO RO BO) := ⟨_, _, (ok_check_spans F_check_spans B mCon c_is_span), PySem.W.mg_of X G a_check_spans, k_check_spans, b_check_spans⟩
    have kY : Mkr0 l.prog w K mg base 5 "Seasons" SE ["self", "book", "spans"] (sp_seaInit K CO RO BO SE) := ⟨_, _, ⟨yo_mk, yo_in, yo_fn, yo_kp⟩, ok_seaInit F_yi B CLy yo_n1 yo_n2 yo_n3 (PySem.W.mg_of X G m_lcm) c_check_spans, PySem.W.mg_of X G yo, b_yi⟩
    have mPer : PropM l.prog w K mg base SE "period" 1 (sp_seaPeriod K CO RO BO SE) := ⟨_, _, _, ⟨pa_yp, pg_yp, pt_yp, ⟨_, pr_yp⟩⟩, ok_seaPeriod F_yp CLy yo_n3, b_yp⟩
    have mBk : PropM l.prog w K mg base SE "book" 1 (sp_seaBook K CO RO BO SE) := ⟨_, _, _, ⟨pa_yb, pg_yb, pt_yb, ⟨_, pr_yb⟩⟩, ok_seaBook F_yb CLy yo_n1, b_yb⟩
    have mSp : PropM l.prog w K mg base SE "spans" 1 (sp_seaSpans K CO RO BO SE) := ⟨_, _, _, ⟨pa_ys, pg_ys, pt_ys, ⟨_, pr_ys⟩⟩, ok_seaSpans F_ys CLy yo_n2, b_ys⟩
    have mRl : PropM l.prog w K mg base BO "rulings" 3 (sp_brulings K CO RO BO) := ⟨_, _, _, ⟨pa_bq, pg_bq, pt_bq, ⟨_, pr_bq⟩⟩, ok_brulings F_bq B CLb bo_n3 bo_n4 kR, b_bq⟩
    have mCall : MethO l.prog w K mg base CX0 33 SE "__call__" ["self", "day"] (sp_seaCall K CO RO BO SE) := ⟨_, _, at_yc, fn_yc, fi_yc, ok_seaCall F_yc B CLy yo_n1 yo_n2 c_check_day c_in_span mCon mSub bT, b_yc⟩
    have c_bits_of : Cal l.prog w K mg base CX0 1 "bits_of" ["facts", "names"] (sp_bits_of K) := ⟨_, _, (ok_bits_of F_bits_of B), PySem.W.mg_of X G a_bits_of, k_bits_of, b_bits_of⟩
    have c_cube_of : Cal l.prog w K mg base CX0 3 "cube_of" ["facts", "condition"] (sp_cube_of K CO) := ⟨_, _, (ok_cube_of F_cube_of B kK c_bits_of), PySem.W.mg_of X G a_cube_of, k_cube_of, b_cube_of⟩
    have c_clash : Cal l.prog w K mg base CX0 1 "clash" ["cube", "other"] (sp_clash K) := ⟨_, _, (ok_clash F_clash B), PySem.W.mg_of X G a_clash, k_clash, b_clash⟩
    have c_meets : Cal l.prog w K mg base CX0 1 "meets" ["number", "cube"] (sp_cmeets K) := ⟨_, _, (ok_cmeets F_meets B), PySem.W.mg_of X G a_meets, k_meets, b_meets⟩
    have c_joined : Cal l.prog w K mg base CX0 1 "joined" ["cube", "other"] (sp_joined K) := ⟨_, _, (ok_joined F_joined B), PySem.W.mg_of X G a_joined, k_joined, b_joined⟩
    have c_rows_within : Cal l.prog w K mg base CX0 16 "rows_within" ["facts", "rules", "around"] (sp_rwithin K CO RO 12) := ⟨_, _, rec_all (S := sp_rwithin K CO RO) (k := 3) (fun d c => ok_rwithin F_rows_within B kR c_cube_of c_clash c_joined c) (PySem.W.mg_of X G a_rows_within) k_rows_within b_rows_within 12, PySem.W.mg_of X G a_rows_within, k_rows_within, b_rows_within⟩
    have c_rows_of : Cal l.prog w K mg base CX0 17 "rows_of" ["book"] (sp_rows_of K CO RO BO) := ⟨_, _, (ok_rows_of F_rows_of B kB c_rows_within), PySem.W.mg_of X G a_rows_of, k_rows_of, b_rows_of⟩
    have c_names_in : Cal l.prog w K mg base CX0 16 "names_in" ["rule"] (sp_names_in K CO RO) := ⟨_, _, (ok_names_in F_names_in B kR c_nested), PySem.W.mg_of X G a_names_in, k_names_in, b_names_in⟩
    have mt_met : MethR l.prog w K mg base 2 TT "met" ["self", "number"] (sp_met K CO RO BO TT) := ⟨_, _, ⟨at_tm, fn_tm, k_tm⟩, ok_met F_tm B CLt to_n2 to_n4 c_meets, b_tm⟩
    have mt_ruling_by : MethR l.prog w K mg base 3 TT "ruling_by" ["self", "bits"] (sp_by K CO RO BO TT) := ⟨_, _, ⟨at_tr, fn_tr, k_tr⟩, ok_by F_tr B CLt to_n1 to_n2 kR kB, b_tr⟩
    have mt_ruling_on : MethR l.prog w K mg base 4 TT "ruling_on" ["self", "number", "force"] (sp_on K CO RO BO TT) := ⟨_, _, ⟨at_to, fn_to, k_to⟩, ok_on F_to B CLt mt_met mt_ruling_by, b_to⟩
    have mt_lasting : MethR l.prog w K mg base 5 TT "lasting" ["self", "number", "forces"] (sp_last K CO RO BO TT) := ⟨_, _, ⟨at_tl, fn_tl, k_tl⟩, ok_last F_tl B CLt mt_met mt_ruling_by, b_tl⟩
    have mt_bits_within : MethR l.prog w K mg base 17 TT "bits_within" ["self", "name"] (sp_bw K CO RO BO TT) := ⟨_, _, ⟨at_tw, fn_tw, k_tw⟩, ok_bw F_tw B CLt to_n1 to_n2 kR mIt c_names_in, b_tw⟩
    have kT : Mkr0 l.prog w K mg base 18 "Timetable" TT ["self", "book"] (sp_ttInit K CO RO BO TT) := ⟨_, _, ⟨to_mk, to_in, to_fn, to_kp⟩, ok_ttInit F_ti B CLt to_n1 to_n2 to_n3 to_n4 c_rows_of, PySem.W.mg_of X G to, b_ti⟩
    have c_forces_of_period : Cal l.prog w K mg base CX0 18 "forces_of_period" ["seasons", "table"] (sp_forces K CO RO BO TT SE) := ⟨_, _, (ok_forces F_forces_of_period B CLt CLy to_n3 mSp mPer mt_bits_within c_in_span), PySem.W.mg_of X G a_forces_of_period, k_forces_of_period, b_forces_of_period⟩
    have c_rulings_of_period : Cal l.prog w K mg base CX0 20 "rulings_of_period" ["seasons", "case"] (sp_rop K CO RO BO TT SE) := ⟨_, _, (ok_rop F_rulings_of_period B CLt CLy kB kT mBk mt_ruling_on c_forces_of_period c_bits_of), PySem.W.mg_of X G a_rulings_of_period, k_rulings_of_period, b_rulings_of_period⟩
    have c_check_period : Cal l.prog w K mg base CX0 3 "check_period" ["seasons"] (sp_cper K CO RO BO SE) := ⟨_, _, (ok_cper F_check_period B CLy (PySem.W.mg_of X G m_LONGEST_PERIOD) mPer), PySem.W.mg_of X G a_check_period, k_check_period, b_check_period⟩
    have c_next_day : Cal l.prog w K mg base CX0 22 "next_day" ["seasons", "case", "ruling", "day"] (sp_nday K CO RO BO SE) := ⟨_, _, (ok_nday F_next_day B CLy kB mPer mBk c_check_case c_check_word c_check_day c_check_period c_rulings_of_period), PySem.W.mg_of X G a_next_day, k_next_day, b_next_day⟩
    have c_count_rulings : Cal l.prog w K mg base CX0 22 "count_rulings" ["seasons", "case", "days"] (sp_cnt K CO RO BO SE) := ⟨_, _, (ok_cnt F_count_rulings B CLy kB mPer mBk mRl c_check_case c_check_day c_check_period c_rulings_of_period), PySem.W.mg_of X G a_count_rulings, k_count_rulings, b_count_rulings⟩
    have c_always : Cal l.prog w K mg base CX0 20 "always" ["seasons"] (sp_alw K CO RO BO SE) := ⟨_, _, (ok_alw F_always B CLy CLt (PySem.W.mg_of X G m_MOST_FACTS_seasons) kB kT mBk mRl mt_lasting c_check_period c_forces_of_period), PySem.W.mg_of X G a_always, k_always, b_always⟩
    exact ok_law (fun_mk (st := s_law) l_law c_law k_law) B CLy c__law_mix c__law_next c__law_facts c__law_drawn c__law_spans c__law_book c__law_two c__law_case kY mPer mCall mCallB c_always c_count_rulings c_next_day
end Sc
/-! the head's facts read by a Hook of one's own: functions by address, all else by one Bool -/
namespace Sc
open PySem PySem.Spec PyProof.Rows L2 HeadY He
theorem all_y {w : World} {K : PySem.W.Frag} {h : Heap} {mg : Str → Option Value} {fa : Addr} (X : K.In h) (G : h.Ns mainGlobals mg) (hfa : mg "law" = some (.ref fa)) (S : SaysY fnL tfL exB h K) : LamX.LawAtS theLaw w K CX0 34 63 "_law_script" mg fa h := by
  obtain ⟨_, _, _, _, _, _, _, _, l_is_name, y_l_is_name⟩ := fn_ok (S.fn 0 rfl) (gx0 S).2.1
  obtain ⟨_, _, _, _, _, _, _, _, l_is_integer, y_l_is_integer⟩ := fn_ok (S.fn 1 rfl) (gx0 S).2.2.2.2.1
  obtain ⟨_, _, _, _, _, _, _, _, l_rises, y_l_rises⟩ := fn_ok (S.fn 2 rfl) (gx0 S).2.2.2.2.2.2.2.1
  obtain ⟨_, _, _, _, _, _, _, _, l_check_facts, y_l_check_facts⟩ := fn_ok (S.fn 3 rfl) (gx0 S).2.2.2.2.2.2.2.2.2.2.1
  obtain ⟨_, _, _, _, _, _, _, _, l_nested, y_l_nested⟩ := fn_ok (S.fn 4 rfl) (gx1 S).2.1
  obtain ⟨_, _, _, _, _, _, _, _, l_check_rules, y_l_check_rules⟩ := fn_ok (S.fn 5 rfl) (gx1 S).2.2.2.2.1
  obtain ⟨_, _, _, _, _, _, _, _, l_check_part, y_l_check_part⟩ := fn_ok (S.fn 6 rfl) (gx1 S).2.2.2.2.2.2.2.1
  obtain ⟨_, _, _, _, _, _, _, _, l_merged, y_l_merged⟩ := fn_ok (S.fn 7 rfl) (gx1 S).2.2.2.2.2.2.2.2.2.2.1
  obtain ⟨_, _, _, _, _, _, _, _, l_replaced, y_l_replaced⟩ := fn_ok (S.fn 8 rfl) (gx2 S).2.1
  obtain ⟨_, _, _, _, _, _, _, _, l_is_day, y_l_is_day⟩ := fn_ok (S.fn 9 rfl) (gx2 S).2.2.2.2.1
  obtain ⟨_, _, _, _, _, _, _, _, l_check_day, y_l_check_day⟩ := fn_ok (S.fn 10 rfl) (gx2 S).2.2.2.2.2.2.2.1
  obtain ⟨_, _, _, _, _, _, _, _, l_check_word, y_l_check_word⟩ := fn_ok (S.fn 11 rfl) (gx2 S).2.2.2.2.2.2.2.2.2.2.1
  obtain ⟨_, _, _, _, _, _, _, _, l_check_case, y_l_check_case⟩ := fn_ok (S.fn 12 rfl) (gx3 S).2.1
  obtain ⟨_, _, _, _, _, _, _, _, l_up_to_first_met, y_l_up_to_first_met⟩ := fn_ok (S.fn 13 rfl) (gx3 S).2.2.2.2.1
  obtain ⟨_, _, _, _, _, _, _, _, l_steps, y_l_steps⟩ := fn_ok (S.fn 14 rfl) (gx3 S).2.2.2.2.2.2.2.1
  obtain ⟨_, _, _, _, _, _, _, _, l_looked_into, y_l_looked_into⟩ := fn_ok (S.fn 15 rfl) (gx3 S).2.2.2.2.2.2.2.2.2.2.1
  obtain ⟨_, _, _, _, _, _, _, _, l_is_span, y_l_is_span⟩ := fn_ok (S.fn 16 rfl) (gx4 S).2.1
  obtain ⟨_, _, _, _, _, _, _, _, l_in_span, y_l_in_span⟩ := fn_ok (S.fn 17 rfl) (gx4 S).2.2.2.2.1
  obtain ⟨_, _, _, _, _, _, _, _, l_check_spans, y_l_check_spans⟩ := fn_ok (S.fn 18 rfl) (gx4 S).2.2.2.2.2.2.2.1
  obtain ⟨_, _, _, _, _, _, _, _, l_bits_of, y_l_bits_of⟩ := fn_ok (S.fn 19 rfl) (gx4 S).2.2.2.2.2.2.2.2.2.2.1
  obtain ⟨_, _, _, _, _, _, _, _, l_cube_of, y_l_cube_of⟩ := fn_ok (S.fn 20 rfl) (gx5 S).2.1
  obtain ⟨_, _, _, _, _, _, _, _, l_clash, y_l_clash⟩ := fn_ok (S.fn 21 rfl) (gx5 S).2.2.2.2.1
  obtain ⟨_, _, _, _, _, _, _, _, l_meets, y_l_meets⟩ := fn_ok (S.fn 22 rfl) (gx5 S).2.2.2.2.2.2.2.1
  obtain ⟨_, _, _, _, _, _, _, _, l_joined, y_l_joined⟩ := fn_ok (S.fn 23 rfl) (gx5 S).2.2.2.2.2.2.2.2.2.2.1
  obtain ⟨_, _, _, _, _, _, _, _, l_rows_within, y_l_rows_within⟩ := fn_ok (S.fn 24 rfl) (gx6 S).2.1
  obtain ⟨_, _, _, _, _, _, _, _, l_rows_of, y_l_rows_of⟩ := fn_ok (S.fn 25 rfl) (gx6 S).2.2.2.2.1
  obtain ⟨_, _, _, _, _, _, _, _, l_names_in, y_l_names_in⟩ := fn_ok (S.fn 26 rfl) (gx6 S).2.2.2.2.2.2.2.1
  obtain ⟨_, _, _, _, _, _, _, _, l_forces_of_period, y_l_forces_of_period⟩ := fn_ok (S.fn 27 rfl) (gx6 S).2.2.2.2.2.2.2.2.2.2.1
  obtain ⟨_, _, _, _, _, _, _, _, l_rulings_of_period, y_l_rulings_of_period⟩ := fn_ok (S.fn 28 rfl) (gx7 S).2.1
  obtain ⟨_, _, _, _, _, _, _, _, l_check_period, y_l_check_period⟩ := fn_ok (S.fn 29 rfl) (gx7 S).2.2.2.2.1
  obtain ⟨_, _, _, _, _, _, _, _, l_next_day, y_l_next_day⟩ := fn_ok (S.fn 30 rfl) (gx7 S).2.2.2.2.2.2.2.1
  obtain ⟨_, _, _, _, _, _, _, _, l_count_rulings, y_l_count_rulings⟩ := fn_ok (S.fn 31 rfl) (gx7 S).2.2.2.2.2.2.2.2.2.2.1
  obtain ⟨_, _, _, _, _, _, _, _, l_always, y_l_always⟩ := fn_ok (S.fn 32 rfl) (gx8 S).2.1
  obtain ⟨_, _, _, _, _, _, _, _, l__law_mix, y_l__law_mix⟩ := fn_ok (S.fn 33 rfl) (gx8 S).2.2.2.2.1
  obtain ⟨_, _, _, _, _, _, _, _, l__law_next, y_l__law_next⟩ := fn_ok (S.fn 34 rfl) (gx8 S).2.2.2.2.2.2.2.1
  obtain ⟨_, _, _, _, _, _, _, _, l__law_facts, y_l__law_facts⟩ := fn_ok (S.fn 35 rfl) (gx8 S).2.2.2.2.2.2.2.2.2.2.1
  obtain ⟨_, _, _, _, _, _, _, _, l__law_sides, y_l__law_sides⟩ := fn_ok (S.fn 36 rfl) (gx9 S).2.1
  obtain ⟨_, _, _, _, _, _, _, _, l__law_rule, y_l__law_rule⟩ := fn_ok (S.fn 37 rfl) (gx9 S).2.2.2.2.1
  obtain ⟨_, _, _, _, _, _, _, _, l__law_drawn, y_l__law_drawn⟩ := fn_ok (S.fn 38 rfl) (gx9 S).2.2.2.2.2.2.2.1
  obtain ⟨_, _, _, _, _, _, _, _, l__law_made, y_l__law_made⟩ := fn_ok (S.fn 39 rfl) (gx9 S).2.2.2.2.2.2.2.2.2.2.1
  obtain ⟨_, _, _, _, _, _, _, _, l__law_book, y_l__law_book⟩ := fn_ok (S.fn 40 rfl) (gx10 S).2.1
  obtain ⟨_, _, _, _, _, _, _, _, l__law_all, y_l__law_all⟩ := fn_ok (S.fn 41 rfl) (gx10 S).2.2.2.2.1
  obtain ⟨_, _, _, _, _, _, _, _, l__law_spans, y_l__law_spans⟩ := fn_ok (S.fn 42 rfl) (gx10 S).2.2.2.2.2.2.2.1
  obtain ⟨_, _, _, _, _, _, _, _, l__law_two, y_l__law_two⟩ := fn_ok (S.fn 43 rfl) (gx10 S).2.2.2.2.2.2.2.2.2.2.1
  obtain ⟨_, _, _, _, _, _, _, _, l__law_case, y_l__law_case⟩ := fn_ok (S.fn 44 rfl) (gx11 S).2.1
  obtain ⟨_, _, _, _, _, _, _, _, l_law, y_l_law⟩ := fn_ok (S.fn 45 rfl) (gx11 S).2.2.2.2.1
  obtain ⟨_, pr_mh⟩ := rec_is (gx12 S).2.2.2.2.2.2.2.2.2.1
  obtain ⟨_, pr_mf⟩ := rec_is (gx13 S).2.1
  obtain ⟨_, pr_mn⟩ := rec_is (gx13 S).2.2.2.2.2.1
  obtain ⟨_, pr_rn⟩ := rec_is (gx15 S).1
  obtain ⟨_, pr_rc⟩ := rec_is (gx15 S).2.2.2.2.1
  obtain ⟨_, pr_rr⟩ := rec_is (gx15 S).2.2.2.2.2.2.2.2.1
  obtain ⟨_, pr_re⟩ := rec_is (gx16 S).1
  obtain ⟨_, pr_rd⟩ := rec_is (gx16 S).2.2.2.2.1
  obtain ⟨_, pr_bf⟩ := rec_is (gx17 S).2.2.2.2.2.2.2.2.2.1
  obtain ⟨_, pr_bs⟩ := rec_is (gx18 S).2.1
  obtain ⟨_, pr_br⟩ := rec_is (gx18 S).2.2.2.2.2.1
  obtain ⟨_, pr_bq⟩ := rec_is (gx18 S).2.2.2.2.2.2.2.2.2.1
  obtain ⟨_, pr_yb⟩ := rec_is (gx20 S).2.1
  obtain ⟨_, pr_ys⟩ := rec_is (gx20 S).2.2.2.2.2.1
  obtain ⟨_, pr_yp⟩ := rec_is (gx20 S).2.2.2.2.2.2.2.2.2.1
  obtain ⟨_, st_s⟩ := some_is (gx24 S).2.2.2.1
  obtain ⟨_, st_r⟩ := some_is (gx24 S).2.2.2.2.1
  obtain ⟨_, _, _, _, _, _, _, _, l_mi, y_l_mi⟩ := fn_ok (S.fn 46 rfl) (gx24 S).2.2.2.2.2.2.2.2.2.1
  obtain ⟨_, _, _, _, _, _, _, _, l_mh, y_l_mh⟩ := fn_ok (S.fn 47 rfl) (gx24 S).2.2.2.2.2.2.2.2.2.2.2
  obtain ⟨_, _, _, _, _, _, _, _, l_mf, y_l_mf⟩ := fn_ok (S.fn 48 rfl) (gx25 S).2.1
  obtain ⟨_, _, _, _, _, _, _, _, l_mn, y_l_mn⟩ := fn_ok (S.fn 49 rfl) (gx25 S).2.2.2.1
  obtain ⟨_, _, _, _, _, _, _, _, l_ri, y_l_ri⟩ := fn_ok (S.fn 50 rfl) (gx25 S).2.2.2.2.2.1
  obtain ⟨_, _, _, _, _, _, _, _, l_rn, y_l_rn⟩ := fn_ok (S.fn 51 rfl) (gx25 S).2.2.2.2.2.2.2.1
  obtain ⟨_, _, _, _, _, _, _, _, l_rc, y_l_rc⟩ := fn_ok (S.fn 52 rfl) (gx25 S).2.2.2.2.2.2.2.2.2.1
  obtain ⟨_, _, _, _, _, _, _, _, l_rr, y_l_rr⟩ := fn_ok (S.fn 53 rfl) (gx25 S).2.2.2.2.2.2.2.2.2.2.2
  obtain ⟨_, _, _, _, _, _, _, _, l_re, y_l_re⟩ := fn_ok (S.fn 54 rfl) (gx26 S).2.1
  obtain ⟨_, _, _, _, _, _, _, _, l_rd, y_l_rd⟩ := fn_ok (S.fn 55 rfl) (gx26 S).2.2.2.1
  obtain ⟨_, _, _, _, _, _, _, _, l_bi, y_l_bi⟩ := fn_ok (S.fn 56 rfl) (gx26 S).2.2.2.2.2.1
  obtain ⟨_, _, _, _, _, _, _, _, l_bf, y_l_bf⟩ := fn_ok (S.fn 57 rfl) (gx26 S).2.2.2.2.2.2.2.1
  obtain ⟨_, _, _, _, _, _, _, _, l_bs, y_l_bs⟩ := fn_ok (S.fn 58 rfl) (gx26 S).2.2.2.2.2.2.2.2.2.1
  obtain ⟨_, _, _, _, _, _, _, _, l_br, y_l_br⟩ := fn_ok (S.fn 59 rfl) (gx26 S).2.2.2.2.2.2.2.2.2.2.2
  obtain ⟨_, _, _, _, _, _, _, _, l_bq, y_l_bq⟩ := fn_ok (S.fn 60 rfl) (gx27 S).2.1
  obtain ⟨_, _, _, _, _, _, _, _, l_yi, y_l_yi⟩ := fn_ok (S.fn 61 rfl) (gx27 S).2.2.2.1
  obtain ⟨_, _, _, _, _, _, _, _, l_yb, y_l_yb⟩ := fn_ok (S.fn 62 rfl) (gx27 S).2.2.2.2.2.1
  obtain ⟨_, _, _, _, _, _, _, _, l_ys, y_l_ys⟩ := fn_ok (S.fn 63 rfl) (gx27 S).2.2.2.2.2.2.2.1
  obtain ⟨_, _, _, _, _, _, _, _, l_yp, y_l_yp⟩ := fn_ok (S.fn 64 rfl) (gx27 S).2.2.2.2.2.2.2.2.2.1
  obtain ⟨_, _, _, _, _, _, _, _, l_ti, y_l_ti⟩ := fn_ok (S.fn 65 rfl) (gx27 S).2.2.2.2.2.2.2.2.2.2.2
  obtain ⟨_, _, _, _, _, _, _, _, l_gc, y_l_gc⟩ := fn_ok (S.fn 66 rfl) (gx28 S).2.1
  obtain ⟨_, _, _, _, _, _, _, _, l_gi, y_l_gi⟩ := fn_ok (S.fn 67 rfl) (gx28 S).2.2.2.1
  obtain ⟨_, _, _, _, _, _, _, _, l_gs, y_l_gs⟩ := fn_ok (S.fn 68 rfl) (gx28 S).2.2.2.2.2.1
  obtain ⟨_, _, _, _, _, _, _, _, l_bc, y_l_bc⟩ := fn_ok (S.fn 69 rfl) (gx28 S).2.2.2.2.2.2.2.1
  obtain ⟨_, _, _, _, _, _, _, _, l_mc, y_l_mc⟩ := fn_ok (S.fn 70 rfl) (gx28 S).2.2.2.2.2.2.2.2.2.1
  obtain ⟨_, _, _, _, _, _, _, _, l_yc, y_l_yc⟩ := fn_ok (S.fn 71 rfl) (gx28 S).2.2.2.2.2.2.2.2.2.2.2
  obtain ⟨_, _, _, _, _, _, _, _, l_tw, y_l_tw⟩ := fn_ok (S.fn 72 rfl) (gx29 S).2.1
  obtain ⟨_, _, _, _, _, _, _, _, l_tm, y_l_tm⟩ := fn_ok (S.fn 73 rfl) (gx29 S).2.2.2.1
  obtain ⟨_, _, _, _, _, _, _, _, l_to, y_l_to⟩ := fn_ok (S.fn 74 rfl) (gx29 S).2.2.2.2.2.1
  obtain ⟨_, _, _, _, _, _, _, _, l_tr, y_l_tr⟩ := fn_ok (S.fn 75 rfl) (gx29 S).2.2.2.2.2.2.2.1
  obtain ⟨_, _, _, _, _, _, _, _, l_tl, y_l_tl⟩ := fn_ok (S.fn 76 rfl) (gx29 S).2.2.2.2.2.2.2.2.2.1
  obtain ⟨_, m_LETTERS⟩ := str_is (gx31 S).2.2.2.2.2.2.2.1
  obtain ⟨_, m_LONGEST_NAME⟩ := int_is (gx31 S).2.2.2.2.2.2.2.2.1
  obtain ⟨_, m_MOST_FACTS_facts⟩ := int_is (gx31 S).2.2.2.2.2.2.2.2.2.1
  obtain ⟨_, m_MOST_NAMES⟩ := int_is (gx31 S).2.2.2.2.2.2.2.2.2.2.1
  obtain ⟨_, m_MOST_AROUND⟩ := int_is (gx31 S).2.2.2.2.2.2.2.2.2.2.2
  obtain ⟨_, m_MOST_RULES⟩ := int_is (gx32 S).1
  obtain ⟨_, m_MOST_OUTERMOST⟩ := int_is (gx32 S).2.1
  obtain ⟨_, m_LAST_DAY⟩ := int_is (gx32 S).2.2.1
  obtain ⟨_, m_LONGEST_SPAN⟩ := int_is (gx32 S).2.2.2.1
  obtain ⟨_, m_LONGEST_PERIOD⟩ := int_is (gx32 S).2.2.2.2.1
  obtain ⟨_, m_MOST_FACTS_seasons⟩ := int_is (gx32 S).2.2.2.2.2.1
  obtain ⟨_, _, _, _, _, _, _, _, _, _, _, _, _, _, x_E⟩ := exc_is (gx34 S).2.2.2.2.2.2.1
  obtain ⟨_, _, _, _, _, _, _, _, _, _, _, _, _, _, i0_x⟩ := exc_is (gx34 S).2.2.2.2.2.2.2.2.2.2.1
  obtain ⟨_, _, _, _, _, _, _, _, i0_lI, y_i0_lI⟩ := fn_okC (S.fn 77 rfl) (gx35 S).2.2.2.2.2.1
  obtain ⟨_, _, _, i0_ce⟩ := cell_is (gx35 S).2.2.2.2.2.2.1
  obtain ⟨_, _, _, _, _, _, i0_co, i0_fi, i0_fe⟩ := file_is (gx35 S).2.2.2.2.2.2.2.1
  obtain ⟨_, _, _, _, _, _, _, _, _, _, _, _, _, _, i1_x⟩ := exc_is (gx36 S).2.1
  obtain ⟨_, _, _, _, _, _, _, _, i1_lI, y_i1_lI⟩ := fn_okC (S.fn 78 rfl) (gx36 S).2.2.2.2.2.2.2.2.1
  obtain ⟨_, _, _, i1_ce⟩ := cell_is (gx36 S).2.2.2.2.2.2.2.2.2.1
  obtain ⟨_, _, _, _, _, _, i1_co, i1_fi, i1_fe⟩ := file_is (gx36 S).2.2.2.2.2.2.2.2.2.2.1
  obtain ⟨_, _, _, _, _, _, _, _, _, _, _, _, _, _, i2_x⟩ := exc_is (gx37 S).2.2.2.2.1
  obtain ⟨_, _, _, _, _, _, _, _, i2_lI, y_i2_lI⟩ := fn_okC (S.fn 79 rfl) (gx37 S).2.2.2.2.2.2.2.2.2.2.2
  obtain ⟨_, _, _, i2_ce⟩ := cell_is (gx38 S).1
  obtain ⟨_, _, _, _, _, _, i2_co, i2_fi, i2_fe⟩ := file_is (gx38 S).2.1
  obtain ⟨_, _, _, _, _, _, _, _, _, _, _, _, _, _, i3_x⟩ := exc_is (gx38 S).2.2.2.2.2.2.2.2.1
  obtain ⟨_, _, _, _, _, _, _, _, i3_lI, y_i3_lI⟩ := fn_okC (S.fn 80 rfl) (gx39 S).2.2.2.1
  obtain ⟨_, _, _, i3_ce⟩ := cell_is (gx39 S).2.2.2.2.1
  obtain ⟨_, _, _, _, _, _, i3_co, i3_fi, i3_fe⟩ := file_is (gx39 S).2.2.2.2.2.1
  obtain ⟨_, _, _, _, _, _, _, _, _, _, _, _, _, _, i4_x⟩ := exc_is (gx39 S).2.2.2.2.2.2.2.2.2.2.2
  obtain ⟨_, _, _, _, _, _, _, _, i4_lI, y_i4_lI⟩ := fn_okC (S.fn 81 rfl) (gx40 S).2.2.2.2.2.2.1
  obtain ⟨_, _, _, i4_ce⟩ := cell_is (gx40 S).2.2.2.2.2.2.2.1
  obtain ⟨_, _, _, _, _, _, i4_co, i4_fi, i4_fe⟩ := file_is (gx40 S).2.2.2.2.2.2.2.2.1
  exact all_mk (l := theLaw) (P := theRow.prog) (celi0 := (Ad_celi0 K)) (codi0 := (Ad_codi0 K)) (celi1 := (Ad_celi1 K)) (codi1 := (Ad_codi1 K)) (celi2 := (Ad_celi2 K)) (codi2 := (Ad_codi2 K)) (celi3 := (Ad_celi3 K)) (codi3 := (Ad_codi3 K)) (celi4 := (Ad_celi4 K)) (codi4 := (Ad_codi4 K))  rfl X G hfa (gx0 S).1 l_is_name y_l_is_name (gx0 S).2.2.1 (gx0 S).2.2.2.1 l_is_integer y_l_is_integer (gx0 S).2.2.2.2.2.1 (gx0 S).2.2.2.2.2.2.1 l_rises y_l_rises (gx0 S).2.2.2.2.2.2.2.2.1 (gx0 S).2.2.2.2.2.2.2.2.2.1 l_check_facts y_l_check_facts (gx0 S).2.2.2.2.2.2.2.2.2.2.2 (gx1 S).1 l_nested y_l_nested (gx1 S).2.2.1 (gx1 S).2.2.2.1 l_check_rules y_l_check_rules (gx1 S).2.2.2.2.2.1 (gx1 S).2.2.2.2.2.2.1 l_check_part y_l_check_part (gx1 S).2.2.2.2.2.2.2.2.1 (gx1 S).2.2.2.2.2.2.2.2.2.1 l_merged y_l_merged (gx1 S).2.2.2.2.2.2.2.2.2.2.2 (gx2 S).1 l_replaced y_l_replaced (gx2 S).2.2.1 (gx2 S).2.2.2.1 l_is_day y_l_is_day (gx2 S).2.2.2.2.2.1 (gx2 S).2.2.2.2.2.2.1 l_check_day y_l_check_day (gx2 S).2.2.2.2.2.2.2.2.1 (gx2 S).2.2.2.2.2.2.2.2.2.1 l_check_word y_l_check_word (gx2 S).2.2.2.2.2.2.2.2.2.2.2 (gx3 S).1 l_check_case y_l_check_case (gx3 S).2.2.1 (gx3 S).2.2.2.1 l_up_to_first_met y_l_up_to_first_met (gx3 S).2.2.2.2.2.1 (gx3 S).2.2.2.2.2.2.1 l_steps y_l_steps (gx3 S).2.2.2.2.2.2.2.2.1 (gx3 S).2.2.2.2.2.2.2.2.2.1 l_looked_into y_l_looked_into (gx3 S).2.2.2.2.2.2.2.2.2.2.2 (gx4 S).1 l_is_span y_l_is_span (gx4 S).2.2.1 (gx4 S).2.2.2.1 l_in_span y_l_in_span (gx4 S).2.2.2.2.2.1 (gx4 S).2.2.2.2.2.2.1 l_check_spans y_l_check_spans (gx4 S).2.2.2.2.2.2.2.2.1 (gx4 S).2.2.2.2.2.2.2.2.2.1 l_bits_of y_l_bits_of (gx4 S).2.2.2.2.2.2.2.2.2.2.2 (gx5 S).1 l_cube_of y_l_cube_of (gx5 S).2.2.1 (gx5 S).2.2.2.1 l_clash y_l_clash (gx5 S).2.2.2.2.2.1 (gx5 S).2.2.2.2.2.2.1 l_meets y_l_meets (gx5 S).2.2.2.2.2.2.2.2.1 (gx5 S).2.2.2.2.2.2.2.2.2.1 l_joined y_l_joined (gx5 S).2.2.2.2.2.2.2.2.2.2.2 (gx6 S).1 l_rows_within y_l_rows_within (gx6 S).2.2.1 (gx6 S).2.2.2.1 l_rows_of y_l_rows_of (gx6 S).2.2.2.2.2.1 (gx6 S).2.2.2.2.2.2.1 l_names_in y_l_names_in (gx6 S).2.2.2.2.2.2.2.2.1 (gx6 S).2.2.2.2.2.2.2.2.2.1 l_forces_of_period y_l_forces_of_period (gx6 S).2.2.2.2.2.2.2.2.2.2.2 (gx7 S).1 l_rulings_of_period y_l_rulings_of_period (gx7 S).2.2.1 (gx7 S).2.2.2.1 l_check_period y_l_check_period (gx7 S).2.2.2.2.2.1 (gx7 S).2.2.2.2.2.2.1 l_next_day y_l_next_day (gx7 S).2.2.2.2.2.2.2.2.1 (gx7 S).2.2.2.2.2.2.2.2.2.1 l_count_rulings y_l_count_rulings (gx7 S).2.2.2.2.2.2.2.2.2.2.2 (gx8 S).1 l_always y_l_always (gx8 S).2.2.1 (gx8 S).2.2.2.1 l__law_mix y_l__law_mix (gx8 S).2.2.2.2.2.1 (gx8 S).2.2.2.2.2.2.1 l__law_next y_l__law_next (gx8 S).2.2.2.2.2.2.2.2.1 (gx8 S).2.2.2.2.2.2.2.2.2.1 l__law_facts y_l__law_facts (gx8 S).2.2.2.2.2.2.2.2.2.2.2 (gx9 S).1 l__law_sides y_l__law_sides (gx9 S).2.2.1 (gx9 S).2.2.2.1 l__law_rule y_l__law_rule (gx9 S).2.2.2.2.2.1 (gx9 S).2.2.2.2.2.2.1 l__law_drawn y_l__law_drawn (gx9 S).2.2.2.2.2.2.2.2.1 (gx9 S).2.2.2.2.2.2.2.2.2.1 l__law_made y_l__law_made (gx9 S).2.2.2.2.2.2.2.2.2.2.2 (gx10 S).1 l__law_book y_l__law_book (gx10 S).2.2.1 (gx10 S).2.2.2.1 l__law_all y_l__law_all (gx10 S).2.2.2.2.2.1 (gx10 S).2.2.2.2.2.2.1 l__law_spans y_l__law_spans (gx10 S).2.2.2.2.2.2.2.2.1 (gx10 S).2.2.2.2.2.2.2.2.2.1 l__law_two y_l__law_two (gx10 S).2.2.2.2.2.2.2.2.2.2.2 (gx11 S).1 l__law_case y_l__law_case (gx11 S).2.2.1 (gx11 S).2.2.2.1 l_law y_l_law (gx11 S).2.2.2.2.2.1 (gx11 S).2.2.2.2.2.2.1 (gx11 S).2.2.2.2.2.2.2.1 (gx11 S).2.2.2.2.2.2.2.2.1 (gx11 S).2.2.2.2.2.2.2.2.2.1 (gx11 S).2.2.2.2.2.2.2.2.2.2.1 (gx11 S).2.2.2.2.2.2.2.2.2.2.2 (gx12 S).1 (gx12 S).2.1 (gx12 S).2.2.1 (gx12 S).2.2.2.1 (gx12 S).2.2.2.2.1 (gx12 S).2.2.2.2.2.1 (gx12 S).2.2.2.2.2.2.1 (gx12 S).2.2.2.2.2.2.2.1 (gx12 S).2.2.2.2.2.2.2.2.1 pr_mh (gx12 S).2.2.2.2.2.2.2.2.2.2.1 (gx12 S).2.2.2.2.2.2.2.2.2.2.2 (gx13 S).1 pr_mf (gx13 S).2.2.1 (gx13 S).2.2.2.1 (gx13 S).2.2.2.2.1 pr_mn (gx13 S).2.2.2.2.2.2.1 (gx13 S).2.2.2.2.2.2.2.1 (gx13 S).2.2.2.2.2.2.2.2.1 (gx13 S).2.2.2.2.2.2.2.2.2.1 (gx13 S).2.2.2.2.2.2.2.2.2.2.1 (gx13 S).2.2.2.2.2.2.2.2.2.2.2 (gx14 S).1 (gx14 S).2.1 (gx14 S).2.2.1 (gx14 S).2.2.2.1 (gx14 S).2.2.2.2.1 (gx14 S).2.2.2.2.2.1 (gx14 S).2.2.2.2.2.2.1 (gx14 S).2.2.2.2.2.2.2.1 (gx14 S).2.2.2.2.2.2.2.2.1 (gx14 S).2.2.2.2.2.2.2.2.2.1 (gx14 S).2.2.2.2.2.2.2.2.2.2.1 (gx14 S).2.2.2.2.2.2.2.2.2.2.2 pr_rn (gx15 S).2.1 (gx15 S).2.2.1 (gx15 S).2.2.2.1 pr_rc (gx15 S).2.2.2.2.2.1 (gx15 S).2.2.2.2.2.2.1 (gx15 S).2.2.2.2.2.2.2.1 pr_rr (gx15 S).2.2.2.2.2.2.2.2.2.1 (gx15 S).2.2.2.2.2.2.2.2.2.2.1 (gx15 S).2.2.2.2.2.2.2.2.2.2.2 pr_re (gx16 S).2.1 (gx16 S).2.2.1 (gx16 S).2.2.2.1 pr_rd (gx16 S).2.2.2.2.2.1 (gx16 S).2.2.2.2.2.2.1 (gx16 S).2.2.2.2.2.2.2.1 (gx16 S).2.2.2.2.2.2.2.2.1 (gx16 S).2.2.2.2.2.2.2.2.2.1 (gx16 S).2.2.2.2.2.2.2.2.2.2.1 (gx16 S).2.2.2.2.2.2.2.2.2.2.2 (gx17 S).1 (gx17 S).2.1 (gx17 S).2.2.1 (gx17 S).2.2.2.1 (gx17 S).2.2.2.2.1 (gx17 S).2.2.2.2.2.1 (gx17 S).2.2.2.2.2.2.1 (gx17 S).2.2.2.2.2.2.2.1 (gx17 S).2.2.2.2.2.2.2.2.1 pr_bf (gx17 S).2.2.2.2.2.2.2.2.2.2.1 (gx17 S).2.2.2.2.2.2.2.2.2.2.2 (gx18 S).1 pr_bs (gx18 S).2.2.1 (gx18 S).2.2.2.1 (gx18 S).2.2.2.2.1 pr_br (gx18 S).2.2.2.2.2.2.1 (gx18 S).2.2.2.2.2.2.2.1 (gx18 S).2.2.2.2.2.2.2.2.1 pr_bq (gx18 S).2.2.2.2.2.2.2.2.2.2.1 (gx18 S).2.2.2.2.2.2.2.2.2.2.2 (gx19 S).1 (gx19 S).2.1 (gx19 S).2.2.1 (gx19 S).2.2.2.1 (gx19 S).2.2.2.2.1 (gx19 S).2.2.2.2.2.1 (gx19 S).2.2.2.2.2.2.1 (gx19 S).2.2.2.2.2.2.2.1 (gx19 S).2.2.2.2.2.2.2.2.1 (gx19 S).2.2.2.2.2.2.2.2.2.1 (gx19 S).2.2.2.2.2.2.2.2.2.2.1 (gx19 S).2.2.2.2.2.2.2.2.2.2.2 (gx20 S).1 pr_yb (gx20 S).2.2.1 (gx20 S).2.2.2.1 (gx20 S).2.2.2.2.1 pr_ys (gx20 S).2.2.2.2.2.2.1 (gx20 S).2.2.2.2.2.2.2.1 (gx20 S).2.2.2.2.2.2.2.2.1 pr_yp (gx20 S).2.2.2.2.2.2.2.2.2.2.1 (gx20 S).2.2.2.2.2.2.2.2.2.2.2 (gx21 S).1 (gx21 S).2.1 (gx21 S).2.2.1 (gx21 S).2.2.2.1 (gx21 S).2.2.2.2.1 (gx21 S).2.2.2.2.2.1 (gx21 S).2.2.2.2.2.2.1 (gx21 S).2.2.2.2.2.2.2.1 (gx21 S).2.2.2.2.2.2.2.2.1 (gx21 S).2.2.2.2.2.2.2.2.2.1 (gx21 S).2.2.2.2.2.2.2.2.2.2.1 (gx21 S).2.2.2.2.2.2.2.2.2.2.2 (gx22 S).1 (gx22 S).2.1 (gx22 S).2.2.1 (gx22 S).2.2.2.1 (gx22 S).2.2.2.2.1 (gx22 S).2.2.2.2.2.1 (gx22 S).2.2.2.2.2.2.1 (gx22 S).2.2.2.2.2.2.2.1 (gx22 S).2.2.2.2.2.2.2.2.1 (gx22 S).2.2.2.2.2.2.2.2.2.1 (gx22 S).2.2.2.2.2.2.2.2.2.2.1 (gx22 S).2.2.2.2.2.2.2.2.2.2.2 (gx23 S).1 (gx23 S).2.1 (gx23 S).2.2.1 (gx23 S).2.2.2.1 (gx23 S).2.2.2.2.1 (gx23 S).2.2.2.2.2.1 (gx23 S).2.2.2.2.2.2.1 (gx23 S).2.2.2.2.2.2.2.1 (gx23 S).2.2.2.2.2.2.2.2.1 (gx23 S).2.2.2.2.2.2.2.2.2.1 (gx23 S).2.2.2.2.2.2.2.2.2.2.1 (gx23 S).2.2.2.2.2.2.2.2.2.2.2 (gx24 S).1 (gx24 S).2.1 (gx24 S).2.2.1 st_s st_r (gx24 S).2.2.2.2.2.1 (gx24 S).2.2.2.2.2.2.1 (gx24 S).2.2.2.2.2.2.2.1 (gx24 S).2.2.2.2.2.2.2.2.1 l_mi y_l_mi (gx24 S).2.2.2.2.2.2.2.2.2.2.1 l_mh y_l_mh (gx25 S).1 l_mf y_l_mf (gx25 S).2.2.1 l_mn y_l_mn (gx25 S).2.2.2.2.1 l_ri y_l_ri (gx25 S).2.2.2.2.2.2.1 l_rn y_l_rn (gx25 S).2.2.2.2.2.2.2.2.1 l_rc y_l_rc (gx25 S).2.2.2.2.2.2.2.2.2.2.1 l_rr y_l_rr (gx26 S).1 l_re y_l_re (gx26 S).2.2.1 l_rd y_l_rd (gx26 S).2.2.2.2.1 l_bi y_l_bi (gx26 S).2.2.2.2.2.2.1 l_bf y_l_bf (gx26 S).2.2.2.2.2.2.2.2.1 l_bs y_l_bs (gx26 S).2.2.2.2.2.2.2.2.2.2.1 l_br y_l_br (gx27 S).1 l_bq y_l_bq (gx27 S).2.2.1 l_yi y_l_yi (gx27 S).2.2.2.2.1 l_yb y_l_yb (gx27 S).2.2.2.2.2.2.1 l_ys y_l_ys (gx27 S).2.2.2.2.2.2.2.2.1 l_yp y_l_yp (gx27 S).2.2.2.2.2.2.2.2.2.2.1 l_ti y_l_ti (gx28 S).1 l_gc y_l_gc (gx28 S).2.2.1 l_gi y_l_gi (gx28 S).2.2.2.2.1 l_gs y_l_gs (gx28 S).2.2.2.2.2.2.1 l_bc y_l_bc (gx28 S).2.2.2.2.2.2.2.2.1 l_mc y_l_mc (gx28 S).2.2.2.2.2.2.2.2.2.2.1 l_yc y_l_yc (gx29 S).1 l_tw y_l_tw (gx29 S).2.2.1 l_tm y_l_tm (gx29 S).2.2.2.2.1 l_to y_l_to (gx29 S).2.2.2.2.2.2.1 l_tr y_l_tr (gx29 S).2.2.2.2.2.2.2.2.1 l_tl y_l_tl (gx29 S).2.2.2.2.2.2.2.2.2.2.1 (gx29 S).2.2.2.2.2.2.2.2.2.2.2 (gx30 S).1 (gx30 S).2.1 (gx30 S).2.2.1 (gx30 S).2.2.2.1 (gx30 S).2.2.2.2.1 (gx30 S).2.2.2.2.2.1 (gx30 S).2.2.2.2.2.2.1 (gx30 S).2.2.2.2.2.2.2.1 (gx30 S).2.2.2.2.2.2.2.2.1 (gx30 S).2.2.2.2.2.2.2.2.2.1 (gx30 S).2.2.2.2.2.2.2.2.2.2.1 (gx30 S).2.2.2.2.2.2.2.2.2.2.2 (gx31 S).1 (gx31 S).2.1 (gx31 S).2.2.1 (gx31 S).2.2.2.1 (gx31 S).2.2.2.2.1 (gx31 S).2.2.2.2.2.1 (gx31 S).2.2.2.2.2.2.1 m_LETTERS m_LONGEST_NAME m_MOST_FACTS_facts m_MOST_NAMES m_MOST_AROUND m_MOST_RULES m_MOST_OUTERMOST m_LAST_DAY m_LONGEST_SPAN m_LONGEST_PERIOD m_MOST_FACTS_seasons (gx32 S).2.2.2.2.2.2.1 (gx32 S).2.2.2.2.2.2.2.1 (gx32 S).2.2.2.2.2.2.2.2.1 (gx32 S).2.2.2.2.2.2.2.2.2.1 (gx32 S).2.2.2.2.2.2.2.2.2.2.1 (gx32 S).2.2.2.2.2.2.2.2.2.2.2 (gx33 S).1 (gx33 S).2.1 (gx33 S).2.2.1 (gx33 S).2.2.2.1 (gx33 S).2.2.2.2.1 (gx33 S).2.2.2.2.2.1 (gx33 S).2.2.2.2.2.2.1 (gx33 S).2.2.2.2.2.2.2.1 (gx33 S).2.2.2.2.2.2.2.2.1 (gx33 S).2.2.2.2.2.2.2.2.2.1 (gx33 S).2.2.2.2.2.2.2.2.2.2.1 (gx33 S).2.2.2.2.2.2.2.2.2.2.2 (gx34 S).1 (gx34 S).2.1 (gx34 S).2.2.1 (gx34 S).2.2.2.1 (gx34 S).2.2.2.2.1 (gx34 S).2.2.2.2.2.1 x_E (gx34 S).2.2.2.2.2.2.2.1 (gx34 S).2.2.2.2.2.2.2.2.1 (gx34 S).2.2.2.2.2.2.2.2.2.1 i0_x (gx34 S).2.2.2.2.2.2.2.2.2.2.2 (gx35 S).1 (gx35 S).2.1 (gx35 S).2.2.1 (gx35 S).2.2.2.1 (gx35 S).2.2.2.2.1 i0_lI y_i0_lI i0_ce i0_co i0_fi i0_fe (gx35 S).2.2.2.2.2.2.2.2.1 (gx35 S).2.2.2.2.2.2.2.2.2.1 (gx35 S).2.2.2.2.2.2.2.2.2.2.1 (gx35 S).2.2.2.2.2.2.2.2.2.2.2 (gx36 S).1 i1_x (gx36 S).2.2.1 (gx36 S).2.2.2.1 (gx36 S).2.2.2.2.1 (gx36 S).2.2.2.2.2.1 (gx36 S).2.2.2.2.2.2.1 (gx36 S).2.2.2.2.2.2.2.1 i1_lI y_i1_lI i1_ce i1_co i1_fi i1_fe (gx36 S).2.2.2.2.2.2.2.2.2.2.2 (gx37 S).1 (gx37 S).2.1 (gx37 S).2.2.1 (gx37 S).2.2.2.1 i2_x (gx37 S).2.2.2.2.2.1 (gx37 S).2.2.2.2.2.2.1 (gx37 S).2.2.2.2.2.2.2.1 (gx37 S).2.2.2.2.2.2.2.2.1 (gx37 S).2.2.2.2.2.2.2.2.2.1 (gx37 S).2.2.2.2.2.2.2.2.2.2.1 i2_lI y_i2_lI i2_ce i2_co i2_fi i2_fe (gx38 S).2.2.1 (gx38 S).2.2.2.1 (gx38 S).2.2.2.2.1 (gx38 S).2.2.2.2.2.1 (gx38 S).2.2.2.2.2.2.1 (gx38 S).2.2.2.2.2.2.2.1 i3_x (gx38 S).2.2.2.2.2.2.2.2.2.1 (gx38 S).2.2.2.2.2.2.2.2.2.2.1 (gx38 S).2.2.2.2.2.2.2.2.2.2.2 (gx39 S).1 (gx39 S).2.1 (gx39 S).2.2.1 i3_lI y_i3_lI i3_ce i3_co i3_fi i3_fe (gx39 S).2.2.2.2.2.2.1 (gx39 S).2.2.2.2.2.2.2.1 (gx39 S).2.2.2.2.2.2.2.2.1 (gx39 S).2.2.2.2.2.2.2.2.2.1 (gx39 S).2.2.2.2.2.2.2.2.2.2.1 i4_x (gx40 S).1 (gx40 S).2.1 (gx40 S).2.2.1 (gx40 S).2.2.2.1 (gx40 S).2.2.2.2.1 (gx40 S).2.2.2.2.2.1 i4_lI y_i4_lI i4_ce i4_co i4_fi i4_fe (gx40 S).2.2.2.2.2.2.2.2.2.1 (gx40 S).2.2.2.2.2.2.2.2.2.2.1 (gx40 S).2.2.2.2.2.2.2.2.2.2.2 (gx41 S).1 (gx41 S).2.1 (gx41 S).2.2.1 (gx41 S).2.2.2.1 (gx41 S).2.2.2.2.1 (gx41 S).2.2.2.2.2.1 (gx41 S).2.2.2.2.2.2 (by kernel_rfl)
end Sc
open PySem PySem.W PySem.Calls PyProof.Rows
theorem PySem.Challenge.cw_smallcourt_k65_whole_seasons_as_books_holds : PySem.Challenge.rw_smallcourt_k65_whole_seasons_as_books.Holds := by
  w_on; o_law
  refine HandSHeadRun.head_imp (r := Sc.theRow) (q := view Sc.theRow.prog [0, Sc.lawI]) (H := Sc.hk) (ob := Sc.ob) (M := 9000) (loose := Sc.names) (d := HandSHeadRun.topDef Sc.theRow.prog Sc.lawI) (kwd := []) Sc.ob_eq Sc.run (by kernel_rfl) (by kernel_rfl) (by kernel_rfl) (by rfl) (by first | assumption | decide +kernel) (by decide +kernel) ⟨rfl, rfl, rfl, rfl, rfl, by decide +kernel⟩ ?hw ?hc
  case hw => w_witness2
  case hc =>
    refine LamX.walk_ofTsE (l := Sc.theLaw) (n := 63) (k := 34) (CX := fun _ => L2.CX0) (x := "_law_script") rfl (by decide) (by kernel_rfl) ⟨rfl, by decide, by decide⟩ ?F (fun _ _ _ _ _ z => z)
    intro w mg fa h Y G hmg0
    obtain ⟨K, KX, c⟩ := Y
    have hmg : mg ("law" : PySem.Str) = some (.ref fa) := by
      have e : (HandSHeadRun.topDef Sc.theRow.prog Sc.lawI).name = ("law" : PySem.Str) := by kernel_rfl
      rw [← e]
      exact hmg0
    exact ⟨K, KX, Sc.all_y KX G hmg c⟩
