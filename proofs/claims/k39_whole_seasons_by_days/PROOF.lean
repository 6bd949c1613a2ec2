import PyProof.Rows.All
import Wide.All
import OpenK.AllK
import Wide.FinOn
import KE.GoesMore
import HandS.Iter
import KE.KExcSuper
import HandS.Nested
import HandS.ExcInit
import HandS.FStr
import HandS.ForMost
import HandS.ForExc
import HandS.EndTab
import HandS.IsInst
import HandS.SetFor
import HandS.ExcIs
import HandS.ExcField
import HandS.TupAny
import HandS.Wide
import HandS.WideBits
import HandS.Walk
import HandS.Deep
import KE.KExcIs
import PySem.Challenge.RW_smallcourt_k39_whole_seasons_by_days
import HandS.Property
import HandS.NamedTupGet
import HandS.More
import HandS.SlotsOwn
import KE.KOpsOwn
import KE.KCallOwn
import HandS.WordsExc
import HandS.List
import PyProof.AutoSeq1
import OpenK.KMeth
import HandS.Gcd
import KE.KMathGC
import HandS.DictComp
import HandS.Style
import PyProof.EqKinds
import PyProof.NeKinds
import HandS.Conv
import HandS.OwnEq
import HandS.Head2
import HandS.Head3
import HandS.HeadHook4
import HandS.HeadWalk
set_option Elab.async false
set_option linter.all false
set_option maxRecDepth 100000
set_option maxHeartbeats 4000000
namespace Sc
open PySem PySem.Spec PyProof.Rows L2 NdefX
def topS (i : Nat) : Stmt := PySem.Challenge.pw_smallcourt_k39_whole_seasons_by_days.main.body.getD i (.Pass ⟨0, 0, 0, 0⟩)
abbrev s_is_name : Stmt := topS 16
abbrev s_is_integer : Stmt := topS 17
abbrev s_rises : Stmt := topS 18
abbrev s__law_mix : Stmt := topS 52
abbrev s__law_next : Stmt := topS 53
abbrev s__law_facts : Stmt := topS 55
abbrev s__law_alike : Stmt := topS 54
abbrev s_check_part : Stmt := topS 49
abbrev s_merged : Stmt := topS 50
abbrev s_Condition___init__ : Stmt := (inClass (topS 48) 0)
abbrev s_Condition_holding : Stmt := (inClass (topS 48) 1)
abbrev s_Condition_failing : Stmt := (inClass (topS 48) 2)
abbrev s_Condition_names : Stmt := (inClass (topS 48) 3)
abbrev s_Condition___len__ : Stmt := (inClass (topS 48) 5)
abbrev s_Condition___call__ : Stmt := (inClass (topS 48) 4)
abbrev s_Condition_within : Stmt := (inClass (topS 48) 8)
abbrev s_Condition___eq__ : Stmt := (inClass (topS 48) 7)
abbrev s_Condition___and__ : Stmt := (inClass (topS 48) 6)
abbrev s_nested : Stmt := topS 37
abbrev s_Rule___init__ : Stmt := (inClass (topS 35) 0)
abbrev s_Rule_name : Stmt := (inClass (topS 35) 1)
abbrev s_Rule_condition : Stmt := (inClass (topS 35) 2)
abbrev s_Rule_ruling : Stmt := (inClass (topS 35) 3)
abbrev s_Rule_exceptions : Stmt := (inClass (topS 35) 4)
abbrev s_Rule_depth : Stmt := (inClass (topS 35) 5)
abbrev s_check_rules : Stmt := topS 38
abbrev s_check_facts : Stmt := topS 25
abbrev s_check_case : Stmt := topS 26
abbrev s_Book___init__ : Stmt := (inClass (topS 36) 0)
abbrev s_Book_facts : Stmt := (inClass (topS 36) 1)
abbrev s_Book_rules : Stmt := (inClass (topS 36) 2)
abbrev s_Book_ruling : Stmt := (inClass (topS 36) 3)
abbrev s_Book___contains__ : Stmt := (inClass (topS 36) 7)
abbrev s_Book___getitem__ : Stmt := (inClass (topS 36) 8)
abbrev s_replaced : Stmt := topS 39
abbrev s_Book___sub__ : Stmt := (inClass (topS 36) 10)
abbrev s__law_sides : Stmt := topS 56
abbrev s__law_rule : Stmt := topS 57
abbrev s__law_drawn : Stmt := topS 58
abbrev s__law_made : Stmt := topS 59
abbrev s__law_book : Stmt := topS 60
abbrev s__law_all : Stmt := topS 63
abbrev s_is_day : Stmt := topS 21
abbrev s_check_day : Stmt := topS 22
abbrev s_is_span : Stmt := topS 44
abbrev s_in_span : Stmt := topS 45
abbrev s_check_spans : Stmt := topS 43
abbrev s__law_spans : Stmt := topS 64
abbrev s__law_season : Stmt := topS 65
abbrev s__law_period : Stmt := topS 66
abbrev s_Seasons___init__ : Stmt := (inClass (topS 42) 0)
abbrev s_Seasons_period : Stmt := (inClass (topS 42) 3)
abbrev s_Seasons___call__ : Stmt := (inClass (topS 42) 4)
abbrev s__law_told : Stmt := topS 61
abbrev s__law_seen : Stmt := topS 62
abbrev s_Rule___eq__ : Stmt := (inClass (topS 35) 7)
abbrev s_Book___eq__ : Stmt := (inClass (topS 36) 11)
abbrev s_law : Stmt := topS 67
abbrev nf_InvalidFacts (cc c : Addr) : NF := ⟨"__init__", "InvalidFacts.__init__", defArgs (inClass (topS 4) 0), defBody (inClass (topS 4) 0), defScope (inClass (topS 4) 0), [(("__class__" : Str), cc)], c⟩
abbrev nf_InvalidCase (cc c : Addr) : NF := ⟨"__init__", "InvalidCase.__init__", defArgs (inClass (topS 5) 0), defBody (inClass (topS 5) 0), defScope (inClass (topS 5) 0), [(("__class__" : Str), cc)], c⟩
abbrev nf_InvalidCondition (cc c : Addr) : NF := ⟨"__init__", "InvalidCondition.__init__", defArgs (inClass (topS 6) 0), defBody (inClass (topS 6) 0), defScope (inClass (topS 6) 0), [(("__class__" : Str), cc)], c⟩
abbrev nf_InvalidRule (cc c : Addr) : NF := ⟨"__init__", "InvalidRule.__init__", defArgs (inClass (topS 8) 0), defBody (inClass (topS 8) 0), defScope (inClass (topS 8) 0), [(("__class__" : Str), cc)], c⟩
abbrev nf_InvalidBook (cc c : Addr) : NF := ⟨"__init__", "InvalidBook.__init__", defArgs (inClass (topS 9) 0), defBody (inClass (topS 9) 0), defScope (inClass (topS 9) 0), [(("__class__" : Str), cc)], c⟩
abbrev nf_InvalidSpan (cc c : Addr) : NF := ⟨"__init__", "InvalidSpan.__init__", defArgs (inClass (topS 12) 0), defBody (inClass (topS 12) 0), defScope (inClass (topS 12) 0), [(("__class__" : Str), cc)], c⟩
def letters : Str := "abcdefghijklmnopqrstuvwxyz"
def lastDay : Int := 1000000000000000000
end Sc
namespace HeadY
open PySem PySem.Spec PyProof.Rows L2 He
/-! ### addresses -/
def recF (K : PySem.W.Frag) (p : Addr) : Addr := match PySem.W.recIn K p "property" with
  | some (.ref g :: _) => g
  | _ => 0
def codA (K : PySem.W.Frag) (f : Addr) : Addr := match K.lookup f with
  | some ⟨_, _, .func fd, _⟩ => (match fd.code with
    | .ref c => c
    | _ => 0)
  | _ => 0
def cloA (K : PySem.W.Frag) (f : Addr) : Addr := match K.lookup f with
  | some ⟨_, _, .func fd, _⟩ => (match fd.closure with
    | (_, c) :: _ => c
    | _ => 0)
  | _ => 0
def mroT (K : PySem.W.Frag) (C : Addr) : List Value := match K.lookup C with
  | some ⟨_, _, .cls cd, _⟩ => cd.mro.tail
  | _ => []
/-! ### functions -/
abbrev FnY : Type := Option (Str × Str × Arguments × FuncBody × Scope)
def fnY (K : PySem.W.Frag) (a : Addr) : FnY := match K.lookup a with
  | some ⟨_, _, .func fd, _⟩ => some (fd.name, fd.qualname, fd.params, fd.body, fd.scope)
  | _ => none
structure FnDY where
  at_ : PySem.W.Frag → Addr
  name : Str
  qual : Str
  params : Arguments
  body : List Stmt
  scope : Scope
def FnDY.val (d : FnDY) : FnY := some (d.name, d.qual, d.params, .stmts d.body, d.scope)
def fnB (K : PySem.W.Frag) (a : Addr) (q : Str) : Bool := match K.lookup a with
  | some ⟨_, _, .func fd, _⟩ => PySem.W.codeIn K (.ref (codA K a)) q && (decide (fd.code = .ref (codA K a)) && (decide (fd.globals = mainGlobals) && (fd.closure.isEmpty && (decide (fd.defaults = .none) && decide (fd.builtins = builtinsNs)))))
  | _ => false
def fnBC (K : PySem.W.Frag) (a : Addr) (q : Str) : Bool := match K.lookup a with
  | some ⟨_, _, .func fd, _⟩ => PySem.W.codeIn K (.ref (codA K a)) q && (decide (fd.code = .ref (codA K a)) && (decide (fd.globals = mainGlobals) && (decide (fd.closure = [(("__class__" : Str), cloA K a)]) && (decide (fd.defaults = .none) && decide (fd.builtins = builtinsNs)))))
  | _ => false
theorem fn_ok {K : PySem.W.Frag} {a : Addr} {n q : Str} {ps : Arguments} {b : List Stmt} {sc : Scope} (e : fnY K a = some (n, q, ps, .stmts b, sc)) (c : fnB K a q = true) :
    ∃ oc od kV dc pm an ct sl, K.lookup a = some ⟨oc, od, .func (PySem.W.fnOf n q ps b sc .none kV dc pm an (.ref (codA K a)) ct), sl⟩ ∧ PySem.W.codeIn K (.ref (codA K a)) q = true := by
  unfold fnB at c
  unfold fnY at e
  cases z : K.lookup a with
  | none => rw [z] at c; cases c
  | some o =>
    obtain ⟨oc, od, dt, sl⟩ := o
    rw [z] at c e
    cases dt with
    | func fd =>
      obtain ⟨n1, n2, n3, n4, n5, n6, n7, n8, n9, n10, n11, n12, n13, n14, n15⟩ := fd
      have e2 : (some (n1, n2, n3, n4, n5) : FnY) = some (n, q, ps, .stmts b, sc) := e
      simp only [Option.some.injEq, Prod.mk.injEq] at e2
      obtain ⟨h1, h2, h3, h4, h5⟩ := e2
      obtain ⟨c1, c⟩ := ba c
      obtain ⟨c2, c⟩ := ba c
      obtain ⟨c3, c⟩ := ba c
      obtain ⟨c4, c⟩ := ba c
      obtain ⟨c5, c6⟩ := ba c
      have c2 : n13 = _ := of_decide_eq_true c2
      have c3 : n6 = _ := of_decide_eq_true c3
      have c4 : n7 = [] := List.isEmpty_iff.mp c4
      have c5 : n8 = _ := of_decide_eq_true c5
      have c6 : n15 = _ := of_decide_eq_true c6
      exact ⟨oc, od, n9, n10, n11, n12, n14, sl, by rw [h1, h2, h3, h4, h5, c2, c3, c4, c5, c6], c1⟩
    | _ => cases c
theorem fn_okC {K : PySem.W.Frag} {a : Addr} {n q : Str} {ps : Arguments} {b : List Stmt} {sc : Scope} (e : fnY K a = some (n, q, ps, .stmts b, sc)) (c : fnBC K a q = true) :
    ∃ oc od kV dc pm an ct sl, K.lookup a = some ⟨oc, od, .func (PySem.W.fnX n q ps b sc [(("__class__" : Str), cloA K a)] .none kV dc pm an (.ref (codA K a)) ct), sl⟩ ∧ PySem.W.codeIn K (.ref (codA K a)) q = true := by
  unfold fnBC at c
  unfold fnY at e
  cases z : K.lookup a with
  | none => rw [z] at c; cases c
  | some o =>
    obtain ⟨oc, od, dt, sl⟩ := o
    rw [z] at c e
    cases dt with
    | func fd =>
      obtain ⟨n1, n2, n3, n4, n5, n6, n7, n8, n9, n10, n11, n12, n13, n14, n15⟩ := fd
      have e2 : (some (n1, n2, n3, n4, n5) : FnY) = some (n, q, ps, .stmts b, sc) := e
      simp only [Option.some.injEq, Prod.mk.injEq] at e2
      obtain ⟨h1, h2, h3, h4, h5⟩ := e2
      obtain ⟨c1, c⟩ := ba c
      obtain ⟨c2, c⟩ := ba c
      obtain ⟨c3, c⟩ := ba c
      obtain ⟨c4, c⟩ := ba c
      obtain ⟨c5, c6⟩ := ba c
      have c2 : n13 = _ := of_decide_eq_true c2
      have c3 : n6 = _ := of_decide_eq_true c3
      have c4 : n7 = _ := of_decide_eq_true c4
      have c5 : n8 = _ := of_decide_eq_true c5
      have c6 : n15 = _ := of_decide_eq_true c6
      exact ⟨oc, od, n9, n10, n11, n12, n14, sl, by rw [h1, h2, h3, h4, h5, c2, c3, c4, c5, c6], c1⟩
    | _ => cases c
/-! ### shapes -/
def intB (K : PySem.W.Frag) (x : Str) (i : Int) : Bool := match PySem.W.nsIn K mainGlobals x with
  | some (some (.int j _)) => decide (j = i)
  | _ => false
theorem int_is {K : PySem.W.Frag} {x : Str} {i : Int} (c : intB K x i = true) : ∃ t, PySem.W.nsIn K mainGlobals x = some (some (.int i t)) := by
  unfold intB at c
  split at c
  · rename_i j t e
    exact ⟨t, by rw [e, of_decide_eq_true c]⟩
  · cases c
def strB (K : PySem.W.Frag) (x s : Str) : Bool := match PySem.W.nsIn K mainGlobals x with
  | some (some (.str j _)) => decide (j = s)
  | _ => false
theorem str_is {K : PySem.W.Frag} {x s : Str} (c : strB K x s = true) : ∃ t, PySem.W.nsIn K mainGlobals x = some (some (.str s t)) := by
  unfold strB at c
  split at c
  · rename_i j t e
    exact ⟨t, by rw [e, of_decide_eq_true c]⟩
  · cases c
def recB (K : PySem.W.Frag) (p : Addr) : Bool := match PySem.W.recIn K p "property" with
  | some (.ref g :: _) => decide (g = recF K p)
  | _ => false
theorem rec_is {K : PySem.W.Frag} {p : Addr} (c : recB K p = true) : ∃ rs, PySem.W.recIn K p "property" = some (.ref (recF K p) :: rs) := by
  unfold recB at c
  split at c
  · rename_i g rs e
    exact ⟨rs, by rw [e, of_decide_eq_true c]⟩
  · cases c
theorem some_is {α : Type} {o : Option α} (c : o.isSome = true) : ∃ x, o = some x := Option.isSome_iff_exists.mp c
def sixB (id : String) : List (Option Value) → Bool
  | [_, _, _, _, some (.builtin b), _] => decide (b = id)
  | _ => false
theorem six_is {id : String} {l : List (Option Value)} (c : sixB id l = true) : ∃ x0 x1 x2 x3 x5, l = [x0, x1, x2, x3, some (.builtin id), x5] := by
  unfold sixB at c
  split at c
  · have c := of_decide_eq_true c
    exact ⟨_, _, _, _, _, by rw [c]⟩
  · cases c
def excB (K : PySem.W.Frag) (C : Addr) (id : String) : Bool := match K.lookup C with
  | some ⟨.type t, _, .cls cd, sl⟩ => decide (t = "type") && (decide (cd.mro = .ref C :: mroT K C) && (cd.hasDict && (!cd.hasDel && sixB id sl.toList)))
  | _ => false
theorem exc_is {K : PySem.W.Frag} {C : Addr} {id : String} (c : excB K C id = true) :
    ∃ nm q N bs sn su ab col dd x0 x1 x2 x3 x5, K.lookup C = some (excClassObj nm q C N bs (mroT K C) true sn su ab col dd x0 x1 x2 x3 x5 id) := by
  unfold excB at c
  cases z : K.lookup C with
  | none => rw [z] at c; cases c
  | some o =>
    obtain ⟨oc, od, dt, ⟨sl⟩⟩ := o
    rw [z] at c
    cases oc with
    | type t =>
      cases dt with
      | cls cd =>
        obtain ⟨n1, n2, n3, n4, n5, n6, n7, n8, n9, n10, n11⟩ := cd
        obtain ⟨c1, c⟩ := ba c
        obtain ⟨c2, c⟩ := ba c
        obtain ⟨c3, c⟩ := ba c
        obtain ⟨c4, c5⟩ := ba c
        have c1 : t = _ := of_decide_eq_true c1
        have c2 : n3 = _ := of_decide_eq_true c2
        have c3 : n6 = true := c3
        have c4 : n11 = false := by
          cases n11 with
          | false => rfl
          | true => cases c4
        obtain ⟨x0, x1, x2, x3, x5, c5⟩ := six_is (l := sl) c5
        exact ⟨n1, n5, n4, n2, n7, n8, n9, n10, od, x0, x1, x2, x3, x5, by rw [c1, c2, c3, c4, c5]⟩
      | _ => cases c
    | _ => cases dt <;> cases c
def cellB (K : PySem.W.Frag) (c E : Addr) : Bool := match K.lookup c with
  | some ⟨_, _, .cell (some (.ref a)), _⟩ => decide (a = E)
  | _ => false
theorem cell_is {K : PySem.W.Frag} {c E : Addr} (e : cellB K c E = true) : ∃ cl cd sl, K.lookup c = some ⟨cl, cd, .cell (some (.ref E)), sl⟩ := by
  unfold cellB at e
  split at e
  · rename_i a _ z
    exact ⟨_, _, _, by rw [z, of_decide_eq_true e]⟩
  · cases e
def fileB (K : PySem.W.Frag) (c : Addr) (f : Str) : Bool := match K.lookup c with
  | some ⟨_, _, .fields vs, _⟩ => (match (vs[2]? : Option Value) with
    | some (.str x _) => f == x
    | _ => false)
  | _ => false
theorem file_is {K : PySem.W.Frag} {c : Addr} {f : Str} (e : fileB K c f = true) : ∃ cl cd vs sl x t, K.lookup c = some ⟨cl, cd, .fields vs, sl⟩ ∧ vs[2]? = some (.str x t) ∧ (f == x) = true := by
  unfold fileB at e
  split at e
  · rename_i vs _ z
    split at e
    · rename_i x t y
      exact ⟨_, _, _, _, x, t, z, y, e⟩
    · cases e
  · cases e
def strsB : List Value → List Str → Bool
  | [], [] => true
  | .str x _ :: r, s :: ss => decide (x = s) && strsB r ss
  | _, _ => false
theorem strs_is : ∀ {l : List Value} {ss : List Str}, strsB l ss = true → ∃ us : List Tok, us.length = ss.length ∧ l = List.zipWith Value.str ss us
  | [], [], _ => ⟨[], rfl, rfl⟩
  | [], s :: ss, h => by cases h
  | v :: r, [], h => by cases v <;> cases h
  | v :: r, s :: ss, h => by
    cases v with
    | str x t =>
      obtain ⟨h1, h2⟩ := ba h
      obtain ⟨us, e1, e2⟩ := strs_is h2
      refine ⟨t :: us, by simp [e1], ?_⟩
      have h1 : x = s := of_decide_eq_true h1
      rw [h1, e2]
      rfl
    | _ => cases h
def tupB (K : PySem.W.Frag) (a : Addr) (ss : List Str) : Bool := match K.lookup a with
  | some ⟨.type c, _, .seq its _, _⟩ => decide (c = "tuple") && strsB its.toList ss
  | _ => false
theorem tup_is {K : PySem.W.Frag} {a : Addr} {ss : List Str} (e : tupB K a ss = true) : ∃ od n sl, ∃ us : List Tok, us.length = ss.length ∧ K.lookup a = some ⟨.type "tuple", od, .seq ⟨List.zipWith Value.str ss us⟩ n, sl⟩ := by
  unfold tupB at e
  cases z : K.lookup a with
  | none => rw [z] at e; cases e
  | some o =>
    obtain ⟨oc, od, dt, sl⟩ := o
    rw [z] at e
    cases oc with
    | type c =>
      cases dt with
      | seq its n =>
        obtain ⟨⟨its⟩⟩ : Nonempty { x : Array Value // x = its } := ⟨⟨its, rfl⟩⟩
        obtain ⟨e1, e2⟩ := ba e
        obtain ⟨us, h1, h2⟩ := strs_is e2
        have e1 : c = "tuple" := of_decide_eq_true e1
        refine ⟨od, n, sl, us, h1, ?_⟩
        rw [e1, ← h2]
      | _ => cases e
    | _ => cases dt <;> cases e
theorem len1 {α : Type} {us : List α} (h : us.length = 1) : ∃ a, us = [a] := by
  match us, h with
  | [a], _ => exact ⟨a, rfl⟩
theorem len2 {α : Type} {us : List α} (h : us.length = 2) : ∃ a b, us = [a, b] := by
  match us, h with
  | [a, b], _ => exact ⟨a, b, rfl⟩
theorem len3 {α : Type} {us : List α} (h : us.length = 3) : ∃ a b c, us = [a, b, c] := by
  match us, h with
  | [a, b, c], _ => exact ⟨a, b, c, rfl⟩
theorem len4 {α : Type} {us : List α} (h : us.length = 4) : ∃ a b c d, us = [a, b, c, d] := by
  match us, h with
  | [a, b, c, d], _ => exact ⟨a, b, c, d, rfl⟩
theorem len5 {α : Type} {us : List α} (h : us.length = 5) : ∃ a b c d e, us = [a, b, c, d, e] := by
  match us, h with
  | [a, b, c, d, e], _ => exact ⟨a, b, c, d, e, rfl⟩
theorem tbl_is {K : PySem.W.Frag} {c T : Addr} (e : PySem.W.codeHdIn K c T = true) : ∃ o, K.lookup c = some o ∧ PySem.W.codeHdIn [(c, o)] c T = true := by
  cases z : K.lookup c with
  | none =>
    unfold PySem.W.codeHdIn at e
    rw [z] at e
    cases e
  | some o =>
    refine ⟨o, rfl, ?_⟩
    unfold PySem.W.codeHdIn at e ⊢
    have q : ([(c, o)] : PySem.W.Frag).lookup c = some o := by simp [List.lookup]
    rw [q]
    rw [z] at e
    exact e
/-! ### the Hook -/
abbrev AlY : Type := List FnY × Bool
structure SaysY (fn : List FnDY) (tf : List (PySem.W.Frag → Addr)) (ex : PySem.W.Frag → Bool) (h : Heap) (K : PySem.W.Frag) : Prop where
  fns : fn.map (fun d => fnY K (d.at_ K)) = fn.map FnDY.val
  more : ex K = true
  hd : ∀ p ∈ tf, PySem.W.codeHdIn K (p K) (tabOf K (p K)) = true
  out : ∀ p ∈ tf, K.lookup (tabOf K (p K)) = none
  empty : ∀ p ∈ tf, h.get? (tabOf K (p K)) = some { cls := .none, data := .fields #[] }
def tabsY (g : Addr → Option Obj) (tf : List (PySem.W.Frag → Addr)) (K : PySem.W.Frag) : Bool := tf.all fun p => PySem.W.codeHdIn K (p K) (tabOf K (p K)) && (match g (tabOf K (p K)) with
  | some o => emptyTab o
  | none => false)
def obsY (as : List Addr) (fn : List FnDY) (tf : List (PySem.W.Frag → Addr)) (ex : PySem.W.Frag → Bool) (g : Addr → Option Obj) : AlY :=
  (fun K : PySem.W.Frag => (fn.map (fun d => fnY K (d.at_ K)), ex K && tabsY g tf K)) (frT g as)
def valY (fn : List FnDY) : AlY := (fn.map FnDY.val, true)
theorem saysY_of {as : List Addr} {fn : List FnDY} {tf : List (PySem.W.Frag → Addr)} {ex : PySem.W.Frag → Bool} {h : Heap} (e : obsY as fn tf ex h.get? = valY fn) : SaysY fn tf ex h (frT h.get? as) := by
  have e1 : fn.map (fun d => fnY (frT h.get? as) (d.at_ (frT h.get? as))) = fn.map FnDY.val := congrArg (fun z : AlY => z.1) e
  have e2 : (ex (frT h.get? as) && tabsY h.get? tf (frT h.get? as)) = true := congrArg (fun z : AlY => z.2) e
  obtain ⟨h1, h2⟩ := ba e2
  have key : ∀ p ∈ tf, PySem.W.codeHdIn (frT h.get? as) (p (frT h.get? as)) (tabOf (frT h.get? as) (p (frT h.get? as))) = true ∧ ∃ o, h.get? (tabOf (frT h.get? as) (p (frT h.get? as))) = some o ∧ emptyTab o = true := fun p hp => by
    obtain ⟨h3, h4⟩ := ba (List.all_eq_true.mp h2 p hp)
    refine ⟨h3, ?_⟩
    split at h4
    · rename_i o q
      exact ⟨o, q, h4⟩
    · cases h4
  exact ⟨e1, h1, fun p hp => (key p hp).1, fun p hp => by
    obtain ⟨_, o, q, z⟩ := key p hp
    exact frT_none q z, fun p hp => by
    obtain ⟨_, o, q, z⟩ := key p hp
    rw [q, emptyTab_eq z]⟩
def hookY (as : List Addr) (fn : List FnDY) (tf : List (PySem.W.Frag → Addr)) (ex : PySem.W.Frag → Bool) : PySem.W.Hook where
  α := AlY
  obs := fun s => obsY as fn tf ex s.heap.get?
  val := fun _ => valY fn
  says := fun _ h => ∃ K : PySem.W.Frag, K.In h ∧ SaysY fn tf ex h K
  of := fun _ _ e => ⟨_, frT_in, saysY_of e⟩
  keeps := fun _ _ _ ⟨K, hK, c⟩ k => ⟨K, PySem.W.Frag.In.keeps hK k, ⟨c.fns, c.more, c.hd, c.out, fun p hp => k _ _ (c.empty p hp)⟩⟩
theorem obsY_eq {as : List Addr} {fn : List FnDY} {tf : List (PySem.W.Frag → Addr)} {ex : PySem.W.Frag → Bool} {g : Addr → Option Obj} {s : Shared} (h : ∀ a, g a = s.heap.get? a) : obsY as fn tf ex g = (hookY as fn tf ex).obs s := by
  have e : g = s.heap.get? := funext h
  rw [e] <;> rfl
theorem map_join {α β γ δ ε : Type} {X : Option α} {a : α → β} {b : α → γ} {c : α → δ} {d : α → ε} {x : β} {y : γ} {z : δ} {u : ε} (h1 : X.map (fun s => (a s, b s, c s)) = some (x, y, z)) (h2 : X.map (fun s => (a s, b s, d s)) = some (x, y, u)) : ∃ s, X = some s ∧ a s = x ∧ b s = y ∧ c s = z ∧ d s = u := by
  cases X with
  | none => cases h1
  | some s =>
    have e1 : (a s, b s, c s) = (x, y, z) := Option.some.inj h1
    have e2 : (a s, b s, d s) = (x, y, u) := Option.some.inj h2
    simp only [Prod.mk.injEq] at e1 e2
    exact ⟨s, rfl, e1.1, e1.2.1, e1.2.2, e2.2.2⟩
/-- two runs, two parts of what is looked at -/
theorem run_join {r : PySem.W.OpenRow} {q : Program} {M : Nat} {loose : List Str} {w : World} {as : List Addr} {fn1 fn2 : List FnDY} {tf1 tf2 : List (PySem.W.Frag → Addr)} {ex1 ex2 : PySem.W.Frag → Bool}
    (h1 : HandSHeadRun.RunEq r q (hookY as fn1 tf1 ex1) (fun s => obsY as fn1 tf1 ex1 (HandSHeadRun.getT s)) M loose w) (h2 : HandSHeadRun.RunEq r q (hookY as fn2 tf2 ex2) (fun s => obsY as fn2 tf2 ex2 (HandSHeadRun.getT s)) M loose w) :
    HandSHeadRun.RunEq r q (hookY as (fn1 ++ fn2) (tf1 ++ tf2) (fun K => ex1 K && ex2 K)) (fun s => obsY as (fn1 ++ fn2) (tf1 ++ tf2) (fun K => ex1 K && ex2 K) (HandSHeadRun.getT s)) M loose w := by
  intro os
  obtain ⟨s, e, e1, e2, e3, e4⟩ := map_join (h1 os) (h2 os)
  rw [e]
  have e3 : obsY as fn1 tf1 ex1 (HandSHeadRun.getT s) = valY fn1 := e3
  have e4 : obsY as fn2 tf2 ex2 (HandSHeadRun.getT s) = valY fn2 := e4
  have a1 : fn1.map (fun d => fnY (frT (HandSHeadRun.getT s) as) (d.at_ (frT (HandSHeadRun.getT s) as))) = fn1.map FnDY.val := congrArg (fun z : AlY => z.1) e3
  have a2 : (ex1 (frT (HandSHeadRun.getT s) as) && tabsY (HandSHeadRun.getT s) tf1 (frT (HandSHeadRun.getT s) as)) = true := congrArg (fun z : AlY => z.2) e3
  have b1 : fn2.map (fun d => fnY (frT (HandSHeadRun.getT s) as) (d.at_ (frT (HandSHeadRun.getT s) as))) = fn2.map FnDY.val := congrArg (fun z : AlY => z.1) e4
  have b2 : (ex2 (frT (HandSHeadRun.getT s) as) && tabsY (HandSHeadRun.getT s) tf2 (frT (HandSHeadRun.getT s) as)) = true := congrArg (fun z : AlY => z.2) e4
  obtain ⟨a2, a3⟩ := ba a2
  obtain ⟨b2, b3⟩ := ba b2
  have c : obsY as (fn1 ++ fn2) (tf1 ++ tf2) (fun K => ex1 K && ex2 K) (HandSHeadRun.getT s) = valY (fn1 ++ fn2) := by
    show ((fn1 ++ fn2).map (fun d => fnY (frT (HandSHeadRun.getT s) as) (d.at_ (frT (HandSHeadRun.getT s) as))), (ex1 (frT (HandSHeadRun.getT s) as) && ex2 (frT (HandSHeadRun.getT s) as)) && tabsY (HandSHeadRun.getT s) (tf1 ++ tf2) (frT (HandSHeadRun.getT s) as)) = ((fn1 ++ fn2).map FnDY.val, true)
    have t : tabsY (HandSHeadRun.getT s) (tf1 ++ tf2) (frT (HandSHeadRun.getT s) as) = true := by
      unfold tabsY at a3 b3 ⊢
      rw [List.all_append, a3, b3] <;> rfl
    rw [List.map_append, List.map_append, a1, b1, a2, b2, t] <;> rfl
  show some (_, _, _) = some (_, _, _)
  rw [e1, e2]
  exact congrArg (fun z => some (true, PySem.W.openGood q loose, z)) c
/-- the same of a text with imports -/
theorem run_joinI {r : PySem.W.OpenRow} {q : Program} {M : Nat} {loose : List Str} {w : World} {as : List Addr} {fn1 fn2 : List FnDY} {tf1 tf2 : List (PySem.W.Frag → Addr)} {ex1 ex2 : PySem.W.Frag → Bool}
    (h1 : HandSHeadRun.RunEqI r q (hookY as fn1 tf1 ex1) (fun s => obsY as fn1 tf1 ex1 (HandSHeadRun.getT s)) M loose w) (h2 : HandSHeadRun.RunEqI r q (hookY as fn2 tf2 ex2) (fun s => obsY as fn2 tf2 ex2 (HandSHeadRun.getT s)) M loose w) :
    HandSHeadRun.RunEqI r q (hookY as (fn1 ++ fn2) (tf1 ++ tf2) (fun K => ex1 K && ex2 K)) (fun s => obsY as (fn1 ++ fn2) (tf1 ++ tf2) (fun K => ex1 K && ex2 K) (HandSHeadRun.getT s)) M loose w := by
  unfold HandSHeadRun.RunEqI at h1 h2 ⊢
  obtain ⟨⟨s0, s⟩, e, e1, e2, e3, e4⟩ := map_join h1 h2
  rw [e]
  have e3 : obsY as fn1 tf1 ex1 (HandSHeadRun.getT s) = valY fn1 := e3
  have e4 : obsY as fn2 tf2 ex2 (HandSHeadRun.getT s) = valY fn2 := e4
  have a1 : fn1.map (fun d => fnY (frT (HandSHeadRun.getT s) as) (d.at_ (frT (HandSHeadRun.getT s) as))) = fn1.map FnDY.val := congrArg (fun z : AlY => z.1) e3
  have a2 : (ex1 (frT (HandSHeadRun.getT s) as) && tabsY (HandSHeadRun.getT s) tf1 (frT (HandSHeadRun.getT s) as)) = true := congrArg (fun z : AlY => z.2) e3
  have b1 : fn2.map (fun d => fnY (frT (HandSHeadRun.getT s) as) (d.at_ (frT (HandSHeadRun.getT s) as))) = fn2.map FnDY.val := congrArg (fun z : AlY => z.1) e4
  have b2 : (ex2 (frT (HandSHeadRun.getT s) as) && tabsY (HandSHeadRun.getT s) tf2 (frT (HandSHeadRun.getT s) as)) = true := congrArg (fun z : AlY => z.2) e4
  obtain ⟨a2, a3⟩ := ba a2
  obtain ⟨b2, b3⟩ := ba b2
  have c : obsY as (fn1 ++ fn2) (tf1 ++ tf2) (fun K => ex1 K && ex2 K) (HandSHeadRun.getT s) = valY (fn1 ++ fn2) := by
    show ((fn1 ++ fn2).map (fun d => fnY (frT (HandSHeadRun.getT s) as) (d.at_ (frT (HandSHeadRun.getT s) as))), (ex1 (frT (HandSHeadRun.getT s) as) && ex2 (frT (HandSHeadRun.getT s) as)) && tabsY (HandSHeadRun.getT s) (tf1 ++ tf2) (frT (HandSHeadRun.getT s) as)) = ((fn1 ++ fn2).map FnDY.val, true)
    have t : tabsY (HandSHeadRun.getT s) (tf1 ++ tf2) (frT (HandSHeadRun.getT s) as) = true := by
      unfold tabsY at a3 b3 ⊢
      rw [List.all_append, a3, b3] <;> rfl
    rw [List.map_append, List.map_append, a1, b1, a2, b2, t] <;> rfl
  show some (_, _, _) = some (_, _, _)
  rw [e1, e2]
  exact congrArg (fun z => some (true, PySem.W.openGood q loose, z)) c
theorem SaysY.fn {fn : List FnDY} {tf : List (PySem.W.Frag → Addr)} {ex : PySem.W.Frag → Bool} {h : Heap} {K : PySem.W.Frag} (c : SaysY fn tf ex h K) (i : Nat) {d : FnDY} (e : fn[i]? = some d) : fnY K (d.at_ K) = some (d.name, d.qual, d.params, .stmts d.body, d.scope) := by
  have e2 : (fn.map fun d => fnY K (d.at_ K))[i]? = (fn.map FnDY.val)[i]? := by rw [c.fns]
  rw [List.getElem?_map, List.getElem?_map, e] at e2
  exact Option.some.inj e2
end HeadY
namespace Sc
open PySem PySem.Spec PyProof.Rows L2 HeadY He
abbrev theLaw : PySem.W.OpenLaw := PySem.Challenge.rw_smallcourt_k39_whole_seasons_by_days
abbrev theRow : PySem.W.OpenRow := PySem.W.OpenLaw.row PySem.Challenge.rw_smallcourt_k39_whole_seasons_by_days
def theFile : Str := theRow.prog.main.file
def Ad_f_is_name (K : PySem.W.Frag) : Addr := ga K "is_name"
def Ad_f_is_integer (K : PySem.W.Frag) : Addr := ga K "is_integer"
def Ad_f_rises (K : PySem.W.Frag) : Addr := ga K "rises"
def Ad_f_check_facts (K : PySem.W.Frag) : Addr := ga K "check_facts"
def Ad_f_nested (K : PySem.W.Frag) : Addr := ga K "nested"
def Ad_f_check_rules (K : PySem.W.Frag) : Addr := ga K "check_rules"
def Ad_f_check_part (K : PySem.W.Frag) : Addr := ga K "check_part"
def Ad_f_merged (K : PySem.W.Frag) : Addr := ga K "merged"
def Ad_f_replaced (K : PySem.W.Frag) : Addr := ga K "replaced"
def Ad_f_is_day (K : PySem.W.Frag) : Addr := ga K "is_day"
def Ad_f_check_day (K : PySem.W.Frag) : Addr := ga K "check_day"
def Ad_f_is_span (K : PySem.W.Frag) : Addr := ga K "is_span"
def Ad_f_in_span (K : PySem.W.Frag) : Addr := ga K "in_span"
def Ad_f_check_spans (K : PySem.W.Frag) : Addr := ga K "check_spans"
def Ad_f__law_mix (K : PySem.W.Frag) : Addr := ga K "_law_mix"
def Ad_f__law_next (K : PySem.W.Frag) : Addr := ga K "_law_next"
def Ad_f__law_alike (K : PySem.W.Frag) : Addr := ga K "_law_alike"
def Ad_f__law_facts (K : PySem.W.Frag) : Addr := ga K "_law_facts"
def Ad_f__law_sides (K : PySem.W.Frag) : Addr := ga K "_law_sides"
def Ad_f__law_rule (K : PySem.W.Frag) : Addr := ga K "_law_rule"
def Ad_f__law_drawn (K : PySem.W.Frag) : Addr := ga K "_law_drawn"
def Ad_f__law_made (K : PySem.W.Frag) : Addr := ga K "_law_made"
def Ad_f__law_book (K : PySem.W.Frag) : Addr := ga K "_law_book"
def Ad_f__law_told (K : PySem.W.Frag) : Addr := ga K "_law_told"
def Ad_f__law_seen (K : PySem.W.Frag) : Addr := ga K "_law_seen"
def Ad_f__law_all (K : PySem.W.Frag) : Addr := ga K "_law_all"
def Ad_f__law_spans (K : PySem.W.Frag) : Addr := ga K "_law_spans"
def Ad_f__law_season (K : PySem.W.Frag) : Addr := ga K "_law_season"
def Ad_f__law_period (K : PySem.W.Frag) : Addr := ga K "_law_period"
def Ad_f_law (K : PySem.W.Frag) : Addr := ga K "law"
def Ad_CO (K : PySem.W.Frag) : Addr := ga K "Condition"
def Ad_RO (K : PySem.W.Frag) : Addr := ga K "Rule"
def Ad_BO (K : PySem.W.Frag) : Addr := ga K "Book"
def Ad_SE (K : PySem.W.Frag) : Addr := ga K "Seasons"
def Ad_CE (K : PySem.W.Frag) : Addr := ga K "CourtError"
def Ad_E0 (K : PySem.W.Frag) : Addr := ga K "InvalidFacts"
def Ad_E1 (K : PySem.W.Frag) : Addr := ga K "InvalidCondition"
def Ad_E2 (K : PySem.W.Frag) : Addr := ga K "InvalidRule"
def Ad_E3 (K : PySem.W.Frag) : Addr := ga K "InvalidBook"
def Ad_E4 (K : PySem.W.Frag) : Addr := ga K "UnknownRule"
def Ad_f_mi (K : PySem.W.Frag) : Addr := ma K (Ad_CO K) "__init__"
def Ad_pp_mh (K : PySem.W.Frag) : Addr := ma K (Ad_CO K) "holding"
def Ad_pp_mf (K : PySem.W.Frag) : Addr := ma K (Ad_CO K) "failing"
def Ad_pp_mn (K : PySem.W.Frag) : Addr := ma K (Ad_CO K) "names"
def Ad_f_ri (K : PySem.W.Frag) : Addr := ma K (Ad_RO K) "__init__"
def Ad_pp_rn (K : PySem.W.Frag) : Addr := ma K (Ad_RO K) "name"
def Ad_pp_rc (K : PySem.W.Frag) : Addr := ma K (Ad_RO K) "condition"
def Ad_pp_rr (K : PySem.W.Frag) : Addr := ma K (Ad_RO K) "ruling"
def Ad_pp_re (K : PySem.W.Frag) : Addr := ma K (Ad_RO K) "exceptions"
def Ad_pp_rd (K : PySem.W.Frag) : Addr := ma K (Ad_RO K) "depth"
def Ad_f_bi (K : PySem.W.Frag) : Addr := ma K (Ad_BO K) "__init__"
def Ad_pp_bf (K : PySem.W.Frag) : Addr := ma K (Ad_BO K) "facts"
def Ad_pp_bs (K : PySem.W.Frag) : Addr := ma K (Ad_BO K) "rules"
def Ad_pp_br (K : PySem.W.Frag) : Addr := ma K (Ad_BO K) "ruling"
def Ad_f_yi (K : PySem.W.Frag) : Addr := ma K (Ad_SE K) "__init__"
def Ad_pp_yp (K : PySem.W.Frag) : Addr := ma K (Ad_SE K) "period"
def Ad_f_gc (K : PySem.W.Frag) : Addr := ma K (Ad_BO K) "__contains__"
def Ad_f_gs (K : PySem.W.Frag) : Addr := ma K (Ad_BO K) "__sub__"
def Ad_f_eb (K : PySem.W.Frag) : Addr := ma K (Ad_BO K) "__eq__"
def Ad_f_er (K : PySem.W.Frag) : Addr := ma K (Ad_RO K) "__eq__"
def Ad_f_ec (K : PySem.W.Frag) : Addr := ma K (Ad_CO K) "__eq__"
def Ad_f_yc (K : PySem.W.Frag) : Addr := ma K (Ad_SE K) "__call__"
def Ad_fIi0 (K : PySem.W.Frag) : Addr := ma K (Ad_E0 K) "__init__"
def Ad_fIi1 (K : PySem.W.Frag) : Addr := ma K (Ad_E1 K) "__init__"
def Ad_fIi2 (K : PySem.W.Frag) : Addr := ma K (Ad_E2 K) "__init__"
def Ad_fIi3 (K : PySem.W.Frag) : Addr := ma K (Ad_E3 K) "__init__"
def Ad_f_mh (K : PySem.W.Frag) : Addr := recF K (Ad_pp_mh K)
def Ad_f_mf (K : PySem.W.Frag) : Addr := recF K (Ad_pp_mf K)
def Ad_f_mn (K : PySem.W.Frag) : Addr := recF K (Ad_pp_mn K)
def Ad_f_rn (K : PySem.W.Frag) : Addr := recF K (Ad_pp_rn K)
def Ad_f_rc (K : PySem.W.Frag) : Addr := recF K (Ad_pp_rc K)
def Ad_f_rr (K : PySem.W.Frag) : Addr := recF K (Ad_pp_rr K)
def Ad_f_re (K : PySem.W.Frag) : Addr := recF K (Ad_pp_re K)
def Ad_f_rd (K : PySem.W.Frag) : Addr := recF K (Ad_pp_rd K)
def Ad_f_bf (K : PySem.W.Frag) : Addr := recF K (Ad_pp_bf K)
def Ad_f_bs (K : PySem.W.Frag) : Addr := recF K (Ad_pp_bs K)
def Ad_f_br (K : PySem.W.Frag) : Addr := recF K (Ad_pp_br K)
def Ad_f_yp (K : PySem.W.Frag) : Addr := recF K (Ad_pp_yp K)
def Ad_cc_law (K : PySem.W.Frag) : Addr := codA K (Ad_f_law K)
def Ad_celi0 (K : PySem.W.Frag) : Addr := cloA K (Ad_fIi0 K)
def Ad_codi0 (K : PySem.W.Frag) : Addr := codA K (Ad_fIi0 K)
def Ad_celi1 (K : PySem.W.Frag) : Addr := cloA K (Ad_fIi1 K)
def Ad_codi1 (K : PySem.W.Frag) : Addr := codA K (Ad_fIi1 K)
def Ad_celi2 (K : PySem.W.Frag) : Addr := cloA K (Ad_fIi2 K)
def Ad_codi2 (K : PySem.W.Frag) : Addr := codA K (Ad_fIi2 K)
def Ad_celi3 (K : PySem.W.Frag) : Addr := cloA K (Ad_fIi3 K)
def Ad_codi3 (K : PySem.W.Frag) : Addr := codA K (Ad_fIi3 K)
def Fx0 (K : PySem.W.Frag) : Prop := (PySem.W.nsIn K mainGlobals "is_name" = some (some (.ref (Ad_f_is_name K)))) ∧ (fnB K (Ad_f_is_name K) "is_name" = true) ∧ (PySem.W.keepIn K (.ref (Ad_f_is_name K)) = true) ∧ (PySem.W.nsIn K mainGlobals "is_integer" = some (some (.ref (Ad_f_is_integer K)))) ∧ (fnB K (Ad_f_is_integer K) "is_integer" = true) ∧ (PySem.W.keepIn K (.ref (Ad_f_is_integer K)) = true) ∧ (PySem.W.nsIn K mainGlobals "rises" = some (some (.ref (Ad_f_rises K)))) ∧ (fnB K (Ad_f_rises K) "rises" = true) ∧ (PySem.W.keepIn K (.ref (Ad_f_rises K)) = true) ∧ (PySem.W.nsIn K mainGlobals "check_facts" = some (some (.ref (Ad_f_check_facts K)))) ∧ (fnB K (Ad_f_check_facts K) "check_facts" = true) ∧ (PySem.W.keepIn K (.ref (Ad_f_check_facts K)) = true)
instance (K : PySem.W.Frag) : Decidable (Fx0 K) := by unfold Fx0; infer_instance
def Fx1 (K : PySem.W.Frag) : Prop := (PySem.W.nsIn K mainGlobals "nested" = some (some (.ref (Ad_f_nested K)))) ∧ (fnB K (Ad_f_nested K) "nested" = true) ∧ (PySem.W.keepIn K (.ref (Ad_f_nested K)) = true) ∧ (PySem.W.nsIn K mainGlobals "check_rules" = some (some (.ref (Ad_f_check_rules K)))) ∧ (fnB K (Ad_f_check_rules K) "check_rules" = true) ∧ (PySem.W.keepIn K (.ref (Ad_f_check_rules K)) = true) ∧ (PySem.W.nsIn K mainGlobals "check_part" = some (some (.ref (Ad_f_check_part K)))) ∧ (fnB K (Ad_f_check_part K) "check_part" = true) ∧ (PySem.W.keepIn K (.ref (Ad_f_check_part K)) = true) ∧ (PySem.W.nsIn K mainGlobals "merged" = some (some (.ref (Ad_f_merged K)))) ∧ (fnB K (Ad_f_merged K) "merged" = true) ∧ (PySem.W.keepIn K (.ref (Ad_f_merged K)) = true)
instance (K : PySem.W.Frag) : Decidable (Fx1 K) := by unfold Fx1; infer_instance
def Fx2 (K : PySem.W.Frag) : Prop := (PySem.W.nsIn K mainGlobals "replaced" = some (some (.ref (Ad_f_replaced K)))) ∧ (fnB K (Ad_f_replaced K) "replaced" = true) ∧ (PySem.W.keepIn K (.ref (Ad_f_replaced K)) = true) ∧ (PySem.W.nsIn K mainGlobals "is_day" = some (some (.ref (Ad_f_is_day K)))) ∧ (fnB K (Ad_f_is_day K) "is_day" = true) ∧ (PySem.W.keepIn K (.ref (Ad_f_is_day K)) = true) ∧ (PySem.W.nsIn K mainGlobals "check_day" = some (some (.ref (Ad_f_check_day K)))) ∧ (fnB K (Ad_f_check_day K) "check_day" = true) ∧ (PySem.W.keepIn K (.ref (Ad_f_check_day K)) = true) ∧ (PySem.W.nsIn K mainGlobals "is_span" = some (some (.ref (Ad_f_is_span K)))) ∧ (fnB K (Ad_f_is_span K) "is_span" = true) ∧ (PySem.W.keepIn K (.ref (Ad_f_is_span K)) = true)
instance (K : PySem.W.Frag) : Decidable (Fx2 K) := by unfold Fx2; infer_instance
def Fx3 (K : PySem.W.Frag) : Prop := (PySem.W.nsIn K mainGlobals "in_span" = some (some (.ref (Ad_f_in_span K)))) ∧ (fnB K (Ad_f_in_span K) "in_span" = true) ∧ (PySem.W.keepIn K (.ref (Ad_f_in_span K)) = true) ∧ (PySem.W.nsIn K mainGlobals "check_spans" = some (some (.ref (Ad_f_check_spans K)))) ∧ (fnB K (Ad_f_check_spans K) "check_spans" = true) ∧ (PySem.W.keepIn K (.ref (Ad_f_check_spans K)) = true) ∧ (PySem.W.nsIn K mainGlobals "_law_mix" = some (some (.ref (Ad_f__law_mix K)))) ∧ (fnB K (Ad_f__law_mix K) "_law_mix" = true) ∧ (PySem.W.keepIn K (.ref (Ad_f__law_mix K)) = true) ∧ (PySem.W.nsIn K mainGlobals "_law_next" = some (some (.ref (Ad_f__law_next K)))) ∧ (fnB K (Ad_f__law_next K) "_law_next" = true) ∧ (PySem.W.keepIn K (.ref (Ad_f__law_next K)) = true)
instance (K : PySem.W.Frag) : Decidable (Fx3 K) := by unfold Fx3; infer_instance
def Fx4 (K : PySem.W.Frag) : Prop := (PySem.W.nsIn K mainGlobals "_law_alike" = some (some (.ref (Ad_f__law_alike K)))) ∧ (fnB K (Ad_f__law_alike K) "_law_alike" = true) ∧ (PySem.W.keepIn K (.ref (Ad_f__law_alike K)) = true) ∧ (PySem.W.nsIn K mainGlobals "_law_facts" = some (some (.ref (Ad_f__law_facts K)))) ∧ (fnB K (Ad_f__law_facts K) "_law_facts" = true) ∧ (PySem.W.keepIn K (.ref (Ad_f__law_facts K)) = true) ∧ (PySem.W.nsIn K mainGlobals "_law_sides" = some (some (.ref (Ad_f__law_sides K)))) ∧ (fnB K (Ad_f__law_sides K) "_law_sides" = true) ∧ (PySem.W.keepIn K (.ref (Ad_f__law_sides K)) = true) ∧ (PySem.W.nsIn K mainGlobals "_law_rule" = some (some (.ref (Ad_f__law_rule K)))) ∧ (fnB K (Ad_f__law_rule K) "_law_rule" = true) ∧ (PySem.W.keepIn K (.ref (Ad_f__law_rule K)) = true)
instance (K : PySem.W.Frag) : Decidable (Fx4 K) := by unfold Fx4; infer_instance
def Fx5 (K : PySem.W.Frag) : Prop := (PySem.W.nsIn K mainGlobals "_law_drawn" = some (some (.ref (Ad_f__law_drawn K)))) ∧ (fnB K (Ad_f__law_drawn K) "_law_drawn" = true) ∧ (PySem.W.keepIn K (.ref (Ad_f__law_drawn K)) = true) ∧ (PySem.W.nsIn K mainGlobals "_law_made" = some (some (.ref (Ad_f__law_made K)))) ∧ (fnB K (Ad_f__law_made K) "_law_made" = true) ∧ (PySem.W.keepIn K (.ref (Ad_f__law_made K)) = true) ∧ (PySem.W.nsIn K mainGlobals "_law_book" = some (some (.ref (Ad_f__law_book K)))) ∧ (fnB K (Ad_f__law_book K) "_law_book" = true) ∧ (PySem.W.keepIn K (.ref (Ad_f__law_book K)) = true) ∧ (PySem.W.nsIn K mainGlobals "_law_told" = some (some (.ref (Ad_f__law_told K)))) ∧ (fnB K (Ad_f__law_told K) "_law_told" = true) ∧ (PySem.W.keepIn K (.ref (Ad_f__law_told K)) = true)
instance (K : PySem.W.Frag) : Decidable (Fx5 K) := by unfold Fx5; infer_instance
def Fx6 (K : PySem.W.Frag) : Prop := (PySem.W.nsIn K mainGlobals "_law_seen" = some (some (.ref (Ad_f__law_seen K)))) ∧ (fnB K (Ad_f__law_seen K) "_law_seen" = true) ∧ (PySem.W.keepIn K (.ref (Ad_f__law_seen K)) = true) ∧ (PySem.W.nsIn K mainGlobals "_law_all" = some (some (.ref (Ad_f__law_all K)))) ∧ (fnB K (Ad_f__law_all K) "_law_all" = true) ∧ (PySem.W.keepIn K (.ref (Ad_f__law_all K)) = true) ∧ (PySem.W.nsIn K mainGlobals "_law_spans" = some (some (.ref (Ad_f__law_spans K)))) ∧ (fnB K (Ad_f__law_spans K) "_law_spans" = true) ∧ (PySem.W.keepIn K (.ref (Ad_f__law_spans K)) = true) ∧ (PySem.W.nsIn K mainGlobals "_law_season" = some (some (.ref (Ad_f__law_season K)))) ∧ (fnB K (Ad_f__law_season K) "_law_season" = true) ∧ (PySem.W.keepIn K (.ref (Ad_f__law_season K)) = true)
instance (K : PySem.W.Frag) : Decidable (Fx6 K) := by unfold Fx6; infer_instance
def Fx7 (K : PySem.W.Frag) : Prop := (PySem.W.nsIn K mainGlobals "_law_period" = some (some (.ref (Ad_f__law_period K)))) ∧ (fnB K (Ad_f__law_period K) "_law_period" = true) ∧ (PySem.W.keepIn K (.ref (Ad_f__law_period K)) = true) ∧ (PySem.W.nsIn K mainGlobals "law" = some (some (.ref (Ad_f_law K)))) ∧ (fnB K (Ad_f_law K) "law" = true) ∧ (PySem.W.keepIn K (.ref (Ad_f_law K)) = true) ∧ (PySem.W.nsIn K mainGlobals "Condition" = some (some (.ref (Ad_CO K)))) ∧ (PySem.W.makesIn K (Ad_CO K) = true) ∧ (PySem.W.findIn K (.ref (Ad_CO K)) "__init__" = some (some (.ref (Ad_f_mi K)))) ∧ (PySem.W.isFn K (.ref (Ad_f_mi K)) = true) ∧ (PySem.W.keepIn K (.ref (Ad_CO K)) = true) ∧ (PySem.W.plainGet K (Ad_CO K) Str.empty = true)
instance (K : PySem.W.Frag) : Decidable (Fx7 K) := by unfold Fx7; infer_instance
def Fx8 (K : PySem.W.Frag) : Prop := (PySem.W.hasDictIn K (Ad_CO K) = true) ∧ (PySem.W.plainOver K (Ad_CO K) = true) ∧ (PySem.W.findIn K (.ref (Ad_CO K)) "__setattr__" = some (some (.builtin "object.__setattr__"))) ∧ (PySem.W.findIn K (.ref (Ad_CO K)) "_holding" = some none) ∧ (PySem.W.findIn K (.ref (Ad_CO K)) "_failing" = some none) ∧ (PySem.W.findIn K (.ref (Ad_CO K)) "_names" = some none) ∧ (PySem.W.findIn K (.ref (Ad_CO K)) "holding" = some (some (.ref (Ad_pp_mh K)))) ∧ (PySem.W.specialIn K (.ref (Ad_pp_mh K)) "__get__" = some (some (.builtin "property.__get__"))) ∧ (PySem.W.takesIn K (.ref (Ad_pp_mh K)) = some true) ∧ (recB K (Ad_pp_mh K) = true) ∧ (PySem.W.findIn K (.ref (Ad_CO K)) "failing" = some (some (.ref (Ad_pp_mf K)))) ∧ (PySem.W.specialIn K (.ref (Ad_pp_mf K)) "__get__" = some (some (.builtin "property.__get__")))
instance (K : PySem.W.Frag) : Decidable (Fx8 K) := by unfold Fx8; infer_instance
def Fx9 (K : PySem.W.Frag) : Prop := (PySem.W.takesIn K (.ref (Ad_pp_mf K)) = some true) ∧ (recB K (Ad_pp_mf K) = true) ∧ (PySem.W.findIn K (.ref (Ad_CO K)) "names" = some (some (.ref (Ad_pp_mn K)))) ∧ (PySem.W.specialIn K (.ref (Ad_pp_mn K)) "__get__" = some (some (.builtin "property.__get__"))) ∧ (PySem.W.takesIn K (.ref (Ad_pp_mn K)) = some true) ∧ (recB K (Ad_pp_mn K) = true) ∧ (PySem.W.nsIn K mainGlobals "Rule" = some (some (.ref (Ad_RO K)))) ∧ (PySem.W.makesIn K (Ad_RO K) = true) ∧ (PySem.W.findIn K (.ref (Ad_RO K)) "__init__" = some (some (.ref (Ad_f_ri K)))) ∧ (PySem.W.isFn K (.ref (Ad_f_ri K)) = true) ∧ (PySem.W.keepIn K (.ref (Ad_RO K)) = true) ∧ (PySem.W.plainGet K (Ad_RO K) Str.empty = true)
instance (K : PySem.W.Frag) : Decidable (Fx9 K) := by unfold Fx9; infer_instance
def Fx10 (K : PySem.W.Frag) : Prop := (PySem.W.hasDictIn K (Ad_RO K) = true) ∧ (PySem.W.plainOver K (Ad_RO K) = true) ∧ (PySem.W.findIn K (.ref (Ad_RO K)) "__setattr__" = some (some (.builtin "object.__setattr__"))) ∧ (PySem.W.findIn K (.ref (Ad_RO K)) "_name" = some none) ∧ (PySem.W.findIn K (.ref (Ad_RO K)) "_condition" = some none) ∧ (PySem.W.findIn K (.ref (Ad_RO K)) "_ruling" = some none) ∧ (PySem.W.findIn K (.ref (Ad_RO K)) "_exceptions" = some none) ∧ (PySem.W.findIn K (.ref (Ad_RO K)) "_depth" = some none) ∧ (PySem.W.findIn K (.ref (Ad_RO K)) "_inside" = some none) ∧ (PySem.W.findIn K (.ref (Ad_RO K)) "name" = some (some (.ref (Ad_pp_rn K)))) ∧ (PySem.W.specialIn K (.ref (Ad_pp_rn K)) "__get__" = some (some (.builtin "property.__get__"))) ∧ (PySem.W.takesIn K (.ref (Ad_pp_rn K)) = some true)
instance (K : PySem.W.Frag) : Decidable (Fx10 K) := by unfold Fx10; infer_instance
def Fx11 (K : PySem.W.Frag) : Prop := (recB K (Ad_pp_rn K) = true) ∧ (PySem.W.findIn K (.ref (Ad_RO K)) "condition" = some (some (.ref (Ad_pp_rc K)))) ∧ (PySem.W.specialIn K (.ref (Ad_pp_rc K)) "__get__" = some (some (.builtin "property.__get__"))) ∧ (PySem.W.takesIn K (.ref (Ad_pp_rc K)) = some true) ∧ (recB K (Ad_pp_rc K) = true) ∧ (PySem.W.findIn K (.ref (Ad_RO K)) "ruling" = some (some (.ref (Ad_pp_rr K)))) ∧ (PySem.W.specialIn K (.ref (Ad_pp_rr K)) "__get__" = some (some (.builtin "property.__get__"))) ∧ (PySem.W.takesIn K (.ref (Ad_pp_rr K)) = some true) ∧ (recB K (Ad_pp_rr K) = true) ∧ (PySem.W.findIn K (.ref (Ad_RO K)) "exceptions" = some (some (.ref (Ad_pp_re K)))) ∧ (PySem.W.specialIn K (.ref (Ad_pp_re K)) "__get__" = some (some (.builtin "property.__get__"))) ∧ (PySem.W.takesIn K (.ref (Ad_pp_re K)) = some true)
instance (K : PySem.W.Frag) : Decidable (Fx11 K) := by unfold Fx11; infer_instance
def Fx12 (K : PySem.W.Frag) : Prop := (recB K (Ad_pp_re K) = true) ∧ (PySem.W.findIn K (.ref (Ad_RO K)) "depth" = some (some (.ref (Ad_pp_rd K)))) ∧ (PySem.W.specialIn K (.ref (Ad_pp_rd K)) "__get__" = some (some (.builtin "property.__get__"))) ∧ (PySem.W.takesIn K (.ref (Ad_pp_rd K)) = some true) ∧ (recB K (Ad_pp_rd K) = true) ∧ (PySem.W.nsIn K mainGlobals "Book" = some (some (.ref (Ad_BO K)))) ∧ (PySem.W.makesIn K (Ad_BO K) = true) ∧ (PySem.W.findIn K (.ref (Ad_BO K)) "__init__" = some (some (.ref (Ad_f_bi K)))) ∧ (PySem.W.isFn K (.ref (Ad_f_bi K)) = true) ∧ (PySem.W.keepIn K (.ref (Ad_BO K)) = true) ∧ (PySem.W.plainGet K (Ad_BO K) Str.empty = true) ∧ (PySem.W.hasDictIn K (Ad_BO K) = true)
instance (K : PySem.W.Frag) : Decidable (Fx12 K) := by unfold Fx12; infer_instance
def Fx13 (K : PySem.W.Frag) : Prop := (PySem.W.plainOver K (Ad_BO K) = true) ∧ (PySem.W.findIn K (.ref (Ad_BO K)) "__setattr__" = some (some (.builtin "object.__setattr__"))) ∧ (PySem.W.findIn K (.ref (Ad_BO K)) "_facts" = some none) ∧ (PySem.W.findIn K (.ref (Ad_BO K)) "_rules" = some none) ∧ (PySem.W.findIn K (.ref (Ad_BO K)) "_ruling" = some none) ∧ (PySem.W.findIn K (.ref (Ad_BO K)) "_numbered" = some none) ∧ (PySem.W.findIn K (.ref (Ad_BO K)) "facts" = some (some (.ref (Ad_pp_bf K)))) ∧ (PySem.W.specialIn K (.ref (Ad_pp_bf K)) "__get__" = some (some (.builtin "property.__get__"))) ∧ (PySem.W.takesIn K (.ref (Ad_pp_bf K)) = some true) ∧ (recB K (Ad_pp_bf K) = true) ∧ (PySem.W.findIn K (.ref (Ad_BO K)) "rules" = some (some (.ref (Ad_pp_bs K)))) ∧ (PySem.W.specialIn K (.ref (Ad_pp_bs K)) "__get__" = some (some (.builtin "property.__get__")))
instance (K : PySem.W.Frag) : Decidable (Fx13 K) := by unfold Fx13; infer_instance
def Fx14 (K : PySem.W.Frag) : Prop := (PySem.W.takesIn K (.ref (Ad_pp_bs K)) = some true) ∧ (recB K (Ad_pp_bs K) = true) ∧ (PySem.W.findIn K (.ref (Ad_BO K)) "ruling" = some (some (.ref (Ad_pp_br K)))) ∧ (PySem.W.specialIn K (.ref (Ad_pp_br K)) "__get__" = some (some (.builtin "property.__get__"))) ∧ (PySem.W.takesIn K (.ref (Ad_pp_br K)) = some true) ∧ (recB K (Ad_pp_br K) = true) ∧ (PySem.W.nsIn K mainGlobals "Seasons" = some (some (.ref (Ad_SE K)))) ∧ (PySem.W.makesIn K (Ad_SE K) = true) ∧ (PySem.W.findIn K (.ref (Ad_SE K)) "__init__" = some (some (.ref (Ad_f_yi K)))) ∧ (PySem.W.isFn K (.ref (Ad_f_yi K)) = true) ∧ (PySem.W.keepIn K (.ref (Ad_SE K)) = true) ∧ (PySem.W.plainGet K (Ad_SE K) Str.empty = true)
instance (K : PySem.W.Frag) : Decidable (Fx14 K) := by unfold Fx14; infer_instance
def Fx15 (K : PySem.W.Frag) : Prop := (PySem.W.hasDictIn K (Ad_SE K) = true) ∧ (PySem.W.plainOver K (Ad_SE K) = true) ∧ (PySem.W.findIn K (.ref (Ad_SE K)) "__setattr__" = some (some (.builtin "object.__setattr__"))) ∧ (PySem.W.findIn K (.ref (Ad_SE K)) "_book" = some none) ∧ (PySem.W.findIn K (.ref (Ad_SE K)) "_spans" = some none) ∧ (PySem.W.findIn K (.ref (Ad_SE K)) "_period" = some none) ∧ (PySem.W.findIn K (.ref (Ad_SE K)) "period" = some (some (.ref (Ad_pp_yp K)))) ∧ (PySem.W.specialIn K (.ref (Ad_pp_yp K)) "__get__" = some (some (.builtin "property.__get__"))) ∧ (PySem.W.takesIn K (.ref (Ad_pp_yp K)) = some true) ∧ (recB K (Ad_pp_yp K) = true) ∧ (PySem.W.findIn K (.ref (Ad_BO K)) "__contains__" = some (some (.ref (Ad_f_gc K)))) ∧ (PySem.W.isFn K (.ref (Ad_f_gc K)) = true)
instance (K : PySem.W.Frag) : Decidable (Fx15 K) := by unfold Fx15; infer_instance
def Fx16 (K : PySem.W.Frag) : Prop := (PySem.W.findIn K (.ref (Ad_BO K)) "__sub__" = some (some (.ref (Ad_f_gs K)))) ∧ (PySem.W.isFn K (.ref (Ad_f_gs K)) = true) ∧ (PySem.W.findIn K (.ref (Ad_BO K)) "__eq__" = some (some (.ref (Ad_f_eb K)))) ∧ (PySem.W.isFn K (.ref (Ad_f_eb K)) = true) ∧ (PySem.W.findIn K (.ref (Ad_RO K)) "__eq__" = some (some (.ref (Ad_f_er K)))) ∧ (PySem.W.isFn K (.ref (Ad_f_er K)) = true) ∧ (PySem.W.findIn K (.ref (Ad_CO K)) "__eq__" = some (some (.ref (Ad_f_ec K)))) ∧ (PySem.W.isFn K (.ref (Ad_f_ec K)) = true) ∧ (PySem.W.findIn K (.ref (Ad_SE K)) "__call__" = some (some (.ref (Ad_f_yc K)))) ∧ (PySem.W.isFn K (.ref (Ad_f_yc K)) = true) ∧ (PySem.W.fnIn K (Ad_f_yc K) = true) ∧ (PySem.W.findIn K (.ref (Ad_CO K)) "__class__" = some (some (.builtin "object.__class__")))
instance (K : PySem.W.Frag) : Decidable (Fx16 K) := by unfold Fx16; infer_instance
def Fx17 (K : PySem.W.Frag) : Prop := (PySem.W.mroIn K (Ad_CO K) (.type "object") = some true) ∧ (PySem.W.subIn K (.ref (Ad_CO K)) (.ref (Ad_CO K)) = some true) ∧ (PySem.W.isClsIn K (Ad_CO K) = true) ∧ (PySem.W.typeIn K (.ref (Ad_CO K)) = some (.type "type")) ∧ (PySem.W.findIn K (.ref (Ad_RO K)) "__class__" = some (some (.builtin "object.__class__"))) ∧ (PySem.W.mroIn K (Ad_RO K) (.type "object") = some true) ∧ (PySem.W.subIn K (.ref (Ad_RO K)) (.ref (Ad_RO K)) = some true) ∧ (PySem.W.isClsIn K (Ad_RO K) = true) ∧ (PySem.W.typeIn K (.ref (Ad_RO K)) = some (.type "type")) ∧ (PySem.W.findIn K (.ref (Ad_BO K)) "__class__" = some (some (.builtin "object.__class__"))) ∧ (PySem.W.mroIn K (Ad_BO K) (.type "object") = some true) ∧ (PySem.W.subIn K (.ref (Ad_BO K)) (.ref (Ad_BO K)) = some true)
instance (K : PySem.W.Frag) : Decidable (Fx17 K) := by unfold Fx17; infer_instance
def Fx18 (K : PySem.W.Frag) : Prop := (PySem.W.isClsIn K (Ad_BO K) = true) ∧ (PySem.W.typeIn K (.ref (Ad_BO K)) = some (.type "type")) ∧ (PySem.W.findIn K (.ref (Ad_BO K)) "__ne__" = some (some (.builtin "object.__ne__"))) ∧ (PySem.W.subIn K (.type "str") (.ref (Ad_BO K)) = some false) ∧ (PySem.W.selfFirst K (Ad_BO K) = true) ∧ (PySem.W.findIn K (.ref (Ad_BO K)) "__rsub__" = some none) ∧ ((PySem.W.findIn K (.type "str") "__sub__").isSome = true) ∧ ((PySem.W.findIn K (.type "str") "__rsub__").isSome = true) ∧ (PySem.W.fnIn K (Ad_f_gc K) = true) ∧ (PySem.W.fnIn K (Ad_f_gs K) = true) ∧ (PySem.W.nsIn K mainGlobals "lcm" = some (some (.builtin "math.lcm"))) ∧ (fnB K (Ad_f_mi K) "Condition.__init__" = true)
instance (K : PySem.W.Frag) : Decidable (Fx18 K) := by unfold Fx18; infer_instance
def Fx19 (K : PySem.W.Frag) : Prop := (PySem.W.keepIn K (.ref (Ad_f_mi K)) = true) ∧ (fnB K (Ad_f_mh K) "Condition.holding" = true) ∧ (PySem.W.keepIn K (.ref (Ad_f_mh K)) = true) ∧ (fnB K (Ad_f_mf K) "Condition.failing" = true) ∧ (PySem.W.keepIn K (.ref (Ad_f_mf K)) = true) ∧ (fnB K (Ad_f_mn K) "Condition.names" = true) ∧ (PySem.W.keepIn K (.ref (Ad_f_mn K)) = true) ∧ (fnB K (Ad_f_ri K) "Rule.__init__" = true) ∧ (PySem.W.keepIn K (.ref (Ad_f_ri K)) = true) ∧ (fnB K (Ad_f_rn K) "Rule.name" = true) ∧ (PySem.W.keepIn K (.ref (Ad_f_rn K)) = true) ∧ (fnB K (Ad_f_rc K) "Rule.condition" = true)
instance (K : PySem.W.Frag) : Decidable (Fx19 K) := by unfold Fx19; infer_instance
def Fx20 (K : PySem.W.Frag) : Prop := (PySem.W.keepIn K (.ref (Ad_f_rc K)) = true) ∧ (fnB K (Ad_f_rr K) "Rule.ruling" = true) ∧ (PySem.W.keepIn K (.ref (Ad_f_rr K)) = true) ∧ (fnB K (Ad_f_re K) "Rule.exceptions" = true) ∧ (PySem.W.keepIn K (.ref (Ad_f_re K)) = true) ∧ (fnB K (Ad_f_rd K) "Rule.depth" = true) ∧ (PySem.W.keepIn K (.ref (Ad_f_rd K)) = true) ∧ (fnB K (Ad_f_bi K) "Book.__init__" = true) ∧ (PySem.W.keepIn K (.ref (Ad_f_bi K)) = true) ∧ (fnB K (Ad_f_bf K) "Book.facts" = true) ∧ (PySem.W.keepIn K (.ref (Ad_f_bf K)) = true) ∧ (fnB K (Ad_f_bs K) "Book.rules" = true)
instance (K : PySem.W.Frag) : Decidable (Fx20 K) := by unfold Fx20; infer_instance
def Fx21 (K : PySem.W.Frag) : Prop := (PySem.W.keepIn K (.ref (Ad_f_bs K)) = true) ∧ (fnB K (Ad_f_br K) "Book.ruling" = true) ∧ (PySem.W.keepIn K (.ref (Ad_f_br K)) = true) ∧ (fnB K (Ad_f_yi K) "Seasons.__init__" = true) ∧ (PySem.W.keepIn K (.ref (Ad_f_yi K)) = true) ∧ (fnB K (Ad_f_yp K) "Seasons.period" = true) ∧ (PySem.W.keepIn K (.ref (Ad_f_yp K)) = true) ∧ (fnB K (Ad_f_gc K) "Book.__contains__" = true) ∧ (PySem.W.keepIn K (.ref (Ad_f_gc K)) = true) ∧ (fnB K (Ad_f_gs K) "Book.__sub__" = true) ∧ (PySem.W.keepIn K (.ref (Ad_f_gs K)) = true) ∧ (fnB K (Ad_f_eb K) "Book.__eq__" = true)
instance (K : PySem.W.Frag) : Decidable (Fx21 K) := by unfold Fx21; infer_instance
def Fx22 (K : PySem.W.Frag) : Prop := (PySem.W.keepIn K (.ref (Ad_f_eb K)) = true) ∧ (fnB K (Ad_f_er K) "Rule.__eq__" = true) ∧ (PySem.W.keepIn K (.ref (Ad_f_er K)) = true) ∧ (fnB K (Ad_f_ec K) "Condition.__eq__" = true) ∧ (PySem.W.keepIn K (.ref (Ad_f_ec K)) = true) ∧ (fnB K (Ad_f_yc K) "Seasons.__call__" = true) ∧ (PySem.W.keepIn K (.ref (Ad_f_yc K)) = true) ∧ (PySem.W.nsIn K mainGlobals "isinstance" = some none) ∧ (PySem.W.nsIn K mainGlobals "len" = some none) ∧ (PySem.W.nsIn K mainGlobals "all" = some none) ∧ (PySem.W.nsIn K mainGlobals "any" = some none) ∧ (PySem.W.nsIn K mainGlobals "sum" = some none)
instance (K : PySem.W.Frag) : Decidable (Fx22 K) := by unfold Fx22; infer_instance
def Fx23 (K : PySem.W.Frag) : Prop := (PySem.W.nsIn K mainGlobals "max" = some none) ∧ (PySem.W.nsIn K mainGlobals "min" = some none) ∧ (PySem.W.nsIn K mainGlobals "int" = some none) ∧ (PySem.W.nsIn K mainGlobals "str" = some none) ∧ (PySem.W.nsIn K mainGlobals "bool" = some none) ∧ (PySem.W.nsIn K mainGlobals "list" = some none) ∧ (PySem.W.nsIn K mainGlobals "tuple" = some none) ∧ (PySem.W.nsIn K mainGlobals "dict" = some none) ∧ (PySem.W.nsIn K mainGlobals "range" = some none) ∧ (PySem.W.nsIn K mainGlobals "enumerate" = some none) ∧ (PySem.W.nsIn K mainGlobals "sorted" = some none) ∧ (PySem.W.nsIn K mainGlobals "reversed" = some none)
instance (K : PySem.W.Frag) : Decidable (Fx23 K) := by unfold Fx23; infer_instance
def Fx24 (K : PySem.W.Frag) : Prop := (PySem.W.nsIn K mainGlobals "zip" = some none) ∧ (PySem.W.nsIn K mainGlobals "set" = some none) ∧ (PySem.W.nsIn K mainGlobals "ValueError" = some none) ∧ (strB K "LETTERS" letters = true) ∧ (intB K "LONGEST_NAME" 8 = true) ∧ (intB K "MOST_FACTS" 60 = true) ∧ (intB K "MOST_NAMES" 8 = true) ∧ (intB K "MOST_AROUND" 5 = true) ∧ (intB K "MOST_RULES" 60 = true) ∧ (intB K "MOST_OUTERMOST" 40 = true) ∧ (intB K "LAST_DAY" lastDay = true) ∧ (intB K "LONGEST_SPAN" 100 = true)
instance (K : PySem.W.Frag) : Decidable (Fx24 K) := by unfold Fx24; infer_instance
def Fx25 (K : PySem.W.Frag) : Prop := (PySem.W.nsIn K mainGlobals "CourtError" = some (some (.ref (Ad_CE K)))) ∧ (PySem.W.nsIn K mainGlobals "InvalidFacts" = some (some (.ref (Ad_E0 K)))) ∧ (PySem.W.nsIn K mainGlobals "InvalidCondition" = some (some (.ref (Ad_E1 K)))) ∧ (PySem.W.nsIn K mainGlobals "InvalidRule" = some (some (.ref (Ad_E2 K)))) ∧ (PySem.W.nsIn K mainGlobals "InvalidBook" = some (some (.ref (Ad_E3 K)))) ∧ (PySem.W.nsIn K mainGlobals "UnknownRule" = some (some (.ref (Ad_E4 K)))) ∧ (PySem.W.subIn K (.ref (Ad_CE K)) (.type "BaseException") = some true) ∧ (PySem.W.isClsIn K (Ad_CE K) = true) ∧ (PySem.W.typeIn K (.ref (Ad_CE K)) = some (.type "type")) ∧ (PySem.W.isClsIn K (Ad_E0 K) = true) ∧ (PySem.W.typeIn K (.ref (Ad_E0 K)) = some (.type "type")) ∧ (PySem.W.isClsIn K (Ad_E1 K) = true)
instance (K : PySem.W.Frag) : Decidable (Fx25 K) := by unfold Fx25; infer_instance
def Fx26 (K : PySem.W.Frag) : Prop := (PySem.W.typeIn K (.ref (Ad_E1 K)) = some (.type "type")) ∧ (PySem.W.isClsIn K (Ad_E2 K) = true) ∧ (PySem.W.typeIn K (.ref (Ad_E2 K)) = some (.type "type")) ∧ (PySem.W.isClsIn K (Ad_E3 K) = true) ∧ (PySem.W.typeIn K (.ref (Ad_E3 K)) = some (.type "type")) ∧ (PySem.W.isClsIn K (Ad_E4 K) = true) ∧ (PySem.W.typeIn K (.ref (Ad_E4 K)) = some (.type "type")) ∧ (PySem.W.specialIn K (.builtin "object.__class__") "__get__" = some (some (.builtin "getset_descriptor.__get__"))) ∧ (PySem.W.takesIn K (.builtin "object.__class__") = some true) ∧ (excB K (Ad_CE K) "ValueError.__new__" = true) ∧ (PySem.W.findIn K (.ref (Ad_CE K)) "__init__" = some (some (.builtin "ValueError.__init__"))) ∧ (PySem.W.nsIn K mainGlobals "super" = some none)
instance (K : PySem.W.Frag) : Decidable (Fx26 K) := by unfold Fx26; infer_instance
def Fx27 (K : PySem.W.Frag) : Prop := (PySem.W.nsIn K cStatics "thirdparty.any" = some none) ∧ (excB K (Ad_E0 K) "ValueError.__new__" = true) ∧ (HandSPX.refsVE (mroT K (Ad_E0 K)) = true) ∧ (PySem.W.findIn K (.ref (Ad_E0 K)) "__setattr__" = some (some (.builtin "object.__setattr__"))) ∧ (PySem.W.typeIn K (.ref (Ad_E0 K)) = some (.type "type")) ∧ (PySem.W.keepIn K (.ref (Ad_E0 K)) = true) ∧ (PySem.W.findIn K (.ref (Ad_E0 K)) "__init__" = some (some (.ref (Ad_fIi0 K)))) ∧ (PySem.W.typeIn K (.ref (Ad_fIi0 K)) = some (.type "function")) ∧ (fnBC K (Ad_fIi0 K) "InvalidFacts.__init__" = true) ∧ (cellB K (Ad_celi0 K) (Ad_E0 K) = true) ∧ (fileB K (Ad_codi0 K) theFile = true) ∧ (PySem.W.mroIn K (Ad_E0 K) (.ref (Ad_E0 K)) = some true)
instance (K : PySem.W.Frag) : Decidable (Fx27 K) := by unfold Fx27; infer_instance
def Fx28 (K : PySem.W.Frag) : Prop := ((mroT K (Ad_E0 K)) = .ref (Ad_CE K) :: (mroT K (Ad_CE K))) ∧ (PySem.W.subIn K (.ref (Ad_E0 K)) (.type "ValueError") = some true) ∧ (PySem.W.subIn K (.ref (Ad_E0 K)) (.type "BaseException") = some true) ∧ (PySem.W.findIn K (.ref (Ad_E0 K)) "index" = some none) ∧ (excB K (Ad_E1 K) "ValueError.__new__" = true) ∧ (HandSPX.refsVE (mroT K (Ad_E1 K)) = true) ∧ (PySem.W.findIn K (.ref (Ad_E1 K)) "__setattr__" = some (some (.builtin "object.__setattr__"))) ∧ (PySem.W.typeIn K (.ref (Ad_E1 K)) = some (.type "type")) ∧ (PySem.W.keepIn K (.ref (Ad_E1 K)) = true) ∧ (PySem.W.findIn K (.ref (Ad_E1 K)) "__init__" = some (some (.ref (Ad_fIi1 K)))) ∧ (PySem.W.typeIn K (.ref (Ad_fIi1 K)) = some (.type "function")) ∧ (fnBC K (Ad_fIi1 K) "InvalidCondition.__init__" = true)
instance (K : PySem.W.Frag) : Decidable (Fx28 K) := by unfold Fx28; infer_instance
def Fx29 (K : PySem.W.Frag) : Prop := (cellB K (Ad_celi1 K) (Ad_E1 K) = true) ∧ (fileB K (Ad_codi1 K) theFile = true) ∧ (PySem.W.mroIn K (Ad_E1 K) (.ref (Ad_E1 K)) = some true) ∧ ((mroT K (Ad_E1 K)) = .ref (Ad_CE K) :: (mroT K (Ad_CE K))) ∧ (PySem.W.subIn K (.ref (Ad_E1 K)) (.type "ValueError") = some true) ∧ (PySem.W.subIn K (.ref (Ad_E1 K)) (.type "BaseException") = some true) ∧ (PySem.W.findIn K (.ref (Ad_E1 K)) "part" = some none) ∧ (PySem.W.findIn K (.ref (Ad_E1 K)) "index" = some none) ∧ (excB K (Ad_E2 K) "ValueError.__new__" = true) ∧ (HandSPX.refsVE (mroT K (Ad_E2 K)) = true) ∧ (PySem.W.findIn K (.ref (Ad_E2 K)) "__setattr__" = some (some (.builtin "object.__setattr__"))) ∧ (PySem.W.typeIn K (.ref (Ad_E2 K)) = some (.type "type"))
instance (K : PySem.W.Frag) : Decidable (Fx29 K) := by unfold Fx29; infer_instance
def Fx30 (K : PySem.W.Frag) : Prop := (PySem.W.keepIn K (.ref (Ad_E2 K)) = true) ∧ (PySem.W.findIn K (.ref (Ad_E2 K)) "__init__" = some (some (.ref (Ad_fIi2 K)))) ∧ (PySem.W.typeIn K (.ref (Ad_fIi2 K)) = some (.type "function")) ∧ (fnBC K (Ad_fIi2 K) "InvalidRule.__init__" = true) ∧ (cellB K (Ad_celi2 K) (Ad_E2 K) = true) ∧ (fileB K (Ad_codi2 K) theFile = true) ∧ (PySem.W.mroIn K (Ad_E2 K) (.ref (Ad_E2 K)) = some true) ∧ ((mroT K (Ad_E2 K)) = .ref (Ad_CE K) :: (mroT K (Ad_CE K))) ∧ (PySem.W.subIn K (.ref (Ad_E2 K)) (.type "ValueError") = some true) ∧ (PySem.W.subIn K (.ref (Ad_E2 K)) (.type "BaseException") = some true) ∧ (PySem.W.findIn K (.ref (Ad_E2 K)) "part" = some none) ∧ (excB K (Ad_E3 K) "ValueError.__new__" = true)
instance (K : PySem.W.Frag) : Decidable (Fx30 K) := by unfold Fx30; infer_instance
def Fx31 (K : PySem.W.Frag) : Prop := (HandSPX.refsVE (mroT K (Ad_E3 K)) = true) ∧ (PySem.W.findIn K (.ref (Ad_E3 K)) "__setattr__" = some (some (.builtin "object.__setattr__"))) ∧ (PySem.W.typeIn K (.ref (Ad_E3 K)) = some (.type "type")) ∧ (PySem.W.keepIn K (.ref (Ad_E3 K)) = true) ∧ (PySem.W.findIn K (.ref (Ad_E3 K)) "__init__" = some (some (.ref (Ad_fIi3 K)))) ∧ (PySem.W.typeIn K (.ref (Ad_fIi3 K)) = some (.type "function")) ∧ (fnBC K (Ad_fIi3 K) "InvalidBook.__init__" = true) ∧ (cellB K (Ad_celi3 K) (Ad_E3 K) = true) ∧ (fileB K (Ad_codi3 K) theFile = true) ∧ (PySem.W.mroIn K (Ad_E3 K) (.ref (Ad_E3 K)) = some true) ∧ ((mroT K (Ad_E3 K)) = .ref (Ad_CE K) :: (mroT K (Ad_CE K))) ∧ (PySem.W.subIn K (.ref (Ad_E3 K)) (.type "ValueError") = some true)
instance (K : PySem.W.Frag) : Decidable (Fx31 K) := by unfold Fx31; infer_instance
def Fx32 (K : PySem.W.Frag) : Prop := (PySem.W.subIn K (.ref (Ad_E3 K)) (.type "BaseException") = some true) ∧ (PySem.W.findIn K (.ref (Ad_E3 K)) "word" = some none) ∧ (PySem.W.findIn K (.ref (Ad_E3 K)) "index" = some none) ∧ (PySem.W.excIn K (Ad_E4 K) [.type "ValueError", .type "Exception", .type "BaseException", .type "object"] "ValueError.__new__" = true) ∧ (PySem.W.keepIn K (.ref (Ad_E4 K)) = true) ∧ (PySem.W.subIn K (.ref (Ad_E4 K)) (.type "BaseException") = some true) ∧ (PySem.W.typeIn K (.ref (Ad_E4 K)) = some (.type "type"))
instance (K : PySem.W.Frag) : Decidable (Fx32 K) := by unfold Fx32; infer_instance
def fn0 : FnDY := ⟨Ad_f_is_name, "is_name", "is_name", defArgs s_is_name, defBody s_is_name, defScope s_is_name⟩
def fn1 : FnDY := ⟨Ad_f_is_integer, "is_integer", "is_integer", defArgs s_is_integer, defBody s_is_integer, defScope s_is_integer⟩
def fn2 : FnDY := ⟨Ad_f_rises, "rises", "rises", defArgs s_rises, defBody s_rises, defScope s_rises⟩
def fn3 : FnDY := ⟨Ad_f_check_facts, "check_facts", "check_facts", defArgs s_check_facts, defBody s_check_facts, defScope s_check_facts⟩
def fn4 : FnDY := ⟨Ad_f_nested, "nested", "nested", defArgs s_nested, defBody s_nested, defScope s_nested⟩
def fn5 : FnDY := ⟨Ad_f_check_rules, "check_rules", "check_rules", defArgs s_check_rules, defBody s_check_rules, defScope s_check_rules⟩
def fn6 : FnDY := ⟨Ad_f_check_part, "check_part", "check_part", defArgs s_check_part, defBody s_check_part, defScope s_check_part⟩
def fn7 : FnDY := ⟨Ad_f_merged, "merged", "merged", defArgs s_merged, defBody s_merged, defScope s_merged⟩
def fn8 : FnDY := ⟨Ad_f_replaced, "replaced", "replaced", defArgs s_replaced, defBody s_replaced, defScope s_replaced⟩
def fn9 : FnDY := ⟨Ad_f_is_day, "is_day", "is_day", defArgs s_is_day, defBody s_is_day, defScope s_is_day⟩
def fn10 : FnDY := ⟨Ad_f_check_day, "check_day", "check_day", defArgs s_check_day, defBody s_check_day, defScope s_check_day⟩
def fn11 : FnDY := ⟨Ad_f_is_span, "is_span", "is_span", defArgs s_is_span, defBody s_is_span, defScope s_is_span⟩
def fn12 : FnDY := ⟨Ad_f_in_span, "in_span", "in_span", defArgs s_in_span, defBody s_in_span, defScope s_in_span⟩
def fn13 : FnDY := ⟨Ad_f_check_spans, "check_spans", "check_spans", defArgs s_check_spans, defBody s_check_spans, defScope s_check_spans⟩
def fn14 : FnDY := ⟨Ad_f__law_mix, "_law_mix", "_law_mix", defArgs s__law_mix, defBody s__law_mix, defScope s__law_mix⟩
def fn15 : FnDY := ⟨Ad_f__law_next, "_law_next", "_law_next", defArgs s__law_next, defBody s__law_next, defScope s__law_next⟩
def fn16 : FnDY := ⟨Ad_f__law_alike, "_law_alike", "_law_alike", defArgs s__law_alike, defBody s__law_alike, defScope s__law_alike⟩
def fn17 : FnDY := ⟨Ad_f__law_facts, "_law_facts", "_law_facts", defArgs s__law_facts, defBody s__law_facts, defScope s__law_facts⟩
def fn18 : FnDY := ⟨Ad_f__law_sides, "_law_sides", "_law_sides", defArgs s__law_sides, defBody s__law_sides, defScope s__law_sides⟩
def fn19 : FnDY := ⟨Ad_f__law_rule, "_law_rule", "_law_rule", defArgs s__law_rule, defBody s__law_rule, defScope s__law_rule⟩
def fn20 : FnDY := ⟨Ad_f__law_drawn, "_law_drawn", "_law_drawn", defArgs s__law_drawn, defBody s__law_drawn, defScope s__law_drawn⟩
def fn21 : FnDY := ⟨Ad_f__law_made, "_law_made", "_law_made", defArgs s__law_made, defBody s__law_made, defScope s__law_made⟩
def fn22 : FnDY := ⟨Ad_f__law_book, "_law_book", "_law_book", defArgs s__law_book, defBody s__law_book, defScope s__law_book⟩
def fn23 : FnDY := ⟨Ad_f__law_told, "_law_told", "_law_told", defArgs s__law_told, defBody s__law_told, defScope s__law_told⟩
def fn24 : FnDY := ⟨Ad_f__law_seen, "_law_seen", "_law_seen", defArgs s__law_seen, defBody s__law_seen, defScope s__law_seen⟩
def fn25 : FnDY := ⟨Ad_f__law_all, "_law_all", "_law_all", defArgs s__law_all, defBody s__law_all, defScope s__law_all⟩
def fn26 : FnDY := ⟨Ad_f__law_spans, "_law_spans", "_law_spans", defArgs s__law_spans, defBody s__law_spans, defScope s__law_spans⟩
def fn27 : FnDY := ⟨Ad_f__law_season, "_law_season", "_law_season", defArgs s__law_season, defBody s__law_season, defScope s__law_season⟩
def fn28 : FnDY := ⟨Ad_f__law_period, "_law_period", "_law_period", defArgs s__law_period, defBody s__law_period, defScope s__law_period⟩
def fn29 : FnDY := ⟨Ad_f_law, "law", "law", defArgs s_law, defBody s_law, defScope s_law⟩
def fn30 : FnDY := ⟨Ad_f_mi, "__init__", "Condition.__init__", defArgs s_Condition___init__, defBody s_Condition___init__, defScope s_Condition___init__⟩
def fn31 : FnDY := ⟨Ad_f_mh, "holding", "Condition.holding", defArgs s_Condition_holding, defBody s_Condition_holding, defScope s_Condition_holding⟩
def fn32 : FnDY := ⟨Ad_f_mf, "failing", "Condition.failing", defArgs s_Condition_failing, defBody s_Condition_failing, defScope s_Condition_failing⟩
def fn33 : FnDY := ⟨Ad_f_mn, "names", "Condition.names", defArgs s_Condition_names, defBody s_Condition_names, defScope s_Condition_names⟩
def fn34 : FnDY := ⟨Ad_f_ri, "__init__", "Rule.__init__", defArgs s_Rule___init__, defBody s_Rule___init__, defScope s_Rule___init__⟩
def fn35 : FnDY := ⟨Ad_f_rn, "name", "Rule.name", defArgs s_Rule_name, defBody s_Rule_name, defScope s_Rule_name⟩
def fn36 : FnDY := ⟨Ad_f_rc, "condition", "Rule.condition", defArgs s_Rule_condition, defBody s_Rule_condition, defScope s_Rule_condition⟩
def fn37 : FnDY := ⟨Ad_f_rr, "ruling", "Rule.ruling", defArgs s_Rule_ruling, defBody s_Rule_ruling, defScope s_Rule_ruling⟩
def fn38 : FnDY := ⟨Ad_f_re, "exceptions", "Rule.exceptions", defArgs s_Rule_exceptions, defBody s_Rule_exceptions, defScope s_Rule_exceptions⟩
def fn39 : FnDY := ⟨Ad_f_rd, "depth", "Rule.depth", defArgs s_Rule_depth, defBody s_Rule_depth, defScope s_Rule_depth⟩
def fn40 : FnDY := ⟨Ad_f_bi, "__init__", "Book.__init__", defArgs s_Book___init__, defBody s_Book___init__, defScope s_Book___init__⟩
def fn41 : FnDY := ⟨Ad_f_bf, "facts", "Book.facts", defArgs s_Book_facts, defBody s_Book_facts, defScope s_Book_facts⟩
def fn42 : FnDY := ⟨Ad_f_bs, "rules", "Book.rules", defArgs s_Book_rules, defBody s_Book_rules, defScope s_Book_rules⟩
def fn43 : FnDY := ⟨Ad_f_br, "ruling", "Book.ruling", defArgs s_Book_ruling, defBody s_Book_ruling, defScope s_Book_ruling⟩
def fn44 : FnDY := ⟨Ad_f_yi, "__init__", "Seasons.__init__", defArgs s_Seasons___init__, defBody s_Seasons___init__, defScope s_Seasons___init__⟩
def fn45 : FnDY := ⟨Ad_f_yp, "period", "Seasons.period", defArgs s_Seasons_period, defBody s_Seasons_period, defScope s_Seasons_period⟩
def fn46 : FnDY := ⟨Ad_f_gc, "__contains__", "Book.__contains__", defArgs s_Book___contains__, defBody s_Book___contains__, defScope s_Book___contains__⟩
def fn47 : FnDY := ⟨Ad_f_gs, "__sub__", "Book.__sub__", defArgs s_Book___sub__, defBody s_Book___sub__, defScope s_Book___sub__⟩
def fn48 : FnDY := ⟨Ad_f_eb, "__eq__", "Book.__eq__", defArgs s_Book___eq__, defBody s_Book___eq__, defScope s_Book___eq__⟩
def fn49 : FnDY := ⟨Ad_f_er, "__eq__", "Rule.__eq__", defArgs s_Rule___eq__, defBody s_Rule___eq__, defScope s_Rule___eq__⟩
def fn50 : FnDY := ⟨Ad_f_ec, "__eq__", "Condition.__eq__", defArgs s_Condition___eq__, defBody s_Condition___eq__, defScope s_Condition___eq__⟩
def fn51 : FnDY := ⟨Ad_f_yc, "__call__", "Seasons.__call__", defArgs s_Seasons___call__, defBody s_Seasons___call__, defScope s_Seasons___call__⟩
def fn52 : FnDY := ⟨Ad_fIi0, (nf_InvalidFacts 0 0).name, (nf_InvalidFacts 0 0).qual, (nf_InvalidFacts 0 0).params, (nf_InvalidFacts 0 0).body, (nf_InvalidFacts 0 0).scope⟩
def fn53 : FnDY := ⟨Ad_fIi1, (nf_InvalidCondition 0 0).name, (nf_InvalidCondition 0 0).qual, (nf_InvalidCondition 0 0).params, (nf_InvalidCondition 0 0).body, (nf_InvalidCondition 0 0).scope⟩
def fn54 : FnDY := ⟨Ad_fIi2, (nf_InvalidRule 0 0).name, (nf_InvalidRule 0 0).qual, (nf_InvalidRule 0 0).params, (nf_InvalidRule 0 0).body, (nf_InvalidRule 0 0).scope⟩
def fn55 : FnDY := ⟨Ad_fIi3, (nf_InvalidBook 0 0).name, (nf_InvalidBook 0 0).qual, (nf_InvalidBook 0 0).params, (nf_InvalidBook 0 0).body, (nf_InvalidBook 0 0).scope⟩
def ex_0 (K : PySem.W.Frag) : Bool := ([fun K => decide (Fx0 K), fun K => decide (Fx1 K), fun K => decide (Fx2 K), fun K => decide (Fx3 K), fun K => decide (Fx4 K)] : List (PySem.W.Frag → Bool)).all fun f => f K
def fn_0 : List FnDY := [fn0, fn1, fn2, fn3, fn4, fn5, fn6]
def tf_0 : List (PySem.W.Frag → Addr) := []
def ex_1 (K : PySem.W.Frag) : Bool := ([fun K => decide (Fx5 K), fun K => decide (Fx6 K), fun K => decide (Fx7 K), fun K => decide (Fx8 K), fun K => decide (Fx9 K)] : List (PySem.W.Frag → Bool)).all fun f => f K
def fn_1 : List FnDY := [fn7, fn8, fn9, fn10, fn11, fn12, fn13]
def tf_1 : List (PySem.W.Frag → Addr) := []
def ex_2 (K : PySem.W.Frag) : Bool := ([fun K => decide (Fx10 K), fun K => decide (Fx11 K), fun K => decide (Fx12 K), fun K => decide (Fx13 K), fun K => decide (Fx14 K)] : List (PySem.W.Frag → Bool)).all fun f => f K
def fn_2 : List FnDY := [fn14, fn15, fn16, fn17, fn18, fn19, fn20]
def tf_2 : List (PySem.W.Frag → Addr) := []
def ex_3 (K : PySem.W.Frag) : Bool := ([fun K => decide (Fx15 K), fun K => decide (Fx16 K), fun K => decide (Fx17 K), fun K => decide (Fx18 K), fun K => decide (Fx19 K)] : List (PySem.W.Frag → Bool)).all fun f => f K
def fn_3 : List FnDY := [fn21, fn22, fn23, fn24, fn25, fn26, fn27]
def tf_3 : List (PySem.W.Frag → Addr) := []
def ex_4 (K : PySem.W.Frag) : Bool := ([fun K => decide (Fx20 K), fun K => decide (Fx21 K), fun K => decide (Fx22 K), fun K => decide (Fx23 K), fun K => decide (Fx24 K)] : List (PySem.W.Frag → Bool)).all fun f => f K
def fn_4 : List FnDY := [fn28, fn29, fn30, fn31, fn32, fn33, fn34]
def tf_4 : List (PySem.W.Frag → Addr) := []
def ex_5 (K : PySem.W.Frag) : Bool := ([fun K => decide (Fx25 K), fun K => decide (Fx26 K), fun K => decide (Fx27 K), fun K => decide (Fx28 K), fun K => decide (Fx29 K)] : List (PySem.W.Frag → Bool)).all fun f => f K
def fn_5 : List FnDY := [fn35, fn36, fn37, fn38, fn39, fn40, fn41]
def tf_5 : List (PySem.W.Frag → Addr) := []
def ex_6 (K : PySem.W.Frag) : Bool := ([fun K => decide (Fx30 K), fun K => decide (Fx31 K), fun K => decide (Fx32 K)] : List (PySem.W.Frag → Bool)).all fun f => f K
def fn_6 : List FnDY := [fn42, fn43, fn44, fn45, fn46, fn47, fn48]
def tf_6 : List (PySem.W.Frag → Addr) := []
def ex_7 (K : PySem.W.Frag) : Bool := ([] : List (PySem.W.Frag → Bool)).all fun f => f K
def fn_7 : List FnDY := [fn49, fn50, fn51, fn52, fn53, fn54, fn55]
def tf_7 : List (PySem.W.Frag → Addr) := []
abbrev fnL : List FnDY := (((((((fn_0 ++ fn_1) ++ fn_2) ++ fn_3) ++ fn_4) ++ fn_5) ++ fn_6) ++ fn_7)
abbrev tfL : List (PySem.W.Frag → Addr) := (((((((tf_0 ++ tf_1) ++ tf_2) ++ tf_3) ++ tf_4) ++ tf_5) ++ tf_6) ++ tf_7)
abbrev exB : PySem.W.Frag → Bool := (fun K => (fun K => (fun K => (fun K => (fun K => (fun K => (fun K => ex_0 K && ex_1 K) K && ex_2 K) K && ex_3 K) K && ex_4 K) K && ex_5 K) K && ex_6 K) K && ex_7 K)
theorem mem_at {α : Type} {l : List α} {i : Nat} {a : α} (h : l[i]? = some a) : a ∈ l := List.mem_of_getElem? h
theorem all_at {K : PySem.W.Frag} {L : List (PySem.W.Frag → Bool)} (h : (L.all fun f => f K) = true) (i : Nat) {f : PySem.W.Frag → Bool} (e : L[i]? = some f) : f K = true := List.all_eq_true.mp h f (List.mem_of_getElem? e)
theorem more_0 {h : Heap} {K : PySem.W.Frag} (S : SaysY fnL tfL exB h K) : ex_0 K = true := (ba (ba (ba (ba (ba (ba (ba S.more).1).1).1).1).1).1).1
theorem more_1 {h : Heap} {K : PySem.W.Frag} (S : SaysY fnL tfL exB h K) : ex_1 K = true := (ba (ba (ba (ba (ba (ba (ba S.more).1).1).1).1).1).1).2
theorem more_2 {h : Heap} {K : PySem.W.Frag} (S : SaysY fnL tfL exB h K) : ex_2 K = true := (ba (ba (ba (ba (ba (ba S.more).1).1).1).1).1).2
theorem more_3 {h : Heap} {K : PySem.W.Frag} (S : SaysY fnL tfL exB h K) : ex_3 K = true := (ba (ba (ba (ba (ba S.more).1).1).1).1).2
theorem more_4 {h : Heap} {K : PySem.W.Frag} (S : SaysY fnL tfL exB h K) : ex_4 K = true := (ba (ba (ba (ba S.more).1).1).1).2
theorem more_5 {h : Heap} {K : PySem.W.Frag} (S : SaysY fnL tfL exB h K) : ex_5 K = true := (ba (ba (ba S.more).1).1).2
theorem more_6 {h : Heap} {K : PySem.W.Frag} (S : SaysY fnL tfL exB h K) : ex_6 K = true := (ba (ba S.more).1).2
theorem more_7 {h : Heap} {K : PySem.W.Frag} (S : SaysY fnL tfL exB h K) : ex_7 K = true := (ba S.more).2
theorem gx0 {h : Heap} {K : PySem.W.Frag} (S : SaysY fnL tfL exB h K) : Fx0 K := of_decide_eq_true (all_at (more_0 S) 0 rfl)
theorem gx1 {h : Heap} {K : PySem.W.Frag} (S : SaysY fnL tfL exB h K) : Fx1 K := of_decide_eq_true (all_at (more_0 S) 1 rfl)
theorem gx2 {h : Heap} {K : PySem.W.Frag} (S : SaysY fnL tfL exB h K) : Fx2 K := of_decide_eq_true (all_at (more_0 S) 2 rfl)
theorem gx3 {h : Heap} {K : PySem.W.Frag} (S : SaysY fnL tfL exB h K) : Fx3 K := of_decide_eq_true (all_at (more_0 S) 3 rfl)
theorem gx4 {h : Heap} {K : PySem.W.Frag} (S : SaysY fnL tfL exB h K) : Fx4 K := of_decide_eq_true (all_at (more_0 S) 4 rfl)
theorem gx5 {h : Heap} {K : PySem.W.Frag} (S : SaysY fnL tfL exB h K) : Fx5 K := of_decide_eq_true (all_at (more_1 S) 0 rfl)
theorem gx6 {h : Heap} {K : PySem.W.Frag} (S : SaysY fnL tfL exB h K) : Fx6 K := of_decide_eq_true (all_at (more_1 S) 1 rfl)
theorem gx7 {h : Heap} {K : PySem.W.Frag} (S : SaysY fnL tfL exB h K) : Fx7 K := of_decide_eq_true (all_at (more_1 S) 2 rfl)
theorem gx8 {h : Heap} {K : PySem.W.Frag} (S : SaysY fnL tfL exB h K) : Fx8 K := of_decide_eq_true (all_at (more_1 S) 3 rfl)
theorem gx9 {h : Heap} {K : PySem.W.Frag} (S : SaysY fnL tfL exB h K) : Fx9 K := of_decide_eq_true (all_at (more_1 S) 4 rfl)
theorem gx10 {h : Heap} {K : PySem.W.Frag} (S : SaysY fnL tfL exB h K) : Fx10 K := of_decide_eq_true (all_at (more_2 S) 0 rfl)
theorem gx11 {h : Heap} {K : PySem.W.Frag} (S : SaysY fnL tfL exB h K) : Fx11 K := of_decide_eq_true (all_at (more_2 S) 1 rfl)
theorem gx12 {h : Heap} {K : PySem.W.Frag} (S : SaysY fnL tfL exB h K) : Fx12 K := of_decide_eq_true (all_at (more_2 S) 2 rfl)
theorem gx13 {h : Heap} {K : PySem.W.Frag} (S : SaysY fnL tfL exB h K) : Fx13 K := of_decide_eq_true (all_at (more_2 S) 3 rfl)
theorem gx14 {h : Heap} {K : PySem.W.Frag} (S : SaysY fnL tfL exB h K) : Fx14 K := of_decide_eq_true (all_at (more_2 S) 4 rfl)
theorem gx15 {h : Heap} {K : PySem.W.Frag} (S : SaysY fnL tfL exB h K) : Fx15 K := of_decide_eq_true (all_at (more_3 S) 0 rfl)
theorem gx16 {h : Heap} {K : PySem.W.Frag} (S : SaysY fnL tfL exB h K) : Fx16 K := of_decide_eq_true (all_at (more_3 S) 1 rfl)
theorem gx17 {h : Heap} {K : PySem.W.Frag} (S : SaysY fnL tfL exB h K) : Fx17 K := of_decide_eq_true (all_at (more_3 S) 2 rfl)
theorem gx18 {h : Heap} {K : PySem.W.Frag} (S : SaysY fnL tfL exB h K) : Fx18 K := of_decide_eq_true (all_at (more_3 S) 3 rfl)
theorem gx19 {h : Heap} {K : PySem.W.Frag} (S : SaysY fnL tfL exB h K) : Fx19 K := of_decide_eq_true (all_at (more_3 S) 4 rfl)
theorem gx20 {h : Heap} {K : PySem.W.Frag} (S : SaysY fnL tfL exB h K) : Fx20 K := of_decide_eq_true (all_at (more_4 S) 0 rfl)
theorem gx21 {h : Heap} {K : PySem.W.Frag} (S : SaysY fnL tfL exB h K) : Fx21 K := of_decide_eq_true (all_at (more_4 S) 1 rfl)
theorem gx22 {h : Heap} {K : PySem.W.Frag} (S : SaysY fnL tfL exB h K) : Fx22 K := of_decide_eq_true (all_at (more_4 S) 2 rfl)
theorem gx23 {h : Heap} {K : PySem.W.Frag} (S : SaysY fnL tfL exB h K) : Fx23 K := of_decide_eq_true (all_at (more_4 S) 3 rfl)
theorem gx24 {h : Heap} {K : PySem.W.Frag} (S : SaysY fnL tfL exB h K) : Fx24 K := of_decide_eq_true (all_at (more_4 S) 4 rfl)
theorem gx25 {h : Heap} {K : PySem.W.Frag} (S : SaysY fnL tfL exB h K) : Fx25 K := of_decide_eq_true (all_at (more_5 S) 0 rfl)
theorem gx26 {h : Heap} {K : PySem.W.Frag} (S : SaysY fnL tfL exB h K) : Fx26 K := of_decide_eq_true (all_at (more_5 S) 1 rfl)
theorem gx27 {h : Heap} {K : PySem.W.Frag} (S : SaysY fnL tfL exB h K) : Fx27 K := of_decide_eq_true (all_at (more_5 S) 2 rfl)
theorem gx28 {h : Heap} {K : PySem.W.Frag} (S : SaysY fnL tfL exB h K) : Fx28 K := of_decide_eq_true (all_at (more_5 S) 3 rfl)
theorem gx29 {h : Heap} {K : PySem.W.Frag} (S : SaysY fnL tfL exB h K) : Fx29 K := of_decide_eq_true (all_at (more_5 S) 4 rfl)
theorem gx30 {h : Heap} {K : PySem.W.Frag} (S : SaysY fnL tfL exB h K) : Fx30 K := of_decide_eq_true (all_at (more_6 S) 0 rfl)
theorem gx31 {h : Heap} {K : PySem.W.Frag} (S : SaysY fnL tfL exB h K) : Fx31 K := of_decide_eq_true (all_at (more_6 S) 1 rfl)
theorem gx32 {h : Heap} {K : PySem.W.Frag} (S : SaysY fnL tfL exB h K) : Fx32 K := of_decide_eq_true (all_at (more_6 S) 2 rfl)
def nameOf (s : Stmt) : List Str := match s with
  | .FunctionDef n .. => [n]
  | .ClassDef n .. => [n]
  | .Assign [.Name n _] _ _ => [n]
  | _ => []
def lawI : Nat := theRow.prog.main.body.length - 1
def names : List Str := (theRow.prog.main.body.take lawI).flatMap nameOf
def asL : List Addr := [3, 2, 59, 81, 102, 123, 135, 156, 177, 189, 201, 222, 359, 463, 530, 621, 0, 6, 58, 80, 101, 122, 134, 155, 176, 188, 200, 221, 358, 462, 529, 620, 47, 49, 76, 78, 97, 99, 118, 120] ++ [151, 153, 172, 174, 217, 219, 227, 229, 234, 236, 241, 243, 248, 250, 255, 257, 262, 264, 269, 271, 276, 278, 283, 285, 288, 290, 300, 302, 309, 317, 325, 333, 341, 347, 349, 354, 356, 373, 375, 382] ++ [390, 398, 404, 412, 418, 420, 423, 425, 430, 432, 437, 439, 444, 446, 451, 453, 458, 460, 472, 474, 477, 479, 484, 486, 496, 498, 505, 511, 519, 525, 527, 537, 539, 542, 544, 549, 551, 563, 565, 572] ++ [580, 588, 592, 594, 599, 601, 604, 606, 611, 613, 616, 618, 630, 632, 635, 637, 642, 644, 649, 651, 654, 656, 661, 663, 668, 670, 675, 677, 682, 684, 689, 691, 696, 698, 703, 705, 710, 712, 717, 719] ++ [724, 726, 731, 733, 736, 738, 743, 745, 66, 87, 108, 141, 162, 207, 48, 60, 77, 98, 119, 152, 173, 218, 228, 235, 242, 249, 256, 263, 270, 277, 284, 289, 301, 308, 310, 316, 318, 324, 326, 332] ++ [334, 340, 342, 348, 355, 360, 361, 374, 381, 383, 389, 391, 397, 399, 403, 405, 411, 413, 419, 424, 431, 438, 445, 452, 459, 464, 465, 473, 478, 485, 497, 504, 506, 510, 512, 518, 520, 526, 531, 532] ++ [538, 543, 550, 564, 571, 573, 579, 581, 587, 589, 593, 600, 605, 612, 617, 622, 623, 631, 636, 643, 650, 655, 662, 669, 676, 683, 690, 697, 704, 711, 718, 725, 732, 737, 744, 4]
abbrev hk : PySem.W.Hook := hookY asL fnL tfL exB
def ob (s : PySem.W.SharedT) : AlY := obsY asL fnL tfL exB (HandSHeadRun.getT s)
theorem ob_eq (s : PySem.W.SharedT) : ob s = hk.obs s.abs := obsY_eq (HandSHeadRun.getT_eq s)
theorem run_0 (w : World) : HandSHeadRun.RunEqI theRow (PySem.W.view theRow.prog [0, lawI]) (hookY asL fn_0 tf_0 ex_0) (fun s => obsY asL fn_0 tf_0 ex_0 (HandSHeadRun.getT s)) 9000 names w := by
  unfold HandSHeadRun.RunEqI
  kernel_rfl
theorem run_1 (w : World) : HandSHeadRun.RunEqI theRow (PySem.W.view theRow.prog [0, lawI]) (hookY asL fn_1 tf_1 ex_1) (fun s => obsY asL fn_1 tf_1 ex_1 (HandSHeadRun.getT s)) 9000 names w := by
  unfold HandSHeadRun.RunEqI
  kernel_rfl
theorem run_2 (w : World) : HandSHeadRun.RunEqI theRow (PySem.W.view theRow.prog [0, lawI]) (hookY asL fn_2 tf_2 ex_2) (fun s => obsY asL fn_2 tf_2 ex_2 (HandSHeadRun.getT s)) 9000 names w := by
  unfold HandSHeadRun.RunEqI
  kernel_rfl
theorem run_3 (w : World) : HandSHeadRun.RunEqI theRow (PySem.W.view theRow.prog [0, lawI]) (hookY asL fn_3 tf_3 ex_3) (fun s => obsY asL fn_3 tf_3 ex_3 (HandSHeadRun.getT s)) 9000 names w := by
  unfold HandSHeadRun.RunEqI
  kernel_rfl
theorem run_4 (w : World) : HandSHeadRun.RunEqI theRow (PySem.W.view theRow.prog [0, lawI]) (hookY asL fn_4 tf_4 ex_4) (fun s => obsY asL fn_4 tf_4 ex_4 (HandSHeadRun.getT s)) 9000 names w := by
  unfold HandSHeadRun.RunEqI
  kernel_rfl
theorem run_5 (w : World) : HandSHeadRun.RunEqI theRow (PySem.W.view theRow.prog [0, lawI]) (hookY asL fn_5 tf_5 ex_5) (fun s => obsY asL fn_5 tf_5 ex_5 (HandSHeadRun.getT s)) 9000 names w := by
  unfold HandSHeadRun.RunEqI
  kernel_rfl
theorem run_6 (w : World) : HandSHeadRun.RunEqI theRow (PySem.W.view theRow.prog [0, lawI]) (hookY asL fn_6 tf_6 ex_6) (fun s => obsY asL fn_6 tf_6 ex_6 (HandSHeadRun.getT s)) 9000 names w := by
  unfold HandSHeadRun.RunEqI
  kernel_rfl
theorem run_7 (w : World) : HandSHeadRun.RunEqI theRow (PySem.W.view theRow.prog [0, lawI]) (hookY asL fn_7 tf_7 ex_7) (fun s => obsY asL fn_7 tf_7 ex_7 (HandSHeadRun.getT s)) 9000 names w := by
  unfold HandSHeadRun.RunEqI
  kernel_rfl
theorem run (w : World) : HandSHeadRun.RunEqI theRow (PySem.W.view theRow.prog [0, lawI]) hk ob 9000 names w := run_joinI (run_joinI (run_joinI (run_joinI (run_joinI (run_joinI (run_joinI (run_0 w) (run_1 w)) (run_2 w)) (run_3 w)) (run_4 w)) (run_5 w)) (run_6 w)) (run_7 w)
end Sc
namespace Sc
open PySem PySem.Spec PySem.Calls PyProof.Rows L2
/-! ### enumerate(tuple) -/
theorem enumT_new (l : Addr) (items : Array Value) (n : Nat) (dct : Option Addr) (sl : Array (Option Value)) :
    Meets (Builtin.«enumerate.__new__» ⟨[.type "enumerate", .ref l], []⟩) (fun _ R s =>
      s.heap.get? l = some { cls := .type "tuple", dict := dct, data := .seq items n, slots := sl } ∧
      R (.ok (.ret (.ref (s.heap.objs.size + 1)))) { s with heap := (s.heap.push { cls := .type "tuple_iterator", data := .fields #[.ref l, .int 0 0] }).push { cls := .type "enumerate", data := .fields #[.none, .bool false, .ref s.heap.objs.size, rawInt 0, .none, .none] } }) :=
  .of_wp fun prog w A R s h => by
    obtain ⟨hp, g, d, tk, os⟩ := s
    obtain ⟨hl, hR⟩ := h
    have hsub := sub_enumerate
    have hT : Heap.IsTuple hp l items := ⟨_, hl, rfl, n, rfl⟩
    have hz : (hp.push { cls := .type "tuple_iterator", data := .fields #[.ref l, .int 0 0] }).objs.size = hp.objs.size + 1 := Heap.size_push ..
    rw [← hz] at hR
    have it1 : ∀ {A' : Around} {E : Value → Shared → Prop} {Q : Value → Shared → Prop}, Q (.ref hp.objs.size) ⟨hp.push { cls := .type "tuple_iterator", data := .fields #[.ref l, .int 0 0] }, g, d, tk, os⟩ →
        wpAny (model prog w) A' (pyIter (.ref l)) Q E ⟨hp, g, d, tk, os⟩ := fun q => wpAny_pyIter_tuple (s := ⟨hp, g, d, tk, os⟩) hT q
    wp_walk using AutoSeq1.wpAny_loadPart' hl, it1
    refine wpAny_stack_any fun st => wpAny_pure ?_
    split
    · rename_i c _ _ _ _ _
      cases (c == Value.type "enumerate") <;>
      · wp_walk using AutoSeq1.wpAny_loadPart' hl, it1
        exact ⟨_, rfl, hR⟩
    · wp_walk using AutoSeq1.wpAny_loadPart' hl, it1
      exact ⟨_, rfl, hR⟩
section
variable {prog : Program} {w : World} {A : Around} {E : Value → Shared → Prop} {s : Shared}
theorem enumT_call {l : Addr} {items : Array Value} {Q : Value → Shared → Prop} (hL : s.heap.IsTuple l items)
    (h : ∀ h', IsEnum h' (s.heap.objs.size + 1) s.heap.objs.size 0 .none → h'.IsTupleIter s.heap.objs.size l 0 → (∀ b o, s.heap.get? b = some o → h'.get? b = some o) →
      Q (.ref (s.heap.objs.size + 1)) { s with heap := h' }) : wpAny (model prog w) A (call (.type "enumerate") [.ref l]) Q E s := by
  obtain ⟨⟨c, dct, dt, sl⟩, hl, hc, n, hd⟩ := hL
  dsimp only at hc hd
  subst hc hd
  refine callType_new F.called_enumerate (by decide) (F.typeCall_enumerate_1 _) (F.newCall_enumerate_1 _) (fun obj => F.args_object_init_2 obj _) F.entry_enumerate_new (enumT_new l items n dct sl) ⟨hl, ?_⟩
  have hz : (s.heap.push { cls := .type "tuple_iterator", data := .fields #[.ref l, .int 0 0] }).objs.size = s.heap.objs.size + 1 := Heap.size_push ..
  have he := Heap.get?_push_size (s.heap.push { cls := .type "tuple_iterator", data := .fields #[.ref l, .int 0 0] })
    (o := { cls := .type "enumerate", data := .fields #[.none, .bool false, .ref s.heap.objs.size, rawInt 0, .none, .none] }) rfl
  rw [hz] at he
  exact ⟨⟨_, he, rfl⟩, h _ he ⟨_, Heap.get?_push_of_some _ (Heap.get?_push_size _ rfl), rfl, rfl⟩ fun b o x => Heap.get?_push_of_some _ (Heap.get?_push_of_some _ x)⟩
end
/-- the tuple at a, each item in a new pair -/
def IteT (K : PySem.W.Frag) (a : Addr) : It where
  go := fun i H => ∃ (xs : List V) (x : V), SqT K H a xs ∧ xs[i]? = some x
  yld := fun i H v H' => ∃ T x, v = .ref T ∧ H T = none ∧ H' = upd H T (.tup [.int (i : Nat), x]) ∧ ∀ xs, SqT K H a xs → xs[i]? = some x
  stop := fun i H => ∃ xs : List V, SqT K H a xs ∧ xs.length ≤ i
theorem enumT_turn {P : Program} {w : World} {K : PySem.W.Frag} {elts : List Expr} {kk : Nat} {tpos : Pos} (a e it : Addr) :
    Turn P w K (.Tuple elts kk tpos) (IteT K a) [e, it] e (fun i h => (∃ old, IsEnum h e it ((i : Nat) : Int) old) ∧ h.IsTupleIter it a i ∧ e ≠ it) where
  mem := List.mem_cons_self
  obj := fun i h st b hb => by
    obtain ⟨⟨old, he⟩, ⟨o, ho, hc, hd⟩, _⟩ := st
    rcases List.mem_cons.mp hb with rfl | hb
    · exact ⟨_, he, fun v q => nomatch q⟩
    · rcases List.mem_cons.mp hb with rfl | hb
      · exact ⟨o, ho, fun v q => by rw [hd] at q; cases q⟩
      · cases hb
  keep := fun i h h' st k => by
    obtain ⟨⟨old, he⟩, hi, hne⟩ := st
    exact ⟨⟨old, k e (by simp) _ he⟩, hi.at fun o q => k it (by simp) o q, hne⟩
  item := by
    intro X hP hw hK hc i pins s σ H E I hf st hg
    subst hP hw hK
    obtain ⟨⟨old, he⟩, hit, hne⟩ := st
    obtain ⟨xs, x, hq, hx⟩ := hg
    obtain ⟨its, rv, p, hz⟩ := I.tuple hq
    obtain ⟨u, hu, ru⟩ := rv.get hx
    have hel : e < s.heap.objs.size := Heap.lt_size he
    have hil : it < s.heap.objs.size := by obtain ⟨_, q, _⟩ := hit; exact Heap.lt_size q
    have p' : s.heap.IsTuple a its.toArray := p
    have hae : a ≠ e := fun z => by
      obtain ⟨o, ho, hcl, n, hd⟩ := p'
      rw [z, he] at ho
      cases ho
      cases hd
    have hai : a ≠ it := fun z => by
      obtain ⟨o, ho, hcl, n, hd⟩ := p'
      obtain ⟨o2, ho2, hcl2, hd2⟩ := hit
      rw [z, ho2] at ho
      cases ho
      rw [hd2] at hd
      cases hd
    have hlt : i < its.toArray.size := by
      rw [List.size_toArray]
      exact (List.getElem?_eq_some_iff.mp hu).1
    refine wpAny_pyNext_enum_itemD (Draws.tuple (A := X.A.in1) (I.ok.hd hc) it a hai its.toArray) he ⟨hit, p'⟩ hlt hne (by simp [hne, hae.symm]) fun y h' tk hy ho st' hT hsz hk => ?_
    obtain ⟨hit', hp'⟩ := st'
    have ey : y = u := by
      have z : its.toArray[i]? = some u := by simpa using hu
      rw [hy] at z
      exact Option.some.inj z
    subst ey
    refine ⟨_, rfl, wpAny_letOwnedTupleGo_enum (s := { s with heap := h', toks := tk + 1 }) ho fun h'' he' sb => ?_⟩
    have hT2 : h''.get? s.heap.objs.size = some { cls := .type "tuple", data := .seq #[.int i tk, y] } := (sb.2 _ (Nat.ne_of_gt hel)).trans hT
    have new : ObjOk X.prog X.w (upd H s.heap.objs.size (.tup [.int (i : Nat), x])) h'' s.heap.objs.size (.tup [.int (i : Nat), x]) :=
      ⟨by show 2 ≤ sizeLine; decide, [.int i tk, y], .cons ⟨_, rfl⟩ (.cons ru .nil), ⟨_, hT2, rfl, _, rfl⟩⟩
    have I1 : Inv X pins σ (upd H s.heap.objs.size (.tup [.int (i : Nat), x])) { s with heap := h'', toks := tk + 1 } :=
      I.turnedNew (ch := [e, it]) (fun b ob hb q => (sb.2 b (fun z => hb (by simp [z]))).trans (hk b ob (fun z => hb (by simp [z])) (fun z => hb (by simp [z])) q)) hf (Nat.le_refl _) new
    refine ⟨.ref s.heap.objs.size, _, I1, rfl, ⟨_, x, rfl, I.hok.fresh (Nat.le_refl _), rfl, fun ys hy => by rw [I.tuple_inj hy hq]; exact hx⟩, ⟨⟨y, ?_⟩, hit'.at fun o q => (sb.2 it (Ne.symm hne)).trans q, hne⟩, fun b hb => ?_⟩
    · have e1 : ((i + 1 : Nat) : Int) = (i : Int) + 1 := by omega
      rw [e1]
      exact he'
    · have hb' : b < s.heap.objs.size := by
        rcases List.mem_cons.mp hb with rfl | hb
        · exact hel
        · rcases List.mem_cons.mp hb with rfl | hb
          · exact hil
          · cases hb
      rw [upd_ne (Nat.ne_of_lt hb')]
      exact (hf b hb).1
  done := by
    intro X hP hw hK hc i pins s σ H E I hf st hg
    subst hP hw hK
    obtain ⟨⟨old, he⟩, hit, hne⟩ := st
    obtain ⟨xs, hq, hx⟩ := hg
    obtain ⟨its, rv, p, hz⟩ := I.tuple hq
    obtain ⟨f0, f1, f2, f3, f4, f5⟩ := hf it (by simp)
    have hl := rv.length
    have p' : s.heap.IsTuple a its.toArray := p
    have hai : a ≠ it := fun z => by
      obtain ⟨o, ho, hcl, n, hd⟩ := p'
      obtain ⟨o2, ho2, hcl2, hd2⟩ := hit
      rw [z, ho2] at ho
      cases ho
      rw [hd2] at hd
      cases hd
    have D : Draws X.prog X.w X.A.in1 it [it, a] i (fun _ _ => True) (fun j h => h.IsTupleIter it a j ∧ h.IsTuple a its.toArray ∧ j = i) :=
      { live := fun _ _ st => let ⟨o, ho, _⟩ := st.1; ⟨o, ho⟩
        frame := fun _ _ _ st hk => ⟨st.1.at fun o e => hk it (by simp) o e, st.2.1.at fun o e => hk a (by simp) o e, st.2.2⟩
        item := fun j s Q E hj stj hQ => absurd hj (by rw [stj.2.2]; exact Nat.lt_irrefl i)
        done := fun s Q E stj hE => wpAny_nextOf_tuple_end (I.ok.hd hc) stj.1 stj.2.1 (by simp; omega) hE }
    exact wpAny_pyNext_enum_endD D he ⟨hit, p', rfl⟩ fun h' eb => ⟨rfl, I.turned (t' := s.toks) (fun b o hb q => eb b o hb q) f0 f1 f3 f4 f5⟩
  self := fun A i s Q E st h => by
    obtain ⟨⟨_, he⟩, _⟩ := st
    exact wpAny_pyIter_enum he h
def iEnumT (K : PySem.W.Frag) (ta : TA) : TI := fun σ H R => ta σ H fun vs H1 => ∃ a xs, vs = [.ref a] ∧ SqT K H1 a xs ∧ R (IteT K a) H1
theorem pi_enumT {X : Cx} {e : Expr} {ta : TA} {p pos tpos : Pos} {elts : List Expr} {kk : Nat} (hg : Gl X "enumerate") (hm : X.mg "enumerate" = none) (ha : PA X [e] ta) (hs : starEach [e] X.env = [(false, eval e X.env)] := by rfl) :
    PI X (.Tuple elts kk tpos) (.Call (.Name "enumerate" p) [e] [] pos) (iEnumT X.K ta) := by
  refine ⟨fun pins s σ H R I h => ?_⟩
  refine Call_ (ld_blt I hg hm boot_enumerate (PyProof.Rows.callWith_type1 (thn (ha.run pos pins s σ H _ I h) fun us s1 ⟨vs, H1, I1, r1, a, xs, ex, hq, q⟩ => ?_) hs rfl))
  subst ex
  cases r1 with
  | cons r rr =>
    cases rr
    cases r
    obtain ⟨its, rv, p', hz⟩ := I1.tuple hq
    refine enumT_call (show s1.heap.IsTuple a its.toArray from p') fun h' he hit hk => wpAny_pyIter_enum he ?_
    have I2 : Inv X pins σ H1 { s1 with heap := h' } := I1.kept (t' := s1.toks) hk
    refine ⟨s1.heap.objs.size + 1, [s1.heap.objs.size + 1, s1.heap.objs.size], _, _, H1, rfl, I2, enumT_turn a (s1.heap.objs.size + 1) s1.heap.objs.size, ⟨⟨.none, he⟩, hit, Nat.succ_ne_self _⟩, fun b hb => ?_, q⟩
    have hle : s1.heap.objs.size ≤ b := by
      rcases List.mem_cons.mp hb with rfl | hb
      · exact Nat.le_succ _
      · rcases List.mem_cons.mp hb with rfl | hb
        · exact Nat.le_refl _
        · cases hb
    exact I1.fpOk hle (I1.hok.fresh hle)
end Sc
namespace Sc
open PySem PySem.Spec PySem.Calls PyProof.Rows L2 NdefX
/-! ### super().__init__(..) in an own error's __init__ -/
/-- what the written part tells for super() in the __init__ of the class at C: cc its cell, cda the code object of __init__ -/
structure SupC (prog : Program) (K : PySem.W.Frag) (mg : Str → Option Value) (C cc cda : Addr) : Prop where
  cell : ∃ cl cld csl, K.lookup cc = some ⟨cl, cld, .cell (some (.ref C)), csl⟩
  code : ∃ ccl cdd vs ccs file tf, K.lookup cda = some ⟨ccl, cdd, .fields vs, ccs⟩ ∧ vs[2]? = some (.str file tf) ∧ ((prog.main.file : Str) == file) = true
  sub : PySem.W.mroIn K C (.ref C) = some true
  noS : mg "super" = none
  opq : PySem.W.nsIn K cStatics "thirdparty.any" = some none
  up : PySem.W.ks_superIn K C C "__init__" = some (some (.builtin "ValueError.__init__"))
  isB : PySem.W.subIn K (.ref C) (.type "ValueError") = some true
  top : (prog.main.scope.names.lookup ("super" : Str)).isSome = false
section
variable {X : Cx} {pins : List (Addr × Obj)} {σ : L2.St} {H : Hp} {s : Shared} {a C cc cda f : Addr}
theorem sup_bound {u : Addr} {us : List Value} {A : Around} {E : Value → Shared → Prop} {Q : Value → Shared → Prop} (T : OexC X.K C) (I : Inv X pins σ H s) (e : H a = some (exo a C none)) (hu : s.heap.get? u = some (PySem.W.kxs_mw "ValueError.__init__" a)) (hl : us.length ≤ sizeLine)
    (h : ∀ s', Inv X pins σ H s' → Q .none s') : wpAny (model X.prog X.w) A (call (.ref u) us) Q E s := by
  obtain ⟨nm, q, N, bs, bm, sn, sub, ab, col, dd, k0, k1, k2, k3, k5, hC, hbm⟩ := T.cls
  obtain ⟨t1, ho⟩ := exo_at I.hok e
  have hC' := I.kIn _ _ hC
  obtain ⟨hp, g, d, tk, os⟩ := s
  refine wpAny_call (codeAny_of_tree ?_)
  show wpAny _ A.in1 (callAny (.ref u) ⟨us, []⟩) _ _ _
  simp only [callAny]
  refine wpAny_bind (wpAny_load hu ?_)
  have b1 : (Value.type "method-wrapper" == Value.type "method" || Value.type "method-wrapper" == Value.type "builtin_function_or_method" || Value.type "method-wrapper" == Value.type "method-wrapper") = true := by decide
  simp only [PySem.W.kxs_mw, b1, if_true]
  refine PySem.W.KFB.if_so (by decide) (wpAny_bind (PySem.W.check_bound_init PySem.F.excBase_ValueError.toExcCallFacts hC' ho rfl (wpAny_bind (wpAny_pure (wpAny_pure ?_)))))
  refine ⟨plainId_quiet PySem.F.excBase_ValueError.init.plain _, codeAny_builtin PySem.F.excBase_ValueError.initEntry ?_⟩
  refine PySem.W.exc_init_tree (cls := .ref C) (t0 := t1) (dv := none) (c2 := .none) (c3 := .none) (b4 := .bool false) ho hl fun h' k hx _ => ?_
  have J := I.write (t' := tk) (x := a) (e := a) (o := exo a C none) (by rw [e]; exact True.intro) (.inl rfl) k ⟨_, hx⟩ (exo_ok hx)
  have eu : upd H a (exo a C none) = H := funext fun b => by
    by_cases hb : b = a
    · rw [hb, upd_same, e]
    · rw [upd_ne hb]
  rw [eu] at J
  exact h _ J
theorem at_super {pl : Sem Bool} {body : List Stmt} {e : Expr} {es : List Expr} {ta : TA} {D : Ends} {p0 p1 p2 p3 p4 : Pos} {fd : FuncData} {ar : Arg} {oc : Value} {od : Option Addr} {osl : Array (Option Value)}
    (T : OexC X.K C) (S : SupC X.prog X.K X.mg C cc cda) (hks : X.env.kindOf "super" = some .globalImplicit) (hkc : X.env.kindOf "__class__" = some .free) (hcl : X.env.cells.lookup ("__class__" : Str) = some cc)
    (hfu : X.env.func = some f) (hco : X.env.code = .ref cda) (lk : X.K.lookup f = some ⟨oc, od, .func fd, osl⟩) (hp : (fd.params.posonlyargs ++ fd.params.args).head? = some ar) (hN0 : X.N[0]? = some ar.arg) (hka : X.env.kindOf ar.arg = some .local)
    (hA : PA X (e :: es) ta) (I : Inv X pins σ H s) (hσ : σ[0]? = some (some (.ref a))) (ha : H a = some (exo a C none)) (q : ta σ H fun vs H1 => vs.length ≤ 1000 ∧ H1 a = some (exo a C none) ∧ D.nx σ H1)
    (he : starEach (e :: es) X.env = (false, eval e X.env) :: starEach es X.env := by rfl) (hpl : (backTo p3 (starEach es X.env)).any (·.1) = false := by rfl) (hi : interactive X.env = false := by rfl)
    (hev : eval (.Call (.Attribute (.Call (.Name "super" p0) [] [] p1) "__init__" p2) (e :: es) [] p3) X.env = (do
      let ov ← attributeBase (.Call (.Name "super" p0) [] [] p1) "__init__" X.env (eval (.Call (.Name "super" p0) [] [] p1) X.env)
      standAt p2.atName
      let (g, first) ← holding [ov] (getMethod ov "__init__" pl)
      callWith p3 g first (backTo p3 (starEach (e :: es) X.env)) []) := by rfl) (hsw : swapsWith (.Call (.Attribute (.Call (.Name "super" p0) [] [] p1) "__init__" p2) (e :: es) [] p3) none p4.line X.env = pure false := by rfl) :
    PySem.wpAt (model X.prog X.w) X.A (.func body X.env) (exec (.Expr (.Call (.Attribute (.Call (.Name "super" p0) [] [] p1) "__init__" p2) (e :: es) [] p3) p4) X.env) (SP X pins D) X.xe s := by
  obtain ⟨cl, cld, csl, hcell⟩ := S.cell
  obtain ⟨ccl, cdd, vs, ccs, file, tf, hcode, hvs, hfile⟩ := S.code
  have KX := I.kIn
  refine ks_wpAt_Expr_any (ks_wpAt_MethodCall (pl := pl) ?_ hev) hi hsw
  refine ks_wpAt_super_base hks hkc (by decide) hfu (KX _ _ lk) rfl hp hco (KX _ _ hcode) rfl hvs hfile S.top ?_
  obtain ⟨mb, b1, b2⟩ := I.mod.blt
  refine PySem.W.ks_loadName_global I.ok.kind hks (Calls.loadGlobal_builtin (v := .type "super") (by rw [I.ok.glob]; exact I.mod.glob.keeps I.bk) S.noS (by rw [I.ok.blt]; exact b1.keeps I.bk) ((b2 _ (by decide +kernel)).trans (by decide +kernel)) ⟨rfl, ?_⟩)
  refine wpAny_loadName_free I.ok.kind hkc hcl ⟨_, KX _ _ hcell, rfl⟩ ?_
  obtain ⟨m, hn, hloc⟩ := I.loc
  obtain ⟨u, ru, hlook⟩ := hloc 0 ar.arg (.ref a) hN0 hσ (.inl hka)
  obtain rfl : u = Value.ref a := ru
  have hm : m ar.arg = some (.ref a) := by
    rcases hlook with ⟨_, z⟩ | ⟨z, _⟩
    · exact z
    · rcases z with z | z <;> rw [show X.env.kindOf ar.arg = _ from hka] at z <;> cases z
  refine wpAny_loadName_local I.ok.kind hka hn hm ?_
  obtain ⟨nm, qn, N, bs, bm, sn, sub, ab, col, dd, k0, k1, k2, k3, k5, hC, hbm⟩ := T.cls
  have hcls : PySem.W.clsIn X.K C = some { name := nm, bases := bs, mro := .ref C :: bm, ns := N, qualname := qn, hasDict := true, slotNames := sn, subclasses := sub, abstract := ab, collection := col, hasDel := false } := by unfold PySem.W.clsIn; rw [hC] <;> rfl
  obtain ⟨t1, ho⟩ := exo_at I.hok ha
  have hC' := KX _ _ hC
  have ex := S.up
  unfold PySem.W.ks_superIn at ex
  rw [hcls] at ex
  obtain ⟨hp', g, d, tk, os⟩ := s
  refine ks_wpAny_isType_cls hC' rfl ⟨rfl, ?_⟩
  refine ks_wpAny_call_super hC' rfl ho rfl (fun c z => nomatch z) (PySem.W.looks_mroIn KX S.sub) (fun h' e1 k => ?_)
  have I1 : Inv X pins σ H ⟨h', g, d, tk, os⟩ := I.kept (t' := tk) k
  have IA : PySem.W.InstAt h' a { cls := .ref C, dict := none, data := .fields #[.ref t1, .none, .none, .none, .bool false, .none] } C none := ⟨k _ _ ho, rfl, rfl, trivial⟩
  have hIs : PySem.W.Looks (model X.prog X.w) h' (isInstance (.ref a) (.type "ValueError")) true := IA.type.andThen (PySem.W.looks_subIn I1.kIn S.isB)
  refine PySem.W.kxs_getMethod PySem.W.kxs_ValueError e1 (PySem.W.looks_opaque I1.kIn S.opq) (l₀ := .ref C :: bm) (fun A Q E s k q => wpAny_bind ((PySem.W.looks_clsIn I1.kIn hcls) A _ E s k (wpAny_pure q))) rfl I1.kIn ex hIs (PySem.W.ks_ne I1.kIn IA hcls) (by decide) ?_
  have I2 : Inv X pins σ H ⟨h'.push (PySem.W.kxs_mw "ValueError.__init__" a), g, d, tk + 1, os⟩ := I1.kept (t' := tk + 1) fun b o z => Heap.get?_push_of_some _ z
  have hu : (h'.push (PySem.W.kxs_mw "ValueError.__init__" a)).get? h'.objs.size = some (PySem.W.kxs_mw "ValueError.__init__" a) := Heap.get?_push_at rfl rfl
  have hun : H h'.objs.size = none := I1.hok.fresh (Nat.le_refl _)
  have hunf : h'.objs.size ∉ X.fs ∧ h'.objs.size ≠ X.env.locals := ⟨I1.nofs (Nat.le_refl _), fun z => Nat.lt_irrefl _ (by have := I1.lt; rw [← z] at this; exact this)⟩
  have I3 : Inv X ((h'.objs.size, PySem.W.kxs_mw "ValueError.__init__" a) :: pins) σ H ⟨h'.push (PySem.W.kxs_mw "ValueError.__init__" a), g, d, tk + 1, os⟩ := I2.pins_of fun p hp => by
    rcases List.mem_cons.mp hp with rfl | hp
    · exact ⟨hu, hun, hunf.2, hunf.1, fun v z => nomatch z⟩
    · exact I2.pin p (List.mem_append_right _ hp)
  rw [he]
  refine PySem.W.kxs_callWith (i := "ValueError.__init__") (x := a) (first := []) (by show (false || (backTo p3 (starEach es X.env)).any (·.1)) = false; rw [hpl]; rfl) (evalArgs_plain ?_)
  show wpAny _ _ (spliced (backTo p3 ((false, eval e X.env) :: starEach es X.env))) _ _ _
  rw [← he]
  refine thn (hA.run p3 _ _ σ H _ I3 q) fun us s1 ⟨vs, H1, I4, r1, hl, e4, q4⟩ => ?_
  have I5 : Inv X pins σ H1 s1 := I4.pins_of fun p hp => I4.pin p (List.mem_append_right _ (.tail _ hp))
  have hu4 := (I4.pin _ (List.mem_append_right _ List.mem_cons_self)).1
  refine ⟨hu4, ?_⟩
  refine sup_bound T I5 e4 hu4 (by show us.length ≤ sizeLine; rw [← Paired.length r1, sizeLine_eq]; omega) fun s' J => ?_
  exact ⟨σ, H1, J, q4⟩
end
/-! ### the __init__ as a def -/
/-- the reading of a body that begins with super().__init__(e ..) -/
def tInit (C : Addr) (ta : TA) (tr : TS) : TS := fun D σ H => ∃ a : Addr, σ[0]? = some (some (.ref a)) ∧ H a = some (exo a C none) ∧ ta σ H fun vs H1 => vs.length ≤ 1000 ∧ H1 a = some (exo a C none) ∧ tr D σ H1
section
variable {P : Program} {w : World} {K : PySem.W.Frag} {mg : Str → Option Value} {base : Heap} {N ps : List Str} {F : NF} {f C cc : Addr} {k : Nat} {sp : Sp} {kV doc pm ct oc : Value} {an od : Option Addr} {osl : Array (Option Value)}
/-- the def's data as it stands -/
abbrev supFd (F : NF) (kV doc pm : Value) (an : Option Addr) (ct : Value) : FuncData := PySem.W.fnX F.name F.qual F.params F.body F.scope F.cl .none kV doc pm an (.ref F.c) ct
theorem fn_sup {e : Expr} {es : List Expr} {rest : List Stmt} {ar : Arg} {p0 p1 p2 p3 p4 : Pos} (lk : K.lookup f = some ⟨oc, od, .func (supFd F kV doc pm an ct), osl⟩) (hcd : PySem.W.codeIn K (.ref F.c) F.qual = true) (hcl : F.cl = [(("__class__" : Str), cc)])
    (SC : NScope N ps ["__class__"] F.scope) (T : OexC K C) (S : SupC P K mg C cc F.c) (len : ∀ vs H Q E, sp vs H Q E → vs.length = ps.length)
    (hbd : F.body = .Expr (.Call (.Attribute (.Call (.Name "super" p0) [] [] p1) "__init__" p2) (e :: es) [] p3) p4 :: rest)
    (hp : (F.params.posonlyargs ++ F.params.args).head? = some ar) (hN0 : N[0]? = some ar.arg) (hka : F.scope.names.lookup ar.arg = some .local) (hks : F.scope.names.lookup ("super" : Str) = some .globalImplicit)
    (hbody : ∀ (A : Around) (outer : List Env) (s : Shared) (H : Hp) (vs : List V) (Q : VK) (E : XK), Room k (A.deeper (envF F f s.heap.objs.size)) → sp vs H Q E →
      ∃ ta tr, PA (ncx CX0 P w K mg base N F f A outer s H E) (e :: es) ta ∧ PSs (ncx CX0 P w K mg base N F f A outer s H E) rest tr ∧ tInit C ta tr { nx := fun _ H' => Q .non H', rt := Q } (startF N vs [none]) H)
    (hev : ∀ L, ∃ pl, eval (.Call (.Attribute (.Call (.Name "super" p0) [] [] p1) "__init__" p2) (e :: es) [] p3) (envF F f L) = (do
      let ov ← attributeBase (.Call (.Name "super" p0) [] [] p1) "__init__" (envF F f L) (eval (.Call (.Name "super" p0) [] [] p1) (envF F f L))
      standAt p2.atName
      let (g, first) ← holding [ov] (getMethod ov "__init__" pl)
      callWith p3 g first (backTo p3 (starEach (e :: es) (envF F f L))) []))
    (hsw : ∀ L, swapsWith (.Call (.Attribute (.Call (.Name "super" p0) [] [] p1) "__init__" p2) (e :: es) [] p3) none p4.line (envF F f L) = pure false) (he : ∀ L, starEach (e :: es) (envF F f L) = (false, eval e (envF F f L)) :: starEach es (envF F f L))
    (hpl : ∀ L, (backTo p3 (starEach es (envF F f L))).any (·.1) = false) (hi : ∀ L, interactive (envF F f L) = false) :
    FnOk P w K mg base CX0 (k + 1) f (supFd F kV doc pm an ct) ps sp := by
  refine ⟨len, fun A outer s H args us vs Q E hr e0 hb r hsp => ?_⟩
  have hl := len _ _ _ _ hsp
  have KX : K.In s.heap := e0.mod.kin.keeps fun b o e => (e0.bs b o e).1
  have lim : s.heap.NoLimit := e0.mod.nolimit.keeps fun b o e => (e0.bs b o e).1
  obtain ⟨cl, cld, csl, hcell⟩ := S.cell
  have hcH : H cc = none := by
    have z := e0.mod.kin _ _ hcell
    exact (e0.bs _ _ z).2
  have CA : CellsAt F.cl ["__class__"] [none] s.heap H := by
    rw [hcl]
    refine ⟨rfl, fun y c h => ?_, fun x y c h1 h2 => ?_, fun i y h => ?_⟩
    · have q : y = ("__class__" : Str) ∧ c = cc := by
        simp only [List.lookup] at h
        split at h
        · rename_i z; exact ⟨by simpa using z, (Option.some.inj h).symm⟩
        · cases h
      rw [q.2]
      exact ⟨hcH, some (.ref C), ⟨_, KX _ _ hcell, rfl⟩⟩
    · have q : ∀ z, List.lookup z [(("__class__" : Str), cc)] = some c → z = ("__class__" : Str) := fun z h => by
        simp only [List.lookup] at h
        split at h
        · rename_i z; simpa using z
        · cases h
      rw [q x h1, q y h2]
    · cases i with
      | zero =>
        have q : y = ("__class__" : Str) := (Option.some.inj h).symm
        subst q
        exact ⟨cc, by simp [List.lookup], fun v z => by cases z⟩
      | succ i => simp at h
  refine ks_codeAny_call_defAt (fd := supFd F kV doc pm an ct) (body := F.body) (binds := ps.zip us) hr.depth (KX _ _ lk) rfl lim (PySem.W.codeRec_of KX hcd) rfl hb SC.nocell (fun ⟨n, _⟩ hy => SC.par n (List.of_mem_zip hy).1) (fun h₁ hns kp => ?_) SC.co SC.gen SC.kind
  obtain ⟨ta, tr, hta, htr, a, hσ, ha, q⟩ := hbody A outer s H vs Q E (hr.deeper _) hsp
  have I : Inv (ncx CX0 P w K mg base N F f A outer s H E) [] (startF N vs [none]) H { s with heap := h₁, toks := s.toks + (ps.zip us).length } := inv_startN SC hr.hd e0 hl r CA hns kp
  obtain ⟨pl, hev⟩ := hev s.heap.objs.size
  have fin : ∀ {s' : Shared} {σ' : L2.St} {H' : Hp} {v : V} {u : Value}, Inv (ncx CX0 P w K mg base N F f A outer s H E) [] σ' H' s' → L2.RelV v u → Q v H' → CE outer P w H s Q u s' :=
    fun {s' σ' H' v u} J rv q => ⟨v, H', J.os, J.bare, J.base, J.hok, rv, q⟩
  rw [hbd]
  refine ks_wpAt_execs_cons (ks_wpAt_mono (at_super (X := ncx CX0 P w K mg base N F f A outer s H E) (D := { nx := fun σ' H' => tr { nx := fun _ H' => Q .non H', rt := Q } σ' H', rt := fun _ _ => False }) (pl := pl) (f := f) (ar := ar) (fd := supFd F kV doc pm an ct) T S hks (SC.frk _ List.mem_cons_self) (by show F.cl.lookup _ = _; rw [hcl]; simp [List.lookup]) rfl rfl lk hp hN0 hka hta I hσ ha q (he _) (hpl _) (hi _) hev (hsw _)) (fun fl s' hs => ?_) fun _ _ z => z)
  cases fl with
  | ret u =>
    obtain ⟨_, _, _, _, _, z⟩ := hs
    exact z.elim
  | brk =>
    obtain ⟨_, _, _, z⟩ := hs
    exact z.elim
  | cont =>
    obtain ⟨_, _, _, z⟩ := hs
    exact z.elim
  | next =>
    obtain ⟨σ', H', J, z⟩ := hs
    refine PySem.wpAt_of_wpAny (wpAny_mono (htr.run [] s' σ' H' _ J z) (fun fl2 s2 h2 => ?_) fun _ _ y => y)
    cases fl2 with
    | ret u =>
      obtain ⟨v, σ2, H2, J2, rv, q2⟩ := h2
      exact fin J2 rv q2
    | next =>
      obtain ⟨σ2, H2, J2, q2⟩ := h2
      exact fin (v := V.non) (u := Value.none) J2 rfl q2
    | brk =>
      obtain ⟨_, _, _, q2⟩ := h2
      exact q2.elim
    | cont =>
      obtain ⟨_, _, _, q2⟩ := h2
      exact q2.elim
end
end Sc
namespace Sc
open PySem PySem.Spec PyProof.Rows L2
/-- the built-ins are not hidden -/
structure Blt (mg : Str → Option Value) : Prop where
  b_isinstance : mg "isinstance" = none
  b_len : mg "len" = none
  b_all : mg "all" = none
  b_any : mg "any" = none
  b_sum : mg "sum" = none
  b_max : mg "max" = none
  b_min : mg "min" = none
  b_int : mg "int" = none
  b_str : mg "str" = none
  b_bool : mg "bool" = none
  b_list : mg "list" = none
  b_tuple : mg "tuple" = none
  b_dict : mg "dict" = none
  b_range : mg "range" = none
  b_enumerate : mg "enumerate" = none
  b_sorted : mg "sorted" = none
  b_reversed : mg "reversed" = none
  b_zip : mg "zip" = none
  b_set : mg "set" = none
  b_ValueError : mg "ValueError" = none
/-- a def as its callers see it -/
structure Cal (P : Program) (w : World) (K : PySem.W.Frag) (mg : Str → Option Value) (base : Heap) (CX : CXT) (k : Nat) (x : Str) (ps : List Str) (sp : Sp) : Prop where
  ex : ∃ (f : Addr) (fd : FuncData), FnOk P w K mg base CX k f fd ps sp ∧ mg x = some (.ref f) ∧ PySem.W.keepIn K (.ref f) = true ∧ Binds K fd ps []
section
variable {X : Cx} {k : Nat} {x : Str} {ps : List Str} {sp : Sp} {e : Expr} {es : List Expr} {t : TA} {p pos : Pos}
theorem pe_cal (C : Cal X.prog X.w X.K X.mg X.base CX0 k x ps sp) (hr : Room k X.A) (ha : PA X (e :: es) t) (hg : Gl X x := by rfl) (hdb : (x == ("__debug__" : Str)) = false := by decide)
    (he : starEach (e :: es) X.env = (false, eval e X.env) :: starEach es X.env := by rfl) (hpl : (backTo pos (starEach es X.env)).any (·.1) = false := by rfl) : PE X (.Call (.Name x p) (e :: es) [] pos) (tCall sp [] E0 t) := by
  obtain ⟨f, fd, F, hm, hk, hb⟩ := C.ex
  exact pe_call F hr hg hm hk hb .nil pass0 ha hdb he hpl
/-- a def that may raise, where it does not -/
theorem pe_calN (C : Cal X.prog X.w X.K X.mg X.base (L2.CX X.prog X.w) k x ps sp) (hr : Room k X.A) (ha : PA X (e :: es) t) (hg : Gl X x := by rfl) (hdb : (x == ("__debug__" : Str)) = false := by decide)
    (he : starEach (e :: es) X.env = (false, eval e X.env) :: starEach es X.env := by rfl) (hpl : (backTo pos (starEach es X.env)).any (·.1) = false := by rfl) : PE X (.Call (.Name x p) (e :: es) [] pos) (tCall sp [] E0 t) := by
  obtain ⟨f, fd, F, hm, hk, hb⟩ := C.ex
  exact pe_call F hr hg hm hk hb .nil passL ha hdb he hpl
/-- a def that may raise -/
theorem pe_calX {W : WX} (C : Cal X.prog X.w X.K X.mg X.base (L2.CX X.prog X.w) k x ps sp) (hr : Room k X.A) (tk : Takes X W) (ha : PA X (e :: es) t) (hg : Gl X x := by rfl) (hdb : (x == ("__debug__" : Str)) = false := by decide)
    (he : starEach (e :: es) X.env = (false, eval e X.env) :: starEach es X.env := by rfl) (hpl : (backTo pos (starEach es X.env)).any (·.1) = false := by rfl) : PE X (.Call (.Name x p) (e :: es) [] pos) (tCallS sp (WE W) t) := by
  obtain ⟨f, fd, F, hm, hk, hb⟩ := C.ex
  exact pe_callS F hr hg hm hk hb (fun σ => passAt tk σ) ha hdb he hpl
end
/-! ### a reading that does not lean on the state within which it is asked -/
theorem pe_.re {X : Cx} {e : Expr} {t t' : TE} (h : PE X e t) (q : t = t') : PE X e t' := q ▸ h
theorem pts_.re {X : Cx} {es : List Expr} {t t' : TT} (h : PTs X es t) (q : t = t') : PTs X es t' := q ▸ h
theorem pss_.re {X : Cx} {sts : List Stmt} {t t' : TS} (h : PSs X sts t) (q : t = t') : PSs X sts t' := q ▸ h
/-- a value's truth -/
def tTru (K : PySem.W.Frag) (ta : TE) : TT := fun σ H Q => ta σ H fun x H' => ∃ k, TruV K x H' k ∧ Q k H'
theorem pt_tru {X : Cx} {a : Expr} {ta : TE} (ha : PE X a ta) (he : ∀ whole, isTrue a X.env whole = (do let v ← whole; standAt a.pos; holding [v] (truthy v))) : PT X a (tTru X.K ta) := pt_truth ha he
/-! ### lists -/
theorem take_more {α : Type} {l : List α} {i : Nat} {x : α} (h : l[i]? = some x) : l.take (i + 1) = l.take i ++ [x] := by
  rw [List.take_add_one, h]
  rfl
/-! ### heaps -/
theorem _root_.L2.Same.put {H H' : Hp} {p : Addr} {o : HO} (s : Same H H') (n : H p = none) : Same H (upd H' p o) := fun b x e => by
  rw [upd_ne (ne_of_none e n)]
  exact s b x e
theorem _root_.L2.Same.put' {H H' : Hp} {p : Addr} {o : HO} (s : Same H H') (n : H' p = none) : Same H (upd H' p o) := s.put (s.free n)
theorem _root_.L2.Same.tup {K : PySem.W.Frag} {H H' : Hp} {a : Addr} {xs : List V} (e : Same H H') (h : SqT K H a xs) : SqT K H' a xs := by
  rcases h with (h | ⟨o, h⟩) | h
  · exact .inl (.inl (e _ _ h))
  · exact .inl (.inr ⟨o, e _ _ h⟩)
  · exact .inr h
theorem sqT_new {K : PySem.W.Frag} {H : Hp} {p : Addr} {xs : List V} : SqT K (upd H p (.tup xs)) p xs := .inl (.inl upd_same)
theorem sqL_new {K : PySem.W.Frag} {H : Hp} {p : Addr} {xs : List V} : SqL K (upd H p (.lst xs)) p xs := .inl (.inl upd_same)
theorem sqT_of {K : PySem.W.Frag} {H : Hp} {p : Addr} {xs : List V} (h : H p = some (.tup xs)) : SqT K H p xs := .inl (.inl h)
theorem sqL_of {K : PySem.W.Frag} {H : Hp} {p : Addr} {xs : List V} (h : H p = some (.lst xs)) : SqL K H p xs := .inl (.inl h)
/-- a comprehension's list grows -/
theorem grow {H1 H4 : Hp} {D : Addr} {acc : Nat → List V} {i : Nat} {y : V} (nD : H1 D = none) (s : Same H1 H4) (e : H4 D = some (.lst (acc i))) (l : (acc i).length < sizeLine) (n : acc (i + 1) = acc i ++ [y]) :
    ∃ a, H4 D = some (.lst a) ∧ a.length < sizeLine ∧ (Same H1 (upd H4 D (.lst (a ++ [y]))) ∧ (upd H4 D (.lst (a ++ [y]))) D = some (.lst (acc (i + 1)))) :=
  ⟨acc i, e, l, s.put nD, by rw [upd_same, n]⟩
theorem bcase {b : Bool} {A B : Prop} (h1 : b = true → A) (h2 : b = false → B) : if b = true then A else B := by
  cases b with
  | true => exact iteT (h1 rfl)
  | false => exact iteF (h2 rfl)
/-- isinstance(x, T), T a built-in class -/
def rIsT (K : PySem.W.Frag) (T : String) : List V → Hp → VK → Prop := fun xs H Q => ∃ (x : V) (t : String) (b : Bool), xs = [x, .ty T] ∧ TyOf K H x (.type t) ∧ kitB t T = some b ∧ Q (.bl b) H
theorem call_isT {X : Cx} (T : String) : CallR X (.builtin "isinstance") (rIsT X.K T) := by
  intro pins s σ H xs us Q I r h
  obtain ⟨x, t, b, ex, ht, hb, q⟩ := h
  exact call_isi pins s σ H xs us Q I r ⟨_, _, _, _, _, ex, .ty _, .base ht, kit_ty hb, q⟩
/-- a comprehension without a test -/
theorem yes_ {σ : L2.St} {H : Hp} {A : Hp → Prop} {B : Hp → Prop} (h : A H) : tYes σ H fun b H3 => if b = true then A H3 else B H3 := by
  show (if true = true then A H else B H)
  rw [if_pos rfl]
  exact h
/-- as many slots as names -/
theorem takes_len {X : Cx} {W : WX} (tk : Takes X W) : Takes X (fun cls d σ H => σ.length = X.N.length → W cls d σ H) := fun u s' ⟨a, B, sI, pins, σ, H, cls, d, e, I, nb, up, sky, na, os, ag, w⟩ =>
  tk u s' ⟨a, B, sI, pins, σ, H, cls, d, e, I, nb, up, sky, na, os, ag, w I.len⟩
/-! ### walks -/
theorem walk_enumT {K : PySem.W.Frag} {a : Addr} {xs : List V} : Walk (IteT K a) xs.length (fun H => SqT K H a xs) (YPair (fun i => some (.int (i : Nat))) (fun i => xs[i]?)) := by
  refine ⟨fun i _ hi q => ⟨xs, xs[i], q, by simp [hi]⟩, fun _ q => ⟨xs, q, Nat.le_refl _⟩, fun i H v H' _ q y => ?_⟩
  obtain ⟨T, x, h1, h2, h3, h4⟩ := y
  exact ⟨T, .int (i : Nat), x, h1, h2, h3, rfl, h4 xs q⟩
/-! ### list.count of truth values -/
section
variable {X : Cx}
theorem countP_eqU {x : V} : ∀ {xs : List V} {us : List Value}, Vals xs us → xs.all flatV = true → us.countP (eqU x) = xs.countP fun y => eqV y x
  | _, _, .nil, _ => rfl
  | y :: xs, u :: us, .cons r t, f => by
    rw [List.all_cons, Bool.and_eq_true] at f
    rw [List.countP_cons, List.countP_cons, eqU_of r f.1, countP_eqU t f.2]
def rCount (K : PySem.W.Frag) : V → List V → Hp → VK → Prop := fun x xs H Q => ∃ (p : Addr) (ys : List V) (y : V), x = .ref p ∧ xs = [y] ∧ SqL K H p ys ∧ flatV y = true ∧ ys.all flatV = true ∧ Q (.int (ys.countP (fun z => eqV z y) : Nat)) H
theorem mt_lcountB : MtR X "list.count" (rCount X.K) := by
  intro pins s σ H x xs v us Q I rx rxs h
  obtain ⟨p, ys, y, rfl, rfl, hs, fy, fys, q⟩ := h
  cases rx
  cases rxs with
  | cons ry rt =>
    rename_i uy ut
    cases rt
    obtain ⟨its, rv, ⟨⟨cls, dd, data, sl⟩, n, ho, hc, hdn, hd⟩, hlen⟩ := I.list hs
    simp only at hc hd
    subst hc hd
    refine call_meets PySem.F.slot_list_count ⟨_, ho, rfl⟩ PySem.F.entry_list_count (PySem.F.args_list_count_2 _ _)
      (SeqAt.list_countAt p its.toArray n dd sl uy (eqU y)) ⟨ho, fun u' hu' => mem_eqAt ry fy rv fys u' (by simpa using hu'), ?_⟩
    have ec : its.toArray.toList.countP (eqU y) = ys.countP fun z => eqV z y := countP_eqU rv fys
    refine ⟨.int (ys.countP (fun z => eqV z y) : Nat), H, I.tok _, ⟨s.toks, ?_⟩, q⟩
    show Value.int ((its.toArray.toList.countP (eqU y) : Nat) : Int) s.toks = Value.int ((ys.countP (fun z => eqV z y) : Nat) : Int) s.toks
    rw [ec]
end
/-! ### the caught error, whatever it bears -/
/-- an own class of errors, as isinstance and the reading of a field ask for it -/
structure ErrC (K : PySem.W.Frag) (D : Addr) : Prop where
  cl : (PySem.W.clsIn K D).isSome = true
  ga : PySem.W.findIn K (.ref D) "__getattribute__" = some (some (.builtin "BaseException.__getattribute__"))
  gt : PySem.W.findIn K (.ref D) "__getattr__" = some none
  be : PySem.W.subIn K (.ref D) (.type "BaseException") = some true
  kc : PySem.W.findIn K (.ref D) "__class__" = some (some (.builtin "object.__class__"))
  sg : PySem.W.specialIn K (.builtin "object.__class__") "__get__" = some (some (.builtin "getset_descriptor.__get__"))
  tk : PySem.W.takesIn K (.builtin "object.__class__") = some true
  ob : PySem.W.mroIn K D (.type "object") = some true
  hd : PySem.W.hasDictIn K D = true
def errB (K : PySem.W.Frag) (D : Addr) : Bool :=
  (PySem.W.clsIn K D).isSome && (decide (PySem.W.findIn K (.ref D) "__getattribute__" = some (some (.builtin "BaseException.__getattribute__"))) && (decide (PySem.W.findIn K (.ref D) "__getattr__" = some none) &&
  (decide (PySem.W.subIn K (.ref D) (.type "BaseException") = some true) && (decide (PySem.W.findIn K (.ref D) "__class__" = some (some (.builtin "object.__class__"))) &&
  (decide (PySem.W.specialIn K (.builtin "object.__class__") "__get__" = some (some (.builtin "getset_descriptor.__get__"))) && (decide (PySem.W.takesIn K (.builtin "object.__class__") = some true) &&
  (decide (PySem.W.mroIn K D (.type "object") = some true) && PySem.W.hasDictIn K D)))))))
theorem errC_of {K : PySem.W.Frag} {D : Addr} (h : errB K D = true) : ErrC K D := by
  unfold errB at h
  simp only [Bool.and_eq_true, decide_eq_true_eq] at h
  obtain ⟨h1, h2, h3, h4, h5, h6, h7, h8, h9⟩ := h
  exact ⟨h1, h2, h3, h4, h5, h6, h7, h8, h9⟩
section
variable {X : Cx} {a : Addr} {cls : Value} {oe : Obj} {pn : List (Addr × Obj)} {d : Option Addr}
theorem err_inst {D : Addr} {h : Heap} (hz : Zc (.ref D) d oe) (hf : ∃ vs, oe.data = .fields vs) (hget : h.get? a = some oe) (hd : ∀ dd, d = some dd → ∃ od, h.get? dd = some od) : ∃ od, PySem.W.InstAt h a oe D od := by
  obtain ⟨oc, odd, oda, osl⟩ := oe
  obtain ⟨h1, h2⟩ := hz
  obtain ⟨vs, hv⟩ := hf
  dsimp only at h1 h2 hv
  subst h1 h2 hv
  cases odd with
  | none => exact ⟨none, hget, rfl, rfl, trivial⟩
  | some dd =>
    obtain ⟨od, ho⟩ := hd dd rfl
    exact ⟨some od, hget, rfl, rfl, ho⟩
/-- its dict stands, where it has one -/
def XdOk (d : Option Addr) (H : Hp) : Prop := ∀ dd, d = some dd → ∃ fs, H dd = some (.xd fs)
def rIsG (K : PySem.W.Frag) (a : Addr) (cls : Value) (d : Option Addr) : List V → Hp → VK → Prop := fun xs H Q =>
  ∃ (D : Addr) (c : V) (cv : Value) (b : Bool), cls = .ref D ∧ ErrC K D ∧ XdOk d H ∧ xs = [.ref a, c] ∧ (∀ u, RelV c u → u = cv) ∧ PySem.W.kitOne K (.ref D) cv = some b ∧ Q (.bl b) H
theorem call_isG (hz : Zc cls d oe) (hf : ∃ vs, oe.data = .fields vs) : CallR (X.suite a ((a, oe) :: pn)) (.builtin "isinstance") (rIsG X.K a cls d) := by
  intro pins s σ H xs us Q I r h
  obtain ⟨D, c, cv, b, ec, C, hx, rfl, hcv, e, q⟩ := h
  subst ec
  obtain ⟨u1, u2, rfl, r1, r2⟩ := vals2 r
  obtain rfl : u1 = Value.ref a := r1
  have e2 := hcv _ r2
  subst e2
  obtain ⟨hget, _⟩ := I.pin (a, oe) (List.mem_append_left _ List.mem_cons_self)
  obtain ⟨od, J⟩ := err_inst (h := s.heap) hz hf hget fun dd ed => by
    obtain ⟨fs, e⟩ := hx dd ed
    obtain ⟨mA, ⟨o, _, _, ho, _⟩, _⟩ := (show ObjOk X.prog X.w H s.heap dd (.xd fs) from I.hok dd _ e)
    exact ⟨o, ho⟩
  exact PySem.W.kia_one (PySem.W.kitx_exc C.cl C.ga C.gt C.be C.kc C.sg C.tk C.ob) I.kIn J e (fun z => nomatch z) fun tk => ⟨.bl b, H, I.kept (t' := tk) fun _ _ z => z, rfl, q⟩
/-- e.n, e the error that the suite holds -/
def tXg (K : PySem.W.Frag) (a : Addr) (cls : Value) (d : Option Addr) (n : Str) (te : TE) : TE := fun σ H Q => te σ H fun x H1 => x = .ref a ∧ ∃ (D dd : Addr) (fs : List (Str × V)) (v : V), cls = .ref D ∧ ErrC K D ∧ PySem.W.findIn K (.ref D) n = some none ∧ d = some dd ∧ H1 dd = some (.xd fs) ∧ fs.lookup n = some v ∧ Q v H1
theorem pe_xg {e : Expr} {te : TE} {pos : Pos} {n : Str} (hz : Zc cls d oe) (hf : ∃ vs, oe.data = .fields vs) (he : PE (X.suite a ((a, oe) :: pn)) e te) (hb : attributeBase e n X.env (eval e X.env) = eval e X.env := by rfl) :
    PE (X.suite a ((a, oe) :: pn)) (.Attribute e n pos) (tXg X.K a cls d n te) := by
  refine ⟨fun pins s σ H Q I h => attr_of hb (thn (he.run pins s σ H _ I h) fun u s1 hh => ?_)⟩
  obtain ⟨x, H1, I1, rx, ex, D, dd, fs, v, ec, C, hno, ed, ea, l, q⟩ := hh
  subst ex ec ed
  obtain rfl : u = Value.ref a := rx
  obtain ⟨ha, _⟩ := I1.pin (a, oe) (List.mem_append_left _ List.mem_cons_self)
  obtain ⟨vs, hd⟩ := hf
  obtain ⟨mA, hns, hr⟩ := (show ObjOk X.prog X.w H1 s1.heap dd (.xd fs) from I1.hok dd _ ea)
  obtain ⟨od, ho, hl⟩ := lookIn_ns hns
  obtain ⟨u, hu, ru⟩ := RelO.some_of (v := v) (o := mA n) (by rw [← l]; exact hr n)
  have J : PySem.W.InstAt s1.heap a oe D (some od) := ⟨ha, hz.1, by unfold PySem.W.notCls; rw [hd] <;> rfl, by rw [hz.2]; exact ho⟩
  exact HandSPX.exc_get I1.kIn J C.ga C.gt C.be (PySem.W.findObj_own C.hd hno rfl (by rw [hl, hu])) (handed_of ru) ⟨v, H1, I1.tok _, ru, q⟩
end
end Sc
namespace Sc
open PySem PySem.Spec PyProof.Rows L2 NdefX
/-! ### own errors with fields, made and raised -/
/-- what an f-string takes -/
def FOk : V → Prop
  | .int i => i.natAbs.log2 < 1920
  | .str z => z.length ≤ 1000000
  | _ => False
theorem fmt_at {y : V} {R : Str → Prop} (ok : FOk y) (q : ∀ z : Str, z.length ≤ 1000000 → R z) : (∃ z : Str, y = .str z ∧ z.length ≤ sizeLine ∧ R z) ∨ ∃ i : Int, y = .int i ∧ i.natAbs.log2 < 1920 ∧ R (toString i) := by
  cases y with
  | str z => exact .inl ⟨z, rfl, Nat.le_trans ok (by rw [sizeLine_eq]; decide), q z ok⟩
  | int i =>
    refine .inr ⟨i, rfl, ok, q _ ?_⟩
    have e : (PySem.Str.ofString (toString i)).length ≤ 1921 := int_text_len_1921 ok
    exact Nat.le_trans e (by decide)
  | _ => exact ok.elim
theorem fok_nat {i : Nat} (hi : i ≤ 1000) : FOk (.int (i : Nat)) := by
  show (i : Int).natAbs.log2 < 1920
  have e1 : (i : Int).natAbs = i := rfl
  rw [e1]
  by_cases h0 : i = 0
  · subst h0
    decide
  · have := (Nat.log2_lt h0 (k := 10)).mpr (Nat.lt_of_le_of_lt hi (by decide))
    omega
theorem app_len {a b : Str} : (a ++ b).length = a.length + b.length := by
  show (a.cps ++ b.cps).size = a.cps.size + b.cps.size
  exact Array.size_append
/-- a rule of arguments, its reading made monotone -/
theorem pa_mono {X : Cx} {es : List Expr} {ta : TA} (h : PA X es ta) : PA X es (fun σ H Q => ∃ R, ta σ H R ∧ ∀ vs H1, R vs H1 → Q vs H1) := by
  refine ⟨fun pos pins s σ H Q I ⟨R, q, k⟩ => wpAny_mono (h.run pos pins s σ H R I q) (fun us s1 ⟨vs, H1, J, r, z⟩ => ⟨vs, H1, J, r, k vs H1 z⟩) fun _ _ z => z⟩
/-- the promise of an __init__ that keeps its fields fs, in their order -/
def sp_init1 (C : Addr) (f : Str) : Sp := fun vs H Q _ => ∃ (a : Addr) (y : V), vs = [.ref a, y] ∧ H a = some (exo a C none) ∧ FOk y ∧ ∀ dx, H dx = none → dx ≠ a → Q .non (upd (upd H dx (exd dx [(f, y)])) a (exo a C (some dx)))
def sp_init2 (C : Addr) (f g : Str) : Sp := fun vs H Q _ => ∃ (a : Addr) (y z : V), vs = [.ref a, y, z] ∧ H a = some (exo a C none) ∧ FOk y ∧ FOk z ∧
  ∀ dx, H dx = none → dx ≠ a → Q .non (upd (upd (upd H dx (exd dx [(f, y)])) a (exo a C (some dx))) dx (exd dx [(g, z), (f, y)]))
/-- the class x at C, its __init__ keeping sp -/
structure ErrMk (P : Program) (w : World) (K : PySem.W.Frag) (mg : Str → Option Value) (base : Heap) (x : Str) (C : Addr) (ps : List Str) (sp : Sp) : Prop where
  ex : ∃ (fI : Addr) (fd : FuncData), OexC K C ∧ PySem.W.findIn K (.ref C) "__init__" = some (some (.ref fI)) ∧ PySem.W.typeIn K (.ref fI) = some (.type "function") ∧ FnOk P w K mg base CX0 1 fI fd ps sp ∧ Binds K fd ps [] ∧ mg x = some (.ref C)
theorem let_go {H : Hp} {a d : Addr} {o o' u : HO} (n : H a = none) (ne : d ≠ a) : upd (del (upd (upd H d u) a o) a) d o' = upd H d o' := by
  funext b
  by_cases hd : b = d
  · rw [hd, upd_same, upd_same]
  · rw [upd_ne hd, upd_ne hd]
    by_cases ha : b = a
    · rw [ha, del_same, n]
    · rw [del_ne ha, upd_ne ha, upd_ne hd]
section
variable {X : Cx} {x f g : Str} {C : Addr} {ps : List Str} {e e2 : Expr} {te te2 : TE} {p pos : Pos}
/-- x(e): an error whose own dict, new, holds the field -/
def tErr1 (C : Addr) (f : Str) (te : TE) : L2.St → Hp → XK → Prop := fun σ H Q => te σ H fun y H1 => FOk y ∧ ∀ d, H1 d = none → Q (.ref C) (some d) (upd H1 d (.xd [(f, y)]))
theorem pmk_err1 (M : ErrMk X.prog X.w X.K X.mg X.base x C ps (sp_init1 C f)) (hr : Room 2 X.A) (he : PE X e te) (hg : Gl X x := by rfl) (hdb : (x == ("__debug__" : Str)) = false := by decide)
    (hs : starEach [e] X.env = (false, eval e X.env) :: starEach [] X.env := by rfl) : PMk X (.Call (.Name x p) [e] [] pos) (tErr1 C f te) := by
  obtain ⟨fI, fd, T, iC, tI, F, hb, hm⟩ := M.ex
  intro pins s σ H Q I h
  refine pmk_oex (CX := CX0) T iC tI F hr hb .nil (fun _ _ _ _ _ _ _ z => z.elim) hg hm (pa_mono (pa_cons he pa_nil hs)) hdb hs rfl pins s σ H Q I ?_
  refine ⟨fun vs H1 => match vs with
    | [y] => FOk y ∧ ∀ d, H1 d = none → Q (.ref C) (some d) (upd H1 d (.xd [(f, y)]))
    | _ => False, h, fun vs H1 r => ?_⟩
  match vs, r with
  | [y], ⟨ok, q⟩ =>
    refine ⟨by simp, fun a na => ⟨a, y, rfl, upd_same, ok, fun dx nd ne => ⟨rfl, dx, _, upd_same, by rw [upd_ne ne, upd_same], ?_, ?_⟩⟩⟩
    · rw [upd_ne ne] at nd
      exact nd
    · rw [upd_ne ne] at nd
      have e1 : upd (upd (upd H1 a (exo a C none)) dx (exd dx [(f, y)])) a (exo a C (some dx)) = upd (upd H1 dx (exd dx [(f, y)])) a (exo a C (some dx)) := by
        funext b
        by_cases ha : b = a
        · rw [ha, upd_same, upd_same]
        · rw [upd_ne ha, upd_ne ha]
          by_cases hb : b = dx
          · rw [hb, upd_same, upd_same]
          · rw [upd_ne hb, upd_ne hb, upd_ne ha]
      rw [e1, let_go na ne]
      exact q dx nd
/-- x(e, e2): two fields -/
def tErr2 (C : Addr) (f g : Str) (te te2 : TE) : L2.St → Hp → XK → Prop := fun σ H Q => te σ H fun y H0 => te2 σ H0 fun z H1 => (FOk y ∧ FOk z) ∧ ∀ d, H1 d = none → Q (.ref C) (some d) (upd H1 d (.xd [(g, z), (f, y)]))
theorem pmk_err2 (M : ErrMk X.prog X.w X.K X.mg X.base x C ps (sp_init2 C f g)) (hr : Room 2 X.A) (he : PE X e te) (he2 : PE X e2 te2) (hg : Gl X x := by rfl) (hdb : (x == ("__debug__" : Str)) = false := by decide)
    (hs : starEach [e, e2] X.env = (false, eval e X.env) :: starEach [e2] X.env := by rfl) (hs2 : starEach [e2] X.env = (false, eval e2 X.env) :: starEach [] X.env := by rfl) (hpl : (backTo pos (starEach [e2] X.env)).any (·.1) = false := by rfl) :
    PMk X (.Call (.Name x p) [e, e2] [] pos) (tErr2 C f g te te2) := by
  obtain ⟨fI, fd, T, iC, tI, F, hb, hm⟩ := M.ex
  intro pins s σ H Q I h
  refine pmk_oex (CX := CX0) T iC tI F hr hb .nil (fun _ _ _ _ _ _ _ z => z.elim) hg hm (pa_mono (pa_cons he (pa_cons he2 pa_nil hs2) hs)) hdb hs hpl pins s σ H Q I ?_
  refine ⟨fun vs H1 => match vs with
    | [y, z] => (FOk y ∧ FOk z) ∧ ∀ d, H1 d = none → Q (.ref C) (some d) (upd H1 d (.xd [(g, z), (f, y)]))
    | _ => False, h, fun vs H1 r => ?_⟩
  match vs, r with
  | [y, z], ⟨⟨ok, ok2⟩, q⟩ =>
    refine ⟨by simp, fun a na => ⟨a, y, z, rfl, upd_same, ok, ok2, fun dx nd ne => ⟨rfl, dx, _, by rw [upd_ne ne.symm, upd_same], upd_same, ?_, ?_⟩⟩⟩
    · rw [upd_ne ne] at nd
      exact nd
    · rw [upd_ne ne] at nd
      have e1 : upd (del (upd (upd (upd (upd H1 a (exo a C none)) dx (exd dx [(f, y)])) a (exo a C (some dx))) dx (exd dx [(g, z), (f, y)])) a) dx (.xd [(g, z), (f, y)]) = upd H1 dx (.xd [(g, z), (f, y)]) := by
        funext b
        by_cases hb : b = dx
        · rw [hb, upd_same, upd_same]
        · rw [upd_ne hb, upd_ne hb]
          by_cases ha : b = a
          · rw [ha, del_same, na]
          · rw [del_ne ha, upd_ne hb, upd_ne ha, upd_ne hb, upd_ne ha]
      rw [e1]
      exact q dx nd
/-- the class x at C, without an __init__ of its own -/
structure ErrMk0 (K : PySem.W.Frag) (mg : Str → Option Value) (x : Str) (C : Addr) : Prop where
  q : PySem.W.excIn K C [.type "ValueError", .type "Exception", .type "BaseException", .type "object"] "ValueError.__new__" = true
  g : mg x = some (.ref C)
  k : PySem.W.keepIn K (.ref C) = true
  b : PySem.W.subIn K (.ref C) (.type "BaseException") = some true
  t : PySem.W.typeIn K (.ref C) = some (.type "type")
theorem pmk_err0 {m : Str} {j : Nat} {p2 : Pos} (M : ErrMk0 X.K X.mg x C) (hg : Gl X x := by rfl) (hdb : (x == ("__debug__" : Str)) = false := by decide) :
    PMk X (.Call (.Name x p) [.Constant (.str m) j p2] [] pos) (fun _ H Q => Q (.ref C) none H) := pmk_own PySem.F.excBase_ValueError M.q M.g M.k (raises_own M.b M.t) hg hdb
end
end Sc
namespace Sc
open PySem PySem.Spec PyProof.Rows L2 NdefX
section
variable {P : Program} {w : World} {K : PySem.W.Frag} {mg : Str → Option Value} {base : Heap}
theorem sc_init_InvalidFacts : NScope ["self", "index", "__class__"] ["self", "index"] ["__class__"] (defScope (inClass (topS 4) 0)) := nscope_by (by decide +kernel)
theorem ok_init_InvalidFacts {fI C cc c : Addr} {oc kV doc pm ct : Value} {od an : Option Addr} {osl : Array (Option Value)} (lk : K.lookup fI = some ⟨oc, od, .func (supFd (nf_InvalidFacts cc c) kV doc pm an ct), osl⟩)
    (hcd : PySem.W.codeIn K (.ref c) "InvalidFacts.__init__" = true) (T : OexC K C) (S : SupC P K mg C cc c) (n0 : PySem.W.findIn K (.ref C) "index" = some none) : FnOk P w K mg base CX0 1 fI (supFd (nf_InvalidFacts cc c) kV doc pm an ct) ["self", "index"] (sp_init1 C "index") := by
  refine fn_sup (N := ["self", "index", "__class__"]) (ps := ["self", "index"]) lk hcd rfl sc_init_InvalidFacts T S (fun vs H Q E h => ?_) rfl rfl rfl rfl rfl (fun A outer s H vs Q E hr h => ?_) (fun L => ⟨_, rfl⟩) (fun L => rfl) (fun L => rfl) (fun L => rfl) (fun L => rfl)
  · obtain ⟨a, y0, rfl, ha, ok0, q⟩ := h
    rfl
  · obtain ⟨a, y0, rfl, ha, ok0, q⟩ := h
    refine ⟨_, _, pa_cons (pe_joined (PJ.cons pe_str (PJ.cons (pe_fmt (pv 1)) PJ.nil))) pa_nil, pss_one (ps_ost (pv 0) (pv 1)), a, rfl, ha, ?_⟩
    refine ⟨_, rfl, (by rw [sizeLine_eq]; simp only [app_len]; have e0 : Str.empty.length = 0 := rfl; have e1 : (("wrong fact at index " : Str)).length = 20 := (by decide +kernel); omega), ⟨y0, rfl, fmt_at ok0 fun z0 hz0 => ⟨_, rfl, (by rw [sizeLine_eq]; simp only [app_len]; have e0 : Str.empty.length = 0 := rfl; have e1 : (("wrong fact at index " : Str)).length = 20 := (by decide +kernel); omega), ⟨by simp, ha, y0, rfl, .ref a, rfl, a, C, rfl, T, n0, .inl ⟨ha, fun dx nd ne => q dx nd ne⟩⟩⟩⟩⟩

theorem sc_init_InvalidCase : NScope ["self", "index", "__class__"] ["self", "index"] ["__class__"] (defScope (inClass (topS 5) 0)) := nscope_by (by decide +kernel)
theorem ok_init_InvalidCase {fI C cc c : Addr} {oc kV doc pm ct : Value} {od an : Option Addr} {osl : Array (Option Value)} (lk : K.lookup fI = some ⟨oc, od, .func (supFd (nf_InvalidCase cc c) kV doc pm an ct), osl⟩)
    (hcd : PySem.W.codeIn K (.ref c) "InvalidCase.__init__" = true) (T : OexC K C) (S : SupC P K mg C cc c) (n0 : PySem.W.findIn K (.ref C) "index" = some none) : FnOk P w K mg base CX0 1 fI (supFd (nf_InvalidCase cc c) kV doc pm an ct) ["self", "index"] (sp_init1 C "index") := by
  refine fn_sup (N := ["self", "index", "__class__"]) (ps := ["self", "index"]) lk hcd rfl sc_init_InvalidCase T S (fun vs H Q E h => ?_) rfl rfl rfl rfl rfl (fun A outer s H vs Q E hr h => ?_) (fun L => ⟨_, rfl⟩) (fun L => rfl) (fun L => rfl) (fun L => rfl) (fun L => rfl)
  · obtain ⟨a, y0, rfl, ha, ok0, q⟩ := h
    rfl
  · obtain ⟨a, y0, rfl, ha, ok0, q⟩ := h
    refine ⟨_, _, pa_cons (pe_joined (PJ.cons pe_str (PJ.cons (pe_fmt (pv 1)) PJ.nil))) pa_nil, pss_one (ps_ost (pv 0) (pv 1)), a, rfl, ha, ?_⟩
    refine ⟨_, rfl, (by rw [sizeLine_eq]; simp only [app_len]; have e0 : Str.empty.length = 0 := rfl; have e1 : (("wrong name in the case at index " : Str)).length = 32 := (by decide +kernel); omega), ⟨y0, rfl, fmt_at ok0 fun z0 hz0 => ⟨_, rfl, (by rw [sizeLine_eq]; simp only [app_len]; have e0 : Str.empty.length = 0 := rfl; have e1 : (("wrong name in the case at index " : Str)).length = 32 := (by decide +kernel); omega), ⟨by simp, ha, y0, rfl, .ref a, rfl, a, C, rfl, T, n0, .inl ⟨ha, fun dx nd ne => q dx nd ne⟩⟩⟩⟩⟩

theorem sc_init_InvalidCondition : NScope ["self", "part", "index", "__class__"] ["self", "part", "index"] ["__class__"] (defScope (inClass (topS 6) 0)) := nscope_by (by decide +kernel)
theorem ok_init_InvalidCondition {fI C cc c : Addr} {oc kV doc pm ct : Value} {od an : Option Addr} {osl : Array (Option Value)} (lk : K.lookup fI = some ⟨oc, od, .func (supFd (nf_InvalidCondition cc c) kV doc pm an ct), osl⟩)
    (hcd : PySem.W.codeIn K (.ref c) "InvalidCondition.__init__" = true) (T : OexC K C) (S : SupC P K mg C cc c) (n0 : PySem.W.findIn K (.ref C) "part" = some none) (n1 : PySem.W.findIn K (.ref C) "index" = some none) : FnOk P w K mg base CX0 1 fI (supFd (nf_InvalidCondition cc c) kV doc pm an ct) ["self", "part", "index"] (sp_init2 C "part" "index") := by
  refine fn_sup (N := ["self", "part", "index", "__class__"]) (ps := ["self", "part", "index"]) lk hcd rfl sc_init_InvalidCondition T S (fun vs H Q E h => ?_) rfl rfl rfl rfl rfl (fun A outer s H vs Q E hr h => ?_) (fun L => ⟨_, rfl⟩) (fun L => rfl) (fun L => rfl) (fun L => rfl) (fun L => rfl)
  · obtain ⟨a, y0, y1, rfl, ha, ok0, ok1, q⟩ := h
    rfl
  · obtain ⟨a, y0, y1, rfl, ha, ok0, ok1, q⟩ := h
    refine ⟨_, _, pa_cons (pe_joined (PJ.cons pe_str (PJ.cons (pe_fmt (pv 1)) (PJ.cons pe_str (PJ.cons (pe_fmt (pv 2)) PJ.nil))))) pa_nil, pss_cons (ps_ost (pv 0) (pv 1)) (pss_one (ps_ost (pv 0) (pv 2))), a, rfl, ha, ?_⟩
    refine ⟨_, rfl, (by rw [sizeLine_eq]; simp only [app_len]; have e0 : Str.empty.length = 0 := rfl; have e1 : (("wrong name in part " : Str)).length = 19 := (by decide +kernel); have e2 : ((" of the condition at index " : Str)).length = 27 := (by decide +kernel); omega), ⟨y0, rfl, fmt_at ok0 fun z0 hz0 => ⟨_, rfl, (by rw [sizeLine_eq]; simp only [app_len]; have e0 : Str.empty.length = 0 := rfl; have e1 : (("wrong name in part " : Str)).length = 19 := (by decide +kernel); have e2 : ((" of the condition at index " : Str)).length = 27 := (by decide +kernel); omega), ⟨_, rfl, (by rw [sizeLine_eq]; simp only [app_len]; have e0 : Str.empty.length = 0 := rfl; have e1 : (("wrong name in part " : Str)).length = 19 := (by decide +kernel); have e2 : ((" of the condition at index " : Str)).length = 27 := (by decide +kernel); omega), ⟨y1, rfl, fmt_at ok1 fun z1 hz1 => ⟨_, rfl, (by rw [sizeLine_eq]; simp only [app_len]; have e0 : Str.empty.length = 0 := rfl; have e1 : (("wrong name in part " : Str)).length = 19 := (by decide +kernel); have e2 : ((" of the condition at index " : Str)).length = 27 := (by decide +kernel); omega), ⟨by simp, ha, y0, rfl, .ref a, rfl, a, C, rfl, T, n0, .inl ⟨ha, fun dx nd ne => ⟨y1, rfl, .ref a, rfl, a, C, rfl, T, n1, .inr ⟨dx, _, upd_same, by rw [upd_ne ne, upd_same], by simp, q dx nd ne⟩⟩⟩⟩⟩⟩⟩⟩⟩⟩

theorem sc_init_InvalidRule : NScope ["self", "part", "__class__"] ["self", "part"] ["__class__"] (defScope (inClass (topS 8) 0)) := nscope_by (by decide +kernel)
theorem ok_init_InvalidRule {fI C cc c : Addr} {oc kV doc pm ct : Value} {od an : Option Addr} {osl : Array (Option Value)} (lk : K.lookup fI = some ⟨oc, od, .func (supFd (nf_InvalidRule cc c) kV doc pm an ct), osl⟩)
    (hcd : PySem.W.codeIn K (.ref c) "InvalidRule.__init__" = true) (T : OexC K C) (S : SupC P K mg C cc c) (n0 : PySem.W.findIn K (.ref C) "part" = some none) : FnOk P w K mg base CX0 1 fI (supFd (nf_InvalidRule cc c) kV doc pm an ct) ["self", "part"] (sp_init1 C "part") := by
  refine fn_sup (N := ["self", "part", "__class__"]) (ps := ["self", "part"]) lk hcd rfl sc_init_InvalidRule T S (fun vs H Q E h => ?_) rfl rfl rfl rfl rfl (fun A outer s H vs Q E hr h => ?_) (fun L => ⟨_, rfl⟩) (fun L => rfl) (fun L => rfl) (fun L => rfl) (fun L => rfl)
  · obtain ⟨a, y0, rfl, ha, ok0, q⟩ := h
    rfl
  · obtain ⟨a, y0, rfl, ha, ok0, q⟩ := h
    refine ⟨_, _, pa_cons (pe_joined (PJ.cons pe_str (PJ.cons (pe_fmt (pv 1)) (PJ.cons pe_str PJ.nil)))) pa_nil, pss_one (ps_ost (pv 0) (pv 1)), a, rfl, ha, ?_⟩
    refine ⟨_, rfl, (by rw [sizeLine_eq]; simp only [app_len]; have e0 : Str.empty.length = 0 := rfl; have e1 : (("wrong " : Str)).length = 6 := (by decide +kernel); have e2 : ((" of a rule" : Str)).length = 10 := (by decide +kernel); omega), ⟨y0, rfl, fmt_at ok0 fun z0 hz0 => ⟨_, rfl, (by rw [sizeLine_eq]; simp only [app_len]; have e0 : Str.empty.length = 0 := rfl; have e1 : (("wrong " : Str)).length = 6 := (by decide +kernel); have e2 : ((" of a rule" : Str)).length = 10 := (by decide +kernel); omega), ⟨_, rfl, (by rw [sizeLine_eq]; simp only [app_len]; have e0 : Str.empty.length = 0 := rfl; have e1 : (("wrong " : Str)).length = 6 := (by decide +kernel); have e2 : ((" of a rule" : Str)).length = 10 := (by decide +kernel); omega), ⟨by simp, ha, y0, rfl, .ref a, rfl, a, C, rfl, T, n0, .inl ⟨ha, fun dx nd ne => q dx nd ne⟩⟩⟩⟩⟩⟩

theorem sc_init_InvalidBook : NScope ["self", "word", "index", "__class__"] ["self", "word", "index"] ["__class__"] (defScope (inClass (topS 9) 0)) := nscope_by (by decide +kernel)
theorem ok_init_InvalidBook {fI C cc c : Addr} {oc kV doc pm ct : Value} {od an : Option Addr} {osl : Array (Option Value)} (lk : K.lookup fI = some ⟨oc, od, .func (supFd (nf_InvalidBook cc c) kV doc pm an ct), osl⟩)
    (hcd : PySem.W.codeIn K (.ref c) "InvalidBook.__init__" = true) (T : OexC K C) (S : SupC P K mg C cc c) (n0 : PySem.W.findIn K (.ref C) "word" = some none) (n1 : PySem.W.findIn K (.ref C) "index" = some none) : FnOk P w K mg base CX0 1 fI (supFd (nf_InvalidBook cc c) kV doc pm an ct) ["self", "word", "index"] (sp_init2 C "word" "index") := by
  refine fn_sup (N := ["self", "word", "index", "__class__"]) (ps := ["self", "word", "index"]) lk hcd rfl sc_init_InvalidBook T S (fun vs H Q E h => ?_) rfl rfl rfl rfl rfl (fun A outer s H vs Q E hr h => ?_) (fun L => ⟨_, rfl⟩) (fun L => rfl) (fun L => rfl) (fun L => rfl) (fun L => rfl)
  · obtain ⟨a, y0, y1, rfl, ha, ok0, ok1, q⟩ := h
    rfl
  · obtain ⟨a, y0, y1, rfl, ha, ok0, ok1, q⟩ := h
    refine ⟨_, _, pa_cons (pe_joined (PJ.cons pe_str (PJ.cons (pe_fmt (pv 1)) (PJ.cons pe_str (PJ.cons (pe_fmt (pv 2)) PJ.nil))))) pa_nil, pss_cons (ps_ost (pv 0) (pv 1)) (pss_one (ps_ost (pv 0) (pv 2))), a, rfl, ha, ?_⟩
    refine ⟨_, rfl, (by rw [sizeLine_eq]; simp only [app_len]; have e0 : Str.empty.length = 0 := rfl; have e1 : (("wrong book by " : Str)).length = 14 := (by decide +kernel); have e2 : ((" at index " : Str)).length = 10 := (by decide +kernel); omega), ⟨y0, rfl, fmt_at ok0 fun z0 hz0 => ⟨_, rfl, (by rw [sizeLine_eq]; simp only [app_len]; have e0 : Str.empty.length = 0 := rfl; have e1 : (("wrong book by " : Str)).length = 14 := (by decide +kernel); have e2 : ((" at index " : Str)).length = 10 := (by decide +kernel); omega), ⟨_, rfl, (by rw [sizeLine_eq]; simp only [app_len]; have e0 : Str.empty.length = 0 := rfl; have e1 : (("wrong book by " : Str)).length = 14 := (by decide +kernel); have e2 : ((" at index " : Str)).length = 10 := (by decide +kernel); omega), ⟨y1, rfl, fmt_at ok1 fun z1 hz1 => ⟨_, rfl, (by rw [sizeLine_eq]; simp only [app_len]; have e0 : Str.empty.length = 0 := rfl; have e1 : (("wrong book by " : Str)).length = 14 := (by decide +kernel); have e2 : ((" at index " : Str)).length = 10 := (by decide +kernel); omega), ⟨by simp, ha, y0, rfl, .ref a, rfl, a, C, rfl, T, n0, .inl ⟨ha, fun dx nd ne => ⟨y1, rfl, .ref a, rfl, a, C, rfl, T, n1, .inr ⟨dx, _, upd_same, by rw [upd_ne ne, upd_same], by simp, q dx nd ne⟩⟩⟩⟩⟩⟩⟩⟩⟩⟩

theorem sc_init_InvalidSpan : NScope ["self", "rule_name", "__class__"] ["self", "rule_name"] ["__class__"] (defScope (inClass (topS 12) 0)) := nscope_by (by decide +kernel)
theorem ok_init_InvalidSpan {fI C cc c : Addr} {oc kV doc pm ct : Value} {od an : Option Addr} {osl : Array (Option Value)} (lk : K.lookup fI = some ⟨oc, od, .func (supFd (nf_InvalidSpan cc c) kV doc pm an ct), osl⟩)
    (hcd : PySem.W.codeIn K (.ref c) "InvalidSpan.__init__" = true) (T : OexC K C) (S : SupC P K mg C cc c) (n0 : PySem.W.findIn K (.ref C) "rule_name" = some none) : FnOk P w K mg base CX0 1 fI (supFd (nf_InvalidSpan cc c) kV doc pm an ct) ["self", "rule_name"] (sp_init1 C "rule_name") := by
  refine fn_sup (N := ["self", "rule_name", "__class__"]) (ps := ["self", "rule_name"]) lk hcd rfl sc_init_InvalidSpan T S (fun vs H Q E h => ?_) rfl rfl rfl rfl rfl (fun A outer s H vs Q E hr h => ?_) (fun L => ⟨_, rfl⟩) (fun L => rfl) (fun L => rfl) (fun L => rfl) (fun L => rfl)
  · obtain ⟨a, y0, rfl, ha, ok0, q⟩ := h
    rfl
  · obtain ⟨a, y0, rfl, ha, ok0, q⟩ := h
    refine ⟨_, _, pa_cons (pe_joined (PJ.cons pe_str (PJ.cons (pe_fmt (pv 1)) PJ.nil))) pa_nil, pss_one (ps_ost (pv 0) (pv 1)), a, rfl, ha, ?_⟩
    refine ⟨_, rfl, (by rw [sizeLine_eq]; simp only [app_len]; have e0 : Str.empty.length = 0 := rfl; have e1 : (("wrong span of " : Str)).length = 14 := (by decide +kernel); omega), ⟨y0, rfl, fmt_at ok0 fun z0 hz0 => ⟨_, rfl, (by rw [sizeLine_eq]; simp only [app_len]; have e0 : Str.empty.length = 0 := rfl; have e1 : (("wrong span of " : Str)).length = 14 := (by decide +kernel); omega), ⟨by simp, ha, y0, rfl, .ref a, rfl, a, C, rfl, T, n0, .inl ⟨ha, fun dx nd ne => q dx nd ne⟩⟩⟩⟩⟩

end
end Sc
namespace Sc
open PySem PySem.Spec PyProof.Rows L2
/-! ### names -/
theorem sc_is_name : FnScope ["value", "letter"] ["value"] (defScope s_is_name) := ⟨rfl, rfl, rfl, by decide +kernel, rfl, by decide +kernel, by decide +kernel⟩
theorem sc_is_integer : FnScope ["value"] ["value"] (defScope s_is_integer) := ⟨rfl, rfl, rfl, by decide +kernel, rfl, by decide +kernel, by decide +kernel⟩
theorem sc_rises : FnScope ["names", "index"] ["names", "index"] (defScope s_rises) := ⟨rfl, rfl, rfl, by decide +kernel, rfl, by decide +kernel, by decide +kernel⟩
def isLetters (x : Str) : Bool := x.cps.toList.all fun c => decide (c ∈ letters.cps.toList)
def isName (x : Str) : Bool := decide (1 ≤ x.length) && (decide (x.length ≤ 8) && isLetters x)
def isLetterV (c : Nat) : V := .bl (decide (c ∈ letters.cps.toList))
structure GNames (mg : Str → Option Value) : Prop where
  m_LETTERS : ∃ t, mg "LETTERS" = some (.str letters t)
  m_LONGEST : ∃ t, mg "LONGEST_NAME" = some (.int 8 t)
section
variable {P : Program} {w : World} {K : PySem.W.Frag} {mg : Str → Option Value} {base : Heap}
def sp_is_name : Sp := fun vs H Q _ => ∃ x : Str, vs = [.str x] ∧ x.length ≤ sizeLine ∧ ∀ H', Same H H' → Q (.bl (isName x)) H'
theorem ok_is_name {f : Addr} {fd : FuncData} (F : Fun K "is_name" "is_name" s_is_name f fd) (B : Blt mg) (G : GNames mg) : FnOk P w K mg base CX0 1 f fd ["value"] sp_is_name := by
  obtain ⟨⟨t1, mL⟩, ⟨t2, mN⟩⟩ := G
  refine F.ok sc_is_name (fun vs H Q E h => by obtain ⟨x, rfl, _⟩ := h; rfl) (fun cdv A outer s H vs Q E hr h => ?_)
  obtain ⟨x, rfl, hx, q⟩ := h
  refine ⟨_, (pss_cons (ps_if (PW.pt (pw_or (pt_not (pt_val (pe_callB (call_isT "str") (by rfl) B.b_isinstance PyProof.Rows.boot_isinstance (pa_cons (pv 0) (pa_cons (pe_bltn (v := .ty "str") (by rfl) B.b_str PyProof.Rows.boot_str rfl) pa_nil))))) (pw_or1 (pt_not (pt_chain op_le op_le pe_int (pe_callB call_len_str (by rfl) B.b_len PySem.boot_len (pa_cons (pv 0) pa_nil)) (pe_glob (v := .int 8) rfl mN ⟨_, rfl⟩)))))) (pss_one (ps_ret pe_bl)) pss_nil)
      (pss_one (ps_ret (pe_callB (cr_all rfl) (by rfl) B.b_all PyProof.Rows.boot_all (pa_cons (pe_lc (own := [("letter", 1)]) (g := gName 1) (tt := tYes) rfl sc_is_name.nd (pi_str (pv 0)) (blkOk_by (own := [("letter", 1)]) (N := ["value", "letter"]) (sc := defScope s_is_name) (by decide +kernel)) (fun _ _ _ _ _ => (pg_name (i := 1) sc_is_name.nd rfl (Or.inl rfl))) (fun _ _ _ _ _ => pts_nil) (fun _ _ _ _ _ => (pe_.re (pe_cmpR op_in_sign (pv 1) (pe_glob (v := .str "abcdefghijklmnopqrstuvwxyz") rfl mL ⟨_, rfl⟩) rfl) (by first | (dsimp only [Cx.blk]; done) | exact rfl)))) pa_nil))))), ?_⟩
  refine ⟨.str x, rfl, _, "str", true, rfl, .str _, by decide +kernel, _, rfl, iteF ?_⟩
  refine ⟨.str x, rfl, x, rfl, hx, 1, x.length, rfl, rfl, _, rfl, bcase (fun h1 => ?_) (fun h1 => ?_)⟩
  · refine ⟨_, _, rfl, rfl, _, rfl, ?_⟩
    have h1 : 1 ≤ x.length := by have := of_decide_eq_true h1; omega
    by_cases h2 : x.length ≤ 8
    · have e2 : decide ((x.length : Int) ≤ 8) = true := decide_eq_true (by omega)
      rw [e2]
      refine iteF ?_
      refine ⟨.str x, rfl, x, rfl, fun D nD => lc_it walk_str (fun i H' => Same H H' ∧ H' D = some (.lst ((x.cps.toList.take i).map isLetterV))) ⟨(Same.refl H).put nD, upd_same⟩ (fun _ _ _ _ => trivial) ?_ ?_⟩
      · rintro i y H2 H3 hi ⟨s, e⟩ ⟨rfl, c, hc, rfl⟩
        refine ⟨rfl, yes_ ⟨_, rfl, c, letters, rfl, rfl, grow (acc := fun i => .map isLetterV (x.cps.toList.take i)) nD s e ?_ ?_⟩⟩
        · rw [List.length_map, List.length_take]
          exact small1000 (by have : x.cps.toList.length = x.length := rfl; omega)
        · show List.map _ _ = _
          rw [take_more (x := c) (by rw [Array.getElem?_toList]; exact hc), List.map_append]
          rfl
      · rintro H2 ⟨s, e⟩
        have el : x.cps.toList.take x.cps.size = x.cps.toList := List.take_of_length_le (by rw [Array.length_toList]; exact Nat.le_refl _)
        rw [el] at e
        refine ⟨D, x.cps.toList.map fun c => decide (c ∈ letters.cps.toList), rfl, sqL_of (by rw [e, List.map_map]; rfl), ?_⟩
        have ea : isName x = (x.cps.toList.map fun c => decide (c ∈ letters.cps.toList)).all id := by
          unfold isName isLetters
          rw [decide_eq_true h1, decide_eq_true h2, Bool.true_and, Bool.true_and, List.all_map]
          rfl
        rw [← ea]
        exact q H2 s
    · have e2 : decide ((x.length : Int) ≤ 8) = false := decide_eq_false (by omega)
      rw [e2]
      refine iteT ?_
      have e : isName x = false := by unfold isName; rw [decide_eq_false h2, Bool.false_and, Bool.and_false]
      rw [← e]
      exact q H (Same.refl H)
  · have h1 : ¬ 1 ≤ x.length := by have := of_decide_eq_false h1; omega
    refine ⟨_, rfl, iteT ?_⟩
    have e : isName x = false := by unfold isName; rw [decide_eq_false h1, Bool.false_and]
    rw [← e]
    exact q H (Same.refl H)
/-- any value of a built-in kind -/
def sp_is_integer (K : PySem.W.Frag) : Sp := fun vs H Q _ => ∃ (x : V) (t : String) (b c : Bool), vs = [x] ∧ TyOf K H x (.type t) ∧ kitB t "int" = some b ∧ kitB t "bool" = some c ∧ Q (.bl (b && !c)) H
theorem ok_is_integer {f : Addr} {fd : FuncData} (F : Fun K "is_integer" "is_integer" s_is_integer f fd) (B : Blt mg) : FnOk P w K mg base CX0 1 f fd ["value"] (sp_is_integer K) := by
  refine F.ok sc_is_integer (fun vs H Q E h => by obtain ⟨x, _, _, _, rfl, _⟩ := h; rfl) (fun cdv A outer s H vs Q E hr h => ?_)
  obtain ⟨x, t, b, c, rfl, ht, hb, hc, q⟩ := h
  refine ⟨_, (pss_one (ps_ret (pe_and (pe_callB (call_isT "int") (by rfl) B.b_isinstance PyProof.Rows.boot_isinstance (pa_cons (pv 0) (pa_cons (pe_bltn (v := .ty "int") (by rfl) B.b_int PyProof.Rows.boot_int rfl) pa_nil))) (pe_one (pe_not (pe_callB (call_isT "bool") (by rfl) B.b_isinstance PyProof.Rows.boot_isinstance (pa_cons (pv 0) (pa_cons (pe_bltn (v := .ty "bool") (by rfl) B.b_bool PyProof.Rows.boot_bool rfl) pa_nil)))))))), ?_⟩
  refine ⟨x, rfl, x, t, b, rfl, ht, hb, b, rfl, bcase (fun e => ?_) (fun e => ?_)⟩
  · subst e
    exact ⟨x, rfl, x, t, c, rfl, ht, hc, c, rfl, q⟩
  · subst e
    exact q
/-- does the i-th name come behind the one before it -/
def risesAt (xs : List Str) (i : Nat) : Bool := decide (i = 0) || match xs[i - 1]?, xs[i]? with
  | some a, some b => decide (a.cps.toList < b.cps.toList)
  | _, _ => false
def sp_rises (K : PySem.W.Frag) : Sp := fun vs H Q _ => ∃ (a : Addr) (xs : List Str) (i : Nat), vs = [.ref a, .int i] ∧ SqT K H a (xs.map V.str) ∧ i < xs.length ∧ Q (.bl (risesAt xs i)) H
theorem ok_rises {f : Addr} {fd : FuncData} (F : Fun K "rises" "rises" s_rises f fd) : FnOk P w K mg base CX0 1 f fd ["names", "index"] (sp_rises K) := by
  refine F.ok sc_rises (fun vs H Q E h => by obtain ⟨a, xs, i, rfl, _⟩ := h; rfl) (fun cdv A outer s H vs Q E hr h => ?_)
  obtain ⟨a, xs, i, rfl, hS, hi, q⟩ := h
  refine ⟨_, (pss_one (ps_ret (pe_or (pe_cmpR op_eq (pv 1) pe_int (nomark _)) (pe_one (pe_cmpR op_lt_str (pe_ix ix_tup (pv 0) (pe_op op_sub (pv 1) pe_int) (fun _ _ => rfl)) (pe_ix ix_tup (pv 0) (pv 1) (fun _ _ => rfl)) (nomark _)))))), ?_⟩
  refine ⟨_, rfl, rfl, _, rfl, bcase (fun e => ?_) (fun e => ?_)⟩
  · have e0 : i = 0 := by have := V.int.inj (of_decide_eq_true e); omega
    have er : risesAt xs i = true := by unfold risesAt; rw [decide_eq_true e0, Bool.true_or]
    rw [er] at q
    exact q
  · have e0 : i ≠ 0 := fun z => by subst z; exact Bool.noConfusion (e.symm.trans (decide_eq_true rfl))
    have h1 : i - 1 < xs.length := by omega
    have g1 : (xs.map V.str)[i - 1]? = some (.str xs[i - 1]) := by rw [List.getElem?_map, List.getElem?_eq_getElem h1]; rfl
    have g2 : (xs.map V.str)[i]? = some (.str xs[i]) := by rw [List.getElem?_map, List.getElem?_eq_getElem hi]; rfl
    refine ⟨.ref a, rfl, .int i, rfl, i, 1, rfl, rfl, a, _, _, _, rfl, rfl, hS, at_of (j := i - 1) (by omega) g1, .ref a, rfl, .int i, rfl, a, _, _, _, rfl, rfl, hS, at_of rfl g2, xs[i - 1], xs[i], rfl, rfl, ?_⟩
    have er : risesAt xs i = decide (xs[i - 1].cps.toList < xs[i].cps.toList) := by
      unfold risesAt
      rw [decide_eq_false e0, Bool.false_or, List.getElem?_eq_getElem h1, List.getElem?_eq_getElem hi]
    rw [← er]
    exact q
end
end Sc
namespace Sc
open PySem PySem.Spec PyProof.Rows L2
/-! ### the law's draws -/
theorem sc__law_mix : FnScope ["_law_script", "_law_seed", "_law_state", "_law_cell"] ["_law_script", "_law_seed"] (defScope s__law_mix) := ⟨rfl, rfl, rfl, by decide +kernel, rfl, by decide +kernel, by decide +kernel⟩
theorem sc__law_next : FnScope ["_law_h", "_law_limit", "_law_cell"] ["_law_h", "_law_limit"] (defScope s__law_next) := ⟨rfl, rfl, rfl, by decide +kernel, rfl, by decide +kernel, by decide +kernel⟩
theorem sc__law_facts : FnScope ["_law_h", "_law_most", "_law_some", "_law_many"] ["_law_h", "_law_most"] (defScope s__law_facts) := ⟨rfl, rfl, rfl, by decide +kernel, rfl, by decide +kernel, by decide +kernel⟩
theorem sc__law_alike : FnScope ["_law_found", "_law_due", "_law_k"] ["_law_found", "_law_due"] (defScope s__law_alike) := ⟨rfl, rfl, rfl, by decide +kernel, rfl, by decide +kernel, by decide +kernel⟩
def twelve : List Str := ["age", "bad", "cold", "dear", "early", "first", "good", "hot", "idle", "just", "keen", "late"]
/-- the state of the draws: a list at a, its cells at l -/
def RS (H : Hp) (a l : Addr) : Prop := ∃ (st k : Int) (ns : List Int), H a = some (.lst [.int st, .ref l, .int k]) ∧ H l = some (.lst (ns.map V.int)) ∧ 0 ≤ st ∧ st < 2147483647 ∧ ns.length ≤ 63 ∧ ∀ z ∈ ns, Builtin.Int.intBits z ≤ 1048576
/-- all but the draws' state stands -/
structure Kp (a l : Addr) (H H' : Hp) : Prop where
  old : RS H a l
  new : RS H' a l
  keep : ∀ b o, b ≠ a → b ≠ l → H b = some o → H' b = some o
section
variable {P : Program} {w : World} {K : PySem.W.Frag} {mg : Str → Option Value} {base : Heap} {a l : Addr} {H H' H'' : Hp}
theorem RS.ne (r : RS H a l) : a ≠ l := fun z => by
  obtain ⟨st, k, ns, h1, h2, _⟩ := r
  subst z
  rw [h1] at h2
  have e := HO.lst.inj (Option.some.inj h2)
  match ns, e with
  | [x, y, z], e => cases (List.cons.inj (List.cons.inj e).2).1
theorem RS.same (r : RS H a l) (s : Same H H') : RS H' a l := by
  obtain ⟨st, k, ns, h1, h2, q⟩ := r
  exact ⟨st, k, ns, s _ _ h1, s _ _ h2, q⟩
theorem Kp.refl (r : RS H a l) : Kp a l H H := ⟨r, r, fun _ _ _ _ e => e⟩
theorem Kp.trans (k : Kp a l H H') (k' : Kp a l H' H'') : Kp a l H H'' := ⟨k.old, k'.new, fun b o n1 n2 e => k'.keep b o n1 n2 (k.keep b o n1 n2 e)⟩
theorem Kp.of (r : RS H a l) (s : Same H H') : Kp a l H H' := ⟨r, r.same s, fun b o _ _ e => s b o e⟩
theorem Kp.same (k : Kp a l H H') (s : Same H' H'') : Kp a l H H'' := k.trans (.of k.new s)
theorem RS.no {b : Addr} (r : RS H a l) (e : H b = none) : b ≠ a ∧ b ≠ l := by
  obtain ⟨st, k, ns, h1, h2, _⟩ := r
  exact ⟨fun z => (by rw [z, h1] at e; cases e), fun z => (by rw [z, h2] at e; cases e)⟩
theorem RS.not {b : Addr} {o : HO} (r : RS H a l) (e : H b = some o) (n : ∀ xs, o ≠ .lst xs) : b ≠ a ∧ b ≠ l := by
  obtain ⟨st, k, ns, h1, h2, _⟩ := r
  exact ⟨fun z => (by rw [z, h1] at e; exact n _ (Option.some.inj e).symm), fun z => (by rw [z, h2] at e; exact n _ (Option.some.inj e).symm)⟩
theorem Kp.free {b : Addr} (k : Kp a l H H') (e : H' b = none) : H b = none := by
  cases q : H b with
  | none => rfl
  | some o =>
    obtain ⟨n1, n2⟩ := k.new.no e
    rw [k.keep b o n1 n2 q] at e
    cases e
theorem Kp.put {p : Addr} {o : HO} (k : Kp a l H H') (n : H' p = none) : Kp a l H (upd H' p o) := k.same ((Same.refl H').put n)
theorem Kp.put0 {p : Addr} {o : HO} (k : Kp a l H H') (n : H p = none) : Kp a l H (upd H' p o) := by
  obtain ⟨n1, n2⟩ := k.old.no n
  obtain ⟨st, x, ns, h1, h2, q⟩ := k.new
  exact ⟨k.old, ⟨st, x, ns, by rw [upd_ne n1.symm]; exact h1, by rw [upd_ne n2.symm]; exact h2, q⟩, fun b o m1 m2 e => by rw [upd_ne (ne_of_none e n)]; exact k.keep b o m1 m2 e⟩
theorem ixN_of {n j : Nat} (hj : j < n) : ixN n (j : Int) = some j := by
  unfold ixN
  rw [if_pos (by omega), if_pos (by omega)]
  rfl
theorem Kp.obj {b : Addr} {o : HO} (k : Kp a l H H') (e : H b = some o) (n : ∀ xs, o ≠ .lst xs) : H' b = some o := by
  obtain ⟨n1, n2⟩ := k.old.not e n
  exact k.keep b o n1 n2 e
theorem Kp.tup {b : Addr} {xs : List V} (k : Kp a l H H') (h : SqT K H b xs) : SqT K H' b xs := by
  rcases h with (h | ⟨o, h⟩) | h
  · exact .inl (.inl (k.obj h fun _ z => nomatch z))
  · exact .inl (.inr ⟨o, k.obj h fun _ z => nomatch z⟩)
  · exact .inr h
theorem bits_div {x n : Int} (h0 : 0 ≤ x) (hn : 0 < n) : Builtin.Int.intBits (x / n) ≤ Builtin.Int.intBits x := by
  have h1 : 0 ≤ x / n := Int.ediv_nonneg h0 (Int.le_of_lt hn)
  have h2 : x / n ≤ x := Int.ediv_le_self n h0
  unfold Builtin.Int.intBits
  by_cases e : x / n = 0
  · rw [e]
    exact Nat.zero_le _
  · have e2 : x ≠ 0 := fun z => by rw [z, Int.zero_ediv] at e; exact e rfl
    rw [if_neg (by simpa using e), if_neg (by simpa using e2)]
    have e3 : (x / n).natAbs.log2 ≤ x.natAbs.log2 := (Nat.le_log2 (by omega)).mpr (Nat.le_trans (Nat.log2_self_le (by omega)) (by omega))
    omega
theorem small_bits {x : Int} {k : Nat} (h : x.natAbs < 2 ^ k) : Builtin.Int.intBits x ≤ k := by
  unfold Builtin.Int.intBits
  split
  · exact Nat.zero_le k
  · rename_i e
    have e : x ≠ 0 := by simpa using e
    have := (Nat.log2_lt (n := x.natAbs) (by omega)).mpr h
    omega
def sp_mix (K : PySem.W.Frag) : Sp := fun vs H Q _ => ∃ (s : Addr) (ns : List Int) (z : Int), vs = [.ref s, .int z] ∧ SqL K H s (ns.map V.int) ∧ ns.length ≤ 63 ∧ (∀ z ∈ ns, Builtin.Int.intBits z ≤ 1048576) ∧ 0 ≤ z ∧ z < 2147483647 ∧
  ∀ H' a l, Same H H' → RS H' a l → Q (.ref a) H'
theorem ok_mix {f : Addr} {fd : FuncData} (F : Fun K "_law_mix" "_law_mix" s__law_mix f fd) (B : Blt mg) : FnOk P w K mg base CX0 1 f fd ["_law_script", "_law_seed"] (sp_mix K) := by
  refine F.ok sc__law_mix (fun vs H Q E h => by obtain ⟨s, ns, z, rfl, _⟩ := h; rfl) (fun cdv A outer s H vs Q E hr h => ?_)
  obtain ⟨s, ns, z, rfl, hS, hl, hb, z0, z1, q⟩ := h
  refine ⟨_, (pss_cons (ps_set (i := 2) sc__law_mix.nd rfl (Or.inl rfl) (pv 1))
      (pss_cons (ps_for PassesOwn.never rfl (pi_list (pv 0)) (pg_name (i := 3) sc__law_mix.nd rfl (Or.inl rfl)) (pss_one (ps_set (i := 2) sc__law_mix.nd rfl (Or.inl rfl) (pe_op op_mod (pe_callTy call_int1 (by rfl) B.b_int PyProof.Rows.boot_int (pa_cons (pe_op op_add (pe_op op_add (pe_op op_mul (pv 2) pe_int) (pe_op op_mod (pe_callTy call_int1 (by rfl) B.b_int PyProof.Rows.boot_int (pa_cons (pv 3) pa_nil)) pe_int)) pe_int) pa_nil)) pe_int))))
      (pss_one (ps_ret (pe_lst (pa_cons (pv 2) (pa_cons (pe_callTy call_list_of (by rfl) B.b_list PyProof.Rows.boot_list (pa_cons (pv 0) pa_nil)) (pa_cons pe_int pa_nil)))))))), ?_⟩
  refine ⟨_, rfl, .ref s, rfl, s, rfl, ⟨_, hS⟩, for_it walk_list (fun i σ H' => ∃ (st : Int) (y : Option V), σ = [some (.ref s), some (.int z), some (.int st), y] ∧ H' = H ∧ 0 ≤ st ∧ st < 2147483647)
    ⟨z, none, rfl, rfl, z0, z1⟩ (fun i σ H' _ ⟨_, _, _, e, _⟩ => by rw [e]; exact hS) ?_ ?_⟩
  · rintro i x σ H2 H3 hi ⟨st, y, rfl, rfl, h0, h1⟩ ⟨rfl, hx⟩
    obtain ⟨c, hc, rfl⟩ : ∃ c, ns[i]? = some c ∧ x = V.int c := by
      rw [List.getElem?_map] at hx
      cases e : ns[i]? with
      | none => rw [e] at hx; cases hx
      | some c => rw [e] at hx; exact ⟨c, rfl, (Option.some.inj hx).symm⟩
    refine ⟨_, rfl, st, 48271, rfl, rfl, .inl ⟨by omega, by omega⟩, _, rfl, .inl ⟨c, rfl, c, 2147483629, rfl, rfl, (show (0 : Int) < 2147483629 by decide), _, _, rfl, rfl, _, _, rfl, rfl, .inl ⟨_, rfl, _, 2147483647, rfl, rfl, (show (0 : Int) < 2147483647 by decide), ?_⟩⟩⟩
    exact ⟨_, _, rfl, rfl, Int.emod_nonneg _ (by decide), Int.emod_lt_of_pos _ (by decide)⟩
  · rintro σ H2 ⟨st, y, rfl, rfl, h0, h1⟩
    refine ⟨_, rfl, .ref s, rfl, s, _, rfl, .inl hS, fun l nl => ⟨(by show 3 ≤ sizeLine; decide), fun a na => q _ a l ?_ ⟨st, 0, ns, upd_same, ?_, h0, h1, hl, hb⟩⟩⟩
    · exact ((Same.refl _).put nl).put' na
    · rw [upd_ne (ne_of_none upd_same na), upd_same]
def sp_next : Sp := fun vs H Q _ => ∃ (a l : Addr) (n : Int), vs = [.ref a, .int n] ∧ RS H a l ∧ 0 < n ∧ n.natAbs.log2 < 9000 ∧ ∀ H' r, Kp a l H H' → 0 ≤ r → r < n → Q (.int r) H'
theorem ok_next {f : Addr} {fd : FuncData} (F : Fun K "_law_next" "_law_next" s__law_next f fd) (B : Blt mg) : FnOk P w K mg base CX0 1 f fd ["_law_h", "_law_limit"] sp_next := by
  refine F.ok sc__law_next (fun vs H Q E h => by obtain ⟨a, l, n, rfl, _⟩ := h; rfl) (fun cdv A outer s H vs Q E hr h => ?_)
  obtain ⟨a, l, n, rfl, hR, n0, n9, q⟩ := h
  refine ⟨_, (pss_cons (ps_set (i := 2) sc__law_next.nd rfl (Or.inl rfl) (pe_ix ix_list (pe_op op_cat (pe_ix ix_list (pv 0) pe_int (fun _ _ => rfl)) (pe_lst (pa_cons pe_int pa_nil))) (pe_op op_mod (pe_callTy call_int1 (by rfl) B.b_int PyProof.Rows.boot_int (pa_cons (pe_ix ix_list (pv 0) pe_int (fun _ _ => rfl)) pa_nil)) (pe_callB (call_max2 rfl) (by rfl) B.b_max PyProof.Rows.boot_max (pa_cons pe_int (pa_cons (pe_callB call_len_seq (by rfl) B.b_len PySem.boot_len (pa_cons (pe_ix ix_list (pv 0) pe_int (fun _ _ => rfl)) pa_nil)) pa_nil)))) (fun _ _ => rfl)))
      (pss_cons (ps_if (pt_cmpR op_ge (pv 2) (pe_op op_pow pe_int pe_int) (nomark _)) (pss_cons (ps_asg (pe_op op_fdivW (pv 2) (pv 1)) (pg_sub (pe_ix ix_list (pv 0) pe_int (fun _ _ => rfl)) (pe_op op_mod (pe_callTy call_int1 (by rfl) B.b_int PyProof.Rows.boot_int (pa_cons (pe_ix ix_list (pv 0) pe_int (fun _ _ => rfl)) pa_nil)) (pe_callB call_len_seq (by rfl) B.b_len PySem.boot_len (pa_cons (pe_ix ix_list (pv 0) pe_int (fun _ _ => rfl)) pa_nil))) set_list))
      (pss_one (ps_ret (pe_op op_mod (pe_callTy call_int1 (by rfl) B.b_int PyProof.Rows.boot_int (pa_cons (pv 2) pa_nil)) (pv 1))))) pss_nil)
      (pss_cons (ps_asg (pe_op op_mod (pe_callTy call_int1 (by rfl) B.b_int PyProof.Rows.boot_int (pa_cons (pe_op op_add (pe_op op_add (pe_op op_mul (pe_ix ix_list (pv 0) pe_int (fun _ _ => rfl)) pe_int) (pe_op op_mulX (pv 2) pe_int)) pe_int) pa_nil)) pe_int) (pg_sub (pv 0) pe_int set_list))
      (pss_cons (ps_asg (pe_op op_add (pe_ix ix_list (pv 0) pe_int (fun _ _ => rfl)) pe_int) (pg_sub (pv 0) pe_int set_list))
      (pss_one (ps_ret (pe_op op_mod (pe_callTy call_int1 (by rfl) B.b_int PyProof.Rows.boot_int (pa_cons (pe_op op_fdiv (pe_ix ix_list (pv 0) pe_int (fun _ _ => rfl)) pe_int) pa_nil)) (pv 1)))))))), ?_⟩
  obtain ⟨st, k, ns, ha, hl, s0, s1, hlen, hb⟩ := id hR
  have nal := hR.ne
  have hm0 : 0 < (if ((ns.map V.int).length : Int) > 1 then ((ns.map V.int).length : Int) else 1) := by
    split <;> omega
  have hmx : (if ((ns.map V.int).length : Int) > 1 then ((ns.map V.int).length : Int) else 1) ≤ ns.length + 1 := by
    rw [List.length_map]
    split <;> omega
  have hcell : ∃ (j : Nat) (c : Int), k % (if ((ns.map V.int).length : Int) > 1 then ((ns.map V.int).length : Int) else 1) = j ∧ (ns.map V.int ++ [V.int 0])[j]? = some (.int c) ∧ (10 ^ 18 ≤ c → j < ns.length ∧ ns[j]? = some c ∧ k % (ns.length : Int) = j) ∧ Builtin.Int.intBits c ≤ 1048576 := by
    have r0 := Int.emod_nonneg k (Int.ne_of_gt hm0)
    have r1 := Int.emod_lt_of_pos k hm0
    obtain ⟨j, ej⟩ := Int.eq_ofNat_of_zero_le r0
    have ej : k % (if ((ns.map V.int).length : Int) > 1 then ((ns.map V.int).length : Int) else 1) = (j : Int) := ej
    by_cases hj : j < ns.length
    · refine ⟨j, ns[j], ej, ?_, fun _ => ⟨hj, List.getElem?_eq_getElem hj, ?_⟩, hb _ (List.getElem_mem hj)⟩
      · rw [List.getElem?_append_left (by rw [List.length_map]; exact hj), List.getElem?_map, List.getElem?_eq_getElem hj]
        rfl
      · rw [← ej, List.length_map]
        by_cases h1 : (ns.length : Int) > 1
        · rw [if_pos h1]
        · rw [if_neg h1]
          have e1 : (ns.length : Int) = 1 := by omega
          rw [e1]
    · have ejn : j = ns.length := by omega
      refine ⟨j, 0, ej, ?_, fun z => absurd z (by decide), by decide⟩
      rw [List.getElem?_append_right (by rw [List.length_map]; omega), List.length_map, ejn, Nat.sub_self]
      rfl
  obtain ⟨j, c, ej, gc, big, hc⟩ := hcell
  refine ⟨.ref a, rfl, a, _, 1, .ref l, rfl, rfl, sqL_of ha, atI_nat (j := 1) rfl, (by show 1 ≤ sizeLine; decide), fun p np => ?_⟩
  have npa := ne_of_none ha np
  have npl := ne_of_none hl np
  refine ⟨l, p, ns.map V.int, [.int 0], rfl, rfl, by rw [upd_ne npl]; exact hl, upd_same, by rw [List.length_map, sizeLine_eq]; show ns.length + 1 ≤ _; omega, fun p2 np2 => ?_⟩
  have np2' : H p2 = none := by
    cases e : H p2 with
    | none => rfl
    | some o => rw [upd_ne (ne_of_none e np)] at np2; rw [e] at np2; cases np2
  have s2 : Same H (upd (upd H p (.lst [.int 0])) p2 (.lst (ns.map V.int ++ [.int 0]))) := ((Same.refl H).put np).put np2'
  generalize hH2 : upd (upd H p (.lst [.int 0])) p2 (.lst (ns.map V.int ++ [.int 0])) = H2 at s2
  have hp2 : H2 p2 = some (.lst (ns.map V.int ++ [.int 0])) := by rw [← hH2, upd_same]
  have ha2 := s2 _ _ ha
  have hl2 := s2 _ _ hl
  refine ⟨.ref a, rfl, a, _, 2, .int k, rfl, rfl, sqL_of ha2, atI_nat (j := 2) rfl, .inl ⟨k, rfl, ?_⟩⟩
  refine ⟨.ref a, rfl, a, _, 1, .ref l, rfl, rfl, sqL_of ha2, atI_nat (j := 1) rfl, l, _, rfl, .inl (sqL_of hl2), 1, _, rfl, ?_⟩
  refine ⟨k, _, rfl, rfl, hm0, p2, _, _, .int c, rfl, rfl, sqL_of hp2, at_of ej gc, ?_⟩
  refine ⟨.int c, rfl, 10, 18, rfl, rfl, ⟨by decide, by decide, by decide⟩, c, 10 ^ 18, rfl, rfl, _, rfl, bcase (fun c1 => ?_) (fun c1 => ?_)⟩
  · have c1 : (10 : Int) ^ 18 ≤ c := of_decide_eq_true c1
    obtain ⟨hj, gj, ej2⟩ := big c1
    have hlp : 0 < (ns.length : Int) := by omega
    refine ⟨_, rfl, .int n, rfl, c, n, rfl, rfl, ⟨n0, n9⟩, .ref a, rfl, a, _, 1, .ref l, rfl, rfl, sqL_of ha2, atI_nat (j := 1) rfl, .ref a, rfl, a, _, 2, .int k, rfl, rfl, sqL_of ha2, atI_nat (j := 2) rfl, .inl ⟨k, rfl, ?_⟩⟩
    refine ⟨.ref a, rfl, a, _, 1, .ref l, rfl, rfl, sqL_of ha2, atI_nat (j := 1) rfl, l, _, rfl, .inl (sqL_of hl2), k, _, rfl, rfl, by rw [List.length_map]; exact hlp, l, _, _, j, rfl, rfl, hl2, ?_, ?_⟩
    · rw [List.length_map, ej2]
      unfold ixN
      rw [if_pos (by omega), if_pos (by omega)]
      rfl
    · refine ⟨.int c, rfl, .inl ⟨c, rfl, .int n, rfl, c, n, rfl, rfl, n0, q _ _ ⟨hR, ?_, fun b o n1 n2 e => ?_⟩ (Int.emod_nonneg _ (Int.ne_of_gt n0)) (Int.emod_lt_of_pos _ n0)⟩⟩
      · refine ⟨st, k, ns.set j (c / n), by rw [upd_ne nal]; exact ha2, by rw [upd_same, List.map_set], s0, s1, by rw [List.length_set]; exact hlen, fun z hz => ?_⟩
        rcases List.mem_or_eq_of_mem_set hz with h | h
        · exact hb z h
        · rw [h]
          exact Nat.le_trans (bits_div (by omega) n0) hc
      · rw [upd_ne n2]
        exact s2 b o e
  · refine ⟨.ref a, rfl, a, _, 0, .int st, rfl, rfl, sqL_of ha2, atI_nat (j := 0) rfl, st, 48271, rfl, rfl, .inl ⟨by omega, by omega⟩, .int c, rfl, c, 69621, rfl, rfl, ?_, _, _, rfl, rfl, _, 11, rfl, rfl, .inl ⟨_, rfl, _, 2147483647, rfl, rfl, (show (0 : Int) < 2147483647 by decide), .ref a, rfl, ?_⟩⟩
    · show (Builtin.Int.intBits c : Int) + (Builtin.Int.intBits 69621 : Int) ≤ 134217728
      have e1 : Builtin.Int.intBits 69621 ≤ 20 := small_bits (by decide)
      omega
    have z0 : 0 ≤ (st * 48271 + c * 69621 + 11) % 2147483647 := Int.emod_nonneg _ (by decide)
    have z1 : (st * 48271 + c * 69621 + 11) % 2147483647 < 2147483647 := Int.emod_lt_of_pos _ (by decide)
    refine ⟨a, _, 0, 0, rfl, rfl, ha2, rfl, ?_⟩
    refine ⟨.ref a, rfl, a, _, 2, .int k, rfl, rfl, sqL_of upd_same, atI_nat (j := 2) rfl, k, 1, rfl, rfl, .ref a, rfl, a, _, 2, 2, rfl, rfl, upd_same, rfl, ?_⟩
    refine ⟨.ref a, rfl, a, _, 0, .int ((st * 48271 + c * 69621 + 11) % 2147483647), rfl, rfl, sqL_of upd_same, atI_nat (j := 0) rfl, _, 7, rfl, rfl, ⟨by decide, by decide⟩, .inl ⟨_, rfl, .int n, rfl, _, n, rfl, rfl, n0, q _ _ ⟨hR, ?_, fun b o n1 n2 e => ?_⟩ (Int.emod_nonneg _ (Int.ne_of_gt n0)) (Int.emod_lt_of_pos _ n0)⟩⟩
    · exact ⟨_, k + 1, ns, upd_same, by rw [upd_ne nal.symm, upd_ne nal.symm]; exact hl2, z0, z1, hlen, hb⟩
    · rw [upd_ne n1, upd_ne n1]
      exact s2 b o e
theorem map_eraseIdx {α β : Type} {f : α → β} : ∀ (xs : List α) (j : Nat), (xs.map f).eraseIdx j = (xs.eraseIdx j).map f
  | [], _ => rfl
  | _ :: _, 0 => rfl
  | x :: r, j + 1 => by
    show f x :: (r.map f).eraseIdx j = f x :: (r.eraseIdx j).map f
    rw [map_eraseIdx r j]
/-- what stands at a value, read as data, at most n lists or tuples deep -/
inductive AD (H : Hp) : Nat → V → PyData → Prop where
  | non (n : Nat) : AD H n .non .none
  | bl (n : Nat) (b : Bool) : AD H n (.bl b) (.bool b)
  | int (n : Nat) (i : Int) : AD H n (.int i) (.int i)
  | str (n : Nat) (x : Str) : AD H n (.str x) (.str x)
  | lst {n : Nat} {a : Addr} {xs : List V} {ds : List PyData} (e : H a = some (.lst xs)) (l : xs.length = ds.length) (z : xs.length ≤ 1000000) (all : ∀ (i : Nat) (x : V) (d : PyData), xs[i]? = some x → ds[i]? = some d → AD H n x d) : AD H (n + 1) (.ref a) (.list ds)
  | tup {n : Nat} {a : Addr} {xs : List V} {ds : List PyData} (e : H a = some (.tup xs)) (l : xs.length = ds.length) (z : xs.length ≤ 1000000) (all : ∀ (i : Nat) (x : V) (d : PyData), xs[i]? = some x → ds[i]? = some d → AD H n x d) : AD H (n + 1) (.ref a) (.tuple ds)
theorem AD.same {n : Nat} {x : V} {d : PyData} (s : Same H H') (h : AD H n x d) : AD H' n x d := by
  induction h with
  | non n => exact .non n
  | bl n b => exact .bl n b
  | int n i => exact .int n i
  | str n x => exact .str n x
  | lst e l z all ih => exact .lst (s _ _ e) l z ih
  | tup e l z all ih => exact .tup (s _ _ e) l z ih
def sp_alike (n : Nat) : Sp := fun vs H Q _ => ∃ (x y : V) (d : PyData), vs = [x, y] ∧ AD H n x d ∧ AD H n y d ∧ ∀ H', Same H H' → Q (.bl true) H'
/-- the answer where no list or tuple stands -/
theorem ok_alike0 {f : Addr} {fd : FuncData} (F : Fun K "_law_alike" "_law_alike" s__law_alike f fd) (B : Blt mg) : FnOk P w K mg base CX0 1 f fd ["_law_found", "_law_due"] (sp_alike 0) := by
  refine F.ok sc__law_alike (fun vs H Q E h => by obtain ⟨x, y, d, rfl, _⟩ := h; rfl) (fun cdv A outer s H vs Q E hr h => ?_)
  obtain ⟨x, y, d, rfl, hx, hy, q⟩ := h
  refine ⟨_, (pss_cons (ps_if (pt_val (pe_callB (call_isT "dict") (by rfl) B.b_isinstance PyProof.Rows.boot_isinstance (pa_cons (pv 1) (pa_cons (pe_bltn (v := .ty "dict") (by rfl) B.b_dict (by decide +kernel) rfl) pa_nil)))) pss_never pss_nil)
      (pss_cons (ps_if (pt_val (pe_callB call_isiT (by rfl) B.b_isinstance PyProof.Rows.boot_isinstance (pa_cons (pv 1) (pa_cons (pe_tup (pa_cons (pe_bltn (v := .ty "tuple") (by rfl) B.b_tuple PyProof.Rows.boot_tuple rfl) (pa_cons (pe_bltn (v := .ty "list") (by rfl) B.b_list PyProof.Rows.boot_list rfl) pa_nil))) pa_nil)))) pss_never pss_nil)
      (pss_cons (ps_if (PW.pt (pw_or (pt_cmpR op_isN (pv 1) pe_non (nomark _)) (pw_or1 (pt_val (pe_callB (call_isT "str") (by rfl) B.b_isinstance PyProof.Rows.boot_isinstance (pa_cons (pv 1) (pa_cons (pe_bltn (v := .ty "str") (by rfl) B.b_str PyProof.Rows.boot_str rfl) pa_nil))))))) (pss_one (ps_ret (pe_and (pe_cmpR op_eq (pv 0) (pv 1) (nomark _)) (pe_one (pe_cmpR op_eq (pe_callB (call_isT "str") (by rfl) B.b_isinstance PyProof.Rows.boot_isinstance (pa_cons (pv 0) (pa_cons (pe_bltn (v := .ty "str") (by rfl) B.b_str PyProof.Rows.boot_str rfl) pa_nil))) (pe_callB (call_isT "str") (by rfl) B.b_isinstance PyProof.Rows.boot_isinstance (pa_cons (pv 1) (pa_cons (pe_bltn (v := .ty "str") (by rfl) B.b_str PyProof.Rows.boot_str rfl) pa_nil))) (nomark _)))))) pss_nil)
      (pss_one (ps_ret (pe_and (pe_callB (call_isT "int") (by rfl) B.b_isinstance PyProof.Rows.boot_isinstance (pa_cons (pv 0) (pa_cons (pe_bltn (v := .ty "int") (by rfl) B.b_int PyProof.Rows.boot_int rfl) pa_nil))) (pe_and (pe_cmpR op_eq (pe_callB (call_isT "bool") (by rfl) B.b_isinstance PyProof.Rows.boot_isinstance (pa_cons (pv 0) (pa_cons (pe_bltn (v := .ty "bool") (by rfl) B.b_bool PyProof.Rows.boot_bool rfl) pa_nil))) (pe_callB (call_isT "bool") (by rfl) B.b_isinstance PyProof.Rows.boot_isinstance (pa_cons (pv 1) (pa_cons (pe_bltn (v := .ty "bool") (by rfl) B.b_bool PyProof.Rows.boot_bool rfl) pa_nil))) (nomark _)) (pe_one (pe_cmpR op_eq (pv 0) (pv 1) (nomark _)))))))))), ?_⟩
  cases hx with
  | non _ =>
    cases hy
    refine ⟨_, rfl, _, "NoneType", false, rfl, .non, by decide +kernel, false, rfl, iteF ?_⟩
    refine ⟨_, rfl, (by show 2 ≤ sizeLine; decide), fun tp ntp => ⟨_, tp, _, .type "NoneType", [.type "tuple", .type "list"], false, rfl, upd_same, .cons (.ty _) (.cons (.ty _) .nil), .base (.non), kitAny_cons (b := false) (kit_ty (by decide +kernel)) (fun _ => kitAny_cons (b := false) (kit_ty (by decide +kernel)) (fun _ => kitAny_nil) (fun z => nomatch z)) (fun z => nomatch z), false, rfl, iteF ?_⟩⟩
    have s1 : Same H (upd H tp (.tup [.ty "tuple", .ty "list"])) := (Same.refl H).put ntp
    refine ⟨_, rfl, rfl, true, rfl, iteT (iteT ?_)⟩
    refine ⟨_, rfl, _, rfl, rfl, decide (V.non = V.non), rfl, ?_⟩
    rw [decide_eq_true rfl]
    refine iteT ?_
    refine ⟨_, rfl, _, "NoneType", false, rfl, .non, by decide +kernel, _, rfl, _, "NoneType", false, rfl, .non, by decide +kernel, rfl, ?_⟩
    exact q _ s1
  | bl _ b =>
    cases hy
    refine ⟨_, rfl, _, "bool", false, rfl, .bl b, by decide +kernel, false, rfl, iteF ?_⟩
    refine ⟨_, rfl, (by show 2 ≤ sizeLine; decide), fun tp ntp => ⟨_, tp, _, .type "bool", [.type "tuple", .type "list"], false, rfl, upd_same, .cons (.ty _) (.cons (.ty _) .nil), .base (.bl b), kitAny_cons (b := false) (kit_ty (by decide +kernel)) (fun _ => kitAny_cons (b := false) (kit_ty (by decide +kernel)) (fun _ => kitAny_nil) (fun z => nomatch z)) (fun z => nomatch z), false, rfl, iteF ?_⟩⟩
    have s1 : Same H (upd H tp (.tup [.ty "tuple", .ty "list"])) := (Same.refl H).put ntp
    refine ⟨_, rfl, rfl, false, rfl, iteF ⟨_, rfl, _, "bool", false, rfl, .bl b, by decide +kernel, false, rfl, iteF ?_⟩⟩
    refine ⟨_, rfl, _, "bool", true, rfl, .bl b, by decide +kernel, true, rfl, iteT ?_⟩
    refine ⟨_, rfl, _, "bool", true, rfl, .bl b, by decide +kernel, _, rfl, _, "bool", true, rfl, .bl b, by decide +kernel, rfl, true, rfl, iteT ?_⟩
    refine ⟨_, rfl, _, rfl, rfl, ?_⟩
    rw [decide_eq_true rfl]
    exact q _ s1
  | int _ i =>
    cases hy
    refine ⟨_, rfl, _, "int", false, rfl, .int i, by decide +kernel, false, rfl, iteF ?_⟩
    refine ⟨_, rfl, (by show 2 ≤ sizeLine; decide), fun tp ntp => ⟨_, tp, _, .type "int", [.type "tuple", .type "list"], false, rfl, upd_same, .cons (.ty _) (.cons (.ty _) .nil), .base (.int i), kitAny_cons (b := false) (kit_ty (by decide +kernel)) (fun _ => kitAny_cons (b := false) (kit_ty (by decide +kernel)) (fun _ => kitAny_nil) (fun z => nomatch z)) (fun z => nomatch z), false, rfl, iteF ?_⟩⟩
    have s1 : Same H (upd H tp (.tup [.ty "tuple", .ty "list"])) := (Same.refl H).put ntp
    refine ⟨_, rfl, rfl, false, rfl, iteF ⟨_, rfl, _, "int", false, rfl, .int i, by decide +kernel, false, rfl, iteF ?_⟩⟩
    refine ⟨_, rfl, _, "int", true, rfl, .int i, by decide +kernel, true, rfl, iteT ?_⟩
    refine ⟨_, rfl, _, "int", false, rfl, .int i, by decide +kernel, _, rfl, _, "int", false, rfl, .int i, by decide +kernel, rfl, true, rfl, iteT ?_⟩
    refine ⟨_, rfl, _, rfl, rfl, ?_⟩
    rw [decide_eq_true rfl]
    exact q _ s1
  | str _ x =>
    cases hy
    refine ⟨_, rfl, _, "str", false, rfl, .str x, by decide +kernel, false, rfl, iteF ?_⟩
    refine ⟨_, rfl, (by show 2 ≤ sizeLine; decide), fun tp ntp => ⟨_, tp, _, .type "str", [.type "tuple", .type "list"], false, rfl, upd_same, .cons (.ty _) (.cons (.ty _) .nil), .base (.str x), kitAny_cons (b := false) (kit_ty (by decide +kernel)) (fun _ => kitAny_cons (b := false) (kit_ty (by decide +kernel)) (fun _ => kitAny_nil) (fun z => nomatch z)) (fun z => nomatch z), false, rfl, iteF ?_⟩⟩
    have s1 : Same H (upd H tp (.tup [.ty "tuple", .ty "list"])) := (Same.refl H).put ntp
    refine ⟨_, rfl, rfl, false, rfl, iteF ⟨_, rfl, _, "str", true, rfl, .str x, by decide +kernel, true, rfl, iteT ?_⟩⟩
    refine ⟨_, rfl, _, rfl, rfl, decide (V.str x = V.str x), rfl, ?_⟩
    rw [decide_eq_true rfl]
    refine iteT ?_
    refine ⟨_, rfl, _, "str", true, rfl, .str x, by decide +kernel, _, rfl, _, "str", true, rfl, .str x, by decide +kernel, rfl, ?_⟩
    exact q _ s1
theorem ok_alike {n : Nat} {f : Addr} {fd : FuncData} (F : Fun K "_law_alike" "_law_alike" s__law_alike f fd) (B : Blt mg) (c__law_alike : Cal P w K mg base CX0 (n + 1) "_law_alike" ["_law_found", "_law_due"] (sp_alike n)) : FnOk P w K mg base CX0 (n + 2) f fd ["_law_found", "_law_due"] (sp_alike (n + 1)) := by
  refine F.ok sc__law_alike (fun vs H Q E h => by obtain ⟨x, y, d, rfl, _⟩ := h; rfl) (fun cdv A outer s H vs Q E hr h => ?_)
  obtain ⟨x, y, d, rfl, hx, hy, q⟩ := h
  refine ⟨_, (pss_cons (ps_if (pt_val (pe_callB (call_isT "dict") (by rfl) B.b_isinstance PyProof.Rows.boot_isinstance (pa_cons (pv 1) (pa_cons (pe_bltn (v := .ty "dict") (by rfl) B.b_dict (by decide +kernel) rfl) pa_nil)))) pss_never pss_nil)
      (pss_cons (ps_if (pt_val (pe_callB call_isiT (by rfl) B.b_isinstance PyProof.Rows.boot_isinstance (pa_cons (pv 1) (pa_cons (pe_tup (pa_cons (pe_bltn (v := .ty "tuple") (by rfl) B.b_tuple PyProof.Rows.boot_tuple rfl) (pa_cons (pe_bltn (v := .ty "list") (by rfl) B.b_list PyProof.Rows.boot_list rfl) pa_nil))) pa_nil)))) (pss_cons (ps_if (PW.pt (pw_or (pt_not (pt_val (pe_callB call_isiT (by rfl) B.b_isinstance PyProof.Rows.boot_isinstance (pa_cons (pv 0) (pa_cons (pe_tup (pa_cons (pe_bltn (v := .ty "tuple") (by rfl) B.b_tuple PyProof.Rows.boot_tuple rfl) (pa_cons (pe_bltn (v := .ty "list") (by rfl) B.b_list PyProof.Rows.boot_list rfl) pa_nil))) pa_nil))))) (pw_or1 (pt_cmpR op_ne (pe_callB (call_isT "list") (by rfl) B.b_isinstance PyProof.Rows.boot_isinstance (pa_cons (pv 0) (pa_cons (pe_bltn (v := .ty "list") (by rfl) B.b_list PyProof.Rows.boot_list rfl) pa_nil))) (pe_callB (call_isT "list") (by rfl) B.b_isinstance PyProof.Rows.boot_isinstance (pa_cons (pv 1) (pa_cons (pe_bltn (v := .ty "list") (by rfl) B.b_list PyProof.Rows.boot_list rfl) pa_nil))) (nomark _))))) (pss_one (ps_ret pe_bl)) pss_nil)
      (pss_cons (ps_if (pt_cmpR op_ne (pe_callB call_len_seq (by rfl) B.b_len PySem.boot_len (pa_cons (pv 0) pa_nil)) (pe_callB call_len_seq (by rfl) B.b_len PySem.boot_len (pa_cons (pv 1) pa_nil)) (nomark _)) (pss_one (ps_ret pe_bl)) pss_nil)
      (pss_one (ps_ret (pe_cmpR (op_eqD hr.units) (pe_lc (own := [("_law_k", 2)]) (g := gName 2) rfl sc__law_alike.nd (pi_range1 (by rfl) B.b_range (pa_cons (pe_callB call_len_seq (by rfl) B.b_len PySem.boot_len (pa_cons (pv 1) pa_nil)) pa_nil)) (blkOk_by (own := [("_law_k", 2)]) (N := ["_law_found", "_law_due", "_law_k"]) (sc := defScope s__law_alike) (by decide +kernel)) (fun _ _ _ _ _ => (pg_name (i := 2) sc__law_alike.nd rfl (Or.inl rfl))) (fun _ _ _ _ _ => (pts_.re (pts_one (pt_not (pt_val (pe_cal c__law_alike hr (pa_cons (pe_ix ix_seq (pv 0) (pv 2) (fun _ _ => rfl)) (pa_cons (pe_ix ix_seq (pv 1) (pv 2) (fun _ _ => rfl)) pa_nil)))))) (by first | (dsimp only [Cx.blk]; done) | exact rfl))) (fun _ _ _ _ _ => (pe_.re (pv 2) (by first | (dsimp only [Cx.blk]; done) | exact rfl)))) (pe_lst pa_nil) (nomark _)))))) pss_nil)
      (pss_cons (ps_if (PW.pt (pw_or (pt_cmpR op_isN (pv 1) pe_non (nomark _)) (pw_or1 (pt_val (pe_callB (call_isT "str") (by rfl) B.b_isinstance PyProof.Rows.boot_isinstance (pa_cons (pv 1) (pa_cons (pe_bltn (v := .ty "str") (by rfl) B.b_str PyProof.Rows.boot_str rfl) pa_nil))))))) (pss_one (ps_ret (pe_and (pe_cmpR op_eq (pv 0) (pv 1) (nomark _)) (pe_one (pe_cmpR op_eq (pe_callB (call_isT "str") (by rfl) B.b_isinstance PyProof.Rows.boot_isinstance (pa_cons (pv 0) (pa_cons (pe_bltn (v := .ty "str") (by rfl) B.b_str PyProof.Rows.boot_str rfl) pa_nil))) (pe_callB (call_isT "str") (by rfl) B.b_isinstance PyProof.Rows.boot_isinstance (pa_cons (pv 1) (pa_cons (pe_bltn (v := .ty "str") (by rfl) B.b_str PyProof.Rows.boot_str rfl) pa_nil))) (nomark _)))))) pss_nil)
      (pss_one (ps_ret (pe_and (pe_callB (call_isT "int") (by rfl) B.b_isinstance PyProof.Rows.boot_isinstance (pa_cons (pv 0) (pa_cons (pe_bltn (v := .ty "int") (by rfl) B.b_int PyProof.Rows.boot_int rfl) pa_nil))) (pe_and (pe_cmpR op_eq (pe_callB (call_isT "bool") (by rfl) B.b_isinstance PyProof.Rows.boot_isinstance (pa_cons (pv 0) (pa_cons (pe_bltn (v := .ty "bool") (by rfl) B.b_bool PyProof.Rows.boot_bool rfl) pa_nil))) (pe_callB (call_isT "bool") (by rfl) B.b_isinstance PyProof.Rows.boot_isinstance (pa_cons (pv 1) (pa_cons (pe_bltn (v := .ty "bool") (by rfl) B.b_bool PyProof.Rows.boot_bool rfl) pa_nil))) (nomark _)) (pe_one (pe_cmpR op_eq (pv 0) (pv 1) (nomark _)))))))))), ?_⟩
  cases hx with
  | non _ =>
    cases hy
    refine ⟨_, rfl, _, "NoneType", false, rfl, .non, by decide +kernel, false, rfl, iteF ?_⟩
    refine ⟨_, rfl, (by show 2 ≤ sizeLine; decide), fun tp ntp => ⟨_, tp, _, .type "NoneType", [.type "tuple", .type "list"], false, rfl, upd_same, .cons (.ty _) (.cons (.ty _) .nil), .base (.non), kitAny_cons (b := false) (kit_ty (by decide +kernel)) (fun _ => kitAny_cons (b := false) (kit_ty (by decide +kernel)) (fun _ => kitAny_nil) (fun z => nomatch z)) (fun z => nomatch z), false, rfl, iteF ?_⟩⟩
    have s1 : Same H (upd H tp (.tup [.ty "tuple", .ty "list"])) := (Same.refl H).put ntp
    refine ⟨_, rfl, rfl, true, rfl, iteT (iteT ?_)⟩
    refine ⟨_, rfl, _, rfl, rfl, decide (V.non = V.non), rfl, ?_⟩
    rw [decide_eq_true rfl]
    refine iteT ?_
    refine ⟨_, rfl, _, "NoneType", false, rfl, .non, by decide +kernel, _, rfl, _, "NoneType", false, rfl, .non, by decide +kernel, rfl, ?_⟩
    exact q _ s1
  | bl _ b =>
    cases hy
    refine ⟨_, rfl, _, "bool", false, rfl, .bl b, by decide +kernel, false, rfl, iteF ?_⟩
    refine ⟨_, rfl, (by show 2 ≤ sizeLine; decide), fun tp ntp => ⟨_, tp, _, .type "bool", [.type "tuple", .type "list"], false, rfl, upd_same, .cons (.ty _) (.cons (.ty _) .nil), .base (.bl b), kitAny_cons (b := false) (kit_ty (by decide +kernel)) (fun _ => kitAny_cons (b := false) (kit_ty (by decide +kernel)) (fun _ => kitAny_nil) (fun z => nomatch z)) (fun z => nomatch z), false, rfl, iteF ?_⟩⟩
    have s1 : Same H (upd H tp (.tup [.ty "tuple", .ty "list"])) := (Same.refl H).put ntp
    refine ⟨_, rfl, rfl, false, rfl, iteF ⟨_, rfl, _, "bool", false, rfl, .bl b, by decide +kernel, false, rfl, iteF ?_⟩⟩
    refine ⟨_, rfl, _, "bool", true, rfl, .bl b, by decide +kernel, true, rfl, iteT ?_⟩
    refine ⟨_, rfl, _, "bool", true, rfl, .bl b, by decide +kernel, _, rfl, _, "bool", true, rfl, .bl b, by decide +kernel, rfl, true, rfl, iteT ?_⟩
    refine ⟨_, rfl, _, rfl, rfl, ?_⟩
    rw [decide_eq_true rfl]
    exact q _ s1
  | int _ i =>
    cases hy
    refine ⟨_, rfl, _, "int", false, rfl, .int i, by decide +kernel, false, rfl, iteF ?_⟩
    refine ⟨_, rfl, (by show 2 ≤ sizeLine; decide), fun tp ntp => ⟨_, tp, _, .type "int", [.type "tuple", .type "list"], false, rfl, upd_same, .cons (.ty _) (.cons (.ty _) .nil), .base (.int i), kitAny_cons (b := false) (kit_ty (by decide +kernel)) (fun _ => kitAny_cons (b := false) (kit_ty (by decide +kernel)) (fun _ => kitAny_nil) (fun z => nomatch z)) (fun z => nomatch z), false, rfl, iteF ?_⟩⟩
    have s1 : Same H (upd H tp (.tup [.ty "tuple", .ty "list"])) := (Same.refl H).put ntp
    refine ⟨_, rfl, rfl, false, rfl, iteF ⟨_, rfl, _, "int", false, rfl, .int i, by decide +kernel, false, rfl, iteF ?_⟩⟩
    refine ⟨_, rfl, _, "int", true, rfl, .int i, by decide +kernel, true, rfl, iteT ?_⟩
    refine ⟨_, rfl, _, "int", false, rfl, .int i, by decide +kernel, _, rfl, _, "int", false, rfl, .int i, by decide +kernel, rfl, true, rfl, iteT ?_⟩
    refine ⟨_, rfl, _, rfl, rfl, ?_⟩
    rw [decide_eq_true rfl]
    exact q _ s1
  | str _ x =>
    cases hy
    refine ⟨_, rfl, _, "str", false, rfl, .str x, by decide +kernel, false, rfl, iteF ?_⟩
    refine ⟨_, rfl, (by show 2 ≤ sizeLine; decide), fun tp ntp => ⟨_, tp, _, .type "str", [.type "tuple", .type "list"], false, rfl, upd_same, .cons (.ty _) (.cons (.ty _) .nil), .base (.str x), kitAny_cons (b := false) (kit_ty (by decide +kernel)) (fun _ => kitAny_cons (b := false) (kit_ty (by decide +kernel)) (fun _ => kitAny_nil) (fun z => nomatch z)) (fun z => nomatch z), false, rfl, iteF ?_⟩⟩
    have s1 : Same H (upd H tp (.tup [.ty "tuple", .ty "list"])) := (Same.refl H).put ntp
    refine ⟨_, rfl, rfl, false, rfl, iteF ⟨_, rfl, _, "str", true, rfl, .str x, by decide +kernel, true, rfl, iteT ?_⟩⟩
    refine ⟨_, rfl, _, rfl, rfl, decide (V.str x = V.str x), rfl, ?_⟩
    rw [decide_eq_true rfl]
    refine iteT ?_
    refine ⟨_, rfl, _, "str", true, rfl, .str x, by decide +kernel, _, rfl, _, "str", true, rfl, .str x, by decide +kernel, rfl, ?_⟩
    exact q _ s1
  | lst e l z all =>
    rename_i p xs ds
    cases hy with
    | lst e2 l2 z2 all2 =>
      rename_i q0 ys
      refine ⟨_, rfl, _, "list", false, rfl, .lst e2, by decide +kernel, false, rfl, iteF ?_⟩
      refine ⟨_, rfl, (by show 2 ≤ sizeLine; decide), fun tp ntp => ?_⟩
      have s1 : Same H (upd H tp (.tup [.ty "tuple", .ty "list"])) := (Same.refl H).put ntp
      refine ⟨_, tp, _, .type "list", [.type "tuple", .type "list"], true, rfl, upd_same, .cons (.ty _) (.cons (.ty _) .nil), .base (.lst (s1 _ _ e2)), kitAny_cons (b := false) (kit_ty (by decide +kernel)) (fun _ => kitAny_cons (b := true) (kit_ty (by decide +kernel)) (fun z => nomatch z) (fun _ => rfl)) (fun z => nomatch z), true, rfl, iteT ?_⟩
      refine ⟨_, rfl, (by show 2 ≤ sizeLine; decide), fun tp2 ntp2 => ?_⟩
      have s2 := s1.put' (o := .tup [.ty "tuple", .ty "list"]) ntp2
      refine ⟨_, tp2, _, .type "list", [.type "tuple", .type "list"], true, rfl, upd_same, .cons (.ty _) (.cons (.ty _) .nil), .base (.lst (s2 _ _ e)), kitAny_cons (b := false) (kit_ty (by decide +kernel)) (fun _ => kitAny_cons (b := true) (kit_ty (by decide +kernel)) (fun z => nomatch z) (fun _ => rfl)) (fun z => nomatch z), true, rfl, iteF ?_⟩
      refine ⟨_, rfl, _, "list", true, rfl, .lst (s2 _ _ e), by decide +kernel, _, rfl, _, "list", true, rfl, .lst (s2 _ _ e2), by decide +kernel, rfl, _, rfl, iteF ?_⟩
      refine ⟨_, rfl, p, _, rfl, .inl (sqL_of (s2 _ _ e)), _, rfl, q0, _, rfl, .inl (sqL_of (s2 _ _ e2)), rfl, _, rfl, ?_⟩
      have el : ((xs.length : Nat) : Int) = (ys.length : Nat) := by rw [l, l2]
      rw [el, decide_eq_true rfl]
      refine iteF ?_
      refine ⟨_, rfl, q0, _, rfl, .inl (sqL_of (s2 _ _ e2)), _, rfl, by omega, by omega, fun D nD => lc_it walk_range (fun i H' => Same H H' ∧ H' D = some (.lst [])) ⟨s2.put' nD, upd_same⟩ (fun _ _ _ _ => trivial) ?_ ?_⟩
      · rintro i y H2 H3 hi ⟨s3, e3⟩ ⟨rfl, hy⟩
        have hy : y = V.int (i : Nat) := by
          rw [hy]
          show V.int (0 + (i : Nat)) = _
          rw [Int.zero_add]
        subst hy
        have hi : i < ys.length := by simpa using hi
        have hix : i < xs.length := by omega
        have hid : i < ds.length := by omega
        refine ⟨rfl, _, rfl, _, rfl, .inl ⟨_, _, (i : Nat), _, rfl, rfl, sqL_of (s3 _ _ e), atI_nat (List.getElem?_eq_getElem hix), ?_⟩⟩
        refine ⟨_, rfl, _, rfl, .inl ⟨_, _, (i : Nat), _, rfl, rfl, sqL_of (s3 _ _ e2), atI_nat (List.getElem?_eq_getElem hi), ?_⟩⟩
        refine ⟨_, _, ds[i], rfl, (all i _ _ (List.getElem?_eq_getElem hix) (List.getElem?_eq_getElem hid)).same s3, (all2 i _ _ (List.getElem?_eq_getElem hi) (List.getElem?_eq_getElem hid)).same s3, fun H4 s4 => ⟨true, rfl, iteF ⟨s3.trans s4, s4 _ _ e3⟩⟩⟩
      · rintro H2 ⟨s3, e3⟩
        refine ⟨Nat.zero_le _, fun p2 np2 => ⟨.list [], .list [], .lst (sqL_of (by rw [upd_ne (ne_of_none e3 np2)]; exact e3)) .nil, .lst sqL_new .nil, rfl, rfl, q _ (s3.put' np2)⟩⟩
  | tup e l z all =>
    rename_i p xs ds
    cases hy with
    | tup e2 l2 z2 all2 =>
      rename_i q0 ys
      refine ⟨_, rfl, _, "tuple", false, rfl, .tup e2, by decide +kernel, false, rfl, iteF ?_⟩
      refine ⟨_, rfl, (by show 2 ≤ sizeLine; decide), fun tp ntp => ?_⟩
      have s1 : Same H (upd H tp (.tup [.ty "tuple", .ty "list"])) := (Same.refl H).put ntp
      refine ⟨_, tp, _, .type "tuple", [.type "tuple", .type "list"], true, rfl, upd_same, .cons (.ty _) (.cons (.ty _) .nil), .base (.tup (s1 _ _ e2)), kitAny_cons (b := true) (kit_ty (by decide +kernel)) (fun z => nomatch z) (fun _ => rfl), true, rfl, iteT ?_⟩
      refine ⟨_, rfl, (by show 2 ≤ sizeLine; decide), fun tp2 ntp2 => ?_⟩
      have s2 := s1.put' (o := .tup [.ty "tuple", .ty "list"]) ntp2
      refine ⟨_, tp2, _, .type "tuple", [.type "tuple", .type "list"], true, rfl, upd_same, .cons (.ty _) (.cons (.ty _) .nil), .base (.tup (s2 _ _ e)), kitAny_cons (b := true) (kit_ty (by decide +kernel)) (fun z => nomatch z) (fun _ => rfl), true, rfl, iteF ?_⟩
      refine ⟨_, rfl, _, "tuple", false, rfl, .tup (s2 _ _ e), by decide +kernel, _, rfl, _, "tuple", false, rfl, .tup (s2 _ _ e2), by decide +kernel, rfl, _, rfl, iteF ?_⟩
      refine ⟨_, rfl, p, _, rfl, .inr (sqT_of (s2 _ _ e)), _, rfl, q0, _, rfl, .inr (sqT_of (s2 _ _ e2)), rfl, _, rfl, ?_⟩
      have el : ((xs.length : Nat) : Int) = (ys.length : Nat) := by rw [l, l2]
      rw [el, decide_eq_true rfl]
      refine iteF ?_
      refine ⟨_, rfl, q0, _, rfl, .inr (sqT_of (s2 _ _ e2)), _, rfl, by omega, by omega, fun D nD => lc_it walk_range (fun i H' => Same H H' ∧ H' D = some (.lst [])) ⟨s2.put' nD, upd_same⟩ (fun _ _ _ _ => trivial) ?_ ?_⟩
      · rintro i y H2 H3 hi ⟨s3, e3⟩ ⟨rfl, hy⟩
        have hy : y = V.int (i : Nat) := by
          rw [hy]
          show V.int (0 + (i : Nat)) = _
          rw [Int.zero_add]
        subst hy
        have hi : i < ys.length := by simpa using hi
        have hix : i < xs.length := by omega
        have hid : i < ds.length := by omega
        refine ⟨rfl, _, rfl, _, rfl, .inr (.inl ⟨_, _, (i : Nat), _, rfl, rfl, sqT_of (s3 _ _ e), atI_nat (List.getElem?_eq_getElem hix), ?_⟩)⟩
        refine ⟨_, rfl, _, rfl, .inr (.inl ⟨_, _, (i : Nat), _, rfl, rfl, sqT_of (s3 _ _ e2), atI_nat (List.getElem?_eq_getElem hi), ?_⟩)⟩
        refine ⟨_, _, ds[i], rfl, (all i _ _ (List.getElem?_eq_getElem hix) (List.getElem?_eq_getElem hid)).same s3, (all2 i _ _ (List.getElem?_eq_getElem hi) (List.getElem?_eq_getElem hid)).same s3, fun H4 s4 => ⟨true, rfl, iteF ⟨s3.trans s4, s4 _ _ e3⟩⟩⟩
      · rintro H2 ⟨s3, e3⟩
        refine ⟨Nat.zero_le _, fun p2 np2 => ⟨.list [], .list [], .lst (sqL_of (by rw [upd_ne (ne_of_none e3 np2)]; exact e3)) .nil, .lst sqL_new .nil, rfl, rfl, q _ (s3.put' np2)⟩⟩
end
end Sc
namespace Sc
open PySem PySem.Spec PyProof.Rows L2
theorem strAt_inj {xs : List Str} {i : Nat} {x : Str} {v : V} (hx : xs[i]? = some x) (h : (xs.map V.str)[i]? = some v) : V.str x = v := by
  rw [List.getElem?_map, hx] at h
  exact Option.some.inj h
theorem find_none {n : Nat} {p : Nat → Bool} (h : ∀ j, j < n → p j = false) : (List.range n).find? p = none := by
  rw [List.find?_eq_none]
  intro j hj
  rw [h j (List.mem_range.mp hj)]
  exact Bool.false_ne_true
theorem find_at {n i : Nat} {p : Nat → Bool} (hi : i < n) (hp : p i = true) (h : ∀ j, j < i → p j = false) : (List.range n).find? p = some i := by
  rw [List.find?_range_eq_some]
  exact ⟨hp, List.mem_range.mpr hi, fun j hj => by rw [h j hj]; rfl⟩
/-- names that texts of a program may have -/
def Txts (xs : List Str) : Prop := ∀ x ∈ xs, x.length ≤ 1000
def errIx (C : Addr) (i : Nat) (H : Hp) (E : XK) : Prop := ∀ H' d, Same H H' → H' d = none → E (.ref C) (some d) (upd H' d (.xd [(("index" : Str), .int i)]))
theorem flat_strs : ∀ xs : List Str, (xs.map V.str).all flatV = true
  | [] => rfl
  | _ :: r => flat_strs r
theorem inV_str {x : Str} : ∀ xs : List Str, inV (.str x) (xs.map V.str) = decide (x ∈ xs)
  | [] => rfl
  | y :: r => by
    show (eqV (.str y) (.str x) || inV (.str x) (r.map V.str)) = _
    rw [inV_str r]
    show ((y == x) || _) = _
    by_cases h : y = x
    · subst h
      simp
    · have e : (y == x) = false := by simpa using h
      rw [e, Bool.false_or]
      simp [List.mem_cons, show ¬ x = y from fun z => h z.symm]
end Sc
namespace Sc
open PySem PySem.Spec PyProof.Rows L2
/-! ### conditions -/
theorem sc_check_part : FnScope ["part", "names", "before", "index", "name", "wrong"] ["part", "names", "before"] (defScope s_check_part) := ⟨rfl, rfl, rfl, by decide +kernel, rfl, by decide +kernel, by decide +kernel⟩
theorem sc_merged : FnScope ["names", "others", "name"] ["names", "others"] (defScope s_merged) := ⟨rfl, rfl, rfl, by decide +kernel, rfl, by decide +kernel, by decide +kernel⟩
theorem filter1 {α : Type} (p : α → Bool) (y : α) : List.filter p [y] = if p y = true then [y] else [] := by cases h : p y <;> simp [List.filter, h]
section
variable {P : Program} {w : World} {K : PySem.W.Frag} {mg : Str → Option Value} {base : Heap} {CC : Addr}
/-- the i-th name of a part is wrong; ys the part ahead of it -/
def wrongAt (xs ys : List Str) (i : Nat) : Bool := match xs[i]? with
  | some x => (!isName x || !risesAt xs i) || (decide (8 ≤ ys.length + i) || decide (x ∈ ys))
  | none => false
def firstWrong (xs ys : List Str) : Option Nat := (List.range xs.length).find? (wrongAt xs ys)
def errPI (C : Addr) (part : Int) (i : Nat) (H : Hp) (E : XK) : Prop := ∀ H' d, Same H H' → H' d = none → E (.ref C) (some d) (upd H' d (.xd [(("index" : Str), .int i), (("part" : Str), .int part)]))
def sp_check_part (K : PySem.W.Frag) (C : Addr) : Sp := fun vs H Q E => ∃ (part : Nat) (a b : Addr) (xs ys : List Str), vs = [.int part, .ref a, .ref b] ∧ part ≤ 1 ∧ SqT K H a (xs.map V.str) ∧ SqT K H b (ys.map V.str) ∧ Txts xs ∧ xs.length ≤ 1000 ∧ ys.length ≤ 1000 ∧
  (firstWrong xs ys = none → ∀ H', Same H H' → Q .non H') ∧ (∀ i, firstWrong xs ys = some i → errPI C part i H E)
theorem ok_check_part {f : Addr} {fd : FuncData} (F : Fun K "check_part" "check_part" s_check_part f fd) (B : Blt mg) (mM : ∃ t, mg "MOST_NAMES" = some (.int 8 t))
    (e_InvalidCondition : ErrMk P w K mg base "InvalidCondition" CC ["self", "part", "index"] (sp_init2 CC "part" "index")) (c_is_name : Cal P w K mg base CX0 1 "is_name" ["value"] sp_is_name) (c_rises : Cal P w K mg base CX0 1 "rises" ["names", "index"] (sp_rises K)) :
    FnOk P w K mg base (L2.CX P w) 3 f fd ["part", "names", "before"] (sp_check_part K CC) := by
  obtain ⟨t1, mM⟩ := mM
  refine F.okX sc_check_part (fun vs H Q E h => by obtain ⟨part, a, b, xs, ys, rfl, _⟩ := h; rfl) (fun cdv A outer s H vs Q E hr h => ?_)
  obtain ⟨part, a, b, xs, ys, rfl, hp, hS, hY, hT, hl, hly, q, e⟩ := h
  refine ⟨_, (pss_one (ps_for (passes_of rfl) rfl (pi_enumT (by rfl) B.b_enumerate (pa_cons (pv 1) pa_nil)) (pg_tup (by rfl) (pgs_cons (pg_name (i := 3) sc_check_part.nd rfl (Or.inl rfl)) (pgs_cons (pg_name (i := 4) sc_check_part.nd rfl (Or.inl rfl)) pgs_nil))) (pss_cons (ps_set (i := 5) sc_check_part.nd rfl (Or.inl rfl) (pe_or (pe_not (pe_cal c_is_name (hr.mono (by decide)) (pa_cons (pv 4) pa_nil))) (pe_one (pe_not (pe_cal c_rises (hr.mono (by decide)) (pa_cons (pv 1) (pa_cons (pv 3) pa_nil)))))))
      (pss_one (ps_if (PW.pt (pw_or (pt_val (pv 5)) (pw_or (pt_cmpR op_ge (pe_op op_add (pe_callB call_len_seq (by rfl) B.b_len PySem.boot_len (pa_cons (pv 2) pa_nil)) (pv 3)) (pe_glob (v := .int 8) rfl mM ⟨_, rfl⟩) (nomark _)) (pw_or1 (pt_cmpR op_in_seq (pv 4) (pv 2) rfl))))) (pss_one (ps_raise rfl (takes_of rfl rfl rfl rfl) (pmk_err2 e_InvalidCondition (hr.mono (by decide)) (pv 0) (pv 3)))) pss_nil))))), ?_⟩
  refine ⟨.ref a, rfl, a, _, rfl, hS, for_it walk_enumT (fun i σ H' => ∃ y1 y2 y3, σ = [some (.int part), some (.ref a), some (.ref b), y1, y2, y3] ∧ Same H H' ∧ ∀ j, j < i → wrongAt xs ys j = false)
    ⟨none, none, none, rfl, Same.refl H, fun j hj => absurd hj (Nat.not_lt_zero j)⟩ (fun i σ H' _ ⟨_, _, _, _, s, _⟩ => s.tup hS) ?_ ?_⟩
  · rintro i x σ H2 H3 hi ⟨y1, y2, y3, rfl, s, hb⟩ ⟨T, v1, v2, rfl, nT, rfl, h1, h2⟩
    obtain rfl : V.int (i : Nat) = v1 := Option.some.inj h1
    rw [List.length_map] at hi
    have hx : xs[i]? = some xs[i] := List.getElem?_eq_getElem hi
    obtain rfl : V.str xs[i] = v2 := strAt_inj hx h2
    have s3 : Same H (upd H2 T (.tup [.int (i : Nat), .str xs[i]])) := s.put' nT
    have rz : ∀ {H' : Hp}, wrongAt xs ys i = true → Same H H' → ∀ d, H' d = none → E (.ref CC) (some d) (upd H' d (.xd [(("index" : Str), .int (i : Nat)), (("part" : Str), .int part)])) := fun {H'} hp sH d nd => e i (find_at hi hp hb) H' d sH nd
    refine ⟨T, [.int (i : Nat), .str xs[i]], rfl, sqT_new, rfl, _, _, rfl, _, _, rfl, rfl, ?_⟩
    have ew : wrongAt xs ys i = ((!isName xs[i] || !risesAt xs i) || (decide (8 ≤ ys.length + i) || decide (xs[i] ∈ ys))) := by unfold wrongAt; rw [hx]
    have fk : FOk (.int part) ∧ FOk (.int (i : Nat)) := ⟨fok_nat (by omega), fok_nat (by omega)⟩
    refine ⟨_, rfl, xs[i], rfl, Nat.le_trans (hT _ (List.getElem_mem hi)) (by rw [sizeLine_eq]; decide), fun H4 s4 => ⟨_, rfl, _, rfl, bcase (fun c1 => ?_) (fun c1 => ?_)⟩⟩
    · exact ⟨_, rfl, _, rfl, iteT (iteT ⟨_, rfl, _, rfl, fk, rz (by rw [ew, c1, Bool.true_or, Bool.true_or]) (s3.trans s4)⟩)⟩
    · have s5 := s3.trans s4
      rw [c1, Bool.false_or] at ew
      refine ⟨.ref a, rfl, .int i, rfl, a, xs, i, rfl, s5.tup hS, hi, _, rfl, ?_⟩
      refine ⟨_, rfl, _, rfl, bcase (fun c2 => ?_) (fun c2 => ?_)⟩
      · exact iteT ⟨_, rfl, _, rfl, fk, rz (by rw [ew, c2, Bool.true_or]) s5⟩
      · rw [c2, Bool.false_or] at ew
        refine ⟨.ref b, rfl, b, _, rfl, .inr (s5.tup hY), .int i, rfl, _, i, rfl, rfl, _, 8, rfl, rfl, _, rfl, ?_⟩
        rw [List.length_map]
        by_cases h8 : 8 ≤ ys.length + i
        · rw [decide_eq_true (show (8 : Int) ≤ (ys.length : Int) + (i : Int) by omega)]
          exact iteT (iteT ⟨_, rfl, _, rfl, fk, rz (by rw [ew, decide_eq_true h8, Bool.true_or]) s5⟩)
        · rw [decide_eq_false (show ¬ (8 : Int) ≤ (ys.length : Int) + (i : Int) by omega)]
          rw [decide_eq_false h8, Bool.false_or] at ew
          refine iteF ⟨.str xs[i], rfl, .ref b, rfl, b, _, rfl, .inr (s5.tup hY), rfl, flat_strs ys, _, rfl, bcase (fun c3 => ?_) (fun c3 => ?_)⟩
          · have c3 : decide (xs[i] ∈ ys) = true := by rw [← inV_str]; exact c3
            exact ⟨_, rfl, _, rfl, fk, rz (by rw [ew, c3]) s5⟩
          · have c3 : decide (xs[i] ∈ ys) = false := by rw [← inV_str]; exact c3
            refine ⟨_, _, _, rfl, s5, fun j hj => ?_⟩
            by_cases hj2 : j < i
            · exact hb j hj2
            · have ej : j = i := by omega
              subst ej
              rw [ew, c3]
  · rintro σ H2 ⟨y1, y2, y3, rfl, s, hb⟩
    rw [List.length_map] at hb
    exact q (find_none hb) H2 s
def sp_merged (K : PySem.W.Frag) : Sp := fun vs H Q _ => ∃ (a b : Addr) (xs ys : List Str), vs = [.ref a, .ref b] ∧ SqT K H a (xs.map V.str) ∧ SqT K H b (ys.map V.str) ∧ xs.length + ys.length < 64 ∧
  ∀ H' p (zs : List Str), Same H H' → H' p = some (.tup (zs.map V.str)) → zs.Perm (xs ++ ys.filter fun y => !decide (y ∈ xs)) → sortedS zs = true → Q (.ref p) H'
theorem ok_merged {f : Addr} {fd : FuncData} (F : Fun K "merged" "merged" s_merged f fd) (B : Blt mg) : FnOk P w K mg base CX0 1 f fd ["names", "others"] (sp_merged K) := by
  refine F.ok sc_merged (fun vs H Q E h => by obtain ⟨a, b, xs, ys, rfl, _⟩ := h; rfl) (fun cdv A outer s H vs Q E hr h => ?_)
  obtain ⟨a, b, xs, ys, rfl, hS, hY, hl, q⟩ := h
  refine ⟨_, (pss_one (ps_ret (pe_callTy call_tuple_of (by rfl) B.b_tuple PyProof.Rows.boot_tuple (pa_cons (pe_callB cr_sortedS (by rfl) B.b_sorted (by decide +kernel) (pa_cons (pe_op op_cat (pe_callTy call_list_of (by rfl) B.b_list PyProof.Rows.boot_list (pa_cons (pv 0) pa_nil)) (pe_lc (own := [("name", 2)]) (g := gName 2) rfl sc_merged.nd (pi_tup (pv 1)) (blkOk_by (own := [("name", 2)]) (N := ["names", "others", "name"]) (sc := defScope s_merged) (by decide +kernel)) (fun _ _ _ _ _ => (pg_name (i := 2) sc_merged.nd rfl (Or.inl rfl))) (fun _ _ _ _ _ => (pts_.re (pts_one (pt_cmpR op_notIn_seq (pv 2) (pv 0) rfl)) (by first | (dsimp only [Cx.blk]; done) | exact rfl))) (fun _ _ _ _ _ => (pe_.re (pv 2) (by first | (dsimp only [Cx.blk]; done) | exact rfl))))) pa_nil)) pa_nil)))), ?_⟩
  have big : ∀ {m : Nat}, m ≤ 1000 → m ≤ sizeLine := fun {m} h => by rw [sizeLine_eq]; omega
  refine ⟨.ref a, rfl, a, _, rfl, .inr hS, fun l nl => ?_⟩
  have s1 := (Same.refl H).put (o := .lst (xs.map V.str)) nl
  have e1 : (upd H l (.lst (xs.map V.str))) l = some (.lst (xs.map V.str)) := upd_same
  generalize upd H l (.lst (xs.map V.str)) = H1 at s1 e1 ⊢
  refine ⟨.ref b, rfl, b, rfl, ⟨_, s1.tup hY⟩, fun D nD => lc_it walk_tup (fun i H' => Same H1 H' ∧ H' D = some (.lst (((ys.take i).filter fun y => !decide (y ∈ xs)).map V.str))) ⟨(Same.refl H1).put nD, upd_same⟩ (fun _ _ _ h => (s1.trans h.1).tup hY) ?_ ?_⟩
  · rintro i y H2 H3 hi ⟨s, e⟩ ⟨rfl, hy⟩
    rw [List.length_map] at hi
    have hx : ys[i]? = some ys[i] := List.getElem?_eq_getElem hi
    obtain rfl : V.str ys[i] = y := strAt_inj hx hy
    refine ⟨rfl, .str ys[i], rfl, .ref a, rfl, a, _, rfl, .inr ((s1.trans s).tup hS), rfl, flat_strs xs, _, rfl, bcase (fun c1 => ?_) (fun c1 => ?_)⟩
    · have c1 : (!decide (ys[i] ∈ xs)) = true := by rw [← inV_str]; exact c1
      refine ⟨_, rfl, grow (acc := fun i => ((ys.take i).filter fun y => !decide (y ∈ xs)).map V.str) nD s e ?_ ?_⟩
      · rw [List.length_map]
        refine small1000 (Nat.le_trans (List.length_filter_le _ _) ?_)
        rw [List.length_take]
        omega
      · show List.map V.str _ = _
        rw [take_more hx, List.filter_append, List.map_append, filter1, if_pos c1]
        rfl
    · have c1 : (!decide (ys[i] ∈ xs)) = false := by rw [← inV_str]; exact c1
      refine ⟨s, ?_⟩
      rw [take_more hx, List.filter_append, filter1, if_neg (by rw [c1]; exact Bool.false_ne_true), List.append_nil]
      exact e
  · rintro H2 ⟨s, e⟩
    rw [List.length_map, List.take_length] at e
    have hfl := List.length_filter_le (fun y => !decide (y ∈ xs)) ys
    refine ⟨l, D, _, _, rfl, rfl, s _ _ e1, e, big (by rw [List.length_map, List.length_map]; omega), fun p np => ?_⟩
    have s2 := (s1.trans s).put' (o := .lst (xs.map V.str ++ (ys.filter fun y => !decide (y ∈ xs)).map V.str)) np
    refine ⟨p, xs ++ ys.filter fun y => !decide (y ∈ xs), rfl, ?_, ?_, fun zs p2 hp hs np2 => ?_⟩
    · rw [List.map_append]
      exact sqL_new
    · rw [List.length_append]
      omega
    · refine ⟨p2, _, rfl, .inl ⟨sqL_new, fun p3 np3 => q _ p3 zs ((s2.put' np2).put' np3) upd_same hp hs⟩⟩
end
end Sc
namespace Sc
open PySem PySem.Spec PyProof.Rows L2
/-! ### an object Condition -/
theorem sc_Condition___init__ : FnScope ["self", "holding", "failing"] ["self", "holding", "failing"] (defScope s_Condition___init__) := ⟨rfl, rfl, rfl, by decide +kernel, rfl, by decide +kernel, by decide +kernel⟩
section
variable {P : Program} {w : World} {K : PySem.W.Frag} {mg : Str → Option Value} {base : Heap} {CC C : Addr}
theorem wrongs_none {xs ys : List Str} (h : firstWrong xs ys = none) (i : Nat) (hi : i < xs.length) : ((!isName xs[i] || !risesAt xs i) = false ∧ ¬ 8 ≤ ys.length + i) ∧ ¬ xs[i] ∈ ys := by
  unfold firstWrong at h
  rw [List.find?_eq_none] at h
  have h := (Bool.not_eq_true _).mp (h i (List.mem_range.mpr hi))
  unfold wrongAt at h
  rw [List.getElem?_eq_getElem hi] at h
  dsimp only at h
  rw [Bool.or_eq_false_iff, Bool.or_eq_false_iff (x := decide _)] at h
  exact ⟨⟨h.1, of_decide_eq_false h.2.1⟩, of_decide_eq_false h.2.2⟩
theorem fw_len {xs ys : List Str} (h : firstWrong xs ys = none) : xs.length = 0 ∨ ys.length + xs.length ≤ 8 := by
  by_cases e : xs.length = 0
  · exact .inl e
  · have := (wrongs_none h (xs.length - 1) (by omega)).1.2
    exact .inr (by omega)
theorem fw_out {xs ys : List Str} (h : firstWrong xs ys = none) : ∀ x ∈ xs, ¬ x ∈ ys := by
  intro x hx
  obtain ⟨i, hi, rfl⟩ := List.getElem_of_mem hx
  exact (wrongs_none h i hi).2
theorem filter_out {xs ys : List Str} (h : ∀ x ∈ xs, ¬ x ∈ ys) : xs.filter (fun x => !decide (x ∈ ys)) = xs := by
  rw [List.filter_eq_self]
  intro x hx
  rw [decide_eq_false (h x hx)]
  rfl
/-- all but the object at x stands -/
def SameX (x : Addr) (H H' : Hp) : Prop := ∀ b o, b ≠ x → H b = some o → H' b = some o
/-- the fields of a condition -/
def condF (a b n : Addr) : List (Str × V) := putF "_names" (.ref n) (putF "_failing" (.ref b) (putF "_holding" (.ref a) []))
def sp_cond_init (K : PySem.W.Frag) (C CC : Addr) : Sp := fun vs H Q E => ∃ (x dx a b : Addr) (xs ys : List Str), vs = [.ref x, .ref a, .ref b] ∧ H x = some (.ins C dx []) ∧ SqT K H a (xs.map V.str) ∧ SqT K H b (ys.map V.str) ∧ Txts xs ∧ Txts ys ∧ xs.length ≤ 1000 ∧ ys.length ≤ 1000 ∧
  (∀ i, firstWrong xs [] = some i → errPI CC ((0 : Nat) : Int) i H E) ∧ (firstWrong xs [] = none → (∀ i, firstWrong ys xs = some i → errPI CC ((1 : Nat) : Int) i H E) ∧
  (firstWrong ys xs = none → ∀ H' n zs, SameX x H H' → H' x = some (.ins C dx (condF a b n)) → H' n = some (.tup (zs.map V.str)) → zs.Perm (xs ++ ys) → sortedS zs = true → Q .non H'))
theorem sqT_upd {H : Hp} {x dx a' : Addr} {fs : List (Str × V)} {o : HO} {vs : List V} (hx : H x = some (.ins C dx fs)) (h : SqT K H a' vs) : SqT K (upd H x o) a' vs := by
  rcases h with (h | ⟨ob, h⟩) | h
  · have ne : a' ≠ x := fun e => by rw [e, hx] at h; cases h
    exact .inl (.inl (by rw [upd_ne ne]; exact h))
  · have ne : a' ≠ x := fun e => by rw [e, hx] at h; cases h
    exact .inl (.inr ⟨ob, by rw [upd_ne ne]; exact h⟩)
  · exact .inr h
theorem putF_len (f : Str) (v : V) : ∀ fs : List (Str × V), (putF f v fs).length ≤ fs.length + 1
  | [] => Nat.le_refl 1
  | (g, x) :: r => by
    unfold putF
    split
    · exact Nat.le_succ _
    · show (putF f v r).length + 1 ≤ r.length + 1 + 1
      exact Nat.succ_le_succ (putF_len f v r)
theorem ok_cond_init {f : Addr} {fd : FuncData} (F : Fun K "__init__" "Condition.__init__" s_Condition___init__ f fd) (B : Blt mg) (T : Cls K C) (n1 : NoAttr K C "_holding") (n2 : NoAttr K C "_failing") (n3 : NoAttr K C "_names")
    (c_check_part : Cal P w K mg base (L2.CX P w) 3 "check_part" ["part", "names", "before"] (sp_check_part K CC)) (c_merged : Cal P w K mg base CX0 1 "merged" ["names", "others"] (sp_merged K)) :
    FnOk P w K mg base (L2.CX P w) 4 f fd ["self", "holding", "failing"] (sp_cond_init K C CC) := by
  refine F.okX sc_Condition___init__ (fun vs H Q E h => by obtain ⟨x, dx, a, b, xs, ys, rfl, _⟩ := h; rfl) (fun cdv A outer s H vs Q E hr h => ?_)
  obtain ⟨x, dx, a, b, xs, ys, rfl, hx, hA, hB, tA, tB, lA, lB, e0, q⟩ := h
  refine ⟨_, (pss_cons (ps_expr (pe_calX c_check_part (hr.mono (by decide)) (takes_of rfl rfl rfl rfl) (pa_cons pe_int (pa_cons (pv 1) (pa_cons (pe_tup pa_nil) pa_nil)))))
      (pss_cons (ps_expr (pe_calX c_check_part (hr.mono (by decide)) (takes_of rfl rfl rfl rfl) (pa_cons pe_int (pa_cons (pv 2) (pa_cons (pv 1) pa_nil)))))
      (pss_cons (ps_fld (pv 0) (pv 1) rfl)
      (pss_cons (ps_fld (pv 0) (pv 2) rfl)
      (pss_one (ps_fld (pv 0) (pe_cal c_merged (hr.mono (by decide)) (pa_cons (pv 1) (pa_cons (pv 2) pa_nil))) rfl)))))), ?_⟩
  refine ⟨.ref a, rfl, Nat.zero_le _, fun t nt => ⟨0, a, t, xs, [], rfl, by decide, ((Same.refl H).put nt).tup hA, sqT_new, tA, lA, by decide, fun e1 H1 s1 => ?_, fun i ei H' d sH nd => e0 i ei H' d (((Same.refl H).put nt).trans sH) nd⟩⟩
  obtain ⟨e1', q⟩ := q e1
  have s1 := ((Same.refl H).put nt).trans s1
  refine ⟨.ref b, rfl, .ref a, rfl, 1, b, a, ys, xs, rfl, by decide, s1.tup hB, s1.tup hA, tB, lB, lA, fun e2 H2 s2 => ?_, fun i ei H' d sH nd => e1' i ei H' d (s1.trans sH) nd⟩
  have s2 := s1.trans s2
  have q := q e2
  have hlen : xs.length + ys.length < 64 := by
    have h1 := fw_len e1
    have h2 := fw_len e2
    simp only [List.length_nil] at h1
    omega
  have hx2 := s2 _ _ hx
  refine ⟨.ref a, rfl, .ref x, rfl, x, C, dx, [], rfl, hx2, T, n1, by decide, ?_⟩
  refine ⟨.ref b, rfl, .ref x, rfl, x, C, dx, _, rfl, upd_same, T, n2, Nat.lt_of_le_of_lt (putF_len _ _ _) (by decide), ?_⟩
  refine ⟨.ref a, rfl, .ref b, rfl, a, b, xs, ys, rfl, ?_, ?_, hlen, fun H' p zs sH ep hperm hsort => ?_⟩
  · exact sqT_upd upd_same (sqT_upd hx2 (s2.tup hA))
  · exact sqT_upd upd_same (sqT_upd hx2 (s2.tup hB))
  · rw [filter_out (fw_out e2)] at hperm
    refine ⟨.ref x, rfl, x, C, dx, _, rfl, sH _ _ upd_same, T, n3, Nat.lt_of_le_of_lt (putF_len _ _ _) (Nat.lt_of_le_of_lt (Nat.succ_le_succ (putF_len _ _ _)) (by decide)), q _ p zs (fun b' o ne hb => ?_) upd_same ?_ hperm hsort⟩
    · rw [upd_ne ne]
      refine sH _ _ ?_
      rw [upd_ne ne, upd_ne ne]
      exact s2 _ _ hb
    · have ne : p ≠ x := fun e => by
        have h2 := sH _ _ (upd_same (H := upd H2 x (.ins C dx (putF "_holding" (.ref a) []))) (a := x) (o := .ins C dx (putF "_failing" (.ref b) (putF "_holding" (.ref a) []))))
        rw [e, h2] at ep
        cases ep
      rw [upd_ne ne]
      exact ep
end
end Sc
namespace Sc
open PySem PySem.Spec PyProof.Rows L2
/-- len(o), o an object whose class has its own __len__ -/
def rLenO (C : Addr) (sp : Sp) : List V → Hp → VK → Prop := fun xs H Q => ∃ (a dx : Addr) (fs : List (Str × V)), xs = [.ref a] ∧ H a = some (.ins C dx fs) ∧ sp [.ref a] H (fun v H' => ∃ n : Nat, v = .int n ∧ n < 2 ^ 62 ∧ Q (.int n) H') (fun _ _ _ => False)
theorem call_lenO {X : Cx} {C g : Addr} {k : Nat} {fd : FuncData} {ps : List Str} {sp : Sp} (at_ : PySem.W.findIn X.K (.ref C) "__len__" = some (some (.ref g))) (ty : PySem.W.typeIn X.K (.ref g) = some (.type "function"))
    (F : FnOk X.prog X.w X.K X.mg X.base CX0 k g fd ps sp) (hr : Room (k + 1) X.A) (hb : Binds X.K fd ps []) : CallR X (.builtin "len") (rLenO C sp) := by
  intro pins s σ H xs us Q I r h
  obtain ⟨a, dx, fs, rfl, ea, h⟩ := h
  obtain ⟨u, rfl, ru⟩ := vals1 r
  obtain rfl : u = Value.ref a := ru
  obtain ⟨mA, O, _⟩ := ins_get I.hok ea
  obtain ⟨od, J, _⟩ := ObjM.look O
  have hl : ([Value.ref a] ++ ([] : List Value)).length = ps.length := F.len _ _ _ _ h
  refine Calls.call_function_entry kind_len plain_len entry_len (args_len1 (.ref a)) ?_
  unfold Builtin.len
  rw [show oneArg "len" { pos := [Value.ref a] } = pure (.ref a) from rfl, pure_bind]
  refine wpAny_bind (PySem.W.special_fn I.kIn J at_ ty (wpAny_call (codeAny_mono (F.run X.A.in1 X.stack s H ⟨[.ref a], []⟩ [.ref a] [.ref a] _ _ (Room.in1 hr) (Env0.in1 I.env0) (hb s [.ref a] I.kIn hl) (Paired.cons rfl .nil) h) fun res s' hq => ?_)))
  cases res with
  | error e => exact hq.elim
  | ok fl =>
    cases fl with
    | ret v =>
      obtain ⟨y, H', I', ry, n, rfl, hn, q⟩ := I.after hq
      obtain ⟨t, rfl⟩ := ry
      dsimp only
      have e62 : (2 : Nat) ^ 62 < 2 ^ 63 := by decide
      refine wpAny_bind (wpAny_holding (wpAny_pure (wpAny_bind (wpAny_letGo ?_))))
      have h1 : ¬ (n : Int) < 0 := by omega
      have h2 : ¬ (n : Int) ≥ 2 ^ 63 := by
        have : (n : Int) < 2 ^ 62 := by exact_mod_cast hn
        omega
      rw [if_neg h1, if_neg h2]
      exact wpAny_bind (wpAny_mkInt (wpAny_pure ⟨_, rfl, .int n, H', I'.tok _, ⟨_, rfl⟩, q⟩))
    | next => exact hq.elim
    | brk => exact hq.elim
    | cont => exact hq.elim
end Sc
namespace Sc
open PySem PySem.Spec PyProof.Rows L2
section
variable {P : Program} {w : World} {K : PySem.W.Frag} {mg : Str → Option Value} {base : Heap} {a l : Addr} {H H' H'' : Hp}
theorem wk_ss {X : Cx} {st : List Stmt} {t : TS} (t' : TS) (h : PSs X st t) (w : ∀ D σ H, t' D σ H → t D σ H) : PSs X st t' := ⟨fun pins s σ H D I x => h.run pins s σ H D I (w D σ H x)⟩
/-- a class whose objects a def of its own makes -/
structure Mkr (P : Program) (w : World) (K : PySem.W.Frag) (mg : Str → Option Value) (base : Heap) (k : Nat) (x : Str) (C : Addr) (ps : List Str) (sp : Sp) : Prop where
  ex : ∃ (f : Addr) (fd : FuncData), Mk K C f ∧ FnOk P w K mg base (L2.CX P w) k f fd ps sp ∧ mg x = some (.ref C) ∧ Binds K fd ps []
section
variable {X : Cx} {k : Nat} {x : Str} {C : Addr} {ps : List Str} {sp : Sp} {e : Expr} {es : List Expr} {t : TA} {p pos : Pos}
theorem pe_mkN (M : Mkr X.prog X.w X.K X.mg X.base k x C ps sp) (hr : Room (k + 1) X.A) (ha : PA X (e :: es) t) (hg : Gl X x := by rfl) (hdb : (x == ("__debug__" : Str)) = false := by decide)
    (he : starEach (e :: es) X.env = (false, eval e X.env) :: starEach es X.env := by rfl) (hpl : (backTo pos (starEach es X.env)).any (·.1) = false := by rfl) : PE X (.Call (.Name x p) (e :: es) [] pos) (tMake C sp [] E0 t) := by
  obtain ⟨f, fd, hk, F, hm, hb⟩ := M.ex
  exact pe_make hk F hr hg hm hb .nil passL ha hdb he hpl
theorem pe_mkX {E : XK} (M : Mkr X.prog X.w X.K X.mg X.base k x C ps sp) (hr : Room (k + 1) X.A) (tk : Takes X (fun cls d _ H => E cls d H)) (ha : PA X (e :: es) t) (hg : Gl X x := by rfl) (hdb : (x == ("__debug__" : Str)) = false := by decide)
    (he : starEach (e :: es) X.env = (false, eval e X.env) :: starEach es X.env := by rfl) (hpl : (backTo pos (starEach es X.env)).any (·.1) = false := by rfl) : PE X (.Call (.Name x p) (e :: es) [] pos) (tMake C sp [] E t) := by
  obtain ⟨f, fd, hk, F, hm, hb⟩ := M.ex
  exact pe_make hk F hr hg hm hb .nil (fun pins σ H s e s' I h => passAt tk σ pins H s e s' I h) ha hdb he hpl
end
def sp_prop (C : Addr) (n : Str) : Sp := fun vs H Q _ => ∃ (x dx : Addr) (fs : List (Str × V)) (v : V), vs = [.ref x] ∧ H x = some (.ins C dx fs) ∧ fs.lookup n = some v ∧ Q v H
def sp_len (K : PySem.W.Frag) (C : Addr) : Sp := fun vs H Q _ => ∃ (x dx n : Addr) (fs : List (Str × V)) (zs : List V), vs = [.ref x] ∧ H x = some (.ins C dx fs) ∧ fs.lookup ("_names" : Str) = some (.ref n) ∧ SqT K H n zs ∧ Q (.int zs.length) H
structure CondC (P : Program) (w : World) (K : PySem.W.Frag) (mg : Str → Option Value) (base : Heap) (C p1 g1 p2 g2 p3 g3 g4 : Addr) (fd1 fd2 fd3 fd4 : FuncData) : Prop where
  cls : Cls K C
  p_holding : PropOf K C "holding" p1 g1 ∧ FnOk P w K mg base CX0 1 g1 fd1 ["self"] (sp_prop C "_holding") ∧ Binds K fd1 ["self"] []
  p_failing : PropOf K C "failing" p2 g2 ∧ FnOk P w K mg base CX0 1 g2 fd2 ["self"] (sp_prop C "_failing") ∧ Binds K fd2 ["self"] []
  p_names : PropOf K C "names" p3 g3 ∧ FnOk P w K mg base CX0 1 g3 fd3 ["self"] (sp_prop C "_names") ∧ Binds K fd3 ["self"] []
  lenAt : PySem.W.findIn K (.ref C) "__len__" = some (some (.ref g4))
  lenTy : PySem.W.typeIn K (.ref g4) = some (.type "function")
  lenF : FnOk P w K mg base CX0 1 g4 fd4 ["self"] (sp_len K C)
  lenB : Binds K fd4 ["self"] []
end
end Sc
namespace Sc
open PySem PySem.Spec PyProof.Rows L2
theorem sc_Condition_holding : FnScope ["self"] ["self"] (defScope s_Condition_holding) := ⟨rfl, rfl, rfl, by decide +kernel, rfl, by decide +kernel, by decide +kernel⟩
theorem sc_Condition_failing : FnScope ["self"] ["self"] (defScope s_Condition_failing) := ⟨rfl, rfl, rfl, by decide +kernel, rfl, by decide +kernel, by decide +kernel⟩
theorem sc_Condition_names : FnScope ["self"] ["self"] (defScope s_Condition_names) := ⟨rfl, rfl, rfl, by decide +kernel, rfl, by decide +kernel, by decide +kernel⟩
theorem sc_Condition___len__ : FnScope ["self"] ["self"] (defScope s_Condition___len__) := ⟨rfl, rfl, rfl, by decide +kernel, rfl, by decide +kernel, by decide +kernel⟩
section
variable {P : Program} {w : World} {K : PySem.W.Frag} {mg : Str → Option Value} {base : Heap} {C : Addr}
theorem ok_holding {f : Addr} {fd : FuncData} (F : Fun K "holding" "Condition.holding" s_Condition_holding f fd) (T : Cls K C) (n : NoAttr K C "_holding") : FnOk P w K mg base CX0 1 f fd ["self"] (sp_prop C "_holding") := by
  refine F.ok sc_Condition_holding (fun vs H Q E h => by obtain ⟨x, dx, fs, v, rfl, _⟩ := h; rfl) (fun cdv A outer s H vs Q E hr h => ?_)
  obtain ⟨x, dx, fs, v, rfl, hx, hl, q⟩ := h
  exact ⟨_, (pss_one (ps_ret (pe_fld (pv 0) rfl))), ⟨_, rfl, x, C, dx, fs, v, rfl, hx, T, n, hl, q⟩⟩
theorem ok_failing {f : Addr} {fd : FuncData} (F : Fun K "failing" "Condition.failing" s_Condition_failing f fd) (T : Cls K C) (n : NoAttr K C "_failing") : FnOk P w K mg base CX0 1 f fd ["self"] (sp_prop C "_failing") := by
  refine F.ok sc_Condition_failing (fun vs H Q E h => by obtain ⟨x, dx, fs, v, rfl, _⟩ := h; rfl) (fun cdv A outer s H vs Q E hr h => ?_)
  obtain ⟨x, dx, fs, v, rfl, hx, hl, q⟩ := h
  exact ⟨_, (pss_one (ps_ret (pe_fld (pv 0) rfl))), ⟨_, rfl, x, C, dx, fs, v, rfl, hx, T, n, hl, q⟩⟩
theorem ok_cnames {f : Addr} {fd : FuncData} (F : Fun K "names" "Condition.names" s_Condition_names f fd) (T : Cls K C) (n : NoAttr K C "_names") : FnOk P w K mg base CX0 1 f fd ["self"] (sp_prop C "_names") := by
  refine F.ok sc_Condition_names (fun vs H Q E h => by obtain ⟨x, dx, fs, v, rfl, _⟩ := h; rfl) (fun cdv A outer s H vs Q E hr h => ?_)
  obtain ⟨x, dx, fs, v, rfl, hx, hl, q⟩ := h
  exact ⟨_, (pss_one (ps_ret (pe_fld (pv 0) rfl))), ⟨_, rfl, x, C, dx, fs, v, rfl, hx, T, n, hl, q⟩⟩
theorem ok_clen {f : Addr} {fd : FuncData} (F : Fun K "__len__" "Condition.__len__" s_Condition___len__ f fd) (B : Blt mg) (T : Cls K C) (n : NoAttr K C "_names") : FnOk P w K mg base CX0 1 f fd ["self"] (sp_len K C) := by
  refine F.ok sc_Condition___len__ (fun vs H Q E h => by obtain ⟨x, dx, m, fs, zs, rfl, _⟩ := h; rfl) (fun cdv A outer s H vs Q E hr h => ?_)
  obtain ⟨x, dx, m, fs, zs, rfl, hx, hl, hz, q⟩ := h
  exact ⟨_, (pss_one (ps_ret (pe_callB call_len_seq (by rfl) B.b_len PySem.boot_len (pa_cons (pe_fld (pv 0) rfl) pa_nil)))), ⟨_, rfl, x, C, dx, fs, _, rfl, hx, T, n, hl, m, _, rfl, .inr hz, q⟩⟩
end
end Sc
namespace Sc
open PySem PySem.Spec PyProof.Rows L2
def SLe (a b : Str) : Prop := a.cps.toList ≤ b.cps.toList
theorem rising_pw : ∀ (x : Str) (r : List Str), risingS x r = true → (∀ y ∈ r, SLe x y) ∧ r.Pairwise SLe
  | _, [], _ => ⟨(fun _ h => nomatch h), List.Pairwise.nil⟩
  | x, y :: r, h => by
    have h : (!ltCps y.cps.toList x.cps.toList && risingS y r) = true := h
    rw [Bool.and_eq_true, ltCps_eq] at h
    obtain ⟨h1, h2⟩ := h
    obtain ⟨i1, i2⟩ := rising_pw y r h2
    have hxy : SLe x y := by
      have h1 : ¬ y.cps.toList < x.cps.toList := by simpa using h1
      exact h1
    refine ⟨fun z hz => ?_, List.pairwise_cons.mpr ⟨i1, i2⟩⟩
    rcases List.mem_cons.mp hz with rfl | h
    · exact hxy
    · exact List.le_trans hxy (i1 z h)
theorem sorted_pw : ∀ {r : List Str}, sortedS r = true → r.Pairwise SLe
  | [], _ => .nil
  | x :: r, h => List.pairwise_cons.mpr (rising_pw x r h)
theorem str_ext {a b : Str} (h : a.cps.toList = b.cps.toList) : a = b := by
  obtain ⟨x⟩ := a
  obtain ⟨y⟩ := b
  congr 1
  exact Array.toList_inj.mp h
theorem sorted_uniq {a b : List Str} (p : a.Perm b) (sa : sortedS a = true) (sb : sortedS b = true) : a = b :=
  List.Perm.eq_of_pairwise (le := SLe) (fun x y _ _ h1 h2 => str_ext (List.le_antisymm h1 h2)) (sorted_pw sa) (sorted_pw sb) p
end Sc
namespace OwnX
open PySem PySem.Spec PyProof.Rows PySem.W
section
variable {prog : Program} {w : World} {M : Model} {A : Around} {E : Value → Shared → Prop} {s : Shared} {K : Frag} {x C L f : Addr} {h₀ : Heap} {m : Str → Option Value} {ox : Obj} {od : Option Obj}
/-- x op b, both of the class at C -/
theorem bin_same {op : Operator} {b : Value} {Q : Value → Shared → Prop} (X : K.In s.heap) (I : InstAt s.heap x ox C od) (hb : Looks (model prog w) s.heap (typeOf b) (.ref C)) (hc : selfFirst K C = true)
    (hs : findIn K (.ref C) (PySem.dunder op.info.2) = some (some (.ref f))) (hf : isFn K (.ref f) = true)
    (h : wpAny (model prog w) A (call (.ref f) [.ref x, b]) (PySem.W.CmpBack Q) E s) : wpAny (model prog w) A (binaryOp op (.ref x) b) Q E s := by
  obtain ⟨cd, rest, hcd, hm⟩ := ksp_first hc
  rcases hi : op.info with ⟨sym, nm'⟩
  rw [hi] at hs
  dsimp only at hs
  have one := ksp_try X I hs hf h
  obtain ⟨hh, g, d, tt, os⟩ := s
  have L1 : Looks (model prog w) hh (typeOf (.ref x)) (.ref C) := I.type
  have L3 : Looks (model prog w) hh (fillsNumberSlot (.ref C) nm') true := fills_K X hcd hm hs
  simp only [binaryOp, hi]
  refine wpAny_holding (wpAny_bind ?_)
  unfold binaryOp1
  refine wpAny_bind (L1.at (wpAny_bind (hb.at (wpAny_bind (L3.at ?_)))))
  have e : (Value.ref C == Value.ref C) = true := beq_self_eq_true _
  simp only [e, if_true]
  ksp_lk
  refine wpAny_mono one (fun r s' hr' => ?_) fun _ _ e => e
  obtain ⟨v, rfl, hq⟩ := hr'
  ksp_lk
  exact hq
theorem ifBound_ne {args : List Value} {Q : Option Value → Shared → Prop} (X : K.In s.heap) (I : InstAt s.heap x ox C od) (hs : findIn K (.ref C) "__ne__" = some (some (.builtin "object.__ne__")))
    (h : wpAny M A (call (.builtin "object.__ne__") (.ref x :: args)) (fun v => Q (some v)) E s) : wpAny M A (callSpecialIfBound? (.ref x) "__ne__" args) Q E s := by
  simp only [callSpecialIfBound?, bindSpecialIfBound?]
  refine wpAny_holding (wpAny_bind (wpAny_bind (wpAny_bind (I.type.here ((looks_findIn X hs).here ?_)))))
  refine wpAny_bind (wpAny_askSetting (wpAny_ite ?_))
  have fin : wpAny M A (call (.builtin "object.__ne__") ([.ref x] ++ args) >>= fun v => pure (some v)) Q E s := wpAny_bind (wpAny_mono h (fun v s' h' => wpAny_pure h') fun _ _ h' => h')
  split
  · exact wpAny_bind (wpAny_of_eq (F.cmp_object.ne.bind _) (wpAny_pure (by exact fin)))
  · exact wpAny_tryCatch (wpAny_bind (wpAny_of_eq (F.cmp_object.ne.bind _) (wpAny_pure (by exact fin))))
theorem entry_ne {b : Value} {Q : Fin → Shared → Prop} (X : K.In s.heap) (I : InstAt s.heap x ox C od) (hs : findIn K (.ref C) "__eq__" = some (some (.ref f))) (hf : isFn K (.ref f) = true) (hu : A.units < cLine)
    (h : wpAny (model prog w) A (call (.ref f) [.ref x, b]) (fun v s' => ∃ b, v = .bool b ∧ Q (.done (.ret (.bool (!b)))) s') E s) : wpAny (model prog w) A (Builtin.«object.__ne__» ⟨[.ref x, b], []⟩) Q E s := by
  unfold Builtin.«object.__ne__»
  repeat (first
    | with_reducible refine wpAny_cRoomFor hu ?_
    | (refine wpAny_bind (m := callSpecialIfBound? (.ref x) (Str.ofString "__eq__") [b])
        (ifBound_K X I hs hf (wpAny_mono h (fun r s' hr => by
          obtain ⟨b, rfl, hq⟩ := hr
          repeat (first | exact hq | exact wpAny_pure hq | exact wpAny_truthy_bool hq | (refine wpAny_bind (m := truthy (.bool _)) (wpAny_truthy_bool ?_)) | wp_step)) fun _ _ e => e)))
    | wp_step)
theorem try_ne {b : Value} {Q : Option Value → Shared → Prop} (X : K.In s.heap) (I : InstAt s.heap x ox C od) (hm : mroIn K C (.type "object") = some true) (hn : findIn K (.ref C) "__ne__" = some (some (.builtin "object.__ne__")))
    (hs : findIn K (.ref C) "__eq__" = some (some (.ref f))) (hf : isFn K (.ref f) = true) (hu : A.units + 1 < cLine)
    (h : wpAny (model prog w) A.in1 (call (.ref f) [.ref x, b]) (fun v s' => ∃ b, v = .bool b ∧ Q (some (.bool (!b))) s') E s) : wpAny (model prog w) A (tryCompare (.ref x) "__ne__" b) Q E s := by
  unfold tryCompare
  refine wpAny_bind (ifBound_ne X I hn (wpAny_call (codeAny_call_builtin F.cmp_object.ne.plain F.cmpEntry_ne (check_slot F.cmpKind_ne F.cmpSplit_ne (I.type.andThen (looks_mroIn X hm)) (F.cmpArgs_ne _ _)
    (entry_ne (A := A.in1) X I hs hf hu (wpAny_mono h (fun v s' hv => ?_) fun _ _ e => e))))))
  obtain ⟨b, rfl, hq⟩ := hv
  first | exact ⟨b, rfl, wpAny_pure hq⟩ | exact ⟨b, rfl, wpAny_pure (wpAny_pure hq)⟩ | exact ⟨b, rfl, hq⟩
theorem ne_K {b tb : Value} {Q : Value → Shared → Prop} (hu : A.units + 1 < cLine) (X : K.In s.heap) (I : InstAt s.heap x ox C od) (hb : Looks (model prog w) s.heap (typeOf b) tb) (hnf : notFirst K C tb = true)
    (hm : mroIn K C (.type "object") = some true) (hn : findIn K (.ref C) "__ne__" = some (some (.builtin "object.__ne__"))) (hs : findIn K (.ref C) "__eq__" = some (some (.ref f))) (hf : isFn K (.ref f) = true)
    (h : wpAny (model prog w) A.in1 (call (.ref f) [.ref x, b]) (fun v s' => ∃ b, v = .bool b ∧ Q (.bool (!b)) s') E s) : wpAny (model prog w) A (richCompare .NotEq (.ref x) b) Q E s := by
  have one : wpAny (model prog w) A (tryCompare (.ref x) "__ne__" b) (fun r s' => ∃ v, r = some v ∧ Q v s') E s := try_ne X I hm hn hs hf hu (wpAny_mono h (fun v s' ⟨b, e, q⟩ => ⟨b, e, _, rfl, q⟩) fun _ _ e => e)
  unfold richCompare
  simp only [oneThing_ref]
  refine wpAny_holding (wpAny_bind (wpAny_cRoomFor (Nat.lt_of_succ_lt hu) ?_))
  rw [cmpInfo_NotEq]
  dsimp only
  refine wpAny_bind (I.type.here (wpAny_bind (hb.here ?_)))
  split
  · rename_i q
    have e : subIn K tb (.ref C) = some false := by
      rcases Bool.or_eq_true_iff.mp hnf with e | e
      · rw [beq_iff_eq.mp e] at q; simp at q
      · exact beq_iff_eq.mp e
    refine wpAny_bind ((looks_subIn X e).here ?_)
    simp only [Bool.false_eq_true, if_false]
    refine wpAny_bind (wpAny_mono one (fun r s' z => ?_) fun _ _ e => e)
    obtain ⟨v, rfl, hq⟩ := z
    exact wpAny_pure hq
  · refine wpAny_bind (wpAny_pure ?_)
    simp only [Bool.false_eq_true, if_false]
    refine wpAny_bind (wpAny_mono one (fun r s' z => ?_) fun _ _ e => e)
    obtain ⟨v, rfl, hq⟩ := z
    exact wpAny_pure hq
end
end OwnX
namespace Sc
open PySem PySem.Spec PyProof.Rows L2
/-- a value's type, as comparisons ask for it -/
inductive TyR (K : PySem.W.Frag) (H : Hp) : V → Value → Prop where
  | non : TyR K H .non (.type "NoneType")
  | int (i : Int) : TyR K H (.int i) (.type "int")
  | str (x : Str) : TyR K H (.str x) (.type "str")
  | lst {a : Addr} {xs : List V} (e : SqL K H a xs) : TyR K H (.ref a) (.type "list")
  | tup {a : Addr} {xs : List V} (e : SqT K H a xs) : TyR K H (.ref a) (.type "tuple")
  | ins {a C dx : Addr} {fs : List (Str × V)} (e : H a = some (.ins C dx fs)) : TyR K H (.ref a) (.ref C)
section
variable {X : Cx} {CX : CXT} {C g : Addr} {k : Nat} {fd : FuncData} {ps : List Str} {sp : Sp} {E : XK}
theorem TyR.looks {pins : List (Addr × Obj)} {σ : L2.St} {H : Hp} {s : Shared} {y : V} {t u : Value} (I : Inv X pins σ H s) (h : TyR X.K H y t) (r : RelV y u) {prog : Program} {w : World} : PySem.W.Looks (model prog w) s.heap (typeOf u) t := by
  cases h with
  | non => cases r; exact PySem.W.Looks.of_pure rfl
  | int i => obtain ⟨t, rfl⟩ := r; exact PySem.W.Looks.of_pure rfl
  | str i => obtain ⟨t, rfl⟩ := r; exact PySem.W.Looks.of_pure rfl
  | lst e =>
    cases r
    obtain ⟨its, _, ⟨o, n, ho, hc, _⟩, _⟩ := I.list e
    exact fun A Q E s k q => wpAny_typeOf_ref (k _ _ ho) (by rw [hc]; exact q)
  | tup e =>
    cases r
    obtain ⟨its, _, ⟨o, ho, hc, _⟩, _⟩ := I.tuple e
    exact fun A Q E s k q => wpAny_typeOf_ref (k _ _ ho) (by rw [hc]; exact q)
  | ins e =>
    cases r
    obtain ⟨mA, O, _⟩ := ins_get I.hok e
    obtain ⟨od, J, _⟩ := O.look
    exact J.type
/-- x == y, x of the class at C with its own __eq__ at g -/
def rEqO (K : PySem.W.Frag) (C : Addr) (sp : Sp) (E : XK) : R2 := fun x y H Q => ∃ (a dx : Addr) (fs : List (Str × V)) (tb : Value), x = .ref a ∧ H a = some (.ins C dx fs) ∧ TyR K H y tb ∧ PySem.W.notFirst K C tb = true ∧ sp [x, y] H Q E
theorem op_eqO (hs : PySem.W.findIn X.K (.ref C) "__eq__" = some (some (.ref g))) (hf : PySem.W.isFn X.K (.ref g) = true) (F : FnOk X.prog X.w X.K X.mg X.base CX k g fd ps sp) (hr : Room k X.A) (hb : Binds X.K fd ps []) (hx : Passes CX X E) : OpR X (compareOp .Eq) (rEqO X.K C sp E) := by
  intro pins s σ H x y v u Q I rx ry h
  obtain ⟨a, dx, fs, tb, rfl, ha, hy, hn, q⟩ := h
  cases (show v = Value.ref a from rx)
  obtain ⟨mA, O, _⟩ := ins_get I.hok ha
  obtain ⟨od, J, _⟩ := O.look
  obtain ⟨m, hF⟩ := I.fr
  show wpAny _ _ (richCompare .Eq _ _) _ _ _
  refine PySem.W.cmp_K (op := .Eq) (tb := tb) hr.units0 hF I.ok.mod.kin J (hy.looks I ry) hn hs hf ?_
  refine wpAny_mono (run_fn (us := [.ref a, u]) (vs := [.ref a, y]) (dvs := []) F hr hb .nil hx I (.cons rfl (.cons ry .nil)) q) (fun w s' z => ?_) fun _ _ x => x
  obtain ⟨z', H', I', rz, qz⟩ := z
  exact SlX.cmpback rz ⟨z', H', I', rz, qz⟩
/-- x != y by the same -/
def rNeO (K : PySem.W.Frag) (C : Addr) (sp : Sp) (E : XK) : R2 := fun x y H Q => ∃ (a dx : Addr) (fs : List (Str × V)) (tb : Value), x = .ref a ∧ H a = some (.ins C dx fs) ∧ TyR K H y tb ∧ PySem.W.notFirst K C tb = true ∧ sp [x, y] H (fun v H' => ∃ b, v = .bl b ∧ Q (.bl (!b)) H') E
theorem op_neO (hm : PySem.W.mroIn X.K C (.type "object") = some true) (hne : PySem.W.findIn X.K (.ref C) "__ne__" = some (some (.builtin "object.__ne__"))) (hs : PySem.W.findIn X.K (.ref C) "__eq__" = some (some (.ref g))) (hf : PySem.W.isFn X.K (.ref g) = true)
    (F : FnOk X.prog X.w X.K X.mg X.base CX k g fd ps sp) (hr : Room (k + 1) X.A) (hb : Binds X.K fd ps []) (hx : Passes CX X E) : OpR X (compareOp .NotEq) (rNeO X.K C sp E) := by
  intro pins s σ H x y v u Q I rx ry h
  obtain ⟨a, dx, fs, tb, rfl, ha, hy, hn, q⟩ := h
  cases (show v = Value.ref a from rx)
  obtain ⟨mA, O, _⟩ := ins_get I.hok ha
  obtain ⟨od, J, _⟩ := O.look
  show wpAny _ _ (richCompare .NotEq _ _) _ _ _
  have hu : X.A.units + 1 < cLine := by have := hr.un; omega
  refine OwnX.ne_K hu I.kIn J (hy.looks I ry) hn hm hne hs hf ?_
  have hl : ([Value.ref a, u] ++ ([] : List Value)).length = ps.length := F.len _ _ _ _ q
  refine wpAny_call (codeAny_mono (F.run X.A.in1 X.stack s H ⟨[.ref a, u], []⟩ [.ref a, u] [.ref a, y] _ _ hr.in1 I.env0.in1 (hb s [.ref a, u] I.kIn hl) (.cons rfl (.cons ry .nil)) q) fun r s' hq => ?_)
  cases r with
  | error e => exact hx pins σ H s e s' I hq
  | ok fl =>
    cases fl with
    | ret w =>
      obtain ⟨v, H', I', rv, b, rfl, qz⟩ := I.after hq
      cases rv
      exact ⟨b, rfl, .bl (!b), H', I', rfl, qz⟩
    | next => exact hq.elim
    | brk => exact hq.elim
    | cont => exact hq.elim
/-- x op y, both of the class at C, whose own method for op is at g -/
def rBinO (C : Addr) (sp : Sp) (E : XK) : R2 := fun x y H Q => ∃ (a dx : Addr) (fs : List (Str × V)) (b dy : Addr) (gs : List (Str × V)), x = .ref a ∧ y = .ref b ∧ H a = some (.ins C dx fs) ∧ H b = some (.ins C dy gs) ∧ sp [x, y] H Q E
theorem op_binO {op : Operator} (hc : PySem.W.selfFirst X.K C = true) (hs : PySem.W.findIn X.K (.ref C) (PySem.dunder op.info.2) = some (some (.ref g))) (hf : PySem.W.isFn X.K (.ref g) = true)
    (F : FnOk X.prog X.w X.K X.mg X.base CX k g fd ps sp) (hr : Room k X.A) (hb : Binds X.K fd ps []) (hx : Passes CX X E) : OpR X (binaryOp op) (rBinO C sp E) := by
  intro pins s σ H x y v u Q I rx ry h
  obtain ⟨a, dx, fs, b, dy, gs, rfl, rfl, ha, hy, q⟩ := h
  cases (show v = Value.ref a from rx)
  cases (show u = Value.ref b from ry)
  obtain ⟨mA, O, _⟩ := ins_get I.hok ha
  obtain ⟨od, J, _⟩ := O.look
  obtain ⟨mA', O', _⟩ := ins_get I.hok hy
  obtain ⟨od', J', _⟩ := O'.look
  refine OwnX.bin_same I.kIn J J'.type hc hs hf ?_
  refine wpAny_mono (run_fn (us := [.ref a, .ref b]) (vs := [.ref a, .ref b]) (dvs := []) F hr hb .nil hx I (.cons rfl (.cons rfl .nil)) q) (fun w s' z => ?_) fun _ _ x => x
  obtain ⟨z', H', I', rz, qz⟩ := z
  exact SlX.cmpback rz ⟨z', H', I', rz, qz⟩
end
end Sc
namespace Sc
open PySem PySem.Spec PyProof.Rows L2
/-- texts that can be compared and are not long -/
def Fine (x : Str) : Prop := x.length ≤ 1000 ∧ (PyData.str x).canLay0 = true
def Fines (xs : List Str) : Prop := ∀ x ∈ xs, Fine x
section
variable {P : Program} {w : World} {K : PySem.W.Frag} {mg : Str → Option Value} {base : Heap} {a l : Addr} {H H' H'' : Hp}
theorem Fines.txts {xs : List Str} (h : Fines xs) : Txts xs := fun x hx => (h x hx).1
theorem dps (K : PySem.W.Frag) (H : Hp) : ∀ xs : List Str, DpAll K H (xs.map V.str) (xs.map PyData.str)
  | [] => .nil
  | x :: r => .cons (.str x) (dps K H r)
theorem strs_lay : ∀ {xs : List Str}, Fines xs → PyData.canLayAll0 (xs.map PyData.str) = true
  | [], _ => rfl
  | x :: r, h => by
    show ((PyData.str x).canLay0 && PyData.canLayAll0 (r.map PyData.str)) = true
    rw [(h x List.mem_cons_self).2, strs_lay fun y hy => h y (List.mem_cons_of_mem x hy)]
    rfl
theorem strs_depth : ∀ xs : List Str, PyData.depthAll (xs.map PyData.str) = 0
  | [] => rfl
  | x :: r => by
    show max (PyData.str x).depth (PyData.depthAll (r.map PyData.str)) = 0
    rw [strs_depth r]
    rfl
theorem shT {xs : List Str} (h : Fines xs) : SeqAt.shaped (.tuple (xs.map PyData.str)) = true := by
  unfold SeqAt.shaped
  have e1 : (PyData.tuple (xs.map PyData.str)).canLay0 = true := strs_lay h
  have e2 : (PyData.tuple (xs.map PyData.str)).depth = 1 := by show PyData.depthAll (xs.map PyData.str) + 1 = 1; rw [strs_depth]
  rw [e1, e2]
  rfl
theorem shL {xs : List Str} (h : Fines xs) : SeqAt.shaped (.list (xs.map PyData.str)) = true := by
  unfold SeqAt.shaped
  have e1 : (PyData.list (xs.map PyData.str)).canLay0 = true := strs_lay h
  have e2 : (PyData.list (xs.map PyData.str)).depth = 1 := by show PyData.depthAll (xs.map PyData.str) + 1 = 1; rw [strs_depth]
  rw [e1, e2]
  rfl
theorem eqvA_nil : ∀ xs : List Str, PyData.eqvAll (xs.map PyData.str) [] = decide (xs = [])
  | [] => rfl
  | _ :: _ => rfl
theorem eqvA : ∀ xs ys : List Str, PyData.eqvAll (xs.map PyData.str) (ys.map PyData.str) = decide (xs = ys)
  | [], [] => rfl
  | [], _ :: _ => rfl
  | _ :: _, [] => rfl
  | x :: r, y :: t => by
    show ((x == y) && PyData.eqvAll (r.map PyData.str) (t.map PyData.str)) = _
    rw [eqvA r t]
    by_cases h : x = y
    · subst h
      simp
    · have e : (x == y) = false := by simpa using h
      rw [e, Bool.false_and, decide_eq_false fun z => h (List.cons.inj z).1]
def chr1 (c : Nat) : Str := ⟨#[c]⟩
def oddL (x : Str) (i : Nat) : List Str := ((x.cps.toList.take i).filter fun c => !decide (c ∈ letters.cps.toList)).map chr1
theorem oddL_len {x : Str} {i : Nat} : (oddL x i).length ≤ x.length := by
  unfold oddL
  rw [List.length_map]
  exact Nat.le_trans (List.length_filter_le _ _) (by rw [List.length_take]; exact Nat.min_le_right _ _)
theorem oddL_fine {x : Str} {i : Nat} (h : Fine x) : Fines (oddL x i) := by
  intro y hy
  unfold oddL at hy
  obtain ⟨c, hc, rfl⟩ := List.mem_map.mp hy
  have hc := List.mem_of_mem_take (List.mem_filter.mp hc).1
  refine ⟨(show 1 ≤ 1000 by decide), ?_⟩
  have h2 : PyData.strOk x = true := h.2
  show PyData.strOk (chr1 c) = true
  unfold PyData.strOk at h2 ⊢
  rw [Array.all_eq_true'] at h2
  have h3 := h2 c (by rw [← Array.mem_toList_iff]; exact hc)
  rw [Array.all_eq_true']
  intro y hy
  have ey : y = c := by
    have hy : y ∈ (#[c] : Array Nat) := hy
    simpa using hy
  subst ey
  exact h3
theorem oddL_nil {x : Str} : decide (oddL x x.length = []) = isLetters x := by
  have el : x.cps.toList.take x.length = x.cps.toList := List.take_of_length_le (by rw [Array.length_toList]; exact Nat.le_refl _)
  unfold oddL isLetters
  rw [el]
  cases h : x.cps.toList.all fun c => decide (c ∈ letters.cps.toList) with
  | true =>
    rw [List.all_eq_true] at h
    have e : (x.cps.toList.filter fun c => !decide (c ∈ letters.cps.toList)) = [] := by
      rw [List.filter_eq_nil_iff]
      intro c hc z
      rw [h c hc] at z
      cases z
    rw [e]
    rfl
  | false =>
    rw [decide_eq_false]
    intro z
    have z := List.map_eq_nil_iff.mp z
    rw [List.filter_eq_nil_iff] at z
    rw [List.all_eq_false] at h
    obtain ⟨c, hc, hn⟩ := h
    exact z c hc (by cases e : decide (c ∈ letters.cps.toList) with | true => exact absurd e hn | false => rfl)
theorem risesAt_eq {xs : List Str} {i : Nat} (hi : i < xs.length) (h0 : i ≠ 0) (h1 : i - 1 < xs.length) : risesAt xs i = decide (xs[i - 1].cps.toList < xs[i].cps.toList) := by
  unfold risesAt
  rw [decide_eq_false h0, Bool.false_or, List.getElem?_eq_getElem h1, List.getElem?_eq_getElem hi]
theorem risesAt_0 {xs : List Str} : risesAt xs 0 = true := rfl
theorem strG {xs : List Str} {i : Nat} (hi : i < xs.length) : (xs.map V.str)[i]? = some (.str xs[i]) := by rw [List.getElem?_map, List.getElem?_eq_getElem hi]; rfl
theorem small_lim {z : Int} (h0 : 0 ≤ z) (h1 : z ≤ 1000) : z.natAbs.log2 < 9000 := by
  by_cases e : z.natAbs = 0
  · rw [e]; decide
  · exact (Nat.log2_lt e).mpr (Nat.lt_of_le_of_lt (show z.natAbs ≤ 2 ^ 10 by omega) (Nat.pow_lt_pow_right (by decide) (by decide)))
end
end Sc
namespace Sc
open PySem PySem.Spec PyProof.Rows L2
/-! ### what a condition does -/
theorem sc_Condition___call__ : FnScope ["self", "case", "held", "name"] ["self", "case"] (defScope s_Condition___call__) := ⟨rfl, rfl, rfl, by decide +kernel, rfl, by decide +kernel, by decide +kernel⟩
/-- the texts in their order -/
def srt (l : List Str) : List Str := l.mergeSort fun a b => decide (a.cps.toList ≤ b.cps.toList)
theorem srt_perm (l : List Str) : (srt l).Perm l := List.mergeSort_perm _ _
theorem rising_of : ∀ (x : Str) (r : List Str), (∀ y ∈ r, SLe x y) → r.Pairwise SLe → risingS x r = true
  | _, [], _, _ => rfl
  | x, y :: r, h1, h2 => by
    have h2 := List.pairwise_cons.mp h2
    show (!ltCps y.cps.toList x.cps.toList && risingS y r) = true
    rw [Bool.and_eq_true, ltCps_eq]
    refine ⟨?_, rising_of y r h2.1 h2.2⟩
    have h3 : x.cps.toList ≤ y.cps.toList := h1 y List.mem_cons_self
    rw [decide_eq_false (show ¬ y.cps.toList < x.cps.toList from fun z => List.not_lt.mpr h3 z)]
    rfl
theorem sorted_of : ∀ {r : List Str}, r.Pairwise SLe → sortedS r = true
  | [], _ => rfl
  | x :: r, h => rising_of x r (List.pairwise_cons.mp h).1 (List.pairwise_cons.mp h).2
theorem srt_sorted (l : List Str) : sortedS (srt l) = true := by
  refine sorted_of ((List.pairwise_mergeSort (le := fun a b : Str => decide (a.cps.toList ≤ b.cps.toList)) (fun a b c h1 h2 => ?_) (fun a b => ?_) l).imp fun h => of_decide_eq_true h)
  · exact decide_eq_true (List.le_trans (of_decide_eq_true h1) (of_decide_eq_true h2))
  · rw [Bool.or_eq_true]
    rcases List.le_total a.cps.toList b.cps.toList with h | h
    · exact .inl (decide_eq_true h)
    · exact .inr (decide_eq_true h)
/-- an object Condition -/
structure CondAt (K : PySem.W.Frag) (C : Addr) (H : Hp) (o : Addr) (hs fs : List Str) : Prop where
  at_ : ∃ (dx a b n : Addr) (zs : List Str), H o = some (.ins C dx (condF a b n)) ∧ SqT K H a (hs.map V.str) ∧ SqT K H b (fs.map V.str) ∧ H n = some (.tup (zs.map V.str)) ∧ zs = srt (hs ++ fs)
theorem CondAt.same {K : PySem.W.Frag} {C : Addr} {H H' : Hp} {o : Addr} {hs fs : List Str} (h : CondAt K C H o hs fs) (s : Same H H') : CondAt K C H' o hs fs := by
  obtain ⟨dx, a, b, n, zs, h1, h2, h3, h4, h5⟩ := h.at_
  exact ⟨dx, a, b, n, zs, s _ _ h1, s.tup h2, s.tup h3, s _ _ h4, h5⟩
def meets (hs fs case : List Str) : Bool := (hs.all fun x => decide (x ∈ case)) && !(fs.any fun x => decide (x ∈ case))
section
variable {P : Program} {w : World} {K : PySem.W.Frag} {mg : Str → Option Value} {base : Heap} {CC C : Addr}
/-- [name in case for name in xs]: the truths -/
theorem inAll {H1 : Hp} {D c : Addr} {xs cs : List Str} {W : Nat} {X : Cx} {σ : L2.St} : True := trivial
def sp_ccall (K : PySem.W.Frag) (C : Addr) : Sp := fun vs H Q _ => ∃ (o c : Addr) (hs fs cs : List Str), vs = [.ref o, .ref c] ∧ CondAt K C H o hs fs ∧ SqT K H c (cs.map V.str) ∧ hs.length ≤ 1000 ∧ fs.length ≤ 1000 ∧ ∀ H', Same H H' → Q (.bl (meets hs fs cs)) H'
theorem ok_ccall {f : Addr} {fd : FuncData} (F : Fun K "__call__" "Condition.__call__" s_Condition___call__ f fd) (B : Blt mg) (T : Cls K C) (n1 : NoAttr K C "_holding") (n2 : NoAttr K C "_failing") : FnOk P w K mg base CX0 1 f fd ["self", "case"] (sp_ccall K C) := by
  refine F.ok sc_Condition___call__ (fun vs H Q E h => by obtain ⟨o, c, hs, fs, cs, rfl, _⟩ := h; rfl) (fun cdv A outer s H vs Q E hr h => ?_)
  obtain ⟨o, c, hs, fs, cs, rfl, hC, hc, l1, l2, q⟩ := h
  obtain ⟨dx, a, b, n, zs, ho, ha, hb, _⟩ := hC.at_
  refine ⟨_, (pss_cons (ps_set (i := 2) sc_Condition___call__.nd rfl (Or.inl rfl) (pe_callB (cr_all rfl) (by rfl) B.b_all PyProof.Rows.boot_all (pa_cons (pe_lc (own := [("name", 3)]) (g := gName 3) (tt := tYes) rfl sc_Condition___call__.nd (pi_tup (pe_fld (pv 0) rfl)) (blkOk_by (own := [("name", 3)]) (N := ["self", "case", "held", "name"]) (sc := defScope s_Condition___call__) (by decide +kernel)) (fun _ _ _ _ _ => (pg_name (i := 3) sc_Condition___call__.nd rfl (Or.inl rfl))) (fun _ _ _ _ _ => pts_nil) (fun _ _ _ _ _ => (pe_.re (pe_cmpR op_in_seq (pv 3) (pv 1) rfl) (by first | (dsimp only [Cx.blk]; done) | exact rfl)))) pa_nil)))
      (pss_one (ps_ret (pe_and (pv 2) (pe_one (pe_not (pe_callB (cr_any rfl) (by rfl) B.b_any (by decide +kernel) (pa_cons (pe_lc (own := [("name", 3)]) (g := gName 3) (tt := tYes) rfl sc_Condition___call__.nd (pi_tup (pe_fld (pv 0) rfl)) (blkOk_by (own := [("name", 3)]) (N := ["self", "case", "held", "name"]) (sc := defScope s_Condition___call__) (by decide +kernel)) (fun _ _ _ _ _ => (pg_name (i := 3) sc_Condition___call__.nd rfl (Or.inl rfl))) (fun _ _ _ _ _ => pts_nil) (fun _ _ _ _ _ => (pe_.re (pe_cmpR op_in_seq (pv 3) (pv 1) rfl) (by first | (dsimp only [Cx.blk]; done) | exact rfl)))) pa_nil)))))))), ?_⟩
  refine ⟨_, rfl, o, C, dx, _, .ref a, rfl, ho, T, n1, rfl, a, rfl, ⟨_, ha⟩, fun D nD => lc_it walk_tup (fun i H' => Same H H' ∧ H' D = some (.lst ((hs.take i).map fun x => V.bl (decide (x ∈ cs))))) ⟨(Same.refl H).put nD, upd_same⟩ (fun _ _ _ h => h.1.tup ha) ?_ ?_⟩
  · rintro i y H2 H3 hi ⟨s, e⟩ ⟨rfl, hy⟩
    rw [List.length_map] at hi
    have hx : hs[i]? = some hs[i] := List.getElem?_eq_getElem hi
    obtain rfl : V.str hs[i] = y := strAt_inj hx hy
    refine ⟨rfl, yes_ ⟨_, rfl, _, rfl, c, _, rfl, .inr (s.tup hc), rfl, flat_strs cs, grow (acc := fun i => (hs.take i).map fun x => V.bl (decide (x ∈ cs))) nD s e ?_ ?_⟩⟩
    · rw [List.length_map, List.length_take]
      exact small1000 (by omega)
    · show List.map _ _ = _
      rw [take_more hx, List.map_append]
      simp only [List.map_cons, List.map_nil, inV_str]
      rfl
  · rintro H2 ⟨s, e⟩
    rw [List.length_map, List.take_length] at e
    refine ⟨D, hs.map fun x => decide (x ∈ cs), rfl, sqL_of (by rw [e, List.map_map]; rfl), ?_⟩
    refine ⟨_, rfl, _, rfl, bcase (fun c1 => ?_) (fun c1 => ?_)⟩
    · refine ⟨_, rfl, o, C, dx, _, .ref b, rfl, s _ _ ho, T, n2, rfl, b, rfl, ⟨_, s.tup hb⟩, fun D2 nD2 => lc_it walk_tup (fun i H' => Same H2 H' ∧ H' D2 = some (.lst ((fs.take i).map fun x => V.bl (decide (x ∈ cs))))) ⟨(Same.refl H2).put nD2, upd_same⟩ (fun _ _ _ h => (s.trans h.1).tup hb) ?_ ?_⟩
      · rintro i y H4 H3 hi ⟨s2, e2⟩ ⟨rfl, hy⟩
        rw [List.length_map] at hi
        have hx : fs[i]? = some fs[i] := List.getElem?_eq_getElem hi
        obtain rfl : V.str fs[i] = y := strAt_inj hx hy
        refine ⟨rfl, yes_ ⟨_, rfl, _, rfl, c, _, rfl, .inr ((s.trans s2).tup hc), rfl, flat_strs cs, grow (acc := fun i => (fs.take i).map fun x => V.bl (decide (x ∈ cs))) nD2 s2 e2 ?_ ?_⟩⟩
        · rw [List.length_map, List.length_take]
          exact small1000 (by omega)
        · show List.map _ _ = _
          rw [take_more hx, List.map_append]
          simp only [List.map_cons, List.map_nil, inV_str]
          rfl
      · rintro H4 ⟨s2, e2⟩
        rw [List.length_map, List.take_length] at e2
        refine ⟨D2, fs.map fun x => decide (x ∈ cs), rfl, sqL_of (by rw [e2, List.map_map]; rfl), ?_⟩
        refine ⟨_, rfl, ?_⟩
        have em : meets hs fs cs = !((fs.map fun x => decide (x ∈ cs)).any id) := by
          unfold meets
          rw [List.any_map]
          have c1 : (hs.all fun x => decide (x ∈ cs)) = true := by rw [List.all_map] at c1; exact c1
          rw [c1, Bool.true_and]
          rfl
        rw [← em]
        exact q H4 (s.trans s2)
    · have em : meets hs fs cs = false := by
        unfold meets
        have c1 : (hs.all fun x => decide (x ∈ cs)) = false := by rw [List.all_map] at c1; exact c1
        rw [c1, Bool.false_and]
      rw [← em]
      exact q H2 s
/-! ### within -/
theorem sc_Condition_within : FnScope ["self", "other", "held", "name"] ["self", "other"] (defScope s_Condition_within) := ⟨rfl, rfl, rfl, by decide +kernel, rfl, by decide +kernel, by decide +kernel⟩
def withinC (hs fs gs ks : List Str) : Bool := (gs.all fun x => decide (x ∈ hs)) && (ks.all fun x => decide (x ∈ fs))
def sp_within (K : PySem.W.Frag) (C : Addr) : Sp := fun vs H Q _ => ∃ (o o2 : Addr) (hs fs gs ks : List Str), vs = [.ref o, .ref o2] ∧ CondAt K C H o hs fs ∧ CondAt K C H o2 gs ks ∧ gs.length ≤ 1000 ∧ ks.length ≤ 1000 ∧ ∀ H', Same H H' → Q (.bl (withinC hs fs gs ks)) H'
/-- the getters -/
abbrev PropC (P : Program) (w : World) (K : PySem.W.Frag) (mg : Str → Option Value) (base : Heap) (C p g : Addr) (fd : FuncData) (n f : Str) : Prop := PropOf K C n p g ∧ FnOk P w K mg base CX0 1 g fd ["self"] (sp_prop C f) ∧ Binds K fd ["self"] []
theorem ok_within {f p1' g1 p2' g2 : Addr} {fd fd1 fd2 : FuncData} (F : Fun K "within" "Condition.within" s_Condition_within f fd) (B : Blt mg) (T : Cls K C) (n1 : NoAttr K C "_holding") (n2 : NoAttr K C "_failing")
    (p1 : PropC P w K mg base C p1' g1 fd1 "holding" "_holding") (p2 : PropC P w K mg base C p2' g2 fd2 "failing" "_failing") : FnOk P w K mg base CX0 3 f fd ["self", "other"] (sp_within K C) := by
  refine F.ok sc_Condition_within (fun vs H Q E h => by obtain ⟨o, c, hs, fs, gs, ks, rfl, _⟩ := h; rfl) (fun cdv A outer s H vs Q E hr h => ?_)
  obtain ⟨o, o2, hs, fs, gs, ks, rfl, hC, hD, l1, l2, q⟩ := h
  obtain ⟨dx, a, b, n, zs, ho, ha, hb, _⟩ := hC.at_
  obtain ⟨dx2, a2, b2, n2', zs2, ho2, ha2, hb2, _⟩ := hD.at_
  have lk1 : (condF a2 b2 n2').lookup ("_holding" : Str) = some (.ref a2) := rfl
  have lk2 : (condF a2 b2 n2').lookup ("_failing" : Str) = some (.ref b2) := rfl
  refine ⟨_, (pss_cons (ps_set (i := 2) sc_Condition_within.nd rfl (Or.inl rfl) (pe_callB (cr_all rfl) (by rfl) B.b_all PyProof.Rows.boot_all (pa_cons (pe_lc (own := [("name", 3)]) (g := gName 3) (tt := tYes) rfl sc_Condition_within.nd (pi_tup (pe_prop (pv 1) T p1.1 p1.2.1 (hr.mono (by decide)) p1.2.2 .nil pass0 rfl)) (blkOk_by (own := [("name", 3)]) (N := ["self", "other", "held", "name"]) (sc := defScope s_Condition_within) (by decide +kernel)) (fun _ _ _ _ _ => (pg_name (i := 3) sc_Condition_within.nd rfl (Or.inl rfl))) (fun _ _ _ _ _ => pts_nil) (fun _ _ _ _ _ => (pe_.re (pe_cmpR op_in_seq (pv 3) (pe_fld (pv 0) rfl) rfl) (by first | (dsimp only [Cx.blk]; done) | exact rfl)))) pa_nil)))
      (pss_one (ps_ret (pe_and (pv 2) (pe_one (pe_callB (cr_all rfl) (by rfl) B.b_all PyProof.Rows.boot_all (pa_cons (pe_lc (own := [("name", 3)]) (g := gName 3) (tt := tYes) rfl sc_Condition_within.nd (pi_tup (pe_prop (pv 1) T p2.1 p2.2.1 (hr.mono (by decide)) p2.2.2 .nil pass0 rfl)) (blkOk_by (own := [("name", 3)]) (N := ["self", "other", "held", "name"]) (sc := defScope s_Condition_within) (by decide +kernel)) (fun _ _ _ _ _ => (pg_name (i := 3) sc_Condition_within.nd rfl (Or.inl rfl))) (fun _ _ _ _ _ => pts_nil) (fun _ _ _ _ _ => (pe_.re (pe_cmpR op_in_seq (pv 3) (pe_fld (pv 0) rfl) rfl) (by first | (dsimp only [Cx.blk]; done) | exact rfl)))) pa_nil))))))), ?_⟩
  refine ⟨_, rfl, o2, dx2, _, rfl, ho2, ⟨o2, dx2, _, _, rfl, ho2, lk1, ?_⟩⟩
  refine ⟨a2, rfl, ⟨_, ha2⟩, fun D nD => lc_it walk_tup (fun i H' => Same H H' ∧ H' D = some (.lst ((gs.take i).map fun x => V.bl (decide (x ∈ hs))))) ⟨(Same.refl H).put nD, upd_same⟩ (fun _ _ _ h => h.1.tup ha2) ?_ ?_⟩
  · rintro i y H2 H3 hi ⟨s, e⟩ ⟨rfl, hy⟩
    rw [List.length_map] at hi
    have hx : gs[i]? = some gs[i] := List.getElem?_eq_getElem hi
    obtain rfl : V.str gs[i] = y := strAt_inj hx hy
    refine ⟨rfl, yes_ ⟨_, rfl, _, rfl, o, C, dx, _, .ref a, rfl, s _ _ ho, T, n1, rfl, a, _, rfl, .inr (s.tup ha), rfl, flat_strs hs, grow (acc := fun i => (gs.take i).map fun x => V.bl (decide (x ∈ hs))) nD s e ?_ ?_⟩⟩
    · rw [List.length_map, List.length_take]
      exact small1000 (by omega)
    · show List.map _ _ = _
      rw [take_more hx, List.map_append]
      simp only [List.map_cons, List.map_nil, inV_str]
      rfl
  · rintro H2 ⟨s, e⟩
    rw [List.length_map, List.take_length] at e
    refine ⟨D, gs.map fun x => decide (x ∈ hs), rfl, sqL_of (by rw [e, List.map_map]; rfl), ?_⟩
    refine ⟨_, rfl, _, rfl, bcase (fun c1 => ?_) (fun c1 => ?_)⟩
    · refine ⟨_, rfl, o2, dx2, _, rfl, s _ _ ho2, ⟨o2, dx2, _, _, rfl, s _ _ ho2, lk2, ?_⟩⟩
      refine ⟨b2, rfl, ⟨_, s.tup hb2⟩, fun D2 nD2 => lc_it walk_tup (fun i H' => Same H2 H' ∧ H' D2 = some (.lst ((ks.take i).map fun x => V.bl (decide (x ∈ fs))))) ⟨(Same.refl H2).put nD2, upd_same⟩ (fun _ _ _ h => (s.trans h.1).tup hb2) ?_ ?_⟩
      · rintro i y H4 H3 hi ⟨s2, e2⟩ ⟨rfl, hy⟩
        rw [List.length_map] at hi
        have hx : ks[i]? = some ks[i] := List.getElem?_eq_getElem hi
        obtain rfl : V.str ks[i] = y := strAt_inj hx hy
        have s3 := s.trans s2
        refine ⟨rfl, yes_ ⟨_, rfl, _, rfl, o, C, dx, _, .ref b, rfl, s3 _ _ ho, T, n2, rfl, b, _, rfl, .inr (s3.tup hb), rfl, flat_strs fs, grow (acc := fun i => (ks.take i).map fun x => V.bl (decide (x ∈ fs))) nD2 s2 e2 ?_ ?_⟩⟩
        · rw [List.length_map, List.length_take]
          exact small1000 (by omega)
        · show List.map _ _ = _
          rw [take_more hx, List.map_append]
          simp only [List.map_cons, List.map_nil, inV_str]
          rfl
      · rintro H4 ⟨s2, e2⟩
        rw [List.length_map, List.take_length] at e2
        refine ⟨D2, ks.map fun x => decide (x ∈ fs), rfl, sqL_of (by rw [e2, List.map_map]; rfl), ?_⟩
        have em : withinC hs fs gs ks = (ks.map fun x => decide (x ∈ fs)).all id := by
          unfold withinC
          have c1 : (gs.all fun x => decide (x ∈ hs)) = true := by rw [List.all_map] at c1; exact c1
          rw [c1, Bool.true_and, List.all_map]
          rfl
        rw [← em]
        exact q H4 (s.trans s2)
    · have em : withinC hs fs gs ks = false := by
        unfold withinC
        have c1 : (gs.all fun x => decide (x ∈ hs)) = false := by rw [List.all_map] at c1; exact c1
        rw [c1, Bool.false_and]
      rw [← em]
      exact q H2 s
/-! ### == -/
theorem sc_Condition___eq__ : FnScope ["self", "other"] ["self", "other"] (defScope s_Condition___eq__) := ⟨rfl, rfl, rfl, by decide +kernel, rfl, by decide +kernel, by decide +kernel⟩
theorem dp_strs {H : Hp} {a : Addr} {xs : List Str} (h : SqT K H a (xs.map V.str)) : Dp K H (.ref a) (.tuple (xs.map PyData.str)) := .tup h (dps K H xs)
/-- what isinstance asks of the class at C -/
structure IsiC (K : PySem.W.Frag) (C : Addr) : Prop where
  ca : PySem.W.findIn K (.ref C) "__class__" = some (some (.builtin "object.__class__"))
  cn : PySem.W.specialIn K (.builtin "object.__class__") "__get__" = some (some (.builtin "getset_descriptor.__get__"))
  ct : PySem.W.takesIn K (.builtin "object.__class__") = some true
  cm : PySem.W.mroIn K C (.type "object") = some true
  me : PySem.W.kitOne K (.ref C) (.ref C) = some true
def sp_ceq (K : PySem.W.Frag) (C : Addr) : Sp := fun vs H Q _ => ∃ (o : Addr) (y : V) (hs fs : List Str), vs = [.ref o, y] ∧ CondAt K C H o hs fs ∧ Fines hs ∧ Fines fs ∧
  ((∃ (o2 : Addr) (gs ks : List Str), y = .ref o2 ∧ CondAt K C H o2 gs ks ∧ Fines gs ∧ Fines ks ∧ Q (.bl (decide (hs = gs) && decide (fs = ks))) H) ∨ (∃ t : Value, TyOf K H y t ∧ PySem.W.kitOne K t (.ref C) = some false ∧ Q (.bl false) H))
theorem ok_ceq {f : Addr} {fd : FuncData} (F : Fun K "__eq__" "Condition.__eq__" s_Condition___eq__ f fd) (B : Blt mg) (T : Cls K C) (n1 : NoAttr K C "_holding") (n2 : NoAttr K C "_failing") (mC : mg "Condition" = some (.ref C)) (I : IsiC K C) : FnOk P w K mg base CX0 1 f fd ["self", "other"] (sp_ceq K C) := by
  refine F.ok sc_Condition___eq__ (fun vs H Q E h => by obtain ⟨o, y, hs, fs, rfl, _⟩ := h; rfl) (fun cdv A outer s H vs Q E hr h => ?_)
  obtain ⟨o, y, hs, fs, rfl, hC, f1, f2, q⟩ := h
  obtain ⟨dx, a, b, n, zs, ho, ha, hb, _⟩ := hC.at_
  refine ⟨_, (pss_one (ps_ret (pe_and (pe_callB call_isi (by rfl) B.b_isinstance PyProof.Rows.boot_isinstance (pa_cons (pv 1) (pa_cons (pe_glob (v := .ref _) rfl mC rfl) pa_nil))) (pe_and (pe_cmpR (op_eqD hr.units) (pe_fld (pv 0) rfl) (pe_fld (pv 1) rfl) (nomark _)) (pe_one (pe_cmpR (op_eqD hr.units) (pe_fld (pv 0) rfl) (pe_fld (pv 1) rfl) (nomark _))))))), ?_⟩
  rcases q with ⟨o2, gs, ks, rfl, hD, f3, f4, q⟩ | ⟨t, ht, hk, q⟩
  · obtain ⟨dx2, a2, b2, n2', zs2, ho2, ha2, hb2, _⟩ := hD.at_
    refine ⟨_, rfl, _, _, _, _, _, rfl, .own _, .base (.ins ho2 T I.ca I.cn I.ct I.cm), I.me, _, rfl, iteT ?_⟩
    refine ⟨_, rfl, o, C, dx, _, .ref a, rfl, ho, T, n1, rfl, _, rfl, o2, C, dx2, _, .ref a2, rfl, ho2, T, n1, rfl, _, _, dp_strs ha, dp_strs ha2, shT f1, shT f3, _, rfl, ?_⟩
    have e1 : (PyData.tuple (hs.map PyData.str)).eqv (.tuple (gs.map PyData.str)) = decide (hs = gs) := eqvA hs gs
    rw [e1]
    by_cases c1 : hs = gs
    · rw [decide_eq_true c1]
      rw [decide_eq_true c1, Bool.true_and] at q
      refine iteT ⟨_, rfl, o, C, dx, _, .ref b, rfl, ho, T, n2, rfl, _, rfl, o2, C, dx2, _, .ref b2, rfl, ho2, T, n2, rfl, _, _, dp_strs hb, dp_strs hb2, shT f2, shT f4, ?_⟩
      have e2 : (PyData.tuple (fs.map PyData.str)).eqv (.tuple (ks.map PyData.str)) = decide (fs = ks) := eqvA fs ks
      rw [e2]
      exact q
    · rw [decide_eq_false c1]
      rw [decide_eq_false c1, Bool.false_and] at q
      exact iteF q
  · exact ⟨_, rfl, _, _, _, _, _, rfl, .own _, .base ht, hk, _, rfl, iteF q⟩
/-! ### & -/
theorem sc_Condition___and__ : FnScope ["self", "other", "holding", "failing", "name"] ["self", "other"] (defScope s_Condition___and__) := ⟨rfl, rfl, rfl, by decide +kernel, rfl, by decide +kernel, by decide +kernel⟩
def mrg (xs ys : List Str) : List Str := srt (xs ++ ys.filter fun y => !decide (y ∈ xs))
theorem mrg_txts {xs ys : List Str} (h1 : Txts xs) (h2 : Txts ys) : Txts (mrg xs ys) := fun x hx => by
  have hx := (srt_perm _).mem_iff.mp hx
  rcases List.mem_append.mp hx with h | h
  · exact h1 x h
  · exact h2 x (List.mem_filter.mp h).1
theorem mrg_len {xs ys : List Str} : (mrg xs ys).length ≤ xs.length + ys.length := by
  unfold mrg
  rw [(srt_perm _).length_eq, List.length_append]
  have := List.length_filter_le (fun y => !decide (y ∈ xs)) ys
  omega
theorem srt_uniq {zs l : List Str} (p : zs.Perm l) (s : sortedS zs = true) : zs = srt l := sorted_uniq (p.trans (srt_perm l).symm) s (srt_sorted l)
/-- a name of the one is in the other -/
def meetN (xs ys : List Str) : Bool := xs.any fun x => decide (x ∈ ys)
def sp_cand (K : PySem.W.Frag) (C CC CN : Addr) : Sp := fun vs H Q E => ∃ (o o2 : Addr) (hs fs gs ks : List Str), vs = [.ref o, .ref o2] ∧ CondAt K C H o hs fs ∧ CondAt K C H o2 gs ks ∧ Txts hs ∧ Txts fs ∧ Txts gs ∧ Txts ks ∧ hs.length + gs.length < 64 ∧ fs.length + ks.length < 64 ∧
  (meetN (mrg hs gs) (mrg fs ks) = true → ∀ H', Same H H' → E (.ref CN) none H') ∧ (meetN (mrg hs gs) (mrg fs ks) = false →
    (∀ i, firstWrong (mrg hs gs) [] = some i → errPI CC ((0 : Nat) : Int) i H E) ∧ (firstWrong (mrg hs gs) [] = none → (∀ i, firstWrong (mrg fs ks) (mrg hs gs) = some i → errPI CC ((1 : Nat) : Int) i H E) ∧
    (firstWrong (mrg fs ks) (mrg hs gs) = none → ∀ H' o3, Same H H' → H o3 = none → CondAt K C H' o3 (mrg hs gs) (mrg fs ks) → Q (.ref o3) H')))
theorem ok_cand {f p1' g1 p2' g2 CN : Addr} {fd fd1 fd2 : FuncData} (F : Fun K "__and__" "Condition.__and__" s_Condition___and__ f fd) (B : Blt mg) (T : Cls K C) (n1 : NoAttr K C "_holding") (n2 : NoAttr K C "_failing")
    (p1 : PropC P w K mg base C p1' g1 fd1 "holding" "_holding") (p2 : PropC P w K mg base C p2' g2 fd2 "failing" "_failing") (e_NeverMet : ErrMk0 K mg "NeverMet" CN)
    (c_merged : Cal P w K mg base CX0 1 "merged" ["names", "others"] (sp_merged K)) (k_Condition : Mkr P w K mg base 4 "Condition" C ["self", "holding", "failing"] (sp_cond_init K C CC)) : FnOk P w K mg base (L2.CX P w) 6 f fd ["self", "other"] (sp_cand K C CC CN) := by
  refine F.okX sc_Condition___and__ (fun vs H Q E h => by obtain ⟨o, o2, hs, fs, gs, ks, rfl, _⟩ := h; rfl) (fun cdv A outer s H vs Q E hr h => ?_)
  obtain ⟨o, o2, hs, fs, gs, ks, rfl, hC, hD, t1, t2, t3, t4, l1, l2, qE, q⟩ := h
  obtain ⟨dx, a, b, n, zs, ho, ha, hb, _⟩ := hC.at_
  obtain ⟨dx2, a2, b2, n2', zs2, ho2, ha2, hb2, _⟩ := hD.at_
  have lk1 : (condF a2 b2 n2').lookup ("_holding" : Str) = some (.ref a2) := rfl
  have lk2 : (condF a2 b2 n2').lookup ("_failing" : Str) = some (.ref b2) := rfl
  refine ⟨_, (pss_cons (ps_set (i := 2) sc_Condition___and__.nd rfl (Or.inl rfl) (pe_cal c_merged (hr.mono (by decide)) (pa_cons (pe_fld (pv 0) rfl) (pa_cons (pe_prop (pv 1) T p1.1 p1.2.1 (hr.mono (by decide)) p1.2.2 .nil pass0 rfl) pa_nil))))
      (pss_cons (ps_set (i := 3) sc_Condition___and__.nd rfl (Or.inr rfl) (pe_cal c_merged (hr.mono (by decide)) (pa_cons (pe_fld (pv 0) rfl) (pa_cons (pe_prop (pv 1) T p2.1 p2.2.1 (hr.mono (by decide)) p2.2.2 .nil pass0 rfl) pa_nil))))
      (pss_cons (ps_if (pt_val (pe_callB (cr_any rfl) (by rfl) B.b_any (by decide +kernel) (pa_cons (pe_lc (own := [("name", 4)]) (g := gName 4) (tt := tYes) rfl sc_Condition___and__.nd (pi_tup (pv 2)) (blkOk_by (own := [("name", 4)]) (N := ["self", "other", "holding", "failing", "name"]) (sc := defScope s_Condition___and__) (by decide +kernel)) (fun _ _ _ _ _ => (pg_name (i := 4) sc_Condition___and__.nd rfl (Or.inl rfl))) (fun _ _ _ _ _ => pts_nil) (fun _ _ _ _ _ => (pe_.re (pe_cmpR op_in_seq (pv 4) (pv 3) rfl) (by first | (dsimp only [Cx.blk]; done) | exact rfl)))) pa_nil))) (pss_one (ps_raise rfl (takes_of rfl rfl rfl rfl) (pmk_err0 e_NeverMet))) pss_nil)
      (pss_one (ps_ret (pe_mkX k_Condition (hr.mono (by decide)) (takes_of rfl rfl rfl rfl) (pa_cons (pv 2) (pa_cons (pv 3) pa_nil)))))))), ?_⟩
  refine ⟨_, rfl, o, C, dx, _, .ref a, rfl, ho, T, n1, rfl, _, rfl, o2, dx2, _, rfl, ho2, ⟨o2, dx2, _, _, rfl, ho2, lk1, ?_⟩⟩
  refine ⟨a, a2, hs, gs, rfl, ha, ha2, l1, fun H1 hA za s1 eA pA sA => ?_⟩
  obtain rfl : za = mrg hs gs := srt_uniq pA sA
  refine ⟨_, rfl, o, C, dx, _, .ref b, rfl, s1 _ _ ho, T, n2, rfl, _, rfl, o2, dx2, _, rfl, s1 _ _ ho2, ⟨o2, dx2, _, _, rfl, s1 _ _ ho2, lk2, ?_⟩⟩
  refine ⟨b, b2, fs, ks, rfl, s1.tup hb, s1.tup hb2, l2, fun H2 hB zb s2 eB pB sB => ?_⟩
  obtain rfl : zb = mrg fs ks := srt_uniq pB sB
  have s12 := s1.trans s2
  have eA2 := s2 _ _ eA
  refine ⟨_, rfl, hA, rfl, ⟨_, sqT_of eA2⟩, fun D nD => lc_it walk_tup (fun i H' => Same H2 H' ∧ H' D = some (.lst (((mrg hs gs).take i).map fun x => V.bl (decide (x ∈ mrg fs ks))))) ⟨(Same.refl H2).put nD, upd_same⟩ (fun _ _ _ h => h.1.tup (sqT_of eA2)) ?_ ?_⟩
  · rintro i y H4 H3 hi ⟨s, e⟩ ⟨rfl, hy⟩
    rw [List.length_map] at hi
    have hx : (mrg hs gs)[i]? = some (mrg hs gs)[i] := List.getElem?_eq_getElem hi
    obtain rfl : V.str (mrg hs gs)[i] = y := strAt_inj hx hy
    refine ⟨rfl, yes_ ⟨_, rfl, _, rfl, hB, _, rfl, .inr (sqT_of (s _ _ eB)), rfl, flat_strs _, grow (acc := fun i => ((mrg hs gs).take i).map fun x => V.bl (decide (x ∈ mrg fs ks))) nD s e ?_ ?_⟩⟩
    · rw [List.length_map, List.length_take]
      have := mrg_len (xs := hs) (ys := gs)
      exact small1000 (by omega)
    · show List.map _ _ = _
      rw [take_more hx, List.map_append]
      simp only [List.map_cons, List.map_nil, inV_str]
      rfl
  · rintro H4 ⟨s, e⟩
    rw [List.length_map, List.take_length] at e
    refine ⟨D, (mrg hs gs).map fun x => decide (x ∈ mrg fs ks), rfl, sqL_of (by rw [e, List.map_map]; rfl), ?_⟩
    have em : ((mrg hs gs).map fun x => decide (x ∈ mrg fs ks)).any id = meetN (mrg hs gs) (mrg fs ks) := by
      rw [List.any_map]
      rfl
    rw [em]
    refine ⟨_, rfl, bcase (fun c1 => ?_) (fun c1 => ?_)⟩
    · exact qE c1 H4 (s12.trans s)
    · obtain ⟨q0, q⟩ := q c1
      have s4 := s12.trans s
      have eA4 := s _ _ eA2
      have eB4 := s _ _ eB
      refine ⟨_, rfl, _, rfl, fun o3 dx3 nx ndx nex => ?_⟩
      have s5 : Same H4 (upd (upd H4 dx3 (.own o3)) o3 (.ins C dx3 [])) := ((Same.refl H4).put ndx).put nx
      have m1 := mrg_len (xs := hs) (ys := gs)
      have m2 := mrg_len (xs := fs) (ys := ks)
      refine ⟨o3, dx3, hA, hB, _, _, rfl, upd_same, sqT_of (s5 _ _ eA4), sqT_of (s5 _ _ eB4), mrg_txts t1 t3, mrg_txts t2 t4, by omega, by omega, fun i ei H' d sH nd => q0 i ei H' d ((s4.trans s5).trans sH) nd, fun en => ?_⟩
      obtain ⟨q1, q⟩ := q en
      refine ⟨fun i ei H' d sH nd => q1 i ei H' d ((s4.trans s5).trans sH) nd, fun en2 H' n3 zs3 sX hx hn hperm hsort => ⟨rfl, ?_⟩⟩
      have sS : Same H4 H' := fun b' o' h => sX b' o' (fun e => by rw [e, nx] at h; cases h) (s5 _ _ h)
      exact q en2 H' o3 (s4.trans sS) (s4.free nx) ⟨dx3, hA, hB, n3, zs3, hx, sqT_of (sS _ _ eA4), sqT_of (sS _ _ eB4), hn, srt_uniq hperm hsort⟩
end
end Sc
namespace Sc
open PySem PySem.Spec PyProof.Rows L2
/-- o(e, ..), o an object whose class has its own __call__; the arguments leave it as it is -/
def tCallO (C : Addr) (sp : Sp) (E : XK) (te : TE) (t : TA) : TE := fun σ H Q => te σ H fun x H1 => ∃ (a : Addr), x = .ref a ∧
  t σ H1 fun vs H2 => (∃ (dx : Addr) (fs : List (Str × V)), H2 a = some (.ins C dx fs)) ∧ sp (.ref a :: vs) H2 Q E
theorem callWith_o {M : Model} {A : Around} {E : Value → Shared → Prop} {s : Shared} {pos : Pos} {x C : Addr} {first : List Value} {Q : Value → Shared → Prop} {args : List (Bool × Sem Value)} (hplain : args.any (·.1) = false)
    (h : wpAny M A (evalArgs (.ref x) true args []) (fun a s₁ => (∃ ox od, PySem.W.InstAt s₁.heap x ox C od ∧ ox.data = Data.plain) ∧ wpAny M A (call (.ref x) (first ++ a.pos) a.kw) Q E s₁) E s) : wpAny M A (callWith pos (.ref x) first args []) Q E s := by
  unfold callWith
  refine wpAny_bind (wpAny_holding (wpAny_mono h (fun a s₁ h₁ => wpAny_bind (wpAny_standAt ?_)) (fun _ _ z => z)))
  obtain ⟨⟨ox, od, J, hd⟩, h₂⟩ := h₁
  have L := PySem.W.kco_keeper (M := M) J hd
  simp only [hplain, List.any_nil, Bool.or_false]
  exact wpAny_bind (PySem.W.Looks.here L (wpAny_bind (wpAny_mono (wpAny_operateT h₂) (fun r s₂ hr => wpAny_bind (wpAny_holding (wpAny_point (wpAny_pure hr)))) (fun _ _ z => z))))
theorem pe_callO {X : Cx} {CX : CXT} {C g : Addr} {k : Nat} {fd : FuncData} {ps : List Str} {sp : Sp} {E : XK} {te : TE} {t : TA} {x : Str} {e : Expr} {es : List Expr} {p pos : Pos}
    (at_ : PySem.W.findIn X.K (.ref C) "__call__" = some (some (.ref g))) (fn : PySem.W.isFn X.K (.ref g) = true) (fi : PySem.W.fnIn X.K g = true)
    (F : FnOk X.prog X.w X.K X.mg X.base CX k g fd ps sp) (hr : Room k X.A) (hb : Binds X.K fd ps []) (hx : Passes CX X E) (ho : PE X (.Name x p) te) (ha : PA X (e :: es) t)
    (he : starEach (e :: es) X.env = (false, eval e X.env) :: starEach es X.env := by rfl) (hpl : (backTo pos (starEach es X.env)).any (·.1) = false := by rfl) :
    PE X (.Call (.Name x p) (e :: es) [] pos) (tCallO C sp E te t) := by
  refine ⟨fun pins s σ H Q I h => wpAny_Call_NameR (thn (ho.run pins s σ H _ I h) fun u s1 hh => ?_)⟩
  obtain ⟨y, H1, I1, ry, a, rfl, h⟩ := hh
  obtain rfl : u = Value.ref a := ry
  have hr0 := ha.run pos pins s1 σ H1 _ I1 h
  have eb : backTo pos (starEach (e :: es) X.env) = (false, eval e X.env) :: backTo pos (starEach es X.env) := by rw [he]; rfl
  rw [eb] at hr0 ⊢
  refine callWith_o (C := C) (by rw [List.any_cons, hpl]; rfl) (Calls.evalArgs_plain (thn hr0 fun us s2 hh => ?_))
  obtain ⟨vs, H2, I2, rv, ⟨dx, fs, ea⟩, hq⟩ := hh
  obtain ⟨mA, O, _⟩ := ins_get I2.hok ea
  obtain ⟨od, J, _⟩ := ObjM.look O
  have hl : (Value.ref a :: us).length = ps.length := by
    have := F.len _ _ _ _ hq
    rw [← this, List.length_cons, List.length_cons, Vals.length rv]
  refine ⟨⟨_, _, J, rfl⟩, wpAny_call (PySem.W.kco_code I2.kIn J rfl at_ fn fi (codeAny_mono (F.run X.A X.stack s2 H2 ⟨.ref a :: us, []⟩ (.ref a :: us) (.ref a :: vs) Q E hr I2.env0 ?_ (Paired.cons rfl rv) hq) fun res s' hcr => ?_))⟩
  · have := hb s2 (.ref a :: us) I2.kIn (by rw [List.append_nil]; exact hl)
    rw [List.append_nil] at this
    exact this
  · cases res with
    | error er => exact hx pins σ H2 s2 er s' I2 hcr
    | ok fl =>
      cases fl with
      | ret v => exact I2.after hcr
      | next => exact hcr.elim
      | brk => exact hcr.elim
      | cont => exact hcr.elim
end Sc
namespace Sc
open PySem PySem.Spec PyProof.Rows L2
/-- the class Condition as its users see it -/
structure CondX (P : Program) (w : World) (K : PySem.W.Frag) (mg : Str → Option Value) (base : Heap) (C CC CN : Addr) : Prop where
  cls : Cls K C
  isi : IsiC K C
  holding : ∃ p g fd, PropC P w K mg base C p g fd "holding" "_holding"
  failing : ∃ p g fd, PropC P w K mg base C p g fd "failing" "_failing"
  names : ∃ p g fd, PropC P w K mg base C p g fd "names" "_names"
  call : ∃ g fd, PySem.W.findIn K (.ref C) "__call__" = some (some (.ref g)) ∧ PySem.W.isFn K (.ref g) = true ∧ PySem.W.fnIn K g = true ∧ FnOk P w K mg base CX0 1 g fd ["self", "case"] (sp_ccall K C) ∧ Binds K fd ["self", "case"] []
  eq : ∃ g fd, PySem.W.findIn K (.ref C) "__eq__" = some (some (.ref g)) ∧ PySem.W.isFn K (.ref g) = true ∧ FnOk P w K mg base CX0 1 g fd ["self", "other"] (sp_ceq K C) ∧ Binds K fd ["self", "other"] []
  ne : PySem.W.findIn K (.ref C) "__ne__" = some (some (.builtin "object.__ne__"))
  and_ : PySem.W.selfFirst K C = true ∧ ∃ g fd, PySem.W.findIn K (.ref C) "__and__" = some (some (.ref g)) ∧ PySem.W.isFn K (.ref g) = true ∧ FnOk P w K mg base (L2.CX P w) 6 g fd ["self", "other"] (sp_cand K C CC CN) ∧ Binds K fd ["self", "other"] []
  within_ : ∃ g fd, Meth K C "within" g ∧ FnOk P w K mg base CX0 3 g fd ["self", "other"] (sp_within K C) ∧ Binds K fd ["self", "other"] []
section
variable {X : Cx} {C CC CN : Addr} {e o : Expr} {es : List Expr} {ta te : TE} {t : TA} {x : Str} {p pos apos : Pos} {E : XK}
theorem pe_cprop {f n : Str} (M : ∃ p g fd, PropC X.prog X.w X.K X.mg X.base C p g fd n f) (c : Cls X.K C) (hr : Room 2 X.A) (he : PE X e ta) (hab : attributeBase e n X.env (eval e X.env) = eval e X.env := by rfl) : PE X (.Attribute e n pos) (tProp C (sp_prop C f) [] E0 ta) := by
  obtain ⟨p, g, fd, h1, h2, h3⟩ := M
  exact pe_prop he c h1 h2 hr h3 .nil pass0 hab
theorem pe_cc (M : CondX X.prog X.w X.K X.mg X.base C CC CN) (hr : Room 1 X.A) (ho : PE X (.Name x p) te) (ha : PA X (e :: es) t)
    (he : starEach (e :: es) X.env = (false, eval e X.env) :: starEach es X.env := by rfl) (hpl : (backTo pos (starEach es X.env)).any (·.1) = false := by rfl) : PE X (.Call (.Name x p) (e :: es) [] pos) (tCallO C (sp_ccall X.K C) E0 te t) := by
  obtain ⟨g, fd, h1, h2, h3, F, hb⟩ := M.call
  exact pe_callO h1 h2 h3 F hr hb pass0 ho ha he hpl
theorem op_ceq (M : CondX X.prog X.w X.K X.mg X.base C CC CN) (hr : Room 1 X.A) : OpR X (compareOp .Eq) (rEqO X.K C (sp_ceq X.K C) E0) := by
  obtain ⟨g, fd, h1, h2, F, hb⟩ := M.eq
  exact op_eqO h1 h2 F hr hb pass0
theorem op_cne (M : CondX X.prog X.w X.K X.mg X.base C CC CN) (hr : Room 2 X.A) : OpR X (compareOp .NotEq) (rNeO X.K C (sp_ceq X.K C) E0) := by
  obtain ⟨g, fd, h1, h2, F, hb⟩ := M.eq
  exact op_neO M.isi.cm M.ne h1 h2 F hr hb pass0
theorem op_candN (M : CondX X.prog X.w X.K X.mg X.base C CC CN) (hr : Room 6 X.A) : OpR X (binaryOp .BitAnd) (rBinO C (sp_cand X.K C CC CN) E0) := by
  obtain ⟨h0, g, fd, h1, h2, F, hb⟩ := M.and_
  exact op_binO h0 h1 h2 F hr hb passL
theorem op_candX (M : CondX X.prog X.w X.K X.mg X.base C CC CN) (hr : Room 6 X.A) (tk : Takes X (fun cls d _ H => E cls d H)) : OpR X (binaryOp .BitAnd) (rBinO C (sp_cand X.K C CC CN) E) := by
  obtain ⟨h0, g, fd, h1, h2, F, hb⟩ := M.and_
  exact op_binO h0 h1 h2 F hr hb (fun pins σ H s e s' I h => passAt tk σ pins H s e s' I h)
theorem pe_cwithin {pl : Sem Bool} (M : CondX X.prog X.w X.K X.mg X.base C CC CN) (hr : Room 3 X.A) (he : PE X o ta) (ha : PA X (e :: es) t)
    (hst : starEach (e :: es) X.env = (false, eval e X.env) :: starEach es X.env := by rfl) (hpl : (backTo pos (starEach es X.env)).any (·.1) = false := by rfl)
    (ht : eval (.Call (.Attribute o "within" apos) (e :: es) [] pos) X.env = (do
      let ov ← eval o X.env
      standAt apos.atName
      let (f, first) ← holding [ov] (getMethod ov "within" pl)
      callWith pos f first (backTo pos (starEach (e :: es) X.env)) (backToKw pos (keywordEach [] X.env))) := by rfl) : PE X (.Call (.Attribute o "within" apos) (e :: es) [] pos) (tMeth C "within" (sp_within X.K C) [] E0 ta t) := by
  obtain ⟨g, fd, h1, F, hb⟩ := M.within_
  exact pe_meth he M.cls h1 F hr hb .nil pass0 ha hst hpl ht
end
end Sc
namespace Sc
open PySem PySem.Spec PyProof.Rows L2
theorem wk_ps {X : Cx} {st : Stmt} {t : TS} (t' : TS) (h : PS X st t) (w : ∀ D σ H, t' D σ H → t D σ H) : PS X st t' := ⟨fun pins s σ H D I x => h.run pins s σ H D I (w D σ H x)⟩
/-! ### rules as data -/
inductive All2 {α β : Type} (R : α → β → Prop) : List α → List β → Prop where
  | nil : All2 R [] []
  | cons {a : α} {b : β} {as : List α} {bs : List β} (h : R a b) (t : All2 R as bs) : All2 R (a :: as) (b :: bs)
namespace All2
variable {α β : Type} {R S : α → β → Prop} {as as' : List α} {bs bs' : List β}
theorem len (h : All2 R as bs) : as.length = bs.length := by
  induction h with
  | nil => rfl
  | cons _ _ ih => rw [List.length_cons, List.length_cons, ih]
theorem mono (h : All2 R as bs) (f : ∀ a b, R a b → S a b) : All2 S as bs := by
  induction h with
  | nil => exact .nil
  | cons h _ ih => exact .cons (f _ _ h) ih
theorem monoM (h : All2 R as bs) (f : ∀ a b, b ∈ bs → R a b → S a b) : All2 S as bs := by
  induction h with
  | nil => exact .nil
  | cons h _ ih => exact .cons (f _ _ List.mem_cons_self h) (ih fun a b m => f a b (List.mem_cons_of_mem _ m))
theorem app (h : All2 R as bs) (k : All2 R as' bs') : All2 R (as ++ as') (bs ++ bs') := by
  induction h with
  | nil => exact k
  | cons h _ ih => exact .cons h ih
theorem one {a : α} {b : β} (h : R a b) : All2 R [a] [b] := .cons h .nil
theorem snoc {a : α} {b : β} (h : All2 R as bs) (r : R a b) : All2 R (as ++ [a]) (bs ++ [b]) := h.app (one r)
theorem get (h : All2 R as bs) : ∀ {i : Nat} {a : α}, as[i]? = some a → ∃ b, bs[i]? = some b ∧ R a b := by
  induction h with
  | nil => intro i a e; cases i <;> cases e
  | cons h _ ih =>
    intro i a e
    cases i with
    | zero => cases e; exact ⟨_, rfl, h⟩
    | succ i => exact ih e
theorem get' (h : All2 R as bs) : ∀ {i : Nat} {b : β}, bs[i]? = some b → ∃ a, as[i]? = some a ∧ R a b := by
  induction h with
  | nil => intro i a e; cases i <;> cases e
  | cons h _ ih =>
    intro i a e
    cases i with
    | zero => cases e; exact ⟨_, rfl, h⟩
    | succ i => exact ih e
theorem at' (h : All2 R as bs) {i : Nat} (hi : i < bs.length) : ∃ a, as[i]? = some a ∧ R a bs[i] := h.get' (List.getElem?_eq_getElem hi)
end All2
/-- a row of rules, each with its exceptions -/
inductive RF where
  | nil : RF
  | cons (nm : Str) (hs fs : List Str) (rl : Str) (exc rest : RF) : RF
structure Nd where
  nm : Str
  hs : List Str
  fs : List Str
  rl : Str
  exc : RF
namespace RF
def nodes : RF → List Nd
  | .nil => []
  | .cons nm hs fs rl exc rest => ⟨nm, hs, fs, rl, exc⟩ :: rest.nodes
def dep : RF → Nat
  | .nil => 0
  | .cons _ _ _ _ exc rest => max (exc.dep + 1) rest.dep
def size : RF → Nat
  | .nil => 0
  | .cons _ _ _ _ exc rest => exc.size + 1 + rest.size
/-- all rules by their numbers, and within how many they stand -/
def pre : RF → Nat → List (Nd × Nat)
  | .nil, _ => []
  | .cons nm hs fs rl exc rest, k => (⟨nm, hs, fs, rl, exc⟩, k) :: (exc.pre (k + 1) ++ rest.pre k)
def ofNodes : List Nd → RF
  | [] => .nil
  | n :: r => .cons n.nm n.hs n.fs n.rl n.exc (ofNodes r)
theorem nodes_of : ∀ ns : List Nd, (ofNodes ns).nodes = ns
  | [] => rfl
  | n :: r => by show n :: (ofNodes r).nodes = n :: r; rw [nodes_of r]
theorem of_nodes : ∀ f : RF, ofNodes f.nodes = f
  | .nil => rfl
  | .cons nm hs fs rl exc rest => by show RF.cons nm hs fs rl exc (ofNodes rest.nodes) = _; rw [of_nodes rest]
theorem pre_nodes : ∀ (f : RF) (k : Nat), f.pre k = f.nodes.flatMap fun n => (n, k) :: n.exc.pre (k + 1)
  | .nil, _ => rfl
  | .cons nm hs fs rl exc rest, k => by
    show (_, k) :: (exc.pre (k + 1) ++ rest.pre k) = _
    rw [pre_nodes rest k]
    rfl
theorem pre_len : ∀ (f : RF) (k : Nat), (f.pre k).length = f.size
  | .nil, _ => rfl
  | .cons nm hs fs rl exc rest, k => by
    show ((_, k) :: (exc.pre (k + 1) ++ rest.pre k)).length = exc.size + 1 + rest.size
    rw [List.length_cons, List.length_append, pre_len exc, pre_len rest]
    omega
theorem dep_nil : ∀ f : RF, f.dep = 0 → f = .nil
  | .nil, _ => rfl
  | .cons _ _ _ _ exc rest, h => by
    have h : max (exc.dep + 1) rest.dep = 0 := h
    omega
theorem dep_mem : ∀ (f : RF) (n : Nd), n ∈ f.nodes → n.exc.dep + 1 ≤ f.dep
  | .nil, n, h => nomatch h
  | .cons nm hs fs rl exc rest, n, h => by
    show _ ≤ max (exc.dep + 1) rest.dep
    rcases List.mem_cons.mp h with rfl | h
    · exact Nat.le_max_left _ _
    · exact Nat.le_trans (dep_mem rest n h) (Nat.le_max_right _ _)
theorem dep_le : ∀ (f : RF) (d : Nat), (∀ n ∈ f.nodes, n.exc.dep + 1 ≤ d) → f.dep ≤ d
  | .nil, d, _ => Nat.zero_le d
  | .cons nm hs fs rl exc rest, d, h => by
    show max (exc.dep + 1) rest.dep ≤ d
    exact Nat.max_le.mpr ⟨h _ List.mem_cons_self, dep_le rest d fun n m => h n (List.mem_cons_of_mem _ m)⟩
theorem size_mem : ∀ (f : RF) (n : Nd), n ∈ f.nodes → n.exc.size + 1 ≤ f.size
  | .nil, n, h => nomatch h
  | .cons nm hs fs rl exc rest, n, h => by
    show _ ≤ exc.size + 1 + rest.size
    rcases List.mem_cons.mp h with rfl | h
    · show exc.size + 1 ≤ _
      omega
    · have := size_mem rest n h
      omega
theorem nodes_le : ∀ f : RF, f.nodes.length ≤ f.size
  | .nil => Nat.le_refl 0
  | .cons nm hs fs rl exc rest => by
    show rest.nodes.length + 1 ≤ exc.size + 1 + rest.size
    have := nodes_le rest
    omega
/-- the names of all rules, by their numbers -/
def names (f : RF) : List Str := (f.pre 0).map fun p => p.1.nm
theorem pre_names : ∀ (f : RF) (k : Nat), (f.pre k).map (fun p => p.1.nm) = f.names
  | .nil, _ => rfl
  | .cons nm hs fs rl exc rest, k => by
    unfold names
    show nm :: ((exc.pre (k + 1) ++ rest.pre k).map fun p => p.1.nm) = nm :: ((exc.pre (0 + 1) ++ rest.pre 0).map fun p => p.1.nm)
    rw [List.map_append, List.map_append, pre_names exc, pre_names exc, pre_names rest, pre_names rest]
/-- the first rules of a row, with their exceptions, by their numbers -/
def preL (ns : List Nd) (k : Nat) : List (Nd × Nat) := ns.flatMap fun n => (n, k) :: n.exc.pre (k + 1)
theorem preL_more {f : RF} {i k : Nat} {n : Nd} (h : f.nodes[i]? = some n) : preL (f.nodes.take (i + 1)) k = preL (f.nodes.take i) k ++ ((n, k) :: n.exc.pre (k + 1)) := by
  unfold preL
  rw [take_more h, List.flatMap_append]
  simp
theorem preL_all {f : RF} {k : Nat} : preL (f.nodes.take f.nodes.length) k = f.pre k := by
  rw [List.take_length, pre_nodes]
  rfl
theorem preL_len {f : RF} {i k : Nat} : (preL (f.nodes.take i) k).length ≤ f.size := by
  have e : preL f.nodes k = preL (f.nodes.take i) k ++ preL (f.nodes.drop i) k := by
    unfold preL
    rw [← List.flatMap_append, List.take_append_drop]
  have e2 : (preL f.nodes k).length = f.size := by
    rw [← pre_len f k, pre_nodes]
    rfl
  rw [← e2, e, List.length_append]
  exact Nat.le_add_right _ _
end RF
/-! ### where they stand -/
/-- an object that is made, to its last field -/
def DoneF (fs : List (Str × V)) : Bool := (fs.lookup ("_inside" : Str)).isSome || ((fs.lookup ("_names" : Str)).isSome || (fs.lookup ("_numbered" : Str)).isSome)
/-- what steps that change only lists of the law's own, or an object that is being made, leave as it is -/
def dkB : HO → Bool
  | .dK _ => true
  | .frz _ (.dK _) => true
  | _ => false
def Stays (N : Addr → Prop) (b : Addr) (o : HO) : Prop := (∀ xs, o = .lst xs → N b) ∧ (∀ C dx fs, o = .ins C dx fs → DoneF fs = true) ∧ (∀ ps, o ≠ .tbl ps) ∧ dkB o = false
def Keeps (N : Addr → Prop) (H H' : Hp) : Prop := ∀ b o, Stays N b o → H b = some o → H' b = some o
section
variable {K : PySem.W.Frag} {C R : Addr} {N : Addr → Prop} {H H' H'' : Hp}
theorem _root_.L2.Same.keeps (s : Same H H') : Keeps N H H' := fun b o _ e => s b o e
theorem Keeps.trans (h : Keeps N H H') (k : Keeps N H' H'') : Keeps N H H'' := fun b o st e => k b o st (h b o st e)
theorem Kp.keeps {a l : Addr} (k : Kp a l H H') (na : ¬ N a) (nl : ¬ N l) : Keeps N H H' := fun b o st e => by
  by_cases z : ∃ xs, o = .lst xs
  · obtain ⟨xs, rfl⟩ := z
    have := st.1 xs rfl
    exact k.keep b _ (fun z => na (z ▸ this)) (fun z => nl (z ▸ this)) e
  · exact k.obj e fun xs z2 => z ⟨xs, z2⟩
theorem SameX.keeps {x dx : Addr} {fs : List (Str × V)} (s : SameX x H H') (e : H x = some (.ins R dx fs)) (n : DoneF fs = false := by rfl) : Keeps N H H' := fun b o st h => s b o (fun z => by rw [z, e] at h; exact Bool.noConfusion (n.symm.trans (st.2.1 R dx fs (Option.some.inj h).symm))) h
/-- an object that is being made changes -/
theorem keeps_make {x dx : Addr} {fs : List (Str × V)} {o : HO} (e : H x = some (.ins R dx fs)) (n : DoneF fs = false := by rfl) : Keeps N H (upd H x o) := SameX.keeps (fun b o' ne h => by rw [upd_ne ne]; exact h) e n
theorem stays_tup {b : Addr} {xs : List V} : Stays N b (.tup xs) := ⟨(fun _ z => nomatch z), (fun _ _ _ z => nomatch z), (fun _ z => nomatch z), rfl⟩
theorem stays_ins {b C dx : Addr} {fs : List (Str × V)} (h : DoneF fs = true := by rfl) : Stays N b (.ins C dx fs) := ⟨(fun _ z => nomatch z), (fun _ _ _ z => by cases z; exact h), (fun _ z => nomatch z), rfl⟩
theorem stays_lst {b : Addr} {xs : List V} (h : N b) : Stays N b (.lst xs) := ⟨(fun _ _ => h), (fun _ _ _ z => nomatch z), (fun _ z => nomatch z), rfl⟩
theorem Keeps.tup {b : Addr} {xs : List V} (k : Keeps N H H') (h : SqT K H b xs) : SqT K H' b xs := by
  rcases h with (h | ⟨o, h⟩) | h
  · exact .inl (.inl (k _ _ stays_tup h))
  · exact .inl (.inr ⟨o, k _ _ ⟨(fun _ z => nomatch z), (fun _ _ _ z => nomatch z), (fun _ z => nomatch z), rfl⟩ h⟩)
  · exact .inr h
theorem CondAt.keeps {o : Addr} {hs fs : List Str} (h : CondAt K C H o hs fs) (k : Keeps N H H') : CondAt K C H' o hs fs := by
  obtain ⟨dx, a, b, n, zs, h1, h2, h3, h4, h5⟩ := h.at_
  exact ⟨dx, a, b, n, zs, k _ _ stays_ins h1, k.tup h2, k.tup h3, k _ _ stays_tup h4, h5⟩
/-- the fields of a rule -/
def ruleF (nm : Str) (c : Addr) (rl : Str) (p : Addr) (d : Int) (l : Addr) : List (Str × V) :=
  putF "_inside" (.ref l) (putF "_depth" (.int d) (putF "_exceptions" (.ref p) (putF "_ruling" (.str rl) (putF "_condition" (.ref c) (putF "_name" (.str nm) [])))))
def ForAt (K : PySem.W.Frag) (C R : Addr) (N : Addr → Prop) (H : Hp) : RF → List V → Prop
  | .nil, vs => vs = []
  | .cons nm hs fs rl exc rest, vs => ∃ (o dx c p l : Addr) (ws vs' : List V), vs = .ref o :: vs' ∧ H o = some (.ins R dx (ruleF nm c rl p ((exc.dep + 1 : Nat) : Int) l)) ∧ CondAt K C H c hs fs ∧ SqT K H p ws ∧ (N l ∧ H l = some (.lst ((nm :: exc.names).map V.str))) ∧
      ForAt K C R N H exc ws ∧ ForAt K C R N H rest vs'
def NdAt (K : PySem.W.Frag) (C R : Addr) (N : Addr → Prop) (H : Hp) (o : Addr) (n : Nd) : Prop := ∃ (dx c p l : Addr) (ws : List V), H o = some (.ins R dx (ruleF n.nm c n.rl p ((n.exc.dep + 1 : Nat) : Int) l)) ∧ CondAt K C H c n.hs n.fs ∧ SqT K H p ws ∧ (N l ∧ H l = some (.lst ((n.nm :: n.exc.names).map V.str))) ∧ ForAt K C R N H n.exc ws
def RefAt (K : PySem.W.Frag) (C R : Addr) (N : Addr → Prop) (H : Hp) (v : V) (n : Nd) : Prop := ∃ o, v = .ref o ∧ NdAt K C R N H o n
theorem stays_rule {b : Addr} {dx c p l : Addr} {nm rl : Str} {d : Int} : Stays N b (.ins R dx (ruleF nm c rl p d l)) := stays_ins
theorem ForAt.keeps (k : Keeps N H H') : ∀ {f : RF} {vs : List V}, ForAt K C R N H f vs → ForAt K C R N H' f vs
  | .nil, _, h => h
  | .cons nm hs fs rl exc rest, vs, h => by
    obtain ⟨o, dx, c, p, l, ws, vs', e, h1, h2, h3, ⟨h4, h5⟩, h6, h7⟩ := h
    exact ⟨o, dx, c, p, l, ws, vs', e, k _ _ stays_rule h1, h2.keeps k, k.tup h3, ⟨h4, k _ _ (stays_lst h4) h5⟩, ForAt.keeps k h6, ForAt.keeps k h7⟩
theorem NdAt.keeps {o : Addr} {n : Nd} (h : NdAt K C R N H o n) (k : Keeps N H H') : NdAt K C R N H' o n := by
  obtain ⟨dx, c, p, l, ws, h1, h2, h3, ⟨h4, h5⟩, h6⟩ := h
  exact ⟨dx, c, p, l, ws, k _ _ stays_rule h1, h2.keeps k, k.tup h3, ⟨h4, k _ _ (stays_lst h4) h5⟩, h6.keeps k⟩
theorem RefAt.keeps {v : V} {n : Nd} (h : RefAt K C R N H v n) (k : Keeps N H H') : RefAt K C R N H' v n := by
  obtain ⟨o, e, h⟩ := h
  exact ⟨o, e, h.keeps k⟩
theorem ForAt.all : ∀ {f : RF} {vs : List V}, ForAt K C R N H f vs → All2 (RefAt K C R N H) vs f.nodes
  | .nil, _, h => by
    obtain rfl : _ = [] := h
    exact .nil
  | .cons nm hs fs rl exc rest, vs, h => by
    obtain ⟨o, dx, c, p, l, ws, vs', rfl, h1, h2, h3, h4, h6, h7⟩ := h
    exact .cons ⟨o, rfl, dx, c, p, l, ws, h1, h2, h3, h4, h6⟩ h7.all
theorem ForAt.of : ∀ {f : RF} {vs : List V}, All2 (RefAt K C R N H) vs f.nodes → ForAt K C R N H f vs
  | .nil, _, h => by
    cases h
    rfl
  | .cons nm hs fs rl exc rest, vs, h => by
    cases h with
    | cons h t =>
      obtain ⟨o, rfl, dx, c, p, l, ws, h1, h2, h3, h4, h6⟩ := h
      exact ⟨o, dx, c, p, l, ws, _, rfl, h1, h2, h3, h4, h6, ForAt.of t⟩
theorem ForAt.len {f : RF} {vs : List V} (h : ForAt K C R N H f vs) : vs.length = f.nodes.length := h.all.len
theorem ForAt.re {M : Addr → Prop} (g : ∀ b xs, N b → H b = some (.lst xs) → M b) : ∀ {f : RF} {vs : List V}, ForAt K C R N H f vs → ForAt K C R M H f vs
  | .nil, _, h => h
  | .cons nm hs fs rl exc rest, vs, h => by
    obtain ⟨o, dx, c, p, l, ws, vs', e, h1, h2, h3, ⟨h4, h5⟩, h6, h7⟩ := h
    exact ⟨o, dx, c, p, l, ws, vs', e, h1, h2, h3, ⟨g _ _ h4 h5, h5⟩, ForAt.re g h6, ForAt.re g h7⟩
theorem NdAt.re {M : Addr → Prop} (g : ∀ b xs, N b → H b = some (.lst xs) → M b) {o : Addr} {n : Nd} (h : NdAt K C R N H o n) : NdAt K C R M H o n := by
  obtain ⟨dx, c, p, l, ws, h1, h2, h3, ⟨h4, h5⟩, h6⟩ := h
  exact ⟨dx, c, p, l, ws, h1, h2, h3, ⟨g _ _ h4 h5, h5⟩, h6.re g⟩
/-- the addresses of N that are in use -/
def Used (N : Addr → Prop) (H : Hp) (b : Addr) : Prop := N b ∧ H b ≠ none
theorem ForAt.used {f : RF} {vs : List V} (h : ForAt K C R N H f vs) : ForAt K C R (Used N H) H f vs := h.re fun b xs n e => ⟨n, by rw [e]; exact fun z => nomatch z⟩
theorem used_not {D : Addr} (n : H D = none) : ¬ Used N H D := fun h => h.2 n
theorem SameX.keeps' {D : Addr} (s : SameX D H H') (n : ¬ N D) (z : ∀ o, H D = some o → ∃ xs, o = .lst xs) : Keeps N H H' := fun b o st h => s b o (fun e => by
  subst e
  obtain ⟨xs, rfl⟩ := z o h
  exact n (st.1 xs rfl)) h
/-- a list of one's own changes -/
theorem keeps_own {D : Addr} {xs : List V} {o : HO} (e : H D = some (.lst xs)) (n : ¬ N D) : Keeps N H (upd H D o) := SameX.keeps' (fun b o' ne h => by rw [upd_ne ne]; exact h) n fun o' h => by rw [e] at h; exact ⟨xs, (Option.some.inj h).symm⟩
/-- a dict that is locked, or let go -/
theorem keeps_dk {d : Addr} {o0 o : HO} (e : H d = some o0) (h : dkB o0 = true) : Keeps N H (upd H d o) := fun b ob st eb => by
  by_cases z : b = d
  · subst z
    rw [e] at eb
    cases eb
    exact absurd (h.symm.trans st.2.2.2) (by decide)
  · rw [upd_ne z]
    exact eb
/-- a list of tuples (rule, number of rules around) -/
def PairAt (K : PySem.W.Frag) (C R : Addr) (N : Addr → Prop) (H : Hp) (v : V) (n : Nd × Nat) : Prop := ∃ (t o : Addr), v = .ref t ∧ H t = some (.tup [.ref o, .int (n.2 : Nat)]) ∧ NdAt K C R N H o n.1
theorem PairAt.keeps {v : V} {n : Nd × Nat} (h : PairAt K C R N H v n) (k : Keeps N H H') : PairAt K C R N H' v n := by
  obtain ⟨t, o, e, h1, h2⟩ := h
  exact ⟨t, o, e, k _ _ stays_tup h1, h2.keeps k⟩
theorem PairAt.re {M : Addr → Prop} (g : ∀ b xs, N b → H b = some (.lst xs) → M b) {v : V} {n : Nd × Nat} (h : PairAt K C R N H v n) : PairAt K C R M H v n := by
  obtain ⟨t, o, e, h1, h2⟩ := h
  exact ⟨t, o, e, h1, h2.re g⟩
abbrev PreAt (K : PySem.W.Frag) (C R : Addr) (N : Addr → Prop) (H : Hp) (us : List V) (ps : List (Nd × Nat)) : Prop := All2 (PairAt K C R N H) us ps
theorem PreAt.keeps {us : List V} {ps : List (Nd × Nat)} (h : PreAt K C R N H us ps) (k : Keeps N H H') : PreAt K C R N H' us ps := h.mono fun _ _ x => x.keeps k
/-! ### the law's rows: tuples -/
def RowsAt (K : PySem.W.Frag) (H : Hp) : RF → List V → Prop
  | .nil, vs => vs = []
  | .cons nm hs fs rl exc rest, vs => ∃ (o w b p : Addr) (ws vs' : List V), vs = .ref o :: vs' ∧ SqT K H o [.str nm, .ref w, .ref b, .str rl, .ref p] ∧ SqT K H w (hs.map V.str) ∧ SqT K H b (fs.map V.str) ∧ SqT K H p ws ∧ RowsAt K H exc ws ∧ RowsAt K H rest vs'
def RowAt (K : PySem.W.Frag) (H : Hp) (v : V) (n : Nd) : Prop := ∃ (o w b p : Addr) (ws : List V), v = .ref o ∧ SqT K H o [.str n.nm, .ref w, .ref b, .str n.rl, .ref p] ∧ SqT K H w (n.hs.map V.str) ∧ SqT K H b (n.fs.map V.str) ∧ SqT K H p ws ∧ RowsAt K H n.exc ws
theorem RowsAt.keeps (k : Keeps N H H') : ∀ {f : RF} {vs : List V}, RowsAt K H f vs → RowsAt K H' f vs
  | .nil, _, h => h
  | .cons nm hs fs rl exc rest, vs, h => by
    obtain ⟨o, w, b, p, ws, vs', e, h1, h2, h3, h4, h6, h7⟩ := h
    exact ⟨o, w, b, p, ws, vs', e, k.tup h1, k.tup h2, k.tup h3, k.tup h4, RowsAt.keeps k h6, RowsAt.keeps k h7⟩
theorem RowAt.keeps {v : V} {n : Nd} (h : RowAt K H v n) (k : Keeps N H H') : RowAt K H' v n := by
  obtain ⟨o, w, b, p, ws, e, h1, h2, h3, h4, h6⟩ := h
  exact ⟨o, w, b, p, ws, e, k.tup h1, k.tup h2, k.tup h3, k.tup h4, h6.keeps k⟩
theorem RowsAt.all : ∀ {f : RF} {vs : List V}, RowsAt K H f vs → All2 (RowAt K H) vs f.nodes
  | .nil, _, h => by
    obtain rfl : _ = [] := h
    exact .nil
  | .cons nm hs fs rl exc rest, vs, h => by
    obtain ⟨o, w, b, p, ws, vs', rfl, h1, h2, h3, h4, h6, h7⟩ := h
    exact .cons ⟨o, w, b, p, ws, rfl, h1, h2, h3, h4, h6⟩ h7.all
theorem RowsAt.of : ∀ {f : RF} {vs : List V}, All2 (RowAt K H) vs f.nodes → RowsAt K H f vs
  | .nil, _, h => by
    cases h
    rfl
  | .cons nm hs fs rl exc rest, vs, h => by
    cases h with
    | cons h t =>
      obtain ⟨o, w, b, p, ws, rfl, h1, h2, h3, h4, h6⟩ := h
      exact ⟨o, w, b, p, ws, _, rfl, h1, h2, h3, h4, h6, RowsAt.of t⟩
theorem RowsAt.len {f : RF} {vs : List V} (h : RowsAt K H f vs) : vs.length = f.nodes.length := h.all.len
end
end Sc
namespace Sc
open PySem PySem.Spec PyProof.Rows L2
/-! ### rules -/
/-- a getter as its users see it -/
abbrev PropX (P : Program) (w : World) (K : PySem.W.Frag) (mg : Str → Option Value) (base : Heap) (C : Addr) (n f : Str) : Prop := ∃ p g fd, PropC P w K mg base C p g fd n f
/-- the class Rule as its users see it -/
structure RuleX (P : Program) (w : World) (K : PySem.W.Frag) (mg : Str → Option Value) (base : Heap) (R : Addr) : Prop where
  cls : Cls K R
  name : PropX P w K mg base R "name" "_name"
  condition : PropX P w K mg base R "condition" "_condition"
  ruling : PropX P w K mg base R "ruling" "_ruling"
  exceptions : PropX P w K mg base R "exceptions" "_exceptions"
  depth : PropX P w K mg base R "depth" "_depth"
/-- the getters of a condition -/
structure CondG (P : Program) (w : World) (K : PySem.W.Frag) (mg : Str → Option Value) (base : Heap) (C : Addr) : Prop where
  cls : Cls K C
  holding : PropX P w K mg base C "holding" "_holding"
  failing : PropX P w K mg base C "failing" "_failing"
  names : PropX P w K mg base C "names" "_names"
def Below (S : Nat → Sp) : Nat → Sp
  | 0 => fun _ _ _ _ => False
  | d + 1 => S d
theorem sc_nested : FnScope ["rules", "around", "found", "rule"] ["rules", "around"] (defScope s_nested) := ⟨rfl, rfl, rfl, by decide +kernel, rfl, by decide +kernel, by decide +kernel⟩
section
variable {P : Program} {w : World} {K : PySem.W.Frag} {mg : Str → Option Value} {base : Heap} {C R : Addr}
theorem FnOk.never {CX : CXT} {k : Nat} {f : Addr} {fd : FuncData} {ps : List Str} : FnOk P w K mg base CX k f fd ps (fun _ _ _ _ => False) := ⟨fun _ _ _ _ h => h.elim, fun _ _ _ _ _ _ _ _ _ _ _ _ _ h => h.elim⟩
def sp_nested (K : PySem.W.Frag) (C R : Addr) (d : Nat) : Sp := fun vs H Q _ => ∃ (N : Addr → Prop) (p : Addr) (k : Nat) (ws : List V) (f : RF), vs = [.ref p, .int (k : Nat)] ∧ SqT K H p ws ∧ ForAt K C R N H f ws ∧ f.dep ≤ d ∧ f.size ≤ 900 ∧
  ∀ H' D us, Same H H' → H D = none → H' D = some (.lst us) → PreAt K C R N H' us (f.pre k) → Q (.ref D) H'
theorem ok_nested {d : Nat} {f : Addr} {fd : FuncData} (F : Fun K "nested" "nested" s_nested f fd) (kR : RuleX P w K mg base R) (c_nested : Cal P w K mg base CX0 (d + 2) "nested" ["rules", "around"] (Below (sp_nested K C R) d)) :
    FnOk P w K mg base CX0 (d + 3) f fd ["rules", "around"] (sp_nested K C R d) := by
  refine F.ok sc_nested (fun vs H Q E h => by obtain ⟨N, p, k, ws, f, rfl, _⟩ := h; rfl) (fun cdv A outer s H vs Q E hr h => ?_)
  obtain ⟨N, p, k, ws, f, rfl, hP, hF, hd, hz, q⟩ := h
  have hA := hF.used.all
  have hln := hA.len
  have hlz := RF.nodes_le f
  refine ⟨_, (pss_cons (ps_set (i := 2) sc_nested.nd rfl (Or.inl rfl) (pe_lst pa_nil))
      (pss_cons (ps_for PassesOwn.never rfl (pi_tup (pv 0)) (pg_name (i := 3) sc_nested.nd rfl (Or.inl rfl)) (pss_cons (ps_expr (pe_bm PySem.F.plainAttrs_list PySem.F.slot_list_append PySem.F.type_list_append mt_append (pv 2) (pa_cons (pe_tup (pa_cons (pv 3) (pa_cons (pv 1) pa_nil))) pa_nil)))
      (pss_one (ps_expr (pe_bm PySem.F.plainAttrs_list PySem.F.slot_list_extend PySem.F.type_list_extend mt_extend (pv 2) (pa_cons (pe_cal c_nested hr (pa_cons (pe_cprop kR.exceptions kR.cls (hr.mono (by omega)) (pv 3)) (pa_cons (pe_op op_add (pv 1) pe_int) pa_nil))) pa_nil))))))
      (pss_one (ps_ret (pv 2))))), ?_⟩
  refine ⟨Nat.zero_le _, fun D nD => ⟨_, rfl, p, rfl, ⟨_, ((Same.refl H).put nD).tup hP⟩, for_it walk_tup (fun i σ H' => ∃ us y, σ = [some (.ref p), some (.int (k : Nat)), some (.ref D), y] ∧ Same H H' ∧ H' D = some (.lst us) ∧ PreAt K C R (Used N H) H' us (RF.preL (f.nodes.take i) k))
    ⟨[], none, rfl, (Same.refl H).put nD, upd_same, .nil⟩ (fun _ _ _ _ ⟨_, _, _, s, _⟩ => s.tup hP) ?_ ?_⟩⟩
  · rintro i y σ H3 H2 hi ⟨us, y', rfl, s, e, hu⟩ ⟨rfl, hy⟩
    have nU := used_not (N := N) nD
    obtain ⟨n, hn, o, rfl, hN⟩ := hA.get hy
    have hmem : n ∈ f.nodes := List.mem_of_getElem? hn
    have hdm := RF.dep_mem f n hmem
    have hsm := RF.size_mem f n hmem
    obtain ⟨d, rfl⟩ : ∃ d', d = d' + 1 := ⟨d - 1, by omega⟩
    have hul := hu.len
    have hpl := RF.preL_len (f := f) (i := i) (k := k)
    have hpl2 := RF.preL_len (f := f) (i := i + 1) (k := k)
    rw [RF.preL_more hn, List.length_append, List.length_cons, RF.pre_len] at hpl2
    refine ⟨_, rfl, .inl ⟨rfl, _, sqL_of e⟩, _, rfl, _, rfl, (by show 2 ≤ sizeLine; decide), fun t nt => ?_⟩
    have s3 := s.put' (o := .tup [.ref o, .int (k : Nat)]) nt
    have e3 : (upd H2 t (.tup [.ref o, .int (k : Nat)])) D = some (.lst us) := by rw [upd_ne (ne_of_none e nt)]; exact e
    have t3 : (upd H2 t (.tup [.ref o, .int (k : Nat)])) t = some (.tup [.ref o, .int (k : Nat)]) := upd_same
    have s23 : Same H2 (upd H2 t (.tup [.ref o, .int (k : Nat)])) := (Same.refl H2).put nt
    have hu3 := hu.keeps s23.keeps
    clear s23
    generalize upd H2 t (.tup [.ref o, .int (k : Nat)]) = H3 at s3 e3 t3 hu3 ⊢
    refine ⟨D, _, _, rfl, rfl, e3, small1000 (by omega), ?_⟩
    have s4 : Same H (upd H3 D (.lst (us ++ [.ref t]))) := s3.put nD
    have e4 : (upd H3 D (.lst (us ++ [.ref t]))) D = some (.lst (us ++ [.ref t])) := upd_same
    have tD : t ≠ D := fun z => by rw [z, e3] at t3; cases t3
    have hu4 : PreAt K C R (Used N H) (upd H3 D (.lst (us ++ [.ref t]))) (us ++ [.ref t]) (RF.preL (f.nodes.take i) k ++ [(n, k)]) :=
      (hu3.keeps (keeps_own e3 nU)).snoc ⟨t, o, rfl, by rw [upd_ne tD]; exact t3, hN.keeps s4.keeps⟩
    generalize upd H3 D (.lst (us ++ [.ref t])) = H4 at s4 e4 hu4 ⊢
    obtain ⟨dx, c, pe, l, ws', ho, hc, hpe, hl, hfe⟩ := hN
    refine ⟨_, rfl, .inl ⟨rfl, _, sqL_of e4⟩, _, rfl, o, dx, _, rfl, s4 _ _ ho, ⟨o, dx, _, _, rfl, s4 _ _ ho, rfl, ?_⟩⟩
    refine ⟨_, rfl, k, 1, rfl, rfl, ?_⟩
    refine ⟨_, pe, k + 1, ws', n.exc, rfl, s4.tup hpe, hfe.keeps s4.keeps, by omega, by omega, fun H5 D5 us5 s5 n5 e5 hu5 => ?_⟩
    have s45 := s4.trans s5
    have e45 := s5 _ _ e4
    refine ⟨D, D5, _, _, rfl, rfl, e45, e5, ?_, ?_⟩
    · have := hu5.len
      rw [RF.pre_len] at this
      have h4 := hu4.len
      rw [List.length_append (bs := [(n, k)]), List.length_singleton] at h4
      exact Nat.le_of_lt (small1000 (by omega))
    refine ⟨_, _, rfl, s45.put nD, upd_same, ?_⟩
    rw [RF.preL_more hn]
    have h1 := (hu4.keeps s5.keeps).app hu5
    have h2 := PreAt.keeps h1 (keeps_own (o := .lst (us ++ [.ref t] ++ us5)) e45 nU)
    rw [show RF.preL (f.nodes.take i) k ++ [(n, k)] ++ n.exc.pre (k + 1) = RF.preL (f.nodes.take i) k ++ ((n, k) :: n.exc.pre (k + 1)) by simp] at h2
    exact h2
  · rintro σ H2 ⟨us, y, rfl, s, e, hu⟩
    rw [hln, RF.preL_all] at hu
    exact ⟨_, rfl, q H2 D us s nD e (hu.mono fun _ _ x => x.re fun b xs h _ => h.1)⟩
end
end Sc
namespace Sc
open PySem PySem.Spec PyProof.Rows L2
/-! ### an object Rule -/
theorem sc_Rule___init__ : FnScope ["self", "name", "condition", "ruling", "exceptions", "rule", "_"] ["self", "name", "condition", "ruling", "exceptions"] (defScope s_Rule___init__) := ⟨rfl, rfl, rfl, by decide +kernel, rfl, by decide +kernel, by decide +kernel⟩
theorem sc_Rule_name : FnScope ["self"] ["self"] (defScope s_Rule_name) := ⟨rfl, rfl, rfl, by decide +kernel, rfl, by decide +kernel, by decide +kernel⟩
theorem sc_Rule_condition : FnScope ["self"] ["self"] (defScope s_Rule_condition) := ⟨rfl, rfl, rfl, by decide +kernel, rfl, by decide +kernel, by decide +kernel⟩
theorem sc_Rule_ruling : FnScope ["self"] ["self"] (defScope s_Rule_ruling) := ⟨rfl, rfl, rfl, by decide +kernel, rfl, by decide +kernel, by decide +kernel⟩
theorem sc_Rule_exceptions : FnScope ["self"] ["self"] (defScope s_Rule_exceptions) := ⟨rfl, rfl, rfl, by decide +kernel, rfl, by decide +kernel, by decide +kernel⟩
theorem sc_Rule_depth : FnScope ["self"] ["self"] (defScope s_Rule_depth) := ⟨rfl, rfl, rfl, by decide +kernel, rfl, by decide +kernel, by decide +kernel⟩
section
variable {P : Program} {w : World} {K : PySem.W.Frag} {mg : Str → Option Value} {base : Heap} {C R CR : Addr}
theorem ok_Rule_name {f : Addr} {fd : FuncData} (F : Fun K "name" "Rule.name" s_Rule_name f fd) (T : Cls K R) (n : NoAttr K R "_name") : FnOk P w K mg base CX0 1 f fd ["self"] (sp_prop R "_name") := by
  refine F.ok sc_Rule_name (fun vs H Q E h => by obtain ⟨x, dx, fs, v, rfl, _⟩ := h; rfl) (fun cdv A outer s H vs Q E hr h => ?_)
  obtain ⟨x, dx, fs, v, rfl, hx, hl, q⟩ := h
  exact ⟨_, (pss_one (ps_ret (pe_fld (pv 0) rfl))), ⟨_, rfl, x, R, dx, fs, v, rfl, hx, T, n, hl, q⟩⟩
theorem ok_Rule_condition {f : Addr} {fd : FuncData} (F : Fun K "condition" "Rule.condition" s_Rule_condition f fd) (T : Cls K R) (n : NoAttr K R "_condition") : FnOk P w K mg base CX0 1 f fd ["self"] (sp_prop R "_condition") := by
  refine F.ok sc_Rule_condition (fun vs H Q E h => by obtain ⟨x, dx, fs, v, rfl, _⟩ := h; rfl) (fun cdv A outer s H vs Q E hr h => ?_)
  obtain ⟨x, dx, fs, v, rfl, hx, hl, q⟩ := h
  exact ⟨_, (pss_one (ps_ret (pe_fld (pv 0) rfl))), ⟨_, rfl, x, R, dx, fs, v, rfl, hx, T, n, hl, q⟩⟩
theorem ok_Rule_ruling {f : Addr} {fd : FuncData} (F : Fun K "ruling" "Rule.ruling" s_Rule_ruling f fd) (T : Cls K R) (n : NoAttr K R "_ruling") : FnOk P w K mg base CX0 1 f fd ["self"] (sp_prop R "_ruling") := by
  refine F.ok sc_Rule_ruling (fun vs H Q E h => by obtain ⟨x, dx, fs, v, rfl, _⟩ := h; rfl) (fun cdv A outer s H vs Q E hr h => ?_)
  obtain ⟨x, dx, fs, v, rfl, hx, hl, q⟩ := h
  exact ⟨_, (pss_one (ps_ret (pe_fld (pv 0) rfl))), ⟨_, rfl, x, R, dx, fs, v, rfl, hx, T, n, hl, q⟩⟩
theorem ok_Rule_exceptions {f : Addr} {fd : FuncData} (F : Fun K "exceptions" "Rule.exceptions" s_Rule_exceptions f fd) (T : Cls K R) (n : NoAttr K R "_exceptions") : FnOk P w K mg base CX0 1 f fd ["self"] (sp_prop R "_exceptions") := by
  refine F.ok sc_Rule_exceptions (fun vs H Q E h => by obtain ⟨x, dx, fs, v, rfl, _⟩ := h; rfl) (fun cdv A outer s H vs Q E hr h => ?_)
  obtain ⟨x, dx, fs, v, rfl, hx, hl, q⟩ := h
  exact ⟨_, (pss_one (ps_ret (pe_fld (pv 0) rfl))), ⟨_, rfl, x, R, dx, fs, v, rfl, hx, T, n, hl, q⟩⟩
theorem ok_Rule_depth {f : Addr} {fd : FuncData} (F : Fun K "depth" "Rule.depth" s_Rule_depth f fd) (T : Cls K R) (n : NoAttr K R "_depth") : FnOk P w K mg base CX0 1 f fd ["self"] (sp_prop R "_depth") := by
  refine F.ok sc_Rule_depth (fun vs H Q E h => by obtain ⟨x, dx, fs, v, rfl, _⟩ := h; rfl) (fun cdv A outer s H vs Q E hr h => ?_)
  obtain ⟨x, dx, fs, v, rfl, hx, hl, q⟩ := h
  exact ⟨_, (pss_one (ps_ret (pe_fld (pv 0) rfl))), ⟨_, rfl, x, R, dx, fs, v, rfl, hx, T, n, hl, q⟩⟩
theorem putF_le {f : Str} {v : V} {fs : List (Str × V)} {n : Nat} (h : fs.length ≤ n) : (putF f v fs).length ≤ n + 1 := Nat.le_trans (putF_len f v fs) (Nat.succ_le_succ h)
theorem SameX.refl {x : Addr} {H : Hp} : SameX x H H := fun _ _ _ e => e
theorem SameX.put {x : Addr} {H H' : Hp} {o : HO} (s : SameX x H H') : SameX x H (upd H' x o) := fun b o' ne e => by rw [upd_ne ne]; exact s b o' ne e
theorem SameX.same {x : Addr} {H H' H'' : Hp} (s : SameX x H H') (k : Same H' H'') : SameX x H H'' := fun b o ne e => k _ _ (s b o ne e)
theorem SameX.of {x : Addr} {H H' : Hp} (k : Same H H') : SameX x H H' := fun b o _ e => k _ _ e
theorem SameX.free {x l : Addr} {H H' : Hp} (s : SameX x H H') (ne : l ≠ x) (n : H' l = none) : H l = none := by
  cases e : H l with
  | none => rfl
  | some o => rw [s l o ne e] at n; cases n
theorem dep_is {f : RF} {m : Int} (hm : m ∈ (0 : Int) :: f.nodes.map fun n => ((n.exc.dep + 1 : Nat) : Int)) (hle : ∀ y, y ∈ ((0 : Int) :: f.nodes.map fun n => ((n.exc.dep + 1 : Nat) : Int)) → y ≤ m) : m = (f.dep : Nat) := by
  have h0 := hle 0 List.mem_cons_self
  obtain ⟨k, rfl⟩ := Int.eq_ofNat_of_zero_le h0
  have h1 : f.dep ≤ k := RF.dep_le f k fun n hn => by
    have := hle _ (List.mem_cons_of_mem _ (List.mem_map.mpr ⟨n, hn, rfl⟩))
    omega
  have h2 : k ≤ f.dep := by
    rcases List.mem_cons.mp hm with h | h
    · omega
    · obtain ⟨n, hn, e⟩ := List.mem_map.mp h
      have := RF.dep_mem f n hn
      omega
  omega
def errPt (C : Addr) (w : Str) (H : Hp) (E : XK) : Prop := ∀ H' d, Same H H' → H' d = none → E (.ref C) (some d) (upd H' d (.xd [(("part" : Str), .str w)]))
def sp_rule_init (K : PySem.W.Frag) (C R CR : Addr) : Sp := fun vs H Q E => ∃ (N : Addr → Prop) (x dx c p : Addr) (nm rl : Str) (ws : List V) (exc : RF), vs = [.ref x, .str nm, .ref c, .str rl, .ref p] ∧ H x = some (.ins R dx []) ∧ SqT K H p ws ∧ ForAt K C R N H exc ws ∧ nm.length ≤ 1000 ∧ rl.length ≤ 1000 ∧ exc.dep ≤ 12 ∧ exc.size ≤ 900 ∧
  (isName nm = false → errPt CR "name" H E) ∧ (isName nm = true → (isName rl = false → errPt CR "ruling" H E) ∧ (isName rl = true →
    ∀ H' l, SameX x H H' → H' x = some (.ins R dx (ruleF nm c rl p ((exc.dep + 1 : Nat) : Int) l)) → l ≠ x → H l = none → H' l = some (.lst ((nm :: exc.names).map V.str)) → Q .non H'))
theorem ok_rule_init {f : Addr} {fd : FuncData} (F : Fun K "__init__" "Rule.__init__" s_Rule___init__ f fd) (B : Blt mg) (T : Cls K R) (n1 : NoAttr K R "_name") (n2 : NoAttr K R "_condition") (n3 : NoAttr K R "_ruling") (n4 : NoAttr K R "_exceptions") (n5 : NoAttr K R "_depth") (n6 : NoAttr K R "_inside")
    (kR : RuleX P w K mg base R) (e_InvalidRule : ErrMk P w K mg base "InvalidRule" CR ["self", "part"] (sp_init1 CR "part")) (c_is_name : Cal P w K mg base CX0 1 "is_name" ["value"] sp_is_name) (c_nested : Cal P w K mg base CX0 15 "nested" ["rules", "around"] (sp_nested K C R 12)) :
    FnOk P w K mg base (L2.CX P w) 16 f fd ["self", "name", "condition", "ruling", "exceptions"] (sp_rule_init K C R CR) := by
  refine F.okX sc_Rule___init__ (fun vs H Q E h => by obtain ⟨N, x, dx, c, p, nm, rl, ws, exc, rfl, _⟩ := h; rfl) (fun cdv A outer s H vs Q E hr h => ?_)
  obtain ⟨N, x, dx, c, p, nm, rl, ws, exc, rfl, hx, hP, hF, ln, lr, hd, hz, e1, q⟩ := h
  refine ⟨_, (pss_cons (ps_if (pt_not (pt_val (pe_cal c_is_name (hr.mono (by decide)) (pa_cons (pv 1) pa_nil)))) (pss_one (ps_raise rfl (takes_of rfl rfl rfl rfl) (pmk_err1 e_InvalidRule (hr.mono (by decide)) pe_str))) pss_nil)
      (pss_cons (ps_if (pt_not (pt_val (pe_cal c_is_name (hr.mono (by decide)) (pa_cons (pv 3) pa_nil)))) (pss_one (ps_raise rfl (takes_of rfl rfl rfl rfl) (pmk_err1 e_InvalidRule (hr.mono (by decide)) pe_str))) pss_nil)
      (pss_cons (ps_fld (pv 0) (pv 1) rfl)
      (pss_cons (ps_fld (pv 0) (pv 2) rfl)
      (pss_cons (ps_fld (pv 0) (pv 3) rfl)
      (pss_cons (ps_fld (pv 0) (pv 4) rfl)
      (pss_cons (ps_fld (pv 0) (pe_op op_add pe_int (pe_callB (cr_max rfl) (by rfl) B.b_max PyProof.Rows.boot_max (pa_cons (pe_op op_cat (pe_lst (pa_cons pe_int pa_nil)) (pe_lc (own := [("rule", 5)]) (g := gName 5) (tt := tYes) rfl sc_Rule___init__.nd (pi_tup (pv 4)) (blkOk_by (own := [("rule", 5)]) (N := ["self", "name", "condition", "ruling", "exceptions", "rule", "_"]) (sc := defScope s_Rule___init__) (by decide +kernel)) (fun _ _ _ _ _ => (pg_name (i := 5) sc_Rule___init__.nd rfl (Or.inl rfl))) (fun _ _ _ _ _ => pts_nil) (fun _ _ _ _ _ => (pe_.re (pe_cprop kR.depth kR.cls (hr.mono (by decide)) (pv 5)) (by first | (dsimp only [Cx.blk]; done) | exact rfl))))) pa_nil))) rfl)
      (pss_one (ps_fld (pv 0) (pe_op op_cat (pe_lst (pa_cons (pv 1) pa_nil)) (pe_lc (own := [("rule", 5), ("_", 6)]) (g := gTup K 2 (gCons (gName 5) (gCons (gName 6) gNil))) (tt := tYes) rfl sc_Rule___init__.nd (pi_list (pe_cal c_nested (hr.mono (by decide)) (pa_cons (pv 4) (pa_cons pe_int pa_nil)))) (blkOk_by (own := [("rule", 5), ("_", 6)]) (N := ["self", "name", "condition", "ruling", "exceptions", "rule", "_"]) (sc := defScope s_Rule___init__) (by decide +kernel)) (fun _ _ _ _ _ => (pg_tup (by rfl) (pgs_cons (pg_name (i := 5) sc_Rule___init__.nd rfl (Or.inl rfl)) (pgs_cons (pg_name (i := 6) sc_Rule___init__.nd rfl (Or.inl rfl)) pgs_nil)))) (fun _ _ _ _ _ => pts_nil) (fun _ _ _ _ _ => (pe_.re (pe_cprop kR.name kR.cls (hr.mono (by decide)) (pv 5)) (by first | (dsimp only [Cx.blk]; done) | exact rfl))))) rfl))))))))), ?_⟩
  have big : ∀ {m : Nat}, m ≤ 1000 → m ≤ sizeLine := fun {m} h => by rw [sizeLine_eq]; omega
  have fkp : ∀ wd : Str, wd.length ≤ 1000 → FOk (.str wd) := fun wd h => Nat.le_trans h (by decide)
  refine ⟨_, rfl, nm, rfl, big ln, fun H1 s1 => ⟨_, rfl, bcase (fun c1 => ?_) (fun c1 => ?_)⟩⟩
  · exact ⟨fkp "name" (by decide), fun d nd => e1 ((Bool.not_eq_true' _).mp c1) H1 d s1 nd⟩
  obtain ⟨e2, q⟩ := q ((Bool.not_eq_false' _).mp c1)
  refine ⟨_, rfl, rl, rfl, big lr, fun H2 s2 => ⟨_, rfl, bcase (fun c2 => ?_) (fun c2 => ?_)⟩⟩
  · exact ⟨fkp "ruling" (by decide), fun d nd => e2 ((Bool.not_eq_true' _).mp c2) H2 d (s1.trans s2) nd⟩
  have q := q ((Bool.not_eq_false' _).mp c2)
  have s12 := s1.trans s2
  have hx2 := s12 _ _ hx
  refine ⟨_, rfl, _, rfl, x, R, dx, _, rfl, hx2, T, n1, by decide, ?_⟩
  refine ⟨_, rfl, _, rfl, x, R, dx, _, rfl, upd_same, T, n2, Nat.lt_of_le_of_lt (putF_le (Nat.zero_le 0)) (by decide), ?_⟩
  refine ⟨_, rfl, _, rfl, x, R, dx, _, rfl, upd_same, T, n3, Nat.lt_of_le_of_lt (putF_le (putF_le (Nat.zero_le 0))) (by decide), ?_⟩
  refine ⟨_, rfl, _, rfl, x, R, dx, _, rfl, upd_same, T, n4, Nat.lt_of_le_of_lt (putF_le (putF_le (putF_le (Nat.zero_le 0)))) (by decide), ?_⟩
  have sx : SameX x H (upd (upd (upd (upd H2 x (.ins R dx (putF "_name" (.str nm) []))) x (.ins R dx (putF "_condition" (.ref c) (putF "_name" (.str nm) [])))) x (.ins R dx (putF "_ruling" (.str rl) (putF "_condition" (.ref c) (putF "_name" (.str nm) []))))) x (.ins R dx (putF "_exceptions" (.ref p) (putF "_ruling" (.str rl) (putF "_condition" (.ref c) (putF "_name" (.str nm) [])))))) := ((((SameX.of s12).put).put).put).put
  have hx6 : (upd (upd (upd (upd H2 x (.ins R dx (putF "_name" (.str nm) []))) x (.ins R dx (putF "_condition" (.ref c) (putF "_name" (.str nm) [])))) x (.ins R dx (putF "_ruling" (.str rl) (putF "_condition" (.ref c) (putF "_name" (.str nm) []))))) x (.ins R dx (putF "_exceptions" (.ref p) (putF "_ruling" (.str rl) (putF "_condition" (.ref c) (putF "_name" (.str nm) [])))))) x = some (.ins R dx (putF "_exceptions" (.ref p) (putF "_ruling" (.str rl) (putF "_condition" (.ref c) (putF "_name" (.str nm) []))))) := upd_same
  generalize upd (upd (upd (upd H2 x (.ins R dx (putF "_name" (.str nm) []))) x (.ins R dx (putF "_condition" (.ref c) (putF "_name" (.str nm) [])))) x (.ins R dx (putF "_ruling" (.str rl) (putF "_condition" (.ref c) (putF "_name" (.str nm) []))))) x (.ins R dx (putF "_exceptions" (.ref p) (putF "_ruling" (.str rl) (putF "_condition" (.ref c) (putF "_name" (.str nm) []))))) = H6 at sx hx6 ⊢
  have k6 : Keeps N H H6 := sx.keeps hx
  have hP6 := k6.tup hP
  have hF6 := hF.keeps k6
  have hA6 := hF6.all
  have hln := hA6.len
  have hlz := RF.nodes_le exc
  refine ⟨(by show 1 ≤ sizeLine; decide), fun l0 nl0 => ?_⟩
  have s0 : Same H6 (upd H6 l0 (.lst [.int 0])) := (Same.refl H6).put nl0
  have el0 : (upd H6 l0 (.lst [.int 0])) l0 = some (.lst [.int 0]) := upd_same
  generalize upd H6 l0 (.lst [.int 0]) = H7 at s0 el0 ⊢
  refine ⟨_, rfl, p, rfl, ⟨_, s0.tup hP6⟩, fun D nD => lc_it walk_tup (fun i H' => Same H7 H' ∧ H' D = some (.lst ((exc.nodes.take i).map fun n => V.int ((n.exc.dep + 1 : Nat) : Int)))) ⟨(Same.refl H7).put nD, upd_same⟩ (fun _ _ _ h => (s0.trans h.1).tup hP6) ?_ ?_⟩
  · rintro i y H8 H9 hi ⟨s, e⟩ ⟨rfl, hy⟩
    obtain ⟨n, hn, o, rfl, hN⟩ := hA6.get hy
    obtain ⟨dx', c', p', l', ws', ho, _⟩ := hN
    have ho := s _ _ (s0 _ _ ho)
    refine ⟨rfl, yes_ ⟨_, rfl, o, dx', _, rfl, ho, o, dx', _, _, rfl, ho, rfl, grow (acc := fun i => (exc.nodes.take i).map fun n => V.int ((n.exc.dep + 1 : Nat) : Int)) nD s e ?_ ?_⟩⟩
    · rw [List.length_map, List.length_take]
      exact small1000 (by omega)
    · show List.map _ _ = _
      rw [take_more hn, List.map_append]
      rfl
  rintro H8 ⟨s8, e8⟩
  rw [hln, List.take_length] at e8
  have el8 := s8 _ _ el0
  refine ⟨l0, D, _, _, rfl, rfl, el8, e8, ?_, fun l2 nl2 => ?_⟩
  · rw [List.length_map]
    exact big (by show 1 + _ ≤ _; omega)
  have s9 : Same H8 (upd H8 l2 (.lst ([V.int 0] ++ exc.nodes.map fun n => V.int ((n.exc.dep + 1 : Nat) : Int)))) := (Same.refl H8).put nl2
  have e9 : (upd H8 l2 (.lst ([V.int 0] ++ exc.nodes.map fun n => V.int ((n.exc.dep + 1 : Nat) : Int)))) l2 = some (.lst ([V.int 0] ++ exc.nodes.map fun n => V.int ((n.exc.dep + 1 : Nat) : Int))) := upd_same
  generalize upd H8 l2 (.lst ([V.int 0] ++ exc.nodes.map fun n => V.int ((n.exc.dep + 1 : Nat) : Int))) = H9 at s9 e9 ⊢
  refine ⟨l2, (0 : Int) :: exc.nodes.map (fun n => ((n.exc.dep + 1 : Nat) : Int)), rfl, sqL_of (by rw [e9, List.map_cons, List.map_map]; rfl), Nat.succ_pos _, fun m hm hle => ?_⟩
  obtain rfl := dep_is hm hle
  have s69 := (s0.trans s8).trans s9
  have hx9 := s69 _ _ hx6
  refine ⟨1, _, rfl, rfl, _, rfl, x, R, dx, _, rfl, hx9, T, n5, Nat.lt_of_le_of_lt (putF_le (putF_le (putF_le (putF_le (Nat.zero_le 0))))) (by decide), ?_⟩
  have sx10 : SameX x H (upd H9 x (.ins R dx (putF "_depth" (.int (1 + (exc.dep : Int))) (putF "_exceptions" (.ref p) (putF "_ruling" (.str rl) (putF "_condition" (.ref c) (putF "_name" (.str nm) []))))))) := (sx.same s69).put
  have hx10 : (upd H9 x (.ins R dx (putF "_depth" (.int (1 + (exc.dep : Int))) (putF "_exceptions" (.ref p) (putF "_ruling" (.str rl) (putF "_condition" (.ref c) (putF "_name" (.str nm) []))))))) x = some (.ins R dx (putF "_depth" (.int (1 + (exc.dep : Int))) (putF "_exceptions" (.ref p) (putF "_ruling" (.str rl) (putF "_condition" (.ref c) (putF "_name" (.str nm) [])))))) := upd_same
  generalize upd H9 x (.ins R dx (putF "_depth" (.int (1 + (exc.dep : Int))) (putF "_exceptions" (.ref p) (putF "_ruling" (.str rl) (putF "_condition" (.ref c) (putF "_name" (.str nm) [])))))) = H10 at sx10 hx10 ⊢
  rw [show 1 + (exc.dep : Int) = ((exc.dep + 1 : Nat) : Int) by omega] at hx10
  have k10 : Keeps N H H10 := sx10.keeps hx
  refine ⟨_, rfl, (by show 1 ≤ sizeLine; decide), fun l1 nl1 => ?_⟩
  have s11 : Same H10 (upd H10 l1 (.lst [.str nm])) := (Same.refl H10).put nl1
  have e11 : (upd H10 l1 (.lst [.str nm])) l1 = some (.lst [.str nm]) := upd_same
  generalize upd H10 l1 (.lst [.str nm]) = H11 at s11 e11 ⊢
  refine ⟨_, rfl, N, p, 1, ws, exc, rfl, s11.tup (k10.tup hP), (hF.keeps k10).keeps s11.keeps, hd, hz, fun H12 D3 us s12' nD3 eD3 hu => ?_⟩
  have hul := hu.len
  rw [RF.pre_len] at hul
  refine ⟨D3, rfl, ⟨_, sqL_of eD3⟩, fun D4 nD4 => lc_it walk_list (fun i H' => Same H12 H' ∧ H' D4 = some (.lst (((exc.pre 1).take i).map fun q => V.str q.1.nm))) ⟨(Same.refl H12).put nD4, upd_same⟩ (fun _ _ _ h => sqL_of (h.1 _ _ eD3)) ?_ ?_⟩
  · rintro i y H13 H14 hi ⟨s, e⟩ ⟨rfl, hy⟩
    obtain ⟨⟨n, k⟩, hq, t, o, rfl, ht, hN⟩ := hu.get hy
    obtain ⟨dx', c', p', l', ws', ho, _⟩ := hN
    have ho := s _ _ ho
    have ht := s _ _ ht
    refine ⟨t, [.ref o, .int (k : Nat)], rfl, sqT_of ht, rfl, _, _, rfl, _, _, rfl, rfl, rfl, yes_ ⟨_, rfl, o, dx', _, rfl, ho, o, dx', _, _, rfl, ho, rfl, grow (acc := fun i => ((exc.pre 1).take i).map fun q => V.str q.1.nm) nD4 s e ?_ ?_⟩⟩
    · rw [List.length_map, List.length_take, RF.pre_len]
      exact small1000 (by omega)
    · show List.map _ _ = _
      rw [take_more hq, List.map_append]
      rfl
  rintro H13 ⟨s13, e13⟩
  rw [hu.len, List.take_length] at e13
  have e13 : H13 D4 = some (.lst (exc.names.map V.str)) := by rw [e13, ← RF.pre_names exc 1, List.map_map]; rfl
  have s1013 := (s11.trans s12').trans s13
  refine ⟨l1, D4, _, _, rfl, rfl, s13 _ _ (s12' _ _ e11), e13, ?_, fun l2' nl2' => ?_⟩
  · rw [List.length_map, ← RF.pre_names exc 1, List.length_map, RF.pre_len]
    exact big (by show 1 + _ ≤ _; omega)
  have s14 : Same H13 (upd H13 l2' (.lst ([V.str nm] ++ exc.names.map V.str))) := (Same.refl H13).put nl2'
  have e14 : (upd H13 l2' (.lst ([V.str nm] ++ exc.names.map V.str))) l2' = some (.lst ((nm :: exc.names).map V.str)) := upd_same
  generalize upd H13 l2' (.lst ([V.str nm] ++ exc.names.map V.str)) = H14 at s14 e14 ⊢
  have s1014 := s1013.trans s14
  have hx14 := s1014 _ _ hx10
  have ne : l2' ≠ x := fun z => by rw [z, hx14] at e14; cases e14
  refine ⟨_, rfl, x, R, dx, _, rfl, hx14, T, n6, Nat.lt_of_le_of_lt (putF_le (putF_le (putF_le (putF_le (putF_le (Nat.zero_le 0)))))) (by decide), ?_⟩
  exact q _ l2' (sx10.same s1014).put upd_same ne (sx10.free ne (s1013.free nl2')) (by rw [upd_ne ne]; exact e14)
end
end Sc
namespace Sc
open PySem PySem.Spec PyProof.Rows L2
theorem sc_check_rules : FnScope ["facts", "rules", "names", "outermost", "index", "rule", "around", "name"] ["facts", "rules"] (defScope s_check_rules) := ⟨rfl, rfl, rfl, by decide +kernel, rfl, by decide +kernel, by decide +kernel⟩
/-- the word for a rule of a book that is wrong: met the names ahead of it, out how many are outermost -/
def faultAt (facts met : List Str) (out i : Nat) (n : Nd) (k : Nat) : Option Str :=
  if n.nm ∈ met then some "name" else if ((srt (n.hs ++ n.fs)).any fun x => !decide (x ∈ facts)) = true then some "condition" else if 5 < k then some "depth" else if i = 60 ∨ 40 < out then some "many" else none
def outNext (out k : Nat) : Nat := if k = 0 then out + 1 else out
def firstFault (facts : List Str) : List (Nd × Nat) → List Str → Nat → Nat → Option (Str × Nat)
  | [], _, _, _ => none
  | (n, k) :: r, met, out, i => match faultAt facts met (outNext out k) i n k with
    | some w => some (w, i)
    | none => firstFault facts r (met ++ [n.nm]) (outNext out k) (i + 1)
/-- the error that tells a word and an index -/
def errWI (C : Addr) (w : Str) (i : Int) (H : Hp) (E : XK) : Prop := ∀ H' d, Same H H' → H' d = none → E (.ref C) (some d) (upd H' d (.xd [(("index" : Str), .int i), (("word" : Str), .str w)]))
/-- parts that are no longer than those of a condition -/
def RF.Fit (f : RF) : Prop := ∀ q ∈ f.pre 0, q.1.hs.length + q.1.fs.length ≤ 100
section
variable {P : Program} {w : World} {K : PySem.W.Frag} {mg : Str → Option Value} {base : Heap} {C R CB : Addr}
theorem set_same' {σ : L2.St} {i : Nat} {v : Option V} (h : σ[i]? = some v) : σ.set i v = σ := by
  apply List.ext_getElem?
  intro j
  rw [List.getElem?_set]
  split
  · rename_i e
    subst e
    split
    · exact h.symm
    · rename_i c
      rw [List.getElem?_eq_none (by omega)] at h
      cases h
  · rfl
/-- if around == 0: outermost = outermost + 1 -/
def tOut (i j : Nat) : TS := fun D σ H => ∃ (out k : Nat), σ[i]? = some (some (.int (out : Nat))) ∧ σ[j]? = some (some (.int (k : Nat))) ∧ D.nx (σ.set i (some (.int (outNext out k : Nat)))) H
def sp_check_rules (K : PySem.W.Frag) (C R CB : Addr) : Sp := fun vs H Q E => ∃ (N : Addr → Prop) (a p : Addr) (xs : List Str) (ws : List V) (f : RF), vs = [.ref a, .ref p] ∧ SqT K H a (xs.map V.str) ∧ SqT K H p ws ∧ ForAt K C R N H f ws ∧ f.dep ≤ 12 ∧ f.size ≤ 900 ∧ f.Fit ∧
  (firstFault xs (f.pre 0) [] 0 0 = none → ∀ H', Same H H' → Q .non H') ∧ (∀ wd i, firstFault xs (f.pre 0) [] 0 0 = some (wd, i) → wd.length ≤ 1000 → errWI CB wd i H E)
theorem drop_at {α : Type} {l : List α} {i : Nat} {x : α} (h : l[i]? = some x) : l.drop i = x :: l.drop (i + 1) := by
  have hi : i < l.length := by
    by_cases c : i < l.length
    · exact c
    · rw [List.getElem?_eq_none (by omega)] at h; cases h
  rw [List.drop_eq_getElem_cons hi]
  rw [List.getElem?_eq_getElem hi] at h
  rw [Option.some.inj h]
theorem ok_check_rules {f : Addr} {fd : FuncData} {t1 t2 t3 : Tok} (F : Fun K "check_rules" "check_rules" s_check_rules f fd) (B : Blt mg) (kR : RuleX P w K mg base R) (kK : CondG P w K mg base C) (m_MOST_AROUND : mg "MOST_AROUND" = some (.int 5 t1)) (m_MOST_RULES : mg "MOST_RULES" = some (.int 60 t2)) (m_MOST_OUTERMOST : mg "MOST_OUTERMOST" = some (.int 40 t3))
    (e_InvalidBook : ErrMk P w K mg base "InvalidBook" CB ["self", "word", "index"] (sp_init2 CB "word" "index")) (c_nested : Cal P w K mg base CX0 15 "nested" ["rules", "around"] (sp_nested K C R 12)) :
    FnOk P w K mg base (L2.CX P w) 16 f fd ["facts", "rules"] (sp_check_rules K C R CB) := by
  refine F.okX sc_check_rules (fun vs H Q E h => by obtain ⟨N, a, p, xs, ws, f, rfl, _⟩ := h; rfl) (fun cdv A outer s H vs Q E hr h => ?_)
  obtain ⟨N, a, p, xs, ws, f, rfl, hA, hP, hF, hd, hz, hfit, q, er⟩ := h
  refine ⟨_, (pss_cons (ps_set (i := 2) sc_check_rules.nd rfl (Or.inl rfl) (pe_lst pa_nil))
      (pss_cons (ps_set (i := 3) sc_check_rules.nd rfl (Or.inl rfl) pe_int)
      (pss_one (ps_for (passes_of rfl) rfl (pi_enum (by rfl) B.b_enumerate (pa_cons (pe_cal c_nested (hr.mono (by decide)) (pa_cons (pv 1) (pa_cons pe_int pa_nil))) pa_nil)) (pg_tup (by rfl) (pgs_cons (pg_name (i := 4) sc_check_rules.nd rfl (Or.inl rfl)) (pgs_cons (pg_tup (by rfl) (pgs_cons (pg_name (i := 5) sc_check_rules.nd rfl (Or.inl rfl)) (pgs_cons (pg_name (i := 6) sc_check_rules.nd rfl (Or.inl rfl)) pgs_nil))) pgs_nil))) (pss_cons (wk_ps (tOut 3 6) (ps_if (pt_cmpR op_eq (pv 6) pe_int (nomark _)) (pss_one (ps_set (i := 3) sc_check_rules.nd rfl (Or.inl rfl) (pe_op op_add (pv 3) pe_int))) pss_nil) ?wo)
      (pss_cons (ps_if (pt_cmpR op_in_seq (pe_cprop kR.name kR.cls (hr.mono (by decide)) (pv 5)) (pv 2) rfl) (pss_one (ps_raise rfl (takes_of rfl rfl rfl rfl) (pmk_err2 e_InvalidBook (hr.mono (by decide)) pe_str (pv 4)))) pss_nil)
      (pss_cons (ps_if (pt_val (pe_callB (cr_any rfl) (by rfl) B.b_any (by decide +kernel) (pa_cons (pe_lc (own := [("name", 7)]) (g := gName 7) (tt := tYes) rfl sc_check_rules.nd (pi_tup (pe_cprop kK.names kK.cls (hr.mono (by decide)) (pe_cprop kR.condition kR.cls (hr.mono (by decide)) (pv 5)))) (blkOk_by (own := [("name", 7)]) (N := ["facts", "rules", "names", "outermost", "index", "rule", "around", "name"]) (sc := defScope s_check_rules) (by decide +kernel)) (fun _ _ _ _ _ => (pg_name (i := 7) sc_check_rules.nd rfl (Or.inl rfl))) (fun _ _ _ _ _ => pts_nil) (fun _ _ _ _ _ => (pe_.re (pe_cmpR op_notIn_seq (pv 7) (pv 0) rfl) (by first | (dsimp only [Cx.blk]; done) | exact rfl)))) pa_nil))) (pss_one (ps_raise rfl (takes_of rfl rfl rfl rfl) (pmk_err2 e_InvalidBook (hr.mono (by decide)) pe_str (pv 4)))) pss_nil)
      (pss_cons (ps_if (pt_cmpR op_gt (pv 6) (pe_glob (v := .int 5) rfl m_MOST_AROUND ⟨_, rfl⟩) (nomark _)) (pss_one (ps_raise rfl (takes_of rfl rfl rfl rfl) (pmk_err2 e_InvalidBook (hr.mono (by decide)) pe_str (pv 4)))) pss_nil)
      (pss_cons (ps_if (PW.pt (pw_or (pt_cmpR op_eq (pv 4) (pe_glob (v := .int 60) rfl m_MOST_RULES ⟨_, rfl⟩) (nomark _)) (pw_or1 (pt_cmpR op_gt (pv 3) (pe_glob (v := .int 40) rfl m_MOST_OUTERMOST ⟨_, rfl⟩) (nomark _))))) (pss_one (ps_raise rfl (takes_of rfl rfl rfl rfl) (pmk_err2 e_InvalidBook (hr.mono (by decide)) pe_str (pv 4)))) pss_nil)
      (pss_one (ps_expr (pe_bm PySem.F.plainAttrs_list PySem.F.slot_list_append PySem.F.type_list_append mt_append (pv 2) (pa_cons (pe_cprop kR.name kR.cls (hr.mono (by decide)) (pv 5)) pa_nil))))))))))))), ?_⟩
  case wo =>
    rintro D σ H1 ⟨out, k, h3, h6, q⟩
    refine ⟨_, h6, rfl, _, rfl, bcase (fun c => ?_) (fun c => ?_)⟩
    · have c : k = 0 := by have := V.int.inj (of_decide_eq_true c); omega
      subst c
      exact ⟨_, h3, out, 1, rfl, rfl, q⟩
    · have c : k ≠ 0 := fun z => by subst z; exact Bool.noConfusion (c.symm.trans (decide_eq_true rfl))
      unfold outNext at q
      rw [if_neg c, set_same' h3] at q
      exact q
  refine ⟨Nat.zero_le _, fun NL nNL => ?_⟩
  have s0 : Same H (upd H NL (.lst [])) := (Same.refl H).put nNL
  have e0 : (upd H NL (.lst [])) NL = some (.lst ([].map V.str)) := upd_same
  generalize upd H NL (.lst []) = H0 at s0 e0 ⊢
  refine ⟨_, rfl, Used N H, p, 0, ws, f, rfl, s0.tup hP, hF.used.keeps s0.keeps, hd, hz, fun H1 D us s1 nD e1 hu1 => ?_⟩
  have hul := hu1.len
  rw [RF.pre_len] at hul
  refine ⟨D, _, rfl, sqL_of e1, for_it walk_enum (fun i σ H' => ∃ (met : List Str) (out : Nat) (y4 y5 y6 y7 : Option V), σ = [some (.ref a), some (.ref p), some (.ref NL), some (.int (out : Nat)), y4, y5, y6, y7] ∧ Same H H' ∧ H' D = some (.lst us) ∧ PreAt K C R (Used N H) H' us (f.pre 0) ∧ H' NL = some (.lst (met.map V.str)) ∧ met.length = i ∧
      firstFault xs (f.pre 0) [] 0 0 = firstFault xs ((f.pre 0).drop i) met out i)
    ⟨[], 0, none, none, none, none, rfl, s0.trans s1, e1, hu1, s1 _ _ e0, rfl, rfl⟩ (fun _ _ _ _ ⟨_, _, _, _, _, _, _, _, e, _⟩ => sqL_of e) ?_ ?_⟩
  · rintro i x σ H2 H3 hi ⟨met, out, y4, y5, y6, y7, rfl, s, eD, hu, eN, hm, hff⟩ ⟨T, v1, v2, rfl, nT, rfl, h1, h2⟩
    obtain rfl : V.int (i : Nat) = v1 := Option.some.inj h1
    obtain ⟨⟨n, k⟩, hq, t, o, rfl, ht, hN⟩ := hu.get h2
    have hfitq := hfit _ (List.mem_of_getElem? hq)
    rw [drop_at hq] at hff
    dsimp only at ht hN hfitq
    have s23 : Same H2 (upd H2 T (.tup [.int (i : Nat), .ref t])) := (Same.refl H2).put nT
    have s3 := s.trans s23
    have eD3 := s23 _ _ eD
    have eN3 := s23 _ _ eN
    have ht3 := s23 _ _ ht
    have hN3 := hN.keeps s23.keeps
    have hu3 := hu.keeps s23.keeps
    have eT3 : (upd H2 T (.tup [.int (i : Nat), .ref t])) T = some (.tup [.int (i : Nat), .ref t]) := upd_same
    clear s23
    generalize upd H2 T (.tup [.int (i : Nat), .ref t]) = H3 at s3 eD3 eN3 ht3 hN3 hu3 eT3 ⊢
    refine ⟨T, [.int (i : Nat), .ref t], rfl, sqT_of eT3, rfl, _, _, rfl, _, _, rfl, t, [.ref o, .int (k : Nat)], rfl, sqT_of ht3, rfl, _, _, rfl, _, _, rfl, rfl, rfl, ?_⟩
    refine ⟨out, k, rfl, rfl, ?_⟩
    obtain ⟨dx, c, pe, l, ws', ho, hc, hpe, hl, hfe⟩ := hN3
    have hi9 : i ≤ 1000 := by omega
    have fkw : ∀ wd : Str, wd.length ≤ 1000 → FOk (.str wd) ∧ FOk (.int (i : Nat)) := fun wd h => ⟨Nat.le_trans h (by decide), fok_nat hi9⟩
    have rz : ∀ {wd : Str} {H' : Hp}, faultAt xs met (outNext out k) i n k = some wd → wd.length ≤ 1000 → Same H H' → ∀ d, H' d = none → E (.ref CB) (some d) (upd H' d (.xd [(("index" : Str), .int (i : Nat)), (("word" : Str), .str wd)])) := fun {wd H'} hf hw sH d nd => er wd i (by rw [hff]; unfold firstFault; rw [hf]) hw H' d sH nd
    refine ⟨_, rfl, o, dx, _, rfl, ho, o, dx, _, _, rfl, ho, rfl, _, rfl, NL, _, rfl, .inl (sqL_of eN3), rfl, flat_strs met, _, rfl, bcase (fun c1 => ?_) (fun c1 => ?_)⟩
    · have c1 : decide (n.nm ∈ met) = true := by rw [← inV_str]; exact c1
      exact ⟨_, rfl, fkw "name" (by decide), rz (by unfold faultAt; rw [if_pos (of_decide_eq_true c1)]) (by decide) s3⟩
    have c1 : decide (n.nm ∈ met) = false := by rw [← inV_str]; exact c1
    have f1 : faultAt xs met (outNext out k) i n k = if ((srt (n.hs ++ n.fs)).any fun x => !decide (x ∈ xs)) = true then some (Str.ofString "condition") else if 5 < k then some (Str.ofString "depth") else if i = 60 ∨ 40 < outNext out k then some (Str.ofString "many") else none := by
      unfold faultAt
      rw [if_neg (of_decide_eq_false c1)]
    obtain ⟨dxc, ca, cb, cn, zs, hco, hca, hcb, hcn, hzs⟩ := hc.at_
    have hzl : zs.length ≤ 100 := by
      rw [hzs, (srt_perm _).length_eq, List.length_append]
      exact hfitq
    refine ⟨_, rfl, o, dx, _, rfl, ho, o, dx, _, _, rfl, ho, rfl, c, dxc, _, rfl, hco, c, dxc, _, _, rfl, hco, rfl, cn, rfl, ⟨_, sqT_of hcn⟩, fun D2 nD2 => lc_it walk_tup (fun j H' => Same H3 H' ∧ H' D2 = some (.lst ((zs.take j).map fun x => V.bl (!decide (x ∈ xs))))) ⟨(Same.refl H3).put nD2, upd_same⟩ (fun _ _ _ h => h.1.tup (sqT_of hcn)) ?_ ?_⟩
    · rintro j y H4 H5 hj ⟨s4, e4⟩ ⟨rfl, hy⟩
      rw [List.length_map] at hj
      have hx : zs[j]? = some zs[j] := List.getElem?_eq_getElem hj
      obtain rfl : V.str zs[j] = y := strAt_inj hx hy
      refine ⟨rfl, yes_ ⟨_, rfl, _, rfl, a, _, rfl, .inr ((s3.trans s4).tup hA), rfl, flat_strs _, grow (acc := fun j => (zs.take j).map fun x => V.bl (!decide (x ∈ xs))) nD2 s4 e4 ?_ ?_⟩⟩
      · rw [List.length_map, List.length_take]
        exact small1000 (by omega)
      · show List.map _ _ = _
        rw [take_more hx, List.map_append]
        simp only [List.map_cons, List.map_nil, inV_str]
        rfl
    rintro H4 ⟨s4, e4⟩
    rw [List.length_map, List.take_length] at e4
    refine ⟨D2, zs.map fun x => !decide (x ∈ xs), rfl, sqL_of (by rw [e4, List.map_map]; rfl), ?_⟩
    have em : (zs.map fun x => !decide (x ∈ xs)).any id = (srt (n.hs ++ n.fs)).any fun x => !decide (x ∈ xs) := by
      rw [List.any_map, hzs]
      rfl
    rw [em]
    have s5 := s3.trans s4
    refine ⟨_, rfl, bcase (fun c2 => ?_) (fun c2 => ?_)⟩
    · exact ⟨_, rfl, fkw "condition" (by decide), rz (by rw [f1, if_pos c2]) (by decide) s5⟩
    have f2 : faultAt xs met (outNext out k) i n k = if 5 < k then some (Str.ofString "depth") else if i = 60 ∨ 40 < outNext out k then some (Str.ofString "many") else none := by
      rw [f1, if_neg (by rw [c2]; exact Bool.false_ne_true)]
    refine ⟨_, rfl, k, 5, rfl, rfl, _, rfl, bcase (fun c3 => ?_) (fun c3 => ?_)⟩
    · have c3 : 5 < k := by have := of_decide_eq_true c3; omega
      exact ⟨_, rfl, fkw "depth" (by decide), rz (by rw [f2, if_pos c3]) (by decide) s5⟩
    have c3 : ¬ 5 < k := by have := of_decide_eq_false c3; omega
    rw [if_neg c3] at f2
    refine ⟨_, rfl, rfl, _, rfl, bcase (fun c4 => ?_) (fun c4 => ?_)⟩
    · have e60 : i = 60 := by have := V.int.inj (of_decide_eq_true c4); omega
      exact iteT ⟨_, rfl, fkw "many" (by decide), rz (by rw [f2, if_pos (.inl e60)]) (by decide) s5⟩
    have n60 : i ≠ 60 := fun z => by subst z; exact Bool.noConfusion (c4.symm.trans (decide_eq_true rfl))
    refine ⟨_, rfl, outNext out k, 40, rfl, rfl, _, rfl, bcase (fun c5 => ?_) (fun c5 => ?_)⟩
    · have c5 : 40 < outNext out k := by have := of_decide_eq_true c5; omega
      exact ⟨_, rfl, fkw "many" (by decide), rz (by rw [f2, if_pos (.inr c5)]) (by decide) s5⟩
    have c5 : ¬ 40 < outNext out k := by have := of_decide_eq_false c5; omega
    rw [if_neg (fun z => z.elim n60 c5)] at f2
    have eN5 := s4 _ _ eN3
    have ho5 := s4 _ _ ho
    refine ⟨_, rfl, .inl ⟨rfl, _, sqL_of eN5⟩, _, rfl, o, dx, _, rfl, ho5, o, dx, _, _, rfl, ho5, rfl, NL, _, _, rfl, rfl, eN5, ?_, ?_⟩
    · rw [List.length_map]
      exact small1000 (by omega)
    have nDL : D ≠ NL := fun z => by rw [z, e0] at nD; cases nD
    refine ⟨met ++ [n.nm], outNext out k, _, _, _, _, rfl, s5.put nNL, by rw [upd_ne nDL]; exact s4 _ _ eD3, (hu3.keeps s4.keeps).keeps (keeps_own eN5 (used_not nNL)), by rw [upd_same, List.map_append]; rfl, by rw [List.length_append, List.length_singleton, hm], ?_⟩
    rw [hff]
    show (match faultAt xs met (outNext out k) i n k with | some w => some (w, i) | none => _) = _
    rw [f2]
  · rintro σ H2 ⟨met, out, y4, y5, y6, y7, rfl, s, eD, hu, eN, hm, hff⟩
    have hl : us.length = (f.pre 0).length := hu1.len
    rw [hl, List.drop_length] at hff
    exact q hff H2 s
end
end Sc
namespace Sc
open PySem PySem.Spec PyProof.Rows L2
/-! ### facts -/
theorem sc_check_facts : FnScope ["facts", "index", "name"] ["facts"] (defScope s_check_facts) := ⟨rfl, rfl, rfl, by decide +kernel, rfl, by decide +kernel, by decide +kernel⟩
theorem sc_check_case : FnScope ["facts", "case", "index", "name"] ["facts", "case"] (defScope s_check_case) := ⟨rfl, rfl, rfl, by decide +kernel, rfl, by decide +kernel, by decide +kernel⟩
/-- the i-th fact is wrong -/
def badAt (xs : List Str) (i : Nat) : Bool := decide (i = 60) || ((match xs[i]? with | some x => !isName x | none => false) || !risesAt xs i)
def firstBad (xs : List Str) : Option Nat := if xs = [] then some 0 else (List.range xs.length).find? (badAt xs)
section
variable {P : Program} {w : World} {K : PySem.W.Frag} {mg : Str → Option Value} {base : Heap} {CF CC CN : Addr}
def sp_check_facts (K : PySem.W.Frag) (C : Addr) : Sp := fun vs H Q E => ∃ (a : Addr) (xs : List Str), vs = [.ref a] ∧ SqT K H a (xs.map V.str) ∧ Txts xs ∧ xs.length ≤ 1000 ∧
  (firstBad xs = none → ∀ H', Same H H' → Q .non H') ∧ (∀ i, firstBad xs = some i → errIx C i H E)
theorem ok_check_facts {f : Addr} {fd : FuncData} (F : Fun K "check_facts" "check_facts" s_check_facts f fd) (B : Blt mg) (mM : ∃ t, mg "MOST_FACTS" = some (.int 60 t))
    (e_InvalidFacts : ErrMk P w K mg base "InvalidFacts" CF ["self", "index"] (sp_init1 CF "index")) (c_is_name : Cal P w K mg base CX0 1 "is_name" ["value"] sp_is_name) (c_rises : Cal P w K mg base CX0 1 "rises" ["names", "index"] (sp_rises K)) :
    FnOk P w K mg base (L2.CX P w) 3 f fd ["facts"] (sp_check_facts K CF) := by
  obtain ⟨t1, mM⟩ := mM
  refine F.okX sc_check_facts (fun vs H Q E h => by obtain ⟨a, xs, rfl, _⟩ := h; rfl) (fun cdv A outer s H vs Q E hr h => ?_)
  obtain ⟨a, xs, rfl, hS, hT, hl, q, e⟩ := h
  refine ⟨_, (pss_cons (ps_if (pt_not (pt_tru (pv 0) (by intro _; rfl))) (pss_one (ps_raise rfl (takes_of rfl rfl rfl rfl) (pmk_err1 e_InvalidFacts (hr.mono (by decide)) pe_int))) pss_nil)
      (pss_one (ps_for (passes_of rfl) rfl (pi_enumT (by rfl) B.b_enumerate (pa_cons (pv 0) pa_nil)) (pg_tup (by rfl) (pgs_cons (pg_name (i := 1) sc_check_facts.nd rfl (Or.inl rfl)) (pgs_cons (pg_name (i := 2) sc_check_facts.nd rfl (Or.inl rfl)) pgs_nil))) (pss_one (ps_if (PW.pt (pw_or (pt_cmpR op_eq (pv 1) (pe_glob (v := .int 60) rfl mM ⟨_, rfl⟩) (nomark _)) (pw_or (pt_not (pt_val (pe_cal c_is_name (hr.mono (by decide)) (pa_cons (pv 2) pa_nil)))) (pw_or1 (pt_not (pt_val (pe_cal c_rises (hr.mono (by decide)) (pa_cons (pv 0) (pa_cons (pv 1) pa_nil))))))))) (pss_one (ps_raise rfl (takes_of rfl rfl rfl rfl) (pmk_err1 e_InvalidFacts (hr.mono (by decide)) (pv 1)))) pss_nil))))), ?_⟩
  refine ⟨.ref a, rfl, _, .inr (.inl ⟨_, hS, rfl⟩), bcase (fun e0 => ?_) (fun e0 => ?_)⟩
  · have ex : xs = [] := by
      cases xs with
      | nil => rfl
      | cons x r => exact Bool.noConfusion (show false = true from e0)
    exact ⟨fok_nat (i := 0) (by decide), fun d nd => e 0 (by unfold firstBad; rw [if_pos ex]) H d (Same.refl H) nd⟩
  · have ex : xs ≠ [] := fun z => by
      subst z
      exact Bool.noConfusion (show true = false from e0)
    have rz : ∀ {i : Nat} {H' : Hp}, i < xs.length → (∀ j, j < i → badAt xs j = false) → badAt xs i = true → Same H H' → ∀ d, H' d = none → E (.ref CF) (some d) (upd H' d (.xd [(("index" : Str), .int (i : Nat))])) :=
      fun {i H'} hi hb hp s d nd => e i (by unfold firstBad; rw [if_neg ex]; exact find_at hi hp hb) H' d s nd
    refine ⟨.ref a, rfl, a, _, rfl, hS, for_it walk_enumT (fun i σ H' => ∃ y1 y2, σ = [some (.ref a), y1, y2] ∧ Same H H' ∧ ∀ j, j < i → badAt xs j = false)
      ⟨none, none, rfl, Same.refl H, fun j hj => absurd hj (Nat.not_lt_zero j)⟩ (fun i σ H' _ ⟨_, _, _, s, _⟩ => s.tup hS) ?_ ?_⟩
    · rintro i x σ H2 H3 hi ⟨y1, y2, rfl, s, hb⟩ ⟨T, v1, v2, rfl, nT, rfl, h1, h2⟩
      obtain rfl : V.int (i : Nat) = v1 := Option.some.inj h1
      rw [List.length_map] at hi
      have hx : xs[i]? = some xs[i] := List.getElem?_eq_getElem hi
      obtain rfl : V.str xs[i] = v2 := strAt_inj hx h2
      have s3 : Same H (upd H2 T (.tup [.int (i : Nat), .str xs[i]])) := s.put' nT
      have rz := fun {H' : Hp} (hp : badAt xs i = true) (sH : Same H H') => rz hi hb hp sH
      refine ⟨T, [.int (i : Nat), .str xs[i]], rfl, sqT_new, rfl, _, _, rfl, _, _, rfl, rfl, ?_⟩
      refine ⟨_, rfl, rfl, _, rfl, bcase (fun c1 => ?_) (fun c1 => ?_)⟩
      · have e60 : i = 60 := by have := V.int.inj (of_decide_eq_true c1); omega
        refine iteT ⟨_, rfl, fok_nat (by omega), rz (by unfold badAt; rw [decide_eq_true e60, Bool.true_or]) s3⟩
      · have n60 : i ≠ 60 := fun z => by subst z; exact Bool.noConfusion (c1.symm.trans (decide_eq_true rfl))
        refine ⟨_, rfl, xs[i], rfl, Nat.le_trans (hT _ (List.getElem_mem hi)) (by rw [sizeLine_eq]; decide), fun H4 s4 => ⟨_, rfl, bcase (fun c2 => ?_) (fun c2 => ?_)⟩⟩
        · refine iteT ⟨_, rfl, fok_nat (by omega), rz (by unfold badAt; rw [hx, decide_eq_false n60, Bool.false_or]; show (!isName xs[i] || _) = true; rw [c2, Bool.true_or]) (s3.trans s4)⟩
        · refine ⟨.ref a, rfl, _, rfl, a, xs, i, rfl, (s3.trans s4).tup hS, hi, _, rfl, bcase (fun c3 => ?_) (fun c3 => ?_)⟩
          · exact ⟨_, rfl, fok_nat (by omega), rz (by unfold badAt; rw [hx, c3, Bool.or_true, Bool.or_true]) (s3.trans s4)⟩
          · refine ⟨_, _, rfl, s3.trans s4, fun j hj => ?_⟩
            by_cases hj2 : j < i
            · exact hb j hj2
            · have ej : j = i := by omega
              subst ej
              unfold badAt
              rw [hx, decide_eq_false n60, c3, Bool.or_false, Bool.false_or]
              exact c2
    · rintro σ H2 ⟨y1, y2, rfl, s, hb⟩
      rw [List.length_map] at hb
      exact q (by unfold firstBad; rw [if_neg ex]; exact find_none hb) H2 s
/-- the i-th name of a case is wrong -/
def outAt (facts cs : List Str) (i : Nat) : Bool := (match cs[i]? with | some x => !decide (x ∈ facts) | none => false) || !risesAt cs i
def firstOut (facts cs : List Str) : Option Nat := (List.range cs.length).find? (outAt facts cs)
def sp_check_case (K : PySem.W.Frag) (C : Addr) : Sp := fun vs H Q E => ∃ (a b : Addr) (xs cs : List Str), vs = [.ref a, .ref b] ∧ SqT K H a (xs.map V.str) ∧ SqT K H b (cs.map V.str) ∧ cs.length ≤ 1000 ∧
  (firstOut xs cs = none → ∀ H', Same H H' → Q .non H') ∧ (∀ i, firstOut xs cs = some i → errIx C i H E)
theorem ok_check_case {f : Addr} {fd : FuncData} (F : Fun K "check_case" "check_case" s_check_case f fd) (B : Blt mg)
    (e_InvalidCase : ErrMk P w K mg base "InvalidCase" CC ["self", "index"] (sp_init1 CC "index")) (c_rises : Cal P w K mg base CX0 1 "rises" ["names", "index"] (sp_rises K)) :
    FnOk P w K mg base (L2.CX P w) 3 f fd ["facts", "case"] (sp_check_case K CC) := by
  refine F.okX sc_check_case (fun vs H Q E h => by obtain ⟨a, b, xs, cs, rfl, _⟩ := h; rfl) (fun cdv A outer s H vs Q E hr h => ?_)
  obtain ⟨a, b, xs, cs, rfl, hS, hC, hl, q, e⟩ := h
  refine ⟨_, (pss_one (ps_for (passes_of rfl) rfl (pi_enumT (by rfl) B.b_enumerate (pa_cons (pv 1) pa_nil)) (pg_tup (by rfl) (pgs_cons (pg_name (i := 2) sc_check_case.nd rfl (Or.inl rfl)) (pgs_cons (pg_name (i := 3) sc_check_case.nd rfl (Or.inl rfl)) pgs_nil))) (pss_one (ps_if (PW.pt (pw_or (pt_cmpR op_notIn_seq (pv 3) (pv 0) rfl) (pw_or1 (pt_not (pt_val (pe_cal c_rises (hr.mono (by decide)) (pa_cons (pv 1) (pa_cons (pv 2) pa_nil)))))))) (pss_one (ps_raise rfl (takes_of rfl rfl rfl rfl) (pmk_err1 e_InvalidCase (hr.mono (by decide)) (pv 2)))) pss_nil)))), ?_⟩
  refine ⟨.ref b, rfl, b, _, rfl, hC, for_it walk_enumT (fun i σ H' => ∃ y1 y2, σ = [some (.ref a), some (.ref b), y1, y2] ∧ Same H H' ∧ ∀ j, j < i → outAt xs cs j = false)
    ⟨none, none, rfl, Same.refl H, fun j hj => absurd hj (Nat.not_lt_zero j)⟩ (fun i σ H' _ ⟨_, _, _, s, _⟩ => s.tup hC) ?_ ?_⟩
  · rintro i x σ H2 H3 hi ⟨y1, y2, rfl, s, hb⟩ ⟨T, v1, v2, rfl, nT, rfl, h1, h2⟩
    obtain rfl : V.int (i : Nat) = v1 := Option.some.inj h1
    rw [List.length_map] at hi
    have hx : cs[i]? = some cs[i] := List.getElem?_eq_getElem hi
    obtain rfl : V.str cs[i] = v2 := strAt_inj hx h2
    have s3 : Same H (upd H2 T (.tup [.int (i : Nat), .str cs[i]])) := s.put' nT
    have rz : ∀ {H' : Hp}, outAt xs cs i = true → Same H H' → ∀ d, H' d = none → E (.ref CC) (some d) (upd H' d (.xd [(("index" : Str), .int (i : Nat))])) := fun {H'} hp sH d nd => e i (find_at hi hp hb) H' d sH nd
    refine ⟨T, [.int (i : Nat), .str cs[i]], rfl, sqT_new, rfl, _, _, rfl, _, _, rfl, rfl, ?_⟩
    refine ⟨.str cs[i], rfl, .ref a, rfl, a, _, rfl, .inr (s3.tup hS), rfl, flat_strs xs, _, rfl, bcase (fun c1 => ?_) (fun c1 => ?_)⟩
    · have c1 : (!decide (cs[i] ∈ xs)) = true := by rw [← inV_str]; exact c1
      exact iteT ⟨_, rfl, fok_nat (by omega), rz (by unfold outAt; rw [hx]; show (!decide (cs[i] ∈ xs) || _) = true; rw [c1, Bool.true_or]) s3⟩
    · have c1 : (!decide (cs[i] ∈ xs)) = false := by rw [← inV_str]; exact c1
      refine ⟨.ref b, rfl, _, rfl, b, cs, i, rfl, s3.tup hC, hi, _, rfl, bcase (fun c3 => ?_) (fun c3 => ?_)⟩
      · exact ⟨_, rfl, fok_nat (by omega), rz (by unfold outAt; rw [hx, c3, Bool.or_true]) s3⟩
      · refine ⟨_, _, rfl, s3, fun j hj => ?_⟩
        by_cases hj2 : j < i
        · exact hb j hj2
        · have ej : j = i := by omega
          subst ej
          unfold outAt
          rw [hx, c3, Bool.or_false]
          exact c1
  · rintro σ H2 ⟨y1, y2, rfl, s, hb⟩
    rw [List.length_map] at hb
    exact q (find_none hb) H2 s
end
end Sc
namespace Sc
open PySem PySem.Spec PyProof.Rows L2
/-! ### an object Book -/
theorem sc_Book___init__ : FnScope ["self", "facts", "rules", "ruling", "rule", "_"] ["self", "facts", "rules", "ruling"] (defScope s_Book___init__) := ⟨rfl, rfl, rfl, by decide +kernel, rfl, by decide +kernel, by decide +kernel⟩
theorem sc_Book_facts : FnScope ["self"] ["self"] (defScope s_Book_facts) := ⟨rfl, rfl, rfl, by decide +kernel, rfl, by decide +kernel, by decide +kernel⟩
theorem sc_Book_rules : FnScope ["self"] ["self"] (defScope s_Book_rules) := ⟨rfl, rfl, rfl, by decide +kernel, rfl, by decide +kernel, by decide +kernel⟩
theorem sc_Book_ruling : FnScope ["self"] ["self"] (defScope s_Book_ruling) := ⟨rfl, rfl, rfl, by decide +kernel, rfl, by decide +kernel, by decide +kernel⟩
section
variable {P : Program} {w : World} {K : PySem.W.Frag} {mg : Str → Option Value} {base : Heap} {C R B CF CB : Addr}
theorem ok_Book_facts {f : Addr} {fd : FuncData} (F : Fun K "facts" "Book.facts" s_Book_facts f fd) (T : Cls K B) (n : NoAttr K B "_facts") : FnOk P w K mg base CX0 1 f fd ["self"] (sp_prop B "_facts") := by
  refine F.ok sc_Book_facts (fun vs H Q E h => by obtain ⟨x, dx, fs, v, rfl, _⟩ := h; rfl) (fun cdv A outer s H vs Q E hr h => ?_)
  obtain ⟨x, dx, fs, v, rfl, hx, hl, q⟩ := h
  exact ⟨_, (pss_one (ps_ret (pe_fld (pv 0) rfl))), ⟨_, rfl, x, B, dx, fs, v, rfl, hx, T, n, hl, q⟩⟩
theorem ok_Book_rules {f : Addr} {fd : FuncData} (F : Fun K "rules" "Book.rules" s_Book_rules f fd) (T : Cls K B) (n : NoAttr K B "_rules") : FnOk P w K mg base CX0 1 f fd ["self"] (sp_prop B "_rules") := by
  refine F.ok sc_Book_rules (fun vs H Q E h => by obtain ⟨x, dx, fs, v, rfl, _⟩ := h; rfl) (fun cdv A outer s H vs Q E hr h => ?_)
  obtain ⟨x, dx, fs, v, rfl, hx, hl, q⟩ := h
  exact ⟨_, (pss_one (ps_ret (pe_fld (pv 0) rfl))), ⟨_, rfl, x, B, dx, fs, v, rfl, hx, T, n, hl, q⟩⟩
theorem ok_Book_ruling {f : Addr} {fd : FuncData} (F : Fun K "ruling" "Book.ruling" s_Book_ruling f fd) (T : Cls K B) (n : NoAttr K B "_ruling") : FnOk P w K mg base CX0 1 f fd ["self"] (sp_prop B "_ruling") := by
  refine F.ok sc_Book_ruling (fun vs H Q E h => by obtain ⟨x, dx, fs, v, rfl, _⟩ := h; rfl) (fun cdv A outer s H vs Q E hr h => ?_)
  obtain ⟨x, dx, fs, v, rfl, hx, hl, q⟩ := h
  exact ⟨_, (pss_one (ps_ret (pe_fld (pv 0) rfl))), ⟨_, rfl, x, B, dx, fs, v, rfl, hx, T, n, hl, q⟩⟩
/-- the fields of a book -/
def bookF (a p : Addr) (rl : Str) (l : Addr) : List (Str × V) := putF "_numbered" (.ref l) (putF "_ruling" (.str rl) (putF "_rules" (.ref p) (putF "_facts" (.ref a) [])))
def BookAt (K : PySem.W.Frag) (C R B : Addr) (N : Addr → Prop) (H : Hp) (o : Addr) (xs : List Str) (f : RF) (rl : Str) : Prop := ∃ (dx a p l : Addr) (ws us : List V), H o = some (.ins B dx (bookF a p rl l)) ∧ SqT K H a (xs.map V.str) ∧ SqT K H p ws ∧ ForAt K C R N H f ws ∧ (N l ∧ H l = some (.lst us)) ∧ All2 (RefAt K C R N H) us ((f.pre 0).map fun q => q.1)
theorem BookAt.keeps {N : Addr → Prop} {H H' : Hp} {o : Addr} {xs : List Str} {f : RF} {rl : Str} (h : BookAt K C R B N H o xs f rl) (k : Keeps N H H') : BookAt K C R B N H' o xs f rl := by
  obtain ⟨dx, a, p, l, ws, us, h1, h2, h3, h4, ⟨h5, h6⟩, h7⟩ := h
  exact ⟨dx, a, p, l, ws, us, k _ _ stays_ins h1, k.tup h2, k.tup h3, h4.keeps k, ⟨h5, k _ _ (stays_lst h5) h6⟩, h7.mono fun _ _ x => x.keeps k⟩
def sp_book_init (K : PySem.W.Frag) (C R B CF CB : Addr) : Sp := fun vs H Q E => ∃ (N : Addr → Prop) (x dx a p : Addr) (xs : List Str) (rl : Str) (ws : List V) (f : RF), vs = [.ref x, .ref a, .ref p, .str rl] ∧ H x = some (.ins B dx []) ∧ SqT K H a (xs.map V.str) ∧ Txts xs ∧ xs.length ≤ 1000 ∧ SqT K H p ws ∧ ForAt K C R N H f ws ∧ f.dep ≤ 12 ∧ f.size ≤ 900 ∧ f.Fit ∧ rl.length ≤ 1000 ∧
  (∀ i, firstBad xs = some i → errIx CF i H E) ∧ (firstBad xs = none → (∀ wd i, firstFault xs (f.pre 0) [] 0 0 = some (wd, i) → wd.length ≤ 1000 → errWI CB wd (i : Nat) H E) ∧ (firstFault xs (f.pre 0) [] 0 0 = none →
    (isName rl = false → errWI CB "ruling" (-1) H E) ∧ (isName rl = true → ∀ H' l us, SameX x H H' → H' x = some (.ins B dx (bookF a p rl l)) → l ≠ x → H l = none → H' l = some (.lst us) → All2 (RefAt K C R N H') us ((f.pre 0).map fun q => q.1) → Q .non H')))
theorem ok_book_init {f : Addr} {fd : FuncData} (F : Fun K "__init__" "Book.__init__" s_Book___init__ f fd) (Bl : Blt mg) (T : Cls K B) (n1 : NoAttr K B "_facts") (n2 : NoAttr K B "_rules") (n3 : NoAttr K B "_ruling") (n4 : NoAttr K B "_numbered")
    (e_InvalidBook : ErrMk P w K mg base "InvalidBook" CB ["self", "word", "index"] (sp_init2 CB "word" "index")) (c_is_name : Cal P w K mg base CX0 1 "is_name" ["value"] sp_is_name) (c_nested : Cal P w K mg base CX0 15 "nested" ["rules", "around"] (sp_nested K C R 12))
    (c_check_facts : Cal P w K mg base (L2.CX P w) 3 "check_facts" ["facts"] (sp_check_facts K CF)) (c_check_rules : Cal P w K mg base (L2.CX P w) 16 "check_rules" ["facts", "rules"] (sp_check_rules K C R CB)) :
    FnOk P w K mg base (L2.CX P w) 17 f fd ["self", "facts", "rules", "ruling"] (sp_book_init K C R B CF CB) := by
  refine F.okX sc_Book___init__ (fun vs H Q E h => by obtain ⟨N, x, dx, a, p, xs, rl, ws, f, rfl, _⟩ := h; rfl) (fun cdv A outer s H vs Q E hr h => ?_)
  obtain ⟨N, x, dx, a, p, xs, rl, ws, f, rfl, hx, hA, tA, lA, hP, hF, hd, hz, hfit, lr, e1, q⟩ := h
  refine ⟨_, (pss_cons (ps_expr (pe_calX c_check_facts (hr.mono (by decide)) (takes_of rfl rfl rfl rfl) (pa_cons (pv 1) pa_nil)))
      (pss_cons (ps_expr (pe_calX c_check_rules (hr.mono (by decide)) (takes_of rfl rfl rfl rfl) (pa_cons (pv 1) (pa_cons (pv 2) pa_nil))))
      (pss_cons (ps_if (pt_not (pt_val (pe_cal c_is_name (hr.mono (by decide)) (pa_cons (pv 3) pa_nil)))) (pss_one (ps_raise rfl (takes_of rfl rfl rfl rfl) (pmk_err2 e_InvalidBook (hr.mono (by decide)) pe_str (pe_un un_neg pe_int)))) pss_nil)
      (pss_cons (ps_fld (pv 0) (pv 1) rfl)
      (pss_cons (ps_fld (pv 0) (pv 2) rfl)
      (pss_cons (ps_fld (pv 0) (pv 3) rfl)
      (pss_one (ps_fld (pv 0) (pe_lc (own := [("rule", 4), ("_", 5)]) (g := gTup K 2 (gCons (gName 4) (gCons (gName 5) gNil))) (tt := tYes) rfl sc_Book___init__.nd (pi_list (pe_cal c_nested (hr.mono (by decide)) (pa_cons (pv 2) (pa_cons pe_int pa_nil)))) (blkOk_by (own := [("rule", 4), ("_", 5)]) (N := ["self", "facts", "rules", "ruling", "rule", "_"]) (sc := defScope s_Book___init__) (by decide +kernel)) (fun _ _ _ _ _ => (pg_tup (by rfl) (pgs_cons (pg_name (i := 4) sc_Book___init__.nd rfl (Or.inl rfl)) (pgs_cons (pg_name (i := 5) sc_Book___init__.nd rfl (Or.inl rfl)) pgs_nil)))) (fun _ _ _ _ _ => pts_nil) (fun _ _ _ _ _ => (pe_.re (pv 4) (by first | (dsimp only [Cx.blk]; done) | exact rfl)))) rfl)))))))), ?_⟩
  have big : ∀ {m : Nat}, m ≤ 1000 → m ≤ sizeLine := fun {m} h => by rw [sizeLine_eq]; omega
  refine ⟨_, rfl, a, xs, rfl, hA, tA, lA, fun z1 H1 s1 => ?_, e1⟩
  obtain ⟨e2, q⟩ := q z1
  refine ⟨_, rfl, _, rfl, N, a, p, xs, ws, f, rfl, s1.tup hA, s1.tup hP, hF.keeps s1.keeps, hd, hz, hfit, fun z2 H2 s2 => ?_, fun wd i ei hw H' d sH nd => e2 wd i ei hw H' d (s1.trans sH) nd⟩
  obtain ⟨e3, q⟩ := q z2
  have s12 := s1.trans s2
  refine ⟨_, rfl, rl, rfl, big lr, fun H3 s3 => ⟨_, rfl, bcase (fun c1 => ?_) (fun c1 => ?_)⟩⟩
  · exact ⟨1, rfl, ⟨Nat.le_trans (show (Str.ofString "ruling").length ≤ 1000 by decide) (by decide), (show (-1 : Int).natAbs.log2 < 1920 by decide)⟩, fun d nd => e3 ((Bool.not_eq_true' _).mp c1) H3 d (s12.trans s3) nd⟩
  have q := q ((Bool.not_eq_false' _).mp c1)
  have s13 := s12.trans s3
  have hx3 := s13 _ _ hx
  refine ⟨_, rfl, _, rfl, x, B, dx, _, rfl, hx3, T, n1, by decide, ?_⟩
  refine ⟨_, rfl, _, rfl, x, B, dx, _, rfl, upd_same, T, n2, Nat.lt_of_le_of_lt (putF_le (Nat.zero_le 0)) (by decide), ?_⟩
  refine ⟨_, rfl, _, rfl, x, B, dx, _, rfl, upd_same, T, n3, Nat.lt_of_le_of_lt (putF_le (putF_le (Nat.zero_le 0))) (by decide), ?_⟩
  have sx : SameX x H (upd (upd (upd H3 x (.ins B dx (putF "_facts" (.ref a) []))) x (.ins B dx (putF "_rules" (.ref p) (putF "_facts" (.ref a) [])))) x (.ins B dx (putF "_ruling" (.str rl) (putF "_rules" (.ref p) (putF "_facts" (.ref a) []))))) := (((SameX.of s13).put).put).put
  have hx6 : (upd (upd (upd H3 x (.ins B dx (putF "_facts" (.ref a) []))) x (.ins B dx (putF "_rules" (.ref p) (putF "_facts" (.ref a) [])))) x (.ins B dx (putF "_ruling" (.str rl) (putF "_rules" (.ref p) (putF "_facts" (.ref a) []))))) x = some (.ins B dx (putF "_ruling" (.str rl) (putF "_rules" (.ref p) (putF "_facts" (.ref a) [])))) := upd_same
  generalize upd (upd (upd H3 x (.ins B dx (putF "_facts" (.ref a) []))) x (.ins B dx (putF "_rules" (.ref p) (putF "_facts" (.ref a) [])))) x (.ins B dx (putF "_ruling" (.str rl) (putF "_rules" (.ref p) (putF "_facts" (.ref a) [])))) = H6 at sx hx6 ⊢
  have k6 : Keeps N H H6 := sx.keeps hx
  refine ⟨_, rfl, N, p, 0, ws, f, rfl, k6.tup hP, hF.keeps k6, hd, hz, fun H7 D us s7 nD eD hu => ?_⟩
  have hul := hu.len
  rw [RF.pre_len] at hul
  refine ⟨D, rfl, ⟨_, sqL_of eD⟩, fun D2 nD2 => lc_it walk_list (fun i H' => Same H7 H' ∧ ∃ rs, H' D2 = some (.lst rs) ∧ All2 (RefAt K C R N H7) rs (((f.pre 0).take i).map fun q => q.1)) ⟨(Same.refl H7).put nD2, [], upd_same, .nil⟩ (fun _ _ _ h => sqL_of (h.1 _ _ eD)) ?_ ?_⟩
  · rintro i y H8 H9 hi ⟨s, rs, e, hr2⟩ ⟨rfl, hy⟩
    obtain ⟨⟨n, k⟩, hq, t, o, rfl, ht, hN⟩ := hu.get hy
    have ht := s _ _ ht
    have hrl := hr2.len
    rw [List.length_map, List.length_take, RF.pre_len] at hrl
    refine ⟨t, [.ref o, .int (k : Nat)], rfl, sqT_of ht, rfl, _, _, rfl, _, _, rfl, rfl, rfl, yes_ ⟨_, rfl, rs, e, small1000 (by omega), s.put nD2, _, upd_same, ?_⟩⟩
    rw [take_more hq, List.map_append]
    exact hr2.snoc ⟨o, rfl, hN⟩
  rintro H8 ⟨s8, rs, e8, hr2⟩
  rw [hu.len, List.take_length] at hr2
  have s68 := s7.trans s8
  have hx8 := s68 _ _ hx6
  have ne : D2 ≠ x := fun z => by rw [z, hx8] at e8; cases e8
  refine ⟨_, rfl, x, B, dx, _, rfl, hx8, T, n4, Nat.lt_of_le_of_lt (putF_le (putF_le (putF_le (Nat.zero_le 0)))) (by decide), ?_⟩
  have kk : Keeps N H7 (upd H8 x (.ins B dx (putF "_numbered" (.ref D2) (putF "_ruling" (.str rl) (putF "_rules" (.ref p) (putF "_facts" (.ref a) [])))))) := Keeps.trans s8.keeps (keeps_make hx8)
  exact q _ D2 rs (sx.same s68).put upd_same ne (sx.free ne (s7.free nD2)) (by rw [upd_ne ne]; exact e8) (hr2.mono fun _ _ x => x.keeps kk)
end
end Sc
namespace Sc
open PySem PySem.Spec PyProof.Rows L2
/-! ### xs[i] += e -/
def rGetL (K : PySem.W.Frag) : V → V → Hp → VK → Prop := fun x y H Q => ∃ (p : Addr) (xs : List V) (i : Nat) (v : V), x = .ref p ∧ y = .int i ∧ SqL K H p xs ∧ xs[i]? = some v ∧ Q v H
theorem get_list {X : Cx} : PGet X (rGetL X.K) := by
  intro pins s σ H x y v u Q I rx ry h
  obtain ⟨p, xs, i, z, rfl, rfl, hq, he, q⟩ := h
  cases rx
  obtain ⟨t, rfl⟩ := ry
  obtain ⟨its, r, pl, hz⟩ := I.list hq
  obtain ⟨w, ew, rw'⟩ := r.get he
  have hl := r.length
  have hn := line63
  have hi : i < its.length := by
    by_cases c : i < its.length
    · exact c
    · rw [List.getElem?_eq_none (by omega)] at ew; cases ew
  exact wpAny_getItem_list pl.isList (by omega) (by omega) (by simpa using ew) ⟨z, H, I, rw', q⟩
/-! ### rows of rules, longer and shorter -/
namespace RF
/-- something of all rules -/
def every (p : Nd → Prop) : RF → Prop
  | .nil => True
  | .cons nm hs fs rl exc rest => p ⟨nm, hs, fs, rl, exc⟩ ∧ exc.every p ∧ rest.every p
theorem every_nodes {p : Nd → Prop} : ∀ {f : RF}, f.every p ↔ ∀ n ∈ f.nodes, p n ∧ n.exc.every p
  | .nil => ⟨(fun _ _ h => nomatch h), fun _ => trivial⟩
  | .cons nm hs fs rl exc rest => by
    constructor
    · rintro ⟨h1, h2, h3⟩ n hn
      rcases List.mem_cons.mp hn with rfl | hn
      · exact ⟨h1, h2⟩
      · exact every_nodes.mp h3 n hn
    · intro h
      exact ⟨(h _ List.mem_cons_self).1, (h _ List.mem_cons_self).2, every_nodes.mpr fun n hn => h n (List.mem_cons_of_mem _ hn)⟩
theorem every_pre {p : Nd → Prop} : ∀ {f : RF} {k : Nat}, f.every p → ∀ q ∈ f.pre k, p q.1
  | .nil, k, _, q, h => nomatch h
  | .cons nm hs fs rl exc rest, k, h, q, hq => by
    rcases List.mem_cons.mp hq with rfl | hq
    · exact h.1
    rcases List.mem_append.mp hq with hq | hq
    · exact every_pre h.2.1 q hq
    · exact every_pre h.2.2 q hq
theorem every_mono {p r : Nd → Prop} (g : ∀ n, p n → r n) : ∀ {f : RF}, f.every p → f.every r
  | .nil, _ => trivial
  | .cons nm hs fs rl exc rest, h => ⟨g _ h.1, every_mono g h.2.1, every_mono g h.2.2⟩
def snoc : RF → Nd → RF
  | .nil, n => .cons n.nm n.hs n.fs n.rl n.exc .nil
  | .cons nm hs fs rl exc rest, n => .cons nm hs fs rl exc (rest.snoc n)
theorem snoc_nodes : ∀ (f : RF) (n : Nd), (f.snoc n).nodes = f.nodes ++ [n]
  | .nil, n => rfl
  | .cons nm hs fs rl exc rest, n => by show _ :: (rest.snoc n).nodes = _; rw [snoc_nodes rest n]; rfl
theorem snoc_size : ∀ (f : RF) (n : Nd), (f.snoc n).size = f.size + (n.exc.size + 1)
  | .nil, n => by show n.exc.size + 1 + 0 = 0 + _; omega
  | .cons nm hs fs rl exc rest, n => by show exc.size + 1 + (rest.snoc n).size = exc.size + 1 + rest.size + _; rw [snoc_size rest n]; omega
theorem snoc_dep : ∀ (f : RF) (n : Nd), (f.snoc n).dep = max f.dep (n.exc.dep + 1)
  | .nil, n => by show max (n.exc.dep + 1) 0 = max 0 _; omega
  | .cons nm hs fs rl exc rest, n => by show max (exc.dep + 1) (rest.snoc n).dep = max (max (exc.dep + 1) rest.dep) _; rw [snoc_dep rest n]; omega
theorem snoc_pre : ∀ (f : RF) (n : Nd) (k : Nat), (f.snoc n).pre k = f.pre k ++ ((n, k) :: n.exc.pre (k + 1))
  | .nil, n, k => by show (_, k) :: (n.exc.pre (k + 1) ++ []) = [] ++ _; rw [List.append_nil]; rfl
  | .cons nm hs fs rl exc rest, n, k => by show (_, k) :: (exc.pre (k + 1) ++ (rest.snoc n).pre k) = (_, k) :: (exc.pre (k + 1) ++ rest.pre k) ++ _; rw [snoc_pre rest n k]; simp
theorem snoc_names (f : RF) (n : Nd) : (f.snoc n).names = f.names ++ n.nm :: n.exc.names := by
  rw [← pre_names (f.snoc n) 0, snoc_pre, List.map_append, pre_names, List.map_cons, pre_names]
theorem snoc_every {p : Nd → Prop} {f : RF} {n : Nd} (h : f.every p) (h1 : p n) (h2 : n.exc.every p) : (f.snoc n).every p := every_nodes.mpr fun m hm => by
  rw [snoc_nodes] at hm
  rcases List.mem_append.mp hm with hm | hm
  · exact every_nodes.mp h m hm
  · rw [List.mem_singleton.mp hm]
    exact ⟨h1, h2⟩
end RF
theorem rows_snoc {K : PySem.W.Frag} {H : Hp} {f : RF} {vs : List V} {v : V} {n : Nd} (h : RowsAt K H f vs) (r : RowAt K H v n) : RowsAt K H (f.snoc n) (vs ++ [v]) := RowsAt.of (by rw [RF.snoc_nodes]; exact h.all.snoc r)
/-! ### all but the draws' state and a counter stands -/
structure Kc (a l c : Addr) (H H' : Hp) : Prop where
  old : RS H a l
  new : RS H' a l
  keep : ∀ b o, b ≠ a → b ≠ l → b ≠ c → H b = some o → H' b = some o
abbrev NoL : Addr → Prop := fun _ => False
section
variable {K : PySem.W.Frag} {a l c : Addr} {H H' H'' : Hp}
theorem Kp.kc (k : Kp a l H H') : Kc a l c H H' := ⟨k.old, k.new, fun b o n1 n2 _ e => k.keep b o n1 n2 e⟩
theorem Kc.trans (k : Kc a l c H H') (k' : Kc a l c H' H'') : Kc a l c H H'' := ⟨k.old, k'.new, fun b o n1 n2 n3 e => k'.keep b o n1 n2 n3 (k.keep b o n1 n2 n3 e)⟩
theorem Kc.of (r : RS H a l) (s : Same H H') : Kc a l c H H' := ⟨r, r.same s, fun b o _ _ _ e => s b o e⟩
theorem Kc.same (k : Kc a l c H H') (s : Same H' H'') : Kc a l c H H'' := k.trans (.of k.new s)
theorem Kc.put0 {p : Addr} {o : HO} (k : Kc a l c H H') (n : H p = none) : Kc a l c H (upd H' p o) := by
  obtain ⟨n1, n2⟩ := k.old.no n
  obtain ⟨st, x, ns, h1, h2, q⟩ := k.new
  exact ⟨k.old, ⟨st, x, ns, by rw [upd_ne n1.symm]; exact h1, by rw [upd_ne n2.symm]; exact h2, q⟩, fun b o m1 m2 m3 e => by rw [upd_ne (ne_of_none e n)]; exact k.keep b o m1 m2 m3 e⟩
/-- the counter changes -/
theorem Kc.count {o : HO} (k : Kc a l c H H') (n1 : c ≠ a) (n2 : c ≠ l) : Kc a l c H (upd H' c o) := by
  obtain ⟨st, x, ns, h1, h2, q⟩ := k.new
  exact ⟨k.old, ⟨st, x, ns, by rw [upd_ne n1.symm]; exact h1, by rw [upd_ne n2.symm]; exact h2, q⟩, fun b o m1 m2 m3 e => by rw [upd_ne m3]; exact k.keep b o m1 m2 m3 e⟩
theorem Kc.keeps {xs : List V} (k : Kc a l c H H') (e : H c = some (.lst xs)) : Keeps NoL H H' := fun b o st h => by
  obtain ⟨sd, x, ns, h1, h2, q⟩ := k.old
  have nl : ∀ zs, o ≠ .lst zs := fun zs z => st.1 zs z
  exact k.keep b o (fun z => by rw [z, h1] at h; exact nl _ (Option.some.inj h).symm) (fun z => by rw [z, h2] at h; exact nl _ (Option.some.inj h).symm) (fun z => by rw [z, e] at h; exact nl _ (Option.some.inj h).symm) h
theorem Kp.keepsN (k : Kp a l H H') : Keeps NoL H H' := k.keeps id id
theorem Kc.free {b : Addr} {xs : List V} (k : Kc a l c H H') (ec : H' c = some (.lst xs)) (e : H' b = none) : H b = none := by
  cases q : H b with
  | none => rfl
  | some o =>
    obtain ⟨n1, n2⟩ := k.new.no e
    rw [k.keep b o n1 n2 (fun z => by rw [z, ec] at e; cases e) q] at e
    cases e
end
/-! ### drawn rules -/
def fourR : List Str := ["pay", "warn", "free", "none"]
/-- the name of the i-th drawn rule -/
def rn (i : Nat) : Str := Str.ofString "r" ++ (⟨#[letters.cps.toList.getD i 0]⟩ : Str)
def rnames (c n : Nat) : List Str := (List.range' c n).map rn
theorem rnames_app {c n m : Nat} : rnames c n ++ rnames (c + n) m = rnames c (n + m) := by
  unfold rnames
  rw [← List.map_append, List.range'_append_1]
theorem rnames_one {c m : Nat} : rn c :: rnames (c + 1) m = rnames c (m + 1) := rfl
theorem rn_name : ∀ i, i < 24 → isName (rn i) = true := by decide +kernel
theorem four_name : ∀ x ∈ fourR, isName x = true := by decide +kernel
end Sc
namespace Sc
open PySem PySem.Spec PyProof.Rows L2
/-! ### what a book is asked -/
theorem sc_Book___contains__ : FnScope ["self", "name", "rule"] ["self", "name"] (defScope s_Book___contains__) := ⟨rfl, rfl, rfl, by decide +kernel, rfl, by decide +kernel, by decide +kernel⟩
theorem sc_Book___getitem__ : FnScope ["self", "name", "rule"] ["self", "name"] (defScope s_Book___getitem__) := ⟨rfl, rfl, rfl, by decide +kernel, rfl, by decide +kernel, by decide +kernel⟩
theorem decV_str {a b : Str} : decide (V.str a = V.str b) = decide (a = b) := by
  rw [decide_eq_decide]
  exact ⟨V.str.inj, fun h => by rw [h]⟩
section
variable {P : Program} {w : World} {K : PySem.W.Frag} {mg : Str → Option Value} {base : Heap} {C R B CF CB CU : Addr}
def sp_contains (K : PySem.W.Frag) (C R B : Addr) : Sp := fun vs H Q _ => ∃ (N : Addr → Prop) (o : Addr) (xs : List Str) (f : RF) (rl nm : Str), vs = [.ref o, .str nm] ∧ BookAt K C R B N H o xs f rl ∧ f.size ≤ 900 ∧ ∀ H', Same H H' → Q (.bl (decide (nm ∈ f.names))) H'
theorem ok_contains {f : Addr} {fd : FuncData} (F : Fun K "__contains__" "Book.__contains__" s_Book___contains__ f fd) (Bl : Blt mg) (T : Cls K B) (n4 : NoAttr K B "_numbered") (kR : RuleX P w K mg base R) :
    FnOk P w K mg base CX0 3 f fd ["self", "name"] (sp_contains K C R B) := by
  refine F.ok sc_Book___contains__ (fun vs H Q E h => by obtain ⟨N, o, xs, f, rl, nm, rfl, _⟩ := h; rfl) (fun cdv A outer s H vs Q E hr h => ?_)
  obtain ⟨N, o, xs, f, rl, nm, rfl, ⟨dx, a, p, l, ws, us, ho, hS, hP, hF, ⟨nl, hl⟩, hus⟩, hz, q⟩ := h
  have hlen := hus.len
  rw [List.length_map, RF.pre_len] at hlen
  refine ⟨_, (pss_one (ps_ret (pe_callB (cr_any rfl) (by rfl) Bl.b_any (by decide +kernel) (pa_cons (pe_lc (own := [("rule", 2)]) (g := gName 2) (tt := tYes) rfl sc_Book___contains__.nd (pi_list (pe_fld (pv 0) rfl)) (blkOk_by (own := [("rule", 2)]) (N := ["self", "name", "rule"]) (sc := defScope s_Book___contains__) (by decide +kernel)) (fun _ _ _ _ _ => (pg_name (i := 2) sc_Book___contains__.nd rfl (Or.inl rfl))) (fun _ _ _ _ _ => pts_nil) (fun _ _ _ _ _ => (pe_.re (pe_cmpR op_eq (pe_cprop kR.name kR.cls (hr.mono (by decide)) (pv 2)) (pv 1) (nomark _)) (by first | (dsimp only [Cx.blk]; done) | exact rfl)))) pa_nil)))), ?_⟩
  refine ⟨_, rfl, o, B, dx, _, _, rfl, ho, T, n4, rfl, l, rfl, ⟨_, sqL_of hl⟩, fun D nD => lc_it walk_list (fun i H' => Same H H' ∧ H' D = some (.lst ((((f.pre 0).map fun q => q.1).take i).map fun n => V.bl (decide (n.nm = nm))))) ⟨(Same.refl H).put nD, upd_same⟩ (fun _ _ _ h => sqL_of (h.1 _ _ hl)) ?_ ?_⟩
  · rintro i y H2 H3 hi ⟨s, e⟩ ⟨rfl, hy⟩
    obtain ⟨n, hn, o', rfl, hN⟩ := hus.get hy
    obtain ⟨dx', c', pe', l', ws', ho', _⟩ := hN.keeps (N := N) s.keeps
    refine ⟨rfl, yes_ ⟨_, rfl, o', dx', _, rfl, ho', o', dx', _, _, rfl, ho', rfl, _, rfl, rfl, ?_⟩⟩
    refine grow (acc := fun i => (((f.pre 0).map fun q => q.1).take i).map fun n => V.bl (decide (n.nm = nm))) nD s e ?_ ?_
    · rw [List.length_map, List.length_take, List.length_map, RF.pre_len]
      exact small1000 (by omega)
    · show List.map _ _ = List.map _ _ ++ _
      rw [take_more hn, List.map_append, decV_str]
      rfl
  rintro H2 ⟨s, e⟩
  rw [hus.len, List.take_length] at e
  refine ⟨D, ((f.pre 0).map fun q => q.1).map fun n => decide (n.nm = nm), rfl, sqL_of (by rw [e]; simp only [List.map_map]; rfl), ?_⟩
  have h := q H2 s
  rw [show decide (nm ∈ f.names) = (((f.pre 0).map fun q => q.1).map fun n => decide (n.nm = nm)).any id by
    rw [List.any_map, List.any_map, Bool.eq_iff_iff, decide_eq_true_iff, List.any_eq_true]
    unfold RF.names
    rw [List.mem_map]
    exact ⟨fun ⟨q, hq, e⟩ => ⟨q, hq, decide_eq_true e⟩, fun ⟨q, hq, e⟩ => ⟨q, hq, of_decide_eq_true e⟩⟩] at h
  exact h
/-- the first rule of a name -/
def RF.find (f : RF) (nm : Str) : Option Nd := ((f.pre 0).map fun q => q.1).find? fun n => decide (n.nm = nm)
def sp_getitem (K : PySem.W.Frag) (C R B CU : Addr) : Sp := fun vs H Q E => ∃ (N : Addr → Prop) (o : Addr) (xs : List Str) (f : RF) (rl nm : Str), vs = [.ref o, .str nm] ∧ BookAt K C R B N H o xs f rl ∧ f.size ≤ 900 ∧
  (∀ n v, f.find nm = some n → RefAt K C R N H v n → Q v H) ∧ (f.find nm = none → ∀ H', Same H H' → E (.ref CU) none H')
theorem ok_getitem {f : Addr} {fd : FuncData} (F : Fun K "__getitem__" "Book.__getitem__" s_Book___getitem__ f fd) (Bl : Blt mg) (T : Cls K B) (n4 : NoAttr K B "_numbered") (kR : RuleX P w K mg base R) (e_UnknownRule : ErrMk0 K mg "UnknownRule" CU) :
    FnOk P w K mg base (L2.CX P w) 3 f fd ["self", "name"] (sp_getitem K C R B CU) := by
  refine F.okX sc_Book___getitem__ (fun vs H Q E h => by obtain ⟨N, o, xs, f, rl, nm, rfl, _⟩ := h; rfl) (fun cdv A outer s H vs Q E hr h => ?_)
  obtain ⟨N, o, xs, f, rl, nm, rfl, ⟨dx, a, p, l, ws, us, ho, hS, hP, hF, ⟨nl, hl⟩, hus⟩, hz, q, er⟩ := h
  have hlen := hus.len
  rw [List.length_map, RF.pre_len] at hlen
  refine ⟨_, (pss_cons (ps_for (passes_of rfl) rfl (pi_list (pe_fld (pv 0) rfl)) (pg_name (i := 2) sc_Book___getitem__.nd rfl (Or.inl rfl)) (pss_one (ps_if (pt_cmpR op_eq (pe_cprop kR.name kR.cls (hr.mono (by decide)) (pv 2)) (pv 1) (nomark _)) (pss_one (ps_ret (pv 2))) pss_nil)))
      (pss_one (ps_raise rfl (takes_of rfl rfl rfl rfl) (pmk_err0 e_UnknownRule)))), ?_⟩
  refine ⟨_, rfl, o, B, dx, _, _, rfl, ho, T, n4, rfl, l, rfl, ⟨_, sqL_of hl⟩, for_it walk_list (fun i σ H' => ∃ y, σ = [some (.ref o), some (.str nm), y] ∧ H' = H ∧ ∀ (j : Nat) (n : Nd), j < i → ((f.pre 0).map fun q => q.1)[j]? = some n → n.nm ≠ nm) ⟨none, rfl, rfl, fun j n hj => absurd hj (Nat.not_lt_zero j)⟩ (fun _ _ _ _ ⟨_, _, e, _⟩ => by rw [e]; exact sqL_of hl) ?_ ?_⟩
  · rintro i y σ H2 H3 hi ⟨y', rfl, rfl, hne⟩ ⟨rfl, hy⟩
    obtain ⟨n, hn, o', rfl, hN⟩ := hus.get hy
    have hR : RefAt K C R N _ (.ref o') n := ⟨o', rfl, hN⟩
    obtain ⟨dx', c', pe', l', ws', ho', _⟩ := hN
    refine ⟨_, rfl, o', dx', _, rfl, ho', o', dx', _, _, rfl, ho', rfl, _, rfl, rfl, _, rfl, bcase (fun c1 => ?_) (fun c1 => ?_)⟩
    · have c1 := V.str.inj (of_decide_eq_true c1)
      refine ⟨_, rfl, q n _ ?_ hR⟩
      unfold RF.find
      rw [List.find?_eq_some_iff_getElem]
      obtain ⟨hil, e⟩ := List.getElem?_eq_some_iff.mp hn
      refine ⟨decide_eq_true c1, i, hil, e, fun j hj => ?_⟩
      rw [decide_eq_false (hne j _ hj (List.getElem?_eq_getElem (by omega)))]
      rfl
    · have c1 : n.nm ≠ nm := fun z => of_decide_eq_false c1 (by rw [z])
      refine ⟨_, rfl, rfl, fun j m hj hm => ?_⟩
      by_cases hji : j < i
      · exact hne j m hji hm
      · have e : j = i := by omega
        subst e
        rw [hn] at hm
        cases hm
        exact c1
  · rintro σ H2 ⟨y', rfl, rfl, hne⟩
    refine er ?_ H2 (Same.refl H2)
    unfold RF.find
    rw [List.find?_eq_none]
    intro m hm
    obtain ⟨j, hj, e⟩ := List.getElem_of_mem hm
    rw [decide_eq_false (hne j m (by rw [hus.len]; exact hj) (by rw [List.getElem?_eq_getElem hj, e]))]
    exact Bool.false_ne_true
end
end Sc
namespace Sc
open PySem PySem.Spec PyProof.Rows L2
/-! ### slices of tuples -/
section
variable {K : PySem.W.Frag} {H : Hp}
theorem sl_any {b : Addr} {vs : List V} {lo hi : Option Int} {Q : VK} (hS : SqT K H b vs) (q : ∀ p H', Same H H' → SqT K H' p (cutV vs lo hi) → Q (.ref p) H') : rSlA K (.ref b) lo hi H Q :=
  ⟨b, vs, rfl, hS, fun c => q b H (Same.refl H) (by
    have e : cutV vs lo hi = vs := by
      unfold cutV
      rw [c.1, c.2, List.drop_zero, Nat.sub_zero, List.take_length]
    rw [e]
    exact hS), fun _ p np => q p _ ((Same.refl H).put np) sqT_new⟩
theorem cat_any {b c : Addr} {xs ys : List V} {Q : VK} (hA : SqT K H b xs) (hB : SqT K H c ys) (hl : xs.length + ys.length ≤ sizeLine) (q : ∀ p H', Same H H' → SqT K H' p (xs ++ ys) → Q (.ref p) H') : rCatA K (.ref b) (.ref c) H Q :=
  ⟨b, c, xs, ys, rfl, rfl, hA, hB, hl, fun e => q c H (Same.refl H) (by rw [e]; exact hB), fun _ e => q b H (Same.refl H) (by rw [e, List.append_nil]; exact hA), fun _ _ p np => q p _ ((Same.refl H).put np) sqT_new⟩
theorem sIx_nat (n d k : Nat) : HT.sIx n d (some (k : Int)) = min k n := by
  unfold HT.sIx
  first
    | (simp; done)
    | (simp; omega)
    | (split <;> omega)
theorem cut_to (vs : List V) (m : Nat) : cutV vs none (some (m : Int)) = vs.take m := by
  unfold cutV
  rw [sIx_nat]
  show (vs.drop 0).take (min m vs.length - 0) = _
  rw [List.drop_zero, Nat.sub_zero]
  by_cases h : m ≤ vs.length
  · rw [Nat.min_eq_left h]
  · rw [Nat.min_eq_right (by omega), List.take_length, List.take_of_length_le (by omega)]
theorem cut_from (vs : List V) (k : Nat) : cutV vs (some (k : Int)) none = vs.drop k := by
  unfold cutV
  rw [sIx_nat]
  show (vs.drop (min k vs.length)).take (vs.length - min k vs.length) = _
  by_cases h : k ≤ vs.length
  · rw [Nat.min_eq_left h, List.take_of_length_le (by rw [List.length_drop]; exact Nat.le_refl _)]
  · rw [Nat.min_eq_right (by omega), List.drop_length, List.drop_of_length_le (by omega)]
    exact List.take_nil
theorem cut_part (vs : List V) (k m : Nat) : cutV vs (some (k : Int)) (some (m : Int)) = (vs.drop k).take (m - k) := by
  unfold cutV
  rw [sIx_nat, sIx_nat]
  by_cases h : k ≤ vs.length
  · rw [Nat.min_eq_left h]
    by_cases h2 : m ≤ vs.length
    · rw [Nat.min_eq_left h2]
    · rw [Nat.min_eq_right (by omega), List.take_of_length_le (by rw [List.length_drop]; exact Nat.le_refl _), List.take_of_length_le (by rw [List.length_drop]; omega)]
  · rw [Nat.min_eq_right (show vs.length ≤ k by omega), List.drop_length, List.drop_of_length_le (show vs.length ≤ k by omega), List.take_nil, List.take_nil]
end
end Sc
namespace Sc
open PySem
/-! ### parts of a text -/
def stAt (b : List Stmt) (i : Nat) : Stmt := b.getD i (.Pass ⟨0, 0, 0, 0⟩)
def forB : Stmt → List Stmt
  | .For _ _ b _ _ => b
  | _ => []
def whileB : Stmt → List Stmt
  | .While _ b _ _ => b
  | _ => []
def ifB : Stmt → List Stmt
  | .If _ b _ _ => b
  | _ => []
def ifE : Stmt → List Stmt
  | .If _ _ b _ => b
  | _ => []
end Sc
namespace Sc
open PySem PySem.Spec PyProof.Rows L2
namespace RF
def app (f g : RF) : RF := ofNodes (f.nodes ++ g.nodes)
theorem app_nodes (f g : RF) : (f.app g).nodes = f.nodes ++ g.nodes := nodes_of _
theorem of_size : ∀ ns ms : List Nd, (ofNodes (ns ++ ms)).size = (ofNodes ns).size + (ofNodes ms).size
  | [], ms => by show (ofNodes ms).size = 0 + _; omega
  | n :: r, ms => by
    show n.exc.size + 1 + (ofNodes (r ++ ms)).size = n.exc.size + 1 + (ofNodes r).size + _
    rw [of_size r ms]
    omega
theorem app_size (f g : RF) : (f.app g).size = f.size + g.size := by
  unfold app
  rw [of_size, of_nodes, of_nodes]
theorem app_dep {f g : RF} {d : Nat} (h : f.dep ≤ d) (k : g.dep ≤ d) : (f.app g).dep ≤ d := dep_le _ d fun n hn => by
  rw [app_nodes] at hn
  rcases List.mem_append.mp hn with hn | hn
  · exact Nat.le_trans (dep_mem f n hn) h
  · exact Nat.le_trans (dep_mem g n hn) k
theorem app_every {p : Nd → Prop} {f g : RF} (h : f.every p) (k : g.every p) : (f.app g).every p := every_nodes.mpr fun n hn => by
  rw [app_nodes] at hn
  rcases List.mem_append.mp hn with hn | hn
  · exact every_nodes.mp h n hn
  · exact every_nodes.mp k n hn
/-- the first rules, the others -/
def head (f : RF) (i : Nat) : RF := ofNodes (f.nodes.take i)
def rest (f : RF) (i : Nat) : RF := ofNodes (f.nodes.drop i)
theorem head_nodes (f : RF) (i : Nat) : (f.head i).nodes = f.nodes.take i := nodes_of _
theorem rest_nodes (f : RF) (i : Nat) : (f.rest i).nodes = f.nodes.drop i := nodes_of _
theorem head_rest (f : RF) (i : Nat) : (f.head i).app (f.rest i) = f := by
  unfold app
  rw [head_nodes, rest_nodes, List.take_append_drop, of_nodes]
theorem cut_size (f : RF) (i : Nat) : (f.head i).size + (f.rest i).size = f.size := by rw [← app_size, head_rest]
theorem head_dep (f : RF) (i : Nat) : (f.head i).dep ≤ f.dep := dep_le _ _ fun n hn => dep_mem f n (List.mem_of_mem_take (by rw [head_nodes] at hn; exact hn))
theorem rest_dep (f : RF) (i : Nat) : (f.rest i).dep ≤ f.dep := dep_le _ _ fun n hn => dep_mem f n (List.mem_of_mem_drop (by rw [rest_nodes] at hn; exact hn))
theorem head_every {p : Nd → Prop} {f : RF} (h : f.every p) (i : Nat) : (f.head i).every p := every_nodes.mpr fun n hn => every_nodes.mp h n (List.mem_of_mem_take (by rw [head_nodes] at hn; exact hn))
theorem rest_every {p : Nd → Prop} {f : RF} (h : f.every p) (i : Nat) : (f.rest i).every p := every_nodes.mpr fun n hn => every_nodes.mp h n (List.mem_of_mem_drop (by rw [rest_nodes] at hn; exact hn))
/-- a row of one rule -/
def only (n : Nd) : RF := .cons n.nm n.hs n.fs n.rl n.exc .nil
theorem only_size (n : Nd) : (only n).size = n.exc.size + 1 := rfl
theorem only_dep (n : Nd) : (only n).dep = n.exc.dep + 1 := Nat.max_zero _
theorem only_every {p : Nd → Prop} {n : Nd} (h : p n) (k : n.exc.every p) : (only n).every p := ⟨h, k, trivial⟩
end RF
namespace All2
variable {α β : Type} {R : α → β → Prop}
theorem take {as : List α} {bs : List β} (h : All2 R as bs) : ∀ i, All2 R (as.take i) (bs.take i) := by
  induction h with
  | nil => intro i; rw [List.take_nil, List.take_nil]; exact .nil
  | cons h _ ih =>
    intro i
    cases i with
    | zero => exact .nil
    | succ i => exact .cons h (ih i)
theorem drop {as : List α} {bs : List β} (h : All2 R as bs) : ∀ i, All2 R (as.drop i) (bs.drop i) := by
  induction h with
  | nil => intro i; rw [List.drop_nil, List.drop_nil]; exact .nil
  | cons h t ih =>
    intro i
    cases i with
    | zero => exact .cons h t
    | succ i => exact ih i
end All2
section
variable {K : PySem.W.Frag} {H : Hp} {f g : RF} {vs us : List V} {v : V} {n : Nd}
theorem rows_app (h : RowsAt K H f vs) (k : RowsAt K H g us) : RowsAt K H (f.app g) (vs ++ us) := RowsAt.of (by rw [RF.app_nodes]; exact h.all.app k.all)
theorem rows_head (h : RowsAt K H f vs) (i : Nat) : RowsAt K H (f.head i) (vs.take i) := RowsAt.of (by rw [RF.head_nodes]; exact h.all.take i)
theorem rows_rest (h : RowsAt K H f vs) (i : Nat) : RowsAt K H (f.rest i) (vs.drop i) := RowsAt.of (by rw [RF.rest_nodes]; exact h.all.drop i)
theorem rows_only (h : RowAt K H v n) : RowsAt K H (.only n) [v] := RowsAt.of (.one h)
theorem cut_last (vs : List V) : cutV vs (some (-1)) none = vs.drop (vs.length - 1) := by
  unfold cutV
  have e1 : HT.sIx vs.length 0 (some (-1)) = vs.length - 1 := by
    unfold HT.sIx
    dsimp only
    rw [if_pos (by decide)]
    omega
  have e2 : HT.sIx vs.length vs.length none = vs.length := rfl
  rw [e1, e2, List.take_of_length_le]
  rw [List.length_drop]
  exact Nat.le_refl _
end
end Sc
namespace Sc
open PySem
/-! ### cases by their numbers -/
def caseOf : List Str → Nat → List Str
  | [], _ => []
  | x :: r, n => (if n % 2 = 1 then [x] else []) ++ caseOf r (n / 2)
def bitN (n k : Nat) : Bool := decide (n / 2 ^ k % 2 = 1)
theorem bitN_succ {n k : Nat} : bitN n (k + 1) = bitN (n / 2) k := by
  unfold bitN
  rw [Nat.pow_succ, Nat.mul_comm, ← Nat.div_div_eq_div_mul]
theorem caseOf_more : ∀ (fs : List Str) (n i : Nat) (x : Str), fs[i]? = some x → caseOf (fs.take (i + 1)) n = caseOf (fs.take i) n ++ (if bitN n i = true then [x] else [])
  | y :: r, n, 0, x, h => by
    have h : y = x := Option.some.inj h
    subst h
    show (if n % 2 = 1 then [y] else []) ++ caseOf [] (n / 2) = [] ++ _
    unfold bitN caseOf
    rw [Nat.pow_zero, Nat.div_one, List.append_nil, List.nil_append]
    by_cases c : n % 2 = 1
    · rw [if_pos c, if_pos (decide_eq_true c)]
    · rw [if_neg c, if_neg (by rw [decide_eq_false c]; exact Bool.false_ne_true)]
  | y :: r, n, i + 1, x, h => by
    have h : r[i]? = some x := h
    show (if n % 2 = 1 then [y] else []) ++ caseOf (r.take (i + 1)) (n / 2) = ((if n % 2 = 1 then [y] else []) ++ caseOf (r.take i) (n / 2)) ++ _
    rw [caseOf_more r (n / 2) i x h, List.append_assoc, bitN_succ]
theorem caseOf_sub : ∀ (fs : List Str) (n : Nat), List.Sublist (caseOf fs n) fs
  | [], _ => .slnil
  | x :: r, n => by
    unfold caseOf
    by_cases c : n % 2 = 1
    · rw [if_pos c]
      exact (caseOf_sub r _).cons₂ x
    · rw [if_neg c]
      exact (caseOf_sub r _).cons x
/-- each choice of the facts is a case -/
theorem caseOf_all (p : Str → Bool) : ∀ fs : List Str, ∃ n, n < 2 ^ fs.length ∧ caseOf fs n = fs.filter p
  | [] => ⟨0, by decide, rfl⟩
  | x :: r => by
    obtain ⟨n, h1, h2⟩ := caseOf_all p r
    cases c : p x with
    | true =>
      refine ⟨2 * n + 1, by rw [List.length_cons, Nat.pow_succ]; omega, ?_⟩
      unfold caseOf
      rw [if_pos (by omega), show (2 * n + 1) / 2 = n by omega, h2, List.filter_cons, if_pos c]
      rfl
    | false =>
      refine ⟨2 * n, by rw [List.length_cons, Nat.pow_succ]; omega, ?_⟩
      unfold caseOf
      rw [if_neg (by omega), show (2 * n) / 2 = n by omega, h2, List.filter_cons, if_neg (by rw [c]; exact Bool.false_ne_true)]
      rfl
end Sc
namespace Sc
open PySem PySem.Spec PyProof.Rows L2
/-! ### rising rows of the twelve facts -/
def SLt (a b : Str) : Prop := a.cps.toList < b.cps.toList
instance (a b : Str) : Decidable (SLt a b) := inferInstanceAs (Decidable (a.cps.toList < b.cps.toList))
structure Good (xs : List Str) : Prop where
  up : xs.Pairwise SLt
  mem : ∀ x ∈ xs, x ∈ twelve
theorem twelve_up : twelve.Pairwise SLt := by decide +kernel
theorem twelve_name : ∀ x ∈ twelve, isName x = true := by decide +kernel
theorem twelve_good : Good twelve := ⟨twelve_up, fun _ h => h⟩
theorem Good.sub {xs ys : List Str} (h : Good ys) (s : List.Sublist xs ys) : Good xs := ⟨h.up.sublist s, fun x hx => h.mem x (s.subset hx)⟩
theorem Good.nodup {xs : List Str} (h : Good xs) : xs.Nodup := h.up.imp fun {a b} hl e => by subst e; exact List.lt_irrefl _ hl
theorem Good.fines {xs : List Str} (h : Good xs) (tf : Fines twelve) : Fines xs := fun x hx => tf x (h.mem x hx)
theorem Good.le {xs : List Str} (h : Good xs) : xs.Pairwise SLe := h.up.imp fun hl => List.le_of_lt hl
theorem good_nil : Good [] := ⟨.nil, fun _ h => nomatch h⟩
theorem Good.srt {xs : List Str} (h : Good xs) : srt xs = xs := sorted_uniq (srt_perm xs) (srt_sorted xs) (sorted_of h.le)
theorem lt_of {a b : Str} (h : SLe a b) (n : a ≠ b) : SLt a b := by
  by_cases c : a.cps.toList < b.cps.toList
  · exact c
  · exact absurd (str_ext (List.le_antisymm h (List.not_lt.mp c))) n
theorem srt_good {xs : List Str} (nd : xs.Nodup) (m : ∀ x ∈ xs, x ∈ twelve) : Good (srt xs) := by
  have nd2 : (Sc.srt xs).Nodup := (srt_perm xs).nodup_iff.mpr nd
  refine ⟨?_, fun x hx => m x ((srt_perm xs).mem_iff.mp hx)⟩
  exact ((sorted_pw (srt_sorted xs)).and nd2).imp fun h => lt_of h.1 h.2
theorem mem_mrg {xs ys : List Str} {x : Str} : x ∈ mrg xs ys ↔ x ∈ xs ∨ x ∈ ys := by
  unfold mrg
  rw [(srt_perm _).mem_iff, List.mem_append, List.mem_filter]
  constructor
  · rintro (h | h)
    · exact .inl h
    · exact .inr h.1
  · rintro (h | h)
    · exact .inl h
    · by_cases c : x ∈ xs
      · exact .inl c
      · exact .inr ⟨h, by rw [decide_eq_false c]; rfl⟩
theorem Good.mrg {xs ys : List Str} (h : Good xs) (k : Good ys) : Good (mrg xs ys) := by
  refine srt_good ?_ fun x hx => ?_
  · rw [List.nodup_append]
    refine ⟨h.nodup, (List.filter_sublist).nodup k.nodup, fun a ha b hb e => ?_⟩
    subst e
    have := (List.mem_filter.mp hb).2
    rw [decide_eq_true ha] at this
    cases this
  · rcases List.mem_append.mp hx with h1 | h1
    · exact h.mem x h1
    · exact k.mem x (List.mem_filter.mp h1).1
/-- a good row is told by its members -/
theorem Good.ext {xs ys : List Str} (h : Good xs) (k : Good ys) (e : ∀ x, x ∈ xs ↔ x ∈ ys) : xs = ys := by
  have p : xs.Perm ys := (List.perm_ext_iff_of_nodup h.nodup k.nodup).mpr e
  exact sorted_uniq p (sorted_of h.le) (sorted_of k.le)
theorem rises_pw {xs : List Str} (h : xs.Pairwise SLt) {i : Nat} (hi : i < xs.length) : risesAt xs i = true := by
  by_cases h0 : i = 0
  · subst h0
    rfl
  · rw [risesAt_eq hi h0 (by omega)]
    exact decide_eq_true (List.pairwise_iff_getElem.mp h (i - 1) i (by omega) hi (by omega))
theorem Good.none {xs ys : List Str} (h : Good xs) (l : ys.length + xs.length ≤ 8) (d : ∀ x ∈ xs, ¬ x ∈ ys) : firstWrong xs ys = none := by
  unfold firstWrong
  rw [List.find?_eq_none]
  intro i hi
  have hi := List.mem_range.mp hi
  unfold wrongAt
  rw [List.getElem?_eq_getElem hi]
  dsimp only
  rw [twelve_name _ (h.mem _ (List.getElem_mem hi)), rises_pw h.up hi, decide_eq_false (show ¬ 8 ≤ ys.length + i by omega), decide_eq_false (d _ (List.getElem_mem hi))]
  exact Bool.false_ne_true
/-! ### two conditions over the same cases -/
theorem meets_iff {hs fs cs : List Str} : meets hs fs cs = true ↔ (∀ x ∈ hs, x ∈ cs) ∧ ∀ x ∈ fs, ¬ x ∈ cs := by
  unfold meets
  rw [Bool.and_eq_true, List.all_eq_true, Bool.not_eq_true', List.any_eq_false]
  constructor
  · rintro ⟨h1, h2⟩
    exact ⟨fun x hx => of_decide_eq_true (h1 x hx), fun x hx hc => h2 x hx (decide_eq_true hc)⟩
  · rintro ⟨h1, h2⟩
    exact ⟨fun x hx => decide_eq_true (h1 x hx), fun x hx hc => h2 x hx (of_decide_eq_true hc)⟩
theorem meets_mrg {hs fs gs ks cs : List Str} : meets (mrg hs gs) (mrg fs ks) cs = (meets hs fs cs && meets gs ks cs) := by
  rw [Bool.eq_iff_iff, Bool.and_eq_true, meets_iff, meets_iff, meets_iff]
  constructor
  · rintro ⟨h1, h2⟩
    exact ⟨⟨fun x hx => h1 x (mem_mrg.mpr (.inl hx)), fun x hx => h2 x (mem_mrg.mpr (.inl hx))⟩, fun x hx => h1 x (mem_mrg.mpr (.inr hx)), fun x hx => h2 x (mem_mrg.mpr (.inr hx))⟩
  · rintro ⟨⟨h1, h2⟩, h3, h4⟩
    refine ⟨fun x hx => ?_, fun x hx => ?_⟩
    · rcases mem_mrg.mp hx with h | h
      · exact h1 x h
      · exact h3 x h
    · rcases mem_mrg.mp hx with h | h
      · exact h2 x h
      · exact h4 x h
/-- a case that meets the joined condition: what must hold, and no more -/
theorem met_case {fs ws bs : List Str} (s1 : ∀ x ∈ ws, x ∈ fs) (d : ∀ x ∈ ws, ¬ x ∈ bs) : meets ws bs (fs.filter fun x => decide (x ∈ ws)) = true := by
  rw [meets_iff]
  refine ⟨fun x hx => List.mem_filter.mpr ⟨s1 x hx, decide_eq_true hx⟩, fun x hx hc => ?_⟩
  exact d x (of_decide_eq_true (List.mem_filter.mp hc).2) hx
theorem both_iff {fs hs ks gs ls : List Str} (h1 : ∀ x ∈ hs, x ∈ fs) (h2 : ∀ x ∈ gs, x ∈ fs) :
    (∃ n, n < 2 ^ fs.length ∧ (meets hs ks (caseOf fs n) && meets gs ls (caseOf fs n)) = true) ↔ meetN (mrg hs gs) (mrg ks ls) = false := by
  constructor
  · rintro ⟨n, _, h⟩
    rw [← meets_mrg, meets_iff] at h
    unfold meetN
    rw [List.any_eq_false]
    intro x hx hc
    exact h.2 x (of_decide_eq_true hc) (h.1 x hx)
  · intro h
    obtain ⟨n, hn, e⟩ := caseOf_all (fun x => decide (x ∈ mrg hs gs)) fs
    refine ⟨n, hn, ?_⟩
    rw [← meets_mrg, e]
    refine met_case (fun x hx => ?_) (fun x hx hc => ?_)
    · rcases mem_mrg.mp hx with h' | h'
      · exact h1 x h'
      · exact h2 x h'
    · unfold meetN at h
      rw [List.any_eq_false] at h
      exact h x hx (decide_eq_true hc)
theorem within_iff {fs hs ks gs ls : List Str} (h1 : ∀ x ∈ hs, x ∈ fs) (h2 : ∀ x ∈ ls, x ∈ fs) (d : ∀ x ∈ hs, ¬ x ∈ ks) :
    withinC hs ks gs ls = true ↔ ∀ n, n < 2 ^ fs.length → (meets hs ks (caseOf fs n) && !meets gs ls (caseOf fs n)) = false := by
  unfold withinC
  rw [Bool.and_eq_true, List.all_eq_true, List.all_eq_true]
  constructor
  · rintro ⟨q1, q2⟩ n _
    cases c : meets hs ks (caseOf fs n) with
    | false => rfl
    | true =>
      have c := meets_iff.mp c
      have : meets gs ls (caseOf fs n) = true := meets_iff.mpr ⟨fun x hx => c.1 x (of_decide_eq_true (q1 x hx)), fun x hx => c.2 x (of_decide_eq_true (q2 x hx))⟩
      rw [this]
      rfl
  · intro q
    constructor
    · intro x hx
      obtain ⟨n, hn, e⟩ := caseOf_all (fun x => decide (x ∈ hs)) fs
      have h := q n hn
      rw [e, met_case h1 d, Bool.true_and] at h
      have h : meets gs ls (fs.filter fun x => decide (x ∈ hs)) = true := by
        cases c : meets gs ls (fs.filter fun x => decide (x ∈ hs)) with
        | true => rfl
        | false => rw [c] at h; cases h
      exact (List.mem_filter.mp ((meets_iff.mp h).1 x hx)).2
    · intro x hx
      obtain ⟨n, hn, e⟩ := caseOf_all (fun x => !decide (x ∈ ks)) fs
      have h := q n hn
      have m : meets hs ks (fs.filter fun x => !decide (x ∈ ks)) = true := by
        rw [meets_iff]
        refine ⟨fun y hy => List.mem_filter.mpr ⟨h1 y hy, by rw [decide_eq_false (d y hy)]; rfl⟩, fun y hy hc => ?_⟩
        have := (List.mem_filter.mp hc).2
        rw [decide_eq_true hy] at this
        cases this
      rw [e, m, Bool.true_and] at h
      have h : meets gs ls (fs.filter fun x => !decide (x ∈ ks)) = true := by
        cases c : meets gs ls (fs.filter fun x => !decide (x ∈ ks)) with
        | true => rfl
        | false => rw [c] at h; cases h
      refine decide_eq_true (Classical.byContradiction fun nk => ?_)
      exact (meets_iff.mp h).2 x hx (List.mem_filter.mpr ⟨h2 x hx, by rw [decide_eq_false nk]; rfl⟩)
end Sc
namespace Sc
open PySem PySem.Spec PyProof.Rows L2
/-! ### rules of right parts -/
structure NdOk (n : Nd) : Prop where
  nm : isName n.nm = true
  rl : isName n.rl = true
  c1 : firstWrong n.hs [] = none
  c2 : firstWrong n.fs n.hs = none
theorem name_len {x : Str} (h : isName x = true) : x.length ≤ 8 := by
  unfold isName at h
  rw [Bool.and_eq_true, Bool.and_eq_true] at h
  exact of_decide_eq_true h.2.1
theorem fw_names {xs ys : List Str} (h : firstWrong xs ys = none) : ∀ x ∈ xs, isName x = true := by
  intro x hx
  obtain ⟨i, hi, rfl⟩ := List.getElem_of_mem hx
  have := (wrongs_none h i hi).1.1
  rw [Bool.or_eq_false_iff] at this
  exact (Bool.not_eq_false' _).mp this.1
theorem fw_txts {xs ys : List Str} (h : firstWrong xs ys = none) : Txts xs := fun x hx => Nat.le_trans (name_len (fw_names h x hx)) (by decide)
theorem NdOk.len {n : Nd} (h : NdOk n) : n.hs.length ≤ 8 ∧ n.fs.length ≤ 8 := by
  have h1 := fw_len h.c1
  have h2 := fw_len h.c2
  simp only [List.length_nil] at h1
  omega
theorem fit_of {f : RF} (h : f.every NdOk) : f.Fit := fun q hq => by
  have := (RF.every_pre h q hq).len
  omega
theorem name_fine {x : Str} (h : isName x = true) : Fine x := by
  refine ⟨Nat.le_trans (name_len h) (by decide), ?_⟩
  unfold isName isLetters at h
  rw [Bool.and_eq_true, Bool.and_eq_true, List.all_eq_true] at h
  have hL : PyData.strOk letters = true := by decide +kernel
  show PyData.strOk x = true
  unfold PyData.strOk at hL ⊢
  rw [Array.all_eq_true'] at hL ⊢
  intro c hc
  exact hL c (by rw [← Array.mem_toList_iff]; exact of_decide_eq_true (h.2.2 c (by rw [Array.mem_toList_iff]; exact hc)))
theorem fw_fines {xs ys : List Str} (h : firstWrong xs ys = none) : Fines xs := fun x hx => name_fine (fw_names h x hx)
/-- names in their order -/
structure Right (xs : List Str) : Prop where
  up : xs.Pairwise SLt
  nm : ∀ x ∈ xs, isName x = true
theorem Right.sub {xs ys : List Str} (h : Right ys) (s : List.Sublist xs ys) : Right xs := ⟨h.up.sublist s, fun x hx => h.nm x (s.subset hx)⟩
theorem Right.nodup {xs : List Str} (h : Right xs) : xs.Nodup := h.up.imp fun {a b} hl e => by subst e; exact List.lt_irrefl _ hl
theorem Right.fines {xs : List Str} (h : Right xs) : Fines xs := fun x hx => name_fine (h.nm x hx)
theorem Right.none {xs ys : List Str} (h : Right xs) (l : ys.length + xs.length ≤ 8) (d : ∀ x ∈ xs, ¬ x ∈ ys) : firstWrong xs ys = none := by
  unfold firstWrong
  rw [List.find?_eq_none]
  intro i hi
  have hi := List.mem_range.mp hi
  unfold wrongAt
  rw [List.getElem?_eq_getElem hi]
  dsimp only
  rw [h.nm _ (List.getElem_mem hi), rises_pw h.up hi, decide_eq_false (show ¬ 8 ≤ ys.length + i by omega), decide_eq_false (d _ (List.getElem_mem hi))]
  exact Bool.false_ne_true
theorem Right.bad {xs : List Str} (g : Right xs) (h0 : xs ≠ []) (h1 : xs.length ≤ 60) : firstBad xs = Option.none := by
  unfold firstBad
  rw [if_neg h0, List.find?_eq_none]
  intro i hi
  have hi := List.mem_range.mp hi
  unfold badAt
  rw [List.getElem?_eq_getElem hi]
  dsimp only
  rw [g.nm _ (List.getElem_mem hi), rises_pw g.up hi, decide_eq_false (show ¬ i = 60 by omega)]
  exact Bool.false_ne_true
/-- a row of distinct names, sorted -/
theorem right_of {xs zs : List Str} (p : zs.Perm xs) (s : sortedS zs = true) (nd : xs.Nodup) (nm : ∀ x ∈ xs, isName x = true) : Right zs :=
  ⟨((sorted_pw s).and (p.nodup_iff.mpr nd)).imp fun h => lt_of h.1 h.2, fun x hx => nm x (p.mem_iff.mp hx)⟩
end Sc
namespace Sc
open PySem PySem.Spec PyProof.Rows L2
/-! ### rows of rules that are edited -/
def RF.path (nm : Str) : RF → List Nd
  | .nil => []
  | .cons n hs fs rl exc rest => if n = nm then [⟨n, hs, fs, rl, exc⟩] else if RF.path nm exc = [] then RF.path nm rest else ⟨n, hs, fs, rl, exc⟩ :: RF.path nm exc
theorem RF.path_no {nm : Str} : ∀ {f : RF}, ¬ nm ∈ f.names → f.path nm = []
  | .nil, _ => rfl
  | .cons n hs fs rl exc rest, h => by
    rw [← RF.pre_names _ 0] at h
    have e : ((RF.cons n hs fs rl exc rest).pre 0).map (fun p => p.1.nm) = n :: (exc.names ++ rest.names) := by
      show n :: ((exc.pre 1 ++ rest.pre 0).map _) = _
      rw [List.map_append, RF.pre_names, RF.pre_names]
    rw [e] at h
    have h1 : ¬ n = nm := fun z => h (by rw [z]; exact List.mem_cons_self)
    show (if n = nm then _ else if RF.path nm exc = [] then RF.path nm rest else _) = _
    rw [if_neg h1, if_pos (RF.path_no fun z => h (List.mem_cons_of_mem _ (List.mem_append_left _ z)))]
    exact RF.path_no fun z => h (List.mem_cons_of_mem _ (List.mem_append_right _ z))
/-- the same rule with other exceptions -/
def Nd.wE (n : Nd) (e : RF) : Nd := ⟨n.nm, n.hs, n.fs, n.rl, e⟩
namespace RF
theorem ext_nodes {f g : RF} (h : f.nodes = g.nodes) : f = g := by rw [← of_nodes f, h, of_nodes]
theorem names_cons {n : Str} {hs fs : List Str} {rl : Str} {exc rest : RF} : (RF.cons n hs fs rl exc rest).names = n :: (exc.names ++ rest.names) := by
  rw [← pre_names _ 0]
  show n :: ((exc.pre 1 ++ rest.pre 0).map _) = _
  rw [List.map_append, pre_names, pre_names]
theorem names_nil : RF.nil.names = [] := rfl
theorem names_flat : ∀ f : RF, f.names = f.nodes.flatMap fun n => n.nm :: n.exc.names
  | .nil => rfl
  | .cons n hs fs rl exc rest => by
    rw [names_cons, names_flat rest]
    rfl
theorem mem_names {f : RF} {x : Str} : x ∈ f.names ↔ ∃ n ∈ f.nodes, x = n.nm ∨ x ∈ n.exc.names := by
  rw [names_flat, List.mem_flatMap]
  simp only [List.mem_cons]
/-- others ahead of a row -/
def put : List Nd → RF → RF
  | [], f => f
  | n :: r, f => .cons n.nm n.hs n.fs n.rl n.exc (put r f)
theorem put_nodes : ∀ (os : List Nd) (f : RF), (put os f).nodes = os ++ f.nodes
  | [], _ => rfl
  | n :: r, f => by
    show n :: (put r f).nodes = _
    rw [put_nodes r f]
    rfl
theorem put_of (os ns : List Nd) : put os (ofNodes ns) = ofNodes (os ++ ns) := ext_nodes (by rw [put_nodes, nodes_of, nodes_of])
/-- a change at the rule of a name -/
def upd (nm : Str) (G : Nd → RF → RF) : RF → RF
  | .nil => .nil
  | .cons n hs fs rl exc rest => if n = nm then G ⟨n, hs, fs, rl, exc⟩ rest else .cons n hs fs rl (upd nm G exc) (upd nm G rest)
theorem upd_no {nm : Str} {G : Nd → RF → RF} : ∀ {f : RF}, ¬ nm ∈ f.names → upd nm G f = f
  | .nil, _ => rfl
  | .cons n hs fs rl exc rest, h => by
    rw [names_cons] at h
    show (if n = nm then _ else RF.cons n hs fs rl (upd nm G exc) (upd nm G rest)) = _
    rw [if_neg fun z => h (by rw [z]; exact List.mem_cons_self), upd_no fun z => h (List.mem_cons_of_mem _ (List.mem_append_left _ z)), upd_no fun z => h (List.mem_cons_of_mem _ (List.mem_append_right _ z))]
theorem upd_at {nm : Str} {G : Nd → RF → RF} : ∀ {f : RF} {k : Nat} {n : Nd}, f.nodes[k]? = some n → n.nm = nm → (∀ m ∈ f.nodes.take k, m.nm ≠ nm ∧ ¬ nm ∈ m.exc.names) → upd nm G f = put (f.nodes.take k) (G n (ofNodes (f.nodes.drop (k + 1))))
  | .nil, k, n, h, _, _ => by cases k <;> cases h
  | .cons x hs fs rl exc rest, 0, n, h, e, _ => by
    cases h
    show (if x = nm then _ else _) = G ⟨x, hs, fs, rl, exc⟩ (ofNodes rest.nodes)
    rw [if_pos e, of_nodes]
  | .cons x hs fs rl exc rest, k + 1, n, h, e, off => by
    have h0 := off ⟨x, hs, fs, rl, exc⟩ List.mem_cons_self
    show (if x = nm then _ else RF.cons x hs fs rl (upd nm G exc) (upd nm G rest)) = _
    rw [if_neg h0.1, upd_no h0.2, upd_at (f := rest) (k := k) h e fun m hm => off m (List.mem_cons_of_mem _ hm)]
    rfl
theorem upd_map {nm : Str} {G : Nd → RF → RF} : ∀ {f : RF}, (∀ n ∈ f.nodes, n.nm ≠ nm) → (upd nm G f).nodes = f.nodes.map fun n => n.wE (upd nm G n.exc)
  | .nil, _ => rfl
  | .cons x hs fs rl exc rest, h => by
    show (if x = nm then G _ _ else RF.cons x hs fs rl (upd nm G exc) (upd nm G rest)).nodes = _
    rw [if_neg (h _ List.mem_cons_self)]
    show _ :: (upd nm G rest).nodes = _
    rw [upd_map (f := rest) fun m hm => h m (List.mem_cons_of_mem _ hm)]
    rfl
/-- others in the place of the rules of a name, as the program does it -/
def repl (nm : Str) (os : List Nd) : RF → RF
  | .nil => .nil
  | .cons n hs fs rl exc rest => if n = nm then put os (repl nm os rest) else .cons n hs fs rl (repl nm os exc) (repl nm os rest)
def replL (nm : Str) (os : List Nd) (ns : List Nd) : List Nd := ns.flatMap fun n => if n.nm = nm then os else [n.wE (repl nm os n.exc)]
theorem repl_nodes {nm : Str} {os : List Nd} : ∀ f : RF, (repl nm os f).nodes = replL nm os f.nodes
  | .nil => rfl
  | .cons n hs fs rl exc rest => by
    have ih := repl_nodes (nm := nm) (os := os) rest
    show (if n = nm then put os (repl nm os rest) else RF.cons n hs fs rl (repl nm os exc) (repl nm os rest)).nodes = (if n = nm then os else [Nd.wE ⟨n, hs, fs, rl, exc⟩ (repl nm os exc)]) ++ replL nm os rest.nodes
    by_cases e : n = nm
    · rw [if_pos e, if_pos e, put_nodes, ih]
    · rw [if_neg e, if_neg e, ← ih]
      rfl
theorem replL_more {nm : Str} {os : List Nd} {ns : List Nd} {i : Nat} {n : Nd} (h : ns[i]? = some n) : replL nm os (ns.take (i + 1)) = replL nm os (ns.take i) ++ (if n.nm = nm then os else [n.wE (repl nm os n.exc)]) := by
  unfold replL
  rw [take_more h, List.flatMap_append]
  simp
theorem repl_no {nm : Str} {os : List Nd} : ∀ {f : RF}, ¬ nm ∈ f.names → repl nm os f = f
  | .nil, _ => rfl
  | .cons n hs fs rl exc rest, h => by
    rw [names_cons] at h
    show (if n = nm then _ else RF.cons n hs fs rl (repl nm os exc) (repl nm os rest)) = _
    rw [if_neg fun z => h (by rw [z]; exact List.mem_cons_self), repl_no fun z => h (List.mem_cons_of_mem _ (List.mem_append_left _ z)), repl_no fun z => h (List.mem_cons_of_mem _ (List.mem_append_right _ z))]
theorem nodup_cons {n : Str} {hs fs : List Str} {rl : Str} {exc rest : RF} (h : (RF.cons n hs fs rl exc rest).names.Nodup) :
    ¬ n ∈ exc.names ∧ ¬ n ∈ rest.names ∧ exc.names.Nodup ∧ rest.names.Nodup ∧ ∀ x ∈ exc.names, ¬ x ∈ rest.names := by
  rw [names_cons, List.nodup_cons, List.nodup_append] at h
  obtain ⟨h1, h2, h3, h4⟩ := h
  exact ⟨fun z => h1 (List.mem_append_left _ z), fun z => h1 (List.mem_append_right _ z), h2, h3, fun x hx hy => h4 x hx x hy rfl⟩
theorem nodup_node : ∀ {f : RF}, f.names.Nodup → ∀ n ∈ f.nodes, n.exc.names.Nodup ∧ ¬ n.nm ∈ n.exc.names
  | .nil, _, _, hn => nomatch hn
  | .cons x hs fs rl exc rest, h, n, hn => by
    obtain ⟨h1, h2, h3, h4, h5⟩ := nodup_cons h
    rcases List.mem_cons.mp hn with rfl | hn
    · exact ⟨h3, h1⟩
    · exact nodup_node h4 n hn
theorem repl_upd {nm : Str} {os : List Nd} : ∀ {f : RF}, f.names.Nodup → repl nm os f = upd nm (fun _ rest => put os rest) f
  | .nil, _ => rfl
  | .cons n hs fs rl exc rest, h => by
    obtain ⟨h1, h2, h3, h4, h5⟩ := nodup_cons h
    show (if n = nm then put os (repl nm os rest) else RF.cons n hs fs rl (repl nm os exc) (repl nm os rest)) = (if n = nm then put os rest else RF.cons n hs fs rl (upd nm _ exc) (upd nm _ rest))
    by_cases e : n = nm
    · subst e
      rw [if_pos rfl, if_pos rfl, repl_no h2]
    · rw [if_neg e, if_neg e, repl_upd h3, repl_upd h4]
theorem find_nil {nm : Str} : RF.nil.find nm = none := rfl
theorem pre_fst' : ∀ (f : RF) (k j : Nat), (f.pre k).map (fun q => q.1) = (f.pre j).map fun q => q.1
  | .nil, _, _ => rfl
  | .cons nm hs fs rl exc rest, k, j => by
    show _ :: (exc.pre (k + 1) ++ rest.pre k).map _ = _ :: (exc.pre (j + 1) ++ rest.pre j).map _
    rw [List.map_append, List.map_append, pre_fst' exc (k + 1) (j + 1), pre_fst' rest k j]
theorem find_cons {n nm : Str} {hs fs : List Str} {rl : Str} {exc rest : RF} : (RF.cons n hs fs rl exc rest).find nm = if n = nm then some ⟨n, hs, fs, rl, exc⟩ else (exc.find nm).or (rest.find nm) := by
  unfold find
  show (_ :: (exc.pre 1 ++ rest.pre 0).map _).find? _ = _
  rw [List.find?_cons]
  by_cases e : n = nm
  · rw [if_pos e]
    dsimp only
    rw [decide_eq_true e]
  · rw [if_neg e]
    dsimp only
    rw [decide_eq_false e, List.map_append, List.find?_append, pre_fst' exc 1 0]
theorem find_none {nm : Str} : ∀ {f : RF}, ¬ nm ∈ f.names → f.find nm = none
  | .nil, _ => rfl
  | .cons n hs fs rl exc rest, h => by
    rw [names_cons] at h
    rw [find_cons, if_neg fun z => h (by rw [z]; exact List.mem_cons_self), find_none fun z => h (List.mem_cons_of_mem _ (List.mem_append_left _ z)), find_none fun z => h (List.mem_cons_of_mem _ (List.mem_append_right _ z))]
    rfl
theorem find_some {nm : Str} : ∀ {f : RF}, nm ∈ f.names → ∃ n, f.find nm = some n ∧ n.nm = nm
  | .nil, h => nomatch h
  | .cons n hs fs rl exc rest, h => by
    rw [find_cons]
    by_cases e : n = nm
    · rw [if_pos e]
      exact ⟨_, rfl, e⟩
    · rw [if_neg e]
      by_cases c : nm ∈ exc.names
      · obtain ⟨m, h1, h2⟩ := find_some c
        rw [h1]
        exact ⟨m, rfl, h2⟩
      · rw [names_cons] at h
        have hr : nm ∈ rest.names := by
          rcases List.mem_cons.mp h with h | h
          · exact absurd h.symm e
          · rcases List.mem_append.mp h with h | h
            · exact absurd h c
            · exact h
        rw [find_none c]
        exact find_some hr
/-- a change leans on the one rule of that name -/
theorem upd_find {nm : Str} {G G' : Nd → RF → RF} {n0 : Nd} (g : G n0 = G' n0) : ∀ {f : RF}, f.names.Nodup → (nm ∈ f.names → f.find nm = some n0) → upd nm G f = upd nm G' f
  | .nil, _, _ => rfl
  | .cons n hs fs rl exc rest, h, hf => by
    obtain ⟨h1, h2, h3, h4, h5⟩ := nodup_cons h
    rw [find_cons, names_cons] at hf
    show (if n = nm then G _ _ else RF.cons n hs fs rl (upd nm G exc) (upd nm G rest)) = (if n = nm then G' _ _ else RF.cons n hs fs rl (upd nm G' exc) (upd nm G' rest))
    by_cases e : n = nm
    · rw [if_pos e, if_pos e]
      rw [if_pos e] at hf
      rw [Option.some.inj (hf (by rw [e]; exact List.mem_cons_self)), g]
    · rw [if_neg e, if_neg e]
      rw [if_neg e] at hf
      rw [upd_find g h3 (fun c => ?_), upd_find g h4 (fun c => ?_)]
      · have hc : ¬ nm ∈ exc.names := fun z => h5 _ z c
        have hf := hf (List.mem_cons_of_mem _ (List.mem_append_right _ c))
        rw [find_none hc] at hf
        exact hf
      · have hf := hf (List.mem_cons_of_mem _ (List.mem_append_left _ c))
        obtain ⟨m, e1, _⟩ := find_some c
        rw [e1] at hf
        rw [e1]
        exact hf
end RF
/-- what an amendment makes of a rule -/
inductive Op where
  | strike
  | swap
  | before (m : Nd)
  | add (m : Nd)
  | ruling (s : Str)
  | cond (hs fs : List Str)
def Op.news : Op → Nd → List Nd
  | .strike, _ => []
  | .swap, n => [n]
  | .before m, n => [m, n]
  | .add m, n => [n.wE (n.exc.snoc m)]
  | .ruling s, n => [⟨n.nm, n.hs, n.fs, s, n.exc⟩]
  | .cond hs fs, n => [⟨n.nm, hs, fs, n.rl, n.exc⟩]
def swapG (n : Nd) : RF → RF
  | .nil => RF.put [n] .nil
  | .cons a b c d e r => .cons a b c d e (RF.put [n] r)
def Op.G : Op → Nd → RF → RF
  | .swap, n, rest => swapG n rest
  | op, n, rest => RF.put (op.news n) rest
namespace RF
/-- the rule directly behind, beside it -/
def nxt (nm : Str) : RF → Option Nd
  | .nil => none
  | .cons n hs fs rl exc rest => if n = nm then rest.nodes.head? else if nm ∈ exc.names then nxt nm exc else nxt nm rest
theorem nxt_mem {nm : Str} : ∀ {f : RF} {b : Nd}, nxt nm f = some b → b.nm ∈ f.names
  | .nil, b, h => nomatch h
  | .cons n hs fs rl exc rest, b, h => by
    unfold nxt at h
    rw [names_cons]
    by_cases e : n = nm
    · rw [if_pos e] at h
      have hb : b ∈ rest.nodes := List.mem_of_mem_head? h
      exact List.mem_cons_of_mem _ (List.mem_append_right _ (mem_names.mpr ⟨b, hb, .inl rfl⟩))
    · rw [if_neg e] at h
      by_cases c : nm ∈ exc.names
      · rw [if_pos c] at h
        exact List.mem_cons_of_mem _ (List.mem_append_left _ (nxt_mem h))
      · rw [if_neg c] at h
        exact List.mem_cons_of_mem _ (List.mem_append_right _ (nxt_mem h))
/-- out of its place, and then in again, ahead of the other -/
theorem swap_two {nm : Str} {b n0 : Nd} : ∀ {f : RF}, f.names.Nodup → nm ∈ f.names → nxt nm f = some b → f.find nm = some n0 → upd nm (fun _ rest => put [b, n0] rest) (upd b.nm (fun _ rest => rest) f) = upd nm swapG f
  | .nil, _, h, _, _ => nomatch h
  | .cons n hs fs rl exc rest, h, hm, hx, hf => by
    obtain ⟨h1, h2, h3, h4, h5⟩ := nodup_cons h
    unfold nxt at hx
    rw [find_cons] at hf
    by_cases e : n = nm
    · subst e
      rw [if_pos rfl] at hx hf
      cases hf
      cases rest with
      | nil => exact nomatch hx
      | cons a g c d ex r =>
        cases hx
        have na : ¬ n = a := fun z => h2 (by rw [names_cons, z]; exact List.mem_cons_self)
        have ne : ¬ a ∈ exc.names := fun z => h5 _ z (by rw [names_cons]; exact List.mem_cons_self)
        show upd n _ (if n = a then _ else RF.cons n hs fs rl (upd a _ exc) (if a = a then r else _)) = (if n = n then _ else _)
        rw [if_neg na, if_pos rfl, if_pos rfl, upd_no ne]
        show (if n = n then _ else _) = _
        rw [if_pos rfl]
        rfl
    · rw [if_neg e] at hx hf
      by_cases c : nm ∈ exc.names
      · rw [if_pos c] at hx
        have hb := nxt_mem hx
        have nb : ¬ n = b.nm := fun z => h1 (by rw [z]; exact hb)
        have nr : ¬ b.nm ∈ rest.names := h5 _ hb
        have nr2 : ¬ nm ∈ rest.names := h5 _ c
        obtain ⟨m, e1, _⟩ := find_some c
        rw [e1] at hf
        have hf : exc.find nm = some n0 := by rw [e1]; exact hf
        show upd nm _ (if n = b.nm then _ else RF.cons n hs fs rl (upd b.nm _ exc) (upd b.nm _ rest)) = (if n = nm then _ else RF.cons n hs fs rl (upd nm swapG exc) (upd nm swapG rest))
        rw [if_neg nb, if_neg e, upd_no nr, upd_no (G := swapG) nr2, ← swap_two h3 c hx hf]
        show (if n = nm then _ else RF.cons n hs fs rl (upd nm _ _) (upd nm _ rest)) = _
        rw [if_neg e, upd_no (G := fun _ rest => put [b, n0] rest) nr2]
      · rw [if_neg c] at hx
        rw [find_none c] at hf
        have hb := nxt_mem hx
        have nb : ¬ n = b.nm := fun z => h2 (by rw [z]; exact hb)
        have ne : ¬ b.nm ∈ exc.names := fun z => h5 _ z hb
        have hr : nm ∈ rest.names := by
          rw [names_cons] at hm
          rcases List.mem_cons.mp hm with z | z
          · exact absurd z.symm e
          · rcases List.mem_append.mp z with z | z
            · exact absurd z c
            · exact z
        show upd nm _ (if n = b.nm then _ else RF.cons n hs fs rl (upd b.nm _ exc) (upd b.nm _ rest)) = (if n = nm then _ else RF.cons n hs fs rl (upd nm swapG exc) (upd nm swapG rest))
        rw [if_neg nb, if_neg e, upd_no ne, upd_no (G := swapG) c, ← swap_two h4 hr hx hf]
        show (if n = nm then _ else RF.cons n hs fs rl (upd nm _ exc) (upd nm _ _)) = _
        rw [if_neg e, upd_no (G := fun _ rest => put [b, n0] rest) c]
end RF
end Sc
namespace Sc
open PySem PySem.Spec PyProof.Rows L2
namespace RF
/-! ### how large, how deep, of which names -/
theorem put_size : ∀ (os : List Nd) (f : RF), (put os f).size = (ofNodes os).size + f.size
  | [], f => by show f.size = 0 + f.size; omega
  | n :: r, f => by
    show n.exc.size + 1 + (put r f).size = n.exc.size + 1 + (ofNodes r).size + f.size
    rw [put_size r f]
    omega
theorem put_dep : ∀ (os : List Nd) (f : RF), (put os f).dep = max (ofNodes os).dep f.dep
  | [], f => by show f.dep = max 0 f.dep; omega
  | n :: r, f => by
    show max (n.exc.dep + 1) (put r f).dep = max (max (n.exc.dep + 1) (ofNodes r).dep) f.dep
    rw [put_dep r f]
    omega
theorem put_every {p : Nd → Prop} {os : List Nd} {f : RF} (h : ∀ n ∈ os, p n ∧ n.exc.every p) (k : f.every p) : (put os f).every p := every_nodes.mpr fun n hn => by
  rw [put_nodes] at hn
  rcases List.mem_append.mp hn with hn | hn
  · exact h n hn
  · exact every_nodes.mp k n hn
theorem put_names (os : List Nd) (f : RF) : (put os f).names = (ofNodes os).names ++ f.names := by
  rw [names_flat, put_nodes, List.flatMap_append, ← names_flat, names_flat (ofNodes os), nodes_of]
theorem upd_size {nm : Str} {G : Nd → RF → RF} {e : Nat} (g : ∀ n rest, (G n rest).size ≤ n.exc.size + 1 + rest.size + e) : ∀ {f : RF}, f.names.Nodup → (upd nm G f).size ≤ f.size + e
  | .nil, _ => Nat.zero_le _
  | .cons n hs fs rl exc rest, h => by
    obtain ⟨h1, h2, h3, h4, h5⟩ := nodup_cons h
    show (if n = nm then G _ _ else RF.cons n hs fs rl (upd nm G exc) (upd nm G rest)).size ≤ exc.size + 1 + rest.size + e
    by_cases c : n = nm
    · rw [if_pos c]
      exact g _ _
    · rw [if_neg c]
      show (upd nm G exc).size + 1 + (upd nm G rest).size ≤ _
      by_cases d : nm ∈ exc.names
      · rw [upd_no (h5 _ d)]
        have := upd_size (nm := nm) g h3
        omega
      · rw [upd_no d]
        have := upd_size (nm := nm) g h4
        omega
theorem upd_dep {nm : Str} {G : Nd → RF → RF} {e : Nat} (g : ∀ n rest, (G n rest).dep ≤ max (n.exc.dep + 1) rest.dep + e) : ∀ {f : RF}, (upd nm G f).dep ≤ f.dep + e
  | .nil => Nat.zero_le _
  | .cons n hs fs rl exc rest => by
    show (if n = nm then G _ _ else RF.cons n hs fs rl (upd nm G exc) (upd nm G rest)).dep ≤ max (exc.dep + 1) rest.dep + e
    by_cases c : n = nm
    · rw [if_pos c]
      exact g _ _
    · rw [if_neg c]
      show max ((upd nm G exc).dep + 1) (upd nm G rest).dep ≤ _
      have h1 := upd_dep (nm := nm) (f := exc) g
      have h2 := upd_dep (nm := nm) (f := rest) g
      omega
theorem upd_every {nm : Str} {G : Nd → RF → RF} {p : Nd → Prop} (hp : ∀ n e, p n → p (n.wE e)) (g : ∀ n rest, p n → n.exc.every p → rest.every p → (G n rest).every p) : ∀ {f : RF}, f.every p → (upd nm G f).every p
  | .nil, _ => trivial
  | .cons n hs fs rl exc rest, h => by
    obtain ⟨h1, h2, h3⟩ := h
    show (if n = nm then G _ _ else RF.cons n hs fs rl (upd nm G exc) (upd nm G rest)).every p
    by_cases c : n = nm
    · rw [if_pos c]
      exact g _ _ h1 h2 h3
    · rw [if_neg c]
      exact ⟨hp _ _ h1, upd_every hp g h2, upd_every hp g h3⟩
theorem upd_names {nm : Str} {G : Nd → RF → RF} (g : ∀ n rest, (n.nm :: (n.exc.names ++ rest.names)).Nodup → (G n rest).names.Nodup ∧ ∀ x ∈ (G n rest).names, x ∈ n.nm :: (n.exc.names ++ rest.names)) : ∀ {f : RF}, f.names.Nodup → (upd nm G f).names.Nodup ∧ ∀ x ∈ (upd nm G f).names, x ∈ f.names
  | .nil, _ => ⟨.nil, fun _ h => h⟩
  | .cons n hs fs rl exc rest, h => by
    obtain ⟨h1, h2, h3, h4, h5⟩ := nodup_cons h
    show (if n = nm then G _ _ else RF.cons n hs fs rl (upd nm G exc) (upd nm G rest)).names.Nodup ∧ ∀ x ∈ (if n = nm then G _ _ else RF.cons n hs fs rl (upd nm G exc) (upd nm G rest)).names, x ∈ _
    by_cases c : n = nm
    · rw [if_pos c, names_cons]
      rw [names_cons] at h
      exact g ⟨n, hs, fs, rl, exc⟩ rest h
    · rw [if_neg c, names_cons, names_cons]
      obtain ⟨a1, a2⟩ := upd_names (nm := nm) g h3
      obtain ⟨b1, b2⟩ := upd_names (nm := nm) g h4
      refine ⟨List.nodup_cons.mpr ⟨fun z => ?_, List.nodup_append.mpr ⟨a1, b1, fun x hx y hy e => ?_⟩⟩, fun x hx => ?_⟩
      · rcases List.mem_append.mp z with z | z
        · exact h1 (a2 _ z)
        · exact h2 (b2 _ z)
      · subst e
        exact h5 x (a2 _ hx) (b2 _ hy)
      · rcases List.mem_cons.mp hx with rfl | hx
        · exact List.mem_cons_self
        · refine List.mem_cons_of_mem _ ?_
          rcases List.mem_append.mp hx with hx | hx
          · exact List.mem_append_left _ (a2 _ hx)
          · exact List.mem_append_right _ (b2 _ hx)
/-! ### where a rule stands -/
/-- the row in which a rule stands -/
def rowIn (nm : Str) (top : RF) : RF → RF
  | .nil => top
  | .cons n hs fs rl exc rest => if n = nm then top else if nm ∈ exc.names then rowIn nm exc exc else rowIn nm top rest
theorem path_some {nm : Str} : ∀ {f : RF}, nm ∈ f.names → f.path nm ≠ []
  | .nil, h => nomatch h
  | .cons n hs fs rl exc rest, h => by
    show (if n = nm then _ else if RF.path nm exc = [] then RF.path nm rest else _) ≠ []
    by_cases e : n = nm
    · rw [if_pos e]
      exact List.cons_ne_nil _ _
    · rw [if_neg e]
      by_cases c : RF.path nm exc = []
      · rw [if_pos c]
        refine path_some ?_
        rw [names_cons] at h
        rcases List.mem_cons.mp h with z | z
        · exact absurd z.symm e
        · rcases List.mem_append.mp z with z | z
          · exact absurd c (path_some z)
          · exact z
      · rw [if_neg c]
        exact List.cons_ne_nil _ _
theorem path_row {nm : Str} : ∀ {f : RF} (top : RF), nm ∈ f.names → (((f.path nm).length = 1 ∧ rowIn nm top f = top) ∨ ∃ q, (f.path nm)[(f.path nm).length - 2]? = some q ∧ 2 ≤ (f.path nm).length ∧ rowIn nm top f = q.exc)
  | .nil, _, h => nomatch h
  | .cons n hs fs rl exc rest, top, h => by
    have e0 : RF.path nm (RF.cons n hs fs rl exc rest) = (if n = nm then [⟨n, hs, fs, rl, exc⟩] else if RF.path nm exc = [] then RF.path nm rest else ⟨n, hs, fs, rl, exc⟩ :: RF.path nm exc) := rfl
    have e1 : rowIn nm top (RF.cons n hs fs rl exc rest) = (if n = nm then top else if nm ∈ exc.names then rowIn nm exc exc else rowIn nm top rest) := rfl
    rw [e0, e1]
    by_cases e : n = nm
    · rw [if_pos e, if_pos e]
      exact .inl ⟨rfl, rfl⟩
    · rw [if_neg e, if_neg e]
      by_cases c : nm ∈ exc.names
      · rw [if_neg (path_some c), if_pos c]
        refine .inr ?_
        rcases path_row exc c with ⟨h1, h2⟩ | ⟨q, h1, h2, h3⟩
        · refine ⟨⟨n, hs, fs, rl, exc⟩, ?_, by rw [List.length_cons]; omega, h2⟩
          rw [List.length_cons, h1]
          rfl
        · refine ⟨q, ?_, by rw [List.length_cons]; omega, h3⟩
          rw [List.length_cons, ← h1]
          show (_ :: RF.path nm exc)[(RF.path nm exc).length + 1 - 2]? = _
          rw [show (RF.path nm exc).length + 1 - 2 = (RF.path nm exc).length - 2 + 1 by omega]
          rfl
      · rw [if_pos (path_no c), if_neg c]
        refine path_row top ?_
        rw [names_cons] at h
        rcases List.mem_cons.mp h with z | z
        · exact absurd z.symm e
        · rcases List.mem_append.mp z with z | z
          · exact absurd z c
          · exact z
/-- how many stand beside the rule, and its place there -/
def besL (nm : Str) (m : Nat) : Nat → RF → Option (Nat × Nat)
  | _, .nil => none
  | k, .cons n hs fs rl exc rest => if n = nm then some (m, k) else match besL nm exc.nodes.length 0 exc with
    | some r => some r
    | none => besL nm m (k + 1) rest
def bes (nm : Str) (f : RF) : Option (Nat × Nat) := besL nm f.nodes.length 0 f
theorem besL_none {nm : Str} {m : Nat} : ∀ {f : RF} {k : Nat}, ¬ nm ∈ f.names → besL nm m k f = none
  | .nil, _, _ => rfl
  | .cons n hs fs rl exc rest, k, h => by
    rw [names_cons] at h
    show (if n = nm then _ else match besL nm exc.nodes.length 0 exc with | some r => some r | none => besL nm m (k + 1) rest) = _
    rw [if_neg fun z => h (by rw [z]; exact List.mem_cons_self), besL_none (f := exc) fun z => h (List.mem_cons_of_mem _ (List.mem_append_left _ z))]
    exact besL_none fun z => h (List.mem_cons_of_mem _ (List.mem_append_right _ z))
theorem row_at {nm : Str} : ∀ {f : RF} {top : RF} {pre : List Nd}, nm ∈ f.names → top.nodes = pre ++ f.nodes → (∀ p ∈ pre, p.nm ≠ nm) →
    ∃ (k : Nat) (n : Nd), besL nm top.nodes.length pre.length f = some ((rowIn nm top f).nodes.length, k) ∧ (rowIn nm top f).nodes[k]? = some n ∧ n.nm = nm ∧ (∀ (j : Nat) (p : Nd), j < k → (rowIn nm top f).nodes[j]? = some p → p.nm ≠ nm) ∧ nxt nm f = (rowIn nm top f).nodes[k + 1]?
  | .nil, _, _, h, _, _ => nomatch h
  | .cons n hs fs rl exc rest, top, pre, h, ht, hp => by
    have e1 : rowIn nm top (RF.cons n hs fs rl exc rest) = (if n = nm then top else if nm ∈ exc.names then rowIn nm exc exc else rowIn nm top rest) := rfl
    have e2 : besL nm top.nodes.length pre.length (RF.cons n hs fs rl exc rest) = (if n = nm then some (top.nodes.length, pre.length) else match besL nm exc.nodes.length 0 exc with | some r => some r | none => besL nm top.nodes.length (pre.length + 1) rest) := rfl
    have e3 : nxt nm (RF.cons n hs fs rl exc rest) = (if n = nm then rest.nodes.head? else if nm ∈ exc.names then nxt nm exc else nxt nm rest) := rfl
    rw [e1, e2, e3]
    by_cases e : n = nm
    · rw [if_pos e, if_pos e, if_pos e]
      refine ⟨pre.length, ⟨n, hs, fs, rl, exc⟩, rfl, ?_, e, fun j p hj hpj => ?_, ?_⟩
      · rw [ht, List.getElem?_append_right (Nat.le_refl _), Nat.sub_self]
        rfl
      · rw [ht, List.getElem?_append_left hj] at hpj
        exact hp p (List.mem_of_getElem? hpj)
      · rw [ht, List.getElem?_append_right (Nat.le_succ _), show pre.length + 1 - pre.length = 1 by omega]
        show rest.nodes.head? = rest.nodes[0]?
        cases rest.nodes <;> rfl
    · rw [if_neg e, if_neg e, if_neg e]
      by_cases c : nm ∈ exc.names
      · rw [if_pos c, if_pos c]
        obtain ⟨k, m, h1, h2, h3, h4, h5⟩ := row_at (f := exc) (top := exc) (pre := []) c rfl (fun _ h => nomatch h)
        have h1 : besL nm exc.nodes.length 0 exc = _ := h1
        rw [h1]
        exact ⟨k, m, rfl, h2, h3, h4, h5⟩
      · rw [if_neg c, if_neg c, besL_none (f := exc) c]
        have hr : nm ∈ rest.names := by
          rw [names_cons] at h
          rcases List.mem_cons.mp h with z | z
          · exact absurd z.symm e
          · rcases List.mem_append.mp z with z | z
            · exact absurd z c
            · exact z
        obtain ⟨k, m, h1, h2, h3, h4, h5⟩ := row_at (f := rest) (top := top) (pre := pre ++ [⟨n, hs, fs, rl, exc⟩]) hr (by rw [ht, List.append_assoc]; rfl) (fun p hpp => by
          rcases List.mem_append.mp hpp with z | z
          · exact hp p z
          · rw [List.mem_singleton.mp z]
            exact e)
        rw [List.length_append] at h1
        exact ⟨k, m, h1, h2, h3, h4, h5⟩
/-- beside, and the one behind -/
theorem bes_nxt {nm : Str} {f : RF} (h : nm ∈ f.names) : ∃ m k, bes nm f = some (m, k) ∧ k < m ∧ (nxt nm f = none ↔ k + 1 = m) := by
  obtain ⟨k, n, h1, h2, h3, h4, h5⟩ := row_at (f := f) (top := f) (pre := []) h rfl (fun _ h => nomatch h)
  have hk : k < (rowIn nm f f).nodes.length := by
    by_cases c : k < (rowIn nm f f).nodes.length
    · exact c
    · rw [List.getElem?_eq_none (by omega)] at h2
      cases h2
  refine ⟨_, k, h1, hk, ?_⟩
  rw [h5, List.getElem?_eq_none_iff]
  omega
/-- in the exceptions of a rule beside none of that name -/
theorem nxt_in {nm : Str} : ∀ {f : RF}, f.names.Nodup → (∀ n ∈ f.nodes, n.nm ≠ nm) → ∀ n ∈ f.nodes, nm ∈ n.exc.names → nxt nm f = nxt nm n.exc
  | .nil, _, _, _, h, _ => nomatch h
  | .cons x hs fs rl exc rest, h, hne, n, hn, hm => by
    obtain ⟨h1, h2, h3, h4, h5⟩ := nodup_cons h
    show (if x = nm then _ else if nm ∈ exc.names then nxt nm exc else nxt nm rest) = _
    rw [if_neg (hne _ List.mem_cons_self)]
    rcases List.mem_cons.mp hn with rfl | hn
    · rw [if_pos hm]
    · have hr : nm ∈ rest.names := mem_names.mpr ⟨n, hn, .inr hm⟩
      rw [if_neg fun z => h5 _ z hr]
      exact nxt_in h4 (fun m hm => hne m (List.mem_cons_of_mem _ hm)) n hn hm
/-- at its place in the row -/
theorem nxt_here {nm : Str} : ∀ {f : RF} {k : Nat} {n : Nd}, f.nodes[k]? = some n → n.nm = nm → (∀ m ∈ f.nodes.take k, m.nm ≠ nm ∧ ¬ nm ∈ m.exc.names) → nxt nm f = f.nodes[k + 1]?
  | .nil, k, n, h, _, _ => by cases k <;> cases h
  | .cons x hs fs rl exc rest, 0, n, h, e, _ => by
    cases h
    show (if x = nm then rest.nodes.head? else _) = rest.nodes[0]?
    rw [if_pos e]
    cases rest.nodes <;> rfl
  | .cons x hs fs rl exc rest, k + 1, n, h, e, off => by
    have h0 := off ⟨x, hs, fs, rl, exc⟩ List.mem_cons_self
    show (if x = nm then _ else if nm ∈ exc.names then nxt nm exc else nxt nm rest) = _
    rw [if_neg h0.1, if_neg h0.2]
    exact nxt_here (f := rest) (k := k) h e fun m hm => off m (List.mem_cons_of_mem _ hm)
/-- ahead of a rule, beside it, its name stands nowhere -/
theorem ahead {nm : Str} : ∀ {f : RF} {k : Nat} {n : Nd}, f.names.Nodup → f.nodes[k]? = some n → n.nm = nm → ∀ m ∈ f.nodes.take k, m.nm ≠ nm ∧ ¬ nm ∈ m.exc.names
  | .nil, k, n, _, h, _ => by cases k <;> cases h
  | .cons x hs fs rl exc rest, 0, n, _, _, _ => fun m hm => nomatch hm
  | .cons x hs fs rl exc rest, k + 1, n, h, hn, e => fun m hm => by
    obtain ⟨h1, h2, h3, h4, h5⟩ := nodup_cons h
    have hr : nm ∈ rest.names := mem_names.mpr ⟨n, List.mem_of_getElem? (show rest.nodes[k]? = some n from hn), .inl e.symm⟩
    rcases List.mem_cons.mp hm with rfl | hm
    · exact ⟨fun z => h2 (by rw [show x = nm from z]; exact hr), fun z => h5 _ z hr⟩
    · exact ahead (f := rest) (k := k) h4 hn e m hm
theorem pre_dep' : ∀ {f : RF} {k D : Nat}, (∀ q ∈ f.pre k, q.2 ≤ D) → k ≤ D + 1 → f.dep + k ≤ D + 1
  | .nil, k, D, _, h => by show 0 + k ≤ _; omega
  | .cons n hs fs rl exc rest, k, D, h, hk => by
    show max (exc.dep + 1) rest.dep + k ≤ D + 1
    have h0 : k ≤ D := h _ List.mem_cons_self
    have h1 := pre_dep' (f := exc) (k := k + 1) (D := D) (fun q hq => h q (List.mem_cons_of_mem _ (List.mem_append_left _ hq))) (by omega)
    have h2 := pre_dep' (f := rest) (k := k) (D := D) (fun q hq => h q (List.mem_cons_of_mem _ (List.mem_append_right _ hq))) hk
    omega
end RF
/-! ### faults -/
theorem fault_none {xs : List Str} : ∀ {ps : List (Nd × Nat)} {met : List Str} {out i : Nat}, met.Nodup → firstFault xs ps met out i = none → (met ++ ps.map fun q => q.1.nm).Nodup ∧ ∀ q ∈ ps, q.2 ≤ 5
  | [], met, _, _, hm, _ => by
    rw [List.map_nil, List.append_nil]
    exact ⟨hm, fun _ h => nomatch h⟩
  | (n, k) :: r, met, out, i, hm, h => by
    unfold firstFault at h
    cases e : faultAt xs met (outNext out k) i n k with
    | some w => rw [e] at h; cases h
    | none =>
      rw [e] at h
      unfold faultAt at e
      split at e
      · cases e
      · rename_i hn
        split at e
        · cases e
        · split at e
          · cases e
          · rename_i hk
            obtain ⟨h1, h2⟩ := fault_none (ps := r) (met := met ++ [n.nm]) (List.nodup_append.mpr ⟨hm, List.pairwise_singleton _ _, fun y hy z hz e => by
              rw [List.mem_singleton.mp hz] at e
              subst e
              exact hn hy⟩) h
            refine ⟨?_, fun q hq => ?_⟩
            · rw [List.append_assoc] at h1
              exact h1
            · rcases List.mem_cons.mp hq with rfl | hq
              · show k ≤ 5
                omega
              · exact h2 q hq
theorem fault_step {xs met : List Str} {out i k : Nat} {n : Nd} {r : List (Nd × Nat)} (hc : ((srt (n.hs ++ n.fs)).any fun x => !decide (x ∈ xs)) = false) (hi : i < 60) (ho : out + 1 ≤ 40) :
    firstFault xs ((n, k) :: r) met out i = if n.nm ∈ met then some ((Str.ofString "name"), i) else if 5 < k then some ((Str.ofString "depth"), i) else firstFault xs r (met ++ [n.nm]) (outNext out k) (i + 1) := by
  have hon : outNext out k ≤ out + 1 := by unfold outNext; split <;> omega
  show (match faultAt xs met (outNext out k) i n k with | some w => some (w, i) | none => firstFault xs r (met ++ [n.nm]) (outNext out k) (i + 1)) = _
  unfold faultAt
  rw [hc]
  by_cases h1 : n.nm ∈ met
  · rw [if_pos h1, if_pos h1]
  · rw [if_neg h1, if_neg h1, if_neg Bool.false_ne_true]
    by_cases h2 : 5 < k
    · rw [if_pos h2, if_pos h2]
    · rw [if_neg h2, if_neg h2, if_neg (by omega)]
end Sc
namespace PySem.AutoSeq1
theorem list_extend_list_tuple_any (l : Addr) (items : Array Value) (n : Nat) (b : Addr) (items2 : Array Value) (n2 : Nat) (od : Option Addr) (os2 : Array (Option Value)) (hs0 : ¬(!items.isEmpty && Builtin.List.listTooLong (items.size + items2.size)) = true) (hs1 : items.size ≤ sizeLine) (hs2 : items.size + items2.size ≤ sizeLine + 1) :
    Meets (Builtin.«list.extend» ⟨[.ref l, .ref b], []⟩) (fun _ R s => s.heap.get? l = some { cls := .type "list", dict := none, data := .seq items n, slots := #[] } ∧ s.heap.get? b = some { cls := .type "tuple", dict := od, data := .seq items2 n2, slots := os2 } ∧ R (.ok (.ret Value.none)) { s with heap := s.heap.update l (Obj.mapSeq fun x => x ++ items2), toks := s.toks }) :=
  .of_wp fun prog w A R s h => by
    obtain ⟨hp, g, d, tk, os⟩ := s; obtain ⟨hl, hb, h⟩ := h; have f1 := idx_int; have f2 := sub_tuple_tuple; have f3 := sub_list_list; have f4 := sub_tuple_list; have f5 := sub_list_tuple;
    have hz' : (items ++ items2).size ≤ sizeLine + 1 := by rw [Array.size_append]; exact hs2
    wp_walk using (wpAny_updateSeq hl rfl (hz := hs1) (_hz' := hz')), wpAny_loadPart' hl, wpAny_loadPart' hb; exact ⟨_, rfl, h⟩
end PySem.AutoSeq1
namespace Sc
open PySem PySem.Spec PyProof.Rows L2
/-! ### xs.extend(t) of a tuple -/
def rExtendT (K : PySem.W.Frag) : V → List V → Hp → VK → Prop := fun x vs H Q => ∃ l b xs zs, x = .ref l ∧ vs = [.ref b] ∧ H l = some (.lst xs) ∧ SqT K H b zs ∧ xs.length + zs.length ≤ sizeLine ∧ Q .non (upd H l (.lst (xs ++ zs)))
theorem mt_extendT {X : Cx} : MtM X "list.extend" (rExtendT X.K) := by
  intro pins s σ H x vs v us Q I rx rv h
  obtain ⟨l, b, xs, zs, rfl, rfl, hH, hB, hz, q⟩ := h
  cases rx
  obtain ⟨u, rfl, ru⟩ := rv.one
  cases ru
  obtain ⟨z, its, n, r, hl, e⟩ := I.lstM hH
  obtain ⟨its2, r2, ⟨⟨oc, od, oda, os2⟩, e2, hc, n2, hd⟩, _⟩ := I.tuple hB
  cases hc
  cases hd
  have hl2 := r2.length
  have hsz : its.toArray.size + its2.toArray.size ≤ sizeLine := by rw [List.size_toArray, List.size_toArray]; omega
  have hlong : ¬ (!its.toArray.isEmpty && Builtin.List.listTooLong (its.toArray.size + its2.toArray.size)) = true := by
    rw [notLongL hsz, Bool.and_false]
    exact Bool.false_ne_true
  refine call_meets F.slot_list_extend ⟨_, e, rfl⟩ F.entry_list_extend (F.args_list_extend_2 _ _)
    (AutoSeq1.list_extend_list_tuple_any l its.toArray n b its2.toArray n2 od os2 hlong (by rw [List.size_toArray]; omega) (by omega)) ⟨e, e2, ?_⟩
  refine ⟨.non, _, I.lset (its' := its ++ its2) hH e (by simp) (r.append r2) ?_, rfl, q⟩
  rw [List.length_append]
  omega
end Sc
namespace Sc
open PySem PySem.Spec PyProof.Rows L2
theorem sc_replaced : FnScope ["rules", "name", "others", "made", "rule", "inner"] ["rules", "name", "others"] (defScope s_replaced) := ⟨rfl, rfl, rfl, by decide +kernel, rfl, by decide +kernel, by decide +kernel⟩
theorem RF.repl_size {nm : Str} {os : List Nd} {f : RF} (h : f.names.Nodup) : (RF.repl nm os f).size ≤ f.size + (RF.ofNodes os).size := by
  rw [RF.repl_upd h]
  refine RF.upd_size (fun n rest => ?_) h
  rw [RF.put_size]
  omega
theorem RF.repl_dep {nm : Str} {os : List Nd} {f : RF} (h : f.names.Nodup) : (RF.repl nm os f).dep ≤ f.dep + (RF.ofNodes os).dep := by
  rw [RF.repl_upd h]
  refine RF.upd_dep (fun n rest => ?_)
  rw [RF.put_dep]
  omega
theorem RF.replL_le {nm : Str} {os : List Nd} {f : RF} {i : Nat} : (RF.replL nm os (f.nodes.take i)).length ≤ (RF.repl nm os f).size := by
  refine Nat.le_trans ?_ (RF.nodes_le _)
  rw [RF.repl_nodes]
  have e : RF.replL nm os f.nodes = RF.replL nm os (f.nodes.take i) ++ RF.replL nm os (f.nodes.drop i) := by
    unfold RF.replL
    rw [← List.flatMap_append, List.take_append_drop]
  rw [e, List.length_append]
  exact Nat.le_add_right _ _
section
variable {P : Program} {w : World} {K : PySem.W.Frag} {mg : Str → Option Value} {base : Heap} {C R B CC CR CF CB CU CN : Addr}
def sp_replaced (K : PySem.W.Frag) (C R : Addr) (d : Nat) : Sp := fun vs H Q _ => ∃ (N : Addr → Prop) (p q : Addr) (nm : Str) (ws us : List V) (f : RF) (os : List Nd), vs = [.ref p, .str nm, .ref q] ∧ SqT K H p ws ∧ ForAt K C R N H f ws ∧ SqT K H q us ∧ All2 (RefAt K C R N H) us os ∧ (∀ l, H l = none → N l) ∧
  f.names.Nodup ∧ f.dep ≤ d ∧ f.dep + (RF.ofNodes os).dep ≤ 12 ∧ f.size + (RF.ofNodes os).size ≤ 900 ∧ f.every NdOk ∧ ∀ H' p' rs, Same H H' → SqT K H' p' rs → ForAt K C R N H' (RF.repl nm os f) rs → Q (.ref p') H'
theorem ok_replaced {d : Nat} {f : Addr} {fd : FuncData} (F : Fun K "replaced" "replaced" s_replaced f fd) (B : Blt mg) (kR : RuleX P w K mg base R) (k_Rule : Mkr P w K mg base 16 "Rule" R ["self", "name", "condition", "ruling", "exceptions"] (sp_rule_init K C R CR))
    (c_replaced : Cal P w K mg base CX0 (d + 17) "replaced" ["rules", "name", "others"] (Below (sp_replaced K C R) d)) :
    FnOk P w K mg base CX0 (d + 18) f fd ["rules", "name", "others"] (sp_replaced K C R d) := by
  refine F.ok sc_replaced (fun vs H Q E h => by obtain ⟨N, p, q, nm, ws, us, f, os, rfl, _⟩ := h; rfl) (fun cdv A outer s H vs Q E hr h => ?_)
  obtain ⟨N, p, q0, nm, ws, us, f, os, rfl, hP, hF, hO, hos, hN, hnd, hd, hd12, hz, hev, q⟩ := h
  refine ⟨_, (pss_cons (ps_set (i := 3) sc_replaced.nd rfl (Or.inl rfl) (pe_lst pa_nil))
      (pss_cons (ps_for PassesOwn.never rfl (pi_tup (pv 0)) (pg_name (i := 4) sc_replaced.nd rfl (Or.inl rfl)) (pss_one (ps_if (pt_cmpR op_eq (pe_cprop kR.name kR.cls (hr.mono (by omega)) (pv 4)) (pv 1) (nomark _)) (pss_one (ps_expr (pe_bm PySem.F.plainAttrs_list PySem.F.slot_list_extend PySem.F.type_list_extend mt_extendT (pv 3) (pa_cons (pv 2) pa_nil)))) (pss_cons (ps_set (i := 5) sc_replaced.nd rfl (Or.inl rfl) (pe_cal c_replaced hr (pa_cons (pe_cprop kR.exceptions kR.cls (hr.mono (by omega)) (pv 4)) (pa_cons (pv 1) (pa_cons (pv 2) pa_nil)))))
      (pss_one (ps_expr (pe_bm PySem.F.plainAttrs_list PySem.F.slot_list_append PySem.F.type_list_append mt_append (pv 3) (pa_cons (pe_mkN k_Rule (hr.mono (by omega)) (pa_cons (pe_cprop kR.name kR.cls (hr.mono (by omega)) (pv 4)) (pa_cons (pe_cprop kR.condition kR.cls (hr.mono (by omega)) (pv 4)) (pa_cons (pe_cprop kR.ruling kR.cls (hr.mono (by omega)) (pv 4)) (pa_cons (pv 5) pa_nil))))) pa_nil))))))))
      (pss_one (ps_ret (pe_callTy call_tuple_of (by rfl) B.b_tuple PyProof.Rows.boot_tuple (pa_cons (pv 3) pa_nil)))))), ?_⟩
  have hrz := RF.repl_size (nm := nm) (os := os) hnd
  have hlo := hos.len
  have hoz : os.length ≤ (RF.ofNodes os).size := by
    have := RF.nodes_le (RF.ofNodes os)
    rw [RF.nodes_of] at this
    exact this
  refine ⟨Nat.zero_le _, fun D nD => ?_⟩
  have g0 : ∀ b xs, N b → H b = some (.lst xs) → N b ∧ b ≠ D := fun b xs h e => ⟨h, fun z => by rw [z, nD] at e; cases e⟩
  have hA := (hF.re g0).all
  have hos : All2 (RefAt K C R (fun l => N l ∧ l ≠ D) H) us os := hos.mono fun _ _ ⟨o, e, x⟩ => ⟨o, e, x.re g0⟩
  have hln := hA.len
  have s0 : Same H (upd H D (.lst [])) := (Same.refl H).put nD
  have e0 : (upd H D (.lst [])) D = some (.lst []) := upd_same
  generalize upd H D (.lst []) = H0 at s0 e0 ⊢
  refine ⟨_, rfl, p, rfl, ⟨_, s0.tup hP⟩, for_it walk_tup (fun i σ H' => ∃ (rs : List V) (y4 y5 : Option V), σ = [some (.ref p), some (.str nm), some (.ref q0), some (.ref D), y4, y5] ∧ Same H H' ∧ H' D = some (.lst rs) ∧ All2 (RefAt K C R (fun l => N l ∧ l ≠ D) H') rs (RF.replL nm os (f.nodes.take i)))
    ⟨[], none, none, rfl, s0, e0, .nil⟩ (fun _ _ _ _ ⟨_, _, _, _, s, _⟩ => s.tup hP) ?_ ?_⟩
  · rintro i y σ H4 H3 hi ⟨rs, y4, y5, rfl, s, e, hrs⟩ ⟨rfl, hy⟩
    obtain ⟨n, hn, o, rfl, hNd⟩ := hA.get hy
    have hmem : n ∈ f.nodes := List.mem_of_getElem? hn
    have hdm := RF.dep_mem _ n hmem
    have hsm := RF.size_mem _ n hmem
    obtain ⟨hok, hne⟩ := RF.every_nodes.mp hev n hmem
    obtain ⟨hndx, _⟩ := RF.nodup_node hnd n hmem
    have hrl := hrs.len
    have hrb := RF.replL_le (nm := nm) (os := os) (f := f) (i := i)
    have hrb2 := RF.replL_le (nm := nm) (os := os) (f := f) (i := i + 1)
    rw [RF.replL_more hn] at hrb2
    obtain ⟨dx', c', pe', l', ws', ho', hc', hpe', hle', hfe'⟩ := hNd
    have ho3 := s _ _ ho'
    refine ⟨_, rfl, o, dx', _, rfl, ho3, o, dx', _, _, rfl, ho3, rfl, _, rfl, rfl, _, rfl, bcase (fun c1 => ?_) (fun c1 => ?_)⟩
    · have c1 : n.nm = nm := V.str.inj (of_decide_eq_true c1)
      refine ⟨_, rfl, .inl ⟨rfl, _, sqL_of e⟩, _, rfl, D, q0, _, _, rfl, rfl, e, s.tup hO, ?_, ?_⟩
      · rw [if_pos c1, List.length_append] at hrb2
        rw [sizeLine_eq]
        omega
      have kk : Keeps (fun l => N l ∧ l ≠ D) H3 (upd H3 D (.lst (rs ++ us))) := keeps_own e fun z => z.2 rfl
      refine ⟨rs ++ us, _, _, rfl, s.put nD, upd_same, ?_⟩
      rw [RF.replL_more hn, if_pos c1]
      exact (hrs.mono fun _ _ x => x.keeps kk).app (hos.mono fun _ _ x => (x.keeps s.keeps).keeps kk)
    have c1 : n.nm ≠ nm := fun z => of_decide_eq_false c1 (by rw [z])
    obtain ⟨d, rfl⟩ : ∃ d', d = d' + 1 := ⟨d - 1, by omega⟩
    refine ⟨_, rfl, o, dx', _, rfl, ho3, o, dx', _, _, rfl, ho3, rfl, _, rfl, _, rfl, fun l => N l ∧ l ≠ D, pe', q0, nm, ws', us, n.exc, os, rfl, s.tup hpe', hfe'.keeps s.keeps, s.tup hO, hos.mono fun _ _ x => x.keeps s.keeps, fun l nl => ⟨hN l (s.free nl), (fun z => by rw [z, e] at nl; cases nl)⟩, hndx, by omega, by omega, by omega, hne, fun H6 t us6 s6 ht hF6 => ?_⟩
    have e6 := s6 _ _ e
    have s36 := s.trans s6
    have ho6 := s36 _ _ ho'
    refine ⟨_, rfl, .inl ⟨rfl, _, sqL_of e6⟩, _, rfl, o, dx', _, rfl, ho6, o, dx', _, _, rfl, ho6, rfl, _, rfl, o, dx', _, rfl, ho6, o, dx', _, _, rfl, ho6, rfl, _, rfl, o, dx', _, rfl, ho6, o, dx', _, _, rfl, ho6, rfl, _, rfl, fun x dx nx ndx nex => ?_⟩
    have s7 : Same H6 (upd (upd H6 dx (.own x)) x (.ins R dx [])) := ((Same.refl H6).put ndx).put nx
    have l1 := name_len hok.nm
    have l2 := name_len hok.rl
    have hrz2 := RF.repl_size (nm := nm) (os := os) hndx
    have hrd2 := RF.repl_dep (nm := nm) (os := os) hndx
    refine ⟨fun l => N l ∧ l ≠ D, x, dx, c', t, n.nm, n.rl, us6, RF.repl nm os n.exc, rfl, upd_same, s7.tup ht, hF6.keeps s7.keeps, by omega, by omega, by omega, by omega, (fun e => by rw [hok.nm] at e; cases e), fun _ => ⟨(fun e => by rw [hok.rl] at e; cases e), fun _ H8 l sX8 hx8 nelx nl el => ⟨rfl, ?_⟩⟩⟩
    have s8 : Same H6 H8 := fun b' o' h => sX8 b' o' (fun e => by rw [e, nx] at h; cases h) (s7 _ _ h)
    have s38 := s6.trans s8
    have s08 := s.trans s38
    have e8 := s8 _ _ e6
    have fl : H6 l = none := s7.free nl
    have hnd8 : NdAt K C R (fun l => N l ∧ l ≠ D) H8 x (n.wE (RF.repl nm os n.exc)) := ⟨dx, c', t, l, us6, hx8, hc'.keeps (N := NoL) s08.keeps, s8.tup ht, ⟨⟨hN l (s36.free fl), (fun z => by rw [z, e6] at fl; cases fl)⟩, el⟩, hF6.keeps s8.keeps⟩
    refine ⟨D, _, _, rfl, rfl, e8, small1000 (by omega), ?_⟩
    have kk : Keeps (fun l => N l ∧ l ≠ D) H8 (upd H8 D (.lst (rs ++ [.ref x]))) := keeps_own e8 fun z => z.2 rfl
    refine ⟨rs ++ [.ref x], _, _, rfl, s08.put nD, upd_same, ?_⟩
    rw [RF.replL_more hn, if_neg c1]
    exact (hrs.mono fun _ _ x => (x.keeps s38.keeps).keeps kk).snoc ⟨x, rfl, hnd8.keeps kk⟩
  · rintro σ H3 ⟨rs, y4, y5, rfl, s, e, hrs⟩
    rw [hln, List.take_length, ← RF.repl_nodes] at hrs
    refine ⟨_, rfl, D, _, rfl, .inl ⟨sqL_of e, fun t nt => ?_⟩⟩
    have s4 : Same H3 (upd H3 t (.tup rs)) := (Same.refl H3).put nt
    exact q _ t rs (s.trans s4) sqT_new (ForAt.of (hrs.mono fun _ _ ⟨o, e, x⟩ => ⟨o, e, (x.re fun b xs h _ => h.1).keeps s4.keeps⟩))
end
end Sc
namespace Sc
open PySem PySem.Spec PyProof.Rows L2
section
variable {X : Cx} {CX : CXT} {k : Nat} {C g : Addr} {fd : FuncData} {ps : List Str} {sp : Sp} {E : XK}
/-- x in o, o of the class at C with its own __contains__ at g -/
def rInO (C : Addr) (sp : Sp) (E : XK) (neg : Bool) : R2 := fun x y H Q => ∃ (a dx : Addr) (fs : List (Str × V)), y = .ref a ∧ H a = some (.ins C dx fs) ∧ sp [y, x] H (fun v H' => ∃ b, v = .bl b ∧ Q (.bl (if neg then !b else b)) H') E
theorem op_inO (hs : PySem.W.findIn X.K (.ref C) "__contains__" = some (some (.ref g))) (hf : PySem.W.isFn X.K (.ref g) = true) (F : FnOk X.prog X.w X.K X.mg X.base CX k g fd ps sp) (hr : Room k X.A) (hb : Binds X.K fd ps []) (hx : Passes CX X E) : OpR X (compareOp .In) (rInO C sp E false) := by
  intro pins s σ H x y v u Q I rx ry h
  obtain ⟨a, dx, fs, rfl, ha, q⟩ := h
  cases (show u = Value.ref a from ry)
  obtain ⟨mA, O, _⟩ := ins_get I.hok ha
  obtain ⟨od, J, _⟩ := O.look
  obtain ⟨m, hF⟩ := I.fr
  refine PySem.W.in_K hF I.ok.mod.kin J hs hf ?_
  refine wpAny_mono (run_fn (us := [.ref a, v]) (vs := [.ref a, x]) (dvs := []) F hr hb .nil hx I (.cons rfl (.cons rx .nil)) q) (fun w s' z => ?_) fun _ _ x => x
  obtain ⟨z', H', I', rz, b, rfl, qz⟩ := z
  cases rz
  exact wpAny_pure ⟨.bl b, H', I', rfl, qz⟩
theorem op_ninO (hs : PySem.W.findIn X.K (.ref C) "__contains__" = some (some (.ref g))) (hf : PySem.W.isFn X.K (.ref g) = true) (F : FnOk X.prog X.w X.K X.mg X.base CX k g fd ps sp) (hr : Room k X.A) (hb : Binds X.K fd ps []) (hx : Passes CX X E) : OpR X (compareOp .NotIn) (rInO C sp E true) := by
  intro pins s σ H x y v u Q I rx ry h
  obtain ⟨a, dx, fs, rfl, ha, q⟩ := h
  cases (show u = Value.ref a from ry)
  obtain ⟨mA, O, _⟩ := ins_get I.hok ha
  obtain ⟨od, J, _⟩ := O.look
  obtain ⟨m, hF⟩ := I.fr
  refine PySem.W.notIn_K hF I.ok.mod.kin J hs hf ?_
  refine wpAny_mono (run_fn (us := [.ref a, v]) (vs := [.ref a, x]) (dvs := []) F hr hb .nil hx I (.cons rfl (.cons rx .nil)) q) (fun w s' z => ?_) fun _ _ x => x
  obtain ⟨z', H', I', rz, b, rfl, qz⟩ := z
  cases rz
  exact wpAny_pure ⟨.bl (!b), H', I', rfl, qz⟩
/-- o[k], o of the class at C with its own __getitem__ at g -/
def rIxO (C : Addr) (sp : Sp) (E : XK) : R2 := fun x y H Q => ∃ (a dx : Addr) (fs : List (Str × V)), x = .ref a ∧ H a = some (.ins C dx fs) ∧ sp [x, y] H Q E
theorem pe_ixO {a b : Expr} {pos : Pos} {ta tb : TE} (hs : PySem.W.findIn X.K (.ref C) "__getitem__" = some (some (.ref g))) (hfn : PySem.W.fnIn X.K g = true) (hf : PySem.W.isFn X.K (.ref g) = true) (F : FnOk X.prog X.w X.K X.mg X.base CX k g fd ps sp) (hr : Room (k + 1) X.A) (hbd : Binds X.K fd ps []) (hx : Passes CX X E)
    (ha : PE X a ta) (hb : PE X b tb) (hsl : ∀ v u, subscripted b true v u = runValue (.builtin "lifetime.subscript" ⟨[v, u], []⟩)) : PE X (.Subscript a b pos) (tOp (rIxO C sp E) ta tb) := by
  refine ⟨fun pins s σ H Q I h => ?_⟩
  refine Subscript_ (binT ha hb I h fun v u s2 x y H2 I2 rx ry q => ?_)
  obtain ⟨o, dx, fs, rfl, ho, q⟩ := q
  cases (show v = Value.ref o from rx)
  obtain ⟨mA, O, _⟩ := ins_get I2.hok ho
  obtain ⟨od, J, _⟩ := O.look
  obtain ⟨m, hF⟩ := I2.fr
  refine PySem.W.sub_K hF I2.ok.mod.kin J hs hfn hf ?_ (hsl _ _)
  have hl : ([Value.ref o, u] ++ ([] : List Value)).length = ps.length := F.len _ _ _ _ q
  refine wpAny_call (codeAny_mono (F.run X.A.in1 X.stack s2 H2 ⟨[.ref o, u], []⟩ [.ref o, u] [.ref o, y] _ _ hr.in1 I2.env0.in1 (hbd s2 [.ref o, u] I2.kIn hl) (.cons rfl (.cons ry .nil)) q) fun r s' hq => ?_)
  cases r with
  | error e => exact hx pins σ H2 s2 e s' I2 hq
  | ok fl =>
    cases fl with
    | ret w =>
      obtain ⟨v, H', I', rv, qz⟩ := I2.after hq
      exact ⟨v, H', I', rv, qz⟩
    | next => exact hq.elim
    | brk => exact hq.elim
    | cont => exact hq.elim
/-- o op x, o of the class at C with its own method, x a text -/
def rBinS (C : Addr) (sp : Sp) (E : XK) : R2 := fun x y H Q => ∃ (a dx : Addr) (fs : List (Str × V)) (z : Str), x = .ref a ∧ y = .str z ∧ H a = some (.ins C dx fs) ∧ sp [x, y] H Q E
theorem op_binS {op : Operator} {fo ro rc : Option Value} (hc : PySem.W.selfFirst X.K C = true) (hs : PySem.W.findIn X.K (.ref C) (PySem.dunder op.info.2) = some (some (.ref g))) (hf : PySem.W.isFn X.K (.ref g) = true)
    (hR : PySem.W.findIn X.K (.ref C) (dunderR op.info.2) = some rc) (hp : rc = none ∨ ∃ g : Addr, rc = some (.ref g)) (h1 : PySem.W.findIn X.K (.type "str") (PySem.dunder op.info.2) = some fo) (h2 : PySem.W.findIn X.K (.type "str") (dunderR op.info.2) = some ro)
    (hsub : PySem.W.subIn X.K (.type "str") (.ref C) = some false) (F : FnOk X.prog X.w X.K X.mg X.base CX k g fd ps sp) (hr : Room k X.A) (hb : Binds X.K fd ps []) (hx : Passes CX X E) : OpR X (binaryOp op) (rBinS C sp E) := by
  intro pins s σ H x y v u Q I rx ry h
  obtain ⟨a, dx, fs, z, rfl, rfl, ha, q⟩ := h
  cases (show v = Value.ref a from rx)
  obtain ⟨t, rfl⟩ := (show ∃ t, u = Value.str z t from ry)
  obtain ⟨mA, O, _⟩ := ins_get I.hok ha
  obtain ⟨od, J, _⟩ := O.look
  obtain ⟨m, hF⟩ := I.fr
  refine PySem.W.ksp_binT (T := "str") hF I.ok.mod.kin J rfl hc hs hf hR hp h1 h2 hsub ?_
  refine wpAny_mono (run_fn (us := [.ref a, .str z t]) (vs := [.ref a, .str z]) (dvs := []) F hr hb .nil hx I (.cons rfl (.cons ⟨t, rfl⟩ .nil)) q) (fun w s' z => ?_) fun _ _ x => x
  obtain ⟨z', H', I', rz, qz⟩ := z
  exact SlX.cmpback rz ⟨z', H', I', rz, qz⟩
end
end Sc
namespace Sc
open PySem PySem.Spec PyProof.Rows L2
/-- a def that keeps two promises keeps either -/
theorem _root_.L2.FnOk.either {P : Program} {w : World} {K : PySem.W.Frag} {mg : Str → Option Value} {base : Heap} {CX : CXT} {k : Nat} {f : Addr} {fd : FuncData} {ps : List Str} {sp sp' : Sp} (F : FnOk P w K mg base CX k f fd ps sp) (G : FnOk P w K mg base CX k f fd ps sp') :
    FnOk P w K mg base CX k f fd ps (fun vs H Q E => sp vs H Q E ∨ sp' vs H Q E) :=
  ⟨fun vs H Q E h => h.elim (F.len vs H Q E) (G.len vs H Q E), fun A outer s H args us vs Q E hr e b v h => h.elim (F.run A outer s H args us vs Q E hr e b v) (G.run A outer s H args us vs Q E hr e b v)⟩
section
variable {X : Cx}
theorem op_or {f : Value → Value → Sem Value} {r r' : R2} (h : OpR X f r) (h' : OpR X f r') : OpR X f (fun x y H Q => r x y H Q ∨ r' x y H Q) :=
  fun pins s σ H x y v u Q I rx ry q => q.elim (h pins s σ H x y v u Q I rx ry) (h' pins s σ H x y v u Q I rx ry)
/-- a tuple in a tuple of texts: no -/
def rInNo (K : PySem.W.Frag) (neg : Bool) : R2 := fun x y H Q => ∃ (a p : Addr) (ys : List V) (xs : List Str), x = .ref a ∧ y = .ref p ∧ SqT K H a ys ∧ SqT K H p (xs.map V.str) ∧ Q (.bl neg) H
theorem any_no : ∀ xs : List Value, xs.any (fun _ => false) = false
  | [] => rfl
  | _ :: r => by rw [List.any_cons, any_no r]; rfl
theorem strs_of : ∀ {xs : List Str} {us : List Value}, Vals (xs.map V.str) us → ∀ w ∈ us, ∃ z t, w = Value.str z t
  | [], _, .nil => fun w hw => by cases hw
  | x :: r, u :: us, .cons h t => fun w hw => by
    obtain ⟨tk, rfl⟩ := (show ∃ tk, u = Value.str x tk from h)
    rcases List.mem_cons.mp hw with rfl | hw
    · exact ⟨_, _, rfl⟩
    · exact strs_of t w hw
theorem op_in_no (hu : X.A.units + 64 < cLine) : OpR X (compareOp .In) (rInNo X.K false) := by
  intro pins s σ H x y v u Q I rx ry h
  obtain ⟨a, p, ys, xs, rfl, rfl, ha, hp, q⟩ := h
  cases rx
  cases ry
  obtain ⟨its, r, pl, hz⟩ := I.tuple hp
  obtain ⟨its2, r2, pl2, _⟩ := I.tuple ha
  refine SeqAt.in_tupleAt (fun _ => false) pl (fun w hw => ?_) ⟨.bl _, H, I, rfl, ?_⟩
  · obtain ⟨z, t, rfl⟩ := strs_of r w (by simpa using hw)
    exact SeqAt.EqAt.str_tuple z t pl2 (by show X.A.units + 1 < cLine; omega)
  · rw [show its.toArray.any (fun _ => false) = its.any (fun _ => false) by simp, any_no]
    exact q
theorem op_nin_no (hu : X.A.units + 64 < cLine) : OpR X (compareOp .NotIn) (rInNo X.K true) := by
  intro pins s σ H x y v u Q I rx ry h
  obtain ⟨a, p, ys, xs, rfl, rfl, ha, hp, q⟩ := h
  cases rx
  cases ry
  obtain ⟨its, r, pl, hz⟩ := I.tuple hp
  obtain ⟨its2, r2, pl2, _⟩ := I.tuple ha
  refine SeqAt.notIn_tupleAt (fun _ => false) pl (fun w hw => ?_) ⟨.bl _, H, I, rfl, ?_⟩
  · obtain ⟨z, t, rfl⟩ := strs_of r w (by simpa using hw)
    exact SeqAt.EqAt.str_tuple z t pl2 (by show X.A.units + 1 < cLine; omega)
  · rw [show its.toArray.any (fun _ => false) = its.any (fun _ => false) by simp, any_no]
    exact q
end
end Sc
namespace Sc
open PySem PySem.Spec PyProof.Rows L2
/-- a method that the class at C has of its own, as the operators find it -/
structure MethO (P : Program) (w : World) (K : PySem.W.Frag) (mg : Str → Option Value) (base : Heap) (CX : CXT) (k : Nat) (C : Addr) (n : Str) (ps : List Str) (sp : Sp) : Prop where
  ex : ∃ (g : Addr) (fd : FuncData), PySem.W.findIn K (.ref C) n = some (some (.ref g)) ∧ PySem.W.isFn K (.ref g) = true ∧ PySem.W.fnIn K g = true ∧ FnOk P w K mg base CX k g fd ps sp ∧ Binds K fd ps []
/-- what an operator against a text asks of the class besides -/
structure BinT (K : PySem.W.Frag) (C : Addr) (op : Operator) : Prop where
  first : PySem.W.selfFirst K C = true
  right : ∃ rc, PySem.W.findIn K (.ref C) (dunderR op.info.2) = some rc ∧ (rc = none ∨ ∃ g : Addr, rc = some (.ref g))
  t1 : ∃ fo, PySem.W.findIn K (.type "str") (PySem.dunder op.info.2) = some fo
  t2 : ∃ ro, PySem.W.findIn K (.type "str") (dunderR op.info.2) = some ro
  sub : PySem.W.subIn K (.type "str") (.ref C) = some false
section
variable {X : Cx} {k : Nat} {C : Addr} {ps : List Str} {sp : Sp} {E : XK}
theorem op_inM (M : MethO X.prog X.w X.K X.mg X.base CX0 k C "__contains__" ps sp) (hr : Room k X.A) : OpR X (compareOp .In) (rInO C sp E0 false) := by
  obtain ⟨g, fd, h1, h2, _, F, hb⟩ := M.ex
  exact op_inO h1 h2 F hr hb pass0
theorem op_ninM (M : MethO X.prog X.w X.K X.mg X.base CX0 k C "__contains__" ps sp) (hr : Room k X.A) : OpR X (compareOp .NotIn) (rInO C sp E0 true) := by
  obtain ⟨g, fd, h1, h2, _, F, hb⟩ := M.ex
  exact op_ninO h1 h2 F hr hb pass0
theorem pe_ixM {a b : Expr} {pos : Pos} {ta tb : TE} (M : MethO X.prog X.w X.K X.mg X.base (L2.CX X.prog X.w) k C "__getitem__" ps sp) (hr : Room (k + 1) X.A) (tk : Takes X (fun cls d _ H => E cls d H)) (ha : PE X a ta) (hb : PE X b tb)
    (hsl : ∀ v u, subscripted b true v u = runValue (.builtin "lifetime.subscript" ⟨[v, u], []⟩)) : PE X (.Subscript a b pos) (tOp (rIxO C sp E) ta tb) := by
  obtain ⟨g, fd, h1, h2, h3, F, hbd⟩ := M.ex
  exact pe_ixO h1 h3 h2 F hr hbd (fun pins σ H s e s' I h => passAt tk σ pins H s e s' I h) ha hb hsl
theorem op_subM {op : Operator} {n : Str} (M : MethO X.prog X.w X.K X.mg X.base (L2.CX X.prog X.w) k C n ps sp) (T : BinT X.K C op) (en : n = PySem.dunder op.info.2) (hr : Room k X.A) (tk : Takes X (fun cls d _ H => E cls d H)) : OpR X (binaryOp op) (rBinS C sp E) := by
  subst en
  obtain ⟨g, fd, h1, h2, h3, F, hbd⟩ := M.ex
  obtain ⟨rc, r1, r2⟩ := T.right
  obtain ⟨fo, f1⟩ := T.t1
  obtain ⟨ro, f2⟩ := T.t2
  exact op_binS T.first h1 h2 r1 r2 f1 f2 T.sub F hr hbd (fun pins σ H s e s' I h => passAt tk σ pins H s e s' I h)
end
end Sc
namespace Sc
open PySem PySem.Spec PyProof.Rows L2
structure BookX (P : Program) (w : World) (K : PySem.W.Frag) (mg : Str → Option Value) (base : Heap) (B : Addr) : Prop where
  cls : Cls K B
  facts : PropX P w K mg base B "facts" "_facts"
  rules : PropX P w K mg base B "rules" "_rules"
  ruling : PropX P w K mg base B "ruling" "_ruling"
end Sc
namespace Sc
open PySem PySem.Spec PyProof.Rows L2
theorem sc_Book___sub__ : FnScope ["self", "name"] ["self", "name"] (defScope s_Book___sub__) := ⟨rfl, rfl, rfl, by decide +kernel, rfl, by decide +kernel, by decide +kernel⟩
/-- a right book, not too large -/
structure BkOk (xs : List Str) (f : RF) (rl : Str) : Prop where
  tS : Txts xs
  lS : xs.length ≤ 60
  hb : firstBad xs = none
  hrl : isName rl = true
  nd : f.names.Nodup
  dep : f.dep ≤ 6
  size : f.size ≤ 100
  ev : f.every NdOk
theorem NdOk.wE {n : Nd} {e : RF} (h : NdOk n) : NdOk (n.wE e) := ⟨h.nm, h.rl, h.c1, h.c2⟩
/-- out of its place -/
theorem BkOk.out {xs : List Str} {f : RF} {rl nm : Str} (h : BkOk xs f rl) : (RF.repl nm [] f).names.Nodup ∧ (RF.repl nm [] f).dep ≤ f.dep ∧ (RF.repl nm [] f).size ≤ f.size ∧ (RF.repl nm [] f).every NdOk := by
  refine ⟨?_, RF.repl_dep h.nd, RF.repl_size h.nd, ?_⟩
  · rw [RF.repl_upd h.nd]
    refine (RF.upd_names (fun n rest hn => ?_) h.nd).1
    rw [List.nodup_cons, List.nodup_append] at hn
    exact ⟨hn.2.2.1, fun x hx => List.mem_cons_of_mem _ (List.mem_append_right _ hx)⟩
  · rw [RF.repl_upd h.nd]
    exact RF.upd_every (fun n e hn => hn.wE) (fun n rest _ _ h3 => h3) h.ev
section
variable {P : Program} {w : World} {K : PySem.W.Frag} {mg : Str → Option Value} {base : Heap} {C R B CC CR CF CB CU CN CA : Addr}
/-- what comes of a book that is made -/
def Out (K : PySem.W.Frag) (C R B CB : Addr) (N : Addr → Prop) (xs : List Str) (f : RF) (rl : Str) (H : Hp) (Q : VK) (E : XK) : Prop := (∀ wd i, firstFault xs (f.pre 0) [] 0 0 = some (wd, i) → errWI CB wd (i : Nat) H E) ∧ (firstFault xs (f.pre 0) [] 0 0 = none → ∀ H' b, Same H H' → BookAt K C R B N H' b xs f rl → Q (.ref b) H')
theorem errWI.same {D : Addr} {wd : Str} {i : Int} {H H' : Hp} {E : XK} (s : Same H H') (h : errWI D wd i H E) : errWI D wd i H' E := fun H1 d s1 n => h H1 d (s.trans s1) n
theorem Out.same {N : Addr → Prop} {xs : List Str} {f : RF} {rl : Str} {H H' : Hp} {Q : VK} {E : XK} (s : Same H H') (h : Out K C R B CB N xs f rl H Q E) : Out K C R B CB N xs f rl H' Q E := ⟨fun wd i e => (h.1 wd i e).same s, fun e H1 b s1 hb => h.2 e H1 b (s.trans s1) hb⟩
theorem book_of {N : Addr → Prop} {H4 : Hp} {x dx a p : Addr} {xs : List Str} {rl : Str} {ws : List V} {f : RF} {Q : VK} {E : XK} (nx : H4 x = none) (ndx : H4 dx = none) (nex : dx ≠ x) (fr : ∀ l, H4 l = none → N l) (hA : SqT K H4 a (xs.map V.str)) (tS : Txts xs) (lS : xs.length ≤ 60) (hb : firstBad xs = none)
    (hP : SqT K H4 p ws) (hF : ForAt K C R N H4 f ws) (hd : f.dep ≤ 12) (hz : f.size ≤ 900) (hfit : f.Fit) (hrl : isName rl = true) (q : Out K C R B CB N xs f rl H4 Q E) :
    sp_book_init K C R B CF CB [.ref x, .ref a, .ref p, .str rl] (upd (upd H4 dx (.own x)) x (.ins B dx [])) (fun v H' => v = .non ∧ Q (.ref x) H') E := by
  have s5 : Same H4 (upd (upd H4 dx (.own x)) x (.ins B dx [])) := ((Same.refl H4).put ndx).put nx
  have ll := name_len hrl
  refine ⟨N, x, dx, a, p, xs, rl, ws, f, rfl, upd_same, s5.tup hA, tS, by omega, s5.tup hP, hF.keeps s5.keeps, hd, hz, hfit, by omega, (fun i ei => by rw [hb] at ei; cases ei), fun _ => ⟨(fun wd i ei _ => (q.1 wd i ei).same s5), fun hff => ⟨(fun e => by rw [hrl] at e; cases e), fun _ H6 l6 us2 sX6 hx6 nelx nl6 el hus6 => ⟨rfl, ?_⟩⟩⟩⟩
  have s6 : Same H4 H6 := fun b' o' h => sX6 b' o' (fun e => by rw [e, nx] at h; cases h) (s5 _ _ h)
  exact q.2 hff H6 x s6 ⟨dx, a, p, l6, ws, us2, hx6, s6.tup hA, s6.tup hP, hF.keeps s6.keeps, ⟨fr l6 (s5.free nl6), el⟩, hus6⟩
def sp_sub (K : PySem.W.Frag) (C R B CB CU : Addr) : Sp := fun vs H Q E => ∃ (N : Addr → Prop) (o : Addr) (xs : List Str) (f : RF) (rl nm : Str), vs = [.ref o, .str nm] ∧ BookAt K C R B N H o xs f rl ∧ BkOk xs f rl ∧ (∀ l, H l = none → N l) ∧
  (¬ nm ∈ f.names → ∀ H', Same H H' → E (.ref CU) none H') ∧ (nm ∈ f.names → Out K C R B CB N xs (RF.repl nm [] f) rl H Q E)
theorem ok_sub {f : Addr} {fd : FuncData} (F : Fun K "__sub__" "Book.__sub__" s_Book___sub__ f fd) (Bl : Blt mg) (T : Cls K B) (n1 : NoAttr K B "_facts") (n2 : NoAttr K B "_rules") (n3 : NoAttr K B "_ruling") (k_Book : Mkr P w K mg base 17 "Book" B ["self", "facts", "rules", "ruling"] (sp_book_init K C R B CF CB))
    (mCon : MethO P w K mg base CX0 3 B "__contains__" ["self", "name"] (sp_contains K C R B)) (c_replaced : Cal P w K mg base CX0 30 "replaced" ["rules", "name", "others"] (sp_replaced K C R 12)) (e_UnknownRule : ErrMk0 K mg "UnknownRule" CU) :
    FnOk P w K mg base (L2.CX P w) 32 f fd ["self", "name"] (sp_sub K C R B CB CU) := by
  refine F.okX sc_Book___sub__ (fun vs H Q E h => by obtain ⟨N, o, xs, f, rl, nm, rfl, _⟩ := h; rfl) (fun cdv A outer s H vs Q E hr h => ?_)
  obtain ⟨N, o, xs, f, rl, nm, rfl, hB, hk, fr, eu, q⟩ := h
  refine ⟨_, (pss_cons (ps_if (pt_cmpR (op_ninM mCon (hr.mono (by decide))) (pv 1) (pv 0) rfl) (pss_one (ps_raise rfl (takes_of rfl rfl rfl rfl) (pmk_err0 e_UnknownRule))) pss_nil)
      (pss_one (ps_ret (pe_mkX k_Book (hr.mono (by decide)) (takes_of rfl rfl rfl rfl) (pa_cons (pe_fld (pv 0) rfl) (pa_cons (pe_cal c_replaced (hr.mono (by decide)) (pa_cons (pe_fld (pv 0) rfl) (pa_cons (pv 1) (pa_cons (pe_tup pa_nil) pa_nil)))) (pa_cons (pe_fld (pv 0) rfl) pa_nil))))))), ?_⟩
  have hdep := hk.dep
  have hsz := hk.size
  obtain ⟨dx, a, p, l, ws, us, ho, hS, hP, hF, ⟨nl, hl⟩, hus⟩ := id hB
  refine ⟨_, rfl, _, rfl, o, dx, _, rfl, ho, N, o, xs, f, rl, nm, rfl, hB, by omega, fun H1 s1 => ⟨_, rfl, _, rfl, ?_⟩⟩
  rw [if_pos rfl]
  by_cases hno : nm ∈ f.names
  · rw [decide_eq_true hno]
    have q := q hno
    have ho1 := s1 _ _ ho
    obtain ⟨o1, o2, o3, o4⟩ := hk.out (nm := nm)
    refine iteF ?_
    refine ⟨_, rfl, o, B, dx, _, _, rfl, ho1, T, n1, rfl, _, rfl, o, B, dx, _, _, rfl, ho1, T, n2, rfl, _, rfl, Nat.zero_le _, fun t0 n0' => ?_⟩
    have s2 : Same H1 (upd H1 t0 (.tup [])) := (Same.refl H1).put n0'
    have e2 : (upd H1 t0 (.tup [])) t0 = some (.tup []) := upd_same
    generalize upd H1 t0 (.tup []) = H2 at s2 e2 ⊢
    have s02 := s1.trans s2
    have e00 : (RF.ofNodes []).dep = 0 ∧ (RF.ofNodes []).size = 0 := ⟨rfl, rfl⟩
    refine ⟨N, p, t0, nm, ws, [], f, [], rfl, s02.tup hP, hF.keeps s02.keeps, sqT_of e2, .nil, (fun l nl => fr l (s02.free nl)), hk.nd, by omega, by omega, by omega, hk.ev, fun H3 p3 rs3 s3 hp3 hF3 => ?_⟩
    have s03 := s02.trans s3
    have ho3 := s03 _ _ ho
    refine ⟨_, rfl, o, B, dx, _, _, rfl, ho3, T, n3, rfl, fun x dx2 nx ndx nex => ?_⟩
    exact book_of nx ndx nex (fun l nl => fr l (s03.free nl)) (s03.tup hS) hk.tS hk.lS hk.hb hp3 hF3 (by omega) (by omega) (fit_of o4) hk.hrl (q.same s03)
  · rw [decide_eq_false hno]
    exact iteT (eu hno H1 s1)
end
end Sc
namespace Sc
open PySem PySem.Spec PyProof.Rows L2
namespace RF
/-- the rules whose names are kept, with those of their exceptions -/
def filt (p : Str → Bool) : RF → RF
  | .nil => .nil
  | .cons nm hs fs rl exc rest => if p nm = true then .cons nm hs fs rl (filt p exc) (filt p rest) else filt p rest
theorem names_c39 (nm : Str) (hs fs : List Str) (rl : Str) (exc rest : RF) : (RF.cons nm hs fs rl exc rest).names = nm :: (exc.names ++ rest.names) := by
  show nm :: ((exc.pre 1 ++ rest.pre 0).map fun q => q.1.nm) = _
  rw [List.map_append, RF.pre_names exc 1, RF.pre_names rest 0]
theorem filt_repl (nm : Str) : ∀ f : RF, repl nm [] f = filt (fun x => decide (x ≠ nm)) f
  | .nil => rfl
  | .cons n hs fs rl exc rest => by
    unfold repl filt
    by_cases h : n = nm
    · rw [if_pos h, if_neg (by simpa using h)]
      exact filt_repl nm rest
    · rw [if_neg h, if_pos (by simpa using h), filt_repl nm exc, filt_repl nm rest]
theorem filt_filt (p q : Str → Bool) : ∀ f : RF, filt p (filt q f) = filt (fun x => q x && p x) f
  | .nil => rfl
  | .cons n hs fs rl exc rest => by
    conv => lhs; arg 2; unfold filt
    conv => rhs; unfold filt
    cases hq : q n with
    | false =>
      rw [if_neg (by decide), if_neg (by rw [Bool.false_and]; decide)]
      exact filt_filt p q rest
    | true =>
      rw [if_pos rfl, Bool.true_and]
      conv => lhs; unfold filt
      rw [filt_filt p q exc, filt_filt p q rest]
theorem filt_congr {p q : Str → Bool} : ∀ {f : RF}, (∀ x ∈ f.names, p x = q x) → filt p f = filt q f
  | .nil, _ => rfl
  | .cons n hs fs rl exc rest, h => by
    rw [names_c39] at h
    have h1 := filt_congr (f := exc) fun x hx => h x (List.mem_cons_of_mem _ (List.mem_append_left _ hx))
    have h2 := filt_congr (f := rest) fun x hx => h x (List.mem_cons_of_mem _ (List.mem_append_right _ hx))
    unfold filt
    rw [h n List.mem_cons_self, h1, h2]
theorem filt_all {p : Str → Bool} : ∀ {f : RF}, (∀ x ∈ f.names, p x = true) → filt p f = f
  | .nil, _ => rfl
  | .cons n hs fs rl exc rest, h => by
    rw [names_c39] at h
    have h1 := filt_all (f := exc) fun x hx => h x (List.mem_cons_of_mem _ (List.mem_append_left _ hx))
    have h2 := filt_all (f := rest) fun x hx => h x (List.mem_cons_of_mem _ (List.mem_append_right _ hx))
    unfold filt
    rw [if_pos (h n List.mem_cons_self), h1, h2]
theorem filt_names (p : Str → Bool) : ∀ f : RF, (filt p f).names.Sublist f.names
  | .nil => .slnil
  | .cons n hs fs rl exc rest => by
    unfold filt
    rw [names_c39]
    by_cases h : p n = true
    · rw [if_pos h, names_c39]
      exact ((filt_names p exc).append (filt_names p rest)).cons₂ n
    · rw [if_neg h]
      exact ((filt_names p rest).trans (List.sublist_append_right _ _)).cons n
theorem filt_keep (p : Str → Bool) : ∀ f : RF, ∀ x ∈ (filt p f).names, p x = true
  | .nil, x, h => by cases h
  | .cons n hs fs rl exc rest, x, h => by
    unfold filt at h
    by_cases hp : p n = true
    · rw [if_pos hp, names_c39] at h
      rcases List.mem_cons.mp h with h | h
      · rw [h]; exact hp
      rcases List.mem_append.mp h with h | h
      · exact filt_keep p exc x h
      · exact filt_keep p rest x h
    · rw [if_neg hp] at h
      exact filt_keep p rest x h
theorem filt_size (p : Str → Bool) : ∀ f : RF, (filt p f).size ≤ f.size
  | .nil => Nat.le_refl _
  | .cons n hs fs rl exc rest => by
    have h1 := filt_size p exc
    have h2 := filt_size p rest
    unfold filt
    by_cases hp : p n = true
    · rw [if_pos hp]; show (filt p exc).size + 1 + (filt p rest).size ≤ exc.size + 1 + rest.size; omega
    · rw [if_neg hp]; show _ ≤ exc.size + 1 + rest.size; omega
theorem filt_dep (p : Str → Bool) : ∀ f : RF, (filt p f).dep ≤ f.dep
  | .nil => Nat.le_refl _
  | .cons n hs fs rl exc rest => by
    have h1 := filt_dep p exc
    have h2 := filt_dep p rest
    unfold filt
    by_cases hp : p n = true
    · rw [if_pos hp]; show max ((filt p exc).dep + 1) (filt p rest).dep ≤ max (exc.dep + 1) rest.dep; omega
    · rw [if_neg hp]; show _ ≤ max (exc.dep + 1) rest.dep; omega
theorem filt_every {P : Nd → Prop} (hP : ∀ n e, P n → P (n.wE e)) (p : Str → Bool) : ∀ {f : RF}, f.every P → (filt p f).every P
  | .nil, _ => trivial
  | .cons n hs fs rl exc rest, h => by
    unfold filt
    by_cases hp : p n = true
    · rw [if_pos hp]
      exact ⟨hP ⟨n, hs, fs, rl, exc⟩ (filt p exc) h.1, filt_every hP p h.2.1, filt_every hP p h.2.2⟩
    · rw [if_neg hp]
      exact filt_every hP p h.2.2
end RF
/-- a span of days: period, first, count -/
structure Spn where
  p : Nat
  f : Nat
  c : Nat
structure SpnOk (s : Spn) : Prop where
  p1 : 1 ≤ s.p
  p2 : s.p ≤ 12
  f1 : s.f < s.p
  c1 : 1 ≤ s.c
  c2 : s.c ≤ s.p
  dv : s.p ∣ 84
/-- is a day in the span -/
def inS (s : Spn) (day : Int) : Bool := decide ((day - (s.f : Nat)) % ((s.p : Nat) : Int) < ((s.c : Nat) : Int))
/-- does a rule stand on a day -/
def stays (sp : List (Str × Spn)) (day : Int) (nm : Str) : Bool := sp.all fun q => !decide (q.1 = nm) || inS q.2 day
theorem stays_snoc {sp : List (Str × Spn)} {q : Str × Spn} {day : Int} {nm : Str} : stays (sp ++ [q]) day nm = (stays sp day nm && (!decide (q.1 = nm) || inS q.2 day)) := by
  unfold stays
  rw [List.all_append, List.all_cons, List.all_nil, Bool.and_true]
/-- the common period of spans -/
def perN (sp : List (Str × Spn)) : Nat := sp.foldl (fun a q => Nat.lcm a q.2.p) 1
theorem perN_snoc {sp : List (Str × Spn)} {q : Str × Spn} : perN (sp ++ [q]) = Nat.lcm (perN sp) q.2.p := by
  unfold perN
  rw [List.foldl_append]
  rfl
theorem per_dv : ∀ {sp : List (Str × Spn)} {a : Nat}, a ∣ 84 → (∀ q ∈ sp, q.2.p ∣ 84) → sp.foldl (fun a q => Nat.lcm a q.2.p) a ∣ 84
  | [], a, h, _ => h
  | q :: r, a, h, hs => by
    show r.foldl (fun a q => Nat.lcm a q.2.p) (Nat.lcm a q.2.p) ∣ 84
    exact per_dv (sp := r) (a := Nat.lcm a q.2.p) (Nat.lcm_dvd h (hs q List.mem_cons_self)) fun x hx => hs x (List.mem_cons_of_mem _ hx)
theorem perN_dv {sp : List (Str × Spn)} (h : ∀ q ∈ sp, SpnOk q.2) : perN sp ∣ 84 := per_dv (Nat.one_dvd _) fun q hq => (h q hq).dv
theorem perN_le {sp : List (Str × Spn)} (h : ∀ q ∈ sp, SpnOk q.2) : perN sp ≤ 84 := Nat.le_of_dvd (by decide) (perN_dv h)
theorem perN_pos {sp : List (Str × Spn)} (h : ∀ q ∈ sp, SpnOk q.2) : 1 ≤ perN sp := Nat.pos_of_dvd_of_pos (perN_dv h) (by decide)
theorem dv_per0 : ∀ {sp : List (Str × Spn)} {a : Nat}, a ∣ sp.foldl (fun a q => Nat.lcm a q.2.p) a
  | [], a => Nat.dvd_refl _
  | q :: r, a => Nat.dvd_trans (Nat.dvd_lcm_left a q.2.p) dv_per0
theorem dv_per : ∀ {sp : List (Str × Spn)} {a : Nat}, ∀ q ∈ sp, q.2.p ∣ sp.foldl (fun a q => Nat.lcm a q.2.p) a
  | [], _, q, h => nomatch h
  | q0 :: r, a, q, h => by
    rcases List.mem_cons.mp h with h | h
    · rw [h]
      exact Nat.dvd_trans (Nat.dvd_lcm_right a q0.2.p) dv_per0
    · exact dv_per (sp := r) (a := Nat.lcm a q0.2.p) q h
theorem inS_per {s : Spn} {P : Nat} (h : s.p ∣ P) (day : Int) : inS s (day % (P : Nat)) = inS s day := by
  unfold inS
  have hd : ((s.p : Nat) : Int) ∣ ((P : Nat) : Int) := Int.natCast_dvd_natCast.mpr h
  have e : (day % ((P : Nat) : Int) - ((s.f : Nat) : Int)) % ((s.p : Nat) : Int) = (day - ((s.f : Nat) : Int)) % ((s.p : Nat) : Int) := by
    rw [Int.sub_emod, Int.emod_emod_of_dvd day hd, ← Int.sub_emod]
  rw [e]
theorem stays_per {sp : List (Str × Spn)} {day : Int} {nm : Str} : stays sp (day % ((perN sp : Nat) : Int)) nm = stays sp day nm := by
  unfold stays
  rw [Bool.eq_iff_iff, List.all_eq_true, List.all_eq_true]
  exact forall_congr' fun q => forall_congr' fun hq => by rw [inS_per (P := perN sp) (dv_per (sp := sp) (a := 1) q hq)]
/-- the book behind the spans ahead of one -/
theorem filt_step {sp : List (Str × Spn)} {q : Str × Spn} {day : Int} {f : RF} : RF.filt (stays (sp ++ [q]) day) f = if q.1 ∈ (RF.filt (stays sp day) f).names ∧ inS q.2 day = false then RF.repl q.1 [] (RF.filt (stays sp day) f) else RF.filt (stays sp day) f := by
  have e : stays (sp ++ [q]) day = fun x => stays sp day x && (!decide (q.1 = x) || inS q.2 day) := funext fun x => stays_snoc
  rw [e, ← RF.filt_filt (fun x => !decide (q.1 = x) || inS q.2 day) (stays sp day) f]
  by_cases h : q.1 ∈ (RF.filt (stays sp day) f).names ∧ inS q.2 day = false
  · rw [if_pos h, RF.filt_repl]
    refine RF.filt_congr fun x _ => ?_
    rw [h.2, Bool.or_false]
    by_cases hx : q.1 = x
    · subst hx
      simp
    · have hx' : x ≠ q.1 := fun z => hx z.symm
      simp [hx, hx']
  · rw [if_neg h]
    refine RF.filt_all fun x hx => ?_
    cases hi : inS q.2 day with
    | true => rw [Bool.or_true]
    | false =>
      have hne : q.1 ≠ x := fun z => h ⟨by rw [z]; exact hx, hi⟩
      rw [decide_eq_false hne]; rfl
end Sc
namespace Sc
open PySem PySem.Spec PyProof.Rows L2
/-- the == of a class -/
structure EqO (P : Program) (w : World) (K : PySem.W.Frag) (mg : Str → Option Value) (base : Heap) (k : Nat) (C : Addr) (sp : Sp) : Prop where
  ex : ∃ (g : Addr) (fd : FuncData), PySem.W.findIn K (.ref C) "__eq__" = some (some (.ref g)) ∧ PySem.W.isFn K (.ref g) = true ∧ FnOk P w K mg base CX0 k g fd ["self", "other"] sp ∧ Binds K fd ["self", "other"] []
  ob : PySem.W.mroIn K C (.type "object") = some true
  ne : PySem.W.findIn K (.ref C) "__ne__" = some (some (.builtin "object.__ne__"))
section
variable {X : Cx} {k : Nat} {C : Addr} {ps : List Str} {sp : Sp}
theorem op_eqM (M : EqO X.prog X.w X.K X.mg X.base k C sp) (hr : Room k X.A) : OpR X (compareOp .Eq) (rEqO X.K C sp E0) := by
  obtain ⟨g, fd, h1, h2, F, hb⟩ := M.ex
  exact op_eqO h1 h2 F hr hb pass0
theorem op_neM (M : EqO X.prog X.w X.K X.mg X.base k C sp) (hr : Room (k + 1) X.A) : OpR X (compareOp .NotEq) (rNeO X.K C sp E0) := by
  obtain ⟨g, fd, h1, h2, F, hb⟩ := M.ex
  exact op_neO M.ob M.ne h1 h2 F hr hb pass0
theorem op_subN {op : Operator} {n : Str} (M : MethO X.prog X.w X.K X.mg X.base (L2.CX X.prog X.w) k C n ps sp) (T : BinT X.K C op) (en : n = PySem.dunder op.info.2) (hr : Room k X.A) : OpR X (binaryOp op) (rBinS C sp E0) := by
  subst en
  obtain ⟨g, fd, h1, h2, h3, F, hbd⟩ := M.ex
  obtain ⟨rc, r1, r2⟩ := T.right
  obtain ⟨fo, f1⟩ := T.t1
  obtain ⟨ro, f2⟩ := T.t2
  exact op_binS T.first h1 h2 r1 r2 f1 f2 T.sub F hr hbd passL
end
/-! ### math.lcm -/
def rLcm : List V → Hp → VK → Prop := fun vs H Q => ∃ a b : Int, vs = [.int a, .int b] ∧ a.natAbs < 2 ^ 64 ∧ b.natAbs < 2 ^ 64 ∧ Q (.int ((Nat.lcm a.natAbs b.natAbs : Nat) : Int)) H
theorem cr_lcm {X : Cx} : CallR X (.builtin "math.lcm") rLcm := by
  intro pins s σ H vs us Q I r h
  obtain ⟨a, b, rfl, ha, hb, q⟩ := h
  obtain ⟨t, u, rfl⟩ := Vals.int2 r
  exact PySem.W.mc_lcm ha hb fun _ => ⟨.int _, H, I.tok _, ⟨_, rfl⟩, q⟩
end Sc
namespace Sc
open PySem PySem.Spec PyProof.Rows L2
/-! ### the draws of the laws from k31 on -/
theorem sc__law_sides : FnScope ["_law_h", "_law_facts_here", "_law_most", "_law_rest", "_law_holding", "_law_failing", "_law_k", "_law_one"] ["_law_h", "_law_facts_here", "_law_most"] (defScope s__law_sides) := ⟨rfl, rfl, rfl, by decide +kernel, rfl, by decide +kernel, by decide +kernel⟩
def ten : List Str := ["crew", "debt", "fog", "gate", "late", "mail", "noon", "paid", "rain", "warm"]
theorem ten_right : Right ten := ⟨by decide +kernel, by decide +kernel⟩
section
variable {P : Program} {w : World} {K : PySem.W.Frag} {mg : Str → Option Value} {base : Heap}
def sp_facts : Sp := fun vs H Q _ => ∃ (a l : Addr) (m : Nat), vs = [.ref a, .int (m : Nat)] ∧ RS H a l ∧ 1 ≤ m ∧ m ≤ 10 ∧ ∀ H' p fs, Kp a l H H' → H' p = some (.tup (fs.map V.str)) → H p = none → List.Sublist fs ten → 1 ≤ fs.length → fs.length ≤ m → Q (.ref p) H'
theorem ok_facts {f : Addr} {fd : FuncData} (F : Fun K "_law_facts" "_law_facts" s__law_facts f fd) (B : Blt mg) (c__law_next : Cal P w K mg base CX0 1 "_law_next" ["_law_h", "_law_limit"] sp_next) : FnOk P w K mg base CX0 2 f fd ["_law_h", "_law_most"] sp_facts := by
  refine F.ok sc__law_facts (fun vs H Q E h => by obtain ⟨a, l, c, rfl, _⟩ := h; rfl) (fun cdv A outer s H vs Q E hr h => ?_)
  obtain ⟨a, l, c, rfl, hR, c0, c1, q⟩ := h
  refine ⟨_, (pss_cons (ps_set (i := 2) sc__law_facts.nd rfl (Or.inl rfl) (pe_lst (pa_cons pe_str (pa_cons pe_str (pa_cons pe_str (pa_cons pe_str (pa_cons pe_str (pa_cons pe_str (pa_cons pe_str (pa_cons pe_str (pa_cons pe_str (pa_cons pe_str pa_nil))))))))))))
      (pss_cons (ps_set (i := 3) sc__law_facts.nd rfl (Or.inl rfl) (pe_op op_add pe_int (pe_cal c__law_next (hr.mono (by decide)) (pa_cons (pv 0) (pa_cons (pv 1) pa_nil)))))
      (pss_cons (ps_while PassesOwn.never (pt_cmpR op_gt (pe_callB call_len_seq (by rfl) B.b_len PySem.boot_len (pa_cons (pv 2) pa_nil)) (pv 3) (nomark _)) (pss_one (ps_expr (pe_bm PySem.F.plainAttrs_list PySem.F.slot_list_pop PySem.F.type_list_pop mt_popAt (pv 2) (pa_cons (pe_cal c__law_next (hr.mono (by decide)) (pa_cons (pv 0) (pa_cons (pe_callB call_len_seq (by rfl) B.b_len PySem.boot_len (pa_cons (pv 2) pa_nil)) pa_nil))) pa_nil)))))
      (pss_one (ps_ret (pe_callTy call_tuple_of (by rfl) B.b_tuple PyProof.Rows.boot_tuple (pa_cons (pv 2) pa_nil))))))), ?_⟩
  refine ⟨(by show 10 ≤ sizeLine; decide), fun p np => ?_⟩
  obtain ⟨npa, npl⟩ := hR.no np
  have k0 := (Kp.refl hR).put (o := .lst (ten.map V.str)) np
  have e0 : (upd H p (.lst (ten.map V.str))) p = some (.lst (ten.map V.str)) := upd_same
  refine ⟨_, rfl, _, rfl, a, l, _, rfl, k0.new, by omega, small_lim (by omega) (by omega), fun H1 r k1 r0 r1 => ⟨1, r, rfl, rfl, ?_⟩⟩
  obtain ⟨m, rfl⟩ := Int.eq_ofNat_of_zero_le r0
  refine ⟨fun k σ H' => ∃ zs : List Str, k = zs.length ∧ σ = [some (.ref a), some (.int (c : Nat)), some (.ref p), some (.int (1 + (m : Nat)))] ∧ Kp a l H H' ∧ H' p = some (.lst (zs.map V.str)) ∧ List.Sublist zs ten ∧ m + 1 ≤ zs.length,
    ⟨_, ten, rfl, rfl, k0.trans k1, k1.keep p _ npa npl e0, List.Sublist.refl _, (by show m + 1 ≤ 10; omega)⟩, ?_⟩
  rintro k σ H1 ⟨zs, rfl, rfl, k1, e1, sb, hc⟩
  have hz : zs.length ≤ 10 := sb.length_le
  refine ⟨.ref p, rfl, p, _, rfl, .inl (sqL_of e1), _, rfl, _, _, rfl, rfl, _, rfl, bcase (fun t1 => ?_) (fun t1 => ?_)⟩
  · have t1 : 1 + (m : Int) < ((zs.map V.str).length : Int) := of_decide_eq_true t1
    rw [List.length_map] at t1
    refine ⟨fun σ' H' => ∃ zs' : List Str, zs'.length < zs.length ∧ (σ' = [some (.ref a), some (.int (c : Nat)), some (.ref p), some (.int (1 + (m : Nat)))] ∧ Kp a l H H' ∧ H' p = some (.lst (zs'.map V.str)) ∧ List.Sublist zs' ten ∧ m + 1 ≤ zs'.length),
      fun σ' H' ⟨zs', lt, x⟩ => ⟨_, lt, zs', rfl, x⟩, ?_⟩
    refine ⟨.ref p, rfl, .inl ⟨rfl, _, sqL_of e1⟩, .ref a, rfl, .ref p, rfl, p, _, rfl, .inl (sqL_of e1), a, l, _, rfl, k1.new, by rw [List.length_map]; omega, ?_, fun H2 r k2 r0 r1 => ?_⟩
    · rw [List.length_map]
      exact Nat.lt_of_le_of_lt (Nat.log2_le_self _) (by show zs.length < 9000; omega)
    · have e2 : H2 p = some (.lst (zs.map V.str)) := k2.keep p _ npa npl e1
      rw [List.length_map] at r1
      obtain ⟨j, rfl⟩ := Int.eq_ofNat_of_zero_le r0
      have hj : j < zs.length := by omega
      have hj' : j < (zs.map V.str).length := by rw [List.length_map]; exact hj
      refine ⟨p, _, _, j, _, rfl, rfl, e2, by omega, by omega, (ixN_seq (ixN_of hj')).1, List.getElem?_eq_getElem hj', zs.eraseIdx j, ?_, rfl, (k1.trans k2).put0 np, ?_, (List.eraseIdx_sublist zs j).trans sb, ?_⟩
      · rw [List.length_eraseIdx_of_lt hj]
        omega
      · rw [upd_same, map_eraseIdx]
      · rw [List.length_eraseIdx_of_lt hj]
        omega
  · have t1 : ¬ 1 + (m : Int) < ((zs.map V.str).length : Int) := of_decide_eq_false t1
    rw [List.length_map] at t1
    refine ⟨.ref p, rfl, p, _, rfl, .inl ⟨sqL_of e1, fun t nt => q _ t zs (k1.put nt) upd_same (k1.free nt) sb (by omega) (by omega)⟩⟩
/-- the parts of a drawn condition -/
structure Side (fs hs gs : List Str) (m : Nat) : Prop where
  r1 : Right hs
  r2 : Right gs
  s1 : ∀ x ∈ hs, x ∈ fs
  s2 : ∀ x ∈ gs, x ∈ fs
  dj : ∀ x ∈ gs, ¬ x ∈ hs
  le : hs.length + gs.length ≤ m
theorem erase_perm {α : Type} : ∀ {zs : List α} {j : Nat} (h : j < zs.length), (zs[j] :: zs.eraseIdx j).Perm zs
  | z :: r, 0, _ => List.Perm.refl _
  | z :: r, j + 1, h => by
    have hj : j < r.length := by simpa using h
    have ih := erase_perm hj
    show (r[j] :: z :: r.eraseIdx j).Perm (z :: r)
    exact (List.Perm.swap _ _ _).trans (ih.cons z)
def sp_sides (K : PySem.W.Frag) : Sp := fun vs H Q _ => ∃ (a l fp : Addr) (fs : List Str) (m : Nat), vs = [.ref a, .ref fp, .int (m : Nat)] ∧ RS H a l ∧ SqT K H fp (fs.map V.str) ∧ fs.length ≤ 60 ∧ Right fs ∧ m ≤ 8 ∧
  ∀ H' p pw pb hs gs, Kp a l H H' → H' p = some (.tup [.ref pw, .ref pb]) → H' pw = some (.tup (hs.map V.str)) → H' pb = some (.tup (gs.map V.str)) → Side fs hs gs m → Q (.ref p) H'
theorem ok_sides {f : Addr} {fd : FuncData} (F : Fun K "_law_sides" "_law_sides" s__law_sides f fd) (B : Blt mg) (c__law_next : Cal P w K mg base CX0 1 "_law_next" ["_law_h", "_law_limit"] sp_next) : FnOk P w K mg base CX0 2 f fd ["_law_h", "_law_facts_here", "_law_most"] (sp_sides K) := by
  refine F.ok sc__law_sides (fun vs H Q E h => by obtain ⟨a, l, fp, fs, m, rfl, _⟩ := h; rfl) (fun cdv A outer s H vs Q E hr h => ?_)
  obtain ⟨a, l, fp, fs, m, rfl, R, hS, hl, hfs, hm, q⟩ := h
  refine ⟨_, (pss_cons (ps_par3 (i := 3) (j := 4) (l := 5) rfl sc__law_sides.nd rfl rfl rfl (by decide) (by decide) (by decide) rfl rfl rfl (pa_cons (pe_callTy call_list_of (by rfl) B.b_list PyProof.Rows.boot_list (pa_cons (pv 1) pa_nil)) (pa_cons (pe_lst pa_nil) (pa_cons (pe_lst pa_nil) pa_nil))) rfl)
      (pss_cons (ps_for PassesOwn.never rfl (pi_range1 (by rfl) B.b_range (pa_cons (pe_cal c__law_next (hr.mono (by decide)) (pa_cons (pv 0) (pa_cons (pe_op op_add (pe_callB (call_min2 rfl) (by rfl) B.b_min (by decide +kernel) (pa_cons (pv 2) (pa_cons (pe_callB call_len_seq (by rfl) B.b_len PySem.boot_len (pa_cons (pv 1) pa_nil)) pa_nil))) pe_int) pa_nil))) pa_nil)) (pg_name (i := 6) sc__law_sides.nd rfl (Or.inl rfl)) (pss_cons (ps_set (i := 7) sc__law_sides.nd rfl (Or.inl rfl) (pe_bm PySem.F.plainAttrs_list PySem.F.slot_list_pop PySem.F.type_list_pop mt_popAt (pv 3) (pa_cons (pe_cal c__law_next (hr.mono (by decide)) (pa_cons (pv 0) (pa_cons (pe_callB call_len_seq (by rfl) B.b_len PySem.boot_len (pa_cons (pv 3) pa_nil)) pa_nil))) pa_nil)))
      (pss_one (ps_if (pt_cmpR op_gt (pe_cal c__law_next (hr.mono (by decide)) (pa_cons (pv 0) (pa_cons pe_int pa_nil))) pe_int (nomark _)) (pss_one (ps_expr (pe_bm PySem.F.plainAttrs_list PySem.F.slot_list_append PySem.F.type_list_append mt_append (pv 4) (pa_cons (pv 7) pa_nil)))) (pss_one (ps_expr (pe_bm PySem.F.plainAttrs_list PySem.F.slot_list_append PySem.F.type_list_append mt_append (pv 5) (pa_cons (pv 7) pa_nil))))))))
      (pss_one (ps_ret (pe_tup (pa_cons (pe_callTy call_tuple_of (by rfl) B.b_tuple PyProof.Rows.boot_tuple (pa_cons (pe_callB cr_sortedS (by rfl) B.b_sorted (by decide +kernel) (pa_cons (pv 4) pa_nil)) pa_nil)) (pa_cons (pe_callTy call_tuple_of (by rfl) B.b_tuple PyProof.Rows.boot_tuple (pa_cons (pe_callB cr_sortedS (by rfl) B.b_sorted (by decide +kernel) (pa_cons (pv 5) pa_nil)) pa_nil)) pa_nil))))))), ?_⟩
  refine ⟨_, rfl, fp, _, rfl, .inr hS, fun lr nr => ⟨Nat.zero_le _, fun lw nw => ⟨Nat.zero_le _, fun lb nb => ⟨_, _, _, rfl, ?_⟩⟩⟩⟩
  have s1 : Same H (upd H lr (.lst (fs.map V.str))) := (Same.refl H).put nr
  have s2 : Same H (upd (upd H lr (.lst (fs.map V.str))) lw (.lst [])) := s1.put' nw
  have s3 : Same H (upd (upd (upd H lr (.lst (fs.map V.str))) lw (.lst [])) lb (.lst [])) := s2.put' nb
  have wr : lr ≠ lw := ne_of_none upd_same nw
  have wb : lw ≠ lb := ne_of_none upd_same nb
  have rb : lr ≠ lb := ne_of_none (show _ = some (HO.lst (fs.map V.str)) by rw [upd_ne wr]; exact upd_same) nb
  have er : (upd (upd (upd H lr (.lst (fs.map V.str))) lw (.lst [])) lb (.lst [])) lr = some (.lst (fs.map V.str)) := by rw [upd_ne rb, upd_ne wr]; exact upd_same
  have ew : (upd (upd (upd H lr (.lst (fs.map V.str))) lw (.lst [])) lb (.lst [])) lw = some (.lst (([] : List Str).map V.str)) := by rw [upd_ne wb]; exact upd_same
  have eb : (upd (upd (upd H lr (.lst (fs.map V.str))) lw (.lst [])) lb (.lst [])) lb = some (.lst (([] : List Str).map V.str)) := upd_same
  have fw : H lw = none := s1.free nw
  have fb : H lb = none := s2.free nb
  generalize upd (upd (upd H lr (.lst (fs.map V.str))) lw (.lst [])) lb (.lst []) = H0 at s3 er ew eb ⊢
  obtain ⟨ra, rl⟩ := R.no nr
  obtain ⟨wa, wl⟩ := R.no fw
  obtain ⟨ba, bl⟩ := R.no fb
  have k0 := Kp.of R s3
  have hmn : (if (fs.length : Int) < m then (fs.length : Int) else m) = ((min fs.length m : Nat) : Int) := by split <;> omega
  refine ⟨_, rfl, _, rfl, _, rfl, fp, _, rfl, .inr (k0.tup hS), _, _, rfl, _, 1, rfl, rfl, ?_⟩
  rw [List.length_map, hmn]
  refine ⟨a, l, _, rfl, k0.new, by omega, small_lim (by omega) (by omega), fun H1 r k1 r0 r1 => ?_⟩
  obtain ⟨n, rfl⟩ := Int.eq_ofNat_of_zero_le r0
  have hn : n ≤ min fs.length m := by omega
  have hnd := hfs.nodup
  refine ⟨_, rfl, by omega, by omega, for_it walk_range (fun i σ H' => ∃ (rest ws bs : List Str) (y6 y7 : Option V), σ = [some (.ref a), some (.ref fp), some (.int (m : Nat)), some (.ref lr), some (.ref lw), some (.ref lb), y6, y7] ∧ Kp a l H H' ∧ H' lr = some (.lst (rest.map V.str)) ∧ H' lw = some (.lst (ws.map V.str)) ∧ H' lb = some (.lst (bs.map V.str)) ∧
      (rest ++ (ws ++ bs)).Perm fs ∧ ws.length + bs.length = i)
    ⟨fs, [], [], none, none, rfl, k0.trans k1, k1.keep _ _ ra rl er, k1.keep _ _ wa wl ew, k1.keep _ _ ba bl eb, by rw [List.append_nil, List.append_nil], rfl⟩ (fun _ _ _ _ _ => trivial) ?_ ?_⟩
  · rintro i y σ H3 H2 hi ⟨rest, ws, bs, y6, y7, rfl, k, er, ew, eb, hp, hlen⟩ ⟨rfl, hy⟩
    have hi : i < n := hi
    have hpl := hp.length_eq
    rw [List.length_append, List.length_append] at hpl
    refine ⟨_, rfl, .inl ⟨rfl, _, sqL_of er⟩, _, rfl, _, rfl, lr, _, rfl, .inl (sqL_of er), a, l, _, rfl, k.new, by rw [List.length_map]; omega, small_lim (by omega) (by rw [List.length_map]; omega), fun H4 r4 k4 r40 r41 => ?_⟩
    rw [List.length_map] at r41
    obtain ⟨j, rfl⟩ := Int.eq_ofNat_of_zero_le r40
    have hj : j < rest.length := by omega
    have hj' : j < (rest.map V.str).length := by rw [List.length_map]; exact hj
    have er4 := k4.keep _ _ ra rl er
    have ew4 := k4.keep _ _ wa wl ew
    have eb4 := k4.keep _ _ ba bl eb
    refine ⟨lr, _, _, j, _, rfl, rfl, er4, by omega, by omega, (ixN_seq (ixN_of hj')).1, List.getElem?_eq_getElem hj', ?_⟩
    rw [List.getElem_map]
    have k5 : Kp a l H (upd H4 lr (.lst ((rest.eraseIdx j).map V.str))) := (k.trans k4).put0 nr
    have er5 : (upd H4 lr (.lst ((rest.eraseIdx j).map V.str))) lr = some (.lst ((rest.eraseIdx j).map V.str)) := upd_same
    have ew5 : (upd H4 lr (.lst ((rest.eraseIdx j).map V.str))) lw = some (.lst (ws.map V.str)) := by rw [upd_ne wr.symm]; exact ew4
    have eb5 : (upd H4 lr (.lst ((rest.eraseIdx j).map V.str))) lb = some (.lst (bs.map V.str)) := by rw [upd_ne rb.symm]; exact eb4
    have hpe := erase_perm hj
    rw [map_eraseIdx]
    generalize upd H4 lr (.lst ((rest.eraseIdx j).map V.str)) = H5 at k5 er5 ew5 eb5 ⊢
    refine ⟨_, rfl, a, l, 3, rfl, k5.new, by decide, small_lim (by decide) (by decide), fun H6 r6 k6 r60 r61 => ⟨r6, 0, rfl, rfl, _, rfl, ?_⟩⟩
    have kk := k5.trans k6
    have er6 := k6.keep _ _ ra rl er5
    have ew6 := k6.keep _ _ wa wl ew5
    have eb6 := k6.keep _ _ ba bl eb5
    refine bcase (fun c1 => ?_) (fun c1 => ?_)
    · refine ⟨_, rfl, .inl ⟨rfl, _, sqL_of ew6⟩, _, rfl, lw, _, _, rfl, rfl, ew6, by rw [List.length_map]; exact small1000 (by omega), ?_⟩
      refine ⟨rest.eraseIdx j, ws ++ [rest[j]], bs, _, _, rfl, kk.put0 fw, by rw [upd_ne wr]; exact er6, by rw [upd_same, List.map_append]; rfl, by rw [upd_ne wb.symm]; exact eb6, ?_, by rw [List.length_append, List.length_singleton]; omega⟩
      refine List.Perm.trans ?_ hp
      refine List.Perm.trans ?_ (hpe.append_right (ws ++ bs))
      show (rest.eraseIdx j ++ ((ws ++ [rest[j]]) ++ bs)).Perm (rest[j] :: (rest.eraseIdx j ++ (ws ++ bs)))
      rw [List.append_assoc, ← List.append_assoc]
      have h1 : ((rest.eraseIdx j ++ ws) ++ ([rest[j]] ++ bs)).Perm (rest[j] :: ((rest.eraseIdx j ++ ws) ++ bs)) := List.perm_middle
      rw [List.append_assoc (rest.eraseIdx j) ws bs] at h1
      exact h1
    · refine ⟨_, rfl, .inl ⟨rfl, _, sqL_of eb6⟩, _, rfl, lb, _, _, rfl, rfl, eb6, by rw [List.length_map]; exact small1000 (by omega), ?_⟩
      refine ⟨rest.eraseIdx j, ws, bs ++ [rest[j]], _, _, rfl, kk.put0 fb, by rw [upd_ne rb]; exact er6, by rw [upd_ne wb]; exact ew6, by rw [upd_same, List.map_append]; rfl, ?_, by rw [List.length_append, List.length_singleton]; omega⟩
      refine List.Perm.trans ?_ hp
      refine List.Perm.trans ?_ (hpe.append_right (ws ++ bs))
      show (rest.eraseIdx j ++ (ws ++ (bs ++ [rest[j]]))).Perm (rest[j] :: (rest.eraseIdx j ++ (ws ++ bs)))
      rw [← List.append_assoc, ← List.append_assoc, ← List.append_assoc]
      exact List.perm_append_singleton _ _
  · rintro σ H2 ⟨rest, ws, bs, y6, y7, rfl, k, er, ew, eb, hp, hlen⟩
    have hlen : ws.length + bs.length = n := hlen
    have hsub : (ws ++ bs).Perm (ws ++ bs) := List.Perm.refl _
    have hnd2 : (rest ++ (ws ++ bs)).Nodup := hp.nodup_iff.mpr hnd
    have hin : ∀ x ∈ ws ++ bs, x ∈ fs := fun x hx => hp.mem_iff.mp (List.mem_append_right _ hx)
    have nd3 : (ws ++ bs).Nodup := (List.nodup_append.mp hnd2).2.1
    have ndw := (List.nodup_append.mp nd3).1
    have ndb := (List.nodup_append.mp nd3).2.1
    refine ⟨_, rfl, lw, ws, rfl, sqL_of ew, by omega, fun zs p hz1 hz2 np => ?_⟩
    have s4 : Same H2 (upd H2 p (.lst (zs.map V.str))) := (Same.refl H2).put np
    have e4 : (upd H2 p (.lst (zs.map V.str))) p = some (.lst (zs.map V.str)) := upd_same
    generalize upd H2 p (.lst (zs.map V.str)) = H3 at s4 e4 ⊢
    refine ⟨p, _, rfl, .inl ⟨sqL_of e4, fun t nt => ?_⟩⟩
    have s5 : Same H3 (upd H3 t (.tup (zs.map V.str))) := (Same.refl H3).put nt
    have e5 : (upd H3 t (.tup (zs.map V.str))) t = some (.tup (zs.map V.str)) := upd_same
    generalize upd H3 t (.tup (zs.map V.str)) = H4 at s5 e5 ⊢
    have s25 := s4.trans s5
    refine ⟨_, rfl, lb, bs, rfl, sqL_of (s25 _ _ eb), by omega, fun zs2 p2 hy1 hy2 np2 => ?_⟩
    have s6 : Same H4 (upd H4 p2 (.lst (zs2.map V.str))) := (Same.refl H4).put np2
    have e6 : (upd H4 p2 (.lst (zs2.map V.str))) p2 = some (.lst (zs2.map V.str)) := upd_same
    generalize upd H4 p2 (.lst (zs2.map V.str)) = H5 at s6 e6 ⊢
    refine ⟨p2, _, rfl, .inl ⟨sqL_of e6, fun t2 nt2 => ?_⟩⟩
    have s7 : Same H5 (upd H5 t2 (.tup (zs2.map V.str))) := (Same.refl H5).put nt2
    have e7 : (upd H5 t2 (.tup (zs2.map V.str))) t2 = some (.tup (zs2.map V.str)) := upd_same
    generalize upd H5 t2 (.tup (zs2.map V.str)) = H6 at s7 e7 ⊢
    refine ⟨(by show 2 ≤ sizeLine; decide), fun t3 nt3 => ?_⟩
    have s8 : Same H6 (upd H6 t3 (.tup [.ref t, .ref t2])) := (Same.refl H6).put nt3
    have s47 := (s6.trans s7).trans s8
    refine q _ t3 t t2 zs zs2 (k.same (s25.trans s47)) upd_same (s47 _ _ e5) (s8 _ _ e7) ⟨right_of hz1 hz2 ndw fun x hx => hfs.nm x (hin x (List.mem_append_left _ hx)), right_of hy1 hy2 ndb fun x hx => hfs.nm x (hin x (List.mem_append_right _ hx)), fun x hx => hin x (List.mem_append_left _ (hz1.mem_iff.mp hx)), fun x hx => hin x (List.mem_append_right _ (hy1.mem_iff.mp hx)), fun x hx hw => (List.nodup_append.mp nd3).2.2 x (hz1.mem_iff.mp hw) x (hy1.mem_iff.mp hx) rfl, ?_⟩
    rw [hz1.length_eq, hy1.length_eq]
    omega
end
end Sc
namespace Sc
open PySem PySem.Spec PyProof.Rows L2
theorem sc__law_rule : FnScope ["_law_h", "_law_facts_here", "_law_names", "_law_deep", "_law_name", "_law_sides_here", "_law_ruling", "_law_inner", "_law_k"] ["_law_h", "_law_facts_here", "_law_names", "_law_deep"] (defScope s__law_rule) := ⟨rfl, rfl, rfl, by decide +kernel, rfl, by decide +kernel, by decide +kernel⟩
theorem sc__law_drawn : FnScope ["_law_h", "_law_facts_here", "_law_most", "_law_names", "_law_rules", "_law_k"] ["_law_h", "_law_facts_here", "_law_most"] (defScope s__law_drawn) := ⟨rfl, rfl, rfl, by decide +kernel, rfl, by decide +kernel, by decide +kernel⟩
def three : List Str := ["fine", "free", "warn"]
theorem three_name : ∀ x ∈ three, isName x = true := by decide +kernel
theorem pe_wk {X : Cx} {e : Expr} {t : TE} (t' : TE) (h : PE X e t) (w : ∀ σ H Q, t' σ H Q → t σ H Q) : PE X e t' := ⟨fun pins s σ H Q I x => h.run pins s σ H Q I (w σ H Q x)⟩
/-- a drawn rule of such facts -/
structure N2 (fs : List Str) (n : Nd) : Prop where
  ok : NdOk n
  s1 : ∀ x ∈ n.hs, x ∈ fs
  s2 : ∀ x ∈ n.fs, x ∈ fs
  s3 : n.rl ∈ three
/-- next(3) if deep > 0 else 0 -/
def tCount : TE := fun σ H Q => ∃ (a l : Addr) (deep : Nat), σ[0]? = some (some (.ref a)) ∧ σ[3]? = some (some (.int (deep : Nat))) ∧ RS H a l ∧ ∀ H' (n : Nat), Kp a l H H' → n ≤ 2 → (n = 0 ∨ 0 < deep) → Q (.int (n : Nat)) H'
section
variable {P : Program} {w : World} {K : PySem.W.Frag} {mg : Str → Option Value} {base : Heap}
def sp_rule2 (K : PySem.W.Frag) (d : Nat) : Sp := fun vs H Q _ => ∃ (a l fp nl : Addr) (fs : List Str) (x : Str) (ns : List Str) (deep : Nat), vs = [.ref a, .ref fp, .ref nl, .int (deep : Nat)] ∧ RS H a l ∧ SqT K H fp (fs.map V.str) ∧ Right fs ∧ fs.length ≤ 60 ∧ H nl = some (.lst ((x :: ns).map V.str)) ∧ nl ≠ a ∧ nl ≠ l ∧
  (∀ y ∈ x :: ns, isName y = true) ∧ ns.length ≤ 20 ∧ deep ≤ d ∧
  ∀ H' v n ns', Kc a l nl H H' → RowAt K H' v n → N2 fs n → n.exc.every (N2 fs) → n.nm :: (n.exc.names ++ ns') = x :: ns → H' nl = some (.lst (ns'.map V.str)) → n.exc.dep ≤ deep → Q v H'
theorem ok_rule2 {d : Nat} {f : Addr} {fd : FuncData} (F : Fun K "_law_rule" "_law_rule" s__law_rule f fd) (B : Blt mg) (c__law_next : Cal P w K mg base CX0 1 "_law_next" ["_law_h", "_law_limit"] sp_next) (c__law_sides : Cal P w K mg base CX0 2 "_law_sides" ["_law_h", "_law_facts_here", "_law_most"] (sp_sides K))
    (c__law_rule : Cal P w K mg base CX0 (d + 2) "_law_rule" ["_law_h", "_law_facts_here", "_law_names", "_law_deep"] (Below (sp_rule2 K) d)) : FnOk P w K mg base CX0 (d + 3) f fd ["_law_h", "_law_facts_here", "_law_names", "_law_deep"] (sp_rule2 K d) := by
  refine F.ok sc__law_rule (fun vs H Q E h => by obtain ⟨a, l, fp, nl, fs, x, ns, deep, rfl, _⟩ := h; rfl) (fun cdv A outer s H vs Q E hr h => ?_)
  obtain ⟨a, l, fp, nl, fs, x, ns, deep, rfl, R, hS, hfs, hfl, en, na, nl', hnm, hnl, hd, q⟩ := h
  refine ⟨_, (pss_cons (ps_par (i := 4) (j := 5) rfl sc__law_rule.nd rfl rfl (by decide) rfl rfl (pa_cons (pe_bm PySem.F.plainAttrs_list PySem.F.slot_list_pop PySem.F.type_list_pop mt_popAt (pv 2) (pa_cons pe_int pa_nil)) (pa_cons (pe_cal c__law_sides (hr.mono (by omega)) (pa_cons (pv 0) (pa_cons (pv 1) (pa_cons pe_int pa_nil)))) pa_nil)) rfl)
      (pss_cons (ps_par (i := 6) (j := 7) rfl sc__law_rule.nd rfl rfl (by decide) rfl rfl (pa_cons (pe_ix ix_list (pe_lst (pa_cons pe_str (pa_cons pe_str (pa_cons pe_str pa_nil)))) (pe_cal c__law_next (hr.mono (by omega)) (pa_cons (pv 0) (pa_cons pe_int pa_nil))) (fun _ _ => rfl)) (pa_cons (pe_lst pa_nil) pa_nil)) rfl)
      (pss_cons (ps_for PassesOwn.never rfl (pi_range1 (by rfl) B.b_range (pa_cons (pe_wk (tCount) (pe_ifExp (pt_cmpR op_gt (pv 3) pe_int (nomark _)) (pe_cal c__law_next (hr.mono (by omega)) (pa_cons (pv 0) (pa_cons pe_int pa_nil))) pe_int) ?we) pa_nil)) (pg_name (i := 8) sc__law_rule.nd rfl (Or.inl rfl)) (pss_one (ps_if (pt_cmpR (op_neD hr.units) (pv 2) (pe_lst pa_nil) (nomark _)) (pss_one (ps_expr (pe_bm PySem.F.plainAttrs_list PySem.F.slot_list_append PySem.F.type_list_append mt_append (pv 7) (pa_cons (pe_cal c__law_rule hr (pa_cons (pv 0) (pa_cons (pv 1) (pa_cons (pv 2) (pa_cons (pe_op op_sub (pv 3) pe_int) pa_nil))))) pa_nil)))) pss_nil)))
      (pss_one (ps_ret (pe_tup (pa_cons (pv 4) (pa_cons (pe_ix ix_tup (pv 5) pe_int (fun _ _ => rfl)) (pa_cons (pe_ix ix_tup (pv 5) pe_int (fun _ _ => rfl)) (pa_cons (pv 6) (pa_cons (pe_callTy call_tuple_of (by rfl) B.b_tuple PyProof.Rows.boot_tuple (pa_cons (pv 7) pa_nil)) pa_nil))))))))))), ?_⟩
  case we =>
    rintro σ H1 Q1 ⟨a, l, deep, g0, g3, R, q⟩
    refine ⟨_, g3, deep, 0, rfl, rfl, _, rfl, bcase (fun c1 => ?_) (fun c1 => ?_)⟩
    · have c1 : 0 < deep := by have := of_decide_eq_true c1; omega
      refine ⟨_, g0, a, l, 3, rfl, R, by decide, small_lim (by decide) (by decide), fun H2 r k r0 r1 => ?_⟩
      obtain ⟨m, rfl⟩ := Int.eq_ofNat_of_zero_le r0
      exact q H2 m k (by omega) (.inr c1)
    · exact q H1 0 (Kp.refl R) (by decide) (.inl rfl)
  have hix : 0 < ((x :: ns).map V.str).length := by rw [List.length_map, List.length_cons]; omega
  refine ⟨_, rfl, .inl ⟨rfl, _, sqL_of en⟩, nl, _, _, 0, .str x, rfl, rfl, en, by omega, by decide, (ixN_seq (ixN_of hix)).1, rfl, ?_⟩
  have k1 : Kc a l nl H (upd H nl (.lst (ns.map V.str))) := (Kc.of R (Same.refl H)).count na nl'
  have en1 : (upd H nl (.lst (ns.map V.str))) nl = some (.lst (ns.map V.str)) := upd_same
  rw [show ((x :: ns).map V.str).eraseIdx 0 = ns.map V.str from rfl]
  generalize upd H nl (.lst (ns.map V.str)) = H1 at k1 en1 ⊢
  refine ⟨_, rfl, _, rfl, a, l, fp, fs, 2, rfl, k1.new, (k1.keeps en).tup hS, hfl, hfs, by decide, fun H2 p pw pb hs gs k2 ep epw epb sd => ⟨_, _, rfl, ?_⟩⟩
  have kc2 := k1.trans (Kp.kc k2)
  have en2 := k2.keep _ _ na nl' en1
  refine ⟨(by show 3 ≤ sizeLine; decide), fun lp nlp => ?_⟩
  have s3 : Same H2 (upd H2 lp (.lst (three.map V.str))) := (Same.refl H2).put nlp
  have elp : (upd H2 lp (.lst (three.map V.str))) lp = some (.lst (three.map V.str)) := upd_same
  obtain ⟨la, ll⟩ := kc2.new.no nlp
  have R3 := kc2.new.same s3
  refine ⟨_, rfl, a, l, 3, rfl, R3, by decide, small_lim (by decide) (by decide), fun H4 r4 k4 r40 r41 => ?_⟩
  obtain ⟨j, rfl⟩ := Int.eq_ofNat_of_zero_le r40
  have hj : j < three.length := by show j < 3; omega
  have elp4 := k4.keep _ _ la ll elp
  refine ⟨lp, _, _, .str three[j], rfl, rfl, sqL_of elp4, atI_nat (j := j) (by rw [List.getElem?_map, List.getElem?_eq_getElem hj]; rfl), ?_⟩
  have hrl : three[j] ∈ three := List.getElem_mem hj
  generalize three[j] = rl at hrl ⊢
  refine ⟨Nat.zero_le _, fun li ni => ⟨_, _, rfl, ?_⟩⟩
  have kp24 : Keeps NoL H2 H4 := s3.keeps.trans k4.keepsN
  have kc4 := (kc2.same s3).trans (Kp.kc k4)
  have en4 := k4.keep _ _ na nl' (s3 _ _ en2)
  obtain ⟨ia, il⟩ := kc4.new.no ni
  have inl : li ≠ nl := fun z => by rw [z, en4] at ni; cases ni
  have s5 : Same H4 (upd H4 li (.lst [])) := (Same.refl H4).put ni
  have ei5 : (upd H4 li (.lst [])) li = some (.lst []) := upd_same
  have fi : H li = none := kc4.free en4 ni
  have kc5 := kc4.same s5
  have en5 := s5 _ _ en4
  have kp25 : Keeps NoL H2 (upd H4 li (.lst [])) := kp24.trans s5.keeps
  generalize upd H4 li (.lst []) = H5 at s5 ei5 kc5 en5 kp25 ⊢
  refine ⟨a, l, deep, rfl, rfl, kc5.new, fun H6 n6 k6 hn6 hdn => ?_⟩
  have hxn := hnm x List.mem_cons_self
  refine ⟨_, rfl, by omega, by omega, for_it walk_range (fun i σ H' => ∃ (g : RF) (us : List V) (ns' : List Str) (y8 : Option V), σ = [some (.ref a), some (.ref fp), some (.ref nl), some (.int (deep : Nat)), some (.str x), some (.ref p), some (.str rl), some (.ref li), y8] ∧ Kc a l nl H H' ∧ Keeps NoL H2 H' ∧ H' li = some (.lst us) ∧ RowsAt K H' g us ∧ g.every (N2 fs) ∧
      g.names ++ ns' = ns ∧ H' nl = some (.lst (ns'.map V.str)) ∧ g.dep ≤ deep)
    ⟨.nil, [], ns, none, rfl, kc5.trans (Kp.kc k6), kp25.trans k6.keepsN, k6.keep _ _ ia il ei5, rfl, trivial, rfl, k6.keep _ _ na nl' en5, Nat.zero_le _⟩ (fun _ _ _ _ _ => trivial) ?_ ?_⟩
  · rintro i y σ H8 H7 hi ⟨g, us, ns', y8, rfl, kc, kp, ei, hg, hev, hnn, en, hdp⟩ ⟨rfl, hy⟩
    have hi : i < n6 := hi
    have hd0 : 0 < deep := by omega
    have hsub : ∀ y ∈ ns', isName y = true := fun y hy => hnm y (List.mem_cons_of_mem _ (by rw [← hnn]; exact List.mem_append_right _ hy))
    have hln : g.names.length + ns'.length = ns.length := by rw [← List.length_append, hnn]
    refine ⟨_, rfl, Nat.zero_le _, fun te nte => ⟨.list (ns'.map PyData.str), .list [], .lst (sqL_of (by rw [upd_ne (ne_of_none en nte)]; exact en)) (dps K _ _), .lst sqL_new .nil, shL (fun z hz => name_fine (hsub z hz)), rfl, _, rfl, ?_⟩⟩
    have ed : (PyData.list (ns'.map PyData.str)).eqv (.list []) = decide (ns' = []) := eqvA_nil _
    rw [ed]
    have s9 : Same H7 (upd H7 te (.lst [])) := (Same.refl H7).put nte
    have en9 := s9 _ _ en
    have ei9 := s9 _ _ ei
    have kc9 := kc.same s9
    have kp9 : Keeps NoL H2 (upd H7 te (.lst [])) := kp.trans s9.keeps
    have hg9 := hg.keeps (N := NoL) s9.keeps
    generalize upd H7 te (.lst []) = H9 at s9 en9 ei9 kc9 kp9 hg9 ⊢
    refine bcase (fun c1 => ?_) (fun c1 => ?_)
    · have c1 : ns' ≠ [] := of_decide_eq_false ((Bool.not_eq_true' _).mp c1)
      obtain ⟨x', r', rfl⟩ := List.exists_cons_of_ne_nil c1
      obtain ⟨d, rfl⟩ : ∃ d', d = d' + 1 := ⟨d - 1, by omega⟩
      refine ⟨_, rfl, .inl ⟨rfl, _, sqL_of ei9⟩, _, rfl, _, rfl, _, rfl, _, rfl, deep, 1, rfl, rfl, ?_⟩
      rw [List.length_cons] at hln
      refine ⟨a, l, fp, nl, fs, x', r', deep - 1, (by show [V.ref a, V.ref fp, V.ref nl, V.int ((deep : Int) - 1)] = _; rw [show (deep : Int) - 1 = ((deep - 1 : Nat) : Int) by omega]), kc9.new, (kc9.keeps (show H nl = some (.lst ((x :: ns).map V.str)) by assumption)).tup hS, hfs, hfl, en9, na, nl', hsub, by omega, by omega, fun H10 v n ns2 k10 hrow hN hNe hnn2 en10 hdn2 => ?_⟩
      have ei10 := k10.keep _ _ ia il inl ei9
      have kk10 : Keeps NoL H9 H10 := k10.keeps en9
      refine ⟨li, _, _, rfl, rfl, ei10, ?_, ?_⟩
      · have := hg.len
        have h2 := RF.nodes_le g
        have h3 : g.names.length = g.size := by unfold RF.names; rw [List.length_map, RF.pre_len]
        exact small1000 (by omega)
      have kw : Keeps NoL H10 (upd H10 li (.lst (us ++ [v]))) := keeps_own ei10 id
      refine ⟨g.snoc n, us ++ [v], ns2, _, rfl, (kc9.trans k10).put0 fi, (kp9.trans kk10).trans kw, upd_same, rows_snoc ((hg9.keeps kk10).keeps kw) (hrow.keeps kw), RF.snoc_every hev hN hNe, ?_, by rw [upd_ne inl.symm]; exact en10, ?_⟩
      · rw [RF.snoc_names, ← hnn, ← hnn2, List.append_assoc]
        rfl
      · rw [RF.snoc_dep]
        omega
    · exact ⟨g, us, ns', _, rfl, kc9, kp9, ei9, hg9, hev, hnn, en9, hdp⟩
  · rintro σ H7 ⟨g, us, ns', y8, rfl, kc, kp, ei, hg, hev, hnn, en, hdp⟩
    have ep7 : SqT K H7 p [.ref pw, .ref pb] := kp.tup (sqT_of ep)
    refine ⟨_, rfl, _, rfl, p, _, 0, _, rfl, rfl, ep7, atI_nat (j := 0) rfl, _, rfl, p, _, 1, _, rfl, rfl, ep7, atI_nat (j := 1) rfl, _, rfl, _, rfl, li, _, rfl, .inl ⟨sqL_of ei, fun t nt => ?_⟩⟩
    have s8 : Same H7 (upd H7 t (.tup us)) := (Same.refl H7).put nt
    have e8 : (upd H7 t (.tup us)) t = some (.tup us) := upd_same
    generalize upd H7 t (.tup us) = H8 at s8 e8 ⊢
    refine ⟨(by show 5 ≤ sizeLine; decide), fun t2 nt2 => ?_⟩
    have s9 : Same H8 (upd H8 t2 (.tup [.str x, .ref pw, .ref pb, .str rl, .ref t])) := (Same.refl H8).put nt2
    have e9 : (upd H8 t2 (.tup [.str x, .ref pw, .ref pb, .str rl, .ref t])) t2 = some (.tup [.str x, .ref pw, .ref pb, .str rl, .ref t]) := upd_same
    have s79 := s8.trans s9
    have kp9 : Keeps NoL H2 _ := kp.trans s79.keeps
    have h8 := sd.le
    refine q _ (.ref t2) ⟨x, hs, gs, rl, g⟩ ns' (kc.same s79) ⟨t2, pw, pb, t, us, rfl, sqT_of e9, kp9.tup (sqT_of epw), kp9.tup (sqT_of epb), sqT_of (s9 _ _ e8), hg.keeps (N := NoL) s79.keeps⟩ ⟨⟨hxn, three_name _ hrl, sd.r1.none (by show 0 + hs.length ≤ 8; omega) (fun _ _ h => nomatch h), sd.r2.none (by show hs.length + gs.length ≤ 8; omega) sd.dj⟩, sd.s1, sd.s2, hrl⟩ hev ?_ (s79 _ _ en) hdp
    show x :: (g.names ++ ns') = x :: ns
    rw [hnn]
theorem Kc.kp {H H' : Hp} {a l c : Addr} (k : Kc a l c H H') (n : H c = none) : Kp a l H H' := ⟨k.old, k.new, fun b o m1 m2 e => k.keep b o m1 m2 (ne_of_none e n) e⟩
/-- the names that rules are drawn from -/
def names12 : List Str := ["hue", "ox", "ab", "ivy", "tar", "bay", "elm", "sun", "cat", "zed", "kin", "rye"]
theorem names12_name : ∀ x ∈ names12, isName x = true := by decide +kernel
theorem names12_nodup : names12.Nodup := by decide +kernel
/-- a drawn book -/
structure Drawn2 (K : PySem.W.Frag) (H : Hp) (p fp : Addr) (fs : List Str) (f : RF) (rl : Str) : Prop where
  at_ : ∃ (pr : Addr) (ws : List V), H p = some (.tup [.ref fp, .ref pr, .str rl]) ∧ SqT K H pr ws ∧ RowsAt K H f ws
  ev : f.every (N2 fs)
  nm : ∃ k ns, f.names ++ ns = names12.drop k
  dp : f.dep ≤ 3
  rl : rl ∈ three
def sp_drawn (K : PySem.W.Frag) : Sp := fun vs H Q _ => ∃ (a l fp : Addr) (fs : List Str) (m : Nat), vs = [.ref a, .ref fp, .int (m : Nat)] ∧ RS H a l ∧ SqT K H fp (fs.map V.str) ∧ Right fs ∧ fs.length ≤ 60 ∧ m ≤ 20 ∧
  ∀ H' p f rl, Kp a l H H' → Drawn2 K H' p fp fs f rl → f.nodes.length ≤ m → Q (.ref p) H'
theorem ok_drawn {f : Addr} {fd : FuncData} (F : Fun K "_law_drawn" "_law_drawn" s__law_drawn f fd) (B : Blt mg) (c__law_next : Cal P w K mg base CX0 1 "_law_next" ["_law_h", "_law_limit"] sp_next)
    (c__law_rule : Cal P w K mg base CX0 5 "_law_rule" ["_law_h", "_law_facts_here", "_law_names", "_law_deep"] (sp_rule2 K 2)) : FnOk P w K mg base CX0 6 f fd ["_law_h", "_law_facts_here", "_law_most"] (sp_drawn K) := by
  refine F.ok sc__law_drawn (fun vs H Q E h => by obtain ⟨a, l, fp, fs, m, rfl, _⟩ := h; rfl) (fun cdv A outer s H vs Q E hr h => ?_)
  obtain ⟨a, l, fp, fs, m, rfl, R, hS, hfs, hfl, hm, q⟩ := h
  refine ⟨_, (pss_cons (ps_par (i := 3) (j := 4) rfl sc__law_drawn.nd rfl rfl (by decide) rfl rfl (pa_cons (pe_lst (pa_cons pe_str (pa_cons pe_str (pa_cons pe_str (pa_cons pe_str (pa_cons pe_str (pa_cons pe_str (pa_cons pe_str (pa_cons pe_str (pa_cons pe_str (pa_cons pe_str (pa_cons pe_str (pa_cons pe_str pa_nil))))))))))))) (pa_cons (pe_lst pa_nil) pa_nil)) rfl)
      (pss_cons (ps_set (i := 3) sc__law_drawn.nd rfl (Or.inl rfl) (pe_slice sl_list (pv 3) (po_some (pe_cal c__law_next (hr.mono (by decide)) (pa_cons (pv 0) (pa_cons pe_int pa_nil)))) po_none))
      (pss_cons (ps_for PassesOwn.never rfl (pi_range1 (by rfl) B.b_range (pa_cons (pe_cal c__law_next (hr.mono (by decide)) (pa_cons (pv 0) (pa_cons (pe_op op_add (pv 2) pe_int) pa_nil))) pa_nil)) (pg_name (i := 5) sc__law_drawn.nd rfl (Or.inl rfl)) (pss_one (ps_if (pt_cmpR (op_neD hr.units) (pv 3) (pe_lst pa_nil) (nomark _)) (pss_one (ps_expr (pe_bm PySem.F.plainAttrs_list PySem.F.slot_list_append PySem.F.type_list_append mt_append (pv 4) (pa_cons (pe_cal c__law_rule (hr.mono (by decide)) (pa_cons (pv 0) (pa_cons (pv 1) (pa_cons (pv 3) (pa_cons pe_int pa_nil))))) pa_nil)))) pss_nil)))
      (pss_one (ps_ret (pe_tup (pa_cons (pv 1) (pa_cons (pe_callTy call_tuple_of (by rfl) B.b_tuple PyProof.Rows.boot_tuple (pa_cons (pv 4) pa_nil)) (pa_cons (pe_ix ix_list (pe_lst (pa_cons pe_str (pa_cons pe_str (pa_cons pe_str pa_nil)))) (pe_cal c__law_next (hr.mono (by decide)) (pa_cons (pv 0) (pa_cons pe_int pa_nil))) (fun _ _ => rfl)) pa_nil))))))))), ?_⟩
  refine ⟨(by show 12 ≤ sizeLine; decide), fun l0 n0 => ⟨Nat.zero_le _, fun li ni => ⟨_, _, rfl, ?_⟩⟩⟩
  have s1 : Same H (upd H l0 (.lst (names12.map V.str))) := (Same.refl H).put n0
  have s2 : Same H (upd (upd H l0 (.lst (names12.map V.str))) li (.lst [])) := s1.put' ni
  have i0 : l0 ≠ li := ne_of_none upd_same ni
  have e0 : (upd (upd H l0 (.lst (names12.map V.str))) li (.lst [])) l0 = some (.lst (names12.map V.str)) := by rw [upd_ne i0]; exact upd_same
  have ei : (upd (upd H l0 (.lst (names12.map V.str))) li (.lst [])) li = some (.lst []) := upd_same
  have fi : H li = none := s1.free ni
  obtain ⟨ia, il⟩ := R.no fi
  obtain ⟨za, zl⟩ := R.no n0
  have R2 := R.same s2
  refine ⟨_, rfl, _, rfl, a, l, 4, rfl, R2, by decide, small_lim (by decide) (by decide), fun H3 r k3 r0 r1 => ?_⟩
  obtain ⟨k, rfl⟩ := Int.eq_ofNat_of_zero_le r0
  have e03 : H3 l0 = some (.lst (names12.map V.str)) := k3.keep _ _ za zl e0
  have ei3 : H3 li = some (.lst []) := k3.keep _ _ ia il ei
  have k03 : Kp a l H H3 := (Kp.of R s2).trans k3
  refine ⟨_, rfl, ?_⟩
  dsimp only [tNoPart]
  refine ⟨l0, _, rfl, sqL_of e03, fun nl nnl => ?_⟩
  rw [cut_from, ← List.map_drop]
  have s4 : Same H3 (upd H3 nl (.lst ((names12.drop k).map V.str))) := (Same.refl H3).put nnl
  have en4 : (upd H3 nl (.lst ((names12.drop k).map V.str))) nl = some (.lst ((names12.drop k).map V.str)) := upd_same
  have ei4 := s4 _ _ ei3
  have fn : H nl = none := k03.free nnl
  have inl : li ≠ nl := fun z => by rw [z, nnl] at ei3; cases ei3
  have k04 := k03.same s4
  generalize upd H3 nl (.lst ((names12.drop k).map V.str)) = H4 at s4 en4 ei4 k04 ⊢
  obtain ⟨na, nl'⟩ := R.no fn
  refine ⟨_, rfl, _, rfl, m, 1, rfl, rfl, a, l, _, rfl, k04.new, by omega, small_lim (by omega) (by omega), fun H5 r5 k5 r50 r51 => ?_⟩
  obtain ⟨n5, rfl⟩ := Int.eq_ofNat_of_zero_le r50
  have hdl : (names12.drop k).length ≤ 12 := by rw [List.length_drop]; exact Nat.sub_le _ _
  have hdn : ∀ y ∈ names12.drop k, isName y = true := fun y hy => names12_name y (List.mem_of_mem_drop hy)
  refine ⟨_, rfl, by omega, by omega, for_it walk_range (fun i σ H' => ∃ (g : RF) (us : List V) (ns' : List Str) (y5 : Option V), σ = [some (.ref a), some (.ref fp), some (.int (m : Nat)), some (.ref nl), some (.ref li), y5] ∧ Kc a l nl H H' ∧ H' li = some (.lst us) ∧ RowsAt K H' g us ∧ g.every (N2 fs) ∧
      g.names ++ ns' = names12.drop k ∧ H' nl = some (.lst (ns'.map V.str)) ∧ g.dep ≤ 3 ∧ g.nodes.length ≤ i)
    ⟨.nil, [], _, none, rfl, Kp.kc (k04.trans k5), k5.keep _ _ ia il ei4, rfl, trivial, rfl, k5.keep _ _ na nl' en4, Nat.zero_le _, Nat.le_refl _⟩ (fun _ _ _ _ _ => trivial) ?_ ?_⟩
  · rintro i y σ H8 H7 hi ⟨g, us, ns', y5, rfl, kc, ei, hg, hev, hnn, en, hdp, hgl⟩ ⟨rfl, hy⟩
    have hsub : ∀ y ∈ ns', isName y = true := fun y hy => hdn y (by rw [← hnn]; exact List.mem_append_right _ hy)
    have hln : g.names.length + ns'.length = (names12.drop k).length := by rw [← List.length_append, hnn]
    refine ⟨_, rfl, Nat.zero_le _, fun te nte => ⟨.list (ns'.map PyData.str), .list [], .lst (sqL_of (by rw [upd_ne (ne_of_none en nte)]; exact en)) (dps K _ _), .lst sqL_new .nil, shL (fun z hz => name_fine (hsub z hz)), rfl, _, rfl, ?_⟩⟩
    have ed : (PyData.list (ns'.map PyData.str)).eqv (.list []) = decide (ns' = []) := eqvA_nil _
    rw [ed]
    have s9 : Same H7 (upd H7 te (.lst [])) := (Same.refl H7).put nte
    have en9 := s9 _ _ en
    have ei9 := s9 _ _ ei
    have kc9 := kc.same s9
    have hg9 := hg.keeps (N := NoL) s9.keeps
    generalize upd H7 te (.lst []) = H9 at s9 en9 ei9 kc9 hg9 ⊢
    refine bcase (fun c1 => ?_) (fun c1 => ?_)
    · have c1 : ns' ≠ [] := of_decide_eq_false ((Bool.not_eq_true' _).mp c1)
      obtain ⟨x', r', rfl⟩ := List.exists_cons_of_ne_nil c1
      refine ⟨_, rfl, .inl ⟨rfl, _, sqL_of ei9⟩, _, rfl, _, rfl, _, rfl, ?_⟩
      rw [List.length_cons] at hln
      refine ⟨a, l, fp, nl, fs, x', r', 2, rfl, kc9.new, ((kc9.kp fn).tup hS), hfs, hfl, en9, na, nl', hsub, by omega, by decide, fun H10 v n ns2 k10 hrow hN hNe hnn2 en10 hdn2 => ?_⟩
      have ei10 := k10.keep _ _ ia il inl ei9
      have kk10 : Keeps NoL H9 H10 := k10.keeps en9
      refine ⟨li, _, _, rfl, rfl, ei10, ?_, ?_⟩
      · have := hg.len
        have h2 := RF.nodes_le g
        have h3 : g.names.length = g.size := by unfold RF.names; rw [List.length_map, RF.pre_len]
        exact small1000 (by omega)
      have kw : Keeps NoL H10 (upd H10 li (.lst (us ++ [v]))) := keeps_own ei10 id
      refine ⟨g.snoc n, us ++ [v], ns2, _, rfl, (kc9.trans k10).put0 fi, upd_same, rows_snoc ((hg9.keeps kk10).keeps kw) (hrow.keeps kw), RF.snoc_every hev hN hNe, ?_, by rw [upd_ne inl.symm]; exact en10, ?_, by rw [RF.snoc_nodes, List.length_append, List.length_singleton]; omega⟩
      · rw [RF.snoc_names, ← hnn, ← hnn2, List.append_assoc]
        rfl
      · rw [RF.snoc_dep]
        omega
    · exact ⟨g, us, ns', _, rfl, kc9, ei9, hg9, hev, hnn, en9, hdp, Nat.le_succ_of_le hgl⟩
  · rintro σ H7 ⟨g, us, ns', y5, rfl, kc, ei, hg, hev, hnn, en, hdp, hgl⟩
    have hgl : g.nodes.length ≤ n5 := hgl
    refine ⟨_, rfl, _, rfl, li, _, rfl, .inl ⟨sqL_of ei, fun t nt => ?_⟩⟩
    have s8 : Same H7 (upd H7 t (.tup us)) := (Same.refl H7).put nt
    have e8 : (upd H7 t (.tup us)) t = some (.tup us) := upd_same
    have kc8 := kc.same s8
    have hg8 := hg.keeps (N := NoL) s8.keeps
    have en8 := s8 _ _ en
    generalize upd H7 t (.tup us) = H8 at s8 e8 kc8 hg8 en8 ⊢
    refine ⟨(by show 3 ≤ sizeLine; decide), fun lp nlp => ?_⟩
    have s9 : Same H8 (upd H8 lp (.lst (three.map V.str))) := (Same.refl H8).put nlp
    have elp : (upd H8 lp (.lst (three.map V.str))) lp = some (.lst (three.map V.str)) := upd_same
    obtain ⟨la, ll⟩ := kc8.new.no nlp
    have kc9 := kc8.same s9
    refine ⟨_, rfl, a, l, 3, rfl, kc9.new, by decide, small_lim (by decide) (by decide), fun H10 r10 k10 r100 r101 => ?_⟩
    obtain ⟨j, rfl⟩ := Int.eq_ofNat_of_zero_le r100
    have hj : j < three.length := by show j < 3; omega
    have elp10 := k10.keep _ _ la ll elp
    refine ⟨lp, _, _, .str three[j], rfl, rfl, sqL_of elp10, atI_nat (j := j) (by rw [List.getElem?_map, List.getElem?_eq_getElem hj]; rfl), ?_⟩
    have hrl : three[j] ∈ three := List.getElem_mem hj
    generalize three[j] = rl at hrl ⊢
    refine ⟨(by show 3 ≤ sizeLine; decide), fun t2 nt2 => ?_⟩
    have kk : Keeps NoL H8 H10 := s9.keeps.trans k10.keepsN
    have s11 : Same H10 (upd H10 t2 (.tup [.ref fp, .ref t, .str rl])) := (Same.refl H10).put nt2
    refine q _ t2 g rl ((((kc9.trans (Kp.kc k10)).kp fn)).same s11) ⟨⟨t, us, upd_same, s11.tup (kk.tup (sqT_of e8)), (hg8.keeps kk).keeps (N := NoL) s11.keeps⟩, hev, ⟨k, ns', hnn⟩, hdp, hrl⟩ (by omega)
end
end Sc
namespace Sc
open PySem PySem.Spec PyProof.Rows L2
theorem sc__law_made : FnScope ["_law_rules", "_law_found", "_law_name", "_law_holding", "_law_failing", "_law_ruling", "_law_inner"] ["_law_rules"] (defScope s__law_made) := ⟨rfl, rfl, rfl, by decide +kernel, rfl, by decide +kernel, by decide +kernel⟩
theorem sc__law_book : FnScope ["_law_drawn_here"] ["_law_drawn_here"] (defScope s__law_book) := ⟨rfl, rfl, rfl, by decide +kernel, rfl, by decide +kernel, by decide +kernel⟩
section
variable {P : Program} {w : World} {K : PySem.W.Frag} {mg : Str → Option Value} {base : Heap} {C R B CC CR CF CB : Addr}
def sp_made (K : PySem.W.Frag) (C R : Addr) (d : Nat) : Sp := fun vs H Q _ => ∃ (N : Addr → Prop) (p : Addr) (ws : List V) (f : RF), vs = [.ref p] ∧ SqT K H p ws ∧ RowsAt K H f ws ∧ (∀ l, H l = none → N l) ∧ f.dep ≤ d ∧ d ≤ 12 ∧ f.size ≤ 900 ∧ f.every NdOk ∧
  ∀ H' p' us, Same H H' → SqT K H' p' us → ForAt K C R N H' f us → Q (.ref p') H'
theorem ok_made {d : Nat} {f : Addr} {fd : FuncData} (F : Fun K "_law_made" "_law_made" s__law_made f fd) (B : Blt mg) (k_Condition : Mkr P w K mg base 4 "Condition" C ["self", "holding", "failing"] (sp_cond_init K C CC)) (k_Rule : Mkr P w K mg base 16 "Rule" R ["self", "name", "condition", "ruling", "exceptions"] (sp_rule_init K C R CR))
    (c__law_made : Cal P w K mg base CX0 (d + 17) "_law_made" ["_law_rules"] (Below (sp_made K C R) d)) :
    FnOk P w K mg base CX0 (d + 18) f fd ["_law_rules"] (sp_made K C R d) := by
  refine F.ok sc__law_made (fun vs H Q E h => by obtain ⟨N, p, ws, f, rfl, _⟩ := h; rfl) (fun cdv A outer s H vs Q E hr h => ?_)
  obtain ⟨N, p, ws, f, rfl, hP, hX, hN, hd, hd12, hz, hev, q⟩ := h
  refine ⟨_, (pss_cons (ps_set (i := 1) sc__law_made.nd rfl (Or.inl rfl) (pe_lst pa_nil))
      (pss_cons (ps_for PassesOwn.never rfl (pi_tup (pv 0)) (pg_tup (by rfl) (pgs_cons (pg_name (i := 2) sc__law_made.nd rfl (Or.inl rfl)) (pgs_cons (pg_name (i := 3) sc__law_made.nd rfl (Or.inl rfl)) (pgs_cons (pg_name (i := 4) sc__law_made.nd rfl (Or.inl rfl)) (pgs_cons (pg_name (i := 5) sc__law_made.nd rfl (Or.inl rfl)) (pgs_cons (pg_name (i := 6) sc__law_made.nd rfl (Or.inl rfl)) pgs_nil)))))) (pss_one (ps_expr (pe_bm PySem.F.plainAttrs_list PySem.F.slot_list_append PySem.F.type_list_append mt_append (pv 1) (pa_cons (pe_mkN k_Rule (hr.mono (by omega)) (pa_cons (pv 2) (pa_cons (pe_mkN k_Condition (hr.mono (by omega)) (pa_cons (pv 3) (pa_cons (pv 4) pa_nil))) (pa_cons (pv 5) (pa_cons (pe_cal c__law_made hr (pa_cons (pv 6) pa_nil)) pa_nil))))) pa_nil)))))
      (pss_one (ps_ret (pe_callTy call_tuple_of (by rfl) B.b_tuple PyProof.Rows.boot_tuple (pa_cons (pv 1) pa_nil)))))), ?_⟩
  have hA := hX.all
  have hln := hA.len
  have hlz := RF.nodes_le f
  refine ⟨Nat.zero_le _, fun D nD => ?_⟩
  have s0 : Same H (upd H D (.lst [])) := (Same.refl H).put nD
  have e0 : (upd H D (.lst [])) D = some (.lst []) := upd_same
  generalize upd H D (.lst []) = H0 at s0 e0 ⊢
  refine ⟨_, rfl, p, rfl, ⟨_, s0.tup hP⟩, for_it walk_tup (fun i σ H' => ∃ (rs : List V) (y2 y3 y4 y5 y6 : Option V), σ = [some (.ref p), some (.ref D), y2, y3, y4, y5, y6] ∧ Same H H' ∧ H' D = some (.lst rs) ∧ All2 (RefAt K C R (fun l => N l ∧ l ≠ D) H') rs (f.nodes.take i))
    ⟨[], none, none, none, none, none, rfl, s0, e0, .nil⟩ (fun _ _ _ _ ⟨_, _, _, _, _, _, _, s, _⟩ => s.tup hP) ?_ ?_⟩
  · rintro i y σ H4 H3 hi ⟨rs, y2, y3, y4, y5, y6, rfl, s, e, hrs⟩ ⟨rfl, hy⟩
    obtain ⟨n, hn, hrow⟩ := hA.get hy
    have hmem : n ∈ f.nodes := List.mem_of_getElem? hn
    have hdm := RF.dep_mem _ n hmem
    have hsm := RF.size_mem _ n hmem
    obtain ⟨hok, hne⟩ := RF.every_nodes.mp hev n hmem
    obtain ⟨d, rfl⟩ : ∃ d', d = d' + 1 := ⟨d - 1, by omega⟩
    have hrl := hrs.len
    rw [List.length_take] at hrl
    obtain ⟨o, wa, ba, pa, ws', rfl, hO, hW, hB, hPe, hXe⟩ := hrow.keeps (N := NoL) s.keeps
    refine ⟨o, _, rfl, hO, rfl, _, _, rfl, _, _, rfl, _, _, rfl, _, _, rfl, _, _, rfl, rfl, ?_⟩
    refine ⟨_, rfl, .inl ⟨rfl, _, sqL_of e⟩, _, rfl, _, rfl, _, rfl, fun c dxc nc ndc nec => ?_⟩
    have s1 : Same H3 (upd (upd H3 dxc (.own c)) c (.ins C dxc [])) := ((Same.refl H3).put ndc).put nc
    have hlen := hok.len
    refine ⟨c, dxc, wa, ba, n.hs, n.fs, rfl, upd_same, s1.tup hW, s1.tup hB, fw_txts hok.c1, fw_txts hok.c2, by omega, by omega, (fun i e => by rw [hok.c1] at e; cases e), fun _ => ⟨(fun i e => by rw [hok.c2] at e; cases e), fun _ H5 nn zs sX hc hnn hperm hsort => ⟨rfl, ?_⟩⟩⟩
    have s2 : Same H3 H5 := fun b' o' h => sX b' o' (fun e => by rw [e, nc] at h; cases h) (s1 _ _ h)
    have hcond : CondAt K C H5 c n.hs n.fs := ⟨dxc, wa, ba, nn, zs, hc, s2.tup hW, s2.tup hB, hnn, srt_uniq hperm hsort⟩
    have s05 := s.trans s2
    have e5 := s2 _ _ e
    refine ⟨_, rfl, _, rfl, fun l => N l ∧ l ≠ D, pa, ws', n.exc, rfl, s2.tup hPe, hXe.keeps (N := NoL) s2.keeps, fun l nl => ⟨hN l (s05.free nl), (fun z => by rw [z, e5] at nl; cases nl)⟩, by omega, by omega, by omega, hne, fun H6 t us s6 ht hF => ?_⟩
    have e6 := s6 _ _ e5
    intro x dx nx ndx nex
    have s7 : Same H6 (upd (upd H6 dx (.own x)) x (.ins R dx [])) := ((Same.refl H6).put ndx).put nx
    have l1 := name_len hok.nm
    have l2 := name_len hok.rl
    refine ⟨fun l => N l ∧ l ≠ D, x, dx, c, t, n.nm, n.rl, us, n.exc, rfl, upd_same, s7.tup ht, hF.keeps s7.keeps, by omega, by omega, by omega, by omega, (fun e => by rw [hok.nm] at e; cases e), fun _ => ⟨(fun e => by rw [hok.rl] at e; cases e), fun _ H8 l sX8 hx8 nelx nl el => ⟨rfl, ?_⟩⟩⟩
    have s8 : Same H6 H8 := fun b' o' h => sX8 b' o' (fun e => by rw [e, nx] at h; cases h) (s7 _ _ h)
    have s38 := (s2.trans s6).trans s8
    have s08 := s.trans s38
    have e8 := s8 _ _ e6
    have fl : H6 l = none := s7.free nl
    have hnd : NdAt K C R (fun l => N l ∧ l ≠ D) H8 x n := ⟨dx, c, t, l, us, hx8, (hcond.same s6).same s8, s8.tup ht, ⟨⟨hN l ((s05.trans s6).free fl), (fun z => by rw [z, e6] at fl; cases fl)⟩, el⟩, hF.keeps s8.keeps⟩
    refine ⟨D, _, _, rfl, rfl, e8, small1000 (by omega), ?_⟩
    have kk : Keeps (fun l => N l ∧ l ≠ D) H8 (upd H8 D (.lst (rs ++ [.ref x]))) := keeps_own e8 fun z => z.2 rfl
    refine ⟨rs ++ [.ref x], _, _, _, _, _, rfl, s08.put nD, upd_same, ?_⟩
    rw [take_more hn]
    exact (hrs.mono fun _ _ x => (x.keeps s38.keeps).keeps kk).snoc ⟨x, rfl, hnd.keeps kk⟩
  · rintro σ H3 ⟨rs, y2, y3, y4, y5, y6, rfl, s, e, hrs⟩
    rw [hln, List.take_length] at hrs
    refine ⟨_, rfl, D, _, rfl, .inl ⟨sqL_of e, fun t nt => ?_⟩⟩
    have s4 : Same H3 (upd H3 t (.tup rs)) := (Same.refl H3).put nt
    exact q _ t rs (s.trans s4) sqT_new (ForAt.of (hrs.mono fun _ _ ⟨o, e, x⟩ => ⟨o, e, (x.re fun b xs h _ => h.1).keeps s4.keeps⟩))
def sp_book2 (K : PySem.W.Frag) (C R B : Addr) : Sp := fun vs H Q _ => ∃ (N : Addr → Prop) (p fp pr : Addr) (xs : List Str) (last : Str) (ws : List V) (f : RF), vs = [.ref p] ∧ SqT K H p [.ref fp, .ref pr, .str last] ∧ SqT K H fp (xs.map V.str) ∧ Txts xs ∧ xs.length ≤ 1000 ∧ SqT K H pr ws ∧ RowsAt K H f ws ∧ (∀ l, H l = none → N l) ∧ f.every NdOk ∧ f.dep ≤ 12 ∧ f.size ≤ 900 ∧
  firstBad xs = none ∧ firstFault xs (f.pre 0) [] 0 0 = none ∧ isName last = true ∧ ∀ H' o, Same H H' → BookAt K C R B N H' o xs f last → Q (.ref o) H'
theorem ok_book2 {f : Addr} {fd : FuncData} (F : Fun K "_law_book" "_law_book" s__law_book f fd) (Bl : Blt mg) (k_Book : Mkr P w K mg base 17 "Book" B ["self", "facts", "rules", "ruling"] (sp_book_init K C R B CF CB))
    (c__law_made : Cal P w K mg base CX0 30 "_law_made" ["_law_rules"] (sp_made K C R 12)) :
    FnOk P w K mg base CX0 31 f fd ["_law_drawn_here"] (sp_book2 K C R B) := by
  refine F.ok sc__law_book (fun vs H Q E h => by obtain ⟨N, p, fp, pr, xs, last, ws, f, rfl, _⟩ := h; rfl) (fun cdv A outer s H vs Q E hr h => ?_)
  obtain ⟨N, p, fp, pr, xs, last, ws, f, rfl, hO, hS, tS, lS, hP, hX, hN, hev, hd, hz, hb, hff, hlast, q⟩ := h
  refine ⟨_, (pss_one (ps_ret (pe_mkN k_Book (hr.mono (by decide)) (pa_cons (pe_ix ix_tup (pv 0) pe_int (fun _ _ => rfl)) (pa_cons (pe_cal c__law_made (hr.mono (by decide)) (pa_cons (pe_ix ix_tup (pv 0) pe_int (fun _ _ => rfl)) pa_nil)) (pa_cons (pe_ix ix_tup (pv 0) pe_int (fun _ _ => rfl)) pa_nil)))))), ?_⟩
  refine ⟨_, rfl, p, _, 0, _, rfl, rfl, hO, atI_nat (j := 0) rfl, _, rfl, p, _, 1, _, rfl, rfl, hO, atI_nat (j := 1) rfl, N, pr, ws, f, rfl, hP, hX, hN, hd, by decide, hz, hev, fun H4 t us s4 ht hF => ?_⟩
  refine ⟨_, rfl, p, _, 2, _, rfl, rfl, s4.tup hO, atI_nat (j := 2) rfl, fun x dx nx ndx nex => ?_⟩
  have s5 : Same H4 (upd (upd H4 dx (.own x)) x (.ins B dx [])) := ((Same.refl H4).put ndx).put nx
  have s05 := s4.trans s5
  have ll := name_len hlast
  refine ⟨N, x, dx, fp, t, xs, last, us, f, rfl, upd_same, s05.tup hS, tS, lS, s5.tup ht, hF.keeps s5.keeps, hd, hz, fit_of hev, by omega, (fun i ei => by rw [hb] at ei; cases ei), fun _ => ⟨(fun wd i ei => by rw [hff] at ei; cases ei), fun _ => ⟨(fun z => by rw [hlast] at z; cases z), fun _ H6 l us2 sX6 hx6 nelx nl el hus => ⟨rfl, ?_⟩⟩⟩⟩
  have s6 : Same H4 H6 := fun b' o' h => sX6 b' o' (fun e => by rw [e, nx] at h; cases h) (s5 _ _ h)
  have s06 := s4.trans s6
  exact q H6 x s06 ⟨dx, fp, t, l, us, us2, hx6, s06.tup hS, s6.tup ht, hF.keeps s6.keeps, ⟨hN l (s4.free (s5.free nl)), el⟩, hus⟩
end
end Sc
namespace Sc
open PySem PySem.Spec PyProof.Rows L2
theorem sc__law_all : FnScope ["_law_rules", "_law_found", "_law_rule_here"] ["_law_rules"] (defScope s__law_all) := ⟨rfl, rfl, rfl, by decide +kernel, rfl, by decide +kernel, by decide +kernel⟩
section
variable {P : Program} {w : World} {K : PySem.W.Frag} {mg : Str → Option Value} {base : Heap}
def sp_all (K : PySem.W.Frag) (d : Nat) : Sp := fun vs H Q _ => ∃ (p : Addr) (ws : List V) (f : RF), vs = [.ref p] ∧ SqT K H p ws ∧ RowsAt K H f ws ∧ f.dep ≤ d ∧ f.size ≤ 900 ∧ ∀ H' D us, Same H H' → H' D = some (.lst us) → All2 (RowAt K H') us ((f.pre 0).map fun q => q.1) → Q (.ref D) H'
theorem pre_fst : ∀ (f : RF) (k : Nat), (f.pre k).map (fun q => q.1) = (f.pre 0).map fun q => q.1 := by
  intro f
  have h : ∀ (f : RF) (k j : Nat), (f.pre k).map (fun q => q.1) = (f.pre j).map fun q => q.1 := by
    intro f
    induction f with
    | nil => intro k j; rfl
    | cons nm hs fs rl exc rest ih1 ih2 =>
      intro k j
      show _ :: (exc.pre (k + 1) ++ rest.pre k).map _ = _ :: (exc.pre (j + 1) ++ rest.pre j).map _
      rw [List.map_append, List.map_append, ih1 (k + 1) (j + 1), ih2 k j]
  exact fun k => h f k 0
theorem ok_all {d : Nat} {f : Addr} {fd : FuncData} (F : Fun K "_law_all" "_law_all" s__law_all f fd) (B : Blt mg) (c__law_all : Cal P w K mg base CX0 (d + 1) "_law_all" ["_law_rules"] (Below (sp_all K) d)) :
    FnOk P w K mg base CX0 (d + 2) f fd ["_law_rules"] (sp_all K d) := by
  refine F.ok sc__law_all (fun vs H Q E h => by obtain ⟨p, ws, f, rfl, _⟩ := h; rfl) (fun cdv A outer s H vs Q E hr h => ?_)
  obtain ⟨p, ws, f, rfl, hP, hX, hd, hz, q⟩ := h
  have hA := hX.all
  have hln := hA.len
  have hlz := RF.nodes_le f
  refine ⟨_, (pss_cons (ps_set (i := 1) sc__law_all.nd rfl (Or.inl rfl) (pe_lst pa_nil))
      (pss_cons (ps_for PassesOwn.never rfl (pi_tup (pv 0)) (pg_name (i := 2) sc__law_all.nd rfl (Or.inl rfl)) (pss_one (ps_set (i := 1) sc__law_all.nd rfl (Or.inl rfl) (pe_op op_cat (pe_op op_cat (pv 1) (pe_lst (pa_cons (pv 2) pa_nil))) (pe_cal c__law_all hr (pa_cons (pe_ix ix_tup (pv 2) pe_int (fun _ _ => rfl)) pa_nil))))))
      (pss_one (ps_ret (pv 1))))), ?_⟩
  refine ⟨Nat.zero_le _, fun D0 nD0 => ⟨_, rfl, p, rfl, ⟨_, ((Same.refl H).put nD0).tup hP⟩, for_it walk_tup (fun i σ H' => ∃ (D : Addr) (us : List V) (y : Option V), σ = [some (.ref p), some (.ref D), y] ∧ Same H H' ∧ H' D = some (.lst us) ∧ All2 (RowAt K H') us ((RF.preL (f.nodes.take i) 0).map fun q => q.1))
    ⟨D0, [], none, rfl, (Same.refl H).put nD0, upd_same, .nil⟩ (fun _ _ _ _ ⟨_, _, _, _, s, _⟩ => s.tup hP) ?_ ?_⟩⟩
  · rintro i y σ H3 H2 hi ⟨D, us, y', rfl, s, e, hu⟩ ⟨rfl, hy⟩
    obtain ⟨n, hn, hrow⟩ := hA.get hy
    have hmem : n ∈ f.nodes := List.mem_of_getElem? hn
    have hdm := RF.dep_mem f n hmem
    have hsm := RF.size_mem f n hmem
    obtain ⟨d, rfl⟩ : ∃ d', d = d' + 1 := ⟨d - 1, by omega⟩
    have hul := hu.len
    rw [List.length_map] at hul
    have hpl := RF.preL_len (f := f) (i := i) (k := 0)
    have hrow2 := hrow.keeps (N := NoL) s.keeps
    refine ⟨_, rfl, _, rfl, (by show 1 ≤ sizeLine; decide), fun l1 n1 => ?_⟩
    have s1 : Same H2 (upd H2 l1 (.lst [y])) := (Same.refl H2).put n1
    have m1 : (upd H2 l1 (.lst [y])) l1 = some (.lst [y]) := upd_same
    generalize upd H2 l1 (.lst [y]) = H4 at s1 m1 ⊢
    refine ⟨D, l1, _, _, rfl, rfl, s1 _ _ e, m1, by rw [sizeLine_eq]; show us.length + 1 ≤ _; omega, fun l2 n2 => ?_⟩
    have s2 : Same H4 (upd H4 l2 (.lst (us ++ [y]))) := (Same.refl H4).put n2
    have m2 : (upd H4 l2 (.lst (us ++ [y]))) l2 = some (.lst (us ++ [y])) := upd_same
    generalize upd H4 l2 (.lst (us ++ [y])) = H5 at s2 m2 ⊢
    have s25 := s1.trans s2
    obtain ⟨o, wa, ba, pa, ws', ho, hO, hW, hB, hPe, hXe⟩ := hrow2.keeps (N := NoL) s25.keeps
    refine ⟨_, rfl, o, _, 4, _, ho, rfl, hO, atI_nat (j := 4) rfl, pa, ws', n.exc, rfl, hPe, hXe, by omega, by omega, fun H6 D6 us6 s6 e6 hu6 => ?_⟩
    have hl6 := hu6.len
    rw [List.length_map, RF.pre_len] at hl6
    refine ⟨l2, D6, _, _, rfl, rfl, s6 _ _ m2, e6, by rw [List.length_append, sizeLine_eq]; show us.length + 1 + _ ≤ _; omega, fun l7 n7 => ?_⟩
    have s7 : Same H6 (upd H6 l7 (.lst (us ++ [y] ++ us6))) := (Same.refl H6).put n7
    have s27 := (s25.trans s6).trans s7
    refine ⟨l7, _, _, rfl, s.trans s27, upd_same, ?_⟩
    rw [RF.preL_more hn, List.map_append, List.map_cons, pre_fst n.exc 1]
    have h1 := ((hu.mono fun _ _ x => x.keeps (N := NoL) s27.keeps).snoc (hrow2.keeps (N := NoL) s27.keeps)).app (hu6.mono fun _ _ x => x.keeps (N := NoL) s7.keeps)
    rw [List.append_assoc (List.map _ _)] at h1
    exact h1
  · rintro σ H2 ⟨D, us, y, rfl, s, e, hu⟩
    rw [hln, RF.preL_all] at hu
    exact ⟨_, rfl, q H2 D us s e hu⟩
end
end Sc
namespace Sc
open PySem PySem.Spec PyProof.Rows L2
/-- a block within a block that uses no name from around -/
theorem blkOk_any {N : List Str} {sc sc' scope : Scope} {own : List (Str × Nat)} (h : BlkOk N sc scope own) (nf : (scope.names.all fun y => match y.2 with | .free => false | _ => true) = true) : BlkOk N sc' scope own :=
  ⟨h.kind, h.uniq, h.ix, fun y hy e => by
    have q := List.all_eq_true.mp nf y hy
    rw [e] at q
    exact Bool.noConfusion q, h.own⟩
/-! ### a list of whatever items against an empty one -/
def rNilE (neg : Bool) : R2 := fun x y H Q => ∃ (a b : Addr) (xs : List V), x = .ref a ∧ y = .ref b ∧ H a = some (.lst xs) ∧ H b = some (.lst []) ∧ Q (.bl (if neg then !xs.isEmpty else xs.isEmpty)) H
section
variable {X : Cx}
theorem op_neE (hu : X.A.units + 64 < cLine) : OpR X (compareOp .NotEq) (rNilE true) := by
  intro pins s σ H x y v u Q I rx ry h
  obtain ⟨a, b, xs, rfl, rfl, ha, hb, q⟩ := h
  cases rx
  cases ry
  obtain ⟨its, r, p1, _⟩ := I.list (.inl (.inl ha))
  obtain ⟨its2, r2, p2, _⟩ := I.list (.inl (.inl hb))
  have h1 := r.length
  have h2 := r2.length
  have z2 : its2 = [] := List.length_eq_zero_iff.mp (by rw [← h2]; rfl)
  subst z2
  cases xs with
  | nil =>
    have z1 : its = [] := List.length_eq_zero_iff.mp (by rw [← h1]; rfl)
    subst z1
    exact EqBoolInt.of_rcne (SeqAt.RcNeAt.lists (e := fun _ => true) p1.isList p2.isList rfl (by omega) (fun j hj _ => absurd hj (Nat.not_lt_zero j))) ⟨.bl _, H, I, rfl, q⟩
  | cons z r0 =>
    exact EqBoolInt.of_rcne (SeqAt.RcNeAt.lists_lengths p1.isList p2.isList (by
      have : its.length ≠ 0 := by rw [← h1, List.length_cons]; omega
      simpa using fun e => this (by rw [e]; rfl)) (by omega)) ⟨.bl _, H, I, rfl, q⟩
theorem op_eqE (hu : X.A.units + 64 < cLine) : OpR X (compareOp .Eq) (rNilE false) := by
  intro pins s σ H x y v u Q I rx ry h
  obtain ⟨a, b, xs, rfl, rfl, ha, hb, q⟩ := h
  cases rx
  cases ry
  obtain ⟨its, r, p1, _⟩ := I.list (.inl (.inl ha))
  obtain ⟨its2, r2, p2, _⟩ := I.list (.inl (.inl hb))
  have h1 := r.length
  have h2 := r2.length
  have z2 : its2 = [] := List.length_eq_zero_iff.mp (by rw [← h2]; rfl)
  subst z2
  cases xs with
  | nil =>
    have z1 : its = [] := List.length_eq_zero_iff.mp (by rw [← h1]; rfl)
    subst z1
    exact EqBoolInt.of_rc (SeqAt.RcAt.lists (e := fun _ => true) p1.isList p2.isList rfl (by omega) (fun j hj _ => absurd hj (Nat.not_lt_zero j))) ⟨.bl _, H, I, rfl, q⟩
  | cons z r0 =>
    exact EqBoolInt.of_rc (SeqAt.RcAt.lists_lengths p1.isList p2.isList (by
      have : its.length ≠ 0 := by rw [← h1, List.length_cons]; omega
      simpa using fun e => this (by rw [e]; rfl)) (by omega)) ⟨.bl _, H, I, rfl, q⟩
end
end Sc
namespace Sc
open PySem PySem.Spec PyProof.Rows L2
/-! ### alike, over lists and tuples wherever they come from -/
theorem tyT {K : PySem.W.Frag} {H : Hp} {a : Addr} {xs : List V} (h : SqT K H a xs) : TyX K H (.ref a) (.type "tuple") := by
  rcases h with (h | ⟨o, h⟩) | ⟨o, its, n, hk, hc, _⟩
  · exact .base (.tup h)
  · exact .fTuple h
  · exact .kTuple hk hc
theorem _root_.L2.TyX.lst {K : PySem.W.Frag} {H : Hp} {a : Addr} {xs : List V} (h : H a = some (.lst xs)) : TyX K H (.ref a) (.type "list") := .base (.lst h)
theorem _root_.L2.TyX.int {K : PySem.W.Frag} {H : Hp} (i : Int) : TyX K H (.int i) (.type "int") := .base (.int i)
theorem _root_.L2.TyX.str {K : PySem.W.Frag} {H : Hp} (x : Str) : TyX K H (.str x) (.type "str") := .base (.str x)
theorem _root_.L2.TyX.tup {K : PySem.W.Frag} {H : Hp} {a : Addr} {xs : List V} (h : SqT K H a xs) : TyX K H (.ref a) (.type "tuple") := tyT h
def rIsTX (K : PySem.W.Frag) (T : String) : List V → Hp → VK → Prop := fun xs H Q => ∃ (x : V) (t : String) (b : Bool), xs = [x, .ty T] ∧ TyX K H x (.type t) ∧ kitB t T = some b ∧ Q (.bl b) H
theorem call_isTX {X : Cx} (T : String) : CallR X (.builtin "isinstance") (rIsTX X.K T) := by
  intro pins s σ H xs us Q I r h
  obtain ⟨x, t, b, ex, ht, hb, q⟩ := h
  exact call_isi pins s σ H xs us Q I r ⟨_, _, _, _, _, ex, .ty _, ht, kit_ty hb, q⟩
inductive AT (K : PySem.W.Frag) (H : Hp) : Nat → V → PyData → Prop where
  | int (n : Nat) (i : Int) : AT K H n (.int i) (.int i)
  | str (n : Nat) (x : Str) : AT K H n (.str x) (.str x)
  | lst {n : Nat} {a : Addr} {xs : List V} {ds : List PyData} (e : H a = some (.lst xs)) (l : xs.length = ds.length) (z : xs.length ≤ 1000000) (all : ∀ (i : Nat) (x : V) (d : PyData), xs[i]? = some x → ds[i]? = some d → AT K H n x d) : AT K H (n + 1) (.ref a) (.list ds)
  | tup {n : Nat} {a : Addr} {xs : List V} {ds : List PyData} (e : SqT K H a xs) (l : xs.length = ds.length) (z : xs.length ≤ 1000000) (all : ∀ (i : Nat) (x : V) (d : PyData), xs[i]? = some x → ds[i]? = some d → AT K H n x d) : AT K H (n + 1) (.ref a) (.tuple ds)
section
variable {P : Program} {w : World} {K : PySem.W.Frag} {mg : Str → Option Value} {base : Heap} {C R B : Addr}
theorem AT.same {H H' : Hp} {n : Nat} {x : V} {d : PyData} (s : Same H H') (h : AT K H n x d) : AT K H' n x d := by
  induction h with
  | int n i => exact .int n i
  | str n x => exact .str n x
  | lst e l z all ih => exact .lst (s _ _ e) l z ih
  | tup e l z all ih => exact .tup (s.tup e) l z ih
def sp_alikeT (K : PySem.W.Frag) (n : Nat) : Sp := fun vs H Q _ => ∃ (x y : V) (d : PyData), vs = [x, y] ∧ AT K H n x d ∧ AT K H n y d ∧ ∀ H', Same H H' → Q (.bl true) H'
/-- the answer where no list or tuple stands -/
theorem ok_alikeT0 {f : Addr} {fd : FuncData} (F : Fun K "_law_alike" "_law_alike" s__law_alike f fd) (B : Blt mg) : FnOk P w K mg base CX0 1 f fd ["_law_found", "_law_due"] (sp_alikeT K 0) := by
  refine F.ok sc__law_alike (fun vs H Q E h => by obtain ⟨x, y, d, rfl, _⟩ := h; rfl) (fun cdv A outer s H vs Q E hr h => ?_)
  obtain ⟨x, y, d, rfl, hx, hy, q⟩ := h
  refine ⟨_, (pss_cons (ps_if (pt_val (pe_callB (call_isTX "dict") (by rfl) B.b_isinstance PyProof.Rows.boot_isinstance (pa_cons (pv 1) (pa_cons (pe_bltn (v := .ty "dict") (by rfl) B.b_dict (by decide +kernel) rfl) pa_nil)))) pss_never pss_nil)
      (pss_cons (ps_if (pt_val (pe_callB call_isiT (by rfl) B.b_isinstance PyProof.Rows.boot_isinstance (pa_cons (pv 1) (pa_cons (pe_tup (pa_cons (pe_bltn (v := .ty "tuple") (by rfl) B.b_tuple PyProof.Rows.boot_tuple rfl) (pa_cons (pe_bltn (v := .ty "list") (by rfl) B.b_list PyProof.Rows.boot_list rfl) pa_nil))) pa_nil)))) pss_never pss_nil)
      (pss_cons (ps_if (PW.pt (pw_or (pt_cmpR op_isN (pv 1) pe_non (nomark _)) (pw_or1 (pt_val (pe_callB (call_isTX "str") (by rfl) B.b_isinstance PyProof.Rows.boot_isinstance (pa_cons (pv 1) (pa_cons (pe_bltn (v := .ty "str") (by rfl) B.b_str PyProof.Rows.boot_str rfl) pa_nil))))))) (pss_one (ps_ret (pe_and (pe_cmpR op_eq (pv 0) (pv 1) (nomark _)) (pe_one (pe_cmpR op_eq (pe_callB (call_isTX "str") (by rfl) B.b_isinstance PyProof.Rows.boot_isinstance (pa_cons (pv 0) (pa_cons (pe_bltn (v := .ty "str") (by rfl) B.b_str PyProof.Rows.boot_str rfl) pa_nil))) (pe_callB (call_isTX "str") (by rfl) B.b_isinstance PyProof.Rows.boot_isinstance (pa_cons (pv 1) (pa_cons (pe_bltn (v := .ty "str") (by rfl) B.b_str PyProof.Rows.boot_str rfl) pa_nil))) (nomark _)))))) pss_nil)
      (pss_one (ps_ret (pe_and (pe_callB (call_isTX "int") (by rfl) B.b_isinstance PyProof.Rows.boot_isinstance (pa_cons (pv 0) (pa_cons (pe_bltn (v := .ty "int") (by rfl) B.b_int PyProof.Rows.boot_int rfl) pa_nil))) (pe_and (pe_cmpR op_eq (pe_callB (call_isTX "bool") (by rfl) B.b_isinstance PyProof.Rows.boot_isinstance (pa_cons (pv 0) (pa_cons (pe_bltn (v := .ty "bool") (by rfl) B.b_bool PyProof.Rows.boot_bool rfl) pa_nil))) (pe_callB (call_isTX "bool") (by rfl) B.b_isinstance PyProof.Rows.boot_isinstance (pa_cons (pv 1) (pa_cons (pe_bltn (v := .ty "bool") (by rfl) B.b_bool PyProof.Rows.boot_bool rfl) pa_nil))) (nomark _)) (pe_one (pe_cmpR op_eq (pv 0) (pv 1) (nomark _)))))))))), ?_⟩
  cases hx with
  | int _ i =>
    cases hy
    refine ⟨_, rfl, _, "int", false, rfl, .int i, by decide +kernel, false, rfl, iteF ?_⟩
    refine ⟨_, rfl, (by show 2 ≤ sizeLine; decide), fun tp ntp => ⟨_, tp, _, .type "int", [.type "tuple", .type "list"], false, rfl, upd_same, .cons (.ty _) (.cons (.ty _) .nil), .base (.int i), kitAny_cons (b := false) (kit_ty (by decide +kernel)) (fun _ => kitAny_cons (b := false) (kit_ty (by decide +kernel)) (fun _ => kitAny_nil) (fun z => nomatch z)) (fun z => nomatch z), false, rfl, iteF ?_⟩⟩
    have s1 : Same H (upd H tp (.tup [.ty "tuple", .ty "list"])) := (Same.refl H).put ntp
    refine ⟨_, rfl, rfl, false, rfl, iteF ⟨_, rfl, _, "int", false, rfl, .int i, by decide +kernel, false, rfl, iteF ?_⟩⟩
    refine ⟨_, rfl, _, "int", true, rfl, .int i, by decide +kernel, true, rfl, iteT ?_⟩
    refine ⟨_, rfl, _, "int", false, rfl, .int i, by decide +kernel, _, rfl, _, "int", false, rfl, .int i, by decide +kernel, rfl, true, rfl, iteT ?_⟩
    refine ⟨_, rfl, _, rfl, rfl, ?_⟩
    rw [decide_eq_true rfl]
    exact q _ s1
  | str _ x =>
    cases hy
    refine ⟨_, rfl, _, "str", false, rfl, .str x, by decide +kernel, false, rfl, iteF ?_⟩
    refine ⟨_, rfl, (by show 2 ≤ sizeLine; decide), fun tp ntp => ⟨_, tp, _, .type "str", [.type "tuple", .type "list"], false, rfl, upd_same, .cons (.ty _) (.cons (.ty _) .nil), .base (.str x), kitAny_cons (b := false) (kit_ty (by decide +kernel)) (fun _ => kitAny_cons (b := false) (kit_ty (by decide +kernel)) (fun _ => kitAny_nil) (fun z => nomatch z)) (fun z => nomatch z), false, rfl, iteF ?_⟩⟩
    have s1 : Same H (upd H tp (.tup [.ty "tuple", .ty "list"])) := (Same.refl H).put ntp
    refine ⟨_, rfl, rfl, false, rfl, iteF ⟨_, rfl, _, "str", true, rfl, .str x, by decide +kernel, true, rfl, iteT ?_⟩⟩
    refine ⟨_, rfl, _, rfl, rfl, decide (V.str x = V.str x), rfl, ?_⟩
    rw [decide_eq_true rfl]
    refine iteT ?_
    refine ⟨_, rfl, _, "str", true, rfl, .str x, by decide +kernel, _, rfl, _, "str", true, rfl, .str x, by decide +kernel, rfl, ?_⟩
    exact q _ s1
theorem ok_alikeT {n : Nat} {f : Addr} {fd : FuncData} (F : Fun K "_law_alike" "_law_alike" s__law_alike f fd) (B : Blt mg) (c__law_alike : Cal P w K mg base CX0 (n + 1) "_law_alike" ["_law_found", "_law_due"] (sp_alikeT K n)) : FnOk P w K mg base CX0 (n + 2) f fd ["_law_found", "_law_due"] (sp_alikeT K (n + 1)) := by
  refine F.ok sc__law_alike (fun vs H Q E h => by obtain ⟨x, y, d, rfl, _⟩ := h; rfl) (fun cdv A outer s H vs Q E hr h => ?_)
  obtain ⟨x, y, d, rfl, hx, hy, q⟩ := h
  refine ⟨_, (pss_cons (ps_if (pt_val (pe_callB (call_isTX "dict") (by rfl) B.b_isinstance PyProof.Rows.boot_isinstance (pa_cons (pv 1) (pa_cons (pe_bltn (v := .ty "dict") (by rfl) B.b_dict (by decide +kernel) rfl) pa_nil)))) pss_never pss_nil)
      (pss_cons (ps_if (pt_val (pe_callB call_isiT (by rfl) B.b_isinstance PyProof.Rows.boot_isinstance (pa_cons (pv 1) (pa_cons (pe_tup (pa_cons (pe_bltn (v := .ty "tuple") (by rfl) B.b_tuple PyProof.Rows.boot_tuple rfl) (pa_cons (pe_bltn (v := .ty "list") (by rfl) B.b_list PyProof.Rows.boot_list rfl) pa_nil))) pa_nil)))) (pss_cons (ps_if (PW.pt (pw_or (pt_not (pt_val (pe_callB call_isiT (by rfl) B.b_isinstance PyProof.Rows.boot_isinstance (pa_cons (pv 0) (pa_cons (pe_tup (pa_cons (pe_bltn (v := .ty "tuple") (by rfl) B.b_tuple PyProof.Rows.boot_tuple rfl) (pa_cons (pe_bltn (v := .ty "list") (by rfl) B.b_list PyProof.Rows.boot_list rfl) pa_nil))) pa_nil))))) (pw_or1 (pt_cmpR op_ne (pe_callB (call_isTX "list") (by rfl) B.b_isinstance PyProof.Rows.boot_isinstance (pa_cons (pv 0) (pa_cons (pe_bltn (v := .ty "list") (by rfl) B.b_list PyProof.Rows.boot_list rfl) pa_nil))) (pe_callB (call_isTX "list") (by rfl) B.b_isinstance PyProof.Rows.boot_isinstance (pa_cons (pv 1) (pa_cons (pe_bltn (v := .ty "list") (by rfl) B.b_list PyProof.Rows.boot_list rfl) pa_nil))) (nomark _))))) (pss_one (ps_ret pe_bl)) pss_nil)
      (pss_cons (ps_if (pt_cmpR op_ne (pe_callB call_len_seq (by rfl) B.b_len PySem.boot_len (pa_cons (pv 0) pa_nil)) (pe_callB call_len_seq (by rfl) B.b_len PySem.boot_len (pa_cons (pv 1) pa_nil)) (nomark _)) (pss_one (ps_ret pe_bl)) pss_nil)
      (pss_one (ps_ret (pe_cmpR (op_eqD hr.units) (pe_lc (own := [("_law_k", 2)]) (g := gName 2) rfl sc__law_alike.nd (pi_range1 (by rfl) B.b_range (pa_cons (pe_callB call_len_seq (by rfl) B.b_len PySem.boot_len (pa_cons (pv 1) pa_nil)) pa_nil)) (blkOk_by (own := [("_law_k", 2)]) (N := ["_law_found", "_law_due", "_law_k"]) (sc := defScope s__law_alike) (by decide +kernel)) (fun _ _ _ _ _ => (pg_name (i := 2) sc__law_alike.nd rfl (Or.inl rfl))) (fun _ _ _ _ _ => (pts_.re (pts_one (pt_not (pt_val (pe_cal c__law_alike hr (pa_cons (pe_ix ix_seq (pv 0) (pv 2) (fun _ _ => rfl)) (pa_cons (pe_ix ix_seq (pv 1) (pv 2) (fun _ _ => rfl)) pa_nil)))))) (by first | (dsimp only [Cx.blk]; done) | exact rfl))) (fun _ _ _ _ _ => (pe_.re (pv 2) (by first | (dsimp only [Cx.blk]; done) | exact rfl)))) (pe_lst pa_nil) (nomark _)))))) pss_nil)
      (pss_cons (ps_if (PW.pt (pw_or (pt_cmpR op_isN (pv 1) pe_non (nomark _)) (pw_or1 (pt_val (pe_callB (call_isTX "str") (by rfl) B.b_isinstance PyProof.Rows.boot_isinstance (pa_cons (pv 1) (pa_cons (pe_bltn (v := .ty "str") (by rfl) B.b_str PyProof.Rows.boot_str rfl) pa_nil))))))) (pss_one (ps_ret (pe_and (pe_cmpR op_eq (pv 0) (pv 1) (nomark _)) (pe_one (pe_cmpR op_eq (pe_callB (call_isTX "str") (by rfl) B.b_isinstance PyProof.Rows.boot_isinstance (pa_cons (pv 0) (pa_cons (pe_bltn (v := .ty "str") (by rfl) B.b_str PyProof.Rows.boot_str rfl) pa_nil))) (pe_callB (call_isTX "str") (by rfl) B.b_isinstance PyProof.Rows.boot_isinstance (pa_cons (pv 1) (pa_cons (pe_bltn (v := .ty "str") (by rfl) B.b_str PyProof.Rows.boot_str rfl) pa_nil))) (nomark _)))))) pss_nil)
      (pss_one (ps_ret (pe_and (pe_callB (call_isTX "int") (by rfl) B.b_isinstance PyProof.Rows.boot_isinstance (pa_cons (pv 0) (pa_cons (pe_bltn (v := .ty "int") (by rfl) B.b_int PyProof.Rows.boot_int rfl) pa_nil))) (pe_and (pe_cmpR op_eq (pe_callB (call_isTX "bool") (by rfl) B.b_isinstance PyProof.Rows.boot_isinstance (pa_cons (pv 0) (pa_cons (pe_bltn (v := .ty "bool") (by rfl) B.b_bool PyProof.Rows.boot_bool rfl) pa_nil))) (pe_callB (call_isTX "bool") (by rfl) B.b_isinstance PyProof.Rows.boot_isinstance (pa_cons (pv 1) (pa_cons (pe_bltn (v := .ty "bool") (by rfl) B.b_bool PyProof.Rows.boot_bool rfl) pa_nil))) (nomark _)) (pe_one (pe_cmpR op_eq (pv 0) (pv 1) (nomark _)))))))))), ?_⟩
  cases hx with
  | int _ i =>
    cases hy
    refine ⟨_, rfl, _, "int", false, rfl, .int i, by decide +kernel, false, rfl, iteF ?_⟩
    refine ⟨_, rfl, (by show 2 ≤ sizeLine; decide), fun tp ntp => ⟨_, tp, _, .type "int", [.type "tuple", .type "list"], false, rfl, upd_same, .cons (.ty _) (.cons (.ty _) .nil), .base (.int i), kitAny_cons (b := false) (kit_ty (by decide +kernel)) (fun _ => kitAny_cons (b := false) (kit_ty (by decide +kernel)) (fun _ => kitAny_nil) (fun z => nomatch z)) (fun z => nomatch z), false, rfl, iteF ?_⟩⟩
    have s1 : Same H (upd H tp (.tup [.ty "tuple", .ty "list"])) := (Same.refl H).put ntp
    refine ⟨_, rfl, rfl, false, rfl, iteF ⟨_, rfl, _, "int", false, rfl, .int i, by decide +kernel, false, rfl, iteF ?_⟩⟩
    refine ⟨_, rfl, _, "int", true, rfl, .int i, by decide +kernel, true, rfl, iteT ?_⟩
    refine ⟨_, rfl, _, "int", false, rfl, .int i, by decide +kernel, _, rfl, _, "int", false, rfl, .int i, by decide +kernel, rfl, true, rfl, iteT ?_⟩
    refine ⟨_, rfl, _, rfl, rfl, ?_⟩
    rw [decide_eq_true rfl]
    exact q _ s1
  | str _ x =>
    cases hy
    refine ⟨_, rfl, _, "str", false, rfl, .str x, by decide +kernel, false, rfl, iteF ?_⟩
    refine ⟨_, rfl, (by show 2 ≤ sizeLine; decide), fun tp ntp => ⟨_, tp, _, .type "str", [.type "tuple", .type "list"], false, rfl, upd_same, .cons (.ty _) (.cons (.ty _) .nil), .base (.str x), kitAny_cons (b := false) (kit_ty (by decide +kernel)) (fun _ => kitAny_cons (b := false) (kit_ty (by decide +kernel)) (fun _ => kitAny_nil) (fun z => nomatch z)) (fun z => nomatch z), false, rfl, iteF ?_⟩⟩
    have s1 : Same H (upd H tp (.tup [.ty "tuple", .ty "list"])) := (Same.refl H).put ntp
    refine ⟨_, rfl, rfl, false, rfl, iteF ⟨_, rfl, _, "str", true, rfl, .str x, by decide +kernel, true, rfl, iteT ?_⟩⟩
    refine ⟨_, rfl, _, rfl, rfl, decide (V.str x = V.str x), rfl, ?_⟩
    rw [decide_eq_true rfl]
    refine iteT ?_
    refine ⟨_, rfl, _, "str", true, rfl, .str x, by decide +kernel, _, rfl, _, "str", true, rfl, .str x, by decide +kernel, rfl, ?_⟩
    exact q _ s1
  | lst e l z all =>
    rename_i p xs ds
    cases hy with
    | lst e2 l2 z2 all2 =>
      rename_i q0 ys
      refine ⟨_, rfl, _, "list", false, rfl, .lst e2, by decide +kernel, false, rfl, iteF ?_⟩
      refine ⟨_, rfl, (by show 2 ≤ sizeLine; decide), fun tp ntp => ?_⟩
      have s1 : Same H (upd H tp (.tup [.ty "tuple", .ty "list"])) := (Same.refl H).put ntp
      refine ⟨_, tp, _, .type "list", [.type "tuple", .type "list"], true, rfl, upd_same, .cons (.ty _) (.cons (.ty _) .nil), .base (.lst (s1 _ _ e2)), kitAny_cons (b := false) (kit_ty (by decide +kernel)) (fun _ => kitAny_cons (b := true) (kit_ty (by decide +kernel)) (fun z => nomatch z) (fun _ => rfl)) (fun z => nomatch z), true, rfl, iteT ?_⟩
      refine ⟨_, rfl, (by show 2 ≤ sizeLine; decide), fun tp2 ntp2 => ?_⟩
      have s2 := s1.put' (o := .tup [.ty "tuple", .ty "list"]) ntp2
      refine ⟨_, tp2, _, .type "list", [.type "tuple", .type "list"], true, rfl, upd_same, .cons (.ty _) (.cons (.ty _) .nil), .base (.lst (s2 _ _ e)), kitAny_cons (b := false) (kit_ty (by decide +kernel)) (fun _ => kitAny_cons (b := true) (kit_ty (by decide +kernel)) (fun z => nomatch z) (fun _ => rfl)) (fun z => nomatch z), true, rfl, iteF ?_⟩
      refine ⟨_, rfl, _, "list", true, rfl, .lst (s2 _ _ e), by decide +kernel, _, rfl, _, "list", true, rfl, .lst (s2 _ _ e2), by decide +kernel, rfl, _, rfl, iteF ?_⟩
      refine ⟨_, rfl, p, _, rfl, .inl (sqL_of (s2 _ _ e)), _, rfl, q0, _, rfl, .inl (sqL_of (s2 _ _ e2)), rfl, _, rfl, ?_⟩
      have el : ((xs.length : Nat) : Int) = (ys.length : Nat) := by rw [l, l2]
      rw [el, decide_eq_true rfl]
      refine iteF ?_
      refine ⟨_, rfl, q0, _, rfl, .inl (sqL_of (s2 _ _ e2)), _, rfl, by omega, by omega, fun D nD => lc_it walk_range (fun i H' => Same H H' ∧ H' D = some (.lst [])) ⟨s2.put' nD, upd_same⟩ (fun _ _ _ _ => trivial) ?_ ?_⟩
      · rintro i y H2 H3 hi ⟨s3, e3⟩ ⟨rfl, hy⟩
        have hy : y = V.int (i : Nat) := by
          rw [hy]
          show V.int (0 + (i : Nat)) = _
          rw [Int.zero_add]
        subst hy
        have hi : i < ys.length := by simpa using hi
        have hix : i < xs.length := by omega
        have hid : i < ds.length := by omega
        refine ⟨rfl, _, rfl, _, rfl, .inl ⟨_, _, (i : Nat), _, rfl, rfl, sqL_of (s3 _ _ e), atI_nat (List.getElem?_eq_getElem hix), ?_⟩⟩
        refine ⟨_, rfl, _, rfl, .inl ⟨_, _, (i : Nat), _, rfl, rfl, sqL_of (s3 _ _ e2), atI_nat (List.getElem?_eq_getElem hi), ?_⟩⟩
        refine ⟨_, _, ds[i], rfl, (all i _ _ (List.getElem?_eq_getElem hix) (List.getElem?_eq_getElem hid)).same s3, (all2 i _ _ (List.getElem?_eq_getElem hi) (List.getElem?_eq_getElem hid)).same s3, fun H4 s4 => ⟨true, rfl, iteF ⟨s3.trans s4, s4 _ _ e3⟩⟩⟩
      · rintro H2 ⟨s3, e3⟩
        refine ⟨Nat.zero_le _, fun p2 np2 => ⟨.list [], .list [], .lst (sqL_of (by rw [upd_ne (ne_of_none e3 np2)]; exact e3)) .nil, .lst sqL_new .nil, rfl, rfl, q _ (s3.put' np2)⟩⟩
  | tup e l z all =>
    rename_i p xs ds
    cases hy with
    | tup e2 l2 z2 all2 =>
      rename_i q0 ys
      refine ⟨_, rfl, _, "tuple", false, rfl, .tup e2, by decide +kernel, false, rfl, iteF ?_⟩
      refine ⟨_, rfl, (by show 2 ≤ sizeLine; decide), fun tp ntp => ?_⟩
      have s1 : Same H (upd H tp (.tup [.ty "tuple", .ty "list"])) := (Same.refl H).put ntp
      refine ⟨_, tp, _, .type "tuple", [.type "tuple", .type "list"], true, rfl, upd_same, .cons (.ty _) (.cons (.ty _) .nil), tyT (s1.tup e2), kitAny_cons (b := true) (kit_ty (by decide +kernel)) (fun z => nomatch z) (fun _ => rfl), true, rfl, iteT ?_⟩
      refine ⟨_, rfl, (by show 2 ≤ sizeLine; decide), fun tp2 ntp2 => ?_⟩
      have s2 := s1.put' (o := .tup [.ty "tuple", .ty "list"]) ntp2
      refine ⟨_, tp2, _, .type "tuple", [.type "tuple", .type "list"], true, rfl, upd_same, .cons (.ty _) (.cons (.ty _) .nil), tyT (s2.tup e), kitAny_cons (b := true) (kit_ty (by decide +kernel)) (fun z => nomatch z) (fun _ => rfl), true, rfl, iteF ?_⟩
      refine ⟨_, rfl, _, "tuple", false, rfl, .tup (s2.tup e), by decide +kernel, _, rfl, _, "tuple", false, rfl, .tup (s2.tup e2), by decide +kernel, rfl, _, rfl, iteF ?_⟩
      refine ⟨_, rfl, p, _, rfl, .inr (s2.tup e), _, rfl, q0, _, rfl, .inr (s2.tup e2), rfl, _, rfl, ?_⟩
      have el : ((xs.length : Nat) : Int) = (ys.length : Nat) := by rw [l, l2]
      rw [el, decide_eq_true rfl]
      refine iteF ?_
      refine ⟨_, rfl, q0, _, rfl, .inr (s2.tup e2), _, rfl, by omega, by omega, fun D nD => lc_it walk_range (fun i H' => Same H H' ∧ H' D = some (.lst [])) ⟨s2.put' nD, upd_same⟩ (fun _ _ _ _ => trivial) ?_ ?_⟩
      · rintro i y H2 H3 hi ⟨s3, e3⟩ ⟨rfl, hy⟩
        have hy : y = V.int (i : Nat) := by
          rw [hy]
          show V.int (0 + (i : Nat)) = _
          rw [Int.zero_add]
        subst hy
        have hi : i < ys.length := by simpa using hi
        have hix : i < xs.length := by omega
        have hid : i < ds.length := by omega
        refine ⟨rfl, _, rfl, _, rfl, .inr (.inl ⟨_, _, (i : Nat), _, rfl, rfl, s3.tup e, atI_nat (List.getElem?_eq_getElem hix), ?_⟩)⟩
        refine ⟨_, rfl, _, rfl, .inr (.inl ⟨_, _, (i : Nat), _, rfl, rfl, s3.tup e2, atI_nat (List.getElem?_eq_getElem hi), ?_⟩)⟩
        refine ⟨_, _, ds[i], rfl, (all i _ _ (List.getElem?_eq_getElem hix) (List.getElem?_eq_getElem hid)).same s3, (all2 i _ _ (List.getElem?_eq_getElem hi) (List.getElem?_eq_getElem hid)).same s3, fun H4 s4 => ⟨true, rfl, iteF ⟨s3.trans s4, s4 _ _ e3⟩⟩⟩
      · rintro H2 ⟨s3, e3⟩
        refine ⟨Nat.zero_le _, fun p2 np2 => ⟨.list [], .list [], .lst (sqL_of (by rw [upd_ne (ne_of_none e3 np2)]; exact e3)) .nil, .lst sqL_new .nil, rfl, rfl, q _ (s3.put' np2)⟩⟩
end
end Sc
namespace Sc
open PySem PySem.Spec PyProof.Rows L2
theorem sc_is_day : FnScope ["value"] ["value"] (defScope s_is_day) := ⟨rfl, rfl, rfl, by decide +kernel, rfl, by decide +kernel, by decide +kernel⟩
theorem sc_check_day : FnScope ["value"] ["value"] (defScope s_check_day) := ⟨rfl, rfl, rfl, by decide +kernel, rfl, by decide +kernel, by decide +kernel⟩
theorem sc_is_span : FnScope ["value", "period", "first", "count", "number"] ["value"] (defScope s_is_span) := ⟨rfl, rfl, rfl, by decide +kernel, rfl, by decide +kernel, by decide +kernel⟩
theorem sc_in_span : FnScope ["span", "day", "period", "first", "count"] ["span", "day"] (defScope s_in_span) := ⟨rfl, rfl, rfl, by decide +kernel, rfl, by decide +kernel, by decide +kernel⟩
theorem sc_check_spans : FnScope ["book", "spans", "name", "span"] ["book", "spans"] (defScope s_check_spans) := ⟨rfl, rfl, rfl, by decide +kernel, rfl, by decide +kernel, by decide +kernel⟩
abbrev SpV (s : Spn) : List V := [.int (s.p : Nat), .int (s.f : Nat), .int (s.c : Nat)]
/-- spans in a dict -/
def SpKv (K : PySem.W.Frag) (H : Hp) (kv : Key × V) (q : Str × Spn) : Prop := kv.1 = .inr q.1 ∧ ∃ t : Addr, kv.2 = .ref t ∧ SqT K H t (SpV q.2)
theorem SpKv.same {K : PySem.W.Frag} {H H' : Hp} {kv : Key × V} {q : Str × Spn} (h : SpKv K H kv q) {N : Addr → Prop} (k : Keeps N H H') : SpKv K H' kv q := by
  obtain ⟨e, t, e2, h⟩ := h
  exact ⟨e, t, e2, k.tup h⟩
/-- what was locked is let go -/
theorem unlock_same {H H2 : Hp} {d : Addr} {od : Obj} {u : HO} (hd : H d = some u) (s : Same (upd H d (.frz od u)) H2) : Same H (upd H2 d u) := fun b o e => by
  by_cases z : b = d
  · subst z
    rw [hd] at e
    cases e
    exact upd_same
  · rw [upd_ne z]
    exact s b o (by rw [upd_ne z]; exact e)
theorem rep_snoc {α : Type} (x : α) (i : Nat) : List.replicate (i + 1) x = List.replicate i x ++ [x] := List.replicate_succ'
section
variable {P : Program} {w : World} {K : PySem.W.Frag} {mg : Str → Option Value} {base : Heap} {C R B : Addr}
def sp_is_day : Sp := fun vs H Q _ => ∃ i : Int, vs = [.int i] ∧ 0 ≤ i ∧ i ≤ lastDay ∧ Q (.bl true) H
theorem ok_is_day {f : Addr} {fd : FuncData} {t1 : Tok} (F : Fun K "is_day" "is_day" s_is_day f fd) (m_LAST_DAY : mg "LAST_DAY" = some (.int lastDay t1)) (c_is_integer : Cal P w K mg base CX0 1 "is_integer" ["value"] (sp_is_integer K)) : FnOk P w K mg base CX0 2 f fd ["value"] sp_is_day := by
  refine F.ok sc_is_day (fun vs H Q E h => by obtain ⟨i, rfl, _⟩ := h; rfl) (fun cdv A outer s H vs Q E hr h => ?_)
  obtain ⟨i, rfl, h0, h1, q⟩ := h
  refine ⟨_, (pss_one (ps_ret (pe_and (pe_cal c_is_integer (hr.mono (by decide)) (pa_cons (pv 0) pa_nil)) (pe_one (pe_chain op_le op_le pe_int (pv 0) (pe_glob (v := .int lastDay) rfl m_LAST_DAY ⟨_, rfl⟩)))))), ?_⟩
  refine ⟨_, rfl, .int i, "int", true, false, rfl, .int i, by decide +kernel, by decide +kernel, _, rfl, iteT ?_⟩
  refine ⟨_, rfl, _, _, rfl, rfl, _, rfl, ?_⟩
  rw [decide_eq_true h0]
  refine iteT ⟨_, _, rfl, rfl, ?_⟩
  show Q (.bl (decide (i ≤ lastDay))) H
  rw [decide_eq_true h1]
  exact q
def sp_check_day : Sp := fun vs H Q _ => ∃ i : Int, vs = [.int i] ∧ 0 ≤ i ∧ i ≤ lastDay ∧ Q .non H
theorem ok_check_day {f : Addr} {fd : FuncData} (F : Fun K "check_day" "check_day" s_check_day f fd) (c_is_day : Cal P w K mg base CX0 2 "is_day" ["value"] sp_is_day) : FnOk P w K mg base CX0 3 f fd ["value"] sp_check_day := by
  refine F.ok sc_check_day (fun vs H Q E h => by obtain ⟨i, rfl, _⟩ := h; rfl) (fun cdv A outer s H vs Q E hr h => ?_)
  obtain ⟨i, rfl, h0, h1, q⟩ := h
  refine ⟨_, (pss_one (ps_if (pt_not (pt_val (pe_cal c_is_day (hr.mono (by decide)) (pa_cons (pv 0) pa_nil)))) pss_never pss_nil)), ?_⟩
  exact ⟨_, rfl, i, rfl, h0, h1, _, rfl, iteF q⟩
def sp_in_span (K : PySem.W.Frag) : Sp := fun vs H Q _ => ∃ (t : Addr) (s : Spn) (day : Int), vs = [.ref t, .int day] ∧ SqT K H t (SpV s) ∧ 1 ≤ s.p ∧ Q (.bl (inS s day)) H
theorem ok_in_span {f : Addr} {fd : FuncData} (F : Fun K "in_span" "in_span" s_in_span f fd) : FnOk P w K mg base CX0 1 f fd ["span", "day"] (sp_in_span K) := by
  refine F.ok sc_in_span (fun vs H Q E h => by obtain ⟨t, s, day, rfl, _⟩ := h; rfl) (fun cdv A outer s H vs Q E hr h => ?_)
  obtain ⟨t, s, day, rfl, hS, hp, q⟩ := h
  refine ⟨_, (pss_cons (ps_asg (pv 0) (pg_tup (by rfl) (pgs_cons (pg_name (i := 2) sc_in_span.nd rfl (Or.inl rfl)) (pgs_cons (pg_name (i := 3) sc_in_span.nd rfl (Or.inl rfl)) (pgs_cons (pg_name (i := 4) sc_in_span.nd rfl (Or.inl rfl)) pgs_nil)))))
      (pss_one (ps_ret (pe_cmpR op_lt (pe_op op_mod (pe_op op_sub (pv 1) (pv 3)) (pv 2)) (pv 4) (nomark _))))), ?_⟩
  refine ⟨_, rfl, t, _, rfl, hS, rfl, _, _, rfl, _, _, rfl, _, _, rfl, rfl, ?_⟩
  refine ⟨_, rfl, _, rfl, _, _, rfl, rfl, _, rfl, _, _, rfl, rfl, by omega, _, rfl, _, _, rfl, rfl, ?_⟩
  exact q
def sp_is_span (K : PySem.W.Frag) : Sp := fun vs H Q _ => ∃ (t : Addr) (s : Spn), vs = [.ref t] ∧ SqT K H t (SpV s) ∧ SpnOk s ∧ ∀ H', Same H H' → Q (.bl true) H'
theorem ok_is_span {f : Addr} {fd : FuncData} {t1 : Tok} (F : Fun K "is_span" "is_span" s_is_span f fd) (Bl : Blt mg) (m_LONGEST_SPAN : mg "LONGEST_SPAN" = some (.int 100 t1)) (c_is_integer : Cal P w K mg base CX0 1 "is_integer" ["value"] (sp_is_integer K)) : FnOk P w K mg base CX0 2 f fd ["value"] (sp_is_span K) := by
  refine F.ok sc_is_span (fun vs H Q E h => by obtain ⟨t, s, rfl, _⟩ := h; rfl) (fun cdv A outer s H vs Q E hr h => ?_)
  obtain ⟨t, s, rfl, hS, hk, q⟩ := h
  refine ⟨_, (pss_cons (ps_if (PW.pt (pw_or (pt_not (pt_val (pe_callB (call_isTX "tuple") (by rfl) Bl.b_isinstance PyProof.Rows.boot_isinstance (pa_cons (pv 0) (pa_cons (pe_bltn (v := .ty "tuple") (by rfl) Bl.b_tuple PyProof.Rows.boot_tuple rfl) pa_nil))))) (pw_or (pt_cmpR op_ne (pe_callB call_len_seq (by rfl) Bl.b_len PySem.boot_len (pa_cons (pv 0) pa_nil)) pe_int (nomark _)) (pw_or1 (pt_not (pt_val (pe_callB (cr_all rfl) (by rfl) Bl.b_all PyProof.Rows.boot_all (pa_cons (pe_lc (own := [("number", 4)]) (g := gName 4) (tt := tYes) rfl sc_is_span.nd (pi_tup (pv 0)) (blkOk_by (own := [("number", 4)]) (N := ["value", "period", "first", "count", "number"]) (sc := defScope s_is_span) (by decide +kernel)) (fun _ _ _ _ _ => (pg_name (i := 4) sc_is_span.nd rfl (Or.inl rfl))) (fun _ _ _ _ _ => pts_nil) (fun _ _ _ _ _ => (pe_.re (pe_cal c_is_integer (hr.mono (by decide)) (pa_cons (pv 4) pa_nil)) (by first | (dsimp only [Cx.blk]; done) | exact rfl)))) pa_nil)))))))) (pss_one (ps_ret pe_bl)) pss_nil)
      (pss_cons (ps_asg (pv 0) (pg_tup (by rfl) (pgs_cons (pg_name (i := 1) sc_is_span.nd rfl (Or.inl rfl)) (pgs_cons (pg_name (i := 2) sc_is_span.nd rfl (Or.inl rfl)) (pgs_cons (pg_name (i := 3) sc_is_span.nd rfl (Or.inl rfl)) pgs_nil)))))
      (pss_one (ps_ret (pe_and (pe_chain op_le op_le pe_int (pv 1) (pe_glob (v := .int 100) rfl m_LONGEST_SPAN ⟨_, rfl⟩)) (pe_and (pe_chain op_le op_lt pe_int (pv 2) (pv 1)) (pe_one (pe_chain op_le op_le pe_int (pv 3) (pv 1))))))))), ?_⟩
  refine ⟨_, rfl, _, "tuple", true, rfl, .tup hS, by decide +kernel, true, rfl, iteF ?_⟩
  refine ⟨_, rfl, t, _, rfl, .inr hS, rfl, _, rfl, iteF ?_⟩
  refine ⟨_, rfl, t, rfl, ⟨_, hS⟩, fun D nD => lc_it walk_tup (fun i H' => Same H H' ∧ H' D = some (.lst (List.replicate i (V.bl true)))) ⟨(Same.refl H).put nD, upd_same⟩ (fun _ _ _ h => h.1.tup hS) ?_ ?_⟩
  · rintro i y H2 H3 hi ⟨s2, e⟩ ⟨rfl, hy⟩
    have hi : i < 3 := hi
    obtain ⟨z, rfl⟩ : ∃ z : Int, y = .int z := by
      match i, hi, hy with
      | 0, _, hy => exact ⟨_, (Option.some.inj hy).symm⟩
      | 1, _, hy => exact ⟨_, (Option.some.inj hy).symm⟩
      | 2, _, hy => exact ⟨_, (Option.some.inj hy).symm⟩
    refine ⟨rfl, yes_ ⟨_, rfl, .int z, "int", true, false, rfl, .int z, by decide +kernel, by decide +kernel, ?_⟩⟩
    exact grow (acc := fun i => List.replicate i (V.bl true)) nD s2 e (by rw [List.length_replicate]; exact small1000 (by omega)) (rep_snoc _ i)
  rintro H2 ⟨s2, e⟩
  have e : H2 D = some (.lst ([true, true, true].map V.bl)) := e
  have hS2 := s2.tup hS
  have p1 := hk.p1
  have p2 := hk.p2
  have f1 := hk.f1
  have c1 := hk.c1
  have c2 := hk.c2
  refine ⟨D, [true, true, true], rfl, sqL_of e, _, rfl, iteF ?_⟩
  refine ⟨_, rfl, t, _, rfl, hS2, rfl, _, _, rfl, _, _, rfl, _, _, rfl, rfl, ?_⟩
  refine ⟨_, rfl, _, _, rfl, rfl, _, rfl, ?_⟩
  rw [decide_eq_true (by omega)]
  refine iteT ⟨_, _, rfl, rfl, _, rfl, ?_⟩
  rw [decide_eq_true (by omega)]
  refine iteT ⟨_, rfl, _, _, rfl, rfl, _, rfl, ?_⟩
  rw [decide_eq_true (by omega)]
  refine iteT ⟨_, rfl, _, _, rfl, rfl, _, rfl, ?_⟩
  rw [decide_eq_true (by omega)]
  refine iteT ⟨_, rfl, _, _, rfl, rfl, _, rfl, ?_⟩
  rw [decide_eq_true (by omega)]
  refine iteT ⟨_, rfl, _, _, rfl, rfl, ?_⟩
  show Q (V.bl (decide (((s.c : Nat) : Int) ≤ ((s.p : Nat) : Int)))) H2
  rw [decide_eq_true (by omega)]
  exact q H2 s2
def sp_check_spans (K : PySem.W.Frag) (C R B : Addr) : Sp := fun vs H Q _ => ∃ (N : Addr → Prop) (b d : Addr) (xs : List Str) (f : RF) (rl : Str) (kvs : List (Key × V)) (sp : List (Str × Spn)), vs = [.ref b, .ref d] ∧ BookAt K C R B N H b xs f rl ∧ f.size ≤ 100 ∧ H d = some (.dK kvs) ∧ All2 (SpKv K H) kvs sp ∧ (∀ q ∈ sp, SpnOk q.2 ∧ q.1 ∈ f.names) ∧ sp.length ≤ 100 ∧ ∀ H', Same H H' → Q .non H'
theorem ok_check_spans {f : Addr} {fd : FuncData} (F : Fun K "check_spans" "check_spans" s_check_spans f fd) (Bl : Blt mg) (mCon : MethO P w K mg base CX0 3 B "__contains__" ["self", "name"] (sp_contains K C R B)) (c_is_span : Cal P w K mg base CX0 2 "is_span" ["value"] (sp_is_span K)) : FnOk P w K mg base CX0 4 f fd ["book", "spans"] (sp_check_spans K C R B) := by
  refine F.ok sc_check_spans (fun vs H Q E h => by obtain ⟨N, b, d, xs, f, rl, kvs, sp, rfl, _⟩ := h; rfl) (fun cdv A outer s H vs Q E hr h => ?_)
  obtain ⟨N, b, d, xs, f, rl, kvs, sp, rfl, hB, hz, hd, hsp, hok, hl, q⟩ := h
  refine ⟨_, (pss_cons (ps_if (pt_val (pe_callB (cr_any rfl) (by rfl) Bl.b_any (by decide +kernel) (pa_cons (pe_lock (pe_lc (own := [("name", 2)]) (g := gName 2) (tt := tYes) rfl sc_check_spans.nd (pi_keys (pv 1)) (blkOk_by (own := [("name", 2)]) (N := ["book", "spans", "name", "span"]) (sc := defScope s_check_spans) (by decide +kernel)) (fun _ _ _ _ _ => (pg_name (i := 2) sc_check_spans.nd rfl (Or.inl rfl))) (fun _ _ _ _ _ => pts_nil) (fun _ _ _ _ _ => (pe_.re (pe_cmpR (op_ninM mCon (hr.mono (by decide))) (pv 2) (pv 0) rfl) (by first | (dsimp only [Cx.blk]; done) | exact rfl))))) pa_nil))) pss_never pss_nil)
      (pss_one (ps_lock (ps_for PassesOwn.never rfl (pi_items (pv 1)) (pg_tup (by rfl) (pgs_cons (pg_name (i := 2) sc_check_spans.nd rfl (Or.inl rfl)) (pgs_cons (pg_name (i := 3) sc_check_spans.nd rfl (Or.inl rfl)) pgs_nil))) (pss_one (ps_if (pt_not (pt_val (pe_cal c_is_span (hr.mono (by decide)) (pa_cons (pv 3) pa_nil)))) pss_never pss_nil)))))), ?_⟩
  have hlen := hsp.len
  have sL : ∀ od : Obj, Keeps N H (upd H d (.frz od (.dK kvs))) := fun od => keeps_dk hd rfl
  refine ⟨d, _, hd, trivial, fun od => ⟨_, rfl, d, od, rfl, .inl ⟨kvs, upd_same, fun D nD => ?_⟩⟩⟩
  have hBL := hB.keeps (sL od)
  generalize hHL : upd H d (.frz od (.dK kvs)) = HL at nD hBL ⊢
  have eL : HL d = some (.frz od (.dK kvs)) := by rw [← hHL]; exact upd_same
  refine lc_it walk_keys (fun i H' => Same HL H' ∧ H' D = some (.lst (List.replicate i (V.bl false)))) ⟨(Same.refl HL).put nD, upd_same⟩ (fun _ _ _ h => h.1 _ _ eL) ?_ ?_
  · rintro i y H2 H3 hi ⟨s2, e⟩ ⟨rfl, k, v, hkv, rfl⟩
    obtain ⟨q0, hq0, hk, _⟩ := hsp.get hkv
    have hk : k = .inr q0.1 := hk
    subst hk
    have hB2 := hBL.keeps (N := N) s2.keeps
    obtain ⟨dx, _, _, _, _, _, hob, _⟩ := id hB2
    have hin := (hok q0 (List.mem_of_getElem? hq0)).2
    refine ⟨rfl, yes_ ⟨_, rfl, _, rfl, b, dx, _, rfl, hob, N, b, xs, f, rl, q0.1, rfl, hB2, by omega, fun H3 s3 => ⟨_, rfl, ?_⟩⟩⟩
    rw [if_pos rfl, decide_eq_true hin]
    exact grow (acc := fun i => List.replicate i (V.bl false)) nD (s2.trans s3) (s3 _ _ e) (by rw [List.length_replicate]; exact small1000 (by have := (List.getElem?_eq_some_iff.mp hkv).1; omega)) (rep_snoc _ i)
  rintro H2 ⟨s2, e⟩
  refine ⟨s2 _ _ eL, ?_⟩
  have hDd : D ≠ d := fun z => by rw [z, eL] at nD; cases nD
  have s02 : Same H (upd H2 d (.dK kvs)) := unlock_same (od := od) hd (by rw [hHL]; exact s2)
  have e2 : (upd H2 d (.dK kvs)) D = some (.lst ((List.replicate kvs.length false).map V.bl)) := by rw [upd_ne hDd, List.map_replicate]; exact e
  generalize upd H2 d (.dK kvs) = H3 at s02 e2 ⊢
  have hany : (List.replicate kvs.length false).any id = false := by
    rw [List.any_eq_false]
    intro x hx
    rw [List.eq_of_mem_replicate hx]
    decide
  refine ⟨D, List.replicate kvs.length false, rfl, sqL_of e2, _, rfl, ?_⟩
  rw [hany]
  refine iteF ?_
  have hd3 := s02 _ _ hd
  refine ⟨d, _, hd3, trivial, fun od => ?_⟩
  have s3L : Keeps N H3 (upd H3 d (.frz od (.dK kvs))) := keeps_dk hd3 rfl
  have hsp3 := hsp.mono fun _ _ x => (x.same (N := N) s02.keeps).same s3L
  generalize hHL3 : upd H3 d (.frz od (.dK kvs)) = HL3 at hsp3 ⊢
  have eL3 : HL3 d = some (.frz od (.dK kvs)) := by rw [← hHL3]; exact upd_same
  refine ⟨_, rfl, d, od, kvs, rfl, eL3, for_it walk_items (fun i σ H' => ∃ y2 y3 : Option V, σ = [some (.ref b), some (.ref d), y2, y3] ∧ Same HL3 H') ⟨none, none, rfl, Same.refl _⟩ (fun _ _ _ _ ⟨_, _, _, s⟩ => s _ _ eL3) ?_ ?_⟩
  · rintro i y σ H4 H5 hi ⟨y2, y3, rfl, s4⟩ ⟨T, v1, v2, rfl, nT, rfl, h1, h2⟩
    have h1 : kvs[i]?.map (fun kv => kV kv.1) = some v1 := h1
    have h2 : kvs[i]?.map Prod.snd = some v2 := h2
    cases hkv : kvs[i]? with
    | none => rw [hkv] at h1; cases h1
    | some kv =>
      rw [hkv] at h1 h2
      obtain ⟨q0, hq0, hk, t, hv, ht⟩ := hsp3.get hkv
      obtain rfl : kV kv.1 = v1 := Option.some.inj h1
      obtain rfl : kv.2 = v2 := Option.some.inj h2
      have s5 := (Same.refl H4).put (o := .tup [kV kv.1, kv.2]) nT
      have hok0 := (hok q0 (List.mem_of_getElem? hq0)).1
      refine ⟨T, _, rfl, sqT_of upd_same, rfl, _, _, rfl, _, _, rfl, rfl, ?_⟩
      refine ⟨_, rfl, t, q0.2, (by rw [hv]; rfl), (s4.trans s5).tup ht, hok0, fun H6 s6 => ?_⟩
      exact ⟨_, rfl, iteF ⟨_, _, rfl, (s4.trans s5).trans s6⟩⟩
  · rintro σ H4 ⟨y2, y3, rfl, s4⟩
    refine ⟨s4 _ _ eL3, ?_⟩
    exact q _ (s02.trans (unlock_same (od := od) hd3 (by rw [hHL3]; exact s4)))
end
end Sc
namespace Sc
open PySem PySem.Spec PyProof.Rows L2
theorem sc__law_spans : FnScope ["_law_h", "_law_drawn_here", "_law_found", "_law_rule_here", "_law_period_here"] ["_law_h", "_law_drawn_here"] (defScope s__law_spans) := ⟨rfl, rfl, rfl, by decide +kernel, rfl, by decide +kernel, by decide +kernel⟩
theorem sc__law_season : FnScope ["_law_rules", "_law_spans_here", "_law_day", "_law_found", "_law_rule_here", "_law_there", "_law_name", "_law_period_here", "_law_first", "_law_count"] ["_law_rules", "_law_spans_here", "_law_day"] (defScope s__law_season) := ⟨rfl, rfl, rfl, by decide +kernel, rfl, by decide +kernel, by decide +kernel⟩
theorem sc__law_period : FnScope ["_law_spans_here", "_law_found", "_law_name", "_law_span", "_law_k"] ["_law_spans_here"] (defScope s__law_period) := ⟨rfl, rfl, rfl, by decide +kernel, rfl, by decide +kernel, by decide +kernel⟩
/-- a span as the law draws it -/
def SpRow (K : PySem.W.Frag) (H : Hp) (v : V) (q : Str × Spn) : Prop := ∃ t t2 : Addr, v = .ref t ∧ SqT K H t [.str q.1, .ref t2] ∧ SqT K H t2 (SpV q.2)
theorem SpRow.keeps {K : PySem.W.Frag} {N : Addr → Prop} {H H' : Hp} {v : V} {q : Str × Spn} (h : SpRow K H v q) (k : Keeps N H H') : SpRow K H' v q := by
  obtain ⟨t, t2, e, h1, h2⟩ := h
  exact ⟨t, t2, e, k.tup h1, k.tup h2⟩
def pers : List Nat := [1, 2, 3, 4, 6, 7, 12]
theorem pers_ok : ∀ p ∈ pers, 1 ≤ p ∧ p ≤ 12 ∧ p ∣ 84 := by decide
theorem pers_at {j : Nat} (h : j < 7) : ∃ p : Nat, atI ([.int 1, .int 2, .int 3, .int 4, .int 6, .int 7, .int 12] : List V) (j : Nat) = some (.int (p : Nat)) ∧ 1 ≤ p ∧ p ≤ 12 ∧ p ∣ 84 := by
  match j, h with
  | 0, _ => exact ⟨1, rfl, by decide⟩
  | 1, _ => exact ⟨2, rfl, by decide⟩
  | 2, _ => exact ⟨3, rfl, by decide⟩
  | 3, _ => exact ⟨4, rfl, by decide⟩
  | 4, _ => exact ⟨6, rfl, by decide⟩
  | 5, _ => exact ⟨7, rfl, by decide⟩
  | 6, _ => exact ⟨12, rfl, by decide⟩
theorem small_log {p : Nat} (h : p ≤ 12) : ((p : Nat) : Int).natAbs.log2 < 9000 := by
  have : ∀ p : Nat, p < 13 → p.log2 < 9000 := by decide
  exact this p (by omega)
theorem set_same {α : Type} {σ : List α} {i : Nat} {x : α} (h : σ[i]? = some x) : σ.set i x = σ := by
  obtain ⟨hi, rfl⟩ := List.getElem?_eq_some_iff.mp h
  exact List.set_getElem_self hi
theorem rg_flat (a b : Int) : (rgV a b).all flatV = true := by
  rw [List.all_eq_true]
  intro v hv
  obtain ⟨i, _, rfl⟩ := List.mem_map.mp hv
  rfl
theorem inV_rg {m : Int} {c : Nat} (h : 0 ≤ m) : inV (.int m) (rgV 0 (c : Nat)) = decide (m < (c : Nat)) := by
  rw [Bool.eq_iff_iff, decide_eq_true_iff]
  unfold inV rgV
  rw [List.any_eq_true]
  constructor
  · rintro ⟨y, hy, e⟩
    obtain ⟨i, hi, rfl⟩ := List.mem_map.mp hy
    rw [List.mem_range] at hi
    have e : ((0 + (i : Int)) == m) = true := e
    have e := eq_of_beq e
    omega
  · intro hl
    refine ⟨.int m, List.mem_map.mpr ⟨m.toNat, List.mem_range.mpr (by omega), congrArg V.int (by omega)⟩, ?_⟩
    show (m == m) = true
    exact beq_self_eq_true m
theorem rg_ok : ∀ a : Nat, a < 85 → ∀ p : Nat, p < 13 → 1 ≤ a → 1 ≤ p → Builtin.Range.small (a : Int) (((a : Int) * (p : Int)) + 1) (a : Int) = true ∧ Builtin.Range.rangeSize (a : Int) (((a : Int) * (p : Int)) + 1) (a : Int) = (p : Nat) := by decide +kernel
/-- the multiples that are looked at so far and divide -/
def mulN (a p i : Nat) : List Nat := ((List.range i).map fun k => a + k * a).filter fun z => decide (z % p = 0)
theorem mulN_succ (a p i : Nat) : mulN a p (i + 1) = if (a + i * a) % p = 0 then mulN a p i ++ [a + i * a] else mulN a p i := by
  unfold mulN
  rw [List.range_succ, List.map_append, List.filter_append]
  by_cases h : (a + i * a) % p = 0
  · rw [if_pos h]; simp [h]
  · rw [if_neg h]; simp [h]
theorem firstMul : ∀ a : Nat, a < 85 → ∀ p : Nat, p < 13 → 1 ≤ a → 1 ≤ p → (mulN a p p).head? = some (Nat.lcm a p) := by decide +kernel
/-- rules that stay -/
def fltN (p : Str → Bool) (ns : List Nd) : List Nd := (ns.filter fun n => p n.nm).map fun n => n.wE (RF.filt p n.exc)
theorem fltN_snoc (p : Str → Bool) (ns : List Nd) (n : Nd) : fltN p (ns ++ [n]) = if p n.nm = true then fltN p ns ++ [n.wE (RF.filt p n.exc)] else fltN p ns := by
  unfold fltN
  rw [List.filter_append, List.map_append]
  by_cases h : p n.nm = true
  · rw [if_pos h]; simp [h]
  · rw [if_neg h]; simp [h]
theorem filt_nodes (p : Str → Bool) : ∀ f : RF, (RF.filt p f).nodes = fltN p f.nodes
  | .nil => rfl
  | .cons n hs fs rl exc rest => by
    have ih := filt_nodes p rest
    show (RF.filt p (.cons n hs fs rl exc rest)).nodes = fltN p (⟨n, hs, fs, rl, exc⟩ :: rest.nodes)
    have hF : RF.filt p (.cons n hs fs rl exc rest) = if p n = true then .cons n hs fs rl (RF.filt p exc) (RF.filt p rest) else RF.filt p rest := rfl
    rw [hF]
    unfold fltN at ih ⊢
    by_cases h : p n = true
    · rw [if_pos h, List.filter_cons, if_pos h, List.map_cons, ← ih]
      rfl
    · rw [if_neg h, List.filter_cons, if_neg h, ih]
/-- one span more -/
theorem stays_at {sp : List (Str × Spn)} {q : Str × Spn} {i : Nat} {day : Int} {nm : Str} (hn : (sp.map fun q => q.1).Nodup) (h : sp[i]? = some q) : stays (sp.take (i + 1)) day nm = if q.1 = nm then inS q.2 day else stays (sp.take i) day nm := by
  rw [take_more h, stays_snoc]
  by_cases e : q.1 = nm
  · rw [if_pos e, decide_eq_true e]
    have : stays (sp.take i) day nm = true := by
      unfold stays
      rw [List.all_eq_true]
      intro q' hq'
      obtain ⟨j, hj⟩ := List.mem_iff_getElem?.mp hq'
      have hjl := (List.getElem?_eq_some_iff.mp hj).1
      rw [List.length_take] at hjl
      rw [List.getElem?_take_of_lt (by omega)] at hj
      have e1 : (sp.map fun q => q.1)[j]? = some q'.1 := by rw [List.getElem?_map, hj]; rfl
      have e2 : (sp.map fun q => q.1)[i]? = some q.1 := by rw [List.getElem?_map, h]; rfl
      rw [decide_eq_false, Bool.not_false, Bool.true_or]
      intro z
      have := (List.getElem?_inj (List.getElem?_eq_some_iff.mp e1).1 hn).mp (e1.trans (by rw [z, ← e]; exact e2.symm))
      omega
    rw [this, Bool.true_and, Bool.not_true, Bool.false_or]
  · rw [if_neg e, decide_eq_false e, Bool.not_false, Bool.true_or, Bool.and_true]
section
variable {K : PySem.W.Frag} {H : Hp}
theorem sl_39 {b : Addr} {vs : List V} {lo hi : Option Int} {Q : VK} (hS : SqT K H b vs) (q : ∀ p H', Same H H' → SqT K H' p (cutV vs lo hi) → Q (.ref p) H') : rSlA K (.ref b) lo hi H Q :=
  ⟨b, vs, rfl, hS, fun c => q b H (Same.refl H) (by
    have e : cutV vs lo hi = vs := by
      unfold cutV
      rw [c.1, c.2, List.drop_zero, Nat.sub_zero, List.take_length]
    rw [e]
    exact hS), fun _ p np => q p _ ((Same.refl H).put np) sqT_new⟩
theorem cat_39 {b c : Addr} {xs ys : List V} {Q : VK} (hA : SqT K H b xs) (hB : SqT K H c ys) (hl : xs.length + ys.length ≤ sizeLine) (q : ∀ p H', Same H H' → SqT K H' p (xs ++ ys) → Q (.ref p) H') : rCatA K (.ref b) (.ref c) H Q :=
  ⟨b, c, xs, ys, rfl, rfl, hA, hB, hl, fun e => q c H (Same.refl H) (by rw [e]; exact hB), fun _ e => q b H (Same.refl H) (by rw [e, List.append_nil]; exact hA), fun _ _ p np => q p _ ((Same.refl H).put np) sqT_new⟩
end
/-- whether a rule stands, as far as the spans have been looked at -/
def tThere (K : PySem.W.Frag) : TS := fun D σ H => ∃ (q : Str × Spn) (day : Int) (b : Bool) (n : Str) (o : Addr) (vs : List V), σ[2]? = some (some (.int day)) ∧ σ[4]? = some (some (.ref o)) ∧ SqT K H o (.str n :: vs) ∧ σ[5]? = some (some (.bl b)) ∧ σ[6]? = some (some (.str q.1)) ∧ σ[7]? = some (some (.int (q.2.p : Nat))) ∧ σ[8]? = some (some (.int (q.2.f : Nat))) ∧ σ[9]? = some (some (.int (q.2.c : Nat))) ∧ SpnOk q.2 ∧ σ.length = 10 ∧
  ∀ H', Same H H' → D.nx (σ.set 5 (some (.bl (if q.1 = n then inS q.2 day else b)))) H'
section
variable {P : Program} {w : World} {K : PySem.W.Frag} {mg : Str → Option Value} {base : Heap}
def sp_spans (K : PySem.W.Frag) : Sp := fun vs H Q _ => ∃ (a l p fp pr : Addr) (rl : V) (ws : List V) (f : RF), vs = [.ref a, .ref p] ∧ RS H a l ∧ SqT K H p [.ref fp, .ref pr, rl] ∧ SqT K H pr ws ∧ RowsAt K H f ws ∧ f.dep ≤ 3 ∧ f.size ≤ 12 ∧
  ∀ H' D us (sp : List (Str × Spn)), Kp a l H H' → D ≠ a → D ≠ l → H' D = some (.lst us) → All2 (SpRow K H') us sp → (∀ q ∈ sp, SpnOk q.2) → (sp.map fun q => q.1).Sublist f.names → Q (.ref D) H'
theorem ok_spans {f : Addr} {fd : FuncData} (F : Fun K "_law_spans" "_law_spans" s__law_spans f fd) (B : Blt mg) (c__law_next : Cal P w K mg base CX0 1 "_law_next" ["_law_h", "_law_limit"] sp_next) (c__law_all : Cal P w K mg base CX0 14 "_law_all" ["_law_rules"] (sp_all K 12)) : FnOk P w K mg base CX0 15 f fd ["_law_h", "_law_drawn_here"] (sp_spans K) := by
  refine F.ok sc__law_spans (fun vs H Q E h => by obtain ⟨a, l, p, fp, pr, rl, ws, f, rfl, _⟩ := h; rfl) (fun cdv A outer s H vs Q E hr h => ?_)
  obtain ⟨a, l, p, fp, pr, rl, ws, f, rfl, R, hP, hR, hX, hd, hz, q⟩ := h
  refine ⟨_, (pss_cons (ps_set (i := 2) sc__law_spans.nd rfl (Or.inl rfl) (pe_lst pa_nil))
      (pss_cons (ps_for PassesOwn.never rfl (pi_list (pe_cal c__law_all (hr.mono (by decide)) (pa_cons (pe_ix ix_tup (pv 1) pe_int (fun _ _ => rfl)) pa_nil))) (pg_name (i := 3) sc__law_spans.nd rfl (Or.inl rfl)) (pss_one (ps_if (pt_cmpR op_eq (pe_cal c__law_next (hr.mono (by decide)) (pa_cons (pv 0) (pa_cons pe_int pa_nil))) pe_int (nomark _)) (pss_cons (ps_set (i := 4) sc__law_spans.nd rfl (Or.inl rfl) (pe_ix ix_list (pe_lst (pa_cons pe_int (pa_cons pe_int (pa_cons pe_int (pa_cons pe_int (pa_cons pe_int (pa_cons pe_int (pa_cons pe_int pa_nil)))))))) (pe_cal c__law_next (hr.mono (by decide)) (pa_cons (pv 0) (pa_cons pe_int pa_nil))) (fun _ _ => rfl)))
      (pss_one (ps_expr (pe_bm PySem.F.plainAttrs_list PySem.F.slot_list_append PySem.F.type_list_append mt_append (pv 2) (pa_cons (pe_tup (pa_cons (pe_ix ix_tup (pv 3) pe_int (fun _ _ => rfl)) (pa_cons (pe_tup (pa_cons (pv 4) (pa_cons (pe_cal c__law_next (hr.mono (by decide)) (pa_cons (pv 0) (pa_cons (pv 4) pa_nil))) (pa_cons (pe_op op_add pe_int (pe_cal c__law_next (hr.mono (by decide)) (pa_cons (pv 0) (pa_cons (pv 4) pa_nil)))) pa_nil)))) pa_nil))) pa_nil))))) pss_nil)))
      (pss_one (ps_ret (pv 2))))), ?_⟩
  refine ⟨Nat.zero_le _, fun D nD => ?_⟩
  have s0 : Same H (upd H D (.lst [])) := (Same.refl H).put nD
  have e0 : (upd H D (.lst [])) D = some (.lst []) := upd_same
  obtain ⟨Da, Dl⟩ := R.no nD
  have nDH := nD
  generalize upd H D (.lst []) = H0 at s0 e0 ⊢
  refine ⟨_, rfl, p, _, 1, _, rfl, rfl, s0.tup hP, atI_nat (j := 1) rfl, pr, ws, f, rfl, s0.tup hR, hX.keeps (N := NoL) s0.keeps, by omega, by omega, fun H1 D1 us s1 eD1 hus => ?_⟩
  have hul := hus.len
  rw [List.length_map, RF.pre_len] at hul
  have R1 : RS H1 a l := (R.same s0).same s1
  have eDH := s1 _ _ e0
  have hne : ∀ {i : Nat} {v : V}, us[i]? = some v → D1 ≠ D ∧ D1 ≠ a ∧ D1 ≠ l := fun {i v} hv => by
    cases us with
    | nil => rw [List.getElem?_nil] at hv; cases hv
    | cons v0 r =>
      obtain ⟨n0, _, o, _, _, _, _, rfl, _⟩ := hus.get (i := 0) (a := v0) rfl
      refine ⟨fun z => ?_, fun z => ?_, fun z => ?_⟩
      · rw [← z, eD1] at eDH; cases eDH
      · obtain ⟨st, x, ns, h1, h2, _⟩ := R1
        rw [← z, eD1] at h1; cases h1
      · obtain ⟨st, x, ns, h1, h2, _⟩ := R1
        rw [← z, eD1] at h2
        cases ns <;> cases h2
  refine ⟨D1, rfl, ⟨us, sqL_of eD1⟩, for_it walk_list (fun i σ H' => ∃ (y3 y4 : Option V) (ws : List V) (sp : List (Str × Spn)), σ = [some (.ref a), some (.ref p), some (.ref D), y3, y4] ∧ Kc a l D H1 H' ∧ H' D1 = some (.lst us) ∧ H' D = some (.lst ws) ∧ All2 (SpRow K H') ws sp ∧ (∀ q ∈ sp, SpnOk q.2) ∧ (sp.map fun q => q.1).Sublist (f.names.take i)) ⟨none, none, [], [], rfl, .of R1 (Same.refl _), eD1, eDH, .nil, (fun _ h => nomatch h), .slnil⟩ (fun _ _ _ _ ⟨_, _, _, _, _, _, e, _⟩ => sqL_of e) ?_ ?_⟩
  · rintro i y σ H2 H3 hi ⟨y3, y4, ws, sp, rfl, k2, eU, eW, hws, hok, hsub⟩ ⟨rfl, hy⟩
    obtain ⟨d1, d2, d3⟩ := hne hy
    obtain ⟨n, hn, o, wa, ba, pa, ws', rfl, hO, _⟩ := hus.get hy
    have hnm : f.names[i]? = some n.nm := by
      rw [← RF.pre_names f 0]
      rw [List.getElem?_map] at hn ⊢
      cases hp : (f.pre 0)[i]? with
      | none => rw [hp] at hn; cases hn
      | some q => rw [hp] at hn; exact congrArg (fun z => some (Nd.nm z)) (Option.some.inj hn)
    have hlen : ws.length ≤ 12 := by
      have h1 := hsub.length_le
      rw [List.length_map, List.length_take] at h1
      have h2 := hws.len
      omega
    refine ⟨_, rfl, a, l, 2, rfl, k2.new, by decide, by decide, fun H4 r k4 r0 r1 => ⟨rfl, _, rfl, bcase (fun c => ?_) (fun c => ?_)⟩⟩
    · refine ⟨(by show 7 ≤ sizeLine; rw [sizeLine_eq]; decide), fun L nL => ?_⟩
      have k5 := (k2.trans k4.kc).put0 (o := .lst ([.int 1, .int 2, .int 3, .int 4, .int 6, .int 7, .int 12] : List V)) (k2.free eW (k4.free nL))
      have s5 : Same H4 (upd H4 L (.lst ([.int 1, .int 2, .int 3, .int 4, .int 6, .int 7, .int 12] : List V))) := (Same.refl H4).put nL
      have e5 : (upd H4 L (.lst ([.int 1, .int 2, .int 3, .int 4, .int 6, .int 7, .int 12] : List V))) L = some (.lst ([.int 1, .int 2, .int 3, .int 4, .int 6, .int 7, .int 12] : List V)) := upd_same
      have eU5 := s5 _ _ (k4.keep _ _ d2 d3 eU)
      have eW5 := s5 _ _ (k4.keep _ _ Da Dl eW)
      have hws5 := (hws.mono fun _ _ x => x.keeps (N := NoL) k4.keepsN).mono fun _ _ x => x.keeps (N := NoL) s5.keeps
      have nLa := k4.new.no nL
      generalize upd H4 L (.lst ([.int 1, .int 2, .int 3, .int 4, .int 6, .int 7, .int 12] : List V)) = H5 at s5 e5 eU5 eW5 hws5 k5 ⊢
      refine ⟨_, rfl, a, l, 7, rfl, k5.new, by decide, by decide, fun H6 r6 k6 r60 r61 => ?_⟩
      obtain ⟨j, rfl⟩ : ∃ j : Nat, r6 = j := ⟨r6.toNat, by omega⟩
      obtain ⟨per, hat, p1, p2, pd⟩ := pers_at (j := j) (by omega)
      have e6 := k6.keep _ _ nLa.1 nLa.2 e5
      refine ⟨L, _, _, _, rfl, rfl, sqL_of e6, hat, ?_⟩
      have hO6 : SqT K H6 o _ := ((((k2.keeps eDH).trans k4.keepsN).trans s5.keeps).trans k6.keepsN).tup hO
      have eW6 := k6.keep _ _ Da Dl eW5
      have eU6 := k6.keep _ _ d2 d3 eU5
      refine ⟨_, rfl, .inl ⟨rfl, _, sqL_of eW6⟩, _, rfl, _, _, _, _, rfl, rfl, hO6, atI_nat (j := 0) rfl, ?_⟩
      refine ⟨_, rfl, _, rfl, _, rfl, a, l, _, rfl, k6.new, by omega, small_log (by omega), fun H7 r7 k7 r70 r71 => ?_⟩
      refine ⟨_, rfl, _, rfl, a, l, _, rfl, k7.new, by omega, small_log (by omega), fun H8 r8 k8 r80 r81 => ?_⟩
      obtain ⟨j7, rfl⟩ : ∃ j : Nat, r7 = j := ⟨r7.toNat, by omega⟩
      obtain ⟨j8, rfl⟩ : ∃ j : Nat, r8 = j := ⟨r8.toNat, by omega⟩
      have eS : ([.int (per : Nat), .int (j7 : Nat), .int (1 + (j8 : Nat))] : List V) = SpV ⟨per, j7, 1 + j8⟩ := by show _ = [V.int _, V.int _, V.int _]; rw [Int.natCast_add]; rfl
      have k68 := k6.trans (k7.trans k8)
      have k08 := k5.trans k68.kc
      have eW8 := k68.keep _ _ Da Dl eW5
      have eU8 := k68.keep _ _ d2 d3 eU5
      have hws8 := hws5.mono fun _ _ x => x.keeps (N := NoL) k68.keepsN
      refine ⟨_, _, rfl, rfl, (by show 3 ≤ sizeLine; rw [sizeLine_eq]; decide), fun t2 nt2 => ⟨(by show 2 ≤ sizeLine; rw [sizeLine_eq]; decide), fun t nt => ?_⟩⟩
      rw [eS] at nt ⊢
      have s9 : Same H8 (upd H8 t2 (.tup (SpV ⟨per, j7, 1 + j8⟩))) := (Same.refl H8).put nt2
      have m9 : (upd H8 t2 (.tup (SpV ⟨per, j7, 1 + j8⟩))) t2 = some (.tup (SpV ⟨per, j7, 1 + j8⟩)) := upd_same
      generalize upd H8 t2 (.tup (SpV ⟨per, j7, 1 + j8⟩)) = H9 at s9 m9 nt ⊢
      have s10 : Same H9 (upd H9 t (.tup [.str n.nm, .ref t2])) := (Same.refl H9).put nt
      have m10 : (upd H9 t (.tup [.str n.nm, .ref t2])) t = some (.tup [.str n.nm, .ref t2]) := upd_same
      generalize upd H9 t (.tup [.str n.nm, .ref t2]) = H10 at s10 m10 ⊢
      have s810 := s9.trans s10
      have eW10 := s810 _ _ eW8
      have k10 := k08.same s810
      have hrow : SpRow K H10 (.ref t) (n.nm, ⟨per, j7, 1 + j8⟩) := ⟨t, t2, rfl, sqT_of m10, s10.tup (sqT_of m9)⟩
      refine ⟨D, ws, _, rfl, rfl, eW10, by rw [sizeLine_eq]; omega, ?_⟩
      have kw : Keeps NoL H10 (upd H10 D (.lst (ws ++ [.ref t]))) := keeps_own eW10 id
      refine ⟨_, _, ws ++ [.ref t], sp ++ [(n.nm, ⟨per, j7, 1 + j8⟩)], rfl, k10.count Da Dl, by rw [upd_ne d1]; exact s810 _ _ eU8, upd_same, ((hws8.mono fun _ _ x => x.keeps (N := NoL) s810.keeps).snoc hrow).mono fun _ _ x => x.keeps kw, fun q hq => ?_, ?_⟩
      · rcases List.mem_append.mp hq with hq | hq
        · exact hok q hq
        · rw [List.mem_singleton.mp hq]
          exact ⟨p1, p2, (by show j7 < per; omega), (by show 1 ≤ 1 + j8; omega), (by show 1 + j8 ≤ per; omega), pd⟩
      · rw [take_more hnm, List.map_append]
        exact hsub.append (List.Sublist.refl _)
    · refine ⟨_, _, ws, sp, rfl, k2.trans k4.kc, k4.keep _ _ d2 d3 eU, k4.keep _ _ Da Dl eW, hws.mono fun _ _ x => x.keeps (N := NoL) k4.keepsN, hok, hsub.trans ?_⟩
      rw [take_more hnm]
      exact List.sublist_append_left _ _
  · rintro σ H2 ⟨y3, y4, ws, sp, rfl, k2, eU, eW, hws, hok, hsub⟩
    refine ⟨_, rfl, q _ D ws sp ⟨R, k2.new, fun b o n1 n2 e => k2.keep _ _ n1 n2 (fun z => ?_) (s1 _ _ (s0 _ _ e))⟩ Da Dl eW hws hok ?_⟩
    · rw [z, nDH] at e; cases e
    · have : us.length = f.names.length := by rw [hul, ← RF.pre_names f 0, List.length_map, RF.pre_len]
      rw [this, List.take_length] at hsub
      exact hsub
def sp_season (K : PySem.W.Frag) (d : Nat) : Sp := fun vs H Q _ => ∃ (p D : Addr) (ws us : List V) (f : RF) (sp : List (Str × Spn)) (day : Int), vs = [.ref p, .ref D, .int day] ∧ SqT K H p ws ∧ RowsAt K H f ws ∧ H D = some (.lst us) ∧ All2 (SpRow K H) us sp ∧ (sp.map fun q => q.1).Nodup ∧ (∀ q ∈ sp, SpnOk q.2) ∧ sp.length ≤ 100 ∧ f.dep ≤ d ∧ f.size ≤ 100 ∧
  ∀ H' p' ws', Same H H' → SqT K H' p' ws' → RowsAt K H' (RF.filt (stays sp day) f) ws' → Q (.ref p') H'
theorem ok_season {d : Nat} {f : Addr} {fd : FuncData} (F : Fun K "_law_season" "_law_season" s__law_season f fd) (B : Blt mg) (c__law_season : Cal P w K mg base CX0 (d + 1) "_law_season" ["_law_rules", "_law_spans_here", "_law_day"] (Below (sp_season K) d)) : FnOk P w K mg base CX0 (d + 2) f fd ["_law_rules", "_law_spans_here", "_law_day"] (sp_season K d) := by
  refine F.ok sc__law_season (fun vs H Q E h => by obtain ⟨p, D, ws, us, f, sp, day, rfl, _⟩ := h; rfl) (fun cdv A outer s H vs Q E hr h => ?_)
  obtain ⟨p, D, ws, us, f, sp, day, rfl, hP, hX, hD, hus, hnd, hok, hl, hd, hz, q⟩ := h
  refine ⟨_, (pss_cons (ps_set (i := 3) sc__law_season.nd rfl (Or.inl rfl) (pe_lst pa_nil))
      (pss_cons (ps_for PassesOwn.never rfl (pi_tup (pv 0)) (pg_name (i := 4) sc__law_season.nd rfl (Or.inl rfl)) (pss_cons (ps_set (i := 5) sc__law_season.nd rfl (Or.inl rfl) pe_bl)
      (pss_cons (ps_for PassesOwn.never rfl (pi_list (pv 1)) (pg_tup (by rfl) (pgs_cons (pg_name (i := 6) sc__law_season.nd rfl (Or.inl rfl)) (pgs_cons (pg_tup (by rfl) (pgs_cons (pg_name (i := 7) sc__law_season.nd rfl (Or.inl rfl)) (pgs_cons (pg_name (i := 8) sc__law_season.nd rfl (Or.inl rfl)) (pgs_cons (pg_name (i := 9) sc__law_season.nd rfl (Or.inl rfl)) pgs_nil)))) pgs_nil))) (pss_one (wk_ps (tThere K) (ps_if (pt_cmpR op_eq (pv 6) (pe_ix ix_tup (pv 4) pe_int (fun _ _ => rfl)) (nomark _)) (pss_one (ps_set (i := 5) sc__law_season.nd rfl (Or.inl rfl) (pe_cmpR op_in_seq (pe_op op_mod (pe_callTy call_int1 (by rfl) B.b_int PyProof.Rows.boot_int (pa_cons (pe_op op_sub (pv 2) (pv 8)) pa_nil)) (pv 7)) (pe_listRg rfl (by rfl) B.b_list (prg_1 (by rfl) B.b_range (pv 9))) rfl))) pss_nil) ?wt)))
      (pss_one (ps_if (pt_val (pv 5)) (pss_one (ps_expr (pe_bm PySem.F.plainAttrs_list PySem.F.slot_list_append PySem.F.type_list_append mt_append (pv 3) (pa_cons (pe_op op_catA (pe_slice sl_tupA (pv 4) po_none (po_some pe_int)) (pe_tup (pa_cons (pe_cal c__law_season hr (pa_cons (pe_ix ix_tup (pv 4) pe_int (fun _ _ => rfl)) (pa_cons (pv 1) (pa_cons (pv 2) pa_nil)))) pa_nil))) pa_nil)))) pss_nil)))))
      (pss_one (ps_ret (pe_callTy call_tuple_of (by rfl) B.b_tuple PyProof.Rows.boot_tuple (pa_cons (pv 3) pa_nil)))))), ?_⟩
  case wt =>
    rintro Dd σ H1 ⟨q, day, b, n, o, vs, g2, g4, hO, g5, g6, g7, g8, g9, hk, gl, q0⟩
    refine ⟨_, g6, _, g4, o, _, _, _, rfl, rfl, hO, atI_nat (j := 0) rfl, rfl, _, rfl, bcase (fun c => ?_) (fun c => ?_)⟩
    · have e : q.1 = n := V.str.inj (of_decide_eq_true c)
      rw [if_pos e] at q0
      have p1 := hk.p1
      have p2 := hk.p2
      have c2 := hk.c2
      refine ⟨_, g2, _, g8, _, _, rfl, rfl, .inl ⟨_, rfl, _, g7, _, _, rfl, rfl, by omega, _, g9, _, rfl, RgOk.of_le (by decide) (by omega) (by decide) (by omega), fun L nL => ?_⟩⟩
      refine ⟨L, _, rfl, .inl (sqL_of upd_same), rfl, rg_flat _ _, ?_⟩
      rw [if_neg (by decide), inV_rg (Int.emod_nonneg _ (by omega))]
      exact q0 _ ((Same.refl H1).put nL)
    · have e : q.1 ≠ n := fun z => absurd (decide_eq_true (congrArg V.str z)) (by rw [show decide (V.str q.1 = V.str n) = false from c]; decide)
      rw [if_neg e] at q0
      have := q0 H1 (Same.refl _)
      rw [set_same g5] at this
      exact this
  have hA := hX.all
  have hln := hA.len
  have hlz := RF.nodes_le f
  have husl := hus.len
  refine ⟨Nat.zero_le _, fun D0 nD0 => ?_⟩
  have s0 : Same H (upd H D0 (.lst [])) := (Same.refl H).put nD0
  have e0 : (upd H D0 (.lst [])) D0 = some (.lst []) := upd_same
  have hD0 : D0 ≠ D := fun z => by rw [z, hD] at nD0; cases nD0
  generalize upd H D0 (.lst []) = H0 at s0 e0 ⊢
  refine ⟨_, rfl, p, rfl, ⟨_, s0.tup hP⟩, for_it walk_tup (fun i σ H' => ∃ (ys : List V) (y4 y5 y6 y7 y8 y9 : Option V), σ = [some (.ref p), some (.ref D), some (.int day), some (.ref D0), y4, y5, y6, y7, y8, y9] ∧ Same H H' ∧ H' D0 = some (.lst ys) ∧ All2 (RowAt K H') ys (fltN (stays sp day) (f.nodes.take i)))
    ⟨[], none, none, none, none, none, none, rfl, s0, e0, .nil⟩ (fun _ _ _ _ ⟨_, _, _, _, _, _, _, _, s, _⟩ => s.tup hP) ?_ ?_⟩
  · rintro i y σ H1 H2 hi ⟨ys, y4, y5, y6, y7, y8, y9, rfl, s2, e2, hys⟩ ⟨rfl, hy⟩
    obtain ⟨n, hn, hrow⟩ := hA.get hy
    have hmem : n ∈ f.nodes := List.mem_of_getElem? hn
    have hdm := RF.dep_mem f n hmem
    have hsm := RF.size_mem f n hmem
    obtain ⟨d, rfl⟩ : ∃ d', d = d' + 1 := ⟨d - 1, by omega⟩
    have hrow2 := hrow.keeps (N := NoL) s2.keeps
    have hD2 := s2 _ _ hD
    obtain ⟨o, wa, ba, pa, ws', ho, hO, hW, hB, hPe, hXe⟩ := id hrow2
    subst ho
    refine ⟨_, rfl, D, rfl, ⟨us, sqL_of hD2⟩, for_it walk_list (fun j σ H' => ∃ (y6 y7 y8 y9 : Option V), σ = [some (.ref p), some (.ref D), some (.int day), some (.ref D0), some (.ref o), some (.bl (stays (sp.take j) day n.nm)), y6, y7, y8, y9] ∧ Same H2 H') ⟨y6, y7, y8, y9, rfl, Same.refl _⟩ (fun _ _ _ _ ⟨_, _, _, _, _, s⟩ => sqL_of (s _ _ hD2)) ?_ ?_⟩
    · rintro j y σ H3 H4 hj ⟨y6, y7, y8, y9, rfl, s3⟩ ⟨rfl, hy⟩
      obtain ⟨q0, hq0, t, t2, rfl, h1, h2⟩ := hus.get hy
      have s4 := s2.trans s3
      have hok0 := hok q0 (List.mem_of_getElem? hq0)
      refine ⟨t, _, rfl, s4.tup h1, rfl, _, _, rfl, _, _, rfl, t2, _, rfl, s4.tup h2, rfl, _, _, rfl, _, _, rfl, _, _, rfl, rfl, rfl, ?_⟩
      refine ⟨q0, day, stays (sp.take j) day n.nm, n.nm, o, _, rfl, rfl, s3.tup hO, rfl, rfl, rfl, rfl, rfl, hok0, rfl, fun H5 s5 => ?_⟩
      rw [stays_at hnd hq0]
      exact ⟨_, _, _, _, rfl, s3.trans s5⟩
    · rintro σ H3 ⟨y6, y7, y8, y9, rfl, s3⟩
      rw [husl, List.take_length]
      have s23 := s2.trans s3
      have hn' := fltN_snoc (stays sp day) (f.nodes.take i) n
      rw [← take_more hn] at hn'
      refine ⟨_, rfl, _, rfl, ?_⟩
      cases hst : stays sp day n.nm with
      | false =>
        rw [hst, if_neg (by decide)] at hn'
        refine iteF ⟨ys, _, _, _, _, _, _, rfl, s23, s3 _ _ e2, by rw [hn']; exact hys.mono fun _ _ x => x.keeps (N := NoL) s3.keeps⟩
      | true =>
        rw [hst, if_pos rfl] at hn'
        refine iteT ?_
        have e3 := s3 _ _ e2
        have hO3 := s3.tup hO
        refine ⟨_, rfl, .inl ⟨rfl, _, sqL_of e3⟩, _, rfl, _, rfl, sl_39 hO3 fun p4 H4 s4 hp4 => ?_⟩
        have s24 := s3.trans s4
        have hO4 := s24.tup hO
        have hW4 := s24.tup hW
        have hB4 := s24.tup hB
        have hPe4 := s24.tup hPe
        have hXe4 := hXe.keeps (N := NoL) s24.keeps
        have s04 := s23.trans s4
        refine ⟨_, rfl, o, _, 4, _, rfl, rfl, hO4, atI_nat (j := 4) rfl, _, rfl, _, rfl, ?_⟩
        refine ⟨_, D, _, us, n.exc, sp, day, rfl, hPe4, hXe4, s04 _ _ hD, hus.mono fun _ _ x => x.keeps (N := NoL) s04.keeps, hnd, hok, hl, by omega, by omega, fun H5 p5 ws5 s5 hp5 hx5 => ⟨(by show 1 ≤ sizeLine; rw [sizeLine_eq]; decide), fun t nt => ?_⟩⟩
        have s6 : Same H5 (upd H5 t (.tup [.ref p5])) := (Same.refl H5).put nt
        have m6 : (upd H5 t (.tup [.ref p5])) t = some (.tup [.ref p5]) := upd_same
        generalize upd H5 t (.tup [.ref p5]) = H6 at s6 m6 ⊢
        have s46 := s5.trans s6
        refine cat_39 (s46.tup hp4) (sqT_of m6) (by show 5 ≤ sizeLine; rw [sizeLine_eq]; decide) fun p7 H7 s7 hp7 => ?_
        have s47 := s46.trans s7
        have hp7 : SqT K H7 p7 [.str n.nm, .ref _, .ref _, .str n.rl, .ref p5] := hp7
        have s37 := s4.trans s47
        have hN : RowAt K H7 (.ref p7) (n.wE (RF.filt (stays sp day) n.exc)) := ⟨p7, _, _, p5, ws5, rfl, hp7, s47.tup hW4, s47.tup hB4, (s6.trans s7).tup hp5, hx5.keeps (N := NoL) (s6.trans s7).keeps⟩
        have e7 := s37 _ _ e3
        have hys7 := (hys.mono fun _ _ x => x.keeps (N := NoL) (s3.trans s37).keeps).snoc hN
        have hyl := hys.len
        have hfl : (fltN (stays sp day) (f.nodes.take i)).length ≤ 100 := by
          unfold fltN
          rw [List.length_map]
          refine Nat.le_trans (List.length_filter_le _ _) ?_
          rw [List.length_take]; omega
        refine ⟨D0, ys, _, rfl, rfl, e7, small1000 (by omega), ?_⟩
        have kw : Keeps NoL H7 (upd H7 D0 (.lst (ys ++ [.ref p7]))) := keeps_own e7 id
        refine ⟨ys ++ [.ref p7], _, _, _, _, _, _, rfl, ?_, upd_same, ?_⟩
        · exact (s23.trans s37).put nD0
        · rw [hn']
          exact hys7.mono fun _ _ x => x.keeps kw
  · rintro σ H2 ⟨ys, y4, y5, y6, y7, y8, y9, rfl, s2, e2, hys⟩
    rw [hln, List.take_length] at hys
    refine ⟨_, rfl, D0, _, rfl, .inl ⟨sqL_of e2, fun l nl => ?_⟩⟩
    have s3 : Same H2 (upd H2 l (.tup ys)) := (Same.refl H2).put nl
    exact q _ l ys (s2.trans s3) (sqT_of upd_same) (RowsAt.of (by rw [filt_nodes]; exact hys.mono fun _ _ x => x.keeps (N := NoL) s3.keeps))
def sp_period (K : PySem.W.Frag) : Sp := fun vs H Q _ => ∃ (D : Addr) (us : List V) (sp : List (Str × Spn)), vs = [.ref D] ∧ H D = some (.lst us) ∧ All2 (SpRow K H) us sp ∧ (∀ q ∈ sp, SpnOk q.2) ∧ sp.length ≤ 100 ∧ ∀ H', Same H H' → Q (.int (perN sp : Nat)) H'
theorem ok_period {f : Addr} {fd : FuncData} (F : Fun K "_law_period" "_law_period" s__law_period f fd) (B : Blt mg) : FnOk P w K mg base CX0 1 f fd ["_law_spans_here"] (sp_period K) := by
  refine F.ok sc__law_period (fun vs H Q E h => by obtain ⟨D, us, sp, rfl, _⟩ := h; rfl) (fun cdv A outer s H vs Q E hr h => ?_)
  obtain ⟨D, us, sp, rfl, hD, hus, hok, hl, q⟩ := h
  refine ⟨_, (pss_cons (ps_set (i := 1) sc__law_period.nd rfl (Or.inl rfl) pe_int)
      (pss_cons (ps_for PassesOwn.never rfl (pi_list (pv 0)) (pg_tup (by rfl) (pgs_cons (pg_name (i := 2) sc__law_period.nd rfl (Or.inl rfl)) (pgs_cons (pg_name (i := 3) sc__law_period.nd rfl (Or.inr rfl)) pgs_nil))) (pss_one (ps_set (i := 1) sc__law_period.nd rfl (Or.inl rfl) (pe_ix ix_list (pe_lc (own := [("_law_k", 4)]) (g := gName 4) rfl sc__law_period.nd (pi_range3 (by rfl) B.b_range (pa_cons (pv 1) (pa_cons (pe_op op_add (pe_op op_mul (pv 1) (pe_ix ix_tup (pv 3) pe_int (fun _ _ => rfl))) pe_int) (pa_cons (pv 1) pa_nil)))) (blkOk_by (own := [("_law_k", 4)]) (N := ["_law_spans_here", "_law_found", "_law_name", "_law_span", "_law_k"]) (sc := defScope s__law_period) (by decide +kernel)) (fun _ _ _ _ _ => (pg_name (i := 4) sc__law_period.nd rfl (Or.inl rfl))) (fun _ _ _ _ _ => (pts_.re (pts_one (pt_cmpR op_eq (pe_op op_mod (pe_callTy call_int1 (by rfl) B.b_int PyProof.Rows.boot_int (pa_cons (pv 4) pa_nil)) (pe_ix ix_tup (pv 3) pe_int (fun _ _ => rfl))) pe_int (nomark _))) (by first | (dsimp only [Cx.blk]; done) | exact rfl))) (fun _ _ _ _ _ => (pe_.re (pv 4) (by first | (dsimp only [Cx.blk]; done) | exact rfl)))) pe_int (fun _ _ => rfl)))))
      (pss_one (ps_ret (pv 1))))), ?_⟩
  have hlen := hus.len
  refine ⟨_, rfl, D, rfl, ⟨us, sqL_of hD⟩, for_it walk_list (fun i σ H' => ∃ y2 y3 y4 : Option V, σ = [some (.ref D), some (.int (perN (sp.take i) : Nat)), y2, y3, y4] ∧ Same H H') ⟨none, none, none, rfl, Same.refl _⟩ (fun _ _ _ _ ⟨_, _, _, _, s⟩ => sqL_of (s _ _ hD)) ?_ ?_⟩
  · rintro i y σ H2 H3 hi ⟨y2, y3, y4, rfl, s2⟩ ⟨rfl, hy⟩
    obtain ⟨q0, hq0, t, t2, rfl, h1, h2⟩ := hus.get hy
    have h1 := s2.tup h1
    have h2 := s2.tup h2
    have hok0 := hok q0 (List.mem_of_getElem? hq0)
    have hpi : perN (sp.take i) ≤ 84 := perN_le fun q hq => hok q (List.mem_of_mem_take hq)
    have hp1 : 1 ≤ perN (sp.take i) := perN_pos fun q hq => hok q (List.mem_of_mem_take hq)
    refine ⟨t, _, rfl, h1, rfl, _, _, rfl, _, _, rfl, rfl, ?_⟩
    have pp1 := hok0.p1
    have pp2 := hok0.p2
    obtain ⟨rg1, rg2⟩ := rg_ok _ (by omega : perN (sp.take i) < 85) _ (by omega : q0.2.p < 13) hp1 pp1
    have hfm := firstMul _ (by omega : perN (sp.take i) < 85) _ (by omega : q0.2.p < 13) hp1 pp1
    refine ⟨_, rfl, _, rfl, _, rfl, t2, _, _, _, rfl, rfl, h2, atI_nat (j := 0) rfl, _, _, rfl, rfl, ?_⟩
    refine ⟨.inl ⟨by omega, by omega⟩, _, _, rfl, rfl, _, rfl, _, _, _, _, rfl, ⟨by omega, by omega, rg1, rg2⟩, fun DL nDL => ?_⟩
    have h2 : SqT K H3 t2 [.int (q0.2.p : Nat), .int (q0.2.f : Nat), .int (q0.2.c : Nat)] := h2
    generalize hA : perN (sp.take i) = A0 at rg1 rg2 hfm hpi hp1 ⊢
    generalize hP : q0.2.p = P0 at rg1 rg2 hfm pp1 pp2 h2 ⊢
    refine lc_it walk_rangeC (fun k H' => Same H3 H' ∧ H' DL = some (.lst ((mulN A0 P0 k).map fun z => V.int (z : Nat)))) ⟨(Same.refl H3).put nDL, upd_same⟩ (fun _ _ _ _ => trivial) ?_ ?_
    · rintro k y H4 H5 hk ⟨s4, e4⟩ ⟨rfl, rfl⟩
      have ez : (A0 : Int) + (k : Nat) * (A0 : Int) = ((A0 + k * A0 : Nat) : Int) := by rw [Int.natCast_add, Int.natCast_mul]
      have em := mulN_succ A0 P0 k
      refine ⟨rfl, _, rfl, .inl ⟨_, rfl, _, rfl, t2, _, _, _, rfl, rfl, s4.tup h2, atI_nat (j := 0) rfl, _, _, rfl, rfl, by omega, rfl, _, rfl, ?_⟩⟩
      show if decide (V.int (((A0 : Int) + (k : Nat) * (A0 : Int)) % (P0 : Nat)) = V.int 0) = true then _ else _
      rw [ez, ← Int.natCast_emod]
      by_cases hz : (A0 + k * A0) % P0 = 0
      · rw [if_pos hz] at em
        rw [hz]
        refine iteT ⟨_, rfl, ?_⟩
        have hl2 : (mulN A0 P0 k).length ≤ k := by unfold mulN; exact Nat.le_trans (List.length_filter_le _ _) (by rw [List.length_map, List.length_range]; exact Nat.le_refl _)
        refine ⟨_, e4, by rw [List.length_map, sizeLine_eq]; omega, s4.put nDL, ?_⟩
        rw [upd_same, em, List.map_append]
        show some (HO.lst (_ ++ [V.int ((A0 : Int) + (k : Nat) * (A0 : Int))])) = _
        rw [ez]
        rfl
      · rw [if_neg hz] at em
        rw [decide_eq_false (fun z => hz (by have := V.int.inj z; omega))]
        refine iteF ⟨s4, ?_⟩
        rw [em]
        exact e4
    rintro H4 ⟨s4, e4⟩
    have hfm0 : (mulN A0 P0 P0)[0]? = some (Nat.lcm A0 P0) := by rw [← List.head?_eq_getElem?]; exact hfm
    refine ⟨DL, _, _, _, rfl, rfl, sqL_of e4, atI_nat (j := 0) (by rw [List.getElem?_map, hfm0]; rfl), ?_⟩
    rw [take_more hq0, perN_snoc, hA, hP]
    exact ⟨_, _, _, rfl, s2.trans s4⟩
  · rintro σ H2 ⟨y2, y3, y4, rfl, s2⟩
    rw [hlen, List.take_length]
    exact ⟨_, rfl, q _ s2⟩
end
end Sc
namespace Sc
open PySem PySem.Spec PyProof.Rows L2
theorem sc_Seasons___init__ : FnScope ["self", "book", "spans", "period", "_", "name"] ["self", "book", "spans"] (defScope s_Seasons___init__) := ⟨rfl, rfl, rfl, by decide +kernel, rfl, by decide +kernel, by decide +kernel⟩
theorem sc_Seasons_period : FnScope ["self"] ["self"] (defScope s_Seasons_period) := ⟨rfl, rfl, rfl, by decide +kernel, rfl, by decide +kernel, by decide +kernel⟩
theorem sc_Seasons___call__ : FnScope ["self", "day", "book", "name", "span"] ["self", "day"] (defScope s_Seasons___call__) := ⟨rfl, rfl, rfl, by decide +kernel, rfl, by decide +kernel, by decide +kernel⟩
theorem dc_it {J : It} {n : Nat} {G : Hp → Prop} {Y : Nat → Hp → V → Hp → Prop} (w : Walk J n G Y) {g : TG} {tt : TT} {tk tv : TE} {vs : List Nat} {σ : L2.St} {H1 : Hp} {D : Addr} {Qd : Hp → Prop} (Pv : Nat → Hp → Prop) (h0 : Pv 0 (upd H1 D (.dK []))) (hG : ∀ i H, i ≤ n → Pv i H → G H)
    (hs : ∀ i x H H', i < n → Pv i H → Y i H x H' → g x (wipe σ vs) H' fun σ2 H2 => wipe σ2 vs = wipe σ vs ∧ tt σ2 H2 fun b H3 =>
      if b = true then tk σ2 H3 fun y H4 => tv σ2 H4 fun z H5 => ∃ (kvs : List (Key × V)) (k : Key), y = kV k ∧ H5 D = some (.dK kvs) ∧ kvs.length < sizeLine ∧ Pv (i + 1) (upd H5 D (.dK (putK kvs k z))) else Pv (i + 1) H3) (hd : ∀ H, Pv n H → Qd H) :
    ∃ W : Nat → Nat → Hp → Prop, (∃ m, W 0 m (upd H1 D (.dK []))) ∧ ∀ i m H, W i m H →
      (J.stop i H ∧ Qd H) ∨ (J.go i H ∧ ∃ Nx : Hp → Prop, (∀ H', Nx H' → ∃ m', m' < m ∧ W (i + 1) m' H') ∧ ∀ x H', J.yld i H x H' → g x (wipe σ vs) H' fun σ2 H2 => wipe σ2 vs = wipe σ vs ∧ tt σ2 H2 fun b H3 =>
        if b = true then tk σ2 H3 fun y H4 => tv σ2 H4 fun z H5 => ∃ (kvs : List (Key × V)) (k : Key), y = kV k ∧ H5 D = some (.dK kvs) ∧ kvs.length < sizeLine ∧ Nx (upd H5 D (.dK (putK kvs k z))) else Nx H3) := by
  refine ⟨fun i m H => m = n - i ∧ i ≤ n ∧ Pv i H, ⟨n, by simp, Nat.zero_le _, h0⟩, ?_⟩
  rintro i m H ⟨rfl, hi, p⟩
  have q := hG i H hi p
  by_cases hlt : i < n
  · exact .inr ⟨w.goes i H hlt q, Pv (i + 1), fun H' p' => ⟨n - (i + 1), by omega, rfl, hlt, p'⟩, fun x H' y => hs i x H H' hlt p (w.yields i H x H' hlt q y)⟩
  · have e : i = n := by omega
    subst e
    exact .inl ⟨w.stops H q, hd H p⟩
theorem valV_at : ∀ {kvs : List (Key × V)} {i : Nat} {k : Key} {v : V}, (kvs.map fun kv => kv.1).Nodup → kvs[i]? = some (k, v) → valV kvs k = some v
  | [], i, k, v, _, h => by cases h
  | kv :: r, 0, k, v, _, h => by
    obtain rfl : kv = (k, v) := Option.some.inj h
    unfold valV
    rw [List.find?_cons, decide_eq_true rfl]
    rfl
  | kv :: r, i + 1, k, v, hn, h => by
    rw [List.getElem?_cons_succ] at h
    rw [List.map_cons, List.nodup_cons] at hn
    have hne : kv.1 ≠ k := fun z => hn.1 (by rw [z]; exact List.mem_map.mpr ⟨(k, v), List.mem_of_getElem? h, rfl⟩)
    have ih := valV_at hn.2 h
    unfold valV at ih ⊢
    rw [List.find?_cons, decide_eq_false hne]
    exact ih
theorem valV_take {kvs : List (Key × V)} {i : Nat} {k : Key} {v : V} (hn : (kvs.map fun kv => kv.1).Nodup) (h : kvs[i]? = some (k, v)) : valV (kvs.take i) k = none := by
  unfold valV
  rw [Option.map_eq_none_iff, List.find?_eq_none]
  intro kv hkv hd
  have hd : kv.1 = k := of_decide_eq_true hd
  obtain ⟨j, hj⟩ := List.mem_iff_getElem?.mp hkv
  have hjl := (List.getElem?_eq_some_iff.mp hj).1
  rw [List.length_take] at hjl
  rw [List.getElem?_take_of_lt (by omega)] at hj
  have e1 : (kvs.map fun kv => kv.1)[j]? = some k := by rw [List.getElem?_map, hj, ← hd]; rfl
  have e2 : (kvs.map fun kv => kv.1)[i]? = some k := by rw [List.getElem?_map, h]; rfl
  have := (List.getElem?_inj (List.getElem?_eq_some_iff.mp e1).1 hn).mp (e1.trans e2.symm)
  omega
theorem keys_nd {K : PySem.W.Frag} {H : Hp} {kvs : List (Key × V)} {sp : List (Str × Spn)} (h : All2 (SpKv K H) kvs sp) (hn : (sp.map fun q => q.1).Nodup) : (kvs.map fun kv => kv.1).Nodup := by
  have e : (kvs.map fun kv => kv.1) = (sp.map fun q => q.1).map Sum.inr := by
    clear hn
    induction h with
    | nil => rfl
    | cons h _ ih => rw [List.map_cons, List.map_cons, List.map_cons, ih, h.1]
  rw [e]
  exact List.Pairwise.map _ (fun a b h e => h (Sum.inr.inj e)) hn
/-- the fields of seasons -/
def seaF (b d : Addr) (p : Nat) : List (Str × V) := putF "_period" (.int (p : Nat)) (putF "_spans" (.ref d) (putF "_book" (.ref b) []))
section
variable {P : Program} {w : World} {K : PySem.W.Frag} {mg : Str → Option Value} {base : Heap} {C R B CB CU SE : Addr}
/-- seasons of a book -/
def SeaAt (K : PySem.W.Frag) (C R B SE : Addr) (N : Addr → Prop) (H : Hp) (x : Addr) (xs : List Str) (f : RF) (rl : Str) (sp : List (Str × Spn)) : Prop := ∃ (dx b d : Addr) (kvs : List (Key × V)), H x = some (.ins SE dx (seaF b d (perN sp))) ∧ BookAt K C R B N H b xs f rl ∧ H d = some (.dK kvs) ∧ All2 (SpKv K H) kvs sp
theorem SeaAt.same {N : Addr → Prop} {H H' : Hp} {x : Addr} {xs : List Str} {f : RF} {rl : Str} {sp : List (Str × Spn)} (h : SeaAt K C R B SE N H x xs f rl sp) (s : Same H H') : SeaAt K C R B SE N H' x xs f rl sp := by
  obtain ⟨dx, b, d, kvs, h1, h2, h3, h4⟩ := h
  exact ⟨dx, b, d, kvs, s _ _ h1, h2.keeps s.keeps, s _ _ h3, h4.mono fun _ _ x => x.same (N := N) s.keeps⟩
def sp_seaInit (K : PySem.W.Frag) (C R B SE : Addr) : Sp := fun vs H Q _ => ∃ (N : Addr → Prop) (o dx b d : Addr) (xs : List Str) (f : RF) (rl : Str) (kvs : List (Key × V)) (sp : List (Str × Spn)), vs = [.ref o, .ref b, .ref d] ∧ H o = some (.ins SE dx []) ∧ BookAt K C R B N H b xs f rl ∧ f.size ≤ 100 ∧ H d = some (.dK kvs) ∧ All2 (SpKv K H) kvs sp ∧ (∀ q ∈ sp, SpnOk q.2 ∧ q.1 ∈ f.names) ∧ (sp.map fun q => q.1).Nodup ∧ sp.length ≤ 100 ∧ ∀ H', SeaAt K C R B SE N H' o xs f rl sp → SameX o H H' → Q .non H'
theorem ok_seaInit {f : Addr} {fd : FuncData} (F : Fun K "__init__" "Seasons.__init__" s_Seasons___init__ f fd) (Bl : Blt mg) (T : Cls K SE) (n1 : NoAttr K SE "_book") (n2 : NoAttr K SE "_spans") (n3 : NoAttr K SE "_period") (m_lcm : mg "lcm" = some (.builtin "math.lcm")) (c_check_spans : Cal P w K mg base CX0 4 "check_spans" ["book", "spans"] (sp_check_spans K C R B)) : FnOk P w K mg base CX0 5 f fd ["self", "book", "spans"] (sp_seaInit K C R B SE) := by
  refine F.ok sc_Seasons___init__ (fun vs H Q E h => by obtain ⟨N, o, dx, b, d, xs, f, rl, kvs, sp, rfl, _⟩ := h; rfl) (fun cdv A outer s H vs Q E hr h => ?_)
  obtain ⟨N, o, dx, b, d, xs, f, rl, kvs, sp, rfl, ho, hB, hz, hd, hsp, hok, hnd, hl, q⟩ := h
  refine ⟨_, (pss_cons (ps_expr (pe_cal c_check_spans (hr.mono (by decide)) (pa_cons (pv 1) (pa_cons (pv 2) pa_nil))))
      (pss_cons (ps_fld (pv 0) (pv 1) rfl)
      (pss_cons (ps_fld (pv 0) (pe_lock (pe_dc (own := [("name", 5)]) (g := gName 5) (tt := tYes) rfl sc_Seasons___init__.nd (pi_keys (pv 2)) (blkOk_by (own := [("name", 5)]) (N := ["self", "book", "spans", "period", "_", "name"]) (sc := defScope s_Seasons___init__) (by decide +kernel)) (fun _ _ _ _ _ => (pg_name (i := 5) sc_Seasons___init__.nd rfl (Or.inl rfl))) (fun _ _ _ _ _ => pts_nil) (fun _ _ _ _ _ => (pe_.re (pv 5) (by first | (dsimp only [Cx.blk]; done) | exact rfl))) (fun _ _ _ _ _ => (pe_.re (pe_dget (Nat.lt_of_le_of_lt (Nat.add_le_add_left (by decide) _) hr.units) (pv 2) (pv 5) (fun _ _ => rfl)) (by first | (dsimp only [Cx.blk]; done) | exact rfl))))) rfl)
      (pss_cons (ps_fld (pv 0) pe_int rfl)
      (pss_one (ps_lock (ps_for PassesOwn.never rfl (pi_values (pv 2)) (pg_tup (by rfl) (pgs_cons (pg_name (i := 3) sc_Seasons___init__.nd rfl (Or.inl rfl)) (pgs_cons (pg_name (i := 4) sc_Seasons___init__.nd rfl (Or.inl rfl)) (pgs_cons (pg_name (i := 4) sc_Seasons___init__.nd rfl (Or.inl rfl)) pgs_nil)))) (pss_one (ps_fld (pv 0) (pe_callBfun cr_lcm rfl m_lcm (pa_cons (pe_fld (pv 0) rfl) (pa_cons (pv 3) pa_nil))) rfl))))))))), ?_⟩
  have hlen := hsp.len
  have hknd := keys_nd hsp hnd
  refine ⟨_, rfl, _, rfl, N, b, d, xs, f, rl, kvs, sp, rfl, hB, hz, hd, hsp, hok, hl, fun H1 s1 => ?_⟩
  have hdo : d ≠ o := fun z => by rw [z, ho] at hd; cases hd
  have bo : b ≠ o := fun z => by
    obtain ⟨dx', _, _, _, _, _, hb, _⟩ := id hB
    rw [z, ho] at hb
    injection hb with hb
    injection hb with _ _ hb
    cases hb
  refine ⟨_, rfl, _, rfl, o, SE, dx, [], rfl, s1 _ _ ho, T, n1, (by show 0 < 1000; decide), ?_⟩
  have x1 : SameX o H (upd H1 o (.ins SE dx (putF "_book" (.ref b) []))) := fun b' ob n e => by rw [upd_ne n]; exact s1 _ _ e
  have ho1 : (upd H1 o (.ins SE dx (putF "_book" (.ref b) []))) o = some (.ins SE dx (putF "_book" (.ref b) [])) := upd_same
  generalize upd H1 o (.ins SE dx (putF "_book" (.ref b) [])) = H2 at x1 ho1 ⊢
  have hd2 := x1 _ _ hdo hd
  have kX : ∀ H', SameX o H H' → Keeps N H H' := fun H' s => SameX.keeps s ho rfl
  refine ⟨d, _, hd2, trivial, fun od => ⟨_, rfl, d, od, rfl, .inl ⟨kvs, upd_same, fun D nD => ?_⟩⟩⟩
  generalize hHL : upd H2 d (.frz od (.dK kvs)) = HL at nD ⊢
  have eL : HL d = some (.frz od (.dK kvs)) := by rw [← hHL]; exact upd_same
  have hDd : D ≠ d := fun z => by rw [z, eL] at nD; cases nD
  refine dc_it walk_keys (fun i H' => Same HL H' ∧ H' D = some (.dK (kvs.take i))) ⟨(Same.refl HL).put nD, upd_same⟩ (fun _ _ _ h => h.1 _ _ eL) ?_ ?_
  · rintro i y H4 H3 hi ⟨s3, e3⟩ ⟨rfl, k, v, hkv, rfl⟩
    refine ⟨rfl, yes_ ⟨_, rfl, _, rfl, _, rfl, d, v, rfl, .inl ⟨kvs, k, .inr ⟨od, s3 _ _ eL⟩, rfl, (valV_at hknd hkv).symm⟩, kvs.take i, k, rfl, e3, small1000 (by rw [List.length_take]; have := (List.getElem?_eq_some_iff.mp hkv).1; omega), s3.put nD, ?_⟩⟩
    rw [upd_same, putK_new v (valV_take hknd hkv), take_more hkv]
  rintro H3 ⟨s3, e3⟩
  rw [List.take_length] at e3
  refine ⟨s3 _ _ eL, ?_⟩
  have s24 : Same H2 (upd H3 d (.dK kvs)) := unlock_same (od := od) hd2 (by rw [hHL]; exact s3)
  have e4 : (upd H3 d (.dK kvs)) D = some (.dK kvs) := by rw [upd_ne hDd]; exact e3
  generalize upd H3 d (.dK kvs) = H4 at s24 e4 ⊢
  have x4 : SameX o H H4 := fun b' ob n e => s24 _ _ (x1 b' ob n e)
  have ho4 := s24 _ _ ho1
  have hDo : D ≠ o := fun z => by rw [z, ho4] at e4; cases e4
  refine ⟨_, rfl, o, SE, dx, _, rfl, ho4, T, n2, (by show 1 < 1000; decide), ?_⟩
  refine ⟨_, rfl, o, SE, dx, _, rfl, upd_same, T, n3, (by show 2 < 1000; decide), ?_⟩
  have ho6 : (upd (upd H4 o (.ins SE dx (putF "_spans" (.ref D) (putF "_book" (.ref b) [])))) o (.ins SE dx (putF "_period" (.int 1) (putF "_spans" (.ref D) (putF "_book" (.ref b) []))))) o = some (.ins SE dx (seaF b D 1)) := upd_same
  have x6 : SameX o H (upd (upd H4 o (.ins SE dx (putF "_spans" (.ref D) (putF "_book" (.ref b) [])))) o (.ins SE dx (putF "_period" (.int 1) (putF "_spans" (.ref D) (putF "_book" (.ref b) []))))) := fun b' ob n e => by rw [upd_ne n, upd_ne n]; exact x4 b' ob n e
  have e6 : (upd (upd H4 o (.ins SE dx (putF "_spans" (.ref D) (putF "_book" (.ref b) [])))) o (.ins SE dx (putF "_period" (.int 1) (putF "_spans" (.ref D) (putF "_book" (.ref b) []))))) D = some (.dK kvs) := by rw [upd_ne hDo, upd_ne hDo]; exact e4
  generalize upd (upd H4 o (.ins SE dx (putF "_spans" (.ref D) (putF "_book" (.ref b) [])))) o (.ins SE dx (putF "_period" (.int 1) (putF "_spans" (.ref D) (putF "_book" (.ref b) [])))) = H6 at ho6 x6 e6 ⊢
  have hd6 := x6 _ _ hdo hd
  refine ⟨d, _, hd6, trivial, fun od2 => ?_⟩
  have hsp6 : All2 (SpKv K H6) kvs sp := hsp.mono fun _ _ x => x.same (N := N) (kX _ x6)
  have sL6 : Keeps N H6 (upd H6 d (.frz od2 (.dK kvs))) := keeps_dk hd6 rfl
  have hspL := hsp6.mono fun _ _ x => x.same sL6
  have hoL : (upd H6 d (.frz od2 (.dK kvs))) o = some (.ins SE dx (seaF b D (perN (sp.take 0)))) := by rw [upd_ne hdo.symm]; exact ho6
  generalize hHM : upd H6 d (.frz od2 (.dK kvs)) = HM at hspL hoL ⊢
  have eM : HM d = some (.frz od2 (.dK kvs)) := by rw [← hHM]; exact upd_same
  refine ⟨_, rfl, d, od2, kvs, rfl, eM, for_it walk_values (fun i σ H' => ∃ y3 y4 y5 : Option V, σ = [some (.ref o), some (.ref b), some (.ref d), y3, y4, y5] ∧ H' o = some (.ins SE dx (seaF b D (perN (sp.take i)))) ∧ SameX o HM H') ⟨none, none, none, rfl, hoL, fun b' ob _ e => e⟩ (fun _ _ _ _ ⟨_, _, _, _, _, s⟩ => s _ _ hdo eM) ?_ ?_⟩
  · rintro i y σ H8 H7 hi ⟨y3, y4, y5, rfl, ho7, x7⟩ ⟨rfl, k, hkv⟩
    obtain ⟨q0, hq0, hk, t, hv, ht⟩ := hspL.get hkv
    obtain rfl : y = .ref t := hv
    have ht7 : SqT K H7 t (SpV q0.2) := (SameX.keeps (N := N) x7 hoL rfl).tup ht
    have hok0 := (hok q0 (List.mem_of_getElem? hq0)).1
    have hpi : perN (sp.take i) ≤ 84 := perN_le fun q hq => (hok q (List.mem_of_mem_take hq)).1
    have hp12 := hok0.p2
    refine ⟨t, _, rfl, ht7, rfl, _, _, rfl, _, _, rfl, _, _, rfl, rfl, ?_⟩
    refine ⟨_, rfl, o, SE, dx, _, _, rfl, ho7, T, n3, rfl, _, rfl, _, _, rfl, by omega, by omega, ?_⟩
    refine ⟨_, rfl, o, SE, dx, _, rfl, ho7, T, n3, (by show 3 < 1000; decide), ?_⟩
    refine ⟨_, _, _, rfl, ?_, fun b' ob n e => by rw [upd_ne n]; exact x7 b' ob n e⟩
    rw [upd_same, take_more hq0, perN_snoc]
    rfl
  · rintro σ H7 ⟨y3, y4, y5, rfl, ho7, x7⟩
    have ho7 : H7 o = some (.ins SE dx (seaF b D (perN (sp.take kvs.length)))) := ho7
    rw [hlen, List.take_length] at ho7
    refine ⟨x7 _ _ hdo eM, ?_⟩
    have x8 : SameX o H6 (upd H7 d (.dK kvs)) := fun b' ob n e => by
      by_cases z : b' = d
      · subst z
        rw [hd6] at e
        cases e
        exact upd_same
      · rw [upd_ne z]
        exact x7 b' ob n (by rw [← hHM, upd_ne z]; exact e)
    have x9 : SameX o H (upd H7 d (.dK kvs)) := fun b' ob n e => x8 b' ob n (x6 b' ob n e)
    have k9 := kX _ x9
    refine q _ ⟨dx, b, D, kvs, by rw [upd_ne hdo.symm]; exact ho7, hB.keeps k9, x8 _ _ hDo e6, hsp.mono fun _ _ x => x.same k9⟩ x9
def sp_seaPeriod (K : PySem.W.Frag) (C R B SE : Addr) : Sp := fun vs H Q _ => ∃ (N : Addr → Prop) (x : Addr) (xs : List Str) (f : RF) (rl : Str) (sp : List (Str × Spn)), vs = [.ref x] ∧ SeaAt K C R B SE N H x xs f rl sp ∧ Q (.int (perN sp : Nat)) H
theorem ok_seaPeriod {f : Addr} {fd : FuncData} (F : Fun K "period" "Seasons.period" s_Seasons_period f fd) (T : Cls K SE) (n3 : NoAttr K SE "_period") : FnOk P w K mg base CX0 1 f fd ["self"] (sp_seaPeriod K C R B SE) := by
  refine F.ok sc_Seasons_period (fun vs H Q E h => by obtain ⟨N, x, xs, f, rl, sp, rfl, _⟩ := h; rfl) (fun cdv A outer s H vs Q E hr h => ?_)
  obtain ⟨N, x, xs, f, rl, sp, rfl, ⟨dx, b, d, kvs, hx, _⟩, q⟩ := h
  refine ⟨_, (pss_one (ps_ret (pe_fld (pv 0) rfl))), ?_⟩
  exact ⟨_, rfl, x, SE, dx, _, _, rfl, hx, T, n3, rfl, q⟩
/-- a right rule of a book of such facts -/
structure N3 (xs : List Str) (n : Nd) : Prop where
  ok : NdOk n
  s1 : ∀ x ∈ n.hs, x ∈ xs
  s2 : ∀ x ∈ n.fs, x ∈ xs
theorem no_fault3 {xs : List Str} : ∀ {ps : List (Nd × Nat)} {met : List Str} {out i : Nat}, (∀ q ∈ ps, (∀ x ∈ q.1.hs, x ∈ xs) ∧ ∀ x ∈ q.1.fs, x ∈ xs) → (∀ q ∈ ps, q.2 ≤ 5) → (met ++ ps.map fun q => q.1.nm).Nodup → i + ps.length ≤ 60 → out + ps.length ≤ 40 → firstFault xs ps met out i = none
  | [], _, _, _, _, _, _, _, _ => rfl
  | (n, k) :: r, met, out, i, h1, h2, h3, h4, h5 => by
    have hs := h1 _ List.mem_cons_self
    have hk : k ≤ 5 := h2 _ List.mem_cons_self
    rw [List.length_cons] at h4 h5
    have hon : outNext out k ≤ out + 1 := by unfold outNext; split <;> omega
    have hm : ¬ n.nm ∈ met := fun z => (List.nodup_append.mp h3).2.2 _ z _ List.mem_cons_self rfl
    have f0 : faultAt xs met (outNext out k) i n k = none := by
      unfold faultAt
      rw [if_neg hm, if_neg, if_neg (by omega), if_neg (by omega)]
      rw [Bool.not_eq_true, List.any_eq_false]
      intro x hx
      have hx := (srt_perm _).mem_iff.mp hx
      rw [decide_eq_true (show x ∈ xs from (List.mem_append.mp hx).elim (hs.1 x) (hs.2 x))]
      decide
    unfold firstFault
    rw [f0]
    refine no_fault3 (fun q hq => h1 q (List.mem_cons_of_mem _ hq)) (fun q hq => h2 q (List.mem_cons_of_mem _ hq)) ?_ (by omega) (by omega)
    rw [List.append_assoc]
    exact h3
theorem pre_dep3 : ∀ (f : RF) (k : Nat), ∀ q ∈ f.pre k, q.2 + 1 ≤ k + f.dep
  | .nil, k, q, h => nomatch h
  | .cons nm hs fs rl exc rest, k, q, h => by
    show _ ≤ k + max (exc.dep + 1) rest.dep
    rcases List.mem_cons.mp h with rfl | h
    · show k + 1 ≤ _
      omega
    rcases List.mem_append.mp h with h | h
    · have := pre_dep3 exc (k + 1) q h
      omega
    · have := pre_dep3 rest k q h
      omega
/-- a right book of few rules -/
structure Bk3 (xs : List Str) (f : RF) (rl : Str) : Prop where
  tS : Txts xs
  lS : xs.length ≤ 60
  hb : firstBad xs = none
  hrl : isName rl = true
  nd : f.names.Nodup
  dep : f.dep ≤ 6
  size : f.size ≤ 20
  ev : f.every (N3 xs)
theorem Bk3.filt {xs : List Str} {f : RF} {rl : Str} (h : Bk3 xs f rl) (p : Str → Bool) : Bk3 xs (RF.filt p f) rl :=
  ⟨h.tS, h.lS, h.hb, h.hrl, h.nd.sublist (RF.filt_names p f), Nat.le_trans (RF.filt_dep p f) h.dep, Nat.le_trans (RF.filt_size p f) h.size, RF.filt_every (fun n e hn => ⟨hn.ok.wE, hn.s1, hn.s2⟩) p h.ev⟩
theorem Bk3.ok {xs : List Str} {f : RF} {rl : Str} (h : Bk3 xs f rl) : BkOk xs f rl := ⟨h.tS, h.lS, h.hb, h.hrl, h.nd, h.dep, by have := h.size; omega, RF.every_mono (fun n h => h.ok) h.ev⟩
theorem Bk3.ff {xs : List Str} {f : RF} {rl : Str} (h : Bk3 xs f rl) : firstFault xs (f.pre 0) [] 0 0 = none := by
  have h1 := h.size
  have h2 := h.dep
  refine no_fault3 (fun q hq => ?_) (fun q hq => ?_) (by rw [List.nil_append, RF.pre_names]; exact h.nd) (by rw [RF.pre_len]; omega) (by rw [RF.pre_len]; omega)
  · have hn := RF.every_pre h.ev q hq
    exact ⟨hn.s1, hn.s2⟩
  · have := pre_dep3 f 0 q hq
    omega
/-- the book of a day -/
def sp_seaCall (K : PySem.W.Frag) (C R B SE : Addr) : Sp := fun vs H Q _ => ∃ (N : Addr → Prop) (x : Addr) (xs : List Str) (f : RF) (rl : Str) (sp : List (Str × Spn)) (day : Int), vs = [.ref x, .int day] ∧ SeaAt K C R B SE N H x xs f rl sp ∧ Bk3 xs f rl ∧ (∀ l, H l = none → N l) ∧ (∀ q ∈ sp, SpnOk q.2) ∧ 0 ≤ day ∧ day ≤ lastDay ∧ ∀ H' b, Same H H' → BookAt K C R B N H' b xs (RF.filt (stays sp day) f) rl → Q (.ref b) H'
theorem ok_seaCall {f : Addr} {fd : FuncData} (F : Fun K "__call__" "Seasons.__call__" s_Seasons___call__ f fd) (Bl : Blt mg) (T : Cls K SE) (n1 : NoAttr K SE "_book") (n2 : NoAttr K SE "_spans") (c_check_day : Cal P w K mg base CX0 3 "check_day" ["value"] sp_check_day) (c_in_span : Cal P w K mg base CX0 1 "in_span" ["span", "day"] (sp_in_span K))
    (mCon : MethO P w K mg base CX0 3 B "__contains__" ["self", "name"] (sp_contains K C R B)) (mSub : MethO P w K mg base (L2.CX P w) 32 B "__sub__" ["self", "name"] (sp_sub K C R B CB CU)) (bT : BinT K B .Sub) : FnOk P w K mg base CX0 33 f fd ["self", "day"] (sp_seaCall K C R B SE) := by
  refine F.ok sc_Seasons___call__ (fun vs H Q E h => by obtain ⟨N, x, xs, f, rl, sp, day, rfl, _⟩ := h; rfl) (fun cdv A outer s H vs Q E hr h => ?_)
  obtain ⟨N, x, xs, f, rl, sp, day, rfl, ⟨dx, b, d, kvs, hx, hB, hd, hsp⟩, hk, hN, hok, d0, d1, q⟩ := h
  refine ⟨_, (pss_cons (ps_expr (pe_cal c_check_day (hr.mono (by decide)) (pa_cons (pv 1) pa_nil)))
      (pss_cons (ps_set (i := 2) sc_Seasons___call__.nd rfl (Or.inl rfl) (pe_fld (pv 0) rfl))
      (pss_cons (ps_lock (ps_for PassesOwn.never rfl (pi_items (pe_fld (pv 0) rfl)) (pg_tup (by rfl) (pgs_cons (pg_name (i := 3) sc_Seasons___call__.nd rfl (Or.inl rfl)) (pgs_cons (pg_name (i := 4) sc_Seasons___call__.nd rfl (Or.inl rfl)) pgs_nil))) (pss_one (ps_if (PW.pt (pw_and (pt_cmpR (op_inM mCon (hr.mono (by decide))) (pv 3) (pv 2) rfl) (pw_and1 (pt_not (pt_val (pe_cal c_in_span (hr.mono (by decide)) (pa_cons (pv 4) (pa_cons (pv 1) pa_nil)))))))) (pss_one (ps_set (i := 2) sc_Seasons___call__.nd rfl (Or.inl rfl) (pe_op (op_subN mSub bT rfl (hr.mono (by decide))) (pv 2) (pv 3)))) pss_nil))))
      (pss_one (ps_ret (pv 2)))))), ?_⟩
  have hlen := hsp.len
  have hxd : x ≠ d := fun z => by rw [z, hd] at hx; cases hx
  refine ⟨_, rfl, day, rfl, d0, d1, ?_⟩
  refine ⟨_, rfl, x, SE, dx, _, _, rfl, hx, T, n1, rfl, ?_⟩
  refine ⟨d, _, hd, trivial, fun od => ?_⟩
  have sL : Keeps N H (upd H d (.frz od (.dK kvs))) := keeps_dk hd rfl
  have hspL := hsp.mono fun _ _ x => x.same sL
  have hBL := hB.keeps sL
  have hxL : (upd H d (.frz od (.dK kvs))) x = some (.ins SE dx (seaF b d (perN sp))) := by rw [upd_ne hxd]; exact hx
  have hfree : ∀ l, (upd H d (.frz od (.dK kvs))) l = none → N l := fun l hl => hN l (by
    by_cases z : l = d
    · rw [z, upd_same] at hl; cases hl
    · rw [upd_ne z] at hl; exact hl)
  generalize hHL : upd H d (.frz od (.dK kvs)) = HL at hspL hBL hxL hfree ⊢
  have eL : HL d = some (.frz od (.dK kvs)) := by rw [← hHL]; exact upd_same
  have h00 : RF.filt (stays ([] : List (Str × Spn)) day) f = f := RF.filt_all fun _ _ => rfl
  refine ⟨_, rfl, x, SE, dx, _, _, rfl, hxL, T, n2, rfl, d, od, kvs, rfl, eL, for_it walk_items (fun i σ H' => ∃ (b' : Addr) (y3 y4 : Option V), σ = [some (.ref x), some (.int day), some (.ref b'), y3, y4] ∧ Same HL H' ∧ BookAt K C R B N H' b' xs (RF.filt (stays (sp.take i) day) f) rl) ⟨b, none, none, rfl, Same.refl _, by rw [List.take_zero, h00]; exact hBL⟩ (fun _ _ _ _ ⟨_, _, _, _, s, _⟩ => s _ _ eL) ?_ ?_⟩
  · rintro i y σ H4 H5 hi ⟨b', y3, y4, rfl, s4, hB4⟩ ⟨Tt, v1, v2, rfl, nT, rfl, h1, h2⟩
    have h1 : kvs[i]?.map (fun kv => kV kv.1) = some v1 := h1
    have h2 : kvs[i]?.map Prod.snd = some v2 := h2
    cases hkv : kvs[i]? with
    | none => rw [hkv] at h1; cases h1
    | some kv =>
      rw [hkv] at h1 h2
      obtain ⟨q0, hq0, hk0, t, hv, ht⟩ := hspL.get hkv
      obtain rfl : kV kv.1 = v1 := Option.some.inj h1
      obtain rfl : kv.2 = v2 := Option.some.inj h2
      have s5 := (Same.refl H4).put (o := .tup [kV kv.1, kv.2]) nT
      have hok0 := hok q0 (List.mem_of_getElem? hq0)
      have hB5 := hB4.keeps (N := N) s5.keeps
      have s05 := s4.trans s5
      have eT : (upd H4 Tt (.tup [kV kv.1, kv.2])) Tt = some (.tup [kV kv.1, kv.2]) := upd_same
      generalize upd H4 Tt (.tup [kV kv.1, kv.2]) = H5 at s5 hB5 s05 eT ⊢
      have hfs : RF.filt (stays (sp.take (i + 1)) day) f = if q0.1 ∈ (RF.filt (stays (sp.take i) day) f).names ∧ inS q0.2 day = false then RF.repl q0.1 [] (RF.filt (stays (sp.take i) day) f) else RF.filt (stays (sp.take i) day) f := by rw [take_more hq0]; exact filt_step
      have hk3 := hk.filt (stays (sp.take i) day)
      obtain ⟨dxb, _, _, _, _, _, hob, _⟩ := id hB5
      have hkk : kV kv.1 = .str q0.1 := by rw [hk0]; rfl
      refine ⟨Tt, _, rfl, sqT_of eT, rfl, _, _, rfl, _, _, rfl, rfl, ?_⟩
      refine ⟨_, rfl, _, rfl, b', dxb, _, rfl, hob, N, b', xs, _, rl, q0.1, (by rw [hkk]), hB5, by have := hk3.size; omega, fun H6 s6 => ⟨_, rfl, _, rfl, ?_⟩⟩
      rw [if_neg (by decide)]
      have s06 := s05.trans s6
      have hB6 := hB5.keeps (N := N) s6.keeps
      have ht6 := s06.tup ht
      by_cases hin : q0.1 ∈ (RF.filt (stays (sp.take i) day) f).names
      · rw [decide_eq_true hin]
        refine iteT ⟨_, rfl, _, rfl, t, q0.2, day, (by rw [hv]; rfl), ht6, hok0.p1, _, rfl, ?_⟩
        cases hi2 : inS q0.2 day with
        | true =>
          rw [if_neg (fun z => by rw [hi2] at z; cases z.2)] at hfs
          exact iteF ⟨b', _, _, rfl, s06, by rw [hfs]; exact hB6⟩
        | false =>
          rw [if_pos ⟨hin, hi2⟩] at hfs
          refine iteT ?_
          obtain ⟨dxb6, _, _, _, _, _, hob6, _⟩ := id hB6
          have hk4 : Bk3 xs (RF.filt (stays (sp.take (i + 1)) day) f) rl := hk.filt _
          refine ⟨_, rfl, _, rfl, b', dxb6, _, q0.1, rfl, hkk, hob6, N, b', xs, _, rl, q0.1, (by rw [hkk]), hB6, hk3.ok, (fun l hl => hfree l (s06.free hl)), (fun z => absurd hin z), fun _ => ?_⟩
          rw [← hfs]
          refine ⟨(fun wd i' e => by rw [hk4.ff] at e; cases e), fun _ H7 b7 s7 hB7 => ?_⟩
          exact ⟨b7, _, _, rfl, s06.trans s7, hB7⟩
      · rw [decide_eq_false hin]
        rw [if_neg (fun z => hin z.1)] at hfs
        exact iteF (iteF ⟨b', _, _, rfl, s06, by rw [hfs]; exact hB6⟩)
  · rintro σ H4 ⟨b', y3, y4, rfl, s4, hB4⟩
    have hB4 : BookAt K C R B N H4 b' xs (RF.filt (stays (sp.take kvs.length) day) f) rl := hB4
    rw [hlen, List.take_length] at hB4
    refine ⟨s4 _ _ eL, _, rfl, ?_⟩
    exact q _ b' (unlock_same (od := od) hd (by rw [hHL]; exact s4)) (hB4.keeps (keeps_dk (s4 _ _ eL) rfl))
end
end Sc
namespace Sc
open PySem PySem.Spec PyProof.Rows L2
section
variable {K : PySem.W.Frag} {H : Hp}
/-! ### rows as data -/
def RF.dats : RF → List PyData
  | .nil => []
  | .cons nm hs fs rl exc rest => .tuple [.str nm, .tuple (hs.map PyData.str), .tuple (fs.map PyData.str), .str rl, .tuple exc.dats] :: rest.dats
theorem dp_rows : ∀ {f : RF} {vs : List V}, RowsAt K H f vs → DpAll K H vs f.dats
  | .nil, _, h => by
    obtain rfl : _ = [] := h
    exact .nil
  | .cons nm hs fs rl exc rest, vs, h => by
    obtain ⟨o, w, b, p, ws, vs', rfl, h1, h2, h3, h4, h6, h7⟩ := h
    exact .cons (.tup h1 (.cons (.str _) (.cons (.tup h2 (dps K H hs)) (.cons (.tup h3 (dps K H fs)) (.cons (.str _) (.cons (.tup h4 (dp_rows h6)) .nil)))))) (dp_rows h7)
theorem lay_rows : ∀ {f : RF}, f.every NdOk → PyData.canLayAll0 f.dats = true
  | .nil, _ => rfl
  | .cons nm hs fs rl exc rest, h => by
    obtain ⟨h1, h2, h3⟩ := h
    show (((PyData.str nm).canLay0 && (PyData.canLayAll0 (hs.map PyData.str) && (PyData.canLayAll0 (fs.map PyData.str) && ((PyData.str rl).canLay0 && (PyData.canLayAll0 exc.dats && true))))) && PyData.canLayAll0 rest.dats) = true
    rw [(name_fine h1.nm).2, strs_lay (fw_fines h1.c1), strs_lay (fw_fines h1.c2), (name_fine h1.rl).2, lay_rows h2, lay_rows h3]
    rfl
theorem dep_rows : ∀ f : RF, PyData.depthAll f.dats ≤ 2 * f.dep
  | .nil => Nat.le_refl 0
  | .cons nm hs fs rl exc rest => by
    have h1 := dep_rows exc
    have h2 := dep_rows rest
    show max ((max (PyData.str nm).depth (max (PyData.depthAll (hs.map PyData.str) + 1) (max (PyData.depthAll (fs.map PyData.str) + 1) (max (PyData.str rl).depth (max (PyData.depthAll exc.dats + 1) 0))))) + 1) (PyData.depthAll rest.dats) ≤ 2 * max (exc.dep + 1) rest.dep
    rw [strs_depth, strs_depth]
    have e1 : (PyData.str nm).depth = 0 := rfl
    have e2 : (PyData.str rl).depth = 0 := rfl
    omega
theorem sh_rows {f : RF} (h : f.every NdOk) (d : f.dep ≤ 12) : SeqAt.shaped (.tuple f.dats) = true := by
  unfold SeqAt.shaped
  have e1 : (PyData.tuple f.dats).canLay0 = true := lay_rows h
  have e2 : (PyData.tuple f.dats).depth ≤ 64 := by
    have := dep_rows f
    show PyData.depthAll f.dats + 1 ≤ 64
    omega
  rw [e1, decide_eq_true e2]
  rfl
end
namespace RF
def ofL : List Nd → RF
  | [] => .nil
  | n :: r => .cons n.nm n.hs n.fs n.rl n.exc (ofL r)
theorem ofL_nodes : ∀ ns : List Nd, (ofL ns).nodes = ns
  | [] => rfl
  | n :: r => by show n :: (ofL r).nodes = _; rw [ofL_nodes r]
theorem ofL_every {p : Nd → Prop} : ∀ {ns : List Nd}, (∀ n ∈ ns, p n ∧ n.exc.every p) → (ofL ns).every p
  | [], _ => trivial
  | n :: r, h => ⟨(h n List.mem_cons_self).1, (h n List.mem_cons_self).2, ofL_every fun m hm => h m (List.mem_cons_of_mem _ hm)⟩
theorem ofL_dep {d : Nat} : ∀ {ns : List Nd}, (∀ n ∈ ns, n.exc.dep + 1 ≤ d) → (ofL ns).dep ≤ d
  | [], _ => Nat.zero_le _
  | n :: r, h => by
    have h1 := h n List.mem_cons_self
    have h2 := ofL_dep (ns := r) fun m hm => h m (List.mem_cons_of_mem _ hm)
    show max (n.exc.dep + 1) (ofL r).dep ≤ d
    omega
end RF
theorem sh_rowsL {f : RF} (h : f.every NdOk) (d : f.dep ≤ 12) : SeqAt.shaped (.list f.dats) = true := by
  unfold SeqAt.shaped
  have e1 : (PyData.list f.dats).canLay0 = true := lay_rows h
  have e2 : (PyData.list f.dats).depth ≤ 64 := by
    have := dep_rows f
    show PyData.depthAll f.dats + 1 ≤ 64
    omega
  rw [e1, decide_eq_true e2]
  rfl
theorem dats_nil {f : RF} : (PyData.list f.dats).eqv (.list []) = decide (f.nodes = []) := by
  cases f with
  | nil => rfl
  | cons nm hs fs rl exc rest => exact (decide_eq_false (List.cons_ne_nil _ _)).symm
end Sc
namespace Sc
open PySem PySem.Spec PyProof.Rows L2
theorem sc__law_told : FnScope ["_law_rules", "_law_found", "_law_rule_here", "_law_condition"] ["_law_rules"] (defScope s__law_told) := ⟨rfl, rfl, rfl, by decide +kernel, rfl, by decide +kernel, by decide +kernel⟩
theorem sc__law_seen : FnScope ["_law_book_here"] ["_law_book_here"] (defScope s__law_seen) := ⟨rfl, rfl, rfl, by decide +kernel, rfl, by decide +kernel, by decide +kernel⟩
section
variable {P : Program} {w : World} {K : PySem.W.Frag} {mg : Str → Option Value} {base : Heap} {C R B CC CR CF_ CB : Addr}
theorem at_strs {H : Hp} {a : Addr} {n : Nat} {xs : List Str} (h : SqT K H a (xs.map V.str)) (l : xs.length ≤ 1000) : AT K H (n + 1) (.ref a) (.tuple (xs.map PyData.str)) := by
  refine .tup h (by rw [List.length_map, List.length_map]) (by rw [List.length_map]; omega) fun i x d hx hd => ?_
  rw [List.getElem?_map] at hx hd
  cases e : xs[i]? with
  | none => rw [e] at hx; cases hx
  | some z => rw [e] at hx hd; cases hx; cases hd; exact .str _ _
theorem dats_len : ∀ f : RF, f.dats.length = f.nodes.length
  | .nil => rfl
  | .cons nm hs fs rl exc rest => by
    show (_ :: rest.dats).length = (_ :: rest.nodes).length
    rw [List.length_cons, List.length_cons, dats_len rest]
theorem at_rows {H : Hp} : ∀ {f : RF} {vs : List V} {n : Nat}, RowsAt K H f vs → f.every NdOk → f.size ≤ 900 → 2 * f.dep ≤ n → ∀ (i : Nat) (x : V) (d : PyData), vs[i]? = some x → f.dats[i]? = some d → AT K H n x d
  | .nil, vs, n, h, _, _, _, i, x, d, hx, _ => by
    obtain rfl : vs = [] := h
    cases i <;> cases hx
  | .cons nm hs fs rl exc rest, vs, n, h, ⟨ok, e2, e3⟩, hz, hn, i, x, d, hx, hd => by
    obtain ⟨o, w, b, p, ws, vs', rfl, h1, h2, h3, h4, h6, h7⟩ := h
    have hn : 2 * max (exc.dep + 1) rest.dep ≤ n := hn
    have hz : exc.size + 1 + rest.size ≤ 900 := hz
    have hl := ok.len
    cases i with
    | succ i => exact at_rows h7 e3 (by omega) (by omega) i x d hx hd
    | zero =>
      cases hx
      cases hd
      obtain ⟨n, rfl⟩ : ∃ m, n = m + 2 := ⟨n - 2, by omega⟩
      have hel := h6.len
      have hez := RF.nodes_le exc
      refine .tup h1 rfl (by show 5 ≤ 1000000; decide) fun j x d hx hd => ?_
      match j, hx, hd with
      | 0, hx, hd => cases hx; cases hd; exact .str _ _
      | 1, hx, hd => cases hx; cases hd; exact at_strs h2 (by show hs.length ≤ 1000; have : hs.length ≤ 8 := hl.1; omega)
      | 2, hx, hd => cases hx; cases hd; exact at_strs h3 (by show fs.length ≤ 1000; have : fs.length ≤ 8 := hl.2; omega)
      | 3, hx, hd => cases hx; cases hd; exact .str _ _
      | 4, hx, hd => cases hx; cases hd; exact .tup h4 (by rw [hel, dats_len]) (by omega) fun k x d hx hd => at_rows h6 e2 (by omega) (by omega) k x d hx hd
      | j + 5, hx, hd => cases hx
/-- a book told in tuples -/
def SeenAt (K : PySem.W.Frag) (H : Hp) (p : Addr) (xs : List Str) (f : RF) (rl : Str) : Prop := ∃ (fp pr : Addr) (ws : List V), SqT K H p [.ref fp, .ref pr, .str rl] ∧ SqT K H fp (xs.map V.str) ∧ SqT K H pr ws ∧ RowsAt K H f ws
theorem SeenAt.keeps {N : Addr → Prop} {H H' : Hp} {p : Addr} {xs : List Str} {f : RF} {rl : Str} (k : Keeps N H H') (h : SeenAt K H p xs f rl) : SeenAt K H' p xs f rl := by
  obtain ⟨fp, pr, ws, h1, h2, h3, h4⟩ := h
  exact ⟨fp, pr, ws, k.tup h1, k.tup h2, k.tup h3, h4.keeps k⟩
theorem at_seen {H : Hp} {p : Addr} {xs : List Str} {f : RF} {rl : Str} (h : SeenAt K H p xs f rl) (l : xs.length ≤ 60) (ev : f.every NdOk) (hz : f.size ≤ 900) (hd : f.dep ≤ 8) : AT K H 30 (.ref p) (.tuple [.tuple (xs.map PyData.str), .tuple f.dats, .str rl]) := by
  obtain ⟨fp, pr, ws, h1, h2, h3, h4⟩ := h
  have hel := h4.len
  have hez := RF.nodes_le f
  refine .tup h1 rfl (by show 3 ≤ 1000000; decide) fun j x d hx hd => ?_
  match j, hx, hd with
  | 0, hx, hd => cases hx; cases hd; exact at_strs h2 (by omega)
  | 1, hx, hd => cases hx; cases hd; exact .tup h3 (by rw [hel, dats_len]) (by omega) fun k x d hx hd => at_rows h4 ev hz (by omega) k x d hx hd
  | 2, hx, hd => cases hx; cases hd; exact .str _ _
  | j + 3, hx, hd => cases hx
def sp_told (K : PySem.W.Frag) (C R : Addr) (d : Nat) : Sp := fun vs H Q _ => ∃ (N : Addr → Prop) (p : Addr) (ws : List V) (f : RF), vs = [.ref p] ∧ SqT K H p ws ∧ ForAt K C R N H f ws ∧ f.dep ≤ d ∧ f.size ≤ 900 ∧
  ∀ H' p' us, Same H H' → SqT K H' p' us → RowsAt K H' f us → Q (.ref p') H'
theorem ok_told {d : Nat} {f : Addr} {fd : FuncData} (F : Fun K "_law_told" "_law_told" s__law_told f fd) (B : Blt mg) (kR : RuleX P w K mg base R) (kK : CondG P w K mg base C)
    (c__law_told : Cal P w K mg base CX0 (d + 3) "_law_told" ["_law_rules"] (Below (sp_told K C R) d)) :
    FnOk P w K mg base CX0 (d + 4) f fd ["_law_rules"] (sp_told K C R d) := by
  refine F.ok sc__law_told (fun vs H Q E h => by obtain ⟨N, p, ws, f, rfl, _⟩ := h; rfl) (fun cdv A outer s H vs Q E hr h => ?_)
  obtain ⟨N, p, ws, f, rfl, hP, hF, hd, hz, q⟩ := h
  refine ⟨_, (pss_cons (ps_set (i := 1) sc__law_told.nd rfl (Or.inl rfl) (pe_lst pa_nil))
      (pss_cons (ps_for PassesOwn.never rfl (pi_tup (pv 0)) (pg_name (i := 2) sc__law_told.nd rfl (Or.inl rfl)) (pss_cons (ps_set (i := 3) sc__law_told.nd rfl (Or.inl rfl) (pe_cprop kR.condition kR.cls (hr.mono (by omega)) (pv 2)))
      (pss_one (ps_expr (pe_bm PySem.F.plainAttrs_list PySem.F.slot_list_append PySem.F.type_list_append mt_append (pv 1) (pa_cons (pe_tup (pa_cons (pe_cprop kR.name kR.cls (hr.mono (by omega)) (pv 2)) (pa_cons (pe_cprop kK.holding kK.cls (hr.mono (by omega)) (pv 3)) (pa_cons (pe_cprop kK.failing kK.cls (hr.mono (by omega)) (pv 3)) (pa_cons (pe_cprop kR.ruling kR.cls (hr.mono (by omega)) (pv 2)) (pa_cons (pe_cal c__law_told hr (pa_cons (pe_cprop kR.exceptions kR.cls (hr.mono (by omega)) (pv 2)) pa_nil)) pa_nil)))))) pa_nil))))))
      (pss_one (ps_ret (pe_callTy call_tuple_of (by rfl) B.b_tuple PyProof.Rows.boot_tuple (pa_cons (pv 1) pa_nil)))))), ?_⟩
  have hA := hF.all
  have hln := hA.len
  have hlz := RF.nodes_le f
  refine ⟨Nat.zero_le _, fun D nD => ?_⟩
  have s0 : Same H (upd H D (.lst [])) := (Same.refl H).put nD
  have e0 : (upd H D (.lst [])) D = some (.lst []) := upd_same
  generalize upd H D (.lst []) = H0 at s0 e0 ⊢
  refine ⟨_, rfl, p, rfl, ⟨_, s0.tup hP⟩, for_it walk_tup (fun i σ H' => ∃ (rs : List V) (y2 y3 : Option V), σ = [some (.ref p), some (.ref D), y2, y3] ∧ Same H H' ∧ H' D = some (.lst rs) ∧ All2 (RowAt K H') rs (f.nodes.take i))
    ⟨[], none, none, rfl, s0, e0, .nil⟩ (fun _ _ _ _ ⟨_, _, _, _, s, _⟩ => s.tup hP) ?_ ?_⟩
  · rintro i y σ H4 H3 hi ⟨rs, y2, y3, rfl, s, e, hrs⟩ ⟨rfl, hy⟩
    obtain ⟨n, hn, o, rfl, hN⟩ := hA.get hy
    have hmem : n ∈ f.nodes := List.mem_of_getElem? hn
    have hdm := RF.dep_mem _ n hmem
    have hsm := RF.size_mem _ n hmem
    obtain ⟨d, rfl⟩ : ∃ d', d = d' + 1 := ⟨d - 1, by omega⟩
    have hrl := hrs.len
    rw [List.length_take] at hrl
    obtain ⟨dx', c', pe', l', ws', ho', hc', hpe', hle', hfe'⟩ := hN.keeps (N := N) s.keeps
    obtain ⟨dxc, ca, cb, cn, zs, hcc, hca, hcb, _⟩ := hc'.at_
    refine ⟨_, rfl, o, dx', _, rfl, ho', o, dx', _, _, rfl, ho', rfl, ?_⟩
    refine ⟨_, rfl, .inl ⟨rfl, _, sqL_of e⟩, _, rfl, o, dx', _, rfl, ho', o, dx', _, _, rfl, ho', rfl, _, rfl, c', dxc, _, rfl, hcc, c', dxc, _, _, rfl, hcc, rfl, _, rfl, c', dxc, _, rfl, hcc, c', dxc, _, _, rfl, hcc, rfl, _, rfl, o, dx', _, rfl, ho', o, dx', _, _, rfl, ho', rfl, _, rfl, o, dx', _, rfl, ho', o, dx', _, _, rfl, ho', rfl, N, pe', ws', n.exc, rfl, hpe', hfe', by omega, by omega, fun H5 p5 us5 s5 hp5 hr5 => ?_⟩
    refine ⟨(by show 5 ≤ sizeLine; decide), fun t nt => ?_⟩
    have s6 : Same H5 (upd H5 t (.tup [.str n.nm, .ref ca, .ref cb, .str n.rl, .ref p5])) := (Same.refl H5).put nt
    have e6 : (upd H5 t (.tup [.str n.nm, .ref ca, .ref cb, .str n.rl, .ref p5])) t = some (.tup [.str n.nm, .ref ca, .ref cb, .str n.rl, .ref p5]) := upd_same
    generalize upd H5 t (.tup [.str n.nm, .ref ca, .ref cb, .str n.rl, .ref p5]) = H6 at s6 e6 ⊢
    have s36 := s5.trans s6
    have eD := s36 _ _ e
    refine ⟨D, _, _, rfl, rfl, eD, small1000 (by omega), ?_⟩
    have kk : Keeps NoL H6 (upd H6 D (.lst (rs ++ [.ref t]))) := keeps_own eD id
    have hrow : RowAt K H6 (.ref t) n := ⟨t, ca, cb, p5, us5, rfl, sqT_of e6, s36.tup hca, s36.tup hcb, s6.tup hp5, hr5.keeps (N := NoL) s6.keeps⟩
    refine ⟨rs ++ [.ref t], _, _, rfl, (s.trans s36).put nD, upd_same, ?_⟩
    rw [take_more hn]
    exact (hrs.mono fun _ _ x => (x.keeps (N := NoL) s36.keeps).keeps kk).snoc (hrow.keeps kk)
  · rintro σ H3 ⟨rs, y2, y3, rfl, s, e, hrs⟩
    rw [hln, List.take_length] at hrs
    refine ⟨_, rfl, D, _, rfl, .inl ⟨sqL_of e, fun t nt => ?_⟩⟩
    have s4 : Same H3 (upd H3 t (.tup rs)) := (Same.refl H3).put nt
    exact q _ t rs (s.trans s4) sqT_new (RowsAt.of (hrs.mono fun _ _ x => x.keeps (N := NoL) s4.keeps))
def sp_seen (K : PySem.W.Frag) (C R B : Addr) : Sp := fun vs H Q _ => ∃ (N : Addr → Prop) (o : Addr) (xs : List Str) (f : RF) (rl : Str), vs = [.ref o] ∧ BookAt K C R B N H o xs f rl ∧ f.dep ≤ 12 ∧ f.size ≤ 900 ∧ ∀ H' p, Same H H' → SeenAt K H' p xs f rl → Q (.ref p) H'
theorem ok_seen {f : Addr} {fd : FuncData} (F : Fun K "_law_seen" "_law_seen" s__law_seen f fd) (Bl : Blt mg) (kB : BookX P w K mg base B) (c__law_told : Cal P w K mg base CX0 16 "_law_told" ["_law_rules"] (sp_told K C R 12)) :
    FnOk P w K mg base CX0 17 f fd ["_law_book_here"] (sp_seen K C R B) := by
  refine F.ok sc__law_seen (fun vs H Q E h => by obtain ⟨N, o, xs, f, rl, rfl, _⟩ := h; rfl) (fun cdv A outer s H vs Q E hr h => ?_)
  obtain ⟨N, o, xs, f, rl, rfl, ⟨dx, a, p, l, ws, us, ho, hS, hP, hF, _⟩, hd, hz, q⟩ := h
  refine ⟨_, (pss_one (ps_ret (pe_tup (pa_cons (pe_cprop kB.facts kB.cls (hr.mono (by decide)) (pv 0)) (pa_cons (pe_cal c__law_told (hr.mono (by decide)) (pa_cons (pe_cprop kB.rules kB.cls (hr.mono (by decide)) (pv 0)) pa_nil)) (pa_cons (pe_cprop kB.ruling kB.cls (hr.mono (by decide)) (pv 0)) pa_nil)))))), ?_⟩
  refine ⟨_, rfl, o, dx, _, rfl, ho, o, dx, _, _, rfl, ho, rfl, _, rfl, o, dx, _, rfl, ho, o, dx, _, _, rfl, ho, rfl, N, p, ws, f, rfl, hP, hF, hd, hz, fun H5 p5 us5 s5 hp5 hr5 => ?_⟩
  have ho5 := s5 _ _ ho
  refine ⟨_, rfl, o, dx, _, rfl, ho5, o, dx, _, _, rfl, ho5, rfl, (by show 3 ≤ sizeLine; decide), fun t nt => ?_⟩
  have s6 : Same H5 (upd H5 t (.tup [.ref a, .ref p5, .str rl])) := (Same.refl H5).put nt
  exact q _ t (s5.trans s6) ⟨a, p5, us5, sqT_new, (s5.trans s6).tup hS, s6.tup hp5, hr5.keeps (N := NoL) s6.keeps⟩
end
end Sc
namespace Sc
open PySem PySem.Spec PyProof.Rows L2
theorem sc_Rule___eq__ : FnScope ["self", "other"] ["self", "other"] (defScope s_Rule___eq__) := ⟨rfl, rfl, rfl, by decide +kernel, rfl, by decide +kernel, by decide +kernel⟩
theorem sc_Book___eq__ : FnScope ["self", "other"] ["self", "other"] (defScope s_Book___eq__) := ⟨rfl, rfl, rfl, by decide +kernel, rfl, by decide +kernel, by decide +kernel⟩
/-- a tuple with items against one without -/
def rT0 (K : PySem.W.Frag) : R2 := fun x y H Q => ∃ (a b : Addr) (xs : List V), x = .ref a ∧ y = .ref b ∧ SqT K H a xs ∧ SqT K H b [] ∧ xs ≠ [] ∧ Q (.bl false) H
theorem op_eqT0 {X : Cx} (hu : X.A.units < cLine) : OpR X (compareOp .Eq) (rT0 X.K) := by
  intro pins s σ H x y v u Q I rx ry h
  obtain ⟨a, b, xs, rfl, rfl, ha, hb, hne, q⟩ := h
  cases rx
  cases ry
  obtain ⟨its, r, p1, _⟩ := I.tuple ha
  obtain ⟨its2, r2, p2, _⟩ := I.tuple hb
  have h1 := r.length
  have h2 := r2.length
  have z2 : its2 = [] := List.length_eq_zero_iff.mp (by rw [← h2]; rfl)
  subst z2
  have hz : (its.toArray.size == ([] : List Value).toArray.size) = false := by
    have : its.length ≠ 0 := by rw [← h1]; exact fun z => hne (List.length_eq_zero_iff.mp z)
    simpa using fun z : its = [] => this (by rw [z]; rfl)
  have hr := SeqAt.RcAt.tuples (A := X.A) (s := s) (e := fun _ => true) p1 p2 hu (fun j _ hj => absurd hj (Nat.not_lt_zero j))
  rw [hz, Bool.and_false] at hr
  exact EqBoolInt.of_rc hr ⟨.bl false, H, I, rfl, q⟩
section
variable {P : Program} {w : World} {K : PySem.W.Frag} {mg : Str → Option Value} {base : Heap} {C R B : Addr}
/-- two of the same rule -/
def RuEq (K : PySem.W.Frag) (C R : Addr) (d : Nat) (a b : Addr) (H : Hp) : Prop := ∃ (N : Addr → Prop) (n : Nd), NdAt K C R N H a n ∧ NdAt K C R N H b n ∧ NdOk n ∧ n.exc.every NdOk ∧ n.exc.dep + 1 ≤ d
theorem ruMon {d : Nat} : ∀ a b H H', Ext H H' → RuEq K C R d a b H → RuEq K C R d a b H' := fun a b H H' e ⟨N, n, h1, h2, h3⟩ =>
  ⟨N, n, h1.keeps (fun b o _ q => e b o q), h2.keeps (fun b o _ q => e b o q), h3⟩
def sp_req (K : PySem.W.Frag) (C R : Addr) (d : Nat) : Sp := fun vs H Q _ => ∃ (N : Addr → Prop) (a b : Addr) (n m : Nd), vs = [.ref a, .ref b] ∧ NdAt K C R N H a n ∧ NdAt K C R N H b m ∧ NdOk n ∧ n.exc.every NdOk ∧ n.exc.dep ≤ d ∧ m.nm = n.nm ∧ m.hs = n.hs ∧ m.fs = n.fs ∧
  ((m = n ∧ ∀ H', Same H H' → Q (.bl true) H') ∨ ((m.rl ≠ n.rl ∨ (m.rl = n.rl ∧ m.exc = .nil ∧ n.exc ≠ .nil)) ∧ ∀ H', Same H H' → Q (.bl false) H'))
theorem ok_req {d : Nat} {f : Addr} {fd : FuncData} {gc : Addr} {fc : FuncData} (F : Fun K "__eq__" "Rule.__eq__" s_Rule___eq__ f fd) (Bl : Blt mg) (T : Cls K R) (n1 : NoAttr K R "_name") (n2 : NoAttr K R "_condition") (n3 : NoAttr K R "_ruling") (n4 : NoAttr K R "_exceptions") (mR : mg "Rule" = some (.ref R)) (I : IsiC K R)
    (hc1 : PySem.W.findIn K (.ref C) "__eq__" = some (some (.ref gc))) (hc2 : PySem.W.isFn K (.ref gc) = true) (cF : FnOk P w K mg base CX0 1 gc fc ["self", "other"] (sp_ceq K C)) (cB : Binds K fc ["self", "other"] [])
    (hs : PySem.W.findIn K (.ref R) "__eq__" = some (some (.ref f))) (hf : PySem.W.isFn K (.ref f) = true) (hb : Binds K fd ["self", "other"] []) (hF : FnOk P w K mg base CX0 (2 * d + 1) f fd ["self", "other"] (spEq (RuEq K C R d))) :
    FnOk P w K mg base CX0 (2 * d + 3) f fd ["self", "other"] (sp_req K C R d) := by
  refine F.ok sc_Rule___eq__ (fun vs H Q E h => by obtain ⟨N, a, b, n, m, rfl, _⟩ := h; rfl) (fun cdv A outer s H vs Q E hr h => ?_)
  obtain ⟨N, a, b, n, m, rfl, hA, hB, hn, hne, hd, e1, e2, e3, q⟩ := h
  refine ⟨_, (pss_one (ps_ret (pe_and (pe_callB call_isi (by rfl) Bl.b_isinstance PyProof.Rows.boot_isinstance (pa_cons (pv 1) (pa_cons (pe_glob (v := .ref _) rfl mR rfl) pa_nil))) (pe_and (pe_cmpR op_eq (pe_fld (pv 0) rfl) (pe_fld (pv 1) rfl) (nomark _)) (pe_and (pe_cmpR (op_eqO hc1 hc2 cF (hr.mono (by omega)) cB pass0) (pe_fld (pv 0) rfl) (pe_fld (pv 1) rfl) (nomark _)) (pe_and (pe_cmpR op_eq (pe_fld (pv 0) rfl) (pe_fld (pv 1) rfl) (nomark _)) (pe_one (pe_cmpR (op_or (op_eqG (rcG_tup (mon_ins ruMon) (eqG_ins hF hs hf hb pass0)) (hr.mono (by omega))) (op_eqT0 (Nat.lt_of_le_of_lt (Nat.le_add_right _ 64) hr.units))) (pe_fld (pv 0) rfl) (pe_fld (pv 1) rfl) (nomark _))))))))), ?_⟩
  obtain ⟨dx, c, p, l, ws, ha, hc, hp, _, hfa⟩ := id hA
  obtain ⟨dx2, c2, p2, l2, ws2, hb0, hc0, hp2, _, hfb⟩ := id hB
  obtain ⟨dxc, ca, cb, cn, zs, hcc, _⟩ := hc.at_
  obtain ⟨dxc2, ca2, cb2, cn2, zs2, hcc2, _⟩ := hc0.at_
  refine ⟨_, rfl, _, _, _, _, _, rfl, .own _, .base (.ins hb0 T I.ca I.cn I.ct I.cm), I.me, _, rfl, iteT ?_⟩
  refine ⟨_, rfl, a, R, dx, _, _, rfl, ha, T, n1, rfl, _, rfl, b, R, dx2, _, _, rfl, hb0, T, n1, rfl, ?_⟩
  refine ⟨rfl, _, rfl, ?_⟩
  rw [e1, decide_eq_true rfl]
  refine iteT ?_
  have hcm : CondAt K C H c2 n.hs n.fs := by rw [← e2, ← e3]; exact hc0
  refine ⟨_, rfl, a, R, dx, _, _, rfl, ha, T, n2, rfl, _, rfl, b, R, dx2, _, _, rfl, hb0, T, n2, rfl, ?_⟩
  refine ⟨c, dxc, _, .ref C, rfl, hcc, .ins hcc2, (by simp [PySem.W.notFirst]), c, .ref c2, n.hs, n.fs, rfl, hc, fw_fines hn.c1, fw_fines hn.c2, .inl ⟨c2, n.hs, n.fs, rfl, hcm, fw_fines hn.c1, fw_fines hn.c2, ?_⟩⟩
  rw [decide_eq_true rfl, decide_eq_true rfl]
  refine ⟨_, rfl, iteT ?_⟩
  refine ⟨_, rfl, a, R, dx, _, _, rfl, ha, T, n3, rfl, _, rfl, b, R, dx2, _, _, rfl, hb0, T, n3, rfl, rfl, _, rfl, ?_⟩
  by_cases c3 : m.rl = n.rl
  · rw [c3, decide_eq_true rfl]
    refine iteT ⟨_, rfl, a, R, dx, _, _, rfl, ha, T, n4, rfl, _, rfl, b, R, dx2, _, _, rfl, hb0, T, n4, rfl, ?_⟩
    rcases q with ⟨rfl, q⟩ | ⟨hc4, q⟩
    · refine .inl ⟨⟨p, p2, ws, ws2, rfl, rfl, hp, hp2, ?_⟩, fun H' e => q H' e⟩
      have h1 := hfa.all
      have h2 := hfb.all
      refine ⟨h1.len.trans h2.len.symm, fun i x y hx hy => ?_⟩
      obtain ⟨n1', hn1, o1, rfl, hN1⟩ := h1.get hx
      obtain ⟨n2', hn2', o2, rfl, hN2⟩ := h2.get hy
      obtain rfl : n1' = n2' := Option.some.inj (hn1.symm.trans hn2')
      have hmem : n1' ∈ m.exc.nodes := List.mem_of_getElem? hn1
      obtain ⟨ho1, ho2⟩ := RF.every_nodes.mp hne n1' hmem
      have hdm := RF.dep_mem _ n1' hmem
      obtain ⟨dxa, c1', p1', l1', w1', ha1, _⟩ := id hN1
      obtain ⟨dxb, c2', p2', l2', w2', hb1, _⟩ := id hN2
      exact ⟨o1, o2, dxa, dxb, _, _, rfl, rfl, ha1, hb1, N, n1', hN1, hN2, ho1, ho2, by omega⟩
    · rcases hc4 with hc4 | ⟨_, hx1, hx2⟩
      · exact absurd c3 hc4
      · rw [hx1] at hfb
        have hfb : ws2 = [] := hfb
        subst hfb
        have hwl := hfa.all.len
        refine .inr ⟨p, p2, ws, rfl, rfl, hp, hp2, fun z => hx2 ?_, q H (Same.refl H)⟩
        rw [z] at hwl
        rw [← RF.of_nodes n.exc, List.length_eq_zero_iff.mp hwl.symm]
        rfl
  · rw [decide_eq_false (fun z => c3 (V.str.inj z).symm)]
    rcases q with ⟨rfl, q⟩ | ⟨_, q⟩
    · exact absurd rfl c3
    · exact iteF (q H (Same.refl H))
/-- by depth -/
theorem ruleEq_all {f : Addr} {fd : FuncData} {gc : Addr} {fc : FuncData} (F : Fun K "__eq__" "Rule.__eq__" s_Rule___eq__ f fd) (Bl : Blt mg) (T : Cls K R) (n1 : NoAttr K R "_name") (n2 : NoAttr K R "_condition") (n3 : NoAttr K R "_ruling") (n4 : NoAttr K R "_exceptions") (mR : mg "Rule" = some (.ref R)) (I : IsiC K R)
    (hc1 : PySem.W.findIn K (.ref C) "__eq__" = some (some (.ref gc))) (hc2 : PySem.W.isFn K (.ref gc) = true) (cF : FnOk P w K mg base CX0 1 gc fc ["self", "other"] (sp_ceq K C)) (cB : Binds K fc ["self", "other"] [])
    (hs : PySem.W.findIn K (.ref R) "__eq__" = some (some (.ref f))) (hf : PySem.W.isFn K (.ref f) = true) (hb : Binds K fd ["self", "other"] []) : ∀ d, FnOk P w K mg base CX0 (2 * d + 3) f fd ["self", "other"] (sp_req K C R d)
  | 0 => ok_req F Bl T n1 n2 n3 n4 mR I hc1 hc2 cF cB hs hf hb ((FnOk.never (ps := ["self", "other"])).imp fun vs H Q E h => by
      obtain ⟨a, b, _, ⟨N, n, _, _, _, _, hd⟩, _⟩ := h
      omega)
  | d + 1 => ok_req F Bl T n1 n2 n3 n4 mR I hc1 hc2 cF cB hs hf hb ((ruleEq_all F Bl T n1 n2 n3 n4 mR I hc1 hc2 cF cB hs hf hb d).imp fun vs H Q E h => by
      obtain ⟨a, b, rfl, ⟨N, n, hA, hB, hn, hne, hd⟩, q⟩ := h
      exact ⟨N, a, b, n, n, rfl, hA, hB, hn, hne, by omega, rfl, rfl, rfl, .inl ⟨rfl, fun H' s => q H' s⟩⟩)
def sp_beq (K : PySem.W.Frag) (C R B : Addr) : Sp := fun vs H Q _ => ∃ (N : Addr → Prop) (a : Addr) (y : V) (xs : List Str) (f : RF) (rl : Str), vs = [.ref a, y] ∧ BookAt K C R B N H a xs f rl ∧ f.every NdOk ∧ Fines xs ∧ f.dep ≤ 13 ∧
  ((∃ (b : Addr) (xs' : List Str) (f' : RF) (rl' : Str) (ans : Bool), y = .ref b ∧ BookAt K C R B N H b xs' f' rl' ∧ Fines xs' ∧ ((xs ≠ xs' ∧ ans = false) ∨ (xs = xs' ∧ f = f' ∧ ans = decide (rl = rl'))) ∧ ∀ H', Same H H' → Q (.bl ans) H') ∨
   (∃ t : Value, TyOf K H y t ∧ PySem.W.kitOne K t (.ref B) = some false ∧ Q (.bl false) H))
theorem ok_beq {f : Addr} {fd : FuncData} {g : Addr} {fg : FuncData} (F : Fun K "__eq__" "Book.__eq__" s_Book___eq__ f fd) (Bl : Blt mg) (T : Cls K B) (n1 : NoAttr K B "_facts") (n2 : NoAttr K B "_rules") (n3 : NoAttr K B "_ruling") (mB : mg "Book" = some (.ref B)) (I : IsiC K B)
    (hs : PySem.W.findIn K (.ref R) "__eq__" = some (some (.ref g))) (hf : PySem.W.isFn K (.ref g) = true) (hb : Binds K fg ["self", "other"] []) (hR : FnOk P w K mg base CX0 27 g fg ["self", "other"] (sp_req K C R 12)) :
    FnOk P w K mg base CX0 29 f fd ["self", "other"] (sp_beq K C R B) := by
  have hF : FnOk P w K mg base CX0 27 g fg ["self", "other"] (spEq (RuEq K C R 13)) := hR.imp fun vs H Q E h => by
    obtain ⟨a, b, rfl, ⟨N, n, hA, hB, hn, hne, hd⟩, q⟩ := h
    exact ⟨N, a, b, n, n, rfl, hA, hB, hn, hne, by omega, rfl, rfl, rfl, .inl ⟨rfl, fun H' s => q H' s⟩⟩
  refine F.ok sc_Book___eq__ (fun vs H Q E h => by obtain ⟨N, a, y, xs, f, rl, rfl, _⟩ := h; rfl) (fun cdv A outer s H vs Q E hr h => ?_)
  obtain ⟨N, a, y, xs, f, rl, rfl, hA, hev, hfx, hd, q⟩ := h
  obtain ⟨dx, fa, p, l, ws, us, ha, hS, hP, hFa, _, _⟩ := id hA
  refine ⟨_, (pss_one (ps_ret (pe_and (pe_callB call_isi (by rfl) Bl.b_isinstance PyProof.Rows.boot_isinstance (pa_cons (pv 1) (pa_cons (pe_glob (v := .ref _) rfl mB rfl) pa_nil))) (pe_and (pe_cmpR (op_eqD hr.units) (pe_fld (pv 0) rfl) (pe_fld (pv 1) rfl) (nomark _)) (pe_and (pe_cmpR (op_eqG (rcG_tup (mon_ins ruMon) (eqG_ins hF hs hf hb pass0)) (hr.mono (by decide))) (pe_fld (pv 0) rfl) (pe_fld (pv 1) rfl) (nomark _)) (pe_one (pe_cmpR op_eq (pe_fld (pv 0) rfl) (pe_fld (pv 1) rfl) (nomark _)))))))), ?_⟩
  rcases q with ⟨b, xs', f', rl', ans, rfl, hB, hfx', hc, q⟩ | ⟨t, ht, hk, q⟩
  · obtain ⟨dx2, fb, p2, l2, ws2, us2, hb0, hS2, hP2, hFb, _, _⟩ := id hB
    refine ⟨_, rfl, _, _, _, _, _, rfl, .own _, .base (.ins hb0 T I.ca I.cn I.ct I.cm), I.me, _, rfl, iteT ?_⟩
    refine ⟨_, rfl, a, B, dx, _, .ref fa, rfl, ha, T, n1, rfl, _, rfl, b, B, dx2, _, .ref fb, rfl, hb0, T, n1, rfl, _, _, dp_strs hS, dp_strs hS2, shT hfx, shT hfx', _, rfl, ?_⟩
    have e1 : (PyData.tuple (xs.map PyData.str)).eqv (.tuple (xs'.map PyData.str)) = decide (xs = xs') := eqvA xs xs'
    rw [e1]
    rcases hc with ⟨c1, rfl⟩ | ⟨rfl, rfl, rfl⟩
    · rw [decide_eq_false c1]
      exact iteF (q H (Same.refl H))
    · rw [decide_eq_true rfl]
      refine iteT ⟨_, rfl, a, B, dx, _, .ref p, rfl, ha, T, n2, rfl, _, rfl, b, B, dx2, _, .ref p2, rfl, hb0, T, n2, rfl, ⟨p, p2, ws, ws2, rfl, rfl, hP, hP2, ?_⟩, fun H1 s1 => ⟨_, rfl, iteT ?_⟩⟩
      · have h1 := hFa.all
        have h2 := hFb.all
        refine ⟨h1.len.trans h2.len.symm, fun i x y hx hy => ?_⟩
        obtain ⟨n1', hn1, o1, rfl, hN1⟩ := h1.get hx
        obtain ⟨n2', hn2', o2, rfl, hN2⟩ := h2.get hy
        obtain rfl : n1' = n2' := Option.some.inj (hn1.symm.trans hn2')
        have hmem : n1' ∈ f.nodes := List.mem_of_getElem? hn1
        obtain ⟨ho1, ho2⟩ := RF.every_nodes.mp hev n1' hmem
        have hdm := RF.dep_mem _ n1' hmem
        obtain ⟨dxa, c1', p1', l1', w1', ha1, _⟩ := id hN1
        obtain ⟨dxb, c2', p2', l2', w2', hb1, _⟩ := id hN2
        exact ⟨o1, o2, dxa, dxb, _, _, rfl, rfl, ha1, hb1, N, n1', hN1, hN2, ho1, ho2, by omega⟩
      · have s1 : Same H H1 := s1
        refine ⟨_, rfl, a, B, dx, _, _, rfl, s1 _ _ ha, T, n3, rfl, _, rfl, b, B, dx2, _, _, rfl, s1 _ _ hb0, T, n3, rfl, rfl, ?_⟩
        rw [decV_str]
        exact q H1 s1
  · exact ⟨_, rfl, _, _, _, _, _, rfl, .own _, .base ht, hk, _, rfl, iteF q⟩
end
end Sc
namespace Sc
open PySem PySem.Spec PyProof.Rows L2
theorem sc_law : FnScope ["_law_script", "_law_h", "_law_lap", "_law_drawn_here", "_law_spans_here", "_law_seasons", "_law_k", "_law_day", "_law_due"] ["_law_script"] (defScope s_law) := ⟨rfl, rfl, rfl, by decide +kernel, rfl, by decide +kernel, by decide +kernel⟩
/-- making an object whose init raises nothing -/
structure Mkr0 (P : Program) (w : World) (K : PySem.W.Frag) (mg : Str → Option Value) (base : Heap) (k : Nat) (x : Str) (C : Addr) (ps : List Str) (sp : Sp) : Prop where
  ex : ∃ (f : Addr) (fd : FuncData), Mk K C f ∧ FnOk P w K mg base CX0 k f fd ps sp ∧ mg x = some (.ref C) ∧ Binds K fd ps []
/-- a property of a class that is worked out -/
def PropM (P : Program) (w : World) (K : PySem.W.Frag) (mg : Str → Option Value) (base : Heap) (C : Addr) (n : Str) (k : Nat) (sp : Sp) : Prop := ∃ p g fd, PropOf K C n p g ∧ FnOk P w K mg base CX0 k g fd ["self"] sp ∧ Binds K fd ["self"] []
section
variable {X : Cx} {k : Nat} {x : Str} {C : Addr} {ps : List Str} {sp : Sp} {e : Expr} {es : List Expr} {t : TA} {p pos : Pos}
theorem pe_mk0 (M : Mkr0 X.prog X.w X.K X.mg X.base k x C ps sp) (hr : Room (k + 1) X.A) (ha : PA X (e :: es) t) (hg : Gl X x := by rfl) (hdb : (x == ("__debug__" : Str)) = false := by decide)
    (he : starEach (e :: es) X.env = (false, eval e X.env) :: starEach es X.env := by rfl) (hpl : (backTo pos (starEach es X.env)).any (·.1) = false := by rfl) : PE X (.Call (.Name x p) (e :: es) [] pos) (tMake C sp [] E0 t) := by
  obtain ⟨f, fd, hk, F, hm, hb⟩ := M.ex
  exact pe_make hk F hr hg hm hb .nil pass0 ha hdb he hpl
theorem pe_propM {n : Str} {ta : TE} (M : PropM X.prog X.w X.K X.mg X.base C n k sp) (hr : Room (k + 1) X.A) (c : Cls X.K C) (he : PE X e ta) (hab : attributeBase e n X.env (eval e X.env) = eval e X.env := by rfl) : PE X (.Attribute e n pos) (tProp C sp [] E0 ta) := by
  obtain ⟨p, g, fd, h1, h2, h3⟩ := M
  exact pe_prop he c h1 h2 hr h3 .nil pass0 hab
theorem pe_callSea {te : TE} (M : MethO X.prog X.w X.K X.mg X.base CX0 k C "__call__" ps sp) (hr : Room k X.A) (ho : PE X (.Name x p) te) (ha : PA X (e :: es) t)
    (he : starEach (e :: es) X.env = (false, eval e X.env) :: starEach es X.env := by rfl) (hpl : (backTo pos (starEach es X.env)).any (·.1) = false := by rfl) : PE X (.Call (.Name x p) (e :: es) [] pos) (Sc.tCallO C sp E0 te t) := by
  obtain ⟨g, fd, h1, h2, h3, F, hb⟩ := M.ex
  exact Sc.pe_callO h1 h2 h3 F hr hb pass0 ho ha he hpl
end
theorem names12_len {f : RF} {k : Nat} {ns : List Str} (e : f.names ++ ns = names12.drop k) : f.size ≤ 12 := by
  have h1 := congrArg List.length e
  rw [List.length_append, List.length_drop] at h1
  have h2 : names12.length = 12 := rfl
  have h3 : f.names.length = f.size := by rw [← RF.pre_names f 0, List.length_map, RF.pre_len]
  omega
theorem pre_dep : ∀ (f : RF) (k : Nat), ∀ q ∈ f.pre k, q.2 + 1 ≤ k + f.dep
  | .nil, _, q, h => nomatch h
  | .cons n hs fs rl exc rest, k, q, h => by
    show q.2 + 1 ≤ k + max (exc.dep + 1) rest.dep
    rcases List.mem_cons.mp h with rfl | h
    · show k + 1 ≤ _
      omega
    · rcases List.mem_append.mp h with h | h
      · have := pre_dep exc (k + 1) q h
        omega
      · have := pre_dep rest k q h
        omega
/-- all but the draws' own lists -/
abbrev NotDraw (a l : Addr) : Addr → Prop := fun b => b ≠ a ∧ b ≠ l
theorem at_seen' {K : PySem.W.Frag} {H : Hp} {p : Addr} {xs : List Str} {f : RF} {rl : Str} (h : SeenAt K H p xs f rl) (l : xs.length ≤ 60) (ev : f.every NdOk) (hz : f.size ≤ 900) (hd : f.dep ≤ 8) : AT K H 29 (.ref p) (.tuple [.tuple (xs.map PyData.str), .tuple f.dats, .str rl]) := by
  obtain ⟨fp, pr, ws, h1, h2, h3, h4⟩ := h
  have hel := h4.len
  have hez := RF.nodes_le f
  refine .tup h1 rfl (by show 3 ≤ 1000000; decide) fun j x d hx hd => ?_
  match j, hx, hd with
  | 0, hx, hd => cases hx; cases hd; exact at_strs h2 (by omega)
  | 1, hx, hd => cases hx; cases hd; exact .tup h3 (by rw [hel, dats_len]) (by omega) fun k x d hx hd => at_rows h4 ev hz (by omega) k x d hx hd
  | 2, hx, hd => cases hx; cases hd; exact .str _ _
  | j + 3, hx, hd => cases hx
/-- pairs that stand for a dict -/
theorem rows_kvs {K : PySem.W.Frag} {H : Hp} {us : List V} {sp : List (Str × Spn)} (h : All2 (SpRow K H) us sp) : ∃ (ps : List Addr) (kvs : List (Key × V)), us = ps.map V.ref ∧ Paired (fun p kv => SqT K H p [kV kv.1, kv.2]) ps kvs ∧ All2 (SpKv K H) kvs sp := by
  induction h with
  | nil => exact ⟨[], [], rfl, .nil, .nil⟩
  | @cons v q vs qs h _ ih =>
    obtain ⟨ps, kvs, rfl, h2, h3⟩ := ih
    obtain ⟨t, t2, rfl, g1, g2⟩ := h
    exact ⟨t :: ps, (.inr q.1, .ref t2) :: kvs, rfl, .cons g1 h2, .cons ⟨rfl, t2, rfl, g2⟩ h3⟩
theorem merge_new : ∀ {more kvs : List (Key × V)}, ((kvs ++ more).map fun kv => kv.1).Nodup → mergeK kvs more = kvs ++ more
  | [], kvs, _ => by rw [List.append_nil]; rfl
  | kv :: r, kvs, h => by
    have hv : valV kvs kv.1 = none := by
      unfold valV
      rw [Option.map_eq_none_iff, List.find?_eq_none]
      intro x hx hd
      have hd : x.1 = kv.1 := of_decide_eq_true hd
      rw [List.map_append, List.map_cons] at h
      exact (List.nodup_append.mp h).2.2 _ (List.mem_map.mpr ⟨x, hx, rfl⟩) _ List.mem_cons_self hd
    show mergeK (putK kvs kv.1 kv.2) r = _
    rw [putK_new _ hv, merge_new (by rw [List.append_assoc]; exact h), List.append_assoc]
    rfl
theorem SeaAt.kp {K : PySem.W.Frag} {C R B SE a l : Addr} {N : Addr → Prop} {H H' : Hp} {x : Addr} {xs : List Str} {f : RF} {rl : Str} {sp : List (Str × Spn)} (h : SeaAt K C R B SE N H x xs f rl sp) (k : Kp a l H H') (na : ¬ N a) (nl : ¬ N l) : SeaAt K C R B SE N H' x xs f rl sp := by
  obtain ⟨dx, b, d, kvs, h1, h2, h3, h4⟩ := h
  exact ⟨dx, b, d, kvs, k.obj h1 (fun _ z => by cases z), h2.keeps (k.keeps na nl), k.obj h3 (fun _ z => by cases z), h4.mono fun _ _ x => x.same (N := NoL) k.keepsN⟩
section
variable {P : Program} {w : World} {K : PySem.W.Frag} {mg : Str → Option Value} {base : Heap} {C R B0 SE : Addr}
def sp_law (K : PySem.W.Frag) : Sp := fun vs H Q _ => ∃ (s : Addr) (ns : List Int), vs = [.ref s] ∧ SqL K H s (ns.map V.int) ∧ ns.length ≤ 63 ∧ (∀ z ∈ ns, Builtin.Int.intBits z ≤ 1048576) ∧ ∀ H', Q (.bl true) H'
theorem ok_law {f : Addr} {fd : FuncData} (F : Fun K "law" "law" s_law f fd) (B : Blt mg) (CLs : Cls K SE)
    (c__law_mix : Cal P w K mg base CX0 1 "_law_mix" ["_law_script", "_law_seed"] (sp_mix K)) (c__law_next : Cal P w K mg base CX0 1 "_law_next" ["_law_h", "_law_limit"] sp_next)
    (c__law_facts : Cal P w K mg base CX0 2 "_law_facts" ["_law_h", "_law_most"] sp_facts) (c__law_drawn : Cal P w K mg base CX0 6 "_law_drawn" ["_law_h", "_law_facts_here", "_law_most"] (sp_drawn K))
    (c__law_spans : Cal P w K mg base CX0 15 "_law_spans" ["_law_h", "_law_drawn_here"] (sp_spans K)) (c__law_season : Cal P w K mg base CX0 14 "_law_season" ["_law_rules", "_law_spans_here", "_law_day"] (sp_season K 12)) (c__law_period : Cal P w K mg base CX0 1 "_law_period" ["_law_spans_here"] (sp_period K))
    (c__law_book : Cal P w K mg base CX0 31 "_law_book" ["_law_drawn_here"] (sp_book2 K C R B0)) (c__law_seen : Cal P w K mg base CX0 17 "_law_seen" ["_law_book_here"] (sp_seen K C R B0))
    (k_Seasons : Mkr0 P w K mg base 5 "Seasons" SE ["self", "book", "spans"] (sp_seaInit K C R B0 SE)) (mPer : PropM P w K mg base SE "period" 1 (sp_seaPeriod K C R B0 SE)) (mCall : MethO P w K mg base CX0 33 SE "__call__" ["self", "day"] (sp_seaCall K C R B0 SE)) (mBe : EqO P w K mg base 29 B0 (sp_beq K C R B0))
    (c__law_alike : Cal P w K mg base CX0 30 "_law_alike" ["_law_found", "_law_due"] (sp_alikeT K 29)) : FnOk P w K mg base CX0 34 f fd ["_law_script"] (sp_law K) := by
  refine F.ok sc_law (fun vs H Q E h => by obtain ⟨s, ns, rfl, _⟩ := h; rfl) (fun cdv A outer s H vs Q E hr h => ?_)
  obtain ⟨s, ns, rfl, hS, hl, hb, q⟩ := h
  refine ⟨_, (pss_cons (ps_set (i := 1) sc_law.nd rfl (Or.inl rfl) (pe_cal c__law_mix (hr.mono (by decide)) (pa_cons (pv 0) (pa_cons pe_int pa_nil))))
      (pss_cons (ps_for PassesOwn.never rfl (pi_range1 (by rfl) B.b_range (pa_cons pe_int pa_nil)) (pg_name (i := 2) sc_law.nd rfl (Or.inl rfl)) (pss_cons (ps_set (i := 3) sc_law.nd rfl (Or.inl rfl) (pe_cal c__law_drawn (hr.mono (by decide)) (pa_cons (pv 1) (pa_cons (pe_cal c__law_facts (hr.mono (by decide)) (pa_cons (pv 1) (pa_cons pe_int pa_nil))) (pa_cons pe_int pa_nil)))))
      (pss_cons (ps_set (i := 4) sc_law.nd rfl (Or.inl rfl) (pe_cal c__law_spans (hr.mono (by decide)) (pa_cons (pv 1) (pa_cons (pv 3) pa_nil))))
      (pss_cons (ps_set (i := 5) sc_law.nd rfl (Or.inl rfl) (pe_mk0 k_Seasons (hr.mono (by decide)) (pa_cons (pe_cal c__law_book (hr.mono (by decide)) (pa_cons (pv 3) pa_nil)) (pa_cons (pe_callTy (call_dictP rfl) (by rfl) B.b_dict (by decide +kernel) (pa_cons (pv 4) pa_nil)) pa_nil))))
      (pss_cons (ps_if (pt_not (pt_val (pe_cal c__law_alike (hr.mono (by decide)) (pa_cons (pe_propM mPer (hr.mono (by decide)) CLs (pv 5)) (pa_cons (pe_cal c__law_period (hr.mono (by decide)) (pa_cons (pv 4) pa_nil)) pa_nil))))) (pss_one (ps_ret pe_bl)) pss_nil)
      (pss_one (ps_for PassesOwn.never rfl (pi_range1 (by rfl) B.b_range (pa_cons pe_int pa_nil)) (pg_name (i := 6) sc_law.nd rfl (Or.inl rfl)) (pss_cons (ps_set (i := 7) sc_law.nd rfl (Or.inl rfl) (pe_ix ix_list (pe_lst (pa_cons (pe_cal c__law_next (hr.mono (by decide)) (pa_cons (pv 1) (pa_cons pe_int pa_nil))) (pa_cons (pe_op op_sub (pe_op op_pow pe_int pe_int) (pe_cal c__law_next (hr.mono (by decide)) (pa_cons (pv 1) (pa_cons pe_int pa_nil)))) pa_nil))) (pe_cal c__law_next (hr.mono (by decide)) (pa_cons (pv 1) (pa_cons pe_int pa_nil))) (fun _ _ => rfl)))
      (pss_cons (ps_set (i := 8) sc_law.nd rfl (Or.inl rfl) (pe_tup (pa_cons (pe_ix ix_tup (pv 3) pe_int (fun _ _ => rfl)) (pa_cons (pe_cal c__law_season (hr.mono (by decide)) (pa_cons (pe_ix ix_tup (pv 3) pe_int (fun _ _ => rfl)) (pa_cons (pv 4) (pa_cons (pv 7) pa_nil)))) (pa_cons (pe_ix ix_tup (pv 3) pe_int (fun _ _ => rfl)) pa_nil)))))
      (pss_cons (ps_if (pt_not (pt_val (pe_cal c__law_alike (hr.mono (by decide)) (pa_cons (pe_cal c__law_seen (hr.mono (by decide)) (pa_cons (pe_callSea mCall (hr.mono (by decide)) (pv 5) (pa_cons (pv 7) pa_nil)) pa_nil)) (pa_cons (pv 8) pa_nil))))) (pss_one (ps_ret pe_bl)) pss_nil)
      (pss_one (ps_if (pt_cmpR (op_neM mBe (hr.mono (by decide))) (pe_callSea mCall (hr.mono (by decide)) (pv 5) (pa_cons (pe_op op_mod (pe_callTy call_int1 (by rfl) B.b_int PyProof.Rows.boot_int (pa_cons (pv 7) pa_nil)) (pe_propM mPer (hr.mono (by decide)) CLs (pv 5))) pa_nil)) (pe_callSea mCall (hr.mono (by decide)) (pv 5) (pa_cons (pv 7) pa_nil)) (nomark _)) (pss_one (ps_ret pe_bl)) pss_nil))))))))))))
      (pss_one (ps_ret pe_bl)))), ?_⟩
  refine ⟨.ref s, rfl, s, ns, 41, rfl, hS, hl, hb, by decide, by decide, fun H1 a l s1 R1 => ?_⟩
  refine ⟨4, rfl, by decide, by decide, for_it walk_range (fun i σ H' => ∃ (y0 y2 y3 y4 y5 y6 y7 y8 : Option V), σ = [y0, some (.ref a), y2, y3, y4, y5, y6, y7, y8] ∧ RS H' a l)
      ⟨_, _, _, _, _, _, _, _, rfl, R1⟩ (fun _ _ _ _ _ => trivial) ?_ ?_⟩
  · rintro i x σ H2 H3 hi ⟨y0, y2, y3, y4, y5, y6, y7, y8, rfl, RR⟩ ⟨rfl, hy⟩
    refine ⟨_, rfl, _, rfl, a, l, 5, rfl, RR, by decide, by decide, fun H4 fp fs k4 efp nfp sub f1 f2 => ?_⟩
    have hright : Right fs := ten_right.sub sub
    refine ⟨a, l, fp, fs, 4, rfl, k4.new, sqT_of efp, hright, by omega, by decide, fun H5 p f rl k5 dr hn3 => ?_⟩
    obtain ⟨pr, ws, ep, hP, hX⟩ := dr.at_
    have hS5 : SqT K H5 fp (fs.map V.str) := k5.tup (sqT_of efp)
    have hnames := dr.nm
    have hsz : f.size ≤ 12 := by obtain ⟨k, ns, e⟩ := hnames; exact names12_len e
    have hdp := dr.dp
    have hfs0 : fs ≠ [] := fun z => by rw [z] at f1; exact absurd f1 (by decide)
    have hnod : f.names.Nodup := by
      obtain ⟨k, ns', e⟩ := hnames
      have h1 : (f.names ++ ns').Nodup := by rw [e]; exact names12_nodup.sublist (List.drop_sublist _ _)
      exact (List.nodup_append.mp h1).1
    have hrl := three_name _ dr.rl
    have hev : f.every NdOk := RF.every_mono (fun n h => h.ok) dr.ev
    have hbad := hright.bad hfs0 (by omega)
    have hK : Bk3 fs f rl := ⟨hright.fines.txts, by omega, hbad, hrl, hnod, by omega, by omega, RF.every_mono (fun n h => ⟨h.ok, h.s1, h.s2⟩) dr.ev⟩
    have hff := hK.ff
    refine ⟨_, rfl, _, rfl, a, l, p, fp, pr, .str rl, ws, f, rfl, k5.new, sqT_of ep, hP, hX, hdp, hsz, fun H6 D us sp k6 Da Dl eD hus hok hsub => ?_⟩
    have hspn : (sp.map fun q => q.1).Nodup := hnod.sublist hsub
    have hmem : ∀ q ∈ sp, SpnOk q.2 ∧ q.1 ∈ f.names := fun q hq => ⟨hok q hq, hsub.subset (List.mem_map.mpr ⟨q, hq, rfl⟩)⟩
    have hspl : sp.length ≤ 12 := by
      have h1 := hsub.length_le
      have h2 : f.names.length = f.size := by rw [← RF.pre_names f 0, List.length_map, RF.pre_len]
      rw [List.length_map] at h1
      omega
    have hP6 : SqT K H6 p [.ref fp, .ref pr, .str rl] := k6.tup (sqT_of ep)
    have hS6 := k6.tup hS5
    have hR6 := k6.tup hP
    have hX6 := hX.keeps (N := NoL) k6.keepsN
    have R6 := k6.new
    have na : ¬ NotDraw a l a := fun h => h.1 rfl
    have nl : ¬ NotDraw a l l := fun h => h.2 rfl
    refine ⟨_, rfl, NotDraw a l, p, fp, pr, fs, rl, ws, f, rfl, hP6, hS6, hright.fines.txts, by omega, hR6, hX6, (fun b e => R6.no e), hev, by omega, by omega, hbad, hff, hrl, fun H7 ob s7 hB7 => ?_⟩
    have hus7 := hus.mono fun _ _ x => x.keeps (N := NoL) s7.keeps
    obtain ⟨ps, kvs, eus, hpair, hkvs⟩ := rows_kvs hus7
    have hmk : mergeK [] kvs = kvs := merge_new (keys_nd hkvs hspn)
    have eD7 := s7 _ _ eD
    refine ⟨_, rfl, D, ps, kvs, rfl, (by rw [← eus]; exact sqL_of eD7), hpair, fun d nd => ?_⟩
    rw [hmk]
    have s8 : Same H7 (upd H7 d (.dK kvs)) := (Same.refl H7).put nd
    have e8 : (upd H7 d (.dK kvs)) d = some (.dK kvs) := upd_same
    generalize upd H7 d (.dK kvs) = H8 at s8 e8 ⊢
    intro o dx no ndx nox
    have s9 : Same H8 (upd (upd H8 dx (.own o)) o (.ins SE dx [])) := ((Same.refl H8).put ndx).put no
    have o9 : (upd (upd H8 dx (.own o)) o (.ins SE dx [])) o = some (.ins SE dx []) := upd_same
    generalize upd (upd H8 dx (.own o)) o (.ins SE dx []) = H9 at s9 o9 ⊢
    have s79 := s8.trans s9
    have s69 := s7.trans s79
    refine ⟨NotDraw a l, o, dx, ob, d, fs, f, rl, kvs, sp, rfl, o9, hB7.keeps s79.keeps, by omega, s9 _ _ e8, hkvs.mono fun _ _ x => x.same (N := NoL) s79.keeps, hmem, hspn, by omega, fun H10 hSea x10 => ⟨rfl, ?_⟩⟩
    have k10 : Keeps NoL H9 H10 := SameX.keeps x10 o9 rfl
    have R9 := R6.same s69
    have eD9 := s69 _ _ eD
    have R10 : RS H10 a l := by
      obtain ⟨st, k, ns, h1, h2, h3⟩ := R9
      exact ⟨st, k, ns, x10 _ _ (fun z => by rw [z, o9] at h1; cases h1) h1, x10 _ _ (fun z => by rw [z, o9] at h2; cases h2) h2, h3⟩
    have eD10 : H10 D = some (.lst us) := x10 _ _ (fun z => by rw [z, o9] at eD9; cases eD9) eD9
    have hus10 := (hus.mono fun _ _ x => x.keeps (N := NoL) s69.keeps).mono fun _ _ x => x.keeps k10
    have hP10 := k10.tup (s69.tup hP6)
    have hS10 := k10.tup (s69.tup hS6)
    have hR10 := k10.tup (s69.tup hR6)
    have hX10 := (hX6.keeps (N := NoL) s69.keeps).keeps k10
    obtain ⟨dxo, bo, do_, kvo, hob, _⟩ := id hSea
    refine ⟨_, rfl, o, _, _, rfl, hob, NotDraw a l, o, fs, f, rl, sp, rfl, hSea, ?_⟩
    refine ⟨_, rfl, D, us, sp, rfl, eD10, hus10, hok, by omega, fun H11 s11 => ?_⟩
    refine ⟨_, _, .int (perN sp : Nat), rfl, .int _ _, .int _ _, fun H12 s12 => ⟨_, rfl, iteF ?_⟩⟩
    have s1012 := s11.trans s12
    have R12 := R10.same s1012
    have hSea12 := hSea.same s1012
    have eD12 := s1012 _ _ eD10
    have hus12 := hus10.mono fun _ _ x => x.keeps (N := NoL) s1012.keeps
    have hP12 := s1012.tup hP10
    have hS12 := s1012.tup hS10
    have hR12 := s1012.tup hR10
    have hX12 := hX10.keeps (N := NoL) s1012.keeps
    clear hob hSea eD10 hus10 hP10 hS10 hR10 hX10 R10
    refine ⟨6, rfl, by decide, by decide, for_it walk_range (fun i σ H' => ∃ y6 y7 y8 : Option V, σ = [y0, some (.ref a), some x, some (.ref p), some (.ref D), some (.ref o), y6, y7, y8] ∧ Kp a l H12 H') ⟨_, _, _, rfl, Kp.refl R12⟩ (fun _ _ _ _ _ => trivial) ?_ ?_⟩
    · rintro j z σ H13 H13' hj ⟨y6, y7, y8, rfl, k13⟩ ⟨rfl, hz⟩
      refine ⟨_, rfl, a, l, 30, rfl, k13.new, by decide, by decide, fun H14 r14 k14 r140 r141 => ?_⟩
      refine ⟨_, _, rfl, rfl, ⟨by decide, by decide, by decide⟩, ?_⟩
      refine ⟨_, rfl, a, l, 30, rfl, k14.new, by decide, by decide, fun H15 r15 k15 r150 r151 => ?_⟩
      refine ⟨_, _, rfl, rfl, (by show 2 ≤ sizeLine; rw [sizeLine_eq]; decide), fun L nL => ?_⟩
      have nLa := k15.new.no nL
      have k16 := ((k13.trans k14).trans k15).put (o := .lst [.int r14, .int (10 ^ (18 : Int).toNat - r15)]) nL
      have eL : (upd H15 L (.lst [.int r14, .int (10 ^ (18 : Int).toNat - r15)])) L = some (.lst [.int r14, .int (10 ^ (18 : Int).toNat - r15)]) := upd_same
      generalize upd H15 L (.lst [.int r14, .int (10 ^ (18 : Int).toNat - r15)]) = H16 at k16 eL ⊢
      refine ⟨_, rfl, a, l, 2, rfl, k16.new, by decide, by decide, fun H17 r17 k17 r170 r171 => ?_⟩
      have eL17 := k17.keep _ _ nLa.1 nLa.2 eL
      have e18 : (10 ^ (18 : Int).toNat : Int) = lastDay := by decide
      obtain ⟨day, hat, d0, d1⟩ : ∃ day : Int, atI [V.int r14, V.int (10 ^ (18 : Int).toNat - r15)] r17 = some (V.int day) ∧ 0 ≤ day ∧ day ≤ lastDay := by
        rw [e18]
        unfold lastDay
        rcases (by omega : r17 = 0 ∨ r17 = 1) with rfl | rfl
        · exact ⟨r14, rfl, r140, by omega⟩
        · exact ⟨_, rfl, by omega, by omega⟩
      have kk := k16.trans k17
      refine ⟨L, _, _, _, rfl, rfl, sqL_of eL17, hat, ?_⟩
      have hSea17 := hSea12.kp kk na nl
      have eD17 := kk.keep _ _ Da Dl eD12
      have hus17 := hus12.mono fun _ _ x => x.keeps (N := NoL) kk.keepsN
      have hP17 := kk.tup hP12
      have hS17 := kk.tup hS12
      have hR17 := kk.tup hR12
      have hX17 := hX12.keeps (N := NoL) kk.keepsN
      refine ⟨_, rfl, p, _, _, _, rfl, rfl, hP17, atI_nat (j := 0) rfl, _, rfl, p, _, _, _, rfl, rfl, hP17, atI_nat (j := 1) rfl, _, rfl, _, rfl, ?_⟩
      refine ⟨pr, D, ws, us, f, sp, day, rfl, hR17, hX17, eD17, hus17, hspn, hok, by omega, by omega, by omega, fun H18 p' ws' s18 hp' hx' => ?_⟩
      refine ⟨_, rfl, p, _, _, _, rfl, rfl, s18.tup hP17, atI_nat (j := 2) rfl, (by show 3 ≤ sizeLine; rw [sizeLine_eq]; decide), fun t nt => ?_⟩
      have s19 : Same H18 (upd H18 t (.tup [.ref fp, .ref p', .str rl])) := (Same.refl H18).put nt
      have m19 : (upd H18 t (.tup [.ref fp, .ref p', .str rl])) t = some (.tup [.ref fp, .ref p', .str rl]) := upd_same
      generalize upd H18 t (.tup [.ref fp, .ref p', .str rl]) = H19 at s19 m19 ⊢
      have s1719 := s18.trans s19
      have hSea19 := hSea17.same s1719
      have R17 := kk.new
      have fr : ∀ {H' : Hp}, Same H17 H' → ∀ l', H' l' = none → NotDraw a l l' := fun s l' e => (R17.same s).no e
      have hF := hK.filt (stays sp day)
      have hsnD : SeenAt K H19 t fs (RF.filt (stays sp day) f) rl := ⟨fp, p', ws', sqT_of m19, s1719.tup hS17, s19.tup hp', hx'.keeps (N := NoL) s19.keeps⟩
      obtain ⟨dxo, bo, do_, kvo, hob, _⟩ := id hSea19
      refine ⟨_, rfl, o, rfl, _, rfl, ⟨_, _, hob⟩, NotDraw a l, o, fs, f, rl, sp, day, rfl, hSea19, hK, fr s1719, hok, d0, d1, fun H20 b s20 hB20 => ?_⟩
      have hFd := hF.dep
      have hFz := hF.size
      have hFe : (RF.filt (stays sp day) f).every NdOk := RF.every_mono (fun n h => h.ok) hF.ev
      refine ⟨NotDraw a l, b, fs, _, rl, rfl, hB20, by omega, by omega, fun H21 p21 s21 hsn => ?_⟩
      have s1921 := s20.trans s21
      have hsnD21 : SeenAt K H21 t fs (RF.filt (stays sp day) f) rl := by
        obtain ⟨a1, a2, a3, g1, g2, g3, g4⟩ := hsnD
        exact ⟨a1, a2, a3, s1921.tup g1, s1921.tup g2, s1921.tup g3, g4.keeps (N := NoL) s1921.keeps⟩
      refine ⟨_, rfl, .ref p21, .ref t, _, rfl, at_seen' hsn (by omega) hFe (by omega) (by omega), at_seen' hsnD21 (by omega) hFe (by omega) (by omega), fun H22 s22 => ⟨_, rfl, iteF ?_⟩⟩
      have s1922 := s1921.trans s22
      have hSea22 := hSea19.same s1922
      have hob22 := s1922 _ _ hob
      have s1722 := s1719.trans s1922
      have hpp : 1 ≤ perN sp := perN_pos hok
      have hpl : perN sp ≤ 84 := perN_le hok
      have m0 := Int.emod_nonneg day (by omega : ((perN sp : Nat) : Int) ≠ 0)
      have m1 := Int.emod_lt_of_pos day (by omega : 0 < ((perN sp : Nat) : Int))
      refine ⟨_, rfl, o, rfl, _, rfl, .inl ⟨_, rfl, _, rfl, o, _, _, rfl, hob22, NotDraw a l, o, fs, f, rl, sp, rfl, hSea22, _, _, rfl, rfl, by omega, ?_⟩⟩
      refine ⟨⟨_, _, hob22⟩, NotDraw a l, o, fs, f, rl, sp, _, rfl, hSea22, hK, fr s1722, hok, m0, (by unfold lastDay; omega), fun H23 b1 s23 hB23 => ?_⟩
      have s1723 := s1722.trans s23
      refine ⟨_, rfl, o, rfl, _, rfl, ⟨_, _, s23 _ _ hob22⟩, NotDraw a l, o, fs, f, rl, sp, day, rfl, hSea22.same s23, hK, fr s1723, hok, d0, d1, fun H24 b2 s24 hB24 => ?_⟩
      have eF : RF.filt (stays sp (day % ((perN sp : Nat) : Int))) f = RF.filt (stays sp day) f := RF.filt_congr fun x _ => stays_per
      rw [eF] at hB23
      have hB23' := hB23.keeps s24.keeps
      obtain ⟨dxb, _, _, _, _, _, hob1, _⟩ := id hB23'
      obtain ⟨dxc, _, _, _, _, _, hob2, _⟩ := id hB24
      refine ⟨b1, dxb, _, .ref B0, rfl, hob1, .ins hob2, (by simp [PySem.W.notFirst]), NotDraw a l, b1, .ref b2, fs, _, rl, rfl, hB23', hFe, hright.fines, by omega, .inl ⟨b2, fs, _, rl, true, rfl, hB24, hright.fines, .inr ⟨rfl, rfl, (decide_eq_true rfl).symm⟩, fun H25 s25 => ?_⟩⟩
      exact ⟨_, rfl, _, rfl, iteF ⟨_, _, _, rfl, kk.same (s1723.trans (s24.trans s25))⟩⟩
    · rintro σ H13 ⟨y6, y7, y8, rfl, k13⟩
      exact ⟨_, _, _, _, _, _, _, _, rfl, k13.new⟩
  · rintro H2 σ ⟨y0, y2, y3, y4, y5, y6, y7, y8, rfl, R⟩
    exact q _
end
end Sc
namespace Sc
open PySem PySem.Spec PyProof.Rows L2
theorem four {K : PySem.W.Frag} {D : Value} (h1 : PySem.W.findIn K D "index" = some none) (h2 : PySem.W.findIn K D "part" = some none) (h3 : PySem.W.findIn K D "word" = some none) (h4 : PySem.W.findIn K D "fact" = some none) :
    ∀ n ∈ (["index", "part", "word", "fact"] : List Str), PySem.W.findIn K D n = some none := by
  intro n hn
  simp only [List.mem_cons, List.not_mem_nil, or_false] at hn
  rcases hn with rfl | rfl | rfl | rfl
  · exact h1
  · exact h2
  · exact h3
  · exact h4
theorem exm_by {K : PySem.W.Frag} {D C : Addr} (h1 : PySem.W.subIn K (.ref C) (.type "BaseException") = some true) (h2 : PySem.W.isClsIn K C = true) (h3 : PySem.W.typeIn K (.ref C) = some (.type "type")) (h4 : PySem.W.subIn K (.ref D) (.ref C) = some true) : PySem.W.exmOne K (.ref D) (.ref C) = some true := by
  have e1 : (PySem.W.subIn K (.ref C) (.type "BaseException") == some true) = true := by rw [h1] <;> rfl
  have e2 : ((PySem.W.clsIn K C).isSome && PySem.W.typeIn K (.ref C) == some (.type "type")) = true := by
    have h2' : (PySem.W.clsIn K C).isSome = true := h2
    rw [h2', h3] <;> rfl
  unfold PySem.W.exmOne PySem.W.kitCls
  rw [if_pos e1]
  dsimp only
  rw [if_pos e2]
  exact h4
theorem kit_by {K : PySem.W.Frag} {D C : Addr} {b : Bool} (h1 : PySem.W.subIn K (.ref D) (.ref D) = some true) (h2 : PySem.W.isClsIn K C = true) (h3 : PySem.W.typeIn K (.ref C) = some (.type "type")) (h4 : PySem.W.subIn K (.ref D) (.ref C) = some b) : PySem.W.kitOne K (.ref D) (.ref C) = some b := by
  have e2 : ((PySem.W.clsIn K C).isSome && PySem.W.typeIn K (.ref C) == some (.type "type")) = true := by
    have h2' : (PySem.W.clsIn K C).isSome = true := h2
    rw [h2', h3] <;> rfl
  unfold PySem.W.kitOne
  split
  · rename_i e
    have e := eq_of_beq e
    cases e
    exact h1.symm.trans h4
  · unfold PySem.W.kitCls
    dsimp only
    rw [if_pos e2]
    exact h4
theorem kit_ve {K : PySem.W.Frag} {D : Addr} (h : PySem.W.subIn K (.ref D) (.type "ValueError") = some true) : PySem.W.kitOne K (.ref D) (.type "ValueError") = some true := by
  unfold PySem.W.kitOne PySem.W.kitCls
  rw [if_neg (by intro z; cases eq_of_beq z)]
  dsimp only
  rw [if_pos (by decide +kernel)]
  exact h
theorem codeHd_by {K : PySem.W.Frag} {c T : Addr} {o : Obj} (lk : K.lookup c = some o) (h : PySem.W.codeHdIn [(c, o)] c T = true) : PySem.W.codeHdIn K c T = true := by
  unfold PySem.W.codeHdIn at h ⊢
  rw [lk]
  have e : ([(c, o)] : PySem.W.Frag).lookup c = some o := by simp [List.lookup]
  rw [e] at h
  exact h
theorem lookup_no {K : PySem.W.Frag} {a : Addr} (h : (K.map (·.1)).contains a = false) : K.lookup a = none := by
  induction K with
  | nil => rfl
  | cons p r ih =>
    rw [List.map_cons, List.contains_cons, Bool.or_eq_false_iff] at h
    obtain ⟨x, o⟩ := p
    rw [List.lookup_cons, h.1]
    exact ih h.2
theorem sup_by {K : PySem.W.Frag} {C CE : Addr} {z : Value} {nm q nm2 q2 : Str} {N N2 : Addr} {bs bm su bs2 bm2 su2 : List Value} {sn sn2 : List Str} {ab ab2 : Bool} {col col2 : Option Bool} {dd dd2 : Option Addr} {x0 x1 x2 x3 x5 y0 y1 y2 y3 y5 : Option Value}
    (xC : K.lookup C = some (excClassObj nm q C N bs bm true sn su ab col dd x0 x1 x2 x3 x5 "ValueError.__new__")) (xE : K.lookup CE = some (excClassObj nm2 q2 CE N2 bs2 bm2 true sn2 su2 ab2 col2 dd2 y0 y1 y2 y3 y5 "ValueError.__new__"))
    (e : bm = .ref CE :: bm2) (f : PySem.W.findIn K (.ref CE) "__init__" = some (some z)) : PySem.W.ks_superIn K C C "__init__" = some (some z) := by
  subst e
  unfold PySem.W.ks_superIn PySem.W.clsIn
  unfold PySem.W.findIn at f
  dsimp only at f
  rw [xC]
  rw [xE] at f
  simp only [excClassObj] at f ⊢
  simp
  exact f
/-- a def that calls itself: depth by depth -/
theorem rec_all {P : Program} {w : World} {K : PySem.W.Frag} {mg : Str → Option Value} {base : Heap} {S : Nat → Sp} {k : Nat} {x : Str} {f : Addr} {fd : FuncData} {ps : List Str} (step : ∀ d, Cal P w K mg base CX0 (d + k) x ps (Below S d) → FnOk P w K mg base CX0 (d + k + 1) f fd ps (S d))
    (hm : mg x = some (.ref f)) (kp : PySem.W.keepIn K (.ref f) = true) (b : Binds K fd ps []) : ∀ d, FnOk P w K mg base CX0 (d + k + 1) f fd ps (S d)
  | 0 => step 0 ⟨_, _, FnOk.never, hm, kp, b⟩
  | d + 1 => step (d + 1) ⟨_, _, (by have h := rec_all step hm kp b d; rw [show d + k + 1 = d + 1 + k by omega] at h; exact h), hm, kp, b⟩
theorem alikeT_all {P : Program} {w : World} {K : PySem.W.Frag} {mg : Str → Option Value} {base : Heap} {f : Addr} {fd : FuncData} (F : Fun K "_law_alike" "_law_alike" s__law_alike f fd) (B : Blt mg) (hm : mg "_law_alike" = some (.ref f)) (kp : PySem.W.keepIn K (.ref f) = true) (b : Binds K fd ["_law_found", "_law_due"] []) :
    ∀ n, FnOk P w K mg base CX0 (n + 1) f fd ["_law_found", "_law_due"] (sp_alikeT K n)
  | 0 => ok_alikeT0 F B
  | n + 1 => ok_alikeT F B ⟨_, _, alikeT_all F B hm kp b n, hm, kp, b⟩
theorem all_mk {l : PySem.W.OpenLaw} {P : Program} {w : World} {K : PySem.W.Frag} {h : Heap} {mg : Str → Option Value} {fa : Addr} (eP : l.prog = P) (X : K.In h) (G : h.Ns mainGlobals mg) (hfa : mg "law" = some (.ref fa))
    {f_is_name : Addr} {oc_is_name kV_is_name dc_is_name pm_is_name cd_is_name ct_is_name : Value} {od_is_name an_is_name : Option Addr} {sl_is_name : Array (Option Value)}
    {f_is_integer : Addr} {oc_is_integer kV_is_integer dc_is_integer pm_is_integer cd_is_integer ct_is_integer : Value} {od_is_integer an_is_integer : Option Addr} {sl_is_integer : Array (Option Value)}
    {f_rises : Addr} {oc_rises kV_rises dc_rises pm_rises cd_rises ct_rises : Value} {od_rises an_rises : Option Addr} {sl_rises : Array (Option Value)}
    {f_check_facts : Addr} {oc_check_facts kV_check_facts dc_check_facts pm_check_facts cd_check_facts ct_check_facts : Value} {od_check_facts an_check_facts : Option Addr} {sl_check_facts : Array (Option Value)}
    {f_nested : Addr} {oc_nested kV_nested dc_nested pm_nested cd_nested ct_nested : Value} {od_nested an_nested : Option Addr} {sl_nested : Array (Option Value)}
    {f_check_rules : Addr} {oc_check_rules kV_check_rules dc_check_rules pm_check_rules cd_check_rules ct_check_rules : Value} {od_check_rules an_check_rules : Option Addr} {sl_check_rules : Array (Option Value)}
    {f_check_part : Addr} {oc_check_part kV_check_part dc_check_part pm_check_part cd_check_part ct_check_part : Value} {od_check_part an_check_part : Option Addr} {sl_check_part : Array (Option Value)}
    {f_merged : Addr} {oc_merged kV_merged dc_merged pm_merged cd_merged ct_merged : Value} {od_merged an_merged : Option Addr} {sl_merged : Array (Option Value)}
    {f_replaced : Addr} {oc_replaced kV_replaced dc_replaced pm_replaced cd_replaced ct_replaced : Value} {od_replaced an_replaced : Option Addr} {sl_replaced : Array (Option Value)}
    {f_is_day : Addr} {oc_is_day kV_is_day dc_is_day pm_is_day cd_is_day ct_is_day : Value} {od_is_day an_is_day : Option Addr} {sl_is_day : Array (Option Value)}
    {f_check_day : Addr} {oc_check_day kV_check_day dc_check_day pm_check_day cd_check_day ct_check_day : Value} {od_check_day an_check_day : Option Addr} {sl_check_day : Array (Option Value)}
    {f_is_span : Addr} {oc_is_span kV_is_span dc_is_span pm_is_span cd_is_span ct_is_span : Value} {od_is_span an_is_span : Option Addr} {sl_is_span : Array (Option Value)}
    {f_in_span : Addr} {oc_in_span kV_in_span dc_in_span pm_in_span cd_in_span ct_in_span : Value} {od_in_span an_in_span : Option Addr} {sl_in_span : Array (Option Value)}
    {f_check_spans : Addr} {oc_check_spans kV_check_spans dc_check_spans pm_check_spans cd_check_spans ct_check_spans : Value} {od_check_spans an_check_spans : Option Addr} {sl_check_spans : Array (Option Value)}
    {f__law_mix : Addr} {oc__law_mix kV__law_mix dc__law_mix pm__law_mix cd__law_mix ct__law_mix : Value} {od__law_mix an__law_mix : Option Addr} {sl__law_mix : Array (Option Value)}
    {f__law_next : Addr} {oc__law_next kV__law_next dc__law_next pm__law_next cd__law_next ct__law_next : Value} {od__law_next an__law_next : Option Addr} {sl__law_next : Array (Option Value)}
    {f__law_alike : Addr} {oc__law_alike kV__law_alike dc__law_alike pm__law_alike cd__law_alike ct__law_alike : Value} {od__law_alike an__law_alike : Option Addr} {sl__law_alike : Array (Option Value)}
    {f__law_facts : Addr} {oc__law_facts kV__law_facts dc__law_facts pm__law_facts cd__law_facts ct__law_facts : Value} {od__law_facts an__law_facts : Option Addr} {sl__law_facts : Array (Option Value)}
    {f__law_sides : Addr} {oc__law_sides kV__law_sides dc__law_sides pm__law_sides cd__law_sides ct__law_sides : Value} {od__law_sides an__law_sides : Option Addr} {sl__law_sides : Array (Option Value)}
    {f__law_rule : Addr} {oc__law_rule kV__law_rule dc__law_rule pm__law_rule cd__law_rule ct__law_rule : Value} {od__law_rule an__law_rule : Option Addr} {sl__law_rule : Array (Option Value)}
    {f__law_drawn : Addr} {oc__law_drawn kV__law_drawn dc__law_drawn pm__law_drawn cd__law_drawn ct__law_drawn : Value} {od__law_drawn an__law_drawn : Option Addr} {sl__law_drawn : Array (Option Value)}
    {f__law_made : Addr} {oc__law_made kV__law_made dc__law_made pm__law_made cd__law_made ct__law_made : Value} {od__law_made an__law_made : Option Addr} {sl__law_made : Array (Option Value)}
    {f__law_book : Addr} {oc__law_book kV__law_book dc__law_book pm__law_book cd__law_book ct__law_book : Value} {od__law_book an__law_book : Option Addr} {sl__law_book : Array (Option Value)}
    {f__law_told : Addr} {oc__law_told kV__law_told dc__law_told pm__law_told cd__law_told ct__law_told : Value} {od__law_told an__law_told : Option Addr} {sl__law_told : Array (Option Value)}
    {f__law_seen : Addr} {oc__law_seen kV__law_seen dc__law_seen pm__law_seen cd__law_seen ct__law_seen : Value} {od__law_seen an__law_seen : Option Addr} {sl__law_seen : Array (Option Value)}
    {f__law_all : Addr} {oc__law_all kV__law_all dc__law_all pm__law_all cd__law_all ct__law_all : Value} {od__law_all an__law_all : Option Addr} {sl__law_all : Array (Option Value)}
    {f__law_spans : Addr} {oc__law_spans kV__law_spans dc__law_spans pm__law_spans cd__law_spans ct__law_spans : Value} {od__law_spans an__law_spans : Option Addr} {sl__law_spans : Array (Option Value)}
    {f__law_season : Addr} {oc__law_season kV__law_season dc__law_season pm__law_season cd__law_season ct__law_season : Value} {od__law_season an__law_season : Option Addr} {sl__law_season : Array (Option Value)}
    {f__law_period : Addr} {oc__law_period kV__law_period dc__law_period pm__law_period cd__law_period ct__law_period : Value} {od__law_period an__law_period : Option Addr} {sl__law_period : Array (Option Value)}
    {f_law : Addr} {oc_law kV_law dc_law pm_law ct_law : Value} {od_law an_law : Option Addr} {sl_law : Array (Option Value)}
    {f_mi : Addr} {oc_mi kV_mi dc_mi pm_mi cd_mi ct_mi : Value} {od_mi an_mi : Option Addr} {sl_mi : Array (Option Value)}
    {f_mh : Addr} {oc_mh kV_mh dc_mh pm_mh cd_mh ct_mh : Value} {od_mh an_mh : Option Addr} {sl_mh : Array (Option Value)}
    {f_mf : Addr} {oc_mf kV_mf dc_mf pm_mf cd_mf ct_mf : Value} {od_mf an_mf : Option Addr} {sl_mf : Array (Option Value)}
    {f_mn : Addr} {oc_mn kV_mn dc_mn pm_mn cd_mn ct_mn : Value} {od_mn an_mn : Option Addr} {sl_mn : Array (Option Value)}
    {f_ri : Addr} {oc_ri kV_ri dc_ri pm_ri cd_ri ct_ri : Value} {od_ri an_ri : Option Addr} {sl_ri : Array (Option Value)}
    {f_rn : Addr} {oc_rn kV_rn dc_rn pm_rn cd_rn ct_rn : Value} {od_rn an_rn : Option Addr} {sl_rn : Array (Option Value)}
    {f_rc : Addr} {oc_rc kV_rc dc_rc pm_rc cd_rc ct_rc : Value} {od_rc an_rc : Option Addr} {sl_rc : Array (Option Value)}
    {f_rr : Addr} {oc_rr kV_rr dc_rr pm_rr cd_rr ct_rr : Value} {od_rr an_rr : Option Addr} {sl_rr : Array (Option Value)}
    {f_re : Addr} {oc_re kV_re dc_re pm_re cd_re ct_re : Value} {od_re an_re : Option Addr} {sl_re : Array (Option Value)}
    {f_rd : Addr} {oc_rd kV_rd dc_rd pm_rd cd_rd ct_rd : Value} {od_rd an_rd : Option Addr} {sl_rd : Array (Option Value)}
    {f_bi : Addr} {oc_bi kV_bi dc_bi pm_bi cd_bi ct_bi : Value} {od_bi an_bi : Option Addr} {sl_bi : Array (Option Value)}
    {f_bf : Addr} {oc_bf kV_bf dc_bf pm_bf cd_bf ct_bf : Value} {od_bf an_bf : Option Addr} {sl_bf : Array (Option Value)}
    {f_bs : Addr} {oc_bs kV_bs dc_bs pm_bs cd_bs ct_bs : Value} {od_bs an_bs : Option Addr} {sl_bs : Array (Option Value)}
    {f_br : Addr} {oc_br kV_br dc_br pm_br cd_br ct_br : Value} {od_br an_br : Option Addr} {sl_br : Array (Option Value)}
    {f_yi : Addr} {oc_yi kV_yi dc_yi pm_yi cd_yi ct_yi : Value} {od_yi an_yi : Option Addr} {sl_yi : Array (Option Value)}
    {f_yp : Addr} {oc_yp kV_yp dc_yp pm_yp cd_yp ct_yp : Value} {od_yp an_yp : Option Addr} {sl_yp : Array (Option Value)}
    {f_gc : Addr} {oc_gc kV_gc dc_gc pm_gc cd_gc ct_gc : Value} {od_gc an_gc : Option Addr} {sl_gc : Array (Option Value)}
    {f_gs : Addr} {oc_gs kV_gs dc_gs pm_gs cd_gs ct_gs : Value} {od_gs an_gs : Option Addr} {sl_gs : Array (Option Value)}
    {f_eb : Addr} {oc_eb kV_eb dc_eb pm_eb cd_eb ct_eb : Value} {od_eb an_eb : Option Addr} {sl_eb : Array (Option Value)}
    {f_er : Addr} {oc_er kV_er dc_er pm_er cd_er ct_er : Value} {od_er an_er : Option Addr} {sl_er : Array (Option Value)}
    {f_ec : Addr} {oc_ec kV_ec dc_ec pm_ec cd_ec ct_ec : Value} {od_ec an_ec : Option Addr} {sl_ec : Array (Option Value)}
    {f_yc : Addr} {oc_yc kV_yc dc_yc pm_yc cd_yc ct_yc : Value} {od_yc an_yc : Option Addr} {sl_yc : Array (Option Value)}
    {CO : Addr}
    {pp_mh : Addr} {rs_mh : List Value}
    {pp_mf : Addr} {rs_mf : List Value}
    {pp_mn : Addr} {rs_mn : List Value}
    {RO : Addr}
    {pp_rn : Addr} {rs_rn : List Value}
    {pp_rc : Addr} {rs_rc : List Value}
    {pp_rr : Addr} {rs_rr : List Value}
    {pp_re : Addr} {rs_re : List Value}
    {pp_rd : Addr} {rs_rd : List Value}
    {BO : Addr}
    {pp_bf : Addr} {rs_bf : List Value}
    {pp_bs : Addr} {rs_bs : List Value}
    {pp_br : Addr} {rs_br : List Value}
    {SE : Addr}
    {pp_yp : Addr} {rs_yp : List Value}
    {fo_s : Option Value}
    {fo_r : Option Value}
    {cc_law : Addr}
    {t_LETTERS : Tok}
    {t_LONGEST_NAME : Tok}
    {t_MOST_FACTS : Tok}
    {t_MOST_NAMES : Tok}
    {t_MOST_AROUND : Tok}
    {t_MOST_RULES : Tok}
    {t_MOST_OUTERMOST : Tok}
    {t_LAST_DAY : Tok}
    {t_LONGEST_SPAN : Tok}
    {CE : Addr}
    {E0 : Addr}
    {E1 : Addr}
    {E2 : Addr}
    {E3 : Addr}
    {E4 : Addr}
    {nmE qE : Str} {NE : Addr} {bsE bmE suE : List Value} {snE : List Str} {abE : Bool} {colE : Option Bool} {ddE : Option Addr} {x0E x1E x2E x3E x5E : Option Value}
    {nmi0 qi0 : Str} {Ni0 : Addr} {bsi0 bmi0 sui0 : List Value} {sni0 : List Str} {abi0 : Bool} {coli0 : Option Bool} {ddi0 odii0 anii0 ccddi0 cddi0 : Option Addr} {x0i0 x1i0 x2i0 x3i0 x5i0 : Option Value} {fIi0 celi0 codi0 : Addr} {ocii0 kVii0 dcii0 pmii0 ctii0 clci0 ccli0 : Value} {slii0 csli0 ccsi0 : Array (Option Value)} {vsi0 : Array Value} {fili0 : Str} {tfii0 : Tok}
    {nmi1 qi1 : Str} {Ni1 : Addr} {bsi1 bmi1 sui1 : List Value} {sni1 : List Str} {abi1 : Bool} {coli1 : Option Bool} {ddi1 odii1 anii1 ccddi1 cddi1 : Option Addr} {x0i1 x1i1 x2i1 x3i1 x5i1 : Option Value} {fIi1 celi1 codi1 : Addr} {ocii1 kVii1 dcii1 pmii1 ctii1 clci1 ccli1 : Value} {slii1 csli1 ccsi1 : Array (Option Value)} {vsi1 : Array Value} {fili1 : Str} {tfii1 : Tok}
    {nmi2 qi2 : Str} {Ni2 : Addr} {bsi2 bmi2 sui2 : List Value} {sni2 : List Str} {abi2 : Bool} {coli2 : Option Bool} {ddi2 odii2 anii2 ccddi2 cddi2 : Option Addr} {x0i2 x1i2 x2i2 x3i2 x5i2 : Option Value} {fIi2 celi2 codi2 : Addr} {ocii2 kVii2 dcii2 pmii2 ctii2 clci2 ccli2 : Value} {slii2 csli2 ccsi2 : Array (Option Value)} {vsi2 : Array Value} {fili2 : Str} {tfii2 : Tok}
    {nmi3 qi3 : Str} {Ni3 : Addr} {bsi3 bmi3 sui3 : List Value} {sni3 : List Str} {abi3 : Bool} {coli3 : Option Bool} {ddi3 odii3 anii3 ccddi3 cddi3 : Option Addr} {x0i3 x1i3 x2i3 x3i3 x5i3 : Option Value} {fIi3 celi3 codi3 : Addr} {ocii3 kVii3 dcii3 pmii3 ctii3 clci3 ccli3 : Value} {slii3 csli3 ccsi3 : Array (Option Value)} {vsi3 : Array Value} {fili3 : Str} {tfii3 : Tok}
    (a_is_name : PySem.W.nsIn K mainGlobals "is_name" = some (some (.ref f_is_name)))
    (l_is_name : K.lookup f_is_name = some ⟨oc_is_name, od_is_name, .func (PySem.W.fnOf "is_name" "is_name" (defArgs s_is_name) (defBody s_is_name) (defScope s_is_name) .none kV_is_name dc_is_name pm_is_name an_is_name cd_is_name ct_is_name), sl_is_name⟩)
    (c_is_name : PySem.W.codeIn K cd_is_name "is_name" = true)
    (k_is_name : PySem.W.keepIn K (.ref f_is_name) = true)
    (a_is_integer : PySem.W.nsIn K mainGlobals "is_integer" = some (some (.ref f_is_integer)))
    (l_is_integer : K.lookup f_is_integer = some ⟨oc_is_integer, od_is_integer, .func (PySem.W.fnOf "is_integer" "is_integer" (defArgs s_is_integer) (defBody s_is_integer) (defScope s_is_integer) .none kV_is_integer dc_is_integer pm_is_integer an_is_integer cd_is_integer ct_is_integer), sl_is_integer⟩)
    (c_is_integer : PySem.W.codeIn K cd_is_integer "is_integer" = true)
    (k_is_integer : PySem.W.keepIn K (.ref f_is_integer) = true)
    (a_rises : PySem.W.nsIn K mainGlobals "rises" = some (some (.ref f_rises)))
    (l_rises : K.lookup f_rises = some ⟨oc_rises, od_rises, .func (PySem.W.fnOf "rises" "rises" (defArgs s_rises) (defBody s_rises) (defScope s_rises) .none kV_rises dc_rises pm_rises an_rises cd_rises ct_rises), sl_rises⟩)
    (c_rises : PySem.W.codeIn K cd_rises "rises" = true)
    (k_rises : PySem.W.keepIn K (.ref f_rises) = true)
    (a_check_facts : PySem.W.nsIn K mainGlobals "check_facts" = some (some (.ref f_check_facts)))
    (l_check_facts : K.lookup f_check_facts = some ⟨oc_check_facts, od_check_facts, .func (PySem.W.fnOf "check_facts" "check_facts" (defArgs s_check_facts) (defBody s_check_facts) (defScope s_check_facts) .none kV_check_facts dc_check_facts pm_check_facts an_check_facts cd_check_facts ct_check_facts), sl_check_facts⟩)
    (c_check_facts : PySem.W.codeIn K cd_check_facts "check_facts" = true)
    (k_check_facts : PySem.W.keepIn K (.ref f_check_facts) = true)
    (a_nested : PySem.W.nsIn K mainGlobals "nested" = some (some (.ref f_nested)))
    (l_nested : K.lookup f_nested = some ⟨oc_nested, od_nested, .func (PySem.W.fnOf "nested" "nested" (defArgs s_nested) (defBody s_nested) (defScope s_nested) .none kV_nested dc_nested pm_nested an_nested cd_nested ct_nested), sl_nested⟩)
    (c_nested : PySem.W.codeIn K cd_nested "nested" = true)
    (k_nested : PySem.W.keepIn K (.ref f_nested) = true)
    (a_check_rules : PySem.W.nsIn K mainGlobals "check_rules" = some (some (.ref f_check_rules)))
    (l_check_rules : K.lookup f_check_rules = some ⟨oc_check_rules, od_check_rules, .func (PySem.W.fnOf "check_rules" "check_rules" (defArgs s_check_rules) (defBody s_check_rules) (defScope s_check_rules) .none kV_check_rules dc_check_rules pm_check_rules an_check_rules cd_check_rules ct_check_rules), sl_check_rules⟩)
    (c_check_rules : PySem.W.codeIn K cd_check_rules "check_rules" = true)
    (k_check_rules : PySem.W.keepIn K (.ref f_check_rules) = true)
    (a_check_part : PySem.W.nsIn K mainGlobals "check_part" = some (some (.ref f_check_part)))
    (l_check_part : K.lookup f_check_part = some ⟨oc_check_part, od_check_part, .func (PySem.W.fnOf "check_part" "check_part" (defArgs s_check_part) (defBody s_check_part) (defScope s_check_part) .none kV_check_part dc_check_part pm_check_part an_check_part cd_check_part ct_check_part), sl_check_part⟩)
    (c_check_part : PySem.W.codeIn K cd_check_part "check_part" = true)
    (k_check_part : PySem.W.keepIn K (.ref f_check_part) = true)
    (a_merged : PySem.W.nsIn K mainGlobals "merged" = some (some (.ref f_merged)))
    (l_merged : K.lookup f_merged = some ⟨oc_merged, od_merged, .func (PySem.W.fnOf "merged" "merged" (defArgs s_merged) (defBody s_merged) (defScope s_merged) .none kV_merged dc_merged pm_merged an_merged cd_merged ct_merged), sl_merged⟩)
    (c_merged : PySem.W.codeIn K cd_merged "merged" = true)
    (k_merged : PySem.W.keepIn K (.ref f_merged) = true)
    (a_replaced : PySem.W.nsIn K mainGlobals "replaced" = some (some (.ref f_replaced)))
    (l_replaced : K.lookup f_replaced = some ⟨oc_replaced, od_replaced, .func (PySem.W.fnOf "replaced" "replaced" (defArgs s_replaced) (defBody s_replaced) (defScope s_replaced) .none kV_replaced dc_replaced pm_replaced an_replaced cd_replaced ct_replaced), sl_replaced⟩)
    (c_replaced : PySem.W.codeIn K cd_replaced "replaced" = true)
    (k_replaced : PySem.W.keepIn K (.ref f_replaced) = true)
    (a_is_day : PySem.W.nsIn K mainGlobals "is_day" = some (some (.ref f_is_day)))
    (l_is_day : K.lookup f_is_day = some ⟨oc_is_day, od_is_day, .func (PySem.W.fnOf "is_day" "is_day" (defArgs s_is_day) (defBody s_is_day) (defScope s_is_day) .none kV_is_day dc_is_day pm_is_day an_is_day cd_is_day ct_is_day), sl_is_day⟩)
    (c_is_day : PySem.W.codeIn K cd_is_day "is_day" = true)
    (k_is_day : PySem.W.keepIn K (.ref f_is_day) = true)
    (a_check_day : PySem.W.nsIn K mainGlobals "check_day" = some (some (.ref f_check_day)))
    (l_check_day : K.lookup f_check_day = some ⟨oc_check_day, od_check_day, .func (PySem.W.fnOf "check_day" "check_day" (defArgs s_check_day) (defBody s_check_day) (defScope s_check_day) .none kV_check_day dc_check_day pm_check_day an_check_day cd_check_day ct_check_day), sl_check_day⟩)
    (c_check_day : PySem.W.codeIn K cd_check_day "check_day" = true)
    (k_check_day : PySem.W.keepIn K (.ref f_check_day) = true)
    (a_is_span : PySem.W.nsIn K mainGlobals "is_span" = some (some (.ref f_is_span)))
    (l_is_span : K.lookup f_is_span = some ⟨oc_is_span, od_is_span, .func (PySem.W.fnOf "is_span" "is_span" (defArgs s_is_span) (defBody s_is_span) (defScope s_is_span) .none kV_is_span dc_is_span pm_is_span an_is_span cd_is_span ct_is_span), sl_is_span⟩)
    (c_is_span : PySem.W.codeIn K cd_is_span "is_span" = true)
    (k_is_span : PySem.W.keepIn K (.ref f_is_span) = true)
    (a_in_span : PySem.W.nsIn K mainGlobals "in_span" = some (some (.ref f_in_span)))
    (l_in_span : K.lookup f_in_span = some ⟨oc_in_span, od_in_span, .func (PySem.W.fnOf "in_span" "in_span" (defArgs s_in_span) (defBody s_in_span) (defScope s_in_span) .none kV_in_span dc_in_span pm_in_span an_in_span cd_in_span ct_in_span), sl_in_span⟩)
    (c_in_span : PySem.W.codeIn K cd_in_span "in_span" = true)
    (k_in_span : PySem.W.keepIn K (.ref f_in_span) = true)
    (a_check_spans : PySem.W.nsIn K mainGlobals "check_spans" = some (some (.ref f_check_spans)))
    (l_check_spans : K.lookup f_check_spans = some ⟨oc_check_spans, od_check_spans, .func (PySem.W.fnOf "check_spans" "check_spans" (defArgs s_check_spans) (defBody s_check_spans) (defScope s_check_spans) .none kV_check_spans dc_check_spans pm_check_spans an_check_spans cd_check_spans ct_check_spans), sl_check_spans⟩)
    (c_check_spans : PySem.W.codeIn K cd_check_spans "check_spans" = true)
    (k_check_spans : PySem.W.keepIn K (.ref f_check_spans) = true)
    (a__law_mix : PySem.W.nsIn K mainGlobals "_law_mix" = some (some (.ref f__law_mix)))
    (l__law_mix : K.lookup f__law_mix = some ⟨oc__law_mix, od__law_mix, .func (PySem.W.fnOf "_law_mix" "_law_mix" (defArgs s__law_mix) (defBody s__law_mix) (defScope s__law_mix) .none kV__law_mix dc__law_mix pm__law_mix an__law_mix cd__law_mix ct__law_mix), sl__law_mix⟩)
    (c__law_mix : PySem.W.codeIn K cd__law_mix "_law_mix" = true)
    (k__law_mix : PySem.W.keepIn K (.ref f__law_mix) = true)
    (a__law_next : PySem.W.nsIn K mainGlobals "_law_next" = some (some (.ref f__law_next)))
    (l__law_next : K.lookup f__law_next = some ⟨oc__law_next, od__law_next, .func (PySem.W.fnOf "_law_next" "_law_next" (defArgs s__law_next) (defBody s__law_next) (defScope s__law_next) .none kV__law_next dc__law_next pm__law_next an__law_next cd__law_next ct__law_next), sl__law_next⟩)
    (c__law_next : PySem.W.codeIn K cd__law_next "_law_next" = true)
    (k__law_next : PySem.W.keepIn K (.ref f__law_next) = true)
    (a__law_alike : PySem.W.nsIn K mainGlobals "_law_alike" = some (some (.ref f__law_alike)))
    (l__law_alike : K.lookup f__law_alike = some ⟨oc__law_alike, od__law_alike, .func (PySem.W.fnOf "_law_alike" "_law_alike" (defArgs s__law_alike) (defBody s__law_alike) (defScope s__law_alike) .none kV__law_alike dc__law_alike pm__law_alike an__law_alike cd__law_alike ct__law_alike), sl__law_alike⟩)
    (c__law_alike : PySem.W.codeIn K cd__law_alike "_law_alike" = true)
    (k__law_alike : PySem.W.keepIn K (.ref f__law_alike) = true)
    (a__law_facts : PySem.W.nsIn K mainGlobals "_law_facts" = some (some (.ref f__law_facts)))
    (l__law_facts : K.lookup f__law_facts = some ⟨oc__law_facts, od__law_facts, .func (PySem.W.fnOf "_law_facts" "_law_facts" (defArgs s__law_facts) (defBody s__law_facts) (defScope s__law_facts) .none kV__law_facts dc__law_facts pm__law_facts an__law_facts cd__law_facts ct__law_facts), sl__law_facts⟩)
    (c__law_facts : PySem.W.codeIn K cd__law_facts "_law_facts" = true)
    (k__law_facts : PySem.W.keepIn K (.ref f__law_facts) = true)
    (a__law_sides : PySem.W.nsIn K mainGlobals "_law_sides" = some (some (.ref f__law_sides)))
    (l__law_sides : K.lookup f__law_sides = some ⟨oc__law_sides, od__law_sides, .func (PySem.W.fnOf "_law_sides" "_law_sides" (defArgs s__law_sides) (defBody s__law_sides) (defScope s__law_sides) .none kV__law_sides dc__law_sides pm__law_sides an__law_sides cd__law_sides ct__law_sides), sl__law_sides⟩)
    (c__law_sides : PySem.W.codeIn K cd__law_sides "_law_sides" = true)
    (k__law_sides : PySem.W.keepIn K (.ref f__law_sides) = true)
    (a__law_rule : PySem.W.nsIn K mainGlobals "_law_rule" = some (some (.ref f__law_rule)))
    (l__law_rule : K.lookup f__law_rule = some ⟨oc__law_rule, od__law_rule, .func (PySem.W.fnOf "_law_rule" "_law_rule" (defArgs s__law_rule) (defBody s__law_rule) (defScope s__law_rule) .none kV__law_rule dc__law_rule pm__law_rule an__law_rule cd__law_rule ct__law_rule), sl__law_rule⟩)
    (c__law_rule : PySem.W.codeIn K cd__law_rule "_law_rule" = true)
    (k__law_rule : PySem.W.keepIn K (.ref f__law_rule) = true)
    (a__law_drawn : PySem.W.nsIn K mainGlobals "_law_drawn" = some (some (.ref f__law_drawn)))
    (l__law_drawn : K.lookup f__law_drawn = some ⟨oc__law_drawn, od__law_drawn, .func (PySem.W.fnOf "_law_drawn" "_law_drawn" (defArgs s__law_drawn) (defBody s__law_drawn) (defScope s__law_drawn) .none kV__law_drawn dc__law_drawn pm__law_drawn an__law_drawn cd__law_drawn ct__law_drawn), sl__law_drawn⟩)
    (c__law_drawn : PySem.W.codeIn K cd__law_drawn "_law_drawn" = true)
    (k__law_drawn : PySem.W.keepIn K (.ref f__law_drawn) = true)
    (a__law_made : PySem.W.nsIn K mainGlobals "_law_made" = some (some (.ref f__law_made)))
    (l__law_made : K.lookup f__law_made = some ⟨oc__law_made, od__law_made, .func (PySem.W.fnOf "_law_made" "_law_made" (defArgs s__law_made) (defBody s__law_made) (defScope s__law_made) .none kV__law_made dc__law_made pm__law_made an__law_made cd__law_made ct__law_made), sl__law_made⟩)
    (c__law_made : PySem.W.codeIn K cd__law_made "_law_made" = true)
    (k__law_made : PySem.W.keepIn K (.ref f__law_made) = true)
    (a__law_book : PySem.W.nsIn K mainGlobals "_law_book" = some (some (.ref f__law_book)))
    (l__law_book : K.lookup f__law_book = some ⟨oc__law_book, od__law_book, .func (PySem.W.fnOf "_law_book" "_law_book" (defArgs s__law_book) (defBody s__law_book) (defScope s__law_book) .none kV__law_book dc__law_book pm__law_book an__law_book cd__law_book ct__law_book), sl__law_book⟩)
    (c__law_book : PySem.W.codeIn K cd__law_book "_law_book" = true)
    (k__law_book : PySem.W.keepIn K (.ref f__law_book) = true)
    (a__law_told : PySem.W.nsIn K mainGlobals "_law_told" = some (some (.ref f__law_told)))
    (l__law_told : K.lookup f__law_told = some ⟨oc__law_told, od__law_told, .func (PySem.W.fnOf "_law_told" "_law_told" (defArgs s__law_told) (defBody s__law_told) (defScope s__law_told) .none kV__law_told dc__law_told pm__law_told an__law_told cd__law_told ct__law_told), sl__law_told⟩)
    (c__law_told : PySem.W.codeIn K cd__law_told "_law_told" = true)
    (k__law_told : PySem.W.keepIn K (.ref f__law_told) = true)
    (a__law_seen : PySem.W.nsIn K mainGlobals "_law_seen" = some (some (.ref f__law_seen)))
    (l__law_seen : K.lookup f__law_seen = some ⟨oc__law_seen, od__law_seen, .func (PySem.W.fnOf "_law_seen" "_law_seen" (defArgs s__law_seen) (defBody s__law_seen) (defScope s__law_seen) .none kV__law_seen dc__law_seen pm__law_seen an__law_seen cd__law_seen ct__law_seen), sl__law_seen⟩)
    (c__law_seen : PySem.W.codeIn K cd__law_seen "_law_seen" = true)
    (k__law_seen : PySem.W.keepIn K (.ref f__law_seen) = true)
    (a__law_all : PySem.W.nsIn K mainGlobals "_law_all" = some (some (.ref f__law_all)))
    (l__law_all : K.lookup f__law_all = some ⟨oc__law_all, od__law_all, .func (PySem.W.fnOf "_law_all" "_law_all" (defArgs s__law_all) (defBody s__law_all) (defScope s__law_all) .none kV__law_all dc__law_all pm__law_all an__law_all cd__law_all ct__law_all), sl__law_all⟩)
    (c__law_all : PySem.W.codeIn K cd__law_all "_law_all" = true)
    (k__law_all : PySem.W.keepIn K (.ref f__law_all) = true)
    (a__law_spans : PySem.W.nsIn K mainGlobals "_law_spans" = some (some (.ref f__law_spans)))
    (l__law_spans : K.lookup f__law_spans = some ⟨oc__law_spans, od__law_spans, .func (PySem.W.fnOf "_law_spans" "_law_spans" (defArgs s__law_spans) (defBody s__law_spans) (defScope s__law_spans) .none kV__law_spans dc__law_spans pm__law_spans an__law_spans cd__law_spans ct__law_spans), sl__law_spans⟩)
    (c__law_spans : PySem.W.codeIn K cd__law_spans "_law_spans" = true)
    (k__law_spans : PySem.W.keepIn K (.ref f__law_spans) = true)
    (a__law_season : PySem.W.nsIn K mainGlobals "_law_season" = some (some (.ref f__law_season)))
    (l__law_season : K.lookup f__law_season = some ⟨oc__law_season, od__law_season, .func (PySem.W.fnOf "_law_season" "_law_season" (defArgs s__law_season) (defBody s__law_season) (defScope s__law_season) .none kV__law_season dc__law_season pm__law_season an__law_season cd__law_season ct__law_season), sl__law_season⟩)
    (c__law_season : PySem.W.codeIn K cd__law_season "_law_season" = true)
    (k__law_season : PySem.W.keepIn K (.ref f__law_season) = true)
    (a__law_period : PySem.W.nsIn K mainGlobals "_law_period" = some (some (.ref f__law_period)))
    (l__law_period : K.lookup f__law_period = some ⟨oc__law_period, od__law_period, .func (PySem.W.fnOf "_law_period" "_law_period" (defArgs s__law_period) (defBody s__law_period) (defScope s__law_period) .none kV__law_period dc__law_period pm__law_period an__law_period cd__law_period ct__law_period), sl__law_period⟩)
    (c__law_period : PySem.W.codeIn K cd__law_period "_law_period" = true)
    (k__law_period : PySem.W.keepIn K (.ref f__law_period) = true)
    (a_law : PySem.W.nsIn K mainGlobals "law" = some (some (.ref f_law)))
    (l_law : K.lookup f_law = some ⟨oc_law, od_law, .func (PySem.W.fnOf "law" "law" (defArgs s_law) (defBody s_law) (defScope s_law) .none kV_law dc_law pm_law an_law (.ref cc_law) ct_law), sl_law⟩)
    (c_law : PySem.W.codeIn K (.ref cc_law) "law" = true)
    (k_law : PySem.W.keepIn K (.ref f_law) = true)
    (co : PySem.W.nsIn K mainGlobals "Condition" = some (some (.ref CO)))
    (co_mk : PySem.W.makesIn K CO = true)
    (co_in : PySem.W.findIn K (.ref CO) "__init__" = some (some (.ref f_mi)))
    (co_fn : PySem.W.isFn K (.ref f_mi) = true)
    (co_kp : PySem.W.keepIn K (.ref CO) = true)
    (co_pg : PySem.W.plainGet K CO Str.empty = true)
    (co_hd : PySem.W.hasDictIn K CO = true)
    (co_po : PySem.W.plainOver K CO = true)
    (co_sa : PySem.W.findIn K (.ref CO) "__setattr__" = some (some (.builtin "object.__setattr__")))
    (co_n1 : PySem.W.findIn K (.ref CO) "_holding" = some none)
    (co_n2 : PySem.W.findIn K (.ref CO) "_failing" = some none)
    (co_n3 : PySem.W.findIn K (.ref CO) "_names" = some none)
    (pa_mh : PySem.W.findIn K (.ref CO) "holding" = some (some (.ref pp_mh)))
    (pg_mh : PySem.W.specialIn K (.ref pp_mh) "__get__" = some (some (.builtin "property.__get__")))
    (pt_mh : PySem.W.takesIn K (.ref pp_mh) = some true)
    (pr_mh : PySem.W.recIn K pp_mh "property" = some (.ref f_mh :: rs_mh))
    (pa_mf : PySem.W.findIn K (.ref CO) "failing" = some (some (.ref pp_mf)))
    (pg_mf : PySem.W.specialIn K (.ref pp_mf) "__get__" = some (some (.builtin "property.__get__")))
    (pt_mf : PySem.W.takesIn K (.ref pp_mf) = some true)
    (pr_mf : PySem.W.recIn K pp_mf "property" = some (.ref f_mf :: rs_mf))
    (pa_mn : PySem.W.findIn K (.ref CO) "names" = some (some (.ref pp_mn)))
    (pg_mn : PySem.W.specialIn K (.ref pp_mn) "__get__" = some (some (.builtin "property.__get__")))
    (pt_mn : PySem.W.takesIn K (.ref pp_mn) = some true)
    (pr_mn : PySem.W.recIn K pp_mn "property" = some (.ref f_mn :: rs_mn))
    (ro : PySem.W.nsIn K mainGlobals "Rule" = some (some (.ref RO)))
    (ro_mk : PySem.W.makesIn K RO = true)
    (ro_in : PySem.W.findIn K (.ref RO) "__init__" = some (some (.ref f_ri)))
    (ro_fn : PySem.W.isFn K (.ref f_ri) = true)
    (ro_kp : PySem.W.keepIn K (.ref RO) = true)
    (ro_pg : PySem.W.plainGet K RO Str.empty = true)
    (ro_hd : PySem.W.hasDictIn K RO = true)
    (ro_po : PySem.W.plainOver K RO = true)
    (ro_sa : PySem.W.findIn K (.ref RO) "__setattr__" = some (some (.builtin "object.__setattr__")))
    (ro_n1 : PySem.W.findIn K (.ref RO) "_name" = some none)
    (ro_n2 : PySem.W.findIn K (.ref RO) "_condition" = some none)
    (ro_n3 : PySem.W.findIn K (.ref RO) "_ruling" = some none)
    (ro_n4 : PySem.W.findIn K (.ref RO) "_exceptions" = some none)
    (ro_n5 : PySem.W.findIn K (.ref RO) "_depth" = some none)
    (ro_n6 : PySem.W.findIn K (.ref RO) "_inside" = some none)
    (pa_rn : PySem.W.findIn K (.ref RO) "name" = some (some (.ref pp_rn)))
    (pg_rn : PySem.W.specialIn K (.ref pp_rn) "__get__" = some (some (.builtin "property.__get__")))
    (pt_rn : PySem.W.takesIn K (.ref pp_rn) = some true)
    (pr_rn : PySem.W.recIn K pp_rn "property" = some (.ref f_rn :: rs_rn))
    (pa_rc : PySem.W.findIn K (.ref RO) "condition" = some (some (.ref pp_rc)))
    (pg_rc : PySem.W.specialIn K (.ref pp_rc) "__get__" = some (some (.builtin "property.__get__")))
    (pt_rc : PySem.W.takesIn K (.ref pp_rc) = some true)
    (pr_rc : PySem.W.recIn K pp_rc "property" = some (.ref f_rc :: rs_rc))
    (pa_rr : PySem.W.findIn K (.ref RO) "ruling" = some (some (.ref pp_rr)))
    (pg_rr : PySem.W.specialIn K (.ref pp_rr) "__get__" = some (some (.builtin "property.__get__")))
    (pt_rr : PySem.W.takesIn K (.ref pp_rr) = some true)
    (pr_rr : PySem.W.recIn K pp_rr "property" = some (.ref f_rr :: rs_rr))
    (pa_re : PySem.W.findIn K (.ref RO) "exceptions" = some (some (.ref pp_re)))
    (pg_re : PySem.W.specialIn K (.ref pp_re) "__get__" = some (some (.builtin "property.__get__")))
    (pt_re : PySem.W.takesIn K (.ref pp_re) = some true)
    (pr_re : PySem.W.recIn K pp_re "property" = some (.ref f_re :: rs_re))
    (pa_rd : PySem.W.findIn K (.ref RO) "depth" = some (some (.ref pp_rd)))
    (pg_rd : PySem.W.specialIn K (.ref pp_rd) "__get__" = some (some (.builtin "property.__get__")))
    (pt_rd : PySem.W.takesIn K (.ref pp_rd) = some true)
    (pr_rd : PySem.W.recIn K pp_rd "property" = some (.ref f_rd :: rs_rd))
    (bo : PySem.W.nsIn K mainGlobals "Book" = some (some (.ref BO)))
    (bo_mk : PySem.W.makesIn K BO = true)
    (bo_in : PySem.W.findIn K (.ref BO) "__init__" = some (some (.ref f_bi)))
    (bo_fn : PySem.W.isFn K (.ref f_bi) = true)
    (bo_kp : PySem.W.keepIn K (.ref BO) = true)
    (bo_pg : PySem.W.plainGet K BO Str.empty = true)
    (bo_hd : PySem.W.hasDictIn K BO = true)
    (bo_po : PySem.W.plainOver K BO = true)
    (bo_sa : PySem.W.findIn K (.ref BO) "__setattr__" = some (some (.builtin "object.__setattr__")))
    (bo_n1 : PySem.W.findIn K (.ref BO) "_facts" = some none)
    (bo_n2 : PySem.W.findIn K (.ref BO) "_rules" = some none)
    (bo_n3 : PySem.W.findIn K (.ref BO) "_ruling" = some none)
    (bo_n4 : PySem.W.findIn K (.ref BO) "_numbered" = some none)
    (pa_bf : PySem.W.findIn K (.ref BO) "facts" = some (some (.ref pp_bf)))
    (pg_bf : PySem.W.specialIn K (.ref pp_bf) "__get__" = some (some (.builtin "property.__get__")))
    (pt_bf : PySem.W.takesIn K (.ref pp_bf) = some true)
    (pr_bf : PySem.W.recIn K pp_bf "property" = some (.ref f_bf :: rs_bf))
    (pa_bs : PySem.W.findIn K (.ref BO) "rules" = some (some (.ref pp_bs)))
    (pg_bs : PySem.W.specialIn K (.ref pp_bs) "__get__" = some (some (.builtin "property.__get__")))
    (pt_bs : PySem.W.takesIn K (.ref pp_bs) = some true)
    (pr_bs : PySem.W.recIn K pp_bs "property" = some (.ref f_bs :: rs_bs))
    (pa_br : PySem.W.findIn K (.ref BO) "ruling" = some (some (.ref pp_br)))
    (pg_br : PySem.W.specialIn K (.ref pp_br) "__get__" = some (some (.builtin "property.__get__")))
    (pt_br : PySem.W.takesIn K (.ref pp_br) = some true)
    (pr_br : PySem.W.recIn K pp_br "property" = some (.ref f_br :: rs_br))
    (yo : PySem.W.nsIn K mainGlobals "Seasons" = some (some (.ref SE)))
    (yo_mk : PySem.W.makesIn K SE = true)
    (yo_in : PySem.W.findIn K (.ref SE) "__init__" = some (some (.ref f_yi)))
    (yo_fn : PySem.W.isFn K (.ref f_yi) = true)
    (yo_kp : PySem.W.keepIn K (.ref SE) = true)
    (yo_pg : PySem.W.plainGet K SE Str.empty = true)
    (yo_hd : PySem.W.hasDictIn K SE = true)
    (yo_po : PySem.W.plainOver K SE = true)
    (yo_sa : PySem.W.findIn K (.ref SE) "__setattr__" = some (some (.builtin "object.__setattr__")))
    (yo_n1 : PySem.W.findIn K (.ref SE) "_book" = some none)
    (yo_n2 : PySem.W.findIn K (.ref SE) "_spans" = some none)
    (yo_n3 : PySem.W.findIn K (.ref SE) "_period" = some none)
    (pa_yp : PySem.W.findIn K (.ref SE) "period" = some (some (.ref pp_yp)))
    (pg_yp : PySem.W.specialIn K (.ref pp_yp) "__get__" = some (some (.builtin "property.__get__")))
    (pt_yp : PySem.W.takesIn K (.ref pp_yp) = some true)
    (pr_yp : PySem.W.recIn K pp_yp "property" = some (.ref f_yp :: rs_yp))
    (at_gc : PySem.W.findIn K (.ref BO) "__contains__" = some (some (.ref f_gc)))
    (fn_gc : PySem.W.isFn K (.ref f_gc) = true)
    (at_gs : PySem.W.findIn K (.ref BO) "__sub__" = some (some (.ref f_gs)))
    (fn_gs : PySem.W.isFn K (.ref f_gs) = true)
    (at_eb : PySem.W.findIn K (.ref BO) "__eq__" = some (some (.ref f_eb)))
    (fn_eb : PySem.W.isFn K (.ref f_eb) = true)
    (at_er : PySem.W.findIn K (.ref RO) "__eq__" = some (some (.ref f_er)))
    (fn_er : PySem.W.isFn K (.ref f_er) = true)
    (at_ec : PySem.W.findIn K (.ref CO) "__eq__" = some (some (.ref f_ec)))
    (fn_ec : PySem.W.isFn K (.ref f_ec) = true)
    (at_yc : PySem.W.findIn K (.ref SE) "__call__" = some (some (.ref f_yc)))
    (fn_yc : PySem.W.isFn K (.ref f_yc) = true)
    (fi_yc : PySem.W.fnIn K f_yc = true)
    (co_ca : PySem.W.findIn K (.ref CO) "__class__" = some (some (.builtin "object.__class__")))
    (co_ob : PySem.W.mroIn K CO (.type "object") = some true)
    (co_ss : PySem.W.subIn K (.ref CO) (.ref CO) = some true)
    (co_cl : PySem.W.isClsIn K CO = true)
    (co_ty : PySem.W.typeIn K (.ref CO) = some (.type "type"))
    (ro_ca : PySem.W.findIn K (.ref RO) "__class__" = some (some (.builtin "object.__class__")))
    (ro_ob : PySem.W.mroIn K RO (.type "object") = some true)
    (ro_ss : PySem.W.subIn K (.ref RO) (.ref RO) = some true)
    (ro_cl : PySem.W.isClsIn K RO = true)
    (ro_ty : PySem.W.typeIn K (.ref RO) = some (.type "type"))
    (bo_ca : PySem.W.findIn K (.ref BO) "__class__" = some (some (.builtin "object.__class__")))
    (bo_ob : PySem.W.mroIn K BO (.type "object") = some true)
    (bo_ss : PySem.W.subIn K (.ref BO) (.ref BO) = some true)
    (bo_cl : PySem.W.isClsIn K BO = true)
    (bo_ty : PySem.W.typeIn K (.ref BO) = some (.type "type"))
    (bo_ne : PySem.W.findIn K (.ref BO) "__ne__" = some (some (.builtin "object.__ne__")))
    (bo_bstr : PySem.W.subIn K (.type "str") (.ref BO) = some false)
    (bo_sf : PySem.W.selfFirst K BO = true)
    (bo_rs : PySem.W.findIn K (.ref BO) "__rsub__" = some none)
    (st_s : PySem.W.findIn K (.type "str") "__sub__" = some fo_s)
    (st_r : PySem.W.findIn K (.type "str") "__rsub__" = some fo_r)
    (fi_gc : PySem.W.fnIn K f_gc = true)
    (fi_gs : PySem.W.fnIn K f_gs = true)
    (m_lcm : PySem.W.nsIn K mainGlobals "lcm" = some (some (.builtin "math.lcm")))
    (l_mi : K.lookup f_mi = some ⟨oc_mi, od_mi, .func (PySem.W.fnOf "__init__" "Condition.__init__" (defArgs s_Condition___init__) (defBody s_Condition___init__) (defScope s_Condition___init__) .none kV_mi dc_mi pm_mi an_mi cd_mi ct_mi), sl_mi⟩)
    (c_mi : PySem.W.codeIn K cd_mi "Condition.__init__" = true)
    (k_mi : PySem.W.keepIn K (.ref f_mi) = true)
    (l_mh : K.lookup f_mh = some ⟨oc_mh, od_mh, .func (PySem.W.fnOf "holding" "Condition.holding" (defArgs s_Condition_holding) (defBody s_Condition_holding) (defScope s_Condition_holding) .none kV_mh dc_mh pm_mh an_mh cd_mh ct_mh), sl_mh⟩)
    (c_mh : PySem.W.codeIn K cd_mh "Condition.holding" = true)
    (k_mh : PySem.W.keepIn K (.ref f_mh) = true)
    (l_mf : K.lookup f_mf = some ⟨oc_mf, od_mf, .func (PySem.W.fnOf "failing" "Condition.failing" (defArgs s_Condition_failing) (defBody s_Condition_failing) (defScope s_Condition_failing) .none kV_mf dc_mf pm_mf an_mf cd_mf ct_mf), sl_mf⟩)
    (c_mf : PySem.W.codeIn K cd_mf "Condition.failing" = true)
    (k_mf : PySem.W.keepIn K (.ref f_mf) = true)
    (l_mn : K.lookup f_mn = some ⟨oc_mn, od_mn, .func (PySem.W.fnOf "names" "Condition.names" (defArgs s_Condition_names) (defBody s_Condition_names) (defScope s_Condition_names) .none kV_mn dc_mn pm_mn an_mn cd_mn ct_mn), sl_mn⟩)
    (c_mn : PySem.W.codeIn K cd_mn "Condition.names" = true)
    (k_mn : PySem.W.keepIn K (.ref f_mn) = true)
    (l_ri : K.lookup f_ri = some ⟨oc_ri, od_ri, .func (PySem.W.fnOf "__init__" "Rule.__init__" (defArgs s_Rule___init__) (defBody s_Rule___init__) (defScope s_Rule___init__) .none kV_ri dc_ri pm_ri an_ri cd_ri ct_ri), sl_ri⟩)
    (c_ri : PySem.W.codeIn K cd_ri "Rule.__init__" = true)
    (k_ri : PySem.W.keepIn K (.ref f_ri) = true)
    (l_rn : K.lookup f_rn = some ⟨oc_rn, od_rn, .func (PySem.W.fnOf "name" "Rule.name" (defArgs s_Rule_name) (defBody s_Rule_name) (defScope s_Rule_name) .none kV_rn dc_rn pm_rn an_rn cd_rn ct_rn), sl_rn⟩)
    (c_rn : PySem.W.codeIn K cd_rn "Rule.name" = true)
    (k_rn : PySem.W.keepIn K (.ref f_rn) = true)
    (l_rc : K.lookup f_rc = some ⟨oc_rc, od_rc, .func (PySem.W.fnOf "condition" "Rule.condition" (defArgs s_Rule_condition) (defBody s_Rule_condition) (defScope s_Rule_condition) .none kV_rc dc_rc pm_rc an_rc cd_rc ct_rc), sl_rc⟩)
    (c_rc : PySem.W.codeIn K cd_rc "Rule.condition" = true)
    (k_rc : PySem.W.keepIn K (.ref f_rc) = true)
    (l_rr : K.lookup f_rr = some ⟨oc_rr, od_rr, .func (PySem.W.fnOf "ruling" "Rule.ruling" (defArgs s_Rule_ruling) (defBody s_Rule_ruling) (defScope s_Rule_ruling) .none kV_rr dc_rr pm_rr an_rr cd_rr ct_rr), sl_rr⟩)
    (c_rr : PySem.W.codeIn K cd_rr "Rule.ruling" = true)
    (k_rr : PySem.W.keepIn K (.ref f_rr) = true)
    (l_re : K.lookup f_re = some ⟨oc_re, od_re, .func (PySem.W.fnOf "exceptions" "Rule.exceptions" (defArgs s_Rule_exceptions) (defBody s_Rule_exceptions) (defScope s_Rule_exceptions) .none kV_re dc_re pm_re an_re cd_re ct_re), sl_re⟩)
    (c_re : PySem.W.codeIn K cd_re "Rule.exceptions" = true)
    (k_re : PySem.W.keepIn K (.ref f_re) = true)
    (l_rd : K.lookup f_rd = some ⟨oc_rd, od_rd, .func (PySem.W.fnOf "depth" "Rule.depth" (defArgs s_Rule_depth) (defBody s_Rule_depth) (defScope s_Rule_depth) .none kV_rd dc_rd pm_rd an_rd cd_rd ct_rd), sl_rd⟩)
    (c_rd : PySem.W.codeIn K cd_rd "Rule.depth" = true)
    (k_rd : PySem.W.keepIn K (.ref f_rd) = true)
    (l_bi : K.lookup f_bi = some ⟨oc_bi, od_bi, .func (PySem.W.fnOf "__init__" "Book.__init__" (defArgs s_Book___init__) (defBody s_Book___init__) (defScope s_Book___init__) .none kV_bi dc_bi pm_bi an_bi cd_bi ct_bi), sl_bi⟩)
    (c_bi : PySem.W.codeIn K cd_bi "Book.__init__" = true)
    (k_bi : PySem.W.keepIn K (.ref f_bi) = true)
    (l_bf : K.lookup f_bf = some ⟨oc_bf, od_bf, .func (PySem.W.fnOf "facts" "Book.facts" (defArgs s_Book_facts) (defBody s_Book_facts) (defScope s_Book_facts) .none kV_bf dc_bf pm_bf an_bf cd_bf ct_bf), sl_bf⟩)
    (c_bf : PySem.W.codeIn K cd_bf "Book.facts" = true)
    (k_bf : PySem.W.keepIn K (.ref f_bf) = true)
    (l_bs : K.lookup f_bs = some ⟨oc_bs, od_bs, .func (PySem.W.fnOf "rules" "Book.rules" (defArgs s_Book_rules) (defBody s_Book_rules) (defScope s_Book_rules) .none kV_bs dc_bs pm_bs an_bs cd_bs ct_bs), sl_bs⟩)
    (c_bs : PySem.W.codeIn K cd_bs "Book.rules" = true)
    (k_bs : PySem.W.keepIn K (.ref f_bs) = true)
    (l_br : K.lookup f_br = some ⟨oc_br, od_br, .func (PySem.W.fnOf "ruling" "Book.ruling" (defArgs s_Book_ruling) (defBody s_Book_ruling) (defScope s_Book_ruling) .none kV_br dc_br pm_br an_br cd_br ct_br), sl_br⟩)
    (c_br : PySem.W.codeIn K cd_br "Book.ruling" = true)
    (k_br : PySem.W.keepIn K (.ref f_br) = true)
    (l_yi : K.lookup f_yi = some ⟨oc_yi, od_yi, .func (PySem.W.fnOf "__init__" "Seasons.__init__" (defArgs s_Seasons___init__) (defBody s_Seasons___init__) (defScope s_Seasons___init__) .none kV_yi dc_yi pm_yi an_yi cd_yi ct_yi), sl_yi⟩)
    (c_yi : PySem.W.codeIn K cd_yi "Seasons.__init__" = true)
    (k_yi : PySem.W.keepIn K (.ref f_yi) = true)
    (l_yp : K.lookup f_yp = some ⟨oc_yp, od_yp, .func (PySem.W.fnOf "period" "Seasons.period" (defArgs s_Seasons_period) (defBody s_Seasons_period) (defScope s_Seasons_period) .none kV_yp dc_yp pm_yp an_yp cd_yp ct_yp), sl_yp⟩)
    (c_yp : PySem.W.codeIn K cd_yp "Seasons.period" = true)
    (k_yp : PySem.W.keepIn K (.ref f_yp) = true)
    (l_gc : K.lookup f_gc = some ⟨oc_gc, od_gc, .func (PySem.W.fnOf "__contains__" "Book.__contains__" (defArgs s_Book___contains__) (defBody s_Book___contains__) (defScope s_Book___contains__) .none kV_gc dc_gc pm_gc an_gc cd_gc ct_gc), sl_gc⟩)
    (c_gc : PySem.W.codeIn K cd_gc "Book.__contains__" = true)
    (k_gc : PySem.W.keepIn K (.ref f_gc) = true)
    (l_gs : K.lookup f_gs = some ⟨oc_gs, od_gs, .func (PySem.W.fnOf "__sub__" "Book.__sub__" (defArgs s_Book___sub__) (defBody s_Book___sub__) (defScope s_Book___sub__) .none kV_gs dc_gs pm_gs an_gs cd_gs ct_gs), sl_gs⟩)
    (c_gs : PySem.W.codeIn K cd_gs "Book.__sub__" = true)
    (k_gs : PySem.W.keepIn K (.ref f_gs) = true)
    (l_eb : K.lookup f_eb = some ⟨oc_eb, od_eb, .func (PySem.W.fnOf "__eq__" "Book.__eq__" (defArgs s_Book___eq__) (defBody s_Book___eq__) (defScope s_Book___eq__) .none kV_eb dc_eb pm_eb an_eb cd_eb ct_eb), sl_eb⟩)
    (c_eb : PySem.W.codeIn K cd_eb "Book.__eq__" = true)
    (k_eb : PySem.W.keepIn K (.ref f_eb) = true)
    (l_er : K.lookup f_er = some ⟨oc_er, od_er, .func (PySem.W.fnOf "__eq__" "Rule.__eq__" (defArgs s_Rule___eq__) (defBody s_Rule___eq__) (defScope s_Rule___eq__) .none kV_er dc_er pm_er an_er cd_er ct_er), sl_er⟩)
    (c_er : PySem.W.codeIn K cd_er "Rule.__eq__" = true)
    (k_er : PySem.W.keepIn K (.ref f_er) = true)
    (l_ec : K.lookup f_ec = some ⟨oc_ec, od_ec, .func (PySem.W.fnOf "__eq__" "Condition.__eq__" (defArgs s_Condition___eq__) (defBody s_Condition___eq__) (defScope s_Condition___eq__) .none kV_ec dc_ec pm_ec an_ec cd_ec ct_ec), sl_ec⟩)
    (c_ec : PySem.W.codeIn K cd_ec "Condition.__eq__" = true)
    (k_ec : PySem.W.keepIn K (.ref f_ec) = true)
    (l_yc : K.lookup f_yc = some ⟨oc_yc, od_yc, .func (PySem.W.fnOf "__call__" "Seasons.__call__" (defArgs s_Seasons___call__) (defBody s_Seasons___call__) (defScope s_Seasons___call__) .none kV_yc dc_yc pm_yc an_yc cd_yc ct_yc), sl_yc⟩)
    (c_yc : PySem.W.codeIn K cd_yc "Seasons.__call__" = true)
    (k_yc : PySem.W.keepIn K (.ref f_yc) = true)
    (b_isinstance : PySem.W.nsIn K mainGlobals "isinstance" = some none)
    (b_len : PySem.W.nsIn K mainGlobals "len" = some none)
    (b_all : PySem.W.nsIn K mainGlobals "all" = some none)
    (b_any : PySem.W.nsIn K mainGlobals "any" = some none)
    (b_sum : PySem.W.nsIn K mainGlobals "sum" = some none)
    (b_max : PySem.W.nsIn K mainGlobals "max" = some none)
    (b_min : PySem.W.nsIn K mainGlobals "min" = some none)
    (b_int : PySem.W.nsIn K mainGlobals "int" = some none)
    (b_str : PySem.W.nsIn K mainGlobals "str" = some none)
    (b_bool : PySem.W.nsIn K mainGlobals "bool" = some none)
    (b_list : PySem.W.nsIn K mainGlobals "list" = some none)
    (b_tuple : PySem.W.nsIn K mainGlobals "tuple" = some none)
    (b_dict : PySem.W.nsIn K mainGlobals "dict" = some none)
    (b_range : PySem.W.nsIn K mainGlobals "range" = some none)
    (b_enumerate : PySem.W.nsIn K mainGlobals "enumerate" = some none)
    (b_sorted : PySem.W.nsIn K mainGlobals "sorted" = some none)
    (b_reversed : PySem.W.nsIn K mainGlobals "reversed" = some none)
    (b_zip : PySem.W.nsIn K mainGlobals "zip" = some none)
    (b_set : PySem.W.nsIn K mainGlobals "set" = some none)
    (b_ValueError : PySem.W.nsIn K mainGlobals "ValueError" = some none)
    (m_LETTERS : PySem.W.nsIn K mainGlobals "LETTERS" = some (some (.str letters t_LETTERS)))
    (m_LONGEST_NAME : PySem.W.nsIn K mainGlobals "LONGEST_NAME" = some (some (.int 8 t_LONGEST_NAME)))
    (m_MOST_FACTS : PySem.W.nsIn K mainGlobals "MOST_FACTS" = some (some (.int 60 t_MOST_FACTS)))
    (m_MOST_NAMES : PySem.W.nsIn K mainGlobals "MOST_NAMES" = some (some (.int 8 t_MOST_NAMES)))
    (m_MOST_AROUND : PySem.W.nsIn K mainGlobals "MOST_AROUND" = some (some (.int 5 t_MOST_AROUND)))
    (m_MOST_RULES : PySem.W.nsIn K mainGlobals "MOST_RULES" = some (some (.int 60 t_MOST_RULES)))
    (m_MOST_OUTERMOST : PySem.W.nsIn K mainGlobals "MOST_OUTERMOST" = some (some (.int 40 t_MOST_OUTERMOST)))
    (m_LAST_DAY : PySem.W.nsIn K mainGlobals "LAST_DAY" = some (some (.int lastDay t_LAST_DAY)))
    (m_LONGEST_SPAN : PySem.W.nsIn K mainGlobals "LONGEST_SPAN" = some (some (.int 100 t_LONGEST_SPAN)))
    (m_CourtError : PySem.W.nsIn K mainGlobals "CourtError" = some (some (.ref CE)))
    (m_InvalidFacts : PySem.W.nsIn K mainGlobals "InvalidFacts" = some (some (.ref E0)))
    (m_InvalidCondition : PySem.W.nsIn K mainGlobals "InvalidCondition" = some (some (.ref E1)))
    (m_InvalidRule : PySem.W.nsIn K mainGlobals "InvalidRule" = some (some (.ref E2)))
    (m_InvalidBook : PySem.W.nsIn K mainGlobals "InvalidBook" = some (some (.ref E3)))
    (m_UnknownRule : PySem.W.nsIn K mainGlobals "UnknownRule" = some (some (.ref E4)))
    (CEbe : PySem.W.subIn K (.ref CE) (.type "BaseException") = some true)
    (CEcl : PySem.W.isClsIn K CE = true)
    (CEty : PySem.W.typeIn K (.ref CE) = some (.type "type"))
    (u_0 : PySem.W.isClsIn K E0 = true)
    (v_0 : PySem.W.typeIn K (.ref E0) = some (.type "type"))
    (u_1 : PySem.W.isClsIn K E1 = true)
    (v_1 : PySem.W.typeIn K (.ref E1) = some (.type "type"))
    (u_2 : PySem.W.isClsIn K E2 = true)
    (v_2 : PySem.W.typeIn K (.ref E2) = some (.type "type"))
    (u_3 : PySem.W.isClsIn K E3 = true)
    (v_3 : PySem.W.typeIn K (.ref E3) = some (.type "type"))
    (u_4 : PySem.W.isClsIn K E4 = true)
    (v_4 : PySem.W.typeIn K (.ref E4) = some (.type "type"))
    (sg : PySem.W.specialIn K (.builtin "object.__class__") "__get__" = some (some (.builtin "getset_descriptor.__get__")))
    (tk : PySem.W.takesIn K (.builtin "object.__class__") = some true)
    (x_E : K.lookup CE = some (excClassObj nmE qE CE NE bsE bmE true snE suE abE colE ddE x0E x1E x2E x3E x5E "ValueError.__new__"))
    (f_E : PySem.W.findIn K (.ref CE) "__init__" = some (some (.builtin "ValueError.__init__")))
    (noS : PySem.W.nsIn K mainGlobals "super" = some none)
    (opq : PySem.W.nsIn K cStatics "thirdparty.any" = some none)
    (i0_x : K.lookup E0 = some (excClassObj nmi0 qi0 E0 Ni0 bsi0 bmi0 true sni0 sui0 abi0 coli0 ddi0 x0i0 x1i0 x2i0 x3i0 x5i0 "ValueError.__new__"))
    (i0_rv : HandSPX.refsVE bmi0 = true)
    (i0_sa : PySem.W.findIn K (.ref E0) "__setattr__" = some (some (.builtin "object.__setattr__")))
    (i0_ty : PySem.W.typeIn K (.ref E0) = some (.type "type"))
    (i0_kC : PySem.W.keepIn K (.ref E0) = true)
    (i0_in : PySem.W.findIn K (.ref E0) "__init__" = some (some (.ref fIi0)))
    (i0_tI : PySem.W.typeIn K (.ref fIi0) = some (.type "function"))
    (i0_lI : K.lookup fIi0 = some ⟨ocii0, odii0, .func (supFd (nf_InvalidFacts celi0 codi0) kVii0 dcii0 pmii0 anii0 ctii0), slii0⟩)
    (i0_cI : PySem.W.codeIn K (.ref codi0) "InvalidFacts.__init__" = true)
    (i0_ce : K.lookup celi0 = some ⟨clci0, ccddi0, .cell (some (.ref E0)), csli0⟩)
    (i0_co : K.lookup codi0 = some ⟨ccli0, cddi0, .fields vsi0, ccsi0⟩)
    (i0_fi : vsi0[2]? = some (.str fili0 tfii0))
    (i0_fe : ((P.main.file : Str) == fili0) = true)
    (i0_sb : PySem.W.mroIn K E0 (.ref E0) = some true)
    (i0_bm : bmi0 = .ref CE :: bmE)
    (i0_vB : PySem.W.subIn K (.ref E0) (.type "ValueError") = some true)
    (i0_bE : PySem.W.subIn K (.ref E0) (.type "BaseException") = some true)
    (i0_f_index : PySem.W.findIn K (.ref E0) "index" = some none)
    (i1_x : K.lookup E1 = some (excClassObj nmi1 qi1 E1 Ni1 bsi1 bmi1 true sni1 sui1 abi1 coli1 ddi1 x0i1 x1i1 x2i1 x3i1 x5i1 "ValueError.__new__"))
    (i1_rv : HandSPX.refsVE bmi1 = true)
    (i1_sa : PySem.W.findIn K (.ref E1) "__setattr__" = some (some (.builtin "object.__setattr__")))
    (i1_ty : PySem.W.typeIn K (.ref E1) = some (.type "type"))
    (i1_kC : PySem.W.keepIn K (.ref E1) = true)
    (i1_in : PySem.W.findIn K (.ref E1) "__init__" = some (some (.ref fIi1)))
    (i1_tI : PySem.W.typeIn K (.ref fIi1) = some (.type "function"))
    (i1_lI : K.lookup fIi1 = some ⟨ocii1, odii1, .func (supFd (nf_InvalidCondition celi1 codi1) kVii1 dcii1 pmii1 anii1 ctii1), slii1⟩)
    (i1_cI : PySem.W.codeIn K (.ref codi1) "InvalidCondition.__init__" = true)
    (i1_ce : K.lookup celi1 = some ⟨clci1, ccddi1, .cell (some (.ref E1)), csli1⟩)
    (i1_co : K.lookup codi1 = some ⟨ccli1, cddi1, .fields vsi1, ccsi1⟩)
    (i1_fi : vsi1[2]? = some (.str fili1 tfii1))
    (i1_fe : ((P.main.file : Str) == fili1) = true)
    (i1_sb : PySem.W.mroIn K E1 (.ref E1) = some true)
    (i1_bm : bmi1 = .ref CE :: bmE)
    (i1_vB : PySem.W.subIn K (.ref E1) (.type "ValueError") = some true)
    (i1_bE : PySem.W.subIn K (.ref E1) (.type "BaseException") = some true)
    (i1_f_part : PySem.W.findIn K (.ref E1) "part" = some none)
    (i1_f_index : PySem.W.findIn K (.ref E1) "index" = some none)
    (i2_x : K.lookup E2 = some (excClassObj nmi2 qi2 E2 Ni2 bsi2 bmi2 true sni2 sui2 abi2 coli2 ddi2 x0i2 x1i2 x2i2 x3i2 x5i2 "ValueError.__new__"))
    (i2_rv : HandSPX.refsVE bmi2 = true)
    (i2_sa : PySem.W.findIn K (.ref E2) "__setattr__" = some (some (.builtin "object.__setattr__")))
    (i2_ty : PySem.W.typeIn K (.ref E2) = some (.type "type"))
    (i2_kC : PySem.W.keepIn K (.ref E2) = true)
    (i2_in : PySem.W.findIn K (.ref E2) "__init__" = some (some (.ref fIi2)))
    (i2_tI : PySem.W.typeIn K (.ref fIi2) = some (.type "function"))
    (i2_lI : K.lookup fIi2 = some ⟨ocii2, odii2, .func (supFd (nf_InvalidRule celi2 codi2) kVii2 dcii2 pmii2 anii2 ctii2), slii2⟩)
    (i2_cI : PySem.W.codeIn K (.ref codi2) "InvalidRule.__init__" = true)
    (i2_ce : K.lookup celi2 = some ⟨clci2, ccddi2, .cell (some (.ref E2)), csli2⟩)
    (i2_co : K.lookup codi2 = some ⟨ccli2, cddi2, .fields vsi2, ccsi2⟩)
    (i2_fi : vsi2[2]? = some (.str fili2 tfii2))
    (i2_fe : ((P.main.file : Str) == fili2) = true)
    (i2_sb : PySem.W.mroIn K E2 (.ref E2) = some true)
    (i2_bm : bmi2 = .ref CE :: bmE)
    (i2_vB : PySem.W.subIn K (.ref E2) (.type "ValueError") = some true)
    (i2_bE : PySem.W.subIn K (.ref E2) (.type "BaseException") = some true)
    (i2_f_part : PySem.W.findIn K (.ref E2) "part" = some none)
    (i3_x : K.lookup E3 = some (excClassObj nmi3 qi3 E3 Ni3 bsi3 bmi3 true sni3 sui3 abi3 coli3 ddi3 x0i3 x1i3 x2i3 x3i3 x5i3 "ValueError.__new__"))
    (i3_rv : HandSPX.refsVE bmi3 = true)
    (i3_sa : PySem.W.findIn K (.ref E3) "__setattr__" = some (some (.builtin "object.__setattr__")))
    (i3_ty : PySem.W.typeIn K (.ref E3) = some (.type "type"))
    (i3_kC : PySem.W.keepIn K (.ref E3) = true)
    (i3_in : PySem.W.findIn K (.ref E3) "__init__" = some (some (.ref fIi3)))
    (i3_tI : PySem.W.typeIn K (.ref fIi3) = some (.type "function"))
    (i3_lI : K.lookup fIi3 = some ⟨ocii3, odii3, .func (supFd (nf_InvalidBook celi3 codi3) kVii3 dcii3 pmii3 anii3 ctii3), slii3⟩)
    (i3_cI : PySem.W.codeIn K (.ref codi3) "InvalidBook.__init__" = true)
    (i3_ce : K.lookup celi3 = some ⟨clci3, ccddi3, .cell (some (.ref E3)), csli3⟩)
    (i3_co : K.lookup codi3 = some ⟨ccli3, cddi3, .fields vsi3, ccsi3⟩)
    (i3_fi : vsi3[2]? = some (.str fili3 tfii3))
    (i3_fe : ((P.main.file : Str) == fili3) = true)
    (i3_sb : PySem.W.mroIn K E3 (.ref E3) = some true)
    (i3_bm : bmi3 = .ref CE :: bmE)
    (i3_vB : PySem.W.subIn K (.ref E3) (.type "ValueError") = some true)
    (i3_bE : PySem.W.subIn K (.ref E3) (.type "BaseException") = some true)
    (i3_f_word : PySem.W.findIn K (.ref E3) "word" = some none)
    (i3_f_index : PySem.W.findIn K (.ref E3) "index" = some none)
    (p4_q : PySem.W.excIn K E4 [.type "ValueError", .type "Exception", .type "BaseException", .type "object"] "ValueError.__new__" = true)
    (p4_k : PySem.W.keepIn K (.ref E4) = true)
    (p4_b : PySem.W.subIn K (.ref E4) (.type "BaseException") = some true)
    (p4_t : PySem.W.typeIn K (.ref E4) = some (.type "type"))
    (top0 : (P.main.scope.names.lookup ("super" : Str)).isSome = false) : LamX.LawAtS l w K CX0 34 63 "_law_script" mg fa h := by
  have e := hfa.symm.trans (PySem.W.mg_of X G a_law)
  cases e
  subst eP
  have B : Blt mg := ⟨PySem.W.mg_none_of X G b_isinstance, PySem.W.mg_none_of X G b_len, PySem.W.mg_none_of X G b_all, PySem.W.mg_none_of X G b_any, PySem.W.mg_none_of X G b_sum, PySem.W.mg_none_of X G b_max, PySem.W.mg_none_of X G b_min, PySem.W.mg_none_of X G b_int, PySem.W.mg_none_of X G b_str, PySem.W.mg_none_of X G b_bool, PySem.W.mg_none_of X G b_list, PySem.W.mg_none_of X G b_tuple, PySem.W.mg_none_of X G b_dict, PySem.W.mg_none_of X G b_range, PySem.W.mg_none_of X G b_enumerate, PySem.W.mg_none_of X G b_sorted, PySem.W.mg_none_of X G b_reversed, PySem.W.mg_none_of X G b_zip, PySem.W.mg_none_of X G b_set, PySem.W.mg_none_of X G b_ValueError⟩
  have F_is_name := fun_mk (st := s_is_name) l_is_name c_is_name k_is_name
  have b_is_name := F_is_name.binds (ps := ["value"]) fun _ _ _ _ _ _ us hl => match us, hl with | [_], _ => rfl
  have F_is_integer := fun_mk (st := s_is_integer) l_is_integer c_is_integer k_is_integer
  have b_is_integer := F_is_integer.binds (ps := ["value"]) fun _ _ _ _ _ _ us hl => match us, hl with | [_], _ => rfl
  have F_rises := fun_mk (st := s_rises) l_rises c_rises k_rises
  have b_rises := F_rises.binds (ps := ["names", "index"]) fun _ _ _ _ _ _ us hl => match us, hl with | [_, _], _ => rfl
  have F_check_facts := fun_mk (st := s_check_facts) l_check_facts c_check_facts k_check_facts
  have b_check_facts := F_check_facts.binds (ps := ["facts"]) fun _ _ _ _ _ _ us hl => match us, hl with | [_], _ => rfl
  have F_nested := fun_mk (st := s_nested) l_nested c_nested k_nested
  have b_nested := F_nested.binds (ps := ["rules", "around"]) fun _ _ _ _ _ _ us hl => match us, hl with | [_, _], _ => rfl
  have F_check_rules := fun_mk (st := s_check_rules) l_check_rules c_check_rules k_check_rules
  have b_check_rules := F_check_rules.binds (ps := ["facts", "rules"]) fun _ _ _ _ _ _ us hl => match us, hl with | [_, _], _ => rfl
  have F_check_part := fun_mk (st := s_check_part) l_check_part c_check_part k_check_part
  have b_check_part := F_check_part.binds (ps := ["part", "names", "before"]) fun _ _ _ _ _ _ us hl => match us, hl with | [_, _, _], _ => rfl
  have F_merged := fun_mk (st := s_merged) l_merged c_merged k_merged
  have b_merged := F_merged.binds (ps := ["names", "others"]) fun _ _ _ _ _ _ us hl => match us, hl with | [_, _], _ => rfl
  have F_replaced := fun_mk (st := s_replaced) l_replaced c_replaced k_replaced
  have b_replaced := F_replaced.binds (ps := ["rules", "name", "others"]) fun _ _ _ _ _ _ us hl => match us, hl with | [_, _, _], _ => rfl
  have F_is_day := fun_mk (st := s_is_day) l_is_day c_is_day k_is_day
  have b_is_day := F_is_day.binds (ps := ["value"]) fun _ _ _ _ _ _ us hl => match us, hl with | [_], _ => rfl
  have F_check_day := fun_mk (st := s_check_day) l_check_day c_check_day k_check_day
  have b_check_day := F_check_day.binds (ps := ["value"]) fun _ _ _ _ _ _ us hl => match us, hl with | [_], _ => rfl
  have F_is_span := fun_mk (st := s_is_span) l_is_span c_is_span k_is_span
  have b_is_span := F_is_span.binds (ps := ["value"]) fun _ _ _ _ _ _ us hl => match us, hl with | [_], _ => rfl
  have F_in_span := fun_mk (st := s_in_span) l_in_span c_in_span k_in_span
  have b_in_span := F_in_span.binds (ps := ["span", "day"]) fun _ _ _ _ _ _ us hl => match us, hl with | [_, _], _ => rfl
  have F_check_spans := fun_mk (st := s_check_spans) l_check_spans c_check_spans k_check_spans
  have b_check_spans := F_check_spans.binds (ps := ["book", "spans"]) fun _ _ _ _ _ _ us hl => match us, hl with | [_, _], _ => rfl
  have F__law_mix := fun_mk (st := s__law_mix) l__law_mix c__law_mix k__law_mix
  have b__law_mix := F__law_mix.binds (ps := ["_law_script", "_law_seed"]) fun _ _ _ _ _ _ us hl => match us, hl with | [_, _], _ => rfl
  have F__law_next := fun_mk (st := s__law_next) l__law_next c__law_next k__law_next
  have b__law_next := F__law_next.binds (ps := ["_law_h", "_law_limit"]) fun _ _ _ _ _ _ us hl => match us, hl with | [_, _], _ => rfl
  have F__law_alike := fun_mk (st := s__law_alike) l__law_alike c__law_alike k__law_alike
  have b__law_alike := F__law_alike.binds (ps := ["_law_found", "_law_due"]) fun _ _ _ _ _ _ us hl => match us, hl with | [_, _], _ => rfl
  have F__law_facts := fun_mk (st := s__law_facts) l__law_facts c__law_facts k__law_facts
  have b__law_facts := F__law_facts.binds (ps := ["_law_h", "_law_most"]) fun _ _ _ _ _ _ us hl => match us, hl with | [_, _], _ => rfl
  have F__law_sides := fun_mk (st := s__law_sides) l__law_sides c__law_sides k__law_sides
  have b__law_sides := F__law_sides.binds (ps := ["_law_h", "_law_facts_here", "_law_most"]) fun _ _ _ _ _ _ us hl => match us, hl with | [_, _, _], _ => rfl
  have F__law_rule := fun_mk (st := s__law_rule) l__law_rule c__law_rule k__law_rule
  have b__law_rule := F__law_rule.binds (ps := ["_law_h", "_law_facts_here", "_law_names", "_law_deep"]) fun _ _ _ _ _ _ us hl => match us, hl with | [_, _, _, _], _ => rfl
  have F__law_drawn := fun_mk (st := s__law_drawn) l__law_drawn c__law_drawn k__law_drawn
  have b__law_drawn := F__law_drawn.binds (ps := ["_law_h", "_law_facts_here", "_law_most"]) fun _ _ _ _ _ _ us hl => match us, hl with | [_, _, _], _ => rfl
  have F__law_made := fun_mk (st := s__law_made) l__law_made c__law_made k__law_made
  have b__law_made := F__law_made.binds (ps := ["_law_rules"]) fun _ _ _ _ _ _ us hl => match us, hl with | [_], _ => rfl
  have F__law_book := fun_mk (st := s__law_book) l__law_book c__law_book k__law_book
  have b__law_book := F__law_book.binds (ps := ["_law_drawn_here"]) fun _ _ _ _ _ _ us hl => match us, hl with | [_], _ => rfl
  have F__law_told := fun_mk (st := s__law_told) l__law_told c__law_told k__law_told
  have b__law_told := F__law_told.binds (ps := ["_law_rules"]) fun _ _ _ _ _ _ us hl => match us, hl with | [_], _ => rfl
  have F__law_seen := fun_mk (st := s__law_seen) l__law_seen c__law_seen k__law_seen
  have b__law_seen := F__law_seen.binds (ps := ["_law_book_here"]) fun _ _ _ _ _ _ us hl => match us, hl with | [_], _ => rfl
  have F__law_all := fun_mk (st := s__law_all) l__law_all c__law_all k__law_all
  have b__law_all := F__law_all.binds (ps := ["_law_rules"]) fun _ _ _ _ _ _ us hl => match us, hl with | [_], _ => rfl
  have F__law_spans := fun_mk (st := s__law_spans) l__law_spans c__law_spans k__law_spans
  have b__law_spans := F__law_spans.binds (ps := ["_law_h", "_law_drawn_here"]) fun _ _ _ _ _ _ us hl => match us, hl with | [_, _], _ => rfl
  have F__law_season := fun_mk (st := s__law_season) l__law_season c__law_season k__law_season
  have b__law_season := F__law_season.binds (ps := ["_law_rules", "_law_spans_here", "_law_day"]) fun _ _ _ _ _ _ us hl => match us, hl with | [_, _, _], _ => rfl
  have F__law_period := fun_mk (st := s__law_period) l__law_period c__law_period k__law_period
  have b__law_period := F__law_period.binds (ps := ["_law_spans_here"]) fun _ _ _ _ _ _ us hl => match us, hl with | [_], _ => rfl
  have ox_InvalidFacts : OexC K E0 := ⟨⟨_, _, _, _, _, _, _, _, _, _, _, _, _, _, _, i0_x, i0_rv⟩, i0_sa, i0_bE, i0_ty, i0_kC⟩
  have sp_InvalidFacts : SupC l.prog K mg E0 celi0 codi0 := ⟨⟨_, _, _, i0_ce⟩, ⟨_, _, _, _, _, _, i0_co, i0_fi, i0_fe⟩, i0_sb, PySem.W.mg_none_of X G noS, opq, sup_by i0_x x_E i0_bm f_E, i0_vB, top0⟩
  have ox_InvalidCondition : OexC K E1 := ⟨⟨_, _, _, _, _, _, _, _, _, _, _, _, _, _, _, i1_x, i1_rv⟩, i1_sa, i1_bE, i1_ty, i1_kC⟩
  have sp_InvalidCondition : SupC l.prog K mg E1 celi1 codi1 := ⟨⟨_, _, _, i1_ce⟩, ⟨_, _, _, _, _, _, i1_co, i1_fi, i1_fe⟩, i1_sb, PySem.W.mg_none_of X G noS, opq, sup_by i1_x x_E i1_bm f_E, i1_vB, top0⟩
  have ox_InvalidRule : OexC K E2 := ⟨⟨_, _, _, _, _, _, _, _, _, _, _, _, _, _, _, i2_x, i2_rv⟩, i2_sa, i2_bE, i2_ty, i2_kC⟩
  have sp_InvalidRule : SupC l.prog K mg E2 celi2 codi2 := ⟨⟨_, _, _, i2_ce⟩, ⟨_, _, _, _, _, _, i2_co, i2_fi, i2_fe⟩, i2_sb, PySem.W.mg_none_of X G noS, opq, sup_by i2_x x_E i2_bm f_E, i2_vB, top0⟩
  have ox_InvalidBook : OexC K E3 := ⟨⟨_, _, _, _, _, _, _, _, _, _, _, _, _, _, _, i3_x, i3_rv⟩, i3_sa, i3_bE, i3_ty, i3_kC⟩
  have sp_InvalidBook : SupC l.prog K mg E3 celi3 codi3 := ⟨⟨_, _, _, i3_ce⟩, ⟨_, _, _, _, _, _, i3_co, i3_fi, i3_fe⟩, i3_sb, PySem.W.mg_none_of X G noS, opq, sup_by i3_x x_E i3_bm f_E, i3_vB, top0⟩
  have F_mi := fun_mk (st := s_Condition___init__) l_mi c_mi k_mi
  have b_mi := F_mi.binds (ps := ["self", "holding", "failing"]) fun _ _ _ _ _ _ us hl => match us, hl with | [_, _, _], _ => rfl
  have F_mh := fun_mk (st := s_Condition_holding) l_mh c_mh k_mh
  have b_mh := F_mh.binds (ps := ["self"]) fun _ _ _ _ _ _ us hl => match us, hl with | [_], _ => rfl
  have F_mf := fun_mk (st := s_Condition_failing) l_mf c_mf k_mf
  have b_mf := F_mf.binds (ps := ["self"]) fun _ _ _ _ _ _ us hl => match us, hl with | [_], _ => rfl
  have F_mn := fun_mk (st := s_Condition_names) l_mn c_mn k_mn
  have b_mn := F_mn.binds (ps := ["self"]) fun _ _ _ _ _ _ us hl => match us, hl with | [_], _ => rfl
  have F_ri := fun_mk (st := s_Rule___init__) l_ri c_ri k_ri
  have b_ri := F_ri.binds (ps := ["self", "name", "condition", "ruling", "exceptions"]) fun _ _ _ _ _ _ us hl => match us, hl with | [_, _, _, _, _], _ => rfl
  have F_rn := fun_mk (st := s_Rule_name) l_rn c_rn k_rn
  have b_rn := F_rn.binds (ps := ["self"]) fun _ _ _ _ _ _ us hl => match us, hl with | [_], _ => rfl
  have F_rc := fun_mk (st := s_Rule_condition) l_rc c_rc k_rc
  have b_rc := F_rc.binds (ps := ["self"]) fun _ _ _ _ _ _ us hl => match us, hl with | [_], _ => rfl
  have F_rr := fun_mk (st := s_Rule_ruling) l_rr c_rr k_rr
  have b_rr := F_rr.binds (ps := ["self"]) fun _ _ _ _ _ _ us hl => match us, hl with | [_], _ => rfl
  have F_re := fun_mk (st := s_Rule_exceptions) l_re c_re k_re
  have b_re := F_re.binds (ps := ["self"]) fun _ _ _ _ _ _ us hl => match us, hl with | [_], _ => rfl
  have F_rd := fun_mk (st := s_Rule_depth) l_rd c_rd k_rd
  have b_rd := F_rd.binds (ps := ["self"]) fun _ _ _ _ _ _ us hl => match us, hl with | [_], _ => rfl
  have F_bi := fun_mk (st := s_Book___init__) l_bi c_bi k_bi
  have b_bi := F_bi.binds (ps := ["self", "facts", "rules", "ruling"]) fun _ _ _ _ _ _ us hl => match us, hl with | [_, _, _, _], _ => rfl
  have F_bf := fun_mk (st := s_Book_facts) l_bf c_bf k_bf
  have b_bf := F_bf.binds (ps := ["self"]) fun _ _ _ _ _ _ us hl => match us, hl with | [_], _ => rfl
  have F_bs := fun_mk (st := s_Book_rules) l_bs c_bs k_bs
  have b_bs := F_bs.binds (ps := ["self"]) fun _ _ _ _ _ _ us hl => match us, hl with | [_], _ => rfl
  have F_br := fun_mk (st := s_Book_ruling) l_br c_br k_br
  have b_br := F_br.binds (ps := ["self"]) fun _ _ _ _ _ _ us hl => match us, hl with | [_], _ => rfl
  have F_yi := fun_mk (st := s_Seasons___init__) l_yi c_yi k_yi
  have b_yi := F_yi.binds (ps := ["self", "book", "spans"]) fun _ _ _ _ _ _ us hl => match us, hl with | [_, _, _], _ => rfl
  have F_yp := fun_mk (st := s_Seasons_period) l_yp c_yp k_yp
  have b_yp := F_yp.binds (ps := ["self"]) fun _ _ _ _ _ _ us hl => match us, hl with | [_], _ => rfl
  have F_gc := fun_mk (st := s_Book___contains__) l_gc c_gc k_gc
  have b_gc := F_gc.binds (ps := ["self", "name"]) fun _ _ _ _ _ _ us hl => match us, hl with | [_, _], _ => rfl
  have F_gs := fun_mk (st := s_Book___sub__) l_gs c_gs k_gs
  have b_gs := F_gs.binds (ps := ["self", "name"]) fun _ _ _ _ _ _ us hl => match us, hl with | [_, _], _ => rfl
  have F_eb := fun_mk (st := s_Book___eq__) l_eb c_eb k_eb
  have b_eb := F_eb.binds (ps := ["self", "other"]) fun _ _ _ _ _ _ us hl => match us, hl with | [_, _], _ => rfl
  have F_er := fun_mk (st := s_Rule___eq__) l_er c_er k_er
  have b_er := F_er.binds (ps := ["self", "other"]) fun _ _ _ _ _ _ us hl => match us, hl with | [_, _], _ => rfl
  have F_ec := fun_mk (st := s_Condition___eq__) l_ec c_ec k_ec
  have b_ec := F_ec.binds (ps := ["self", "other"]) fun _ _ _ _ _ _ us hl => match us, hl with | [_, _], _ => rfl
  have F_yc := fun_mk (st := s_Seasons___call__) l_yc c_yc k_yc
  have b_yc := F_yc.binds (ps := ["self", "day"]) fun _ _ _ _ _ _ us hl => match us, hl with | [_, _], _ => rfl
  have GN : GNames mg := ⟨⟨_, PySem.W.mg_of X G m_LETTERS⟩, ⟨_, PySem.W.mg_of X G m_LONGEST_NAME⟩⟩
  have CLc : Cls K CO := ⟨co_pg, co_hd, co_po, co_sa⟩
  have CLr : Cls K RO := ⟨ro_pg, ro_hd, ro_po, ro_sa⟩
  have CLb : Cls K BO := ⟨bo_pg, bo_hd, bo_po, bo_sa⟩
  have CLy : Cls K SE := ⟨yo_pg, yo_hd, yo_po, yo_sa⟩
  refine ⟨PySem.W.fnOf "law" "law" (defArgs s_law) (defBody s_law) (defScope s_law) .none kV_law dc_law pm_law an_law (.ref cc_law) ct_law, [], sp_law K, (fun _ h => nomatch h), (fun _ h => nomatch h), (fun _ h => nomatch h), ?_, ?_, ?_⟩
  · exact fun s u => .of_eq rfl
  · exact fun H a ns hl hb ht hS => ⟨a, ns, rfl, hS, hl, hb, fun _ => rfl⟩
  · intro base KB NB TBs
    have e_InvalidFacts : ErrMk l.prog w K mg base "InvalidFacts" E0 ["self", "index"] (sp_init1 E0 "index") := ⟨_, _, ox_InvalidFacts, i0_in, i0_tI, ok_init_InvalidFacts i0_lI i0_cI ox_InvalidFacts sp_InvalidFacts i0_f_index, fun s us _ hl => match us, hl with | [_, _], _ => .of_eq rfl, PySem.W.mg_of X G m_InvalidFacts⟩
    have e_InvalidCondition : ErrMk l.prog w K mg base "InvalidCondition" E1 ["self", "part", "index"] (sp_init2 E1 "part" "index") := ⟨_, _, ox_InvalidCondition, i1_in, i1_tI, ok_init_InvalidCondition i1_lI i1_cI ox_InvalidCondition sp_InvalidCondition i1_f_part i1_f_index, fun s us _ hl => match us, hl with | [_, _, _], _ => .of_eq rfl, PySem.W.mg_of X G m_InvalidCondition⟩
    have e_InvalidRule : ErrMk l.prog w K mg base "InvalidRule" E2 ["self", "part"] (sp_init1 E2 "part") := ⟨_, _, ox_InvalidRule, i2_in, i2_tI, ok_init_InvalidRule i2_lI i2_cI ox_InvalidRule sp_InvalidRule i2_f_part, fun s us _ hl => match us, hl with | [_, _], _ => .of_eq rfl, PySem.W.mg_of X G m_InvalidRule⟩
    have e_InvalidBook : ErrMk l.prog w K mg base "InvalidBook" E3 ["self", "word", "index"] (sp_init2 E3 "word" "index") := ⟨_, _, ox_InvalidBook, i3_in, i3_tI, ok_init_InvalidBook i3_lI i3_cI ox_InvalidBook sp_InvalidBook i3_f_word i3_f_index, fun s us _ hl => match us, hl with | [_, _, _], _ => .of_eq rfl, PySem.W.mg_of X G m_InvalidBook⟩
    have e_UnknownRule : ErrMk0 K mg "UnknownRule" E4 := ⟨p4_q, PySem.W.mg_of X G m_UnknownRule, p4_k, p4_b, p4_t⟩
    have c_is_name : Cal l.prog w K mg base CX0 1 "is_name" ["value"] (sp_is_name) := ⟨_, _, (ok_is_name F_is_name B GN), PySem.W.mg_of X G a_is_name, k_is_name, b_is_name⟩
    have c_is_integer : Cal l.prog w K mg base CX0 1 "is_integer" ["value"] (sp_is_integer K) := ⟨_, _, (ok_is_integer F_is_integer B), PySem.W.mg_of X G a_is_integer, k_is_integer, b_is_integer⟩
    have c_rises : Cal l.prog w K mg base CX0 1 "rises" ["names", "index"] (sp_rises K) := ⟨_, _, (ok_rises F_rises ), PySem.W.mg_of X G a_rises, k_rises, b_rises⟩
    have c_check_facts : Cal l.prog w K mg base (L2.CX l.prog w) 3 "check_facts" ["facts"] (sp_check_facts K E0) := ⟨_, _, (ok_check_facts F_check_facts B ⟨_, PySem.W.mg_of X G m_MOST_FACTS⟩ e_InvalidFacts c_is_name c_rises), PySem.W.mg_of X G a_check_facts, k_check_facts, b_check_facts⟩
    have c_check_part : Cal l.prog w K mg base (L2.CX l.prog w) 3 "check_part" ["part", "names", "before"] (sp_check_part K E1) := ⟨_, _, (ok_check_part F_check_part B ⟨_, PySem.W.mg_of X G m_MOST_NAMES⟩ e_InvalidCondition c_is_name c_rises), PySem.W.mg_of X G a_check_part, k_check_part, b_check_part⟩
    have c_merged : Cal l.prog w K mg base CX0 1 "merged" ["names", "others"] (sp_merged K) := ⟨_, _, (ok_merged F_merged B), PySem.W.mg_of X G a_merged, k_merged, b_merged⟩
    have pc_mh : PropC l.prog w K mg base CO pp_mh f_mh _ "holding" "_holding" := ⟨⟨pa_mh, pg_mh, pt_mh, ⟨_, pr_mh⟩⟩, ok_holding F_mh CLc co_n1, b_mh⟩
    have pc_mf : PropC l.prog w K mg base CO pp_mf f_mf _ "failing" "_failing" := ⟨⟨pa_mf, pg_mf, pt_mf, ⟨_, pr_mf⟩⟩, ok_failing F_mf CLc co_n2, b_mf⟩
    have pc_mn : PropC l.prog w K mg base CO pp_mn f_mn _ "names" "_names" := ⟨⟨pa_mn, pg_mn, pt_mn, ⟨_, pr_mn⟩⟩, ok_cnames F_mn CLc co_n3, b_mn⟩
    have pc_rn : PropC l.prog w K mg base RO pp_rn f_rn _ "name" "_name" := ⟨⟨pa_rn, pg_rn, pt_rn, ⟨_, pr_rn⟩⟩, ok_Rule_name F_rn CLr ro_n1, b_rn⟩
    have pc_rc : PropC l.prog w K mg base RO pp_rc f_rc _ "condition" "_condition" := ⟨⟨pa_rc, pg_rc, pt_rc, ⟨_, pr_rc⟩⟩, ok_Rule_condition F_rc CLr ro_n2, b_rc⟩
    have pc_rr : PropC l.prog w K mg base RO pp_rr f_rr _ "ruling" "_ruling" := ⟨⟨pa_rr, pg_rr, pt_rr, ⟨_, pr_rr⟩⟩, ok_Rule_ruling F_rr CLr ro_n3, b_rr⟩
    have pc_re : PropC l.prog w K mg base RO pp_re f_re _ "exceptions" "_exceptions" := ⟨⟨pa_re, pg_re, pt_re, ⟨_, pr_re⟩⟩, ok_Rule_exceptions F_re CLr ro_n4, b_re⟩
    have pc_rd : PropC l.prog w K mg base RO pp_rd f_rd _ "depth" "_depth" := ⟨⟨pa_rd, pg_rd, pt_rd, ⟨_, pr_rd⟩⟩, ok_Rule_depth F_rd CLr ro_n5, b_rd⟩
    have pc_bf : PropC l.prog w K mg base BO pp_bf f_bf _ "facts" "_facts" := ⟨⟨pa_bf, pg_bf, pt_bf, ⟨_, pr_bf⟩⟩, ok_Book_facts F_bf CLb bo_n1, b_bf⟩
    have pc_bs : PropC l.prog w K mg base BO pp_bs f_bs _ "rules" "_rules" := ⟨⟨pa_bs, pg_bs, pt_bs, ⟨_, pr_bs⟩⟩, ok_Book_rules F_bs CLb bo_n2, b_bs⟩
    have pc_br : PropC l.prog w K mg base BO pp_br f_br _ "ruling" "_ruling" := ⟨⟨pa_br, pg_br, pt_br, ⟨_, pr_br⟩⟩, ok_Book_ruling F_br CLb bo_n3, b_br⟩
    have kK : CondG l.prog w K mg base CO := ⟨CLc, ⟨_, _, _, pc_mh⟩, ⟨_, _, _, pc_mf⟩, ⟨_, _, _, pc_mn⟩⟩
    have kR : RuleX l.prog w K mg base RO := ⟨CLr, ⟨_, _, _, pc_rn⟩, ⟨_, _, _, pc_rc⟩, ⟨_, _, _, pc_rr⟩, ⟨_, _, _, pc_re⟩, ⟨_, _, _, pc_rd⟩⟩
    have kB : BookX l.prog w K mg base BO := ⟨CLb, ⟨_, _, _, pc_bf⟩, ⟨_, _, _, pc_bs⟩, ⟨_, _, _, pc_br⟩⟩
    have c_nested : Cal l.prog w K mg base CX0 15 "nested" ["rules", "around"] (sp_nested K CO RO 12) := ⟨_, _, rec_all (S := sp_nested K CO RO) (k := 2) (fun d c => ok_nested F_nested kR c) (PySem.W.mg_of X G a_nested) k_nested b_nested 12, PySem.W.mg_of X G a_nested, k_nested, b_nested⟩
    have c_check_rules : Cal l.prog w K mg base (L2.CX l.prog w) 16 "check_rules" ["facts", "rules"] (sp_check_rules K CO RO E3) := ⟨_, _, (ok_check_rules F_check_rules B kR kK (PySem.W.mg_of X G m_MOST_AROUND) (PySem.W.mg_of X G m_MOST_RULES) (PySem.W.mg_of X G m_MOST_OUTERMOST) e_InvalidBook c_nested), PySem.W.mg_of X G a_check_rules, k_check_rules, b_check_rules⟩
    have kM : Mkr l.prog w K mg base 4 "Condition" CO ["self", "holding", "failing"] (sp_cond_init K CO E1) := ⟨_, _, ⟨co_mk, co_in, co_fn, co_kp⟩, ok_cond_init F_mi B CLc co_n1 co_n2 co_n3 c_check_part c_merged, PySem.W.mg_of X G co, b_mi⟩
    have kRM : Mkr l.prog w K mg base 16 "Rule" RO ["self", "name", "condition", "ruling", "exceptions"] (sp_rule_init K CO RO E2) := ⟨_, _, ⟨ro_mk, ro_in, ro_fn, ro_kp⟩, ok_rule_init F_ri B CLr ro_n1 ro_n2 ro_n3 ro_n4 ro_n5 ro_n6 kR e_InvalidRule c_is_name c_nested, PySem.W.mg_of X G ro, b_ri⟩
    have kBM : Mkr l.prog w K mg base 17 "Book" BO ["self", "facts", "rules", "ruling"] (sp_book_init K CO RO BO E0 E3) := ⟨_, _, ⟨bo_mk, bo_in, bo_fn, bo_kp⟩, ok_book_init F_bi B CLb bo_n1 bo_n2 bo_n3 bo_n4 e_InvalidBook c_is_name c_nested c_check_facts c_check_rules, PySem.W.mg_of X G bo, b_bi⟩
    have c__law_mix : Cal l.prog w K mg base CX0 1 "_law_mix" ["_law_script", "_law_seed"] (sp_mix K) := ⟨_, _, (ok_mix F__law_mix B), PySem.W.mg_of X G a__law_mix, k__law_mix, b__law_mix⟩
    have c__law_next : Cal l.prog w K mg base CX0 1 "_law_next" ["_law_h", "_law_limit"] (sp_next) := ⟨_, _, (ok_next F__law_next B), PySem.W.mg_of X G a__law_next, k__law_next, b__law_next⟩
    have c__law_facts : Cal l.prog w K mg base CX0 2 "_law_facts" ["_law_h", "_law_most"] (sp_facts) := ⟨_, _, (ok_facts F__law_facts B c__law_next), PySem.W.mg_of X G a__law_facts, k__law_facts, b__law_facts⟩
    have c__law_sides : Cal l.prog w K mg base CX0 2 "_law_sides" ["_law_h", "_law_facts_here", "_law_most"] (sp_sides K) := ⟨_, _, (ok_sides F__law_sides B c__law_next), PySem.W.mg_of X G a__law_sides, k__law_sides, b__law_sides⟩
    have c__law_rule : Cal l.prog w K mg base CX0 5 "_law_rule" ["_law_h", "_law_facts_here", "_law_names", "_law_deep"] (sp_rule2 K 2) := ⟨_, _, rec_all (S := sp_rule2 K) (k := 2) (fun d c => ok_rule2 F__law_rule B c__law_next c__law_sides c) (PySem.W.mg_of X G a__law_rule) k__law_rule b__law_rule 2, PySem.W.mg_of X G a__law_rule, k__law_rule, b__law_rule⟩
    have c__law_drawn : Cal l.prog w K mg base CX0 6 "_law_drawn" ["_law_h", "_law_facts_here", "_law_most"] (sp_drawn K) := ⟨_, _, (ok_drawn F__law_drawn B c__law_next c__law_rule), PySem.W.mg_of X G a__law_drawn, k__law_drawn, b__law_drawn⟩
    have c__law_made : Cal l.prog w K mg base CX0 30 "_law_made" ["_law_rules"] (sp_made K CO RO 12) := ⟨_, _, rec_all (S := sp_made K CO RO) (k := 17) (fun d c => ok_made F__law_made B kM kRM c) (PySem.W.mg_of X G a__law_made) k__law_made b__law_made 12, PySem.W.mg_of X G a__law_made, k__law_made, b__law_made⟩
    have c__law_book : Cal l.prog w K mg base CX0 31 "_law_book" ["_law_drawn_here"] (sp_book2 K CO RO BO) := ⟨_, _, (ok_book2 F__law_book B kBM c__law_made), PySem.W.mg_of X G a__law_book, k__law_book, b__law_book⟩
    have c__law_told : Cal l.prog w K mg base CX0 16 "_law_told" ["_law_rules"] (sp_told K CO RO 12) := ⟨_, _, rec_all (S := sp_told K CO RO) (k := 3) (fun d c => ok_told F__law_told B kR kK c) (PySem.W.mg_of X G a__law_told) k__law_told b__law_told 12, PySem.W.mg_of X G a__law_told, k__law_told, b__law_told⟩
    have c__law_seen : Cal l.prog w K mg base CX0 17 "_law_seen" ["_law_book_here"] (sp_seen K CO RO BO) := ⟨_, _, (ok_seen F__law_seen B kB c__law_told), PySem.W.mg_of X G a__law_seen, k__law_seen, b__law_seen⟩
    have c__law_all : Cal l.prog w K mg base CX0 14 "_law_all" ["_law_rules"] (sp_all K 12) := ⟨_, _, rec_all (S := sp_all K) (k := 1) (fun d c => ok_all F__law_all B c) (PySem.W.mg_of X G a__law_all) k__law_all b__law_all 12, PySem.W.mg_of X G a__law_all, k__law_all, b__law_all⟩
    have c__law_season : Cal l.prog w K mg base CX0 14 "_law_season" ["_law_rules", "_law_spans_here", "_law_day"] (sp_season K 12) := ⟨_, _, rec_all (S := sp_season K) (k := 1) (fun d c => ok_season F__law_season B c) (PySem.W.mg_of X G a__law_season) k__law_season b__law_season 12, PySem.W.mg_of X G a__law_season, k__law_season, b__law_season⟩
    have c__law_spans : Cal l.prog w K mg base CX0 15 "_law_spans" ["_law_h", "_law_drawn_here"] (sp_spans K) := ⟨_, _, (ok_spans F__law_spans B c__law_next c__law_all), PySem.W.mg_of X G a__law_spans, k__law_spans, b__law_spans⟩
    have c__law_period : Cal l.prog w K mg base CX0 1 "_law_period" ["_law_spans_here"] (sp_period K) := ⟨_, _, (ok_period F__law_period B), PySem.W.mg_of X G a__law_period, k__law_period, b__law_period⟩
    have ICc : IsiC K CO := ⟨co_ca, sg, tk, co_ob, kit_by co_ss co_cl co_ty co_ss⟩
    have ICr : IsiC K RO := ⟨ro_ca, sg, tk, ro_ob, kit_by ro_ss ro_cl ro_ty ro_ss⟩
    have ICb : IsiC K BO := ⟨bo_ca, sg, tk, bo_ob, kit_by bo_ss bo_cl bo_ty bo_ss⟩
    have c_replaced : Cal l.prog w K mg base CX0 30 "replaced" ["rules", "name", "others"] (sp_replaced K CO RO 12) := ⟨_, _, rec_all (S := sp_replaced K CO RO) (k := 17) (fun d c => ok_replaced F_replaced B kR kRM c) (PySem.W.mg_of X G a_replaced) k_replaced b_replaced 12, PySem.W.mg_of X G a_replaced, k_replaced, b_replaced⟩
    have mCon : MethO l.prog w K mg base CX0 3 BO "__contains__" ["self", "name"] (sp_contains K CO RO BO) := ⟨_, _, at_gc, fn_gc, fi_gc, ok_contains F_gc B CLb bo_n4 kR, b_gc⟩
    have mSub : MethO l.prog w K mg base (L2.CX l.prog w) 32 BO "__sub__" ["self", "name"] (sp_sub K CO RO BO E3 E4) := ⟨_, _, at_gs, fn_gs, fi_gs, ok_sub F_gs B CLb bo_n1 bo_n2 bo_n3 kBM mCon c_replaced e_UnknownRule, b_gs⟩
    have bT : BinT K BO .Sub := ⟨bo_sf, ⟨_, bo_rs, .inl rfl⟩, ⟨_, st_s⟩, ⟨_, st_r⟩, bo_bstr⟩
    have fR := ruleEq_all (P := l.prog) (w := w) (base := base) (C := CO) F_er B CLr ro_n1 ro_n2 ro_n3 ro_n4 (PySem.W.mg_of X G ro) ICr at_ec fn_ec (ok_ceq F_ec B CLc co_n1 co_n2 (PySem.W.mg_of X G co) ICc) b_ec at_er fn_er b_er 12
    have mBe : EqO l.prog w K mg base 29 BO (sp_beq K CO RO BO) := ⟨⟨_, _, at_eb, fn_eb, ok_beq F_eb B CLb bo_n1 bo_n2 bo_n3 (PySem.W.mg_of X G bo) ICb at_er fn_er b_er fR, b_eb⟩, bo_ob, bo_ne⟩
    have c_is_day : Cal l.prog w K mg base CX0 2 "is_day" ["value"] (sp_is_day) := ⟨_, _, (ok_is_day F_is_day (PySem.W.mg_of X G m_LAST_DAY) c_is_integer), PySem.W.mg_of X G a_is_day, k_is_day, b_is_day⟩
    have c_check_day : Cal l.prog w K mg base CX0 3 "check_day" ["value"] (sp_check_day) := ⟨_, _, (ok_check_day F_check_day c_is_day), PySem.W.mg_of X G a_check_day, k_check_day, b_check_day⟩
    have c_is_span : Cal l.prog w K mg base CX0 2 "is_span" ["value"] (sp_is_span K) := ⟨_, _, (ok_is_span F_is_span B (PySem.W.mg_of X G m_LONGEST_SPAN) c_is_integer), PySem.W.mg_of X G a_is_span, k_is_span, b_is_span⟩
    have c_in_span : Cal l.prog w K mg base CX0 1 "in_span" ["span", "day"] (sp_in_span K) := ⟨_, _, (ok_in_span F_in_span ), PySem.W.mg_of X G a_in_span, k_in_span, b_in_span⟩
    have c_check_spans : Cal l.prog w K mg base CX0 4 "check_spans" ["book", "spans"] (sp_check_spans K CO RO BO) := ⟨_, _, (ok_check_spans F_check_spans B mCon c_is_span), PySem.W.mg_of X G a_check_spans, k_check_spans, b_check_spans⟩
    have kY : Mkr0 l.prog w K mg base 5 "Seasons" SE ["self", "book", "spans"] (sp_seaInit K CO RO BO SE) := ⟨_, _, ⟨yo_mk, yo_in, yo_fn, yo_kp⟩, ok_seaInit F_yi B CLy yo_n1 yo_n2 yo_n3 (PySem.W.mg_of X G m_lcm) c_check_spans, PySem.W.mg_of X G yo, b_yi⟩
    have mPer : PropM l.prog w K mg base SE "period" 1 (sp_seaPeriod K CO RO BO SE) := ⟨_, _, _, ⟨pa_yp, pg_yp, pt_yp, ⟨_, pr_yp⟩⟩, ok_seaPeriod F_yp CLy yo_n3, b_yp⟩
    have mCall : MethO l.prog w K mg base CX0 33 SE "__call__" ["self", "day"] (sp_seaCall K CO RO BO SE) := ⟨_, _, at_yc, fn_yc, fi_yc, ok_seaCall F_yc B CLy yo_n1 yo_n2 c_check_day c_in_span mCon mSub bT, b_yc⟩
    have c__law_alike : Cal l.prog w K mg base CX0 30 "_law_alike" ["_law_found", "_law_due"] (sp_alikeT K 29) := ⟨_, _, alikeT_all F__law_alike B (PySem.W.mg_of X G a__law_alike) k__law_alike b__law_alike 29, PySem.W.mg_of X G a__law_alike, k__law_alike, b__law_alike⟩
    exact ok_law (fun_mk (st := s_law) l_law c_law k_law) B CLy c__law_mix c__law_next c__law_facts c__law_drawn c__law_spans c__law_season c__law_period c__law_book c__law_seen kY mPer mCall mBe c__law_alike
end Sc
/-! the head's facts read by a Hook of one's own: functions by address, all else by one Bool -/
namespace Sc
open PySem PySem.Spec PyProof.Rows L2 HeadY He
theorem all_y {w : World} {K : PySem.W.Frag} {h : Heap} {mg : Str → Option Value} {fa : Addr} (X : K.In h) (G : h.Ns mainGlobals mg) (hfa : mg "law" = some (.ref fa)) (S : SaysY fnL tfL exB h K) : LamX.LawAtS theLaw w K CX0 34 63 "_law_script" mg fa h := by
  obtain ⟨_, _, _, _, _, _, _, _, l_is_name, y_l_is_name⟩ := fn_ok (S.fn 0 rfl) (gx0 S).2.1
  obtain ⟨_, _, _, _, _, _, _, _, l_is_integer, y_l_is_integer⟩ := fn_ok (S.fn 1 rfl) (gx0 S).2.2.2.2.1
  obtain ⟨_, _, _, _, _, _, _, _, l_rises, y_l_rises⟩ := fn_ok (S.fn 2 rfl) (gx0 S).2.2.2.2.2.2.2.1
  obtain ⟨_, _, _, _, _, _, _, _, l_check_facts, y_l_check_facts⟩ := fn_ok (S.fn 3 rfl) (gx0 S).2.2.2.2.2.2.2.2.2.2.1
  obtain ⟨_, _, _, _, _, _, _, _, l_nested, y_l_nested⟩ := fn_ok (S.fn 4 rfl) (gx1 S).2.1
  obtain ⟨_, _, _, _, _, _, _, _, l_check_rules, y_l_check_rules⟩ := fn_ok (S.fn 5 rfl) (gx1 S).2.2.2.2.1
  obtain ⟨_, _, _, _, _, _, _, _, l_check_part, y_l_check_part⟩ := fn_ok (S.fn 6 rfl) (gx1 S).2.2.2.2.2.2.2.1
  obtain ⟨_, _, _, _, _, _, _, _, l_merged, y_l_merged⟩ := fn_ok (S.fn 7 rfl) (gx1 S).2.2.2.2.2.2.2.2.2.2.1
  obtain ⟨_, _, _, _, _, _, _, _, l_replaced, y_l_replaced⟩ := fn_ok (S.fn 8 rfl) (gx2 S).2.1
  obtain ⟨_, _, _, _, _, _, _, _, l_is_day, y_l_is_day⟩ := fn_ok (S.fn 9 rfl) (gx2 S).2.2.2.2.1
  obtain ⟨_, _, _, _, _, _, _, _, l_check_day, y_l_check_day⟩ := fn_ok (S.fn 10 rfl) (gx2 S).2.2.2.2.2.2.2.1
  obtain ⟨_, _, _, _, _, _, _, _, l_is_span, y_l_is_span⟩ := fn_ok (S.fn 11 rfl) (gx2 S).2.2.2.2.2.2.2.2.2.2.1
  obtain ⟨_, _, _, _, _, _, _, _, l_in_span, y_l_in_span⟩ := fn_ok (S.fn 12 rfl) (gx3 S).2.1
  obtain ⟨_, _, _, _, _, _, _, _, l_check_spans, y_l_check_spans⟩ := fn_ok (S.fn 13 rfl) (gx3 S).2.2.2.2.1
  obtain ⟨_, _, _, _, _, _, _, _, l__law_mix, y_l__law_mix⟩ := fn_ok (S.fn 14 rfl) (gx3 S).2.2.2.2.2.2.2.1
  obtain ⟨_, _, _, _, _, _, _, _, l__law_next, y_l__law_next⟩ := fn_ok (S.fn 15 rfl) (gx3 S).2.2.2.2.2.2.2.2.2.2.1
  obtain ⟨_, _, _, _, _, _, _, _, l__law_alike, y_l__law_alike⟩ := fn_ok (S.fn 16 rfl) (gx4 S).2.1
  obtain ⟨_, _, _, _, _, _, _, _, l__law_facts, y_l__law_facts⟩ := fn_ok (S.fn 17 rfl) (gx4 S).2.2.2.2.1
  obtain ⟨_, _, _, _, _, _, _, _, l__law_sides, y_l__law_sides⟩ := fn_ok (S.fn 18 rfl) (gx4 S).2.2.2.2.2.2.2.1
  obtain ⟨_, _, _, _, _, _, _, _, l__law_rule, y_l__law_rule⟩ := fn_ok (S.fn 19 rfl) (gx4 S).2.2.2.2.2.2.2.2.2.2.1
  obtain ⟨_, _, _, _, _, _, _, _, l__law_drawn, y_l__law_drawn⟩ := fn_ok (S.fn 20 rfl) (gx5 S).2.1
  obtain ⟨_, _, _, _, _, _, _, _, l__law_made, y_l__law_made⟩ := fn_ok (S.fn 21 rfl) (gx5 S).2.2.2.2.1
  obtain ⟨_, _, _, _, _, _, _, _, l__law_book, y_l__law_book⟩ := fn_ok (S.fn 22 rfl) (gx5 S).2.2.2.2.2.2.2.1
  obtain ⟨_, _, _, _, _, _, _, _, l__law_told, y_l__law_told⟩ := fn_ok (S.fn 23 rfl) (gx5 S).2.2.2.2.2.2.2.2.2.2.1
  obtain ⟨_, _, _, _, _, _, _, _, l__law_seen, y_l__law_seen⟩ := fn_ok (S.fn 24 rfl) (gx6 S).2.1
  obtain ⟨_, _, _, _, _, _, _, _, l__law_all, y_l__law_all⟩ := fn_ok (S.fn 25 rfl) (gx6 S).2.2.2.2.1
  obtain ⟨_, _, _, _, _, _, _, _, l__law_spans, y_l__law_spans⟩ := fn_ok (S.fn 26 rfl) (gx6 S).2.2.2.2.2.2.2.1
  obtain ⟨_, _, _, _, _, _, _, _, l__law_season, y_l__law_season⟩ := fn_ok (S.fn 27 rfl) (gx6 S).2.2.2.2.2.2.2.2.2.2.1
  obtain ⟨_, _, _, _, _, _, _, _, l__law_period, y_l__law_period⟩ := fn_ok (S.fn 28 rfl) (gx7 S).2.1
  obtain ⟨_, _, _, _, _, _, _, _, l_law, y_l_law⟩ := fn_ok (S.fn 29 rfl) (gx7 S).2.2.2.2.1
  obtain ⟨_, pr_mh⟩ := rec_is (gx8 S).2.2.2.2.2.2.2.2.2.1
  obtain ⟨_, pr_mf⟩ := rec_is (gx9 S).2.1
  obtain ⟨_, pr_mn⟩ := rec_is (gx9 S).2.2.2.2.2.1
  obtain ⟨_, pr_rn⟩ := rec_is (gx11 S).1
  obtain ⟨_, pr_rc⟩ := rec_is (gx11 S).2.2.2.2.1
  obtain ⟨_, pr_rr⟩ := rec_is (gx11 S).2.2.2.2.2.2.2.2.1
  obtain ⟨_, pr_re⟩ := rec_is (gx12 S).1
  obtain ⟨_, pr_rd⟩ := rec_is (gx12 S).2.2.2.2.1
  obtain ⟨_, pr_bf⟩ := rec_is (gx13 S).2.2.2.2.2.2.2.2.2.1
  obtain ⟨_, pr_bs⟩ := rec_is (gx14 S).2.1
  obtain ⟨_, pr_br⟩ := rec_is (gx14 S).2.2.2.2.2.1
  obtain ⟨_, pr_yp⟩ := rec_is (gx15 S).2.2.2.2.2.2.2.2.2.1
  obtain ⟨_, st_s⟩ := some_is (gx18 S).2.2.2.2.2.2.1
  obtain ⟨_, st_r⟩ := some_is (gx18 S).2.2.2.2.2.2.2.1
  obtain ⟨_, _, _, _, _, _, _, _, l_mi, y_l_mi⟩ := fn_ok (S.fn 30 rfl) (gx18 S).2.2.2.2.2.2.2.2.2.2.2
  obtain ⟨_, _, _, _, _, _, _, _, l_mh, y_l_mh⟩ := fn_ok (S.fn 31 rfl) (gx19 S).2.1
  obtain ⟨_, _, _, _, _, _, _, _, l_mf, y_l_mf⟩ := fn_ok (S.fn 32 rfl) (gx19 S).2.2.2.1
  obtain ⟨_, _, _, _, _, _, _, _, l_mn, y_l_mn⟩ := fn_ok (S.fn 33 rfl) (gx19 S).2.2.2.2.2.1
  obtain ⟨_, _, _, _, _, _, _, _, l_ri, y_l_ri⟩ := fn_ok (S.fn 34 rfl) (gx19 S).2.2.2.2.2.2.2.1
  obtain ⟨_, _, _, _, _, _, _, _, l_rn, y_l_rn⟩ := fn_ok (S.fn 35 rfl) (gx19 S).2.2.2.2.2.2.2.2.2.1
  obtain ⟨_, _, _, _, _, _, _, _, l_rc, y_l_rc⟩ := fn_ok (S.fn 36 rfl) (gx19 S).2.2.2.2.2.2.2.2.2.2.2
  obtain ⟨_, _, _, _, _, _, _, _, l_rr, y_l_rr⟩ := fn_ok (S.fn 37 rfl) (gx20 S).2.1
  obtain ⟨_, _, _, _, _, _, _, _, l_re, y_l_re⟩ := fn_ok (S.fn 38 rfl) (gx20 S).2.2.2.1
  obtain ⟨_, _, _, _, _, _, _, _, l_rd, y_l_rd⟩ := fn_ok (S.fn 39 rfl) (gx20 S).2.2.2.2.2.1
  obtain ⟨_, _, _, _, _, _, _, _, l_bi, y_l_bi⟩ := fn_ok (S.fn 40 rfl) (gx20 S).2.2.2.2.2.2.2.1
  obtain ⟨_, _, _, _, _, _, _, _, l_bf, y_l_bf⟩ := fn_ok (S.fn 41 rfl) (gx20 S).2.2.2.2.2.2.2.2.2.1
  obtain ⟨_, _, _, _, _, _, _, _, l_bs, y_l_bs⟩ := fn_ok (S.fn 42 rfl) (gx20 S).2.2.2.2.2.2.2.2.2.2.2
  obtain ⟨_, _, _, _, _, _, _, _, l_br, y_l_br⟩ := fn_ok (S.fn 43 rfl) (gx21 S).2.1
  obtain ⟨_, _, _, _, _, _, _, _, l_yi, y_l_yi⟩ := fn_ok (S.fn 44 rfl) (gx21 S).2.2.2.1
  obtain ⟨_, _, _, _, _, _, _, _, l_yp, y_l_yp⟩ := fn_ok (S.fn 45 rfl) (gx21 S).2.2.2.2.2.1
  obtain ⟨_, _, _, _, _, _, _, _, l_gc, y_l_gc⟩ := fn_ok (S.fn 46 rfl) (gx21 S).2.2.2.2.2.2.2.1
  obtain ⟨_, _, _, _, _, _, _, _, l_gs, y_l_gs⟩ := fn_ok (S.fn 47 rfl) (gx21 S).2.2.2.2.2.2.2.2.2.1
  obtain ⟨_, _, _, _, _, _, _, _, l_eb, y_l_eb⟩ := fn_ok (S.fn 48 rfl) (gx21 S).2.2.2.2.2.2.2.2.2.2.2
  obtain ⟨_, _, _, _, _, _, _, _, l_er, y_l_er⟩ := fn_ok (S.fn 49 rfl) (gx22 S).2.1
  obtain ⟨_, _, _, _, _, _, _, _, l_ec, y_l_ec⟩ := fn_ok (S.fn 50 rfl) (gx22 S).2.2.2.1
  obtain ⟨_, _, _, _, _, _, _, _, l_yc, y_l_yc⟩ := fn_ok (S.fn 51 rfl) (gx22 S).2.2.2.2.2.1
  obtain ⟨_, m_LETTERS⟩ := str_is (gx24 S).2.2.2.1
  obtain ⟨_, m_LONGEST_NAME⟩ := int_is (gx24 S).2.2.2.2.1
  obtain ⟨_, m_MOST_FACTS⟩ := int_is (gx24 S).2.2.2.2.2.1
  obtain ⟨_, m_MOST_NAMES⟩ := int_is (gx24 S).2.2.2.2.2.2.1
  obtain ⟨_, m_MOST_AROUND⟩ := int_is (gx24 S).2.2.2.2.2.2.2.1
  obtain ⟨_, m_MOST_RULES⟩ := int_is (gx24 S).2.2.2.2.2.2.2.2.1
  obtain ⟨_, m_MOST_OUTERMOST⟩ := int_is (gx24 S).2.2.2.2.2.2.2.2.2.1
  obtain ⟨_, m_LAST_DAY⟩ := int_is (gx24 S).2.2.2.2.2.2.2.2.2.2.1
  obtain ⟨_, m_LONGEST_SPAN⟩ := int_is (gx24 S).2.2.2.2.2.2.2.2.2.2.2
  obtain ⟨_, _, _, _, _, _, _, _, _, _, _, _, _, _, x_E⟩ := exc_is (gx26 S).2.2.2.2.2.2.2.2.2.1
  obtain ⟨_, _, _, _, _, _, _, _, _, _, _, _, _, _, i0_x⟩ := exc_is (gx27 S).2.1
  obtain ⟨_, _, _, _, _, _, _, _, i0_lI, y_i0_lI⟩ := fn_okC (S.fn 52 rfl) (gx27 S).2.2.2.2.2.2.2.2.1
  obtain ⟨_, _, _, i0_ce⟩ := cell_is (gx27 S).2.2.2.2.2.2.2.2.2.1
  obtain ⟨_, _, _, _, _, _, i0_co, i0_fi, i0_fe⟩ := file_is (gx27 S).2.2.2.2.2.2.2.2.2.2.1
  obtain ⟨_, _, _, _, _, _, _, _, _, _, _, _, _, _, i1_x⟩ := exc_is (gx28 S).2.2.2.2.1
  obtain ⟨_, _, _, _, _, _, _, _, i1_lI, y_i1_lI⟩ := fn_okC (S.fn 53 rfl) (gx28 S).2.2.2.2.2.2.2.2.2.2.2
  obtain ⟨_, _, _, i1_ce⟩ := cell_is (gx29 S).1
  obtain ⟨_, _, _, _, _, _, i1_co, i1_fi, i1_fe⟩ := file_is (gx29 S).2.1
  obtain ⟨_, _, _, _, _, _, _, _, _, _, _, _, _, _, i2_x⟩ := exc_is (gx29 S).2.2.2.2.2.2.2.2.1
  obtain ⟨_, _, _, _, _, _, _, _, i2_lI, y_i2_lI⟩ := fn_okC (S.fn 54 rfl) (gx30 S).2.2.2.1
  obtain ⟨_, _, _, i2_ce⟩ := cell_is (gx30 S).2.2.2.2.1
  obtain ⟨_, _, _, _, _, _, i2_co, i2_fi, i2_fe⟩ := file_is (gx30 S).2.2.2.2.2.1
  obtain ⟨_, _, _, _, _, _, _, _, _, _, _, _, _, _, i3_x⟩ := exc_is (gx30 S).2.2.2.2.2.2.2.2.2.2.2
  obtain ⟨_, _, _, _, _, _, _, _, i3_lI, y_i3_lI⟩ := fn_okC (S.fn 55 rfl) (gx31 S).2.2.2.2.2.2.1
  obtain ⟨_, _, _, i3_ce⟩ := cell_is (gx31 S).2.2.2.2.2.2.2.1
  obtain ⟨_, _, _, _, _, _, i3_co, i3_fi, i3_fe⟩ := file_is (gx31 S).2.2.2.2.2.2.2.2.1
  exact all_mk (l := theLaw) (P := theRow.prog) (celi0 := (Ad_celi0 K)) (codi0 := (Ad_codi0 K)) (celi1 := (Ad_celi1 K)) (codi1 := (Ad_codi1 K)) (celi2 := (Ad_celi2 K)) (codi2 := (Ad_codi2 K)) (celi3 := (Ad_celi3 K)) (codi3 := (Ad_codi3 K))  rfl X G hfa (gx0 S).1 l_is_name y_l_is_name (gx0 S).2.2.1 (gx0 S).2.2.2.1 l_is_integer y_l_is_integer (gx0 S).2.2.2.2.2.1 (gx0 S).2.2.2.2.2.2.1 l_rises y_l_rises (gx0 S).2.2.2.2.2.2.2.2.1 (gx0 S).2.2.2.2.2.2.2.2.2.1 l_check_facts y_l_check_facts (gx0 S).2.2.2.2.2.2.2.2.2.2.2 (gx1 S).1 l_nested y_l_nested (gx1 S).2.2.1 (gx1 S).2.2.2.1 l_check_rules y_l_check_rules (gx1 S).2.2.2.2.2.1 (gx1 S).2.2.2.2.2.2.1 l_check_part y_l_check_part (gx1 S).2.2.2.2.2.2.2.2.1 (gx1 S).2.2.2.2.2.2.2.2.2.1 l_merged y_l_merged (gx1 S).2.2.2.2.2.2.2.2.2.2.2 (gx2 S).1 l_replaced y_l_replaced (gx2 S).2.2.1 (gx2 S).2.2.2.1 l_is_day y_l_is_day (gx2 S).2.2.2.2.2.1 (gx2 S).2.2.2.2.2.2.1 l_check_day y_l_check_day (gx2 S).2.2.2.2.2.2.2.2.1 (gx2 S).2.2.2.2.2.2.2.2.2.1 l_is_span y_l_is_span (gx2 S).2.2.2.2.2.2.2.2.2.2.2 (gx3 S).1 l_in_span y_l_in_span (gx3 S).2.2.1 (gx3 S).2.2.2.1 l_check_spans y_l_check_spans (gx3 S).2.2.2.2.2.1 (gx3 S).2.2.2.2.2.2.1 l__law_mix y_l__law_mix (gx3 S).2.2.2.2.2.2.2.2.1 (gx3 S).2.2.2.2.2.2.2.2.2.1 l__law_next y_l__law_next (gx3 S).2.2.2.2.2.2.2.2.2.2.2 (gx4 S).1 l__law_alike y_l__law_alike (gx4 S).2.2.1 (gx4 S).2.2.2.1 l__law_facts y_l__law_facts (gx4 S).2.2.2.2.2.1 (gx4 S).2.2.2.2.2.2.1 l__law_sides y_l__law_sides (gx4 S).2.2.2.2.2.2.2.2.1 (gx4 S).2.2.2.2.2.2.2.2.2.1 l__law_rule y_l__law_rule (gx4 S).2.2.2.2.2.2.2.2.2.2.2 (gx5 S).1 l__law_drawn y_l__law_drawn (gx5 S).2.2.1 (gx5 S).2.2.2.1 l__law_made y_l__law_made (gx5 S).2.2.2.2.2.1 (gx5 S).2.2.2.2.2.2.1 l__law_book y_l__law_book (gx5 S).2.2.2.2.2.2.2.2.1 (gx5 S).2.2.2.2.2.2.2.2.2.1 l__law_told y_l__law_told (gx5 S).2.2.2.2.2.2.2.2.2.2.2 (gx6 S).1 l__law_seen y_l__law_seen (gx6 S).2.2.1 (gx6 S).2.2.2.1 l__law_all y_l__law_all (gx6 S).2.2.2.2.2.1 (gx6 S).2.2.2.2.2.2.1 l__law_spans y_l__law_spans (gx6 S).2.2.2.2.2.2.2.2.1 (gx6 S).2.2.2.2.2.2.2.2.2.1 l__law_season y_l__law_season (gx6 S).2.2.2.2.2.2.2.2.2.2.2 (gx7 S).1 l__law_period y_l__law_period (gx7 S).2.2.1 (gx7 S).2.2.2.1 l_law y_l_law (gx7 S).2.2.2.2.2.1 (gx7 S).2.2.2.2.2.2.1 (gx7 S).2.2.2.2.2.2.2.1 (gx7 S).2.2.2.2.2.2.2.2.1 (gx7 S).2.2.2.2.2.2.2.2.2.1 (gx7 S).2.2.2.2.2.2.2.2.2.2.1 (gx7 S).2.2.2.2.2.2.2.2.2.2.2 (gx8 S).1 (gx8 S).2.1 (gx8 S).2.2.1 (gx8 S).2.2.2.1 (gx8 S).2.2.2.2.1 (gx8 S).2.2.2.2.2.1 (gx8 S).2.2.2.2.2.2.1 (gx8 S).2.2.2.2.2.2.2.1 (gx8 S).2.2.2.2.2.2.2.2.1 pr_mh (gx8 S).2.2.2.2.2.2.2.2.2.2.1 (gx8 S).2.2.2.2.2.2.2.2.2.2.2 (gx9 S).1 pr_mf (gx9 S).2.2.1 (gx9 S).2.2.2.1 (gx9 S).2.2.2.2.1 pr_mn (gx9 S).2.2.2.2.2.2.1 (gx9 S).2.2.2.2.2.2.2.1 (gx9 S).2.2.2.2.2.2.2.2.1 (gx9 S).2.2.2.2.2.2.2.2.2.1 (gx9 S).2.2.2.2.2.2.2.2.2.2.1 (gx9 S).2.2.2.2.2.2.2.2.2.2.2 (gx10 S).1 (gx10 S).2.1 (gx10 S).2.2.1 (gx10 S).2.2.2.1 (gx10 S).2.2.2.2.1 (gx10 S).2.2.2.2.2.1 (gx10 S).2.2.2.2.2.2.1 (gx10 S).2.2.2.2.2.2.2.1 (gx10 S).2.2.2.2.2.2.2.2.1 (gx10 S).2.2.2.2.2.2.2.2.2.1 (gx10 S).2.2.2.2.2.2.2.2.2.2.1 (gx10 S).2.2.2.2.2.2.2.2.2.2.2 pr_rn (gx11 S).2.1 (gx11 S).2.2.1 (gx11 S).2.2.2.1 pr_rc (gx11 S).2.2.2.2.2.1 (gx11 S).2.2.2.2.2.2.1 (gx11 S).2.2.2.2.2.2.2.1 pr_rr (gx11 S).2.2.2.2.2.2.2.2.2.1 (gx11 S).2.2.2.2.2.2.2.2.2.2.1 (gx11 S).2.2.2.2.2.2.2.2.2.2.2 pr_re (gx12 S).2.1 (gx12 S).2.2.1 (gx12 S).2.2.2.1 pr_rd (gx12 S).2.2.2.2.2.1 (gx12 S).2.2.2.2.2.2.1 (gx12 S).2.2.2.2.2.2.2.1 (gx12 S).2.2.2.2.2.2.2.2.1 (gx12 S).2.2.2.2.2.2.2.2.2.1 (gx12 S).2.2.2.2.2.2.2.2.2.2.1 (gx12 S).2.2.2.2.2.2.2.2.2.2.2 (gx13 S).1 (gx13 S).2.1 (gx13 S).2.2.1 (gx13 S).2.2.2.1 (gx13 S).2.2.2.2.1 (gx13 S).2.2.2.2.2.1 (gx13 S).2.2.2.2.2.2.1 (gx13 S).2.2.2.2.2.2.2.1 (gx13 S).2.2.2.2.2.2.2.2.1 pr_bf (gx13 S).2.2.2.2.2.2.2.2.2.2.1 (gx13 S).2.2.2.2.2.2.2.2.2.2.2 (gx14 S).1 pr_bs (gx14 S).2.2.1 (gx14 S).2.2.2.1 (gx14 S).2.2.2.2.1 pr_br (gx14 S).2.2.2.2.2.2.1 (gx14 S).2.2.2.2.2.2.2.1 (gx14 S).2.2.2.2.2.2.2.2.1 (gx14 S).2.2.2.2.2.2.2.2.2.1 (gx14 S).2.2.2.2.2.2.2.2.2.2.1 (gx14 S).2.2.2.2.2.2.2.2.2.2.2 (gx15 S).1 (gx15 S).2.1 (gx15 S).2.2.1 (gx15 S).2.2.2.1 (gx15 S).2.2.2.2.1 (gx15 S).2.2.2.2.2.1 (gx15 S).2.2.2.2.2.2.1 (gx15 S).2.2.2.2.2.2.2.1 (gx15 S).2.2.2.2.2.2.2.2.1 pr_yp (gx15 S).2.2.2.2.2.2.2.2.2.2.1 (gx15 S).2.2.2.2.2.2.2.2.2.2.2 (gx16 S).1 (gx16 S).2.1 (gx16 S).2.2.1 (gx16 S).2.2.2.1 (gx16 S).2.2.2.2.1 (gx16 S).2.2.2.2.2.1 (gx16 S).2.2.2.2.2.2.1 (gx16 S).2.2.2.2.2.2.2.1 (gx16 S).2.2.2.2.2.2.2.2.1 (gx16 S).2.2.2.2.2.2.2.2.2.1 (gx16 S).2.2.2.2.2.2.2.2.2.2.1 (gx16 S).2.2.2.2.2.2.2.2.2.2.2 (gx17 S).1 (gx17 S).2.1 (gx17 S).2.2.1 (gx17 S).2.2.2.1 (gx17 S).2.2.2.2.1 (gx17 S).2.2.2.2.2.1 (gx17 S).2.2.2.2.2.2.1 (gx17 S).2.2.2.2.2.2.2.1 (gx17 S).2.2.2.2.2.2.2.2.1 (gx17 S).2.2.2.2.2.2.2.2.2.1 (gx17 S).2.2.2.2.2.2.2.2.2.2.1 (gx17 S).2.2.2.2.2.2.2.2.2.2.2 (gx18 S).1 (gx18 S).2.1 (gx18 S).2.2.1 (gx18 S).2.2.2.1 (gx18 S).2.2.2.2.1 (gx18 S).2.2.2.2.2.1 st_s st_r (gx18 S).2.2.2.2.2.2.2.2.1 (gx18 S).2.2.2.2.2.2.2.2.2.1 (gx18 S).2.2.2.2.2.2.2.2.2.2.1 l_mi y_l_mi (gx19 S).1 l_mh y_l_mh (gx19 S).2.2.1 l_mf y_l_mf (gx19 S).2.2.2.2.1 l_mn y_l_mn (gx19 S).2.2.2.2.2.2.1 l_ri y_l_ri (gx19 S).2.2.2.2.2.2.2.2.1 l_rn y_l_rn (gx19 S).2.2.2.2.2.2.2.2.2.2.1 l_rc y_l_rc (gx20 S).1 l_rr y_l_rr (gx20 S).2.2.1 l_re y_l_re (gx20 S).2.2.2.2.1 l_rd y_l_rd (gx20 S).2.2.2.2.2.2.1 l_bi y_l_bi (gx20 S).2.2.2.2.2.2.2.2.1 l_bf y_l_bf (gx20 S).2.2.2.2.2.2.2.2.2.2.1 l_bs y_l_bs (gx21 S).1 l_br y_l_br (gx21 S).2.2.1 l_yi y_l_yi (gx21 S).2.2.2.2.1 l_yp y_l_yp (gx21 S).2.2.2.2.2.2.1 l_gc y_l_gc (gx21 S).2.2.2.2.2.2.2.2.1 l_gs y_l_gs (gx21 S).2.2.2.2.2.2.2.2.2.2.1 l_eb y_l_eb (gx22 S).1 l_er y_l_er (gx22 S).2.2.1 l_ec y_l_ec (gx22 S).2.2.2.2.1 l_yc y_l_yc (gx22 S).2.2.2.2.2.2.1 (gx22 S).2.2.2.2.2.2.2.1 (gx22 S).2.2.2.2.2.2.2.2.1 (gx22 S).2.2.2.2.2.2.2.2.2.1 (gx22 S).2.2.2.2.2.2.2.2.2.2.1 (gx22 S).2.2.2.2.2.2.2.2.2.2.2 (gx23 S).1 (gx23 S).2.1 (gx23 S).2.2.1 (gx23 S).2.2.2.1 (gx23 S).2.2.2.2.1 (gx23 S).2.2.2.2.2.1 (gx23 S).2.2.2.2.2.2.1 (gx23 S).2.2.2.2.2.2.2.1 (gx23 S).2.2.2.2.2.2.2.2.1 (gx23 S).2.2.2.2.2.2.2.2.2.1 (gx23 S).2.2.2.2.2.2.2.2.2.2.1 (gx23 S).2.2.2.2.2.2.2.2.2.2.2 (gx24 S).1 (gx24 S).2.1 (gx24 S).2.2.1 m_LETTERS m_LONGEST_NAME m_MOST_FACTS m_MOST_NAMES m_MOST_AROUND m_MOST_RULES m_MOST_OUTERMOST m_LAST_DAY m_LONGEST_SPAN (gx25 S).1 (gx25 S).2.1 (gx25 S).2.2.1 (gx25 S).2.2.2.1 (gx25 S).2.2.2.2.1 (gx25 S).2.2.2.2.2.1 (gx25 S).2.2.2.2.2.2.1 (gx25 S).2.2.2.2.2.2.2.1 (gx25 S).2.2.2.2.2.2.2.2.1 (gx25 S).2.2.2.2.2.2.2.2.2.1 (gx25 S).2.2.2.2.2.2.2.2.2.2.1 (gx25 S).2.2.2.2.2.2.2.2.2.2.2 (gx26 S).1 (gx26 S).2.1 (gx26 S).2.2.1 (gx26 S).2.2.2.1 (gx26 S).2.2.2.2.1 (gx26 S).2.2.2.2.2.1 (gx26 S).2.2.2.2.2.2.1 (gx26 S).2.2.2.2.2.2.2.1 (gx26 S).2.2.2.2.2.2.2.2.1 x_E (gx26 S).2.2.2.2.2.2.2.2.2.2.1 (gx26 S).2.2.2.2.2.2.2.2.2.2.2 (gx27 S).1 i0_x (gx27 S).2.2.1 (gx27 S).2.2.2.1 (gx27 S).2.2.2.2.1 (gx27 S).2.2.2.2.2.1 (gx27 S).2.2.2.2.2.2.1 (gx27 S).2.2.2.2.2.2.2.1 i0_lI y_i0_lI i0_ce i0_co i0_fi i0_fe (gx27 S).2.2.2.2.2.2.2.2.2.2.2 (gx28 S).1 (gx28 S).2.1 (gx28 S).2.2.1 (gx28 S).2.2.2.1 i1_x (gx28 S).2.2.2.2.2.1 (gx28 S).2.2.2.2.2.2.1 (gx28 S).2.2.2.2.2.2.2.1 (gx28 S).2.2.2.2.2.2.2.2.1 (gx28 S).2.2.2.2.2.2.2.2.2.1 (gx28 S).2.2.2.2.2.2.2.2.2.2.1 i1_lI y_i1_lI i1_ce i1_co i1_fi i1_fe (gx29 S).2.2.1 (gx29 S).2.2.2.1 (gx29 S).2.2.2.2.1 (gx29 S).2.2.2.2.2.1 (gx29 S).2.2.2.2.2.2.1 (gx29 S).2.2.2.2.2.2.2.1 i2_x (gx29 S).2.2.2.2.2.2.2.2.2.1 (gx29 S).2.2.2.2.2.2.2.2.2.2.1 (gx29 S).2.2.2.2.2.2.2.2.2.2.2 (gx30 S).1 (gx30 S).2.1 (gx30 S).2.2.1 i2_lI y_i2_lI i2_ce i2_co i2_fi i2_fe (gx30 S).2.2.2.2.2.2.1 (gx30 S).2.2.2.2.2.2.2.1 (gx30 S).2.2.2.2.2.2.2.2.1 (gx30 S).2.2.2.2.2.2.2.2.2.1 (gx30 S).2.2.2.2.2.2.2.2.2.2.1 i3_x (gx31 S).1 (gx31 S).2.1 (gx31 S).2.2.1 (gx31 S).2.2.2.1 (gx31 S).2.2.2.2.1 (gx31 S).2.2.2.2.2.1 i3_lI y_i3_lI i3_ce i3_co i3_fi i3_fe (gx31 S).2.2.2.2.2.2.2.2.2.1 (gx31 S).2.2.2.2.2.2.2.2.2.2.1 (gx31 S).2.2.2.2.2.2.2.2.2.2.2 (gx32 S).1 (gx32 S).2.1 (gx32 S).2.2.1 (gx32 S).2.2.2.1 (gx32 S).2.2.2.2.1 (gx32 S).2.2.2.2.2.1 (gx32 S).2.2.2.2.2.2 (by kernel_rfl)
end Sc
open PySem PySem.W PySem.Calls PyProof.Rows
theorem PySem.Challenge.cw_smallcourt_k39_whole_seasons_by_days_holds : PySem.Challenge.rw_smallcourt_k39_whole_seasons_by_days.Holds := by
  w_on; o_law
  refine HandSHeadRun.head_imp (r := Sc.theRow) (q := view Sc.theRow.prog [0, Sc.lawI]) (H := Sc.hk) (ob := Sc.ob) (M := 9000) (loose := Sc.names) (d := HandSHeadRun.topDef Sc.theRow.prog Sc.lawI) (kwd := []) Sc.ob_eq Sc.run (by kernel_rfl) (by kernel_rfl) (by kernel_rfl) (by rfl) (by first | assumption | decide +kernel) (by decide +kernel) ⟨rfl, rfl, rfl, rfl, rfl, by decide +kernel⟩ ?hw ?hc
  case hw => w_witness2
  case hc =>
    refine LamX.walk_ofTsE (l := Sc.theLaw) (n := 63) (k := 34) (CX := fun _ => L2.CX0) (x := "_law_script") rfl (by decide) (by kernel_rfl) ⟨rfl, by decide, by decide⟩ ?F (fun _ _ _ _ _ z => z)
    intro w mg fa h Y G hmg0
    obtain ⟨K, KX, c⟩ := Y
    have hmg : mg ("law" : PySem.Str) = some (.ref fa) := by
      have e : (HandSHeadRun.topDef Sc.theRow.prog Sc.lawI).name = ("law" : PySem.Str) := by kernel_rfl
      rw [← e]
      exact hmg0
    exact ⟨K, KX, Sc.all_y KX G hmg c⟩
