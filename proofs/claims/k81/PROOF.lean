import PyProof.Rows.All
import Wide.All
import OpenK.AllK
import Wide.FinOn
import HandS.ForMost
import HandS.IsInst
import HandS.Wide
import HandS.TupAny
import HandS.TupMul
import HandS.Rev
import HandS.Style
import HandS.Strs
import HandS.Walk
import KE.GoesEnum
import HandS.Dict
import HandS.TupSets
import KE.KDictPairs
import PyProof.ReprRoads
import PyProof.ReprBulk
import HandS.WideMore
import KE.KSortTupG
import KE.KDictWalk
import KE.KDictSum
import HandS.NamedTupSort
import KE.KDictDisplayH
import PyProof.Rows.TupDisplay
import HandS.ExcInit
import HandS.ExcField
import HandS.ExcIs
import HandS.ExcValue
import KE.KExcIs
import HandS.Exc
import HandS.Lambda
import HandS.EndTab
import KE.KNestM
import HandS.WordsExc
import KE.DataFind
import KE.SortKeyHeap
import KE.LtData
import HandS.DictComp
import HandS.DictTup
import KE.KDictItemsList
import HandS.Zip
import HandS.SortKw
import HandS.SortInts
import KE.DataMinMax
import PySem.Challenge.RW_mergebudget_k81_whole_tables_certify_wha
set_option Elab.async false
set_option linter.all false
set_option maxRecDepth 100000
namespace MB
inductive T where
  | nil
  | node (l r : T)
  deriving DecidableEq

namespace T
def size : T → Nat
  | nil => 0
  | node l r => l.size + 1 + r.size
def runs : T → Nat
  | nil => 0
  | node _ r => 1 + r.runs
def sch : T → List Nat
  | nil => []
  | node l r => l.sch ++ l.runs :: r.sch
def rc : T → List Nat
  | nil => []
  | node l r => l.rc ++ 1 :: r.rc.map (· + 1)
def wr : T → List Nat
  | nil => []
  | node l r => l.wr.map (· + 1) ++ 1 :: r.wr
/-- parents: off, the number of the first node; p, the parent of the root -/
def par (off p : Int) : T → List Int
  | nil => []
  | node l r => par off (off + l.size) l ++ p :: par (off + l.size + 1) (off + l.size) r
def mir : T → T
  | nil => nil
  | node l r => node r.mir l.mir
def push (t : T) (m : Nat) : T :=
  if m = t.runs then node t nil else match t with
    | nil => nil
    | node l r => node l (push r m)
/-- the first flush of the run that a flush that merges m writes -/
def start (t : T) (m : Nat) : Nat :=
  if m = t.runs then 0 else match t with
    | nil => 0
    | node l r => l.size + 1 + start r m
/-- the stack: intervals of the right spine -/
def stk (off : Nat) : T → List (Nat × Nat)
  | nil => []
  | node l r => (off, off + l.size + 1) :: stk (off + l.size + 1) r
def graft : T → T → T
  | nil, t => t
  | node l r, t => node l (graft r t)

theorem sch_len : ∀ t : T, t.sch.length = t.size
  | nil => rfl
  | node l r => by simp [sch, size, sch_len l, sch_len r]; omega
theorem rc_len : ∀ t : T, t.rc.length = t.size
  | nil => rfl
  | node l r => by simp [rc, size, rc_len l, rc_len r]; omega
theorem wr_len : ∀ t : T, t.wr.length = t.size
  | nil => rfl
  | node l r => by simp [wr, size, wr_len l, wr_len r]; omega
theorem par_len : ∀ (t : T) (off p : Int), (t.par off p).length = t.size
  | nil, _, _ => rfl
  | node l r, off, p => by simp [par, size, par_len l, par_len r]; omega
theorem runs_le : ∀ t : T, t.runs ≤ t.size
  | nil => Nat.le_refl _
  | node l r => by have := runs_le r; simp [runs, size]; omega
theorem sum_sch : ∀ t : T, t.sch.sum + t.runs = t.size
  | nil => rfl
  | node l r => by
    have h1 := sum_sch l; have h2 := sum_sch r
    simp [sch, runs, size, List.sum_append]; omega
theorem stk_len : ∀ (t : T) (off : Nat), (t.stk off).length = t.runs
  | nil, _ => rfl
  | node l r, off => by simp [stk, runs, stk_len r]; omega

/-! ### push -/
theorem push_eq {t : T} : t.push t.runs = node t nil := by
  unfold push; rw [if_pos rfl]
theorem push_node {l r : T} {m : Nat} (h : m ≤ r.runs) : (node l r).push m = node l (r.push m) := by
  conv => lhs; unfold push
  rw [if_neg (by simp [runs]; omega)]
theorem start_eq {t : T} : t.start t.runs = 0 := by
  unfold start; rw [if_pos rfl]
theorem start_node {l r : T} {m : Nat} (h : m ≤ r.runs) : (node l r).start m = l.size + 1 + r.start m := by
  conv => lhs; unfold start
  rw [if_neg (by simp [runs]; omega)]
/-- the two ways of a push -/
theorem push_ind {C : T → Nat → Prop} (h1 : ∀ t, C t t.runs) (h2 : ∀ l r m, m ≤ r.runs → C r m → C (node l r) m) : ∀ (t : T) (m : Nat), m ≤ t.runs → C t m
  | nil, m, h => by
    have : m = nil.runs := by simp [runs] at h ⊢; omega
    rw [this]; exact h1 nil
  | node l r, m, h => by
    by_cases e : m = (node l r).runs
    · rw [e]; exact h1 _
    · have hm : m ≤ r.runs := by simp [runs] at h e; omega
      exact h2 l r m hm (push_ind h1 h2 r m hm)
theorem push_sch : ∀ (t : T) (m : Nat), m ≤ t.runs → (t.push m).sch = t.sch ++ [m] :=
  push_ind (fun t => by rw [push_eq]; simp [sch]) fun l r m h ih => by rw [push_node h]; simp [sch, ih]
theorem push_size : ∀ (t : T) (m : Nat), m ≤ t.runs → (t.push m).size = t.size + 1 :=
  push_ind (fun t => by rw [push_eq]; simp [size]) fun l r m h ih => by rw [push_node h]; simp [size, ih]; omega
theorem push_runs : ∀ (t : T) (m : Nat), m ≤ t.runs → (t.push m).runs = t.runs - m + 1 :=
  push_ind (fun t => by rw [push_eq]; simp [runs]) fun l r m h ih => by rw [push_node h]; simp [runs, ih]; omega
theorem push_rc : ∀ (t : T) (m : Nat), m ≤ t.runs → (t.push m).rc = t.rc ++ [t.runs - m + 1] :=
  push_ind (fun t => by rw [push_eq]; simp [rc]) fun l r m h ih => by
    rw [push_node h]; simp [rc, ih, runs]; omega
theorem start_le : ∀ (t : T) (m : Nat), m ≤ t.runs → t.start m ≤ t.size :=
  push_ind (fun t => by rw [start_eq]; omega) fun l r m h ih => by rw [start_node h]; simp [size]; omega
theorem push_wr : ∀ (t : T) (m : Nat), m ≤ t.runs → (t.push m).wr = t.wr.take (t.start m) ++ ((t.wr.drop (t.start m)).map (· + 1) ++ [1]) :=
  push_ind (fun t => by rw [push_eq, start_eq]; simp [wr]) fun l r m h ih => by
    rw [push_node h, start_node h]
    have e : (wr (node l r)) = (l.wr.map (· + 1) ++ [1]) ++ r.wr := by simp [wr]
    have el : (l.wr.map (· + 1) ++ [1]).length = l.size + 1 := by simp [wr_len]
    rw [e, List.take_append, List.drop_append, el]
    rw [List.take_of_length_le (by rw [el]; omega), List.drop_eq_nil_of_le (by rw [el]; omega)]
    rw [show l.size + 1 + r.start m - (l.size + 1) = r.start m by omega]
    simp [wr, ih]
theorem stk_push : ∀ (t : T) (m : Nat), m ≤ t.runs → ∀ off, (t.push m).stk off = (t.stk off).take (t.runs - m) ++ [(off + t.start m, off + t.size + 1)] :=
  push_ind (fun t off => by rw [push_eq, start_eq]; simp [stk]) fun l r m h ih off => by
    rw [push_node h, start_node h]
    have hh : (node l r).runs - m = (r.runs - m) + 1 := by simp [runs]; omega
    rw [hh]
    simp [stk, ih, size]
    omega
theorem stk_at : ∀ (t : T) (m : Nat), m ≤ t.runs → ∀ off, 0 < m → ∃ e, (t.stk off)[t.runs - m]? = some (off + t.start m, e) :=
  push_ind (fun t off h => by
      rw [start_eq, Nat.sub_self]
      cases t with
      | nil => simp [runs] at h
      | node l r => exact ⟨_, rfl⟩) fun l r m h ih off h0 => by
    rw [start_node h]
    have hh : (node l r).runs - m = (r.runs - m) + 1 := by simp [runs]; omega
    rw [hh]
    obtain ⟨e, he⟩ := ih (off + l.size + 1) h0
    refine ⟨e, ?_⟩
    simp only [stk, List.getElem?_cons_succ, he]
    congr 2; omega
theorem start_zero : ∀ (t : T) (m : Nat), m ≤ t.runs → m = 0 → t.start m = t.size :=
  push_ind (fun t h => by
      rw [start_eq]
      cases t with
      | nil => rfl
      | node l r => simp [runs] at h) fun l r m h ih h0 => by
    rw [start_node h, ih h0]; simp [size]

/-! ### schedules and trees -/
theorem graft_nil : ∀ t : T, t.graft nil = t
  | nil => rfl
  | node l r => by simp [graft, graft_nil r]
theorem graft_assoc : ∀ a b c : T, (a.graft b).graft c = a.graft (b.graft c)
  | nil, _, _ => rfl
  | node l r, b, c => by simp [graft, graft_assoc r b c]
theorem graft_runs : ∀ a b : T, (a.graft b).runs = a.runs + b.runs
  | nil, b => by simp [graft, runs]
  | node l r, b => by simp [graft, runs, graft_runs r b]; omega
theorem graft_push : ∀ (u l : T), (u.graft l).push l.runs = u.graft (node l nil)
  | nil, l => by simp [graft, push_eq]
  | node a b, l => by
    simp only [graft]
    rw [push_node (by rw [graft_runs]; omega), graft_push b l]
theorem foldl_sch : ∀ (t u : T), t.sch.foldl push u = u.graft t
  | nil, u => by simp [sch, graft_nil]
  | node l r, u => by
    simp only [sch, List.foldl_append, List.foldl_cons]
    rw [foldl_sch l u, graft_push, foldl_sch r, graft_assoc]
    rfl
theorem sch_inj {a b : T} (h : a.sch = b.sch) : a = b := by
  have e1 := foldl_sch a nil
  have e2 := foldl_sch b nil
  rw [h, e2] at e1
  exact e1.symm
end T

/-- a schedule that begins with `runs` runs -/
def Ok : Nat → List Nat → Prop
  | _, [] => True
  | k, m :: r => m ≤ k ∧ Ok (k - m + 1) r
theorem ok_tree : ∀ (p : List Nat) (u : T), Ok u.runs p → ∃ t : T, t.sch = u.sch ++ p ∧ p.foldl T.push u = t
  | [], u, _ => ⟨u, by simp, rfl⟩
  | m :: r, u, h => by
    obtain ⟨h1, h2⟩ := h
    rw [← T.push_runs u m h1] at h2
    obtain ⟨t, e1, e2⟩ := ok_tree r (u.push m) h2
    exact ⟨t, by rw [e1, T.push_sch u m h1]; simp, e2⟩
theorem tree_ex {p : List Nat} (h : Ok 0 p) : ∃ t : T, t.sch = p := by
  obtain ⟨t, e, _⟩ := ok_tree p .nil h
  exact ⟨t, by rw [e]; rfl⟩
theorem ok_app : ∀ (p q : List Nat) (k k' : Nat), Ok k p → k' + p.sum = k + p.length → Ok k' q → Ok k (p ++ q)
  | [], q, k, k', _, e, h => by
    have : k' = k := by simpa using e
    subst this; exact h
  | m :: r, q, k, k', h, e, hq => ⟨h.1, ok_app r q (k - m + 1) k' h.2 (by have := h.1; simp at e; omega) hq⟩
theorem ok_sch_from : ∀ (t : T) (k : Nat), Ok k t.sch
  | .nil, _ => trivial
  | .node l r, k => by
    refine ok_app l.sch _ k (k + l.runs) (ok_sch_from l k) (by have := T.sum_sch l; rw [T.sch_len]; omega) ?_
    exact ⟨by omega, ok_sch_from r _⟩
theorem ok_take : ∀ (p : List Nat) (k i : Nat), Ok k p → Ok k (p.take i)
  | [], _, i, _ => by cases i <;> trivial
  | m :: r, k, 0, _ => trivial
  | m :: r, k, i + 1, h => ⟨h.1, ok_take r _ i h.2⟩
/-- the tree of the first i flushes -/
def pre (t : T) (i : Nat) : T := (t.sch.take i).foldl T.push .nil
theorem pre_sch (t : T) (i : Nat) : (pre t i).sch = t.sch.take i := by
  obtain ⟨u, e1, e2⟩ := ok_tree (t.sch.take i) .nil (ok_take _ _ i (ok_sch_from t _))
  unfold pre; rw [e2, e1]; rfl
theorem pre_size {t : T} {i : Nat} (h : i ≤ t.size) : (pre t i).size = i := by
  rw [← T.sch_len, pre_sch, List.length_take, T.sch_len]; omega
theorem pre_zero (t : T) : pre t 0 = .nil := rfl
theorem pre_all (t : T) : pre t t.size = t := T.sch_inj (by rw [pre_sch, List.take_of_length_le (by rw [T.sch_len]; exact Nat.le_refl _)])
theorem ok_last : ∀ (p : List Nat) (k m : Nat) (q : List Nat), Ok k (p ++ m :: q) → m + p.sum ≤ k + p.length
  | [], k, m, q, h => by simpa using h.1
  | a :: r, k, m, q, h => by
    have := ok_last r (k - a + 1) m q h.2
    have h1 := h.1
    simp; omega
theorem pre_succ {t : T} {i : Nat} {m : Nat} (h : t.sch[i]? = some m) : pre t (i + 1) = (pre t i).push m ∧ m ≤ (pre t i).runs := by
  have hi : i < t.sch.length := (List.getElem?_eq_some_iff.mp h).1
  constructor
  · unfold pre
    rw [List.take_add_one, h]
    simp
  · have e : t.sch = t.sch.take i ++ m :: t.sch.drop (i + 1) := by
      have h2 := List.getElem?_eq_some_iff.mp h
      obtain ⟨h3, h4⟩ := h2
      rw [← h4]
      simp
    have h1 := ok_sch_from t 0
    rw [e] at h1
    have h2 := ok_last _ _ _ _ h1
    have h3 := T.sum_sch (pre t i)
    rw [pre_sch] at h3
    have h4 : (pre t i).size = (t.sch.take i).length := by rw [← T.sch_len, pre_sch]
    omega
theorem rc_take : ∀ (t : T) (i : Nat), (pre t i).rc = t.rc.take i := by
  intro t i
  by_cases hi : i ≤ t.size
  · suffices h : ∀ k, i + k = t.size → (pre t i).rc = t.rc.take i from h (t.size - i) (by omega)
    intro k
    induction k generalizing i with
    | zero =>
      intro e
      rw [show i = t.size by omega, pre_all, List.take_of_length_le (by rw [T.rc_len]; omega)]
    | succ k ih =>
      intro e
      have hl : i < t.sch.length := by rw [T.sch_len]; omega
      obtain ⟨e1, h1⟩ := pre_succ (List.getElem?_eq_getElem hl)
      have h2 := ih (i + 1) (by omega) (by omega)
      rw [e1, T.push_rc _ _ h1] at h2
      have h3 := congrArg (List.take i) h2
      rw [List.take_append_of_le_length (by rw [T.rc_len, pre_size (by omega)]; omega), List.take_take, List.take_of_length_le (by rw [T.rc_len, pre_size (by omega)]; omega)] at h3
      rw [h3]; congr 1; omega
  · have e : t.sch.take i = t.sch := List.take_of_length_le (by rw [T.sch_len]; omega)
    have : pre t i = t := T.sch_inj (by rw [pre_sch, e])
    rw [this, List.take_of_length_le (by rw [T.rc_len]; omega)]
theorem rc_at {t : T} {i m : Nat} (h : t.sch[i]? = some m) : t.rc[i]? = some ((pre t i).runs - m + 1) := by
  obtain ⟨e1, h1⟩ := pre_succ h
  have hi : i < t.size := by rw [← T.sch_len]; exact (List.getElem?_eq_some_iff.mp h).1
  have h2 := rc_take t (i + 1)
  rw [e1, T.push_rc _ _ h1] at h2
  have h3 := congrArg (fun l : List Nat => l[i]?) h2
  simp only [List.getElem?_take] at h3
  rw [List.getElem?_append_right (by rw [T.rc_len, pre_size (by omega)]; omega), T.rc_len, pre_size (by omega)] at h3
  simp at h3
  exact h3.symm
theorem pre_runs {t : T} {i : Nat} (h : i < t.size) : t.rc[i]? = some (pre t (i + 1)).runs := by
  have hl : i < t.sch.length := by rw [T.sch_len]; exact h
  obtain ⟨e1, h1⟩ := pre_succ (List.getElem?_eq_getElem hl)
  rw [rc_at (List.getElem?_eq_getElem hl), e1, T.push_runs _ _ h1]
/-! ### write counts by place -/
theorem wr_step {t : T} {m : Nat} (h : m ≤ t.runs) (k : Nat) : ((t.push m).wr.getD k 0) = if t.start m ≤ k ∧ k < t.size + 1 then t.wr.getD k 0 + 1 else t.wr.getD k 0 := by
  have hs := T.start_le t m h
  have hl := T.wr_len t
  rw [T.push_wr t m h]
  simp only [List.getD_eq_getElem?_getD]
  by_cases h1 : k < t.start m
  · rw [List.getElem?_append_left (by rw [List.length_take]; omega), List.getElem?_take, if_pos h1, if_neg (by omega)]
  · have e : (t.wr.take (t.start m)).length = t.start m := by rw [List.length_take]; omega
    rw [List.getElem?_append_right (by omega), e]
    by_cases h2 : k < t.size
    · rw [List.getElem?_append_left (by rw [List.length_map, List.length_drop]; omega), List.getElem?_map, List.getElem?_drop, if_pos (by omega), show t.start m + (k - t.start m) = k by omega]
      rw [List.getElem?_eq_getElem (by omega)]
      rfl
    · by_cases h3 : k = t.size
      · have e2 : ((t.wr.drop (t.start m)).map (· + 1)).length = k - t.start m := by rw [List.length_map, List.length_drop]; omega
        rw [List.getElem?_append_right (by omega), e2, Nat.sub_self, if_pos (by omega), List.getElem?_eq_none (by omega : t.wr.length ≤ k)]
        rfl
      · rw [List.getElem?_eq_none (by simp; omega), if_neg (by omega), List.getElem?_eq_none (by omega : t.wr.length ≤ k)]
theorem list_by {c d : List Nat} (hl : c.length = d.length) (h : ∀ k, k < c.length → c[k]? = some (d.getD k 0)) : c = d := by
  refine List.ext_getElem? fun k => ?_
  by_cases hk : k < c.length
  · rw [h k hk, List.getD_eq_getElem?_getD, List.getElem?_eq_getElem (by omega)]
    rfl
  · rw [List.getElem?_eq_none (by omega), List.getElem?_eq_none (by omega)]
theorem stk_last {t : T} {i m : Nat} (h : t.sch[i]? = some m) : (pre t (i + 1)).stk 0 = ((pre t i).stk 0).take ((pre t i).runs - m) ++ [((pre t i).start m, i + 1)] := by
  obtain ⟨e, h1⟩ := pre_succ h
  have hi : i < t.size := by rw [← T.sch_len]; exact (List.getElem?_eq_some_iff.mp h).1
  rw [e, T.stk_push _ _ h1, Nat.zero_add, Nat.zero_add, pre_size (by omega)]

/-! ### subtrees -/
inductive Sub (t : T) : Nat → T → Nat → Int → Prop
  | root : Sub t 0 t 1 (-1)
  | left {off k : Nat} {p : Int} {l r : T} : Sub t off (.node l r) k p → Sub t off l k ((off + l.size : Nat) : Int)
  | right {off k : Nat} {p : Int} {l r : T} : Sub t off (.node l r) k p → Sub t (off + l.size + 1) r (k + 1) ((off + l.size : Nat) : Int)
def T.parOf (t : T) : List Int := t.par 0 (-1)
theorem slice_left {α : Type} {L a b : List α} {x : α} {off : Nat} (h : (L.drop off).take (a.length + 1 + b.length) = a ++ x :: b) : (L.drop off).take a.length = a := by
  have := congrArg (List.take a.length) h
  rw [List.take_take, List.take_left' rfl, show min a.length (a.length + 1 + b.length) = a.length by omega] at this
  exact this
theorem slice_mid {α : Type} {L a b : List α} {x : α} {off : Nat} (h : (L.drop off).take (a.length + 1 + b.length) = a ++ x :: b) : L[off + a.length]? = some x := by
  have := congrArg (fun l : List α => l[a.length]?) h
  simp only [List.getElem?_take, List.getElem?_drop] at this
  rw [if_pos (by omega), List.getElem?_append_right (Nat.le_refl _), Nat.sub_self] at this
  simpa using this
theorem slice_right {α : Type} {L a b : List α} {x : α} {off : Nat} (h : (L.drop off).take (a.length + 1 + b.length) = a ++ x :: b) : (L.drop (off + a.length + 1)).take b.length = b := by
  have := congrArg (List.drop (a.length + 1)) h
  rw [List.drop_take, List.drop_drop] at this
  have e2 : List.drop (a.length + 1) (a ++ x :: b) = b := by
    rw [List.drop_append]; simp
  rw [e2] at this
  have h2 := congrArg (List.take b.length) this
  rw [List.take_take, List.take_length] at h2
  rw [← Nat.add_assoc] at h2
  rw [show b.length = min b.length (a.length + 1 + b.length - (a.length + 1)) by omega]
  exact h2
theorem sub_le {t : T} {off k : Nat} {s : T} {p : Int} (h : Sub t off s k p) : off + s.size ≤ t.size ∧ 1 ≤ k ∧ k ≤ off + 1 := by
  induction h with
  | root => exact ⟨by omega, by omega, by omega⟩
  | left _ ih => simp only [T.size] at ih; omega
  | right _ ih => simp only [T.size] at ih; omega
theorem sub_out {t : T} {off k : Nat} {s : T} {p : Int} (h : Sub t off s k p) : (p = -1 ∨ ((0 ≤ p ∧ p < t.size) ∧ (p + 1 = off ∨ p = ((off + s.size : Nat) : Int)))) := by
  cases h with
  | root => exact .inl rfl
  | left h => have := sub_le h; simp only [T.size] at this; exact .inr ⟨by omega, .inr rfl⟩
  | right h => have := sub_le h; simp only [T.size] at this; exact .inr ⟨by omega, .inl (by omega)⟩
theorem sub_rc {t : T} {off k : Nat} {s : T} {p : Int} (h : Sub t off s k p) : (t.rc.drop off).take s.size = s.rc.map (· + (k - 1)) := by
  induction h with
  | root => simp [← T.rc_len]
  | @left off k p l r h ih =>
    have e : (T.node l r).rc.map (· + (k - 1)) = l.rc.map (· + (k - 1)) ++ (1 + (k - 1)) :: (r.rc.map (· + 1)).map (· + (k - 1)) := by simp [T.rc]
    rw [e] at ih
    have hl : (l.rc.map (· + (k - 1))).length = l.size := by rw [List.length_map, T.rc_len]
    have hr : ((r.rc.map (· + 1)).map (· + (k - 1))).length = r.size := by rw [List.length_map, List.length_map, T.rc_len]
    have := slice_left (a := l.rc.map (· + (k - 1))) (b := (r.rc.map (· + 1)).map (· + (k - 1))) (L := t.rc) (off := off) (x := 1 + (k - 1)) (by rw [hl, hr]; exact ih)
    rw [hl] at this
    exact this
  | @right off k p l r h ih =>
    have e : (T.node l r).rc.map (· + (k - 1)) = l.rc.map (· + (k - 1)) ++ (1 + (k - 1)) :: (r.rc.map (· + 1)).map (· + (k - 1)) := by simp [T.rc]
    rw [e] at ih
    have hl : (l.rc.map (· + (k - 1))).length = l.size := by rw [List.length_map, T.rc_len]
    have hr : ((r.rc.map (· + 1)).map (· + (k - 1))).length = r.size := by rw [List.length_map, List.length_map, T.rc_len]
    have := slice_right (a := l.rc.map (· + (k - 1))) (b := (r.rc.map (· + 1)).map (· + (k - 1))) (L := t.rc) (off := off) (x := 1 + (k - 1)) (by rw [hl, hr]; exact ih)
    rw [hl, hr] at this
    rw [this, List.map_map]
    refine List.map_congr_left fun a _ => ?_
    have := (sub_le h).2.1
    simp only [Function.comp]
    omega
theorem sub_par {t : T} {off k : Nat} {s : T} {p : Int} (h : Sub t off s k p) : (t.parOf.drop off).take s.size = s.par (off : Int) p := by
  induction h with
  | root => simp only [T.parOf]; rw [List.drop_zero, List.take_of_length_le (by rw [T.par_len]; omega)]; rfl
  | @left off k p l r h ih =>
    simp only [T.par] at ih
    have hl := T.par_len l (off : Int) ((off : Int) + l.size)
    have hr := T.par_len r ((off : Int) + l.size + 1) ((off : Int) + l.size)
    have := slice_left (a := l.par (off : Int) ((off : Int) + l.size)) (b := r.par ((off : Int) + l.size + 1) ((off : Int) + l.size)) (L := t.parOf) (off := off) (x := p) (by rw [hl, hr]; exact ih)
    rw [hl] at this
    rw [this, Int.natCast_add]
  | @right off k p l r h ih =>
    simp only [T.par] at ih
    have hl := T.par_len l (off : Int) ((off : Int) + l.size)
    have hr := T.par_len r ((off : Int) + l.size + 1) ((off : Int) + l.size)
    have := slice_right (a := l.par (off : Int) ((off : Int) + l.size)) (b := r.par ((off : Int) + l.size + 1) ((off : Int) + l.size)) (L := t.parOf) (off := off) (x := p) (by rw [hl, hr]; exact ih)
    rw [hl, hr] at this
    rw [this]
    simp only [Int.natCast_add]
    rfl
theorem sub_root {t : T} {off k : Nat} {l r : T} {p : Int} (h : Sub t off (.node l r) k p) : t.parOf[off + l.size]? = some p := by
  have ih := sub_par h
  simp only [T.par] at ih
  have hl := T.par_len l (off : Int) ((off : Int) + l.size)
  have hr := T.par_len r ((off : Int) + l.size + 1) ((off : Int) + l.size)
  have := slice_mid (a := l.par (off : Int) ((off : Int) + l.size)) (b := r.par ((off : Int) + l.size + 1) ((off : Int) + l.size)) (L := t.parOf) (off := off) (x := p) (by rw [hl, hr]; exact ih)
  rw [hl] at this
  exact this
/-- the parents of a subtree: the root's alone lies outside -/
theorem par_in : ∀ (s : T) (off p : Int) (i : Nat) (q : Int), (s.par off p)[i]? = some q → (∃ l r, s = .node l r ∧ i = l.size ∧ q = p) ∨ (off ≤ q ∧ q < off + s.size ∧ ∀ l r, s = .node l r → i ≠ l.size)
  | .nil, _, _, _, _, h => by simp [T.par] at h
  | .node l r, off, p, i, q, h => by
    simp only [T.par] at h
    have hl := T.par_len l off (off + l.size)
    by_cases h1 : i < l.size
    · rw [List.getElem?_append_left (by omega)] at h
      refine .inr ?_
      rcases par_in l off (off + l.size) i q h with ⟨a, b, e, e2, e3⟩ | ⟨h2, h3, _⟩
      · refine ⟨by omega, by simp only [T.size]; omega, fun l' r' e' => by cases e'; omega⟩
      · refine ⟨by omega, by simp only [T.size]; omega, fun l' r' e' => by cases e'; omega⟩
    · rw [List.getElem?_append_right (by omega), hl] at h
      by_cases h2 : i = l.size
      · subst h2
        rw [Nat.sub_self] at h
        have : p = q := by simpa using h
        exact .inl ⟨l, r, rfl, rfl, this.symm⟩
      · obtain ⟨j, e⟩ : ∃ j, i - l.size = j + 1 := ⟨i - l.size - 1, by omega⟩
        rw [e, List.getElem?_cons_succ] at h
        refine .inr ?_
        rcases par_in r (off + l.size + 1) (off + l.size) j q h with ⟨a, b, e4, e2, e3⟩ | ⟨h4, h3, _⟩
        · refine ⟨by omega, by simp only [T.size]; omega, fun l' r' e' => by cases e'; omega⟩
        · refine ⟨by omega, by simp only [T.size]; omega, fun l' r' e' => by cases e'; omega⟩
theorem rc_pos : ∀ (s : T) (i v : Nat), s.rc[i]? = some v → 1 ≤ v
  | .nil, _, _, h => by simp [T.rc] at h
  | .node l r, i, v, h => by
    simp only [T.rc] at h
    by_cases h1 : i < l.size
    · rw [List.getElem?_append_left (by rw [T.rc_len]; exact h1)] at h
      exact rc_pos l i v h
    · rw [List.getElem?_append_right (by rw [T.rc_len]; omega), T.rc_len] at h
      rcases Nat.eq_zero_or_pos (i - l.size) with e | e
      · rw [e] at h; simp at h; omega
      · obtain ⟨j, e⟩ : ∃ j, i - l.size = j + 1 := ⟨i - l.size - 1, by omega⟩
        rw [e, List.getElem?_cons_succ, List.getElem?_map] at h
        cases h2 : r.rc[j]? with
        | none => rw [h2] at h; cases h
        | some u => rw [h2] at h; simp at h; omega
theorem rc_one {l r : T} {i : Nat} (h : (T.node l r).rc[i]? = some 1) : i ≤ l.size := by
  simp only [T.rc] at h
  by_cases h1 : i ≤ l.size
  · exact h1
  · rw [List.getElem?_append_right (by rw [T.rc_len]; omega), T.rc_len] at h
    obtain ⟨j, e⟩ : ∃ j, i - l.size = j + 1 := ⟨i - l.size - 1, by omega⟩
    rw [e, List.getElem?_cons_succ, List.getElem?_map] at h
    cases h2 : r.rc[j]? with
    | none => rw [h2] at h; cases h
    | some u =>
      have := rc_pos r j u h2
      rw [h2] at h; simp at h; omega
theorem rc_root (l r : T) : (T.node l r).rc[l.size]? = some 1 := by
  simp only [T.rc]
  rw [List.getElem?_append_right (by rw [T.rc_len]; exact Nat.le_refl _), T.rc_len, Nat.sub_self]; rfl
theorem sub_rc_at {t : T} {off k : Nat} {s : T} {p : Int} (h : Sub t off s k p) {i : Nat} (hi : i < s.size) : ∃ v, s.rc[i]? = some v ∧ t.rc[off + i]? = some (v + (k - 1)) := by
  have e := congrArg (fun l : List Nat => l[i]?) (sub_rc h)
  simp only [List.getElem?_take, List.getElem?_drop, List.getElem?_map] at e
  rw [if_pos hi] at e
  have hv := List.getElem?_eq_getElem (show i < s.rc.length by rw [T.rc_len]; exact hi)
  rw [hv] at e
  exact ⟨_, hv, e⟩
theorem sub_par_at {t : T} {off k : Nat} {s : T} {p : Int} (h : Sub t off s k p) {i : Nat} (hi : i < s.size) : ∃ q, (s.par (off : Int) p)[i]? = some q ∧ t.parOf[off + i]? = some q := by
  have e := congrArg (fun l : List Int => l[i]?) (sub_par h)
  simp only [List.getElem?_take, List.getElem?_drop] at e
  rw [if_pos hi] at e
  have hv := List.getElem?_eq_getElem (show i < (s.par (off : Int) p).length by rw [T.par_len]; exact hi)
  rw [hv] at e
  exact ⟨_, hv, e⟩
theorem filter_one {f : Nat → Bool} {n c : Nat} (hc : c < n) (h1 : f c = true) (h2 : ∀ i, i < n → f i = true → i = c) : (List.range n).filter f = [c] := by
  induction n with
  | zero => omega
  | succ n ih =>
    rw [List.range_succ, List.filter_append]
    by_cases e : c = n
    · subst e
      have e0 : (List.range c).filter f = [] := List.filter_eq_nil_iff.mpr fun i hi hf => by
        have := List.mem_range.mp hi
        have := h2 i (by omega) hf
        omega
      rw [e0]; simp [h1]
    · rw [ih (by omega) fun i hi hf => h2 i (by omega) hf]
      have : f n = false := by
        cases hf : f n with
        | false => rfl
        | true => exact absurd (h2 n (by omega) hf) (by omega)
      simp [this]
/-- the work of a list of subtrees -/
def todo : List (Nat × T × Nat × Int) → Nat
  | [] => 0
  | x :: r => 2 * x.2.1.size + 1 + todo r
theorem todo_app : ∀ a b, todo (a ++ b) = todo a + todo b
  | [], b => by simp [todo]
  | x :: r, b => by simp [todo, todo_app r b]; omega
theorem len_todo : ∀ L, L.length ≤ todo L
  | [] => Nat.le_refl _
  | x :: r => by have := len_todo r; simp [todo]; omega

/-! ### one step up -/
theorem getD_app_l {a b : List Nat} {i : Nat} (h : i < a.length) : (a ++ b).getD i 0 = a.getD i 0 := by
  simp only [List.getD_eq_getElem?_getD, List.getElem?_append_left h]
theorem getD_app_r {a b : List Nat} {i : Nat} (h : a.length ≤ i) : (a ++ b).getD i 0 = b.getD (i - a.length) 0 := by
  simp only [List.getD_eq_getElem?_getD, List.getElem?_append_right h]
theorem getD_map1 {a : List Nat} {i : Nat} (h : i < a.length) : (a.map (· + 1)).getD i 0 = a.getD i 0 + 1 := by
  simp only [List.getD_eq_getElem?_getD, List.getElem?_map, List.getElem?_eq_getElem h]; rfl
theorem wr_l {l r : T} {i : Nat} (h : i < l.size) : (T.node l r).wr.getD i 0 = l.wr.getD i 0 + 1 := by
  simp only [T.wr]
  rw [getD_app_l (by rw [List.length_map, T.wr_len]; exact h), getD_map1 (by rw [T.wr_len]; exact h)]
theorem wr_m {l r : T} : (T.node l r).wr.getD l.size 0 = 1 := by
  simp only [T.wr]
  rw [getD_app_r (by rw [List.length_map, T.wr_len]; exact Nat.le_refl _), List.length_map, T.wr_len, Nat.sub_self]; rfl
theorem wr_r {l r : T} {j : Nat} : (T.node l r).wr.getD (l.size + 1 + j) 0 = r.wr.getD j 0 := by
  simp only [T.wr]
  rw [getD_app_r (by rw [List.length_map, T.wr_len]; omega), List.length_map, T.wr_len, show l.size + 1 + j - l.size = j + 1 by omega, List.getD_cons_succ]
theorem rc_l {l r : T} {i : Nat} (h : i < l.size) : (T.node l r).rc.getD i 0 = l.rc.getD i 0 := by
  simp only [T.rc]
  rw [getD_app_l (by rw [T.rc_len]; exact h)]
theorem rc_m {l r : T} : (T.node l r).rc.getD l.size 0 = 1 := by
  simp only [T.rc]
  rw [getD_app_r (by rw [T.rc_len]; exact Nat.le_refl _), T.rc_len, Nat.sub_self]; rfl
theorem rc_r {l r : T} {j : Nat} (h : j < r.size) : (T.node l r).rc.getD (l.size + 1 + j) 0 = r.rc.getD j 0 + 1 := by
  simp only [T.rc]
  rw [getD_app_r (by rw [T.rc_len]; omega), T.rc_len, show l.size + 1 + j - l.size = j + 1 by omega, List.getD_cons_succ, getD_map1 (by rw [T.rc_len]; exact h)]
theorem up : ∀ (s : T) (off p : Int) (i : Nat) (q : Int), (s.par off p)[i]? = some q →
    (q = p ∧ s.wr.getD i 0 = 1 ∧ s.rc.getD i 0 = 1) ∨
    ∃ j : Nat, q = off + j ∧ j < s.size ∧ j ≠ i ∧ (i < j → s.wr.getD i 0 = s.wr.getD j 0 + 1 ∧ s.rc.getD i 0 = s.rc.getD j 0) ∧ (j < i → s.wr.getD i 0 = s.wr.getD j 0 ∧ s.rc.getD i 0 = s.rc.getD j 0 + 1)
  | .nil, _, _, _, _, h => by simp [T.par] at h
  | .node l r, off, p, i, q, h => by
    simp only [T.par] at h
    have hl := T.par_len l off (off + l.size)
    by_cases h1 : i < l.size
    · rw [List.getElem?_append_left (by omega)] at h
      refine .inr ?_
      rcases up l off (off + l.size) i q h with ⟨e, e1, e2⟩ | ⟨j, e, hj, hne, c1, c2⟩
      · exact ⟨l.size, e, by simp only [T.size]; omega, by omega, fun _ => ⟨by rw [wr_l h1, wr_m, e1], by rw [rc_l h1, rc_m, e2]⟩, fun z => by omega⟩
      · exact ⟨j, e, by simp only [T.size]; omega, hne, fun z => ⟨by rw [wr_l h1, wr_l hj, (c1 z).1], by rw [rc_l h1, rc_l hj, (c1 z).2]⟩, fun z => ⟨by rw [wr_l h1, wr_l hj, (c2 z).1], by rw [rc_l h1, rc_l hj, (c2 z).2]⟩⟩
    · rw [List.getElem?_append_right (by omega), hl] at h
      by_cases h2 : i = l.size
      · subst h2
        rw [Nat.sub_self] at h
        have : p = q := by simpa using h
        exact .inl ⟨this.symm, wr_m, rc_m⟩
      · obtain ⟨k, e⟩ : ∃ k, i = l.size + 1 + k := ⟨i - l.size - 1, by omega⟩
        subst e
        rw [show l.size + 1 + k - l.size = k + 1 by omega, List.getElem?_cons_succ] at h
        have hk : k < r.size := by
          have := (List.getElem?_eq_some_iff.mp h).1
          rw [T.par_len] at this; exact this
        refine .inr ?_
        rcases up r (off + l.size + 1) (off + l.size) k q h with ⟨e, e1, e2⟩ | ⟨j, e, hj, hne, c1, c2⟩
        · exact ⟨l.size, e, by simp only [T.size]; omega, by omega, fun z => by omega, fun _ => ⟨by rw [wr_r, wr_m, e1], by rw [rc_r hk, rc_m, e2]⟩⟩
        · exact ⟨l.size + 1 + j, by rw [e]; omega, by simp only [T.size]; omega, by omega, fun z => ⟨by rw [wr_r, wr_r, (c1 (by omega)).1], by rw [rc_r hk, rc_r hj, (c1 (by omega)).2]⟩, fun z => ⟨by rw [wr_r, wr_r, (c2 (by omega)).1], by rw [rc_r hk, rc_r hj, (c2 (by omega)).2]⟩⟩
theorem wr_pos {t : T} {i : Nat} (h : i < t.size) : 1 ≤ t.wr.getD i 0 := by
  induction t generalizing i with
  | nil => simp [T.size] at h
  | node l r ihl ihr =>
    by_cases h1 : i < l.size
    · rw [wr_l h1]; omega
    · by_cases h2 : i = l.size
      · subst h2; rw [wr_m]; exact Nat.le_refl _
      · obtain ⟨k, e⟩ : ∃ k, i = l.size + 1 + k := ⟨i - l.size - 1, by omega⟩
        subst e
        rw [wr_r]; exact ihr (by simp only [T.size] at h; omega)
theorem rc_posD {t : T} {i : Nat} (h : i < t.size) : 1 ≤ t.rc.getD i 0 := by
  have := List.getElem?_eq_getElem (show i < t.rc.length by rw [T.rc_len]; exact h)
  rw [List.getD_eq_getElem?_getD, this]
  exact rc_pos t i _ this

/-! ### mirrors -/
def mirN (N : Int) (q : Int) : Int := if q = -1 then -1 else N - 1 - q
theorem mir_size : ∀ t : T, t.mir.size = t.size
  | .nil => rfl
  | .node l r => by simp [T.mir, T.size, mir_size l, mir_size r]; omega
theorem mir_par : ∀ (s : T) (N off p : Int), 0 ≤ off → ((s.par off p).reverse).map (mirN N) = s.mir.par (N - off - s.size) (mirN N p)
  | .nil, _, _, _, _ => rfl
  | .node l r, N, off, p, h => by
    simp only [T.par, T.mir, List.reverse_append, List.reverse_cons, List.map_append, List.map_cons, List.map_nil]
    rw [mir_par l N off (off + l.size) h, mir_par r N (off + l.size + 1) (off + l.size) (by omega), mir_size]
    have e1 : mirN N (off + l.size) = N - 1 - (off + l.size) := by unfold mirN; rw [if_neg (by omega)]
    rw [e1]
    have e2 : N - off - ((T.node l r).size : Int) = N - (off + l.size + 1) - r.size := by simp only [T.size]; omega
    rw [e2]
    have e3 : N - (off + ↑l.size + 1) - ↑r.size + ↑r.size = N - 1 - (off + ↑l.size) := by omega
    rw [e3, show N - 1 - (off + (l.size : Int)) + 1 = N - off - l.size by omega]
    simp
theorem mir_parOf (t : T) : t.mir.parOf = (t.parOf.reverse).map (mirN t.size) := by
  unfold T.parOf
  rw [mir_par t t.size 0 (-1) (by omega)]
  rw [show ((t.size : Int) - 0 - t.size) = 0 by omega]
  rfl
theorem mir_wr : ∀ t : T, t.mir.wr = t.rc.reverse
  | .nil => rfl
  | .node l r => by simp [T.mir, T.wr, T.rc, mir_wr l, mir_wr r]
theorem mir_rc : ∀ t : T, t.mir.rc = t.wr.reverse
  | .nil => rfl
  | .node l r => by simp [T.mir, T.wr, T.rc, mir_rc l, mir_rc r]
theorem mir_mir : ∀ t : T, t.mir.mir = t
  | .nil => rfl
  | .node l r => by simp [T.mir, mir_mir l, mir_mir r]

/-! ### parents of a joined tree -/
theorem par_below {N : Int} : ∀ (s : T) (off p : Int), 0 ≤ off → (s.par off p).map (fun q => if q = -1 then N else q) = s.par off (if p = -1 then N else p)
  | .nil, _, _, _ => rfl
  | .node l r, off, p, h => by
    simp only [T.par, List.map_append, List.map_cons]
    rw [par_below l off _ h, par_below r (off + l.size + 1) _ (by omega), if_neg (by omega : ¬ off + (l.size : Int) = -1)]
theorem par_beyond {N : Int} : ∀ (s : T) (off p : Int), 0 ≤ off → (s.par off p).map (fun q => if q = -1 then N else q + N + 1) = s.par (off + N + 1) (if p = -1 then N else p + N + 1)
  | .nil, _, _, _ => rfl
  | .node l r, off, p, h => by
    simp only [T.par, List.map_append, List.map_cons]
    rw [par_beyond l off _ h, par_beyond r (off + l.size + 1) _ (by omega), if_neg (by omega : ¬ off + (l.size : Int) = -1)]
    have e1 : off + (l.size : Int) + N + 1 = off + N + 1 + l.size := by omega
    have e2 : off + (l.size : Int) + 1 + N + 1 = off + N + 1 + l.size + 1 := by omega
    rw [e1, e2]
theorem parOf_node (s u : T) : (T.node s u).parOf = s.parOf.map (fun q => if q = -1 then (s.size : Int) else q) ++ [-1] ++ u.parOf.map (fun q => if q = -1 then (s.size : Int) else q + s.size + 1) := by
  unfold T.parOf
  rw [par_below s 0 (-1) (by omega), par_beyond u 0 (-1) (by omega)]
  simp only [T.par]
  simp
theorem parOf_root (s u : T) : (T.node s u).parOf[s.size]? = some (-1) := by
  have := sub_root (t := T.node s u) .root
  simpa using this
theorem parOf_first {s u : T} {m : Nat} (h : m < s.size) : (T.node s u).parOf[m]? ≠ some (-1) := fun e => by
  rcases par_in _ _ _ _ _ e with ⟨l, r, e1, e2, _⟩ | ⟨h1, _, _⟩
  · cases e1; omega
  · omega

/-! ### runs as lists of flushes -/
theorem stk_pair : ∀ (t : T) (off j : Nat), j + 1 ≤ t.runs → (t.stk off)[t.runs - (j + 1)]? = some (off + t.start (j + 1), off + t.start j)
  | .nil, _, _, h => by simp [T.runs] at h
  | .node l r, off, j, h => by
    by_cases e : j = r.runs
    · subst e
      have e1 : (T.node l r).runs = r.runs + 1 := by simp [T.runs]; omega
      rw [e1, Nat.sub_self, ← e1, T.start_eq, T.start_node (Nat.le_refl _), T.start_eq]
      rfl
    · have h1 : j + 1 ≤ r.runs := by simp [T.runs] at h; omega
      have e1 : (T.node l r).runs - (j + 1) = (r.runs - (j + 1)) + 1 := by simp [T.runs]; omega
      rw [e1, T.start_node h1, T.start_node (by omega)]
      simp only [T.stk, List.getElem?_cons_succ]
      rw [stk_pair r (off + l.size + 1) j h1]
      congr 2 <;> omega
theorem start_anti : ∀ (t : T) (j : Nat), j + 1 ≤ t.runs → t.start (j + 1) < t.start j
  | .nil, _, h => by simp [T.runs] at h
  | .node l r, j, h => by
    by_cases e : j = r.runs
    · subst e
      have e1 : (T.node l r).runs = r.runs + 1 := by simp [T.runs]; omega
      rw [← e1, T.start_eq, T.start_node (Nat.le_refl _), T.start_eq]
      omega
    · have h1 : j + 1 ≤ r.runs := by simp [T.runs] at h; omega
      rw [T.start_node h1, T.start_node (by omega)]
      have := start_anti r j h1
      omega
/-- the flushes of [a, b) -/
def seg (a b : Nat) : List Nat := List.range' a (b - a)
theorem seg_app {a b c : Nat} (h1 : a ≤ b) (h2 : b ≤ c) : seg a b ++ seg b c = seg a c := by
  unfold seg
  have := List.range'_append_1 (s := a) (m := b - a) (n := c - b)
  rw [show a + (b - a) = b by omega, show b - a + (c - b) = c - a by omega] at this
  exact this
theorem seg_one (a : Nat) : seg a (a + 1) = [a] := by
  unfold seg
  rw [show a + 1 - a = 1 by omega]; rfl
theorem seg_nil (a : Nat) : seg a a = [] := by unfold seg; rw [Nat.sub_self]; rfl
theorem seg_len (a b : Nat) : (seg a b).length = b - a := by unfold seg; rw [List.length_range']
theorem seg_at {a b k : Nat} (h : a + k < b) : (seg a b)[k]? = some (a + k) := by
  unfold seg
  rw [List.getElem?_range' (by omega)]
  simp
theorem stk_take_succ {t : T} {j : Nat} (off : Nat) (h : j + 1 ≤ t.runs) : (t.stk off).take (t.runs - j) = (t.stk off).take (t.runs - (j + 1)) ++ [(off + t.start (j + 1), off + t.start j)] := by
  rw [show t.runs - j = (t.runs - (j + 1)) + 1 by omega, List.take_add_one, stk_pair t off j h]; rfl
/-- adjacent, from off on -/
theorem stk_starts : ∀ (t : T) (off : Nat), (t.stk off).map (·.1) = (off :: (t.stk off).map (·.2)).dropLast
  | .nil, _ => rfl
  | .node l r, off => by
    have ih := stk_starts r (off + l.size + 1)
    simp only [T.stk, List.map_cons]
    rw [ih]; rfl
theorem stk_stops : ∀ (t : T) (off : Nat), (off :: (t.stk off).map (·.2)).getLast? = some (off + t.size)
  | .nil, off => by simp [T.stk, T.size]
  | .node l r, off => by
    have ih := stk_stops r (off + l.size + 1)
    simp only [T.stk, List.map_cons, T.size]
    rw [List.getLast?_cons_cons, ih]
    congr 1; omega
theorem stk_lt : ∀ (t : T) (off : Nat) (p : Nat × Nat), p ∈ t.stk off → off ≤ p.1 ∧ p.1 < p.2 ∧ p.2 ≤ off + t.size
  | .nil, _, _, h => by simp [T.stk] at h
  | .node l r, off, p, h => by
    simp only [T.stk] at h
    rcases List.mem_cons.mp h with rfl | h
    · simp only [T.size]; omega
    · have := stk_lt r _ p h
      simp only [T.size]; omega
end MB

set_option maxHeartbeats 4000000
namespace MB
open PySem PySem.Spec PyProof.Rows L2

/-! ### great powers -/
def CPowW (i j : Int) : Prop := 0 ≤ j ∧ (Builtin.Int.intBits i : Int) * j ≤ 2 ^ 27
theorem op_powW {X : Cx} : OpR X (binaryOp .Pow) (rI CPowW fun i j => .int (i ^ j.toNat)) := opI fun _ _ _ _ _ _ _ hc q => pow_int hc.1 hc.2 q

/-! ### xs[i] op= e -/
theorem get_list {X : Cx} : PGet X (rIxL X.K) := by
  intro pins s σ H x y v u Q I rx ry h
  obtain ⟨p, xs, i, z, rfl, rfl, hq, he, q⟩ := h
  cases rx
  obtain ⟨t, rfl⟩ := ry
  obtain ⟨its, r, pl, hz⟩ := I.list hq
  obtain ⟨j, h1, h2, h3, h4, h5⟩ := atI_get he
  obtain ⟨w, ew, rw'⟩ := r.get h2
  have hl := r.length
  have hn := line63
  have fin : EP X pins σ Q w s := ⟨z, H, I, rw', q⟩
  by_cases h0 : 0 ≤ i
  · have hj : i.toNat = j := by
      rw [seqIndex_of h0 h5] at h1
      exact Option.some.inj h1
    exact getItem_listL pl.isList h0 (by omega) (by rw [hj]; exact ew) fin
  · have hj : (i + (its.toArray.size : Int)).toNat = j := by
      rw [seqIndex_neg (by omega) h4] at h1
      rw [List.size_toArray, ← hl]
      exact Option.some.inj h1
    exact wpAny_getItem_list_neg pl.isList (by omega) (by rw [List.size_toArray] <;> omega) (by omega) (by rw [hj]; simpa using ew) fin

/-! ### sum of a tuple of ints -/
theorem ints_at : ∀ {ns : List Int} {its : List Value}, Vals (ns.map V.int) its → ∀ (i : Nat) (v : Value), its[i]? = some v → ∃ t, v = .int (ns.getD i 0) t
  | [], _, .nil, i, v, h => by simp at h
  | n :: ns, u :: us, .cons r rr, 0, v, h => by
    obtain ⟨t, rfl⟩ := r
    simp at h
    exact ⟨t, by simp [h]⟩
  | n :: ns, u :: us, .cons r rr, i + 1, v, h => by
    have := ints_at rr i v (by simpa using h)
    simpa using this
theorem preSum_getD (ns : List Int) : ∀ k, k ≤ ns.length → preSum (fun i => ns.getD i 0) k = (ns.take k).sum
  | 0, _ => by simp [preSum]
  | k + 1, h => by
    have e : ns[k]? = some (ns.getD k 0) := by
      rw [List.getElem?_eq_getElem (by omega), List.getD_eq_getElem?_getD, List.getElem?_eq_getElem (by omega)]
      rfl
    rw [preSum, preSum_getD ns k (by omega), L2.sum_take e]
def rSumT (K : PySem.W.Frag) : List V → Hp → VK → Prop := fun xs H Q => ∃ (a : Addr) (ns : List Int), xs = [V.ref a] ∧ SqT K H a (ns.map V.int) ∧ Q (.int ns.sum) H
theorem cr_sumT {X : Cx} (hc : X.calm = true) : CallR X (.builtin "sum") (rSumT X.K) := by
  intro pins s σ H vs us Q I r h
  obtain ⟨a, ns, rfl, hs, q⟩ := h
  obtain ⟨its, rv, hl, _⟩ := I.tuple hs
  rw [Vals.ref1 r]
  have hT : s.heap.IsTuple a its.toArray := hl
  have hlt : a < s.heap.objs.size := by obtain ⟨_, e, _⟩ := hl; exact Heap.lt_size e
  refine PySem.call_sum_walkG (wpAny_pyIter_tuple hT ?_)
  refine ⟨s.heap.objs.size, [s.heap.objs.size, a], [s.heap.objs.size], its.toArray.size, _, _, fun i => ns.getD i 0, rfl, Walks.tuple (A := X.A.in1) (I.ok.hd hc) _ a (Nat.ne_of_lt hlt) its.toArray, ⟨⟨_, Heap.get?_push_size _ rfl, rfl, rfl⟩, hT.at fun o e => Heap.get?_push_of_some _ e⟩, fun b hb => ?_, fun i v hv => ints_at rv i v (by simpa using hv), fun h' tk t' hk => ?_⟩
  · show b < (s.heap.push _).objs.size
    rw [Heap.size_push]
    have e : b = s.heap.objs.size ∨ b = a := by simpa using hb
    rcases e with e | e
    · rw [e]; exact Nat.lt_succ_self _
    · rw [e]; exact Nat.lt_succ_of_lt hlt
  · have el : its.toArray.size = ns.length := by rw [List.size_toArray, ← rv.length, List.length_map]
    rw [el, preSum_getD ns _ (Nat.le_refl _), List.take_length]
    refine ⟨.int ns.sum, H, I.kept fun b o e => hk b o ?_ (Heap.get?_push_of_some _ e), ⟨_, rfl⟩, q⟩
    have := Heap.lt_size e
    simp only [List.mem_singleton]
    exact Nat.ne_of_lt this

/-! ### enumerate(tuple) -/
set_option maxHeartbeats 4000000 in
theorem meets_enumerate_newT (l : Addr) (items : Array Value) (n : Nat) (dct : Option Addr) (sl : Array (Option Value)) :
    Meets (Builtin.«enumerate.__new__» ⟨[.type "enumerate", .ref l], []⟩) (fun _ R s => s.heap.get? l = some { cls := .type "tuple", dict := dct, data := .seq items n, slots := sl } ∧
      R (.ok (.ret (.ref (s.heap.push { cls := .type "tuple_iterator", data := .fields #[.ref l, .int 0 0] }).objs.size)))
        { s with heap := (s.heap.push { cls := .type "tuple_iterator", data := .fields #[.ref l, .int 0 0] }).push { cls := .type "enumerate", data := .fields #[.none, .bool false, .ref s.heap.objs.size, rawInt 0, .none, .none] } }) :=
  .of_wp fun prog w A R s h => by
    obtain ⟨hp, g, d, tk, os⟩ := s; obtain ⟨hl, h⟩ := h
    have hsub := sub_enumerate
    have hL : Heap.IsTuple (Shared.heap ⟨hp, g, d, tk, os⟩) l items := ⟨_, hl, rfl, n, rfl⟩
    wp_walk using AutoSeq1.wpAny_loadPart' hl
    refine wpAny_stack_any fun st => wpAny_pure ?_
    split
    · rename_i c _ _ _ _ _
      cases (c == Value.type "enumerate")
      · wp_walk using AutoSeq1.wpAny_loadPart' hl, wpAny_pyIter_tuple hL
        exact ⟨_, rfl, h⟩
      · wp_walk using AutoSeq1.wpAny_loadPart' hl, wpAny_pyIter_tuple hL
        exact ⟨_, rfl, h⟩
    · wp_walk using AutoSeq1.wpAny_loadPart' hl, wpAny_pyIter_tuple hL
      exact ⟨_, rfl, h⟩
section
variable {prog : Program} {w : World} {A : Around} {E : Value → Shared → Prop} {s : Shared}
theorem call_enumerate_tuple {l : Addr} {items : Array Value} {Q : Value → Shared → Prop} (hL : s.heap.IsTuple l items)
    (h : ∀ h', IsEnum h' (s.heap.objs.size + 1) s.heap.objs.size 0 .none → h'.IsTupleIter s.heap.objs.size l 0 → h'.objs.size = s.heap.objs.size + 2 →
      (∀ b o, s.heap.get? b = some o → h'.get? b = some o) → Q (.ref (s.heap.objs.size + 1)) { s with heap := h' }) :
    wpAny (model prog w) A (call (.type "enumerate") [.ref l]) Q E s := by
  obtain ⟨⟨c, dct, dt, sl⟩, hl, hc, n, hd⟩ := hL
  replace hc : c = .type "tuple" := hc
  replace hd : dt = .seq items n := hd
  subst hc hd
  refine callType_new F.called_enumerate (by decide) (F.typeCall_enumerate_1 _) (F.newCall_enumerate_1 _) (fun obj => F.args_object_init_2 obj _) F.entry_enumerate_new
    (meets_enumerate_newT l items n dct sl) ⟨hl, ?_⟩
  have hz : (s.heap.push { cls := .type "tuple_iterator", data := .fields #[.ref l, .int 0 0] }).objs.size = s.heap.objs.size + 1 := Heap.size_push ..
  show _ ∧ _
  rw [hz]
  have he : IsEnum ((s.heap.push { cls := .type "tuple_iterator", data := .fields #[.ref l, .int 0 0] }).push
      { cls := .type "enumerate", data := .fields #[.none, .bool false, .ref s.heap.objs.size, rawInt 0, .none, .none] }) (s.heap.objs.size + 1) s.heap.objs.size 0 .none := by
    have := Heap.get?_push_size (s.heap.push { cls := .type "tuple_iterator", data := .fields #[.ref l, .int 0 0] })
      (o := { cls := .type "enumerate", data := .fields #[.none, .bool false, .ref s.heap.objs.size, rawInt 0, .none, .none] }) rfl
    rw [hz] at this; exact this
  refine ⟨⟨_, he, rfl⟩, h _ he ⟨_, Heap.get?_push_of_some _ (Heap.get?_push_size _ rfl), rfl, rfl⟩ (by rw [Heap.size_push, hz]) fun b o x => Heap.get?_push_of_some _ (Heap.get?_push_of_some _ x)⟩
end
def IteT (K : PySem.W.Frag) (a : Addr) : It :=
  ⟨fun i H => ∃ (xs : List V) (x : V), SqT K H a xs ∧ xs[i]? = some x, fun i H v H' => ∃ T x, v = .ref T ∧ H T = none ∧ H' = upd H T (.tup [.int (i : Nat), x]) ∧ ∀ xs, SqT K H a xs → xs[i]? = some x, fun i H => ∃ xs : List V, SqT K H a xs ∧ xs.length = i⟩
theorem tup_ne {h : Heap} {a it : Addr} {items : Array Value} {i : Nat} (h1 : h.IsTuple a items) (h2 : h.IsTupleIter it a i) : a ≠ it := fun e => by
  obtain ⟨o, ho, hc, n, hd⟩ := h1
  obtain ⟨o', ho', hc', hd'⟩ := h2
  rw [e] at ho
  rw [ho] at ho'
  cases ho'
  rw [hd] at hd'
  cases hd'
theorem turn_enumT {P : Program} {w : World} {K : PySem.W.Frag} {elts : List Expr} {kk : Nat} {tpos : Pos} (a e it : Addr) (hae : a ≠ e) :
    Turn P w K (.Tuple elts kk tpos) (IteT K a) [e, it] e (fun i h => (∃ old, IsEnum h e it ((i : Nat) : Int) old) ∧ h.IsTupleIter it a i ∧ e ≠ it) where
  mem := by simp
  obj := fun i h st b hb => by
    obtain ⟨⟨old, he⟩, ⟨o, ho, hc, hd⟩, _⟩ := st
    have e' : b = e ∨ b = it := by simpa using hb
    rcases e' with z | z
    · rw [z]; exact ⟨_, he, fun v q => nomatch q⟩
    · rw [z]; exact ⟨o, ho, fun v q => by rw [hd] at q; cases q⟩
  keep := fun i h h' st k => let ⟨⟨old, he⟩, hi, hne⟩ := st; ⟨⟨old, k e (by simp) _ he⟩, hi.at fun o q => k it (by simp) o q, hne⟩
  item := by
    intro X hP hw hK hc i pins s σ H E I hf st hg
    subst hP hw hK
    obtain ⟨⟨old, he⟩, hit, hne⟩ := st
    obtain ⟨xs, x, hq, hx⟩ := hg
    obtain ⟨its, rv, p, hz⟩ := I.tuple hq
    have p : s.heap.IsTuple a its.toArray := p
    have hat : a ≠ it := tup_ne p hit
    have hel : e < s.heap.objs.size := Heap.lt_size he
    have hil : it < s.heap.objs.size := by obtain ⟨_, q, _⟩ := hit; exact Heap.lt_size q
    have hlen : i < its.toArray.size := by
      rw [List.size_toArray, ← rv.length]; exact (List.getElem?_eq_some_iff.mp hx).1
    refine wpAny_pyNext_enum_itemD (Draws.tuple (prog := X.prog) (w := X.w) (A := X.A.in1) (I.ok.hd hc) it a hat its.toArray) he ⟨hit, p⟩ hlen hne (by simp; exact ⟨hne, fun z => hae z.symm⟩) fun u h' tk hu ho hit' hT hsz hk => ?_
    obtain ⟨u', hu', ru'⟩ := rv.get hx
    have eu : u = u' := by
      have h1 : its[i]? = some u := by simpa using hu
      rw [h1] at hu'; exact Option.some.inj hu'
    subst eu
    refine ⟨_, rfl, wpAny_letOwnedTupleGo_enum (s := { s with heap := h', toks := tk + 1 }) ho fun h'' he' sb => ?_⟩
    have hT2 : h''.get? s.heap.objs.size = some { cls := .type "tuple", data := .seq #[.int i tk, u] } := (sb.2 _ (Nat.ne_of_gt hel)).trans hT
    have new : ObjOk X.prog X.w (upd H s.heap.objs.size (.tup [.int (i : Nat), x])) h'' s.heap.objs.size (.tup [.int (i : Nat), x]) :=
      ⟨by show 2 ≤ sizeLine; decide, [.int i tk, u], .cons ⟨_, rfl⟩ (.cons ru' .nil), ⟨_, hT2, rfl, _, rfl⟩⟩
    have I1 : Inv X pins σ (upd H s.heap.objs.size (.tup [.int (i : Nat), x])) { s with heap := h'', toks := tk + 1 } :=
      I.turnedNew (ch := [e, it]) (fun b ob hb q => (sb.2 b (fun z => hb (by simp [z]))).trans (hk b ob (fun z => hb (by simp [z])) (fun z => hb (by simp [z])) q)) hf (Nat.le_refl _) new
    refine ⟨.ref s.heap.objs.size, _, I1, rfl, ⟨_, x, rfl, I.hok.fresh (Nat.le_refl _), rfl, fun ys hy => by rw [I.tuple_inj hy hq]; exact hx⟩, ⟨⟨u, ?_⟩, hit'.1.at fun o q => (sb.2 it (Ne.symm hne)).trans q, hne⟩, fun b hb => ?_⟩
    · have e1 : ((i + 1 : Nat) : Int) = (i : Int) + 1 := by omega
      rw [e1]; exact he'
    · have hb' : b < s.heap.objs.size := by
        have e' : b = e ∨ b = it := by simpa using hb
        rcases e' with z | z
        · rw [z]; exact hel
        · rw [z]; exact hil
      rw [upd_ne (Nat.ne_of_lt hb')]
      exact (hf b hb).1
  done := by
    intro X hP hw hK hc i pins s σ H E I hf st hg
    subst hP hw hK
    obtain ⟨⟨old, he⟩, hit, hne⟩ := st
    obtain ⟨xs, hq, hx⟩ := hg
    obtain ⟨its, rv, p, hz⟩ := I.tuple hq
    have p : s.heap.IsTuple a its.toArray := p
    have hat : a ≠ it := tup_ne p hit
    obtain ⟨f0, f1, f2, f3, f4, f5⟩ := hf it (by simp)
    have hlen : its.toArray.size = i := by rw [List.size_toArray, ← rv.length, hx]
    refine wpAny_pyNext_enum_endD (Draws.tuple (prog := X.prog) (w := X.w) (A := X.A.in1) (I.ok.hd hc) it a hat its.toArray) he ?_ fun h' eb => ⟨rfl, I.turned (t' := s.toks) (fun b o hb q => eb b o hb q) f0 f1 f3 f4 f5⟩
    rw [hlen]
    exact ⟨hit, p⟩
  self := fun A i s Q E st h => let ⟨⟨_, he⟩, _⟩ := st; wpAny_pyIter_enum he h
def iEnumT (K : PySem.W.Frag) (ta : TA) : TI := fun σ H R => ta σ H fun vs H1 => ∃ a xs, vs = [.ref a] ∧ SqT K H1 a xs ∧ R (IteT K a) H1
theorem pi_enumT {X : Cx} {e : Expr} {ta : TA} {p pos tpos : Pos} {elts : List Expr} {kk : Nat} (hg : Gl X "enumerate") (hm : X.mg "enumerate" = none) (ha : PA X [e] ta) (hs : starEach [e] X.env = [(false, eval e X.env)] := by rfl) :
    PI X (.Tuple elts kk tpos) (.Call (.Name "enumerate" p) [e] [] pos) (iEnumT X.K ta) := by
  refine ⟨fun pins s σ H R I h => ?_⟩
  refine Call_ (ld_blt I hg hm boot_enumerate (PyProof.Rows.callWith_type1 (thn (ha.run pos pins s σ H _ I h) fun us s1 ⟨vs, H1, I1, r1, q1⟩ => ?_) hs rfl))
  obtain ⟨a, xs, ex, hq, q⟩ := q1
  subst ex
  cases r1 with
  | cons r rr =>
    cases rr
    cases r
    obtain ⟨its, rv, p', hz⟩ := I1.tuple hq
    have hlt : a < s1.heap.objs.size := by obtain ⟨_, e, _⟩ := p'; exact Heap.lt_size e
    refine call_enumerate_tuple p' fun h' he hit hsz hk => wpAny_pyIter_enum he ?_
    have I2 : Inv X pins σ H1 { s1 with heap := h' } := I1.kept (t' := s1.toks) hk
    refine ⟨s1.heap.objs.size + 1, [s1.heap.objs.size + 1, s1.heap.objs.size], _, _, H1, rfl, I2, turn_enumT a (s1.heap.objs.size + 1) s1.heap.objs.size (Nat.ne_of_lt (Nat.lt_succ_of_lt hlt)), ⟨⟨.none, he⟩, hit, Nat.succ_ne_self _⟩, fun b hb => ?_, q⟩
    have e' : b = s1.heap.objs.size + 1 ∨ b = s1.heap.objs.size := by simpa using hb
    have hle : s1.heap.objs.size ≤ b := by
      rcases e' with z | z
      · rw [z]; exact Nat.le_add_right _ _
      · rw [z]; exact Nat.le_refl _
    exact I1.fpOk hle (I1.hok.fresh hle)
theorem walk_enumT {K : PySem.W.Frag} {a : Addr} {xs : List V} : Walk (IteT K a) xs.length (fun H => SqT K H a xs) (YPair (fun i => some (.int (i : Nat))) (fun i => xs[i]?)) := by
  refine ⟨fun i H hi hG => ⟨xs, xs[i], hG, List.getElem?_eq_getElem hi⟩, fun H hG => ⟨xs, hG, rfl⟩, fun i H x H' hi hG y => ?_⟩
  obtain ⟨T, x, e1, e2, e3, e4⟩ := y
  exact ⟨T, _, x, e1, e2, e3, rfl, e4 xs hG⟩

/-! ### tuple.index of an int -/
theorem flat_ints (ns : List Int) : (ns.map V.int).all flatV = true := by
  rw [List.all_map]
  exact List.all_eq_true.mpr fun _ _ => rfl
theorem mt_tindex {X : Cx} : MtR X "tuple.index" (fun x xs H Q => ∃ p, ∃ ys : List Int, ∃ z j, x = .ref p ∧ xs = [.int z] ∧ SqT X.K H p (ys.map V.int) ∧ ys[j]? = some z ∧ (∀ m, m < j → ys[m]? ≠ some z) ∧ Q (.int (j : Nat)) H) := by
  intro pins s σ H x xs v us Q I rx rs h
  obtain ⟨p, ys, z, j, rfl, rfl, hq, hy, hno, q⟩ := h
  cases rx
  obtain ⟨u, rfl, t, rfl⟩ := vals1 rs
  obtain ⟨its, r, pl, hz⟩ := I.tuple hq
  obtain ⟨⟨cls, dd, dt, sl⟩, ho, hc, n, hd⟩ := pl
  simp only at hc hd
  subst hc
  subst hd
  have hl : its.toArray.size = ys.length := by rw [List.size_toArray, ← r.length, List.length_map]
  have hj : j < its.toArray.size := by rw [hl]; exact (List.getElem?_eq_some_iff.mp hy).1
  have at' : ∀ (m : Nat) (hm : m < its.toArray.size), ∃ y t', ys[m]? = some y ∧ its.toArray[m] = Value.int y t' := fun m hm => by
    have hm' : m < ys.length := by rw [← hl]; exact hm
    obtain ⟨w, hw, t', hw'⟩ := r.get (i := m) (x := .int ys[m]) (by simp [hm'])
    refine ⟨ys[m], t', List.getElem?_eq_getElem hm', ?_⟩
    have e := (List.getElem?_eq_some_iff.mp hw).2
    rw [← hw', ← e]
    simp
  refine call_meets PySem.F.slot_tuple_index ⟨_, ho, rfl⟩ PySem.F.entry_tuple_index (PySem.F.args_tuple_index_2 _ _) (TI.tuple_indexAt p its.toArray n dd sl (.int z t) (eqU (.int z)) j hj ?_ ?_)
    ⟨ho, fun w hw => mem_eqAt (x := .int z) ⟨t, rfl⟩ rfl r (flat_ints ys) w (by simpa using hw), ⟨.int (j : Nat), H, I.tok _, ⟨_, rfl⟩, q⟩⟩
  · obtain ⟨y, t', h1, h2⟩ := at' j hj
    rw [hy] at h1
    cases h1
    rw [h2]
    show (z == z) = true
    exact beq_self_eq_true z
  · intro m hm hmj
    obtain ⟨y, t', h1, h2⟩ := at' m hm
    rw [h2]
    show (y == z) = false
    exact beq_eq_false_iff_ne.mpr fun e => hno m hmj (e ▸ h1)

/-! ### rules by the written part K itself (for a comprehension's block) -/
def rLen (K : PySem.W.Frag) : List V → Hp → VK → Prop := fun xs H Q => ∃ p ys, xs = [.ref p] ∧ (SqL K H p ys ∨ SqT K H p ys) ∧ Q (.int ys.length) H
def rTupOf (K : PySem.W.Frag) : List V → Hp → VK → Prop := fun xs H Q => ∃ p ys, xs = [.ref p] ∧ ((SqL K H p ys ∧ ∀ l, H l = none → Q (.ref l) (upd H l (.tup ys))) ∨ (SqT K H p ys ∧ Q (.ref p) H))
def rListOf (K : PySem.W.Frag) : List V → Hp → VK → Prop := fun xs H Q => ∃ p ys, xs = [.ref p] ∧ (SqL K H p ys ∨ SqT K H p ys) ∧ ∀ l, H l = none → Q (.ref l) (upd H l (.lst ys))
section
variable {X : Cx} {K : PySem.W.Frag}
theorem k_len (hK : X.K = K) : CallR X (.builtin "len") (rLen K) := by subst hK; exact call_len_seq
theorem k_tupOf (hK : X.K = K) : CallR X (.type "tuple") (rTupOf K) := by subst hK; exact call_tuple_of
theorem k_listOf (hK : X.K = K) : CallR X (.type "list") (rListOf K) := by subst hK; exact call_list_of
theorem k_isi (hK : X.K = K) : CallR X (.builtin "isinstance") (rIsi K) := by subst hK; exact call_isi
theorem k_ixT (hK : X.K = K) : IxR X (rIxT K) := by subst hK; exact ix_tup
theorem k_ixL (hK : X.K = K) : IxR X (rIxL K) := by subst hK; exact ix_list
theorem k_slT (hK : X.K = K) : SlR X (rSlA K) := by subst hK; exact sl_tupA
theorem k_catT (hK : X.K = K) : OpR X (binaryOp .Add) (rCatA K) := by subst hK; exact op_catA
theorem k_sumT (hK : X.K = K) (hc : X.calm = true) : CallR X (.builtin "sum") (rSumT K) := by subst hK; exact cr_sumT hc
end

/-! ### a statement, then the rest, with a word between them -/
def tCut (t u : TS) : TS := fun D σ H => ∃ Mid : L2.St → Hp → Prop, t { D with nx := Mid } σ H ∧ ∀ σ' H', Mid σ' H' → u D σ' H'
theorem pss_cut {X : Cx} {st : Stmt} {rest : List Stmt} {t u : TS} (h1 : PS X st t) (h2 : PSs X rest u) : PSs X (st :: rest) (tCut t u) := by
  refine ⟨fun pins s σ H D I h => ?_⟩
  obtain ⟨Mid, hm, hu⟩ := h
  refine wpAny_execs_cons (thn (h1.run pins s σ H { D with nx := Mid } I hm) fun f s1 q => ?_)
  cases f with
  | next =>
    obtain ⟨σ', H', I', q⟩ := q
    exact h2.run pins s1 σ' H' D I' (hu σ' H' q)
  | ret v => exact q
  | brk => exact q
  | cont => exact q

/-! ### a tuple that is known to be plain; its method index -/
def rTupOfZ (K : PySem.W.Frag) : List V → Hp → VK → Prop := fun xs H Q => ∃ p ys, xs = [.ref p] ∧ SqL K H p ys ∧ ∀ l o, H l = none → o.dict = none → Q (.ref l) (upd H l (.frz o (.tup ys)))
theorem k_tupOfZ {X : Cx} {K : PySem.W.Frag} (hK : X.K = K) : CallR X (.type "tuple") (rTupOfZ K) := by
  subst hK
  intro pins s σ H xs us Q I r h
  obtain ⟨p, ys, rfl, hq, q⟩ := h
  obtain ⟨u, rfl, rx⟩ := vals1 r
  cases rx
  obtain ⟨its, r', pl, hz⟩ := I.list hq
  have hlen := r'.length
  refine call_tuple_list pl.isList (fun h' kp => ?_) (by simp only [List.size_toArray] <;> omega)
  have I1 : Inv X pins σ H { s with heap := h' } := I.kept (t' := s.toks) kp
  have I2 : Inv X pins σ (upd H h'.objs.size (.frz { cls := .type "tuple", data := .seq its.toArray } (.tup ys))) { s with heap := h'.push { cls := .type "tuple", data := .seq its.toArray } } :=
    I1.laid (t' := s.toks) (fun b o e => Heap.get?_push_of_some _ e) (Nat.le_refl _) (show ObjOk X.prog X.w _ _ _ (.frz _ (.tup ys)) from ⟨Heap.get?_push_size _ rfl, hz, its, r', IsTup.new _ _⟩)
  exact ⟨.ref h'.objs.size, _, I2, rfl, q _ _ (I1.hok.fresh (Nat.le_refl _)) rfl⟩
def tTM (r : V → List V → Hp → VK → Prop) (to : TE) (t : TA) : TE := fun σ H Q => to σ H fun x H1 => (∃ a ob xs, x = .ref a ∧ H1 a = some (.frz ob (.tup xs)) ∧ ob.dict = none) ∧ t σ H1 fun xs H2 => r x xs H2 Q
theorem pe_tm {X : Cx} {o e : Expr} {es : List Expr} {to : TE} {t : TA} {name : Str} {apos cpos : Pos} {id : String} {r : V → List V → Hp → VK → Prop} (slot : Slot "tuple" name id) (hty : typeOf (.builtin id) = pure (.type "method_descriptor")) (hm : MtR X id r) (ho : PE X o to) (ha : PA X (e :: es) t)
    (hbase : attributeBase o name X.env (eval o X.env) = eval o X.env := by rfl)
    (hfew : ((backTo cpos (starEach (e :: es) X.env)).all (fun x => !x.1) && (backToKw cpos (keywordEach [] X.env)).all (fun x => x.1.isSome)
      && decide ((e :: es).length + ([] : List Keyword).length + (if ([] : List Keyword).isEmpty then 0 else 1) < 30)) = true := by rfl)
    (hline : (apos.endLine == cpos.line) = true := by rfl) (hs : starEach (e :: es) X.env = (false, eval e X.env) :: starEach es X.env := by rfl) (hplain : (backTo cpos (starEach es X.env)).any (·.1) = false := by rfl) :
    PE X (.Call (.Attribute o name apos) (e :: es) [] cpos) (tTM r to t) := by
  refine ⟨fun pins s σ H Q I h => ?_⟩
  refine wpAny_Call_method_late hbase hfew hline rfl (thn (ho.run pins s σ H _ I h) fun v s1 ⟨x, H1, I1, r1, ty, q1⟩ => ?_)
  obtain ⟨a, ob, xs, rfl, hf, hd⟩ := ty
  cases r1
  obtain ⟨hg, hz, its, rv, o', ho', hc, _⟩ := (show ObjOk X.prog X.w H1 s1.heap a (.frz ob (.tup xs)) from I1.hok a _ hf)
  have hc' : ob.cls = .type "tuple" := by rw [hg] at ho'; cases ho'; exact hc
  refine ⟨"tuple", id, PySem.F.plainAttrs_tuple, slot, hty, ⟨ob, hg, hc'⟩, fun b e => by cases e; exact ⟨ob, hg, hd⟩, ?_⟩
  have hA := ha.run cpos pins s1 σ H1 _ I1 q1
  rw [hs] at hA ⊢
  refine Calls.callWith_builtin (by show (false || (backTo cpos (starEach es X.env)).any (·.1)) = false; rw [hplain] <;> rfl) (Calls.evalArgs_plain ?_)
  exact thn hA fun us s2 ⟨vs, H2, I2, r2, q2⟩ => hm pins s2 σ H2 (.ref a) vs (.ref a) us Q I2 rfl r2 q2

/-! ### places in the text -/
def xAsg : Stmt → Expr
  | .Assign _ e _ => e
  | _ => .Constant .none 0 ⟨0, 0, 0, 0⟩
def xArg (i : Nat) : Expr → Expr
  | .Call _ as _ _ => as.getD i (.Constant .none 0 ⟨0, 0, 0, 0⟩)
  | _ => .Constant .none 0 ⟨0, 0, 0, 0⟩
def xLcSc : Expr → Scope
  | .ListComp _ _ sc _ => sc
  | _ => { kind := .function, names := [], isGenerator := false, isCoroutine := false }
/-! ### readings are monotone -/
theorem mono_pair {K : PySem.W.Frag} {n i j : Nat} (x : V) (σ' : L2.St) (H' : Hp) (Q Q' : L2.St → Hp → Prop) (h : ∀ a b, Q a b → Q' a b) (e : gTup K n (gCons (gName i) (gCons (gName j) gNil)) x σ' H' Q) : gTup K n (gCons (gName i) (gCons (gName j) gNil)) x σ' H' Q' := by
  obtain ⟨a, xs, e1, e2, e3, v, r, e4, v', r', e5, e6, q⟩ := e
  exact ⟨a, xs, e1, e2, e3, v, r, e4, v', r', e5, e6, h _ _ q⟩

section
variable {X : Cx} {K : PySem.W.Frag}
theorem k_piL {tg l : Expr} {tl : TE} (hK : X.K = K) (hl : PE X l tl) : PI X tg l (iList K tl) := by subst hK; exact pi_list hl
theorem k_piT {tg l : Expr} {tl : TE} (hK : X.K = K) (hl : PE X l tl) : PI X tg l (iTup K tl) := by subst hK; exact pi_tup hl
theorem k_pgT2 {x y : Str} {px py : Pos} {k : Nat} {pos : Pos} {t1 t2 : TG} (hK : X.K = K) (hc : X.calm = true) (h1 : PG X (.Name x px) t1) (h2 : PG X (.Name y py) t2) : PG X (.Tuple [.Name x px, .Name y py] k pos) (gTup K 2 (gCons t1 (gCons t2 gNil))) := by
  subst hK
  exact pg_tup hc (pgs_cons h1 (pgs_cons h2 pgs_nil))
end
end MB

set_option maxHeartbeats 4000000
namespace MB
open PySem PySem.Spec PyProof.Rows L2

/-! ### heaps -/
theorem same_upd {H : Hp} {p : Addr} {o : HO} (h : H p = none) : Same H (upd H p o) := fun b x e => by
  rw [upd_ne (ne_of_none e h)]
  exact e
/-- an object that was not tracked may change -/
theorem Same.mut {H H' : Hp} {p : Addr} {o : HO} (s : Same H H') (h : H p = none) : Same H (upd H' p o) := fun b x e => by
  rw [upd_ne (ne_of_none e h)]
  exact s _ _ e
theorem Same.tup {K : PySem.W.Frag} {H H' : Hp} {a : Addr} {xs : List V} (e : Same H H') (h : SqT K H a xs) : SqT K H' a xs := by
  rcases h with (h | ⟨o, h⟩) | h
  · exact .inl (.inl (e _ _ h))
  · exact .inl (.inr ⟨o, e _ _ h⟩)
  · exact .inr h
theorem Same.tupF {K : PySem.W.Frag} {H H' : Hp} {a : Addr} {o : Obj} {xs : List V} (e : Same H H') (h : H a = some (.frz o (.tup xs))) : SqT K H' a xs := .inl (.inr ⟨o, e _ _ h⟩)
theorem Dp.same {K : PySem.W.Frag} {H H' : Hp} (e : Same H H') : ∀ {v : V} {d : PyData}, Dp K H v d → Dp K H' v d := by
  intro v d h
  refine Dp.rec (motive_1 := fun v d _ => Dp K H' v d) (motive_2 := fun vs ds _ => DpAll K H' vs ds) ?_ ?_ ?_ ?_ ?_ ?_ ?_ ?_ h
  · exact .non
  · intro b; exact .bl b
  · intro i; exact .int i
  · intro x; exact .str x
  · intro a xs ds hs _ ih; exact .lst (e.seq hs) ih
  · intro a xs ds hs _ ih; exact .tup (Same.tup e hs) ih
  · exact .nil
  · intro v vs d ds _ _ h1 h2; exact .cons h1 h2
theorem DpAll.get {K : PySem.W.Frag} {H : Hp} : ∀ {vs : List V} {ds : List PyData}, DpAll K H vs ds → ∀ {i : Nat} {d : PyData}, ds[i]? = some d → ∃ v, vs[i]? = some v ∧ Dp K H v d
  | _, _, .nil, i, d, h => by simp at h
  | _, _, .cons a b, 0, d, h => by
    simp at h; subst h
    exact ⟨_, rfl, a⟩
  | _, _, .cons a b, i + 1, d, h => by
    obtain ⟨v, h1, h2⟩ := DpAll.get b (i := i) (d := d) (by simpa using h)
    exact ⟨v, by simpa using h1, h2⟩
theorem DpAll.len {K : PySem.W.Frag} {H : Hp} : ∀ {vs : List V} {ds : List PyData}, DpAll K H vs ds → vs.length = ds.length
  | _, _, .nil => rfl
  | _, _, .cons a b => by simp [DpAll.len b]
theorem DpAll.take {K : PySem.W.Frag} {H : Hp} : ∀ {vs : List V} {ds : List PyData} (n : Nat), DpAll K H vs ds → DpAll K H (vs.take n) (ds.take n)
  | _, _, 0, _ => .nil
  | _, _, _ + 1, .nil => .nil
  | _, _, n + 1, .cons a b => .cons a (DpAll.take n b)
theorem DpAll.append {K : PySem.W.Frag} {H : Hp} : ∀ {vs ws : List V} {ds es : List PyData}, DpAll K H vs ds → DpAll K H ws es → DpAll K H (vs ++ ws) (ds ++ es)
  | _, _, _, _, .nil, s => s
  | _, _, _, _, .cons a b, s => .cons a (DpAll.append b s)
theorem DpAll.same {K : PySem.W.Frag} {H H' : Hp} (e : Same H H') : ∀ {vs : List V} {ds : List PyData}, DpAll K H vs ds → DpAll K H' vs ds
  | _, _, .nil => .nil
  | _, _, .cons a b => .cons (Dp.same e a) (DpAll.same e b)
theorem dp_ints {K : PySem.W.Frag} {H : Hp} : ∀ ns : List Int, DpAll K H (ns.map V.int) (ns.map PyData.int)
  | [] => .nil
  | n :: ns => .cons (.int n) (dp_ints ns)
theorem ty_tup {K : PySem.W.Frag} {H : Hp} {a : Addr} {xs : List V} (h : SqT K H a xs) : TyX K H (.ref a) (.type "tuple") := by
  rcases h with (h | ⟨o, h⟩) | ⟨o, its, n, h, hc, _⟩
  · exact .base (.tup h)
  · exact .fTuple h
  · exact .kTuple h hc

/-! ### lists of numbers -/
def vi (p : List Nat) : List V := p.map fun (m : Nat) => V.int (m : Int)
def ci (p : List Nat) : List Int := p.map fun (m : Nat) => (m : Int)
theorem vi_ci (p : List Nat) : vi p = (ci p).map V.int := by simp [vi, ci]
theorem vi_len (p : List Nat) : (vi p).length = p.length := by simp [vi]
theorem vi_get {p : List Nat} {i m : Nat} (h : p[i]? = some m) : (vi p)[i]? = some (.int (m : Int)) := by simp [vi, h]
theorem vi_app (p q : List Nat) : vi (p ++ q) = vi p ++ vi q := by simp [vi]
theorem at_vi {p : List Nat} {i m : Nat} (h : p[i]? = some m) : atI (vi p) (i : Int) = some (.int (m : Int)) := atI_nat (vi_get h)
theorem sz60 {n : Nat} (h : n ≤ 100000) : n ≤ sizeLine := Nat.le_trans h (by decide)
theorem sz61 {n : Nat} (h : n ≤ 100000) : n < sizeLine := Nat.lt_of_le_of_lt h (by decide)
theorem decT {c : Prop} [Decidable c] (h : c) {A B : Prop} (a : A) : if decide c = true then A else B := by
  rw [if_pos (decide_eq_true h)]; exact a
theorem decF {c : Prop} [Decidable c] (h : ¬ c) {A B : Prop} (b : B) : if decide c = true then A else B := by
  rw [if_neg (by simp [h])]; exact b

/-! ### data of tuples: no list within -/
inductive Tf : PyData → Prop
  | non : Tf .none
  | bl (b : Bool) : Tf (.bool b)
  | int (i : Int) : Tf (.int i)
  | str (x : Str) : Tf (.str x)
  | tup {ds : List PyData} : (∀ d, d ∈ ds → Tf d) → Tf (.tuple ds)
theorem Tf.items {ds : List PyData} (h : Tf (.tuple ds)) : ∀ d, d ∈ ds → Tf d := by
  cases h with
  | tup h => exact h
theorem tf_ints (ns : List Int) : ∀ d, d ∈ ns.map PyData.int → Tf d := fun d h => by
  obtain ⟨i, _, rfl⟩ := List.mem_map.mp h
  exact .int i
/-- all tuples stay -/
def Keep (K : PySem.W.Frag) (H H' : Hp) : Prop := ∀ a xs, SqT K H a xs → SqT K H' a xs
theorem Keep.of {K : PySem.W.Frag} {H H' : Hp} (s : Same H H') : Keep K H H' := fun _ _ h => Same.tup s h
theorem Keep.trans {K : PySem.W.Frag} {H H1 H2 : Hp} (a : Keep K H H1) (b : Keep K H1 H2) : Keep K H H2 := fun _ _ h => b _ _ (a _ _ h)
theorem Keep.refl {K : PySem.W.Frag} {H : Hp} : Keep K H H := fun _ _ h => h
/-- all but the list at l stay -/
def But (l : Addr) (H H' : Hp) : Prop := ∀ b o, b ≠ l → H b = some o → H' b = some o
theorem But.refl {l : Addr} {H : Hp} : But l H H := fun _ _ _ h => h
theorem But.trans {l : Addr} {H H1 H2 : Hp} (a : But l H H1) (b : But l H1 H2) : But l H H2 := fun c o n h => b c o n (a c o n h)
theorem But.of {l : Addr} {H H' : Hp} (s : Same H H') : But l H H' := fun c o _ h => s c o h
theorem But.upd {l : Addr} {H : Hp} {o : HO} : But l H (L2.upd H l o) := fun c u n h => by rw [upd_ne n]; exact h
theorem But.keep {K : PySem.W.Frag} {l : Addr} {H H' : Hp} {ys : List V} (s : But l H H') (hl : H l = some (.lst ys)) : Keep K H H' := fun a xs h => by
  rcases h with (h | ⟨o, h⟩) | h
  · exact .inl (.inl (s _ _ (fun e => by rw [e, hl] at h; cases h) h))
  · exact .inl (.inr ⟨o, s _ _ (fun e => by rw [e, hl] at h; cases h) h⟩)
  · exact .inr h
theorem But.same {l : Addr} {H0 H H' : Hp} (s : Same H0 H) (b : But l H H') (n : H0 l = none) : Same H0 H' := fun c o e => b c o (ne_of_none e n) (s c o e)
theorem Dp.keep {K : PySem.W.Frag} {H H' : Hp} (e : Keep K H H') : ∀ {v : V} {d : PyData}, Tf d → Dp K H v d → Dp K H' v d := by
  intro v d t h
  refine Dp.rec (motive_1 := fun v d _ => Tf d → Dp K H' v d) (motive_2 := fun vs ds _ => (∀ d, d ∈ ds → Tf d) → DpAll K H' vs ds) ?_ ?_ ?_ ?_ ?_ ?_ ?_ ?_ h t
  · intro _; exact .non
  · intro b _; exact .bl b
  · intro i _; exact .int i
  · intro x _; exact .str x
  · intro a xs ds hs _ ih t; cases t
  · intro a xs ds hs _ ih t; exact .tup (e _ _ hs) (ih t.items)
  · intro _; exact .nil
  · intro v vs d ds _ _ h1 h2 t; exact .cons (h1 (t _ (List.mem_cons_self ..))) (h2 fun d hd => t d (List.mem_cons_of_mem _ hd))
theorem DpAll.keep {K : PySem.W.Frag} {H H' : Hp} (e : Keep K H H') : ∀ {vs : List V} {ds : List PyData}, (∀ d, d ∈ ds → Tf d) → DpAll K H vs ds → DpAll K H' vs ds
  | _, _, _, .nil => .nil
  | _, _, t, .cons a b => .cons (Dp.keep e (t _ (List.mem_cons_self ..)) a) (DpAll.keep e (fun d hd => t d (List.mem_cons_of_mem _ hd)) b)
theorem dp_ints_inv {K : PySem.W.Frag} {H : Hp} : ∀ {ns : List Int} {vs : List V}, DpAll K H vs (ns.map PyData.int) → vs = ns.map V.int
  | [], _, .nil => rfl
  | n :: ns, _, .cons a b => by
    cases a
    rw [dp_ints_inv b]
    rfl
theorem Dp.tupInv {K : PySem.W.Frag} {H : Hp} {v : V} {ds : List PyData} (h : Dp K H v (.tuple ds)) : ∃ a xs, v = .ref a ∧ SqT K H a xs ∧ DpAll K H xs ds := by
  cases h with
  | tup h1 h2 => exact ⟨_, _, rfl, h1, h2⟩
theorem Dp.intsInv {K : PySem.W.Frag} {H : Hp} {v : V} {ns : List Int} (h : Dp K H v (.tuple (ns.map PyData.int))) : ∃ a, v = .ref a ∧ SqT K H a (ns.map V.int) := by
  obtain ⟨a, xs, e, h1, h2⟩ := Dp.tupInv h
  rw [dp_ints_inv h2] at h1
  exact ⟨a, e, h1⟩

/-! ### a comprehension that gives an item at each turn -/
theorem lc_all {K : PySem.W.Frag} {J : It} {n : Nat} {G : Hp → Prop} {Y : Nat → Hp → V → Hp → Prop} (w : Walk J n G Y) {g : TG} {tt : TT} {te : TE} {vs : List Nat} {σ : L2.St} {H1 : Hp} {D : Addr} {Qd : Hp → Prop}
    (ds : List PyData) (hl : ds.length = n) (ht : ∀ d, d ∈ ds → Tf d) (hn : n ≤ 1000) (hD : H1 D = none) (hG : ∀ H, Same H1 H → G H)
    (hs : ∀ i x H H', i < n → Same H1 H → Y i H x H' → ∀ d, ds[i]? = some d → ∀ R : V → Hp → Prop, (∀ y H4, Same H H4 → Dp K H4 y d → R y H4) →
      g x (wipe σ vs) H' fun σ2 H2 => wipe σ2 vs = wipe σ vs ∧ tt σ2 H2 fun b H3 => b = true ∧ te σ2 H3 R)
    (hd : ∀ H acc, Same H1 H → H D = some (.lst acc) → DpAll K H acc ds → Qd H)
    (mg : ∀ x σ' H' (Q Q' : L2.St → Hp → Prop), (∀ a b, Q a b → Q' a b) → g x σ' H' Q → g x σ' H' Q') (mt : ∀ σ' H' (Q Q' : Bool → Hp → Prop), (∀ a b, Q a b → Q' a b) → tt σ' H' Q → tt σ' H' Q') :
    ∃ W : Nat → Nat → Hp → Prop, (∃ m, W 0 m (upd H1 D (.lst []))) ∧ ∀ i m H, W i m H →
      (J.stop i H ∧ Qd H) ∨ (J.go i H ∧ ∃ Nx : Hp → Prop, (∀ H', Nx H' → ∃ m', m' < m ∧ W (i + 1) m' H') ∧ ∀ x H', J.yld i H x H' → g x (wipe σ vs) H' fun σ2 H2 => wipe σ2 vs = wipe σ vs ∧ tt σ2 H2 fun b H3 =>
        if b = true then te σ2 H3 fun y H4 => ∃ acc, H4 D = some (.lst acc) ∧ acc.length < sizeLine ∧ Nx (upd H4 D (.lst (acc ++ [y]))) else Nx H3) := by
  refine lc_it w (fun i H => Same H1 H ∧ ∃ acc, H D = some (.lst acc) ∧ DpAll K H acc (ds.take i)) ⟨same_upd hD, [], upd_same, .nil⟩ (fun i H _ h => hG H h.1) ?_ ?_
  · rintro i x H H' hi ⟨s1, acc, ha, hA⟩ hy
    have hd' : ds[i]? = some ds[i] := List.getElem?_eq_getElem (by omega)
    have hlen := DpAll.len hA
    rw [List.length_take] at hlen
    refine mg _ _ _ _ _ ?_ (hs i x H H' hi s1 hy ds[i] hd' (fun y H4 => ∃ acc, H4 D = some (.lst acc) ∧ acc.length < sizeLine ∧ (Same H1 (upd H4 D (.lst (acc ++ [y]))) ∧ ∃ acc', (upd H4 D (.lst (acc ++ [y]))) D = some (.lst acc') ∧ DpAll K (upd H4 D (.lst (acc ++ [y]))) acc' (ds.take (i + 1)))) ?_)
    · rintro σ2 H2 ⟨h1, h2⟩
      refine ⟨h1, mt _ _ _ _ ?_ h2⟩
      rintro b H3 ⟨rfl, h3⟩
      exact iteT h3
    · intro y H4 s4 hy4
      refine ⟨acc, s4 _ _ ha, sz61 (by omega), Same.mut (s1.trans s4) hD, acc ++ [y], upd_same, ?_⟩
      have kp : Keep K H4 (upd H4 D (.lst (acc ++ [y]))) := But.keep But.upd (s4 _ _ ha)
      rw [List.take_add_one, hd']
      refine DpAll.keep kp (fun d h => ?_) (DpAll.append (DpAll.same s4 hA) (.cons hy4 .nil))
      rcases List.mem_append.mp h with h | h
      · exact ht d (List.mem_of_mem_take h)
      · have e : d = ds[i] := by simpa using h
        rw [e]; exact ht _ (List.getElem_mem ..)
  · rintro H ⟨s1, acc, ha, hA⟩
    rw [List.take_of_length_le (by omega)] at hA
    exact hd H acc s1 ha hA

/-! ### tuples cut and joined -/
theorem cut_to {xs : List V} {k : Nat} (h : k ≤ xs.length) : cutV xs none (some (k : Int)) = xs.take k := by
  unfold cutV
  rw [HT.sIx_none, HT.sIx_nat, Nat.min_eq_left h]
  simp
theorem cut_from {xs : List V} {k : Nat} (h : k ≤ xs.length) : cutV xs (some (k : Int)) none = xs.drop k := by
  unfold cutV
  rw [HT.sIx_none, HT.sIx_nat, Nat.min_eq_left h]
  rw [List.take_of_length_le (by rw [List.length_drop]; omega)]
theorem sl_read {K : PySem.W.Frag} {H : Hp} {a : Addr} {xs : List V} {lo hi : Option Int} {Q : VK} (h : SqT K H a xs) (q : ∀ p H', Same H H' → SqT K H' p (cutV xs lo hi) → Q (.ref p) H') : rSlA K (.ref a) lo hi H Q := by
  refine ⟨a, xs, rfl, h, fun e => q a H (Same.refl H) ?_, fun _ p hp => q p _ (same_upd hp) (.inl (.inl upd_same))⟩
  unfold cutV
  rw [e.1, e.2]
  simpa using h
theorem cat_read {K : PySem.W.Frag} {H : Hp} {a b : Addr} {xs ys : List V} {Q : VK} (ha : SqT K H a xs) (hb : SqT K H b ys) (hz : xs.length + ys.length ≤ 100000) (q : ∀ p H', Same H H' → SqT K H' p (xs ++ ys) → Q (.ref p) H') : rCatA K (.ref a) (.ref b) H Q := by
  refine ⟨a, b, xs, ys, rfl, rfl, ha, hb, sz60 hz, fun e => q b H (Same.refl H) ?_, fun _ e => q a H (Same.refl H) ?_, fun _ _ p hp => q p _ (same_upd hp) (.inl (.inl upd_same))⟩
  · rw [e]; exact hb
  · rw [e, List.append_nil]; exact ha
theorem DpAll.snoc {K : PySem.W.Frag} {H : Hp} : ∀ {vs : List V} {ds : List PyData} {d : PyData}, DpAll K H vs (ds ++ [d]) → ∃ us v, vs = us ++ [v] ∧ DpAll K H us ds ∧ Dp K H v d
  | _, [], _, .cons a .nil => ⟨[], _, rfl, .nil, a⟩
  | _, _ :: ds, _, .cons a b => by
    obtain ⟨us, v, e, h1, h2⟩ := DpAll.snoc b
    exact ⟨_ :: us, v, by rw [e]; rfl, .cons a h1, h2⟩
theorem ixN_of {n j : Nat} (hj : j < n) : ixN n (j : Int) = some j := by
  unfold ixN
  rw [if_pos (by omega), if_pos (by omega)]
  simp
theorem vi_set (c : List Nat) (k v : Nat) : (vi c).set k (.int (v : Int)) = vi (c.set k v) := by
  unfold vi
  rw [List.map_set]
theorem vi_rep (n v : Nat) : vi (List.replicate n v) = List.replicate n (.int (v : Int)) := by simp [vi]

/-! ### [x for x in range(lo, hi) if ..] -/
theorem lc_fil {lo : Int} {n j : Nat} {vs : List Nat} {σ : L2.St} {H1 : Hp} {D : Addr} {Qd : Hp → Prop} {tt : TT} (f : Nat → Bool) (hn : n ≤ 1000) (hD : H1 D = none)
    (hw : ∀ x, wipe ((wipe σ vs).set j (some x)) vs = wipe σ vs) (hj : ∀ x : V, ((wipe σ vs).set j (some x))[j]? = some (some x))
    (ht : ∀ (i : Nat) H (Q : Bool → Hp → Prop), i < n → Same H1 H → Q (f i) H → tt ((wipe σ vs).set j (some (.int (lo + (i : Nat))))) H Q)
    (hd : ∀ H, Same H1 H → H D = some (.lst (((List.range n).filter f).map fun (i : Nat) => V.int (lo + (i : Nat)))) → Qd H) :
    ∃ W : Nat → Nat → Hp → Prop, (∃ m, W 0 m (upd H1 D (.lst []))) ∧ ∀ i m H, W i m H →
      ((Itr lo n).stop i H ∧ Qd H) ∨ ((Itr lo n).go i H ∧ ∃ Nx : Hp → Prop, (∀ H', Nx H' → ∃ m', m' < m ∧ W (i + 1) m' H') ∧ ∀ x H', (Itr lo n).yld i H x H' → gName j x (wipe σ vs) H' fun σ2 H2 => wipe σ2 vs = wipe σ vs ∧ tt σ2 H2 fun b H3 =>
        if b = true then tVar j σ2 H3 fun y H4 => ∃ acc, H4 D = some (.lst acc) ∧ acc.length < sizeLine ∧ Nx (upd H4 D (.lst (acc ++ [y]))) else Nx H3) := by
  refine lc_range (lo := lo) (n := n) (fun i H => Same H1 H ∧ H D = some (.lst (((List.range i).filter f).map fun (i : Nat) => V.int (lo + (i : Nat))))) ⟨same_upd hD, upd_same⟩ ?_ ?_
  · rintro i H hi ⟨s1, h1⟩
    refine ⟨hw _, ht i H _ hi s1 ?_⟩
    have hlen : (((List.range i).filter f).map fun (i : Nat) => V.int (lo + (i : Nat))).length ≤ i := by
      rw [List.length_map]
      have := List.length_filter_le f (List.range i)
      rw [List.length_range] at this
      exact this
    by_cases hf : f i = true
    · rw [hf]
      refine iteT ⟨_, hj _, _, h1, sz61 (by omega), Same.mut s1 hD, ?_⟩
      rw [List.range_succ, List.filter_append, List.map_append]
      simp only [List.filter_cons, hf, if_true, List.filter_nil, List.map_cons, List.map_nil]
      exact upd_same
    · have hf' : f i = false := by simpa using hf
      rw [hf']
      refine iteF ⟨s1, ?_⟩
      rw [List.range_succ, List.filter_append, List.map_append]
      simpa [hf'] using h1
  · rintro H ⟨s1, h1⟩
    exact hd H s1 h1
theorem iteB1 {b : Bool} {A B : Prop} (h : b = true) (a : A) : if b = true then A else B := by rw [if_pos h]; exact a
theorem iteB0 {b : Bool} {A B : Prop} (h : b = false) (a : B) : if b = true then A else B := by rw [if_neg (by rw [h]; decide)]; exact a

/-! ### deep comparisons -/
theorem lay_all : ∀ {ds : List PyData}, (∀ d, d ∈ ds → d.canLay0 = true) → PyData.canLayAll0 ds = true
  | [], _ => by simp [PyData.canLayAll0]
  | d :: ds, h => by
    simp only [PyData.canLayAll0]
    rw [h d (List.mem_cons_self ..), lay_all fun e he => h e (List.mem_cons_of_mem _ he)]; rfl
theorem dep_all {k : Nat} : ∀ {ds : List PyData}, (∀ d, d ∈ ds → d.depth ≤ k) → PyData.depthAll ds ≤ k
  | [], _ => by simp [PyData.depthAll]
  | d :: ds, h => by
    simp only [PyData.depthAll]
    have h1 := h d (List.mem_cons_self ..)
    have h2 := dep_all (k := k) fun e he => h e (List.mem_cons_of_mem _ he)
    omega
/-- plain data of at most so many levels -/
def Sh (k : Nat) (d : PyData) : Prop := d.canLay0 = true ∧ d.depth ≤ k
theorem Sh.shaped {k : Nat} {d : PyData} (h : Sh k d) (hk : k ≤ 64) : SeqAt.shaped d = true := by
  unfold SeqAt.shaped
  rw [h.1, decide_eq_true (by have := h.2; omega)]; rfl
theorem Sh.tup {k : Nat} {ds : List PyData} (h : ∀ d, d ∈ ds → Sh k d) : Sh (k + 1) (.tuple ds) :=
  ⟨by simp only [PyData.canLay0]; exact lay_all fun d hd => (h d hd).1, by simp only [PyData.depth]; have := dep_all (k := k) (ds := ds) fun d hd => (h d hd).2; omega⟩
theorem Sh.lst {k : Nat} {ds : List PyData} (h : ∀ d, d ∈ ds → Sh k d) : Sh (k + 1) (.list ds) :=
  ⟨by simp only [PyData.canLay0]; exact lay_all fun d hd => (h d hd).1, by simp only [PyData.depth]; have := dep_all (k := k) (ds := ds) fun d hd => (h d hd).2; omega⟩
theorem Sh.int (i : Int) {k : Nat} : Sh k (.int i) := ⟨by simp [PyData.canLay0], by simp [PyData.depth]⟩
theorem Sh.ints {k : Nat} (ns : List Int) : ∀ d, d ∈ ns.map PyData.int → Sh k d := fun d h => by
  obtain ⟨i, _, rfl⟩ := List.mem_map.mp h
  exact .int i
theorem eq_data {K : PySem.W.Frag} {H : Hp} {x y : V} {d : PyData} {Q : VK} {k : Nat} (hx : Dp K H x d) (hy : Dp K H y d) (hs : Sh k d) (hk : k ≤ 64) (q : Q (.bl true) H) : rEqD K x y H Q :=
  ⟨d, d, hx, hy, hs.shaped hk, hs.shaped hk, by rw [SeqAt.eqv_refl d hs.1]; exact q⟩
theorem ne_data {K : PySem.W.Frag} {H : Hp} {x y : V} {d : PyData} {Q : VK} {k : Nat} (hx : Dp K H x d) (hy : Dp K H y d) (hs : Sh k d) (hk : k ≤ 64) (q : Q (.bl false) H) : rNeD K x y H Q :=
  ⟨d, d, hx, hy, hs.shaped hk, hs.shaped hk, by rw [SeqAt.eqv_refl d hs.1]; exact q⟩
theorem dp_tup {K : PySem.W.Frag} {H : Hp} {a : Addr} {ns : List Int} (h : SqT K H a (ns.map V.int)) : Dp K H (.ref a) (.tuple (ns.map PyData.int)) := .tup h (dp_ints ns)
theorem ne_ints {K : PySem.W.Frag} {H : Hp} {a b : Addr} {ns : List Int} {Q : VK} (ha : SqT K H a (ns.map V.int)) (hb : SqT K H b (ns.map V.int)) (q : Q (.bl false) H) : rNeD K (.ref a) (.ref b) H Q :=
  ne_data (dp_tup ha) (dp_tup hb) (Sh.tup (k := 0) (Sh.ints ns)) (by decide) q
end MB

set_option maxHeartbeats 4000000
namespace MB
open PySem PySem.Spec PyProof.Rows L2
/-! ### dicts whose keys are tuples of ints, by the data of the keys -/
abbrev KX := List (List Int × Addr × V)
def RX : KX → List (List Int × Addr × Value) → Prop := Paired fun p q => p.1 = q.1 ∧ p.2.1 = q.2.1 ∧ RelV p.2.2 q.2.2
def kvX (L : KX) : List (List Int × V) := L.map fun x => (x.1, x.2.2)
def putX (L : KX) (k : List Int) (b : Addr) (v : V) : KX :=
  if ((kvX L).any fun kv => decide (kv.1 = k)) = true then L.map (fun x => if x.1 = k then (x.1, x.2.1, v) else x) else L ++ [(k, b, v)]
theorem kvX_put (L : KX) (k : List Int) (b : Addr) (v : V) : kvX (putX L k b v) = putK (kvX L) k v := by
  unfold putX putK
  split
  · unfold kvX
    rw [List.map_map, List.map_map]
    refine List.map_congr_left fun x _ => ?_
    by_cases h : x.1 = k <;> simp [h]
  · simp [kvX]
theorem putX_key {L : KX} {k : List Int} {b : Addr} {v : V} {x : List Int × Addr × V} (h : x ∈ putX L k b v) : (∃ y ∈ L, x.1 = y.1 ∧ x.2.1 = y.2.1) ∨ (x.1 = k ∧ x.2.1 = b) := by
  unfold putX at h
  split at h
  · obtain ⟨y, hy, rfl⟩ := List.mem_map.mp h
    refine .inl ⟨y, hy, ?_⟩
    split <;> exact ⟨rfl, rfl⟩
  · rcases List.mem_append.mp h with h | h
    · exact .inl ⟨x, h, rfl, rfl⟩
    · simp only [List.mem_singleton] at h
      subst h
      exact .inr ⟨rfl, rfl⟩
theorem RX.val {L : KX} {xs : List (List Int × Addr × Value)} (r : RX L xs) (k : List Int) : RelO (valV (kvX L) k) ((atKey xs k).map (·.2)) := by
  unfold RX at r
  induction r with
  | nil => exact True.intro
  | @cons p q ps qs h t ih =>
    obtain ⟨h1, _, h2⟩ := h
    show RelO (valV ((p.1, p.2.2) :: kvX ps) k) _
    by_cases e : p.1 = k
    · have e' : q.1 = k := h1.symm.trans e
      have b : atKey (q :: qs) k = some q.2 := by simp [atKey, List.find?_cons, e']
      rw [valV_pos (p := (p.1, p.2.2)) e, b]; exact h2
    · have e' : ¬ q.1 = k := fun z => e (h1.trans z)
      have b : atKey (q :: qs) k = atKey qs k := by simp [atKey, List.find?_cons, e']
      rw [valV_neg (p := (p.1, p.2.2)) e, b]; exact ih
theorem RX.repl {L : KX} {xs : List (List Int × Addr × Value)} (r : RX L xs) (k : List Int) {y : V} {u : Value} (ry : RelV y u) :
    RX (L.map fun x => if x.1 = k then (x.1, x.2.1, y) else x) (xs.map (putAt k u)) := by
  unfold RX at r ⊢
  induction r with
  | nil => exact .nil
  | @cons p q ps qs h t ih =>
    rw [List.map_cons, List.map_cons]
    refine .cons ?_ ih
    obtain ⟨h1, h2, h3⟩ := h
    unfold putAt
    by_cases e : p.1 = k
    · rw [if_pos e, if_pos (h1.symm.trans e)]; exact ⟨h1, h2, ry⟩
    · rw [if_neg e, if_neg (fun z => e (h1.trans z))]; exact ⟨h1, h2, h3⟩
theorem RX.put {L : KX} {xs : List (List Int × Addr × Value)} (r : RX L xs) (k : List Int) {b : Addr} {y : V} {u : Value} (ry : RelV y u) : RX (putX L k b y) (storedH xs k b u) := by
  have e : ((kvX L).any fun kv => decide (kv.1 = k)) = (atKey xs k).isSome := by
    rw [valV_any, (r.val k).isSome_eq, Option.isSome_map]
  unfold putX storedH
  rw [e]
  by_cases q : (atKey xs k).isSome = true
  · rw [if_pos q, if_pos q]; exact r.repl k ry
  · rw [if_neg q, if_neg q]; exact Paired.snoc r ⟨rfl, rfl, ry⟩
theorem RX.len {L : KX} {xs : List (List Int × Addr × Value)} (r : RX L xs) : L.length = xs.length := Paired.length r
theorem kvX_len (L : KX) : (kvX L).length = L.length := by simp [kvX]
def DX0 (P : Program) (w : World) (h : Heap) (d : Addr) (L : KX) : Prop := L.length ≤ sizeLine ∧ (d == sysModules) = false ∧ ∃ xs, RX L xs ∧
  ∃ o es ep, h.get? d = some o ∧ o.ExactDict ∧ o.data = .dict es ep ∧ es.toList = xs.map (entryOfKey (tupleKind (intKind P w))) ∧ (xs.map (·.1)).Nodup
def DXO (P : Program) (w : World) (d : Addr) (L : KX) : HO := .ext fun h => DX0 P w h d L
theorem dx_new {P : Program} {w : World} {H : Hp} {h : Heap} {d : Addr} {L : KX} (R : DX0 P w h d L) : ObjOk P w H h d (DXO P w d L) := by
  have ⟨z, y, xs, r, o, es, ep, ho, q⟩ := R
  refine ⟨R, ⟨o, ho⟩, fun h1 h2 p k => ?_⟩
  have ⟨z', y', xs', r', o', es', ep', ho', q'⟩ := p
  exact ⟨z', y', xs', r', o', es', ep', k o' ho', q'⟩
/-- at d stands a dict with the keys and values kvs -/
def DN (K : PySem.W.Frag) (P : Program) (w : World) (H : Hp) (d : Addr) (kvs : List (List Int × V)) : Prop :=
  ∃ L : KX, H d = some (DXO P w d L) ∧ (∀ x ∈ L, SqT K H x.2.1 (x.1.map V.int)) ∧ kvX L = kvs
theorem DN.same {K : PySem.W.Frag} {P : Program} {w : World} {H H' : Hp} {d : Addr} {kvs : List (List Int × V)} (g : DN K P w H d kvs) (s : Same H H') : DN K P w H' d kvs := by
  obtain ⟨L, h1, h2, h3⟩ := g
  exact ⟨L, s _ _ h1, fun x hx => Same.tup s (h2 x hx), h3⟩
theorem DN.keep {K : PySem.W.Frag} {P : Program} {w : World} {H H' : Hp} {d : Addr} {kvs : List (List Int × V)} (g : DN K P w H d kvs) (s : Keep K H H') (e : ∀ o, H d = some o → H' d = some o) : DN K P w H' d kvs := by
  obtain ⟨L, h1, h2, h3⟩ := g
  exact ⟨L, e _ h1, fun x hx => s _ _ (h2 x hx), h3⟩
/-- what is not at d stays, tuples stay -/
theorem keep_updX {K : PySem.W.Frag} {P : Program} {w : World} {H : Hp} {d : Addr} {L L' : KX} (h : H d = some (DXO P w d L)) : Keep K H (upd H d (DXO P w d L')) := fun a xs hs => by
  rcases hs with (hs | ⟨o, hs⟩) | hs
  · exact .inl (.inl (by rw [upd_ne (fun e => by rw [e, h] at hs; cases hs)]; exact hs))
  · exact .inl (.inr ⟨o, by rw [upd_ne (fun e => by rw [e, h] at hs; cases hs)]; exact hs⟩)
  · exact .inr hs
section
variable {X : Cx} {pins : List (Addr × Obj)} {σ : L2.St} {H : Hp} {s : Shared} {d a b : Addr} {kvs : List (List Int × V)} {k : List Int} {A : Around} {E : Value → Shared → Prop}
theorem DN.at (I : Inv X pins σ H s) (g : DN X.K X.prog X.w H d kvs) : (d == sysModules) = false ∧ ∃ (L : KX) (xs : List (List Int × Addr × Value)), H d = some (DXO X.prog X.w d L) ∧ (∀ x ∈ L, SqT X.K H x.2.1 (x.1.map V.int)) ∧ kvX L = kvs ∧ RX L xs ∧ L.length ≤ sizeLine ∧ s.heap.DictOfH (tupleKind (intKind X.prog X.w)) d xs := by
  obtain ⟨L, h1, h2, h3⟩ := g
  obtain ⟨⟨z, y, xs, r, o, es, ep, ho, hc, hd, he, hn⟩, _⟩ := (show ObjOk X.prog X.w H s.heap d (DXO X.prog X.w d L) from I.hok d _ h1)
  refine ⟨y, L, xs, h1, h2, h3, r, z, o, es, ep, ho, hc, hd, he, ?_, hn⟩
  have all : ∀ {l : KX} {m : List (List Int × Addr × Value)}, RX l m → (∀ x ∈ l, SqT X.K H x.2.1 (x.1.map V.int)) → ∀ x ∈ m, (tupleKind (intKind X.prog X.w)).is s.heap x.1 x.2.1 := by
    intro l m q
    unfold RX at q
    induction q with
    | nil => intro _ x hx; exact nomatch hx
    | @cons p q ps qs hq t ih =>
      intro hl x hx
      rcases List.mem_cons.mp hx with e | hx
      · subst e
        have := I.isT (hl p (List.mem_cons_self ..))
        rw [hq.1, hq.2.1] at this
        exact this
      · exact ih (fun x hx => hl x (List.mem_cons_of_mem _ hx)) x hx
  exact all r h2
theorem DN.typeIs (I : Inv X pins σ H s) (g : DN X.K X.prog X.w H d kvs) : s.TypeIs (.ref d) "dict" := by
  obtain ⟨_, _, _, _, _, _, _, _, dd⟩ := g.at I
  exact dd.typeIs
theorem DN.noDict (I : Inv X pins σ H s) (g : DN X.K X.prog X.w H d kvs) : ∀ b, Value.ref d = .ref b → ∃ ob, s.heap.get? b = some ob ∧ ob.dict = none := fun b q => by
  cases q
  obtain ⟨_, _, _, _, _, _, _, _, ob, _, _, h1, h2, _⟩ := g.at I
  exact ⟨ob, h1, h2.2.1⟩
theorem n_getItem {v : V} {Q : Value → Shared → Prop} (hu : A.units + 1 < cLine) (I : Inv X pins σ H s) (g : DN X.K X.prog X.w H d kvs) (hk : SqT X.K H b (k.map V.int)) (hv : valV kvs k = some v) (h : ∀ w' s', Inv X pins σ H s' → RelV v w' → Q w' s') :
    wpAny (model X.prog X.w) A (getItem (.ref d) (.ref b)) Q E s := by
  obtain ⟨hd, L, xs, _, _, e, r, _, dd⟩ := g.at I
  obtain ⟨w', hw, rw'⟩ := RelO.some_of (v := v) (o := (atKey xs k).map (·.2)) (by rw [← hv, ← e]; exact r.val k)
  obtain ⟨p, hp, hp2⟩ := Option.map_eq_some_iff.mp hw
  refine wpAny_getItem_heap (tupleKind_room_in1 hu) (I.isT hk) dd hp ?_
  rw [hp2]
  exact h w' _ (I.tok _) rw'
theorem n_in {Q : Value → Shared → Prop} (hu : A.units + 1 < cLine) (I : Inv X pins σ H s) (g : DN X.K X.prog X.w H d kvs) (hk : SqT X.K H b (k.map V.int)) (h : ∀ s', Inv X pins σ H s' → Q (.bool (valV kvs k).isSome) s') :
    wpAny (model X.prog X.w) A (compareOp .In (.ref b) (.ref d)) Q E s := by
  obtain ⟨hd, L, xs, _, _, e, r, _, dd⟩ := g.at I
  refine wpAny_in_heap (tupleKind_room_in1 hu) (I.isT hk) hd dd ?_
  have q := (r.val k).isSome_eq
  rw [Option.isSome_map, e] at q
  rw [← q]
  exact h _ (I.tok _)
theorem n_notIn {Q : Value → Shared → Prop} (hu : A.units + 1 < cLine) (I : Inv X pins σ H s) (g : DN X.K X.prog X.w H d kvs) (hk : SqT X.K H b (k.map V.int)) (h : ∀ s', Inv X pins σ H s' → Q (.bool (!(valV kvs k).isSome)) s') :
    wpAny (model X.prog X.w) A (compareOp .NotIn (.ref b) (.ref d)) Q E s := by
  obtain ⟨hd, L, xs, _, _, e, r, _, dd⟩ := g.at I
  refine wpAny_notIn_heap (tupleKind_room_in1 hu) (I.isT hk) hd dd ?_
  have q := (r.val k).isSome_eq
  rw [Option.isSome_map, e] at q
  rw [← q]
  exact h _ (I.tok _)
theorem n_get1 {Q : Value → Shared → Prop} (hu : A.units + 1 < cLine) (I : Inv X pins σ H s) (g : DN X.K X.prog X.w H d kvs) (hk : SqT X.K H b (k.map V.int)) (h : ∀ w' s', Inv X pins σ H s' → RelV ((valV kvs k).getD .non) w' → Q w' s') :
    wpAny (model X.prog X.w) A (call (.builtin "dict.get") [.ref d, .ref b]) Q E s := by
  obtain ⟨hd, L, xs, _, _, e, r, _, dd⟩ := g.at I
  refine call_meetsIn PySem.F.slot_dict_get dd.typeIs PySem.F.entry_dict_get (PySem.F.args_dict_get_2 _ _) (meetsH_dict_get (tupleKind (intKind X.prog X.w)) d b hd) ⟨tupleKind_room_in1 hu, k, xs, I.isT hk, dd, h _ _ (I.tok _) ?_⟩
  rw [← e]
  exact (r.val k).getD rfl
theorem n_get2 {z : V} {u : Value} {Q : Value → Shared → Prop} (hu : A.units + 1 < cLine) (I : Inv X pins σ H s) (g : DN X.K X.prog X.w H d kvs) (hk : SqT X.K H b (k.map V.int)) (rz : RelV z u) (h : ∀ w' s', Inv X pins σ H s' → RelV ((valV kvs k).getD z) w' → Q w' s') :
    wpAny (model X.prog X.w) A (call (.builtin "dict.get") [.ref d, .ref b, u]) Q E s := by
  obtain ⟨hd, L, xs, _, _, e, r, _, dd⟩ := g.at I
  refine call_meetsIn PySem.F.slot_dict_get dd.typeIs PySem.F.entry_dict_get (PySem.F.args_dict_get_3 _ _ _) (meetsH_dict_get_default (tupleKind (intKind X.prog X.w)) d b hd u) ⟨tupleKind_room_in1 hu, k, xs, I.isT hk, dd, h _ _ (I.tok _) ?_⟩
  rw [← e]
  exact (r.val k).getD rz
/-- the heaps behind d[k] = v -/
def DNput (K : PySem.W.Frag) (P : Program) (w : World) (H : Hp) (d : Addr) (kvs : List (List Int × V)) (k : List Int) (v : V) (R : Hp → Prop) : Prop :=
  ∀ H', (∀ c, c ≠ d → H' c = H c) → Keep K H H' → DN K P w H' d (putK kvs k v) → R H'
theorem n_setItem {v : V} {u : Value} {Q : Unit → Shared → Prop} (hu : A.units + 1 < cLine) (I : Inv X pins σ H s) (g : DN X.K X.prog X.w H d kvs) (hk : SqT X.K H b (k.map V.int)) (hl : kvs.length < sizeLine) (rv : RelV v u) (h : DNput X.K X.prog X.w H d kvs k v fun H' => ∀ s', Inv X pins σ H' s' → Q () s') :
    wpAny (model X.prog X.w) A (setItem (.ref d) (.ref b) u) Q E s := by
  obtain ⟨hd, L, xs, hL, hS, e, r, z, dd⟩ := g.at I
  have hz : xs.length ≤ sizeLine := by rw [← r.len]; exact z
  have hl2 : (putX L k b v).length ≤ sizeLine := by
    have := length_putK kvs k v
    rw [← kvX_len, kvX_put, e]
    omega
  have kp := keep_updX (K := X.K) (L' := putX L k b v) hL
  refine wpAny_setItem_heap (hsz := hz) (tupleKind_room_in1 hu) (I.isT hk) dd fun h' dd' hs => ?_
  obtain ⟨q, es, ep, hq, h2, h3, h4, _, h5⟩ := dd'
  refine h _ (fun c hc => upd_ne hc) kp ⟨putX L k b v, upd_same, fun x hx => ?_, by rw [kvX_put, e]⟩ _ (d_write I (by rw [hL]; exact True.intro) hs ⟨q, hq⟩ (dx_new ⟨hl2, hd, _, r.put k rv, q, es, ep, hq, h2, h3, h4, h5⟩))
  rcases putX_key hx with ⟨y, hy, e1, e2⟩ | ⟨e1, e2⟩
  · rw [e1, e2]; exact kp _ _ (hS y hy)
  · rw [e1, e2]; exact kp _ _ hk
end
/-! ### readings -/
def tNGet (K : PySem.W.Frag) (P : Program) (w : World) (td ty : TE) : TE := fun σ H Q => td σ H fun x H1 => ty σ H1 fun y H2 => ∃ a b kvs k v, x = .ref a ∧ y = .ref b ∧ DN K P w H2 a kvs ∧ SqT K H2 b (k.map V.int) ∧ valV kvs k = some v ∧ Q v H2
def tNIn (K : PySem.W.Frag) (P : Program) (w : World) (ty td : TE) : TE := fun σ H Q => ty σ H fun y H1 => td σ H1 fun x H2 => ∃ a b kvs k, x = .ref a ∧ y = .ref b ∧ DN K P w H2 a kvs ∧ SqT K H2 b (k.map V.int) ∧ Q (.bl (valV kvs k).isSome) H2
def tNNotIn (K : PySem.W.Frag) (P : Program) (w : World) (ty td : TE) : TE := fun σ H Q => ty σ H fun y H1 => td σ H1 fun x H2 => ∃ a b kvs k, x = .ref a ∧ y = .ref b ∧ DN K P w H2 a kvs ∧ SqT K H2 b (k.map V.int) ∧ Q (.bl (!(valV kvs k).isSome)) H2
def sNPut (K : PySem.W.Frag) (P : Program) (w : World) (td ty tv : TE) : TS := fun D σ H => tv σ H fun v H1 => td σ H1 fun x H2 => ty σ H2 fun y H3 => ∃ a b kvs k, x = .ref a ∧ y = .ref b ∧ DN K P w H3 a kvs ∧ SqT K H3 b (k.map V.int) ∧ kvs.length < sizeLine ∧ DNput K P w H3 a kvs k v fun H' => D.nx σ H'
def tNGet1 (K : PySem.W.Frag) (P : Program) (w : World) (td ty : TE) : TE := fun σ H Q => td σ H fun x H1 => ∃ a kvs, x = .ref a ∧ DN K P w H1 a kvs ∧ ty σ H1 fun y H2 => ∃ b k, y = .ref b ∧ DN K P w H2 a kvs ∧ SqT K H2 b (k.map V.int) ∧ Q ((valV kvs k).getD .non) H2
def tNGet2 (K : PySem.W.Frag) (P : Program) (w : World) (td ty tx : TE) : TE := fun σ H Q => td σ H fun x H1 => ∃ a kvs, x = .ref a ∧ DN K P w H1 a kvs ∧ ty σ H1 fun y H2 => tx σ H2 fun z H3 => ∃ b k, y = .ref b ∧ DN K P w H3 a kvs ∧ SqT K H3 b (k.map V.int) ∧ Q ((valV kvs k).getD z) H3
section
variable {X : Cx} {K : PySem.W.Frag} {P : Program} {w : World} {o i e f value : Expr} {pos pos' tpos apos cpos : Pos} {td ty tv tx : TE}
theorem pe_nget (hK : X.K = K) (hP : X.prog = P) (hw : X.w = w) (hu : X.A.units + 1 < cLine) (ho : PE X o td) (hi : PE X i ty) (hs : NoSl i) : PE X (.Subscript o i pos) (tNGet K P w td ty) := by
  subst hK hP hw
  refine ⟨fun pins s σ H Q I h => ?_⟩
  refine subD_of PySem.F.slot_dict_getitem.lookup hs (thn (ho.run pins s σ H _ I h) fun u s1 ⟨x, H1, I1, rx, q1⟩ => thn (hi.run pins s1 σ H1 _ I1 q1) fun iv s2 ⟨y, H2, I2, ry, a, b, kvs, k, v, ex, ey, g, hk, hv, q2⟩ => ?_)
  subst ex ey
  obtain rfl : u = Value.ref a := rx
  obtain rfl : iv = Value.ref b := ry
  exact ⟨g.typeIs I2, n_getItem hu I2 g hk hv fun w' s3 I3 rw' => ⟨v, H2, I3, rw', q2⟩⟩
theorem pc_nin (hK : X.K = K) (hP : X.prog = P) (hw : X.w = w) (hu : X.A.units + 1 < cLine) (hi : PE X i ty) (ho : PE X o td) : PC X .In i o (tNIn K P w ty td) := by
  subst hK hP hw
  refine ⟨fun pins s σ H Q I h => ?_⟩
  refine thn (hi.run pins s σ H _ I h) fun iv s1 ⟨y, H1, I1, ry, q1⟩ => thn (ho.run pins s1 σ H1 _ I1 q1) fun u s2 ⟨x, H2, I2, rx, a, b, kvs, k, ex, ey, g, hk, q2⟩ => ?_
  subst ex ey
  obtain rfl : u = Value.ref a := rx
  obtain rfl : iv = Value.ref b := ry
  exact n_in hu I2 g hk fun s3 I3 => ⟨.bl _, H2, I3, rfl, q2⟩
theorem pc_nnotin (hK : X.K = K) (hP : X.prog = P) (hw : X.w = w) (hu : X.A.units + 1 < cLine) (hi : PE X i ty) (ho : PE X o td) : PC X .NotIn i o (tNNotIn K P w ty td) := by
  subst hK hP hw
  refine ⟨fun pins s σ H Q I h => ?_⟩
  refine thn (hi.run pins s σ H _ I h) fun iv s1 ⟨y, H1, I1, ry, q1⟩ => thn (ho.run pins s1 σ H1 _ I1 q1) fun u s2 ⟨x, H2, I2, rx, a, b, kvs, k, ex, ey, g, hk, q2⟩ => ?_
  subst ex ey
  obtain rfl : u = Value.ref a := rx
  obtain rfl : iv = Value.ref b := ry
  exact n_notIn hu I2 g hk fun s3 I3 => ⟨.bl _, H2, I3, rfl, q2⟩
theorem ps_nput (hK : X.K = K) (hP : X.prog = P) (hw : X.w = w) (hu : X.A.units + 1 < cLine) (ho : PE X o td) (hi : PE X i ty) (hv : PE X value tv) (hs : swapsWith value (some (.Subscript o i pos')) pos.line X.env = pure false) :
    PS X (.Assign [.Subscript o i pos'] value pos) (sNPut K P w td ty tv) := by
  subst hK hP hw
  refine ⟨fun pins s σ H D I h => ?_⟩
  refine wpAny_Assign_Subscript (thn (hv.run pins s σ H _ I h) fun r s1 ⟨v, H1, I1, rv, q1⟩ => thn (ho.run pins s1 σ H1 _ I1 q1) fun u s2 ⟨x, H2, I2, rx, q2⟩ => thn (hi.run pins s2 σ H2 _ I2 q2) fun iv s3 ⟨y, H3, I3, ry, a, b, kvs, k, ex, ey, g, hk, hl, q3⟩ => ?_) hs
  subst ex ey
  obtain rfl : u = Value.ref a := rx
  obtain rfl : iv = Value.ref b := ry
  exact n_setItem hu I3 g hk hl rv fun H' h1 h2 h3 s4 I4 => ⟨σ, H', I4, q3 H' h1 h2 h3⟩
theorem pe_nget1 (hK : X.K = K) (hP : X.prog = P) (hw : X.w = w) (hu : X.A.units + 1 < cLine) (ho : PE X o td) (he : PE X e ty) (m : M1 X o "get" apos e cpos) : PE X (.Call (.Attribute o "get" apos) [e] [] cpos) (tNGet1 K P w td ty) := by
  subst hK hP hw
  refine ⟨fun pins s σ H Q I h => ?_⟩
  refine wpAny_Call_method m.base m.few m.line PySem.F.plainAttrs_dict PySem.F.slot_dict_get PySem.F.type_dict_get (thn (ho.run pins s σ H _ I h) fun u s1 ⟨x, H1, I1, rx, a, kvs, ex, d, q1⟩ => ?_)
  subst ex
  obtain rfl : u = Value.ref a := rx
  refine ⟨d.typeIs I1, d.noDict I1, ?_⟩
  rw [m.trees]
  refine Calls.callWith_builtin rfl (Calls.evalArgs_plain (Calls.spliced_cons (thn (he.run pins s1 σ H1 _ I1 q1) fun iv s2 ⟨y, H2, I2, ry, b, k, ey, g, hk, q2⟩ => Calls.spliced_nil ?_)))
  subst ey
  obtain rfl : iv = Value.ref b := ry
  exact n_get1 hu I2 g hk fun w' s3 I3 rw' => ⟨_, H2, I3, rw', q2⟩
theorem pe_nget2 (hK : X.K = K) (hP : X.prog = P) (hw : X.w = w) (hu : X.A.units + 1 < cLine) (ho : PE X o td) (he : PE X e ty) (hf : PE X f tx) (m : M2 X o "get" apos e f cpos) : PE X (.Call (.Attribute o "get" apos) [e, f] [] cpos) (tNGet2 K P w td ty tx) := by
  subst hK hP hw
  refine ⟨fun pins s σ H Q I h => ?_⟩
  refine wpAny_Call_method m.base m.few m.line PySem.F.plainAttrs_dict PySem.F.slot_dict_get PySem.F.type_dict_get (thn (ho.run pins s σ H _ I h) fun u s1 ⟨x, H1, I1, rx, a, kvs, ex, d, q1⟩ => ?_)
  subst ex
  obtain rfl : u = Value.ref a := rx
  refine ⟨d.typeIs I1, d.noDict I1, ?_⟩
  rw [m.trees]
  refine Calls.callWith_builtin rfl (Calls.evalArgs_plain (Calls.spliced_cons (thn (he.run pins s1 σ H1 _ I1 q1) fun iv s2 ⟨y, H2, I2, ry, q2⟩ =>
    Calls.spliced_cons (thn (hf.run pins s2 σ H2 _ I2 q2) fun fv s3 ⟨z, H3, I3, rz, b, k, ey, g, hk, q3⟩ => Calls.spliced_nil ?_))))
  subst ey
  obtain rfl : iv = Value.ref b := ry
  exact n_get2 hu I3 g hk rz fun w' s4 I4 rw' => ⟨_, H3, I4, rw', q3⟩
end
theorem u2_of {A : Around} {k : Nat} (hr : Room k A) : A.units + 2 < cLine := Nat.lt_of_le_of_lt (Nat.add_le_add_left (by decide : 2 ≤ 64) _) hr.units
/-! ### {} and dict(list of pairs) -/
theorem dx_empty {P : Program} {w : World} (h : Heap) (hb : sysModules < h.objs.size) : DX0 P w (h.push { cls := .type "dict", data := .dict #[] }) h.objs.size [] :=
  ⟨Nat.zero_le _, beq_eq_false_iff_ne.mpr (Ne.symm (Nat.ne_of_lt hb)), [], .nil, _, #[], 0, Heap.get?_push_size _ rfl, ⟨rfl, rfl, rfl⟩, rfl, rfl, List.nodup_nil⟩
def tNNew (K : PySem.W.Frag) (P : Program) (w : World) : TE := fun _ H Q => ∀ p H', H p = none → Same H H' → DN K P w H' p [] → Q (.ref p) H'
theorem pe_nnew {X : Cx} {K : PySem.W.Frag} {P : Program} {w : World} {pos : Pos} (hK : X.K = K) (hP : X.prog = P) (hw : X.w = w) : PE X (.Dict [] [] pos) (tNNew K P w) := by
  subst hK hP hw
  refine ⟨fun pins s σ H Q I h => ?_⟩
  have hn : H s.heap.objs.size = none := I.hok.fresh (Nat.le_refl _)
  exact wpAny_Dict_empty ⟨.ref s.heap.objs.size, _, I.laid (a := s.heap.objs.size) (o := DXO X.prog X.w s.heap.objs.size []) (t' := s.toks) (fun _ _ q => Heap.get?_push_of_some _ q) (Nat.le_refl _) (dx_new (dx_empty s.heap I.big)), rfl, h _ _ hn (same_upd hn) ⟨[], upd_same, (fun x hx => nomatch hx), rfl⟩⟩
def mergeT (kvs more : List (List Int × V)) : List (List Int × V) := more.foldl (fun acc kv => putK acc kv.1 kv.2) kvs
def allX (L M : KX) : KX := M.foldl (fun acc p => putX acc p.1 p.2.1 p.2.2) L
theorem RX.all {M : KX} {ms : List (List Int × Addr × Value)} (r : RX M ms) : ∀ {L : KX} {xs : List (List Int × Addr × Value)}, RX L xs → RX (allX L M) (storedAllH xs ms) := by
  unfold RX at r
  induction r with
  | nil => intro L xs q; exact q
  | @cons p q ps qs h t ih =>
    intro L xs hq
    show RX (allX (putX L p.1 p.2.1 p.2.2) ps) (storedAllH (storedH xs q.1 q.2.1 q.2.2) qs)
    rw [← h.1, ← h.2.1]
    exact ih (hq.put _ h.2.2)
theorem kvX_all : ∀ (M L : KX), kvX (allX L M) = mergeT (kvX L) (kvX M)
  | [], _ => rfl
  | p :: M, L => by
    show kvX (allX (putX L p.1 p.2.1 p.2.2) M) = mergeT (putK (kvX L) p.1 p.2.2) (kvX M)
    rw [kvX_all M, kvX_put]
theorem allX_key {Pr : List Int → Addr → Prop} : ∀ {M L : KX}, (∀ x ∈ L, Pr x.1 x.2.1) → (∀ x ∈ M, Pr x.1 x.2.1) → ∀ x ∈ allX L M, Pr x.1 x.2.1
  | [], _, h, _ => h
  | p :: M, L, h, hp => allX_key (M := M) (L := putX L p.1 p.2.1 p.2.2) (fun x hx => by
      rcases putX_key hx with ⟨y, hy, e1, e2⟩ | ⟨e1, e2⟩
      · rw [e1, e2]; exact h y hy
      · rw [e1, e2]; exact hp p List.mem_cons_self) fun x hx => hp x (List.mem_cons_of_mem _ hx)
theorem putX_len (L : KX) (k : List Int) (b : Addr) (v : V) : (putX L k b v).length ≤ L.length + 1 := by
  unfold putX
  split <;> simp
theorem allX_len : ∀ (M L : KX), (allX L M).length ≤ L.length + M.length
  | [], _ => Nat.le_refl _
  | p :: M, L => by
    have h1 := allX_len M (putX L p.1 p.2.1 p.2.2)
    have h2 := putX_len L p.1 p.2.1 p.2.2
    show (allX (putX L p.1 p.2.1 p.2.2) M).length ≤ _
    simp only [List.length_cons]
    omega
/-- a list of pairs (tuple of ints, value) -/
def rDictT (K : PySem.W.Frag) (P : Program) (w : World) : List V → Hp → VK → Prop := fun xs H Q => ∃ (a : Addr) (ts : List Addr) (M : KX), xs = [V.ref a] ∧ SqL K H a (ts.map V.ref) ∧ Paired (fun t m => SqT K H t [V.ref m.2.1, m.2.2] ∧ SqT K H m.2.1 (m.1.map V.int)) ts M ∧
  ∀ p H', H p = none → Same H H' → DN K P w H' p (mergeT [] (kvX M)) → Q (.ref p) H'
theorem pairsT_of {X : Cx} {pins : List (Addr × Obj)} {σ : L2.St} {H : Hp} {s : Shared} (I : Inv X pins σ H s) : ∀ {ts : List Addr} {M : KX}, Paired (fun t m => SqT X.K H t [V.ref m.2.1, m.2.2] ∧ SqT X.K H m.2.1 (m.1.map V.int)) ts M →
    ∃ ms : List (List Int × Addr × Value), RX M ms ∧ ms.length = ts.length ∧ ∀ (j : Nat) (q : List Int × Addr × Value), ms[j]? = some q → ∃ t, ts[j]? = some t ∧ IsTup s.heap t #[Value.ref q.2.1, q.2.2] ∧ IsT X.prog X.w s.heap q.1 q.2.1
  | _, _, .nil => ⟨[], .nil, rfl, fun j q e => by simp at e⟩
  | _, _, .cons (a := p) (b := m) h t => by
    obtain ⟨ms, r, hl, hp⟩ := pairsT_of I t
    obtain ⟨its, rv, ht, _⟩ := I.tuple h.1
    obtain ⟨u, y, ei, ru, ry⟩ := vals2 rv
    subst ei
    cases ru
    refine ⟨(m.1, m.2.1, y) :: ms, .cons ⟨rfl, rfl, ry⟩ r, by rw [List.length_cons, List.length_cons, hl], fun j q e => ?_⟩
    cases j with
    | zero =>
      have e' : (m.1, m.2.1, y) = q := Option.some.inj e
      subst e'
      exact ⟨p, rfl, ht, I.isT h.2⟩
    | succ j =>
      obtain ⟨b, e1, e2, e3⟩ := hp j q (by simpa using e)
      exact ⟨b, by simpa using e1, e2, e3⟩
theorem call_dictT {X : Cx} {K : PySem.W.Frag} {P : Program} {w : World} (hK : X.K = K) (hP : X.prog = P) (hw : X.w = w) (hcalm : X.calm = true) (hu : X.A.units + 2 < cLine) : CallR X (.type "dict") (rDictT K P w) := by
  subst hK hP hw
  intro pins s σ H xs us Q I r q
  obtain ⟨a, ts, M, ex, hq, hp, q⟩ := q
  subst ex
  obtain ⟨u, eu, rx⟩ := vals1 r
  subst eu
  cases rx
  obtain ⟨its, rv, pl, hz⟩ := I.list hq
  have ei := refs_at rv
  subst ei
  rw [List.length_map] at hz
  obtain ⟨ms, rel, hl, hpr⟩ := pairsT_of I hp
  obtain ⟨o, n, ho, hc, hd, hdat⟩ := pl
  have hmsM := rel.len
  have isAll : ∀ x ∈ ms, (tupleKind (intKind X.prog X.w)).is s.heap x.1 x.2.1 := fun x hx => by
    obtain ⟨j, hj⟩ := List.mem_iff_getElem?.mp hx
    obtain ⟨t, _, _, h3⟩ := hpr j x hj
    exact h3
  have hn : H s.heap.objs.size = none := I.hok.fresh (Nat.le_refl _)
  refine call_dict_pairsH (knd := tupleKind (intKind X.prog X.w)) (ps := ms) (PairArg.list a (ts.map Value.ref).toArray (fun j => ts.getD j 0) (ms.map fun m => (Value.ref m.2.1, m.2.2))) (I.ok.hd hcalm) ?_ ⟨⟨o, n, ho, hc, hd, hdat⟩, ?_, ?_⟩ ⟨?_, ?_⟩ (fun h' hk x hx => ?_) ?_ fun h' tk hd' hk => ?_
  · show X.A.in1.units + 1 < cLine
    exact hu
  · simp [hl]
  · intro j k v hj
    rw [List.getElem?_map, Option.map_eq_some_iff] at hj
    obtain ⟨m, hm, em⟩ := hj
    cases em
    obtain ⟨t, e1, e2, e3⟩ := hpr j m hm
    have et : ts.getD j 0 = t := by rw [List.getD_eq_getElem?_getD, e1]; rfl
    dsimp only
    rw [et]
    refine ⟨by simp [e1], ?_⟩
    exact .inl e2
  · simp
  · intro i key v hr
    rw [PairRel, List.getElem?_map, Option.map_eq_some_iff] at hr
    obtain ⟨m, hm, em⟩ := hr
    cases em
    exact ⟨m.1, m.2.1, hm, rfl⟩
  · have := isAll x hx
    obtain ⟨o', items, n', ho', hc', hd', hi'⟩ := (show IsTupleKey (intKind X.prog X.w) s.heap x.1 x.2.1 from this)
    exact ⟨o', items, n', hk _ _ (Nat.ne_of_lt (Heap.lt_size ho')) (fun z => nomatch z) ho', hc', hd', hi'⟩
  · rw [List.length_map, hl]; exact hz
  · have hm : (s.heap.objs.size == sysModules) = false := beq_eq_false_iff_ne.mpr (Nat.ne_of_gt I.big)
    have hlen : (allX [] M).length ≤ sizeLine := by
      refine Nat.le_trans (allX_len M []) ?_
      rw [List.length_nil, Nat.zero_add, hmsM, hl]
      exact hz
    obtain ⟨o', es, ep, h1, h2, h3, h4, _, h5⟩ := hd'
    have I2 := I.laid (t' := tk) (fun b u e => hk b u (fun z => nomatch z) e) (Nat.le_refl _) (dx_new (H := upd H s.heap.objs.size (DXO X.prog X.w s.heap.objs.size (allX [] M))) (P := X.prog) (w := X.w) (h := h') (d := s.heap.objs.size) (L := allX [] M) ⟨hlen, hm, _, RX.all rel .nil, o', es, ep, h1, h2, h3, h4, h5⟩)
    refine ⟨.ref s.heap.objs.size, _, I2, rfl, q _ _ hn (same_upd hn) ⟨allX [] M, upd_same, ?_, kvX_all M []⟩⟩
    refine allX_key (Pr := fun k b => SqT X.K (upd H s.heap.objs.size (DXO X.prog X.w s.heap.objs.size (allX [] M))) b (k.map V.int)) (fun x hx => nomatch hx) fun x hx => ?_
    have fnd : ∀ {ts : List Addr} {M : KX}, Paired (fun t m => SqT X.K H t [V.ref m.2.1, m.2.2] ∧ SqT X.K H m.2.1 (m.1.map V.int)) ts M → ∀ x ∈ M, SqT X.K H x.2.1 (x.1.map V.int) := by
      intro ts M hp
      induction hp with
      | nil => intro x hx; exact nomatch hx
      | @cons p q ps qs h t ih =>
        intro x hx
        rcases List.mem_cons.mp hx with e | hx
        · subst e; exact h.2
        · exact ih x hx
    exact Same.tup (same_upd hn) (fnd hp x hx)
end MB

set_option maxHeartbeats 4000000
namespace MB
open PySem PySem.Spec PyProof.Rows L2

/-! ### a def called where no repr is under way -/
structure FnG (P : Program) (w : World) (K : PySem.W.Frag) (mg : Str → Option Value) (base : Heap) (CX : CXT) (k : Nat) (f : Addr) (fd : FuncData) (ps : List Str) (sp : Sp) : Prop where
  len : ∀ vs H Q E, sp vs H Q E → vs.length = ps.length
  run : ∀ (A : Around), A.guards = some [] → Room k A → ∀ (outer : List Env) (s : Shared) (H : Hp) (args : Args) (us : List Value) (vs : List V) (Q : VK) (E : XK),
    Env0 P w K mg base A outer s H → BindsTo s fd args (ps.zip us) → Vals vs us → sp vs H Q E → codeAny (model P w) A (.call (.ref f) args) (CR CX outer P w H s Q E) s
section
variable {P : Program} {w : World} {K : PySem.W.Frag} {mg : Str → Option Value} {base : Heap} {CX : CXT} {k : Nat} {f : Addr} {fd : FuncData} {ps : List Str} {sp : Sp}
theorem FnG.of (F : FnOk P w K mg base CX k f fd ps sp) : FnG P w K mg base CX k f fd ps sp :=
  ⟨F.len, fun A _ hr outer s H args us vs Q E => F.run A outer s H args us vs Q E hr⟩
theorem deeper_guards {A : Around} {env : Env} (h : A.guards = some []) : (A.deeper env).guards = some [] := h
theorem fnG_of {name qual : Str} {params : Arguments} {body : List Stmt} {scope : Scope} {dV kV doc pm cdv ct oc : Value} {an od : Option Addr} {osl : Array (Option Value)} {N : List Str}
    (lk : K.lookup f = some ⟨oc, od, .func (PySem.W.fnOf name qual params body scope dV kV doc pm an cdv ct), osl⟩) (hcd : PySem.W.codeIn K cdv qual = true) (S : FnScope N ps scope)
    (len : ∀ vs H Q E, sp vs H Q E → vs.length = ps.length)
    (hbody : ∀ (A : Around), A.guards = some [] → ∀ (outer : List Env) (s : Shared) (H : Hp) (vs : List V) (Q : VK) (E : XK), Room k (A.deeper (envOfC qual scope s.heap.objs.size f cdv)) → sp vs H Q E →
      ∃ t, PSs (cxOf CX P w K mg base N qual scope f cdv A outer s H E) body t ∧ t { nx := fun _ H' => Q .non H', rt := Q } (start N vs) H) :
    FnG P w K mg base CX (k + 1) f (PySem.W.fnOf name qual params body scope dV kV doc pm an cdv ct) ps sp := by
  refine ⟨len, fun A hgd hr outer s H args us vs Q E e0 hb r hsp => ?_⟩
  have kept : ∀ b o, base.get? b = some o → s.heap.get? b = some o := fun b o e => (e0.bs b o e).1
  have KX : K.In s.heap := e0.mod.kin.keeps kept
  obtain ⟨t, ht, hq⟩ := hbody A hgd outer s H vs Q E (hr.deeper _) hsp
  have par : ∀ y ∈ ps.zip us, scope.names.lookup y.1 = some .local ∨ (scope.names.lookup y.1 = some .cell ∧ ((cellsFrom (s.heap.objs.size + 1) scope.names []).lookup y.1).isSome = true) := by
    rintro ⟨n, v⟩ hy
    exact (S.par n (List.of_mem_zip hy).1).imp id fun z => ⟨z, PySem.W.cellsFrom_some _ _ _ (.inl z)⟩
  refine codeAny_call_function hr.depth (KX _ _ lk) rfl S.co S.gen rfl (PySem.W.codeRec_of KX hcd) (hb _ _ _ _ (wpAny_newFunctionEnv_cells S.kind par fun env he s1 x => ?_))
  subst he
  refine ⟨(e0.mod.nolimit.keeps kept).keeps x.toInCall.keep, codeAny_func (wpAny_mono (ht.run [] s1 (start N vs) H _ (inv_start S hr.hd e0 (len _ _ _ _ hsp) r x) hq) (fun fl s' hs => ?_) fun e s' hs => hs)⟩
  rcases fl with _ | _ | _ | u
  · obtain ⟨σ', H', J, q⟩ := hs
    exact ⟨V.non, H', J.os, J.bare, J.base, J.hok, rfl, q⟩
  · exact (let ⟨_, _, _, q⟩ := hs; False.elim q)
  · exact (let ⟨_, _, _, q⟩ := hs; False.elim q)
  · obtain ⟨v, σ', H', J, rv, q⟩ := hs
    exact ⟨v, H', J.os, J.bare, J.base, J.hok, rv, q⟩
theorem Fun.okG {x qual : Str} {st : Stmt} {N : List Str} (F : L2.Fun K x qual st f fd) (S : FnScope N ps (defScope st)) (len : ∀ vs H Q E, sp vs H Q E → vs.length = ps.length)
    (hbody : ∀ (cdv : Value) (A : Around), A.guards = some [] → ∀ (outer : List Env) (s : Shared) (H : Hp) (vs : List V) (Q : VK) (E : XK), Room k (A.deeper (envOfC qual (defScope st) s.heap.objs.size f cdv)) → sp vs H Q E →
      ∃ t, PSs (cxOf CX0 P w K mg base N qual (defScope st) f cdv A outer s H E).nox (defBody st) t ∧ t { nx := fun _ H' => Q .non H', rt := Q } (start N vs) H) : FnG P w K mg base CX0 (k + 1) f fd ps sp := by
  obtain ⟨oc, od, kV, doc, pm, an, cdv, ct, osl, rfl, lk, hcd⟩ := F.ex
  exact fnG_of lk hcd S len fun A hgd outer s H vs Q E hr hsp => let ⟨t, h, q⟩ := hbody cdv A hgd outer s H vs Q E hr hsp; ⟨t, h.nox, q⟩
end
section
variable {X : Cx} {CX : CXT} {k : Nat} {f : Addr} {fd : FuncData} {ps : List Str} {sp : Sp} {ds : List Value} {dvs : List V} {E : XK} {x : Str} {p pos : Pos} {e : Expr} {es : List Expr} {t : TA}
theorem pe_callG (F : FnG X.prog X.w X.K X.mg X.base CX k f fd ps sp) (hgd : X.A.guards = some []) (hr : Room k X.A) (hg : Gl X x) (hm : X.mg x = some (.ref f)) (hk : PySem.W.keepIn X.K (.ref f) = true) (hb : Binds X.K fd ps ds) (hd : Vals dvs ds) (hx : Passes CX X E)
    (ha : PA X (e :: es) t) (hdb : (x == ("__debug__" : Str)) = false := by decide) (he : starEach (e :: es) X.env = (false, eval e X.env) :: starEach es X.env := by rfl) (hpl : (backTo pos (starEach es X.env)).any (·.1) = false := by rfl) :
    PE X (.Call (.Name x p) (e :: es) [] pos) (tCall sp dvs E t) := by
  refine ⟨fun pins s σ H Q I h => wpAny_Call_Name_kw (ld_glob I hg hm (PySem.W.callWith_K (h₀ := X.base) I.ok.mod.kin hk (thn (ha.run pos pins s σ H _ I h) fun us s1 ⟨vs, H1, I1, r, q⟩ => ⟨I1.kIn, ?_⟩) he hpl) hdb)⟩
  have r2 : Vals (vs ++ dvs) (us ++ ds) := r.append hd
  have hl : (us ++ ds).length = ps.length := r2.length.symm.trans (F.len _ _ _ _ q)
  refine wpAny_call (codeAny_mono (F.run X.A hgd hr X.stack s1 H1 ⟨us, []⟩ (us ++ ds) (vs ++ dvs) Q E I1.env0 (hb s1 us I1.kIn hl) r2 q) fun res s' hq => ?_)
  rcases res with e | fl
  · exact hx pins σ H1 s1 e s' I1 hq
  · rcases fl with _ | _ | _ | u
    · exact False.elim hq
    · exact False.elim hq
    · exact False.elim hq
    · exact I1.after hq
end

/-! ### repr of plain data -/
def rReprD (K : PySem.W.Frag) : List V → Hp → VK → Prop := fun xs H Q => ∃ (x : V) (d : PyData), xs = [x] ∧ Dp K H x d ∧ d.canLay0 = true ∧ d.showable = true ∧ d.depth ≤ 60 ∧ d.shown.length ≤ sizeLine ∧ Q (.str d.shown) H
theorem call_reprD {X : Cx} (hgd : X.A.guards = some []) (hu : X.A.units + 64 < cLine) : CallR X (.builtin "repr") (rReprD X.K) := by
  intro pins s σ H xs us Q I r h
  obtain ⟨x, d, rfl, hd, hc, hs, hdep, hz, q⟩ := h
  obtain ⟨u, rfl, rx⟩ := vals1 r
  obtain ⟨as, rd⟩ := Dp.reads I d x u hd rx
  have nd := PyData.hasDict_of_canLay d hc
  have fin : ∀ (h' : Heap) (v tk : Tok), (∀ b o, s.heap.get? b = some o → h'.get? b = some o) → EP X pins σ Q (.str d.shown v) { s with heap := h', toks := tk } := fun h' v tk hk => ⟨.str d.shown, H, I.kept hk, ⟨_, rfl⟩, q⟩
  cases rd with
  | none => exact PySem.P.repr_of_none (fin _ _ _ fun _ _ e => e)
  | bool b =>
    refine PySem.P.repr_of_bool ?_
    cases b <;> exact fin s.heap s.toks (s.toks + 1) fun _ _ e => e
  | int i t => exact PySem.P.repr_of_int (by simpa [PyData.showable] using hs) (fin s.heap s.toks (s.toks + 1) fun _ _ e => e)
  | str y t => exact PySem.P.repr_of_str (fin s.heap s.toks (s.toks + 1) fun _ _ e => e) hz
  | list h1 h2 h3 h4 => exact repr_of_reads' (.list h1 h2 h3 h4) hs (PyData.noDict_hsm nd) hgd (by omega) (fun _ _ e => e) fin hz
  | tuple h1 h2 h3 h4 => exact repr_of_reads' (.tuple h1 h2 h3 h4) hs (PyData.noDict_hsm nd) hgd (by omega) (fun _ _ e => e) fin hz
  | dict h1 h2 h3 h4 h5 => simp [PyData.canLay0] at hc

/-! ### the end: a law whose promise asks that no repr is under way -/
theorem law_callG {P : Program} {w : World} {K : PySem.W.Frag} {mg mb : Str → Option Value} {k : Nat} {fa a : Addr} {fd : FuncData} {x : Str} {sp : Sp} {s₁ : Shared} {vs : List Value} {ns : List Int}
    (KX : K.In s₁.heap) (hns : s₁.heap.Ns mainGlobals mg) (hb : s₁.heap.Ns builtinsNs mb) (hbb : ∀ x : Str, x ≠ "__name__" → mb x = bootBuiltins x) (hlim : s₁.heap.NoLimit) (hg : s₁.gens = #[])
    (ha : s₁.heap.get? a = some { cls := .type "list", data := .seq vs.toArray }) (hi : IntsAre vs ns) (hl : ns.length ≤ sizeLine) (hr : Room k callerA)
    (F : ∀ base : Heap, K.In base → base.Ns mainGlobals mg → FnG P w K mg base CX0 k fa fd [x] sp) (hbind : ∀ (s : Shared) (u : Value), BindsTo s fd ⟨[u], []⟩ [(x, u)])
    (hsp : ∀ H : Hp, SqL K H a (ns.map V.int) → sp [.ref a] H (fun v _ => v = .bl true) fun _ _ _ => False) :
    codeAny (model P w) callerA (.call (.ref fa) ⟨[.ref a], []⟩) (fun r s' => r = .ok (.ret (.bool true)) ∧ OldK s₁.heap s'.heap ∧ s'.os = s₁.os ∧ AllBare s'.gens) s₁ := by
  let oS : Obj := { cls := .type "list", data := .seq vs.toArray }
  -- the script is tracked as it stands, unless it is one of the module's own objects
  let H : Hp := fun b => if b = a ∧ K.lookup a = none then some (.frz oS (.lst (ns.map V.int))) else none
  have rv := vals_ints hi
  have Hsome : ∀ {b : Addr} {o : HO}, H b = some o → b = a ∧ K.lookup a = none ∧ o = .frz oS (.lst (ns.map V.int)) := fun {b o} e => by
    by_cases c : b = a ∧ K.lookup a = none
    · have e' := (if_pos c).symm.trans e
      exact ⟨c.1, c.2, (Option.some.inj e').symm⟩
    · have e' := (if_neg c).symm.trans e
      cases e'
  have free : ∀ {b : Addr}, (∀ z : b = a, K.lookup a ≠ none) → H b = none := fun {b} n => if_neg fun c => n c.1 c.2
  have hS : SqL K H a (ns.map V.int) := by
    cases hk : K.lookup a with
    | none => exact .inl (.inr ⟨oS, if_pos ⟨rfl, hk⟩⟩)
    | some o =>
      have e := (KX a o hk).symm.trans ha
      cases e
      exact .inr ⟨_, vs.toArray, _, hk, rfl, rfl, rfl, by rw [List.size_toArray, hi.length]; exact hl, by simpa using rv⟩
  have hok : HOk P w H s₁.heap := fun b o e => by
    obtain ⟨rfl, _, rfl⟩ := Hsome e
    exact ⟨ha, by rw [List.length_map]; exact hl, vs, _, rv, ha⟩
  have noDict : ∀ {b : Addr} {o : Obj} {es : Array DictEntry} {ep : Nat}, s₁.heap.get? b = some o → o.data = .dict es ep → H b = none := fun {b o es ep} e d => free fun z => by
    subst z
    rw [ha] at e
    cases e
    cases d
  have ns_hid : ∀ {b : Addr} {m : Str → Option Value}, s₁.heap.Ns b m → (hidT s₁.heap H).Ns b m := fun {b m} ⟨o, es, ep, e, d, r⟩ => ⟨o, es, ep, hidT_get e (noDict e d), d, r⟩
  have hKb : K.In (hidT s₁.heap H) := fun b o e => hidT_get (KX b o e) (free fun z => by subst z; rw [e]; exact fun y => nomatch y)
  have hM : Mod K mg (hidT s₁.heap H) := ⟨hKb, ns_hid hns, ⟨mb, ns_hid hb, hbb⟩, let ⟨mc, h1, h2⟩ := hlim; ⟨mc, ns_hid h1, h2⟩⟩
  have e0 : Env0 P w K mg (hidT s₁.heap H) callerA [] s₁ H := ⟨rfl, hM, fun b o e => of_hidT e, Nat.le_of_eq (hidT_size _ _), trivial, (fun b hb => absurd (show b ∈ ([] : List Addr) from hb) (by simp)), hok, .of_eq hg⟩
  refine codeAny_mono ((F _ hKb (ns_hid hns)).run callerA rfl hr [] s₁ H ⟨[.ref a], []⟩ [.ref a] [.ref a] _ _ e0 (hbind s₁ (.ref a)) (.cons rfl .nil) (hsp H hS)) fun r s' h => ?_
  rcases r with e | fl
  · exact False.elim h
  rcases fl with _ | _ | _ | u
  · exact False.elim h
  · exact False.elim h
  · exact False.elim h
  obtain ⟨v, H', os, bare, un, hok', r', q⟩ := h
  have q' : v = .bl true := q
  subst q'
  obtain rfl : u = Value.bool true := r'
  refine ⟨rfl, OldK.of_keep fun b o e => ?_, os, bare⟩
  cases hb' : H b with
  | none => exact un.keep b o e hb' (fun z => absurd (show b ∈ ([] : List Addr) from z) (by simp)) (by simp)
  | some u =>
    obtain ⟨rfl, hk, rfl⟩ := Hsome hb'
    have e2 := (hok' _ _ (un.frzs _ oS _ hb')).1
    rw [ha] at e
    cases e
    exact e2
theorem walk_ofG {l : PySem.W.OpenLaw} {n k : Nat} {q : Program} {loose : List Str} {XP : (Str → Option Value) → Heap → Prop} {YP : World → Heap → Prop} {d : DefRec} {K : Params → PySem.W.Frag} {sp : PySem.W.Frag → Sp} {x : Str}
    (hn : l.most = some n) (hn2 : n ≤ sizeLine) (hdf : d.params.defaults = []) (hr : Room k callerA)
    (hY : ∀ (w : World) (h : Heap), YP w h → (K w.params).In h)
    (F : ∀ (w : World) (mg : Str → Option Value) (fa : Addr) (h : Heap), (K w.params).In h → h.Ns mainGlobals mg → mg d.name = some (.ref fa) →
      ∃ fd : FuncData, (∀ (s : Shared) (u : Value), BindsTo s fd ⟨[u], []⟩ [(x, u)]) ∧
        ∀ base : Heap, (K w.params).In base → base.Ns mainGlobals mg → FnG l.prog w (K w.params) mg base CX0 k fa fd [x] (sp (K w.params)))
    (hsp : ∀ (K : PySem.W.Frag) (H : Hp) (a : Addr) (ns : List Int), ns.length ≤ n → SqL K H a (ns.map V.int) → sp K [.ref a] H (fun v _ => v = .bl true) fun _ _ _ => False) :
    PySem.W.WalkO q loose XP YP l.row.toRowW d [] (fun f vs => PySem.call f vs) :=
  Att.attach_call hn hdf fun w s₀ s₁ mg mb fa o pm cd doc a vs ns G Y ho hd hcd hmg hobj hints hlen hg =>
    have KX := hY w _ Y
    let ⟨fd, hb, hF⟩ := F w mg fa _ KX G.T.g hmg
    law_callG KX G.T.g G.T.b G.T.builtins G.T.nolimit hg hobj hints (Nat.le_trans hlen hn2) hr hF hb fun H hS => hsp _ H a ns hlen hS
end MB

set_option maxHeartbeats 4000000
namespace MB
open PySem PySem.Spec PyProof.Rows L2
/-- data whose repr is asked: levels, size -/
structure Rp (k n : Nat) (d : PyData) : Prop where
  sh : Sh k d
  shw : d.showable = true
  short : d.leavesShort 13 = true
  bulk : d.bulk ≤ n
theorem Rp.mono {k n m : Nat} {d : PyData} (h : Rp k n d) (e : n ≤ m) : Rp k m d := ⟨h.sh, h.shw, h.short, Nat.le_trans h.bulk e⟩
theorem Rp.int {i : Int} {k : Nat} (h : i.natAbs < 1000000) : Rp k 0 (.int i) := by
  refine ⟨.int i, ?_, ?_, by simp [PyData.bulk]⟩
  · simp only [PyData.showable]
    refine decide_eq_true ?_
    by_cases h0 : i.natAbs = 0
    · rw [h0]; decide
    · exact Nat.lt_trans ((Nat.log2_lt h0).mpr (show i.natAbs < 2 ^ 20 by omega)) (by decide)
  · simp only [PyData.leavesShort]
    refine decide_eq_true ?_
    have e := int_text_length_le10 (a := i) (k := 6) (by decide) h
    have e2 : (PyData.shown (.int i)).length = (toString i).length := by
      simp only [PyData.shown]
      exact PySem.ofString_length _
    omega
theorem rp_all {k n : Nat} : ∀ {ds : List PyData}, (∀ d, d ∈ ds → Rp k n d) → PyData.showableAll ds = true ∧ PyData.leavesShortAll 13 ds = true ∧ PyData.bulkAll ds ≤ (n + 1) * ds.length
  | [], _ => ⟨by simp [PyData.showableAll], by simp [PyData.leavesShortAll], by simp [PyData.bulkAll]⟩
  | d :: ds, h => by
    have h1 := h d (List.mem_cons_self ..)
    obtain ⟨a, b, c⟩ := rp_all fun e he => h e (List.mem_cons_of_mem _ he)
    refine ⟨by simp only [PyData.showableAll, h1.shw, a, Bool.and_self], by simp only [PyData.leavesShortAll, h1.short, b, Bool.and_self], ?_⟩
    simp only [PyData.bulkAll, List.length_cons]
    have := h1.bulk
    rw [Nat.mul_add]
    omega
theorem Rp.tup {k n m : Nat} {ds : List PyData} (h : ∀ d, d ∈ ds → Rp k n d) (hm : (n + 1) * ds.length ≤ m) : Rp (k + 1) m (.tuple ds) := by
  obtain ⟨a, b, c⟩ := rp_all h
  exact ⟨Sh.tup fun d hd => (h d hd).sh, by simp only [PyData.showable]; exact a, by simp only [PyData.leavesShort]; exact b, by simp only [PyData.bulk]; omega⟩
theorem Rp.lst {k n m : Nat} {ds : List PyData} (h : ∀ d, d ∈ ds → Rp k n d) (hm : (n + 1) * ds.length ≤ m) : Rp (k + 1) m (.list ds) := by
  obtain ⟨a, b, c⟩ := rp_all h
  exact ⟨Sh.lst fun d hd => (h d hd).sh, by simp only [PyData.showable]; exact a, by simp only [PyData.leavesShort]; exact b, by simp only [PyData.bulk]; omega⟩
theorem Rp.ints {ns : List Int} {k m : Nat} (h : ∀ i, i ∈ ns → i.natAbs < 1000000) (hm : ns.length ≤ m) : Rp (k + 1) m (.tuple (ns.map PyData.int)) :=
  Rp.tup (n := 0) (fun d hd => by obtain ⟨i, hi, rfl⟩ := List.mem_map.mp hd; exact .int (h i hi)) (by rw [List.length_map]; omega)
theorem Rp.bool {b : Bool} {k : Nat} : Rp k 0 (.bool b) := ⟨⟨by simp [PyData.canLay0], by simp [PyData.depth]⟩, by simp [PyData.showable], by simp [PyData.leavesShort], by simp [PyData.bulk]⟩
/-- repr(x), by data -/
theorem repr_read {K : PySem.W.Frag} {H : Hp} {x : V} {d : PyData} {Q : VK} {k n : Nat} (hd : Dp K H x d) (hs : Rp k n d) (hk : k ≤ 60) (hn : n ≤ 1048576) (q : Q (.str d.shown) H) : rReprD K [x] H Q :=
  ⟨x, d, rfl, hd, hs.sh.1, hs.shw, Nat.le_trans hs.sh.2 hk, PyData.shown_fits_bulk (B := 13) (by decide) (by decide) hs.short (Nat.le_trans hs.bulk (by omega)), q⟩
theorem Rp.all {k n : Nat} {d : PyData} (hs : Rp k n d) (hk : k ≤ 60) (hn : n ≤ 1048576) : d.canLay0 = true ∧ d.showable = true ∧ d.depth ≤ 60 ∧ d.shown.length ≤ sizeLine :=
  ⟨hs.sh.1, hs.shw, Nat.le_trans hs.sh.2 hk, PyData.shown_fits_bulk (B := 13) (by decide) (by decide) hs.short (Nat.le_trans hs.bulk (by omega))⟩
end MB

set_option maxHeartbeats 4000000
namespace MB
open PySem PySem.Spec PyProof.Rows L2
/-- data whose repr is asked: levels, size -/
structure RpW (k n : Nat) (d : PyData) : Prop where
  sh : Sh k d
  shw : d.showable = true
  short : d.leavesShort  75 = true
  bulk : d.bulk ≤ n
theorem RpW.mono {k n m : Nat} {d : PyData} (h : RpW k n d) (e : n ≤ m) : RpW k m d := ⟨h.sh, h.shw, h.short, Nat.le_trans h.bulk e⟩
theorem RpW.int {i : Int} {k : Nat} (h : i.natAbs < 10 ^ 70) : RpW k 0 (.int i) := by
  refine ⟨.int i, ?_, ?_, by simp [PyData.bulk]⟩
  · simp only [PyData.showable]
    refine decide_eq_true ?_
    by_cases h0 : i.natAbs = 0
    · rw [h0]; decide
    · exact Nat.lt_trans ((Nat.log2_lt h0).mpr (show i.natAbs < 2 ^ 240 by exact Nat.lt_trans h (by decide +kernel))) (by decide)
  · simp only [PyData.leavesShort]
    refine decide_eq_true ?_
    have e := int_text_length_le10 (a := i) (k := 70) (by decide) h
    have e2 : (PyData.shown (.int i)).length = (toString i).length := by
      simp only [PyData.shown]
      exact PySem.ofString_length _
    omega
theorem rpW_all {k n : Nat} : ∀ {ds : List PyData}, (∀ d, d ∈ ds → RpW k n d) → PyData.showableAll ds = true ∧ PyData.leavesShortAll  75 ds = true ∧ PyData.bulkAll ds ≤ (n + 1) * ds.length
  | [], _ => ⟨by simp [PyData.showableAll], by simp [PyData.leavesShortAll], by simp [PyData.bulkAll]⟩
  | d :: ds, h => by
    have h1 := h d (List.mem_cons_self ..)
    obtain ⟨a, b, c⟩ := rpW_all fun e he => h e (List.mem_cons_of_mem _ he)
    refine ⟨by simp only [PyData.showableAll, h1.shw, a, Bool.and_self], by simp only [PyData.leavesShortAll, h1.short, b, Bool.and_self], ?_⟩
    simp only [PyData.bulkAll, List.length_cons]
    have := h1.bulk
    rw [Nat.mul_add]
    omega
theorem RpW.tup {k n m : Nat} {ds : List PyData} (h : ∀ d, d ∈ ds → RpW k n d) (hm : (n + 1) * ds.length ≤ m) : RpW (k + 1) m (.tuple ds) := by
  obtain ⟨a, b, c⟩ := rpW_all h
  exact ⟨Sh.tup fun d hd => (h d hd).sh, by simp only [PyData.showable]; exact a, by simp only [PyData.leavesShort]; exact b, by simp only [PyData.bulk]; omega⟩
theorem RpW.lst {k n m : Nat} {ds : List PyData} (h : ∀ d, d ∈ ds → RpW k n d) (hm : (n + 1) * ds.length ≤ m) : RpW (k + 1) m (.list ds) := by
  obtain ⟨a, b, c⟩ := rpW_all h
  exact ⟨Sh.lst fun d hd => (h d hd).sh, by simp only [PyData.showable]; exact a, by simp only [PyData.leavesShort]; exact b, by simp only [PyData.bulk]; omega⟩
theorem RpW.ints {ns : List Int} {k m : Nat} (h : ∀ i, i ∈ ns → i.natAbs < 10 ^ 70) (hm : ns.length ≤ m) : RpW (k + 1) m (.tuple (ns.map PyData.int)) :=
  RpW.tup (n := 0) (fun d hd => by obtain ⟨i, hi, rfl⟩ := List.mem_map.mp hd; exact .int (h i hi)) (by rw [List.length_map]; omega)
theorem RpW.bool {b : Bool} {k : Nat} : RpW k 0 (.bool b) := ⟨⟨by simp [PyData.canLay0], by simp [PyData.depth]⟩, by simp [PyData.showable], by simp [PyData.leavesShort], by simp [PyData.bulk]⟩
theorem fits75 {d : PyData} (hl : d.leavesShort 75 = true) (hw : d.bulk ≤ 100000) : d.shown.length ≤ sizeLine := by
  have h := PyData.shown_le_bulk 75 (by decide) d hl
  have h2 : (75 + 2) * d.bulk ≤ 77 * 100000 := Nat.mul_le_mul (by omega) (by omega)
  have e : sizeLine = 16777216 := by decide
  omega
/-- repr(x), by data -/
theorem reprW_read {K : PySem.W.Frag} {H : Hp} {x : V} {d : PyData} {Q : VK} {k n : Nat} (hd : Dp K H x d) (hs : RpW k n d) (hk : k ≤ 60) (hn : n ≤ 100000) (q : Q (.str d.shown) H) : rReprD K [x] H Q :=
  ⟨x, d, rfl, hd, hs.sh.1, hs.shw, Nat.le_trans hs.sh.2 hk, fits75 hs.short (Nat.le_trans hs.bulk hn), q⟩
theorem RpW.all {k n : Nat} {d : PyData} (hs : RpW k n d) (hk : k ≤ 60) (hn : n ≤ 100000) : d.canLay0 = true ∧ d.showable = true ∧ d.depth ≤ 60 ∧ d.shown.length ≤ sizeLine :=
  ⟨hs.sh.1, hs.shw, Nat.le_trans hs.sh.2 hk, fits75 hs.short (Nat.le_trans hs.bulk hn)⟩
end MB

set_option maxHeartbeats 4000000
namespace MB
open PySem PySem.Spec PyProof.Rows L2
/-! ### data of any kind, dicts among them -/
def kD : Key → PyData
  | .inl i => .int i
  | .inr x => .str x
mutual
inductive Dq (K : PySem.W.Frag) (H : Hp) : V → PyData → Prop
  | nonq : Dq K H .non .none
  | blq (b : Bool) : Dq K H (.bl b) (.bool b)
  | intq (i : Int) : Dq K H (.int i) (.int i)
  | strq (x : Str) : Dq K H (.str x) (.str x)
  | lstq {a : Addr} {xs : List V} {ds : List PyData} : SqL K H a xs → a ≠ sysModules → DqAll K H xs ds → Dq K H (.ref a) (.list ds)
  | tupq {a : Addr} {xs : List V} {ds : List PyData} : SqT K H a xs → DqAll K H xs ds → Dq K H (.ref a) (.tuple ds)
  | dctq {a : Addr} {kvs : List (Key × V)} {des : List (PyData × PyData)} : H a = some (.dK kvs) → des.map (·.1) = kvs.map (fun p => kD p.1) → DqAll K H (kvs.map (·.2)) (des.map (·.2)) → Dq K H (.ref a) (.dict des)
inductive DqAll (K : PySem.W.Frag) (H : Hp) : List V → List PyData → Prop
  | nil : DqAll K H [] []
  | cons {v : V} {vs : List V} {d : PyData} {ds : List PyData} : Dq K H v d → DqAll K H vs ds → DqAll K H (v :: vs) (d :: ds)
end
section
variable {X : Cx} {pins : List (Addr × Obj)} {σ : L2.St} {H : Hp} {s : Shared}
theorem keys_read {h : Heap} {P : Program} {w : World} {es : List DictEntry} {vs : List (Key × Value)} (hp : Pairs (mixKind P w) es vs) : ∀ {kvs : List (Key × V)}, KV kvs vs →
    ReadsAll h (es.map (·.key)) (kvs.map fun p => kD p.1) [] ∧ Vals (kvs.map (·.2)) (es.map (·.val)) := by
  induction hp with
  | nil => intro kvs r; cases r; exact ⟨.nil, .nil⟩
  | @cons e kv es vs a b c ih =>
    intro kvs r
    cases r with
    | @cons p _ ps _ r t =>
      obtain ⟨h1, h2⟩ := ih t
      obtain ⟨r1, r2⟩ := r
      have r3 : RelV p.2 e.val := by rw [b]; exact r2
      refine ⟨?_, .cons r3 h2⟩
      have e1 : keyIs kv.1 e.key = true := a
      rw [List.map_cons, List.map_cons, r1]
      rcases keyIs_shape e1 with ⟨i, t, h3, h4⟩ | ⟨x, t, h3, h4⟩
      · rw [h3, h4]; exact ReadsAll.cons (as := []) (bs := []) (.int i t) h1
      · rw [h3, h4]; exact ReadsAll.cons (as := []) (bs := []) (.str x t) h1
theorem Dq.reads (I : Inv X pins σ H s) {d : PyData} {v : V} (hq : Dq X.K H v d) : ∀ u : Value, RelV v u → ∃ as, Reads s.heap u d as ∧ sysModules ∉ as := by
  refine Dq.rec (motive_1 := fun v d _ => ∀ u : Value, RelV v u → ∃ as, Reads s.heap u d as ∧ sysModules ∉ as) (motive_2 := fun vs ds _ => ∀ us : List Value, Vals vs us → ∃ as, ReadsAll s.heap us ds as ∧ sysModules ∉ as) ?_ ?_ ?_ ?_ ?_ ?_ ?_ ?_ ?_ hq
  · intro u r; cases r; exact ⟨_, .none, by simp⟩
  · intro b u r; cases r; exact ⟨_, .bool b, by simp⟩
  · intro i u r; obtain ⟨t, rfl⟩ := r; exact ⟨_, .int i t, by simp⟩
  · intro x u r; obtain ⟨t, rfl⟩ := r; exact ⟨_, .str x t, by simp⟩
  · intro a xs ds hs hne _ ih u r
    cases r
    obtain ⟨its, rv, ⟨o, n, h1, h2, h3, h4⟩, _⟩ := I.list hs
    obtain ⟨as, ra, na⟩ := ih _ rv
    refine ⟨_, .list h1 h2 h4 (by simpa using ra), ?_⟩
    intro hm
    rcases List.mem_cons.mp hm with e | e
    · exact hne e.symm
    · exact na e
  · intro a xs ds hs _ ih u r
    cases r
    obtain ⟨its, rv, ⟨o, h1, h2, n, h3⟩, _⟩ := I.tuple hs
    obtain ⟨as, ra, na⟩ := ih _ rv
    exact ⟨_, .tuple h1 h2 h3 (by simpa using ra), na⟩
  · intro a kvs des he hk _ ih u r
    cases r
    obtain ⟨_, hsys, vs, kv, o, es, ep, h1, h2, h3, _, h5, _⟩ := dk_of I.hok he
    obtain ⟨g1, g2⟩ := keys_read (h := s.heap) h5 kv
    obtain ⟨bs, rb, nb⟩ := ih _ g2
    refine ⟨_, .dict h1 h2.1 h3 (by rw [hk]; exact g1) rb, ?_⟩
    intro hm
    rcases List.mem_cons.mp hm with e | e
    · rw [← e] at hsys; simp at hsys
    · exact nb (by simpa using e)
  · intro us t; cases t; exact ⟨_, .nil, by simp⟩
  · intro v vs d ds _ _ h1 h2 us t
    cases t with
    | cons r t =>
      obtain ⟨as, g1, n1⟩ := h1 _ r
      obtain ⟨bs, g2, n2⟩ := h2 _ t
      exact ⟨_, .cons g1 g2, by simp [n1, n2]⟩
end
theorem Dq.same {K : PySem.W.Frag} {H H' : Hp} (e : Same H H') {v : V} {d : PyData} (h : Dq K H v d) : Dq K H' v d := by
  refine Dq.rec (motive_1 := fun v d _ => Dq K H' v d) (motive_2 := fun vs ds _ => DqAll K H' vs ds) ?_ ?_ ?_ ?_ ?_ ?_ ?_ ?_ ?_ h
  · exact .nonq
  · intro b; exact .blq b
  · intro i; exact .intq i
  · intro x; exact .strq x
  · intro a xs ds hs hne _ ih; exact .lstq (e.seq hs) hne ih
  · intro a xs ds hs _ ih; exact .tupq (Same.tup e hs) ih
  · intro a kvs des he hk _ ih; exact .dctq (e _ _ he) hk ih
  · exact .nil
  · intro v vs d ds _ _ h1 h2; exact .cons h1 h2
theorem DqAll.same {K : PySem.W.Frag} {H H' : Hp} (e : Same H H') : ∀ {vs : List V} {ds : List PyData}, DqAll K H vs ds → DqAll K H' vs ds
  | _, _, .nil => .nil
  | _, _, .cons a b => .cons (Dq.same e a) (DqAll.same e b)
/-! ### repr -/
def rReprQ (K : PySem.W.Frag) : List V → Hp → VK → Prop := fun xs H Q => ∃ (x : V) (d : PyData), xs = [x] ∧ Dq K H x d ∧ d.showable = true ∧ d.depth ≤ 60 ∧ d.shown.length ≤ sizeLine ∧ Q (.str d.shown) H
theorem call_reprQ {X : Cx} (hgd : X.A.guards = some []) (hu : X.A.units + 64 < cLine) : CallR X (.builtin "repr") (rReprQ X.K) := by
  intro pins s σ H xs us Q I r h
  obtain ⟨x, d, rfl, hd, hs, hdep, hz, q⟩ := h
  obtain ⟨u, rfl, rx⟩ := vals1 r
  obtain ⟨as, rd, nsys⟩ := Dq.reads I hd u rx
  have fin : ∀ (h' : Heap) (v tk : Tok), (∀ b o, s.heap.get? b = some o → h'.get? b = some o) → EP X pins σ Q (.str d.shown v) { s with heap := h', toks := tk } := fun h' v tk hk => ⟨.str d.shown, H, I.kept hk, ⟨_, rfl⟩, q⟩
  cases rd with
  | none => exact PySem.P.repr_of_none (fin _ _ _ fun _ _ e => e)
  | bool b =>
    refine PySem.P.repr_of_bool ?_
    cases b <;> exact fin s.heap s.toks (s.toks + 1) fun _ _ e => e
  | int i t => exact PySem.P.repr_of_int (by simpa [PyData.showable] using hs) (fin s.heap s.toks (s.toks + 1) fun _ _ e => e)
  | str y t => exact PySem.P.repr_of_str (fin s.heap s.toks (s.toks + 1) fun _ _ e => e) hz
  | list h1 h2 h3 h4 => exact repr_of_reads' (.list h1 h2 h3 h4) hs (fun _ => nsys) hgd (by omega) (fun _ _ e => e) fin hz
  | tuple h1 h2 h3 h4 => exact repr_of_reads' (.tuple h1 h2 h3 h4) hs (fun _ => nsys) hgd (by omega) (fun _ _ e => e) fin hz
  | dict h1 h2 h3 h4 h5 => exact repr_of_reads' (.dict h1 h2 h3 h4 h5) hs (fun _ => nsys) hgd (by omega) (fun _ _ e => e) fin hz
theorem k_reprQ {X : Cx} {K : PySem.W.Frag} (e : X.K = K) (hgd : X.A.guards = some []) (hu : X.A.units + 64 < cLine) : CallR X (.builtin "repr") (rReprQ K) := by
  rw [← e]; exact call_reprQ hgd hu
end MB

set_option maxHeartbeats 4000000
namespace MB
open PySem PySem.Spec PyProof.Rows L2

/-! ### f(p = v), no value by position -/
def gK {α : Type} (us ws : List α) : List α := match us with
  | [] => ws
  | _ :: _ => []
section
variable {X : Cx} {CX : CXT} {k : Nat} {f : Addr} {fd : FuncData} {ps ks : List Str} {sp : Sp} {E : XK} {x : Str} {p pos : Pos} {kws : List Keyword} {tk : TA} {g : List Value → List Value → List Value} {gV : List V → List V → List V}
theorem pe_callK0 (F : FnOk X.prog X.w X.K X.mg X.base CX k f fd ps sp) (hr : Room k X.A) (hg : Gl X x) (hm : X.mg x = some (.ref f)) (hk : PySem.W.keepIn X.K (.ref f) = true) (hb : KBinds X.K fd ps ks g gV) (hx : Passes CX X E)
    (hkw : PK X kws tk) (hall : (backToKw pos (keywordEach kws X.env)).all (·.1.isSome) = true := by rfl) (hks : (backToKw pos (keywordEach kws X.env)).filterMap (·.1) = ks := by rfl)
    (hdb : (x == ("__debug__" : Str)) = false := by decide)
    (hpl : ((backTo pos (starEach [] X.env)).any (·.1) || (backToKw pos (keywordEach kws X.env)).any (·.1.isNone)) = false := by rfl) :
    PE X (.Call (.Name x p) [] kws pos) (tCallK sp gV E tNil tk) := by
  refine ⟨fun pins s σ H Q I h => ?_⟩
  refine wpAny_Call_Name_kw (ld_glob I hg hm ?_ hdb)
  refine PySem.W.callWith_KW0 (h₀ := X.base) I.ok.mod.kin hk hall ?_ hpl
  refine thn (hkw.run pos pins s σ H _ I h) fun ws s2 ⟨zs, H2, I2, rz, q2⟩ => ⟨I2.kIn, ?_⟩
  rw [hks]
  exact run_fnk (us := []) (vs := []) F hr hb hx I2 .nil rz q2
end
theorem kb1 {K : PySem.W.Frag} {x qual : Str} {st : Stmt} {f : Addr} {fd : FuncData} {q : Str} (F : L2.Fun K x qual st f fd)
    (h : ∀ (kV doc pm : Value) (an : Option Addr) (cdv ct u : Value), bindArgs (PySem.W.fnOf x qual (defArgs st) (defBody st) (defScope st) .none kV doc pm an cdv ct) ⟨[], [(q, u)]⟩ = pure [(q, u)]) : KBinds K fd [q] [q] gK gK := by
  obtain ⟨oc, od, kV, doc, pm, an, cdv, ct, osl, rfl, lk, hcd⟩ := F.ex
  refine ⟨fun s us ws _ hl => ?_, fun {vs us zs ws} r1 r2 => ?_⟩
  · cases us with
    | cons u us => exact nomatch hl
    | nil =>
      match ws, hl with
      | [u], _ => exact .of_eq (h kV doc pm an cdv ct u)
  · cases r1 with
    | nil => exact r2
    | cons _ _ => exact .nil

/-! ### a comprehension with a test -/
theorem lc_sel {K : PySem.W.Frag} {J : It} {n : Nat} {G : Hp → Prop} {Y : Nat → Hp → V → Hp → Prop} (w : Walk J n G Y) {g : TG} {tt : TT} {te : TE} {vs : List Nat} {σ : L2.St} {H1 : Hp} {D : Addr} {Qd : Hp → Prop}
    (f : Nat → Bool) (d : Nat → PyData) (ht : ∀ i, i < n → Tf (d i)) (hn : n ≤ 1000) (hD : H1 D = none) (hG : ∀ H, Same H1 H → G H)
    (hs : ∀ i x H H', i < n → Same H1 H → Y i H x H' → ∀ R : V → Hp → Prop, (∀ y H4, Same H H4 → Dp K H4 y (d i) → R y H4) →
      g x (wipe σ vs) H' fun σ2 H2 => wipe σ2 vs = wipe σ vs ∧ tt σ2 H2 fun b H3 => b = f i ∧ Same H H3 ∧ (b = true → te σ2 H3 R))
    (hd : ∀ H acc, Same H1 H → H D = some (.lst acc) → DpAll K H acc (((List.range n).filter f).map d) → Qd H)
    (mg : ∀ x σ' H' (Q Q' : L2.St → Hp → Prop), (∀ a b, Q a b → Q' a b) → g x σ' H' Q → g x σ' H' Q') (mt : ∀ σ' H' (Q Q' : Bool → Hp → Prop), (∀ a b, Q a b → Q' a b) → tt σ' H' Q → tt σ' H' Q') :
    ∃ W : Nat → Nat → Hp → Prop, (∃ m, W 0 m (upd H1 D (.lst []))) ∧ ∀ i m H, W i m H →
      (J.stop i H ∧ Qd H) ∨ (J.go i H ∧ ∃ Nx : Hp → Prop, (∀ H', Nx H' → ∃ m', m' < m ∧ W (i + 1) m' H') ∧ ∀ x H', J.yld i H x H' → g x (wipe σ vs) H' fun σ2 H2 => wipe σ2 vs = wipe σ vs ∧ tt σ2 H2 fun b H3 =>
        if b = true then te σ2 H3 fun y H4 => ∃ acc, H4 D = some (.lst acc) ∧ acc.length < sizeLine ∧ Nx (upd H4 D (.lst (acc ++ [y]))) else Nx H3) := by
  refine lc_it w (fun i H => Same H1 H ∧ ∃ acc, H D = some (.lst acc) ∧ DpAll K H acc (((List.range i).filter f).map d)) ⟨same_upd hD, [], upd_same, .nil⟩ (fun i H _ h => hG H h.1) ?_ ?_
  · rintro i x H H' hi ⟨s1, acc, ha, hA⟩ hy
    have hlen := DpAll.len hA
    have hle : acc.length ≤ i := by
      rw [hlen, List.length_map]
      have := List.length_filter_le f (List.range i)
      rw [List.length_range] at this
      exact this
    refine mg _ _ _ _ _ ?_ (hs i x H H' hi s1 hy (fun y H4 => ∃ acc, H4 D = some (.lst acc) ∧ acc.length < sizeLine ∧ (f i = true → Same H1 (upd H4 D (.lst (acc ++ [y]))) ∧ ∃ acc', (upd H4 D (.lst (acc ++ [y]))) D = some (.lst acc') ∧ DpAll K (upd H4 D (.lst (acc ++ [y]))) acc' (((List.range (i + 1)).filter f).map d))) ?_)
    · rintro σ2 H2 ⟨h1, h2⟩
      refine ⟨h1, mt _ _ _ _ ?_ h2⟩
      rintro b H3 ⟨hb, s3, h3⟩
      cases b with
      | true =>
        refine iteT ?_
        have h4 := h3 rfl
        have hb' := hb.symm
        simp only [hb', true_implies] at h4
        exact h4
      | false =>
        refine iteF ⟨s1.trans s3, acc, s3 _ _ ha, ?_⟩
        rw [List.range_succ, List.filter_append, List.map_append]
        have e : List.filter f [i] = [] := by rw [List.filter_cons, if_neg (by rw [← hb]; decide)]; rfl
        rw [e, List.map_nil, List.append_nil]
        exact DpAll.same s3 hA
    · intro y H4 s4 hy4
      refine ⟨acc, s4 _ _ ha, sz61 (by omega), fun hf => ⟨Same.mut (s1.trans s4) hD, acc ++ [y], upd_same, ?_⟩⟩
      have kp : Keep K H4 (upd H4 D (.lst (acc ++ [y]))) := But.keep But.upd (s4 _ _ ha)
      have e : List.filter f [i] = [i] := by rw [List.filter_cons, if_pos hf]; rfl
      rw [List.range_succ, List.filter_append, List.map_append, e]
      refine DpAll.keep kp (fun d' h => ?_) (DpAll.append (DpAll.same s4 hA) (.cons hy4 .nil))
      rcases List.mem_append.mp h with h | h
      · obtain ⟨j, hj, rfl⟩ := List.mem_map.mp h
        have := List.mem_range.mp (List.mem_filter.mp hj).1
        exact ht j (by omega)
      · have e : d' = d i := by simpa using h
        rw [e]; exact ht i hi
  · rintro H ⟨s1, acc, ha, hA⟩
    exact hd H acc s1 ha hA
end MB

set_option maxHeartbeats 4000000
namespace MB
open PySem PySem.Spec PyProof.Rows L2
/-! ### x *= e -/
theorem ip_mulW {X : Cx} : PIp X .Mult (fun x y H Q => ∃ i j, x = .int i ∧ y = .int j ∧ CMulW i j ∧ Q (.int (i * j)) H) := by
  intro pins s σ H x y v u Q I r1 r2 h
  obtain ⟨i, j, e1, e2, hc, q⟩ := h
  subst e1; subst e2
  obtain ⟨t, rfl⟩ := r1
  obtain ⟨t', rfl⟩ := r2
  exact imul_int ⟨.int _, H, I.tok _, ⟨_, rfl⟩, q⟩ hc.ok
/-! ### f(q = v, p = w): by keywords in any order -/
def gP {α : Type} (idx : List Nat) (us ws : List α) : List α := match us with
  | [] => idx.filterMap fun i => ws[i]?
  | _ :: _ => []
theorem gP_take {α : Type} {n : Nat} {ws : List α} : ∀ {idx : List Nat}, (∀ i, i ∈ idx → i < n) → (idx.filterMap fun i => (ws.take n)[i]?) = idx.filterMap fun i => ws[i]?
  | [], _ => rfl
  | i :: idx, h => by
    have h1 := h i (List.mem_cons_self ..)
    have h2 := gP_take (α := α) (n := n) (ws := ws) (idx := idx) fun j hj => h j (List.mem_cons_of_mem _ hj)
    rw [List.filterMap_cons, List.filterMap_cons, h2, List.getElem?_take, if_pos h1]
theorem gP_len {α : Type} {ws : List α} : ∀ {idx : List Nat}, (idx.filterMap fun i => ws[i]?).length = idx.length → ∀ i, i ∈ idx → i < ws.length
  | [], _, i, h => nomatch h
  | j :: idx, hl, i, h => by
    cases e : ws[j]? with
    | none =>
      simp only [List.filterMap_cons, e] at hl
      have := List.length_filterMap_le (fun i => ws[i]?) idx
      simp only [List.length_cons] at hl
      omega
    | some x =>
      simp only [List.filterMap_cons, e, List.length_cons, Nat.add_right_cancel_iff] at hl
      rcases List.mem_cons.mp h with h | h
      · subst h
        exact (List.getElem?_eq_some_iff.mp e).1
      · exact gP_len hl i h
theorem gP_rel {zs : List V} {ws : List Value} (r : Vals zs ws) : ∀ idx : List Nat, Vals (idx.filterMap fun i => zs[i]?) (idx.filterMap fun i => ws[i]?)
  | [] => .nil
  | i :: idx => by
    have ih := gP_rel r idx
    cases e : zs[i]? with
    | none =>
      have e2 : ws[i]? = none := List.getElem?_eq_none (by rw [← r.length]; exact List.getElem?_eq_none_iff.mp e)
      simp only [List.filterMap_cons, e, e2]; exact ih
    | some x =>
      obtain ⟨u, e2, ru⟩ := r.get e
      simp only [List.filterMap_cons, e, e2]; exact .cons ru ih
theorem zip_take {α β : Type} : ∀ (ks : List α) (ws : List β), ks.zip (ws.take ks.length) = ks.zip ws
  | [], _ => rfl
  | _ :: _, [] => rfl
  | k :: ks, w :: ws => by simp [zip_take ks ws]
theorem kbP {K : PySem.W.Frag} {x qual : Str} {st : Stmt} {f : Addr} {fd : FuncData} {ps ks : List Str} {idx : List Nat} (F : L2.Fun K x qual st f fd) (hi : idx.length = ps.length) (hk : ks.length = ps.length) (hp : 0 < ps.length)
    (hall : (∀ i, i ∈ idx → i < ps.length) ∧ ps.length - 1 ∈ idx)
    (h : ∀ (kV doc pm : Value) (an : Option Addr) (cdv ct : Value) (ws : List Value), ws.length = ps.length → bindArgs (PySem.W.fnOf x qual (defArgs st) (defBody st) (defScope st) .none kV doc pm an cdv ct) ⟨[], ks.zip ws⟩ = pure (ps.zip (gP idx [] ws))) : KBinds K fd ps ks (gP idx) (gP idx) := by
  obtain ⟨oc, od, kV, doc, pm, an, cdv, ct, osl, rfl, lk, hcd⟩ := F.ex
  refine ⟨fun s us ws _ hl => ?_, fun {vs us zs ws} r1 r2 => ?_⟩
  · cases us with
    | cons u us =>
      have : 0 = ps.length := hl
      omega
    | nil =>
      have hl' : (idx.filterMap fun i => ws[i]?).length = idx.length := by rw [hi]; exact hl
      have h2 := gP_len hl' _ hall.2
      have h3 := h kV doc pm an cdv ct (ws.take ps.length) (by rw [List.length_take]; omega)
      have e1 : gP idx [] (ws.take ps.length) = gP idx [] ws := gP_take hall.1
      have e2 : ks.zip (ws.take ps.length) = ks.zip ws := by
        rw [← hk]
        exact zip_take ks ws
      rw [e1, e2] at h3
      exact .of_eq h3
  · cases r1 with
    | nil => exact gP_rel r2 idx
    | cons _ _ => exact .nil
section
variable {X : Cx} {CX : CXT} {k : Nat} {f : Addr} {fd : FuncData} {ps ks : List Str} {sp : Sp} {E : XK} {x : Str} {p pos : Pos} {kws : List Keyword} {tk : TA} {g : List Value → List Value → List Value} {gV : List V → List V → List V}
end
end MB

set_option maxHeartbeats 4000000
namespace MB
open PySem PySem.Spec PyProof.Rows L2
theorem blT {c : Prop} [Decidable c] (h : c) : V.bl (decide c) = V.bl true := by rw [decide_eq_true h]
theorem blF {c : Prop} [Decidable c] (h : ¬ c) : V.bl (decide c) = V.bl false := by rw [decide_eq_false h]
theorem nblF {c : Prop} [Decidable c] (h : c) : V.bl (!decide c) = V.bl false := by rw [decide_eq_true h]; rfl
theorem nblT {c : Prop} [Decidable c] (h : ¬ c) : V.bl (!decide c) = V.bl true := by rw [decide_eq_false h]; rfl
theorem int_ne {i j : Int} (h : i ≠ j) : ¬ V.int i = V.int j := fun e => h (by injection e)
theorem dp_bls_inv {K : PySem.W.Frag} {H : Hp} : ∀ {ns : List Bool} {vs : List V}, DpAll K H vs (ns.map PyData.bool) → vs = ns.map V.bl
  | [], _, .nil => rfl
  | n :: ns, _, .cons a b => by
    cases a
    rw [dp_bls_inv b]
    rfl
/-- a comprehension whose items are truth values -/
theorem lc_bools {K : PySem.W.Frag} {J : It} {n : Nat} {G : Hp → Prop} {Y : Nat → Hp → V → Hp → Prop} (w : Walk J n G Y) {g : TG} {tt : TT} {te : TE} {vs : List Nat} {σ : L2.St} {H1 : Hp} {D : Addr} {Qd : Hp → Prop}
    (bs : List Bool) (hl : bs.length = n) (hn : n ≤ 1000) (hD : H1 D = none) (hG : ∀ H, Same H1 H → G H)
    (hs : ∀ i x H H', i < n → Same H1 H → Y i H x H' → ∀ b, bs[i]? = some b → ∀ R : V → Hp → Prop, (∀ H4, Same H H4 → R (.bl b) H4) →
      g x (wipe σ vs) H' fun σ2 H2 => wipe σ2 vs = wipe σ vs ∧ tt σ2 H2 fun b H3 => b = true ∧ te σ2 H3 R)
    (hd : ∀ H, Same H1 H → H D = some (.lst (bs.map V.bl)) → Qd H)
    (mg : ∀ x σ' H' (Q Q' : L2.St → Hp → Prop), (∀ a b, Q a b → Q' a b) → g x σ' H' Q → g x σ' H' Q') (mt : ∀ σ' H' (Q Q' : Bool → Hp → Prop), (∀ a b, Q a b → Q' a b) → tt σ' H' Q → tt σ' H' Q') :
    ∃ W : Nat → Nat → Hp → Prop, (∃ m, W 0 m (upd H1 D (.lst []))) ∧ ∀ i m H, W i m H →
      (J.stop i H ∧ Qd H) ∨ (J.go i H ∧ ∃ Nx : Hp → Prop, (∀ H', Nx H' → ∃ m', m' < m ∧ W (i + 1) m' H') ∧ ∀ x H', J.yld i H x H' → g x (wipe σ vs) H' fun σ2 H2 => wipe σ2 vs = wipe σ vs ∧ tt σ2 H2 fun b H3 =>
        if b = true then te σ2 H3 fun y H4 => ∃ acc, H4 D = some (.lst acc) ∧ acc.length < sizeLine ∧ Nx (upd H4 D (.lst (acc ++ [y]))) else Nx H3) := by
  refine lc_all (K := K) w (bs.map PyData.bool) (by rw [List.length_map, hl]) (fun d h => ?_) hn hD hG ?_ ?_ mg mt
  · obtain ⟨b, _, rfl⟩ := List.mem_map.mp h
    exact .bl b
  · intro i x H H' hi s y d hd' R hR
    rw [List.getElem?_map] at hd'
    cases e : bs[i]? with
    | none => rw [e] at hd'; cases hd'
    | some b =>
      rw [e] at hd'
      cases hd'
      exact hs i x H H' hi s y b e R fun H4 s4 => hR _ _ s4 (.bl b)
  · intro H acc s ha hA
    rw [dp_bls_inv hA] at ha
    exact hd H s ha
/-- a comprehension whose items are numbers -/
theorem lc_ints {K : PySem.W.Frag} {J : It} {n : Nat} {G : Hp → Prop} {Y : Nat → Hp → V → Hp → Prop} (w : Walk J n G Y) {g : TG} {tt : TT} {te : TE} {vs : List Nat} {σ : L2.St} {H1 : Hp} {D : Addr} {Qd : Hp → Prop}
    (bs : List Int) (hl : bs.length = n) (hn : n ≤ 1000) (hD : H1 D = none) (hG : ∀ H, Same H1 H → G H)
    (hs : ∀ i x H H', i < n → Same H1 H → Y i H x H' → ∀ b, bs[i]? = some b → ∀ R : V → Hp → Prop, (∀ H4, Same H H4 → R (.int b) H4) →
      g x (wipe σ vs) H' fun σ2 H2 => wipe σ2 vs = wipe σ vs ∧ tt σ2 H2 fun b H3 => b = true ∧ te σ2 H3 R)
    (hd : ∀ H, Same H1 H → H D = some (.lst (bs.map V.int)) → Qd H)
    (mg : ∀ x σ' H' (Q Q' : L2.St → Hp → Prop), (∀ a b, Q a b → Q' a b) → g x σ' H' Q → g x σ' H' Q') (mt : ∀ σ' H' (Q Q' : Bool → Hp → Prop), (∀ a b, Q a b → Q' a b) → tt σ' H' Q → tt σ' H' Q') :
    ∃ W : Nat → Nat → Hp → Prop, (∃ m, W 0 m (upd H1 D (.lst []))) ∧ ∀ i m H, W i m H →
      (J.stop i H ∧ Qd H) ∨ (J.go i H ∧ ∃ Nx : Hp → Prop, (∀ H', Nx H' → ∃ m', m' < m ∧ W (i + 1) m' H') ∧ ∀ x H', J.yld i H x H' → g x (wipe σ vs) H' fun σ2 H2 => wipe σ2 vs = wipe σ vs ∧ tt σ2 H2 fun b H3 =>
        if b = true then te σ2 H3 fun y H4 => ∃ acc, H4 D = some (.lst acc) ∧ acc.length < sizeLine ∧ Nx (upd H4 D (.lst (acc ++ [y]))) else Nx H3) := by
  refine lc_all (K := K) w (bs.map PyData.int) (by rw [List.length_map, hl]) (tf_ints _) hn hD hG ?_ ?_ mg mt
  · intro i x H H' hi s y d hd' R hR
    rw [List.getElem?_map] at hd'
    cases e : bs[i]? with
    | none => rw [e] at hd'; cases hd'
    | some b =>
      rw [e] at hd'
      cases hd'
      exact hs i x H H' hi s y b e R fun H4 s4 => hR _ _ s4 (.int b)
  · intro H acc s ha hA
    rw [dp_ints_inv hA] at ha
    exact hd H s ha
theorem k_pgTN {X : Cx} {K : PySem.W.Frag} {x y z : Str} {px py pz p1 : Pos} {k k1 : Nat} {pos : Pos} {t1 t2 : TG} (hK : X.K = K) (hc : X.calm = true) (h1 : PG X (.Tuple [.Name x px, .Name y py] k1 p1) t1) (h2 : PG X (.Name z pz) t2) : PG X (.Tuple [.Tuple [.Name x px, .Name y py] k1 p1, .Name z pz] k pos) (gTup K 2 (gCons t1 (gCons t2 gNil))) := by
  subst hK
  exact pg_tup hc (pgs_cons h1 (pgs_cons h2 pgs_nil))
theorem mono_pair2 {K : PySem.W.Frag} {n n' i j l : Nat} (x : V) (σ' : L2.St) (H' : Hp) (Q Q' : L2.St → Hp → Prop) (h : ∀ a b, Q a b → Q' a b) (e : gTup K n (gCons (gTup K n' (gCons (gName i) (gCons (gName j) gNil))) (gCons (gName l) gNil)) x σ' H' Q) : gTup K n (gCons (gTup K n' (gCons (gName i) (gCons (gName j) gNil))) (gCons (gName l) gNil)) x σ' H' Q' := by
  obtain ⟨a, xs, e1, e2, e3, v, r, e4, b, ys, f1, f2, f3, v1, r1, f4, v2, r2, f5, f6, v', r', e5, e6, q⟩ := e
  exact ⟨a, xs, e1, e2, e3, v, r, e4, b, ys, f1, f2, f3, v1, r1, f4, v2, r2, f5, f6, v', r', e5, e6, h _ _ q⟩
theorem ci_sum : ∀ p : List Nat, (ci p).sum = ((p.sum : Nat) : Int)
  | [] => rfl
  | x :: p => by
    have := ci_sum p
    simp only [ci, List.map_cons, List.sum_cons, Int.natCast_add] at this ⊢
    rw [this]
theorem cutV_to {p : List Nat} {m : Nat} (h : m ≤ p.length) : cutV (vi p) none (some (m : Int)) = vi (p.take m) := by
  rw [cut_to (by rw [vi_len]; exact h)]; simp [vi, List.map_take]
theorem cutV_from {p : List Nat} {m : Nat} (h : m ≤ p.length) : cutV (vi p) (some (m : Int)) none = vi (p.drop m) := by
  rw [cut_from (by rw [vi_len]; exact h)]; simp [vi, List.map_drop]
theorem cut_drop {p : List Nat} {m : Nat} (h : m ≤ p.length) : cutV (vi p) (some (m : Int)) none = (ci (p.drop m)).map V.int := by
  rw [cutV_from h, vi_ci]
theorem isi_int {K : PySem.W.Frag} {H : Hp} {i : Int} {Q : VK} (q : Q (.bl true) H) : rIsi K [.int i, .ty "int"] H Q :=
  ⟨.int i, .ty "int", .type "int", .type "int", true, rfl, .ty _, .base (.int i), kit_ty (by decide +kernel), q⟩
theorem isi_bool {K : PySem.W.Frag} {H : Hp} {i : Int} {Q : VK} (q : Q (.bl false) H) : rIsi K [.int i, .ty "bool"] H Q :=
  ⟨.int i, .ty "bool", .type "int", .type "bool", false, rfl, .ty _, .base (.int i), kit_ty (by decide +kernel), q⟩
theorem nth3 {n : Nat} (x : List V) (h : x.length = n) (i : Nat) (hi : i < (if (if (x.length : Int) < 3 then (x.length : Int) else 3) > 1 then (if (x.length : Int) < 3 then (x.length : Int) else 3) else 1 : Int).toNat) : i ≤ 62 := by
  have : (if (if (x.length : Int) < 3 then (x.length : Int) else 3) > 1 then (if (x.length : Int) < 3 then (x.length : Int) else 3) else 1) ≤ 3 := by split <;> split <;> omega
  omega
end MB

set_option maxHeartbeats 4000000
namespace MB
/-! ### binomial coefficients -/
def bin : Nat → Nat → Nat
  | _, 0 => 1
  | 0, _ + 1 => 0
  | n + 1, k + 1 => bin n k + bin n (k + 1)
theorem bin_zero (n : Nat) : bin n 0 = 1 := by cases n <;> rfl
theorem bin_succ (n k : Nat) : bin (n + 1) (k + 1) = bin n k + bin n (k + 1) := rfl
theorem bin_lt : ∀ {n k : Nat}, n < k → bin n k = 0
  | 0, k + 1, _ => rfl
  | n + 1, k + 1, h => by rw [bin_succ, bin_lt (n := n) (by omega), bin_lt (n := n) (by omega)]
theorem bin_self : ∀ n : Nat, bin n n = 1
  | 0 => rfl
  | n + 1 => by rw [bin_succ, bin_self n, bin_lt (by omega)]
theorem bin_one : ∀ n : Nat, bin n 1 = n
  | 0 => rfl
  | n + 1 => by rw [bin_succ, bin_zero, bin_one n]; omega
theorem bin_pos : ∀ {n k : Nat}, k ≤ n → 0 < bin n k
  | n, 0, _ => by rw [bin_zero]; decide
  | n + 1, k + 1, h => by rw [bin_succ]; have := bin_pos (n := n) (k := k) (by omega); omega
theorem bin_mul : ∀ n k : Nat, bin (n + 1) (k + 1) * (k + 1) = (n + 1) * bin n k
  | 0, 0 => by decide
  | 0, k + 1 => by simp [bin]
  | n + 1, 0 => by rw [bin_one, bin_zero]
  | n + 1, k + 1 => by
    have h1 := bin_mul n k
    have h2 := bin_mul n (k + 1)
    rw [bin_succ (n + 1) (k + 1), Nat.add_mul, h2]
    have e1 : bin (n + 1) (k + 1) * (k + 1 + 1) = bin (n + 1) (k + 1) * (k + 1) + bin (n + 1) (k + 1) := by rw [Nat.mul_add, Nat.mul_one]
    rw [e1, h1, bin_succ n k]
    grind
/-- the next one in a row -/
theorem bin_step {n j : Nat} (h : j ≤ n) : bin n (j + 1) * (j + 1) = bin n j * (n - j) := by
  have h1 := bin_mul n j
  rw [bin_succ, Nat.add_mul] at h1
  have e : (n + 1) * bin n j = bin n j * (n - j) + bin n j * (j + 1) := by rw [← Nat.mul_add, Nat.mul_comm]; congr 1; omega
  omega
theorem bin_div {n j : Nat} (h : j ≤ n) : bin n j * (n - j) / (j + 1) = bin n (j + 1) := by
  rw [← bin_step h, Nat.mul_div_cancel _ (by omega)]
theorem bin_sym : ∀ a b : Nat, bin (a + b) a = bin (a + b) b
  | 0, b => by rw [Nat.zero_add, bin_zero, bin_self]
  | a + 1, 0 => by rw [Nat.add_zero, bin_zero, bin_self]
  | a + 1, b + 1 => by
    have e : a + 1 + (b + 1) = (a + b + 1) + 1 := by omega
    rw [e, bin_succ (a + b + 1) a, bin_succ (a + b + 1) b]
    have h1 := bin_sym a (b + 1)
    have h2 := bin_sym (a + 1) b
    have e1 : a + (b + 1) = a + b + 1 := by omega
    have e2 : a + 1 + b = a + b + 1 := by omega
    rw [e1] at h1; rw [e2] at h2
    omega
theorem bin_sub {n k : Nat} (h : k ≤ n) : bin n (n - k) = bin n k := by
  have := bin_sym k (n - k)
  rw [show k + (n - k) = n by omega] at this
  exact this.symm
theorem bin_min {n k : Nat} (h : k ≤ n) : bin n (min k (n - k)) = bin n k := by
  by_cases c : k ≤ n - k
  · rw [Nat.min_eq_left c]
  · rw [Nat.min_eq_right (by omega), bin_sub h]
theorem bin_mono1 : ∀ n k : Nat, bin n k ≤ bin (n + 1) k
  | n, 0 => by rw [bin_zero, bin_zero]; exact Nat.le_refl _
  | n, k + 1 => by rw [bin_succ]; omega
theorem bin_mono {n m : Nat} (k : Nat) (h : n ≤ m) : bin n k ≤ bin m k := by
  induction h with
  | refl => exact Nat.le_refl _
  | step _ ih => exact Nat.le_trans ih (bin_mono1 _ _)
theorem bin_strict1 {n k : Nat} (h : k ≤ n + 1) : bin n (k + 1) < bin (n + 1) (k + 1) ∨ n < k := by
  by_cases c : n < k
  · exact .inr c
  · refine .inl ?_
    rw [bin_succ]
    have := bin_pos (n := n) (k := k) (by omega)
    omega
theorem bin_strict {n m k : Nat} (hk : 1 ≤ k) (hn : k ≤ n + 1) (h : n < m) : bin n k < bin m k := by
  have h1 : bin n k < bin (n + 1) k := by
    obtain ⟨j, rfl⟩ : ∃ j, k = j + 1 := ⟨k - 1, by omega⟩
    rw [bin_succ]
    have := bin_pos (n := n) (k := j) (by omega)
    omega
  exact Nat.lt_of_lt_of_le h1 (bin_mono k h)
theorem bin_pow : ∀ n k : Nat, bin n k ≤ (n + 1) ^ k
  | n, 0 => by rw [bin_zero]; simp
  | 0, k + 1 => by rw [bin_lt (by omega)]; exact Nat.zero_le _
  | n + 1, k + 1 => by
    have h := bin_mul n k
    have h1 : bin (n + 1) (k + 1) ≤ bin (n + 1) (k + 1) * (k + 1) := Nat.le_mul_of_pos_right _ (by omega)
    have h2 := bin_pow n k
    have h3 : (n + 1) ^ k ≤ (n + 1 + 1) ^ k := Nat.pow_le_pow_left (by omega) _
    have h4 : (n + 1) * bin n k ≤ (n + 1 + 1) * (n + 1 + 1) ^ k := Nat.mul_le_mul (by omega) (Nat.le_trans h2 h3)
    have h5 : (n + 1 + 1) ^ (k + 1) = (n + 1 + 1) * (n + 1 + 1) ^ k := by rw [Nat.pow_succ, Nat.mul_comm]
    omega
theorem bin_bits {n k : Nat} (hn : n < 2 ^ 64) (hk : k ≤ 64) : bin n k < 2 ^ 4097 := by
  have h1 := bin_pow n k
  have h2 : (n + 1) ^ k ≤ (2 ^ 64) ^ k := Nat.pow_le_pow_left (by omega) _
  have h3 : (2 ^ 64) ^ k ≤ (2 ^ 64 : Nat) ^ 64 := Nat.pow_le_pow_right (by decide) hk
  have h4 : ((2 ^ 64 : Nat) ^ 64) < 2 ^ 4097 := by decide +kernel
  omega
theorem bin_big {k c : Nat} (hk : 1 ≤ k) : c + 1 ≤ bin (k + c) k := by
  induction c with
  | zero => show 1 ≤ bin k k; rw [bin_self]; exact Nat.le_refl _
  | succ c ih =>
    have := bin_strict (n := k + c) (m := k + (c + 1)) (k := k) hk (by omega) (by omega)
    omega
/-- c is the least with n < C(k + c, k) -/
def Lw (k n c : Nat) : Prop := n < bin (k + c) k ∧ ∀ d, d < c → bin (k + d) k ≤ n
theorem Lw.uniq {k n c d : Nat} (a : Lw k n c) (b : Lw k n d) : c = d := by
  rcases Nat.lt_trichotomy c d with h | h | h
  · have := b.2 c h; have := a.1; omega
  · exact h
  · have := a.2 d h; have := b.1; omega
theorem Lw.mk' {k n c : Nat} (h : n < bin (k + c) k) (h' : c = 0 ∨ bin (k + (c - 1)) k ≤ n) : Lw k n c := by
  refine ⟨h, fun d hd => ?_⟩
  rcases h' with e | e
  · omega
  · exact Nat.le_trans (bin_mono k (by omega)) e
def lwGo (k n : Nat) : Nat → Nat → Nat
  | 0, c => c
  | f + 1, c => if n < bin (k + c) k then c else lwGo k n f (c + 1)
def lwr (k n : Nat) : Nat := lwGo k n (n + 1) 0
theorem lwGo_ok {k n : Nat} (hk : 1 ≤ k) : ∀ f c, (∀ d, d < c → bin (k + d) k ≤ n) → n < f + c → Lw k n (lwGo k n f c)
  | 0, c, h, hf => ⟨by have := bin_big (k := k) (c := c) hk; unfold lwGo; omega, h⟩
  | f + 1, c, h, hf => by
    unfold lwGo
    by_cases hc : n < bin (k + c) k
    · rw [if_pos hc]; exact ⟨hc, h⟩
    · rw [if_neg hc]
      refine lwGo_ok hk f (c + 1) (fun d hd => ?_) (by omega)
      by_cases e : d < c
      · exact h d e
      · have : d = c := by omega
        subst this; omega
theorem lw_ok {k : Nat} (n : Nat) (hk : 1 ≤ k) : Lw k n (lwr k n) := lwGo_ok hk _ _ (fun _ h => absurd h (by omega)) (by omega)
theorem lwr_le {k n : Nat} (hk : 1 ≤ k) : lwr k n ≤ n := by
  have h := (lw_ok n hk).2
  by_cases c : lwr k n ≤ n
  · exact c
  · have h1 := h n (by omega)
    have := bin_big (k := k) (c := n) hk
    omega
end MB

set_option maxHeartbeats 4000000
namespace MB
open PySem PySem.Spec PyProof.Rows L2

/-! ### sorted(xs), xs a list of tuples of ints, of any length -/
def dT (ns : List Int) : PyData := .tuple (ns.map PyData.int)
def kT (ns : List Int) : List (Int ⊕ List Nat) := ns.map Sum.inl
def ltT (a b : List Int) : Bool := lexLt itemOrd (kT a) (kT b)
def noS : Nat → Bool := fun _ => false
theorem items_ints : ∀ {vs : List Value} {ns : List Int}, IntsAre vs ns → ∀ i : Nat, tupItems noS i vs = some (kT ns)
  | _, _, .nil, _ => rfl
  | _, _, .cons n t h, i => by
    have ih := items_ints h (i + 1)
    show (if noS i = true then none else (tupItems noS (i + 1) _).map (Sum.inl n :: ·)) = _
    rw [if_neg (by simp [noS]), ih]; rfl
theorem key_of {h : Heap} {v : Value} {ns : List Int} (x : TS.TupInts h v ns) : G.tupKeyC h noS v = some (kT ns) := by
  obtain ⟨a, xs, rfl, ⟨o, ho, hc, n, hd⟩, hi⟩ := x
  unfold G.tupKeyC
  have e1 : G.isTupObj h (.ref a) = true := by simp [G.isTupObj, ho, hc]
  rw [if_pos e1]
  show (match h.get? a with | some o => (match o.data with | .seq xs _ => tupItems noS 0 xs.toList | _ => none) | none => none) = _
  rw [ho]
  show (match o.data with | .seq xs _ => tupItems noS 0 xs.toList | _ => none) = _
  rw [hd]
  exact items_ints hi 0
theorem tup_of {h : Heap} {v : Value} {n : Int} {ns : List Int} (x : TS.TupInts h v (n :: ns)) : ∃ f, TupOf h noS v f := by
  obtain ⟨a, xs, rfl, ⟨o, ho, hc, m, hd⟩, hi⟩ := x
  obtain ⟨l⟩ := xs
  cases hi with
  | cons n t h => exact ⟨_, a, o, _, m, rfl, ho, hc, hd, rfl, fun _ => ⟨_, _, rfl⟩, fun e => nomatch e⟩
section
variable {X : Cx} {pins : List (Addr × Obj)} {σ : L2.St} {H : Hp} {s : Shared}
theorem tups_raw (I : Inv X pins σ H s) : ∀ {xs : List V} {nss : List (List Int)} {its : List Value}, DpAll X.K H xs (nss.map dT) → Vals xs its →
    nss = its.map (TS.intsOf s.heap) ∧ (∀ u ∈ its, ∃ a, u = Value.ref a ∧ TS.TupInts s.heap u (TS.intsOf s.heap u) ∧ SqT X.K H a ((TS.intsOf s.heap u).map V.int))
  | _, [], _, .nil, .nil => ⟨rfl, fun _ h => nomatch h⟩
  | _, ns :: nss, _, .cons a b, .cons r rs => by
    obtain ⟨h1, h2⟩ := tups_raw I b rs
    obtain ⟨p, rfl, hp⟩ := Dp.intsInv a
    cases r
    have ht := tupI_raw I hp
    have e := ht.ints
    refine ⟨by rw [h1, List.map_cons, e], fun u hu => ?_⟩
    rcases List.mem_cons.mp hu with rfl | hu
    · exact ⟨p, rfl, by rw [e]; exact ht, by rw [e]; exact hp⟩
    · exact h2 u hu
theorem dps_of {K : PySem.W.Frag} {h : Heap} : ∀ {us : List Value}, (∀ u ∈ us, ∃ a, u = Value.ref a ∧ TS.TupInts h u (TS.intsOf h u) ∧ SqT K H a ((TS.intsOf h u).map V.int)) → DpAll K H (us.map bkV) ((us.map (TS.intsOf h)).map dT)
  | [], _ => .nil
  | u :: us, hh => by
    obtain ⟨a, rfl, _, hp⟩ := hh u (List.mem_cons_self ..)
    exact .cons (dp_tup hp) (dps_of fun v hv => hh v (List.mem_cons_of_mem _ hv))
def rSortI (K : PySem.W.Frag) : List V → Hp → VK → Prop := fun vs H Q => ∃ (a : Addr) (xs : List V) (nss : List (List Int)), vs = [V.ref a] ∧ SqL K H a xs ∧ DpAll K H xs (nss.map dT) ∧ (2 ≤ nss.length → ∀ ns ∈ nss, ns ≠ []) ∧
  ∀ (ys : List V) (mss : List (List Int)) (p : Addr), DpAll K H ys (mss.map dT) → mss.Perm nss → mss.Pairwise (fun a b => ltT b a = false) → H p = none → Q (.ref p) (upd H p (.lst ys))
theorem tupsOf_ex {h : Heap} : ∀ {us : List Value}, (∀ u ∈ us, TS.TupInts h u (TS.intsOf h u) ∧ TS.intsOf h u ≠ []) → ∃ fs, TupsOf h noS us fs
  | [], _ => ⟨[], .nil⟩
  | u :: us, hh => by
    obtain ⟨fs, hf⟩ := tupsOf_ex fun v hv => hh v (List.mem_cons_of_mem _ hv)
    obtain ⟨h1, h2⟩ := hh u (List.mem_cons_self ..)
    cases e : TS.intsOf h u with
    | nil => exact absurd e h2
    | cons n ns =>
      rw [e] at h1
      obtain ⟨f, ht⟩ := tup_of h1
      exact ⟨f :: fs, .cons ht hf⟩
theorem cr_sortI : CallR X (.builtin "sorted") (rSortI X.K) := by
  intro pins s σ H vs us Q I r h
  obtain ⟨a, xs, nss, rfl, hs, hA, hne, q⟩ := h
  obtain ⟨its, rv, hl, hz⟩ := I.list hs
  rw [Vals.ref1 r]
  obtain ⟨e1, e2⟩ := tups_raw I hA rv
  have hlen : its.length = nss.length := by rw [e1, List.length_map]
  have hk : ∀ v, v ∈ its → ∃ l, G.tupKeyC s.heap noS v = some l := fun v hv => by
    obtain ⟨b, _, ht, _⟩ := e2 v hv
    exact ⟨_, key_of ht⟩
  have hL : its.length ≤ sizeLine := by rw [← rv.length]; exact hz
  refine G.sortedG (κ := G.tupKindC s.heap noS) (kd := tuples' true) hl.isList (G.tupKeys hk) (fun s₂ k => G.tupC_ltAt (s := s₂) true k) (fun h2 A' E' s₂ Q' k hq => ?_) hL fun st' h1 h2 h3 => ?_
  · obtain ⟨fs, ht⟩ := tupsOf_ex (h := s.heap) (us := its) fun u hu => by
      obtain ⟨b, _, ht, _⟩ := e2 u hu
      refine ⟨ht, hne (by omega) _ ?_⟩
      rw [e1]; exact List.mem_map.mpr ⟨u, hu, rfl⟩
    exact tup_kind (s := s₂) (by rw [G.TupsOf.length ht]; omega) (G.TupsOf.keep k ht) hq
  · have hp : (arrOf st').toList.Perm (its.zip its) := by rw [← pairsOf_toList]; exact Array.perm_iff_toList_perm.mp h1
    have hself : ∀ p ∈ (arrOf st').toList, p.1 = p.2 ∧ p.1 ∈ its := fun p hm => mem_zip_self (hp.mem_iff.mp hm)
    have hout : ((arrOf st').map (·.2)).toList = (arrOf st').toList.map (·.2) := Array.toList_map
    have hpo : ((arrOf st').map (·.2)).toList.Perm its := by
      rw [hout]
      refine (hp.map (·.2)).trans ?_
      rw [List.map_snd_zip (Nat.le_refl _)]
    obtain ⟨ep, he'⟩ := PyProof.Rows.sortedAll_at s.heap its ((arrOf st').map (·.2))
    generalize ho : ((arrOf st').map (·.2)) = out at hpo he' hout ⊢
    have e3 : ∀ u ∈ out.toList, ∃ a, u = Value.ref a ∧ TS.TupInts s.heap u (TS.intsOf s.heap u) ∧ SqT X.K H a ((TS.intsOf s.heap u).map V.int) := fun u hu => e2 u (hpo.mem_iff.mp hu)
    have h3' : ∀ u ∈ out.toList, ∃ a, u = Value.ref a := fun u hu => let ⟨a, e, _⟩ := e3 u hu; ⟨a, e⟩
    have hl2 : (out.toList.map bkV).length ≤ sizeLine := by rw [List.length_map, hpo.length_eq]; exact hL
    refine ⟨.ref _, upd H (s.heap.objs.size + 1) (.lst (out.toList.map bkV)), I.laid (t' := s.toks) (fun _ _ => PyProof.Rows.sortedAll_old) (Nat.le_succ _) ⟨hl2, out.toList, ep, bkV_vals h3', he'⟩, rfl, q _ (out.toList.map (TS.intsOf s.heap)) _ (dps_of e3) (by rw [e1]; exact hpo.map _) ?_ (I.hok.fresh (Nat.le_succ _))⟩
    rw [List.pairwise_map]
    refine List.pairwise_iff_getElem.mpr fun i j hi hj hij => ?_
    have hsz : out.toList.length = (arrOf st').size := by rw [hout, List.length_map, Array.length_toList]
    have hpz : (arrOf st').size = (pairsOf its).size := h1.size_eq
    have kk : ∀ m (hm : m < out.toList.length), KK (G.tupKindC s.heap noS) (arrOf st') m = kT (TS.intsOf s.heap out.toList[m]) := fun m hm => by
      have hm2 : m < (arrOf st').size := by omega
      have em : (arrOf st')[m]? = some (arrOf st')[m] := Array.getElem?_eq_getElem hm2
      have hmem : (arrOf st')[m] ∈ (arrOf st').toList := Array.mem_toList_iff.mpr (Array.getElem_mem hm2)
      obtain ⟨f1, f2⟩ := hself _ hmem
      have f3 : out.toList[m] = (arrOf st')[m].2 := by
        simp only [hout, List.getElem_map, Array.getElem_toList]
      unfold KK
      rw [em]
      obtain ⟨b, _, ht, _⟩ := e2 _ f2
      show (G.tupKeyC s.heap noS (arrOf st')[m].1).getD [] = _
      rw [key_of ht, f3, ← f1]; rfl
    have := h2 i j (Nat.le_of_lt hij) (by omega)
    rw [kk i hi, kk j hj] at this
    exact this
end
end MB

set_option maxHeartbeats 4000000
namespace MB
open PySem PySem.Spec PyProof.Rows L2
/-! ### sorted(d), the keys of d tuples of ints -/
theorem kdl_rawD {prog : Program} {w : World} {d : Addr} {es : Array DictEntry} {ep : Nat} (lo : (d == sysModules) = false) :
    PySem.W.KdlSrc prog w "dict" d d es.size (fun i v => ∃ hi : i < es.size, v = es[i].key) (fun g => g.DictRaw d es ep) where
  type := fun _ g => g.typeIs
  there := fun _ g => ⟨let ⟨_, e, _⟩ := g; Heap.lt_size e, let ⟨_, e, _⟩ := g; Heap.lt_size e⟩
  keep := fun _ _ g k => g.at fun o e => k d (.inl rfl) o e
  notList := by decide
  notTuple := by decide
  hint := fun _ _ _ _ g q => PySem.W.kdl_hint_dict g.typeIs q
  iter := fun _ _ hh g => ⟨_, _, (fun _ _ q => wpAny_pyIter_dict_raw lo g q), Walks.rawKeys hh _ d (Nat.ne_of_lt (let ⟨_, e, _⟩ := g; Heap.lt_size e)) es ep, ⟨⟨_, Heap.get?_push_size _ rfl, rfl, rfl⟩, g.at fun o e => Heap.get?_push_of_some _ e⟩⟩
section
variable {X : Cx} {pins : List (Addr × Obj)} {σ : L2.St} {H : Hp} {s : Shared}
/-- what sorting gives, read back as tracked tuples -/
theorem sort_out (I : Inv X pins σ H s) {its : List Value} {nss : List (List Int)} (e1 : nss = its.map (TS.intsOf s.heap))
    (e2 : ∀ u ∈ its, ∃ a, u = Value.ref a ∧ TS.TupInts s.heap u (TS.intsOf s.heap u) ∧ SqT X.K H a ((TS.intsOf s.heap u).map V.int)) {st' : SortSt}
    (h1 : (arrOf st').Perm (pairsOf its)) (h2 : SortedToK (G.tupKindC s.heap noS) (arrOf st') (pairsOf its).size) :
    ∃ (us : List Value) (ys : List V) (mss : List (List Int)), ((arrOf st').map (·.2)).toList = us ∧ Vals ys us ∧ ys.length = its.length ∧ DpAll X.K H ys (mss.map dT) ∧ mss.Perm nss ∧ mss.Pairwise (fun a b => ltT b a = false) := by
  have hp : (arrOf st').toList.Perm (its.zip its) := by rw [← pairsOf_toList]; exact Array.perm_iff_toList_perm.mp h1
  have hself : ∀ p ∈ (arrOf st').toList, p.1 = p.2 ∧ p.1 ∈ its := fun p hm => mem_zip_self (hp.mem_iff.mp hm)
  have hout : ((arrOf st').map (·.2)).toList = (arrOf st').toList.map (·.2) := Array.toList_map
  have hpo : ((arrOf st').map (·.2)).toList.Perm its := by
    rw [hout]
    refine (hp.map (·.2)).trans ?_
    rw [List.map_snd_zip (Nat.le_refl _)]
  generalize ho : ((arrOf st').map (·.2)).toList = us at hpo hout ⊢
  have e3 : ∀ u ∈ us, ∃ a, u = Value.ref a ∧ TS.TupInts s.heap u (TS.intsOf s.heap u) ∧ SqT X.K H a ((TS.intsOf s.heap u).map V.int) := fun u hu => e2 u (hpo.mem_iff.mp hu)
  refine ⟨us, us.map bkV, us.map (TS.intsOf s.heap), rfl, bkV_vals fun u hu => let ⟨a, e, _⟩ := e3 u hu; ⟨a, e⟩, by rw [List.length_map, hpo.length_eq], dps_of e3, by rw [e1]; exact hpo.map _, ?_⟩
  rw [List.pairwise_map]
  refine List.pairwise_iff_getElem.mpr fun i j hi hj hij => ?_
  have hsz : us.length = (arrOf st').size := by rw [hout, List.length_map, Array.length_toList]
  have hpz : (arrOf st').size = (pairsOf its).size := h1.size_eq
  have kk : ∀ m (hm : m < us.length), KK (G.tupKindC s.heap noS) (arrOf st') m = kT (TS.intsOf s.heap us[m]) := fun m hm => by
    have hm2 : m < (arrOf st').size := by omega
    have em : (arrOf st')[m]? = some (arrOf st')[m] := Array.getElem?_eq_getElem hm2
    have hmem : (arrOf st')[m] ∈ (arrOf st').toList := Array.mem_toList_iff.mpr (Array.getElem_mem hm2)
    obtain ⟨f1, f2⟩ := hself _ hmem
    have f3 : us[m] = (arrOf st')[m].2 := by
      simp only [hout, List.getElem_map, Array.getElem_toList]
    unfold KK
    rw [em]
    obtain ⟨b, _, ht, _⟩ := e2 _ f2
    show (G.tupKeyC s.heap noS (arrOf st')[m].1).getD [] = _
    rw [key_of ht, f3, ← f1]; rfl
  have := h2 i j (Nat.le_of_lt hij) (by omega)
  rw [kk i hi, kk j hj] at this
  exact this
def rSortD (K : PySem.W.Frag) (P : Program) (w : World) : List V → Hp → VK → Prop := fun vs H Q => ∃ (d : Addr) (kvs : List (List Int × V)), vs = [V.ref d] ∧ DN K P w H d kvs ∧ (∀ kv ∈ kvs, kv.1 ≠ []) ∧
  ∀ (ys : List V) (mss : List (List Int)) (p : Addr), DpAll K H ys (mss.map dT) → mss.Perm (kvs.map (·.1)) → mss.Pairwise (fun a b => ltT b a = false) → H p = none → Q (.ref p) (upd H p (.lst ys))
theorem rx_keys {L : KX} {xs : List (List Int × Addr × Value)} (r : RX L xs) : L.map (fun x => (x.1, x.2.1)) = xs.map (fun x => (x.1, x.2.1)) := by
  unfold RX at r
  induction r with
  | nil => rfl
  | @cons p q ps qs h t ih => rw [List.map_cons, List.map_cons, ih, h.1, h.2.1]
theorem dpk {K : PySem.W.Frag} {H : Hp} : ∀ {L : KX}, (∀ x ∈ L, SqT K H x.2.1 (x.1.map V.int)) → DpAll K H (L.map fun x => V.ref x.2.1) ((L.map (·.1)).map dT)
  | [], _ => .nil
  | x :: L, h => .cons (dp_tup (h x (List.mem_cons_self ..))) (dpk fun y hy => h y (List.mem_cons_of_mem _ hy))
theorem vals_refs {L : KX} : Vals (L.map fun x => V.ref x.2.1) (L.map fun x => Value.ref x.2.1) := by
  induction L with
  | nil => exact .nil
  | cons x L ih => exact .cons rfl ih
theorem cr_sortD {K : PySem.W.Frag} {P : Program} {w : World} (hK : X.K = K) (hP : X.prog = P) (hw : X.w = w) (hcalm : X.calm = true) : CallR X (.builtin "sorted") (rSortD K P w) := by
  subst hK hP hw
  intro pins s σ H vs us Q I r h
  obtain ⟨d, kvs, rfl, g, hne, q⟩ := h
  rw [Vals.ref1 r]
  obtain ⟨lo, L, xs, _, hS, ekv, rel, hz, dd⟩ := g.at I
  obtain ⟨o, es, ep, ho, hex, hdat, hes, _, _⟩ := dd
  have raw : s.heap.DictRaw d es ep := ⟨o, ho, hex, hdat⟩
  have hLx : L.map (fun x => x.2.1) = xs.map (fun x => x.2.1) := by
    have := congrArg (List.map fun p : List Int × Addr => p.2) (rx_keys rel)
    rw [List.map_map, List.map_map] at this
    exact this
  have hsz : es.size = L.length := by rw [← Array.length_toList, hes, List.length_map, rel.len]
  have keyAt : ∀ i (hi : i < es.size), some es[i].key = (L.map fun x => Value.ref x.2.1)[i]? := fun i hi => by
    have e1 : es.toList[i]? = some es[i] := by rw [Array.getElem?_toList, Array.getElem?_eq_getElem hi]
    rw [hes, List.getElem?_map] at e1
    have e2 : (L.map (fun x => x.2.1))[i]? = (xs.map (fun x => x.2.1))[i]? := by rw [hLx]
    rw [List.getElem?_map, List.getElem?_map] at e2
    rw [List.getElem?_map]
    cases hx : xs[i]? with
    | none => rw [hx] at e1; cases e1
    | some y =>
      rw [hx] at e1 e2
      have e3 : entryOfKey (tupleKind (intKind X.prog X.w)) y = es[i] := Option.some.inj e1
      cases hl : L[i]? with
      | none => rw [hl] at e2; cases e2
      | some x =>
        rw [hl] at e2
        have e4 : x.2.1 = y.2.1 := Option.some.inj e2
        rw [← e3]
        show some (Value.ref y.2.1) = some (Value.ref x.2.1)
        rw [e4]
  have h16 : es.size ≤ sizeLine := by rw [hsz]; exact hz
  refine Calls.call_function_entry PyProof.Rows.kind_sorted PyProof.Rows.plain_sorted PyProof.Rows.entry_sorted (PyProof.Rows.args_sorted1 _) ?_
  unfold Builtin.«sorted»
  refine wpAny_bind (m := checkCount "sorted" 1 1 _) (wpAny_pure ?_)
  refine wpAny_bind (PySem.W.kdu_collect (A := X.A.in1) (kdl_rawD (es := es) (ep := ep) lo) (I.ok.hd hcalm) raw h16 fun h' tk acc hk hacc => ?_)
  have eacc : acc.toList = L.map fun x => Value.ref x.2.1 := by
    refine List.ext_getElem? fun i => ?_
    by_cases hi : i < es.size
    · have hi2 : i < acc.size := by rw [hacc.1]; exact hi
      obtain ⟨_, e⟩ := hacc.2 i acc[i] (Array.getElem?_eq_getElem hi2)
      rw [Array.getElem?_toList, Array.getElem?_eq_getElem hi2, e]
      exact keyAt i hi
    · rw [List.getElem?_eq_none (by rw [Array.length_toList, hacc.1]; omega), List.getElem?_eq_none (by rw [List.length_map]; omega)]
  have I1 : Inv X pins σ H { s with heap := h', toks := tk } := I.kept hk
  rw [eacc]
  generalize hits : L.map (fun x => Value.ref x.2.1) = its
  have hil : its.length = L.length := by rw [← hits, List.length_map]
  obtain ⟨e1, e2⟩ := tups_raw I1 (nss := L.map (·.1)) (dpk hS) (its := its) (by rw [← hits]; exact vals_refs)
  refine wpAny_bind (wpAny_newList ?_ (by rw [hil]; exact hz))
  have hoL : (h'.push (seqObj "list" its.toArray 0)).get? h'.objs.size = some (seqObj "list" its.toArray 0) := Heap.get?_push_size _ rfl
  show wpAny _ _ _ _ _ { s with heap := h'.push (seqObj "list" its.toArray 0), toks := tk }
  have k0 : G.KeepsTups h' (h'.push (seqObj "list" its.toArray 0)) := G.KeepsTups.push _ _
  have k6 := k0.trans (G.keeps_sort6 (vs := its) hoL)
  have hkey : ∀ v, v ∈ its → ∃ l, G.tupKeyC h' noS v = some l := fun v hv => by
    obtain ⟨b, _, ht, _⟩ := e2 v hv
    exact ⟨_, key_of ht⟩
  refine wpAny_bind (wpAny_holding (wpAny_call_entry PyProof.Rows.slot_list_sort ⟨_, hoL, rfl⟩ PyProof.Rows.entry_list_sort
    (G.list_sort_treeG (κ := G.tupKindC h' noS) (kd := tuples' true) (s := { s with heap := h'.push (seqObj "list" its.toArray 0), toks := tk }) hoL (G.tupKeys hkey) (G.tupC_ltAt true k6) (fun h2 Q' hq => ?_) (by rw [hil]; exact hz) fun st' hp hs _ => ⟨_, rfl, ?_⟩)
    (PyProof.Rows.args_list_sort _)))
  · obtain ⟨fs, ht⟩ := tupsOf_ex (h := h') (us := its) fun u hu => by
      obtain ⟨b, _, ht, _⟩ := e2 u hu
      refine ⟨ht, ?_⟩
      have hm : TS.intsOf h' u ∈ L.map (·.1) := by rw [e1]; exact List.mem_map.mpr ⟨u, hu, rfl⟩
      obtain ⟨x, hx, ex⟩ := List.mem_map.mp hm
      rw [← ex]
      exact hne (x.1, x.2.2) (by rw [← ekv]; exact List.mem_map.mpr ⟨x, hx, rfl⟩)
    exact tup_kind (by rw [G.TupsOf.length ht]; omega) (G.TupsOf.keep k6 ht) hq
  · obtain ⟨us', ys, mss, f1, f2, f3, f4, f5, f6⟩ := sort_out I1 e1 e2 hp hs
    obtain ⟨e', he'⟩ := PyProof.Rows.sortedHeap_at (vs := its) (out := (arrOf st').map (·.2)) hoL
    have hlen : ys.length ≤ sizeLine := by rw [f3, hil]; exact hz
    have f5' : mss.Perm (kvs.map (·.1)) := by
      rw [← ekv]
      unfold kvX
      rw [List.map_map]
      exact f5
    refine wpAny_pure ⟨_, rfl, .ref h'.objs.size, upd H h'.objs.size (.lst ys), I1.laid (t' := tk) (fun b u e => ?_) (Nat.le_refl _) (show ObjOk X.prog X.w _ _ _ (.lst ys) from ⟨hlen, us', e', f2, by rw [← f1, Array.toArray_toList]; exact he'⟩), rfl, q ys mss _ f4 f5' f6 (I1.hok.fresh (Nat.le_refl _))⟩
    have hb : b < h'.objs.size := Heap.lt_size e
    rw [PyProof.Rows.sortedHeap_old (Nat.ne_of_lt hb) (by rw [size_push']; exact Nat.lt_succ_of_lt hb)]
    exact Heap.get?_push_of_some _ e
end
end MB

set_option maxHeartbeats 4000000
namespace MB
open PySem PySem.Spec PyProof.Rows L2
/-! ### sorted(d), the first key perhaps the empty tuple -/
theorem ltT_lex : ∀ (a b : List Int), ltT a b = HT.lexLt a b
  | [], [] => rfl
  | [], _ :: _ => rfl
  | _ :: _, [] => rfl
  | x :: xs, y :: ys => by
    have ih := ltT_lex xs ys
    show lexLt itemOrd (Sum.inl x :: kT xs) (Sum.inl y :: kT ys) = _
    rw [lex_cons, HT.lexLt_cons]
    have ih' : lexLt itemOrd (kT xs) (kT ys) = HT.lexLt xs ys := ih
    rw [ih']
    show (decide (x < y) || (!decide (y < x) && HT.lexLt xs ys)) = _
    by_cases h : x = y
    · subst h
      rw [if_pos rfl, decide_eq_false (by omega)]
      simp
    · rw [if_neg h]
      by_cases h2 : x < y
      · rw [decide_eq_true h2]; rfl
      · rw [decide_eq_false h2, decide_eq_true (show y < x by omega)]; rfl
theorem swo_ltT {α : Type} (k : α → List Int) : SrtO.Swo (fun v u : α => ltT (k v) (k u)) := by
  have h := NtL.swo_lexL k
  have e : (fun v u : α => ltT (k v) (k u)) = fun v u : α => HT.lexLt (k v) (k u) := by funext v u; exact ltT_lex _ _
  rw [e]; exact h
section
variable {M : Model} {prog : Program} {w : World} {A : Around} {E : Value → Shared → Prop} {s : Shared}
theorem mapM_fn {α β : Type} {f : α → Sem β} {r : α → β} : ∀ (l : List α) {Q : List β → Shared → Prop}, (∀ v ∈ l, ∀ (Q' : β → Shared → Prop), Q' (r v) s → wpAny M A (f v) Q' E s) → Q (l.map r) s → wpAny M A (l.mapM f) Q E s
  | [], _, _, h => by rw [List.mapM_nil]; exact wpAny_pure h
  | x :: l, Q, hf, h => by
    rw [List.mapM_cons]
    exact wpAny_bind (hf x (.head _) _ (wpAny_bind (mapM_fn l (Q := fun bs s' => wpAny M A (pure (r x :: bs)) Q E s') (fun v hv => hf v (.tail _ hv)) (wpAny_pure h))))
def fstOf (h : Heap) (v : Value) : Option Value := match v with
  | .ref a => match h.get? a with
    | some o => match o.data with
      | .seq xs _ => xs[0]?
      | _ => none
    | none => none
  | _ => none
theorem first_at {v : Value} {ns : List Int} {Q' : Option Value → Shared → Prop} (hv : TS.TupInts s.heap v ns) (q : Q' (fstOf s.heap v) s) : wpAny M A (firstOfTuple' v) Q' E s := by
  obtain ⟨a, xs, rfl, ⟨o, ho, hc, n, hd⟩, hi⟩ := hv
  rw [PySem.W.kas_first_eq]
  refine wpAny_bind (PySem.W.Looks.here (show PySem.W.Looks M s.heap (typeOf (.ref a)) o.cls from (PySem.W.Looks.ld ho).andThen .now) ?_)
  rw [hc, if_neg (by first | decide | simp)]
  refine wpAny_bind (listItems_at ho hd (wpAny_pure ?_))
  have e : fstOf s.heap (.ref a) = xs[0]? := by simp only [fstOf, ho, hd]
  rw [e] at q
  exact q
theorem fst_nil {h : Heap} {v : Value} (hv : TS.TupInts h v []) : fstOf h v = none := by
  obtain ⟨a, xs, rfl, ⟨o, ho, hc, n, hd⟩, hi⟩ := hv
  have e : fstOf h (.ref a) = xs[0]? := by simp only [fstOf, ho, hd]
  have hl := hi.length
  rw [e]
  exact Array.getElem?_eq_none (by rw [← Array.length_toList, hl]; exact Nat.le_refl 0)
/-- the first key is the empty tuple -/
theorem kind_one {v₁ : Value} {rest : List Value} {k : Value → List Int} {Q : SortKind → Shared → Prop} (hv : ∀ v ∈ v₁ :: rest, TS.TupInts s.heap v (k v)) (h0 : k v₁ = []) (h : Q oneType' s) : wpAny M A (keyKind' (v₁ :: rest).toArray) Q E s := by
  have hT : ∀ v ∈ v₁ :: rest, PySem.W.Looks M s.heap (typeOf v) (.type "tuple") := fun v hm => by
    obtain ⟨a, xs, rfl, ⟨o, ho, hc, n, hd⟩, hi⟩ := hv v hm
    rw [← hc]
    exact (PySem.W.Looks.ld ho).andThen .now
  rw [keyKind'_eq, List.mapM_toArray, map_eq_pure_bind]
  refine wpAny_bind (wpAny_bind (mapM_fn (r := fstOf s.heap) _ (fun v hm Q' hq => first_at (hv v hm) hq) (wpAny_pure ?_)))
  have h1 : fstOf s.heap v₁ = none := fst_nil (by have := hv v₁ (.head _); rw [h0] at this; exact this)
  have hall : (((v₁ :: rest).map (fstOf s.heap)).toArray.all fun x => x.isSome) = false := by
    simp [h1]
  have hz : ((((v₁ :: rest).map (fstOf s.heap)).toArray[0]?).bind id).isSome = false := by
    simp [h1]
  rw [if_neg (by rw [hall]; decide), if_neg (by rw [hz]; decide)]
  rw [oneTypeOnly'_eq, List.mapM_toArray, map_eq_pure_bind]
  refine wpAny_bind (wpAny_bind (wpAny_bind (PySem.W.kas_mapM (r := Value.type "tuple") _ (fun v hm Q' hq => (hT v hm).here hq) (wpAny_pure ?_))))
  have hall2 : ((List.map (fun _ => Value.type "tuple") (v₁ :: rest)).toArray.all fun x => x == Value.type "tuple") = true := by
    simp only [List.all_toArray, List.all_map, List.all_eq_true]
    intro _ _
    rfl
  have h02 : (List.map (fun _ => Value.type "tuple") (v₁ :: rest)).toArray[0]? = some (Value.type "tuple") := by simp
  rw [h02]
  simp only [hall2, if_true]
  exact wpAny_pure (wpAny_pure h)
/-- tuple.__lt__, as the sort of one kind asks it -/
theorem lt_one {v u : Value} {ns ms : List Int} {Q : Bool → Shared → Prop} (hu : A.units < cLine) (hv : TS.TupInts s.heap v ns) (hw : TS.TupInts s.heap u ms) (h : Q (ltT ns ms) s) : wpAny (model prog w) A (keyLt' oneType' v u) Q E s := by
  obtain ⟨a, xs, rfl, ⟨⟨cls, dd, data, sl⟩, ho, hc, n, hd⟩, hi⟩ := hv
  obtain ⟨b, ys, rfl, ⟨⟨cls2, dd2, data2, sl2⟩, ho2, hc2, n2, hd2⟩, hi2⟩ := hw
  simp only at hc hd hc2 hd2
  subst hc hd hc2 hd2
  rw [keyLt'_oneType, oneLt'_eq]
  simp only [if_true]
  refine wpAny_bind (wpAny_cRoomFor hu ?_)
  refine wpAny_bind (wpAny_callSpecialIfBound?_slot (T := "tuple") (id := "tuple.__lt__") ⟨_, ho, rfl⟩ PySem.F.slot_tuple_lt ?_)
  refine call_meets PySem.F.slot_tuple_lt ⟨_, ho, rfl⟩ PySem.F.entry_tuple_lt (PySem.F.args_tuple_lt_2 _ _) (HT.tuple_lt_ints a b xs ys n n2 dd dd2 sl sl2 ns ms hi hi2) ⟨ho, ho2, ?_⟩
  rw [ltT_lex] at h
  exact wpAny_truthy_bool h
end
section
variable {X : Cx} {pins : List (Addr × Obj)} {σ : L2.St} {H : Hp} {s : Shared}
def rSortE (K : PySem.W.Frag) (P : Program) (w : World) : List V → Hp → VK → Prop := fun vs H Q => ∃ (d : Addr) (kvs : List (List Int × V)), vs = [V.ref d] ∧ DN K P w H d kvs ∧ ((∀ kv ∈ kvs, kv.1 ≠ []) ∨ (∃ v rest, kvs = ([], v) :: rest)) ∧
  ∀ (ys : List V) (mss : List (List Int)) (p : Addr), DpAll K H ys (mss.map dT) → mss.Perm (kvs.map (·.1)) → mss.Pairwise (fun a b => ltT b a = false) → H p = none → Q (.ref p) (upd H p (.lst ys))
theorem cr_sortE {K : PySem.W.Frag} {P : Program} {w : World} (hK : X.K = K) (hP : X.prog = P) (hw : X.w = w) (hcalm : X.calm = true) (hu : X.A.units + 64 < cLine) : CallR X (.builtin "sorted") (rSortE K P w) := by
  subst hK hP hw
  intro pins s σ H vs us Q I r h
  obtain ⟨d, kvs, rfl, g, hne, q⟩ := h
  rw [Vals.ref1 r]
  obtain ⟨lo, L, xs, _, hS, ekv, rel, hz, dd⟩ := g.at I
  obtain ⟨o, es, ep, ho, hex, hdat, hes, _, _⟩ := dd
  have raw : s.heap.DictRaw d es ep := ⟨o, ho, hex, hdat⟩
  have hLx : L.map (fun x => x.2.1) = xs.map (fun x => x.2.1) := by
    have := congrArg (List.map fun p : List Int × Addr => p.2) (rx_keys rel)
    rw [List.map_map, List.map_map] at this
    exact this
  have hsz : es.size = L.length := by rw [← Array.length_toList, hes, List.length_map, rel.len]
  have keyAt : ∀ i (hi : i < es.size), some es[i].key = (L.map fun x => Value.ref x.2.1)[i]? := fun i hi => by
    have e1 : es.toList[i]? = some es[i] := by rw [Array.getElem?_toList, Array.getElem?_eq_getElem hi]
    rw [hes, List.getElem?_map] at e1
    have e2 : (L.map (fun x => x.2.1))[i]? = (xs.map (fun x => x.2.1))[i]? := by rw [hLx]
    rw [List.getElem?_map, List.getElem?_map] at e2
    rw [List.getElem?_map]
    cases hx : xs[i]? with
    | none => rw [hx] at e1; cases e1
    | some y =>
      rw [hx] at e1 e2
      have e3 : entryOfKey (tupleKind (intKind X.prog X.w)) y = es[i] := Option.some.inj e1
      cases hl : L[i]? with
      | none => rw [hl] at e2; cases e2
      | some x =>
        rw [hl] at e2
        have e4 : x.2.1 = y.2.1 := Option.some.inj e2
        rw [← e3]
        show some (Value.ref y.2.1) = some (Value.ref x.2.1)
        rw [e4]
  have h16 : es.size ≤ sizeLine := by rw [hsz]; exact hz
  refine Calls.call_function_entry PyProof.Rows.kind_sorted PyProof.Rows.plain_sorted PyProof.Rows.entry_sorted (PyProof.Rows.args_sorted1 _) ?_
  unfold Builtin.«sorted»
  refine wpAny_bind (m := checkCount "sorted" 1 1 _) (wpAny_pure ?_)
  refine wpAny_bind (PySem.W.kdu_collect (A := X.A.in1) (kdl_rawD (es := es) (ep := ep) lo) (I.ok.hd hcalm) raw h16 fun h' tk acc hk hacc => ?_)
  have eacc : acc.toList = L.map fun x => Value.ref x.2.1 := by
    refine List.ext_getElem? fun i => ?_
    by_cases hi : i < es.size
    · have hi2 : i < acc.size := by rw [hacc.1]; exact hi
      obtain ⟨_, e⟩ := hacc.2 i acc[i] (Array.getElem?_eq_getElem hi2)
      rw [Array.getElem?_toList, Array.getElem?_eq_getElem hi2, e]
      exact keyAt i hi
    · rw [List.getElem?_eq_none (by rw [Array.length_toList, hacc.1]; omega), List.getElem?_eq_none (by rw [List.length_map]; omega)]
  have I1 : Inv X pins σ H { s with heap := h', toks := tk } := I.kept hk
  rw [eacc]
  generalize hits : L.map (fun x => Value.ref x.2.1) = its
  have hil : its.length = L.length := by rw [← hits, List.length_map]
  obtain ⟨e1, e2⟩ := tups_raw I1 (nss := L.map (·.1)) (dpk hS) (its := its) (by rw [← hits]; exact vals_refs)
  refine wpAny_bind (wpAny_newList ?_ (by rw [hil]; exact hz))
  have hoL : (h'.push (seqObj "list" its.toArray 0)).get? h'.objs.size = some (seqObj "list" its.toArray 0) := Heap.get?_push_size _ rfl
  show wpAny _ _ _ _ _ { s with heap := h'.push (seqObj "list" its.toArray 0), toks := tk }
  have hv : ∀ h2 : Heap, (∀ b o, b ≠ h'.objs.size → (h'.push (seqObj "list" its.toArray 0)).get? b = some o → h2.get? b = some o) → ∀ v ∈ its, TS.TupInts h2 v (TS.intsOf h' v) := fun h2 keep v hm => by
    obtain ⟨a, rfl, ⟨a', xs', e', ⟨o', ho', hc', n', hd'⟩, hi'⟩, _⟩ := e2 v hm
    cases e'
    exact ⟨a, xs', rfl, ⟨o', keep a o' (Nat.ne_of_lt (Heap.lt_size ho')) (Heap.get?_push_of_some _ ho'), hc', n', hd'⟩, hi'⟩
  refine wpAny_bind (wpAny_holding (wpAny_call_entry PyProof.Rows.slot_list_sort ⟨_, hoL, rfl⟩ PyProof.Rows.entry_list_sort
    (SrtO.list_sort_ord (swo_ltT (TS.intsOf h')) (s := { s with heap := h'.push (seqObj "list" its.toArray 0), toks := tk }) hoL (by rw [hil]; exact hz) (fun h2 => ?_) fun out h1 h2 => ⟨_, rfl, ?_⟩)
    (PyProof.Rows.args_list_sort _)))
  · intro hh keep
    have hv2 := hv hh keep
    rcases hne with hne | ⟨v0, rest, e0⟩
    · refine ⟨tuples' true, fun Q' E' hq => ?_, fun p r hp hr => ?_⟩
      · obtain ⟨fs, ht⟩ := tupsOf_ex (h := hh) (us := its) fun u hu => by
          have h3 := hv2 u hu
          have e3 : TS.intsOf hh u = TS.intsOf h' u := h3.ints
          rw [e3]
          refine ⟨h3, ?_⟩
          have hm : TS.intsOf h' u ∈ L.map (·.1) := by rw [e1]; exact List.mem_map.mpr ⟨u, hu, rfl⟩
          obtain ⟨x, hx, ex⟩ := List.mem_map.mp hm
          rw [← ex]
          exact hne (x.1, x.2.2) (by rw [← ekv]; exact List.mem_map.mpr ⟨x, hx, rfl⟩)
        exact tup_kind (s := { s with heap := hh, toks := tk }) (by rw [G.TupsOf.length ht]; omega) ht hq
      · exact G.tupC_ltAt (h := hh) (s := { s with heap := hh, toks := tk }) (shape := noS) true (G.KeepsTups.refl _) _ _ _ _ _ _ (key_of (hv2 _ hp)) (key_of (hv2 _ hr)) ⟨rfl, rfl⟩
    · obtain ⟨v1, rest1, ei⟩ : ∃ v1 rest1, its = v1 :: rest1 := by
        cases its with
        | nil => simp at h2
        | cons a b => exact ⟨a, b, rfl⟩
      have hk0 : TS.intsOf h' v1 = [] := by
        have e3 : (L.map (·.1))[0]? = some (TS.intsOf h' v1) := by rw [e1, ei]; rfl
        have e4 : (kvX L)[0]? = some ([], v0) := by rw [ekv, e0]; rfl
        cases L with
        | nil => cases e3
        | cons x L =>
          have e5 : x.1 = TS.intsOf h' v1 := Option.some.inj e3
          have e6 : (x.1, x.2.2) = (([] : List Int), v0) := Option.some.inj e4
          rw [← e5]
          exact congrArg Prod.fst e6
      refine ⟨oneType', fun Q' E' hq => ?_, fun p r hp hr => ?_⟩
      · rw [ei] at hv2 ⊢
        exact kind_one (s := { s with heap := hh, toks := tk }) hv2 hk0 hq
      · exact lt_one (s := { s with heap := hh, toks := tk }) (by show X.A.units + _ + _ < cLine; omega) (hv2 _ hp) (hv2 _ hr) ⟨rfl, rfl⟩
  · have hpo : out.Perm its := h2.perm
    have e3 : ∀ u ∈ out, ∃ a, u = Value.ref a ∧ TS.TupInts h' u (TS.intsOf h' u) ∧ SqT X.K H a ((TS.intsOf h' u).map V.int) := fun u hu => e2 u (hpo.mem_iff.mp hu)
    obtain ⟨e', he'⟩ := PyProof.Rows.sortedHeap_at (vs := its) (out := out.toArray) hoL
    have hlen : (out.map bkV).length ≤ sizeLine := by rw [List.length_map, hpo.length_eq, hil]; exact hz
    have f5 : (out.map (TS.intsOf h')).Perm (kvs.map (·.1)) := by
      have e7 : kvs.map (·.1) = L.map (·.1) := by
        rw [← ekv]; unfold kvX; rw [List.map_map]; rfl
      rw [e7, e1]
      exact hpo.map _
    refine wpAny_pure ⟨_, rfl, .ref h'.objs.size, upd H h'.objs.size (.lst (out.map bkV)), I1.laid (t' := tk) (fun b u e => ?_) (Nat.le_refl _) (show ObjOk X.prog X.w _ _ _ (.lst (out.map bkV)) from ⟨hlen, out, e', bkV_vals fun u hu => let ⟨a, e, _⟩ := e3 u hu; ⟨a, e⟩, he'⟩), rfl, q _ (out.map (TS.intsOf h')) _ (dps_of e3) f5 (List.pairwise_map.mpr (h1.imp fun {x y} z => z)) (I1.hok.fresh (Nat.le_refl _))⟩
    have hb : b < h'.objs.size := Heap.lt_size e
    rw [PyProof.Rows.sortedHeap_old (Nat.ne_of_lt hb) (by rw [size_push']; exact Nat.lt_succ_of_lt hb)]
    exact Heap.get?_push_of_some _ e
end
end MB

set_option maxHeartbeats 4000000
namespace MB
open PySem PySem.Spec PyProof.Rows L2
/-! ### {k: v}, k a tuple of ints -/
def tNDisp (K : PySem.W.Frag) (P : Program) (w : World) (tk tv : TE) : TE := fun σ H Q => ∀ p H1, H p = none → Same H H1 → DN K P w H1 p [] → tk σ H1 fun y H2 => tv σ H2 fun v H3 => ∃ b k, y = .ref b ∧ DN K P w H3 p [] ∧ SqT K H3 b (k.map V.int) ∧ DNput K P w H3 p [] k v fun H' => Q (.ref p) H'
theorem pe_ndisp {X : Cx} {K : PySem.W.Frag} {P : Program} {w : World} {pos : PySem.Pos} {ke ve : Expr} {tk tv : TE} (hK : X.K = K) (hP : X.prog = P) (hw : X.w = w) (hu : X.A.units + 1 < cLine) (hk : PE X ke tk) (hv : PE X ve tv) : PE X (.Dict [some ke] [ve] pos) (tNDisp K P w tk tv) := by
  subst hK hP hw
  refine ⟨fun pins s σ H Q I q => ?_⟩
  have hn := I.hok.fresh (Nat.le_refl s.heap.objs.size)
  have I1 := I.laid (a := s.heap.objs.size) (o := DXO X.prog X.w s.heap.objs.size []) (h' := s.heap.push { cls := .type "dict", data := .dict #[] }) (t' := s.toks) (fun _ _ q => Heap.get?_push_of_some _ q) (Nat.le_refl _) (dx_new (dx_empty s.heap I.big))
  have q1 := q _ _ hn (same_upd hn) ⟨[], upd_same, (fun x hx => nomatch hx), rfl⟩
  have hn1 := pairTrees_length [some ke] [ve] X.env pos rfl rfl
  have hp0 : pairTrees [some ke] [ve] X.env pos ≠ [] := fun he => by rw [he] at hn1; cases hn1
  rw [arm_eval_Dict, zip_pairTrees [some ke] [ve] X.env pos rfl rfl, dictDisplay_pairs _ hp0 (by rw [hn1]; simp)]
  refine wpAny_bind (wpAny_standAt (wpAny_bind (wpAny_subDictH (knd := tupleKind (intKind X.prog X.w)) (Q := fun d s' => wpAny (model X.prog X.w) X.A (pure (Value.ref d)) (EP X pins σ Q) X.xe s') (show X.A.units < cLine from Nat.lt_of_succ_lt hu) (by rw [hn1]; simp) ?_)))
  refine pairTrees_cons_walk (thn (hk.run pins _ σ _ _ I1 q1) fun u s1 ⟨y, H2, I2, ry, q2⟩ => thn (hv.run pins s1 σ H2 _ I2 q2) fun r s2 ⟨v, H3, I3, rv, b, k, ey, g, hk3, q3⟩ => pairTrees_nil_walk ?_)
  subst ey
  obtain rfl : u = Value.ref b := ry
  obtain ⟨hd, L, xs, hL, hS, e, rr, z, dd⟩ := g.at I3
  have hL0 : L = [] := by
    cases L with
    | nil => rfl
    | cons x L => cases e
  subst hL0
  have hx0 : xs = [] := by cases rr; rfl
  subst hx0
  refine ⟨[(k, b, r)], ⟨rfl, rfl, I3.isT hk3, trivial⟩, dd, fun h' tk' dd' hs => ?_⟩
  have kp := keep_updX (K := X.K) (L' := putX [] k b v) hL
  obtain ⟨o, es, ep, hq, h2, h3, h4, _, h5⟩ := dd'
  refine wpAny_pure ⟨.ref s.heap.objs.size, _, d_write I3 (by rw [hL]; exact True.intro) hs ⟨o, hq⟩ (dx_new ⟨Nat.le_trans (putX_len _ _ _ _) (by decide), hd, _, rr.put k rv, o, es, ep, hq, h2, h3, h4, h5⟩), rfl, q3 _ (fun c hc => upd_ne hc) kp ⟨putX [] k b v, upd_same, fun x hx => ?_, by rw [kvX_put]; rfl⟩⟩
  rcases putX_key hx with ⟨y, hy, _⟩ | ⟨e1, e2⟩
  · cases hy
  · rw [e1, e2]; exact kp _ _ hk3
end MB

set_option maxHeartbeats 4000000
namespace MB
open PySem PySem.Spec PyProof.Rows L2
/-! ### a dict as a function from keys to data -/
def OD (K : PySem.W.Frag) (H : Hp) : Option V → Option PyData → Prop
  | none, none => True
  | some v, some d => Dp K H v d
  | _, _ => False
theorem OD.same {K : PySem.W.Frag} {H H' : Hp} (s : Same H H') : ∀ {o : Option V} {d : Option PyData}, OD K H o d → OD K H' o d
  | none, none, _ => True.intro
  | some _, some _, h => Dp.same s h
  | none, some _, h => False.elim h
  | some _, none, h => False.elim h
theorem OD.keep {K : PySem.W.Frag} {H H' : Hp} (s : Keep K H H') : ∀ {o : Option V} {d : Option PyData}, (∀ x, d = some x → Tf x) → OD K H o d → OD K H' o d
  | none, none, _, _ => True.intro
  | some _, some _, t, h => Dp.keep s (t _ rfl) h
  | none, some _, _, h => False.elim h
  | some _, none, _, h => False.elim h
theorem OD.get {K : PySem.W.Frag} {H : Hp} : ∀ {o : Option V} {d : PyData}, OD K H o (some d) → ∃ v, o = some v ∧ Dp K H v d
  | some v, _, h => ⟨v, rfl, h⟩
  | none, _, h => False.elim h
theorem OD.non {K : PySem.W.Frag} {H : Hp} : ∀ {o : Option V}, OD K H o none → o = none
  | some v, h => False.elim h
  | none, h => rfl
def updT (T : List Int → Option PyData) (k : List Int) (d : PyData) : List Int → Option PyData := fun j => if j = k then some d else T j
def Tab (K : PySem.W.Frag) (P : Program) (w : World) (H : Hp) (a : Addr) (n : Nat) (T : List Int → Option PyData) : Prop :=
  ∃ kvs, DN K P w H a kvs ∧ kvs.length ≤ n ∧ (∀ k, OD K H (valV kvs k) (T k)) ∧ ∀ k d, T k = some d → Tf d
section
variable {K : PySem.W.Frag} {P : Program} {w : World} {H H' : Hp} {a b : Addr} {n : Nat} {T : List Int → Option PyData} {k : List Int} {d : PyData}
theorem Tab.same (t : Tab K P w H a n T) (s : Same H H') : Tab K P w H' a n T := by
  obtain ⟨kvs, h1, h2, h3, h4⟩ := t
  exact ⟨kvs, h1.same s, h2, fun k => (h3 k).same s, h4⟩
theorem Tab.keep (t : Tab K P w H a n T) (s : Keep K H H') (e : ∀ o, H a = some o → H' a = some o) : Tab K P w H' a n T := by
  obtain ⟨kvs, h1, h2, h3, h4⟩ := t
  exact ⟨kvs, h1.keep s e, h2, fun k => (h3 k).keep s (h4 k), h4⟩
theorem Tab.mono {m : Nat} (t : Tab K P w H a n T) (h : n ≤ m) : Tab K P w H a m T := by
  obtain ⟨kvs, h1, h2, h3, h4⟩ := t
  exact ⟨kvs, h1, Nat.le_trans h2 h, h3, h4⟩
theorem Tab.some (t : Tab K P w H a n T) : ∃ o, H a = some o ∧ (∀ xs, o ≠ .lst xs) := by
  obtain ⟨kvs, ⟨L, h1, _⟩, _⟩ := t
  exact ⟨_, h1, fun xs e => nomatch e⟩
theorem Tab.ext {T' : List Int → Option PyData} (t : Tab K P w H a n T) (e : ∀ k, T k = T' k) : Tab K P w H a n T' := by
  have : T = T' := funext e
  rw [← this]; exact t
theorem Tab.at (t : Tab K P w H a n T) (e : T k = Option.some d) : ∃ kvs v, DN K P w H a kvs ∧ valV kvs k = Option.some v ∧ Dp K H v d := by
  obtain ⟨kvs, h1, h2, h3, h4⟩ := t
  have := h3 k
  rw [e] at this
  obtain ⟨v, hv, hd⟩ := this.get
  exact ⟨kvs, v, h1, hv, hd⟩
theorem Tab.at0 (t : Tab K P w H a n T) (e : T k = none) : ∃ kvs, DN K P w H a kvs ∧ valV kvs k = none := by
  obtain ⟨kvs, h1, h2, h3, h4⟩ := t
  have := h3 k
  rw [e] at this
  exact ⟨kvs, h1, this.non⟩
theorem Tab.is (t : Tab K P w H a n T) (k : List Int) : ∃ kvs, DN K P w H a kvs ∧ (valV kvs k).isSome = (T k).isSome := by
  cases e : T k with
  | none => obtain ⟨kvs, h1, h2⟩ := t.at0 e; exact ⟨kvs, h1, by rw [h2]; rfl⟩
  | some d => obtain ⟨kvs, v, h1, h2, _⟩ := t.at e; exact ⟨kvs, h1, by rw [h2]; rfl⟩
theorem Tab.put {v : V} (t : Tab K P w H a n T) (hv : Dp K H v d) (hd : Tf d) (hn : n ≤ 100000) (k : List Int) : ∃ kvs, DN K P w H a kvs ∧ kvs.length < sizeLine ∧
    ∀ H', Keep K H H' → DN K P w H' a (putK kvs k v) → Tab K P w H' a (n + 1) (updT T k d) := by
  obtain ⟨kvs, h1, h2, h3, h4⟩ := t
  refine ⟨kvs, h1, sz61 (by omega), fun H' kp g => ⟨_, g, ?_, fun j => ?_, fun j x hx => ?_⟩⟩
  · have := length_putK kvs k v
    omega
  · rw [valV_put]
    unfold updT
    by_cases e : j = k
    · rw [if_pos e, if_pos e]; exact Dp.keep kp hd hv
    · rw [if_neg e, if_neg e]; exact (h3 j).keep kp (h4 j)
  · unfold updT at hx
    by_cases e : j = k
    · rw [if_pos e] at hx; cases hx; exact hd
    · rw [if_neg e] at hx; exact h4 j x hx
theorem Tab.new (g : DN K P w H a []) : Tab K P w H a 0 (fun _ => none) := ⟨[], g, Nat.le_refl _, fun _ => True.intro, fun _ _ h => nomatch h⟩
end
theorem nodup_inj {α β : Type} {f : α → β} {l : List α} (hf : ∀ a b, f a = f b → a = b) (h : l.Nodup) : (l.map f).Nodup := by
  unfold List.Nodup
  rw [List.pairwise_map]
  exact List.Pairwise.imp (fun hne e => hne (hf _ _ e)) h
/-! ### dict([(key, value) ..]) -/
def dKV (p : List Int × PyData) : PyData := .tuple [.tuple (p.1.map PyData.int), p.2]
def lookT (ps : List (List Int × PyData)) (k : List Int) : Option PyData := (ps.find? fun p => decide (p.1 = k)).map (·.2)
theorem pairs_dp {K : PySem.W.Frag} {H : Hp} : ∀ {ps : List (List Int × PyData)} {us : List V}, DpAll K H us (ps.map dKV) →
    ∃ (ts : List Addr) (M : KX), us = ts.map V.ref ∧ Paired (fun t m => SqT K H t [V.ref m.2.1, m.2.2] ∧ SqT K H m.2.1 (m.1.map V.int)) ts M ∧ Paired (fun m p => m.1 = p.1 ∧ Dp K H m.2.2 p.2) M ps
  | [], _, .nil => ⟨[], [], rfl, .nil, .nil⟩
  | p :: ps, _, .cons h t => by
    obtain ⟨ts, M, e, h1, h2⟩ := pairs_dp t
    obtain ⟨a, xs, rfl, hS, hA⟩ := Dp.tupInv h
    cases hA with
    | cons g1 g2 =>
      cases g2 with
      | cons g3 g4 =>
        cases g4
        obtain ⟨b, rfl, hB⟩ := Dp.intsInv g1
        exact ⟨a :: ts, (p.1, b, _) :: M, by rw [e]; rfl, .cons ⟨hS, hB⟩ h1, .cons ⟨rfl, g3⟩ h2⟩
theorem mergeT_snoc : ∀ (more kvs : List (List Int × V)), ((kvs ++ more).map (·.1)).Nodup → mergeT kvs more = kvs ++ more
  | [], kvs, _ => by simp [mergeT]
  | p :: more, kvs, h => by
    have hn : valV kvs p.1 = none := by
      have := valV_any p.1 kvs
      cases e : valV kvs p.1 with
      | none => rfl
      | some v =>
        rw [e] at this
        obtain ⟨q, hq, hq2⟩ := List.any_eq_true.mp (show (kvs.any fun kv => decide (kv.1 = p.1)) = true from this)
        rw [List.map_append, List.map_cons] at h
        have := (List.nodup_append.mp h).2.2 q.1 (List.mem_map.mpr ⟨q, hq, rfl⟩) p.1 (List.mem_cons_self ..)
        exact absurd (of_decide_eq_true hq2) this
    show mergeT (putK kvs p.1 p.2) more = _
    rw [putK_new _ hn, mergeT_snoc more _ (by rw [List.append_assoc]; exact h), List.append_assoc]; rfl
theorem paired_keys {K : PySem.W.Frag} {H : Hp} {M : KX} {ps : List (List Int × PyData)} (h : Paired (fun m p => m.1 = p.1 ∧ Dp K H m.2.2 p.2) M ps) : (kvX M).map (·.1) = ps.map (·.1) := by
  induction h with
  | nil => rfl
  | @cons m p ms ps h t ih =>
    show m.1 :: (kvX ms).map (·.1) = _
    rw [ih, h.1]; rfl
theorem paired_look {K : PySem.W.Frag} {H : Hp} {M : KX} {ps : List (List Int × PyData)} (h : Paired (fun m p => m.1 = p.1 ∧ Dp K H m.2.2 p.2) M ps) (k : List Int) : OD K H (valV (kvX M) k) (lookT ps k) := by
  induction h with
  | nil => exact True.intro
  | @cons m p ms ps h t ih =>
    show OD K H (valV ((m.1, m.2.2) :: kvX ms) k) _
    by_cases e : m.1 = k
    · have e' : p.1 = k := h.1.symm.trans e
      have b : lookT (p :: ps) k = some p.2 := by simp [lookT, List.find?_cons, e']
      rw [valV_pos (p := (m.1, m.2.2)) e, b]; exact h.2
    · have e' : ¬ p.1 = k := fun z => e (h.1.trans z)
      have b : lookT (p :: ps) k = lookT ps k := by simp [lookT, List.find?_cons, e']
      rw [valV_neg (p := (m.1, m.2.2)) e, b]; exact ih
theorem lookT_mem {ps : List (List Int × PyData)} {k : List Int} {d : PyData} (h : lookT ps k = some d) : ∃ p ∈ ps, p.2 = d := by
  unfold lookT at h
  obtain ⟨p, hp, rfl⟩ := Option.map_eq_some_iff.mp h
  exact ⟨p, List.mem_of_find?_eq_some hp, rfl⟩
theorem lookT_at : ∀ {ps : List (List Int × PyData)} {k : List Int} {d : PyData} {j : Nat}, (ps.map (·.1)).Nodup → ps[j]? = some (k, d) → lookT ps k = some d
  | [], _, _, _, _, h => by simp at h
  | p :: ps, k, d, 0, _, h => by
    simp at h
    subst h
    simp [lookT]
  | p :: ps, k, d, j + 1, nd, h => by
    rw [List.map_cons, List.nodup_cons] at nd
    have h' : ps[j]? = some (k, d) := by simpa using h
    have hne : ¬ p.1 = k := fun e => nd.1 (by rw [e]; exact List.mem_map.mpr ⟨(k, d), List.mem_of_getElem? h', rfl⟩)
    have := lookT_at nd.2 h'
    unfold lookT at this ⊢
    rw [List.find?_cons, decide_eq_false hne]
    exact this
theorem Tab.make {K : PySem.W.Frag} {P : Program} {w : World} {H : Hp} {a : Addr} {us : List V} {ps : List (List Int × PyData)} {Q : VK} (hS : SqL K H a us) (hA : DpAll K H us (ps.map dKV)) (nd : (ps.map (·.1)).Nodup) (ht : ∀ p ∈ ps, Tf p.2)
    (q : ∀ p H', H p = none → Same H H' → Tab K P w H' p ps.length (lookT ps) → Q (.ref p) H') : rDictT K P w [.ref a] H Q := by
  obtain ⟨ts, M, rfl, h1, h2⟩ := pairs_dp hA
  refine ⟨a, ts, M, rfl, hS, h1, fun p H' np s g => q p H' np s ?_⟩
  have hk := paired_keys h2
  rw [mergeT_snoc (kvX M) [] (by rw [List.nil_append, hk]; exact nd), List.nil_append] at g
  refine ⟨_, g, ?_, fun k => (paired_look h2 k).same s, fun k d e => ?_⟩
  · rw [kvX_len, Paired.length h2]; exact Nat.le_refl _
  · obtain ⟨p, hp, rfl⟩ := lookT_mem e
    exact ht p hp
end MB

set_option maxHeartbeats 4000000
namespace MB
open PySem PySem.Spec PyProof.Rows L2
def clsDef (s : Stmt) : Stmt := match s with
  | .ClassDef _ _ _ b _ _ _ _ _ _ _ => b.getD 0 (.Pass ⟨0, 0, 0, 0⟩)
  | t => t
/-! ### own exceptions as values -/
/-- at a: a caught exception, of the class cls, its dict at d -/
def KeO (a : Addr) (cls : Value) (d : Option Addr) : HO := .ext fun h => ∃ oe vs, h.get? a = some oe ∧ oe.cls = cls ∧ oe.dict = d ∧ oe.data = .fields vs
theorem keO_ok {P : Program} {w : World} {H : Hp} {h : Heap} {a : Addr} {cls : Value} {d : Option Addr} {oe : Obj} {vs : Array Value} (e : h.get? a = some oe) (hc : oe.cls = cls) (hd : oe.dict = d) (hf : oe.data = .fields vs) : ObjOk P w H h a (KeO a cls d) :=
  ⟨⟨oe, vs, e, hc, hd, hf⟩, ⟨oe, e⟩, fun h1 h2 ⟨o1, v1, q1, q2⟩ k => ⟨o1, v1, k _ q1, q2⟩⟩
/-- at a: an own exception of the class at C; with a dict that holds fs, or with none -/
inductive XAt (H : Hp) (a C : Addr) : Option (List (Str × V)) → Prop
  | full {d : Addr} {fs : List (Str × V)} : H a = some (exo a C (some d)) → H d = some (exd d fs) → XAt H a C (some fs)
  | bare : H a = some (ExO (.ref C) a) → XAt H a C none
  | kept {d : Addr} {fs : List (Str × V)} : H a = some (KeO a (.ref C) (some d)) → H d = some (exd d fs) → XAt H a C (some fs)
  | keptd {d : Addr} {fs : List (Str × V)} : H a = some (KeO a (.ref C) (some d)) → H d = some (.xd fs) → XAt H a C (some fs)
theorem XAt.same {H H' : Hp} {a C : Addr} {o : Option (List (Str × V))} (e : Same H H') (h : XAt H a C o) : XAt H' a C o := by
  cases h with
  | full h1 h2 => exact .full (e _ _ h1) (e _ _ h2)
  | bare h1 => exact .bare (e _ _ h1)
  | kept h1 h2 => exact .kept (e _ _ h1) (e _ _ h2)
  | keptd h1 h2 => exact .keptd (e _ _ h1) (e _ _ h2)
theorem keO_at {P : Program} {w : World} {H : Hp} {h : Heap} {a C : Addr} {d : Option Addr} (k : HOk P w H h) (e : H a = some (KeO a (.ref C) d)) : ∃ o vs, h.get? a = some o ∧ o.cls = .ref C ∧ o.dict = d ∧ o.data = .fields vs := by
  obtain ⟨⟨o, vs, q1, q2, q3, q4⟩, _⟩ := k a _ e
  exact ⟨o, vs, q1, q2, q3, q4⟩
section
variable {X : Cx} {pins : List (Addr × Obj)} {σ : L2.St} {H : Hp} {s : Shared}
/-- x.f -/
def tXv (K : PySem.W.Frag) (f : Str) (te : TE) : TE := fun σ H Q => te σ H fun x H1 => ∃ (a C : Addr) (fs : List (Str × V)) (v : V), x = .ref a ∧ XAt H1 a C (some fs) ∧ XfC K C ∧ PySem.W.findIn K (.ref C) f = some none ∧ fs.lookup f = some v ∧ Q v H1
theorem pe_xv {e : Expr} {te : TE} {pos : Pos} {n : Str} (he : PE X e te) (hb : attributeBase e n X.env (eval e X.env) = eval e X.env := by rfl) : PE X (.Attribute e n pos) (tXv X.K n te) := by
  refine ⟨fun pins s σ H Q I h => ?_⟩
  refine attr_of hb (thn (he.run pins s σ H _ I h) fun u s1 hh => ?_)
  obtain ⟨x, H1, I1, rx, a, C, fs, v, ex, hx, T, hno, l, q⟩ := hh
  subst ex
  obtain rfl : u = Value.ref a := rx
  cases hx with
  | @full d _ ea ed =>
    obtain ⟨t1, ho⟩ := exo_at I1.hok ea
    obtain ⟨mA, hns, hr⟩ := exd_at I1.hok ed
    obtain ⟨od, hod, hl⟩ := lookIn_ns hns
    obtain ⟨z, hz, rz⟩ := RelO.some_of (v := v) (o := mA n) (by rw [← l]; exact hr n)
    have J : PySem.W.InstAt s1.heap a _ C (some od) := ⟨ho, rfl, rfl, hod⟩
    exact HandSPX.exc_get I1.kIn J T.ga T.gg T.exC (PySem.W.findObj_own T.hdC hno rfl (by rw [hl, hz])) (handed_of rz) ⟨v, H1, I1.tok _, rz, q⟩
  | @kept d _ ea ed =>
    obtain ⟨o, vs, ho, hcl, hdc, hfd⟩ := keO_at I1.hok ea
    obtain ⟨mA, hns, hr⟩ := exd_at I1.hok ed
    obtain ⟨od, hod, hl⟩ := lookIn_ns hns
    obtain ⟨z, hz, rz⟩ := RelO.some_of (v := v) (o := mA n) (by rw [← l]; exact hr n)
    obtain ⟨oc, odc, oda, osl⟩ := o
    dsimp only at hcl hdc hfd
    subst hcl hdc hfd
    have J : PySem.W.InstAt s1.heap a _ C (some od) := ⟨ho, rfl, rfl, hod⟩
    exact HandSPX.exc_get I1.kIn J T.ga T.gg T.exC (PySem.W.findObj_own T.hdC hno rfl (by rw [hl, hz])) (handed_of rz) ⟨v, H1, I1.tok _, rz, q⟩
  | @keptd d _ ea ed =>
    obtain ⟨o, vs, ho, hcl, hdc, hfd⟩ := keO_at I1.hok ea
    obtain ⟨mA, hns, hr⟩ := (show ObjOk X.prog X.w H1 s1.heap d (.xd _) from I1.hok d _ ed)
    obtain ⟨od, hod, hl⟩ := lookIn_ns hns
    obtain ⟨z, hz, rz⟩ := RelO.some_of (v := v) (o := mA n) (by rw [← l]; exact hr n)
    obtain ⟨oc, odc, oda, osl⟩ := o
    dsimp only at hcl hdc hfd
    subst hcl hdc hfd
    have J : PySem.W.InstAt s1.heap a _ C (some od) := ⟨ho, rfl, rfl, hod⟩
    exact HandSPX.exc_get I1.kIn J T.ga T.gg T.exC (PySem.W.findObj_own T.hdC hno rfl (by rw [hl, hz])) (handed_of rz) ⟨v, H1, I1.tok _, rz, q⟩
/-- isinstance(x, c) -/
def rIsX (K : PySem.W.Frag) : List V → Hp → VK → Prop := fun xs H Q => ∃ (a C : Addr) (o : Option (List (Str × V))) (c : V) (u : Value) (b : Bool), xs = [.ref a, c] ∧ ClsV c u ∧ XAt H a C o ∧ ExcC K C ∧ PySem.W.kitOne K (.ref C) u = some b ∧ Q (.bl b) H
theorem call_isX : CallR X (.builtin "isinstance") (rIsX X.K) := by
  intro pins s σ H xs us Q I r h
  obtain ⟨a, C, o, c, u, b, rfl, k, hx, T, e, q⟩ := h
  obtain ⟨u1, u2, rfl, r1, r2⟩ := vals2 r
  have e2 := k.eq r2
  subst e2
  cases r1
  have hcl : (PySem.W.clsIn X.K C).isSome = true := by
    obtain ⟨cd, hc, _⟩ := PySem.W.any_some T.hd
    rw [hc]; rfl
  have fin : ∀ tk, EP X pins σ Q (.bool b) { s with toks := tk } := fun tk => ⟨.bl b, H, I.tok tk, rfl, q⟩
  cases hx with
  | @full d fs ea ed =>
    obtain ⟨t1, ho⟩ := exo_at I.hok ea
    obtain ⟨mA, hns, hr⟩ := exd_at I.hok ed
    obtain ⟨od, hod, hl⟩ := lookIn_ns hns
    have J : PySem.W.InstAt s.heap a _ C (some od) := ⟨ho, rfl, rfl, hod⟩
    exact PySem.W.kia_one (PySem.W.kitx_exc hcl T.hg T.hk T.hs T.ha T.hn T.ht T.hm) I.kIn J e (fun z => nomatch z) fin
  | @kept d fs ea ed =>
    obtain ⟨o, vs, ho, hc1, hdc, hfd⟩ := keO_at I.hok ea
    obtain ⟨mA, hns, hr⟩ := exd_at I.hok ed
    obtain ⟨od, hod, hl⟩ := lookIn_ns hns
    obtain ⟨oc, odc, oda, osl⟩ := o
    dsimp only at hc1 hdc hfd
    subst hc1 hdc hfd
    have J : PySem.W.InstAt s.heap a _ C (some od) := ⟨ho, rfl, rfl, hod⟩
    exact PySem.W.kia_one (PySem.W.kitx_exc hcl T.hg T.hk T.hs T.ha T.hn T.ht T.hm) I.kIn J e (fun z => nomatch z) fin
  | @keptd d fs ea ed =>
    obtain ⟨o, vs, ho, hc1, hdc, hfd⟩ := keO_at I.hok ea
    obtain ⟨mA, hns, hr⟩ := (show ObjOk X.prog X.w H s.heap d (.xd fs) from I.hok d _ ed)
    obtain ⟨od, hod, hl⟩ := lookIn_ns hns
    obtain ⟨oc, odc, oda, osl⟩ := o
    dsimp only at hc1 hdc hfd
    subst hc1 hdc hfd
    have J : PySem.W.InstAt s.heap a _ C (some od) := ⟨ho, rfl, rfl, hod⟩
    exact PySem.W.kia_one (PySem.W.kitx_exc hcl T.hg T.hk T.hs T.ha T.hn T.ht T.hm) I.kIn J e (fun z => nomatch z) fin
  | bare ea =>
    obtain ⟨⟨oe, vs, ho, hz, hd, _⟩, _⟩ := I.hok a _ ea
    have J : PySem.W.InstAt s.heap a oe C none := by
      obtain ⟨oc, od, oda, osl⟩ := oe
      obtain ⟨z1, z2⟩ := hz
      dsimp only at z1 z2 hd
      subst z1 z2 hd
      exact ⟨ho, rfl, rfl, trivial⟩
    exact PySem.W.kia_one (PySem.W.kitx_exc hcl T.hg T.hk T.hs T.ha T.hn T.ht T.hm) I.kIn J e (fun z => nomatch z) fin
/-- C(e), the class's own __init__ keeping sp: the object stands -/
def tMkX (C : Addr) (sp : Sp) (ta : TA) : TE := fun σ H Q => ta σ H fun vs H1 => vs.length ≤ 1000 ∧ ∀ a, H1 a = none → sp (.ref a :: vs) (upd H1 a (exo a C none)) (fun v H2 => v = .non ∧ Q (.ref a) H2) E0
theorem pe_mkX {x : Str} {C fI : Addr} {k : Nat} {fd : FuncData} {ps : List Str} {sp : Sp} {e : Expr} {es : List Expr} {ta : TA} {p pos : Pos} (T : OexC X.K C) (iC : PySem.W.findIn X.K (.ref C) "__init__" = some (some (.ref fI))) (tI : PySem.W.typeIn X.K (.ref fI) = some (.type "function"))
    (F1 : FnOk X.prog X.w X.K X.mg X.base CX0 k fI fd ps sp) (hr : Room (k + 1) X.A) (hb : Binds X.K fd ps []) (hg : Gl X x) (hm : X.mg x = some (.ref C)) (ha : PA X (e :: es) ta) (hx : Passes CX0 X E0)
    (hdb : (x == ("__debug__" : Str)) = false := by decide) (he : starEach (e :: es) X.env = (false, eval e X.env) :: starEach es X.env := by rfl) (hpl : (backTo pos (starEach es X.env)).any (·.1) = false := by rfl) :
    PE X (.Call (.Name x p) (e :: es) [] pos) (tMkX C sp ta) := by
  refine ⟨fun pins s σ H Q I h => ?_⟩
  obtain ⟨nm, qn, N, bs, bm, sn, sub, ab, col, dd, k0, k1, k2, k3, k5, hC, hbm⟩ := T.cls
  refine wpAny_Call_Name_kw (ld_glob I hg hm ?_ hdb)
  refine PySem.W.callWith_K (h₀ := X.base) I.ok.mod.kin T.kC (thn (ha.run pos pins s σ H _ I h) fun us s1 ⟨vs, H1, I1, r1, hz, q1⟩ => ⟨I1.kIn, ?_⟩) he hpl
  show wpAny _ _ (call (.ref C) us) _ _ _
  obtain ⟨hp, gs, dr, tk, os⟩ := s1
  have fresh : H1 (hp.objs.size + 1) = none := I1.hok.fresh (Nat.le_succ _)
  have hq := q1 _ fresh
  have there : ((hp.push (PySem.W.kdv_tup us)).push (PySem.HandSPX.excO C hp.objs.size)).get? (hp.objs.size + 1) = some (PySem.HandSPX.excO C hp.objs.size) := by heap_get
  have J : Inv X pins σ (upd H1 (hp.objs.size + 1) (exo (hp.objs.size + 1) C none)) ⟨(hp.push (PySem.W.kdv_tup us)).push (PySem.HandSPX.excO C hp.objs.size), gs, dr, tk, os⟩ :=
    I1.laid (t' := tk) (fun b o z => Heap.get?_push_of_some _ (Heap.get?_push_of_some _ z)) (Nat.le_succ _) (exo_ok there)
  have r2 : Vals (V.ref (hp.objs.size + 1) :: vs) (Value.ref (hp.objs.size + 1) :: us) := .cons rfl r1
  have hl : (Value.ref (hp.objs.size + 1) :: us).length = ps.length := r2.length.symm.trans (F1.len _ _ _ _ hq)
  have hus : us.length ≤ sizeLine := by rw [← Paired.length r1, sizeLine_eq]; omega
  have bnd := hb ⟨(hp.push (PySem.W.kdv_tup us)).push (PySem.HandSPX.excO C hp.objs.size), gs, dr, tk, os⟩ (Value.ref (hp.objs.size + 1) :: us) J.kIn (by rw [List.append_nil]; exact hl)
  rw [List.append_nil] at bnd
  refine wpAny_call (PySem.HandSPX.call_own F.excBase_ValueError (fun Y => PySem.HandSPX.refsVE_contains Y bm hbm) (I1.kIn _ _ hC) (PySem.W.looks_findIn I1.kIn iC) (fun self => PySem.W.bind_fn I1.kIn self tI) hus
    (codeAny_mono (F1.run _ X.stack _ _ ⟨Value.ref (hp.objs.size + 1) :: us, []⟩ (Value.ref (hp.objs.size + 1) :: us) _ _ E0 (hr.make C us []) (J.env0.make C us []) bnd r2 hq) fun res s' back => ?_))
  rcases res with er | fl
  · exact hx pins σ _ _ er s' J back
  · rcases fl with _ | _ | _ | u
    · exact False.elim back
    · exact False.elim back
    · exact False.elim back
    · obtain ⟨v, H2, J2, rv, ev, q2⟩ := J.after back
      subst ev
      exact ⟨rv, ⟨V.ref (hp.objs.size + 1), H2, J2, rfl, q2⟩⟩
/-- C(), a class without own __init__ -/
theorem pe_exc0 {C : Addr} {bmB : List Value} {B newId initId : String} {x : Str} {p pos : Pos} (F : ExcBaseFacts B newId initId bmB) (hi : PySem.W.excIn X.K C bmB newId = true) (gC : X.mg x = some (.ref C)) (kC : PySem.W.keepIn X.K (.ref C) = true) (hg : Gl X x) (hdb : (x == ("__debug__" : Str)) = false := by decide) :
    PE X (.Call (.Name x p) [] [] pos) (fun _ H Q => ∀ a, H a = none → Q (.ref a) (upd H a (ExO (.ref C) a))) := by
  refine ⟨fun pins s σ H Q I h => ?_⟩
  refine wpAny_Call_Name_kw (ld_glob I hg gC ?_ hdb)
  refine PySem.W.callWith_K0 I.kIn kC ?_
  show wpAny _ _ (call (.ref C) []) _ _ _
  obtain ⟨bm, N, nm, qn, bs, hdct, sn, sub, ab, col, dd, k0, k1, k2, k3, k5, mN, hC, hN, hni, T⟩ := exc_obj I.kIn hi
  refine wpAny_call_exc_subT F T hC hN hni (fun h' a hm => ?_) (by show 0 ≤ sizeLine; exact Nat.zero_le _)
  have gone : H a = none := I.hok.gone hm.new
  obtain ⟨t, ht, _, _⟩ := hm.there
  exact ⟨.ref a, upd H a (ExO (.ref C) a), I.laidN hm.keeps hm.new gone (exO_ok ht ⟨rfl, rfl⟩ rfl rfl rfl (by simp)), rfl, h a gone⟩
/-- self.value = value, the whole of an __init__ -/
def sp_init (K : PySem.W.Frag) (C : Addr) (f : Str) : Sp := fun vs H Q _ => ∃ (a : Addr) (y : V), vs = [.ref a, y] ∧ H a = some (exo a C none) ∧ ∀ dx, H dx = none → dx ≠ a → Q .non (upd (upd H dx (exd dx [(f, y)])) a (exo a C (some dx)))
/-- C(e) read by what stands behind it -/
theorem mkX_read {K : PySem.W.Frag} {C : Addr} {f : Str} {ta : TA} {σ : L2.St} {H : Hp} {Q : VK} (h : ta σ H fun vs H1 => ∃ y, vs = [y] ∧ ∀ a H2, Same H1 H2 → H1 a = none → XAt H2 a C (some [(f, y)]) → Q (.ref a) H2)
    (mono : ∀ (R R' : List V → Hp → Prop), (∀ vs H1, R vs H1 → R' vs H1) → ta σ H R → ta σ H R') : tMkX C (sp_init K C f) ta σ H Q := by
  refine mono _ _ ?_ h
  rintro vs H1 ⟨y, rfl, q⟩
  refine ⟨by simp, fun a na => ⟨a, y, rfl, upd_same, fun dx ndx ne => ⟨rfl, q a _ ?_ na (.full upd_same ?_)⟩⟩⟩
  · intro b o eb
    have h1 : b ≠ a := ne_of_none eb na
    have h2 : (upd H1 a (exo a C none)) b = some o := by rw [upd_ne h1]; exact eb
    rw [upd_ne h1, upd_ne (ne_of_none h2 ndx), upd_ne h1]
    exact eb
  · rw [upd_ne ne]; exact upd_same
end
end MB

set_option maxHeartbeats 4000000
namespace MB
open PySem PySem.Spec PyProof.Rows L2
/-! ### a caught exception is kept: its object comes among what is tracked -/
theorem inv_adopt {X : Cx} {pins : List (Addr × Obj)} {σ : L2.St} {H : Hp} {s : Shared} {a : Addr} {o : HO} (I : Inv X pins σ H s)
    (na : H a = none) (n0 : a ∉ X.ex → X.s_0.heap.get? a = none) (nL : a ≠ X.env.locals) (nC : ∀ x c, X.env.cells.lookup x = some c → c ≠ a) (nP : ∀ p ∈ X.pn ++ pins, p.1 ≠ a)
    (new : ObjOk X.prog X.w (upd H a o) s.heap a o) : Inv X pins σ (upd H a o) s := by
  have ne : ∀ b u, H b = some u → b ≠ a := fun b u q z => by rw [z, na] at q; cases q
  have up : ∀ b u, H b = some u → upd H a o b = some u := fun b u q => by rw [upd_ne (ne b u q)]; exact q
  have no : ∀ b, b ≠ a → H b = none → upd H a o b = none := fun b z q => by rw [upd_ne z]; exact q
  have B := I.base
  refine ⟨I.ok, I.os, I.bare, ⟨B.keep, B.slot, fun b ob q n x => ?_, B.there, fun b xs q => up _ _ (B.tups b xs q), fun b ob u q => up _ _ (B.frzs b ob u q), fun b ps q => ?_⟩, I.loc, I.cell, no _ (Ne.symm nL) I.free, fun x c q => no _ (nC x c q) (I.freeC x c q), fun p hp => ?_, fun b u q => ?_, I.len⟩
  · refine no _ (fun z => ?_) (B.free b ob q n x)
    rw [z] at q x
    rw [n0 x] at q; cases q
  · obtain ⟨more, e⟩ := B.tbls b ps q
    exact ⟨more, up _ _ e⟩
  · obtain ⟨p1, p2, p3⟩ := I.pin p hp
    exact ⟨p1, no _ (nP p hp) p2, p3⟩
  · by_cases z : b = a
    · rw [z, upd_same] at q
      cases q
      rw [z]
      exact new
    · rw [upd_ne z] at q
      exact (I.hok b u q).stay (fun c v _ e => e) (fun c e => up c _ e) fun c _ e => up c _ e

/-- what the catch wishes: the class is one that is caught; behind the suite the error stays, tracked -/
def wKept (K : PySem.W.Frag) (c : Value) (i : Nat) (ts : Addr → Value → Option Addr → TS) (D : Ends) : WX := fun cls d σ H =>
  PySem.W.exmOne K cls c = some true ∧ ∀ a, H a = none →
    ts a cls d { nx := fun σ' H' => D.nx (σ'.set i none) (upd H' a (KeO a cls d)), rt := fun _ _ => False, bk := fun _ _ => False, ct := fun _ _ => False } (σ.set i (some (.ref a))) H
section
variable {X : Cx} {x n : Str} {c : Value} {i : Nat} {body more : List Stmt} {st : Stmt} {np pos pos' : Pos} {tb : WX → TS} {ts : Addr → Value → Option Addr → TS}
theorem ps_try_kept (hst : X.stack = X.env :: X.outer) (hfm : X.env.frame = some X.env.locals)
    (hN : X.N.Nodup) (hi : X.N[i]? = some n)
    (hln : X.env.kindOf n = some .local) (hc : Names X x c)
    (hb : ∀ (W : WX) (pn : List (Addr × Obj)) (xe : Value → Shared → Prop), Takes (X.tr pn xe) W →
      PassesOwn (model X.prog X.w) X.A X.env xe → PSs (X.tr pn xe) body (tb W))
    (hsu : ∀ (a : Addr) (oe : Obj) (cls : Value) (d : Option Addr) (pn : List (Addr × Obj)), Zc cls d oe →
      (∃ vs, oe.data = .fields vs) → PSs (X.suite a ((a, oe) :: pn)) (st :: more) (ts a cls d)) :
    PS X (.Try body [.ExceptHandler (some (.Name x np)) (some n) (st :: more) pos'] [] [] pos)
      (fun D σ H => tb (wKept X.K c i ts D) D σ H) := by
  refine ⟨fun pins s σ H D I h => ?_⟩
  have okX := I.ok
  have frm : X.A.frames = some (X.env :: X.outer) := by rw [okX.frames, hst]
  refine wpAny_Try_except (wpAny_mono ((hb (wKept X.K c i ts D) (X.pn ++ pins) _ (fun u s1 xx => ?_) PassesOwn.looking).run [] s σ H D (I.toTry _) h) (fun f s1 q => ?_) (fun e s1 q => q))
  · obtain ⟨a, B, sI, pins', σ1, H1, cls, d, rfl, Jt, nb, up, sky, na, os, ag, hyes, hts⟩ := xx
    have J : Inv X pins σ1 H1 sI := Jt.ofTry okX
    rw [show (X.tr (X.pn ++ pins) _).stack = X.env :: X.outer from hst] at sky
    show wpAny (model X.prog X.w) X.A (noteFrame (.ref a) X.env) _ _ _
    refine Sky.land Zc.steady frm hfm sky fun h2 fl up2 => ?_
    have J2 : Inv X pins σ1 H1 { s1 with heap := h2 } := J.landed nb fl.1 (up.trans up2) os ag
    have Bn : B.get? a = none := fl.2.1
    obtain ⟨o2, vs2, g2, z2, d2⟩ := fl.there
    have offF : a ∉ frs (X.env :: X.outer) := fun hm => by
      obtain ⟨_, o', e', hnf⟩ := fl.2.2.1.mem hm
      rw [g2] at e'; cases e'
      exact hnf _ d2
    have offL : a ≠ X.env.locals := fun z => offF (List.mem_filterMap.mpr ⟨X.env, List.mem_cons_self, by rw [hfm, z]⟩)
    have offO : a ∉ X.fs := fun hm => by
      obtain ⟨e, he, q⟩ := List.mem_filterMap.mp hm
      exact offF (List.mem_filterMap.mpr ⟨e, List.mem_cons_of_mem _ he, q⟩)
    have offI : ∀ o, sI.heap.get? a = some o → False := fun o e => by
      have := nb a o e (by show a ∉ frs X.stack; rw [hst]; exact offF)
      rw [Bn] at this; cases this
    have n0 : a ∉ X.ex → X.s_0.heap.get? a = none := fun hx => by
      cases e : X.s_0.heap.get? a with
      | none => rfl
      | some o =>
        obtain ⟨o', e'⟩ := J.base.there a o e hx
        exact (offI _ e').elim
    have nC : ∀ x c, X.env.cells.lookup x = some c → c ≠ a := fun x c e z => by
      obtain ⟨v, q⟩ := J.cell x c e
      rw [z] at q
      obtain ⟨o, q1, _⟩ := q
      exact offI _ q1
    have nP : ∀ p ∈ X.pn ++ pins, p.1 ≠ a := fun p hp z => by
      have q := (J.pin p hp).1
      rw [z] at q
      exact offI _ q
    have S2 := J2.suite g2 d2 na offL offO
    refine wpAny_handleBy_cons (codeAny_handlers_test ?_) (by intro q; cases q)
    have ty : PySem.W.Looks (model X.prog X.w) h2 (typeOf (.ref a)) cls := fun _ _ _ _ k q =>
      wpAny_typeOf_ref (k _ _ g2) (by rw [z2.1]; exact q)
    have look := PySem.W.exm_one (M := model X.prog X.w) J2.kIn ty hyes
    have nam : ∀ {Q E : Value → Shared → Prop}, Q c { s1 with heap := h2 } →
        wpAny (model X.prog X.w) (X.A.mark (some (.ref a))) (eval (.Name x np) X.env) Q E { s1 with heap := h2 } := fun {Q E} q => by
      rcases hc with ⟨hg, hdb, hm | ⟨hm, hv, hnn⟩⟩
      · exact ld_glob (X := X.suite a ((a, o2) :: (X.pn ++ pins))) S2 hg hm q hdb
      · exact ld_blt (X := X.suite a ((a, o2) :: (X.pn ++ pins))) S2 hg hm hv q hnn hdb
    refine nam (look.here (codeAny_handlers_suite_as (HandSPX.lands_againZ fl fun h3 fl3 up3 => ?_)))
    have J3 : Inv X pins σ1 H1 { s1 with heap := h3 } := J.landed nb fl3.1 ((up.trans up2).trans up3) os ag
    obtain ⟨o3, vs3, g3, z3, d3⟩ := fl3.there
    have S3 := J3.suite g3 d3 na offL offO
    refine store_ok (X := X.suite a ((a, o3) :: (X.pn ++ pins))) (v := .ref a) S3 hN hi (.inl hln) rfl (fun s4 S4 => ?_) (.inr hln)
    refine wpAny_mono ((hsu a o3 cls d (X.pn ++ pins) z3 ⟨_, d3⟩).run [] s4 _ H1 _ S4 (hts a na)) (fun f s5 q => ?_) (fun _ _ z => z.elim)
    cases f with
    | next =>
      obtain ⟨σ5, H5, S5, q5⟩ := q
      obtain ⟨g5, n5, _⟩ := S5.pin (a, o3) (by simp [Cx.suite])
      exact gone_ok (inv_adopt (S5.unsuite okX) n5 n0 offL nC nP (keO_ok g5 z3.1 z3.2 d3)) hN hi hln fun s6 J6 => ⟨_, _, J6, q5⟩
    | brk => obtain ⟨_, _, _, z⟩ := q; exact z.elim
    | cont => obtain ⟨_, _, _, z⟩ := q; exact z.elim
    | ret u => obtain ⟨_, _, _, _, _, z⟩ := q; exact z.elim
  · cases f with
    | next => obtain ⟨_, _, J, z⟩ := q; exact wpAny_execs_nil ⟨_, _, J.ofTry okX, z⟩
    | brk => obtain ⟨_, _, J, z⟩ := q; exact ⟨_, _, J.ofTry okX, z⟩
    | cont => obtain ⟨_, _, J, z⟩ := q; exact ⟨_, _, J.ofTry okX, z⟩
    | ret u => obtain ⟨_, _, _, J, r, z⟩ := q; exact ⟨_, _, _, J.ofTry okX, r, z⟩
end
end MB

set_option maxHeartbeats 4000000
namespace MB
open PySem PySem.Spec PyProof.Rows L2
/-- the thing at sysModules, tracked as it stands: a new thing then stands elsewhere -/
def sysO (oY : Obj) : HO := .frz oY (.ext fun h => h.get? sysModules = some oY)
theorem law_callS {P : Program} {w : World} {K : PySem.W.Frag} {mg mb : Str → Option Value} {k : Nat} {fa a : Addr} {fd : FuncData} {x : Str} {sp : Sp} {s₁ : Shared} {vs : List Value} {ns : List Int} {oY : Obj}
    (hKs : K.lookup sysModules = none) (hsy : s₁.heap.get? sysModules = some oY) (hna : a ≠ sysModules) (KX : K.In s₁.heap) (hns : s₁.heap.Ns mainGlobals mg) (hb : s₁.heap.Ns builtinsNs mb)
    (hbb : ∀ x : Str, x ≠ "__name__" → mb x = bootBuiltins x) (hlim : s₁.heap.NoLimit) (hg : s₁.gens = #[])
    (ha : s₁.heap.get? a = some { cls := .type "list", data := .seq vs.toArray }) (hi : IntsAre vs ns) (hl : ns.length ≤ sizeLine) (hr : Room k callerA)
    (F : ∀ base : Heap, K.In base → base.Ns mainGlobals mg → FnG P w K mg base CX0 k fa fd [x] sp) (hbind : ∀ (s : Shared) (u : Value), BindsTo s fd ⟨[u], []⟩ [(x, u)])
    (hsp : ∀ (H : Hp) (o : HO), SqL K H a (ns.map V.int) → H sysModules = some o → sp [.ref a] H (fun v _ => v = .bl true) fun _ _ _ => False) :
    codeAny (model P w) callerA (.call (.ref fa) ⟨[.ref a], []⟩) (fun r s' => r = .ok (.ret (.bool true)) ∧ OldK s₁.heap s'.heap ∧ s'.os = s₁.os ∧ AllBare s'.gens) s₁ := by
  let oS : Obj := { cls := .type "list", data := .seq vs.toArray }
  let H : Hp := fun b => if b = a ∧ K.lookup a = none then some (.frz oS (.lst (ns.map V.int))) else if b = sysModules then some (sysO oY) else none
  have Ha : K.lookup a = none → H a = some (.frz oS (.lst (ns.map V.int))) := fun hk => if_pos ⟨rfl, hk⟩
  have Hy : H sysModules = some (sysO oY) := (if_neg fun z => hna z.1.symm).trans (if_pos rfl)
  have rv := vals_ints hi
  have Hsome : ∀ {b : Addr} {o : HO}, H b = some o → (b = a ∧ o = .frz oS (.lst (ns.map V.int))) ∨ (b = sysModules ∧ o = sysO oY) := fun {b o} e => by
    by_cases c : b = a ∧ K.lookup a = none
    · have e' := (if_pos c).symm.trans e
      exact .inl ⟨c.1, (Option.some.inj e').symm⟩
    · by_cases c2 : b = sysModules
      · rw [c2, Hy] at e; exact .inr ⟨c2, (Option.some.inj e).symm⟩
      · have e' : H b = none := (if_neg c).trans (if_neg c2)
        rw [e'] at e; cases e
  have hfree : ∀ {b : Addr}, (b = a → K.lookup a ≠ none) → b ≠ sysModules → H b = none := fun {b} c c2 => (if_neg fun z => c z.1 z.2).trans (if_neg c2)
  have hS : SqL K H a (ns.map V.int) := by
    cases hk : K.lookup a with
    | none => exact .inl (.inr ⟨oS, Ha hk⟩)
    | some o =>
      have e := (KX a o hk).symm.trans ha
      cases e
      exact .inr ⟨_, vs.toArray, _, hk, rfl, rfl, rfl, by rw [List.size_toArray, hi.length]; exact hl, by simpa using rv⟩
  have hok : HOk P w H s₁.heap := fun b o e => by
    rcases Hsome e with ⟨rfl, rfl⟩ | ⟨rfl, rfl⟩
    · exact ⟨ha, by rw [List.length_map]; exact hl, vs, _, rv, ha⟩
    · exact ⟨hsy, hsy, ⟨_, hsy⟩, fun h1 h2 z kk => kk _ z⟩
  have notA : ∀ {b : Addr} {m : Str → Option Value}, s₁.heap.Ns b m → b ≠ a := fun {b m} ⟨o, es, ep, e, d, r⟩ z => by
    rw [z, ha] at e; cases e; cases d
  have ns_hid : ∀ {b : Addr} {m : Str → Option Value}, b ≠ sysModules → s₁.heap.Ns b m → (hidT s₁.heap H).Ns b m := fun {b m} hb x => by
    have h1 := notA x
    obtain ⟨o, es, ep, e, d, r⟩ := x
    exact ⟨o, es, ep, hidT_get e (hfree (fun z => absurd z h1) hb), d, r⟩
  have hKb : K.In (hidT s₁.heap H) := fun b o e => hidT_get (KX b o e) (hfree (fun z => by rw [z] at e; rw [e]; exact fun y => nomatch y) (fun z => by rw [z, hKs] at e; cases e))
  have hM : Mod K mg (hidT s₁.heap H) := ⟨hKb, ns_hid (by decide) hns, ⟨mb, ns_hid (by decide) hb, hbb⟩, let ⟨mc, h1, h2⟩ := hlim; ⟨mc, ns_hid (by decide) h1, h2⟩⟩
  have e0 : Env0 P w K mg (hidT s₁.heap H) callerA [] s₁ H := ⟨rfl, hM, fun b o e => of_hidT e, Nat.le_of_eq (hidT_size _ _), trivial, (fun b hb => absurd (show b ∈ ([] : List Addr) from hb) (by simp)), hok, .of_eq hg⟩
  refine codeAny_mono ((F _ hKb (ns_hid (by decide) hns)).run callerA rfl hr [] s₁ H ⟨[.ref a], []⟩ [.ref a] [.ref a] _ _ e0 (hbind s₁ (.ref a)) (.cons rfl .nil) (hsp H _ hS Hy)) fun r s' h => ?_
  rcases r with e | fl
  · exact False.elim h
  rcases fl with _ | _ | _ | u
  · exact False.elim h
  · exact False.elim h
  · exact False.elim h
  obtain ⟨v, H', os, bare, un, hok', r', q⟩ := h
  have q' : v = .bl true := q
  subst q'
  obtain rfl : u = Value.bool true := r'
  refine ⟨rfl, OldK.of_keep fun b o e => ?_, os, bare⟩
  cases hb' : H b with
  | none => exact un.keep b o e hb' (fun z => absurd (show b ∈ ([] : List Addr) from z) (by simp)) (by simp)
  | some u =>
    rcases Hsome hb' with ⟨rfl, rfl⟩ | ⟨rfl, rfl⟩
    · have e2 := (hok' _ _ (un.frzs _ oS _ hb')).1
      rw [ha] at e
      cases e
      exact e2
    · have e2 := (hok' _ _ (un.frzs _ oY _ hb')).1
      rw [hsy] at e
      cases e
      exact e2
theorem walk_ofS {l : PySem.W.OpenLaw} {n k : Nat} {q : Program} {loose : List Str} {XP : (Str → Option Value) → Heap → Prop} {YP : World → Heap → Prop} {d : DefRec} {K : Params → PySem.W.Frag} {sp : PySem.W.Frag → Sp} {x : Str}
    (hn : l.most = some n) (hn2 : n ≤ sizeLine) (hdf : d.params.defaults = []) (hr : Room k callerA) (him : importsNone q = true) (hKs : ∀ p, (K p).lookup sysModules = none)
    (hY : ∀ (w : World) (h : Heap), YP w h → (K w.params).In h)
    (F : ∀ (w : World) (mg : Str → Option Value) (fa : Addr) (h : Heap), (K w.params).In h → h.Ns mainGlobals mg → mg d.name = some (.ref fa) →
      ∃ fd : FuncData, (∀ (s : Shared) (u : Value), BindsTo s fd ⟨[u], []⟩ [(x, u)]) ∧
        ∀ base : Heap, (K w.params).In base → base.Ns mainGlobals mg → FnG l.prog w (K w.params) mg base CX0 k fa fd [x] (sp (K w.params)))
    (hsp : ∀ (K : PySem.W.Frag) (H : Hp) (a : Addr) (ns : List Int) (o : HO), ns.length ≤ n → SqL K H a (ns.map V.int) → H sysModules = some o → sp K [.ref a] H (fun v _ => v = .bl true) fun _ _ _ => False) :
    PySem.W.WalkO q loose XP YP l.row.toRowW d [] (fun f vs => PySem.call f vs) :=
  Att.attach_call hn hdf fun w s₀ s₁ mg mb fa o pm cd doc a vs ns G Y ho hd hcd hmg hobj hints hlen hg =>
    have KX := hY w _ Y
    let ⟨fd, hb, hF⟩ := F w mg fa _ KX G.T.g hmg
    let ⟨mm, hmm, _⟩ := (G.T.seer him).mods
    let ⟨oY, es, ep, eY, dY, _⟩ := hmm
    law_callS (hKs w.params) eY (fun z => by rw [z, eY] at hobj; cases hobj; cases dY) KX G.T.g G.T.b G.T.builtins G.T.nolimit hg hobj hints (Nat.le_trans hlen hn2) hr hF hb fun H o hS hy => hsp _ H a ns o hlen hS hy
end MB

set_option maxHeartbeats 4000000
namespace MB
open PySem PySem.Spec PyProof.Rows L2
/-- a law's call: no repr is under way, sysModules is tracked, and so are the tables ts of code objects (cs: code object and table) -/
theorem law_callT {P : Program} {w : World} {K : PySem.W.Frag} {mg mb : Str → Option Value} {k : Nat} {fa a : Addr} {fd : FuncData} {x : Str} {sp : Sp} {s₁ : Shared} {vs : List Value} {ns : List Int} {oY : Obj} {cs : List (Addr × Addr)}
    (hKs : K.lookup sysModules = none) (hsy : s₁.heap.get? sysModules = some oY) (hyT : ∀ p ∈ cs, p.2 ≠ sysModules) (hna : a ≠ sysModules) (KX : K.In s₁.heap) (hns : s₁.heap.Ns mainGlobals mg) (hb : s₁.heap.Ns builtinsNs mb)
    (hbb : ∀ x : Str, x ≠ "__name__" → mb x = bootBuiltins x) (hlim : s₁.heap.NoLimit) (hg : s₁.gens = #[])
    (hT : ∀ p ∈ cs, s₁.heap.get? p.2 = some { cls := .none, data := .fields #[] }) (nT : ∀ p ∈ cs, K.lookup p.2 = none) (hC : ∀ p ∈ cs, PySem.W.CodeHd s₁.heap p.1 p.2) (hCy : ∀ p ∈ cs, p.1 ≠ sysModules)
    (hbm : ∃ (bm : Addr) (ob : Obj), mg "__builtins__" = some (.ref bm) ∧ bm ≠ builtinsNs ∧ s₁.heap.get? bm = some ob ∧ ob.cls = .type "module" ∧ ob.dict = some builtinsNs ∧ ob.data = .plain)
    (hyd : ∃ es ep, oY.data = .dict es ep)
    (ha : s₁.heap.get? a = some { cls := .type "list", data := .seq vs.toArray }) (hi : IntsAre vs ns) (hl : ns.length ≤ sizeLine) (hr : Room k callerA)
    (F : ∀ base : Heap, K.In base → base.Ns mainGlobals mg → (∀ p ∈ cs, LamX.TabB base mg p.1 p.2) → FnG P w K mg base CX0 k fa fd [x] sp) (hbind : ∀ (s : Shared) (u : Value), BindsTo s fd ⟨[u], []⟩ [(x, u)])
    (hsp : ∀ (H : Hp) (o : HO), SqL K H a (ns.map V.int) → H sysModules = some o → (∀ ps, o ≠ .tbl ps) → (∀ p ∈ cs, H p.2 = some (.tbl #[])) → sp [.ref a] H (fun v _ => v = .bl true) fun _ _ _ => False) :
    codeAny (model P w) callerA (.call (.ref fa) ⟨[.ref a], []⟩) (fun r s' => r = .ok (.ret (.bool true)) ∧ OldK s₁.heap s'.heap ∧ s'.os = s₁.os ∧ AllBare s'.gens) s₁ := by
  let oS : Obj := { cls := .type "list", data := .seq vs.toArray }
  let H : Hp := fun b => if b = a ∧ K.lookup a = none then some (.frz oS (.lst (ns.map V.int))) else if b = sysModules then some (sysO oY) else if b ∈ cs.map (·.2) then some (.tbl #[]) else none
  have isT : ∀ b : Addr, b ∈ cs.map (·.2) → s₁.heap.get? b = some { cls := .none, data := .fields #[] } ∧ K.lookup b = none ∧ b ≠ sysModules := fun b hb => by
    obtain ⟨p, hp, rfl⟩ := List.mem_map.mp hb
    exact ⟨hT p hp, nT p hp, hyT p hp⟩
  have aT : a ∉ cs.map (·.2) := fun z => by
    have q := (isT a z).1
    rw [ha] at q
    cases q
  have Ha : K.lookup a = none → H a = some (.frz oS (.lst (ns.map V.int))) := fun hk => if_pos ⟨rfl, hk⟩
  have Hy : H sysModules = some (sysO oY) := (if_neg fun z => hna z.1.symm).trans (if_pos rfl)
  have Ht : ∀ b, b ∈ cs.map (·.2) → H b = some (.tbl #[]) := fun b hb => (if_neg fun z => aT (by rw [← z.1]; exact hb)).trans ((if_neg (isT b hb).2.2).trans (if_pos hb))
  have rv := vals_ints hi
  have Hsome : ∀ {b : Addr} {o : HO}, H b = some o → (b = a ∧ o = .frz oS (.lst (ns.map V.int))) ∨ (b = sysModules ∧ o = sysO oY) ∨ (b ∈ cs.map (·.2) ∧ o = .tbl #[]) := fun {b o} e => by
    by_cases c : b = a ∧ K.lookup a = none
    · have e' := (if_pos c).symm.trans e
      exact .inl ⟨c.1, (Option.some.inj e').symm⟩
    · by_cases c2 : b = sysModules
      · rw [c2, Hy] at e; exact .inr (.inl ⟨c2, (Option.some.inj e).symm⟩)
      · by_cases c3 : b ∈ cs.map (·.2)
        · rw [Ht b c3] at e; exact .inr (.inr ⟨c3, (Option.some.inj e).symm⟩)
        · have e' : H b = none := (if_neg c).trans ((if_neg c2).trans (if_neg c3))
          rw [e'] at e; cases e
  have hfree : ∀ {b : Addr}, (b = a → K.lookup a ≠ none) → b ≠ sysModules → b ∉ cs.map (·.2) → H b = none := fun {b} c c2 c3 => (if_neg fun z => c z.1 z.2).trans ((if_neg c2).trans (if_neg c3))
  have hS : SqL K H a (ns.map V.int) := by
    cases hk : K.lookup a with
    | none => exact .inl (.inr ⟨oS, Ha hk⟩)
    | some o =>
      have e := (KX a o hk).symm.trans ha
      cases e
      exact .inr ⟨_, vs.toArray, _, hk, rfl, rfl, rfl, by rw [List.size_toArray, hi.length]; exact hl, by simpa using rv⟩
  have hok : HOk P w H s₁.heap := fun b o e => by
    rcases Hsome e with ⟨rfl, rfl⟩ | ⟨rfl, rfl⟩ | ⟨h1, rfl⟩
    · exact ⟨ha, by rw [List.length_map]; exact hl, vs, _, rv, ha⟩
    · exact ⟨hsy, hsy, ⟨_, hsy⟩, fun h1 h2 z kk => kk _ z⟩
    · exact (isT b h1).1
  have noD : ∀ {b : Addr} {o : Obj}, s₁.heap.get? b = some o → b ≠ sysModules → (∀ us n, o.data ≠ .seq us n) → o.data ≠ .fields #[] → H b = none := fun {b o} e c h1 h2 => hfree (fun z => by
      rw [z, ha] at e
      cases e
      exact (h1 _ _ rfl).elim) c fun z => by
      rw [(isT b z).1] at e
      cases e
      exact h2 rfl
  have ns_hid : ∀ {b : Addr} {m : Str → Option Value}, b ≠ sysModules → s₁.heap.Ns b m → (hidT s₁.heap H).Ns b m := fun {b m} hb x => by
    obtain ⟨o, es, ep, e, d, r⟩ := x
    exact ⟨o, es, ep, hidT_get e (noD e hb (fun us n z => by rw [d] at z; cases z) fun z => by rw [d] at z; cases z), d, r⟩
  have hKb : K.In (hidT s₁.heap H) := fun b o e => hidT_get (KX b o e) (hfree (fun z => by rw [z] at e; rw [e]; exact fun y => nomatch y) (fun z => by rw [z, hKs] at e; cases e) fun z => by rw [(isT b z).2.1] at e; cases e)
  have hM : Mod K mg (hidT s₁.heap H) := ⟨hKb, ns_hid (by decide) hns, ⟨mb, ns_hid (by decide) hb, hbb⟩, let ⟨mc, h1, h2⟩ := hlim; ⟨mc, ns_hid (by decide) h1, h2⟩⟩
  have TB : ∀ p ∈ cs, LamX.TabB (hidT s₁.heap H) mg p.1 p.2 := fun p hp => by
    have hTp := hT p hp
    refine ⟨?_, ?_, fun z => ?_⟩
    · obtain ⟨o, us, file, tf, flags, tg, inF, text, tt, e1, r1, r2, r3, r4⟩ := hC p hp
      refine ⟨o, us, file, tf, flags, tg, inF, text, tt, hidT_get e1 (noD e1 (hCy p hp) (fun us' n z => ?_) fun z => ?_), r1, r2, r3, r4⟩
      · rw [r2] at z; cases z
      · rw [r2] at z; cases z; simp at r3
    · obtain ⟨bm, ob, b1, b2, b3, b4, b5, b6⟩ := hbm
      have nY : bm ≠ sysModules := fun q => by
        obtain ⟨es, ep, hd⟩ := hyd
        rw [q, hsy] at b3
        cases b3
        rw [hd] at b6; cases b6
      have nG : bm ≠ mainGlobals := fun q => by
        obtain ⟨o, es, ep, e, hd, _⟩ := hns
        rw [q, e] at b3
        cases b3
        rw [hd] at b6; cases b6
      have nP : bm ≠ p.2 := fun q => by rw [q, hTp] at b3; cases b3; cases b6
      exact ⟨bm, ob, b1, b2, nG, nP, hidT_get b3 (noD b3 nY (fun us' n z => by rw [b6] at z; cases z) fun z => by rw [b6] at z; cases z), b4, b5, b6⟩
    · obtain ⟨o, es, ep, e, hd, _⟩ := hns
      rw [z, hTp] at e
      cases e
      cases hd
  have e0 : Env0 P w K mg (hidT s₁.heap H) callerA [] s₁ H := ⟨rfl, hM, fun b o e => of_hidT e, Nat.le_of_eq (hidT_size _ _), trivial, (fun b hb => absurd (show b ∈ ([] : List Addr) from hb) (by simp)), hok, .of_eq hg⟩
  refine codeAny_mono ((F _ hKb (ns_hid (by decide) hns) TB).run callerA rfl hr [] s₁ H ⟨[.ref a], []⟩ [.ref a] [.ref a] _ _ e0 (hbind s₁ (.ref a)) (.cons rfl .nil) (hsp H _ hS Hy (fun ps z => by unfold sysO at z; cases z) fun p hp => Ht _ (List.mem_map.mpr ⟨p, hp, rfl⟩))) fun r s' h => ?_
  rcases r with e | fl
  · exact False.elim h
  rcases fl with _ | _ | _ | u
  · exact False.elim h
  · exact False.elim h
  · exact False.elim h
  obtain ⟨v, H', os, bare, un, hok', r', q⟩ := h
  have q' : v = .bl true := q
  subst q'
  obtain rfl : u = Value.bool true := r'
  have key : ∀ b o, b ∉ cs.map (·.2) → s₁.heap.get? b = some o → s'.heap.get? b = some o := fun b o nb e => by
    cases hb' : H b with
    | none => exact un.keep b o e hb' (fun z => absurd (show b ∈ ([] : List Addr) from z) (by simp)) (by simp)
    | some u =>
      rcases Hsome hb' with ⟨rfl, rfl⟩ | ⟨rfl, rfl⟩ | ⟨h1, _⟩
      · have e2 := (hok' _ _ (un.frzs _ oS _ hb')).1
        rw [ha] at e
        cases e
        exact e2
      · have e2 := (hok' _ _ (un.frzs _ oY _ hb')).1
        rw [hsy] at e
        cases e
        exact e2
      · exact absurd h1 nb
  have grown : ∀ p ∈ cs, ∃ more : Array Value, s'.heap.get? p.2 = some { cls := .none, data := .fields more } := fun p hp => by
    obtain ⟨more, z⟩ := un.tbls p.2 #[] (Ht _ (List.mem_map.mpr ⟨p, hp, rfl⟩))
    exact ⟨_, hok' p.2 _ z⟩
  refine ⟨rfl, ⟨fun b o e => ?_, fun b o e => ?_⟩, os, bare⟩
  · by_cases hb : b ∈ cs.map (·.2)
    · obtain ⟨p, hp, rfl⟩ := List.mem_map.mp hb
      obtain ⟨more, hm⟩ := grown p hp
      rw [hT p hp] at e
      cases e
      exact .inr (.inl ⟨((hC p hp).tab (hT p hp)).isCodeTable, rfl, #[], more, rfl, by rw [Array.empty_append]; exact hm⟩)
    · exact .inl (key b o hb e)
  · by_cases hb : b ∈ cs.map (·.2)
    · obtain ⟨p, hp, rfl⟩ := List.mem_map.mp hb
      obtain ⟨more, hm⟩ := grown p hp
      exact ⟨_, hm⟩
    · exact ⟨o, key b o hb e⟩
theorem walk_ofT {l : PySem.W.OpenLaw} {n k : Nat} {q : Program} {loose : List Str} {XP : (Str → Option Value) → Heap → Prop} {YP : World → Heap → Prop} {d : DefRec} {K : Params → PySem.W.Frag} {sp : PySem.W.Frag → List (Addr × Addr) → Sp} {x : Str}
    (hn : l.most = some n) (hn2 : n ≤ sizeLine) (hdf : d.params.defaults = []) (hr : Room k callerA) (him : importsNone q = true) (hKs : ∀ p, (K p).lookup sysModules = none)
    (hY : ∀ (w : World) (h : Heap), YP w h → (K w.params).In h)
    (F : ∀ (w : World) (mg : Str → Option Value) (fa : Addr) (h : Heap), YP w h → (K w.params).In h → h.Ns mainGlobals mg → mg d.name = some (.ref fa) →
      ∃ (fd : FuncData) (cs : List (Addr × Addr)), (∀ p ∈ cs, h.get? p.2 = some { cls := .none, data := .fields #[] }) ∧ (∀ p ∈ cs, (K w.params).lookup p.2 = none) ∧ (∀ p ∈ cs, PySem.W.CodeHd h p.1 p.2) ∧ (∀ p ∈ cs, p.1 ≠ sysModules ∧ p.2 ≠ sysModules) ∧ (∀ (s : Shared) (u : Value), BindsTo s fd ⟨[u], []⟩ [(x, u)]) ∧
        (∀ base : Heap, (K w.params).In base → base.Ns mainGlobals mg → (∀ p ∈ cs, LamX.TabB base mg p.1 p.2) → FnG l.prog w (K w.params) mg base CX0 k fa fd [x] (sp (K w.params) cs)) ∧
        ∀ (H : Hp) (a : Addr) (ns : List Int) (o : HO), ns.length ≤ n → SqL (K w.params) H a (ns.map V.int) → H sysModules = some o → (∀ ps, o ≠ .tbl ps) → (∀ p ∈ cs, H p.2 = some (.tbl #[])) → sp (K w.params) cs [.ref a] H (fun v _ => v = .bl true) fun _ _ _ => False) :
    PySem.W.WalkO q loose XP YP l.row.toRowW d [] (fun f vs => PySem.call f vs) :=
  Att.attach_call hn hdf fun w s₀ s₁ mg mb fa o pm cd doc a vs ns G Y ho hd hcd hmg hobj hints hlen hg =>
    have KX := hY w _ Y
    let ⟨fd, cs, hT, nT, hC, hy, hb, hF, hsp⟩ := F w mg fa _ Y KX G.T.g hmg
    let ⟨mm, hmm, _⟩ := (G.T.seer him).mods
    let ⟨oY, es, ep, eY, dY, _⟩ := hmm
    law_callT (hKs w.params) eY (fun p hp => (hy p hp).2) (fun z => by rw [z, eY] at hobj; cases hobj; cases dY) KX G.T.g G.T.b G.T.builtins G.T.nolimit hg hT nT hC (fun p hp => (hy p hp).1) G.T.bmain ⟨es, ep, dY⟩ hobj hints (Nat.le_trans hlen hn2) hr hF hb fun H o hS hyy hoo hTT => hsp H a ns o hlen hS hyy hoo hTT
end MB

set_option maxHeartbeats 4000000
namespace MB
open PySem PySem.Spec PyProof.Rows L2
/-! ### what a def or a lambda lets out, its caller takes -/
theorem takesX {P : Program} {w : World} {K : PySem.W.Frag} {mg : Str → Option Value} {base : Heap} {N : List Str} {qual : Str} {scope : Scope} {f : Addr} {cd : Value} {A : Around} {outer : List Env} {s : Shared} {H : Hp} {E : XK} :
    Takes (cxOf (L2.CX P w) P w K mg base N qual scope f cd A outer s H E) (fun cls d _ H => E cls d H) := takes_of rfl rfl rfl rfl
theorem passX {P : Program} {w : World} {K : PySem.W.Frag} {mg : Str → Option Value} {base : Heap} {N : List Str} {qual : Str} {scope : Scope} {f : Addr} {cd : Value} {A : Around} {outer : List Env} {s : Shared} {H : Hp} {E : XK} :
    Passes (L2.CX P w) (cxOf (L2.CX P w) P w K mg base N qual scope f cd A outer s H E) E := passes_call takesX fun _ _ _ _ h => h
theorem takesL {X : Cx} {A : Around} {outer : List Env} {s : Shared} {H : Hp} {E : XK} {scope : Scope} {f c' : Addr} : Takes (LamX.lamCx X A outer s H E scope f c') (fun cls d _ H => E cls d H) := takes_of rfl rfl rfl rfl
theorem passL' {X : Cx} {A : Around} {outer : List Env} {s : Shared} {H : Hp} {E : XK} {scope : Scope} {f c' : Addr} : Passes (L2.CX X.prog X.w) (LamX.lamCx X A outer s H E scope f c') E := passes_call takesL fun _ _ _ _ h => h
/-- a def that may raise, called where it does not -/
theorem passN {P : Program} {w : World} {X : Cx} : Passes (L2.CX P w) X E0 := fun _ _ _ _ _ _ _ ⟨_, _, _, _, _, _, _, _, _, _, _, _, h⟩ => h.elim
/-! ### raise C(value) -/
theorem raise_read {K : PySem.W.Frag} {C : Addr} {ta : TA} {σ : L2.St} {H : Hp} {W : XK} (h : ta σ H fun vs H1 => ∃ y, vs = [y] ∧ ∀ d H2, Same H1 H2 → H1 d = none → H2 d = some (.xd [("value", y)]) → W (.ref C) (some d) H2)
    (mono : ∀ (R R' : List V → Hp → Prop), (∀ vs H1, R vs H1 → R' vs H1) → ta σ H R → ta σ H R') : tMkO C (sp_init K C "value") [] ta σ H W := by
  refine mono _ _ ?_ h
  rintro vs H1 ⟨y, rfl, q⟩
  refine ⟨by simp, fun a na => ⟨a, y, rfl, upd_same, fun dx ndx ne => ⟨rfl, dx, [("value", y)], upd_same, ?_, ?_, ?_⟩⟩⟩
  · rw [upd_ne ne]; exact upd_same
  · by_cases e : dx = a
    · exact absurd e ne
    · rw [upd_ne e] at ndx; exact ndx
  · have nd : H1 dx = none := by rw [upd_ne ne] at ndx; exact ndx
    refine q dx _ (fun b o eb => ?_) nd upd_same
    have h1 : b ≠ a := ne_of_none eb na
    have h2 : b ≠ dx := ne_of_none eb nd
    rw [upd_ne h2]
    unfold del
    rw [if_neg h1, upd_ne h1, upd_ne h2, upd_ne h1]
    exact eb
/-! ### what stays when a lambda is made -/
theorem extN_seq {K : PySem.W.Frag} {H H' : Hp} (e : LamX.ExtN H H') {a : Addr} {xs : List V} (h : SqL K H a xs) : SqL K H' a xs := by
  rcases h with (h | ⟨o, h⟩) | h
  · exact .inl (.inl (e _ _ h fun _ z => nomatch z))
  · exact .inl (.inr ⟨o, e _ _ h fun _ z => nomatch z⟩)
  · exact .inr h
theorem extN_tup {K : PySem.W.Frag} {H H' : Hp} (e : LamX.ExtN H H') {a : Addr} {xs : List V} (h : SqT K H a xs) : SqT K H' a xs := by
  rcases h with (h | ⟨o, h⟩) | h
  · exact .inl (.inl (e _ _ h fun _ z => nomatch z))
  · exact .inl (.inr ⟨o, e _ _ h fun _ z => nomatch z⟩)
  · exact .inr h
theorem Dq.extN {K : PySem.W.Frag} {H H' : Hp} (e : LamX.ExtN H H') {v : V} {d : PyData} (h : Dq K H v d) : Dq K H' v d := by
  refine Dq.rec (motive_1 := fun v d _ => Dq K H' v d) (motive_2 := fun vs ds _ => DqAll K H' vs ds) ?_ ?_ ?_ ?_ ?_ ?_ ?_ ?_ ?_ h
  · exact .nonq
  · intro b; exact .blq b
  · intro i; exact .intq i
  · intro x; exact .strq x
  · intro a xs ds hs hne _ ih; exact .lstq (extN_seq e hs) hne ih
  · intro a xs ds hs _ ih; exact .tupq (extN_tup e hs) ih
  · intro a kvs des he hk _ ih; exact .dctq (e _ _ he fun _ z => nomatch z) hk ih
  · exact .nil
  · intro v vs d ds _ _ h1 h2; exact .cons h1 h2
theorem tabs_but {T : List (Addr × Str)} {H H' : Hp} {a : Addr} {xs : List V} (t : LamX.Tabs T H) (b : But a H H') (h : H a = some (.lst xs)) : LamX.Tabs T H' := fun p hp => by
  obtain ⟨ps, h1, h2, h3⟩ := t p hp
  refine ⟨ps, b _ _ (fun z => by rw [z, h] at h1; cases h1) h1, h2, fun pos cv hc => ?_⟩
  obtain ⟨c, e1, e2⟩ := h3 pos cv hc
  refine ⟨c, e1, b _ _ (fun z => ?_) e2⟩
  rw [z, h] at e2
  have e3 := Option.some.inj e2
  unfold LamX.CodeO at e3
  cases e3
theorem Tabs.same {T : List (Addr × Str)} {H H' : Hp} (t : LamX.Tabs T H) (s : Same H H') : LamX.Tabs T H' := LamX.Tabs.ext t s
/-! ### bs.count(True) -/
theorem dpBs {K : PySem.W.Frag} {H : Hp} : ∀ (bs : List Bool), DpAll K H (bs.map V.bl) (bs.map PyData.bool)
  | [] => .nil
  | b :: bs => .cons (.bl b) (dpBs bs)
def rCountB (K : PySem.W.Frag) : V → List V → Hp → VK → Prop := fun x xs H Q => ∃ (a : Addr) (bs : List Bool), x = .ref a ∧ xs = [.bl true] ∧ SqL K H a (bs.map V.bl) ∧ Q (.int (bs.countP id : Nat)) H
theorem mt_countB {X : Cx} (hu : X.A.units + 65 < cLine) : MtR X "list.count" (rCountB X.K) := by
  intro pins s σ H x xs v us Q I rx rxs h
  obtain ⟨a, bs, rfl, rfl, hs, q⟩ := h
  cases rx
  cases rxs with
  | cons ry rt =>
    rename_i uy ut
    cases rt
    cases ry
    obtain ⟨its, rv, ⟨o, n, ho, hc, hdn, hdt⟩, hlen⟩ := I.list hs
    obtain ⟨as, h4⟩ := Dp.readsAll I (bs.map PyData.bool) _ its (dpBs bs) rv
    have pl : ∀ l : List Bool, PyData.plainAll (l.map PyData.bool) = true := fun l => by
      induction l with
      | nil => rfl
      | cons b l ih => simp [PyData.plainAll, PyData.plain, ih]
    have dp : ∀ l : List Bool, PyData.depthAll (l.map PyData.bool) = 0 := fun l => by
      induction l with
      | nil => rfl
      | cons b l ih => simp [PyData.depthAll, PyData.depth, ih]
    refine SeqAt.count_list_data (xs := bs.map PyData.bool) (vs := its.toArray) (d := .bool true) ⟨o, ho, hc, n, hdt⟩ (by simpa using h4) (.bool true) (pl bs) rfl (by rw [dp]; omega) ?_
    have e : (bs.map PyData.bool).countP (fun y => PyData.eqv y (.bool true)) = bs.countP id := by
      rw [List.countP_map]
      congr 1
      funext b
      cases b <;> rfl
    rw [e]
    exact ⟨.int (bs.countP id : Nat), H, I.tok _, ⟨_, rfl⟩, q⟩
end MB

set_option maxHeartbeats 4000000
namespace MB
open PySem PySem.Spec PyProof.Rows L2
/-! ### a lambda with one parameter and no captured name, called -/
section
variable {P : Program} {w : World} {K : PySem.W.Frag} {mg : Str → Option Value} {base : Heap}
theorem lam1_call {A : Around} {outer : List Env} {s : Shared} {H : Hp} {N : List Str} {a q : Str} {params : Arguments} {body : Expr} {scope : Scope} {pm ctv u : Value} {f c' : Addr} {k : Nat} {x : V} {t : TE} {Q : VK}
    (hf : s.heap.get? f = some (PySem.W.kla_obj "<lambda>" q params body scope [] pm c' ctv)) (hc : H c' = some (LamX.CodeO c' q)) (S : FnScope N [a] scope) (hr : Room (k + 1) A) (e0 : Env0 P w K mg base A outer s H) (r : RelV x u)
    (bnd : bindArgs (PySem.W.kla_fn "<lambda>" q params body scope [] pm (.ref c') ctv) ⟨[u], []⟩ = pure [(a, u)])
    (bodyOk : Room k (A.deeper (envOfC q scope s.heap.objs.size f (.ref c'))) → PE (cxOf CX0 P w K mg base N q scope f (.ref c') A outer s H E0) body t)
    (ht : t (L2.start N [x]) H Q) : codeAny (model P w) A (.call (.ref f) ⟨[u], []⟩) (CR CX0 outer P w H s Q E0) s := by
  have lim : s.heap.NoLimit := e0.mod.nolimit.keeps fun b o e => (e0.bs b o e).1
  obtain ⟨⟨oc, vs, t', q1, q2, q3⟩, _, _⟩ := e0.hok c' _ hc
  refine PySem.W.kla_callFunE hr.depth hf rfl S.co S.gen rfl ⟨c', oc, vs, t', rfl, q1, q2, q3⟩ ?_
  rw [bnd]
  refine wpAny_pure ?_
  refine wpAny_newFunctionEnv_cells S.kind (fun y hy => ?_) fun env he s1 hin => ?_
  · obtain rfl : y = (a, u) := by simpa using hy
    rcases S.par a (.head _) with z | z
    · exact .inl z
    · exact .inr ⟨z, PySem.W.cellsFrom_some _ _ _ (.inl z)⟩
  · subst he
    refine ⟨lim.keeps hin.toInCall.keep, ?_⟩
    have J : Inv (cxOf CX0 P w K mg base N q scope f (.ref c') A outer s H E0) [] (L2.start N [x]) H s1 := inv_start (us := [u]) S hr.hd e0 rfl (.cons r .nil) hin
    exact PySem.W.kla_codeExpr (wpAny_mono ((bodyOk (hr.deeper _)).run [] _ _ H Q J ht) (fun v s' ⟨y, H', J', rv, z⟩ => ⟨y, H', J'.os, J'.bare, J'.base, J'.hok, rv, z⟩) fun e s' z => z)
end
/-! ### sorted(l, key=lambda x: ..) -/
section
variable {X : Cx} {pins : List (Addr × Obj)} {σ : L2.St} {s s0 : Shared} {H H0 : Hp}
theorem fresh_ok (I0 : Inv X pins σ H0 s0) {b : Addr} (h : s0.heap.objs.size ≤ b) : (b ∈ X.ex ∨ X.s_0.heap.objs.size ≤ b) ∧ b ≠ X.env.locals ∧ (∀ x c, X.env.cells.lookup x = some c → c ≠ b) ∧ (∀ p ∈ X.pn ++ pins, p.1 ≠ b) ∧ b ∉ X.fs := by
  refine ⟨.inr (Nat.le_trans I0.sz h), fun e => ?_, fun x c e z => ?_, fun p hp z => ?_, I0.nofs h⟩
  · have := I0.lt
    rw [← e] at this
    exact Nat.lt_irrefl _ (Nat.lt_of_lt_of_le this h)
  · obtain ⟨v, o, ho, _⟩ := I0.cell x c e
    have := Heap.lt_size ho
    rw [z] at this
    exact Nat.lt_irrefl _ (Nat.lt_of_lt_of_le this h)
  · have := Heap.lt_size (I0.pin p hp).1
    rw [z] at this
    exact Nat.lt_irrefl _ (Nat.lt_of_lt_of_le this h)
/-- the function's own object can be pinned -/
theorem fun_pin {q : Str} {params : Arguments} {body : Expr} {scope : Scope} {cl : List (Str × Addr)} {pm ctv : Value} {f c' : Addr} (I : Inv X pins σ H s)
    (hf : s.heap.get? f = some (PySem.W.kla_obj "<lambda>" q params body scope cl pm c' ctv)) (hfr : f ∉ frs X.stack) : f ≠ X.env.locals ∧ f ∉ X.fs := by
  refine ⟨fun z => ?_, fun z => hfr ?_⟩
  · obtain ⟨m, ⟨o, es, ep, ho, hr⟩, _⟩ := I.loc
    rw [← z, hf] at ho
    cases ho
    rcases hr with ⟨h1, h2⟩
    first
      | exact (nomatch h1)
      | exact (nomatch h2)
  · rcases I.ok.stk with e | ⟨e, he⟩
    · rw [e]; exact z
    · rw [e]
      unfold frs
      rw [List.filterMap_cons, he]
      exact List.mem_cons_of_mem _ z
theorem hide_get {h : Heap} {b c : Addr} {o : Obj} (e : h.get? b = some o) (n : b ≠ c) : (PySem.W.hideAll h [c]).get? b = some o := PySem.W.hideAll_get [c] e (by simpa using n)
/-- the sort's two lists turn: the keys' list is done with, the copy bears the outcome -/
theorem sorted_there {h' : Heap} {tk : Nat} {a kS : Addr} {its : List Value} {ys : List V} {c : Nat} (I0 : Inv X pins σ H0 s0) (I : Inv X pins σ H s) (ha : s0.heap.objs.size ≤ a) (hk : s0.heap.objs.size ≤ kS) (na : H a = none) (nk : H kS = none)
    (kp : ∀ b o, b ≠ a → b ≠ kS → s.heap.get? b = some o → h'.get? b = some o) (hl : ys.length ≤ sizeLine) (rv : Vals ys its) (ho : h'.get? a = some (seqObj "list" its.toArray c)) :
    Inv X pins σ (upd H a (.lst ys)) { s with heap := h', toks := tk } := by
  have sm : ∀ b u, H b = some u → b ≠ a := fun b u e => ne_of_none e na
  have sk : ∀ b u, H b = some u → b ≠ kS := fun b u e => ne_of_none e nk
  have neq : ∀ b, b ≠ a → upd H a (.lst ys) b = H b := fun b hb => upd_ne hb
  obtain ⟨a1, a2, a3, a4, a5⟩ := fresh_ok I0 ha
  obtain ⟨k1, k2, k3, k4, k5⟩ := fresh_ok I0 hk
  refine I.step (g' := s.gens) (d' := s.drawn) (ch := [a, kS]) (fun b hb => ?_) (fun b o _ _ hc e _ => kp b o (fun z => hc (by simp [z])) (fun z => hc (by simp [z])) e) (fun b o _ _ hc e _ => ⟨o.slots, kp b o (fun z => hc (by simp [z])) (fun z => hc (by simp [z])) e⟩)
    (fun b o hc _ n => by rw [neq b (fun z => hc (by simp [z]))]; exact n) (fun b o hc e => ⟨o, kp b o (fun z => hc (by simp [z])) (fun z => hc (by simp [z])) e⟩)
    (fun b xs e => by rw [neq b (sm _ _ e)]; exact e) (fun b o u e => by rw [neq b (sm _ _ e)]; exact e) (fun b ps e => ⟨#[], by rw [neq b (sm _ _ e), e]; simp⟩) (fun m hm => ?_) (fun b u e => ?_) I.bare
  · simp only [List.mem_cons, List.not_mem_nil, or_false] at hb
    rcases hb with rfl | rfl
    · exact ⟨a1, a2, a3, a4⟩
    · exact ⟨k1, k2, k3, k4⟩
  · obtain ⟨o, es, ep, ho', r⟩ := hm
    exact ⟨o, es, ep, kp _ o (Ne.symm a2) (Ne.symm k2) ho', r⟩
  · by_cases hb : b = a
    · rw [hb, upd_same] at e
      cases e
      rw [hb]
      exact ⟨hl, its, c, rv, ho⟩
    · rw [neq b hb] at e
      refine (I.hok b u e).stay (fun d v hd q => kp d v ?_ ?_ q) (fun d q => by rw [neq d (sm d _ q)]; exact q) fun d xs q => by rw [neq d (sm d _ q)]; exact q
      · rcases hd with z | z
        · rw [z]; exact hb
        · exact sm d _ z
      · rcases hd with z | z
        · rw [z]; exact sk b u e
        · exact sk d _ z
end
section
variable {X : Cx} {pins : List (Addr × Obj)} {σ : L2.St} {s : Shared} {H : Hp}
theorem dps_each {h : Heap} {K : PySem.W.Frag} {Hq : Hp} (hr : ∀ v d u, Dp K Hq v d → RelV v u → ∃ as, Reads h u d as) : ∀ {ys : List V} {us : List Value} {ds : List PyData}, DpAll K Hq ys ds → Vals ys us → PySem.W.EachIs (fun v d => ∃ as, Reads h v d as) us ds
  | _, _, _, .nil, .nil => .nil
  | _, _, _, .cons a b, .cons r rs => .cons (hr _ _ _ a r) (dps_each hr b rs)
theorem vals_each : ∀ {bs : List (V × PyData)} {us : List Value}, Vals (bs.map Prod.fst) us → PySem.W.EachIs (fun (v : Value) (b : V × PyData) => RelV b.1 v) us bs
  | [], [], .nil => .nil
  | _ :: _, _ :: _, .cons r rs => .cons r (vals_each rs)
theorem each_vals : ∀ {bs : List (V × PyData)} {us : List Value}, PySem.W.EachIs (fun (v : Value) (b : V × PyData) => RelV b.1 v) us bs → Vals (bs.map Prod.fst) us
  | [], [], .nil => .nil
  | _ :: _, _ :: _, .cons r rs => .cons r (each_vals rs)
/-- the state while the keys are made -/
def KeysSoFar (X : Cx) (pins : List (Addr × Obj)) (σ : L2.St) (H : Hp) (f a kS : Addr) (fo : Obj) (e1 : Nat) (kz : List PyData) (i : Nat) (s' : Shared) : Prop :=
  ∃ (G : Hp) (kA : Array Value) (eK : Nat) (ys : List V), Inv X (pins ++ [(f, fo), (a, seqObj "list" #[] e1), (kS, seqObj "list" kA eK)]) σ G s' ∧ Same H G ∧ Vals ys kA.toList ∧ DpAll X.K G ys (kz.take i)
theorem sorted_keys {l f c' : Addr} {q x : Str} {N : List Str} {params : Arguments} {body : Expr} {scope : Scope} {pm ctv : Value} {k : Nat} {t : TE} {bs : List (V × PyData)} {Q : VK}
    (I : Inv X pins σ H s) (hl : SqL X.K H l (bs.map Prod.fst)) (hf : s.heap.get? f = some (PySem.W.kla_obj "<lambda>" q params body scope [] pm c' ctv)) (hfn : H f = none) (hfr : f ∉ frs X.stack) (hco : H c' = some (LamX.CodeO c' q))
    (S : FnScope N [x] scope) (hr : Room (k + 3) X.A) (bnd : ∀ u, bindArgs (PySem.W.kla_fn "<lambda>" q params body scope [] pm (.ref c') ctv) ⟨[u], []⟩ = pure [(x, u)])
    (bodyOk : ∀ (A : Around) (outer : List Env) (s : Shared) (H : Hp) (f c' : Addr), Room k (A.deeper (envOfC q scope s.heap.objs.size f (.ref c'))) → PE (cxOf CX0 X.prog X.w X.K X.mg X.base N q scope f (.ref c') A outer s H E0) body t)
    (hal : PySem.W.AllAlike (bs.map Prod.snd)) (hsk : 2 ≤ bs.length → PySem.W.Sortable (bs.map Prod.snd)) (hd : ∀ b ∈ bs, b.2.depth ≤ 64)
    (turn : ∀ b ∈ bs, ∀ G, Same H G → t (L2.start N [b.1]) G fun y G' => Same G G' ∧ Dp X.K G' y b.2)
    (fin : ∀ p G, Same H G → G p = none → Q (.ref p) (upd G p (.lst ((bs.mergeSort (PySem.W.dataLe false Prod.snd)).map Prod.fst)))) :
    wpAny (model X.prog X.w) X.A (call (.builtin "sorted") [.ref l] [(Str.ofString "key", .ref f)]) (EP X pins σ Q) X.xe s := by
  obtain ⟨its, rv, hpl, hz⟩ := I.list hl
  have hlen : its.length = bs.length := by rw [← rv.length, List.length_map]
  rw [List.length_map] at hz
  obtain ⟨fL, fF⟩ := fun_pin I hf hfr
  refine PySem.W.sorted_of_sort (kw := [(Str.ofString "key", .ref f)]) hpl.isList (by rw [hlen]; exact hz) (ksk_s1 _ _) (fun _ => ksk_l1 _ _) fun E' => ?_
  rw [ksk_t1]
  have hcop : ∀ b o, s.heap.get? b = some o → (PySem.W.copyHeap s.heap its).get? b = some o := fun b o e => PySem.W.copyHeap_old e
  have hca := PySem.W.copyHeap_at s.heap its
  generalize eh1 : PySem.W.copyHeap s.heap its = h1 at hcop hca ⊢
  generalize ea : s.heap.objs.size + 1 = a at hca ⊢
  have haz : s.heap.objs.size ≤ a := by omega
  have ha1 : a < h1.objs.size := Heap.lt_size hca
  obtain ⟨e1, ho1⟩ : ∃ e1, (h1.update a (Obj.mapSeq fun _ => (#[] : Array Value))).get? a = some (seqObj "list" #[] e1) := ⟨_, get?_update_seq hca fun _ => #[]⟩
  have hb1 := Heap.SameBut.update h1 a (Obj.mapSeq fun _ => (#[] : Array Value))
  unfold ksk_tree
  refine wpAny_bind (listItems_at hca rfl ?_)
  refine wpAny_bind (listUpdate_at hca rfl ?_ (by rw [List.size_toArray, hlen]; exact hz) (Nat.zero_le _))
  refine wpAny_bind (seqEpoch_at ho1 rfl ?_)
  refine wpAny_bind (wpAny_newTuple ?_ (by show its.length ≤ _; rw [hlen]; exact hz))
  refine wpAny_bind (wpAny_newList ?_ (Nat.zero_le _))
  refine wpAny_holding ?_
  have hsz2 : (h1.update a (Obj.mapSeq fun _ => (#[] : Array Value))).objs.size = h1.objs.size := Heap.size_update ..
  have hk2 : ((h1.update a (Obj.mapSeq fun _ => (#[] : Array Value))).push (seqObj "tuple" its.toArray 0)).objs.size = h1.objs.size + 1 := by rw [size_push', hsz2]
  show wpAny _ _ (ksk_rest a (.ref f) false its.toArray e1 (.ref ((h1.update a (Obj.mapSeq fun _ => (#[] : Array Value))).push (seqObj "tuple" its.toArray 0)).objs.size)) _ _ { s with heap := ((h1.update a (Obj.mapSeq fun _ => (#[] : Array Value))).push (seqObj "tuple" its.toArray 0)).push (seqObj "list" #[] 0) }
  rw [hk2]
  have hkS : (((h1.update a (Obj.mapSeq fun _ => (#[] : Array Value))).push (seqObj "tuple" its.toArray 0)).push (seqObj "list" #[] 0)).get? (h1.objs.size + 1) = some (seqObj "list" #[] 0) := by
    rw [← hk2]; exact Heap.get?_push_size _ rfl
  have hao : (((h1.update a (Obj.mapSeq fun _ => (#[] : Array Value))).push (seqObj "tuple" its.toArray 0)).push (seqObj "list" #[] 0)).get? a = some (seqObj "list" #[] e1) := Heap.get?_push_of_some _ (Heap.get?_push_of_some _ ho1)
  have hkp : ∀ b o, s.heap.get? b = some o → (((h1.update a (Obj.mapSeq fun _ => (#[] : Array Value))).push (seqObj "tuple" its.toArray 0)).push (seqObj "list" #[] 0)).get? b = some o := fun b o e => by
    have := Heap.lt_size e
    exact Heap.get?_push_of_some _ (Heap.get?_push_of_some _ ((hb1.2 b (Nat.ne_of_lt (Nat.lt_of_lt_of_le this haz))).trans (hcop b o e)))
  have hsz1 : s.heap.objs.size ≤ h1.objs.size + 1 := by omega
  generalize ((h1.update a (Obj.mapSeq fun _ => (#[] : Array Value))).push (seqObj "tuple" its.toArray 0)).push (seqObj "list" #[] 0) = h2 at hkS hao hkp ⊢
  generalize ek : h1.objs.size + 1 = kS at hkS hsz1 ⊢
  have hka : kS ≠ a := by omega
  clear hb1 ho1 hsz2 hk2 hcop hca
  obtain ⟨g1, g2, g3, g4, g5⟩ := fresh_ok I haz
  obtain ⟨j1, j2, j3, j4, j5⟩ := fresh_ok I hsz1
  have I2 : Inv X pins σ H { s with heap := h2, toks := s.toks } := I.kept hkp
  unfold ksk_rest
  refine wpAny_bind (wpAny_rule ?_)
  first
    | rw [List.forIn_toArray]
    | (rw [← Array.forIn_toList]; simp only [List.toList_toArray])
  have start : KeysSoFar X pins σ H f a kS (PySem.W.kla_obj "<lambda>" q params body scope [] pm c' ctv) e1 (bs.map Prod.snd) 0 { s with heap := h2, toks := s.toks } := by
    refine ⟨H, #[], 0, [], I2.pins_of fun p hp => ?_, Same.refl _, .nil, by rw [List.take_zero]; exact .nil⟩
    rcases List.mem_append.mp hp with hp | hp
    · exact I2.pin p (List.mem_append_right _ hp)
    · simp only [List.mem_cons, List.not_mem_nil, or_false] at hp
      rcases hp with rfl | rfl | rfl
      · exact ⟨hkp _ _ hf, hfn, fL, fF, fun v z => nomatch z⟩
      · exact ⟨hao, I.hok.fresh haz, g2, g5, fun v z => nomatch z⟩
      · exact ⟨hkS, I.hok.fresh hsz1, j2, j5, fun v z => nomatch z⟩
  refine wpAny_bind (ksk_fold (KeysSoFar X pins σ H f a kS (PySem.W.kla_obj "<lambda>" q params body scope [] pm c' ctv) e1 (bs.map Prod.snd)) its 0 _ start ?_ ?_)
  · rintro j u s' hu ⟨G, kA, eK, ys, J, sG, vk, dk⟩
    simp only [Nat.zero_add] at dk ⊢
    have hj : j < bs.length := by have := (List.getElem?_eq_some_iff.mp hu).1; omega
    have hb := List.getElem?_eq_getElem hj
    have hmem := List.getElem_mem hj
    generalize bs[j] = b at hb hmem
    have rb : RelV b.1 u := by
      obtain ⟨u', h1', h2'⟩ := rv.get (i := j) (x := b.1) (by rw [List.getElem?_map, hb]; rfl)
      rw [hu] at h1'; cases h1'; exact h2'
    have pf := J.pin (f, PySem.W.kla_obj "<lambda>" q params body scope [] pm c' ctv) (by simp)
    have hcod := sG _ _ hco
    have run := lam1_call (Q := fun y G' => Same G G' ∧ Dp X.K G' y b.2) pf.1 hcod S (hr.in1.in1) J.env0.in1.in1 rb (bnd u) (fun hr' => bodyOk _ _ _ _ _ _ hr') (turn b hmem G sG)
    refine wpAny_bind (wpAny_attempt (wpAny_mono (wpAny_call (Q := EP X (pins ++ [(f, PySem.W.kla_obj "<lambda>" q params body scope [] pm c' ctv), (a, seqObj "list" #[] e1), (kS, seqObj "list" kA eK)]) σ (fun y G' => Same G G' ∧ Dp X.K G' y b.2)) (E := fun _ _ => False) (codeAny_mono run fun r s2 z => ?_)) (fun u2 s2 z => ?_) fun _ _ z => z.elim))
    · rcases r with e | fl
      · exact (show False from z).elim
      · rcases fl with _ | _ | _ | u
        · exact False.elim z
        · exact False.elim z
        · exact False.elim z
        · exact J.after z
    obtain ⟨y, G2, J2, ry, s12, dy⟩ := z
    have nk := J2.pin (kS, seqObj "list" kA eK) (by simp)
    have hkz : kA.size ≤ bs.length := by
      rw [show kA.size = _ from Array.length_toList.symm.trans (vk.length.symm.trans (DpAll.len dk)), List.length_take, List.length_map]
      exact Nat.min_le_right _ _
    obtain ⟨c2, hc2⟩ : ∃ c2, (s2.heap.update kS (Obj.mapSeq (·.push u2))).get? kS = some (seqObj "list" (kA.push u2) c2) := ⟨_, get?_update_seq nk.1 (·.push u2)⟩
    have hb2 := Heap.SameBut.update s2.heap kS (Obj.mapSeq (·.push u2))
    dsimp only
    refine wpAny_bind (listUpdate_at nk.1 rfl ?_ (Nat.le_trans hkz hz) (Nat.le_trans (Nat.le_of_eq (Array.size_push ..)) (Nat.succ_le_succ (Nat.le_trans hkz hz))))
    have ns : ∀ p ∈ X.pn ++ pins, p.1 ≠ kS := j4
    have J3 : Inv X pins σ G2 s2 := J2.pins_of fun p hp => J2.pin p (List.mem_append_right _ (List.mem_append_left _ hp))
    have J4 : Inv X pins σ G2 { s2 with heap := s2.heap.update kS (Obj.mapSeq (·.push u2)), toks := s2.toks } := J3.turned (fun b o hb e => (hb2.2 b hb).trans e) nk.2.1 j2 j1 j3 j4
    refine wpAny_pure ⟨rfl, G2, kA.push u2, c2, ys ++ [y], J4.pins_of fun p hp => ?_, sG.trans s12, ?_, ?_⟩
    · rcases List.mem_append.mp hp with hp | hp
      · exact J4.pin p (List.mem_append_right _ hp)
      · simp only [List.mem_cons, List.not_mem_nil, or_false] at hp
        rcases hp with rfl | rfl | rfl
        · obtain ⟨p1, p2, p3, p4, p5⟩ := J2.pin (f, PySem.W.kla_obj "<lambda>" q params body scope [] pm c' ctv) (by simp)
          exact ⟨(hb2.2 f (Nat.ne_of_lt (Nat.lt_of_lt_of_le (Heap.lt_size hf) hsz1))).trans p1, p2, p3, p4, p5⟩
        · obtain ⟨p1, p2, p3, p4, p5⟩ := J2.pin (a, seqObj "list" #[] e1) (by simp)
          exact ⟨(hb2.2 a hka.symm).trans p1, p2, p3, p4, p5⟩
        · exact ⟨hc2, nk.2.1, nk.2.2.1, nk.2.2.2.1, fun v z => nomatch z⟩
    · have ea : (kA.push u2).toList = kA.toList ++ [u2] := by simp
      rw [ea]
      exact vk.append (.cons ry .nil)
    · have et : (bs.map Prod.snd).take (j + 1) = (bs.map Prod.snd).take j ++ [b.2] := by rw [List.take_add_one, List.getElem?_map, hb]; rfl
      rw [et]
      exact DpAll.append (DpAll.same s12 dk) (.cons dy .nil)
  · rintro s' ⟨G, kA, eK, ys, J, sG, vk, dk⟩
    rw [show (bs.map Prod.snd).take (0 + its.length) = bs.map Prod.snd from List.take_of_length_le (by rw [List.length_map]; omega)] at dk
    have nk := J.pin (kS, seqObj "list" kA eK) (by simp)
    have na := J.pin (a, seqObj "list" #[] e1) (by simp)
    have hks : kA.size = its.length := by
      rw [show kA.size = _ from Array.length_toList.symm.trans (vk.length.symm.trans (DpAll.len dk)), List.length_map]
      exact hlen.symm
    have he : PySem.W.EachIs (fun v d => ∃ as, Reads s'.heap v d as) kA.toList (bs.map Prod.snd) := dps_each (fun v d u hd hu => Dp.reads J d v u hd hu) dk vk
    have J3 : Inv X pins σ G s' := J.pins_of fun p hp => J.pin p (List.mem_append_right _ (List.mem_append_left _ hp))
    refine wpAny_bind (listItems_at nk.1 rfl ?_)
    have leave : ∀ (h3 : Heap) (tk3 c : Nat) (out : List Value), PySem.W.KeepsBut a (PySem.W.hideAll s'.heap [kS]) h3 → h3.get? a = some (seqObj "list" out.toArray c) → Vals ((bs.mergeSort (PySem.W.dataLe false Prod.snd)).map Prod.fst) out → EP X pins σ Q (.ref a) { s' with heap := h3, toks := tk3 } := fun h3 tk3 c out kp3 n3 hout => by
      have hz3 : ((bs.mergeSort (PySem.W.dataLe false Prod.snd)).map Prod.fst).length ≤ sizeLine := by rw [List.length_map, List.length_mergeSort]; exact hz
      exact ⟨.ref a, _, sorted_there (kS := kS) I J3 haz hsz1 na.2.1 nk.2.1 (fun b o h1' h2' e => kp3 b o h1' (PySem.W.hideAll_get [kS] e (by simpa using h2'))) hz3 hout n3, rfl, fin a G sG na.2.1⟩
    by_cases h2l : 2 ≤ bs.length
    rotate_left
    · unfold ksk_end
      have hits2 : its.toArray.size < 2 := by rw [List.size_toArray]; omega
      simp only [Bool.false_eq_true, if_false]
      rw [if_pos hits2, if_pos hits2]
      refine wpAny_bind (wpAny_pure ?_)
      rw [StateT.run_pure]
      refine wpAny_bind (wpAny_pure ?_)
      dsimp only
      have hsrt : bs.mergeSort (PySem.W.dataLe false Prod.snd) = bs := by
        match bs, h2l with
        | [], _ => simp
        | [b], _ => simp
        | _ :: _ :: r, h => exact absurd (by simp) h
      have hzip : (arrOf (SortSt.mk' general' (kA.zip its.toArray) #[] 7 none)).map (·.2) = its.toArray := by
        show (kA.zip its.toArray).map (·.2) = its.toArray
        apply Array.ext'
        rw [Array.toList_map, ksk_zip]
        exact List.map_snd_zip (Nat.le_of_eq (hks.symm.trans Array.length_toList.symm))
      refine PySem.W.keyH_tail (b := false) (out := its) (keys := kA) (h₁ := PySem.W.hideAll s'.heap [kS]) (fun b o _ e => PySem.W.of_hideAll _ e) (PySem.W.hideAll_none [kS] (by simp)) nk.1 na.1 hka (by rw [hks, hlen]; exact hz) (by rw [hlen]; exact hz) rfl (by simpa using hzip) fun h3 tk3 c kp3 n3 => ⟨rfl, leave h3 tk3 c _ kp3 n3 ?_⟩
      rw [hsrt]
      exact rv
    have srt := PySem.W.SortsAt.data (prog := X.prog) (w := X.w) (A := X.A.in1.in1) he hal (hsk h2l) (fun d hdm => by
      obtain ⟨b, hb, rfl⟩ := List.mem_map.mp hdm
      have := hd b hb
      have := hr.un
      show X.A.units + 1 + 1 + _ < _
      omega)
    refine PySem.W.keyH_end (κ := PySem.W.dataKind s'.heap (bs.map Prod.snd)) (h₁ := PySem.W.hideAll s'.heap [kS]) (vs := its) (fun b o _ e => PySem.W.of_hideAll _ e) (PySem.W.hideAll_none [kS] (by simp)) nk.1 na.1 hka srt hks (by rw [hlen]; exact hz) fun h3 tk3 c kp3 n3 => ⟨rfl, ?_⟩
    have ko : PySem.W.KeyedOut false (bs.map Prod.snd) its (PySem.W.sortVals (PySem.W.dataKind s'.heap (bs.map Prod.snd)) false kA.toList its) := ⟨s'.heap, kA.toList, hal, rfl, he⟩
    have hout := each_vals (PySem.W.keyedOut_each (rev := false) Prod.snd ko (vals_each rv))
    exact leave h3 tk3 c _ kp3 n3 hout
theorem no_free {cells : List (Str × Addr)} : ∀ {names : List (Str × NameKind)}, (∀ y ∈ names, y.2 ≠ .free) → cloFrom cells names [] = []
  | [], _ => rfl
  | (n, k) :: r, h => by
    have hk : k ≠ .free := h (n, k) (.head _)
    have e : (k == NameKind.free) = false := by cases k <;> first | rfl | exact absurd rfl hk
    unfold cloFrom
    rw [e]
    exact no_free (names := r) fun y hy => h y (.tail _ hy)
end
/-- sorted(e, key=lambda x: ..): the keys are data that compare -/
def tSortK (K : PySem.W.Frag) (T : List (Addr × Str)) (N : List Str) (t te : TE) : TE := fun σ H Q => te σ H fun v H1 => LamX.Tabs T H1 ∧ ∀ H2, LamX.ExtN H1 H2 → LamX.Tabs T H2 →
  ∃ (l : Addr) (bs : List (V × PyData)), v = .ref l ∧ SqL K H2 l (bs.map Prod.fst) ∧ PySem.W.AllAlike (bs.map Prod.snd) ∧ (2 ≤ bs.length → PySem.W.Sortable (bs.map Prod.snd)) ∧ (∀ b ∈ bs, b.2.depth ≤ 64) ∧
    (∀ b ∈ bs, ∀ G, Same H2 G → t (L2.start N [b.1]) G fun y G' => Same G G' ∧ Dp K G' y b.2) ∧
    ∀ p G, Same H2 G → G p = none → Q (.ref p) (upd G p (.lst ((bs.mergeSort (PySem.W.dataLe false Prod.snd)).map Prod.fst)))
section
variable {X : Cx}
theorem pe_sortK {T : List (Addr × Str)} {x a : Str} {c P : Addr} {k : Nat} {N : List Str} {e : Expr} {params : Arguments} {body : Expr} {scope : Scope} {t te : TE} {p lpos kpos pos : Pos}
    (hg : Gl X x) (hm : X.mg x = none) (hv : bootBuiltins x = some (.builtin "sorted")) (he : PE X e te) (TB : LamX.TabB X.base X.mg c P) (hcode : X.env.code = .ref c) (hmT : (P, X.env.qual ++ "<lambda>") ∈ T) (hu : ∀ p ∈ T, p.1 = P → p.2 = X.env.qual ++ "<lambda>")
    (hr : Room (k + 3) X.A) (S : FnScope N [a] scope) (hdef : defaultsOf params X.env = ([], []))
    (bnd : ∀ (q : Str) (pm cv ctv u : Value), bindArgs (PySem.W.kla_fn "<lambda>" q params body scope [] pm cv ctv) ⟨[u], []⟩ = pure [(a, u)])
    (bodyOk : ∀ (A : Around) (outer : List Env) (s : Shared) (H : Hp) (f c' : Addr), Room k (A.deeper (envOfC (X.env.qual ++ "<lambda>") scope s.heap.objs.size f (.ref c'))) →
      PE (cxOf CX0 X.prog X.w X.K X.mg X.base N (X.env.qual ++ "<lambda>") scope f (.ref c') A outer s H E0) body t)
    (hst : starEach [e] X.env = (false, eval e X.env) :: starEach [] X.env := by rfl)
    (hn : x ≠ "__name__" := by decide) (hdb : (x == ("__debug__" : Str)) = false := by decide)
    (hbk : backTo pos (starEach [e] X.env) = (false, eval e X.env) :: backTo pos (starEach [] X.env) := by rfl) (hpl : (backTo pos (starEach [e] X.env)).any (·.1) = false := by rfl)
    (hall : (backToKw pos (keywordEach [⟨some "key", .Lambda params body scope lpos, kpos⟩] X.env)).all (·.1.isSome) = true := by rfl) (hnone : (backToKw pos (keywordEach [⟨some "key", .Lambda params body scope lpos, kpos⟩] X.env)).any (·.1.isNone) = false := by rfl) :
    PE X (.Call (.Name x p) [e] [⟨some "key", .Lambda params body scope lpos, kpos⟩] pos) (tSortK X.K T N t te) := by
  refine ⟨fun pins s σ H Q I h => ?_⟩
  refine wpAny_Call_Name_kw (ld_blt I hg hm hv ?_ hn hdb)
  let P1 : V → Hp → Prop := fun v H1 => LamX.Tabs T H1 ∧ ∀ H2, LamX.ExtN H1 H2 → LamX.Tabs T H2 →
    ∃ (l : Addr) (bs : List (V × PyData)), v = .ref l ∧ SqL X.K H2 l (bs.map Prod.fst) ∧ PySem.W.AllAlike (bs.map Prod.snd) ∧ (2 ≤ bs.length → PySem.W.Sortable (bs.map Prod.snd)) ∧ (∀ b ∈ bs, b.2.depth ≤ 64) ∧
      (∀ b ∈ bs, ∀ G, Same H2 G → t (L2.start N [b.1]) G fun y G' => Same G G' ∧ Dp X.K G' y b.2) ∧
      ∀ p G, Same H2 G → G p = none → Q (.ref p) (upd G p (.lst ((bs.mergeSort (PySem.W.dataLe false Prod.snd)).map Prod.fst)))
  have hP : tCons te tNil σ H (fun vs H1 => match vs with | [v] => P1 v H1 | _ => False) := h
  refine callWith_kw (thn ((pa_cons he pa_nil hst).run pos pins s σ H _ I hP) fun us s1 ⟨vs, H1, I1, r1, q1⟩ => ?_) hbk hpl hall hnone
  obtain ⟨v, rfl, hT, q2⟩ : ∃ v, vs = [v] ∧ P1 v H1 := by
    cases vs with
    | nil => exact (show False from q1).elim
    | cons v vs =>
      cases vs with
      | nil => exact ⟨v, rfl, q1⟩
      | cons _ _ => exact (show False from q1).elim
  obtain ⟨u, rfl, ru⟩ := vals1 r1
  show wpAny _ _ (evalAll [do let v ← eval (.Lambda params body scope lpos) X.env; standAt pos; pure v]) _ _ s1
  refine wpAny_evalAll_cons (wpAny_bind (LamX.lam_make2 I1 TB hcode hmT hu hT hdef (fun y hy z => absurd z (S.nofree y hy)) fun f c' pm ctv H2 s2 I2 eN T2 hf hfn hfr hco => ?_))
  refine wpAny_bind (wpAny_standAt (wpAny_pure ?_))
  refine wpAny_evalAll_nil ?_
  rw [no_free S.nofree] at hf
  obtain ⟨l, bs, rfl, a1, a2, a3, a4, a5, a6⟩ := q2 H2 eN T2
  obtain rfl : u = Value.ref l := ru
  exact sorted_keys I2 a1 hf hfn hfr hco S hr (fun u => bnd _ _ _ _ u) bodyOk a2 a3 a4 a5 a6
end
end MB

set_option maxHeartbeats 4000000
namespace MB
open PySem PySem.Spec PyProof.Rows L2
/-! ### a < b for data alike, to any depth -/
def rLtD (K : PySem.W.Frag) : R2 := fun x y H Q => ∃ d e, Dp K H x d ∧ Dp K H y e ∧ PySem.W.alike d e = true ∧ d ≠ .none ∧ d.depth ≤ 64 ∧ Q (.bl (PySem.W.dataLt d e)) H
theorem op_ltD {X : Cx} (hu : X.A.units + 64 < cLine) : OpR X (compareOp .Lt) (rLtD X.K) := by
  intro pins s σ H x y v u Q I rx ry h
  obtain ⟨d, e, hd, he, ha, hn, hdep, q⟩ := h
  obtain ⟨as, r1⟩ := Dp.reads I d x v hd rx
  obtain ⟨bs, r2⟩ := Dp.reads I e y u he ry
  exact PySem.W.rcLt_alike d e X.A s v u as bs r1 r2 ha hn (by have := Nat.min_le_left d.depth e.depth; omega) X.prog X.w _ _ ⟨.bl _, H, I, rfl, q⟩
theorem k_ltD {X : Cx} {K : PySem.W.Frag} (hK : X.K = K) (hu : X.A.units + 64 < cLine) : OpR X (compareOp .Lt) (rLtD K) := by subst hK; exact op_ltD hu
end MB

set_option maxHeartbeats 4000000
namespace MB
open PySem PySem.Spec PyProof.Rows L2
/-! ### dicts keyed by tuples of ints: read, also while they are walked; the walk over their keys -/
/-- at d stands a dict with these keys and values, locked or not -/
def DR (K : PySem.W.Frag) (P : Program) (w : World) (H : Hp) (d : Addr) (kvs : List (List Int × V)) : Prop :=
  ∃ L : KX, (H d = some (DXO P w d L) ∨ ∃ o, H d = some (.frz o (DXO P w d L))) ∧ (∀ x ∈ L, SqT K H x.2.1 (x.1.map V.int)) ∧ kvX L = kvs
theorem DN.dr {K : PySem.W.Frag} {P : Program} {w : World} {H : Hp} {d : Addr} {kvs : List (List Int × V)} (g : DN K P w H d kvs) : DR K P w H d kvs := by
  obtain ⟨L, h1, r⟩ := g
  exact ⟨L, .inl h1, r⟩
theorem DR.same {K : PySem.W.Frag} {P : Program} {w : World} {H H' : Hp} {d : Addr} {kvs : List (List Int × V)} (g : DR K P w H d kvs) (s : Same H H') : DR K P w H' d kvs := by
  obtain ⟨L, h1, h2, h3⟩ := g
  exact ⟨L, h1.imp (s _ _) fun ⟨o, e⟩ => ⟨o, s _ _ e⟩, fun x hx => Same.tup s (h2 x hx), h3⟩
section
variable {X : Cx} {pins : List (Addr × Obj)} {σ : L2.St} {H : Hp} {s : Shared} {d b : Addr} {kvs : List (List Int × V)} {k : List Int} {A : Around} {E : Value → Shared → Prop}
theorem keys_is (I : Inv X pins σ H s) : ∀ {l : KX} {m : List (List Int × Addr × Value)}, RX l m → (∀ x ∈ l, SqT X.K H x.2.1 (x.1.map V.int)) → ∀ x ∈ m, (tupleKind (intKind X.prog X.w)).is s.heap x.1 x.2.1
  | _, _, .nil, _, x, hx => nomatch hx
  | _, _, @Paired.cons _ _ _ p q _ _ hq t, hl, x, hx => by
    rcases List.mem_cons.mp hx with e | hx
    · have := I.isT (hl p (.head _))
      rw [hq.1, hq.2.1] at this
      rw [e]; exact this
    · exact keys_is I t (fun x hx => hl x (.tail _ hx)) x hx
theorem DR.look (I : Inv X pins σ H s) (g : DR X.K X.prog X.w H d kvs) : (d == sysModules) = false ∧ ∃ (L : KX) (xs : List (List Int × Addr × Value)), kvX L = kvs ∧ RX L xs ∧ s.heap.DictOfH (tupleKind (intKind X.prog X.w)) d xs := by
  obtain ⟨L, h1, h2, h3⟩ := g
  have D0 : DX0 X.prog X.w s.heap d L := by
    rcases h1 with h1 | ⟨o, h1⟩
    · exact (show ObjOk X.prog X.w H s.heap d (DXO X.prog X.w d L) from I.hok d _ h1).1
    · exact (show _ ∧ ObjOk X.prog X.w H s.heap d (DXO X.prog X.w d L) from I.hok d _ h1).2.1
  obtain ⟨z, y, xs, r, o, es, ep, ho, hc, hd, he, hn⟩ := D0
  exact ⟨y, L, xs, h3, r, o, es, ep, ho, hc, hd, he, keys_is I r h2, hn⟩
theorem DR.typeIs (I : Inv X pins σ H s) (g : DR X.K X.prog X.w H d kvs) : s.TypeIs (.ref d) "dict" := by
  obtain ⟨_, _, _, _, _, dd⟩ := g.look I
  exact dd.typeIs
theorem r_getItem {v : V} {Q : Value → Shared → Prop} (hu : A.units + 1 < cLine) (I : Inv X pins σ H s) (g : DR X.K X.prog X.w H d kvs) (hk : SqT X.K H b (k.map V.int)) (hv : valV kvs k = some v) (h : ∀ w' s', Inv X pins σ H s' → RelV v w' → Q w' s') :
    wpAny (model X.prog X.w) A (getItem (.ref d) (.ref b)) Q E s := by
  obtain ⟨hd, L, xs, e, r, dd⟩ := g.look I
  have r1 := r.val k
  rw [e, hv] at r1
  obtain ⟨w', hw, rw'⟩ := RelO.some_of r1
  obtain ⟨p, hp, rfl⟩ := Option.map_eq_some_iff.mp hw
  exact wpAny_getItem_heap (tupleKind_room_in1 hu) (I.isT hk) dd hp (h _ _ (I.tok _) rw')
theorem r_isin (I : Inv X pins σ H s) {L : KX} {xs : List (List Int × Addr × Value)} (e : kvX L = kvs) (r : RX L xs) : (atKey xs k).isSome = (valV kvs k).isSome := by
  have q := (r.val k).isSome_eq
  rw [e, Option.isSome_map] at q
  exact q.symm
end
/-- d[k], k in d, k not in d, the dict locked or not -/
def tRGet (K : PySem.W.Frag) (P : Program) (w : World) (td ty : TE) : TE := fun σ H Q => td σ H fun x H1 => ty σ H1 fun y H2 => ∃ a b kvs k v, x = .ref a ∧ y = .ref b ∧ DR K P w H2 a kvs ∧ SqT K H2 b (k.map V.int) ∧ valV kvs k = some v ∧ Q v H2
def tRIn (K : PySem.W.Frag) (P : Program) (w : World) (ty td : TE) : TE := fun σ H Q => ty σ H fun y H1 => td σ H1 fun x H2 => ∃ a b kvs k, x = .ref a ∧ y = .ref b ∧ DR K P w H2 a kvs ∧ SqT K H2 b (k.map V.int) ∧ Q (.bl (valV kvs k).isSome) H2
section
variable {X : Cx} {K : PySem.W.Frag} {P : Program} {w : World} {o i : Expr} {pos : Pos} {td ty : TE}
theorem pe_rget (hK : X.K = K) (hP : X.prog = P) (hw : X.w = w) (hu : X.A.units + 1 < cLine) (ho : PE X o td) (hi : PE X i ty) (hs : NoSl i) : PE X (.Subscript o i pos) (tRGet K P w td ty) := by
  subst hK hP hw
  refine ⟨fun pins s σ H Q I h => subD_of PySem.F.slot_dict_getitem.lookup hs (thn (ho.run pins s σ H _ I h) fun u s1 ⟨x, H1, I1, rx, q1⟩ => thn (hi.run pins s1 σ H1 _ I1 q1) fun iv s2 ⟨y, H2, I2, ry, q2⟩ => ?_)⟩
  obtain ⟨a, b, kvs, k, v, rfl, rfl, g, hk, hv, q3⟩ := q2
  cases rx; cases ry
  exact ⟨g.typeIs I2, r_getItem hu I2 g hk hv fun w' s3 I3 r3 => ⟨v, H2, I3, r3, q3⟩⟩
theorem pc_rin (hK : X.K = K) (hP : X.prog = P) (hw : X.w = w) (hu : X.A.units + 1 < cLine) (hi : PE X i ty) (ho : PE X o td) : PC X .In i o (tRIn K P w ty td) := by
  subst hK hP hw
  refine ⟨fun pins s σ H Q I h => thn (hi.run pins s σ H _ I h) fun iv s1 ⟨y, H1, I1, ry, q1⟩ => thn (ho.run pins s1 σ H1 _ I1 q1) fun u s2 ⟨x, H2, I2, rx, q2⟩ => ?_⟩
  obtain ⟨a, b, kvs, k, rfl, rfl, g, hk, q3⟩ := q2
  cases rx; cases ry
  obtain ⟨hd, L, xs, e, r, dd⟩ := g.look I2
  refine wpAny_in_heap (tupleKind_room_in1 hu) (I2.isT hk) hd dd ?_
  rw [r_isin I2 e r]
  exact ⟨.bl _, H2, I2.tok _, rfl, q3⟩
end
/-! ### for k in d -/
/-- the keys' own tuples, in the dict's order; it is locked -/
def ItRk (P : Program) (w : World) (d : Addr) (o : Obj) (L : KX) : It :=
  ⟨fun i H => H d = some (.frz o (DXO P w d L)) ∧ i < L.length, fun i H x H' => H' = H ∧ ∃ y, L[i]? = some y ∧ x = .ref y.2.1, fun i H => H d = some (.frz o (DXO P w d L)) ∧ L.length ≤ i⟩
theorem walk_itr {P : Program} {w : World} {d : Addr} {o : Obj} {L : KX} : Walk (ItRk P w d o L) L.length (fun H => H d = some (.frz o (DXO P w d L))) (fun i H x H' => H' = H ∧ ∃ y, L[i]? = some y ∧ x = .ref y.2.1) :=
  { goes := fun i H h1 h2 => ⟨h2, h1⟩, stops := fun H h => ⟨h, Nat.le_refl _⟩, yields := fun i H x H' h1 h2 h3 => h3 }
theorem RX.nth : ∀ {L : KX} {xs : List (List Int × Addr × Value)}, RX L xs → ∀ {i : Nat} {y : List Int × Addr × V}, L[i]? = some y → ∃ x, xs[i]? = some x ∧ y.2.1 = x.2.1
  | _, _, .nil, i, y, h => by simp at h
  | _, _, .cons hq t, i, y, h => by
    cases i with
    | zero => cases h; exact ⟨_, rfl, hq.2.1⟩
    | succ i => exact RX.nth t (i := i) h
theorem frzX {X : Cx} {pins : List (Addr × Obj)} {σ : L2.St} {H : Hp} {s : Shared} {d : Addr} {o : Obj} {L : KX} (I : Inv X pins σ H s) (h : H d = some (.frz o (DXO X.prog X.w d L))) :
    (d == sysModules) = false ∧ s.heap.get? d = some o ∧ o.ExactDict ∧ ∃ (es : Array DictEntry) (ep : Nat), o.data = .dict es ep ∧ es.size = L.length ∧ ∀ (i : Nat) (y : List Int × Addr × V), L[i]? = some y → ∃ en : DictEntry, es[i]? = some en ∧ en.key = .ref y.2.1 := by
  obtain ⟨hg, hx⟩ := (show _ ∧ ObjOk X.prog X.w H s.heap d (DXO X.prog X.w d L) from I.hok d _ h)
  obtain ⟨⟨z, y0, xs, r, o', es, ep, ho, hc, hd, he, hn⟩, _⟩ := hx
  rw [hg] at ho
  cases ho
  have hlen : es.size = xs.length := by rw [← Array.length_toList, he, List.length_map]
  refine ⟨y0, hg, hc, es, ep, hd, by rw [hlen]; exact r.len.symm, fun i y hy => ?_⟩
  obtain ⟨x, hx1, hx2⟩ := r.nth hy
  have q : es.toList[i]? = some (entryOfKey (tupleKind (intKind X.prog X.w)) x) := by rw [he, List.getElem?_map, hx1]; rfl
  rw [Array.getElem?_toList] at q
  exact ⟨_, q, by rw [hx2]; rfl⟩
theorem kit_obj {h : Heap} {it d : Addr} {i n ep : Nat} (st : h.IsKeyIter it d i n ep) : ∃ o, h.get? it = some o ∧ ∀ v, o.data ≠ .cell v := by
  obtain ⟨o, e, c, dd⟩ := st
  exact ⟨o, e, fun v z => by rw [dd] at z; cases z⟩
theorem turn_r {P : Program} {w : World} {K : PySem.W.Frag} {tg : Expr} {d : Addr} {o : Obj} {es : Array DictEntry} {ep : Nat} {L : KX} (it : Addr) (hod : o.data = .dict es ep) :
    Turn P w K tg (ItRk P w d o L) [it] it (fun i h => h.IsKeyIter it d i L.length ep) := by
  have one : ∀ {b : Addr}, b ∈ [it] → b = it := fun h => List.mem_singleton.mp h
  refine { mem := .head _, obj := fun i h st b hb => by rw [one hb]; exact kit_obj st, keep := fun i h h' st k => st.at fun o' e => k it (.head _) o' e, item := ?_, done := ?_, self := fun A i s Q E st h => ?_ }
  · intro X hP hw hK hc i pins s σ H E I hf st hg
    cases hP; cases hw; cases hK
    obtain ⟨g1, g2, g3, es', ep', g4, g5, g6⟩ := frzX I hg.1
    obtain ⟨rfl, rfl⟩ := dict_ep hod g4
    obtain ⟨y, hy⟩ : ∃ y, L[i]? = some y := ⟨_, List.getElem?_eq_getElem hg.2⟩
    obtain ⟨en, e1, e2⟩ := g6 i _ hy
    obtain ⟨k0, k1, k2, k3, k4, k5⟩ := hf it (.head _)
    refine next_key_item st g2 g4 g5 e1 fun h' st' sb => ⟨_, rfl, ?_⟩
    obtain ⟨oi, o1, o2, o3⟩ := id st'
    refine go_of (s := { s with heap := h' }) o1 o2 o3 (by decide) ⟨_, H, I.turned (t' := s.toks) (fun b ob hb e => (sb.2 b hb).trans e) k0 k1 k3 k4 k5, (show RelV (.ref y.2.1) en.key from e2), ⟨rfl, _, hy, rfl⟩, st', fun b hb => (hf b hb).1⟩
  · intro X hP hw hK hc i pins s σ H E I hf st hg
    cases hP; cases hw; cases hK
    obtain ⟨g1, g2, g3, es', ep', g4, g5, g6⟩ := frzX I hg.1
    obtain ⟨rfl, rfl⟩ := dict_ep hod g4
    obtain ⟨k0, k1, k2, k3, k4, k5⟩ := hf it (.head _)
    exact next_key_end (I.ok.hd hc) st g2 g4 g5 hg.2 fun h' eb => ⟨rfl, I.turned (t' := s.toks) (fun b ob hb e => eb b ob hb e) k0 k1 k3 k4 k5⟩
  · exact wpAny_pyIter_keyiter st h
def iKeysR (P : Program) (w : World) (td : TE) : TI := fun σ H R => td σ H fun x H1 => ∃ d o L, x = .ref d ∧ H1 d = some (.frz o (DXO P w d L)) ∧ R (ItRk P w d o L) H1
theorem pi_keysR {X : Cx} {P : Program} {w : World} {tg e : Expr} {td : TE} (hP : X.prog = P) (hw : X.w = w) (he : PE X e td) : PI X tg e (iKeysR P w td) := by
  subst hP hw
  refine ⟨fun pins s σ H R I h => thn (he.run pins s σ H _ I h) fun u s1 ⟨x, H1, I1, rx, q⟩ => ?_⟩
  obtain ⟨d, o, L, rfl, hd, q⟩ := q
  cases rx
  obtain ⟨g1, g2, g3, es, ep, g4, g5, g6⟩ := frzX I1 hd
  exact iter_keys g1 g2 g3 g4 (pi_one (tk := s1.toks) I1 _ (turn_r _ g4) ⟨_, Heap.get?_push_size _ rfl, rfl, by rw [g5]; rfl⟩ q)
end MB

set_option maxHeartbeats 4000000
namespace MB
open PySem PySem.Spec PyProof.Rows L2
/-! ### {k: v for target in iter if ..}, the keys tuples of ints -/
/-- a comprehension stores at a key -/
theorem n_dictSet {X : Cx} {pins : List (Addr × Obj)} {σ : L2.St} {H : Hp} {s : Shared} {d b : Addr} {kvs : List (List Int × V)} {k : List Int} {E : Value → Shared → Prop} {v : V} {u : Value} {Q : Unit → Shared → Prop} (hu : X.A.units + 1 < cLine) (I : Inv X pins σ H s) (g : DN X.K X.prog X.w H d kvs)
    (hk : SqT X.K H b (k.map V.int)) (hl : kvs.length < sizeLine) (rv : RelV v u) (h : DNput X.K X.prog X.w H d kvs k v fun H' => ∀ s', Inv X pins σ H' s' → Q () s') : wpAny (model X.prog X.w) X.A (dictSet d (.ref b) u) Q E s := by
  obtain ⟨nd, L, xs, e1, e2, e3, r, z, dd⟩ := g.at I
  have kp := keep_updX (K := X.K) (L' := putX L k b v) e1
  have hl2 : (putX L k b v).length ≤ sizeLine := by
    have := length_putK kvs k v
    rw [← kvX_len, kvX_put, e3]; omega
  refine wpAny_dictSet_heap (hsz := by rw [← r.len]; exact z) (show (tupleKind (intKind X.prog X.w)).room X.A from Nat.lt_of_succ_lt hu) (I.isT hk) dd fun h' dd' hs => ?_
  obtain ⟨o, es, ep, q1, q2, q3, q4, _, q5⟩ := dd'
  refine h _ (fun c hc => upd_ne hc) kp ⟨_, upd_same, fun x hx => ?_, by rw [kvX_put, e3]⟩ _ (d_write I (by rw [e1]; trivial) hs ⟨o, q1⟩ (dx_new ⟨hl2, nd, _, r.put k rv, o, es, ep, q1, q2, q3, q4, q5⟩))
  rcases putX_key hx with ⟨y, hy, f1, f2⟩ | ⟨f1, f2⟩
  · rw [f1, f2]; exact kp _ _ (e2 y hy)
  · rw [f1, f2]; exact kp _ _ hk
/-- one turn: the key's tuple at a, the value z -/
def tDx1 (K : PySem.W.Frag) (P : Program) (w : World) (D : Addr) (g : TG) (tt : TT) (tk tv : TE) (vs : List Nat) (x : V) (σ : L2.St) (H : Hp) (Nx : Hp → Prop) : Prop :=
  g x (wipe σ vs) H fun σ2 H2 => wipe σ2 vs = wipe σ vs ∧ tt σ2 H2 fun b H3 => if b = true then tk σ2 H3 fun y H4 => tv σ2 H4 fun z H5 => ∃ a kvs k, y = .ref a ∧ DN K P w H5 D kvs ∧ SqT K H5 a (k.map V.int) ∧ kvs.length < sizeLine ∧ DNput K P w H5 D kvs k z Nx else Nx H3
def tDx (K : PySem.W.Frag) (P : Program) (w : World) (wi : TI) (g : TG) (tt : TT) (tk tv : TE) (vs : List Nat) : TE := fun σ H Q => wi σ H fun J H1 => ∀ D H0, H1 D = none → Same H1 H0 → DN K P w H0 D [] → ∃ W : Nat → Nat → Hp → Prop, (∃ m, W 0 m H0) ∧ ∀ i m G, W i m G →
  (J.stop i G ∧ Q (.ref D) G) ∨ (J.go i G ∧ ∃ Nx : Hp → Prop, (∀ G', Nx G' → ∃ m', m' < m ∧ W (i + 1) m' G') ∧ ∀ x G', J.yld i G x G' → tDx1 K P w D g tt tk tv vs x σ G' Nx)
section
variable {X : Cx} {kx vx tg iter : Expr} {ifs : List Expr} {scope : Scope} {own : List (Str × Nat)} {pos : Pos} {wi : TI} {g : TG} {tt : TT} {tk tv : TE}
/-- the block's loop -/
theorem dx_loop (hc : X.calm = true) (hu : X.A.units + 1 < cLine) (hN : X.N.Nodup) (ok : BlkOk X.N X.env.scope scope own) {σ : L2.St} {H3 : Hp} {s3 s4 : Shared} {Q : VK} {R : Result → Shared → Prop} {it D : Addr} {fp : List Addr} {tn : Nat → Heap → Prop} {J : It} {ce : Env} {W : Nat → Nat → Hp → Prop} {m0 : Nat}
    (pg : PG (X.blk s3 H3 scope ce fp) tg g) (pt : PTs (X.blk s3 H3 scope ce fp) ifs tt) (pk : PE (X.blk s3 H3 scope ce fp) kx tk) (pe : PE (X.blk s3 H3 scope ce fp) vx tv)
    (T : Turn X.prog X.w X.K tg J fp it tn) (I4 : Inv (X.blk s3 H3 scope ce fp) [] (wipe σ (own.map (·.2))) H3 s4) (st4 : tn 0 s4.heap) (nfp : ∀ b ∈ fp, H3 b = none) (w0 : W 0 m0 H3)
    (turn : ∀ i m G, W i m G → (J.stop i G ∧ Q (.ref D) G) ∨ (J.go i G ∧ ∃ Nx : Hp → Prop, (∀ G', Nx G' → ∃ m', m' < m ∧ W (i + 1) m' G') ∧ ∀ x G', J.yld i G x G' → tDx1 X.K X.prog X.w D g tt tk tv (own.map (·.2)) x σ G' Nx))
    (fin : ∀ H' s', Inv (X.blk s3 H3 scope ce fp) [] (wipe σ (own.map (·.2))) H' s' → Q (.ref D) H' → R (.ok .next) s') :
    codeAny (model X.prog X.w) X.A (.compLoop (.DictComp kx vx [⟨tg, iter, ifs, 0⟩] scope pos) 0 (.ref it) (.ref D) ce) R s4 := by
  have foot : ∀ {σ' : L2.St} {H' : Hp} {s' : Shared}, Inv (X.blk s3 H3 scope ce fp) [] σ' H' s' → (∀ b ∈ fp, H' b = none) → ∀ b ∈ fp, FpOk (X.blk s3 H3 scope ce fp) [] H' b := fun J' n b hb =>
    ⟨n b hb, (J'.ok.exf b hb).1, J'.ok.exfs b hb, .inl hb, (J'.ok.exf b hb).2, fun p hp => (nomatch (show p ∈ ([] : List (Addr × Obj)) from hp))⟩
  refine compLoop_anyD (fun n s' => ∃ i G, Inv (X.blk s3 H3 scope ce fp) [] (wipe σ (own.map (·.2))) G s' ∧ tn i s'.heap ∧ (∀ b ∈ fp, G b = none) ∧ W i n G) ?_ m0 ⟨0, H3, I4, st4, nfp, w0⟩
  rintro n s5 ⟨i, G, I5, st5, n5, w5⟩
  rcases turn i n G w5 with ⟨stop, qq⟩ | ⟨go, Nx, hNx, step⟩
  · refine thnF (T.done (X.blk s3 H3 scope ce fp) rfl rfl rfl hc i [] s5 _ G (fun _ _ => False) I5 (foot I5 n5) st5 stop) ?_
    rintro _ s6 ⟨rfl, I6⟩
    exact fin G s6 I6 qq
  refine thnF (T.item (X.blk s3 H3 scope ce fp) rfl rfl rfl hc i [] s5 _ G (fun _ _ => False) I5 (foot I5 n5) st5 go) ?_
  rintro _ s6 ⟨u, rfl, h6⟩
  refine thnF h6 ?_
  rintro _ s7 ⟨x, G7, I7, r7, y7, st7, n7⟩
  have I7' := I7.pinned (foot I7 n7) (T.obj _ _ st7)
  refine thnF (pg.run _ s7 _ G7 x u _ I7' r7 (step x G7 y7)) ?_
  rintro _ s8 ⟨σ8, G8, I8, hw8, q8⟩
  refine thnF (pt.run _ s8 σ8 G8 _ I8 q8) ?_
  rintro b s9 ⟨G9, I9, q9⟩
  have next : ∀ G' s', Inv (X.blk s3 H3 scope ce fp) ([] ++ pinsAt fp s7.heap) σ8 G' s' → Nx G' → ∃ m, m < n ∧ ∃ i G, Inv (X.blk s3 H3 scope ce fp) [] (wipe σ (own.map (·.2))) G s' ∧ tn i s'.heap ∧ (∀ b ∈ fp, G b = none) ∧ W i m G := fun G' s' I' nx => by
    obtain ⟨m, hm, w'⟩ := hNx G' nx
    have at' : ∀ b ∈ fp, ∀ o, s7.heap.get? b = some o → s'.heap.get? b = some o ∧ G' b = none := fun b hb o e => by
      obtain ⟨p1, p2, _⟩ := I'.pin (b, o) (List.mem_append_right _ (List.mem_append_right _ (mem_pinsAt hb e)))
      exact ⟨p1, p2⟩
    refine ⟨m, hm, i + 1, G', (I'.unpinned (pins := [])).weak (by rw [← hw8, wipe_length]) (fun j v e => ?_), T.keep _ _ _ st7 fun b hb o e => (at' b hb o e).1, fun b hb => ?_, w'⟩
    · rw [← hw8] at e; exact (wipe_some e).1
    · obtain ⟨o, e, _⟩ := T.obj _ _ st7 b hb
      exact (at' b hb o e).2
  cases b with
  | false =>
    have q9' := q9
    simp only [Bool.false_eq_true, if_false] at q9' ⊢
    exact next G9 s9 I9 q9'
  | true =>
    have q9' := q9
    simp only [if_true] at q9' ⊢
    refine thnF (pk.run _ s9 σ8 G9 _ I9 q9') ?_
    rintro kv s10 ⟨yk, G10, I10, r10, q10⟩
    refine thnF (pe.run _ s10 σ8 G10 _ I10 q10) ?_
    rintro vv s11 ⟨yv, G11, I11, r11, a, kvs, k, rfl, gD, hS, hl, put⟩
    cases r10
    exact n_dictSet (X := X.blk s3 H3 scope ce fp) hu I11 gD hS hl r11 fun G' h1 h2 h3 s' J' => next G' s' J' (put G' h1 h2 h3)
theorem pe_dx {K : PySem.W.Frag} {P : Program} {w : World} (hK : X.K = K) (hP : X.prog = P) (hw : X.w = w) (hc : X.calm = true) (hu : X.A.units + 1 < cLine) (hN : X.N.Nodup) (hi : PI X tg iter wi) (ok : BlkOk X.N X.env.scope scope own)
    (hg : ∀ (s : Shared) (H : Hp) (C : Addr) (cl : List (Str × Addr)) (fp : List Addr), PG (X.blk s H scope (compEnvC scope cl C X.env) fp) tg g)
    (ht : ∀ (s : Shared) (H : Hp) (C : Addr) (cl : List (Str × Addr)) (fp : List Addr), PTs (X.blk s H scope (compEnvC scope cl C X.env) fp) ifs tt)
    (hk : ∀ (s : Shared) (H : Hp) (C : Addr) (cl : List (Str × Addr)) (fp : List Addr), PE (X.blk s H scope (compEnvC scope cl C X.env) fp) kx tk)
    (he : ∀ (s : Shared) (H : Hp) (C : Addr) (cl : List (Str × Addr)) (fp : List Addr), PE (X.blk s H scope (compEnvC scope cl C X.env) fp) vx tv)
    (hs : ∀ x, foldedSetIterable iter X.env x = pure x := by intro _; rfl) : PE X (.DictComp kx vx [⟨tg, iter, ifs, 0⟩] scope pos) (tDx K P w wi g tt tk tv (own.map (·.2))) := by
  subst hK hP hw
  refine ⟨fun pins s σ H Q I h => ?_⟩
  rw [arm_eval_DictComp]
  have free : ∀ y ∈ scope.names, y.2 = .free → ∃ c, X.env.cells.lookup y.1 = some c := fun y hy e => (ok.free y hy e).elim (fun k => I.ok.has _ (.inl k)) fun k => I.ok.has _ (.inr k)
  refine wpAny_comprehension_free (use := none) rfl hs (closure_ok free) ok.kind (fun y hy e => by rw [ok.uniq y hy, e]) (thn (hi.run pins s σ H _ I h) fun xv s1 hx => thn hx ?_)
  rintro _ s2 ⟨it, fp, tn, J, H2, rfl, I2, T, st2, f2, q⟩
  refine wpAny_newObj_type (newEnv_comp ?_)
  obtain ⟨D, hD⟩ : ∃ D, D = s2.heap.objs.size := ⟨_, rfl⟩
  have nD : H2 D = none := I2.hok.fresh (Nat.le_of_eq hD.symm)
  obtain ⟨s3, hs3⟩ : ∃ s3 : Shared, s3 = { s2 with heap := s2.heap.push { cls := .type "dict", data := .dict #[] } } := ⟨_, rfl⟩
  have I3 : Inv X pins σ (upd H2 D (DXO X.prog X.w D [])) s3 := by
    rw [hs3, hD]
    exact I2.laid (t' := s2.toks) (fun _ _ e => Heap.get?_push_of_some _ e) (Nat.le_refl _) (dx_new (dx_empty s2.heap I2.big))
  have there : ∀ b ∈ fp, b < D := fun b hb => by
    obtain ⟨o, e, _⟩ := T.obj _ _ st2 b hb
    rw [hD]; exact Heap.lt_size e
  have size3 : s3.heap.objs.size = D + 1 := by rw [hs3, hD]; exact Heap.size_push ..
  have grown : ∀ b o, s2.heap.get? b = some o → s3.heap.get? b = some o := fun b o e => by rw [hs3]; exact Heap.get?_push_of_some _ e
  have f3 : ∀ b ∈ fp, FpOk X pins (upd H2 D (DXO X.prog X.w D [])) b ∧ b < s3.heap.objs.size := fun b hb => by
    have hlt := there b hb
    obtain ⟨z0, zr⟩ := f2 b hb
    exact ⟨⟨(upd_ne (Nat.ne_of_lt hlt)).trans z0, zr⟩, by rw [size3]; exact Nat.lt_succ_of_lt hlt⟩
  obtain ⟨W, ⟨m0, w0⟩, turn⟩ := q D _ nD (same_upd nD) ⟨[], upd_same, (fun x hx => nomatch hx), rfl⟩
  have I4 := block_start I3 ok hN f3
  have eD : s2.heap.objs.size = D := hD.symm
  rw [eD, ← hs3]
  have st4 : tn 0 (pushCells (s3.heap.push { cls := .type "dict", data := .dict #[] }) scope.names) := T.keep _ _ _ st2 fun b _ o e => pushCells_keeps _ _ _ _ (Heap.get?_push_of_some _ (grown b o e))
  have loop := dx_loop (X := X) (kx := kx) (vx := vx) (iter := iter) (pos := pos) hc hu hN ok (R := compPost (model X.prog X.w) X.A X.xe none (fun v s' => ∃ x H', Inv X pins σ H' s' ∧ RelV x v ∧ Q x H') (.ref D) s3.heap.objs.size) (hg s3 _ s3.heap.objs.size (cellsFrom (s3.heap.objs.size + 1) scope.names (cloFrom X.env.cells scope.names [])) fp) (ht _ _ _ _ _) (hk _ _ _ _ _) (he _ _ _ _ _) T I4 st4 (fun b hb => (f3 b hb).1.1) w0 turn fun H' s' J' qq => ?_
  · exact codeAny_compStart_dict loop (T.self X.A 0 _ _ _ st4 loop)
  have I7 : Inv X pins σ H' s' := I3.call' (ch := fp) J'.os J'.base J'.hok J'.bare fun b hb => by
    obtain ⟨⟨_, z1, z2, z3, z4, z5⟩, _⟩ := f3 b hb
    exact ⟨z3, z1, z4, z5⟩
  obtain ⟨m, hm, _⟩ := J'.loc
  have nC : H' s3.heap.objs.size = none := J'.free
  obtain ⟨z0, z1, z2, z3, z4, z5⟩ := I3.fpOk (Nat.le_refl _) nC
  exact ⟨m, hm, fun h'' sb => ⟨.ref D, H', I7.turned (t' := s'.toks) (fun b o hb e => (sb.2 b hb).trans e) z0 z1 z3 z4 z5, rfl, qq⟩⟩
end
end MB

set_option maxHeartbeats 4000000
namespace MB
open PySem PySem.Spec PyProof.Rows L2 L2.DX
/-! ### d.items() and list(d.items()), the keys tuples of ints -/
section
variable {X : Cx} {K : PySem.W.Frag} {P : Program} {w : World}
def tItemsX (K : PySem.W.Frag) (P : Program) (w : World) (td : TE) : TE := fun σ H Q => td σ H fun x H1 => ∃ (a : Addr) (kvs : List (List Int × V)), x = .ref a ∧ DR K P w H1 a kvs ∧ ∀ p, H1 p = none → Q (.ref p) (upd H1 p (itemsO p a))
theorem pe_itemsX {o : Expr} {td : TE} {apos cpos : Pos} (hK : X.K = K) (hP : X.prog = P) (hw : X.w = w) (ho : PE X o td) (hbase : attributeBase o "items" X.env (eval o X.env) = eval o X.env := by rfl) (hline : (apos.endLine == cpos.line) = true := by rfl) :
    PE X (.Call (.Attribute o "items" apos) [] [] cpos) (tItemsX K P w td) := by
  subst hK hP hw
  refine ⟨fun pins s σ H Q I h => wpAny_Call_method (T := "dict") (id := "dict.items") hbase rfl hline PySem.F.plainAttrs_dict PySem.F.slot_dict_items PySem.F.type_dict_items (thn (ho.run pins s σ H _ I h) fun u s1 ⟨x, H1, I1, rx, q1⟩ => ?_)⟩
  obtain ⟨a, kvs, rfl, g, q⟩ := q1
  cases rx
  obtain ⟨nd, L, ls, _, _, ob, es, ep, h1, h2, h3, _⟩ := g.look I1
  refine ⟨g.typeIs I1, fun b e => by cases e; exact ⟨ob, h1, h2.2.1⟩, ?_⟩
  show wpAny _ _ (callWith cpos (.builtin "dict.items") [.ref a] [] []) _ X.xe s1
  exact method_meetsIn PySem.F.slot_dict_items PySem.F.entry_dict_items rfl (PySem.evalArgs_none ⟨rfl, g.typeIs I1, PySem.F.args_dict_items_1 _, _, DT.meetsItems (es := es) (ep := ep) nd, ⟨ob, h1, h2, h3⟩,
    ⟨.ref s1.heap.objs.size, _, I1.laid (t' := s1.toks) (o := itemsO s1.heap.objs.size a) (fun b u e => Heap.get?_push_of_some _ e) (Nat.le_refl _) (itemsO_ok (Heap.get?_push_size _ rfl)), rfl, q _ (I1.hok.fresh (Nat.le_refl _))⟩⟩)
/-- the rows: new tuples of a key's own tuple and its value -/
def RowsX (K : PySem.W.Frag) (H : Hp) : List V → List (List Int × V) → Prop := Paired fun y kv => ∃ t b, y = .ref t ∧ H t = some (.tup [.ref b, kv.2]) ∧ SqT K H b (kv.1.map V.int)
def rListIt (K : PySem.W.Frag) (P : Program) (w : World) : List V → Hp → VK → Prop := fun vs H Q => ∃ (p a : Addr) (kvs : List (List Int × V)), vs = [.ref p] ∧ H p = some (itemsO p a) ∧ DR K P w H a kvs ∧
  ∀ (H' : Hp) (l : Addr) (ys : List V), Same H H' → H l = none → H' l = some (.lst ys) → RowsX K H' ys kvs → Q (.ref l) H'
theorem paired_of {α β : Type} {F : α → β → Prop} : ∀ {l : List α} {m : List β}, l.length = m.length → (∀ (j : Nat) x y, l[j]? = some x → m[j]? = some y → F x y) → Paired F l m
  | [], [], _, _ => .nil
  | [], _ :: _, h, _ => by simp at h
  | _ :: _, [], h, _ => by simp at h
  | x :: l, y :: m, h, f => .cons (f 0 x y rfl rfl) (paired_of (by simpa using h) fun j a b h1 h2 => f (j + 1) a b h1 h2)
theorem cr_listIt (hK : X.K = K) (hP : X.prog = P) (hw : X.w = w) (hc : X.calm = true) : CallR X (.type "list") (rListIt K P w) := by
  subst hK hP hw
  intro pins s σ H xs us Q I r h
  obtain ⟨p, a, kvs, rfl, hp, g, q⟩ := h
  obtain rfl := Vals.ref1 r
  have view : s.heap.IsItemsView p a := (show ObjOk X.prog X.w H s.heap p (itemsO p a) from I.hok p _ hp).1
  have keys : ∃ L : KX, (∀ x ∈ L, SqT X.K H x.2.1 (x.1.map V.int)) ∧ kvX L = kvs ∧ DX0 X.prog X.w s.heap a L := by
    obtain ⟨L, h1, h2, h3⟩ := g
    refine ⟨L, h2, h3, ?_⟩
    rcases h1 with h1 | ⟨o, h1⟩
    · exact (show ObjOk X.prog X.w H s.heap a (DXO X.prog X.w a L) from I.hok a _ h1).1
    · exact (show _ ∧ ObjOk X.prog X.w H s.heap a (DXO X.prog X.w a L) from I.hok a _ h1).2.1
  obtain ⟨L, hL, rfl, z, y, ls, rx, o, es, ep, ho, hx, hd, he, hn⟩ := keys
  have len : es.size = L.length := by rw [← Array.length_toList, he, List.length_map]; exact rx.len.symm
  refine PySem.W.dil_call (es := es) (ep := ep) (I.ok.hd hc) view ⟨o, ho, hx, hd⟩ (by rw [len]; exact z) fun h' tk acc c as hk hS hl hG hacc => ?_
  have I1 : Inv X pins σ H { s with heap := h', toks := tk } := I.kept hk
  have hnd : as.Nodup := hG.rise.imp fun h => Nat.ne_of_lt h
  have hal : as.length = L.length := by rw [hl, len]
  have hlo : H s.heap.objs.size = none := I.hok.fresh (Nat.le_refl _)
  have vr : Vals (as.map V.ref) (as.map Value.ref) := paired_of (by simp) fun j x y h1 h2 => by
    rw [List.getElem?_map] at h1 h2
    cases hj : as[j]? with
    | none => rw [hj] at h1; cases h1
    | some b => rw [hj] at h1 h2; cases h1; cases h2; rfl
  have I3 : Inv X pins σ (upd H s.heap.objs.size (.lst (as.map V.ref))) { s with heap := h', toks := tk } := I1.take (h' := h') (t' := tk) (fun b ob _ e => e) (I.fpOk (Nat.le_refl _) hlo) ⟨by rw [List.length_map, hal]; exact z, _, c, vr, by
    rw [hS, ← hacc]⟩
  obtain ⟨H2, I2, s2, tups⟩ := takeT (P := fun b vs => ∃ (j : Nat) (y : List Int × Addr × V), as[j]? = some b ∧ L[j]? = some y ∧ vs = [.ref y.2.1, y.2.2]) I as _ I3 hnd fun b hb => by
    obtain ⟨j, hj⟩ := List.mem_iff_getElem?.mp hb
    obtain ⟨hj2, hg⟩ := hG.pairs j b hj
    have low := Nat.le_of_lt (hG.above b hb)
    have hjL : j < L.length := by omega
    obtain ⟨x, hx1, hx2, hx3⟩ : ∃ x, ls[j]? = some x ∧ L[j].2.1 = x.2.1 ∧ RelV L[j].2.2 x.2.2 := by
      have : ∀ {L : KX} {ls : List (List Int × Addr × Value)}, RX L ls → ∀ {j : Nat} (h : j < L.length), ∃ x, ls[j]? = some x ∧ L[j].2.1 = x.2.1 ∧ RelV L[j].2.2 x.2.2 := by
        intro L ls r
        induction r with
        | nil => intro j h; simp at h
        | cons hq t ih =>
          intro j h
          cases j with
          | zero => exact ⟨_, rfl, hq.2.1, hq.2.2⟩
          | succ j => exact ih (j := j) (by simpa using h)
      exact this rx hjL
    have ent : es.toList[j]? = some (entryOfKey (tupleKind (intKind X.prog X.w)) x) := by rw [he, List.getElem?_map, hx1]; rfl
    rw [Array.getElem?_toList, Array.getElem?_eq_getElem hj2] at ent
    have ee := Option.some.inj ent
    have e1 : es[j].key = .ref L[j].2.1 := by rw [ee, hx2]; rfl
    have e2 : es[j].val = x.2.2 := by rw [ee]; rfl
    rw [e1, e2] at hg
    exact ⟨low, (upd_ne (Nat.ne_of_gt (hG.above b hb))).trans (I.hok.fresh low), _, ⟨j, L[j], hj, List.getElem?_eq_getElem hjL, rfl⟩, fun H2 => ⟨sz60 (by simp), [.ref L[j].2.1, x.2.2], .cons rfl (.cons hx3 .nil), _, hg, rfl, 0, rfl⟩⟩
  have sH : Same H H2 := fun b o e => s2 _ _ (same_upd hlo b o e)
  refine ⟨.ref s.heap.objs.size, H2, I2, rfl, q H2 _ (as.map V.ref) sH hlo (s2 _ _ upd_same) (paired_of (by rw [List.length_map, kvX_len, hal]) fun j x kv h1 h2 => ?_)⟩
  rw [List.getElem?_map] at h1
  cases hj : as[j]? with
  | none => rw [hj] at h1; cases h1
  | some b =>
    rw [hj] at h1
    cases h1
    obtain ⟨vs, ⟨j', y', h3, h4, rfl⟩, h5⟩ := tups b (List.mem_of_getElem? hj)
    have ej : j' = j := by
      have b1 := (List.getElem?_eq_some_iff.mp h3)
      have b2 := (List.getElem?_eq_some_iff.mp hj)
      obtain ⟨l1, e1⟩ := b1
      obtain ⟨l2, e2⟩ := b2
      have up := List.pairwise_iff_getElem.mp hG.rise
      rcases Nat.lt_trichotomy j' j with h | h | h
      · have := up j' j l1 l2 h
        rw [e1, e2] at this
        exact absurd this (Nat.lt_irrefl _)
      · exact h
      · have := up j j' l2 l1 h
        rw [e1, e2] at this
        exact absurd this (Nat.lt_irrefl _)
    rw [ej] at h4
    unfold kvX at h2
    rw [List.getElem?_map, h4] at h2
    cases h2
    exact ⟨b, y'.2.1, rfl, h5, Same.tup sH (hL y' (List.mem_of_getElem? h4))⟩
end
end MB

set_option maxHeartbeats 4000000
namespace MB
open PySem PySem.Spec PyProof.Rows L2
/-! ### sorted(a list of data that are alike, nested tuples too) -/
theorem each_of {h : Heap} {K : PySem.W.Frag} {Hq : Hp} (hr : ∀ d v u, Dp K Hq v d → RelV v u → ∃ as, Reads h u d as) : ∀ {bs : List (V × PyData)} {us : List Value}, DpAll K Hq (bs.map Prod.fst) (bs.map Prod.snd) → Vals (bs.map Prod.fst) us → PySem.W.EachIs (fun v b => ∃ as, Reads h v b.2 as) us bs
  | [], _, _, .nil => .nil
  | _ :: _, _, .cons a b, .cons r rs => .cons (hr _ _ _ a r) (each_of hr b rs)
/-- bs: the items with what they read as -/
def rSortX (K : PySem.W.Frag) : List V → Hp → VK → Prop := fun vs H Q => ∃ (l : Addr) (bs : List (V × PyData)), vs = [.ref l] ∧ SqL K H l (bs.map Prod.fst) ∧ DpAll K H (bs.map Prod.fst) (bs.map Prod.snd) ∧ PySem.W.AllAlike (bs.map Prod.snd) ∧ PySem.W.Sortable (bs.map Prod.snd) ∧ bs.length ≤ 1000000 ∧ (∀ b ∈ bs, b.2.depth ≤ 60) ∧
  ∀ p, H p = none → Q (.ref p) (upd H p (.lst ((bs.mergeSort (PySem.W.dataLe false Prod.snd)).map Prod.fst)))
theorem cr_sortX {X : Cx} {K : PySem.W.Frag} (hK : X.K = K) (hu : X.A.units + 64 < cLine) : CallR X (.builtin "sorted") (rSortX K) := by
  subst hK
  intro pins s σ H vs us Q I r h
  obtain ⟨l, bs, rfl, hl, hd, hal, hsk, hn, hdep, q⟩ := h
  obtain rfl := Vals.ref1 r
  obtain ⟨its, rv, pl, hz⟩ := I.list hl
  have hn2 : bs.length ≤ sizeLine := by rw [sizeLine_eq]; omega
  refine PySem.W.sorted_data (R := fun v (b : V × PyData) => RelV b.1 v) (enc := Prod.snd) (vs := its) (bs := bs) (by simpa using pl.isList) (vals_each rv) (each_of (Dp.reads I) hd rv) hal hsk hn2 (fun b hb => by have := hdep b hb; omega) fun out ho he => ?_
  obtain ⟨e', he'⟩ := sortedAll_at s.heap its out.toArray
  refine ⟨.ref (s.heap.objs.size + 1), _, I.laid (t' := s.toks) (fun b u e => sortedAll_old e) (Nat.le_succ _) ?_, rfl, q _ (I.hok.fresh (Nat.le_succ _))⟩
  exact ⟨by rw [List.length_map, List.length_mergeSort]; exact hn2, out, e', each_vals he, he'⟩
end MB

set_option maxHeartbeats 4000000
namespace MB
open PySem PySem.Spec PyProof.Rows L2
/-! ### zip of two tuples, where MbMin can't be imported -/
theorem walk_zip2T {K : PySem.W.Frag} {a b : Addr} {xs ys : List V} {n : Nat} (hn : n = min xs.length ys.length) : Walk (RZ.ItzT K a b) n (fun H => SqT K H a xs ∧ SqT K H b ys) (YPair (fun i => xs[i]?) (fun i => ys[i]?)) where
  goes i H hi q := ⟨xs, ys, xs[i]'(by omega), ys[i]'(by omega), q.1, q.2, List.getElem?_eq_getElem (by omega), List.getElem?_eq_getElem (by omega)⟩
  stops H q := ⟨xs, ys, q.1, q.2, by omega⟩
  yields i H v H' hi q y := by
    obtain ⟨T, u, z, e1, e2, e3, e4, e5⟩ := y
    exact ⟨T, u, z, e1, e2, e3, e4 xs q.1, e5 ys q.2⟩
end MB

set_option maxHeartbeats 4000000
namespace MB
/-- the terms above 0 of the representation of n with k terms -/
def rl : Nat → Nat → List Nat
  | 0, _ => []
  | k + 1, n => if n = 0 then [] else bin (k + lwr (k + 1) n) (k + 1) :: rl k (n - bin (k + lwr (k + 1) n) (k + 1))
theorem rl_zero (k : Nat) : rl k 0 = [] := by cases k <;> simp [rl]
theorem rl_succ {k n : Nat} (h : n ≠ 0) : rl (k + 1) n = bin (k + lwr (k + 1) n) (k + 1) :: rl k (n - bin (k + lwr (k + 1) n) (k + 1)) := by simp [rl, h]
theorem lw_pos {k n : Nat} (hk : 1 ≤ k) (hn : n ≠ 0) : 1 ≤ lwr k n := by
  have h := (lw_ok n hk).1
  by_cases c : lwr k n = 0
  · rw [c] at h
    have : bin (k + 0) k = 1 := bin_self k
    omega
  · omega
theorem top_le {k n : Nat} (hn : n ≠ 0) : bin (k + lwr (k + 1) n) (k + 1) ≤ n := by
  have h1 := lw_pos (k := k + 1) (by omega) hn
  have h2 := (lw_ok (k := k + 1) n (by omega)).2 (lwr (k + 1) n - 1) (by omega)
  rwa [show k + 1 + (lwr (k + 1) n - 1) = k + lwr (k + 1) n by omega] at h2
theorem top_pos {k n : Nat} (hn : n ≠ 0) : 0 < bin (k + lwr (k + 1) n) (k + 1) :=
  bin_pos (by have := lw_pos (k := k + 1) (by omega) hn; omega)
theorem rest_lt {k n : Nat} (hn : n ≠ 0) : n - bin (k + lwr (k + 1) n) (k + 1) < bin (k + lwr (k + 1) n) k := by
  have h1 := (lw_ok (k := k + 1) n (by omega)).1
  have h2 := top_le (k := k) hn
  rw [show k + 1 + lwr (k + 1) n = (k + lwr (k + 1) n) + 1 by omega, bin_succ] at h1
  omega
theorem rest_zero {n : Nat} (hn : n ≠ 0) : n - bin (0 + lwr (0 + 1) n) (0 + 1) = 0 := by
  have := rest_lt (k := 0) hn
  rw [bin_zero] at this
  omega
theorem rl_sum : ∀ k n : Nat, (k = 0 → n = 0) → (rl k n).sum = n
  | 0, n, h => by rw [h rfl]; rfl
  | k + 1, n, _ => by
    by_cases hn : n = 0
    · subst hn; rw [rl_zero]; rfl
    · rw [rl_succ hn, List.sum_cons, rl_sum k _ (fun e => by subst e; exact rest_zero hn)]
      have := top_le (k := k) hn
      omega
theorem rl_len : ∀ k n : Nat, (rl k n).length ≤ k
  | 0, n => by simp [rl]
  | k + 1, n => by
    by_cases hn : n = 0
    · subst hn; rw [rl_zero]; simp
    · rw [rl_succ hn, List.length_cons]
      have := rl_len k (n - bin (k + lwr (k + 1) n) (k + 1))
      omega
theorem rl_pos : ∀ k n : Nat, ∀ x, x ∈ rl k n → 0 < x ∧ x ≤ n
  | 0, n, x, h => by simp [rl] at h
  | k + 1, n, x, h => by
    by_cases hn : n = 0
    · subst hn; rw [rl_zero] at h; cases h
    · rw [rl_succ hn] at h
      rcases List.mem_cons.mp h with h | h
      · rw [h]; exact ⟨top_pos hn, top_le hn⟩
      · have := rl_pos k _ x h
        omega
/-- the last flush's run holds what was merged and its own -/
theorem rl_step : ∀ k n : Nat, ∃ m, m ≤ (rl (k + 1) n).length ∧ rl (k + 1) (n + 1) = (rl (k + 1) n).take m ++ [1 + ((rl (k + 1) n).drop m).sum]
  | k, n => by
    by_cases hn : n = 0
    · subst hn
      refine ⟨0, Nat.zero_le _, ?_⟩
      rw [rl_zero, rl_succ (by omega)]
      have e : lwr (k + 1) (0 + 1) = 1 := (lw_ok (0 + 1) (by omega)).uniq (Lw.mk' (by
        have := bin_big (k := k + 1) (c := 1) (by omega); omega) (.inr (by rw [show k + 1 + (1 - 1) = k + 1 by omega, bin_self]; exact Nat.le_refl _)))
      rw [e, bin_self, show 0 + 1 - 1 = 0 by omega, rl_zero]
      rfl
    · have hc := lw_ok (k := k + 1) n (by omega)
      by_cases hlt : n + 1 < bin (k + 1 + lwr (k + 1) n) (k + 1)
      · have e : lwr (k + 1) (n + 1) = lwr (k + 1) n := (lw_ok (n + 1) (by omega)).uniq ⟨hlt, fun d hd => Nat.le_succ_of_le (hc.2 d hd)⟩
        cases k with
        | zero =>
          exfalso
          have h1 := rest_zero hn
          rw [bin_one] at h1 hlt
          have h2 := top_le (k := 0) hn
          rw [bin_one] at h2
          omega
        | succ k =>
          have hT := top_le (k := k + 1) hn
          obtain ⟨m, hm, hs⟩ := rl_step k (n - bin (k + 1 + lwr (k + 1 + 1) n) (k + 1 + 1))
          refine ⟨m + 1, ?_, ?_⟩
          · rw [rl_succ hn, List.length_cons]; omega
          · rw [rl_succ (n := n + 1) (by omega), e, rl_succ hn, show n + 1 - bin (k + 1 + lwr (k + 1 + 1) n) (k + 1 + 1) = n - bin (k + 1 + lwr (k + 1 + 1) n) (k + 1 + 1) + 1 by omega, hs]
            simp
      · have e0 : n + 1 = bin (k + 1 + lwr (k + 1) n) (k + 1) := by have := hc.1; omega
        have e : lwr (k + 1) (n + 1) = lwr (k + 1) n + 1 := (lw_ok (n + 1) (by omega)).uniq (Lw.mk' (by
          rw [e0]; exact bin_strict (by omega) (by omega) (by omega)) (.inr (by rw [show lwr (k + 1) n + 1 - 1 = lwr (k + 1) n by omega]; omega)))
        refine ⟨0, Nat.zero_le _, ?_⟩
        rw [rl_succ (n := n + 1) (by omega), e, show k + (lwr (k + 1) n + 1) = k + 1 + lwr (k + 1) n by omega, ← e0, Nat.sub_self, rl_zero]
        have := rl_sum (k + 1) n (fun h => by omega)
        simp [this]
        omega
/-- just behind a lifetime there is one run -/
theorem rl_edge {k c : Nat} (hk : 1 ≤ k) : rl k (bin (k + c) k) = [bin (k + c) k] := by
  obtain ⟨j, rfl⟩ : ∃ j, k = j + 1 := ⟨k - 1, by omega⟩
  have hp := bin_pos (n := j + 1 + c) (k := j + 1) (by omega)
  have e : lwr (j + 1) (bin (j + 1 + c) (j + 1)) = c + 1 := (lw_ok _ (by omega)).uniq (Lw.mk' (bin_strict (by omega) (by omega) (by omega)) (.inr (by rw [show c + 1 - 1 = c by omega]; exact Nat.le_refl _)))
  rw [rl_succ (by omega), e, show j + (c + 1) = j + 1 + c by omega, Nat.sub_self, rl_zero]
/-- each term is a binomial coefficient, with falling upper numbers -/
theorem rl_tops : ∀ k n a : Nat, n < bin a k → ∃ ts : List Nat, ts.length = (rl k n).length ∧ (∀ i t, ts[i]? = some t → (rl k n)[i]? = some (bin t (k - i)) ∧ k - i ≤ t ∧ 1 ≤ k - i ∧ t < a) ∧ ∀ i t u, ts[i]? = some t → ts[i + 1]? = some u → u < t
  | 0, n, a, h => ⟨[], by simp [rl], by simp, by simp⟩
  | k + 1, n, a, h => by
    by_cases hn : n = 0
    · subst hn; exact ⟨[], by rw [rl_zero], by simp, by simp⟩
    · have h1 := lw_pos (k := k + 1) (by omega) hn
      have hlt : k + lwr (k + 1) n < a := by
        have h2 := top_le (k := k) hn
        by_cases c : k + lwr (k + 1) n < a
        · exact c
        · have := bin_mono (n := a) (m := k + lwr (k + 1) n) (k + 1) (by omega); omega
      obtain ⟨ts, e1, e2, e3⟩ := rl_tops k (n - bin (k + lwr (k + 1) n) (k + 1)) (k + lwr (k + 1) n) (rest_lt hn)
      refine ⟨(k + lwr (k + 1) n) :: ts, by rw [rl_succ hn]; simp [e1], ?_, ?_⟩
      · intro i t ht
        cases i with
        | zero =>
          simp only [List.getElem?_cons_zero, Option.some.injEq] at ht
          subst ht
          refine ⟨by rw [rl_succ hn]; rfl, by omega, by omega, hlt⟩
        | succ i =>
          simp only [List.getElem?_cons_succ] at ht
          obtain ⟨g1, g2, g3, g4⟩ := e2 i t ht
          refine ⟨by rw [rl_succ hn, List.getElem?_cons_succ, show k + 1 - (i + 1) = k - i by omega]; exact g1, by omega, by omega, by omega⟩
      · intro i t u ht hu
        cases i with
        | zero =>
          simp only [List.getElem?_cons_zero, Option.some.injEq] at ht
          simp only [List.getElem?_cons_succ] at hu
          subst ht
          exact (e2 0 u hu).2.2.2
        | succ i =>
          simp only [List.getElem?_cons_succ] at ht hu
          exact e3 i t u ht hu
end MB

set_option maxHeartbeats 4000000
namespace MB
/-! ### states: the greatest of the newer runs, what is left -/
def mx : List Nat → Nat
  | [] => 0
  | x :: xs => max x (mx xs)
theorem mx_cons (x : Nat) (xs : List Nat) : mx (x :: xs) = max x (mx xs) := rfl
theorem mx_fold : ∀ (xs : List Nat) (x : Nat), (xs.map (fun (m : Nat) => (m : Int))).foldl max (x : Int) = ((mx (x :: xs) : Nat) : Int)
  | [], x => by simp [mx]
  | y :: ys, x => by
    rw [List.map_cons, List.foldl_cons, show max (x : Int) (y : Int) = ((max x y : Nat) : Int) by omega, mx_fold ys (max x y)]
    simp only [mx]
    omega
theorem mx_le {c : Nat} : ∀ {xs : List Nat}, (∀ x, x ∈ xs → x ≤ c) → mx xs ≤ c
  | [], _ => Nat.zero_le _
  | x :: xs, h => by
    have h1 := h x (List.mem_cons_self ..)
    have h2 := mx_le (c := c) (xs := xs) fun y hy => h y (List.mem_cons_of_mem _ hy)
    rw [mx_cons]; omega
theorem mx_mem {x : Nat} : ∀ {xs : List Nat}, x ∈ xs → x ≤ mx xs
  | y :: ys, h => by
    rw [mx_cons]
    rcases List.mem_cons.mp h with h | h
    · subst h; omega
    · have := mx_mem h; omega
/-- a state within (k, c) -/
def Sta (k c : Nat) (st : List Nat) : Prop := st.length ≤ k ∧ ∀ x, x ∈ st → 1 ≤ x ∧ x ≤ c
theorem Sta.tail {k c x : Nat} {xs : List Nat} (h : Sta k c (x :: xs)) : Sta (k - 1) (mx (x :: xs)) xs :=
  ⟨by have := h.1; rw [List.length_cons] at this; omega, fun y hy => ⟨(h.2 y (List.mem_cons_of_mem _ hy)).1, by have := mx_mem hy; rw [mx_cons]; omega⟩⟩
theorem Sta.mx_le {k c : Nat} {st : List Nat} (h : Sta k c st) : mx st ≤ c := MB.mx_le fun x hx => (h.2 x hx).2
theorem Sta.mx_pos {k c x : Nat} {xs : List Nat} (h : Sta k c (x :: xs)) : 1 ≤ mx (x :: xs) := by
  have := (h.2 x (List.mem_cons_self ..)).1
  rw [mx_cons]; omega
theorem Sta.mono {k c k' c' : Nat} {st : List Nat} (h : Sta k c st) (h1 : k ≤ k') (h2 : c ≤ c') : Sta k' c' st :=
  ⟨by have := h.1; omega, fun x hx => ⟨(h.2 x hx).1, by have := (h.2 x hx).2; omega⟩⟩
/-- as the program adds it up -/
def remv : Nat → Nat → List Nat → Int
  | k, c, [] => (bin (k + c) k : Int) - 1
  | k, c, x :: xs => ((bin (k + c) k : Int) - (bin (k + mx (x :: xs)) k : Int)) + remv (k - 1) (mx (x :: xs)) xs
/-- what each run takes off -/
def brd : Nat → List Nat → Nat
  | _, [] => 0
  | k, x :: xs => bin (k + mx (x :: xs) - 1) k + brd (k - 1) xs
theorem pascal {k m : Nat} (hk : 1 ≤ k) (hm : 1 ≤ m) : bin (k + m) k = bin (k - 1 + m) (k - 1) + bin (k + m - 1) k := by
  obtain ⟨j, rfl⟩ : ∃ j, k = j + 1 := ⟨k - 1, by omega⟩
  rw [show j + 1 + m = (j + m) + 1 by omega, bin_succ, show j + 1 - 1 + m = j + m by omega, show j + 1 - 1 = j by omega, show j + m + 1 - 1 = j + m by omega]
theorem remv_brd : ∀ {k c : Nat} {st : List Nat}, Sta k c st → remv k c st = (bin (k + c) k : Int) - 1 - (brd k st : Int)
  | k, c, [], _ => by simp [remv, brd]
  | k, c, x :: xs, h => by
    have h1 := remv_brd h.tail
    have hk : 1 ≤ k := by have := h.1; rw [List.length_cons] at this; omega
    have hp := pascal hk h.mx_pos
    simp only [remv, brd]
    rw [h1]
    omega
theorem brd_le : ∀ {k c : Nat} {st : List Nat}, Sta k c st → brd k st + 1 ≤ bin (k + c) k
  | k, c, [], _ => by have := bin_pos (n := k + c) (k := k) (by omega); simp [brd]; omega
  | k, c, x :: xs, h => by
    have h1 := brd_le h.tail
    have hk : 1 ≤ k := by have := h.1; rw [List.length_cons] at this; omega
    have hp := pascal hk h.mx_pos
    have hm := bin_mono (n := k + mx (x :: xs)) (m := k + c) k (by have := h.mx_le; omega)
    simp only [brd]
    omega
theorem brd_room : ∀ {k c : Nat} {st : List Nat}, Sta k c st → 1 ≤ c → brd (k + 1) st + 1 ≤ brd k st + bin (k + c) (k + 1)
  | k, c, [], _, hc => by have := bin_pos (n := k + c) (k := k + 1) (by omega); simp [brd]; omega
  | k, c, x :: xs, h, hc => by
    have hk : 1 ≤ k := by have := h.1; rw [List.length_cons] at this; omega
    have h1 := brd_room h.tail h.mx_pos
    obtain ⟨j, rfl⟩ : ∃ j, k = j + 1 := ⟨k - 1, by omega⟩
    have hp := h.mx_pos
    have hm := bin_mono (n := j + 1 + mx (x :: xs)) (m := j + 1 + c) (j + 1 + 1) (by have := h.mx_le; omega)
    simp only [brd]
    rw [show j + 1 + 1 - 1 = j + 1 by omega, show j + 1 - 1 = j by omega] at *
    generalize mx (x :: xs) = M at *
    obtain ⟨m, rfl⟩ : ∃ m, M = m + 1 := ⟨M - 1, by omega⟩
    have e1 : bin (j + 1 + 1 + (m + 1) - 1) (j + 1 + 1) = bin (j + (m + 1)) (j + 1) + bin (j + 1 + m) (j + 1 + 1) := by
      rw [show j + 1 + 1 + (m + 1) - 1 = (j + m + 1) + 1 by omega, bin_succ, show j + m + 1 = j + (m + 1) by omega, show j + 1 + m = j + (m + 1) by omega]
    have e2 : bin (j + 1 + (m + 1)) (j + 1 + 1) = bin (j + (m + 1)) (j + 1) + bin (j + 1 + m) (j + 1 + 1) := by
      rw [show j + 1 + (m + 1) = (j + (m + 1)) + 1 by omega, bin_succ, show j + 1 + m = j + (m + 1) by omega]
    rw [show j + 1 + (m + 1) - 1 = j + (m + 1) by omega]
    omega
/-- element by element at most -/
def Le2 : List Nat → List Nat → Prop
  | [], _ => True
  | _ :: _, [] => False
  | x :: xs, y :: ys => x ≤ y ∧ Le2 xs ys
theorem Le2.refl : ∀ xs : List Nat, Le2 xs xs
  | [] => trivial
  | _ :: xs => ⟨Nat.le_refl _, Le2.refl xs⟩
theorem Le2.mx : ∀ {xs ys : List Nat}, Le2 xs ys → mx xs ≤ mx ys
  | [], _, _ => Nat.zero_le _
  | _ :: _, _ :: _, h => by
    have := Le2.mx h.2
    have := h.1
    rw [mx_cons, mx_cons]; omega
theorem Le2.brd : ∀ {k : Nat} {xs ys : List Nat}, Le2 xs ys → brd k xs ≤ brd k ys
  | _, [], _, _ => Nat.zero_le _
  | k, x :: xs, y :: ys, h => by
    have h1 := Le2.brd (k := k - 1) h.2
    have h2 := Le2.mx (xs := x :: xs) (ys := y :: ys) h
    have h3 := bin_mono (n := k + MB.mx (x :: xs) - 1) (m := k + MB.mx (y :: ys) - 1) k (by omega)
    simp only [MB.brd]
    omega
theorem Le2.dropLast : ∀ xs : List Nat, Le2 xs.dropLast xs
  | [] => trivial
  | [_] => trivial
  | x :: y :: xs => ⟨Nat.le_refl _, Le2.dropLast (y :: xs)⟩
theorem Le2.set : ∀ {xs : List Nat} {i v x : Nat}, xs[i]? = some x → v ≤ x → Le2 (xs.set i v) xs
  | [], i, v, x, h, _ => by simp at h
  | y :: ys, 0, v, x, h, hv => by
    simp at h; subst h
    exact ⟨hv, Le2.refl _⟩
  | y :: ys, i + 1, v, x, h, hv => ⟨Nat.le_refl _, Le2.set (by simpa using h) hv⟩
theorem brd_tail : ∀ {k x : Nat} {xs : List Nat}, brd k xs ≤ brd k (x :: xs)
  | k, x, [] => Nat.zero_le _
  | k, x, y :: ys => by
    have h1 := brd_tail (k := k - 1) (x := y) (xs := ys)
    have h3 := bin_mono (n := k + mx (y :: ys) - 1) (m := k + mx (x :: y :: ys) - 1) k (by simp only [mx]; omega)
    show bin (k + mx (y :: ys) - 1) k + brd (k - 1) ys ≤ bin (k + mx (x :: y :: ys) - 1) k + brd (k - 1) (y :: ys)
    omega
end MB

set_option maxHeartbeats 4000000
namespace MB
/-- the state after a flush that merges m runs -/
def sa (st : List Nat) (m : Nat) : List Nat := st.take (st.length - m) ++ [1 + mx (st.drop (st.length - m))]
theorem mx_append : ∀ xs ys : List Nat, mx (xs ++ ys) = max (mx xs) (mx ys)
  | [], ys => by simp [mx]
  | x :: xs, ys => by rw [List.cons_append, mx_cons, mx_cons, mx_append xs ys]; omega
theorem sa_all (st : List Nat) : sa st st.length = [1 + mx st] := by simp [sa]
theorem sa_cons {x : Nat} {xs : List Nat} {m : Nat} (h : m ≤ xs.length) : sa (x :: xs) m = x :: sa xs m := by
  unfold sa
  rw [List.length_cons, show xs.length + 1 - m = (xs.length - m) + 1 by omega]
  simp
theorem sa_len {st : List Nat} {m : Nat} (h : m ≤ st.length) : (sa st m).length = st.length - m + 1 := by
  unfold sa
  rw [List.length_append, List.length_take]
  simp
theorem sa_mx {st : List Nat} {m : Nat} : mx st ≤ mx (sa st m) := by
  unfold sa
  rw [mx_append]
  have h := mx_append (st.take (st.length - m)) (st.drop (st.length - m))
  rw [List.take_append_drop] at h
  simp only [mx]
  omega
/-- elements from 1 on, as many as there is room for -/
def Pos (k : Nat) (st : List Nat) : Prop := st.length ≤ k ∧ ∀ x, x ∈ st → 1 ≤ x
theorem Sta.pos {k c : Nat} {st : List Nat} (h : Sta k c st) : Pos k st := ⟨h.1, fun x hx => (h.2 x hx).1⟩
theorem Pos.sta {k : Nat} {st : List Nat} (h : Pos k st) : Sta k (mx st) st := ⟨h.1, fun x hx => ⟨h.2 x hx, mx_mem hx⟩⟩
theorem Pos.tail {k x : Nat} {xs : List Nat} (h : Pos k (x :: xs)) : Pos (k - 1) xs ∧ 1 ≤ k ∧ 1 ≤ x :=
  ⟨⟨by have := h.1; rw [List.length_cons] at this; omega, fun y hy => h.2 y (List.mem_cons_of_mem _ hy)⟩, by have := h.1; rw [List.length_cons] at this; omega, h.2 x (List.mem_cons_self ..)⟩
theorem brd_one (k v : Nat) : brd k [1 + v] = bin (k + v) k := by
  simp only [brd, mx]
  rw [show k + max (1 + v) 0 - 1 = k + v by omega]; rfl
/-- every flush costs at least one -/
theorem brd_sa : ∀ {k : Nat} {st : List Nat} {m : Nat}, Pos k st → m ≤ st.length → brd k st + 1 ≤ brd k (sa st m)
  | k, [], m, h, hm => by
    have : m = 0 := by simpa using hm
    subst this
    show brd k [] + 1 ≤ brd k [1 + 0]
    rw [brd_one, show k + 0 = k by omega, bin_self]
    simp [brd]
  | k, x :: xs, m, h, hm => by
    by_cases e : m = xs.length + 1
    · subst e
      rw [show xs.length + 1 = (x :: xs).length from rfl, sa_all, brd_one]
      exact brd_le h.sta
    · have hm' : m ≤ xs.length := by rw [List.length_cons] at hm; omega
      obtain ⟨h1, hk, hx⟩ := h.tail
      have ih := brd_sa h1 hm'
      rw [sa_cons hm']
      have hm2 := sa_mx (st := xs) (m := m)
      have hb := bin_mono (n := k + mx (x :: xs) - 1) (m := k + mx (x :: sa xs m) - 1) k (by rw [mx_cons, mx_cons]; omega)
      simp only [brd]
      omega
/-- what stands before the merged runs is greater than they are; these are exhausted -/
def Tight (k : Nat) (st : List Nat) (j : Nat) : Prop := (j = 0 ∨ ∃ y, st[j - 1]? = some y ∧ mx (st.drop j) < y) ∧ brd (k - j) (st.drop j) + 1 = bin (k - j + mx (st.drop j)) (k - j)
theorem brd_sa_eq : ∀ {k : Nat} {st : List Nat} {m : Nat}, Pos k st → m ≤ st.length → (brd k (sa st m) = brd k st + 1 ↔ Tight k st (st.length - m))
  | k, [], m, h, hm => by
    have : m = 0 := by simpa using hm
    subst this
    have e1 : brd k (sa [] 0) = 1 := by
      show brd k [1 + 0] = 1
      rw [brd_one, show k + 0 = k by omega, bin_self]
    rw [e1]
    refine ⟨fun _ => ⟨.inl rfl, ?_⟩, fun _ => by simp [brd]⟩
    simp only [List.drop_nil, mx, brd, List.length_nil]
    rw [show k - (0 - 0) + 0 = k - (0 - 0) by omega, bin_self]
  | k, x :: xs, m, h, hm => by
    by_cases e : m = xs.length + 1
    · subst e
      rw [show xs.length + 1 = (x :: xs).length from rfl, sa_all, brd_one, Nat.sub_self]
      constructor
      · intro e
        refine ⟨.inl rfl, ?_⟩
        simp only [Nat.sub_zero, List.drop_zero]
        omega
      · rintro ⟨_, e⟩
        simp only [Nat.sub_zero, List.drop_zero] at e
        omega
    · have hm' : m ≤ xs.length := by rw [List.length_cons] at hm; omega
      obtain ⟨h1, hk, hx⟩ := h.tail
      have ih := brd_sa_eq h1 hm'
      have ih1 := brd_sa h1 hm'
      rw [sa_cons hm']
      have hm2 := sa_mx (st := xs) (m := m)
      have hb := bin_mono (n := k + mx (x :: xs) - 1) (m := k + mx (x :: sa xs m) - 1) k (by rw [mx_cons, mx_cons]; omega)
      have hJ : (x :: xs).length - m = (xs.length - m) + 1 := by rw [List.length_cons]; omega
      rw [hJ]
      have hd : (x :: xs).drop (xs.length - m + 1) = xs.drop (xs.length - m) := rfl
      have hkk : k - (xs.length - m + 1) = k - 1 - (xs.length - m) := by omega
      have e1 : brd k (x :: sa xs m) = bin (k + mx (x :: sa xs m) - 1) k + brd (k - 1) (sa xs m) := rfl
      have e2 : brd k (x :: xs) = bin (k + mx (x :: xs) - 1) k + brd (k - 1) xs := rfl
      have step : brd k (x :: sa xs m) = brd k (x :: xs) + 1 ↔ (mx (x :: sa xs m) = mx (x :: xs) ∧ brd (k - 1) (sa xs m) = brd (k - 1) xs + 1) := by
        constructor
        · intro e
          have hq : bin (k + mx (x :: sa xs m) - 1) k = bin (k + mx (x :: xs) - 1) k := by omega
          refine ⟨?_, by omega⟩
          by_cases c : mx (x :: sa xs m) = mx (x :: xs)
          · exact c
          · have h0 : 1 ≤ mx (x :: xs) := by rw [mx_cons]; omega
            have h00 : mx (x :: xs) < mx (x :: sa xs m) := by rw [mx_cons, mx_cons] at c ⊢; omega
            have := bin_strict (n := k + mx (x :: xs) - 1) (m := k + mx (x :: sa xs m) - 1) (k := k) hk (by omega) (by omega)
            omega
        · rintro ⟨c1, c2⟩
          rw [e1, e2, c1, c2]; omega
      rw [step, ih]
      unfold Tight
      rw [hd, hkk]
      have hdec : mx xs = max (mx (xs.take (xs.length - m))) (mx (xs.drop (xs.length - m))) := by
        rw [← mx_append, List.take_append_drop]
      have hsa : mx (sa xs m) = max (mx (xs.take (xs.length - m))) (1 + mx (xs.drop (xs.length - m))) := by
        unfold sa; rw [mx_append]; simp [mx]
      constructor
      · rintro ⟨c1, c2, c3⟩
        refine ⟨.inr ?_, c3⟩
        rcases c2 with c2 | ⟨y, y1, y2⟩
        · rw [c2] at hsa hdec ⊢
          simp only [List.take_zero, mx] at hsa hdec
          refine ⟨x, rfl, ?_⟩
          rw [mx_cons, mx_cons] at c1
          omega
        · by_cases z : xs.length - m = 0
          · rw [z] at hsa hdec ⊢
            simp only [List.take_zero, mx] at hsa hdec
            refine ⟨x, rfl, ?_⟩
            rw [mx_cons, mx_cons] at c1
            omega
          · refine ⟨y, ?_, y2⟩
            rw [show xs.length - m + 1 - 1 = (xs.length - m - 1) + 1 by omega, List.getElem?_cons_succ]
            exact y1
      · rintro ⟨c2, c3⟩
        rcases c2 with c2 | ⟨y, y1, y2⟩
        · omega
        · by_cases z : xs.length - m = 0
          · rw [z] at y1 y2 hsa hdec c3 ⊢
            simp only [List.take_zero, mx] at hsa hdec
            have : y = x := by simpa using y1.symm
            subst this
            refine ⟨by rw [mx_cons, mx_cons]; omega, .inl rfl, c3⟩
          · rw [show xs.length - m + 1 - 1 = (xs.length - m - 1) + 1 by omega, List.getElem?_cons_succ] at y1
            have hy : y ≤ mx (xs.take (xs.length - m)) := by
              refine mx_mem (List.mem_of_getElem? (i := xs.length - m - 1) ?_)
              rw [List.getElem?_take, if_pos (by omega)]; exact y1
            refine ⟨by rw [mx_cons, mx_cons]; omega, .inr ⟨y, y1, y2⟩, c3⟩
/-- nothing is left: no room, and the newest run at the limit -/
theorem exh_iff : ∀ {k R : Nat} {xs : List Nat}, Sta k R xs → (brd k xs + 1 = bin (k + R) k ↔ (R = 0 ∨ (xs.length = k ∧ ∀ y, xs.getLast? = some y → y = R)))
  | k, R, [], h => by
    simp only [brd, List.length_nil, List.getLast?_nil]
    constructor
    · intro e
      by_cases hR : R = 0
      · exact .inl hR
      · refine .inr ⟨?_, by simp⟩
        by_cases hk : k = 0
        · exact hk.symm
        · have := bin_big (k := k) (c := R) (by omega); omega
    · rintro (rfl | ⟨rfl, _⟩)
      · show 0 + 1 = bin k k
        rw [bin_self]
      · rw [bin_zero]
  | k, R, x :: xs, h => by
    have hk : 1 ≤ k := by have := h.1; rw [List.length_cons] at this; omega
    have hM := h.mx_pos
    have hMR := h.mx_le
    have ht := h.tail
    have hp := pascal hk hM
    have hle := brd_le ht
    have e2 : brd k (x :: xs) = bin (k + mx (x :: xs) - 1) k + brd (k - 1) xs := rfl
    have hR : R ≠ 0 := by omega
    have key : brd k (x :: xs) + 1 = bin (k + R) k ↔ (mx (x :: xs) = R ∧ brd (k - 1) xs + 1 = bin (k - 1 + R) (k - 1)) := by
      constructor
      · intro e
        have hmm : mx (x :: xs) = R := by
          by_cases c : mx (x :: xs) = R
          · exact c
          · have := bin_strict (n := k + mx (x :: xs)) (m := k + R) (k := k) hk (by omega) (by omega)
            omega
        rw [hmm] at hp e2
        exact ⟨hmm, by omega⟩
      · rintro ⟨c1, c2⟩
        rw [c1] at hp e2
        omega
    rw [key]
    constructor
    · rintro ⟨c1, c2⟩
      rw [c1] at ht
      rcases (exh_iff ht).mp c2 with c | ⟨c3, c4⟩
      · exact absurd c hR
      · refine .inr ⟨by rw [List.length_cons]; omega, fun y hy => ?_⟩
        cases xs with
        | nil =>
          have : y = x := by simpa using hy.symm
          subst this
          simpa [mx] using c1
        | cons z zs =>
          rw [List.getLast?_cons_cons] at hy
          exact c4 y hy
    · rintro (c | ⟨c3, c4⟩)
      · exact absurd c hR
      · have hlast : ∃ y, (x :: xs).getLast? = some y := ⟨(x :: xs).getLast (by simp), List.getLast?_eq_some_getLast (by simp)⟩
        obtain ⟨y, hy⟩ := hlast
        have hyR := c4 y hy
        subst hyR
        have hmm : mx (x :: xs) = y := by
          have := mx_mem (List.mem_of_getLast? hy)
          omega
        refine ⟨hmm, ?_⟩
        rw [hmm] at ht
        refine (exh_iff ht).mpr (.inr ⟨by rw [List.length_cons] at c3; omega, fun z hz => ?_⟩)
        cases xs with
        | nil => simp at hz
        | cons u us =>
          rw [List.getLast?_cons_cons] at hy
          rw [hz] at hy
          exact Option.some.inj hy
/-- the bound of what is merged: the next older run, or the limit of writes -/
def bnd (c : Nat) (st : List Nat) (j : Nat) : Nat := (c :: st).getD j 0
def tst (c : Nat) (st : List Nat) (m : Nat) : Prop := mx (st.drop (st.length - m)) < bnd c st (st.length - m)
def few (k : Nat) (st : List Nat) : Nat := if st.length < k then 0 else 1
/-- what best_merge returns -/
def Bm (k c : Nat) (st : List Nat) (m : Nat) : Prop := few k st ≤ m ∧ m ≤ st.length ∧ tst c st m ∧ ∀ m', few k st ≤ m' → m' < m → ¬ tst c st m'
def BmN (k c : Nat) (st : List Nat) : Prop := ∀ m, few k st ≤ m → m ≤ st.length → ¬ tst c st m
theorem bnd_zero {c : Nat} {st : List Nat} : bnd c st 0 = c := rfl
theorem bnd_succ {c j : Nat} {st : List Nat} {y : Nat} (h : st[j]? = some y) : bnd c st (j + 1) = y := by
  simp [bnd, List.getD_eq_getElem?_getD, h]
/-- while no test holds, the greatest of the merged runs is the newest one -/
theorem chain {c : Nat} {st : List Nat} {m : Nat} (hm : m ≤ st.length) (hno : ∀ m', 1 ≤ m' → m' < m → ¬ tst c st m') (h1 : 1 ≤ m) : ∀ y, st.getLast? = some y → mx (st.drop (st.length - m)) = y := by
  induction m with
  | zero => omega
  | succ m ih =>
    intro y hy
    by_cases hm0 : m = 0
    · subst hm0
      have hne : st ≠ [] := by intro e; subst e; simp at hy
      have hpos := List.length_pos_iff.mpr hne
      have e : st.drop (st.length - (0 + 1)) = [st.getLast hne] := by
        rw [List.drop_eq_getElem_cons (show st.length - (0 + 1) < st.length by omega), show st.length - (0 + 1) + 1 = st.length by omega, List.drop_length, List.getLast_eq_getElem]
      rw [e]
      rw [List.getLast?_eq_some_getLast hne] at hy
      have := Option.some.inj hy
      simp [mx, this]
    · have ih' := ih (by omega) (fun m' a b => hno m' a (by omega)) (by omega) y hy
      have hf := hno m (by omega) (by omega)
      have hj : st.length - m = (st.length - (m + 1)) + 1 := by omega
      have hlt : st.length - (m + 1) < st.length := by omega
      have ed : st.drop (st.length - (m + 1)) = st[st.length - (m + 1)] :: st.drop (st.length - m) := by
        rw [hj]; exact List.drop_eq_getElem_cons hlt
      unfold tst at hf
      rw [hj, bnd_succ (List.getElem?_eq_getElem hlt), ← hj] at hf
      rw [ed, mx_cons]
      omega
theorem last_mem {st : List Nat} {y : Nat} (h : st.getLast? = some y) : y ∈ st := List.mem_of_getLast? h
theorem sa_sta {k c : Nat} {st : List Nat} {m : Nat} (h : Sta k c st) (hm : m ≤ st.length) (h1 : st.length - m + 1 ≤ k) (h2 : 1 + mx (st.drop (st.length - m)) ≤ c) : Sta k c (sa st m) := by
  refine ⟨by rw [sa_len hm]; exact h1, fun x hx => ?_⟩
  unfold sa at hx
  rcases List.mem_append.mp hx with hx | hx
  · exact h.2 x (List.mem_of_mem_take hx)
  · have : x = 1 + mx (st.drop (st.length - m)) := by simpa using hx
    subst this
    omega
theorem tst_ok {k c : Nat} {st : List Nat} {m : Nat} (h : Sta k c st) (hm : m ≤ st.length) (ht : tst c st m) : 1 + mx (st.drop (st.length - m)) ≤ c ∧ (st.length - m = 0 ∨ ∃ y, st[st.length - m - 1]? = some y ∧ mx (st.drop (st.length - m)) < y) := by
  unfold tst at ht
  by_cases hj : st.length - m = 0
  · rw [hj, bnd_zero] at ht
    exact ⟨by rw [hj]; omega, .inl hj⟩
  · have hlt : st.length - m - 1 < st.length := by omega
    have e : st.length - m = (st.length - m - 1) + 1 := by omega
    have hb := bnd_succ (c := c) (List.getElem?_eq_getElem hlt)
    rw [← e] at hb
    rw [hb] at ht
    have := h.2 _ (List.getElem_mem hlt)
    exact ⟨by omega, .inr ⟨_, List.getElem?_eq_getElem hlt, ht⟩⟩
theorem Bm.good {k c : Nat} {st : List Nat} {m : Nat} (h : Sta k c st) (b : Bm k c st m) : Sta k c (sa st m) ∧ brd k (sa st m) = brd k st + 1 := by
  obtain ⟨b1, b2, b3, b4⟩ := b
  obtain ⟨t1, t2⟩ := tst_ok h b2 b3
  have hl := h.1
  by_cases hk : st.length < k
  · have hf : few k st = 0 := if_pos hk
    have hm0 : m = 0 := by
      by_cases c0 : m = 0
      · exact c0
      · exfalso
        refine b4 0 (by omega) (by omega) ?_
        unfold tst
        rw [Nat.sub_zero, List.drop_length]
        have hlt : st.length - 1 < st.length := by omega
        have e : st.length = (st.length - 1) + 1 := by omega
        have hb := bnd_succ (c := c) (List.getElem?_eq_getElem hlt)
        rw [← e] at hb
        rw [hb]
        exact (h.2 _ (List.getElem_mem hlt)).1
    subst hm0
    refine ⟨sa_sta h b2 (by omega) t1, (brd_sa_eq h.pos b2).mpr ⟨t2, ?_⟩⟩
    rw [Nat.sub_zero, List.drop_length]
    show 0 + 1 = bin (k - st.length) (k - st.length)
    rw [bin_self]
  · have hf : few k st = 1 := if_neg hk
    rw [hf] at b1 b4
    refine ⟨sa_sta h b2 (by omega) t1, (brd_sa_eq h.pos b2).mpr ⟨t2, ?_⟩⟩
    have hne : st ≠ [] := by intro e; subst e; simp at b2; omega
    have hy : st.getLast? = some (st.getLast hne) := List.getLast?_eq_some_getLast hne
    have hc := chain b2 b4 b1 _ hy
    have hS : Sta (k - (st.length - m)) (mx (st.drop (st.length - m))) (st.drop (st.length - m)) :=
      ⟨by rw [List.length_drop]; omega, fun x hx => ⟨(h.2 x (List.mem_of_mem_drop hx)).1, mx_mem hx⟩⟩
    refine (exh_iff hS).mpr (.inr ⟨by rw [List.length_drop]; omega, fun y hy2 => ?_⟩)
    rw [hc]
    rw [List.getLast?_drop, if_neg (by omega), hy] at hy2
    exact (Option.some.inj hy2).symm
theorem BmN.zero {k c : Nat} {st : List Nat} (h : Sta k c st) (b : BmN k c st) : brd k st + 1 = bin (k + c) k := by
  have hl := h.1
  refine (exh_iff h).mpr ?_
  by_cases hk : st.length < k
  · have hf : few k st = 0 := if_pos hk
    have h0 := b 0 (by omega) (by omega)
    unfold tst at h0
    rw [Nat.sub_zero, List.drop_length] at h0
    by_cases hn : st.length = 0
    · rw [hn, bnd_zero] at h0
      simp only [mx] at h0
      exact .inl (by omega)
    · exfalso
      have hlt : st.length - 1 < st.length := by omega
      have e : st.length = (st.length - 1) + 1 := by omega
      have hb := bnd_succ (c := c) (List.getElem?_eq_getElem hlt)
      rw [← e] at hb
      rw [hb] at h0
      have := (h.2 _ (List.getElem_mem hlt)).1
      simp only [mx] at h0
      omega
  · have hf : few k st = 1 := if_neg hk
    refine .inr ⟨by omega, fun y hy => ?_⟩
    have hne : st ≠ [] := by intro e; subst e; simp at hy
    have h1 : 1 ≤ st.length := by have := List.length_pos_iff.mpr hne; omega
    have hc := chain (c := c) (Nat.le_refl _) (fun m' a b' => b m' (by omega) (by omega)) h1 y hy
    have hlast := b st.length (by omega) (Nat.le_refl _)
    unfold tst at hlast
    rw [Nat.sub_self, bnd_zero] at hlast
    rw [Nat.sub_self] at hc
    have := (h.2 y (last_mem hy)).2
    omega
/-- only one merge costs just one -/
theorem good_uniq {k c : Nat} {st : List Nat} {m n : Nat} (h : Sta k c st) (hm : m ≤ st.length) (hn : n ≤ st.length) (s1 : Sta k c (sa st m)) (s2 : Sta k c (sa st n)) (e1 : brd k (sa st m) = brd k st + 1) (e2 : brd k (sa st n) = brd k st + 1) : m = n := by
  have hl := h.1
  have look : ∀ m, m ≤ st.length → Sta k c (sa st m) → brd k (sa st m) = brd k st + 1 → (m = 0 ∧ st.length < k) ∨ (1 ≤ m ∧ st.length = k ∧ (∀ y, st.getLast? = some y → y = mx (st.drop (st.length - m))) ∧ (st.length - m = 0 ∨ ∃ y, st[st.length - m - 1]? = some y ∧ mx (st.drop (st.length - m)) < y)) := fun m hm s e => by
    obtain ⟨t1, t2⟩ := (brd_sa_eq h.pos hm).mp e
    have hs := s.1
    rw [sa_len hm] at hs
    by_cases h0 : m = 0
    · exact .inl ⟨h0, by omega⟩
    · refine .inr ⟨by omega, ?_⟩
      have hS : Sta (k - (st.length - m)) (mx (st.drop (st.length - m))) (st.drop (st.length - m)) :=
        ⟨by rw [List.length_drop]; omega, fun x hx => ⟨(h.2 x (List.mem_of_mem_drop hx)).1, mx_mem hx⟩⟩
      rcases (exh_iff hS).mp t2 with c | ⟨c1, c2⟩
      · exfalso
        have hlt : st.length - m < st.length := by omega
        have hmem : st[st.length - m] ∈ st.drop (st.length - m) := by
          rw [List.drop_eq_getElem_cons hlt]; exact List.mem_cons_self ..
        have := mx_mem hmem
        have := (h.2 _ (List.getElem_mem hlt)).1
        omega
      · rw [List.length_drop] at c1
        refine ⟨by omega, fun y hy => c2 y ?_, t1⟩
        rw [List.getLast?_drop, if_neg (by omega)]; exact hy
  have order : ∀ m n, m ≤ st.length → n ≤ st.length → m < n → Sta k c (sa st m) → Sta k c (sa st n) → brd k (sa st m) = brd k st + 1 → brd k (sa st n) = brd k st + 1 → False := fun m n hm hn hlt s1 s2 e1 e2 => by
    rcases look m hm s1 e1 with ⟨a1, a2⟩ | ⟨a1, a2, a3, a4⟩
    · rcases look n hn s2 e2 with ⟨b1, b2⟩ | ⟨b1, b2, b3, b4⟩ <;> omega
    · rcases look n hn s2 e2 with ⟨b1, b2⟩ | ⟨b1, b2, b3, b4⟩
      · omega
      · have hne : st ≠ [] := by intro e; subst e; simp at hn; omega
        have hy : st.getLast? = some (st.getLast hne) := List.getLast?_eq_some_getLast hne
        have q1 := a3 _ hy
        have q2 := b3 _ hy
        rcases a4 with a4 | ⟨y, y1, y2⟩
        · omega
        · have hmem : y ∈ st.drop (st.length - n) := by
            refine List.mem_of_getElem? (i := (st.length - m - 1) - (st.length - n)) ?_
            rw [List.getElem?_drop, show st.length - n + (st.length - m - 1 - (st.length - n)) = st.length - m - 1 by omega]
            exact y1
          have := mx_mem hmem
          omega
  rcases Nat.lt_trichotomy m n with c | c | c
  · exact (order m n hm hn c s1 s2 e1 e2).elim
  · exact c
  · exact (order n m hn hm c s2 s1 e2 e1).elim
end MB

set_option maxHeartbeats 4000000
namespace MB
/-- no newer run is above an older one -/
def Desc (st : List Nat) : Prop := st.Pairwise fun x y => y ≤ x
theorem Desc.mx {x : Nat} {xs : List Nat} (h : Desc (x :: xs)) : mx (x :: xs) = x := by
  have h1 := (List.pairwise_cons.mp h).1
  have := MB.mx_le (c := x) h1
  rw [mx_cons]; omega
theorem Desc.tail {x : Nat} {xs : List Nat} (h : Desc (x :: xs)) : Desc xs := (List.pairwise_cons.mp h).2
/-- the lengths of the runs -/
def lens : Nat → List Nat → List Nat
  | _, [] => []
  | k, x :: xs => bin (k + x - 1) k :: lens (k - 1) xs
theorem lens_len : ∀ (k : Nat) (st : List Nat), (lens k st).length = st.length
  | _, [] => rfl
  | k, x :: xs => by simp [lens, lens_len (k - 1) xs]
theorem lw_desc {k x : Nat} {xs : List Nat} (h : Pos k (x :: xs)) (d : Desc (x :: xs)) : lwr k (brd k (x :: xs)) = x := by
  obtain ⟨h1, hk, hx⟩ := h.tail
  have hb := brd_le h.sta
  have e : brd k (x :: xs) = bin (k + mx (x :: xs) - 1) k + brd (k - 1) xs := rfl
  rw [d.mx] at hb e
  refine (lw_ok _ hk).uniq (Lw.mk' (by omega) (.inr ?_))
  rw [show k + (x - 1) = k + x - 1 by omega]
  omega
theorem rl_desc : ∀ {k : Nat} {st : List Nat}, Pos k st → Desc st → rl k (brd k st) = lens k st
  | k, [], _, _ => by simp [brd, lens, rl_zero]
  | k, x :: xs, h, d => by
    have hl := lw_desc h d
    obtain ⟨h1, hk, hx⟩ := h.tail
    have ih := rl_desc h1 d.tail
    have e : brd k (x :: xs) = bin (k + x - 1) k + brd (k - 1) xs := by
      show bin (k + mx (x :: xs) - 1) k + brd (k - 1) xs = _
      rw [d.mx]
    obtain ⟨j, rfl⟩ : ∃ j, k = j + 1 := ⟨k - 1, by omega⟩
    have hp := bin_pos (n := j + 1 + x - 1) (k := j + 1) (by omega)
    have hne : brd (j + 1) (x :: xs) ≠ 0 := by omega
    rw [rl_succ hne, hl]
    have e2 : j + x = j + 1 + x - 1 := by omega
    rw [e2, e]
    show _ :: _ = bin (j + 1 + x - 1) (j + 1) :: lens (j + 1 - 1) xs
    rw [show bin (j + 1 + x - 1) (j + 1) + brd (j + 1 - 1) xs - bin (j + 1 + x - 1) (j + 1) = brd (j + 1 - 1) xs by omega, show j + 1 - 1 = j by omega]
    rw [show j + 1 - 1 = j by omega] at ih
    rw [ih]
theorem rl_desc_len {k : Nat} {st : List Nat} (h : Pos k st) (d : Desc st) : (rl k (brd k st)).length = st.length := by rw [rl_desc h d, lens_len]
theorem sa_desc {st : List Nat} {m : Nat} (d : Desc st) (hm : m ≤ st.length) (t : st.length - m = 0 ∨ ∃ y, st[st.length - m - 1]? = some y ∧ mx (st.drop (st.length - m)) < y) : Desc (sa st m) := by
  unfold sa Desc
  refine List.pairwise_append.mpr ⟨d.sublist (List.take_sublist _ _), List.pairwise_singleton _ _, fun x hx v hv => ?_⟩
  have hv' : v = 1 + mx (st.drop (st.length - m)) := by simpa using hv
  subst hv'
  rcases t with t | ⟨y, y1, y2⟩
  · rw [t] at hx; simp at hx
  · obtain ⟨i, hi⟩ := List.getElem?_of_mem hx
    rw [List.getElem?_take] at hi
    by_cases c : i < st.length - m
    · rw [if_pos c] at hi
      have hyx : y ≤ x := by
        by_cases e : i = st.length - m - 1
        · subst e; rw [y1] at hi; have := Option.some.inj hi; omega
        · obtain ⟨q1, r1⟩ := List.getElem?_eq_some_iff.mp hi
          obtain ⟨q2, r2⟩ := List.getElem?_eq_some_iff.mp y1
          have := List.pairwise_iff_getElem.mp d i (st.length - m - 1) q1 q2 (by omega)
          omega
      omega
    · rw [if_neg c] at hi; cases hi
theorem Bm.tight {k c : Nat} {st : List Nat} {m : Nat} (h : Sta k c st) (b : Bm k c st m) : st.length - m = 0 ∨ ∃ y, st[st.length - m - 1]? = some y ∧ mx (st.drop (st.length - m)) < y := (tst_ok h b.2.1 b.2.2.1).2
/-- the policy's merges and states -/
def pm (k n : Nat) : Nat := (rl k n).length + 1 - (rl k (n + 1)).length
def pst (k : Nat) : Nat → List Nat
  | 0 => []
  | n + 1 => sa (pst k n) (pm k n)
theorem bm_ex {k c : Nat} {st : List Nat} (h : Sta k c st) (hlt : brd k st + 1 < bin (k + c) k) : ∃ m, Bm k c st m := by
  by_cases e : ∃ m, few k st ≤ m ∧ m ≤ st.length ∧ tst c st m
  · obtain ⟨m, hm⟩ := e
    induction m using Nat.strongRecOn with
    | ind m ih =>
      by_cases c' : ∃ m', m' < m ∧ few k st ≤ m' ∧ m' ≤ st.length ∧ tst c st m'
      · obtain ⟨m', h1, h2⟩ := c'
        exact ih m' h1 h2
      · exact ⟨m, hm.1, hm.2.1, hm.2.2, fun m' a b t => c' ⟨m', b, a, by have := hm.2.1; omega, t⟩⟩
  · exfalso
    have := BmN.zero h fun m a b t => e ⟨m, a, b, t⟩
    omega
/-- the best merge from a descending state is the policy's -/
theorem bm_pm {k c : Nat} {st : List Nat} {m : Nat} (h : Sta k c st) (d : Desc st) (b : Bm k c st m) : m = pm k (brd k st) ∧ Sta k c (sa st m) ∧ Desc (sa st m) ∧ brd k (sa st m) = brd k st + 1 := by
  obtain ⟨g1, g2⟩ := b.good h
  have d2 := sa_desc d b.2.1 (b.tight h)
  refine ⟨?_, g1, d2, g2⟩
  unfold pm
  rw [rl_desc_len h.pos d, ← g2, rl_desc_len g1.pos d2, sa_len b.2.1]
  have := b.2.1
  omega
theorem sta_of {k c : Nat} {st : List Nat} (h : Pos k st) (d : Desc st) (hc : brd k st < bin (k + c) k) : Sta k c st := by
  refine ⟨h.1, fun x hx => ⟨h.2 x hx, ?_⟩⟩
  cases st with
  | nil => cases hx
  | cons y ys =>
    have h1 := lw_desc h d
    have h2 := mx_mem hx
    rw [d.mx] at h2
    obtain ⟨_, hk, _⟩ := h.tail
    have h3 := (lw_ok (brd k (y :: ys)) hk).2
    rw [h1] at h3
    by_cases e : y ≤ c
    · omega
    · have := h3 c (by omega); omega
theorem pst_ok {k : Nat} (hk : 1 ≤ k) : ∀ n, Pos k (pst k n) ∧ Desc (pst k n) ∧ brd k (pst k n) = n
  | 0 => ⟨⟨by simp [pst], by simp [pst]⟩, List.Pairwise.nil, rfl⟩
  | n + 1 => by
    obtain ⟨h1, h2, h3⟩ := pst_ok hk n
    have hb := bin_big (k := k) (c := n + 2) hk
    have hs := sta_of (c := n + 2) h1 h2 (by omega)
    obtain ⟨m, b⟩ := bm_ex hs (by omega)
    obtain ⟨e, g1, g2, g3⟩ := bm_pm hs h2 b
    rw [h3] at e g3
    subst e
    exact ⟨g1.pos, g2, g3⟩
theorem pm_le {k : Nat} (hk : 1 ≤ k) (n : Nat) : pm k n ≤ (pst k n).length := by
  obtain ⟨h1, h2, h3⟩ := pst_ok hk n
  have hb := bin_big (k := k) (c := n + 2) hk
  have hs := sta_of (c := n + 2) h1 h2 (by omega)
  obtain ⟨m, b⟩ := bm_ex hs (by omega)
  obtain ⟨e, _⟩ := bm_pm hs h2 b
  rw [h3] at e
  subst e
  exact b.2.1
theorem pst_len {k : Nat} (hk : 1 ≤ k) (n : Nat) : (pst k n).length = (rl k n).length := by
  obtain ⟨h1, h2, h3⟩ := pst_ok hk n
  have := rl_desc_len h1 h2
  rw [h3] at this
  exact this.symm
theorem pm_int {k : Nat} (hk : 1 ≤ k) (n : Nat) : ((rl k n).length : Int) + 1 - ((rl k (n + 1)).length : Int) = (pm k n : Int) := by
  have h1 := pst_len hk n
  have h2 := pst_len hk (n + 1)
  have h3 := pm_le hk n
  have h4 : (pst k (n + 1)).length = (pst k n).length - pm k n + 1 := sa_len h3
  unfold pm at *
  omega
end MB

set_option maxHeartbeats 4000000
namespace MB
open PySem PySem.Spec PyProof.Rows L2
theorem alike_ints (ns : List Int) : PySem.W.AlikeAll (ns.map PyData.int) := by
  refine ⟨fun x hx y hy => ?_, fun x hx e => ?_⟩
  · obtain ⟨i, _, rfl⟩ := List.mem_map.mp hx
    obtain ⟨j, _, rfl⟩ := List.mem_map.mp hy
    simp [PySem.W.alike]
  · obtain ⟨i, _, rfl⟩ := List.mem_map.mp hx
    cases e
theorem depth_ints : ∀ ns : List Int, PyData.depthAll (ns.map PyData.int) = 0
  | [] => by simp [PyData.depthAll]
  | n :: ns => by simp [PyData.depthAll, PyData.depth, depth_ints ns]
/-! ### max of a tuple of ints; with default= -/
def rMaxT (K : PySem.W.Frag) : List V → Hp → VK → Prop := fun xs H Q => ∃ (a : Addr) (n : Int) (ns : List Int), xs = [V.ref a] ∧ SqT K H a ((n :: ns).map V.int) ∧ Q (.int (ns.foldl max n)) H
theorem cr_maxT {X : Cx} {K : PySem.W.Frag} (hK : X.K = K) (hc : X.calm = true) (hu : X.A.units + 64 < cLine) : CallR X (.builtin "max") (rMaxT K) := by
  subst hK
  intro pins s σ H vs us Q I r h
  obtain ⟨a, n, ns, rfl, hs, q⟩ := h
  obtain ⟨its, rv, hl, _⟩ := I.tuple hs
  rw [Vals.ref1 r]
  obtain ⟨as, rd⟩ := Dp.readsAll I ((n :: ns).map PyData.int) _ its (dp_ints (n :: ns)) rv
  refine PySem.W.max_tuple_data (x := .int n) (xs := ns.map PyData.int) (I.ok.hd hc) hl (by simpa using rd) (alike_ints (n :: ns)) ?_ fun i v h' tk bs _ hr hk => ?_
  · have := depth_ints (n :: ns)
    rw [List.map_cons] at this
    rw [this]; omega
  · rw [PySem.W.maxD_ints] at hr
    cases hr
    exact ⟨.int _, H, I.kept hk, ⟨_, rfl⟩, q⟩
def rMaxDef (K : PySem.W.Frag) : List V → List V → Hp → VK → Prop := fun xs zs H Q => ∃ (a : Addr) (z : Int) (ns : List Int), xs = [V.ref a] ∧ zs = [V.int z] ∧ SqT K H a (ns.map V.int) ∧ (ns = [] → Q (.int z) H) ∧ ∀ m r, ns = m :: r → Q (.int (r.foldl max m)) H
theorem cr_maxDef {X : Cx} {K : PySem.W.Frag} (hK : X.K = K) (hc : X.calm = true) (hu : X.A.units + 64 < cLine) : CallRK X (.builtin "max") [Str.ofString "default"] (rMaxDef K) := by
  subst hK
  intro pins s σ H vs zs us ws Q I r rz h
  obtain ⟨a, z, ns, rfl, rfl, hs, q0, q1⟩ := h
  obtain ⟨its, rv, hl, _⟩ := I.tuple hs
  rw [Vals.ref1 r]
  obtain ⟨u, rfl, tz, rfl⟩ := vals1 rz
  obtain ⟨as, rd⟩ := Dp.readsAll I (ns.map PyData.int) _ its (dp_ints ns) rv
  refine PySem.W.max_tuple_default (xs := ns.map PyData.int) (I.ok.hd hc) hl (by simpa using rd) (alike_ints ns) ?_ (fun e h' tk hk => ?_) fun y ys i v h' tk bs e _ hr hk => ?_
  · rw [depth_ints ns]; omega
  · exact ⟨.int z, H, I.kept hk, ⟨_, rfl⟩, q0 (List.map_eq_nil_iff.mp e)⟩
  · cases ns with
    | nil => cases e
    | cons m t =>
      rw [List.map_cons] at e
      cases e
      rw [PySem.W.maxD_ints] at hr
      cases hr
      exact ⟨.int _, H, I.kept hk, ⟨_, rfl⟩, q1 m t rfl⟩
/-! ### sorted of a tuple of ints -/
section
variable {prog : Program} {w : World} {A : Around} {E : Value → Shared → Prop} {s : Shared}
theorem gather_tuple {p : Addr} {xs : List Value} {R : List Value → Shared → Prop} (ht : s.heap.IsTuple p xs.toArray) (hz : xs.length ≤ sizeLine)
    (q : R xs { s with heap := (s.heap.push (seqObj "list" #[] 0)).update s.heap.objs.size (Obj.mapSeq (· ++ xs.toArray)) }) : wpAny (model prog w) A (collect (.ref p)) R E s := by
  obtain ⟨ob, hob, hcl, ep, hdt⟩ := id ht
  unfold collect
  refine wpAny_bind (wpAny_runValue (codeAny_builtin entry_proto_collect' (show wpAny _ _ (do again (.builtin "list.__iadd__" ⟨[← newList [], .ref p], []⟩)) _ _ s from ?_)))
  refine wpAny_bind (wpAny_newList (wpAny_pure ⟨Code.quiet_builtin _ (by decide +kernel), codeAny_builtin entry_list_iadd' (show wpAny _ _ (Builtin.List.listExtendWith (.ref s.heap.objs.size) (.ref p) (.ref s.heap.objs.size)) _ _ { s with heap := s.heap.push (seqObj "list" #[] 0) } from ?_)⟩))
  unfold Builtin.List.listExtendWith
  have hob' : (s.heap.push (seqObj "list" #[] 0)).get? p = some ob := Heap.get?_push_of_some _ hob
  refine wpAny_bind (wpAny_typeOf (T := "tuple") ⟨ob, hob', hcl⟩ ?_)
  have tt : (Value.type "tuple" == Value.type "tuple") = true := by rfl
  rw [if_pos (by rw [tt]; simp)]
  refine wpAny_bind (listItems_at hob' hdt (wpAny_bind (listItems_at (xs := #[]) (n := 0) (Heap.get?_push_size _ rfl) rfl ?_)))
  rw [if_neg (by simp)]
  refine wpAny_bind (listUpdate_at (xs := #[]) (n := 0) (Heap.get?_push_size _ rfl) rfl (wpAny_pure ?_) (Nat.zero_le _) (by show (#[] ++ xs.toArray).size ≤ sizeLine + 1; simp only [Array.size_append, List.size_toArray, List.length_nil]; omega))
  show wpAny (model prog w) A (load s.heap.objs.size >>= _) R E { s with heap := (s.heap.push (seqObj "list" #[] 0)).update s.heap.objs.size (Obj.mapSeq (· ++ xs.toArray)) }
  refine wpAny_bind (wpAny_load (get?_update_seq (Heap.get?_push_size _ rfl) _) (show wpAny _ _ (pure ((#[] : Array Value) ++ xs.toArray).toList) R E _ from ?_))
  have ex : ((#[] : Array Value) ++ xs.toArray).toList = xs := by simp
  rw [ex]
  exact wpAny_pure q
theorem sorted_tup {p : Addr} {xs : List Value} {ns : List Int} {Q : Value → Shared → Prop} (ht : s.heap.IsTuple p xs.toArray) (hz : xs.length ≤ sizeLine) (hi : IntsAre xs ns)
    (q : ∀ out : List Value, SrtO.Srtd SrtO.ltIv out → SrtO.Stb SrtO.ltIv out xs → Q (.ref (s.heap.objs.size + 1)) { s with heap := sortedAll s.heap xs out.toArray }) :
    wpAny (model prog w) A (call (.builtin "sorted") [.ref p]) Q E s := by
  refine Calls.call_function_entry kind_sorted plain_sorted entry_sorted (args_sorted1 _) ?_
  unfold Builtin.«sorted»
  refine wpAny_bind (m := checkCount "sorted" 1 1 _) (wpAny_pure (wpAny_bind (gather_tuple ht hz (wpAny_bind (wpAny_newList ?_ hz)))))
  have sz1 : ((s.heap.push (seqObj "list" #[] 0)).update s.heap.objs.size (Obj.mapSeq (· ++ xs.toArray))).objs.size = s.heap.objs.size + 1 := (Heap.size_update ..).trans (Heap.size_push ..)
  have hoL := Heap.get?_push_size ((s.heap.push (seqObj "list" #[] 0)).update s.heap.objs.size (Obj.mapSeq (· ++ xs.toArray))) (o := seqObj "list" xs.toArray 0) rfl
  rw [sz1] at hoL
  show wpAny _ _ _ _ _ { s with heap := ((s.heap.push (seqObj "list" #[] 0)).update s.heap.objs.size (Obj.mapSeq (· ++ xs.toArray))).push (seqObj "list" xs.toArray 0) }
  rw [sz1]
  exact wpAny_bind (wpAny_holding (wpAny_call_entry PyProof.Rows.slot_list_sort ⟨_, hoL, rfl⟩ PyProof.Rows.entry_list_sort (SrtO.list_sort_ord SrtO.swo_int hoL hz (fun h2 => SrtO.ints_sortable hi h2) fun out hs hb => ⟨_, rfl, wpAny_pure ⟨_, rfl, q out hs hb⟩⟩) (PyProof.Rows.args_list_sort _)))
end
def rSortT (K : PySem.W.Frag) : List V → Hp → VK → Prop := fun xs H Q => ∃ (a : Addr) (ns : List Int), xs = [V.ref a] ∧ SqT K H a (ns.map V.int) ∧ ∀ (ms : List Int) (p : Addr), ms.Perm ns → H p = none → Q (.ref p) (upd H p (.lst (ms.map V.int)))
theorem cr_sortTI {X : Cx} : CallR X (.builtin "sorted") (rSortT X.K) := by
  intro pins s σ H vs us Q I r h
  obtain ⟨a, ns, rfl, hs, q⟩ := h
  obtain ⟨its, rv, hl, hz⟩ := I.tuple hs
  rw [Vals.ref1 r]
  have hi := rv.ints
  refine sorted_tup hl (by rw [← rv.length]; exact hz) hi fun out h1 h2 => ?_
  obtain ⟨k1, k2, k3⟩ := SrtO.ints_out hi h1 h2
  obtain ⟨ep, he'⟩ := sortedAll_at s.heap its out.toArray
  have hlen : ((out.map SrtO.iv).map V.int).length ≤ sizeLine := by
    have := k2.length_eq
    simp only [List.length_map] at this hz ⊢
    omega
  exact ⟨.ref _, upd H (s.heap.objs.size + 1) (.lst ((out.map SrtO.iv).map V.int)), I.laid (t' := s.toks) (fun _ _ e => sortedAll_old e) (Nat.le_succ _) ⟨hlen, out, ep, vals_of_ints k1, he'⟩, rfl, q _ _ k2 (I.hok.fresh (Nat.le_succ _))⟩
end MB

set_option maxHeartbeats 4000000
namespace MB
open PySem PySem.Spec PyProof.Rows L2
/-! ### a body whose first statement never ends in order -/
theorem pss_stop {X : Cx} {st : Stmt} {rest : List Stmt} {t : TS} (h1 : PS X st t) : PSs X (st :: rest) (fun D σ H => t { D with nx := fun _ _ => False } σ H) := by
  refine ⟨fun pins s σ H D I h => ?_⟩
  refine wpAny_execs_cons (thn (h1.run pins s σ H { D with nx := fun _ _ => False } I h) fun f s1 q => ?_)
  cases f with
  | next =>
    obtain ⟨_, _, _, q⟩ := q
    exact q.elim
  | ret v => exact q
  | brk => exact q
  | cont => exact q
/-! ### texts of data are texts -/
theorem strOk_of (s : String) : PyData.strOk (Str.ofString s) = true := by
  rw [Str.ofString_eq_toList]
  unfold PyData.strOk
  rw [← Array.all_toList, List.all_eq_true]
  intro c hc
  obtain ⟨z, _, rfl⟩ := List.mem_map.mp hc
  refine decide_eq_true ?_
  have h := z.valid
  have e : z.toNat = z.val.toNat := rfl
  rcases h with h | h
  · exact Nat.lt_trans (show z.toNat < 0xd800 from h) (by decide)
  · exact h.2
theorem strOk_app {a b : Str} (h1 : PyData.strOk a = true) (h2 : PyData.strOk b = true) : PyData.strOk (a ++ b) = true := by
  show (a.cps ++ b.cps).all _ = true
  rw [Array.all_append]
  rw [Bool.and_eq_true]
  exact ⟨h1, h2⟩
theorem strOk_join {sep : Str} (hs : PyData.strOk sep = true) : ∀ {ts : List Str}, (∀ t, t ∈ ts → PyData.strOk t = true) → PyData.strOk (Str.join sep ts) = true
  | [], _ => by show PyData.strOk Str.empty = true; decide +kernel
  | [x], h => h x (List.mem_cons_self ..)
  | x :: y :: r, h => by
    show PyData.strOk (x ++ sep ++ Str.join sep (y :: r)) = true
    exact strOk_app (strOk_app (h x (List.mem_cons_self ..)) hs) (strOk_join hs fun t ht => h t (List.mem_cons_of_mem _ ht))
theorem strOk_from : ∀ {ts : List Str} {k : Nat} {acc : Str}, PyData.strOk acc = true → (∀ t, t ∈ ts → PyData.strOk t = true) → PyData.strOk (textFrom k acc ts) = true
  | [], _, _, h, _ => h
  | t :: r, k, acc, h, ht => by
    refine strOk_from (ts := r) (k := k + 1) (acc := acc ++ (if k > 0 then ", " else "" : String) ++ t) (strOk_app (strOk_app h (strOk_of _)) (ht t (List.mem_cons_self ..))) fun x hx => ht x (List.mem_cons_of_mem _ hx)
theorem k_reprD {X : Cx} {K : PySem.W.Frag} (e : X.K = K) (hgd : X.A.guards = some []) (hu : X.A.units + 64 < cLine) : CallR X (.builtin "repr") (rReprD K) := by
  rw [← e]; exact call_reprD hgd hu
def SOk (d : PyData) : Prop := PyData.strOk d.shown = true
theorem shownAll_map : ∀ ds : List PyData, PyData.shownAll ds = ds.map PyData.shown
  | [] => rfl
  | d :: ds => by simp only [PyData.shownAll, List.map_cons, shownAll_map ds]
theorem SOk.int {i : Int} : SOk (.int i) := by unfold SOk; simp only [PyData.shown]; exact strOk_of _
theorem SOk.none : SOk .none := by unfold SOk; simp only [PyData.shown]; exact strOk_of _
theorem SOk.bool {b : Bool} : SOk (.bool b) := by unfold SOk; simp only [PyData.shown]; cases b <;> exact strOk_of _
theorem SOk.tup {ds : List PyData} (h : ∀ d, d ∈ ds → SOk d) : SOk (.tuple ds) := by
  unfold SOk
  simp only [PyData.shown]
  rw [shownAll_map]
  unfold tupleText
  refine strOk_app (strOk_app (strOk_of _) (strOk_join (strOk_of _) fun t ht => ?_)) (strOk_of _)
  obtain ⟨d, hd, rfl⟩ := List.mem_map.mp ht
  exact h d hd
theorem SOk.lst {ds : List PyData} (h : ∀ d, d ∈ ds → SOk d) : SOk (.list ds) := by
  unfold SOk
  simp only [PyData.shown]
  rw [shownAll_map]
  unfold listText
  refine strOk_app (strOk_from (strOk_of _) fun t ht => ?_) (strOk_of _)
  obtain ⟨d, hd, rfl⟩ := List.mem_map.mp ht
  exact h d hd
theorem SOk.ints {ns : List Int} : ∀ d, d ∈ ns.map PyData.int → SOk d := fun d hd => by
  obtain ⟨i, _, rfl⟩ := List.mem_map.mp hd
  exact .int
theorem SOk.dic1 {x : Str} {d : PyData} (hx : SOk (.str x)) (h : SOk d) : SOk (.dict [(.str x, d)]) := by
  unfold SOk at *
  simp only [PyData.shown, PyData.shownKv] at *
  unfold dictText
  exact strOk_app (strOk_app (strOk_of _) (strOk_join (strOk_of _) fun t ht => by
    rw [List.mem_singleton.mp ht]
    exact strOk_app (strOk_app hx (strOk_of _)) h)) (strOk_of _)
theorem Sh.str {x : Str} {k : Nat} (h : PyData.strOk x = true) : Sh k (.str x) := ⟨by simp only [PyData.canLay0]; exact h, by simp [PyData.depth]⟩
end MB

set_option maxHeartbeats 4000000
namespace MB
open PySem PySem.Spec PyProof.Rows L2
def topS (i : Nat) : Stmt := PySem.Challenge.pw_mergebudget_k81_whole_tables_certify_wha.main.body.getD i (.Pass ⟨0, 0, 0, 0⟩)
abbrev s_is_int : Stmt := topS 6
abbrev N_is_int : List Str := ["value"]
theorem sc_is_int : FnScope N_is_int ["value"] (defScope s_is_int) := ⟨rfl, rfl, rfl, by decide +kernel, rfl, by decide +kernel, by decide +kernel⟩
abbrev s_is_count : Stmt := topS 7
abbrev N_is_count : List Str := ["value"]
theorem sc_is_count : FnScope N_is_count ["value"] (defScope s_is_count) := ⟨rfl, rfl, rfl, by decide +kernel, rfl, by decide +kernel, by decide +kernel⟩
abbrev s_is_count_up_to : Stmt := topS 8
abbrev N_is_count_up_to : List Str := ["value", "most"]
theorem sc_is_count_up_to : FnScope N_is_count_up_to ["value", "most"] (defScope s_is_count_up_to) := ⟨rfl, rfl, rfl, by decide +kernel, rfl, by decide +kernel, by decide +kernel⟩
abbrev s_check_budgets : Stmt := topS 9
abbrev N_check_budgets : List Str := ["k", "c", "most", "budget"]
theorem sc_check_budgets : FnScope N_check_budgets ["k", "c", "most"] (defScope s_check_budgets) := ⟨rfl, rfl, rfl, by decide +kernel, rfl, by decide +kernel, by decide +kernel⟩
abbrev s_is_state : Stmt := topS 11
abbrev N_is_state : List Str := ["value", "k", "c", "count"]
theorem sc_is_state : FnScope N_is_state ["value", "k", "c"] (defScope s_is_state) := ⟨rfl, rfl, rfl, by decide +kernel, rfl, by decide +kernel, by decide +kernel⟩
abbrev s_check_state : Stmt := topS 12
abbrev N_check_state : List Str := ["state", "k", "c"]
theorem sc_check_state : FnScope N_check_state ["state", "k", "c"] (defScope s_check_state) := ⟨rfl, rfl, rfl, by decide +kernel, rfl, by decide +kernel, by decide +kernel⟩
abbrev s_state_after : Stmt := topS 13
abbrev N_state_after : List Str := ["state", "merge", "kept"]
theorem sc_state_after : FnScope N_state_after ["state", "merge"] (defScope s_state_after) := ⟨rfl, rfl, rfl, by decide +kernel, rfl, by decide +kernel, by decide +kernel⟩
abbrev s_choose : Stmt := topS 14
abbrev N_choose : List Str := ["n", "k", "result", "factor"]
theorem sc_choose : FnScope N_choose ["n", "k"] (defScope s_choose) := ⟨rfl, rfl, rfl, by decide +kernel, rfl, by decide +kernel, by decide +kernel⟩
abbrev s_remaining : Stmt := topS 15
abbrev N_remaining : List Str := ["state", "k", "c", "runs", "most", "flushes", "at", "worst"]
theorem sc_remaining : FnScope N_remaining ["state", "k", "c"] (defScope s_remaining) := ⟨rfl, rfl, rfl, by decide +kernel, rfl, by decide +kernel, by decide +kernel⟩
abbrev s_best_merge : Stmt := topS 16
abbrev N_best_merge : List Str := ["state", "k", "c", "fewest", "bounds", "merge", "kept"]
theorem sc_best_merge : FnScope N_best_merge ["state", "k", "c"] (defScope s_best_merge) := ⟨rfl, rfl, rfl, by decide +kernel, rfl, by decide +kernel, by decide +kernel⟩
abbrev s_potentials : Stmt := topS 19
abbrev N_potentials : List Str := ["state", "k", "c", "reached"]
theorem sc_potentials : FnScope N_potentials ["state", "k", "c"] (defScope s_potentials) := ⟨rfl, rfl, rfl, by decide +kernel, rfl, by decide +kernel, by decide +kernel⟩
abbrev s_check_arguments : Stmt := topS 20
abbrev N_check_arguments : List Str := ["state", "k", "c"]
theorem sc_check_arguments : FnScope N_check_arguments ["state", "k", "c"] (defScope s_check_arguments) := ⟨rfl, rfl, rfl, by decide +kernel, rfl, by decide +kernel, by decide +kernel⟩
abbrev s_all_reached : Stmt := topS 21
abbrev N_all_reached : List Str := ["state", "k", "c", "found", "waiting", "current", "after"]
theorem sc_all_reached : FnScope N_all_reached ["state", "k", "c"] (defScope s_all_reached) := ⟨rfl, rfl, rfl, by decide +kernel, rfl, by decide +kernel, by decide +kernel⟩
abbrev s_states_after : Stmt := topS 22
abbrev N_states_after : List Str := ["state", "k", "c", "candidates", "merge", "after"]
theorem sc_states_after : FnScope N_states_after ["state", "k", "c"] (defScope s_states_after) := ⟨rfl, rfl, rfl, by decide +kernel, rfl, by decide +kernel, by decide +kernel⟩
abbrev s_shows_remaining : Stmt := topS 23
abbrev N_shows_remaining : List Str := ["state", "k", "c", "number", "value", "numbers", "listed", "found"]
theorem sc_shows_remaining : FnScope N_shows_remaining ["state", "k", "c", "number", "value"] (defScope s_shows_remaining) := ⟨rfl, rfl, rfl, by decide +kernel, rfl, by decide +kernel, by decide +kernel⟩
abbrev s_has_rows : Stmt := topS 24
abbrev N_has_rows : List Str := ["value", "k", "c", "row", "following"]
theorem sc_has_rows : FnScope N_has_rows ["value", "k", "c"] (defScope s_has_rows) := ⟨rfl, rfl, rfl, by decide +kernel, rfl, by decide +kernel, by decide +kernel⟩
abbrev s_is_row : Stmt := topS 25
abbrev N_is_row : List Str := ["value", "k", "c"]
theorem sc_is_row : FnScope N_is_row ["value", "k", "c"] (defScope s_is_row) := ⟨rfl, rfl, rfl, by decide +kernel, rfl, by decide +kernel, by decide +kernel⟩
abbrev s_is_justified : Stmt := topS 26
abbrev N_is_justified : List Str := ["state", "numbers", "k", "c", "number", "reached", "after"]
theorem sc_is_justified : FnScope N_is_justified ["state", "numbers", "k", "c"] (defScope s_is_justified) := ⟨rfl, rfl, rfl, by decide +kernel, rfl, by decide +kernel, by decide +kernel⟩
abbrev s_L_s5_hand : Stmt := topS 28
abbrev N_L_s5_hand : List Str := ["_law_script", "_law_nth", "_law_cell", "_law_digits", "_law_mixed"]
theorem sc_L_s5_hand : FnScope N_L_s5_hand ["_law_script", "_law_nth"] (defScope s_L_s5_hand) := ⟨rfl, rfl, rfl, by decide +kernel, rfl, by decide +kernel, by decide +kernel⟩
abbrev s_L_s5_take : Stmt := topS 29
abbrev N_L_s5_take : List Str := ["_law_hand", "_law_size", "_law_digit", "_law_primes", "_law_prime", "_law_mixed", "_law_drawn"]
theorem sc_L_s5_take : FnScope N_L_s5_take ["_law_hand", "_law_size"] (defScope s_L_s5_take) := ⟨rfl, rfl, rfl, by decide +kernel, rfl, by decide +kernel, by decide +kernel⟩
abbrev s_L_s5_of : Stmt := topS 30
abbrev N_L_s5_of : List Str := ["_law_hand", "_law_options"]
theorem sc_L_s5_of : FnScope N_L_s5_of ["_law_hand", "_law_options"] (defScope s_L_s5_of) := ⟨rfl, rfl, rfl, by decide +kernel, rfl, by decide +kernel, by decide +kernel⟩
abbrev s_L_s5_after : Stmt := topS 31
abbrev N_L_s5_after : List Str := ["_law_levels", "_law_taken", "_law_top", "_law_element"]
theorem sc_L_s5_after : FnScope N_L_s5_after ["_law_levels", "_law_taken"] (defScope s_L_s5_after) := ⟨rfl, rfl, rfl, by decide +kernel, rfl, by decide +kernel, by decide +kernel⟩
abbrev s_L_s5_drawn : Stmt := topS 32
abbrev N_L_s5_drawn : List Str := ["_law_hand", "_law_room", "_law_wear", "_law_most", "_law_length", "_law_way", "_law_levels", "_law_index", "_law_great", "_law_small", "_law_any_one"]
theorem sc_L_s5_drawn : FnScope N_L_s5_drawn ["_law_hand", "_law_room", "_law_wear", "_law_most"] (defScope s_L_s5_drawn) := ⟨rfl, rfl, rfl, by decide +kernel, rfl, by decide +kernel, by decide +kernel⟩
abbrev s_L_s5_raised : Stmt := topS 33
abbrev N_L_s5_raised : List Str := ["_law_rows", "_law_levels", "_law_room", "_law_wear", "_law_by", "_law_numbers", "_law_one", "_law_flush", "_law_taken"]
theorem sc_L_s5_raised : FnScope N_L_s5_raised ["_law_rows", "_law_levels", "_law_room", "_law_wear", "_law_by"] (defScope s_L_s5_raised) := ⟨rfl, rfl, rfl, by decide +kernel, rfl, by decide +kernel, by decide +kernel⟩
abbrev s_L_s5_false_tables : Stmt := topS 34
abbrev N_L_s5_false_tables : List Str := ["_law_hand", "_law_rows", "_law_levels", "_law_room", "_law_wear", "_law_claim", "_law_found", "_law_by", "_law_index", "_law_row", "_law_one", "_law_height"]
theorem sc_L_s5_false_tables : FnScope N_L_s5_false_tables ["_law_hand", "_law_rows", "_law_levels", "_law_room", "_law_wear"] (defScope s_L_s5_false_tables) := ⟨rfl, rfl, rfl, by decide +kernel, rfl, by decide +kernel, by decide +kernel⟩
abbrev s_L_s5_right : Stmt := topS 35
abbrev N_L_s5_right : List Str := ["_law_hand", "_law_levels", "_law_room", "_law_wear", "_law_rows", "_law_one", "_law_height", "_law_claim", "_law_item"]
theorem sc_L_s5_right : FnScope N_L_s5_right ["_law_hand", "_law_levels", "_law_room", "_law_wear"] (defScope s_L_s5_right) := ⟨rfl, rfl, rfl, by decide +kernel, rfl, by decide +kernel, by decide +kernel⟩
abbrev s_law : Stmt := topS 36
abbrev N_law : List Str := ["_law_script", "_law_nth", "_law_hand", "_law_turn", "_law_room", "_law_wear", "_law_levels"]
theorem sc_law : FnScope N_law ["_law_script"] (defScope s_law) := ⟨rfl, rfl, rfl, by decide +kernel, rfl, by decide +kernel, by decide +kernel⟩
set_option genInjectivity false in
set_option genSizeOfSpec false in
structure Tx (K : PySem.W.Frag) (mg : Str → Option Value) where
  a_is_int : Addr
  fd_is_int : FuncData
  f_is_int : Fun K "is_int" "is_int" s_is_int a_is_int fd_is_int
  g_is_int : mg "is_int" = some (.ref a_is_int)
  bd_is_int : Binds K fd_is_int ["value"] []
  a_is_count : Addr
  fd_is_count : FuncData
  f_is_count : Fun K "is_count" "is_count" s_is_count a_is_count fd_is_count
  g_is_count : mg "is_count" = some (.ref a_is_count)
  bd_is_count : Binds K fd_is_count ["value"] []
  a_is_count_up_to : Addr
  fd_is_count_up_to : FuncData
  f_is_count_up_to : Fun K "is_count_up_to" "is_count_up_to" s_is_count_up_to a_is_count_up_to fd_is_count_up_to
  g_is_count_up_to : mg "is_count_up_to" = some (.ref a_is_count_up_to)
  bd_is_count_up_to : Binds K fd_is_count_up_to ["value", "most"] []
  a_check_budgets : Addr
  fd_check_budgets : FuncData
  f_check_budgets : Fun K "check_budgets" "check_budgets" s_check_budgets a_check_budgets fd_check_budgets
  g_check_budgets : mg "check_budgets" = some (.ref a_check_budgets)
  bd_check_budgets : Binds K fd_check_budgets ["k", "c", "most"] []
  a_is_state : Addr
  fd_is_state : FuncData
  f_is_state : Fun K "is_state" "is_state" s_is_state a_is_state fd_is_state
  g_is_state : mg "is_state" = some (.ref a_is_state)
  bd_is_state : Binds K fd_is_state ["value", "k", "c"] []
  a_check_state : Addr
  fd_check_state : FuncData
  f_check_state : Fun K "check_state" "check_state" s_check_state a_check_state fd_check_state
  g_check_state : mg "check_state" = some (.ref a_check_state)
  bd_check_state : Binds K fd_check_state ["state", "k", "c"] []
  a_state_after : Addr
  fd_state_after : FuncData
  f_state_after : Fun K "state_after" "state_after" s_state_after a_state_after fd_state_after
  g_state_after : mg "state_after" = some (.ref a_state_after)
  bd_state_after : Binds K fd_state_after ["state", "merge"] []
  a_choose : Addr
  fd_choose : FuncData
  f_choose : Fun K "choose" "choose" s_choose a_choose fd_choose
  g_choose : mg "choose" = some (.ref a_choose)
  bd_choose : Binds K fd_choose ["n", "k"] []
  a_remaining : Addr
  fd_remaining : FuncData
  f_remaining : Fun K "remaining" "remaining" s_remaining a_remaining fd_remaining
  g_remaining : mg "remaining" = some (.ref a_remaining)
  bd_remaining : Binds K fd_remaining ["state", "k", "c"] []
  a_best_merge : Addr
  fd_best_merge : FuncData
  f_best_merge : Fun K "best_merge" "best_merge" s_best_merge a_best_merge fd_best_merge
  g_best_merge : mg "best_merge" = some (.ref a_best_merge)
  bd_best_merge : Binds K fd_best_merge ["state", "k", "c"] []
  a_potentials : Addr
  fd_potentials : FuncData
  f_potentials : Fun K "potentials" "potentials" s_potentials a_potentials fd_potentials
  g_potentials : mg "potentials" = some (.ref a_potentials)
  bd_potentials : Binds K fd_potentials ["state", "k", "c"] []
  a_check_arguments : Addr
  fd_check_arguments : FuncData
  f_check_arguments : Fun K "check_arguments" "check_arguments" s_check_arguments a_check_arguments fd_check_arguments
  g_check_arguments : mg "check_arguments" = some (.ref a_check_arguments)
  bd_check_arguments : Binds K fd_check_arguments ["state", "k", "c"] []
  a_all_reached : Addr
  fd_all_reached : FuncData
  f_all_reached : Fun K "all_reached" "all_reached" s_all_reached a_all_reached fd_all_reached
  g_all_reached : mg "all_reached" = some (.ref a_all_reached)
  bd_all_reached : Binds K fd_all_reached ["state", "k", "c"] []
  a_states_after : Addr
  fd_states_after : FuncData
  f_states_after : Fun K "states_after" "states_after" s_states_after a_states_after fd_states_after
  g_states_after : mg "states_after" = some (.ref a_states_after)
  bd_states_after : Binds K fd_states_after ["state", "k", "c"] []
  a_shows_remaining : Addr
  fd_shows_remaining : FuncData
  f_shows_remaining : Fun K "shows_remaining" "shows_remaining" s_shows_remaining a_shows_remaining fd_shows_remaining
  g_shows_remaining : mg "shows_remaining" = some (.ref a_shows_remaining)
  bd_shows_remaining : Binds K fd_shows_remaining ["state", "k", "c", "number", "value"] []
  a_has_rows : Addr
  fd_has_rows : FuncData
  f_has_rows : Fun K "has_rows" "has_rows" s_has_rows a_has_rows fd_has_rows
  g_has_rows : mg "has_rows" = some (.ref a_has_rows)
  bd_has_rows : Binds K fd_has_rows ["value", "k", "c"] []
  a_is_row : Addr
  fd_is_row : FuncData
  f_is_row : Fun K "is_row" "is_row" s_is_row a_is_row fd_is_row
  g_is_row : mg "is_row" = some (.ref a_is_row)
  bd_is_row : Binds K fd_is_row ["value", "k", "c"] []
  a_is_justified : Addr
  fd_is_justified : FuncData
  f_is_justified : Fun K "is_justified" "is_justified" s_is_justified a_is_justified fd_is_justified
  g_is_justified : mg "is_justified" = some (.ref a_is_justified)
  bd_is_justified : Binds K fd_is_justified ["state", "numbers", "k", "c"] []
  a_L_s5_hand : Addr
  fd_L_s5_hand : FuncData
  f_L_s5_hand : Fun K "_law_s5_hand" "_law_s5_hand" s_L_s5_hand a_L_s5_hand fd_L_s5_hand
  g_L_s5_hand : mg "_law_s5_hand" = some (.ref a_L_s5_hand)
  bd_L_s5_hand : Binds K fd_L_s5_hand ["_law_script", "_law_nth"] []
  a_L_s5_take : Addr
  fd_L_s5_take : FuncData
  f_L_s5_take : Fun K "_law_s5_take" "_law_s5_take" s_L_s5_take a_L_s5_take fd_L_s5_take
  g_L_s5_take : mg "_law_s5_take" = some (.ref a_L_s5_take)
  bd_L_s5_take : Binds K fd_L_s5_take ["_law_hand", "_law_size"] []
  a_L_s5_of : Addr
  fd_L_s5_of : FuncData
  f_L_s5_of : Fun K "_law_s5_of" "_law_s5_of" s_L_s5_of a_L_s5_of fd_L_s5_of
  g_L_s5_of : mg "_law_s5_of" = some (.ref a_L_s5_of)
  bd_L_s5_of : Binds K fd_L_s5_of ["_law_hand", "_law_options"] []
  a_L_s5_after : Addr
  fd_L_s5_after : FuncData
  f_L_s5_after : Fun K "_law_s5_after" "_law_s5_after" s_L_s5_after a_L_s5_after fd_L_s5_after
  g_L_s5_after : mg "_law_s5_after" = some (.ref a_L_s5_after)
  bd_L_s5_after : Binds K fd_L_s5_after ["_law_levels", "_law_taken"] []
  a_L_s5_drawn : Addr
  fd_L_s5_drawn : FuncData
  f_L_s5_drawn : Fun K "_law_s5_drawn" "_law_s5_drawn" s_L_s5_drawn a_L_s5_drawn fd_L_s5_drawn
  g_L_s5_drawn : mg "_law_s5_drawn" = some (.ref a_L_s5_drawn)
  bd_L_s5_drawn : Binds K fd_L_s5_drawn ["_law_hand", "_law_room", "_law_wear", "_law_most"] []
  a_L_s5_raised : Addr
  fd_L_s5_raised : FuncData
  f_L_s5_raised : Fun K "_law_s5_raised" "_law_s5_raised" s_L_s5_raised a_L_s5_raised fd_L_s5_raised
  g_L_s5_raised : mg "_law_s5_raised" = some (.ref a_L_s5_raised)
  bd_L_s5_raised : Binds K fd_L_s5_raised ["_law_rows", "_law_levels", "_law_room", "_law_wear", "_law_by"] []
  a_L_s5_false_tables : Addr
  fd_L_s5_false_tables : FuncData
  f_L_s5_false_tables : Fun K "_law_s5_false_tables" "_law_s5_false_tables" s_L_s5_false_tables a_L_s5_false_tables fd_L_s5_false_tables
  g_L_s5_false_tables : mg "_law_s5_false_tables" = some (.ref a_L_s5_false_tables)
  bd_L_s5_false_tables : Binds K fd_L_s5_false_tables ["_law_hand", "_law_rows", "_law_levels", "_law_room", "_law_wear"] []
  a_L_s5_right : Addr
  fd_L_s5_right : FuncData
  f_L_s5_right : Fun K "_law_s5_right" "_law_s5_right" s_L_s5_right a_L_s5_right fd_L_s5_right
  g_L_s5_right : mg "_law_s5_right" = some (.ref a_L_s5_right)
  bd_L_s5_right : Binds K fd_L_s5_right ["_law_hand", "_law_levels", "_law_room", "_law_wear"] []
  a_law : Addr
  fd_law : FuncData
  f_law : Fun K "law" "law" s_law a_law fd_law
  g_law : mg "law" = some (.ref a_law)
  bd_law : Binds K fd_law ["_law_script"] []
  b_isinstance : mg "isinstance" = none
  b_int : mg "int" = none
  b_bool : mg "bool" = none
  b_all : mg "all" = none
  b_tuple : mg "tuple" = none
  b_len : mg "len" = none
  b_max : mg "max" = none
  b_range : mg "range" = none
  b_min : mg "min" = none
  b_sorted : mg "sorted" = none
  b_zip : mg "zip" = none
  b_any : mg "any" = none
  b_abs : mg "abs" = none
  b_dict : mg "dict" = none
  b_list : mg "list" = none
  b_repr : mg "repr" = none
  t_MOST_BUDGET : Tok
  c_MOST_BUDGET : mg "MOST_BUDGET" = some (.int (60) t_MOST_BUDGET)
  t_MOST_TABLE_BUDGET : Tok
  c_MOST_TABLE_BUDGET : mg "MOST_TABLE_BUDGET" = some (.int (4) t_MOST_TABLE_BUDGET)
section
variable {P : Program} {w : World} {K : PySem.W.Frag} {mg : Str → Option Value} {base : Heap}
def sp_is_int (K : PySem.W.Frag) : Sp := fun vs H Q _ => ∃ i : Int, vs = [.int i] ∧ Q (.bl true) H
theorem ok_is_int (TX : Tx K mg) : FnOk P w K mg base CX0 1 TX.a_is_int TX.fd_is_int ["value"] (sp_is_int K) := by
  refine TX.f_is_int.ok sc_is_int (fun vs H Q E h => ?_) (fun cdv A outer s H vs Q E hr h => ?_)
  · obtain ⟨i, rfl, _⟩ := h; rfl
  · obtain ⟨i, rfl, q⟩ := h
    refine ⟨_, (pss_one (ps_ret (pe_and (pe_callB (id := "isinstance") (k_isi (K := K) rfl) (by rfl) TX.b_isinstance (by decide +kernel) (pa_cons (pv 0) (pa_cons (pe_bltn (v := .ty "int") (by rfl) TX.b_int (by decide +kernel) rfl) pa_nil))) (pe_one (pe_not (pe_callB (id := "isinstance") (k_isi (K := K) rfl) (by rfl) TX.b_isinstance (by decide +kernel) (pa_cons (pv 0) (pa_cons (pe_bltn (v := .ty "bool") (by rfl) TX.b_bool (by decide +kernel) rfl) pa_nil)))))))), ?_⟩
    refine ⟨.int i, rfl, .int i, .ty "int", .type "int", .type "int", true, rfl, .ty _, .base (.int i), kit_ty (by decide +kernel), true, rfl, ?_⟩
    exact iteT ⟨.int i, rfl, .int i, .ty "bool", .type "int", .type "bool", false, rfl, .ty _, .base (.int i), kit_ty (by decide +kernel), false, rfl, q⟩
def sp_is_count (K : PySem.W.Frag) : Sp := fun vs H Q _ => ∃ i : Int, vs = [.int i] ∧ Q (.bl (decide (0 ≤ i))) H
theorem ok_is_count (TX : Tx K mg) : FnOk P w K mg base CX0 2 TX.a_is_count TX.fd_is_count ["value"] (sp_is_count K) := by
  refine TX.f_is_count.ok sc_is_count (fun vs H Q E h => ?_) (fun cdv A outer s H vs Q E hr h => ?_)
  · obtain ⟨i, rfl, _⟩ := h; rfl
  · obtain ⟨i, rfl, q⟩ := h
    refine ⟨_, (pss_one (ps_ret (pe_and (pe_call (ok_is_int TX) (hr.mono (by decide)) (by rfl) TX.g_is_int TX.f_is_int.kp TX.bd_is_int .nil pass0 (pa_cons (pv 0) pa_nil)) (pe_one (pe_cmpR op_ge (pv 0) pe_int (nomark _)))))), ?_⟩
    exact ⟨.int i, rfl, i, rfl, true, rfl, iteT ⟨.int i, rfl, i, 0, rfl, rfl, q⟩⟩
def sp_is_count_up_to (K : PySem.W.Frag) : Sp := fun vs H Q _ => ∃ i m : Int, vs = [.int i, .int m] ∧ Q (.bl (decide (0 ≤ i) && decide (i ≤ m))) H
theorem ok_is_count_up_to (TX : Tx K mg) : FnOk P w K mg base CX0 3 TX.a_is_count_up_to TX.fd_is_count_up_to ["value", "most"] (sp_is_count_up_to K) := by
  refine TX.f_is_count_up_to.ok sc_is_count_up_to (fun vs H Q E h => ?_) (fun cdv A outer s H vs Q E hr h => ?_)
  · obtain ⟨i, m, rfl, _⟩ := h; rfl
  · obtain ⟨i, m, rfl, q⟩ := h
    refine ⟨_, (pss_one (ps_ret (pe_and (pe_call (ok_is_count TX) (hr.mono (by decide)) (by rfl) TX.g_is_count TX.f_is_count.kp TX.bd_is_count .nil pass0 (pa_cons (pv 0) pa_nil)) (pe_one (pe_cmpR op_le (pv 0) (pv 1) (nomark _)))))), ?_⟩
    refine ⟨.int i, rfl, i, rfl, _, rfl, ?_⟩
    by_cases h0 : 0 ≤ i
    · rw [decide_eq_true h0] at q ⊢
      exact iteT ⟨.int i, rfl, .int m, rfl, i, m, rfl, rfl, q⟩
    · rw [decide_eq_false h0] at q ⊢
      exact iteF q
end
section
variable {P : Program} {w : World} {K : PySem.W.Frag} {mg : Str → Option Value} {base : Heap}
theorem min_nat (a b : Nat) : (if (b : Int) < (a : Int) then (b : Int) else (a : Int)) = ((min a b : Nat) : Int) := by
  by_cases h : b < a
  · rw [if_pos (by omega), Nat.min_eq_right (by omega)]
  · rw [if_neg (by omega), Nat.min_eq_left (by omega)]
theorem max_nat (a b : Nat) : (if (b : Int) > (a : Int) then (b : Int) else (a : Int)) = ((max a b : Nat) : Int) := by
  by_cases h : b > a
  · rw [if_pos (by omega), Nat.max_eq_right (by omega)]
  · rw [if_neg (by omega), Nat.max_eq_left (by omega)]
theorem bin_turn {n j : Nat} (h : j < n) : (bin n j : Int) * ((n : Int) - (j : Int)) / ((j : Int) + 1) = (bin n (j + 1) : Int) := by
  rw [← bin_div (n := n) (j := j) (by omega)]
  have e : ((n : Int) - (j : Int)) = ((n - j : Nat) : Int) := by omega
  rw [e]; norm_cast
def sp_choose (K : PySem.W.Frag) : Sp := fun vs H Q _ => ∃ n k : Nat, vs = [.int (n : Int), .int (k : Int)] ∧ k ≤ n ∧ k ≤ 64 ∧ n < 2 ^ 64 ∧ Q (.int (bin n k : Int)) H
theorem ok_choose (TX : Tx K mg) : FnOk P w K mg base CX0 1 TX.a_choose TX.fd_choose ["n", "k"] (sp_choose K) := by
  refine TX.f_choose.ok sc_choose (fun vs H Q E h => ?_) (fun cdv A outer s H vs Q E hr h => ?_)
  · obtain ⟨n, k, rfl, _⟩ := h; rfl
  · obtain ⟨n, k, rfl, hk, hk2, hn, q⟩ := h
    refine ⟨_, (pss_cons (ps_set (i := 2) sc_choose.nd rfl (.inl rfl) pe_int)
      (pss_cons (ps_for PassesOwn.never rfl (pi_range2 (by rfl) TX.b_range (pa_cons pe_int (pa_cons (pe_op op_add (pe_callB (id := "min") (call_min2 rfl) (by rfl) TX.b_min (by decide +kernel) (pa_cons (pv 1) (pa_cons (pe_op op_sub (pv 0) (pv 1)) pa_nil))) pe_int) pa_nil))) (pg_name (i := 3) sc_choose.nd rfl (.inl rfl))
        (pss_one (ps_set (i := 2) sc_choose.nd rfl (.inl rfl) (pe_op op_fdivW (pe_op op_mulW (pv 2) (pe_op op_sub (pe_op op_add (pv 0) pe_int) (pv 3))) (pv 3)))))
      (pss_one (ps_ret (pv 2))))), ?_⟩
    refine ⟨_, rfl, _, rfl, _, rfl, _, _, rfl, rfl, _, _, rfl, _, _, rfl, rfl, _, _, rfl, ?_⟩
    have em : (if (n : Int) - (k : Int) < (k : Int) then (n : Int) - (k : Int) else (k : Int)) = ((min k (n - k) : Nat) : Int) := by
      have := min_nat k (n - k)
      rwa [show ((n - k : Nat) : Int) = (n : Int) - (k : Int) by omega] at this
    rw [em]
    have hm1 : min k (n - k) ≤ 64 := by omega
    have hm2 : min k (n - k) ≤ n := by omega
    rw [← bin_min hk] at q
    generalize min k (n - k) = m at hm1 hm2 q
    refine ⟨⟨by decide, by decide, by omega, by omega⟩, for_range (lo := 1) (n := (((m : Nat) : Int) + 1 - 1).toNat) (fun i σ H' => H' = H ∧ ∃ y, σ = [some (.int (n : Int)), some (.int (k : Int)), some (.int (bin n i : Int)), y]) ⟨rfl, none, by rw [bin_zero]; rfl⟩ ?_ ?_⟩
    · rintro i σ H' hi ⟨rfl, y, rfl⟩
      refine ⟨_, rfl, _, rfl, _, _, rfl, rfl, _, rfl, _, _, rfl, rfl, _, _, rfl, rfl, ?_, _, rfl, _, _, rfl, rfl, ?_, rfl, some (.int (1 + (i : Int))), ?_⟩
      · have := bin_bits (n := n) (k := i) hn (by omega)
        exact wide_mul (a := 4097) (b := 65) (by omega) (by omega) (by decide) (by decide) (by decide)
      · exact wide_div (b := 8) (by omega) (by omega) (by decide) (by decide)
      · have e1 : (n : Int) + 1 - (1 + (i : Int)) = (n : Int) - (i : Int) := by omega
        have e2 : (1 + (i : Int)) = (i : Int) + 1 := by omega
        show [_, _, _, _] = [_, _, _, _]
        simp only [List.cons.injEq, Option.some.injEq, V.int.injEq, and_true, true_and]
        rw [e1, e2]
        exact bin_turn (by omega)
    · rintro σ H' ⟨rfl, y, rfl⟩
      refine ⟨_, rfl, ?_⟩
      rw [show (((m : Nat) : Int) + 1 - 1).toNat = m by omega]
      exact q
end
/-- the draws' list: a number not below 0, a seed, a count of at most n -/
def Pot (H : Hp) (a : Addr) (n : Int) : Prop := ∃ d s m : Int, H a = some (.lst [.int d, .int s, .int m]) ∧ 0 ≤ d ∧ 0 ≤ s ∧ s < 2 ^ 61 ∧ 0 ≤ m ∧ m ≤ n
theorem Pot.mono {H : Hp} {a : Addr} {n k : Int} (h : Pot H a n) (e : n ≤ k) : Pot H a k := by
  obtain ⟨d, s, m, h1, h2, h3, h4, h5, h6⟩ := h
  exact ⟨d, s, m, h1, h2, h3, h4, h5, by omega⟩
theorem Pot.same {H H' : Hp} {a : Addr} {n : Int} (h : Pot H a n) (e : Same H H') : Pot H' a n := by
  obtain ⟨d, s, m, h1, r⟩ := h
  exact ⟨d, s, m, e _ _ h1, r⟩
theorem Pot.keep {K : PySem.W.Frag} {H H' : Hp} {a : Addr} {n : Int} (h : Pot H a n) (e : But a H H') : Keep K H H' := by
  obtain ⟨d, s, m, h1, r⟩ := h
  exact But.keep e h1
theorem Pot.ne {H : Hp} {a b : Addr} {n : Int} (h : Pot H a n) (e : H b = none) : b ≠ a := fun z => by
  obtain ⟨d, s, m, h1, r⟩ := h
  rw [z, h1] at e; cases e
theorem But.free {a l : Addr} {H H' : Hp} (b : But a H H') (h : H' l = none) (n : l ≠ a) : H l = none := by
  cases e : H l with
  | none => rfl
  | some o => rw [b _ _ n e] at h; cases h
theorem But.mut {a l : Addr} {H H' : Hp} {o : HO} (b : But a H H') (h : H l = none) : But a H (L2.upd H' l o) := fun c u n e => by
  rw [upd_ne (ne_of_none e h)]; exact b _ _ n e
theorem Pot.upd {H : Hp} {a l : Addr} {n : Int} {o : HO} (h : Pot H a n) (e : l ≠ a) : Pot (L2.upd H l o) a n := by
  obtain ⟨d, s, m, h1, r⟩ := h
  exact ⟨d, s, m, by rw [upd_ne e.symm]; exact h1, r⟩
theorem na_lt {x : Int} {n : Nat} (h0 : 0 ≤ x) (h1 : x < ((2 ^ n : Nat) : Int)) : x.natAbs < 2 ^ n := by omega
theorem bit01 (b : Bool) : (if b = true then (1 : Int) else 0).natAbs < 2 ^ 2 ∧ (0 : Int) ≤ (if b = true then (1 : Int) else 0) := by cases b <;> exact ⟨by decide, by decide⟩
set_option exponentiation.threshold 2000
section
variable {P : Program} {w : World} {K : PySem.W.Frag} {mg : Str → Option Value} {base : Heap}
def sp_L_s5_hand (K : PySem.W.Frag) : Sp := fun vs H Q _ => ∃ (a : Addr) (ns : List Int) (pl : Nat), vs = [.ref a, .int (pl : Int)] ∧ SqL K H a (ns.map V.int) ∧ pl ≤ 62 ∧ ∀ H' p, Same H H' → H p = none → Pot H' p 0 → Q (.ref p) H'
theorem ok_L_s5_hand (TX : Tx K mg) : FnOk P w K mg base CX0 1 TX.a_L_s5_hand TX.fd_L_s5_hand ["_law_script", "_law_nth"] (sp_L_s5_hand K) := by
  refine TX.f_L_s5_hand.ok sc_L_s5_hand (fun vs H Q E h => ?_) (fun cdv A outer s H vs Q E hr h => ?_)
  · obtain ⟨a, ns, pl, rfl, _⟩ := h; rfl
  · obtain ⟨a, ns, pl, rfl, hS, hpl, q⟩ := h
    refine ⟨_, (pss_cut (ps_set (i := 2) sc_L_s5_hand.nd rfl (.inl rfl) (pe_ifExp (pt_cmpR op_lt (pv 1) (pe_callB (id := "len") (k_len (K := K) rfl) (by rfl) TX.b_len (by decide +kernel) (pa_cons (pv 0) pa_nil)) (nomark _)) (pe_ix (k_ixL (K := K) rfl) (pv 0) (pv 1) (fun _ _ => rfl)) pe_int))
      (pss_cons (ps_set (i := 3) sc_L_s5_hand.nd rfl (.inl rfl) (pe_op op_mulW (pe_op op_mod (pe_callB (id := "abs") call_abs (by rfl) TX.b_abs (by decide +kernel) (pa_cons (pv 2) pa_nil)) (pe_op op_powW (pe_op op_powW pe_int pe_int) pe_int)) (pe_callTy (T := "int") call_int1 (by rfl) TX.b_int (by decide +kernel) (pa_cons (pe_cmpR op_ge (pe_callB (id := "abs") call_abs (by rfl) TX.b_abs (by decide +kernel) (pa_cons (pv 2) pa_nil)) (pe_op op_powW pe_int pe_int) (nomark _)) pa_nil))))
      (pss_cons (ps_set (i := 4) sc_L_s5_hand.nd rfl (.inl rfl) (pe_op op_add (pe_op op_add (pe_op op_add (pe_op op_mulW (pe_op op_mod (pv 2) pe_int) pe_int) (pe_op op_mulW (pe_op op_mulW pe_int (pv 1)) (pv 1))) (pe_op op_mulW pe_int (pv 1))) pe_int))
      (pss_one (ps_ret (pe_lst (pa_cons (pv 3) (pa_cons (pe_op op_mod (pv 4) pe_int) (pa_cons pe_int pa_nil))))))))), ?_⟩
    have P0 : (0 : Int) < (10 ^ (60 : Int).toNat) ^ (5 : Int).toNat := by decide +kernel
    have P1 : ((10 ^ (60 : Int).toNat) ^ (5 : Int).toNat : Int) < ((2 ^ 1000 : Nat) : Int) := by decide +kernel
    have nl1 : ∀ pl : Nat, pl ≤ 62 → (0 : Int) ≤ 7919 * (pl : Int) * (pl : Int) ∧ 7919 * (pl : Int) * (pl : Int) ≤ 7919 * 3844 := fun pl h => by
      have h1 : (pl : Int) * (pl : Int) ≤ 62 * 62 := Int.mul_le_mul (by omega) (by omega) (by omega) (by omega)
      have h2 : (0 : Int) ≤ (pl : Int) * (pl : Int) := Int.mul_nonneg (by omega) (by omega)
      rw [Int.mul_assoc]; omega
    refine ⟨fun σ' H2 => H2 = H ∧ ∃ c : Int, σ' = [some (.ref a), some (.int (pl : Int)), some (.int c), none, none], ?_, ?_⟩
    · refine ⟨_, rfl, .ref a, rfl, a, _, rfl, .inl hS, _, _, rfl, rfl, _, rfl, ?_⟩
      refine ite2 (fun h => ?_) (fun h => ?_)
      · have hlt : pl < ns.length := by
          have := of_decide_eq_true h
          rw [List.length_map] at this
          omega
        exact ⟨.ref a, rfl, _, rfl, a, _, _, .int ns[pl], rfl, rfl, hS, atI_nat (by rw [List.getElem?_map, List.getElem?_eq_getElem hlt]; rfl), rfl, _, rfl⟩
      · exact ⟨rfl, _, rfl⟩
    · rintro σ' H2 ⟨rfl, c, rfl⟩
      have c0 := Int.emod_nonneg c (show (2305843009213693951 : Int) ≠ 0 by decide)
      have c1 := Int.emod_lt_of_pos c (show (0 : Int) < 2305843009213693951 by decide)
      refine ⟨_, rfl, _, rfl, _, _, rfl, rfl, ⟨by decide, by decide +kernel⟩, _, _, rfl, rfl, ⟨by decide, by decide +kernel⟩, _, _, rfl, rfl, P0, _, rfl, _, rfl, _, _, rfl, rfl, ⟨by decide, by decide +kernel⟩, _, _, rfl, rfl, .inr ⟨_, rfl, _, _, rfl, rfl, ?_, ?_⟩⟩
      · exact wide_mul (a := 1000) (b := 2) (na_lt (Int.emod_nonneg _ (Int.ne_of_gt P0)) (Int.lt_trans (Int.emod_lt_of_pos _ P0) P1)) (bit01 _).1 (by decide) (by decide) (by decide)
      · have := nl1 pl hpl
        refine ⟨_, rfl, _, _, rfl, rfl, (show (0 : Int) < 2305843009213693951 by decide), _, _, rfl, rfl, wide_mul (a := 61) (b := 20) (by omega) (by decide) (by decide) (by decide) (by decide), _, rfl, _, _, rfl, rfl, wide_mul (a := 13) (b := 7) (by decide) (by omega) (by decide) (by decide) (by decide), _, rfl, _, _, rfl, rfl, wide_mul (a := 20) (b := 7) (by omega) (by omega) (by decide) (by decide) (by decide), _, _, rfl, rfl, _, rfl, _, _, rfl, rfl, wide_mul (a := 13) (b := 7) (by decide) (by omega) (by decide) (by decide) (by decide), _, _, rfl, rfl, _, _, rfl, rfl, ?_⟩
        refine ⟨_, rfl, _, rfl, _, _, rfl, rfl, (show (0 : Int) < 2305843009213693921 by decide), sz60 (by simp), fun p np => q _ p (same_upd np) np ?_⟩
        refine ⟨_, _, _, upd_same, ?_, Int.emod_nonneg _ (by decide), Int.lt_trans (Int.emod_lt_of_pos _ (by decide)) (by decide), by decide, by decide⟩
        refine Int.mul_nonneg (Int.emod_nonneg _ (Int.ne_of_gt P0)) ?_
        exact (bit01 _).2
def sp_L_s5_take (K : PySem.W.Frag) : Sp := fun vs H Q _ => ∃ (a : Addr) (z n : Int), vs = [.ref a, .int z] ∧ Pot H a n ∧ n ≤ 100000 ∧ 1 ≤ z ∧ z ≤ 2 ^ 64 ∧ ∀ H' r, But a H H' → Pot H' a (n + 1) → 0 ≤ r → r < z → Q (.int r) H'
theorem prime_at {m : Int} (h0 : 0 ≤ m) : ∃ v : Int, atI [V.int 2147483647, V.int 2147483629, V.int 2147483587, V.int 2147483579, V.int 2147483563, V.int 2147483549, V.int 2147483543, V.int 2147483497] (m % 8) = some (.int v) ∧ 2147483400 < v ∧ v < 2 ^ 31 := by
  have h : m % 8 = 0 ∨ m % 8 = 1 ∨ m % 8 = 2 ∨ m % 8 = 3 ∨ m % 8 = 4 ∨ m % 8 = 5 ∨ m % 8 = 6 ∨ m % 8 = 7 := by omega
  rcases h with h | h | h | h | h | h | h | h <;> rw [h]
  · exact ⟨_, rfl, by decide, by decide⟩
  · exact ⟨_, rfl, by decide, by decide⟩
  · exact ⟨_, rfl, by decide, by decide⟩
  · exact ⟨_, rfl, by decide, by decide⟩
  · exact ⟨_, rfl, by decide, by decide⟩
  · exact ⟨_, rfl, by decide, by decide⟩
  · exact ⟨_, rfl, by decide, by decide⟩
  · exact ⟨_, rfl, by decide, by decide⟩
theorem ok_L_s5_take (TX : Tx K mg) : FnOk P w K mg base CX0 1 TX.a_L_s5_take TX.fd_L_s5_take ["_law_hand", "_law_size"] (sp_L_s5_take K) := by
  refine TX.f_L_s5_take.ok sc_L_s5_take (fun vs H Q E h => ?_) (fun cdv A outer s H vs Q E hr h => ?_)
  · obtain ⟨a, z, n, rfl, _⟩ := h; rfl
  · obtain ⟨a, z, n, rfl, ⟨d, sd, m, hp, hd, hs0, hs1, hm0, hm1⟩, hn, hz1, hz2, q⟩ := h
    refine ⟨_, (pss_cons (ps_if (pt_cmpR op_gt (pe_ix (k_ixL (K := K) rfl) (pv 0) pe_int (fun _ _ => rfl)) pe_int (nomark _))
        (pss_cons (ps_set (i := 2) sc_L_s5_take.nd rfl (.inl rfl) (pe_op op_mod (pe_ix (k_ixL (K := K) rfl) (pv 0) pe_int (fun _ _ => rfl)) (pv 1)))
        (pss_cons (ps_asg (pe_op op_fdivW (pe_ix (k_ixL (K := K) rfl) (pv 0) pe_int (fun _ _ => rfl)) (pv 1)) (pg_sub (pv 0) pe_int set_list))
        (pss_one (ps_ret (pv 2)))))
        pss_nil)
      (pss_cons (ps_asg (pe_op op_add (pe_ix (k_ixL (K := K) rfl) (pv 0) pe_int (fun _ _ => rfl)) pe_int) (pg_sub (pv 0) pe_int set_list))
      (pss_cons (ps_set (i := 3) sc_L_s5_take.nd rfl (.inl rfl) (pe_lst (pa_cons pe_int (pa_cons pe_int (pa_cons pe_int (pa_cons pe_int (pa_cons pe_int (pa_cons pe_int (pa_cons pe_int (pa_cons pe_int pa_nil))))))))))
      (pss_cons (ps_set (i := 4) sc_L_s5_take.nd rfl (.inl rfl) (pe_ix (k_ixL (K := K) rfl) (pv 3) (pe_op op_mod (pe_ix (k_ixL (K := K) rfl) (pv 0) pe_int (fun _ _ => rfl)) pe_int) (fun _ _ => rfl)))
      (pss_cons (ps_set (i := 5) sc_L_s5_take.nd rfl (.inl rfl) (pe_op op_add (pe_op op_mod (pe_op op_mod (pe_op op_add (pe_ix (k_ixL (K := K) rfl) (pv 0) pe_int (fun _ _ => rfl)) (pe_op op_mulW (pe_op op_mulW pe_int (pe_ix (k_ixL (K := K) rfl) (pv 0) pe_int (fun _ _ => rfl))) (pe_ix (k_ixL (K := K) rfl) (pv 0) pe_int (fun _ _ => rfl)))) (pe_op op_mulW (pv 4) (pv 4))) (pv 4)) pe_int))
      (pss_cons (ps_set (i := 6) sc_L_s5_take.nd rfl (.inl rfl) (pe_op op_fdivW (pe_op op_mod (pe_op op_mulW (pe_op op_mod (pe_op op_mulW (pv 5) (pe_op op_add (pe_op op_mod (pv 5) pe_int) (pe_ix (k_ixL (K := K) rfl) (pv 0) pe_int (fun _ _ => rfl)))) (pv 4)) pe_int) (pv 4)) pe_int))
      (pss_cons (ps_if (pt_cmpR op_gt (pv 1) (pe_op op_powW pe_int pe_int) (nomark _))
        (pss_one (ps_set (i := 6) sc_L_s5_take.nd rfl (.inl rfl) (pe_op op_mod (pe_op op_pow (pe_op op_add (pv 6) pe_int) pe_int) (pe_op op_add (pe_op op_powW pe_int pe_int) pe_int))))
        pss_nil)
      (pss_one (ps_ret (pe_op op_mod (pv 6) (pv 1))))))))))), ?_⟩
    refine ⟨.ref a, rfl, a, _, _, .int d, rfl, rfl, .inl (.inl hp), rfl, _, _, rfl, rfl, _, rfl, ite2 (fun h => ?_) (fun h => ?_)⟩
    · refine ⟨.ref a, rfl, a, _, _, .int d, rfl, rfl, .inl (.inl hp), rfl, _, rfl, _, _, rfl, rfl, (show 0 < z by omega), ?_⟩
      refine ⟨.ref a, rfl, a, _, _, .int d, rfl, rfl, .inl (.inl hp), rfl, _, rfl, _, _, rfl, rfl, wide_div (b := 66) (by omega) (by omega) (by decide) (by decide), .ref a, rfl, a, _, 0, 0, rfl, rfl, hp, rfl, ?_⟩
      refine ⟨_, rfl, q _ _ But.upd ⟨d / z, sd, m, upd_same, Int.ediv_nonneg hd (by omega), hs0, hs1, hm0, by omega⟩ (Int.emod_nonneg _ (by omega)) (Int.emod_lt_of_pos _ (by omega))⟩
    · refine ⟨.ref a, rfl, a, _, _, .int m, rfl, rfl, .inl (.inl hp), rfl, _, _, rfl, rfl, .ref a, rfl, a, _, 2, 2, rfl, rfl, hp, rfl, ?_⟩
      have hp1 : (upd H a (.lst (List.set [V.int d, V.int sd, V.int m] 2 (V.int (m + 1))))) a = some (.lst [V.int d, V.int sd, V.int (m + 1)]) := upd_same
      have b1 : But a H (upd H a (.lst (List.set [V.int d, V.int sd, V.int m] 2 (V.int (m + 1))))) := But.upd
      generalize upd H a (.lst (List.set [V.int d, V.int sd, V.int m] 2 (V.int (m + 1)))) = H1 at hp1 b1 ⊢
      refine ⟨sz60 (by simp), fun pl npl => ?_⟩
      have s2 := same_upd (o := .lst [V.int 2147483647, V.int 2147483629, V.int 2147483587, V.int 2147483579, V.int 2147483563, V.int 2147483549, V.int 2147483543, V.int 2147483497]) npl
      have hp2 := s2 _ _ hp1
      obtain ⟨pr, hpr, pr0, pr1⟩ := prime_at (m := m + 1) (by omega)
      refine ⟨.ref pl, rfl, .ref a, rfl, a, _, _, _, rfl, rfl, .inl (.inl hp2), rfl, _, _, rfl, rfl, (show (0 : Int) < 8 by decide), pl, _, _, .int pr, rfl, rfl, .inl (.inl upd_same), hpr, ?_⟩
      have k1 : (m + 1) * (m + 1) ≤ 100001 * 100001 := Int.mul_le_mul (by omega) (by omega) (by omega) (by omega)
      have k2 : (0 : Int) ≤ (m + 1) * (m + 1) := Int.mul_nonneg (by omega) (by omega)
      have k3 : 69621 * (m + 1) * (m + 1) = 69621 * ((m + 1) * (m + 1)) := Int.mul_assoc _ _ _
      have k4 : 0 < pr * pr := Int.mul_pos (by omega) (by omega)
      refine ⟨.ref a, rfl, a, _, _, _, rfl, rfl, .inl (.inl hp2), rfl, .ref a, rfl, a, _, _, _, rfl, rfl, .inl (.inl hp2), rfl, _, _, rfl, rfl, wide_mul (a := 17) (b := 18) (by decide) (by omega) (by decide) (by decide) (by decide), .ref a, rfl, a, _, _, _, rfl, rfl, .inl (.inl hp2), rfl, _, _, rfl, rfl, wide_mul (a := 36) (b := 18) (by omega) (by omega) (by decide) (by decide) (by decide), _, _, rfl, rfl, _, rfl, _, rfl, _, _, rfl, rfl, wide_mul (a := 31) (b := 31) (by omega) (by omega) (by decide) (by decide) (by decide), _, _, rfl, rfl, k4, _, rfl, _, _, rfl, rfl, (show 0 < pr by omega), _, _, rfl, rfl, ?_⟩
      generalize hmx : (sd + 69621 * (m + 1) * (m + 1)) % (pr * pr) % pr + 1 = mx
      have mx0 : 0 < mx := by rw [← hmx]; have := Int.emod_nonneg ((sd + 69621 * (m + 1) * (m + 1)) % (pr * pr)) (show pr ≠ 0 by omega); omega
      have mx1 : mx ≤ pr := by rw [← hmx]; have := Int.emod_lt_of_pos ((sd + 69621 * (m + 1) * (m + 1)) % (pr * pr)) (show 0 < pr by omega); omega
      refine ⟨_, rfl, _, rfl, _, _, rfl, rfl, (show (0 : Int) < 1009 by decide), .ref a, rfl, a, _, _, _, rfl, rfl, .inl (.inl hp2), rfl, _, _, rfl, rfl, _, _, rfl, rfl, wide_mul (a := 32) (b := 20) (by omega) (by omega) (by decide) (by decide) (by decide), _, rfl, _, _, rfl, rfl, (show 0 < pr by omega), _, _, rfl, rfl, ?_, _, rfl, _, _, rfl, rfl, (show 0 < pr by omega), _, _, rfl, rfl, wide_div (b := 4) (by decide) (by decide) (by decide) (by decide), ?_⟩
      · refine wide_mul (a := 32) (b := 17) (na_lt (Int.emod_nonneg _ (by omega)) (Int.lt_trans (Int.emod_lt_of_pos _ (by omega)) (by omega))) (by decide) (by decide) (by decide) (by decide)
      generalize hdr : mx * (mx % 1009 + (m + 1)) % pr * 48271 % pr / 7 = dr
      have dr0 : 0 ≤ dr := by rw [← hdr]; exact Int.ediv_nonneg (Int.emod_nonneg _ (by omega)) (by decide)
      have dr1 : dr < pr := by
        rw [← hdr]
        have h1 := Int.emod_lt_of_pos (mx * (mx % 1009 + (m + 1)) % pr * 48271) (show 0 < pr by omega)
        have h2 := Int.emod_nonneg (mx * (mx % 1009 + (m + 1)) % pr * 48271) (show pr ≠ 0 by omega)
        omega
      have fin : ∀ x : Int, Q (.int (x % z)) (upd H1 pl (.lst [V.int 2147483647, V.int 2147483629, V.int 2147483587, V.int 2147483579, V.int 2147483563, V.int 2147483549, V.int 2147483543, V.int 2147483497])) := fun x =>
        q _ _ (b1.trans (But.of s2)) ⟨d, sd, m + 1, hp2, hd, hs0, hs1, by omega, by omega⟩ (Int.emod_nonneg _ (by omega)) (Int.emod_lt_of_pos _ (by omega))
      have q0 : (0 : Int) < 10 ^ (40 : Int).toNat + 121 := by decide +kernel
      refine ⟨_, rfl, _, _, rfl, rfl, ⟨by decide, by decide +kernel⟩, _, _, rfl, rfl, _, rfl, ite2 (fun h => ?_) (fun h => ?_)⟩
      · refine ⟨_, rfl, _, _, rfl, rfl, _, _, rfl, rfl, ⟨by decide, by decide, by rw [hmx, hdr]; omega⟩, _, _, rfl, rfl, ⟨by decide, by decide +kernel⟩, _, _, rfl, rfl, _, _, rfl, rfl, q0, ?_⟩
        exact ⟨_, rfl, _, rfl, _, _, rfl, rfl, (show 0 < z by omega), fin _⟩
      · exact ⟨_, rfl, _, rfl, _, _, rfl, rfl, (show 0 < z by omega), fin _⟩
def sp_L_s5_of (K : PySem.W.Frag) : Sp := fun vs H Q _ => ∃ (a l : Addr) (xs : List V) (n : Int), vs = [.ref a, .ref l] ∧ Pot H a n ∧ n ≤ 100000 ∧ SqL K H l xs ∧ l ≠ a ∧ xs ≠ [] ∧ xs.length ≤ 100000 ∧ ∀ H' v, But a H H' → Pot H' a (n + 1) → v ∈ xs → Q v H'
theorem But.seq {K : PySem.W.Frag} {a l : Addr} {H H' : Hp} {xs : List V} (b : But a H H') (n : l ≠ a) (h : SqL K H l xs) : SqL K H' l xs := by
  rcases h with (h | ⟨o, h⟩) | h
  · exact .inl (.inl (b _ _ n h))
  · exact .inl (.inr ⟨o, b _ _ n h⟩)
  · exact .inr h
theorem ok_L_s5_of (TX : Tx K mg) : FnOk P w K mg base CX0 2 TX.a_L_s5_of TX.fd_L_s5_of ["_law_hand", "_law_options"] (sp_L_s5_of K) := by
  refine TX.f_L_s5_of.ok sc_L_s5_of (fun vs H Q E h => ?_) (fun cdv A outer s H vs Q E hr h => ?_)
  · obtain ⟨a, l, xs, n, rfl, _⟩ := h; rfl
  · obtain ⟨a, l, xs, n, rfl, hp, hn, hl, nla, hne, hlen, q⟩ := h
    refine ⟨_, (pss_one (ps_ret (pe_ix (k_ixL (K := K) rfl) (pv 1) (pe_call (ok_L_s5_take TX) (hr.mono (by decide)) (by rfl) TX.g_L_s5_take TX.f_L_s5_take.kp TX.bd_L_s5_take .nil pass0 (pa_cons (pv 0) (pa_cons (pe_callB (id := "len") (k_len (K := K) rfl) (by rfl) TX.b_len (by decide +kernel) (pa_cons (pv 1) pa_nil)) pa_nil))) (fun _ _ => rfl)))), ?_⟩
    have h0 : 0 < xs.length := List.length_pos_iff.mpr hne
    refine ⟨.ref l, rfl, .ref a, rfl, .ref l, rfl, l, _, rfl, .inl hl, a, _, n, rfl, hp, hn, by omega, by omega, fun H' r b1 p1 r0 r1 => ?_⟩
    have er : r = ((r.toNat : Nat) : Int) := by omega
    have hr1 : r.toNat < xs.length := by omega
    have hat : atI xs r = some xs[r.toNat] := by
      have := atI_nat (List.getElem?_eq_getElem hr1)
      rwa [← er] at this
    exact ⟨l, xs, r, xs[r.toNat], rfl, rfl, b1.seq nla hl, hat, q _ _ b1 p1 (List.getElem_mem ..)⟩
end
section
variable {P : Program} {w : World} {K : PySem.W.Frag} {mg : Str → Option Value} {base : Heap}
def sp_check_budgets (K : PySem.W.Frag) : Sp := fun vs H Q _ => ∃ k c m : Int, vs = [.int k, .int c, .int m] ∧ 0 ≤ k ∧ k ≤ m ∧ 0 ≤ c ∧ c ≤ m ∧ ∀ H', Same H H' → Q .non H'
theorem ok_check_budgets (TX : Tx K mg) : FnOk P w K mg base CX0 4 TX.a_check_budgets TX.fd_check_budgets ["k", "c", "most"] (sp_check_budgets K) := by
  refine TX.f_check_budgets.ok sc_check_budgets (fun vs H Q E h => ?_) (fun cdv A outer s H vs Q E hr h => ?_)
  · obtain ⟨k, c, m, rfl, _⟩ := h; rfl
  · obtain ⟨k, c, m, rfl, k0, k1, c0, c1, q⟩ := h
    refine ⟨_, (pss_one (ps_for PassesOwn.never rfl (k_piT (K := K) rfl (pe_tup (pa_cons (pv 0) (pa_cons (pv 1) pa_nil)))) (pg_name (i := 3) sc_check_budgets.nd rfl (.inl rfl))
        (pss_one (ps_if (pt_not (pt_val (pe_call (ok_is_count_up_to TX) (hr.mono (by decide)) (by rfl) TX.g_is_count_up_to TX.f_is_count_up_to.kp TX.bd_is_count_up_to .nil pass0 (pa_cons (pv 3) (pa_cons (pv 2) pa_nil)))))
          (pss_one ps_never)
          pss_nil)))), ?_⟩
    refine ⟨_, rfl, _, rfl, sz60 (by simp), fun t nt => ⟨t, rfl, ⟨_, .inl (.inl upd_same)⟩, for_tup (K := K) (xs := [V.int k, V.int c]) (fun i σ H' => H' = upd H t (.tup [V.int k, V.int c]) ∧ ∃ y, σ = [some (.int k), some (.int c), some (.int m), y]) ⟨rfl, none, rfl⟩ (fun i σ H' _ h => by rw [h.1]; exact .inl (.inl upd_same)) ?_ ?_⟩⟩
    · rintro i x σ H' hx ⟨rfl, y, rfl⟩
      have hb : ∃ b : Int, x = .int b ∧ 0 ≤ b ∧ b ≤ m := by
        match i, hx with
        | 0, hx => cases hx; exact ⟨k, rfl, k0, k1⟩
        | 1, hx => cases hx; exact ⟨c, rfl, c0, c1⟩
        | i + 2, hx => simp at hx
      obtain ⟨b, rfl, b0, b1⟩ := hb
      exact ⟨_, rfl, _, rfl, _, _, rfl, true, by rw [decide_eq_true b0, decide_eq_true b1]; rfl, iteF ⟨rfl, _, rfl⟩⟩
    · rintro σ H' ⟨rfl, y, rfl⟩
      exact q _ (same_upd nt)
def isSta (k c : Nat) (st : List Nat) : Bool := decide (st.length ≤ k) && st.all fun x => decide (1 ≤ x) && decide (x ≤ c)
theorem isSta_iff {k c : Nat} {st : List Nat} : isSta k c st = true ↔ Sta k c st := by
  unfold isSta Sta
  simp only [Bool.and_eq_true, decide_eq_true_eq, List.all_eq_true]
def sp_is_state (K : PySem.W.Frag) : Sp := fun vs H Q _ => ∃ (a : Addr) (st : List Nat) (k c : Nat), vs = [.ref a, .int (k : Int), .int (c : Int)] ∧ SqT K H a (vi st) ∧ k ≤ 60 ∧ c ≤ 60 ∧ ∀ H', Same H H' → Q (.bl (isSta k c st)) H'
theorem ok_is_state (TX : Tx K mg) : FnOk P w K mg base CX0 5 TX.a_is_state TX.fd_is_state ["value", "k", "c"] (sp_is_state K) := by
  refine TX.f_is_state.ok sc_is_state (fun vs H Q E h => ?_) (fun cdv A outer s H vs Q E hr h => ?_)
  · obtain ⟨a, st, k, c, rfl, _⟩ := h; rfl
  · obtain ⟨a, st, k, c, rfl, hS, hk, hc, q⟩ := h
    refine ⟨_, (pss_cons (ps_expr (pe_call (ok_check_budgets TX) (hr.mono (by decide)) (by rfl) TX.g_check_budgets TX.f_check_budgets.kp TX.bd_check_budgets .nil pass0 (pa_cons (pv 1) (pa_cons (pv 2) (pa_cons (pe_glob (v := .int (60)) (by rfl) TX.c_MOST_BUDGET ⟨_, rfl⟩) pa_nil)))))
      (pss_cons (ps_if (PW.pt (pw_or (pt_not (pt_val (pe_callB (id := "isinstance") (k_isi (K := K) rfl) (by rfl) TX.b_isinstance (by decide +kernel) (pa_cons (pv 0) (pa_cons (pe_bltn (v := .ty "tuple") (by rfl) TX.b_tuple (by decide +kernel) rfl) pa_nil))))) (pw_or1 (pt_cmpR op_gt (pe_callB (id := "len") (k_len (K := K) rfl) (by rfl) TX.b_len (by decide +kernel) (pa_cons (pv 0) pa_nil)) (pv 1) (nomark _)))))
        (pss_one (ps_ret pe_bl))
        pss_nil)
      (pss_one (ps_ret (pe_callB (id := "all") (cr_all rfl) (by rfl) TX.b_all (by decide +kernel) (pa_cons (pe_lc (own := [("count", 3)]) (by rfl) sc_is_state.nd (k_piT (K := K) rfl (pv 0)) (blkOk_by (own := [("count", 3)]) (N := N_is_state) (sc := defScope s_is_state) (by decide +kernel)) (fun _ _ _ _ _ => (pg_name (i := 3) sc_is_state.nd rfl (Or.inl rfl))) (fun _ _ _ _ _ => pts_nil) (fun _ _ _ _ _ => (pe_and (pe_call (ok_is_int TX) (hr.mono (by decide)) (by rfl) TX.g_is_int TX.f_is_int.kp TX.bd_is_int .nil pass0 (pa_cons (pv 3) pa_nil)) (pe_one (pe_chain op_le op_le pe_int (pv 3) (pv 2)))))) pa_nil)))))), ?_⟩
    refine ⟨_, rfl, _, rfl, _, _, _, rfl, by omega, by omega, by omega, by omega, fun H1 s1 => ?_⟩
    have h1 := Same.tup s1 hS
    refine ⟨.ref a, rfl, .ref a, .ty "tuple", .type "tuple", .type "tuple", true, rfl, .ty _, ty_tup h1, kit_ty (by decide +kernel), true, rfl, iteF ?_⟩
    refine ⟨.ref a, rfl, a, _, rfl, .inr h1, _, rfl, _, _, rfl, rfl, _, rfl, ?_⟩
    by_cases hl : st.length ≤ k
    · refine decF (by rw [vi_len]; omega) ?_
      refine ⟨.ref a, rfl, a, rfl, ⟨_, h1⟩, fun D nD => lc_bools (K := K) walk_tup (st.map fun x => decide (1 ≤ x) && decide (x ≤ c)) (by rw [List.length_map, vi_len]) (by rw [vi_len]; omega) nD (fun H' s' => Same.tup s' h1) ?_ ?_ (fun x σ' H' Q Q' h => h _ _) (fun σ' H' Q Q' h => h _ _)⟩
      · rintro i x H2 H2' hi s2 ⟨rfl, hx⟩ b hb R hR
        have hi' : i < st.length := by rwa [vi_len] at hi
        have hg := List.getElem?_eq_getElem hi'
        rw [vi_get hg] at hx
        cases hx
        rw [List.getElem?_map, hg] at hb
        cases hb
        have hR' := hR H2' (Same.refl _)
        dsimp only at hR'
        refine ⟨rfl, rfl, _, rfl, _, rfl, true, rfl, iteT ⟨_, rfl, _, _, rfl, rfl, _, rfl, ?_⟩⟩
        by_cases g1 : 1 ≤ st[i]
        · rw [decide_eq_true g1, Bool.true_and] at hR'
          refine decT (by omega) ⟨_, rfl, _, _, rfl, rfl, ?_⟩
          by_cases g2 : st[i] ≤ c
          · rw [decide_eq_true g2] at hR'
            rw [← blT (show ((st[i] : Nat) : Int) ≤ (c : Int) by omega)] at hR'
            exact hR'
          · rw [decide_eq_false g2] at hR'
            rw [← blF (show ¬ ((st[i] : Nat) : Int) ≤ (c : Int) by omega)] at hR'
            exact hR'
        · rw [decide_eq_false g1, Bool.false_and] at hR'
          exact decF (by omega) hR'
      · intro H2 s2 hD
        refine ⟨D, _, rfl, .inl (.inl hD), ?_⟩
        have := q H2 (s1.trans s2)
        unfold isSta at this
        rw [decide_eq_true hl, Bool.true_and] at this
        rw [List.all_map]
        exact this
    · refine decT (by rw [vi_len]; omega) ?_
      have := q H1 s1
      unfold isSta at this
      rw [decide_eq_false hl, Bool.false_and] at this
      exact this
def sp_check_state (K : PySem.W.Frag) : Sp := fun vs H Q _ => ∃ (a : Addr) (st : List Nat) (k c : Nat), vs = [.ref a, .int (k : Int), .int (c : Int)] ∧ SqT K H a (vi st) ∧ k ≤ 60 ∧ c ≤ 60 ∧ Sta k c st ∧ ∀ H', Same H H' → Q .non H'
theorem ok_check_state (TX : Tx K mg) : FnOk P w K mg base CX0 6 TX.a_check_state TX.fd_check_state ["state", "k", "c"] (sp_check_state K) := by
  refine TX.f_check_state.ok sc_check_state (fun vs H Q E h => ?_) (fun cdv A outer s H vs Q E hr h => ?_)
  · obtain ⟨a, st, k, c, rfl, _⟩ := h; rfl
  · obtain ⟨a, st, k, c, rfl, hS, hk, hc, hst, q⟩ := h
    refine ⟨_, (pss_one (ps_if (pt_not (pt_val (pe_call (ok_is_state TX) (hr.mono (by decide)) (by rfl) TX.g_is_state TX.f_is_state.kp TX.bd_is_state .nil pass0 (pa_cons (pv 0) (pa_cons (pv 1) (pa_cons (pv 2) pa_nil))))))
        (pss_one ps_never)
        pss_nil)), ?_⟩
    exact ⟨.ref a, rfl, _, rfl, _, rfl, a, st, k, c, rfl, hS, hk, hc, fun H1 s1 => ⟨true, by rw [isSta_iff.mpr hst], iteF (q H1 s1)⟩⟩
def sp_remaining (K : PySem.W.Frag) : Sp := fun vs H Q _ => ∃ (a : Addr) (st : List Nat) (k c : Nat), vs = [.ref a, .int (k : Int), .int (c : Int)] ∧ SqT K H a (vi st) ∧ k ≤ 60 ∧ c ≤ 60 ∧ Sta k c st ∧ ∀ H', Same H H' → Q (.int (remv k c st)) H'
theorem ok_remaining (TX : Tx K mg) : FnOk P w K mg base CX0 7 TX.a_remaining TX.fd_remaining ["state", "k", "c"] (sp_remaining K) := by
  refine TX.f_remaining.ok sc_remaining (fun vs H Q E h => ?_) (fun cdv A outer s H vs Q E hr h => ?_)
  · obtain ⟨a, st, k, c, rfl, _⟩ := h; rfl
  · obtain ⟨a, st, k, c, rfl, hS, hk, hc, hst, q⟩ := h
    refine ⟨_, (pss_cons (ps_expr (pe_call (ok_check_state TX) (hr.mono (by decide)) (by rfl) TX.g_check_state TX.f_check_state.kp TX.bd_check_state .nil pass0 (pa_cons (pv 0) (pa_cons (pv 1) (pa_cons (pv 2) pa_nil)))))
      (pss_cons (ps_set (i := 3) sc_remaining.nd rfl (.inl rfl) (pv 1))
      (pss_cons (ps_set (i := 4) sc_remaining.nd rfl (.inl rfl) (pv 2))
      (pss_cons (ps_set (i := 5) sc_remaining.nd rfl (.inl rfl) pe_int)
      (pss_cons (ps_for PassesOwn.never rfl (pi_range1 (by rfl) TX.b_range (pa_cons (pe_callB (id := "len") (k_len (K := K) rfl) (by rfl) TX.b_len (by decide +kernel) (pa_cons (pv 0) pa_nil)) pa_nil)) (pg_name (i := 6) sc_remaining.nd rfl (.inl rfl))
        (pss_cons (ps_set (i := 7) sc_remaining.nd rfl (.inl rfl) (pe_callB (id := "max") (cr_maxT (K := K) rfl rfl hr.units) (by rfl) TX.b_max (by decide +kernel) (pa_cons (pe_slice (k_slT (K := K) rfl) (pv 0) (po_some (pv 6)) po_none) pa_nil)))
        (pss_cons (ps_aug (i := 5) sc_remaining.nd rfl (.inl rfl) (pe_op op_sub (pe_call (ok_choose TX) (hr.mono (by decide)) (by rfl) TX.g_choose TX.f_choose.kp TX.bd_choose .nil pass0 (pa_cons (pe_op op_add (pv 3) (pv 4)) (pa_cons (pv 3) pa_nil))) (pe_call (ok_choose TX) (hr.mono (by decide)) (by rfl) TX.g_choose TX.f_choose.kp TX.bd_choose .nil pass0 (pa_cons (pe_op op_add (pv 3) (pv 7)) (pa_cons (pv 3) pa_nil)))) ip_add)
        (pss_cons (ps_aug (i := 3) sc_remaining.nd rfl (.inl rfl) pe_int ip_sub)
        (pss_one (ps_set (i := 4) sc_remaining.nd rfl (.inl rfl) (pv 7)))))))
      (pss_one (ps_ret (pe_op op_sub (pe_op op_add (pv 5) (pe_call (ok_choose TX) (hr.mono (by decide)) (by rfl) TX.g_choose TX.f_choose.kp TX.bd_choose .nil pass0 (pa_cons (pe_op op_add (pv 3) (pv 4)) (pa_cons (pv 3) pa_nil)))) pe_int)))))))), ?_⟩
    refine ⟨.ref a, rfl, _, rfl, _, rfl, a, st, k, c, rfl, hS, hk, hc, hst, fun H1 s1 => ⟨_, rfl, _, rfl, .ref a, rfl, a, _, rfl, .inr (Same.tup s1 hS), _, rfl, by omega, by rw [vi_len]; have := hst.1; omega, ?_⟩⟩
    refine for_range (lo := 0) (n := ((vi st).length : Int).toNat) (fun i σ H' => Same H H' ∧ ∃ (m : Nat) (fl : Int) (y6 y7 : Option V), σ = [some (.ref a), some (.int (k : Int)), some (.int (c : Int)), some (.int ((k - i : Nat) : Int)), some (.int (m : Int)), some (.int fl), y6, y7] ∧ fl + remv (k - i) m (st.drop i) = remv k c st ∧ Sta (k - i) m (st.drop i) ∧ m ≤ 60) ⟨s1, c, 0, none, none, rfl, by simp, by simpa using hst, hc⟩ ?_ ?_
    · rintro i σ H2 hi ⟨s2, m, fl, y6, y7, rfl, h1, h2, h3⟩
      have hi' : i < st.length := by rw [vi_len] at hi; omega
      have hik : i < k := by have := hst.1; omega
      have ed : st.drop i = st[i] :: st.drop (i + 1) := List.drop_eq_getElem_cons hi'
      have ei : (0 : Int) + (i : Nat) = (i : Int) := by omega
      rw [ei]
      refine ⟨.ref a, rfl, _, rfl, _, rfl, ?_⟩
      dsimp only [tNoPart]
      refine sl_read (Same.tup s2 hS) fun p H3 s3 h3' => ?_
      rw [cut_drop (by omega), ed] at h3'
      refine ⟨p, _, _, rfl, h3', ?_⟩
      rw [ed] at h1 h2
      have hmx : (List.foldl max ((st[i] : Nat) : Int) (List.map (fun (m : Nat) => (m : Int)) (st.drop (i + 1)))) = ((mx (st[i] :: st.drop (i + 1)) : Nat) : Int) := mx_fold _ _
      rw [hmx]
      have hm := h2.mx_le
      have ht := h2.tail
      have hrec : remv (k - i) m (st[i] :: st.drop (i + 1)) = ((bin (k - i + m) (k - i) : Int) - (bin (k - i + mx (st[i] :: st.drop (i + 1))) (k - i) : Int)) + remv (k - i - 1) (mx (st[i] :: st.drop (i + 1))) (st.drop (i + 1)) := rfl
      rw [hrec] at h1
      generalize mx (st[i] :: st.drop (i + 1)) = M at *
      refine ⟨_, rfl, _, rfl, _, rfl, _, _, rfl, rfl, _, rfl, k - i + m, k - i, rfl, by omega, by omega, by omega, _, rfl, _, rfl, _, _, rfl, rfl, _, rfl, k - i + M, k - i, rfl, by omega, by omega, by omega, _, _, rfl, rfl, _, _, rfl, rfl, ?_⟩
      refine ⟨_, rfl, _, _, rfl, rfl, _, rfl, s2.trans s3, M, fl + ((bin (k - i + m) (k - i) : Int) - (bin (k - i + M) (k - i) : Int)), some (.int (i : Int)), some (.int (M : Int)), ?_, ?_, ?_, by omega⟩
      · show [_, _, _, _, _, _, _, _] = [_, _, _, _, _, _, _, _]
        simp only [List.cons.injEq, Option.some.injEq, V.int.injEq, and_true, true_and]
        omega
      · rw [← h1]
        rw [show k - (i + 1) = k - i - 1 by omega]
        omega
      · rw [show k - (i + 1) = k - i - 1 by omega]; exact ht
    · rintro σ H2 ⟨s2, m, fl, y6, y7, rfl, h1, h2, h3⟩
      rw [show ((vi st).length : Int).toNat = st.length by rw [vi_len]; omega] at *
      rw [List.drop_length] at h1
      refine ⟨_, rfl, _, rfl, _, rfl, _, _, rfl, rfl, _, rfl, k - st.length + m, k - st.length, rfl, by omega, by omega, by omega, _, _, rfl, rfl, _, _, rfl, rfl, ?_⟩
      have := q H2 s2
      rw [← h1] at this
      simp only [remv] at this
      rw [show fl + ((bin (k - st.length + m) (k - st.length) : Int) - 1) = fl + (bin (k - st.length + m) (k - st.length) : Int) - 1 by omega] at this
      exact this
end
section
variable {P : Program} {w : World} {K : PySem.W.Frag} {mg : Str → Option Value} {base : Heap}
def sp_L_s5_drawn (K : PySem.W.Frag) : Sp := fun vs H Q _ => ∃ (a : Addr) (k c m : Nat) (n : Int), vs = [.ref a, .int (k : Int), .int (c : Int), .int (m : Int)] ∧ Pot H a n ∧ n ≤ 90000 ∧ k ≤ 60 ∧ c ≤ 60 ∧ m ≤ 60 ∧ ∀ H' p (st : List Nat), But a H H' → Pot H' a (n + 200) → Sta k c st → st.length ≤ m → SqT K H' p (vi st) → Q (.ref p) H'
theorem vi_of_ints {ms : List Int} (h : ∀ i, i ∈ ms → 0 ≤ i) : ms.map V.int = vi (ms.map Int.toNat) := by
  rw [vi, List.map_map]
  refine List.map_congr_left fun i hi => ?_
  have := h i hi
  show V.int i = V.int ((i.toNat : Nat) : Int)
  congr 1; omega
theorem ok_L_s5_drawn (TX : Tx K mg) : FnOk P w K mg base CX0 2 TX.a_L_s5_drawn TX.fd_L_s5_drawn ["_law_hand", "_law_room", "_law_wear", "_law_most"] (sp_L_s5_drawn K) := by
  refine TX.f_L_s5_drawn.ok sc_L_s5_drawn (fun vs H Q E h => ?_) (fun cdv A outer s H vs Q E hr h => ?_)
  · obtain ⟨a, k, c, m, n, rfl, _⟩ := h; rfl
  · obtain ⟨a, k, c, m, n, rfl, hp, hn, hk, hc, hm, q⟩ := h
    refine ⟨_, (pss_cons (ps_par3 (i := 4) (j := 5) (l := 6) (by rfl) sc_L_s5_drawn.nd rfl rfl rfl (by decide) (by decide) (by decide) rfl rfl rfl (pa_cons (pe_call (ok_L_s5_take TX) (hr.mono (by decide)) (by rfl) TX.g_L_s5_take TX.f_L_s5_take.kp TX.bd_L_s5_take .nil pass0 (pa_cons (pv 0) (pa_cons (pe_op op_add (pe_callB (id := "min") (call_min2 rfl) (by rfl) TX.b_min (by decide +kernel) (pa_cons (pv 1) (pa_cons (pv 3) pa_nil))) pe_int) pa_nil))) (pa_cons (pe_call (ok_L_s5_take TX) (hr.mono (by decide)) (by rfl) TX.g_L_s5_take TX.f_L_s5_take.kp TX.bd_L_s5_take .nil pass0 (pa_cons (pv 0) (pa_cons pe_int pa_nil))) (pa_cons (pe_tup pa_nil) pa_nil))) (by rfl))
      (pss_cons (ps_if (pt_cmpR op_eq (pv 2) pe_int (nomark _))
        (pss_one (ps_ret (pe_tup pa_nil)))
        pss_nil)
      (pss_cons (ps_for PassesOwn.never rfl (pi_range1 (by rfl) TX.b_range (pa_cons (pv 4) pa_nil)) (pg_name (i := 7) sc_L_s5_drawn.nd rfl (.inl rfl))
        (pss_cons (ps_set (i := 8) sc_L_s5_drawn.nd rfl (.inl rfl) (pe_callB (id := "max") (call_max2 rfl) (by rfl) TX.b_max (by decide +kernel) (pa_cons pe_int (pa_cons (pe_op op_sub (pv 2) (pe_call (ok_L_s5_take TX) (hr.mono (by decide)) (by rfl) TX.g_L_s5_take TX.f_L_s5_take.kp TX.bd_L_s5_take .nil pass0 (pa_cons (pv 0) (pa_cons pe_int pa_nil)))) pa_nil))))
        (pss_cons (ps_set (i := 9) sc_L_s5_drawn.nd rfl (.inl rfl) (pe_op op_add pe_int (pe_call (ok_L_s5_take TX) (hr.mono (by decide)) (by rfl) TX.g_L_s5_take TX.f_L_s5_take.kp TX.bd_L_s5_take .nil pass0 (pa_cons (pv 0) (pa_cons (pe_callB (id := "min") (call_min2 rfl) (by rfl) TX.b_min (by decide +kernel) (pa_cons (pv 2) (pa_cons pe_int pa_nil))) pa_nil)))))
        (pss_cons (ps_set (i := 10) sc_L_s5_drawn.nd rfl (.inl rfl) (pe_op op_add pe_int (pe_call (ok_L_s5_take TX) (hr.mono (by decide)) (by rfl) TX.g_L_s5_take TX.f_L_s5_take.kp TX.bd_L_s5_take .nil pass0 (pa_cons (pv 0) (pa_cons (pv 2) pa_nil)))))
        (pss_one (ps_set (i := 6) sc_L_s5_drawn.nd rfl (.inl rfl) (pe_op (k_catT (K := K) rfl) (pv 6) (pe_tup (pa_cons (pe_ix (k_ixL (K := K) rfl) (pe_lst (pa_cons (pv 10) (pa_cons (pv 10) (pa_cons (pv 8) (pa_cons (pv 9) pa_nil))))) (pv 5) (fun _ _ => rfl)) pa_nil)))))))))
      (pss_one (ps_ret (pe_ifExp (pt_cmpR op_eq (pv 5) pe_int (nomark _)) (pe_callTy (T := "tuple") (k_tupOf (K := K) rfl) (by rfl) TX.b_tuple (by decide +kernel) (pa_cons (pe_revL (pe_callB (id := "sorted") cr_sortTI (by rfl) TX.b_sorted (by decide +kernel) (pa_cons (pv 6) pa_nil))) pa_nil)) (pv 6))))))), ?_⟩
    refine ⟨.ref a, rfl, _, rfl, _, rfl, _, _, rfl, _, _, rfl, rfl, ?_⟩
    dsimp only
    rw [min_nat k m]
    refine ⟨a, _, n, rfl, hp, by omega, by omega, by omega, fun H1 len' b1 p1 l0 l1 => ?_⟩
    obtain ⟨len, rfl⟩ : ∃ len : Nat, len' = (len : Int) := ⟨len'.toNat, by omega⟩
    refine ⟨.ref a, rfl, a, 4, _, rfl, p1, by omega, by decide, by decide, fun H2 wy' b2 p2 w0 w1 => ⟨sz60 (by simp), fun t nt => ⟨_, _, _, rfl, ?_⟩⟩⟩
    obtain ⟨wy, rfl⟩ : ∃ wy : Nat, wy' = (wy : Int) := ⟨wy'.toNat, by omega⟩
    have s3 := same_upd (o := .tup []) nt
    have b03 := b1.trans (b2.trans (But.of s3))
    have p3 := p2.same s3
    refine ⟨_, rfl, rfl, ?_⟩
    by_cases hc0 : c = 0
    · subst hc0
      refine ⟨true, rfl, iteT ⟨sz60 (by simp), fun t2 nt2 => ?_⟩⟩
      have s4 := same_upd (o := .tup []) nt2
      exact q _ t2 [] (b03.trans (But.of s4)) ((p3.same s4).mono (by omega)) ⟨by simp, by simp⟩ (by simp) (.inl (.inl upd_same))
    · refine ⟨false, blF (int_ne (by omega)), iteF ?_⟩
      refine ⟨_, rfl, _, rfl, by omega, by omega, for_range (lo := 0) (n := ((len : Nat) : Int).toNat) (fun i σ H' => ∃ (p : Addr) (st : List Nat) (y7 y8 y9 y10 : Option V), σ = [some (.ref a), some (.int (k : Int)), some (.int (c : Int)), some (.int (m : Int)), some (.int (len : Int)), some (.int (wy : Int)), some (.ref p), y7, y8, y9, y10] ∧ But a H H' ∧ Pot H' a (n + 2 + 3 * (i : Int)) ∧ SqT K H' p (vi st) ∧ st.length = i ∧ ∀ x, x ∈ st → 1 ≤ x ∧ x ≤ c) ⟨t, [], none, none, none, none, rfl, b03, p3.mono (by omega), .inl (.inl upd_same), rfl, by simp⟩ ?_ ?_⟩
      · rintro i σ H4 hi ⟨p, st, y7, y8, y9, y10, rfl, b4, p4, h4, hl, hst⟩
        have hi' : i < len := by omega
        refine ⟨_, rfl, .ref a, rfl, a, 3, _, rfl, p4, by omega, by decide, by decide, fun H5 r b5 p5 r0 r1 => ⟨_, _, rfl, rfl, _, _, rfl, ?_⟩⟩
        obtain ⟨g, eg, g1, g2⟩ : ∃ g : Nat, (if (c : Int) - r > 1 then (c : Int) - r else 1) = (g : Int) ∧ 1 ≤ g ∧ g ≤ c := by
          split
          · exact ⟨((c : Int) - r).toNat, by omega, by omega, by omega⟩
          · exact ⟨1, rfl, by omega, by omega⟩
        dsimp only
        rw [eg]
        refine ⟨.ref a, rfl, _, rfl, _, _, rfl, ?_⟩
        obtain ⟨z3, ez, z1, z2⟩ : ∃ z : Nat, (if (3 : Int) < (c : Int) then (3 : Int) else (c : Int)) = (z : Int) ∧ 1 ≤ z ∧ z ≤ c := by
          split
          · exact ⟨3, rfl, by omega, by omega⟩
          · exact ⟨c, rfl, by omega, by omega⟩
        rw [ez]
        refine ⟨a, _, _, rfl, p5, by omega, by omega, by omega, fun H6 u b6 p6 u0 u1 => ⟨_, _, rfl, rfl, ?_⟩⟩
        refine ⟨.ref a, rfl, _, rfl, a, _, _, rfl, p6, by omega, by omega, by omega, fun H7 v b7 p7 v0 v1 => ⟨_, _, rfl, rfl, ?_⟩⟩
        refine ⟨.ref p, rfl, _, rfl, _, rfl, _, rfl, _, rfl, sz60 (by simp), fun l nl => ?_⟩
        have s8 := same_upd (o := .lst [V.int (1 + v), V.int (1 + v), V.int (g : Int), V.int (1 + u)]) nl
        obtain ⟨x, ex, x1, x2⟩ : ∃ x : Nat, atI [V.int (1 + v), V.int (1 + v), V.int (g : Int), V.int (1 + u)] (wy : Int) = some (.int (x : Int)) ∧ 1 ≤ x ∧ x ≤ c := by
          have hw : wy = 0 ∨ wy = 1 ∨ wy = 2 ∨ wy = 3 := by omega
          rcases hw with rfl | rfl | rfl | rfl
          · exact ⟨(1 + v).toNat, by show some (V.int _) = some (V.int _); rw [show (((1 + v).toNat : Nat) : Int) = 1 + v by omega], by omega, by omega⟩
          · exact ⟨(1 + v).toNat, by show some (V.int _) = some (V.int _); rw [show (((1 + v).toNat : Nat) : Int) = 1 + v by omega], by omega, by omega⟩
          · exact ⟨g, rfl, g1, g2⟩
          · exact ⟨(1 + u).toNat, by show some (V.int _) = some (V.int _); rw [show (((1 + u).toNat : Nat) : Int) = 1 + u by omega], by omega, by omega⟩
        refine ⟨_, rfl, l, _, _, .int (x : Int), rfl, rfl, .inl (.inl upd_same), ex, sz60 (by simp), fun t2 nt2 => ?_⟩
        have s9 := same_upd (o := .tup [V.int (x : Int)]) nt2
        have b49 := b5.trans (b6.trans (b7.trans ((But.of s8).trans (But.of s9))))
        have k49 : Keep K H4 _ := p4.keep b49
        refine cat_read (k49 _ _ h4) (.inl (.inl upd_same)) (by simp [vi]; omega) fun p2 H10 s10 h10 => ?_
        refine ⟨p2, st ++ [x], _, _, _, _, rfl, b4.trans (b49.trans (But.of s10)), (p7.same (s8.trans (s9.trans s10))).mono (by omega), by rw [vi_app]; exact h10, by simp [hl], fun y hy => ?_⟩
        rcases List.mem_append.mp hy with hy | hy
        · exact hst y hy
        · have : y = x := by simpa using hy
          subst this; exact ⟨x1, x2⟩
      · rintro σ H4 ⟨p, st, y7, y8, y9, y10, rfl, b4, p4, h4, hl, hst⟩
        have hl2 : st.length = len := by omega
        have hs4 : Sta k c st := ⟨by omega, hst⟩
        refine ⟨_, rfl, rfl, ?_⟩
        by_cases hw1 : wy = 1
        · subst hw1
          refine ⟨true, rfl, iteT ⟨.ref p, rfl, p, ci st, rfl, by rw [← vi_ci]; exact h4, fun ms p2 hperm np2 => ?_⟩⟩
          have s5 := same_upd (o := .lst (ms.map V.int)) np2
          have hms : ∀ i, i ∈ ms → ∃ x : Nat, i = (x : Int) ∧ x ∈ st := fun i hi => by
            have := hperm.subset hi
            rw [ci] at this
            obtain ⟨x, hx, rfl⟩ := List.mem_map.mp this
            exact ⟨x, rfl, hx⟩
          have hml : ms.length = st.length := by have := hperm.length_eq; rwa [ci, List.length_map] at this
          refine ⟨p2, _, rfl, .inl (.inl upd_same), fun p3 np3 => ⟨p3, _, rfl, .inl ⟨.inl (.inl upd_same), fun p4' np4 => ?_⟩⟩⟩
          have s6 := same_upd (o := .lst (ms.map V.int).reverse) np3
          have s7 := same_upd (o := .tup (ms.map V.int).reverse) np4
          have s57 := s5.trans (s6.trans s7)
          have er : (ms.map V.int).reverse = vi (ms.reverse.map Int.toNat) := by
            rw [← List.map_reverse]
            exact vi_of_ints fun i hi => by obtain ⟨x, rfl, _⟩ := hms i (List.mem_reverse.mp hi); omega
          refine q _ p4' (ms.reverse.map Int.toNat) (b4.trans (But.of s57)) ((p4.same s57).mono (by omega)) ⟨by rw [List.length_map, List.length_reverse, hml]; omega, fun y hy => ?_⟩ (by rw [List.length_map, List.length_reverse, hml]; omega) (by rw [← er]; exact .inl (.inl upd_same))
          obtain ⟨i, hi, rfl⟩ := List.mem_map.mp hy
          obtain ⟨x, rfl, hx⟩ := hms i (List.mem_reverse.mp hi)
          have := hst x hx
          omega
        · refine ⟨false, blF (int_ne (by omega)), iteF ⟨.ref p, rfl, ?_⟩⟩
          exact q _ p st b4 (p4.mono (by omega)) hs4 (by omega) h4
end
section
variable {P : Program} {w : World} {K : PySem.W.Frag} {mg : Str → Option Value} {base : Heap}
theorem mxdef_read {K : PySem.W.Frag} {H : Hp} {p : Addr} {xs : List Nat} {Q : VK} (h : SqT K H p (vi xs)) (q : Q (.int ((mx xs : Nat) : Int)) H) : rMaxDef K [.ref p] [.int 0] H Q := by
  refine ⟨p, 0, ci xs, rfl, rfl, by rw [← vi_ci]; exact h, fun e => ?_, fun m r e => ?_⟩
  · have : xs = [] := by simpa [ci] using e
    subst this; exact q
  · cases xs with
    | nil => simp [ci] at e
    | cons x t =>
      simp only [ci, List.map_cons, List.cons.injEq] at e
      obtain ⟨rfl, rfl⟩ := e
      rw [mx_fold]; exact q
def sp_state_after (K : PySem.W.Frag) : Sp := fun vs H Q _ => ∃ (a : Addr) (st : List Nat) (m : Nat), vs = [.ref a, .int (m : Int)] ∧ SqT K H a (vi st) ∧ m ≤ st.length ∧ st.length ≤ 1000 ∧ ∀ H' p, Same H H' → SqT K H' p (vi (sa st m)) → Q (.ref p) H'
theorem ok_state_after (TX : Tx K mg) : FnOk P w K mg base CX0 1 TX.a_state_after TX.fd_state_after ["state", "merge"] (sp_state_after K) := by
  refine TX.f_state_after.ok sc_state_after (fun vs H Q E h => ?_) (fun cdv A outer s H vs Q E hr h => ?_)
  · obtain ⟨a, st, m, rfl, _⟩ := h; rfl
  · obtain ⟨a, st, m, rfl, hS, hm, hl, q⟩ := h
    refine ⟨_, (pss_cons (ps_set (i := 2) sc_state_after.nd rfl (.inl rfl) (pe_op op_sub (pe_callB (id := "len") (k_len (K := K) rfl) (by rfl) TX.b_len (by decide +kernel) (pa_cons (pv 0) pa_nil)) (pv 1)))
      (pss_one (ps_ret (pe_op (k_catT (K := K) rfl) (pe_slice (k_slT (K := K) rfl) (pv 0) po_none (po_some (pv 2))) (pe_tup (pa_cons (pe_op op_add pe_int (pe_callBK (id := "max") (cr_maxDef (K := K) rfl rfl hr.units) (by rfl) TX.b_max (by decide +kernel) (pa_cons (pe_slice (k_slT (K := K) rfl) (pv 0) (po_some (pv 2)) po_none) pa_nil) (pk_cons pe_int pk_nil))) pa_nil)))))), ?_⟩
    refine ⟨.ref a, rfl, a, _, rfl, .inr hS, _, rfl, _, _, rfl, rfl, ?_⟩
    have eK : ((vi st).length : Int) - (m : Int) = ((st.length - m : Nat) : Int) := by rw [vi_len]; omega
    dsimp only
    rw [eK]
    refine ⟨.ref a, rfl, _, rfl, _, rfl, sl_read hS fun c1 H1 s1 h1 => ?_⟩
    rw [cutV_to (by omega)] at h1
    refine ⟨.ref a, rfl, _, rfl, _, rfl, ?_⟩
    dsimp only [tNoPart]
    refine sl_read (Same.tup s1 hS) fun c2 H2 s2 h2 => ?_
    rw [cutV_from (by omega)] at h2
    dsimp only [tNil, tCons, tC]
    refine mxdef_read h2 ?_
    refine ⟨_, _, rfl, rfl, sz60 (by simp), fun t nt => ?_⟩
    have s3 := same_upd (o := .tup [V.int (1 + ((mx (st.drop (st.length - m)) : Nat) : Int))]) nt
    refine cat_read (Same.tup (s2.trans s3) h1) (.inl (.inl upd_same)) (by simp [vi]; omega) fun p H4 s4 h4 => q H4 p (s1.trans (s2.trans (s3.trans s4))) ?_
    unfold sa
    rw [vi_app]
    have e : vi [1 + mx (st.drop (st.length - m))] = [V.int (1 + ((mx (st.drop (st.length - m)) : Nat) : Int))] := by
      simp [vi]
    rw [e]; exact h4
def sp_best_merge (K : PySem.W.Frag) : Sp := fun vs H Q _ => ∃ (a : Addr) (st : List Nat) (k c : Nat), vs = [.ref a, .int (k : Int), .int (c : Int)] ∧ SqT K H a (vi st) ∧ k ≤ 60 ∧ c ≤ 60 ∧ Sta k c st ∧ (∀ H' m, Same H H' → Bm k c st m → Q (.int (m : Int)) H') ∧ ∀ H', Same H H' → BmN k c st → Q .non H'
theorem ok_best_merge (TX : Tx K mg) : FnOk P w K mg base CX0 7 TX.a_best_merge TX.fd_best_merge ["state", "k", "c"] (sp_best_merge K) := by
  refine TX.f_best_merge.ok sc_best_merge (fun vs H Q E h => ?_) (fun cdv A outer s H vs Q E hr h => ?_)
  · obtain ⟨a, st, k, c, rfl, _⟩ := h; rfl
  · obtain ⟨a, st, k, c, rfl, hS, hk, hc, hst, q1, q2⟩ := h
    refine ⟨_, (pss_cons (ps_expr (pe_call (ok_check_state TX) (hr.mono (by decide)) (by rfl) TX.g_check_state TX.f_check_state.kp TX.bd_check_state .nil pass0 (pa_cons (pv 0) (pa_cons (pv 1) (pa_cons (pv 2) pa_nil)))))
      (pss_cut (ps_set (i := 3) sc_best_merge.nd rfl (.inl rfl) (pe_ifExp (pt_cmpR op_lt (pe_callB (id := "len") (k_len (K := K) rfl) (by rfl) TX.b_len (by decide +kernel) (pa_cons (pv 0) pa_nil)) (pv 1) (nomark _)) pe_int pe_int))
      (pss_cons (ps_set (i := 4) sc_best_merge.nd rfl (.inl rfl) (pe_op (k_catT (K := K) rfl) (pe_tup (pa_cons (pv 2) pa_nil)) (pv 0)))
      (pss_cons (ps_for PassesOwn.never rfl (pi_range2 (by rfl) TX.b_range (pa_cons (pv 3) (pa_cons (pe_op op_add (pe_callB (id := "len") (k_len (K := K) rfl) (by rfl) TX.b_len (by decide +kernel) (pa_cons (pv 0) pa_nil)) pe_int) pa_nil))) (pg_name (i := 5) sc_best_merge.nd rfl (.inl rfl))
        (pss_cons (ps_set (i := 6) sc_best_merge.nd rfl (.inl rfl) (pe_op op_sub (pe_callB (id := "len") (k_len (K := K) rfl) (by rfl) TX.b_len (by decide +kernel) (pa_cons (pv 0) pa_nil)) (pv 5)))
        (pss_one (ps_if (pt_cmpR op_lt (pe_callBK (id := "max") (cr_maxDef (K := K) rfl rfl hr.units) (by rfl) TX.b_max (by decide +kernel) (pa_cons (pe_slice (k_slT (K := K) rfl) (pv 0) (po_some (pv 6)) po_none) pa_nil) (pk_cons pe_int pk_nil)) (pe_ix (k_ixT (K := K) rfl) (pv 4) (pv 6) (fun _ _ => rfl)) (nomark _))
          (pss_one (ps_ret (pv 5)))
          pss_nil))))
      (pss_one (ps_ret pe_non)))))), ?_⟩
    have hl := hst.1
    refine ⟨.ref a, rfl, _, rfl, _, rfl, a, st, k, c, rfl, hS, hk, hc, hst, fun H1 s1 => ?_⟩
    have h1 := Same.tup s1 hS
    refine ⟨fun σ' H2 => H2 = H1 ∧ σ' = [some (.ref a), some (.int (k : Int)), some (.int (c : Int)), some (.int (few k st : Int)), none, none, none], ?_, ?_⟩
    · refine ⟨.ref a, rfl, a, _, rfl, .inr h1, _, rfl, _, _, rfl, rfl, _, rfl, ?_⟩
      by_cases hlt : st.length < k
      · exact decT (by rw [vi_len]; omega) ⟨rfl, by rw [few, if_pos hlt]; rfl⟩
      · exact decF (by rw [vi_len]; omega) ⟨rfl, by rw [few, if_neg hlt]; rfl⟩
    · rintro σ' H2 ⟨rfl, rfl⟩
      refine ⟨_, rfl, sz60 (by simp), fun t nt => ⟨.ref a, rfl, ?_⟩⟩
      have s3 := same_upd (o := .tup [V.int (c : Int)]) nt
      refine cat_read (.inl (.inl upd_same)) (Same.tup s3 h1) (by simp [vi]; omega) fun b H4 s4 h4 => ?_
      have hb : SqT K H4 b (vi (c :: st)) := h4
      have sF := s1.trans (s3.trans s4)
      have g4 := Same.tup sF hS
      have hf : few k st ≤ 1 := by unfold few; split <;> omega
      refine ⟨_, rfl, .ref a, rfl, a, _, rfl, .inr g4, _, _, rfl, rfl, _, _, rfl, ⟨by omega, by omega, by rw [vi_len]; omega, by rw [vi_len]; omega⟩, ?_⟩
      refine for_range (lo := (few k st : Int)) (n := (((vi st).length : Int) + 1 - (few k st : Int)).toNat) (fun i σ H' => Same H H' ∧ SqT K H' b (vi (c :: st)) ∧ (∃ y5 y6, σ = [some (.ref a), some (.int (k : Int)), some (.int (c : Int)), some (.int (few k st : Int)), some (.ref b), y5, y6]) ∧ ∀ m', few k st ≤ m' → m' < few k st + i → ¬ tst c st m') ⟨sF, hb, ⟨_, _, rfl⟩, by omega⟩ ?_ ?_
      · rintro i σ H5 hi ⟨s5, h5, ⟨y5, y6, rfl⟩, hno⟩
        rw [vi_len] at hi
        have g5 := Same.tup s5 hS
        obtain ⟨m, em, hm1, hm2⟩ : ∃ m : Nat, (few k st : Int) + (i : Int) = (m : Int) ∧ m = few k st + i ∧ m ≤ st.length := ⟨few k st + i, by omega, rfl, by omega⟩
        rw [em]
        refine ⟨.ref a, rfl, a, _, rfl, .inr g5, _, rfl, _, _, rfl, rfl, ?_⟩
        have eK : ((vi st).length : Int) - (m : Int) = ((st.length - m : Nat) : Int) := by rw [vi_len]; omega
        dsimp only
        rw [eK]
        refine ⟨.ref a, rfl, _, rfl, _, rfl, ?_⟩
        dsimp only [tNoPart]
        refine sl_read g5 fun c2 H6 s6 h6 => ?_
        rw [cutV_from (by omega)] at h6
        have h5' := Same.tup s6 h5
        have hj : (c :: st)[st.length - m]? = some (bnd c st (st.length - m)) := by
          unfold bnd
          rw [List.getD_eq_getElem?_getD, List.getElem?_eq_getElem (show st.length - m < (c :: st).length by rw [List.length_cons]; omega)]
          rfl
        dsimp only [tNil, tCons, tC]
        refine mxdef_read h6 ?_
        refine ⟨.ref b, rfl, _, rfl, b, _, _, _, rfl, rfl, h5', at_vi hj, _, _, rfl, rfl, _, rfl, ?_⟩
        by_cases ht : tst c st m
        · refine decT (by unfold tst at ht; omega) ⟨_, rfl, q1 _ _ (s5.trans s6) ⟨by omega, hm2, ht, fun m' a1 a2 => hno m' a1 (by omega)⟩⟩
        · refine decF (by unfold tst at ht; omega) ⟨s5.trans s6, h5', ⟨_, _, rfl⟩, fun m' a1 a2 => ?_⟩
          by_cases e : m' = m
          · rw [e]; exact ht
          · exact hno m' a1 (by omega)
      · rintro σ H5 ⟨s5, h5, ⟨y5, y6, rfl⟩, hno⟩
        rw [vi_len] at hno
        exact q2 _ s5 fun m a1 a2 => hno m a1 (by omega)
end
def nxt (k c : Nat) (st : List Nat) : List Nat := (List.range (st.length + 1)).filter fun m => isSta k c (sa st m)
theorem least_of {P : Nat → Prop} (h : ∃ m, P m) : ∃ m, P m ∧ ∀ m', m' < m → ¬ P m' := by
  obtain ⟨m, hm⟩ := h
  induction m using Nat.strongRecOn with
  | ind m ih =>
    by_cases c : ∃ m', m' < m ∧ P m'
    · obtain ⟨m', h1, h2⟩ := c
      exact ih m' h1 h2
    · exact ⟨m, hm, fun m' h1 h2 => c ⟨m', h1, h2⟩⟩
theorem bm_or {k c : Nat} {st : List Nat} : BmN k c st ∨ ∃ m, Bm k c st m := by
  by_cases h : BmN k c st
  · exact .inl h
  · refine .inr ?_
    have : ∃ m, few k st ≤ m ∧ m ≤ st.length ∧ tst c st m := by
      by_cases e : ∃ m, few k st ≤ m ∧ m ≤ st.length ∧ tst c st m
      · exact e
      · exact (h fun m a b t => e ⟨m, a, b, t⟩).elim
    obtain ⟨m, ⟨h1, h2, h3⟩, h4⟩ := least_of this
    exact ⟨m, h1, h2, h3, fun m' a b t => h4 m' b ⟨a, by omega, t⟩⟩
theorem range_getD (l : List Nat) : (List.range l.length).map (fun i => l.getD i 0) = l := by
  refine List.ext_getElem? fun i => ?_
  rw [List.getElem?_map]
  by_cases h : i < l.length
  · rw [List.getElem?_range h, List.getElem?_eq_getElem h]
    show some (l.getD i 0) = _
    rw [List.getD_eq_getElem?_getD, List.getElem?_eq_getElem h]
    rfl
  · rw [List.getElem?_eq_none (by rw [List.length_range]; omega), List.getElem?_eq_none (by omega)]
    rfl
theorem sel_eq (l : List Nat) (p : Nat → Bool) : ((List.range l.length).filter (fun i => p (l.getD i 0))).map (fun i => l.getD i 0) = l.filter p := by
  have h := List.filter_map (f := fun i => l.getD i 0) (p := p) (l := List.range l.length)
  rw [range_getD] at h
  rw [h]
  rfl
theorem filter_only {p : Nat → Bool} {m : Nat} : ∀ N, (∀ i, i < N → (p i = true ↔ i = m)) → (List.range N).filter p = if m < N then [m] else []
  | 0, _ => by simp
  | N + 1, h => by
    rw [List.range_succ, List.filter_append, filter_only N fun i hi => h i (by omega)]
    have hN := h N (by omega)
    by_cases e : N = m
    · subst e
      have : p N = true := hN.mpr rfl
      simp [this]
    · have hf : p N = false := by
        cases c : p N with
        | false => rfl
        | true => exact absurd (hN.mp c) e
      by_cases c : m < N
      · rw [if_pos c, if_pos (by omega)]; simp [hf]
      · rw [if_neg c, if_neg (by omega)]; simp [hf]
theorem mem_nxt {k c : Nat} {st : List Nat} {m : Nat} (h : m ∈ nxt k c st) : m ≤ st.length ∧ Sta k c (sa st m) := by
  unfold nxt at h
  obtain ⟨h1, h2⟩ := List.mem_filter.mp h
  have := List.mem_range.mp h1
  exact ⟨by omega, isSta_iff.mp h2⟩
theorem best_list {k c : Nat} {st : List Nat} {m : Nat} (h : Sta k c st) (b : Bm k c st m) : (nxt k c st).filter (fun n => decide (remv k c (sa st n) = remv k c st - 1)) = [m] := by
  obtain ⟨g1, g2⟩ := b.good h
  have hm := b.2.1
  unfold nxt
  rw [List.filter_filter, filter_only (m := m) _ fun i hi => ?_, if_pos (by omega)]
  have e0 := remv_brd h
  constructor
  · intro e
    simp only [Bool.and_eq_true, decide_eq_true_eq] at e
    have s1 := isSta_iff.mp e.2
    have e1 := remv_brd s1
    exact good_uniq h (by omega) hm s1 g1 (by omega) g2
  · rintro rfl
    have e1 := remv_brd g1
    simp only [Bool.and_eq_true, decide_eq_true_eq]
    exact ⟨by omega, isSta_iff.mpr g1⟩
theorem remv_nn {k c : Nat} {st : List Nat} (h : Sta k c st) : 0 ≤ remv k c st := by
  have h1 := remv_brd h
  have h2 := brd_le h
  omega
theorem remv_lt {k c : Nat} {st : List Nat} {m : Nat} (h : Sta k c st) (hm : m ≤ st.length) (h2 : Sta k c (sa st m)) : remv k c (sa st m) < remv k c st := by
  have h1 := remv_brd h
  have h3 := remv_brd h2
  have h4 := brd_sa h.pos hm
  omega
/-- all states of j runs, and of up to k runs, with writes of at most c -/
def rowS (c : Nat) : Nat → List (List Nat)
  | 0 => [[]]
  | j + 1 => (rowS c j).flatMap fun s => (List.range c).map fun e => s ++ [e + 1]
def fndS (c : Nat) : Nat → List (List Nat)
  | 0 => rowS c 0
  | k + 1 => fndS c k ++ rowS c (k + 1)
theorem rowS_mem {c : Nat} : ∀ {j : Nat} {s : List Nat}, s ∈ rowS c j ↔ s.length = j ∧ ∀ x, x ∈ s → 1 ≤ x ∧ x ≤ c
  | 0, s => by
    simp only [rowS, List.mem_singleton]
    constructor
    · rintro rfl; exact ⟨rfl, fun x hx => nomatch hx⟩
    · rintro ⟨h, _⟩; exact List.length_eq_zero_iff.mp h
  | j + 1, s => by
    simp only [rowS, List.mem_flatMap, List.mem_map, List.mem_range]
    constructor
    · rintro ⟨t, ht, e, he, rfl⟩
      obtain ⟨h1, h2⟩ := rowS_mem.mp ht
      refine ⟨by simp [h1], fun x hx => ?_⟩
      rcases List.mem_append.mp hx with hx | hx
      · exact h2 x hx
      · rw [List.mem_singleton.mp hx]; omega
    · rintro ⟨h1, h2⟩
      have hne : s ≠ [] := by rintro rfl; simp at h1
      have hd := List.dropLast_concat_getLast hne
      have hlast := h2 (s.getLast hne) (List.getLast_mem hne)
      refine ⟨s.dropLast, rowS_mem.mpr ⟨by rw [List.length_dropLast]; omega, fun x hx => h2 x (List.dropLast_subset _ hx)⟩, s.getLast hne - 1, by omega, ?_⟩
      rw [show s.getLast hne - 1 + 1 = s.getLast hne by omega]
      exact hd
theorem fndS_mem {c : Nat} : ∀ {k : Nat} {s : List Nat}, s ∈ fndS c k ↔ Sta k c s
  | 0, s => by
    show s ∈ rowS c 0 ↔ _
    rw [rowS_mem]
    exact ⟨fun h => ⟨by omega, h.2⟩, fun h => ⟨by have := h.1; omega, h.2⟩⟩
  | k + 1, s => by
    show s ∈ fndS c k ++ rowS c (k + 1) ↔ _
    rw [List.mem_append, fndS_mem, rowS_mem]
    constructor
    · rintro (h | h)
      · exact ⟨by have := h.1; omega, h.2⟩
      · exact ⟨by omega, h.2⟩
    · intro h
      by_cases e : s.length ≤ k
      · exact .inl ⟨e, h.2⟩
      · exact .inr ⟨by have := h.1; omega, h.2⟩
theorem nd_le {α : Type} [DecidableEq α] : ∀ (l L : List α), l.Nodup → (∀ x, x ∈ l → x ∈ L) → l.length ≤ L.length
  | [], L, _, _ => Nat.zero_le _
  | x :: l, L, h, hs => by
    obtain ⟨h1, h2⟩ := List.nodup_cons.mp h
    have hx := hs x (List.mem_cons_self ..)
    have := nd_le l (L.erase x) h2 fun y hy => (List.mem_erase_of_ne (fun e => h1 (by rw [← e]; exact hy))).mpr (hs y (List.mem_cons_of_mem _ hy))
    rw [List.length_erase_of_mem hx] at this
    have := List.length_pos_of_mem hx
    rw [List.length_cons]
    omega
/-- budgets whose states are few -/
def Few (k c : Nat) : Prop := k ≤ 9 ∧ c ≤ 9 ∧ (fndS c k).length ≤ 400 ∧ bin (k + c) k ≤ 75
theorem few_all : ∀ k, k < 5 → ∀ c, c < 5 → Few k c := by
  have h : ∀ k, k < 5 → ∀ c, c < 5 → k ≤ 9 ∧ c ≤ 9 ∧ (fndS c k).length ≤ 400 ∧ bin (k + c) k ≤ 75 := by decide +kernel
  exact h
theorem bm_none {k c : Nat} {st : List Nat} (h : Sta k c st) (b : BmN k c st) : nxt k c st = [] := by
  have hz := b.zero h
  unfold nxt
  rw [List.filter_eq_nil_iff]
  intro m hm hs
  have hs := isSta_iff.mp hs
  have hm' := List.mem_range.mp hm
  have h1 := brd_sa (m := m) h.pos (by omega)
  have h2 := brd_le hs
  omega
/-- the longest way on -/
theorem lon {k c : Nat} {st : List Nat} (h : Sta k c st) : (nxt k c st = [] ∧ remv k c st = 0) ∨ ∃ m, m ∈ nxt k c st ∧ remv k c (sa st m) = remv k c st - 1 ∧ ∀ m', m' ∈ nxt k c st → remv k c (sa st m') ≤ remv k c st - 1 := by
  rcases bm_or (k := k) (c := c) (st := st) with hb | ⟨m, hb⟩
  · refine .inl ⟨bm_none h hb, ?_⟩
    have h1 := hb.zero h
    have h2 := remv_brd h
    omega
  · obtain ⟨g1, g2⟩ := hb.good h
    have hm := hb.2.1
    refine .inr ⟨m, ?_, ?_, fun m' hm' => ?_⟩
    · unfold nxt
      exact List.mem_filter.mpr ⟨List.mem_range.mpr (by omega), isSta_iff.mpr g1⟩
    · have h1 := remv_brd h
      have h2 := remv_brd g1
      omega
    · obtain ⟨q1, q2⟩ := mem_nxt hm'
      have := remv_lt h q1 q2
      omega
/-! ### the search for all that a state reaches -/
abbrev Cfg := List (List Nat) × List (List Nat)
def nx1 (k c : Nat) (st : List Nat) : List (List Nat) := (nxt k c st).map (sa st)
def vis (g : Cfg) (s : List Nat) : Cfg := if s ∈ g.1 then g else (g.1 ++ [s], g.2 ++ [s])
def visAll (g : Cfg) (l : List (List Nat)) : Cfg := l.foldl vis g
def stp (k c : Nat) (g : Cfg) : Cfg := match g.2.getLast? with
  | none => g
  | some cur => visAll (g.1, g.2.dropLast) (nx1 k c cur)
def itr (k c : Nat) : Nat → Cfg → Cfg
  | 0, g => g
  | n + 1, g => stp k c (itr k c n g)
def GoodC (k c : Nat) (g : Cfg) : Prop := g.1.Nodup ∧ (∀ s, s ∈ g.1 → Sta k c s) ∧ ∀ s, s ∈ g.2 → Sta k c s
def muC (k c : Nat) (g : Cfg) : Nat := 2 * ((fndS c k).length - g.1.length) + g.2.length
theorem goodC_len {k c : Nat} {g : Cfg} (h : GoodC k c g) : g.1.length ≤ (fndS c k).length := nd_le _ _ h.1 fun s hs => fndS_mem.mpr (h.2.1 s hs)
theorem vis_good {k c : Nat} {g : Cfg} {s : List Nat} (h : GoodC k c g) (hs : Sta k c s) : GoodC k c (vis g s) ∧ muC k c (vis g s) ≤ muC k c g := by
  unfold vis
  by_cases e : s ∈ g.1
  · rw [if_pos e]; exact ⟨h, Nat.le_refl _⟩
  · rw [if_neg e]
    have g1 : GoodC k c (g.1 ++ [s], g.2 ++ [s]) := by
      refine ⟨List.nodup_append.mpr ⟨h.1, by simp, fun x hx y hy z => ?_⟩, fun x hx => ?_, fun x hx => ?_⟩
      · rw [List.mem_singleton.mp hy] at z; exact e (by rw [← z]; exact hx)
      · rcases List.mem_append.mp hx with hx | hx
        · exact h.2.1 x hx
        · rw [List.mem_singleton.mp hx]; exact hs
      · rcases List.mem_append.mp hx with hx | hx
        · exact h.2.2 x hx
        · rw [List.mem_singleton.mp hx]; exact hs
    refine ⟨g1, ?_⟩
    have := goodC_len g1
    unfold muC
    simp only [List.length_append, List.length_singleton] at this ⊢
    omega
theorem visAll_good {k c : Nat} : ∀ {l : List (List Nat)} {g : Cfg}, GoodC k c g → (∀ s, s ∈ l → Sta k c s) → GoodC k c (visAll g l) ∧ muC k c (visAll g l) ≤ muC k c g
  | [], g, h, _ => ⟨h, Nat.le_refl _⟩
  | s :: l, g, h, hl => by
    obtain ⟨h1, h2⟩ := vis_good h (hl s (List.mem_cons_self ..))
    obtain ⟨h3, h4⟩ := visAll_good (l := l) h1 fun x hx => hl x (List.mem_cons_of_mem _ hx)
    exact ⟨h3, Nat.le_trans h4 h2⟩
theorem nx1_sta {k c : Nat} {st s : List Nat} (h : s ∈ nx1 k c st) : Sta k c s := by
  obtain ⟨m, hm, rfl⟩ := List.mem_map.mp h
  exact (mem_nxt hm).2
theorem visAll_snoc {g : Cfg} {l : List (List Nat)} {s : List Nat} : visAll g (l ++ [s]) = vis (visAll g l) s := by
  unfold visAll; rw [List.foldl_append]; rfl
theorem stp_eq {k c : Nat} {f ws : List (List Nat)} {cur : List Nat} : stp k c (f, ws ++ [cur]) = visAll (f, ws) (nx1 k c cur) := by
  unfold stp
  simp
theorem stp_nil {k c : Nat} {f : List (List Nat)} : stp k c (f, []) = (f, []) := rfl
theorem itr_add {k c : Nat} {g : Cfg} (n : Nat) : ∀ m, itr k c (n + m) g = itr k c m (itr k c n g)
  | 0 => rfl
  | m + 1 => by
    show stp k c (itr k c (n + m) g) = stp k c (itr k c m (itr k c n g))
    rw [itr_add n m]
theorem itr_nil {k c : Nat} {f : List (List Nat)} : ∀ n, itr k c n (f, []) = (f, [])
  | 0 => rfl
  | n + 1 => by
    show stp k c (itr k c n (f, [])) = _
    rw [itr_nil n, stp_nil]
theorem itr_stop {k c n m : Nat} {g : Cfg} {f f' : List (List Nat)} (h : itr k c n g = (f, [])) (h' : itr k c m g = (f', [])) : f = f' := by
  have key : ∀ {n m : Nat} {f f' : List (List Nat)}, n ≤ m → itr k c n g = (f, []) → itr k c m g = (f', []) → f = f' := fun {n m f f'} hle h h' => by
    obtain ⟨d, rfl⟩ : ∃ d, m = n + d := ⟨m - n, by omega⟩
    rw [itr_add, h, itr_nil] at h'
    exact congrArg Prod.fst h'
  rcases Nat.le_total n m with hle | hle
  · exact key hle h h'
  · exact (key hle h' h).symm
theorem kT_inj : ∀ {a b : List Int}, kT a = kT b → a = b
  | [], [], _ => rfl
  | [], _ :: _, h => nomatch h
  | _ :: _, [], h => nomatch h
  | x :: a, y :: b, h => by
    have h1 : (Sum.inl x : Int ⊕ List Nat) = Sum.inl y := (List.cons.inj h).1
    have h2 : kT a = kT b := (List.cons.inj h).2
    rw [Sum.inl.inj h1, kT_inj h2]
theorem ltT_anti {a b : List Int} (h1 : ltT a b = false) (h2 : ltT b a = false) : a = b := kT_inj ((listOrd itemOrd).total _ _ h1 h2)
theorem sort_uniq {m l : List (List Int)} (hp : m.Perm l) (h1 : m.Pairwise (fun a b => ltT b a = false)) (h2 : l.Pairwise (fun a b => ltT b a = false)) : m = l :=
  List.Perm.eq_of_pairwise (fun a b _ _ x y => ltT_anti y x) h1 h2 hp
theorem ci_inj {a b : List Nat} (h : ci a = ci b) : a = b := by
  unfold ci at h
  exact (List.map_inj_right (fun x y h => by omega)).mp h
/-- what stands in the list that a search returns -/
def Rch (k c : Nat) (st : List Nat) (ss : List (List Nat)) : Prop := ∃ n fs, itr k c n ([st], [st]) = (fs, []) ∧ (ss.map ci).Perm (fs.map ci) ∧ (ss.map ci).Pairwise (fun a b => ltT b a = false) ∧ GoodC k c (fs, [])
theorem Rch.uniq {k c : Nat} {st : List Nat} {ss ss' : List (List Nat)} (h : Rch k c st ss) (h' : Rch k c st ss') : ss = ss' := by
  obtain ⟨n, fs, h1, h2, h3, _⟩ := h
  obtain ⟨m, fs', g1, g2, g3, _⟩ := h'
  rw [itr_stop h1 g1] at h2
  have := sort_uniq (h2.trans g2.symm) h3 g3
  exact (List.map_inj_right fun x y h => ci_inj h).mp this
theorem Rch.sta {k c : Nat} {st s : List Nat} {ss : List (List Nat)} (h : Rch k c st ss) (hs : s ∈ ss) : Sta k c s := by
  obtain ⟨n, fs, h1, h2, h3, h4⟩ := h
  have := h2.mem_iff.mp (List.mem_map.mpr ⟨s, hs, rfl⟩)
  obtain ⟨t, ht, e⟩ := List.mem_map.mp this
  rw [← ci_inj e]
  exact h4.2.1 t ht
theorem Rch.len {k c : Nat} {st : List Nat} {ss : List (List Nat)} (h : Rch k c st ss) : ss.length ≤ (fndS c k).length := by
  obtain ⟨n, fs, h1, h2, h3, h4⟩ := h
  have := h2.length_eq
  rw [List.length_map, List.length_map] at this
  rw [this]
  exact goodC_len h4
theorem key_in {fs : List (List Nat)} {s : List Nat} : (valV (fs.map fun t => (ci t, V.bl true)) (ci s)).isSome = decide (s ∈ fs) := by
  rw [← valV_any]
  by_cases h : s ∈ fs
  · rw [decide_eq_true h, List.any_eq_true]
    exact ⟨(ci s, V.bl true), List.mem_map.mpr ⟨s, h, rfl⟩, decide_eq_true rfl⟩
  · rw [decide_eq_false h, List.any_eq_false]
    intro kv hkv
    obtain ⟨t, ht, rfl⟩ := List.mem_map.mp hkv
    simp only [decide_eq_true_eq]
    intro e
    exact h (by rw [← ci_inj e]; exact ht)
theorem put_new {fs : List (List Nat)} {s : List Nat} (h : s ∉ fs) : putK (fs.map fun t => (ci t, V.bl true)) (ci s) (.bl true) = (fs ++ [s]).map fun t => (ci t, V.bl true) := by
  unfold putK
  have := key_in (fs := fs) (s := s)
  rw [← valV_any, decide_eq_false h] at this
  rw [if_neg (by rw [this]; decide), List.map_append]; rfl
/-- every key but the first has an element; the first has none only if it is where the search starts -/
def KeyOk (st : List Nat) (fs : List (List Nat)) : Prop := ∃ r, fs = st :: r ∧ ∀ s, s ∈ r → s ≠ []
theorem KeyOk.vis {st : List Nat} {g : Cfg} {s : List Nat} (h : KeyOk st g.1) (hs : s ≠ []) : KeyOk st (vis g s).1 := by
  obtain ⟨r, h1, h2⟩ := h
  unfold MB.vis
  split
  · exact ⟨r, h1, h2⟩
  · refine ⟨r ++ [s], by rw [h1]; rfl, fun x hx => ?_⟩
    rcases List.mem_append.mp hx with hx | hx
    · exact h2 x hx
    · rw [List.mem_singleton.mp hx]; exact hs
theorem sa_ne {st : List Nat} {m : Nat} : sa st m ≠ [] := by
  unfold sa
  simp
section
variable {P : Program} {w : World} {K : PySem.W.Frag} {mg : Str → Option Value} {base : Heap}
def dSt (st : List Nat) : PyData := .tuple ((ci st).map PyData.int)
theorem tf_dSt (st : List Nat) : Tf (dSt st) := .tup (tf_ints _)
theorem dSt_inv {H : Hp} {v : V} {st : List Nat} (h : Dp K H v (dSt st)) : ∃ a, v = .ref a ∧ SqT K H a (vi st) := by
  obtain ⟨a, e, h⟩ := Dp.intsInv h
  exact ⟨a, e, by rw [vi_ci]; exact h⟩
theorem dp_dSt {H : Hp} {a : Addr} {st : List Nat} (h : SqT K H a (vi st)) : Dp K H (.ref a) (dSt st) := by
  rw [vi_ci] at h; exact dp_tup h
def sp_states_after (K : PySem.W.Frag) : Sp := fun vs H Q _ => ∃ (a : Addr) (st : List Nat) (k c : Nat), vs = [.ref a, .int (k : Int), .int (c : Int)] ∧ SqT K H a (vi st) ∧ k ≤ 60 ∧ c ≤ 60 ∧ st.length ≤ 100 ∧ ∀ H' p ys, Same H H' → H' p = some (.lst ys) → H p = none → DpAll K H' ys ((nx1 k c st).map dSt) → Q (.ref p) H'
theorem ok_states_after (TX : Tx K mg) : FnOk P w K mg base CX0 6 TX.a_states_after TX.fd_states_after ["state", "k", "c"] (sp_states_after K) := by
  refine TX.f_states_after.ok sc_states_after (fun vs H Q E h => ?_) (fun cdv A outer s H vs Q E hr h => ?_)
  · obtain ⟨a, st, k, c, rfl, _⟩ := h; rfl
  · obtain ⟨a, st, k, c, rfl, hS, hk, hc, hl, q⟩ := h
    refine ⟨_, (pss_cons (ps_setLc (i := 3) (own := [("merge", 4)]) (by rfl) sc_states_after.nd rfl rfl (sw_true rfl rfl rfl (by decide +kernel)) (pi_range1 (by rfl) TX.b_range (pa_cons (pe_op op_add (pe_callB (id := "len") (k_len (K := K) rfl) (by rfl) TX.b_len (by decide +kernel) (pa_cons (pv 0) pa_nil)) pe_int) pa_nil)) (blkOk_by (own := [("merge", 4)]) (N := N_states_after) (sc := defScope s_states_after) (by decide +kernel)) (fun _ _ _ _ _ => (pg_name (i := 4) sc_states_after.nd rfl (Or.inl rfl))) (fun _ _ _ _ _ => pts_nil) (fun _ _ _ _ _ => (pe_call (ok_state_after TX) (hr.mono (by decide)) (by rfl) TX.g_state_after TX.f_state_after.kp TX.bd_state_after .nil pass0 (pa_cons (pv 0) (pa_cons (pv 4) pa_nil)))))
      (pss_one (ps_ret (pe_lc (own := [("after", 5)]) (by rfl) sc_states_after.nd (k_piL (K := K) rfl (pv 3)) (blkOk_by (own := [("after", 5)]) (N := N_states_after) (sc := defScope s_states_after) (by decide +kernel)) (fun _ _ _ _ _ => (pg_name (i := 5) sc_states_after.nd rfl (Or.inl rfl))) (fun _ _ _ _ _ => (pts_one (pt_val (pe_call (ok_is_state TX) (hr.mono (by decide)) (by rfl) TX.g_is_state TX.f_is_state.kp TX.bd_is_state .nil pass0 (pa_cons (pv 5) (pa_cons (pv 1) (pa_cons (pv 2) pa_nil))))))) (fun _ _ _ _ _ => (pv 5)))))), ?_⟩
    refine ⟨.ref a, rfl, a, _, rfl, .inr hS, _, _, rfl, rfl, _, rfl, by rw [vi_len]; omega, by rw [vi_len]; omega, fun D nD => ?_⟩
    have eN : (((vi st).length : Int) + 1).toNat = st.length + 1 := by rw [vi_len]; omega
    refine lc_all (K := K) walk_range ((List.range (st.length + 1)).map fun m => dSt (sa st m)) (by rw [List.length_map, List.length_range]; exact eN.symm) (fun d h => by obtain ⟨m, _, rfl⟩ := List.mem_map.mp h; exact tf_dSt _) (by rw [eN]; omega) nD (fun _ _ => trivial) ?_ ?_ (fun x σ' H' Q Q' h => h _ _) (fun σ' H' Q Q' h => h _ _)
    · rintro i x H2 H2' hi s2 ⟨rfl, rfl⟩ d hd R hR
      rw [eN] at hi
      rw [List.getElem?_map, List.getElem?_range hi] at hd
      cases hd
      refine ⟨rfl, rfl, .ref a, rfl, _, rfl, a, st, i, ?_, Same.tup s2 hS, by omega, by omega, fun H3 p s3 h3 => hR _ _ s3 (dp_dSt h3)⟩
      show [V.ref a, V.int _] = [V.ref a, V.int _]
      rw [show (0 : Int) + (i : Int) = (i : Int) by omega]
    · intro H2 acc s2 ha hA
      have hal : acc.length = st.length + 1 := by rw [DpAll.len hA, List.length_map, List.length_range]
      refine ⟨.ref D, rfl, D, rfl, ⟨_, .inl (.inl ha)⟩, fun D2 nD2 => ?_⟩
      refine lc_sel (K := K) (walk_list (xs := acc)) (fun m => isSta k c (sa st m)) (fun m => dSt (sa st m)) (fun m _ => tf_dSt _) (by omega) nD2 (fun H' s' => .inl (.inl (s' _ _ ha))) ?_ ?_ (fun x σ' H' Q Q' h => h _ _) (fun σ' H' Q Q' h e => by
        obtain ⟨v1, e1, v2, e2, v3, e3, a', st', k', c', f1, f2, f3, f4, f5⟩ := e
        exact ⟨v1, e1, v2, e2, v3, e3, a', st', k', c', f1, f2, f3, f4, fun H4 s4 => let ⟨b, g1, g2⟩ := f5 H4 s4; ⟨b, g1, h _ _ g2⟩⟩)
      · rintro i x H3 H3' hi s3 ⟨rfl, hx⟩ R hR
        have hi' : i < st.length + 1 := by omega
        obtain ⟨v, hv, hd⟩ := DpAll.get hA (i := i) (d := dSt (sa st i)) (by rw [List.getElem?_map, List.getElem?_range hi']; rfl)
        rw [hv] at hx
        cases hx
        obtain ⟨b, rfl, hb⟩ := dSt_inv hd
        have hb3 := Same.tup s3 hb
        refine ⟨rfl, .ref b, rfl, _, rfl, _, rfl, b, _, k, c, rfl, hb3, hk, hc, fun H4 s4 => ⟨_, rfl, rfl, s4, fun _ => ⟨.ref b, rfl, hR _ _ s4 (dp_dSt (Same.tup s4 hb3))⟩⟩⟩
      · intro H3 acc2 s3 ha2 hA2
        refine q H3 D2 acc2 (s2.trans s3) ha2 (s2.free nD2) ?_
        rw [hal] at hA2
        have e : (nx1 k c st).map dSt = ((List.range (st.length + 1)).filter fun m => isSta k c (sa st m)).map fun m => dSt (sa st m) := by
          unfold nx1 nxt
          rw [List.map_map]; rfl
        rw [e]; exact hA2
/-- where the search stands -/
def At (K : PySem.W.Frag) (P : Program) (w : World) (k c : Nat) (st : List Nat) (d l : Addr) (g : Cfg) (H : Hp) : Prop :=
  GoodC k c g ∧ KeyOk st g.1 ∧ DN K P w H d (g.1.map fun t => (ci t, V.bl true)) ∧ ∃ ws, H l = some (.lst ws) ∧ DpAll K H ws (g.2.map dSt)
theorem At.same {k c : Nat} {st : List Nat} {d l : Addr} {g : Cfg} {H H' : Hp} (h : At K P w k c st d l g H) (s : Same H H') : At K P w k c st d l g H' := by
  obtain ⟨h1, h2, h3, ws, h4, h5⟩ := h
  exact ⟨h1, h2, h3.same s, ws, s _ _ h4, DpAll.same s h5⟩
theorem At.ne {k c : Nat} {st : List Nat} {d l : Addr} {g : Cfg} {H : Hp} (h : At K P w k c st d l g H) : d ≠ l := fun e => by
  obtain ⟨_, _, ⟨L, h3, _⟩, ws, h4, _⟩ := h
  rw [← e, h3] at h4
  cases h4
end
theorem while_ix {c : TT} {tb : TS} {D : Ends} {σ : L2.St} {H : Hp} (Pv : Nat → L2.St → Hp → Prop) (h0 : ∃ m, Pv m σ H)
    (hs : ∀ m σ H, Pv m σ H → c σ H fun b H1 => if b = true then tb { D with nx := fun σ' H' => ∃ m', m' < m ∧ Pv m' σ' H', ct := fun σ' H' => ∃ m', m' < m ∧ Pv m' σ' H', bk := D.nx } σ H1 else D.nx σ H1)
    (mono : ∀ σ H Q Q', (∀ b H1, Q b H1 → Q' b H1) → c σ H Q → c σ H Q') : tWhile c tb D σ H := by
  refine ⟨fun m σ H => Pv m σ H, h0, ?_⟩
  rintro m σ H p
  refine mono σ H _ _ (fun b H1 q => ?_) (hs m σ H p)
  cases b with
  | true => exact ⟨_, fun σ' H' h => h, q⟩
  | false => exact q
theorem snoc_of {α : Type} {l : List α} (h : l ≠ []) : ∃ r x, l = r ++ [x] := ⟨l.dropLast, l.getLast h, (List.dropLast_concat_getLast h).symm⟩
theorem DpAll.snoc2 {K : PySem.W.Frag} {H : Hp} {vs : List V} {ds : List PyData} {d : PyData} (h : DpAll K H vs (ds ++ [d])) : ∃ us v, vs = us ++ [v] ∧ DpAll K H us ds ∧ Dp K H v d := DpAll.snoc h
section
variable {P : Program} {w : World} {K : PySem.W.Frag} {mg : Str → Option Value} {base : Heap}
def sp_all_reached (K : PySem.W.Frag) : Sp := fun vs H Q _ => ∃ (a : Addr) (st : List Nat) (k c : Nat), vs = [.ref a, .int (k : Int), .int (c : Int)] ∧ SqT K H a (vi st) ∧ k ≤ 60 ∧ c ≤ 60 ∧ (fndS c k).length ≤ 400 ∧ Sta k c st ∧ ∀ H' l us ss, Same H H' → H l = none → H' l = some (.lst us) → DpAll K H' us (ss.map dSt) → Rch k c st ss → Q (.ref l) H'
theorem ok_all_reached (TX : Tx K mg) : FnOk P w K mg base CX0 7 TX.a_all_reached TX.fd_all_reached ["state", "k", "c"] (sp_all_reached K) := by
  refine TX.f_all_reached.ok sc_all_reached (fun vs H Q E h => ?_) (fun cdv A outer s H vs Q E hr h => ?_)
  · obtain ⟨a, st, k, c, rfl, _⟩ := h; rfl
  · obtain ⟨a, st, k, c, rfl, hS, hk, hc, hF, hst, q⟩ := h
    refine ⟨_, (pss_cons (ps_set (i := 3) sc_all_reached.nd rfl (.inl rfl) (pe_ndisp (K := K) (P := P) (w := w) rfl rfl rfl (hu_of hr) (pv 0) pe_bl))
      (pss_cons (ps_set (i := 4) sc_all_reached.nd rfl (.inl rfl) (pe_lst (pa_cons (pv 0) pa_nil)))
      (pss_cons (ps_while PassesOwn.never (pt_truth (pv 4) (by intro _; rfl))
        (pss_cons (ps_set (i := 5) sc_all_reached.nd rfl (.inl rfl) (pe_bm0 PySem.F.plainAttrs_list PySem.F.slot_list_pop PySem.F.type_list_pop mt_pop (pv 4)))
        (pss_one (ps_for PassesOwn.never rfl (k_piL (K := K) rfl (pe_call (ok_states_after TX) (hr.mono (by decide)) (by rfl) TX.g_states_after TX.f_states_after.kp TX.bd_states_after .nil pass0 (pa_cons (pv 5) (pa_cons (pv 1) (pa_cons (pv 2) pa_nil))))) (pg_name (i := 6) sc_all_reached.nd rfl (.inl rfl))
          (pss_one (ps_if (pt_cmp (pc_nnotin (K := K) (P := P) (w := w) rfl rfl rfl (hu_of hr) (pv 6) (pv 3)))
            (pss_cons (ps_nput (K := K) (P := P) (w := w) rfl rfl rfl (hu_of hr) (pv 3) (pv 6) pe_bl (by rfl))
            (pss_one (ps_expr (pe_bm PySem.F.plainAttrs_list PySem.F.slot_list_append PySem.F.type_list_append mt_append (pv 4) (pa_cons (pv 6) pa_nil)))))
            pss_nil))))))
      (pss_one (ps_ret (pe_callB (id := "sorted") (cr_sortE (K := K) (P := P) (w := w) rfl rfl rfl rfl hr.units) (by rfl) TX.b_sorted (by decide +kernel) (pa_cons (pv 3) pa_nil))))))), ?_⟩
    have hci : SqT K H a ((ci st).map V.int) := by rw [← vi_ci]; exact hS
    refine fun d H1 nd s1 g1 => ⟨_, rfl, a, ci st, rfl, g1, Same.tup s1 hci, fun H2 e2 kp2 g2 => ?_⟩
    have s2 : Same H H2 := fun b o e => by
      have hb : b ≠ d := ne_of_none e nd
      rw [e2 b hb]; exact s1 _ _ e
    have h2 := Same.tup s2 hS
    refine ⟨.ref a, rfl, sz60 (by simp), fun l nl => ?_⟩
    have z3 := same_upd (o := .lst [V.ref a]) nl
    have s3 := s2.trans z3
    have at0 : At K P w k c st d l ([st], [st]) (upd H2 l (.lst [V.ref a])) := ⟨⟨by simp, fun x hx => by rw [List.mem_singleton.mp hx]; exact hst, fun x hx => by rw [List.mem_singleton.mp hx]; exact hst⟩, ⟨[], rfl, by simp⟩, g2.same z3, _, upd_same, .cons (dp_dSt (Same.tup s3 hS)) .nil⟩
    have nlH : H l = none := s2.free nl
    generalize upd H2 l _ = G0 at s3 at0 ⊢
    refine ⟨fun m σ G => ∃ (y5 y6 : Option V) (g : Cfg) (n : Nat), σ = [some (.ref a), some (.int (k : Int)), some (.int (c : Int)), some (.ref d), some (.ref l), y5, y6] ∧ Same H G ∧ itr k c n ([st], [st]) = g ∧ At K P w k c st d l g G ∧ m = muC k c g ∧ m ≤ 2 * (fndS c k).length + 1, ⟨_, none, none, _, 0, rfl, s3, rfl, at0, rfl, by simp only [itr, muC, List.length_singleton]; omega⟩, ?_⟩
    rintro m σ G ⟨y5, y6, g, n, rfl, sG, hg, hat, rfl, hm0⟩
    obtain ⟨hgood, hkey, hdn, ws, hl, hA⟩ := id hat
    have hdl := hat.ne
    refine ⟨.ref l, rfl, !ws.isEmpty, .inl ⟨ws, .inl (.inl hl), rfl⟩, ?_⟩
    by_cases hw : g.2 = []
    · -- done
      have hws : ws = [] := by
        have := DpAll.len hA
        rw [hw] at this
        exact List.length_eq_zero_iff.mp (by simpa using this)
      subst hws
      refine iteF ?_
      obtain ⟨fs, wl⟩ := g
      simp only at hw
      subst hw
      refine ⟨.ref d, rfl, d, _, rfl, hdn, ?_, fun ys mss p hys hperm hsort np => ?_⟩
      · obtain ⟨r, e1, e2⟩ := hkey
        simp only at e1
        subst e1
        cases hst0 : st with
        | nil => exact .inr ⟨_, _, by rw [List.map_cons]; rfl⟩
        | cons x xs =>
          refine .inl fun kv hkv => ?_
          obtain ⟨t, ht, rfl⟩ := List.mem_map.mp hkv
          rcases List.mem_cons.mp ht with rfl | ht
          · simp [ci]
          · have := e2 t ht
            intro z
            apply this
            cases t with
            | nil => rfl
            | cons x xs => simp [ci] at z
      · have em : ∃ ss : List (List Nat), mss = ss.map ci := by
          refine ⟨mss.map fun ms => ms.map Int.toNat, ?_⟩
          rw [List.map_map]
          refine (List.map_id mss).symm.trans (List.map_congr_left fun ms hms => ?_)
          have := hperm.mem_iff.mp hms
          rw [List.map_map] at this
          obtain ⟨t, ht, e⟩ := List.mem_map.mp this
          have e' : ci t = ms := e
          rw [← e']
          simp [ci]
        obtain ⟨ss, rfl⟩ := em
        have z := same_upd (o := .lst ys) np
        refine q _ p ys ss (sG.trans z) (sG.free np) upd_same ?_ ⟨n, fs, hg, ?_, hsort, hgood⟩
        · have := DpAll.same z hys
          rw [List.map_map] at this
          exact this
        · rw [List.map_map] at hperm
          exact hperm
    · obtain ⟨wl, cur, hwl⟩ := snoc_of hw
      rw [hwl, List.map_append, List.map_singleton] at hA
      obtain ⟨us, v, rfl, hA1, hv⟩ := DpAll.snoc2 hA
      obtain ⟨b, rfl, hb⟩ := dSt_inv hv
      refine iteB1 (by simp) ⟨_, fun σ' H' h => h, ?_⟩
      have hcur : Sta k c cur := hgood.2.2 cur (by rw [hwl]; simp)
      refine ⟨.ref l, rfl, .inl ⟨rfl, _, .inl (.inl hl)⟩, l, us ++ [V.ref b], .ref b, rfl, rfl, hl, by simp, ?_⟩
      rw [List.dropLast_concat]
      have kp1 : Keep K G (upd G l (.lst us)) := But.keep But.upd hl
      have hnl : H l = none := nlH
      have s5 : Same H (upd G l (.lst us)) := Same.mut sG nlH
      have hd5 : DN K P w (upd G l (.lst us)) d (g.1.map fun t => (ci t, V.bl true)) := hdn.keep kp1 fun o ho => by rw [upd_ne hdl]; exact ho
      have hA5 : DpAll K (upd G l (.lst us)) us (wl.map dSt) := DpAll.keep kp1 (fun d' hd' => by obtain ⟨t, _, rfl⟩ := List.mem_map.mp hd'; exact tf_dSt _) hA1
      have at5 : At K P w k c st d l (g.1, wl) (upd G l (.lst us)) := ⟨⟨hgood.1, hgood.2.1, fun s hs => hgood.2.2 s (by rw [hwl]; simp [hs])⟩, hkey, hd5, us, upd_same, hA5⟩
      have hb5 : SqT K (upd G l (.lst us)) b (vi cur) := kp1 _ _ hb
      generalize upd G l _ = G5 at *
      refine ⟨.ref b, rfl, _, rfl, _, rfl, b, cur, k, c, rfl, hb5, hk, hc, by have := hcur.1; omega, fun G6 p ys s6 hp np hys => ?_⟩
      have at6 := at5.same s6
      have s06 := s5.trans s6
      have hyl : ys.length = (nx1 k c cur).length := by rw [DpAll.len hys, List.length_map]
      have ndH : H d = none := nd
      have hpd : p ≠ d := fun e => by
        obtain ⟨L, hL, _⟩ := hd5
        rw [e, hL] at np; cases np
      have hpl : p ≠ l := fun e => by
        obtain ⟨_, _, _, ws', hl', _⟩ := at5
        rw [e, hl'] at np; cases np
      have hnxl : (nx1 k c cur).length ≤ 61 := by
        unfold nx1 nxt
        rw [List.length_map]
        have := List.length_filter_le (fun m => isSta k c (sa cur m)) (List.range (cur.length + 1))
        rw [List.length_range] at this
        have := hcur.1
        omega
      have htk : ∀ j s, s ∈ (nx1 k c cur).take j → Sta k c s := fun j s hs => nx1_sta (List.mem_of_mem_take hs)
      refine ⟨p, rfl, ⟨_, .inl (.inl hp)⟩, for_list (K := K) (xs := ys) (fun j σ G' => ∃ y6, σ = [some (.ref a), some (.int (k : Int)), some (.int (c : Int)), some (.ref d), some (.ref l), some (.ref b), y6] ∧ Same H G' ∧ G' p = some (.lst ys) ∧ DpAll K G' ys ((nx1 k c cur).map dSt) ∧ At K P w k c st d l (visAll (g.1, wl) ((nx1 k c cur).take j)) G') ⟨_, rfl, s06, hp, hys, at6⟩ (fun j σ G' _ h => by obtain ⟨_, _, _, h, _⟩ := h; exact .inl (.inl h)) ?_ ?_⟩
      · rintro j x σ G' hx ⟨y6, rfl, sG', hp', hys', hat'⟩
        have hj : j < (nx1 k c cur).length := by rw [← hyl]; exact (List.getElem?_eq_some_iff.mp hx).1
        have hg := List.getElem?_eq_getElem hj
        generalize hsj : (nx1 k c cur)[j] = sj at hg
        obtain ⟨v, hv, hdv⟩ := DpAll.get hys' (i := j) (d := dSt sj) (by rw [List.getElem?_map, hg]; rfl)
        rw [hv] at hx
        cases hx
        obtain ⟨b2, rfl, hb2⟩ := dSt_inv hdv
        have hb2' : SqT K G' b2 ((ci sj).map V.int) := by rw [← vi_ci]; exact hb2
        have hnext : visAll (g.1, wl) ((nx1 k c cur).take (j + 1)) = vis (visAll (g.1, wl) ((nx1 k c cur).take j)) sj := by
          rw [List.take_add_one, hg]
          exact visAll_snoc
        have hsne : sj ≠ [] := by
          have : sj ∈ nx1 k c cur := List.mem_of_getElem? hg
          obtain ⟨m, _, rfl⟩ := List.mem_map.mp this
          exact sa_ne
        have hsS : Sta k c sj := nx1_sta (List.mem_of_getElem? hg)
        rw [hnext]
        have hmj : muC k c (visAll (g.1, wl) ((nx1 k c cur).take j)) ≤ muC k c (g.1, wl) := (visAll_good at5.1 (htk j)).2
        generalize visAll (g.1, wl) ((nx1 k c cur).take j) = g' at hat' hmj ⊢
        obtain ⟨hgood', hkey', hdn', ws', hl', hA'⟩ := id hat'
        have hwl' : ws'.length = g'.2.length := by rw [DpAll.len hA', List.length_map]
        refine ⟨_, rfl, _, rfl, d, b2, _, ci sj, rfl, rfl, hdn', hb2', ?_⟩
        have hin := key_in (fs := g'.1) (s := sj)
        by_cases hmem : sj ∈ g'.1
        · rw [hin, decide_eq_true hmem]
          refine ⟨_, rfl, iteB0 rfl ⟨_, rfl, sG', hp', hys', ?_⟩⟩
          unfold vis
          rw [if_pos hmem]
          exact hat'
        · rw [hin, decide_eq_false hmem]
          refine ⟨_, rfl, iteB1 rfl ?_⟩
          have hgl := goodC_len hgood'
          refine ⟨_, rfl, _, rfl, d, b2, _, ci sj, rfl, rfl, hdn', hb2', sz61 (by rw [List.length_map]; omega), fun H8 e8 kp8 g8 => ?_⟩
          rw [put_new hmem] at g8
          have hl8 : H8 l = some (.lst ws') := by rw [e8 l (Ne.symm hdl)]; exact hl'
          have hw400 : ws'.length ≤ 1000 := by
            have h1 : muC k c g' ≤ 2 * (fndS c k).length + 1 := by
              have e1 : muC k c g = muC k c (g.1, wl) + 1 := by
                unfold muC
                rw [hwl, List.length_append, List.length_singleton]
                show _ = 2 * ((fndS c k).length - g.1.length) + wl.length + 1
                omega
              omega
            unfold muC at h1
            omega
          refine ⟨.ref l, rfl, .inl ⟨rfl, _, .inl (.inl hl8)⟩, _, rfl, l, ws', _, rfl, rfl, hl8, sz61 (by omega), ?_⟩
          have kp9 : Keep K H8 (upd H8 l (.lst (ws' ++ [V.ref b2]))) := But.keep But.upd hl8
          obtain ⟨hgv, _⟩ := vis_good hgood' hsS
          have hkv : KeyOk st (vis g' sj).1 := hkey'.vis hsne
          have ev : vis g' sj = (g'.1 ++ [sj], g'.2 ++ [sj]) := by unfold vis; rw [if_neg hmem]
          refine ⟨_, rfl, fun b' o' e' => ?_, ?_, ?_, hgv, hkv, ?_⟩
          · have h1 : b' ≠ l := ne_of_none e' nlH
            have h2 : b' ≠ d := ne_of_none e' ndH
            rw [upd_ne h1, e8 b' h2]
            exact sG' _ _ e'
          · rw [upd_ne hpl, e8 p hpd]; exact hp'
          · exact DpAll.keep kp9 (fun d' hd' => by obtain ⟨t, _, rfl⟩ := List.mem_map.mp hd'; exact tf_dSt _) (DpAll.keep kp8 (fun d' hd' => by obtain ⟨t, _, rfl⟩ := List.mem_map.mp hd'; exact tf_dSt _) hys')
          · rw [ev]
            refine ⟨g8.keep kp9 fun o ho => by rw [upd_ne hdl]; exact ho, _, upd_same, ?_⟩
            rw [List.map_append, List.map_singleton]
            refine DpAll.append ?_ (.cons (dp_dSt (kp9 _ _ (kp8 _ _ hb2))) .nil)
            exact DpAll.keep kp9 (fun d' hd' => by obtain ⟨t, _, rfl⟩ := List.mem_map.mp hd'; exact tf_dSt _) (DpAll.keep kp8 (fun d' hd' => by obtain ⟨t, _, rfl⟩ := List.mem_map.mp hd'; exact tf_dSt _) hA')
      · rintro σ G' ⟨y6, rfl, sG', hp', hys', hat'⟩
        rw [hyl, List.take_of_length_le (Nat.le_refl _)] at hat'
        have hgw : g = (g.1, wl ++ [cur]) := by rw [← hwl]
        have hstp : stp k c g = visAll (g.1, wl) (nx1 k c cur) := by rw [hgw]; exact stp_eq
        obtain ⟨_, hmu⟩ := visAll_good (l := nx1 k c cur) at5.1 fun s hs => nx1_sta hs
        have e1 : muC k c g = muC k c (g.1, wl) + 1 := by
          unfold muC
          rw [hwl, List.length_append, List.length_singleton]
          show _ = 2 * ((fndS c k).length - g.1.length) + wl.length + 1
          omega
        exact ⟨_, by omega, _, _, _, n + 1, rfl, sG', by show stp k c (itr k c n ([st], [st])) = _; rw [hg, hstp], hat', rfl, by omega⟩
end
section
variable {P : Program} {w : World} {K : PySem.W.Frag} {mg : Str → Option Value} {base : Heap}
def dRow (k c : Nat) (s : List Nat) : PyData := .tuple [dSt s, .int (remv k c s)]
def dTab (k c : Nat) (ss : List (List Nat)) : PyData := .tuple (ss.map (dRow k c))
theorem tf_dRow (k c : Nat) (s : List Nat) : Tf (dRow k c s) := .tup fun d h => by
  rcases List.mem_cons.mp h with h | h
  · rw [h]; exact tf_dSt _
  · rcases List.mem_cons.mp h with h | h
    · rw [h]; exact .int _
    · cases h
def sp_check_arguments (K : PySem.W.Frag) : Sp := fun vs H Q _ => ∃ (a : Addr) (st : List Nat) (k c : Nat), vs = [.ref a, .int (k : Int), .int (c : Int)] ∧ SqT K H a (vi st) ∧ k ≤ 4 ∧ c ≤ 4 ∧ Sta k c st ∧ ∀ H', Same H H' → Q .non H'
theorem ok_check_arguments (TX : Tx K mg) : FnOk P w K mg base CX0 7 TX.a_check_arguments TX.fd_check_arguments ["state", "k", "c"] (sp_check_arguments K) := by
  refine TX.f_check_arguments.ok sc_check_arguments (fun vs H Q E h => ?_) (fun cdv A outer s H vs Q E hr h => ?_)
  · obtain ⟨a, st, k, c, rfl, _⟩ := h; rfl
  · obtain ⟨a, st, k, c, rfl, hS, hk, hc, hst, q⟩ := h
    refine ⟨_, (pss_cons (ps_expr (pe_call (ok_check_budgets TX) (hr.mono (by decide)) (by rfl) TX.g_check_budgets TX.f_check_budgets.kp TX.bd_check_budgets .nil pass0 (pa_cons (pv 1) (pa_cons (pv 2) (pa_cons (pe_glob (v := .int (4)) (by rfl) TX.c_MOST_TABLE_BUDGET ⟨_, rfl⟩) pa_nil)))))
      (pss_one (ps_expr (pe_call (ok_check_state TX) (hr.mono (by decide)) (by rfl) TX.g_check_state TX.f_check_state.kp TX.bd_check_state .nil pass0 (pa_cons (pv 0) (pa_cons (pv 1) (pa_cons (pv 2) pa_nil))))))), ?_⟩
    exact ⟨_, rfl, _, rfl, _, _, _, rfl, by omega, by omega, by omega, by omega, fun H1 s1 => ⟨.ref a, rfl, _, rfl, _, rfl, a, st, k, c, rfl, Same.tup s1 hS, by omega, by omega, hst, fun H2 s2 => q _ (s1.trans s2)⟩⟩
def sp_potentials (K : PySem.W.Frag) : Sp := fun vs H Q _ => ∃ (a : Addr) (st : List Nat) (k c : Nat), vs = [.ref a, .int (k : Int), .int (c : Int)] ∧ SqT K H a (vi st) ∧ k ≤ 4 ∧ c ≤ 4 ∧ (fndS c k).length ≤ 400 ∧ Sta k c st ∧ ∀ H' p ss, Same H H' → Dp K H' (.ref p) (dTab k c ss) → Rch k c st ss → Q (.ref p) H'
theorem ok_potentials (TX : Tx K mg) : FnOk P w K mg base CX0 8 TX.a_potentials TX.fd_potentials ["state", "k", "c"] (sp_potentials K) := by
  refine TX.f_potentials.ok sc_potentials (fun vs H Q E h => ?_) (fun cdv A outer s H vs Q E hr h => ?_)
  · obtain ⟨a, st, k, c, rfl, _⟩ := h; rfl
  · obtain ⟨a, st, k, c, rfl, hS, hk, hc, hF, hst, q⟩ := h
    refine ⟨_, (pss_cons (ps_expr (pe_call (ok_check_arguments TX) (hr.mono (by decide)) (by rfl) TX.g_check_arguments TX.f_check_arguments.kp TX.bd_check_arguments .nil pass0 (pa_cons (pv 0) (pa_cons (pv 1) (pa_cons (pv 2) pa_nil)))))
      (pss_one (ps_ret (pe_callTy (T := "tuple") (k_tupOf (K := K) rfl) (by rfl) TX.b_tuple (by decide +kernel) (pa_cons (pe_lc (own := [("reached", 3)]) (by rfl) sc_potentials.nd (k_piL (K := K) rfl (pe_call (ok_all_reached TX) (hr.mono (by decide)) (by rfl) TX.g_all_reached TX.f_all_reached.kp TX.bd_all_reached .nil pass0 (pa_cons (pv 0) (pa_cons (pv 1) (pa_cons (pv 2) pa_nil))))) (blkOk_by (own := [("reached", 3)]) (N := N_potentials) (sc := defScope s_potentials) (by decide +kernel)) (fun _ _ _ _ _ => (pg_name (i := 3) sc_potentials.nd rfl (Or.inl rfl))) (fun _ _ _ _ _ => pts_nil) (fun _ _ _ _ _ => (pe_tup (pa_cons (pv 3) (pa_cons (pe_call (ok_remaining TX) (hr.mono (by decide)) (by rfl) TX.g_remaining TX.f_remaining.kp TX.bd_remaining .nil pass0 (pa_cons (pv 3) (pa_cons (pv 1) (pa_cons (pv 2) pa_nil)))) pa_nil))))) pa_nil))))), ?_⟩
    refine ⟨.ref a, rfl, _, rfl, _, rfl, a, st, k, c, rfl, hS, hk, hc, hst, fun H1 s1 => ?_⟩
    refine ⟨.ref a, rfl, _, rfl, _, rfl, a, st, k, c, rfl, Same.tup s1 hS, by omega, by omega, hF, hst, fun H2 l us ss s2 nl hl hus hR => ?_⟩
    have hul : us.length = ss.length := by rw [DpAll.len hus, List.length_map]
    have hsl := hR.len
    refine ⟨l, rfl, ⟨_, .inl (.inl hl)⟩, fun D nD => lc_all (K := K) (walk_list (K := K) (a := l) (xs := us)) (ss.map (dRow k c)) (by rw [List.length_map, hul]) (fun d hd => by obtain ⟨s, _, rfl⟩ := List.mem_map.mp hd; exact tf_dRow _ _ _) (by omega) nD (fun H' s' => .inl (.inl (s' _ _ hl))) ?_ ?_ (fun x σ' H' Q Q' h => h _ _) (fun σ' H' Q Q' h => h _ _)⟩
    · rintro i x H3 H3' hi s3 ⟨rfl, hx⟩ d hd R hR'
      have hi' : i < ss.length := by omega
      have hg := List.getElem?_eq_getElem hi'
      rw [List.getElem?_map, hg] at hd
      cases hd
      obtain ⟨v, hv, hdv⟩ := DpAll.get hus (i := i) (d := dSt ss[i]) (by rw [List.getElem?_map, hg]; rfl)
      rw [hv] at hx
      cases hx
      obtain ⟨b, rfl, hb⟩ := dSt_inv hdv
      have hb3 := Same.tup s3 hb
      have hsS := hR.sta (List.getElem_mem hi')
      refine ⟨rfl, rfl, .ref b, rfl, .ref b, rfl, _, rfl, _, rfl, b, ss[i], k, c, rfl, hb3, by omega, by omega, hsS, fun H4 s4 => ⟨sz60 (by simp), fun t nt => ?_⟩⟩
      have z5 := same_upd (o := .tup [V.ref b, V.int (remv k c ss[i])]) nt
      refine hR' _ _ (s4.trans z5) (.tup (.inl (.inl upd_same)) (.cons (dp_dSt (Same.tup (s4.trans z5) hb3)) (.cons (.int _) .nil)))
    · intro H3 acc s3 ha hA
      refine ⟨D, acc, rfl, .inl ⟨.inl (.inl ha), fun p np => ?_⟩⟩
      have z4 := same_upd (o := .tup acc) np
      exact q _ p ss (s1.trans (s2.trans (s3.trans z4))) (.tup (.inl (.inl upd_same)) (DpAll.same z4 hA)) hR
end
/-! ### tables that certify what remains -/
theorem vis_1 {g : Cfg} {s x : List Nat} (h : x ∈ g.1) : x ∈ (vis g s).1 := by
  unfold vis; split
  · exact h
  · exact List.mem_append_left _ h
theorem vis_2 {g : Cfg} {s x : List Nat} (h : x ∈ g.2) : x ∈ (vis g s).2 := by
  unfold vis; split
  · exact h
  · exact List.mem_append_left _ h
theorem vis_3 {g : Cfg} {s : List Nat} : s ∈ (vis g s).1 := by
  unfold vis; split
  · assumption
  · exact List.mem_append_right _ (.head _)
theorem vis_4 {g : Cfg} {s x : List Nat} (h : x ∈ (vis g s).1) : x ∈ g.1 ∨ x ∈ (vis g s).2 := by
  unfold vis at h ⊢
  split at h
  · exact .inl h
  · next e =>
    rw [if_neg e]
    rcases List.mem_append.mp h with h | h
    · exact .inl h
    · exact .inr (List.mem_append_right _ h)
theorem visAll_1 : ∀ {l : List (List Nat)} {g : Cfg} {x : List Nat}, x ∈ g.1 → x ∈ (visAll g l).1
  | [], _, _, h => h
  | s :: l, g, x, h => visAll_1 (l := l) (g := vis g s) (vis_1 h)
theorem visAll_2 : ∀ {l : List (List Nat)} {g : Cfg} {x : List Nat}, x ∈ g.2 → x ∈ (visAll g l).2
  | [], _, _, h => h
  | s :: l, g, x, h => visAll_2 (l := l) (g := vis g s) (vis_2 h)
theorem visAll_3 : ∀ {l : List (List Nat)} {g : Cfg} {x : List Nat}, x ∈ l → x ∈ (visAll g l).1
  | s :: l, g, x, h => by
    rcases List.mem_cons.mp h with h | h
    · rw [h]; exact visAll_1 (l := l) (g := vis g s) vis_3
    · exact visAll_3 (l := l) (g := vis g s) h
theorem visAll_4 : ∀ {l : List (List Nat)} {g : Cfg} {x : List Nat}, x ∈ (visAll g l).1 → x ∈ g.1 ∨ x ∈ (visAll g l).2
  | [], _, _, h => .inl h
  | s :: l, g, x, h => by
    rcases visAll_4 (l := l) (g := vis g s) h with h | h
    · rcases vis_4 h with h | h
      · exact .inl h
      · exact .inr (visAll_2 (l := l) (g := vis g s) h)
    · exact .inr h
/-- what is found is still waiting, or all behind it is found -/
def Clo (k c : Nat) (g : Cfg) : Prop := ∀ s, s ∈ g.1 → s ∈ g.2 ∨ ∀ t, t ∈ nx1 k c s → t ∈ g.1
theorem stp_clo {k c : Nat} {g : Cfg} (h : Clo k c g) : Clo k c (stp k c g) := by
  obtain ⟨f, w⟩ := g
  rcases List.eq_nil_or_concat w with rfl | ⟨ws, cur, rfl⟩
  · exact h
  · rw [List.concat_eq_append] at h ⊢
    rw [stp_eq]
    intro s hs
    rcases visAll_4 hs with hs | hs
    · rcases h s hs with h1 | h1
      · rcases List.mem_append.mp h1 with h1 | h1
        · exact .inl (visAll_2 h1)
        · rw [List.mem_singleton.mp h1]
          exact .inr fun t ht => visAll_3 ht
      · exact .inr fun t ht => visAll_1 (h1 t ht)
    · exact .inl hs
theorem itr_clo {k c : Nat} {g : Cfg} (h : Clo k c g) : ∀ n, Clo k c (itr k c n g)
  | 0 => h
  | n + 1 => stp_clo (itr_clo h n)
theorem stp_keep {k c : Nat} {g : Cfg} {x : List Nat} (h : x ∈ g.1) : x ∈ (stp k c g).1 := by
  obtain ⟨f, w⟩ := g
  rcases List.eq_nil_or_concat w with rfl | ⟨ws, cur, rfl⟩
  · exact h
  · rw [List.concat_eq_append, stp_eq]; exact visAll_1 h
theorem itr_keep {k c : Nat} {g : Cfg} {x : List Nat} (h : x ∈ g.1) : ∀ n, x ∈ (itr k c n g).1
  | 0 => h
  | n + 1 => stp_keep (itr_keep h n)
theorem Rch.mem {k c : Nat} {st : List Nat} {ss : List (List Nat)} (h : Rch k c st ss) : st ∈ ss ∧ (∀ s, s ∈ ss → ∀ t, t ∈ nx1 k c s → t ∈ ss) ∧ ss.Nodup := by
  obtain ⟨n, fs, h1, h2, h3, h4⟩ := h
  have iff : ∀ s, s ∈ ss ↔ s ∈ fs := fun s => by
    constructor
    · intro h
      obtain ⟨t, ht, e⟩ := List.mem_map.mp (h2.mem_iff.mp (List.mem_map.mpr ⟨s, h, rfl⟩))
      rw [← ci_inj e]; exact ht
    · intro h
      obtain ⟨t, ht, e⟩ := List.mem_map.mp (h2.mem_iff.mpr (List.mem_map.mpr ⟨s, h, rfl⟩))
      rw [← ci_inj e]; exact ht
  have c0 : Clo k c ([st], [st]) := fun s hs => .inl hs
  have c1 := itr_clo c0 n
  rw [h1] at c1
  have k1 := itr_keep (k := k) (c := c) (g := ([st], [st])) (x := st) (.head _) n
  rw [h1] at k1
  refine ⟨(iff st).mpr k1, fun s hs t ht => ?_, ?_⟩
  · rcases c1 s ((iff s).mp hs) with h | h
    · cases h
    · exact (iff t).mpr (h t ht)
  · have nd : (fs.map ci).Nodup := (by rw [List.Nodup, List.pairwise_map]; exact h4.1.imp fun h e => h (ci_inj e))
    have := h2.nodup_iff.mpr nd
    rw [List.Nodup, List.pairwise_map] at this
    exact this.imp fun h e => h (by rw [e])
abbrev Rw := List Nat × Int
/-- the dict that a table's rows make -/
def dctR (R : List Rw) : List (List Int × V) := mergeT [] (R.map fun r => (ci r.1, V.int r.2))
theorem putK_mem {kvs : List (List Int × V)} {q : List Int} {v : V} {e : List Int × V} (h : e ∈ putK kvs q v) : e ∈ kvs ∨ e = (q, v) := by
  unfold putK at h
  split at h
  · obtain ⟨f, hf, rfl⟩ := List.mem_map.mp h
    by_cases c : f.1 = q
    · rw [if_pos c, c]; exact .inr rfl
    · rw [if_neg c]; exact .inl hf
  · rcases List.mem_append.mp h with h | h
    · exact .inl h
    · exact .inr (List.mem_singleton.mp h)
theorem mergeT_mem : ∀ {xs kvs : List (List Int × V)} {e : List Int × V}, e ∈ mergeT kvs xs → e ∈ kvs ∨ e ∈ xs
  | [], _, _, h => .inl h
  | x :: xs, kvs, e, h => by
    rcases mergeT_mem (xs := xs) (kvs := putK kvs x.1 x.2) h with h | h
    · rcases putK_mem h with h | h
      · exact .inl h
      · rw [h]; exact .inr (.head _)
    · exact .inr (.tail _ h)
theorem dctR_mem {R : List Rw} {e : List Int × V} (h : e ∈ dctR R) : ∃ r, r ∈ R ∧ e = (ci r.1, V.int r.2) := by
  rcases mergeT_mem h with h | h
  · cases h
  · obtain ⟨r, hr, rfl⟩ := List.mem_map.mp h
    exact ⟨r, hr, rfl⟩
theorem valV_in {kvs : List (List Int × V)} {q : List Int} {v : V} (h : valV kvs q = some v) : (q, v) ∈ kvs := by
  unfold valV at h
  obtain ⟨e, he, rfl⟩ := Option.map_eq_some_iff.mp h
  have h1 := List.find?_some he
  have h2 := List.mem_of_find?_eq_some he
  rw [← of_decide_eq_true h1]; exact h2
def lk (kvs : List (List Int × V)) (s : List Nat) : Option Int := match valV kvs (ci s) with
  | some (.int v) => some v
  | _ => none
theorem lk_val {kvs : List (List Int × V)} {s : List Nat} {v : Int} (h : lk kvs s = some v) : valV kvs (ci s) = some (.int v) := by
  unfold lk at h
  split at h
  · next e => cases h; exact e
  · cases h
def lowB (kvs : List (List Int × V)) (v : Int) (t : List Nat) : Bool := match lk kvs t with
  | some u => decide (u < v)
  | none => false
def jus (k c : Nat) (kvs : List (List Int × V)) (s : List Nat) (v : Int) : Bool :=
  (nx1 k c s).all (lowB kvs v) && (decide (v = 0) || (nx1 k c s).any fun t => decide (lk kvs t = some (v - 1)))
def rowB (k c : Nat) (r : Rw) : Bool := isSta k c r.1 && decide (0 ≤ r.2)
def ascB (R : List Rw) : Bool := (List.range (R.length - 1)).all fun i => match R[i]?, R[i + 1]? with
  | some a, some b => ltT (ci a.1) (ci b.1)
  | _, _ => true
def na (ms : List Int) : List Nat := ms.map Int.toNat
theorem na_ci (s : List Nat) : na (ci s) = s := by
  unfold na ci
  rw [List.map_map]
  conv => rhs; rw [← List.map_id s]
  exact List.map_congr_left fun x _ => rfl
def vB (k c : Nat) (kvs : List (List Int × V)) (e : List Int × V) : Bool := match e.2 with
  | .int v => jus k c kvs (na e.1) v
  | _ => true
def certB (k c : Nat) (st : List Nat) (n : Int) (R : List Rw) : Bool := R.all (rowB k c) && ascB R && decide (lk (dctR R) st = some n) && (dctR R).all (vB k c (dctR R))
/-- what a table certifies is what remains -/
theorem cert_sound {k c : Nat} {st : List Nat} {n : Int} {R : List Rw} (h : certB k c st n R = true) : n = remv k c st := by
  unfold certB at h
  simp only [Bool.and_eq_true, decide_eq_true_eq, List.all_eq_true] at h
  obtain ⟨⟨⟨h1, h2⟩, h3⟩, h4⟩ := h
  have val : ∀ (s : List Nat) (v : Int), lk (dctR R) s = some v → Sta k c s ∧ 0 ≤ v ∧ jus k c (dctR R) s v = true := fun s v hs => by
    have hm := valV_in (lk_val hs)
    obtain ⟨r, hr, e⟩ := dctR_mem hm
    have er := h1 r hr
    simp only [rowB, Bool.and_eq_true, decide_eq_true_eq] at er
    have e1 := ci_inj (congrArg Prod.fst e)
    have e2 := V.int.inj (congrArg Prod.snd e)
    rw [← e1, ← e2] at er
    have := h4 _ hm
    unfold vB at this
    dsimp only at this
    rw [na_ci] at this
    exact ⟨isSta_iff.mp er.1, er.2, this⟩
  have key : ∀ (N : Nat) (s : List Nat) (v : Int), v.toNat < N → lk (dctR R) s = some v → v = remv k c s := by
    intro N
    induction N with
    | zero => intro s v hv; omega
    | succ N ih =>
      intro s v hv hs
      obtain ⟨a1, a2, a3⟩ := val s v hs
      unfold jus at a3
      simp only [Bool.and_eq_true, Bool.or_eq_true, decide_eq_true_eq, List.all_eq_true, List.any_eq_true] at a3
      obtain ⟨b1, b2⟩ := a3
      have all : ∀ t, t ∈ nx1 k c s → ∃ u, lk (dctR R) t = some u ∧ u < v ∧ u = remv k c t ∧ 0 ≤ u := fun t ht => by
        have := b1 t ht
        unfold lowB at this
        cases e : lk (dctR R) t with
        | none => rw [e] at this; cases this
        | some u =>
          rw [e] at this
          have hu : u < v := of_decide_eq_true this
          have u0 := (val t u e).2.1
          exact ⟨u, rfl, hu, ih t u (by omega) e, u0⟩
      rcases lon a1 with ⟨c1, c2⟩ | ⟨m, c1, c2, c3⟩
      · rcases b2 with b2 | ⟨t, ht, _⟩
        · omega
        · unfold nx1 at ht; rw [c1] at ht; cases ht
      · obtain ⟨u, _, d2, d3, d4⟩ := all (sa s m) (List.mem_map.mpr ⟨m, c1, rfl⟩)
        rcases b2 with b2 | ⟨t, ht, e⟩
        · omega
        · obtain ⟨u', f1, f2, f3, f4⟩ := all t ht
          rw [e] at f1
          have f5 := Option.some.inj f1
          obtain ⟨m', g1, rfl⟩ := List.mem_map.mp ht
          have := c3 m' g1
          omega
  exact key (n.toNat + 1) st n (by omega) h3
def rowsR (k c : Nat) (ss : List (List Nat)) : List Rw := ss.map fun s => (s, remv k c s)
theorem dctR_nodup {R : List Rw} (h : (R.map fun r => ci r.1).Nodup) : dctR R = R.map fun r => (ci r.1, V.int r.2) := by
  unfold dctR
  rw [mergeT_snoc _ _ (by rw [List.nil_append, List.map_map]; exact h), List.nil_append]
theorem lk_at {R : List Rw} (h : (R.map fun r => ci r.1).Nodup) {r : Rw} (hr : r ∈ R) : lk (dctR R) r.1 = some r.2 := by
  rw [dctR_nodup h]
  have : valV (R.map fun r => (ci r.1, V.int r.2)) (ci r.1) = some (.int r.2) := by
    unfold valV
    induction R with
    | nil => cases hr
    | cons x R ih =>
      rw [List.map_cons, List.find?_cons]
      rw [List.map_cons, List.nodup_cons] at h
      rcases List.mem_cons.mp hr with e | hr'
      · rw [← e, decide_eq_true rfl]; rfl
      · have ne : ¬ ci x.1 = ci r.1 := fun e => h.1 (by rw [e]; exact List.mem_map.mpr ⟨r, hr', rfl⟩)
        rw [decide_eq_false ne]
        exact ih h.2 hr'
  unfold lk
  rw [this]
/-- the table of all that a state reaches certifies each of its rows -/
theorem cert_full {k c : Nat} {st s : List Nat} {ss : List (List Nat)} (h : Rch k c st ss) (hs : s ∈ ss) : certB k c s (remv k c s) (rowsR k c ss) = true := by
  obtain ⟨m1, m2, m3⟩ := h.mem
  have nd : ((rowsR k c ss).map fun r => ci r.1).Nodup := by
    unfold rowsR
    rw [List.map_map, List.Nodup, List.pairwise_map]
    exact m3.imp fun h e => h (ci_inj e)
  have at' : ∀ t, t ∈ ss → lk (dctR (rowsR k c ss)) t = some (remv k c t) := fun t ht => lk_at nd (r := (t, remv k c t)) (List.mem_map.mpr ⟨t, ht, rfl⟩)
  have sta : ∀ t, t ∈ ss → Sta k c t := fun t ht => h.sta ht
  unfold certB
  simp only [Bool.and_eq_true, decide_eq_true_eq, List.all_eq_true]
  refine ⟨⟨⟨fun r hr => ?_, ?_⟩, at' s hs⟩, fun e he => ?_⟩
  · obtain ⟨t, ht, rfl⟩ := List.mem_map.mp hr
    simp only [rowB, Bool.and_eq_true, decide_eq_true_eq]
    exact ⟨isSta_iff.mpr (sta t ht), remv_nn (sta t ht)⟩
  · unfold ascB
    rw [List.all_eq_true]
    intro i hi
    have hi' := List.mem_range.mp hi
    unfold rowsR at hi' ⊢
    rw [List.length_map] at hi'
    rw [List.getElem?_map, List.getElem?_map, List.getElem?_eq_getElem (show i < ss.length by omega), List.getElem?_eq_getElem (show i + 1 < ss.length by omega)]
    dsimp only [Option.map_some]
    obtain ⟨n, fs, g1, g2, g3, g4⟩ := h
    rw [List.pairwise_map] at g3
    have p1 := List.pairwise_iff_getElem.mp g3 i (i + 1) (by omega) (by omega) (by omega)
    cases e : ltT (ci ss[i]) (ci ss[i + 1]) with
    | true => rfl
    | false =>
      have := ci_inj (ltT_anti e p1)
      have q := List.pairwise_iff_getElem.mp m3 i (i + 1) (by omega) (by omega) (by omega)
      exact absurd this q
  · rw [dctR_nodup nd] at he
    obtain ⟨r, hr, rfl⟩ := List.mem_map.mp he
    obtain ⟨t, ht, rfl⟩ := List.mem_map.mp hr
    unfold vB
    dsimp only
    rw [na_ci]
    have st' := sta t ht
    unfold jus
    simp only [Bool.and_eq_true, Bool.or_eq_true, decide_eq_true_eq, List.all_eq_true, List.any_eq_true]
    refine ⟨fun u hu => ?_, ?_⟩
    · unfold lowB
      rw [at' u (m2 t ht u hu)]
      obtain ⟨m, hm, rfl⟩ := List.mem_map.mp hu
      obtain ⟨q1, q2⟩ := mem_nxt hm
      exact decide_eq_true (remv_lt st' q1 q2)
    · rcases lon st' with ⟨c1, c2⟩ | ⟨m, c1, c2, c3⟩
      · exact .inl c2
      · have hu : sa t m ∈ nx1 k c t := List.mem_map.mpr ⟨m, c1, rfl⟩
        exact .inr ⟨_, hu, by rw [at' _ (m2 t ht _ hu), c2]⟩
theorem toks_nil : PySem.W.keyToksAll [] = [Sum.inl 0] := by rw [PySem.W.keyToksAll]
theorem toks_int (x : Int) : PySem.W.keyToks (.int x) = [Sum.inl x] := by rw [PySem.W.keyToks]
theorem lt_toks : ∀ a b : List Int, PyProof.Rows.lexLt itemOrd (PySem.W.keyToksAll (a.map PyData.int)) (PySem.W.keyToksAll (b.map PyData.int)) = ltT a b
  | [], [] => by rw [List.map_nil, toks_nil]; rfl
  | [], y :: ys => by
    rw [List.map_nil, List.map_cons, toks_nil, PySem.W.toks_all_cons, PySem.W.lex_atom (by intro e; cases e)]
    rfl
  | x :: xs, [] => by
    rw [List.map_nil, List.map_cons, toks_nil, PySem.W.toks_all_cons, PySem.W.lex_atom (by intro e; cases e)]
    rfl
  | x :: xs, y :: ys => by
    rw [List.map_cons, List.map_cons, PySem.W.toks_all_cons, PySem.W.toks_all_cons, lex_self (O := itemOrd), toks_int, toks_int]
    unfold ltT kT
    rw [List.map_cons, List.map_cons]
    by_cases e : x = y
    · subst e
      rw [lex_self (O := itemOrd)]
      have := lt_toks xs ys
      unfold ltT kT at this
      rw [← this]
      exact lex_self (O := itemOrd) _ _ _
    · have ne : (Sum.inl x : Int ⊕ List Nat) ≠ Sum.inl y := fun h => e (Sum.inl.inj h)
      rw [PySem.W.lex_atom ne]
      exact PySem.W.lex_atom ne _ _
theorem dataLt_T (a b : List Int) : PySem.W.dataLt (dT a) (dT b) = ltT a b := by
  unfold PySem.W.dataLt dT
  rw [PySem.W.keyToks, PySem.W.keyToks, lt_toks]
section
variable {P : Program} {w : World} {K : PySem.W.Frag} {mg : Str → Option Value} {base : Heap}
def dRw (r : Rw) : PyData := .tuple [dSt r.1, .int r.2]
theorem tf_dRw (r : Rw) : Tf (dRw r) := .tup fun d h => by
  rcases List.mem_cons.mp h with h | h
  · rw [h]; exact tf_dSt _
  · rcases List.mem_cons.mp h with h | h
    · rw [h]; exact .int _
    · cases h
theorem dRw_inv {H : Hp} {v : V} {r : Rw} (h : Dp K H v (dRw r)) : ∃ t a, v = .ref t ∧ SqT K H t [.ref a, .int r.2] ∧ SqT K H a (vi r.1) := by
  obtain ⟨t, xs, rfl, h1, h2⟩ := Dp.tupInv h
  cases h2 with
  | cons a0 b =>
    obtain ⟨a, rfl, ha⟩ := dSt_inv a0
    cases b with
    | cons b z =>
      cases b; cases z
      exact ⟨t, a, rfl, h1, ha⟩
def sp_is_row (K : PySem.W.Frag) : Sp := fun vs H Q _ => ∃ (t : V) (r : Rw) (k c : Nat), vs = [t, .int (k : Int), .int (c : Int)] ∧ Dp K H t (dRw r) ∧ k ≤ 60 ∧ c ≤ 60 ∧ ∀ H', Same H H' → Q (.bl (rowB k c r)) H'
theorem ok_is_row (TX : Tx K mg) : FnOk P w K mg base CX0 6 TX.a_is_row TX.fd_is_row ["value", "k", "c"] (sp_is_row K) := by
  refine TX.f_is_row.ok sc_is_row (fun vs H Q E h => ?_) (fun cdv A outer s H vs Q E hr h => ?_)
  · obtain ⟨t, r, k, c, rfl, _⟩ := h; rfl
  · obtain ⟨t, r, k, c, rfl, hd, hk, hc, q⟩ := h
    refine ⟨_, (pss_one (ps_ret (pe_and (pe_callB (id := "isinstance") (k_isi (K := K) rfl) (by rfl) TX.b_isinstance (by decide +kernel) (pa_cons (pv 0) (pa_cons (pe_bltn (v := .ty "tuple") (by rfl) TX.b_tuple (by decide +kernel) rfl) pa_nil))) (pe_and (pe_cmpR op_eq (pe_callB (id := "len") (k_len (K := K) rfl) (by rfl) TX.b_len (by decide +kernel) (pa_cons (pv 0) pa_nil)) pe_int (nomark _)) (pe_and (pe_call (ok_is_state TX) (hr.mono (by decide)) (by rfl) TX.g_is_state TX.f_is_state.kp TX.bd_is_state .nil pass0 (pa_cons (pe_ix (k_ixT (K := K) rfl) (pv 0) pe_int (fun _ _ => rfl)) (pa_cons (pv 1) (pa_cons (pv 2) pa_nil)))) (pe_one (pe_call (ok_is_count TX) (hr.mono (by decide)) (by rfl) TX.g_is_count TX.f_is_count.kp TX.bd_is_count .nil pass0 (pa_cons (pe_ix (k_ixT (K := K) rfl) (pv 0) pe_int (fun _ _ => rfl)) pa_nil)))))))), ?_⟩
    obtain ⟨t, a, rfl, ht, ha⟩ := dRw_inv hd
    refine ⟨.ref t, rfl, .ref t, .ty "tuple", .type "tuple", .type "tuple", true, rfl, .ty _, ty_tup ht, kit_ty (by decide +kernel), true, rfl, iteT ?_⟩
    refine ⟨.ref t, rfl, t, _, rfl, .inr ht, rfl, true, rfl, iteT ?_⟩
    refine ⟨.ref t, rfl, t, _, _, _, rfl, rfl, ht, rfl, _, rfl, _, rfl, a, r.1, k, c, rfl, ha, hk, hc, fun H1 s1 => ?_⟩
    have fin := q H1 s1
    unfold rowB at fin
    refine ⟨_, rfl, ?_⟩
    cases e : isSta k c r.1 with
    | false =>
      rw [e, Bool.false_and] at fin
      exact iteF fin
    | true =>
      rw [e, Bool.true_and] at fin
      exact iteT ⟨.ref t, rfl, t, _, _, _, rfl, rfl, Same.tup s1 ht, rfl, r.2, rfl, fin⟩
def sp_has_rows (K : PySem.W.Frag) : Sp := fun vs H Q _ => ∃ (t : V) (R : List Rw) (k c : Nat), vs = [t, .int (k : Int), .int (c : Int)] ∧ Dp K H t (.tuple (R.map dRw)) ∧ k ≤ 60 ∧ c ≤ 60 ∧ R.length ≤ 900 ∧ ∀ H', Same H H' → Q (.bl (R.all (rowB k c) && ascB R)) H'
theorem ok_has_rows (TX : Tx K mg) : FnOk P w K mg base CX0 7 TX.a_has_rows TX.fd_has_rows ["value", "k", "c"] (sp_has_rows K) := by
  refine TX.f_has_rows.ok sc_has_rows (fun vs H Q E h => ?_) (fun cdv A outer s H vs Q E hr h => ?_)
  · obtain ⟨t, R, k, c, rfl, _⟩ := h; rfl
  · obtain ⟨t, R, k, c, rfl, hd, hk, hc, hR, q⟩ := h
    refine ⟨_, (pss_cons (ps_if (PW.pt (pw_or (pt_not (pt_val (pe_callB (id := "isinstance") (k_isi (K := K) rfl) (by rfl) TX.b_isinstance (by decide +kernel) (pa_cons (pv 0) (pa_cons (pe_bltn (v := .ty "tuple") (by rfl) TX.b_tuple (by decide +kernel) rfl) pa_nil))))) (pw_or1 (pt_not (pt_val (pe_callB (id := "all") (cr_all rfl) (by rfl) TX.b_all (by decide +kernel) (pa_cons (pe_lc (own := [("row", 3)]) (by rfl) sc_has_rows.nd (k_piT (K := K) rfl (pv 0)) (blkOk_by (own := [("row", 3)]) (N := N_has_rows) (sc := defScope s_has_rows) (by decide +kernel)) (fun _ _ _ _ _ => (pg_name (i := 3) sc_has_rows.nd rfl (Or.inl rfl))) (fun _ _ _ _ _ => pts_nil) (fun _ _ _ _ _ => (pe_call (ok_is_row TX) (hr.mono (by decide)) (by rfl) TX.g_is_row TX.f_is_row.kp TX.bd_is_row .nil pass0 (pa_cons (pv 3) (pa_cons (pv 1) (pa_cons (pv 2) pa_nil)))))) pa_nil)))))))
        (pss_one (ps_ret pe_bl))
        pss_nil)
      (pss_one (ps_ret (pe_callB (id := "all") (cr_all rfl) (by rfl) TX.b_all (by decide +kernel) (pa_cons (pe_lc (own := [("row", 3), ("following", 4)]) (by rfl) sc_has_rows.nd (RZ.pi_zipA (by rfl) TX.b_zip (pa_cons (pv 0) (pa_cons (pe_slice (k_slT (K := K) rfl) (pv 0) (po_some pe_int) po_none) pa_nil))) (blkOk_by (own := [("row", 3), ("following", 4)]) (N := N_has_rows) (sc := defScope s_has_rows) (by decide +kernel)) (fun _ _ _ _ _ => (k_pgT2 (K := K) rfl rfl (pg_name (i := 3) sc_has_rows.nd rfl (Or.inl rfl)) (pg_name (i := 4) sc_has_rows.nd rfl (Or.inl rfl)))) (fun _ _ _ _ _ => pts_nil) (fun _ _ _ _ _ => (pe_cmpR (k_ltD (K := K) rfl hr.units) (pe_ix (k_ixT (K := K) rfl) (pv 3) pe_int (fun _ _ => rfl)) (pe_ix (k_ixT (K := K) rfl) (pv 4) pe_int (fun _ _ => rfl)) (nomark _)))) pa_nil))))), ?_⟩
    obtain ⟨t, xs, rfl, ht, hx⟩ := Dp.tupInv hd
    have hxl : xs.length = R.length := by rw [DpAll.len hx, List.length_map]
    refine ⟨.ref t, rfl, .ref t, .ty "tuple", .type "tuple", .type "tuple", true, rfl, .ty _, ty_tup ht, kit_ty (by decide +kernel), true, rfl, iteF ?_⟩
    refine ⟨.ref t, rfl, t, rfl, ⟨_, ht⟩, fun D nD => lc_bools (K := K) walk_tup (R.map (rowB k c)) (by rw [List.length_map, hxl]) (by omega) nD (fun H' s' => Same.tup s' ht) ?_ ?_ (fun x σ' H' Q Q' h => h _ _) (fun σ' H' Q Q' h => h _ _)⟩
    · rintro i x H2 H2' hi s2 ⟨rfl, hx'⟩ b hb Rr hRr
      have hi' : i < R.length := by omega
      have hg := List.getElem?_eq_getElem hi'
      obtain ⟨v, hv, hdv⟩ := DpAll.get hx (i := i) (d := dRw R[i]) (by rw [List.getElem?_map, hg]; rfl)
      rw [hv] at hx'
      cases hx'
      rw [List.getElem?_map, hg] at hb
      cases hb
      exact ⟨rfl, rfl, _, rfl, _, rfl, _, rfl, _, R[i], k, c, rfl, Dp.same s2 hdv, hk, hc, hRr⟩
    · intro H2 s2 hD
      refine ⟨D, _, rfl, .inl (.inl hD), ?_⟩
      rw [List.all_map, show (id ∘ rowB k c) = rowB k c from rfl]
      refine ⟨_, rfl, ?_⟩
      cases e : R.all (rowB k c) with
      | false =>
        refine iteT ?_
        have := q H2 s2
        rw [e, Bool.false_and] at this
        exact this
      | true =>
        refine iteF ?_
        have ht2 := Same.tup s2 ht
        refine ⟨.ref t, rfl, .ref t, rfl, _, rfl, ?_⟩
        unfold tNoPart
        refine sl_read ht2 fun c1 H3 s3 hc1 => ?_
        have hc1' : SqT K H3 c1 (xs.drop 1) := by
          cases xs with
          | nil => exact hc1
          | cons x xs =>
            rw [show (1 : Int) = ((1 : Nat) : Int) from rfl, cut_from (by simp)] at hc1
            exact hc1
        have ht3 := Same.tup s3 ht2
        refine ⟨t, c1, _, _, rfl, .inr ⟨ht3, hc1', fun D nD => ?_⟩⟩
        have hx3 := DpAll.same (s2.trans s3) hx
        have hn : min xs.length (xs.drop 1).length = R.length - 1 := by rw [List.length_drop]; omega
        refine lc_bools (K := K) (walk_zip2T (xs := xs) (ys := xs.drop 1) rfl) ((List.range (R.length - 1)).map fun i => match R[i]?, R[i + 1]? with
          | some a, some b => ltT (ci a.1) (ci b.1)
          | _, _ => true) (by rw [List.length_map, List.length_range, hn]) (by omega) nD (fun H' s' => ⟨Same.tup s' ht3, Same.tup s' hc1'⟩) ?_ ?_ mono_pair (fun σ' H' Q Q' h => h _ _)
        · rintro i x H4 H4' hi s4 ⟨T', x1, x2, rfl, nT', rfl, e1, e2⟩ b hb Rr hRr
          dsimp only at e1 e2
          have hi1 : i + 1 < R.length := by omega
          rw [List.getElem?_drop, Nat.add_comm 1 i] at e2
          obtain ⟨v1, hv1, d1⟩ := DpAll.get hx3 (i := i) (d := dRw R[i]) (by rw [List.getElem?_map, List.getElem?_eq_getElem (by omega)]; rfl)
          obtain ⟨v2, hv2, d2⟩ := DpAll.get hx3 (i := i + 1) (d := dRw R[i + 1]) (by rw [List.getElem?_map, List.getElem?_eq_getElem hi1]; rfl)
          rw [hv1] at e1
          rw [hv2] at e2
          cases e1; cases e2
          rw [List.getElem?_map, List.getElem?_range (by omega)] at hb
          dsimp only [Option.map_some] at hb
          rw [List.getElem?_eq_getElem (show i < R.length by omega), List.getElem?_eq_getElem hi1] at hb
          cases hb
          have s5 := same_upd (o := .tup [x1, x2]) nT'
          obtain ⟨t1, a1, rfl, g1, g2⟩ := dRw_inv d1
          obtain ⟨t2, a2, rfl, g3, g4⟩ := dRw_inv d2
          have s45 := s4.trans s5
          refine ⟨T', _, rfl, .inl (.inl upd_same), rfl, _, _, rfl, _, _, rfl, rfl, rfl, rfl, ?_⟩
          refine ⟨.ref t1, rfl, t1, _, _, _, rfl, rfl, Same.tup s45 g1, rfl, .ref t2, rfl, t2, _, _, _, rfl, rfl, Same.tup s45 g3, rfl, ?_⟩
          refine ⟨dT (ci R[i].1), dT (ci R[i + 1].1), dp_dSt (Same.tup s45 g2), dp_dSt (Same.tup s45 g4), (by unfold dT; rw [PySem.W.alike, PySem.W.alike_ints]), (by intro e; cases e), Nat.le_trans (Sh.tup (k := 0) (Sh.ints _)).2 (by decide), ?_⟩
          rw [dataLt_T]
          exact hRr _ s5
        · intro H4 s4 hD4
          refine ⟨D, _, rfl, .inl (.inl hD4), ?_⟩
          have := q H4 (s2.trans (s3.trans s4))
          rw [e, Bool.true_and] at this
          unfold ascB at this
          rw [List.all_map]
          exact this
end
section
variable {P : Program} {w : World} {K : PySem.W.Frag} {mg : Str → Option Value} {base : Heap}
/-- all numbers are ints -/
def IntsX (kvs : List (List Int × V)) : Prop := ∀ q v, valV kvs q = some v → ∃ u, v = .int u
theorem IntsX.lk {kvs : List (List Int × V)} (h : IntsX kvs) (t : List Nat) : (valV kvs (ci t) = none ∧ lk kvs t = none) ∨ ∃ u, valV kvs (ci t) = some (.int u) ∧ lk kvs t = some u := by
  cases e : valV kvs (ci t) with
  | none => exact .inl ⟨rfl, by unfold MB.lk; rw [e]⟩
  | some v =>
    obtain ⟨u, rfl⟩ := h _ _ e
    exact .inr ⟨u, rfl, by unfold MB.lk; rw [e]⟩
theorem sq_ci {H : Hp} {a : Addr} {st : List Nat} (h : SqT K H a (vi st)) : SqT K H a ((ci st).map V.int) := by rw [← vi_ci]; exact h
def sp_is_justified (K : PySem.W.Frag) (P : Program) (w : World) : Sp := fun vs H Q _ => ∃ (a d : Addr) (st : List Nat) (kvs : List (List Int × V)) (v : Int) (k c : Nat), vs = [.ref a, .ref d, .int (k : Int), .int (c : Int)] ∧ SqT K H a (vi st) ∧ DR K P w H d kvs ∧ valV kvs (ci st) = some (.int v) ∧ IntsX kvs ∧ k ≤ 60 ∧ c ≤ 60 ∧ st.length ≤ 100 ∧ ∀ H', Same H H' → Q (.bl (jus k c kvs st v)) H'
theorem ok_is_justified (TX : Tx K mg) : FnOk P w K mg base CX0 7 TX.a_is_justified TX.fd_is_justified ["state", "numbers", "k", "c"] (sp_is_justified K P w) := by
  refine TX.f_is_justified.ok sc_is_justified (fun vs H Q E h => ?_) (fun cdv A outer s H vs Q E hr h => ?_)
  · obtain ⟨a, d, st, kvs, v, k, c, rfl, _⟩ := h; rfl
  · obtain ⟨a, d, st, kvs, v, k, c, rfl, hS, g, hv, hI, hk, hc, hl, q⟩ := h
    refine ⟨_, (pss_cons (ps_set (i := 4) sc_is_justified.nd rfl (.inr rfl) (pe_rget (K := K) (P := P) (w := w) rfl rfl rfl (hu_of hr) (pv 1) (pv 0) (fun _ _ => rfl)))
      (pss_cons (ps_set (i := 5) sc_is_justified.nd rfl (.inl rfl) (pe_call (ok_states_after TX) (hr.mono (by decide)) (by rfl) TX.g_states_after TX.f_states_after.kp TX.bd_states_after .nil pass0 (pa_cons (pv 0) (pa_cons (pv 2) (pa_cons (pv 3) pa_nil)))))
      (pss_cons (ps_if (pt_not (pt_val (pe_callB (id := "all") (cr_all rfl) (by rfl) TX.b_all (by decide +kernel) (pa_cons (pe_lc (own := [("after", 6)]) (by rfl) sc_is_justified.nd (k_piL (K := K) rfl (pv 5)) (blkOk_by (own := [("after", 6)]) (N := N_is_justified) (sc := defScope s_is_justified) (by decide +kernel)) (fun _ _ _ _ _ => (pg_name (i := 6) sc_is_justified.nd rfl (Or.inl rfl))) (fun _ _ _ _ _ => pts_nil) (fun _ _ _ _ _ => (pe_and (pe_cmp (pc_rin (K := K) (P := P) (w := w) rfl rfl rfl (hu_of hr) (pv 6) (pv 1))) (pe_one (pe_cmpR op_lt (pe_rget (K := K) (P := P) (w := w) rfl rfl rfl (hu_of hr) (pv 1) (pv 6) (fun _ _ => rfl)) (pv 4) (nomark _)))))) pa_nil))))
        (pss_one (ps_ret pe_bl))
        pss_nil)
      (pss_one (ps_ret (pe_or (pe_cmpR op_eq (pv 4) pe_int (nomark _)) (pe_one (pe_callB (id := "any") (cr_any rfl) (by rfl) TX.b_any (by decide +kernel) (pa_cons (pe_lc (own := [("after", 6)]) (by rfl) sc_is_justified.nd (k_piL (K := K) rfl (pv 5)) (blkOk_by (own := [("after", 6)]) (N := N_is_justified) (sc := defScope s_is_justified) (by decide +kernel)) (fun _ _ _ _ _ => (pg_name (i := 6) sc_is_justified.nd rfl (Or.inl rfl))) (fun _ _ _ _ _ => pts_nil) (fun _ _ _ _ _ => (pe_cmpR op_eq (pe_rget (K := K) (P := P) (w := w) rfl rfl rfl (hu_of hr) (pv 1) (pv 6) (fun _ _ => rfl)) (pe_op op_sub (pv 4) pe_int) (nomark _)))) pa_nil))))))))), ?_⟩
    refine ⟨.ref d, rfl, .ref a, rfl, d, a, kvs, ci st, .int v, rfl, rfl, g, sq_ci hS, hv, ?_⟩
    refine ⟨.ref a, rfl, _, rfl, _, rfl, a, st, k, c, rfl, hS, hk, hc, hl, fun H1 p ys s1 hp np hA => ?_⟩
    have g1 := g.same s1
    have hyl : ys.length = (nx1 k c st).length := by rw [DpAll.len hA, List.length_map]
    have hnl : (nx1 k c st).length ≤ 101 := by
      unfold nx1 nxt
      rw [List.length_map]
      have := List.length_filter_le (fun m => isSta k c (sa st m)) (List.range (st.length + 1))
      rw [List.length_range] at this
      omega
    refine ⟨.ref p, rfl, p, rfl, ⟨_, .inl (.inl hp)⟩, fun D nD => ?_⟩
    refine lc_bools (K := K) (walk_list (xs := ys)) ((nx1 k c st).map (lowB kvs v)) (by rw [List.length_map, hyl]) (by omega) nD (fun H' s' => .inl (.inl (s' _ _ hp))) ?_ ?_ (fun x σ' H' Q Q' h => h _ _) (fun σ' H' Q Q' h => h _ _)
    · rintro i x H2 H2' hi s2 ⟨rfl, hx⟩ b hb R hR
      have hi' : i < (nx1 k c st).length := by omega
      have hg := List.getElem?_eq_getElem hi'
      obtain ⟨v', hv', hd⟩ := DpAll.get hA (i := i) (d := dSt (nx1 k c st)[i]) (by rw [List.getElem?_map, hg]; rfl)
      rw [hv'] at hx
      cases hx
      rw [List.getElem?_map, hg] at hb
      cases hb
      obtain ⟨b', rfl, hb'⟩ := dSt_inv hd
      have g2 := g1.same s2
      have hb2 := sq_ci (Same.tup s2 hb')
      have hR' := hR H2' (Same.refl _)
      refine ⟨rfl, rfl, .ref b', rfl, .ref d, rfl, d, b', kvs, ci (nx1 k c st)[i], rfl, rfl, g2, hb2, _, rfl, ?_⟩
      rcases hI.lk (nx1 k c st)[i] with ⟨e1, e2⟩ | ⟨u, e1, e2⟩
      · unfold lowB at hR'
        rw [e2] at hR'
        rw [e1]
        exact iteF hR'
      · unfold lowB at hR'
        rw [e2] at hR'
        rw [e1]
        exact iteT ⟨.ref d, rfl, .ref b', rfl, d, b', kvs, _, .int u, rfl, rfl, g2, hb2, e1, _, rfl, _, _, rfl, rfl, hR'⟩
    · intro H2 s2 hD
      refine ⟨D, _, rfl, .inl (.inl hD), ?_⟩
      rw [List.all_map]
      refine ⟨_, rfl, ?_⟩
      have fin := q H2 (s1.trans s2)
      unfold jus at fin
      cases hall : (nx1 k c st).all (lowB kvs v) with
      | false =>
        rw [hall, Bool.false_and] at fin
        rw [show (nx1 k c st).all (id ∘ lowB kvs v) = false from hall]
        exact iteT fin
      | true =>
        rw [hall, Bool.true_and] at fin
        rw [show (nx1 k c st).all (id ∘ lowB kvs v) = true from hall]
        refine iteF ?_
        by_cases v0 : v = 0
        · rw [decide_eq_true v0, Bool.true_or] at fin
          exact ⟨_, rfl, rfl, true, blT (by rw [v0]), iteT fin⟩
        · rw [decide_eq_false v0, Bool.false_or] at fin
          refine ⟨_, rfl, rfl, false, blF (int_ne v0), iteF ?_⟩
          have hp2 := s2 _ _ hp
          have g2 := g1.same s2
          have hA2 := DpAll.same s2 hA
          refine ⟨.ref p, rfl, p, rfl, ⟨_, .inl (.inl hp2)⟩, fun D2 nD2 => ?_⟩
          refine lc_bools (K := K) (walk_list (xs := ys)) ((nx1 k c st).map fun t => decide (lk kvs t = some (v - 1))) (by rw [List.length_map, hyl]) (by omega) nD2 (fun H' s' => .inl (.inl (s' _ _ hp2))) ?_ ?_ (fun x σ' H' Q Q' h => h _ _) (fun σ' H' Q Q' h => h _ _)
          · rintro i x H3 H3' hi s3 ⟨rfl, hx⟩ b hb R hR
            have hi' : i < (nx1 k c st).length := by omega
            have hg := List.getElem?_eq_getElem hi'
            obtain ⟨v', hv', hd⟩ := DpAll.get hA2 (i := i) (d := dSt (nx1 k c st)[i]) (by rw [List.getElem?_map, hg]; rfl)
            rw [hv'] at hx
            cases hx
            rw [List.getElem?_map, hg] at hb
            cases hb
            obtain ⟨b', rfl, hb'⟩ := dSt_inv hd
            have hb2 := sq_ci (Same.tup s3 hb')
            have hR' := hR H3' (Same.refl _)
            have hin := List.all_eq_true.mp hall _ (List.getElem_mem hi')
            rcases hI.lk (nx1 k c st)[i] with ⟨e1, e2⟩ | ⟨u, e1, e2⟩
            · unfold lowB at hin
              rw [e2] at hin
              cases hin
            · dsimp only at hR'
              rw [e2] at hR'
              refine ⟨rfl, rfl, .ref d, rfl, .ref b', rfl, d, b', kvs, _, .int u, rfl, rfl, g2.same s3, hb2, e1, _, rfl, _, _, rfl, rfl, rfl, ?_⟩
              by_cases c0 : u = v - 1
              · rw [blT (show V.int u = V.int (v - 1) by rw [c0])]
                rw [decide_eq_true (by rw [c0])] at hR'
                exact hR'
              · rw [blF (int_ne c0)]
                rw [decide_eq_false (fun z => c0 (Option.some.inj z))] at hR'
                exact hR'
          · intro H3 s3 hD3
            refine ⟨D2, _, rfl, .inl (.inl hD3), ?_⟩
            rw [List.any_map]
            have := q H3 (s1.trans (s2.trans s3))
            unfold jus at this
            rw [hall, Bool.true_and, decide_eq_false v0, Bool.false_or] at this
            exact this
end
section
variable {P : Program} {w : World} {K : PySem.W.Frag} {mg : Str → Option Value} {base : Heap}
theorem putK_keys {kvs : List (List Int × V)} {q : List Int} {v : V} (h : (kvs.map (·.1)).Nodup) : ((putK kvs q v).map (·.1)).Nodup := by
  unfold putK
  split
  · have e : (kvs.map fun kv => if kv.1 = q then (kv.1, v) else kv).map (·.1) = kvs.map (·.1) := by
      rw [List.map_map]
      refine List.map_congr_left fun x _ => ?_
      show (if x.1 = q then (x.1, v) else x).1 = x.1
      split <;> rfl
    rw [e]; exact h
  · next hn =>
    rw [List.map_append]
    refine List.nodup_append.mpr ⟨h, by simp, fun x hx y hy z => ?_⟩
    have ey : y = q := by simpa using hy
    obtain ⟨e, he, rfl⟩ := List.mem_map.mp hx
    exact hn (List.any_eq_true.mpr ⟨e, he, decide_eq_true (z.trans ey)⟩)
theorem mergeT_keys : ∀ {xs kvs : List (List Int × V)}, (kvs.map (·.1)).Nodup → ((mergeT kvs xs).map (·.1)).Nodup
  | [], _, h => h
  | x :: xs, kvs, h => mergeT_keys (xs := xs) (kvs := putK kvs x.1 x.2) (putK_keys h)
theorem mergeT_size : ∀ {xs kvs : List (List Int × V)}, (mergeT kvs xs).length ≤ kvs.length + xs.length
  | [], _ => Nat.le_refl _
  | x :: xs, kvs => by
    have h1 := mergeT_size (xs := xs) (kvs := putK kvs x.1 x.2)
    have h2 := length_putK kvs x.1 x.2
    show (mergeT (putK kvs x.1 x.2) xs).length ≤ _
    rw [List.length_cons]; omega
theorem valV_nd {kvs : List (List Int × V)} (h : (kvs.map (·.1)).Nodup) {e : List Int × V} (he : e ∈ kvs) : valV kvs e.1 = some e.2 := by
  unfold valV
  induction kvs with
  | nil => cases he
  | cons x kvs ih =>
    rw [List.find?_cons]
    rw [List.map_cons, List.nodup_cons] at h
    rcases List.mem_cons.mp he with e' | he'
    · rw [← e', decide_eq_true rfl]; rfl
    · have ne : ¬ x.1 = e.1 := fun z => h.1 (by rw [z]; exact List.mem_map.mpr ⟨e, he', rfl⟩)
      rw [decide_eq_false ne]
      exact ih h.2 he'
theorem dctR_ints (R : List Rw) : IntsX (dctR R) := fun q v h => by
  obtain ⟨r, _, e⟩ := dctR_mem (valV_in h)
  exact ⟨r.2, congrArg Prod.snd e⟩
theorem keep_lock {H : Hp} {d : Addr} {L : KX} {o : HO} (h : H d = some (DXO P w d L)) : Keep K H (upd H d o) := fun a xs hs => by
  have ne : ∀ {u : HO}, H a = some u → u ≠ DXO P w d L → a ≠ d := fun e1 e2 z => by rw [z, h] at e1; cases e1; exact e2 rfl
  rcases hs with (hs | ⟨u, hs⟩) | hs
  · exact .inl (.inl (by rw [upd_ne (ne hs (by intro z; cases z))]; exact hs))
  · exact .inl (.inr ⟨u, by rw [upd_ne (ne hs (by intro z; cases z))]; exact hs⟩)
  · exact .inr hs
def sp_shows_remaining (K : PySem.W.Frag) : Sp := fun vs H Q _ => ∃ (a : Addr) (t : V) (st : List Nat) (R : List Rw) (n : Int) (k c : Nat), vs = [.ref a, .int (k : Int), .int (c : Int), .int n, t] ∧ SqT K H a (vi st) ∧ Dp K H t (.tuple (R.map dRw)) ∧ k ≤ 4 ∧ c ≤ 4 ∧ R.length ≤ 900 ∧ Sta k c st ∧ ∀ H', Same H H' → Q (.bl (certB k c st n R)) H'
theorem ok_shows_remaining (TX : Tx K mg) : FnOk P w K mg base CX0 8 TX.a_shows_remaining TX.fd_shows_remaining ["state", "k", "c", "number", "value"] (sp_shows_remaining K) := by
  refine TX.f_shows_remaining.ok sc_shows_remaining (fun vs H Q E h => ?_) (fun cdv A outer s H vs Q E hr h => ?_)
  · obtain ⟨a, t, st, R, n, k, c, rfl, _⟩ := h; rfl
  · obtain ⟨a, t, st, R, n, k, c, rfl, hS, hd, hk, hc, hR, hst, q⟩ := h
    refine ⟨_, (pss_cons (ps_expr (pe_call (ok_check_arguments TX) (hr.mono (by decide)) (by rfl) TX.g_check_arguments TX.f_check_arguments.kp TX.bd_check_arguments .nil pass0 (pa_cons (pv 0) (pa_cons (pv 1) (pa_cons (pv 2) pa_nil)))))
      (pss_cons (ps_if (PW.pt (pw_or (pt_not (pt_val (pe_call (ok_is_int TX) (hr.mono (by decide)) (by rfl) TX.g_is_int TX.f_is_int.kp TX.bd_is_int .nil pass0 (pa_cons (pv 3) pa_nil)))) (pw_or1 (pt_not (pt_val (pe_call (ok_has_rows TX) (hr.mono (by decide)) (by rfl) TX.g_has_rows TX.f_has_rows.kp TX.bd_has_rows .nil pass0 (pa_cons (pv 4) (pa_cons (pv 1) (pa_cons (pv 2) pa_nil)))))))))
        (pss_one (ps_ret pe_bl))
        pss_nil)
      (pss_cons (ps_set (i := 5) sc_shows_remaining.nd rfl (.inr rfl) (pe_dx (K := K) (P := P) (w := w) (own := [("listed", 6), ("found", 7)]) rfl rfl rfl (by rfl) (hu_of hr) sc_shows_remaining.nd (k_piT (K := K) rfl (pv 4)) (blkOk_by (own := [("listed", 6), ("found", 7)]) (N := N_shows_remaining) (sc := defScope s_shows_remaining) (by decide +kernel)) (fun _ _ _ _ _ => (k_pgT2 (K := K) rfl rfl (pg_name (i := 6) sc_shows_remaining.nd rfl (Or.inl rfl)) (pg_name (i := 7) sc_shows_remaining.nd rfl (Or.inl rfl)))) (fun _ _ _ _ _ => pts_nil) (fun _ _ _ _ _ => (pv 6)) (fun _ _ _ _ _ => (pv 7))))
      (pss_cons (ps_if (PW.pt (pw_or (pt_cmp (pc_nnotin (K := K) (P := P) (w := w) rfl rfl rfl (hu_of hr) (pv 0) (pv 5))) (pw_or1 (pt_cmpR op_ne (pe_nget (K := K) (P := P) (w := w) rfl rfl rfl (hu_of hr) (pv 5) (pv 0) (fun _ _ => rfl)) (pv 3) (nomark _)))))
        (pss_one (ps_ret pe_bl))
        pss_nil)
      (pss_one (ps_ret (pe_callB (id := "all") (cr_all rfl) (by rfl) TX.b_all (by decide +kernel) (pa_cons (pe_lock (pe_lc (own := [("listed", 6)]) (by rfl) sc_shows_remaining.nd (pi_keysR (P := P) (w := w) rfl rfl (pv 5)) (blkOk_by (own := [("listed", 6)]) (N := N_shows_remaining) (sc := defScope s_shows_remaining) (by decide +kernel)) (fun _ _ _ _ _ => (pg_name (i := 6) sc_shows_remaining.nd rfl (Or.inl rfl))) (fun _ _ _ _ _ => pts_nil) (fun _ _ _ _ _ => (pe_call (ok_is_justified (P := P) (w := w) TX) (hr.mono (by decide)) (by rfl) TX.g_is_justified TX.f_is_justified.kp TX.bd_is_justified .nil pass0 (pa_cons (pv 6) (pa_cons (pv 5) (pa_cons (pv 1) (pa_cons (pv 2) pa_nil)))))))) pa_nil)))))))), ?_⟩
    refine ⟨.ref a, rfl, _, rfl, _, rfl, a, st, k, c, rfl, hS, hk, hc, hst, fun H1 s1 => ?_⟩
    refine ⟨_, rfl, n, rfl, true, rfl, iteF ?_⟩
    refine ⟨t, rfl, _, rfl, _, rfl, t, R, k, c, rfl, Dp.same s1 hd, by omega, by omega, hR, fun H2 s2 => ?_⟩
    refine ⟨_, rfl, ?_⟩
    have s12 := s1.trans s2
    cases hrows : (R.all (rowB k c) && ascB R) with
    | false =>
      refine iteT ?_
      have := q H2 s12
      unfold certB at this
      rw [hrows, Bool.false_and, Bool.false_and] at this
      exact this
    | true =>
      refine iteF ?_
      obtain ⟨t, xs, rfl, ht, hx⟩ := Dp.tupInv (Dp.same s12 hd)
      have hxl : xs.length = R.length := by rw [DpAll.len hx, List.length_map]
      refine ⟨.ref t, rfl, t, rfl, ⟨_, ht⟩, fun D H0 nD s3 gD => ?_⟩
      -- the dict
      refine ⟨fun i m G => m + i = xs.length ∧ Same H2 G ∧ DN K P w G D (mergeT [] ((R.take i).map fun r => (ci r.1, V.int r.2))), ⟨xs.length, rfl, s3, gD⟩, ?_⟩
      rintro i m G ⟨hm, sG, g⟩
      by_cases hi : i < xs.length
      · refine .inr ⟨walk_tup.goes i G hi (Same.tup sG ht), fun G' => Same H2 G' ∧ DN K P w G' D (mergeT [] ((R.take (i + 1)).map fun r => (ci r.1, V.int r.2))), fun G' hG' => ⟨m - 1, by omega, by omega, hG'⟩, fun x G' hy => ?_⟩
        obtain ⟨rfl, hx'⟩ := walk_tup.yields i G x G' hi (Same.tup sG ht) hy
        have hi' : i < R.length := by omega
        have hg := List.getElem?_eq_getElem hi'
        obtain ⟨v, hv, hdv⟩ := DpAll.get hx (i := i) (d := dRw R[i]) (by rw [List.getElem?_map, hg]; rfl)
        rw [hv] at hx'
        cases hx'
        obtain ⟨t2, b, rfl, ht2, hb⟩ := dRw_inv hdv
        refine ⟨t2, _, rfl, Same.tup sG ht2, rfl, _, _, rfl, _, _, rfl, rfl, rfl, ?_⟩
        dsimp only [tYes]
        rw [if_pos rfl]
        have hl : (mergeT [] ((R.take i).map fun r => (ci r.1, V.int r.2))).length < sizeLine := by
          have := mergeT_size (xs := (R.take i).map fun r => (ci r.1, V.int r.2)) (kvs := [])
          rw [List.length_map, List.length_take, List.length_nil] at this
          rw [sizeLine_eq]; omega
        refine ⟨.ref b, rfl, _, rfl, b, _, ci R[i].1, rfl, g, sq_ci (Same.tup sG hb), hl, fun G2 h1 h2 h3 => ⟨fun u o e => ?_, ?_⟩⟩
        · rw [h1 u (fun z => by rw [z, nD] at e; cases e)]; exact sG u o e
        · have e : mergeT [] ((R.take (i + 1)).map fun r => (ci r.1, V.int r.2)) = putK (mergeT [] ((R.take i).map fun r => (ci r.1, V.int r.2))) (ci R[i].1) (V.int R[i].2) := by
            rw [List.take_add_one, hg, List.map_append]
            unfold mergeT
            rw [List.foldl_append]; rfl
          rw [e]; exact h3
      · refine .inl ⟨by
          have e : i = xs.length := by omega
          rw [e]; exact walk_tup.stops G (Same.tup sG ht), ?_⟩
        rw [List.take_of_length_le (by omega)] at g
        replace g : DN K P w G D (dctR R) := g
        have s1G := s12.trans sG
        have hSG := Same.tup s1G hS
        have g0 := g
        obtain ⟨L, hDL, hLk, hLv⟩ := g0
        have hIx := dctR_ints R
        refine ⟨.ref a, rfl, .ref D, rfl, D, a, _, ci st, rfl, rfl, g, sq_ci hSG, _, rfl, ?_⟩
        have fin := q G s1G
        unfold certB at fin
        rw [hrows, Bool.true_and] at fin
        rcases hIx.lk st with ⟨e1, e2⟩ | ⟨u, e1, e2⟩
        · rw [e1]
          refine iteT (iteT ?_)
          rw [e2, decide_eq_false (by intro z; cases z), Bool.false_and] at fin
          exact fin
        rw [e1]
        refine iteF ⟨.ref D, rfl, .ref a, rfl, D, a, _, ci st, .int u, rfl, rfl, g, sq_ci hSG, e1, _, rfl, rfl, ?_⟩
        rw [e2] at fin
        by_cases hun : u = n
        · refine ⟨false, nblF (by rw [hun]), iteF ?_⟩
          rw [decide_eq_true (by rw [hun]), Bool.true_and] at fin
          refine ⟨D, DXO P w D L, hDL, trivial, fun od => ⟨.ref D, rfl, D, od, L, rfl, upd_same, fun DD nDD => ?_⟩⟩
          have kp : Keep K G (upd G D (.frz od (DXO P w D L))) := keep_lock hDL
          have gl : DR K P w (upd G D (.frz od (DXO P w D L))) D (dctR R) := ⟨L, .inr ⟨od, upd_same⟩, fun x hx => kp _ _ (hLk x hx), hLv⟩
          have hLl : L.length ≤ 900 := by
            have h1 : L.length = (dctR R).length := by rw [← hLv, kvX_len]
            have h2 := mergeT_size (xs := R.map fun r => (ci r.1, V.int r.2)) (kvs := [])
            rw [List.length_map, List.length_nil] at h2
            show L.length ≤ 900
            rw [h1]
            unfold dctR
            omega
          have hkn : ((dctR R).map (·.1)).Nodup := mergeT_keys (by simp)
          refine lc_bools (K := K) (walk_itr (P := P) (w := w) (d := D) (o := od) (L := L)) (L.map fun y => vB k c (dctR R) (y.1, y.2.2)) (by rw [List.length_map]) (by omega) nDD (fun H' s' => s' _ _ upd_same) ?_ ?_ (fun x σ' H' Q Q' h => h _ _) (fun σ' H' Q Q' h => h _ _)
          · rintro i x G3 G3' hi' s3 ⟨rfl, y, hy, rfl⟩ b hb Rr hRr
            rw [List.getElem?_map, hy] at hb
            cases hb
            have hyL := List.mem_of_getElem? hy
            have hin : (y.1, y.2.2) ∈ dctR R := by rw [← hLv]; exact List.mem_map.mpr ⟨y, hyL, rfl⟩
            obtain ⟨r, hr, er⟩ := dctR_mem hin
            have er1 : y.1 = ci r.1 := congrArg Prod.fst er
            have er2 : y.2.2 = .int r.2 := congrArg Prod.snd er
            have hv := valV_nd hkn hin
            have hrow : rowB k c r = true := List.all_eq_true.mp (Bool.and_eq_true_iff.mp hrows).1 r hr
            have hsta := isSta_iff.mp (Bool.and_eq_true_iff.mp hrow).1
            have hk3 := Same.tup s3 (kp _ _ (hLk y hyL))
            rw [er1, ← vi_ci] at hk3
            dsimp only at hv
            rw [er1, er2] at hv
            unfold vB at hRr
            dsimp only at hRr
            rw [er1, er2] at hRr
            dsimp only at hRr
            rw [na_ci] at hRr
            exact ⟨rfl, rfl, .ref y.2.1, rfl, .ref D, rfl, _, rfl, _, rfl, y.2.1, D, r.1, dctR R, r.2, k, c, rfl, hk3, gl.same s3, hv, hIx, by omega, by omega, by have := hsta.1; omega, hRr⟩
          · intro G4 s4 hDD4
            have hD4 := s4 _ _ (upd_same (H := G) (a := D) (o := .frz od (DXO P w D L)))
            refine ⟨hD4, DD, L.map fun y => vB k c (dctR R) (y.1, y.2.2), rfl, .inl (.inl ?_), ?_⟩
            · have ne : DD ≠ D := fun z => by rw [z, upd_same] at nDD; cases nDD
              rw [upd_ne ne]; exact hDD4
            · have sF : Same H (upd G4 D (DXO P w D L)) := fun u' o e => by
                by_cases c0 : u' = D
                · rw [c0] at e
                  have := s12 _ _ e
                  rw [nD] at this; cases this
                · rw [upd_ne c0]
                  exact s4 _ _ (by rw [upd_ne c0]; exact s1G _ _ e)
              have := q _ sF
              unfold certB at this
              rw [hrows, Bool.true_and, e2, decide_eq_true (by rw [hun]), Bool.true_and] at this
              rw [List.all_map]
              have e9 : (dctR R).all (vB k c (dctR R)) = L.all (id ∘ fun y => vB k c (dctR R) (y.1, y.2.2)) := by
                conv => lhs; arg 1; rw [← hLv]
                unfold kvX
                rw [List.all_map]; rfl
              rw [← e9]
              exact this
        · refine ⟨true, nblT (int_ne hun), iteT ?_⟩
          rw [decide_eq_false (fun z => hun (Option.some.inj z)), Bool.false_and] at fin
          exact fin
end
section
variable {P : Program} {w : World} {K : PySem.W.Frag} {mg : Str → Option Value} {base : Heap}
def sp_L_s5_after (K : PySem.W.Frag) : Sp := fun vs H Q _ => ∃ (a : Addr) (st : List Nat) (m : Nat), vs = [.ref a, .int (m : Int)] ∧ SqT K H a (vi st) ∧ m ≤ st.length ∧ st.length ≤ 1000 ∧ ∀ H' p, Same H H' → SqT K H' p (vi (sa st m)) → Q (.ref p) H'
theorem mx_take {xs : List Nat} {i x : Nat} (h : xs[i]? = some x) : mx (xs.take (i + 1)) = max (mx (xs.take i)) x := by
  rw [List.take_add_one, h, mx_append]
  simp [mx]
theorem ok_L_s5_after (TX : Tx K mg) : FnOk P w K mg base CX0 1 TX.a_L_s5_after TX.fd_L_s5_after ["_law_levels", "_law_taken"] (sp_L_s5_after K) := by
  refine TX.f_L_s5_after.ok sc_L_s5_after (fun vs H Q E h => ?_) (fun cdv A outer s H vs Q E hr h => ?_)
  · obtain ⟨a, st, m, rfl, _⟩ := h; rfl
  · obtain ⟨a, st, m, rfl, hS, hm, hl, q⟩ := h
    refine ⟨_, (pss_cons (ps_set (i := 2) sc_L_s5_after.nd rfl (.inl rfl) pe_int)
      (pss_cons (ps_for PassesOwn.never rfl (k_piT (K := K) rfl (pe_slice (k_slT (K := K) rfl) (pv 0) (po_some (pe_op op_sub (pe_callB (id := "len") (k_len (K := K) rfl) (by rfl) TX.b_len (by decide +kernel) (pa_cons (pv 0) pa_nil)) (pv 1))) po_none)) (pg_name (i := 3) sc_L_s5_after.nd rfl (.inl rfl))
        (pss_one (ps_set (i := 2) sc_L_s5_after.nd rfl (.inl rfl) (pe_callB (id := "max") (call_max2 rfl) (by rfl) TX.b_max (by decide +kernel) (pa_cons (pv 2) (pa_cons (pv 3) pa_nil))))))
      (pss_one (ps_ret (pe_op (k_catT (K := K) rfl) (pe_slice (k_slT (K := K) rfl) (pv 0) po_none (po_some (pe_op op_sub (pe_callB (id := "len") (k_len (K := K) rfl) (by rfl) TX.b_len (by decide +kernel) (pa_cons (pv 0) pa_nil)) (pv 1)))) (pe_tup (pa_cons (pe_op op_add (pv 2) pe_int) pa_nil))))))), ?_⟩
    have eK : ((vi st).length : Int) - (m : Int) = ((st.length - m : Nat) : Int) := by rw [vi_len]; omega
    refine ⟨.ref a, rfl, .ref a, rfl, a, _, rfl, .inr hS, _, rfl, _, _, rfl, rfl, _, rfl, ?_⟩
    unfold tNoPart
    refine sl_read hS fun c1 H1 s1 h1 => ?_
    rw [eK, cutV_from (by omega)] at h1
    refine ⟨c1, rfl, ⟨_, h1⟩, for_tup (K := K) (xs := vi (st.drop (st.length - m))) (fun i σ H' => H' = H1 ∧ ∃ y3, σ = [some (.ref a), some (.int (m : Int)), some (.int ((mx ((st.drop (st.length - m)).take i) : Nat) : Int)), y3]) ⟨rfl, none, rfl⟩ (fun i σ H' _ h => by rw [h.1]; exact h1) ?_ ?_⟩
    · rintro i x σ H' hx ⟨rfl, y3, rfl⟩
      rw [vi, List.getElem?_map] at hx
      cases hc : (st.drop (st.length - m))[i]? with
      | none => rw [hc] at hx; cases hx
      | some z =>
        rw [hc] at hx
        cases hx
        refine ⟨_, rfl, _, rfl, _, _, rfl, rfl, some (.int (z : Int)), ?_⟩
        rw [mx_take hc, ← max_nat]
        rfl
    · rintro σ H' ⟨rfl, y3, rfl⟩
      rw [List.take_of_length_le (by rw [vi_len]; omega)]
      refine ⟨.ref a, rfl, .ref a, rfl, a, _, rfl, .inr (Same.tup s1 hS), _, rfl, _, _, rfl, rfl, _, rfl, ?_⟩
      dsimp only
      rw [eK]
      refine sl_read (Same.tup s1 hS) fun c2 H2 s2 h2 => ?_
      rw [cutV_to (by omega)] at h2
      refine ⟨_, rfl, _, _, rfl, rfl, sz60 (by simp), fun t nt => ?_⟩
      have s3 := same_upd (o := .tup [V.int (((mx (st.drop (st.length - m)) : Nat) : Int) + 1)]) nt
      refine cat_read (Same.tup s3 h2) (.inl (.inl upd_same)) (by simp [vi]; omega) fun p H4 s4 h4 => q H4 p (s1.trans (s2.trans (s3.trans s4))) ?_
      unfold sa
      rw [vi_app]
      have e : vi [1 + mx (st.drop (st.length - m))] = [V.int (((mx (st.drop (st.length - m)) : Nat) : Int) + 1)] := by
        simp [vi]; omega
      rw [e]; exact h4
end
section
variable {P : Program} {w : World} {K : PySem.W.Frag} {mg : Str → Option Value} {base : Heap}
def encR (r : Rw) : List Int × V := (ci r.1, V.int r.2)
theorem dict_rows {H : Hp} {a : Addr} {us : List V} {R : List Rw} {Q : VK} (hS : SqL K H a us) (hA : DpAll K H us (R.map dRw)) (q : ∀ p H', H p = none → Same H H' → DN K P w H' p (dctR R) → Q (.ref p) H') : rDictT K P w [.ref a] H Q := by
  have hA' : DpAll K H us ((R.map fun r => ((ci r.1 : List Int), PyData.int r.2)).map dKV) := by rw [List.map_map]; exact hA
  obtain ⟨ts, M, rfl, h1, h2⟩ := pairs_dp hA'
  have e : ∀ {M : KX} {R : List Rw}, Paired (fun m p => m.1 = p.1 ∧ Dp K H m.2.2 p.2) M (R.map fun r => ((ci r.1 : List Int), PyData.int r.2)) → kvX M = R.map fun r => (ci r.1, V.int r.2) := by
    intro M
    induction M with
    | nil => intro R h; cases R with
      | nil => rfl
      | cons r R => cases h
    | cons m M ih => intro R h; cases R with
      | nil => cases h
      | cons r R =>
        cases h with
        | cons h1 h2 =>
          obtain ⟨e1, e2⟩ := h1
          obtain ⟨m1, m2, m3⟩ := m
          cases e2
          have := ih h2
          unfold kvX at this ⊢
          rw [List.map_cons, List.map_cons, this]
          dsimp only at e1 ⊢
          rw [e1]
  refine ⟨a, ts, M, rfl, hS, h1, fun p H' np s g => q p H' np s ?_⟩
  unfold dctR
  rw [← e h2]; exact g
theorem rows_dp {H : Hp} : ∀ {ys : List V} {R : List Rw}, RowsX K H ys (R.map encR) → DpAll K H ys (R.map dRw)
  | [], [], _ => .nil
  | [], r :: R, h => by cases h
  | y :: ys, [], h => by cases h
  | y :: ys, r :: R, h => by
    cases h with
    | cons h1 h2 =>
      obtain ⟨t, b, rfl, e1, e2⟩ := h1
      refine .cons (.tup (.inl (.inl e1)) (.cons (dp_dSt ?_) (.cons (.int _) .nil))) (rows_dp h2)
      rw [vi_ci]; exact e2
theorem dp_of {H : Hp} : ∀ {bs : List (V × PyData)}, (∀ b, b ∈ bs → Dp K H b.1 b.2) → DpAll K H (bs.map Prod.fst) (bs.map Prod.snd)
  | [], _ => .nil
  | b :: bs, h => .cons (h b (.head _)) (dp_of fun x hx => h x (.tail _ hx))
theorem of_dp {H : Hp} : ∀ {bs : List (V × PyData)}, DpAll K H (bs.map Prod.fst) (bs.map Prod.snd) → ∀ b, b ∈ bs → Dp K H b.1 b.2
  | [], _, b, hb => by cases hb
  | x :: bs, .cons h1 h2, b, hb => by
    rcases List.mem_cons.mp hb with e | e
    · rw [e]; exact h1
    · exact of_dp h2 b e
theorem rows_of : ∀ {ds : List PyData}, (∀ d, d ∈ ds → ∃ r, d = dRw r) → ∃ R : List Rw, ds = R.map dRw
  | [], _ => ⟨[], rfl⟩
  | d :: ds, h => by
    obtain ⟨r, rfl⟩ := h d (.head _)
    obtain ⟨R, rfl⟩ := rows_of fun x hx => h x (.tail _ hx)
    exact ⟨r :: R, rfl⟩
theorem alike_row (r r' : Rw) : PySem.W.alike (dRw r) (dRw r') = true := by
  unfold dRw dSt
  simp [PySem.W.alike, PySem.W.alikeAll, PySem.W.alike_ints]
theorem sh_row (r : Rw) : Sh 2 (dRw r) := Sh.tup fun d hd => by
  rcases List.mem_cons.mp hd with h | h
  · rw [h]; exact Sh.tup (Sh.ints _)
  · rcases List.mem_cons.mp h with h | h
    · rw [h]; exact Sh.ints [_] _ (.head _)
    · cases h
/-- tuple(sorted(list(numbers.items()))) -/
theorem items_out {G : Hp} {D : Addr} {R1 : List Rw} {Q : VK} (g : DN K P w G D (R1.map encR)) (hl : R1.length ≤ 900) (q : ∀ (H' : Hp) (p : Addr) (R2 : List Rw), Same G H' → Dp K H' (.ref p) (.tuple (R2.map dRw)) → R2.length = R1.length → Q (.ref p) H') :
    ∃ (a : Addr) (kvs : List (List Int × V)), V.ref D = .ref a ∧ DR K P w G a kvs ∧ ∀ p, G p = none → rListIt K P w [.ref p] (upd G p (L2.DX.itemsO p a)) fun v H1 => rSortX K [v] H1 fun v H2 => rTupOf K [v] H2 Q := by
  refine ⟨D, _, rfl, g.dr, fun p np => ?_⟩
  have s1 := same_upd (o := L2.DX.itemsO p D) np
  refine ⟨p, D, _, rfl, upd_same, g.dr.same s1, fun H1 l ys s2 nl hl1 rows => ?_⟩
  have hA := rows_dp rows
  have hyl : ys.length = R1.length := by rw [DpAll.len hA, List.length_map]
  obtain ⟨bs, hbs⟩ : ∃ bs : List (V × PyData), bs = ys.zip (R1.map dRw) := ⟨_, rfl⟩
  have b1 : bs.map Prod.fst = ys := by rw [hbs]; exact List.map_fst_zip (by rw [List.length_map, hyl]; exact Nat.le_refl _)
  have b2 : bs.map Prod.snd = R1.map dRw := by rw [hbs]; exact List.map_snd_zip (by rw [List.length_map, hyl]; exact Nat.le_refl _)
  have bl : bs.length = R1.length := by rw [← List.length_map (f := Prod.fst), b1, hyl]
  have hA2 : DpAll K H1 (bs.map Prod.fst) (bs.map Prod.snd) := by rw [b1, b2]; exact hA
  have bmem : ∀ b, b ∈ bs → ∃ r, b.2 = dRw r := fun b hb => by
    have : b.2 ∈ bs.map Prod.snd := List.mem_map.mpr ⟨b, hb, rfl⟩
    rw [b2] at this
    obtain ⟨r, _, e⟩ := List.mem_map.mp this
    exact ⟨r, e.symm⟩
  refine ⟨l, bs, rfl, .inl (.inl (by rw [b1]; exact hl1)), hA2, fun d hd d' hd' => ?_, .inl fun d hd => ?_, by omega, fun b hb => ?_, fun p3 np3 => ?_⟩
  · rw [b2] at hd hd'
    obtain ⟨r, _, rfl⟩ := List.mem_map.mp hd
    obtain ⟨r', _, rfl⟩ := List.mem_map.mp hd'
    exact alike_row r r'
  · rw [b2] at hd
    obtain ⟨r, _, rfl⟩ := List.mem_map.mp hd
    exact ⟨_, _, rfl⟩
  · obtain ⟨r, e⟩ := bmem b hb
    rw [e]
    exact Nat.le_trans (sh_row r).2 (by decide)
  obtain ⟨cs, hcs⟩ : ∃ cs, cs = bs.mergeSort (PySem.W.dataLe false Prod.snd) := ⟨_, rfl⟩
  rw [← hcs]
  have cperm : ∀ b, b ∈ cs → b ∈ bs := fun b hb => by rw [hcs] at hb; exact List.mem_mergeSort.mp hb
  have clen : cs.length = bs.length := by rw [hcs, List.length_mergeSort]
  have s3 := same_upd (o := .lst (cs.map Prod.fst)) np3
  obtain ⟨R2, hR2⟩ := rows_of (ds := cs.map Prod.snd) fun d hd => by
    obtain ⟨b, hb, rfl⟩ := List.mem_map.mp hd
    exact bmem b (cperm b hb)
  have hA3 : DpAll K H1 (cs.map Prod.fst) (cs.map Prod.snd) := dp_of fun b hb => of_dp hA2 b (cperm b hb)
  refine ⟨p3, _, rfl, .inl ⟨.inl (.inl upd_same), fun t nt => ?_⟩⟩
  have s4 := same_upd (o := .tup (cs.map Prod.fst)) nt
  rw [hR2] at hA3
  refine q _ t R2 (s1.trans (s2.trans (s3.trans s4))) (.tup (.inl (.inl upd_same)) (DpAll.same (s3.trans s4) hA3)) ?_
  have := congrArg List.length hR2
  rw [List.length_map, List.length_map] at this
  omega
def Ups (k c : Nat) (ks : List (List Nat)) : Prop := ∀ s, s ∈ ks → Sta k c s ∧ ∀ m, Bm k c s m → sa s m ∈ ks
theorem enc_val {R1 : List Rw} {s : List Nat} (h : s ∈ R1.map (·.1)) : ∃ u, valV (R1.map encR) (ci s) = some (.int u) := by
  induction R1 with
  | nil => cases h
  | cons x R ih =>
    by_cases e : x.1 = s
    · exact ⟨x.2, by unfold valV; rw [List.map_cons, List.find?_cons, decide_eq_true (show (encR x).1 = ci s from congrArg ci e)]; rfl⟩
    · obtain ⟨u, hu⟩ := ih (by
        rcases List.mem_cons.mp h with h | h
        · exact absurd h.symm e
        · exact h)
      refine ⟨u, ?_⟩
      unfold valV at hu ⊢
      rw [List.map_cons, List.find?_cons, decide_eq_false (fun z : (encR x).1 = ci s => e (ci_inj z))]
      exact hu
theorem enc_put {R1 : List Rw} {s : List Nat} {u : Int} (h : s ∈ R1.map (·.1)) : ∃ R2 : List Rw, putK (R1.map encR) (ci s) (.int u) = R2.map encR ∧ R2.map (·.1) = R1.map (·.1) := by
  refine ⟨R1.map fun r => if r.1 = s then (r.1, u) else r, ?_, ?_⟩
  · unfold putK
    rw [if_pos (by
      obtain ⟨r, hr, e⟩ := List.mem_map.mp h
      exact List.any_eq_true.mpr ⟨encR r, List.mem_map.mpr ⟨r, hr, rfl⟩, decide_eq_true (show ci r.1 = ci s by rw [e])⟩), List.map_map, List.map_map]
    refine List.map_congr_left fun r _ => ?_
    show (if ci r.1 = ci s then (ci r.1, V.int u) else encR r) = encR (if r.1 = s then (r.1, u) else r)
    by_cases e : r.1 = s
    · rw [if_pos e, if_pos (by rw [e])]; rfl
    · rw [if_neg e, if_neg (fun z => e (ci_inj z))]
  · rw [List.map_map]
    refine List.map_congr_left fun r _ => ?_
    show (if r.1 = s then (r.1, u) else r).1 = r.1
    split <;> rfl
def sp_L_s5_raised (K : PySem.W.Frag) : Sp := fun vs H Q _ => ∃ (t : V) (a : Addr) (R : List Rw) (st : List Nat) (k c : Nat) (b : Int), vs = [t, .ref a, .int (k : Int), .int (c : Int), .int b] ∧ Dp K H t (.tuple (R.map dRw)) ∧ SqT K H a (vi st) ∧ (R.map (·.1)).Nodup ∧ Ups k c (R.map (·.1)) ∧ st ∈ R.map (·.1) ∧ k ≤ 60 ∧ c ≤ 60 ∧ R.length ≤ 900 ∧
  ∀ (H' : Hp) (p : Addr) (R' : List Rw), Same H H' → Dp K H' (.ref p) (.tuple (R'.map dRw)) → R'.length ≤ 900 → Q (.ref p) H'
theorem ok_L_s5_raised (TX : Tx K mg) : FnOk P w K mg base CX0 8 TX.a_L_s5_raised TX.fd_L_s5_raised ["_law_rows", "_law_levels", "_law_room", "_law_wear", "_law_by"] (sp_L_s5_raised K) := by
  refine TX.f_L_s5_raised.ok sc_L_s5_raised (fun vs H Q E h => ?_) (fun cdv A outer s H vs Q E hr h => ?_)
  · obtain ⟨t, a, R, st, k, c, b, rfl, _⟩ := h; rfl
  · obtain ⟨t, a, R, st, k, c, b, rfl, hd, hS, nd, hU, hst, hk, hc, hR, q⟩ := h
    refine ⟨_, (pss_cons (ps_par (i := 5) (j := 6) (by rfl) sc_L_s5_raised.nd rfl rfl (by decide) rfl rfl (pa_cons (pe_callTy (T := "dict") (call_dictT (K := K) (P := P) (w := w) rfl rfl rfl rfl (u2_of hr)) (by rfl) TX.b_dict (by decide +kernel) (pa_cons (pe_callTy (T := "list") (k_listOf (K := K) rfl) (by rfl) TX.b_list (by decide +kernel) (pa_cons (pv 0) pa_nil)) pa_nil)) (pa_cons (pv 1) pa_nil)) (by rfl))
      (pss_cons (ps_for PassesOwn.never rfl (pi_range1 (by rfl) TX.b_range (pa_cons (pe_callB (id := "len") (k_len (K := K) rfl) (by rfl) TX.b_len (by decide +kernel) (pa_cons (pv 0) pa_nil)) pa_nil)) (pg_name (i := 7) sc_L_s5_raised.nd rfl (.inl rfl))
        (pss_cons (ps_nput (K := K) (P := P) (w := w) rfl rfl rfl (hu_of hr) (pv 5) (pv 6) (pe_op op_add (pe_nget (K := K) (P := P) (w := w) rfl rfl rfl (hu_of hr) (pv 5) (pv 6) (fun _ _ => rfl)) (pv 4)) (by rfl))
        (pss_cons (ps_set (i := 8) sc_L_s5_raised.nd rfl (.inl rfl) (pe_call (ok_best_merge TX) (hr.mono (by decide)) (by rfl) TX.g_best_merge TX.f_best_merge.kp TX.bd_best_merge .nil pass0 (pa_cons (pv 6) (pa_cons (pv 2) (pa_cons (pv 3) pa_nil)))))
        (pss_cons (ps_if (pt_cmpR op_isN (pv 8) pe_non (nomark _))
          (pss_one (ps_ret (pe_callTy (T := "tuple") (k_tupOf (K := K) rfl) (by rfl) TX.b_tuple (by decide +kernel) (pa_cons (pe_callB (id := "sorted") (cr_sortX (K := K) rfl hr.units) (by rfl) TX.b_sorted (by decide +kernel) (pa_cons (pe_callTy (T := "list") (cr_listIt (K := K) (P := P) (w := w) rfl rfl rfl rfl) (by rfl) TX.b_list (by decide +kernel) (pa_cons (pe_itemsX (K := K) (P := P) (w := w) rfl rfl rfl (pv 5)) pa_nil)) pa_nil)) pa_nil))))
          pss_nil)
        (pss_one (ps_set (i := 6) sc_L_s5_raised.nd rfl (.inl rfl) (pe_call (ok_L_s5_after TX) (hr.mono (by decide)) (by rfl) TX.g_L_s5_after TX.f_L_s5_after.kp TX.bd_L_s5_after .nil pass0 (pa_cons (pv 6) (pa_cons (pv 8) pa_nil)))))))))
      (pss_one (ps_ret (pe_callTy (T := "tuple") (k_tupOf (K := K) rfl) (by rfl) TX.b_tuple (by decide +kernel) (pa_cons (pe_callB (id := "sorted") (cr_sortX (K := K) rfl hr.units) (by rfl) TX.b_sorted (by decide +kernel) (pa_cons (pe_callTy (T := "list") (cr_listIt (K := K) (P := P) (w := w) rfl rfl rfl rfl) (by rfl) TX.b_list (by decide +kernel) (pa_cons (pe_itemsX (K := K) (P := P) (w := w) rfl rfl rfl (pv 5)) pa_nil)) pa_nil)) pa_nil)))))), ?_⟩
    obtain ⟨t, xs, rfl, ht, hx⟩ := Dp.tupInv hd
    have hxl : xs.length = R.length := by rw [DpAll.len hx, List.length_map]
    refine ⟨.ref t, rfl, t, xs, rfl, .inr ht, fun l nl => ?_⟩
    have s1 := same_upd (o := .lst xs) nl
    dsimp only [tNil, tCons]
    refine dict_rows (P := P) (w := w) (R := R) (.inl (.inl upd_same)) (DpAll.same s1 hx) fun D H1 nD s2 gD => ?_
    have s12 := s1.trans s2
    have nDH : H D = none := s1.free nD
    have nd' : (R.map fun r => ci r.1).Nodup := by
      rw [List.Nodup, List.pairwise_map] at nd ⊢
      exact nd.imp fun h e => h (ci_inj e)
    rw [dctR_nodup nd'] at gD
    refine ⟨.ref a, rfl, _, _, rfl, ?_⟩
    refine ⟨.ref t, rfl, t, _, rfl, .inr (Same.tup s12 ht), _, rfl, by omega, by omega, for_range (lo := 0) (fun i σ G => ∃ (y7 y8 : Option V) (e : Addr) (s' : List Nat) (R1 : List Rw), σ = [some (.ref t), some (.ref a), some (.int (k : Int)), some (.int (c : Int)), some (.int b), some (.ref D), some (.ref e), y7, y8] ∧ Same H G ∧ SqT K G e (vi s') ∧ s' ∈ R.map (·.1) ∧ DN K P w G D (R1.map encR) ∧ R1.map (·.1) = R.map (·.1)) ⟨none, none, a, st, R, rfl, s12, Same.tup s12 hS, hst, gD, rfl⟩ ?_ ?_⟩
    · rintro i σ G hi ⟨y7, y8, e, s', R1, rfl, sG, he, hs', g, hk1⟩
      have hl1 : R1.length = R.length := by rw [← List.length_map (f := (·.1)), hk1, List.length_map]
      have hs1 : s' ∈ R1.map (·.1) := by rw [hk1]; exact hs'
      obtain ⟨u, hu⟩ := enc_val hs1
      obtain ⟨R2, hp2, hk2⟩ := enc_put (u := u + b) hs1
      obtain ⟨hsta, hnx⟩ := hU s' hs'
      refine ⟨.ref D, rfl, .ref e, rfl, D, e, _, ci s', .int u, rfl, rfl, g, sq_ci he, hu, _, rfl, _, _, rfl, rfl, .ref D, rfl, .ref e, rfl, D, e, _, ci s', rfl, rfl, g, sq_ci he, by rw [List.length_map, sizeLine_eq]; omega, fun G1 h1 kp h3 => ?_⟩
      have sG1 : Same H G1 := fun x o z => by
        rw [h1 x (fun w => by rw [w, nDH] at z; cases z)]; exact sG x o z
      have he1 : SqT K G1 e (vi s') := kp _ _ he
      rw [hp2] at h3
      have hl2 : R2.length = R.length := by rw [← List.length_map (f := (·.1)), hk2, List.length_map, hl1]
      refine ⟨.ref e, rfl, _, rfl, _, rfl, e, s', k, c, rfl, he1, hk, hc, hsta, fun G2 m s3 hB => ?_, fun G2 s3 hN => ?_⟩
      · refine ⟨_, rfl, rfl, false, rfl, iteF ?_⟩
        refine ⟨.ref e, rfl, _, rfl, e, s', m, rfl, Same.tup s3 he1, hB.2.1, by have := hsta.1; omega, fun G3 e3 s4 h4 => ?_⟩
        exact ⟨_, _, e3, sa s' m, R2, rfl, sG1.trans (s3.trans s4), h4, hnx m hB, h3.same (s3.trans s4), by rw [hk2, hk1]⟩
      · refine ⟨_, rfl, rfl, true, rfl, iteT ⟨.ref D, rfl, items_out (h3.same s3) (by omega) fun G4 p R4 s4 h4 hl4 => q _ p R4 (sG1.trans (s3.trans s4)) h4 (by omega)⟩⟩
    · rintro σ G ⟨y7, y8, e, s', R1, rfl, sG, he, hs', g, hk1⟩
      have hl1 : R1.length = R.length := by rw [← List.length_map (f := (·.1)), hk1, List.length_map]
      exact ⟨.ref D, rfl, items_out g (by omega) fun G4 p R4 s4 h4 hl4 => q _ p R4 (sG.trans s4) h4 (by omega)⟩
end
theorem op_eqDK {X : Cx} {K : PySem.W.Frag} (hK : X.K = K) (hu : X.A.units + 64 < cLine) : OpR X (compareOp .Eq) (rEqD K) := by subst hK; exact op_eqD hu
section
variable {P : Program} {w : World} {K : PySem.W.Frag} {mg : Str → Option Value} {base : Heap}
abbrev Pt := Int × List Rw
def dPt (x : Pt) : PyData := .tuple [.int x.1, .tuple (x.2.map dRw)]
theorem tf_rows (R : List Rw) : Tf (.tuple (R.map dRw)) := .tup fun d h => by obtain ⟨r, _, rfl⟩ := List.mem_map.mp h; exact tf_dRw r
theorem tf_dPt (x : Pt) : Tf (dPt x) := .tup fun d h => by
  rcases List.mem_cons.mp h with h | h
  · rw [h]; exact .int _
  · rcases List.mem_cons.mp h with h | h
    · rw [h]; exact tf_rows _
    · cases h
theorem tf_pts (L : List Pt) : ∀ d, d ∈ L.map dPt → Tf d := fun d h => by obtain ⟨x, _, rfl⟩ := List.mem_map.mp h; exact tf_dPt x
/-- the list of pairs so far -/
def Fd (K : PySem.W.Frag) (H : Hp) (F : Addr) (m : Nat) : Prop := ∃ (zs : List V) (L : List Pt), H F = some (.lst zs) ∧ DpAll K H zs (L.map dPt) ∧ (∀ x, x ∈ L → x.2.length ≤ 900) ∧ L.length ≤ m
theorem Fd.same {H H' : Hp} {F : Addr} {m : Nat} (h : Fd K H F m) (s : Same H H') : Fd K H' F m := by
  obtain ⟨zs, L, h1, h2, h3, h4⟩ := h
  exact ⟨zs, L, s _ _ h1, DpAll.same s h2, h3, h4⟩
theorem Fd.but {H H' : Hp} {F p : Addr} {m : Nat} {n : Int} (h : Fd K H F m) (hp : Pot H p n) (s : But p H H') (ne : F ≠ p) : Fd K H' F m := by
  obtain ⟨zs, L, h1, h2, h3, h4⟩ := h
  exact ⟨zs, L, s _ _ ne h1, DpAll.keep (hp.keep s) (tf_pts _) h2, h3, h4⟩
/-- found.append((x, rows)), the pair's tuple made -/
theorem Fd.app {H : Hp} {F : Addr} {m : Nat} {u : Addr} {x : Int} {R : List Rw} {D : Ends} {v : V} (h : Fd K H F m) (hm : m ≤ 100) (nu : H u = none) (hv : Dp K H v (.tuple (R.map dRw))) (hl : R.length ≤ 900) {Q : VK} (q : ∀ H', (∀ b o, b ≠ F → H b = some o → H' b = some o) → Fd K H' F (m + 1) → Q .non H') :
    rAppend (.ref F) [.ref u] (upd H u (.tup [.int x, v])) Q := by
  obtain ⟨zs, L, h1, h2, h3, h4⟩ := h
  have s1 := same_upd (o := .tup [.int x, v]) nu
  have zl := DpAll.len h2
  rw [List.length_map] at zl
  refine ⟨F, zs, _, rfl, rfl, s1 _ _ h1, sz61 (by omega), q _ (fun b o ne e => by rw [upd_ne ne]; exact s1 _ _ e) ⟨_, L ++ [(x, R)], upd_same, ?_, fun y hy => ?_, by rw [List.length_append]; simp; omega⟩⟩
  · rw [List.map_append]
    refine DpAll.keep (But.keep But.upd (s1 _ _ h1)) (fun d hd => ?_) (DpAll.append (DpAll.same s1 h2) (.cons (.tup (.inl (.inl upd_same)) (.cons (.int _) (.cons (Dp.same s1 hv) .nil))) .nil))
    rcases List.mem_append.mp hd with hd | hd
    · exact tf_pts _ d hd
    · rw [List.mem_singleton.mp hd]; exact tf_dPt (x, R)
  · rcases List.mem_append.mp hy with hy | hy
    · exact h3 y hy
    · rw [List.mem_singleton.mp hy]; exact hl
def sp_L_s5_false_tables (K : PySem.W.Frag) : Sp := fun vs H Q _ => ∃ (p : Addr) (t : V) (a : Addr) (R : List Rw) (st : List Nat) (k c : Nat) (n : Int), vs = [.ref p, t, .ref a, .int (k : Int), .int (c : Int)] ∧ Pot H p n ∧ n ≤ 90000 ∧ Dp K H t (.tuple (R.map dRw)) ∧ SqT K H a (vi st) ∧ (R.map (·.1)).Nodup ∧ Ups k c (R.map (·.1)) ∧ st ∈ R.map (·.1) ∧ k ≤ 60 ∧ c ≤ 60 ∧ R.length ≤ 800 ∧
  ∀ (H' : Hp) (l : Addr), But p H H' → Pot H' p (n + 2) → H l = none → Fd K H' l 30 → Q (.ref l) H'
theorem ok_L_s5_false_tables (TX : Tx K mg) : FnOk P w K mg base CX0 9 TX.a_L_s5_false_tables TX.fd_L_s5_false_tables ["_law_hand", "_law_rows", "_law_levels", "_law_room", "_law_wear"] (sp_L_s5_false_tables K) := by
  refine TX.f_L_s5_false_tables.ok sc_L_s5_false_tables (fun vs H Q E h => ?_) (fun cdv A outer s H vs Q E hr h => ?_)
  · obtain ⟨p, t, a, R, st, k, c, n, rfl, _⟩ := h; rfl
  · obtain ⟨p, t, a, R, st, k, c, n, rfl, hp, hn, hd, hS, nd, hU, hst, hk, hc, hR, q⟩ := h
    refine ⟨_, (pss_cons (ps_par (i := 5) (j := 6) (by rfl) sc_L_s5_false_tables.nd rfl rfl (by decide) rfl rfl (pa_cons (pe_nget (K := K) (P := P) (w := w) rfl rfl rfl (hu_of hr) (pe_callTy (T := "dict") (call_dictT (K := K) (P := P) (w := w) rfl rfl rfl rfl (u2_of hr)) (by rfl) TX.b_dict (by decide +kernel) (pa_cons (pe_callTy (T := "list") (k_listOf (K := K) rfl) (by rfl) TX.b_list (by decide +kernel) (pa_cons (pv 1) pa_nil)) pa_nil)) (pv 2) (fun _ _ => rfl)) (pa_cons (pe_lst pa_nil) pa_nil)) (by rfl))
      (pss_cons (ps_for PassesOwn.never rfl (k_piT (K := K) rfl (pe_tup (pa_cons pe_int (pa_cons (pe_un un_neg pe_int) (pa_cons (pe_op op_add pe_int (pe_call (ok_L_s5_take TX) (hr.mono (by decide)) (by rfl) TX.g_L_s5_take TX.f_L_s5_take.kp TX.bd_L_s5_take .nil pass0 (pa_cons (pv 0) (pa_cons pe_int pa_nil)))) pa_nil))))) (pg_name (i := 7) sc_L_s5_false_tables.nd rfl (.inr rfl))
        (pss_cons (ps_expr (pe_bm PySem.F.plainAttrs_list PySem.F.slot_list_append PySem.F.type_list_append mt_append (pv 6) (pa_cons (pe_tup (pa_cons (pe_op op_add (pv 5) (pv 7)) (pa_cons (pe_callTy (T := "tuple") (k_tupOf (K := K) rfl) (by rfl) TX.b_tuple (by decide +kernel) (pa_cons (pe_lc (own := [("_law_one", 10), ("_law_height", 11)]) (by rfl) sc_L_s5_false_tables.nd (k_piT (K := K) rfl (pv 1)) (blkOk_by (own := [("_law_one", 10), ("_law_height", 11)]) (N := N_L_s5_false_tables) (sc := defScope s_L_s5_false_tables) (by decide +kernel)) (fun _ _ _ _ _ => (k_pgT2 (K := K) rfl rfl (pg_name (i := 10) sc_L_s5_false_tables.nd rfl (Or.inl rfl)) (pg_name (i := 11) sc_L_s5_false_tables.nd rfl (Or.inl rfl)))) (fun _ _ _ _ _ => pts_nil) (fun _ _ _ _ _ => (pe_tup (pa_cons (pv 10) (pa_cons (pe_op op_add (pv 11) (pv 7)) pa_nil))))) pa_nil)) pa_nil))) pa_nil)))
        (pss_cons (ps_expr (pe_bm PySem.F.plainAttrs_list PySem.F.slot_list_append PySem.F.type_list_append mt_append (pv 6) (pa_cons (pe_tup (pa_cons (pe_op op_add (pv 5) (pv 7)) (pa_cons (pe_callTy (T := "tuple") (k_tupOf (K := K) rfl) (by rfl) TX.b_tuple (by decide +kernel) (pa_cons (pe_lc (own := [("_law_one", 10), ("_law_height", 11)]) (by rfl) sc_L_s5_false_tables.nd (k_piT (K := K) rfl (pv 1)) (blkOk_by (own := [("_law_one", 10), ("_law_height", 11)]) (N := N_L_s5_false_tables) (sc := defScope s_L_s5_false_tables) (by decide +kernel)) (fun _ _ _ _ _ => (k_pgT2 (K := K) rfl rfl (pg_name (i := 10) sc_L_s5_false_tables.nd rfl (Or.inl rfl)) (pg_name (i := 11) sc_L_s5_false_tables.nd rfl (Or.inl rfl)))) (fun _ _ _ _ _ => pts_nil) (fun _ _ _ _ _ => (pe_tup (pa_cons (pv 10) (pa_cons (pe_op op_add (pv 11) (pe_op op_mulW (pv 7) (pe_callTy (T := "int") call_int1 (by rfl) TX.b_int (by decide +kernel) (pa_cons (pe_cmpR (op_eqDK (K := K) rfl hr.units) (pv 10) (pv 2) (nomark _)) pa_nil)))) pa_nil))))) pa_nil)) pa_nil))) pa_nil)))
        (pss_one (ps_expr (pe_bm PySem.F.plainAttrs_list PySem.F.slot_list_append PySem.F.type_list_append mt_append (pv 6) (pa_cons (pe_tup (pa_cons (pe_op op_add (pv 5) (pv 7)) (pa_cons (pe_call (ok_L_s5_raised TX) (hr.mono (by decide)) (by rfl) TX.g_L_s5_raised TX.f_L_s5_raised.kp TX.bd_L_s5_raised .nil pass0 (pa_cons (pv 1) (pa_cons (pv 2) (pa_cons (pv 3) (pa_cons (pv 4) (pa_cons (pv 7) pa_nil)))))) pa_nil))) pa_nil)))))))
      (pss_cons (ps_expr (pe_bm PySem.F.plainAttrs_list PySem.F.slot_list_append PySem.F.type_list_append mt_append (pv 6) (pa_cons (pe_tup (pa_cons pe_int (pa_cons (pe_callTy (T := "tuple") (k_tupOf (K := K) rfl) (by rfl) TX.b_tuple (by decide +kernel) (pa_cons (pe_lc (own := [("_law_row", 9)]) (by rfl) sc_L_s5_false_tables.nd (k_piT (K := K) rfl (pv 1)) (blkOk_by (own := [("_law_row", 9)]) (N := N_L_s5_false_tables) (sc := defScope s_L_s5_false_tables) (by decide +kernel)) (fun _ _ _ _ _ => (pg_name (i := 9) sc_L_s5_false_tables.nd rfl (Or.inl rfl))) (fun _ _ _ _ _ => (pts_one (PW.pt (pw_or (pt_cmpR (op_eqDK (K := K) rfl hr.units) (pe_ix (k_ixT (K := K) rfl) (pv 9) pe_int (fun _ _ => rfl)) pe_int (nomark _)) (pw_or1 (pt_cmpR (op_eqDK (K := K) rfl hr.units) (pe_ix (k_ixT (K := K) rfl) (pv 9) pe_int (fun _ _ => rfl)) (pv 2) (nomark _))))))) (fun _ _ _ _ _ => (pv 9))) pa_nil)) pa_nil))) pa_nil)))
      (pss_cons (ps_expr (pe_bm PySem.F.plainAttrs_list PySem.F.slot_list_append PySem.F.type_list_append mt_append (pv 6) (pa_cons (pe_tup (pa_cons (pe_op op_add (pv 5) pe_int) (pa_cons (pe_op (k_catT (K := K) rfl) (pe_tup (pa_cons (pe_tup (pa_cons (pv 2) (pa_cons (pe_op op_add (pv 5) pe_int) pa_nil))) pa_nil)) (pv 1)) pa_nil))) pa_nil)))
      (pss_cons (ps_set (i := 8) sc_L_s5_false_tables.nd rfl (.inl rfl) (pe_call (ok_L_s5_take TX) (hr.mono (by decide)) (by rfl) TX.g_L_s5_take TX.f_L_s5_take.kp TX.bd_L_s5_take .nil pass0 (pa_cons (pv 0) (pa_cons (pe_callB (id := "len") (k_len (K := K) rfl) (by rfl) TX.b_len (by decide +kernel) (pa_cons (pv 1) pa_nil)) pa_nil))))
      (pss_one (ps_ret (pe_op op_cat (pv 6) (pe_lst (pa_cons (pe_tup (pa_cons (pe_op op_add (pv 5) pe_int) (pa_cons (pv 1) pa_nil))) (pa_cons (pe_tup (pa_cons (pv 5) (pa_cons (pe_op (k_catT (K := K) rfl) (pe_slice (k_slT (K := K) rfl) (pv 1) po_none (po_some (pv 8))) (pe_slice (k_slT (K := K) rfl) (pv 1) (po_some (pe_op op_add (pv 8) pe_int)) po_none)) pa_nil))) pa_nil))))))))))), ?_⟩
    have hd0 := hd
    obtain ⟨t, xs, rfl, ht, hx⟩ := Dp.tupInv hd
    have hxl : xs.length = R.length := by rw [DpAll.len hx, List.length_map]
    refine ⟨.ref t, rfl, t, xs, rfl, .inr ht, fun l nl => ?_⟩
    have s1 := same_upd (o := .lst xs) nl
    dsimp only [tNil, tCons]
    refine dict_rows (P := P) (w := w) (R := R) (.inl (.inl upd_same)) (DpAll.same s1 hx) fun D H1 nD s2 gD => ?_
    have s12 := s1.trans s2
    have nd' : (R.map fun r => ci r.1).Nodup := by
      rw [List.Nodup, List.pairwise_map] at nd ⊢
      exact nd.imp fun h e => h (ci_inj e)
    rw [dctR_nodup nd'] at gD
    obtain ⟨u, hu⟩ := enc_val hst
    refine ⟨.ref a, rfl, D, a, _, ci st, .int u, rfl, rfl, gD, sq_ci (Same.tup s12 hS), hu, sz60 (by simp), fun F nF => ⟨_, _, rfl, ?_⟩⟩
    have s3 := same_upd (o := .lst []) nF
    have hF : Fd K (upd H1 F (.lst [])) F 0 := ⟨[], [], upd_same, .nil, by simp, Nat.le_refl _⟩
    have nFH : H F = none := s12.free nF
    have s13 := s12.trans s3
    generalize upd H1 F (.lst []) = H2 at s3 hF s13
    have hFp : F ≠ p := hp.ne nFH
    have kt : ∀ {G : Hp}, But p H G → SqT K G t xs := fun b => hp.keep b _ _ ht
    have ka : ∀ {G : Hp}, But p H G → SqT K G a (vi st) := fun b => hp.keep b _ _ hS
    have kx : ∀ {G : Hp}, But p H G → DpAll K G xs (R.map dRw) := fun b => DpAll.keep (hp.keep b) (fun d hd => by obtain ⟨r, _, rfl⟩ := List.mem_map.mp hd; exact tf_dRw r) hx
    have kd : ∀ {G : Hp}, But p H G → Dp K G (.ref t) (.tuple (R.map dRw)) := fun b => Dp.keep (hp.keep b) (tf_rows R) hd0
    have step : ∀ {G G1 : Hp} {m : Nat} {j : Int} {z : Addr} {x : Int} {v : V} {R' : List Rw} {Q' : VK}, But p H G → Pot G p j → Fd K G F m → m ≤ 90 → Same G G1 → G1 z = none → Dp K G1 v (.tuple (R'.map dRw)) → R'.length ≤ 900 →
        (∀ H', But p H H' → Pot H' p j → Fd K H' F (m + 1) → Keep K G H' → Q' .non H') → rAppend (.ref F) [.ref z] (upd G1 z (.tup [.int x, v])) Q' := fun bG pG fG hm s nz hv hl q' =>
      Fd.app (D := { nx := fun _ _ => True, rt := fun _ _ => True }) (fG.same s) (by omega) nz hv hl fun H' h1 h2 => q' H' (fun c o ne e => h1 c o (fun z => by rw [z, nFH] at e; cases e) (s _ _ (bG c o ne e))) (by
        obtain ⟨d, sd, m, g1, g2⟩ := pG
        exact ⟨d, sd, m, h1 _ _ hFp.symm (s _ _ g1), g2⟩) h2 (fun c ys e => by
        obtain ⟨zs, L, g1, _⟩ := fG
        rcases e with (e | ⟨o, e⟩) | e
        · exact .inl (.inl (h1 _ _ (fun z => by rw [z, g1] at e; cases e) (s _ _ e)))
        · exact .inl (.inr ⟨o, h1 _ _ (fun z => by rw [z, g1] at e; cases e) (s _ _ e)⟩)
        · exact .inr e)
    -- the three numbers
    refine ⟨_, rfl, .ref p, rfl, p, 5, n, rfl, hp.same s13, by omega, by decide, by decide, fun H3 r b3 p3 r0 r1 => ⟨_, _, rfl, rfl, sz60 (by simp), fun t3 n3 => ?_⟩⟩
    have s4 := same_upd (o := .tup [V.int 1, V.int (-1), V.int (1 + r)]) n3
    have b4 : But p H (upd H3 t3 (.tup [V.int 1, V.int (-1), V.int (1 + r)])) := (But.of s13).trans (b3.trans (But.of s4))
    have hF4 : Fd K (upd H3 t3 (.tup [V.int 1, V.int (-1), V.int (1 + r)])) F 0 := (hF.but (hp.same s13) b3 hFp).same s4
    have p4 := p3.same s4
    have ht3 := upd_same (H := H3) (a := t3) (o := .tup [V.int 1, V.int (-1), V.int (1 + r)])
    have n3p : t3 ≠ p := (p3.ne n3)
    generalize upd H3 t3 (.tup [V.int 1, V.int (-1), V.int (1 + r)]) = H4 at b4 hF4 p4 ht3
    refine ⟨t3, rfl, ⟨_, .inl (.inl ht3)⟩, for_tup (K := K) (xs := [V.int 1, V.int (-1), V.int (1 + r)]) (fun i σ G => ∃ y7 : Option V, σ = [some (.ref p), some (.ref t), some (.ref a), some (.int (k : Int)), some (.int (c : Int)), some (.int u), some (.ref F), y7, none, none, none, none] ∧ But p H G ∧ Pot G p (n + 1) ∧ Fd K G F (3 * i) ∧ SqT K G t3 [V.int 1, V.int (-1), V.int (1 + r)]) ⟨none, rfl, b4, p4, hF4, .inl (.inl ht3)⟩ (fun i σ G _ h => by obtain ⟨_, _, _, _, _, h⟩ := h; exact h) ?_ ?_⟩
    · rintro i x σ G hxi ⟨y7, rfl, bG, pG, fG, hG3⟩
      have hb : ∃ b : Int, x = .int b ∧ b.natAbs ≤ 10 ∧ i < 3 := by
        match i, hxi with
        | 0, hxi => cases hxi; exact ⟨1, rfl, by decide, by decide⟩
        | 1, hxi => cases hxi; exact ⟨-1, rfl, by decide, by decide⟩
        | 2, hxi => cases hxi; exact ⟨1 + r, rfl, by omega, by decide⟩
        | i + 3, hxi => simp at hxi
      obtain ⟨b, rfl, hb10, hi3⟩ := hb
      have fold : ∀ {G : Hp}, Fd K G F (3 * i) → Fd K G F (3 * i) := fun h => h
      refine ⟨.ref F, rfl, ?_⟩
      obtain ⟨zs, Lz, hFz, _⟩ := id fG
      refine ⟨.inl ⟨rfl, _, .inl (.inl hFz)⟩, ?_⟩
      refine ⟨_, rfl, _, rfl, _, _, rfl, rfl, .ref t, rfl, t, rfl, ⟨_, kt bG⟩, fun D2 nD2 => ?_⟩
      refine lc_all (K := K) walk_tup ((R.map fun r => ((r.1, r.2 + b) : Rw)).map dRw) (by rw [List.length_map, List.length_map, hxl]) (fun d hd => by obtain ⟨r, _, rfl⟩ := List.mem_map.mp hd; exact tf_dRw r) (by omega) nD2 (fun H' s' => Same.tup s' (kt bG)) ?_ ?_ mono_pair (fun σ' H' Q Q' h => h _ _)
      · rintro j x G2 G2' hj s2 ⟨rfl, hx'⟩ d hd Rr hRr
        have hj' : j < R.length := by omega
        have hg := List.getElem?_eq_getElem hj'
        obtain ⟨v, hv, hdv⟩ := DpAll.get (kx bG) (i := j) (d := dRw R[j]) (by rw [List.getElem?_map, hg]; rfl)
        rw [hv] at hx'
        cases hx'
        rw [List.getElem?_map, List.getElem?_map, hg] at hd
        cases hd
        obtain ⟨t2, a2, rfl, ht2, ha2⟩ := dRw_inv hdv
        refine ⟨t2, _, rfl, Same.tup s2 ht2, rfl, _, _, rfl, _, _, rfl, rfl, rfl, rfl, .ref a2, rfl, _, rfl, _, rfl, _, _, rfl, rfl, sz60 (by simp), fun w' nw => ?_⟩
        have s5 := same_upd (o := .tup [V.ref a2, V.int (R[j].2 + b)]) nw
        exact hRr _ _ s5 (.tup (.inl (.inl upd_same)) (.cons (dp_dSt (Same.tup (s2.trans s5) ha2)) (.cons (.int _) .nil)))
      intro G2 acc s2 ha2 hA2
      refine ⟨D2, acc, rfl, .inl ⟨.inl (.inl ha2), fun w1 nw1 => ⟨sz60 (by simp), fun z1 nz1 => ?_⟩⟩⟩
      have s6 := same_upd (o := .tup acc) nw1
      dsimp only [tNil]
      refine step bG pG fG (by omega) (s2.trans s6) nz1 (.tup (.inl (.inl upd_same)) (DpAll.same s6 hA2)) (by rw [List.length_map]; omega) fun G3 bG3 pG3 fG3 k3 => ?_
      -- the second table
      obtain ⟨zs3, Lz3, hFz3, _⟩ := id fG3
      refine ⟨.ref F, rfl, .inl ⟨rfl, _, .inl (.inl hFz3)⟩, ?_⟩
      refine ⟨_, rfl, _, rfl, _, _, rfl, rfl, .ref t, rfl, t, rfl, ⟨_, kt bG3⟩, fun D3 nD3 => ?_⟩
      refine lc_all (K := K) walk_tup ((R.map fun r => ((r.1, r.2 + b * (if PyData.eqv (dSt r.1) (dSt st) = true then 1 else 0)) : Rw)).map dRw) (by rw [List.length_map, List.length_map, hxl]) (fun d hd => by obtain ⟨r, _, rfl⟩ := List.mem_map.mp hd; exact tf_dRw r) (by omega) nD3 (fun H' s' => Same.tup s' (kt bG3)) ?_ ?_ mono_pair (fun σ' H' Q Q' h => h _ _)
      · rintro j x G4 G4' hj s4 ⟨rfl, hx'⟩ d hd Rr hRr
        have hj' : j < R.length := by omega
        have hg := List.getElem?_eq_getElem hj'
        obtain ⟨v, hv, hdv⟩ := DpAll.get (kx bG3) (i := j) (d := dRw R[j]) (by rw [List.getElem?_map, hg]; rfl)
        rw [hv] at hx'
        cases hx'
        rw [List.getElem?_map, List.getElem?_map, hg] at hd
        cases hd
        obtain ⟨t2, a2, rfl, ht2, ha2⟩ := dRw_inv hdv
        have ha4 := Same.tup s4 ha2
        refine ⟨t2, _, rfl, Same.tup s4 ht2, rfl, _, _, rfl, _, _, rfl, rfl, rfl, rfl, .ref a2, rfl, _, rfl, _, rfl, .ref a2, rfl, .ref a, rfl, dSt R[j].1, dSt st, dp_dSt ha4, dp_dSt (Same.tup s4 (ka bG3)), (Sh.tup (k := 0) (Sh.ints _)).shaped (by decide), (Sh.tup (k := 0) (Sh.ints _)).shaped (by decide), .inr ⟨_, rfl, _, _, rfl, rfl, wide_mul (a := 4) (b := 2) (by omega) (bit01 _).1 (by decide) (by decide) (by decide), _, _, rfl, rfl, sz60 (by simp), fun w' nw => ?_⟩⟩
        have s5 := same_upd (o := .tup [V.ref a2, V.int (R[j].2 + b * (if PyData.eqv (dSt R[j].1) (dSt st) = true then 1 else 0))]) nw
        exact hRr _ _ s5 (.tup (.inl (.inl upd_same)) (.cons (dp_dSt (Same.tup s5 ha4)) (.cons (.int _) .nil)))
      intro G4 acc3 s4 ha4 hA4
      refine ⟨D3, acc3, rfl, .inl ⟨.inl (.inl ha4), fun w1 nw1 => ⟨sz60 (by simp), fun z1 nz1 => ?_⟩⟩⟩
      have s7 := same_upd (o := .tup acc3) nw1
      dsimp only [tNil]
      refine step bG3 pG3 fG3 (by omega) (s4.trans s7) nz1 (.tup (.inl (.inl upd_same)) (DpAll.same s7 hA4)) (by rw [List.length_map]; omega) fun G5 bG5 pG5 fG5 k5 => ?_
      -- raised along the best merges
      obtain ⟨zs5, Lz5, hFz5, _⟩ := id fG5
      refine ⟨.ref F, rfl, .inl ⟨rfl, _, .inl (.inl hFz5)⟩, ?_⟩
      refine ⟨_, rfl, _, rfl, _, _, rfl, rfl, .ref t, rfl, .ref a, rfl, _, rfl, _, rfl, _, rfl, .ref t, a, R, st, k, c, b, rfl, kd bG5, ka bG5, nd, hU, hst, hk, hc, by omega, fun G6 w6 R6 s8 h6 hl6 => ⟨sz60 (by simp), fun z1 nz1 => ?_⟩⟩
      dsimp only [tNil]
      refine step bG5 pG5 fG5 (by omega) s8 nz1 h6 hl6 fun G7 bG7 pG7 fG7 k7 => ?_
      exact ⟨_, rfl, bG7, pG7, fG7, k7 _ _ (k5 _ _ (k3 _ _ hG3))⟩
    · rintro σ G ⟨y7, rfl, bG, pG, fG, hG3⟩
      obtain ⟨zs, Lz, hFz, _⟩ := id fG
      refine ⟨.ref F, rfl, .inl ⟨rfl, _, .inl (.inl hFz)⟩, ?_⟩
      refine ⟨.ref t, rfl, t, rfl, ⟨_, kt bG⟩, fun D2 nD2 => ?_⟩
      refine lc_sel (K := K) (n := xs.length) walk_tup (fun i => PyData.eqv (.int (R.getD i ([], 0)).2) (.int 0) || PyData.eqv (dSt (R.getD i ([], 0)).1) (dSt st)) (fun i => dRw (R.getD i ([], 0))) (fun i _ => tf_dRw _) (by omega) nD2 (fun H' s' => Same.tup s' (kt bG)) ?_ ?_ (fun x σ' H' Q Q' h => h _ _) (fun σ' H' Q Q' h e => by
        obtain ⟨v, e1, p1, ys, i, w1, f1, f2, f3, f4, d, e', g1, g2, g3, g4, b, h1, h2⟩ := e
        refine ⟨v, e1, p1, ys, i, w1, f1, f2, f3, f4, d, e', g1, g2, g3, g4, b, h1, ?_⟩
        cases b with
        | true => exact h _ _ h2
        | false =>
          obtain ⟨v, e1, p1, ys, i, w1, f1, f2, f3, f4, x2, e2, d, e', g1, g2, g3, g4, b, h1, h2⟩ := h2
          exact ⟨v, e1, p1, ys, i, w1, f1, f2, f3, f4, x2, e2, d, e', g1, g2, g3, g4, b, h1, h _ _ h2⟩)
      · rintro j x G2 G2' hj s2 ⟨rfl, hx'⟩ Rr hRr
        have hj' : j < R.length := by omega
        have hg := List.getElem?_eq_getElem hj'
        have eD : R.getD j ([], 0) = R[j] := by rw [List.getD_eq_getElem?_getD, hg]; rfl
        obtain ⟨v, hv, hdv⟩ := DpAll.get (kx bG) (i := j) (d := dRw R[j]) (by rw [List.getElem?_map, hg]; rfl)
        rw [hv] at hx'
        cases hx'
        have hdv2 := Dp.same s2 hdv
        obtain ⟨t2, a2, rfl, ht2, ha2⟩ := dRw_inv hdv2
        rw [eD] at hRr ⊢
        refine ⟨rfl, .ref t2, rfl, t2, _, _, _, rfl, rfl, ht2, rfl, .int R[j].2, .int 0, .int _, .int _, (Sh.ints (k := 0) [_] _ (.head _)).shaped (by decide), (Sh.ints (k := 0) [_] _ (.head _)).shaped (by decide), _, rfl, ?_⟩
        cases e : PyData.eqv (.int R[j].2) (.int 0) with
        | true => exact iteT ⟨rfl, Same.refl _, fun _ => ⟨.ref t2, rfl, hRr _ _ (Same.refl _) hdv2⟩⟩
        | false => exact iteF ⟨.ref t2, rfl, t2, _, _, _, rfl, rfl, ht2, rfl, .ref a, rfl, dSt R[j].1, dSt st, dp_dSt ha2, dp_dSt (Same.tup s2 (ka bG)), (Sh.tup (k := 0) (Sh.ints _)).shaped (by decide), (Sh.tup (k := 0) (Sh.ints _)).shaped (by decide), _, rfl, rfl, Same.refl _, fun _ => ⟨.ref t2, rfl, hRr _ _ (Same.refl _) hdv2⟩⟩
      intro G2 acc s2 ha2 hA2
      refine ⟨D2, acc, rfl, .inl ⟨.inl (.inl ha2), fun w1 nw1 => ⟨sz60 (by simp), fun z1 nz1 => ?_⟩⟩⟩
      have s6 := same_upd (o := .tup acc) nw1
      generalize hsel : ((List.range xs.length).filter fun i => PyData.eqv (.int (R.getD i ([], 0)).2) (.int 0) || PyData.eqv (dSt (R.getD i ([], 0)).1) (dSt st)) = sel at hA2
      have hsl : sel.length ≤ R.length := by
        rw [← hsel, ← hxl]
        have := List.length_filter_le (fun i => PyData.eqv (.int (R.getD i ([], 0)).2) (.int 0) || PyData.eqv (dSt (R.getD i ([], 0)).1) (dSt st)) (List.range xs.length)
        rwa [List.length_range] at this
      have hA2' : DpAll K G2 acc ((sel.map fun i => R.getD i ([], 0)).map dRw) := by rw [List.map_map]; exact hA2
      dsimp only [tNil]
      refine step bG pG fG (by simp) (s2.trans s6) nz1 (.tup (.inl (.inl upd_same)) (DpAll.same s6 hA2')) (by rw [List.length_map]; omega) fun G3 bG3 pG3 fG3 k3 => ?_
      -- one row more at the front
      obtain ⟨zs3, Lz3, hFz3, _⟩ := id fG3
      refine ⟨.ref F, rfl, .inl ⟨rfl, _, .inl (.inl hFz3)⟩, ?_⟩
      refine ⟨_, rfl, _, _, rfl, rfl, .ref a, rfl, _, rfl, _, _, rfl, rfl, sz60 (by simp), fun w3 nw3 => ⟨sz60 (by simp), fun w4 nw4 => ⟨.ref t, rfl, ?_⟩⟩⟩
      have s7 := same_upd (o := .tup [V.ref a, V.int (u + 1)]) nw3
      have s8 := same_upd (o := .tup [V.ref w3]) nw4
      have hw3 := s8 _ _ (upd_same (H := G3) (a := w3) (o := .tup [V.ref a, V.int (u + 1)]))
      refine cat_read (.inl (.inl upd_same)) (Same.tup (s7.trans s8) (kt bG3)) (by simp; omega) fun w5 G5 s9 h5 => ⟨sz60 (by simp), fun z2 nz2 => ?_⟩
      have s79 := s7.trans (s8.trans s9)
      have hrow : Dp K G5 (.ref w3) (dRw (st, u + 1)) := .tup (.inl (.inl (s9 _ _ hw3))) (.cons (dp_dSt (Same.tup s79 (ka bG3))) (.cons (.int _) .nil))
      dsimp only [tNil]
      refine step (R' := (st, u + 1) :: R) bG3 pG3 fG3 (by simp) s79 nz2 (.tup h5 (.cons hrow (DpAll.same s79 (kx bG3)))) (by rw [List.length_cons]; omega) fun G6 bG6 pG6 fG6 k6 => ?_
      -- the last two
      have hR1 : 1 ≤ R.length := by
        obtain ⟨y, hy, _⟩ := List.mem_map.mp hst
        exact List.length_pos_of_mem hy
      refine ⟨.ref p, rfl, .ref t, rfl, t, _, rfl, .inr (kt bG6), p, _, _, rfl, pG6, by omega, by omega, by omega, fun G7 r7 b7 p7 q0 q1 => ?_⟩
      have bG7 := bG6.trans b7
      have fG7 := fG6.but pG6 b7 hFp
      obtain ⟨m7, rfl⟩ : ∃ m7 : Nat, r7 = (m7 : Int) := ⟨r7.toNat, by omega⟩
      refine ⟨.ref F, rfl, ?_⟩
      refine ⟨_, rfl, _, _, rfl, rfl, .ref t, rfl, sz60 (by simp), fun v1 nv1 => ?_⟩
      have u1 := same_upd (o := .tup [V.int (u + 1), V.ref t]) nv1
      refine ⟨_, rfl, .ref t, rfl, _, rfl, _, rfl, ?_⟩
      refine sl_read (Same.tup u1 (kt bG7)) fun c1 G8 s10 h8 => ?_
      rw [cut_to (by omega)] at h8
      refine ⟨.ref t, rfl, _, rfl, _, _, rfl, rfl, _, rfl, ?_⟩
      dsimp only [tNoPart]
      refine sl_read (Same.tup (u1.trans s10) (kt bG7)) fun c2 G9 s11 h9 => ?_
      rw [show ((m7 : Int) + 1) = ((m7 + 1 : Nat) : Int) by omega, cut_from (by omega)] at h9
      refine cat_read (Same.tup s11 h8) h9 (by rw [List.length_take, List.length_drop]; omega) fun c3 G10 s12' h10 => ?_
      dsimp only [tNil]
      refine ⟨sz60 (by simp), fun v2 nv2 => ⟨sz60 (by simp), fun l2 nl2 => ?_⟩⟩
      have u2 := same_upd (o := .tup [V.int u, V.ref c3]) nv2
      have u3 := same_upd (o := .lst [V.ref v1, V.ref v2]) nl2
      obtain ⟨zs7, L7, g1, g2, g3, g4⟩ := fG7
      have sA := u1.trans (s10.trans (s11.trans (s12'.trans (u2.trans u3))))
      have zl := DpAll.len g2
      rw [List.length_map] at zl
      have g4' : L7.length ≤ 20 := Nat.le_trans g4 (by simp)
      refine ⟨F, l2, zs7, _, rfl, rfl, sA _ _ g1, upd_same, sz60 (by simp; omega), fun lf nlf => ?_⟩
      have u4 := same_upd (o := .lst (zs7 ++ [V.ref v1, V.ref v2])) nlf
      have sB := sA.trans u4
      have nG7 : G7 lf = none := sA.free nlf
      have hxG7 := kx bG7
      have d1 : Dp K G7 (.ref t) (.tuple (R.map dRw)) := kd bG7
      have e1 : DpAll K G10 (xs.take m7 ++ xs.drop (m7 + 1)) ((R.take m7 ++ R.drop (m7 + 1)).map dRw) := by
        have hx10 := DpAll.same (u1.trans (s10.trans (s11.trans s12'))) hxG7
        rw [List.map_append, List.map_take, List.map_drop]
        refine DpAll.append (DpAll.take m7 hx10) ?_
        have : ∀ (m : Nat) {ys : List V} {ds : List PyData}, DpAll K G10 ys ds → DpAll K G10 (ys.drop m) (ds.drop m) := by
          intro m
          induction m with
          | zero => intro ys ds h; exact h
          | succ m ih =>
            intro ys ds h
            cases h with
            | nil => exact .nil
            | cons a b => exact ih b
        exact this (m7 + 1) hx10
      refine q _ lf (bG7.trans (But.of sB)) ((p7.same sB).mono (by omega)) (But.free bG7 nG7 (p7.ne nG7)) ⟨_, L7 ++ [(u + 1, R), (u, R.take m7 ++ R.drop (m7 + 1))], upd_same, ?_, fun y hy => ?_, by rw [List.length_append]; simp; omega⟩
      · rw [List.map_append]
        refine DpAll.append (DpAll.same sB g2) (.cons (.tup (.inl (.inl (u4 _ _ (u3 _ _ (u2 _ _ (s12' _ _ (s11 _ _ (s10 _ _ upd_same)))))))) (.cons (.int _) (.cons (Dp.same sB d1) .nil))) (.cons (.tup (.inl (.inl (u4 _ _ (u3 _ _ upd_same)))) (.cons (.int _) (.cons (Dp.same (u2.trans (u3.trans u4)) (.tup h10 e1)) .nil))) .nil))
      · rcases List.mem_append.mp hy with hy | hy
        · exact g3 y hy
        · rcases List.mem_cons.mp hy with hy | hy
          · rw [hy]; show R.length ≤ 900; omega
          · rw [List.mem_singleton.mp hy]
            show (R.take m7 ++ R.drop (m7 + 1)).length ≤ 900
            rw [List.length_append, List.length_take, List.length_drop]; omega
end
section
variable {P : Program} {w : World} {K : PySem.W.Frag} {mg : Str → Option Value} {base : Heap}
theorem cutV_mem {xs : List V} {lo hi : Option Int} {v : V} (h : v ∈ cutV xs lo hi) : v ∈ xs := by
  unfold cutV at h
  exact List.mem_of_mem_drop (List.mem_of_mem_take h)
theorem dpAll_mem {H : Hp} : ∀ {vs : List V} {ds : List PyData} {v : V}, DpAll K H vs ds → v ∈ vs → ∃ d, d ∈ ds ∧ Dp K H v d
  | _, _, _, .nil, h => by cases h
  | _, _, v, .cons a b, h => by
    rcases List.mem_cons.mp h with e | e
    · rw [e]; exact ⟨_, .head _, a⟩
    · obtain ⟨d, h1, h2⟩ := dpAll_mem b e
      exact ⟨d, .tail _ h1, h2⟩
theorem remv_sm {k c : Nat} {st : List Nat} (h : Sta k c st) (hf : Few k c) : 0 ≤ remv k c st ∧ remv k c st < 75 := by
  have h1 := remv_brd h
  have h2 := brd_le h
  have h3 := hf.2.2.2
  omega
theorem dPt_inv {H : Hp} {v : V} {x : Pt} (h : Dp K H v (dPt x)) : ∃ (t : Addr) (y : V), v = .ref t ∧ SqT K H t [.int x.1, y] ∧ Dp K H y (.tuple (x.2.map dRw)) := by
  obtain ⟨t, xs, rfl, h1, h2⟩ := Dp.tupInv h
  cases h2 with
  | cons a b =>
    cases a
    cases b with
    | cons b z =>
      cases z
      exact ⟨t, _, rfl, h1, b⟩
theorem rows_keys (k c : Nat) (ss : List (List Nat)) : (rowsR k c ss).map (·.1) = ss := by
  unfold rowsR
  rw [List.map_map]
  conv => rhs; rw [← List.map_id ss]
  rfl
theorem rch_ups {k c : Nat} {st : List Nat} {ss : List (List Nat)} (h : Rch k c st ss) : Ups k c ss := fun s hs => ⟨h.sta hs, fun m hB => by
  obtain ⟨g1, g2⟩ := hB.good (h.sta hs)
  refine h.mem.2.1 s hs _ (List.mem_map.mpr ⟨m, ?_, rfl⟩)
  unfold nxt
  exact List.mem_filter.mpr ⟨List.mem_range.mpr (Nat.lt_succ_of_le hB.2.1), isSta_iff.mpr g1⟩⟩
def sp_L_s5_right (K : PySem.W.Frag) : Sp := fun vs H Q _ => ∃ (p a : Addr) (st : List Nat) (k c : Nat) (n : Int), vs = [.ref p, .ref a, .int (k : Int), .int (c : Int)] ∧ Pot H p n ∧ n ≤ 90000 ∧ SqT K H a (vi st) ∧ k ≤ 4 ∧ c ≤ 4 ∧ Few k c ∧ Sta k c st ∧ ∀ H', But p H H' → Pot H' p (n + 2) → Q (.bl true) H'
theorem ok_L_s5_right (TX : Tx K mg) : FnG P w K mg base CX0 10 TX.a_L_s5_right TX.fd_L_s5_right ["_law_hand", "_law_levels", "_law_room", "_law_wear"] (sp_L_s5_right K) := by
  refine Fun.okG TX.f_L_s5_right sc_L_s5_right (fun vs H Q E h => ?_) (fun cdv A hgd outer s H vs Q E hr h => ?_)
  · obtain ⟨p, a, st, k, c, n, rfl, _⟩ := h; rfl
  · obtain ⟨p, a, st, k, c, n, rfl, hp, hn, hS, hk, hc, hF, hst, q⟩ := h
    refine ⟨_, (pss_cons (ps_set (i := 4) sc_L_s5_right.nd rfl (.inl rfl) (pe_call (ok_potentials TX) (hr.mono (by decide)) (by rfl) TX.g_potentials TX.f_potentials.kp TX.bd_potentials .nil pass0 (pa_cons (pv 1) (pa_cons (pv 2) (pa_cons (pv 3) pa_nil)))))
      (pss_cons (ps_if (pt_cmpR op_notBl (pe_call (ok_shows_remaining TX) (hr.mono (by decide)) (by rfl) TX.g_shows_remaining TX.f_shows_remaining.kp TX.bd_shows_remaining .nil pass0 (pa_cons (pv 1) (pa_cons (pv 2) (pa_cons (pv 3) (pa_cons (pe_call (ok_remaining TX) (hr.mono (by decide)) (by rfl) TX.g_remaining TX.f_remaining.kp TX.bd_remaining .nil pass0 (pa_cons (pv 1) (pa_cons (pv 2) (pa_cons (pv 3) pa_nil)))) (pa_cons (pv 4) pa_nil)))))) pe_bl (nomark _))
        (pss_one (ps_ret pe_bl))
        pss_nil)
      (pss_cons (ps_for PassesOwn.never rfl (k_piT (K := K) rfl (pe_op (k_catT (K := K) rfl) (pe_slice (k_slT (K := K) rfl) (pv 4) po_none (po_some pe_int)) (pe_slice (k_slT (K := K) rfl) (pv 4) (po_some (pe_un un_neg pe_int)) po_none))) (pg_tup rfl (pgs_cons (pg_name (i := 5) sc_L_s5_right.nd rfl (.inl rfl)) (pgs_cons (pg_name (i := 6) sc_L_s5_right.nd rfl (.inl rfl)) pgs_nil)))
        (pss_cons (ps_if (pt_cmpR op_ne (pe_callB (id := "repr") (k_reprD (K := K) rfl hgd hr.units) (by rfl) TX.b_repr (by decide +kernel) (pa_cons (pv 6) pa_nil)) (pe_callB (id := "repr") (k_reprD (K := K) rfl hgd hr.units) (by rfl) TX.b_repr (by decide +kernel) (pa_cons (pe_call (ok_remaining TX) (hr.mono (by decide)) (by rfl) TX.g_remaining TX.f_remaining.kp TX.bd_remaining .nil pass0 (pa_cons (pv 5) (pa_cons (pv 2) (pa_cons (pv 3) pa_nil)))) pa_nil)) (nomark _))
          (pss_one (ps_ret pe_bl))
          pss_nil)
        (pss_one (ps_if (pt_cmpR op_notBl (pe_call (ok_shows_remaining TX) (hr.mono (by decide)) (by rfl) TX.g_shows_remaining TX.f_shows_remaining.kp TX.bd_shows_remaining .nil pass0 (pa_cons (pv 5) (pa_cons (pv 2) (pa_cons (pv 3) (pa_cons (pv 6) (pa_cons (pv 4) pa_nil)))))) pe_bl (nomark _))
          (pss_one (ps_ret pe_bl))
          pss_nil))))
      (pss_cons (ps_for PassesOwn.never rfl (k_piL (K := K) rfl (pe_call (ok_L_s5_false_tables TX) (hr.mono (by decide)) (by rfl) TX.g_L_s5_false_tables TX.f_L_s5_false_tables.kp TX.bd_L_s5_false_tables .nil pass0 (pa_cons (pv 0) (pa_cons (pv 4) (pa_cons (pv 1) (pa_cons (pv 2) (pa_cons (pv 3) pa_nil))))))) (pg_tup rfl (pgs_cons (pg_name (i := 7) sc_L_s5_right.nd rfl (.inl rfl)) (pgs_cons (pg_name (i := 8) sc_L_s5_right.nd rfl (.inl rfl)) pgs_nil)))
        (pss_one (ps_if (PW.pt (pw_and (pt_cmpR op_notBl (pe_call (ok_shows_remaining TX) (hr.mono (by decide)) (by rfl) TX.g_shows_remaining TX.f_shows_remaining.kp TX.bd_shows_remaining .nil pass0 (pa_cons (pv 1) (pa_cons (pv 2) (pa_cons (pv 3) (pa_cons (pv 7) (pa_cons (pv 8) pa_nil)))))) pe_bl (nomark _)) (pw_and1 (pt_cmpR op_ne (pv 7) (pe_nget (K := K) (P := P) (w := w) rfl rfl rfl (hu_of hr) (pe_callTy (T := "dict") (call_dictT (K := K) (P := P) (w := w) rfl rfl rfl rfl (u2_of hr)) (by rfl) TX.b_dict (by decide +kernel) (pa_cons (pe_callTy (T := "list") (k_listOf (K := K) rfl) (by rfl) TX.b_list (by decide +kernel) (pa_cons (pv 4) pa_nil)) pa_nil)) (pv 1) (fun _ _ => rfl)) (nomark _)))))
          (pss_one (ps_ret pe_bl))
          pss_nil)))
      (pss_one (ps_ret pe_bl)))))), ?_⟩
    refine ⟨.ref a, rfl, _, rfl, _, rfl, a, st, k, c, rfl, hS, hk, hc, hF.2.2.1, hst, fun H1 t ss s1 hT hR => ?_⟩
    have eT : dTab k c ss = .tuple ((rowsR k c ss).map dRw) := by unfold dTab rowsR; rw [List.map_map]; rfl
    rw [eT] at hT
    obtain ⟨m1, m2, m3⟩ := hR.mem
    have hlen : (rowsR k c ss).length ≤ 400 := by
      unfold rowsR
      rw [List.length_map]
      have h1 := hR.len
      have h2 := hF.2.2.1
      omega
    refine ⟨.ref a, rfl, _, rfl, _, rfl, .ref a, rfl, _, rfl, _, rfl, a, st, k, c, rfl, Same.tup s1 hS, by omega, by omega, hst, fun H2 s2 => ?_⟩
    refine ⟨.ref t, rfl, a, .ref t, st, rowsR k c ss, remv k c st, k, c, rfl, Same.tup (s1.trans s2) hS, Dp.same s2 hT, hk, hc, by omega, hst, fun H3 s3 => ?_⟩
    rw [cert_full hR m1]
    refine ⟨true, true, rfl, rfl, false, rfl, iteF ?_⟩
    have s13 := s1.trans (s2.trans s3)
    have hT3 := Dp.same (s2.trans s3) hT
    obtain ⟨t', xs, et, ht, hx⟩ := Dp.tupInv hT3
    cases et
    have hxl : xs.length = (rowsR k c ss).length := by rw [DpAll.len hx, List.length_map]
    -- the first and the last rows
    refine ⟨.ref t, rfl, _, rfl, ?_⟩
    refine sl_read ht fun c1 H4 s4 h4 => ?_
    refine ⟨.ref t, rfl, _, rfl, _, rfl, ?_⟩
    unfold tNoPart
    refine sl_read (Same.tup s4 ht) fun c2 H5 s5 h5 => ?_
    refine cat_read (Same.tup s5 h4) h5 (by
      have h1 := cutV_length xs none (some 6)
      have h2 := cutV_length xs (some (-6)) none
      omega) fun c3 H6 s6 h6 => ?_
    have s16 := s13.trans (s4.trans (s5.trans s6))
    have s36 := s4.trans (s5.trans s6)
    refine ⟨c3, rfl, ⟨_, h6⟩, ?_⟩
    refine for_tup (K := K) (a := c3) (xs := cutV xs none (some 6) ++ cutV xs (some (-6)) none) (fun i σ G => ∃ y5 y6 : Option V, σ = [some (.ref p), some (.ref a), some (.int (k : Int)), some (.int (c : Int)), some (.ref t), y5, y6, none, none] ∧ Same H6 G) ⟨none, none, rfl, Same.refl _⟩ (fun i σ G _ h => by obtain ⟨_, _, _, h⟩ := h; exact Same.tup h h6) ?_ ?_
    · rintro i x σ G hxi ⟨y5, y6, rfl, sG⟩
      have hmem : x ∈ xs := by
        rcases List.mem_append.mp (List.mem_of_getElem? hxi) with h | h
        · exact cutV_mem h
        · exact cutV_mem h
      obtain ⟨d, hd, hxd⟩ := dpAll_mem hx hmem
      obtain ⟨r, hr', rfl⟩ := List.mem_map.mp hd
      obtain ⟨s', hs', rfl⟩ := List.mem_map.mp hr'
      have s3G := s36.trans sG
      obtain ⟨t2, a2, rfl, ht2, ha2⟩ := dRw_inv (Dp.same s3G hxd)
      have hsta := hR.sta hs'
      have hsm := remv_sm hsta hF
      obtain ⟨w1, w2, w3, w4⟩ := (RpW.int (k := 0) (i := remv k c s') (Nat.lt_of_le_of_lt (show (remv k c s').natAbs ≤ 100 by omega) (by decide +kernel))).all (by decide) (by decide)
      refine ⟨t2, _, rfl, ht2, rfl, _, _, rfl, _, _, rfl, rfl, ?_⟩
      refine ⟨_, rfl, _, .int (remv k c s'), rfl, .int _, w1, w2, w3, w4, ?_⟩
      refine ⟨.ref a2, rfl, _, rfl, _, rfl, a2, s', k, c, rfl, ha2, by omega, by omega, hsta, fun G1 s7 => ⟨_, .int (remv k c s'), rfl, .int _, w1, w2, w3, w4, ?_⟩⟩
      refine ⟨rfl, false, nblF rfl, iteF ?_⟩
      refine ⟨.ref a2, rfl, _, rfl, _, rfl, _, rfl, .ref t, rfl, a2, .ref t, s', rowsR k c ss, remv k c s', k, c, rfl, Same.tup s7 ha2, Dp.same (s3G.trans s7) hT3, hk, hc, by omega, hsta, fun G2 s8 => ?_⟩
      rw [cert_full hR hs']
      exact ⟨true, true, rfl, rfl, false, rfl, iteF ⟨_, _, rfl, sG.trans (s7.trans s8)⟩⟩
    · rintro σ G ⟨y5, y6, rfl, sG⟩
      have s1G := s16.trans sG
      have s3G := s36.trans sG
      have ks := rows_keys k c ss
      have ht1 := Same.tup s3G ht
      have hx1 := DpAll.same s3G hx
      refine ⟨.ref p, rfl, .ref t, rfl, .ref a, rfl, _, rfl, _, rfl, p, .ref t, a, rowsR k c ss, st, k, c, n, rfl, hp.same s1G, by omega, Dp.same s3G hT3, Same.tup s1G hS, by rw [ks]; exact m3, by rw [ks]; exact rch_ups hR, by rw [ks]; exact m1, by omega, by omega, by omega, fun G7 l b7 p7 nl7 fd7 => ?_⟩
      obtain ⟨zs, L, g1, g2, g3, g4⟩ := fd7
      have zl : zs.length = L.length := by rw [DpAll.len g2, List.length_map]
      have kp7 := (hp.same s1G).keep (K := K) b7
      have hS7 : SqT K G7 a (vi st) := kp7 _ _ (Same.tup s1G hS)
      have ht7 : SqT K G7 t xs := kp7 _ _ ht1
      have hx7 : DpAll K G7 xs ((rowsR k c ss).map dRw) := DpAll.keep kp7 (fun d hd => by obtain ⟨r, _, rfl⟩ := List.mem_map.mp hd; exact tf_dRw r) hx1
      refine ⟨l, rfl, ⟨_, .inl (.inl g1)⟩, for_list (K := K) (xs := zs) (fun i σ G8 => ∃ y5 y6 y7 y8 : Option V, σ = [some (.ref p), some (.ref a), some (.int (k : Int)), some (.int (c : Int)), some (.ref t), y5, y6, y7, y8] ∧ Same G7 G8) ⟨_, _, none, none, rfl, Same.refl _⟩ (fun i σ G _ h => by obtain ⟨_, _, _, _, _, h⟩ := h; exact .inl (.inl (h _ _ g1))) ?_ ?_⟩
      · rintro i x σ G8 hxi ⟨z5, z6, z7, z8, rfl, sG8⟩
        have hil : i < L.length := by have := (List.getElem?_eq_some_iff.mp hxi).1; omega
        have hg := List.getElem?_eq_getElem hil
        obtain ⟨v, hv, hdv⟩ := DpAll.get g2 (i := i) (d := dPt L[i]) (by rw [List.getElem?_map, hg]; rfl)
        rw [hv] at hxi
        cases hxi
        obtain ⟨t2, y, rfl, h1, h2⟩ := dPt_inv (Dp.same sG8 hdv)
        have hS8 := Same.tup sG8 hS7
        refine ⟨t2, _, rfl, h1, rfl, _, _, rfl, _, _, rfl, rfl, ?_⟩
        refine ⟨.ref a, rfl, _, rfl, _, rfl, _, rfl, y, rfl, a, y, st, L[i].2, L[i].1, k, c, rfl, hS8, h2, hk, hc, g3 _ (List.getElem_mem hil), hst, fun G9 s9 => ?_⟩
        cases hcert : certB k c st L[i].1 L[i].2 with
        | false => exact ⟨false, false, rfl, rfl, false, rfl, iteF (iteF ⟨_, _, _, _, rfl, sG8.trans s9⟩)⟩
        | true =>
          have hclaim := cert_sound hcert
          have s79 := sG8.trans s9
          refine ⟨true, false, rfl, rfl, true, rfl, iteT ?_⟩
          refine ⟨_, rfl, .ref t, rfl, t, xs, rfl, .inr (Same.tup s79 ht7), fun l2 nl2 => ?_⟩
          have s10 := same_upd (o := .lst xs) nl2
          dsimp only [tNil, tCons]
          refine dict_rows (P := P) (w := w) (R := rowsR k c ss) (.inl (.inl upd_same)) (DpAll.same (s79.trans s10) hx7) fun D G10 nD sD gD => ?_
          have nd' : ((rowsR k c ss).map fun r => ci r.1).Nodup := by
            unfold rowsR
            rw [List.map_map, List.Nodup, List.pairwise_map]
            exact m3.imp fun h e => h (ci_inj e)
          have hval := lk_val (lk_at nd' (r := (st, remv k c st)) (List.mem_map.mpr ⟨st, m1, rfl⟩))
          refine ⟨.ref a, rfl, D, a, _, ci st, .int (remv k c st), rfl, rfl, gD, sq_ci (Same.tup (s79.trans (s10.trans sD)) hS7), hval, rfl, false, nblF (by rw [hclaim]), iteF ?_⟩
          exact ⟨_, _, _, _, rfl, s79.trans (s10.trans sD)⟩
      · rintro σ G8 ⟨z5, z6, z7, z8, rfl, sG8⟩
        exact q G8 ((But.of s1G).trans (b7.trans (But.of sG8))) (p7.same sG8)
end
section
variable {P : Program} {w : World} {K : PySem.W.Frag} {mg : Str → Option Value} {base : Heap}
def sp_law (K : PySem.W.Frag) : Sp := fun vs H Q _ => ∃ (a : Addr) (ns : List Int), vs = [.ref a] ∧ SqL K H a (ns.map V.int) ∧ ns.length ≤ 63 ∧ ∀ H', Q (.bl true) H'
theorem nth2 {n : Nat} (x : List V) (h : x.length = n) (i : Nat) (hi : i < (if (if (x.length : Int) < 2 then (x.length : Int) else 2) > 1 then (if (x.length : Int) < 2 then (x.length : Int) else 2) else 1 : Int).toNat) : i ≤ 62 := by
  have : (if (if (x.length : Int) < 2 then (x.length : Int) else 2) > 1 then (if (x.length : Int) < 2 then (x.length : Int) else 2) else 1) ≤ 3 := by split <;> split <;> omega
  omega
theorem ok_law (TX : Tx K mg) : FnG P w K mg base CX0 11 TX.a_law TX.fd_law ["_law_script"] (sp_law K) := by
  refine Fun.okG TX.f_law sc_law (fun vs H Q E h => ?_) (fun cdv A hgd outer s H vs Q E hr h => ?_)
  · obtain ⟨a, ns, rfl, _⟩ := h; rfl
  · obtain ⟨a, ns, rfl, hS, hlen, q⟩ := h
    refine ⟨_, (pss_cons (ps_for PassesOwn.never rfl (pi_range1 (by rfl) TX.b_range (pa_cons (pe_callB (id := "max") (call_max2 rfl) (by rfl) TX.b_max (by decide +kernel) (pa_cons pe_int (pa_cons (pe_callB (id := "min") (call_min2 rfl) (by rfl) TX.b_min (by decide +kernel) (pa_cons pe_int (pa_cons (pe_callB (id := "len") (k_len (K := K) rfl) (by rfl) TX.b_len (by decide +kernel) (pa_cons (pv 0) pa_nil)) pa_nil))) pa_nil))) pa_nil)) (pg_name (i := 1) sc_law.nd rfl (.inl rfl))
        (pss_cons (ps_set (i := 2) sc_law.nd rfl (.inl rfl) (pe_call (ok_L_s5_hand TX) (hr.mono (by decide)) (by rfl) TX.g_L_s5_hand TX.f_L_s5_hand.kp TX.bd_L_s5_hand .nil pass0 (pa_cons (pv 0) (pa_cons (pv 1) pa_nil))))
        (pss_one (ps_for PassesOwn.never rfl (pi_range1 (by rfl) TX.b_range (pa_cons pe_int pa_nil)) (pg_name (i := 3) sc_law.nd rfl (.inl rfl))
          (pss_cons (ps_asg (pe_call (ok_L_s5_of TX) (hr.mono (by decide)) (by rfl) TX.g_L_s5_of TX.f_L_s5_of.kp TX.bd_L_s5_of .nil pass0 (pa_cons (pv 2) (pa_cons (pe_lst (pa_cons (pe_tup (pa_cons pe_int (pa_cons pe_int pa_nil))) (pa_cons (pe_tup (pa_cons pe_int (pa_cons pe_int pa_nil))) (pa_cons (pe_tup (pa_cons pe_int (pa_cons pe_int pa_nil))) (pa_cons (pe_tup (pa_cons pe_int (pa_cons pe_int pa_nil))) (pa_cons (pe_tup (pa_cons pe_int (pa_cons pe_int pa_nil))) (pa_cons (pe_tup (pa_cons pe_int (pa_cons pe_int pa_nil))) (pa_cons (pe_tup (pa_cons pe_int (pa_cons pe_int pa_nil))) pa_nil)))))))) pa_nil))) (pg_tup rfl (pgs_cons (pg_name (i := 4) sc_law.nd rfl (.inl rfl)) (pgs_cons (pg_name (i := 5) sc_law.nd rfl (.inl rfl)) pgs_nil))))
          (pss_cons (ps_set (i := 6) sc_law.nd rfl (.inl rfl) (pe_call (ok_L_s5_of TX) (hr.mono (by decide)) (by rfl) TX.g_L_s5_of TX.f_L_s5_of.kp TX.bd_L_s5_of .nil pass0 (pa_cons (pv 2) (pa_cons (pe_lst (pa_cons (pe_tup pa_nil) (pa_cons (pe_call (ok_L_s5_drawn TX) (hr.mono (by decide)) (by rfl) TX.g_L_s5_drawn TX.f_L_s5_drawn.kp TX.bd_L_s5_drawn .nil pass0 (pa_cons (pv 2) (pa_cons (pv 4) (pa_cons (pv 5) (pa_cons pe_int pa_nil))))) (pa_cons (pe_call (ok_L_s5_drawn TX) (hr.mono (by decide)) (by rfl) TX.g_L_s5_drawn TX.f_L_s5_drawn.kp TX.bd_L_s5_drawn .nil pass0 (pa_cons (pv 2) (pa_cons (pv 4) (pa_cons (pv 5) (pa_cons pe_int pa_nil))))) pa_nil)))) pa_nil))))
          (pss_one (ps_if (pt_not (pt_val (pe_callG (ok_L_s5_right TX) hgd (hr.mono (by decide)) (by rfl) TX.g_L_s5_right TX.f_L_s5_right.kp TX.bd_L_s5_right .nil pass0 (pa_cons (pv 2) (pa_cons (pv 6) (pa_cons (pv 4) (pa_cons (pv 5) pa_nil)))))))
            (pss_one (ps_ret pe_bl))
            pss_nil))))))))
      (pss_one (ps_ret pe_bl))), ?_⟩
    refine ⟨.ref a, rfl, a, _, rfl, .inl hS, _, _, rfl, _, _, rfl, _, rfl, ?_, ?_, ?_⟩
    · split <;> split <;> omega
    · split <;> split <;> omega
    refine for_range (lo := 0) (fun i σ H2 => ∃ y1 y2 y3 y4 y5 y6, σ = [some (.ref a), y1, y2, y3, y4, y5, y6] ∧ Same H H2) ⟨_, _, _, _, _, _, rfl, Same.refl _⟩ ?_ (fun σ H' _ => q H')
    rintro i σ H1 hi ⟨y1, y2, y3, y4, y5, y6, rfl, s1⟩
    have hi2 : i ≤ 62 := nth2 _ rfl i hi
    have ei : (0 : Int) + (i : Nat) = (i : Int) := by omega
    rw [ei]
    refine ⟨.ref a, rfl, _, rfl, a, ns, i, rfl, s1.seq hS, hi2, fun H2 p s2 np pp => ?_⟩
    have s12 := s1.trans s2
    have npH : H p = none := s1.free np
    refine ⟨_, rfl, by decide, by decide, for_range (lo := 0) (n := (2 : Int).toNat) (fun j σ H3 => ∃ y3 y4 y5 y6, σ = [some (.ref a), some (.int (i : Int)), some (.ref p), y3, y4, y5, y6] ∧ Same H H3 ∧ Pot H3 p (500 * (j : Int))) ⟨_, _, _, _, rfl, s12, by simpa using pp⟩ ?_ ?_⟩
    rotate_left
    · rintro σ H3 ⟨y3, y4, y5, y6, rfl, s3, p3⟩
      exact ⟨_, _, _, _, _, _, rfl, s3⟩
    rintro j σ H3 hj ⟨y3, y4, y5, y6, rfl, s3, p3⟩
    have hj' : j < 2 := hj
    refine ⟨.ref p, rfl, sz60 (by simp), fun t1 n1 => ⟨sz60 (by simp), fun t2 n2 => ⟨sz60 (by simp), fun t3 n3 => ⟨sz60 (by simp), fun t4 n4 => ⟨sz60 (by simp), fun t5 n5 => ⟨sz60 (by simp), fun t6 n6 => ⟨sz60 (by simp), fun t7 n7 => ⟨sz60 (by simp), fun l nl => ?_⟩⟩⟩⟩⟩⟩⟩⟩
    have u1 := same_upd (o := .tup [V.int 4, V.int 4]) n1
    have u2 := same_upd (o := .tup [V.int 3, V.int 4]) n2
    have u3 := same_upd (o := .tup [V.int 4, V.int 3]) n3
    have u4 := same_upd (o := .tup [V.int 2, V.int 4]) n4
    have u5 := same_upd (o := .tup [V.int 4, V.int 1]) n5
    have u6 := same_upd (o := .tup [V.int 1, V.int 4]) n6
    have u7 := same_upd (o := .tup [V.int 3, V.int 3]) n7
    have u8 := same_upd (o := .lst [V.ref t1, V.ref t2, V.ref t3, V.ref t4, V.ref t5, V.ref t6, V.ref t7]) nl
    have v7 := u7.trans u8
    have v6 := u6.trans v7
    have v5 := u5.trans v6
    have v4 := u4.trans v5
    have v3 := u3.trans v4
    have v2 := u2.trans v3
    have v1 := u1.trans v2
    have w1 := v2 _ _ (upd_same (H := H3) (a := t1) (o := .tup [V.int 4, V.int 4]))
    have w2 := v3 _ _ (upd_same (a := t2) (o := .tup [V.int 3, V.int 4]))
    have w3 := v4 _ _ (upd_same (a := t3) (o := .tup [V.int 4, V.int 3]))
    have w4 := v5 _ _ (upd_same (a := t4) (o := .tup [V.int 2, V.int 4]))
    have w5 := v6 _ _ (upd_same (a := t5) (o := .tup [V.int 4, V.int 1]))
    have w6 := v7 _ _ (upd_same (a := t6) (o := .tup [V.int 1, V.int 4]))
    have w7 := u8 _ _ (upd_same (a := t7) (o := .tup [V.int 3, V.int 3]))
    have p4 := p3.same v1
    refine ⟨p, l, _, _, rfl, p4, by omega, .inl (.inl upd_same), fun e => ?_, by simp, by simp, fun H5 v b5 p5 hv => ?_⟩
    · obtain ⟨d0, s0, m0, hh, _⟩ := (p3.same (u1.trans (u2.trans (u3.trans (u4.trans (u5.trans (u6.trans u7)))))))
      rw [← e, nl] at hh
      cases hh
    have hv' : ∃ (t : Addr) (k c : Nat), v = .ref t ∧ SqT K H5 t [.int (k : Int), .int (c : Int)] ∧ k ≤ 4 ∧ c ≤ 4 := by
      have kp := p4.keep (K := K) b5
      simp only [List.mem_cons, List.not_mem_nil, or_false] at hv
      rcases hv with h | h | h | h | h | h | h
      · exact ⟨t1, 4, 4, h, kp _ _ (.inl (.inl w1)), by decide, by decide⟩
      · exact ⟨t2, 3, 4, h, kp _ _ (.inl (.inl w2)), by decide, by decide⟩
      · exact ⟨t3, 4, 3, h, kp _ _ (.inl (.inl w3)), by decide, by decide⟩
      · exact ⟨t4, 2, 4, h, kp _ _ (.inl (.inl w4)), by decide, by decide⟩
      · exact ⟨t5, 4, 1, h, kp _ _ (.inl (.inl w5)), by decide, by decide⟩
      · exact ⟨t6, 1, 4, h, kp _ _ (.inl (.inl w6)), by decide, by decide⟩
      · exact ⟨t7, 3, 3, h, kp _ _ (.inl (.inl w7)), by decide, by decide⟩
    have sF5 : Same H H5 := But.same s3 ((But.of v1).trans b5) npH
    clear w1 v1 w2 v2 w3 v3 w4 v4 w5 v5 w6 v6 w7 v7 u1 u2 u3 u4 u5 u6 u7 u8
    obtain ⟨t, k, c, rfl, ht, hk, hc⟩ := hv'
    have hf : Few k c := few_all k (by omega) c (by omega)
    refine ⟨t, _, rfl, ht, rfl, _, _, rfl, _, _, rfl, rfl, ?_⟩
    refine ⟨.ref p, rfl, sz60 (by simp), fun e0 ne0 => ?_⟩
    have z0 := same_upd (o := .tup []) ne0
    have p6 := p5.same z0
    have he0 := upd_same (H := H5) (a := e0) (o := .tup [])
    have e0p : e0 ≠ p := p5.ne ne0
    have sF6 := sF5.trans z0
    generalize upd H5 e0 (.tup []) = G0 at p6 he0 sF6
    refine ⟨.ref p, rfl, _, rfl, _, rfl, p, k, c, 2, _, rfl, p6, by omega, by omega, by omega, by omega, fun G1 l1 st1 b1 p7 hst1 hl1 hq1 => ?_⟩
    have he1 := b1 _ _ e0p he0
    have sF7 := But.same sF6 b1 npH
    refine ⟨.ref p, rfl, _, rfl, _, rfl, p, k, c, 4, _, rfl, p7, by omega, by omega, by omega, by omega, fun G2 l2 st2 b2 p8 hst2 hl2 hq2 => ⟨sz60 (by simp), fun lo nlo => ?_⟩⟩
    have he2 := b2 _ _ e0p he1
    have hq1' := p7.keep b2 _ _ hq1
    have sF8 := But.same sF7 b2 npH
    have zl := same_upd (o := .lst [V.ref e0, V.ref l1, V.ref l2]) nlo
    refine ⟨p, lo, [V.ref e0, V.ref l1, V.ref l2], _, rfl, p8.same zl, by omega, .inl (.inl upd_same), p8.ne nlo, by simp, by simp, fun G3 v b3 p9 hv => ?_⟩
    have k23 : Keep K G2 G3 := (Keep.of zl).trans ((p8.same zl).keep b3)
    have hst' : ∃ (q : Addr) (st' : List Nat), v = .ref q ∧ SqT K G3 q (vi st') ∧ Sta k c st' := by
      simp only [List.mem_cons, List.not_mem_nil, or_false] at hv
      rcases hv with rfl | rfl | rfl
      · exact ⟨e0, [], rfl, k23 _ _ (.inl (.inl he2)), ⟨by simp, by simp⟩⟩
      · exact ⟨l1, st1, rfl, k23 _ _ hq1', hst1⟩
      · exact ⟨l2, st2, rfl, k23 _ _ hq2, hst2⟩
    obtain ⟨qa, st', rfl, hq, hsta⟩ := hst'
    have sF9 := But.same (sF8.trans zl) b3 npH
    refine ⟨.ref p, rfl, .ref qa, rfl, _, rfl, _, rfl, p, qa, st', k, c, _, rfl, p9, by omega, hq, hk, hc, hf, hsta, fun G4 b4 p10 => ⟨true, rfl, iteF ?_⟩⟩
    exact ⟨_, _, _, _, rfl, But.same sF9 b4 npH, p10.mono (by omega)⟩
end
theorem all_mk {l : PySem.W.OpenLaw} {w : World} {K : PySem.W.Frag} {h : Heap} {mg : Str → Option Value} {fa : Addr} (X : K.In h) (G : h.Ns mainGlobals mg) (hfa : mg "law" = some (.ref fa))
    {f_is_int : Addr} {od_is_int an_is_int : Option Addr} {sl_is_int : Array (Option Value)} {oc_is_int kV_is_int dc_is_int pm_is_int cd_is_int ct_is_int : Value}
    (a_is_int : PySem.W.nsIn K mainGlobals "is_int" = some (some (.ref f_is_int))) (l_is_int : K.lookup f_is_int = some ⟨oc_is_int, od_is_int, .func (PySem.W.fnOf "is_int" "is_int" (defArgs s_is_int) (defBody s_is_int) (defScope s_is_int) .none kV_is_int dc_is_int pm_is_int an_is_int cd_is_int ct_is_int), sl_is_int⟩) (c_is_int : PySem.W.codeIn K cd_is_int "is_int" = true) (k_is_int : PySem.W.keepIn K (.ref f_is_int) = true)
    {f_is_count : Addr} {od_is_count an_is_count : Option Addr} {sl_is_count : Array (Option Value)} {oc_is_count kV_is_count dc_is_count pm_is_count cd_is_count ct_is_count : Value}
    (a_is_count : PySem.W.nsIn K mainGlobals "is_count" = some (some (.ref f_is_count))) (l_is_count : K.lookup f_is_count = some ⟨oc_is_count, od_is_count, .func (PySem.W.fnOf "is_count" "is_count" (defArgs s_is_count) (defBody s_is_count) (defScope s_is_count) .none kV_is_count dc_is_count pm_is_count an_is_count cd_is_count ct_is_count), sl_is_count⟩) (c_is_count : PySem.W.codeIn K cd_is_count "is_count" = true) (k_is_count : PySem.W.keepIn K (.ref f_is_count) = true)
    {f_is_count_up_to : Addr} {od_is_count_up_to an_is_count_up_to : Option Addr} {sl_is_count_up_to : Array (Option Value)} {oc_is_count_up_to kV_is_count_up_to dc_is_count_up_to pm_is_count_up_to cd_is_count_up_to ct_is_count_up_to : Value}
    (a_is_count_up_to : PySem.W.nsIn K mainGlobals "is_count_up_to" = some (some (.ref f_is_count_up_to))) (l_is_count_up_to : K.lookup f_is_count_up_to = some ⟨oc_is_count_up_to, od_is_count_up_to, .func (PySem.W.fnOf "is_count_up_to" "is_count_up_to" (defArgs s_is_count_up_to) (defBody s_is_count_up_to) (defScope s_is_count_up_to) .none kV_is_count_up_to dc_is_count_up_to pm_is_count_up_to an_is_count_up_to cd_is_count_up_to ct_is_count_up_to), sl_is_count_up_to⟩) (c_is_count_up_to : PySem.W.codeIn K cd_is_count_up_to "is_count_up_to" = true) (k_is_count_up_to : PySem.W.keepIn K (.ref f_is_count_up_to) = true)
    {f_check_budgets : Addr} {od_check_budgets an_check_budgets : Option Addr} {sl_check_budgets : Array (Option Value)} {oc_check_budgets kV_check_budgets dc_check_budgets pm_check_budgets cd_check_budgets ct_check_budgets : Value}
    (a_check_budgets : PySem.W.nsIn K mainGlobals "check_budgets" = some (some (.ref f_check_budgets))) (l_check_budgets : K.lookup f_check_budgets = some ⟨oc_check_budgets, od_check_budgets, .func (PySem.W.fnOf "check_budgets" "check_budgets" (defArgs s_check_budgets) (defBody s_check_budgets) (defScope s_check_budgets) .none kV_check_budgets dc_check_budgets pm_check_budgets an_check_budgets cd_check_budgets ct_check_budgets), sl_check_budgets⟩) (c_check_budgets : PySem.W.codeIn K cd_check_budgets "check_budgets" = true) (k_check_budgets : PySem.W.keepIn K (.ref f_check_budgets) = true)
    {f_is_state : Addr} {od_is_state an_is_state : Option Addr} {sl_is_state : Array (Option Value)} {oc_is_state kV_is_state dc_is_state pm_is_state cd_is_state ct_is_state : Value}
    (a_is_state : PySem.W.nsIn K mainGlobals "is_state" = some (some (.ref f_is_state))) (l_is_state : K.lookup f_is_state = some ⟨oc_is_state, od_is_state, .func (PySem.W.fnOf "is_state" "is_state" (defArgs s_is_state) (defBody s_is_state) (defScope s_is_state) .none kV_is_state dc_is_state pm_is_state an_is_state cd_is_state ct_is_state), sl_is_state⟩) (c_is_state : PySem.W.codeIn K cd_is_state "is_state" = true) (k_is_state : PySem.W.keepIn K (.ref f_is_state) = true)
    {f_check_state : Addr} {od_check_state an_check_state : Option Addr} {sl_check_state : Array (Option Value)} {oc_check_state kV_check_state dc_check_state pm_check_state cd_check_state ct_check_state : Value}
    (a_check_state : PySem.W.nsIn K mainGlobals "check_state" = some (some (.ref f_check_state))) (l_check_state : K.lookup f_check_state = some ⟨oc_check_state, od_check_state, .func (PySem.W.fnOf "check_state" "check_state" (defArgs s_check_state) (defBody s_check_state) (defScope s_check_state) .none kV_check_state dc_check_state pm_check_state an_check_state cd_check_state ct_check_state), sl_check_state⟩) (c_check_state : PySem.W.codeIn K cd_check_state "check_state" = true) (k_check_state : PySem.W.keepIn K (.ref f_check_state) = true)
    {f_state_after : Addr} {od_state_after an_state_after : Option Addr} {sl_state_after : Array (Option Value)} {oc_state_after kV_state_after dc_state_after pm_state_after cd_state_after ct_state_after : Value}
    (a_state_after : PySem.W.nsIn K mainGlobals "state_after" = some (some (.ref f_state_after))) (l_state_after : K.lookup f_state_after = some ⟨oc_state_after, od_state_after, .func (PySem.W.fnOf "state_after" "state_after" (defArgs s_state_after) (defBody s_state_after) (defScope s_state_after) .none kV_state_after dc_state_after pm_state_after an_state_after cd_state_after ct_state_after), sl_state_after⟩) (c_state_after : PySem.W.codeIn K cd_state_after "state_after" = true) (k_state_after : PySem.W.keepIn K (.ref f_state_after) = true)
    {f_choose : Addr} {od_choose an_choose : Option Addr} {sl_choose : Array (Option Value)} {oc_choose kV_choose dc_choose pm_choose cd_choose ct_choose : Value}
    (a_choose : PySem.W.nsIn K mainGlobals "choose" = some (some (.ref f_choose))) (l_choose : K.lookup f_choose = some ⟨oc_choose, od_choose, .func (PySem.W.fnOf "choose" "choose" (defArgs s_choose) (defBody s_choose) (defScope s_choose) .none kV_choose dc_choose pm_choose an_choose cd_choose ct_choose), sl_choose⟩) (c_choose : PySem.W.codeIn K cd_choose "choose" = true) (k_choose : PySem.W.keepIn K (.ref f_choose) = true)
    {f_remaining : Addr} {od_remaining an_remaining : Option Addr} {sl_remaining : Array (Option Value)} {oc_remaining kV_remaining dc_remaining pm_remaining cd_remaining ct_remaining : Value}
    (a_remaining : PySem.W.nsIn K mainGlobals "remaining" = some (some (.ref f_remaining))) (l_remaining : K.lookup f_remaining = some ⟨oc_remaining, od_remaining, .func (PySem.W.fnOf "remaining" "remaining" (defArgs s_remaining) (defBody s_remaining) (defScope s_remaining) .none kV_remaining dc_remaining pm_remaining an_remaining cd_remaining ct_remaining), sl_remaining⟩) (c_remaining : PySem.W.codeIn K cd_remaining "remaining" = true) (k_remaining : PySem.W.keepIn K (.ref f_remaining) = true)
    {f_best_merge : Addr} {od_best_merge an_best_merge : Option Addr} {sl_best_merge : Array (Option Value)} {oc_best_merge kV_best_merge dc_best_merge pm_best_merge cd_best_merge ct_best_merge : Value}
    (a_best_merge : PySem.W.nsIn K mainGlobals "best_merge" = some (some (.ref f_best_merge))) (l_best_merge : K.lookup f_best_merge = some ⟨oc_best_merge, od_best_merge, .func (PySem.W.fnOf "best_merge" "best_merge" (defArgs s_best_merge) (defBody s_best_merge) (defScope s_best_merge) .none kV_best_merge dc_best_merge pm_best_merge an_best_merge cd_best_merge ct_best_merge), sl_best_merge⟩) (c_best_merge : PySem.W.codeIn K cd_best_merge "best_merge" = true) (k_best_merge : PySem.W.keepIn K (.ref f_best_merge) = true)
    {f_potentials : Addr} {od_potentials an_potentials : Option Addr} {sl_potentials : Array (Option Value)} {oc_potentials kV_potentials dc_potentials pm_potentials cd_potentials ct_potentials : Value}
    (a_potentials : PySem.W.nsIn K mainGlobals "potentials" = some (some (.ref f_potentials))) (l_potentials : K.lookup f_potentials = some ⟨oc_potentials, od_potentials, .func (PySem.W.fnOf "potentials" "potentials" (defArgs s_potentials) (defBody s_potentials) (defScope s_potentials) .none kV_potentials dc_potentials pm_potentials an_potentials cd_potentials ct_potentials), sl_potentials⟩) (c_potentials : PySem.W.codeIn K cd_potentials "potentials" = true) (k_potentials : PySem.W.keepIn K (.ref f_potentials) = true)
    {f_check_arguments : Addr} {od_check_arguments an_check_arguments : Option Addr} {sl_check_arguments : Array (Option Value)} {oc_check_arguments kV_check_arguments dc_check_arguments pm_check_arguments cd_check_arguments ct_check_arguments : Value}
    (a_check_arguments : PySem.W.nsIn K mainGlobals "check_arguments" = some (some (.ref f_check_arguments))) (l_check_arguments : K.lookup f_check_arguments = some ⟨oc_check_arguments, od_check_arguments, .func (PySem.W.fnOf "check_arguments" "check_arguments" (defArgs s_check_arguments) (defBody s_check_arguments) (defScope s_check_arguments) .none kV_check_arguments dc_check_arguments pm_check_arguments an_check_arguments cd_check_arguments ct_check_arguments), sl_check_arguments⟩) (c_check_arguments : PySem.W.codeIn K cd_check_arguments "check_arguments" = true) (k_check_arguments : PySem.W.keepIn K (.ref f_check_arguments) = true)
    {f_all_reached : Addr} {od_all_reached an_all_reached : Option Addr} {sl_all_reached : Array (Option Value)} {oc_all_reached kV_all_reached dc_all_reached pm_all_reached cd_all_reached ct_all_reached : Value}
    (a_all_reached : PySem.W.nsIn K mainGlobals "all_reached" = some (some (.ref f_all_reached))) (l_all_reached : K.lookup f_all_reached = some ⟨oc_all_reached, od_all_reached, .func (PySem.W.fnOf "all_reached" "all_reached" (defArgs s_all_reached) (defBody s_all_reached) (defScope s_all_reached) .none kV_all_reached dc_all_reached pm_all_reached an_all_reached cd_all_reached ct_all_reached), sl_all_reached⟩) (c_all_reached : PySem.W.codeIn K cd_all_reached "all_reached" = true) (k_all_reached : PySem.W.keepIn K (.ref f_all_reached) = true)
    {f_states_after : Addr} {od_states_after an_states_after : Option Addr} {sl_states_after : Array (Option Value)} {oc_states_after kV_states_after dc_states_after pm_states_after cd_states_after ct_states_after : Value}
    (a_states_after : PySem.W.nsIn K mainGlobals "states_after" = some (some (.ref f_states_after))) (l_states_after : K.lookup f_states_after = some ⟨oc_states_after, od_states_after, .func (PySem.W.fnOf "states_after" "states_after" (defArgs s_states_after) (defBody s_states_after) (defScope s_states_after) .none kV_states_after dc_states_after pm_states_after an_states_after cd_states_after ct_states_after), sl_states_after⟩) (c_states_after : PySem.W.codeIn K cd_states_after "states_after" = true) (k_states_after : PySem.W.keepIn K (.ref f_states_after) = true)
    {f_shows_remaining : Addr} {od_shows_remaining an_shows_remaining : Option Addr} {sl_shows_remaining : Array (Option Value)} {oc_shows_remaining kV_shows_remaining dc_shows_remaining pm_shows_remaining cd_shows_remaining ct_shows_remaining : Value}
    (a_shows_remaining : PySem.W.nsIn K mainGlobals "shows_remaining" = some (some (.ref f_shows_remaining))) (l_shows_remaining : K.lookup f_shows_remaining = some ⟨oc_shows_remaining, od_shows_remaining, .func (PySem.W.fnOf "shows_remaining" "shows_remaining" (defArgs s_shows_remaining) (defBody s_shows_remaining) (defScope s_shows_remaining) .none kV_shows_remaining dc_shows_remaining pm_shows_remaining an_shows_remaining cd_shows_remaining ct_shows_remaining), sl_shows_remaining⟩) (c_shows_remaining : PySem.W.codeIn K cd_shows_remaining "shows_remaining" = true) (k_shows_remaining : PySem.W.keepIn K (.ref f_shows_remaining) = true)
    {f_has_rows : Addr} {od_has_rows an_has_rows : Option Addr} {sl_has_rows : Array (Option Value)} {oc_has_rows kV_has_rows dc_has_rows pm_has_rows cd_has_rows ct_has_rows : Value}
    (a_has_rows : PySem.W.nsIn K mainGlobals "has_rows" = some (some (.ref f_has_rows))) (l_has_rows : K.lookup f_has_rows = some ⟨oc_has_rows, od_has_rows, .func (PySem.W.fnOf "has_rows" "has_rows" (defArgs s_has_rows) (defBody s_has_rows) (defScope s_has_rows) .none kV_has_rows dc_has_rows pm_has_rows an_has_rows cd_has_rows ct_has_rows), sl_has_rows⟩) (c_has_rows : PySem.W.codeIn K cd_has_rows "has_rows" = true) (k_has_rows : PySem.W.keepIn K (.ref f_has_rows) = true)
    {f_is_row : Addr} {od_is_row an_is_row : Option Addr} {sl_is_row : Array (Option Value)} {oc_is_row kV_is_row dc_is_row pm_is_row cd_is_row ct_is_row : Value}
    (a_is_row : PySem.W.nsIn K mainGlobals "is_row" = some (some (.ref f_is_row))) (l_is_row : K.lookup f_is_row = some ⟨oc_is_row, od_is_row, .func (PySem.W.fnOf "is_row" "is_row" (defArgs s_is_row) (defBody s_is_row) (defScope s_is_row) .none kV_is_row dc_is_row pm_is_row an_is_row cd_is_row ct_is_row), sl_is_row⟩) (c_is_row : PySem.W.codeIn K cd_is_row "is_row" = true) (k_is_row : PySem.W.keepIn K (.ref f_is_row) = true)
    {f_is_justified : Addr} {od_is_justified an_is_justified : Option Addr} {sl_is_justified : Array (Option Value)} {oc_is_justified kV_is_justified dc_is_justified pm_is_justified cd_is_justified ct_is_justified : Value}
    (a_is_justified : PySem.W.nsIn K mainGlobals "is_justified" = some (some (.ref f_is_justified))) (l_is_justified : K.lookup f_is_justified = some ⟨oc_is_justified, od_is_justified, .func (PySem.W.fnOf "is_justified" "is_justified" (defArgs s_is_justified) (defBody s_is_justified) (defScope s_is_justified) .none kV_is_justified dc_is_justified pm_is_justified an_is_justified cd_is_justified ct_is_justified), sl_is_justified⟩) (c_is_justified : PySem.W.codeIn K cd_is_justified "is_justified" = true) (k_is_justified : PySem.W.keepIn K (.ref f_is_justified) = true)
    {f_L_s5_hand : Addr} {od_L_s5_hand an_L_s5_hand : Option Addr} {sl_L_s5_hand : Array (Option Value)} {oc_L_s5_hand kV_L_s5_hand dc_L_s5_hand pm_L_s5_hand cd_L_s5_hand ct_L_s5_hand : Value}
    (a_L_s5_hand : PySem.W.nsIn K mainGlobals "_law_s5_hand" = some (some (.ref f_L_s5_hand))) (l_L_s5_hand : K.lookup f_L_s5_hand = some ⟨oc_L_s5_hand, od_L_s5_hand, .func (PySem.W.fnOf "_law_s5_hand" "_law_s5_hand" (defArgs s_L_s5_hand) (defBody s_L_s5_hand) (defScope s_L_s5_hand) .none kV_L_s5_hand dc_L_s5_hand pm_L_s5_hand an_L_s5_hand cd_L_s5_hand ct_L_s5_hand), sl_L_s5_hand⟩) (c_L_s5_hand : PySem.W.codeIn K cd_L_s5_hand "_law_s5_hand" = true) (k_L_s5_hand : PySem.W.keepIn K (.ref f_L_s5_hand) = true)
    {f_L_s5_take : Addr} {od_L_s5_take an_L_s5_take : Option Addr} {sl_L_s5_take : Array (Option Value)} {oc_L_s5_take kV_L_s5_take dc_L_s5_take pm_L_s5_take cd_L_s5_take ct_L_s5_take : Value}
    (a_L_s5_take : PySem.W.nsIn K mainGlobals "_law_s5_take" = some (some (.ref f_L_s5_take))) (l_L_s5_take : K.lookup f_L_s5_take = some ⟨oc_L_s5_take, od_L_s5_take, .func (PySem.W.fnOf "_law_s5_take" "_law_s5_take" (defArgs s_L_s5_take) (defBody s_L_s5_take) (defScope s_L_s5_take) .none kV_L_s5_take dc_L_s5_take pm_L_s5_take an_L_s5_take cd_L_s5_take ct_L_s5_take), sl_L_s5_take⟩) (c_L_s5_take : PySem.W.codeIn K cd_L_s5_take "_law_s5_take" = true) (k_L_s5_take : PySem.W.keepIn K (.ref f_L_s5_take) = true)
    {f_L_s5_of : Addr} {od_L_s5_of an_L_s5_of : Option Addr} {sl_L_s5_of : Array (Option Value)} {oc_L_s5_of kV_L_s5_of dc_L_s5_of pm_L_s5_of cd_L_s5_of ct_L_s5_of : Value}
    (a_L_s5_of : PySem.W.nsIn K mainGlobals "_law_s5_of" = some (some (.ref f_L_s5_of))) (l_L_s5_of : K.lookup f_L_s5_of = some ⟨oc_L_s5_of, od_L_s5_of, .func (PySem.W.fnOf "_law_s5_of" "_law_s5_of" (defArgs s_L_s5_of) (defBody s_L_s5_of) (defScope s_L_s5_of) .none kV_L_s5_of dc_L_s5_of pm_L_s5_of an_L_s5_of cd_L_s5_of ct_L_s5_of), sl_L_s5_of⟩) (c_L_s5_of : PySem.W.codeIn K cd_L_s5_of "_law_s5_of" = true) (k_L_s5_of : PySem.W.keepIn K (.ref f_L_s5_of) = true)
    {f_L_s5_after : Addr} {od_L_s5_after an_L_s5_after : Option Addr} {sl_L_s5_after : Array (Option Value)} {oc_L_s5_after kV_L_s5_after dc_L_s5_after pm_L_s5_after cd_L_s5_after ct_L_s5_after : Value}
    (a_L_s5_after : PySem.W.nsIn K mainGlobals "_law_s5_after" = some (some (.ref f_L_s5_after))) (l_L_s5_after : K.lookup f_L_s5_after = some ⟨oc_L_s5_after, od_L_s5_after, .func (PySem.W.fnOf "_law_s5_after" "_law_s5_after" (defArgs s_L_s5_after) (defBody s_L_s5_after) (defScope s_L_s5_after) .none kV_L_s5_after dc_L_s5_after pm_L_s5_after an_L_s5_after cd_L_s5_after ct_L_s5_after), sl_L_s5_after⟩) (c_L_s5_after : PySem.W.codeIn K cd_L_s5_after "_law_s5_after" = true) (k_L_s5_after : PySem.W.keepIn K (.ref f_L_s5_after) = true)
    {f_L_s5_drawn : Addr} {od_L_s5_drawn an_L_s5_drawn : Option Addr} {sl_L_s5_drawn : Array (Option Value)} {oc_L_s5_drawn kV_L_s5_drawn dc_L_s5_drawn pm_L_s5_drawn cd_L_s5_drawn ct_L_s5_drawn : Value}
    (a_L_s5_drawn : PySem.W.nsIn K mainGlobals "_law_s5_drawn" = some (some (.ref f_L_s5_drawn))) (l_L_s5_drawn : K.lookup f_L_s5_drawn = some ⟨oc_L_s5_drawn, od_L_s5_drawn, .func (PySem.W.fnOf "_law_s5_drawn" "_law_s5_drawn" (defArgs s_L_s5_drawn) (defBody s_L_s5_drawn) (defScope s_L_s5_drawn) .none kV_L_s5_drawn dc_L_s5_drawn pm_L_s5_drawn an_L_s5_drawn cd_L_s5_drawn ct_L_s5_drawn), sl_L_s5_drawn⟩) (c_L_s5_drawn : PySem.W.codeIn K cd_L_s5_drawn "_law_s5_drawn" = true) (k_L_s5_drawn : PySem.W.keepIn K (.ref f_L_s5_drawn) = true)
    {f_L_s5_raised : Addr} {od_L_s5_raised an_L_s5_raised : Option Addr} {sl_L_s5_raised : Array (Option Value)} {oc_L_s5_raised kV_L_s5_raised dc_L_s5_raised pm_L_s5_raised cd_L_s5_raised ct_L_s5_raised : Value}
    (a_L_s5_raised : PySem.W.nsIn K mainGlobals "_law_s5_raised" = some (some (.ref f_L_s5_raised))) (l_L_s5_raised : K.lookup f_L_s5_raised = some ⟨oc_L_s5_raised, od_L_s5_raised, .func (PySem.W.fnOf "_law_s5_raised" "_law_s5_raised" (defArgs s_L_s5_raised) (defBody s_L_s5_raised) (defScope s_L_s5_raised) .none kV_L_s5_raised dc_L_s5_raised pm_L_s5_raised an_L_s5_raised cd_L_s5_raised ct_L_s5_raised), sl_L_s5_raised⟩) (c_L_s5_raised : PySem.W.codeIn K cd_L_s5_raised "_law_s5_raised" = true) (k_L_s5_raised : PySem.W.keepIn K (.ref f_L_s5_raised) = true)
    {f_L_s5_false_tables : Addr} {od_L_s5_false_tables an_L_s5_false_tables : Option Addr} {sl_L_s5_false_tables : Array (Option Value)} {oc_L_s5_false_tables kV_L_s5_false_tables dc_L_s5_false_tables pm_L_s5_false_tables cd_L_s5_false_tables ct_L_s5_false_tables : Value}
    (a_L_s5_false_tables : PySem.W.nsIn K mainGlobals "_law_s5_false_tables" = some (some (.ref f_L_s5_false_tables))) (l_L_s5_false_tables : K.lookup f_L_s5_false_tables = some ⟨oc_L_s5_false_tables, od_L_s5_false_tables, .func (PySem.W.fnOf "_law_s5_false_tables" "_law_s5_false_tables" (defArgs s_L_s5_false_tables) (defBody s_L_s5_false_tables) (defScope s_L_s5_false_tables) .none kV_L_s5_false_tables dc_L_s5_false_tables pm_L_s5_false_tables an_L_s5_false_tables cd_L_s5_false_tables ct_L_s5_false_tables), sl_L_s5_false_tables⟩) (c_L_s5_false_tables : PySem.W.codeIn K cd_L_s5_false_tables "_law_s5_false_tables" = true) (k_L_s5_false_tables : PySem.W.keepIn K (.ref f_L_s5_false_tables) = true)
    {f_L_s5_right : Addr} {od_L_s5_right an_L_s5_right : Option Addr} {sl_L_s5_right : Array (Option Value)} {oc_L_s5_right kV_L_s5_right dc_L_s5_right pm_L_s5_right cd_L_s5_right ct_L_s5_right : Value}
    (a_L_s5_right : PySem.W.nsIn K mainGlobals "_law_s5_right" = some (some (.ref f_L_s5_right))) (l_L_s5_right : K.lookup f_L_s5_right = some ⟨oc_L_s5_right, od_L_s5_right, .func (PySem.W.fnOf "_law_s5_right" "_law_s5_right" (defArgs s_L_s5_right) (defBody s_L_s5_right) (defScope s_L_s5_right) .none kV_L_s5_right dc_L_s5_right pm_L_s5_right an_L_s5_right cd_L_s5_right ct_L_s5_right), sl_L_s5_right⟩) (c_L_s5_right : PySem.W.codeIn K cd_L_s5_right "_law_s5_right" = true) (k_L_s5_right : PySem.W.keepIn K (.ref f_L_s5_right) = true)
    {f_law : Addr} {od_law an_law : Option Addr} {sl_law : Array (Option Value)} {oc_law kV_law dc_law pm_law cd_law ct_law : Value}
    (a_law : PySem.W.nsIn K mainGlobals "law" = some (some (.ref f_law))) (l_law : K.lookup f_law = some ⟨oc_law, od_law, .func (PySem.W.fnOf "law" "law" (defArgs s_law) (defBody s_law) (defScope s_law) .none kV_law dc_law pm_law an_law cd_law ct_law), sl_law⟩) (c_law : PySem.W.codeIn K cd_law "law" = true) (k_law : PySem.W.keepIn K (.ref f_law) = true)
    (z_isinstance : PySem.W.nsIn K mainGlobals "isinstance" = some none)
    (z_int : PySem.W.nsIn K mainGlobals "int" = some none)
    (z_bool : PySem.W.nsIn K mainGlobals "bool" = some none)
    (z_all : PySem.W.nsIn K mainGlobals "all" = some none)
    (z_tuple : PySem.W.nsIn K mainGlobals "tuple" = some none)
    (z_len : PySem.W.nsIn K mainGlobals "len" = some none)
    (z_max : PySem.W.nsIn K mainGlobals "max" = some none)
    (z_range : PySem.W.nsIn K mainGlobals "range" = some none)
    (z_min : PySem.W.nsIn K mainGlobals "min" = some none)
    (z_sorted : PySem.W.nsIn K mainGlobals "sorted" = some none)
    (z_zip : PySem.W.nsIn K mainGlobals "zip" = some none)
    (z_any : PySem.W.nsIn K mainGlobals "any" = some none)
    (z_abs : PySem.W.nsIn K mainGlobals "abs" = some none)
    (z_dict : PySem.W.nsIn K mainGlobals "dict" = some none)
    (z_list : PySem.W.nsIn K mainGlobals "list" = some none)
    (z_repr : PySem.W.nsIn K mainGlobals "repr" = some none)
    {t_MOST_BUDGET : Tok} (y_MOST_BUDGET : PySem.W.nsIn K mainGlobals "MOST_BUDGET" = some (some (.int (60) t_MOST_BUDGET)))
    {t_MOST_TABLE_BUDGET : Tok} (y_MOST_TABLE_BUDGET : PySem.W.nsIn K mainGlobals "MOST_TABLE_BUDGET" = some (some (.int (4) t_MOST_TABLE_BUDGET)))
    : ∃ fd : FuncData, (∀ (s : Shared) (v : Value), BindsTo s fd ⟨[v], []⟩ [("_law_script", v)]) ∧ ∀ base : Heap, K.In base → base.Ns mainGlobals mg → FnG l.prog w K mg base CX0 11 fa fd ["_law_script"] (sp_law K) := by
  have e := hfa.symm.trans (PySem.W.mg_of X G a_law)
  cases e
  have F_is_int := fun_mk (st := s_is_int) l_is_int c_is_int k_is_int
  have B_is_int := F_is_int.binds (ps := ["value"]) fun _ _ _ _ _ _ us hl => match us, hl with | [_], _ => rfl
  have F_is_count := fun_mk (st := s_is_count) l_is_count c_is_count k_is_count
  have B_is_count := F_is_count.binds (ps := ["value"]) fun _ _ _ _ _ _ us hl => match us, hl with | [_], _ => rfl
  have F_is_count_up_to := fun_mk (st := s_is_count_up_to) l_is_count_up_to c_is_count_up_to k_is_count_up_to
  have B_is_count_up_to := F_is_count_up_to.binds (ps := ["value", "most"]) fun _ _ _ _ _ _ us hl => match us, hl with | [_, _], _ => rfl
  have F_check_budgets := fun_mk (st := s_check_budgets) l_check_budgets c_check_budgets k_check_budgets
  have B_check_budgets := F_check_budgets.binds (ps := ["k", "c", "most"]) fun _ _ _ _ _ _ us hl => match us, hl with | [_, _, _], _ => rfl
  have F_is_state := fun_mk (st := s_is_state) l_is_state c_is_state k_is_state
  have B_is_state := F_is_state.binds (ps := ["value", "k", "c"]) fun _ _ _ _ _ _ us hl => match us, hl with | [_, _, _], _ => rfl
  have F_check_state := fun_mk (st := s_check_state) l_check_state c_check_state k_check_state
  have B_check_state := F_check_state.binds (ps := ["state", "k", "c"]) fun _ _ _ _ _ _ us hl => match us, hl with | [_, _, _], _ => rfl
  have F_state_after := fun_mk (st := s_state_after) l_state_after c_state_after k_state_after
  have B_state_after := F_state_after.binds (ps := ["state", "merge"]) fun _ _ _ _ _ _ us hl => match us, hl with | [_, _], _ => rfl
  have F_choose := fun_mk (st := s_choose) l_choose c_choose k_choose
  have B_choose := F_choose.binds (ps := ["n", "k"]) fun _ _ _ _ _ _ us hl => match us, hl with | [_, _], _ => rfl
  have F_remaining := fun_mk (st := s_remaining) l_remaining c_remaining k_remaining
  have B_remaining := F_remaining.binds (ps := ["state", "k", "c"]) fun _ _ _ _ _ _ us hl => match us, hl with | [_, _, _], _ => rfl
  have F_best_merge := fun_mk (st := s_best_merge) l_best_merge c_best_merge k_best_merge
  have B_best_merge := F_best_merge.binds (ps := ["state", "k", "c"]) fun _ _ _ _ _ _ us hl => match us, hl with | [_, _, _], _ => rfl
  have F_potentials := fun_mk (st := s_potentials) l_potentials c_potentials k_potentials
  have B_potentials := F_potentials.binds (ps := ["state", "k", "c"]) fun _ _ _ _ _ _ us hl => match us, hl with | [_, _, _], _ => rfl
  have F_check_arguments := fun_mk (st := s_check_arguments) l_check_arguments c_check_arguments k_check_arguments
  have B_check_arguments := F_check_arguments.binds (ps := ["state", "k", "c"]) fun _ _ _ _ _ _ us hl => match us, hl with | [_, _, _], _ => rfl
  have F_all_reached := fun_mk (st := s_all_reached) l_all_reached c_all_reached k_all_reached
  have B_all_reached := F_all_reached.binds (ps := ["state", "k", "c"]) fun _ _ _ _ _ _ us hl => match us, hl with | [_, _, _], _ => rfl
  have F_states_after := fun_mk (st := s_states_after) l_states_after c_states_after k_states_after
  have B_states_after := F_states_after.binds (ps := ["state", "k", "c"]) fun _ _ _ _ _ _ us hl => match us, hl with | [_, _, _], _ => rfl
  have F_shows_remaining := fun_mk (st := s_shows_remaining) l_shows_remaining c_shows_remaining k_shows_remaining
  have B_shows_remaining := F_shows_remaining.binds (ps := ["state", "k", "c", "number", "value"]) fun _ _ _ _ _ _ us hl => match us, hl with | [_, _, _, _, _], _ => rfl
  have F_has_rows := fun_mk (st := s_has_rows) l_has_rows c_has_rows k_has_rows
  have B_has_rows := F_has_rows.binds (ps := ["value", "k", "c"]) fun _ _ _ _ _ _ us hl => match us, hl with | [_, _, _], _ => rfl
  have F_is_row := fun_mk (st := s_is_row) l_is_row c_is_row k_is_row
  have B_is_row := F_is_row.binds (ps := ["value", "k", "c"]) fun _ _ _ _ _ _ us hl => match us, hl with | [_, _, _], _ => rfl
  have F_is_justified := fun_mk (st := s_is_justified) l_is_justified c_is_justified k_is_justified
  have B_is_justified := F_is_justified.binds (ps := ["state", "numbers", "k", "c"]) fun _ _ _ _ _ _ us hl => match us, hl with | [_, _, _, _], _ => rfl
  have F_L_s5_hand := fun_mk (st := s_L_s5_hand) l_L_s5_hand c_L_s5_hand k_L_s5_hand
  have B_L_s5_hand := F_L_s5_hand.binds (ps := ["_law_script", "_law_nth"]) fun _ _ _ _ _ _ us hl => match us, hl with | [_, _], _ => rfl
  have F_L_s5_take := fun_mk (st := s_L_s5_take) l_L_s5_take c_L_s5_take k_L_s5_take
  have B_L_s5_take := F_L_s5_take.binds (ps := ["_law_hand", "_law_size"]) fun _ _ _ _ _ _ us hl => match us, hl with | [_, _], _ => rfl
  have F_L_s5_of := fun_mk (st := s_L_s5_of) l_L_s5_of c_L_s5_of k_L_s5_of
  have B_L_s5_of := F_L_s5_of.binds (ps := ["_law_hand", "_law_options"]) fun _ _ _ _ _ _ us hl => match us, hl with | [_, _], _ => rfl
  have F_L_s5_after := fun_mk (st := s_L_s5_after) l_L_s5_after c_L_s5_after k_L_s5_after
  have B_L_s5_after := F_L_s5_after.binds (ps := ["_law_levels", "_law_taken"]) fun _ _ _ _ _ _ us hl => match us, hl with | [_, _], _ => rfl
  have F_L_s5_drawn := fun_mk (st := s_L_s5_drawn) l_L_s5_drawn c_L_s5_drawn k_L_s5_drawn
  have B_L_s5_drawn := F_L_s5_drawn.binds (ps := ["_law_hand", "_law_room", "_law_wear", "_law_most"]) fun _ _ _ _ _ _ us hl => match us, hl with | [_, _, _, _], _ => rfl
  have F_L_s5_raised := fun_mk (st := s_L_s5_raised) l_L_s5_raised c_L_s5_raised k_L_s5_raised
  have B_L_s5_raised := F_L_s5_raised.binds (ps := ["_law_rows", "_law_levels", "_law_room", "_law_wear", "_law_by"]) fun _ _ _ _ _ _ us hl => match us, hl with | [_, _, _, _, _], _ => rfl
  have F_L_s5_false_tables := fun_mk (st := s_L_s5_false_tables) l_L_s5_false_tables c_L_s5_false_tables k_L_s5_false_tables
  have B_L_s5_false_tables := F_L_s5_false_tables.binds (ps := ["_law_hand", "_law_rows", "_law_levels", "_law_room", "_law_wear"]) fun _ _ _ _ _ _ us hl => match us, hl with | [_, _, _, _, _], _ => rfl
  have F_L_s5_right := fun_mk (st := s_L_s5_right) l_L_s5_right c_L_s5_right k_L_s5_right
  have B_L_s5_right := F_L_s5_right.binds (ps := ["_law_hand", "_law_levels", "_law_room", "_law_wear"]) fun _ _ _ _ _ _ us hl => match us, hl with | [_, _, _, _], _ => rfl
  have F_law := fun_mk (st := s_law) l_law c_law k_law
  have B_law := F_law.binds (ps := ["_law_script"]) fun _ _ _ _ _ _ us hl => match us, hl with | [_], _ => rfl
  let TX : Tx K mg := ⟨_, _, F_is_int, PySem.W.mg_of X G a_is_int, B_is_int, _, _, F_is_count, PySem.W.mg_of X G a_is_count, B_is_count, _, _, F_is_count_up_to, PySem.W.mg_of X G a_is_count_up_to, B_is_count_up_to, _, _, F_check_budgets, PySem.W.mg_of X G a_check_budgets, B_check_budgets, _, _, F_is_state, PySem.W.mg_of X G a_is_state, B_is_state, _, _, F_check_state, PySem.W.mg_of X G a_check_state, B_check_state, _, _, F_state_after, PySem.W.mg_of X G a_state_after, B_state_after, _, _, F_choose, PySem.W.mg_of X G a_choose, B_choose, _, _, F_remaining, PySem.W.mg_of X G a_remaining, B_remaining, _, _, F_best_merge, PySem.W.mg_of X G a_best_merge, B_best_merge, _, _, F_potentials, PySem.W.mg_of X G a_potentials, B_potentials, _, _, F_check_arguments, PySem.W.mg_of X G a_check_arguments, B_check_arguments, _, _, F_all_reached, PySem.W.mg_of X G a_all_reached, B_all_reached, _, _, F_states_after, PySem.W.mg_of X G a_states_after, B_states_after, _, _, F_shows_remaining, PySem.W.mg_of X G a_shows_remaining, B_shows_remaining, _, _, F_has_rows, PySem.W.mg_of X G a_has_rows, B_has_rows, _, _, F_is_row, PySem.W.mg_of X G a_is_row, B_is_row, _, _, F_is_justified, PySem.W.mg_of X G a_is_justified, B_is_justified, _, _, F_L_s5_hand, PySem.W.mg_of X G a_L_s5_hand, B_L_s5_hand, _, _, F_L_s5_take, PySem.W.mg_of X G a_L_s5_take, B_L_s5_take, _, _, F_L_s5_of, PySem.W.mg_of X G a_L_s5_of, B_L_s5_of, _, _, F_L_s5_after, PySem.W.mg_of X G a_L_s5_after, B_L_s5_after, _, _, F_L_s5_drawn, PySem.W.mg_of X G a_L_s5_drawn, B_L_s5_drawn, _, _, F_L_s5_raised, PySem.W.mg_of X G a_L_s5_raised, B_L_s5_raised, _, _, F_L_s5_false_tables, PySem.W.mg_of X G a_L_s5_false_tables, B_L_s5_false_tables, _, _, F_L_s5_right, PySem.W.mg_of X G a_L_s5_right, B_L_s5_right, _, _, F_law, PySem.W.mg_of X G a_law, B_law, PySem.W.mg_none_of X G z_isinstance, PySem.W.mg_none_of X G z_int, PySem.W.mg_none_of X G z_bool, PySem.W.mg_none_of X G z_all, PySem.W.mg_none_of X G z_tuple, PySem.W.mg_none_of X G z_len, PySem.W.mg_none_of X G z_max, PySem.W.mg_none_of X G z_range, PySem.W.mg_none_of X G z_min, PySem.W.mg_none_of X G z_sorted, PySem.W.mg_none_of X G z_zip, PySem.W.mg_none_of X G z_any, PySem.W.mg_none_of X G z_abs, PySem.W.mg_none_of X G z_dict, PySem.W.mg_none_of X G z_list, PySem.W.mg_none_of X G z_repr, _, PySem.W.mg_of X G y_MOST_BUDGET, _, PySem.W.mg_of X G y_MOST_TABLE_BUDGET⟩
  exact ⟨TX.fd_law, fun s v => .of_eq rfl, fun base _ _ => ok_law TX⟩
end MB
open PySem PySem.W PyProof.Rows
set_option maxHeartbeats 0 in
theorem PySem.Challenge.cw_mergebudget_k81_whole_tables_certify_wha_holds : PySem.Challenge.rw_mergebudget_k81_whole_tables_certify_wha.Holds := by
  w_on; o_law; k_head; (case hw => w_witness2)
  k_fill
  refine MB.walk_ofG (l := PySem.Challenge.rw_mergebudget_k81_whole_tables_certify_wha) (n := 63) (k := 11) (x := "_law_script") (sp := MB.sp_law) rfl (by decide) rfl ⟨rfl, by decide, by decide⟩ (fun w h Y => PySem.W.kIn_of Y) ?F (fun _ _ a ns hl hS => ⟨a, ns, rfl, hS, hl, fun _ => rfl⟩)
  case F =>
    intro w mg fa h KX G hmg
    refine' MB.all_mk KX G hmg ?a_is_int ?l_is_int ?c_is_int ?k_is_int ?a_is_count ?l_is_count ?c_is_count ?k_is_count ?a_is_count_up_to ?l_is_count_up_to ?c_is_count_up_to ?k_is_count_up_to ?a_check_budgets ?l_check_budgets ?c_check_budgets ?k_check_budgets ?a_is_state ?l_is_state ?c_is_state ?k_is_state ?a_check_state ?l_check_state ?c_check_state ?k_check_state ?a_state_after ?l_state_after ?c_state_after ?k_state_after ?a_choose ?l_choose ?c_choose ?k_choose ?a_remaining ?l_remaining ?c_remaining ?k_remaining ?a_best_merge ?l_best_merge ?c_best_merge ?k_best_merge ?a_potentials ?l_potentials ?c_potentials ?k_potentials ?a_check_arguments ?l_check_arguments ?c_check_arguments ?k_check_arguments ?a_all_reached ?l_all_reached ?c_all_reached ?k_all_reached ?a_states_after ?l_states_after ?c_states_after ?k_states_after ?a_shows_remaining ?l_shows_remaining ?c_shows_remaining ?k_shows_remaining ?a_has_rows ?l_has_rows ?c_has_rows ?k_has_rows ?a_is_row ?l_is_row ?c_is_row ?k_is_row ?a_is_justified ?l_is_justified ?c_is_justified ?k_is_justified ?a_L_s5_hand ?l_L_s5_hand ?c_L_s5_hand ?k_L_s5_hand ?a_L_s5_take ?l_L_s5_take ?c_L_s5_take ?k_L_s5_take ?a_L_s5_of ?l_L_s5_of ?c_L_s5_of ?k_L_s5_of ?a_L_s5_after ?l_L_s5_after ?c_L_s5_after ?k_L_s5_after ?a_L_s5_drawn ?l_L_s5_drawn ?c_L_s5_drawn ?k_L_s5_drawn ?a_L_s5_raised ?l_L_s5_raised ?c_L_s5_raised ?k_L_s5_raised ?a_L_s5_false_tables ?l_L_s5_false_tables ?c_L_s5_false_tables ?k_L_s5_false_tables ?a_L_s5_right ?l_L_s5_right ?c_L_s5_right ?k_L_s5_right ?a_law ?l_law ?c_law ?k_law ?z_isinstance ?z_int ?z_bool ?z_all ?z_tuple ?z_len ?z_max ?z_range ?z_min ?z_sorted ?z_zip ?z_any ?z_abs ?z_dict ?z_list ?z_repr ?y_MOST_BUDGET ?y_MOST_TABLE_BUDGET
    (case a_is_int => k_is); (case l_is_int => k_is); (case c_is_int => k_is); (case k_is_int => k_is); (case a_is_count => k_is); (case l_is_count => k_is); (case c_is_count => k_is); (case k_is_count => k_is); (case a_is_count_up_to => k_is); (case l_is_count_up_to => k_is); (case c_is_count_up_to => k_is); (case k_is_count_up_to => k_is); (case a_check_budgets => k_is); (case l_check_budgets => k_is); (case c_check_budgets => k_is); (case k_check_budgets => k_is); (case a_is_state => k_is); (case l_is_state => k_is); (case c_is_state => k_is); (case k_is_state => k_is); (case a_check_state => k_is); (case l_check_state => k_is); (case c_check_state => k_is); (case k_check_state => k_is); (case a_state_after => k_is); (case l_state_after => k_is); (case c_state_after => k_is); (case k_state_after => k_is); (case a_choose => k_is); (case l_choose => k_is); (case c_choose => k_is); (case k_choose => k_is); (case a_remaining => k_is); (case l_remaining => k_is); (case c_remaining => k_is); (case k_remaining => k_is); (case a_best_merge => k_is); (case l_best_merge => k_is); (case c_best_merge => k_is); (case k_best_merge => k_is); (case a_potentials => k_is); (case l_potentials => k_is); (case c_potentials => k_is); (case k_potentials => k_is); (case a_check_arguments => k_is); (case l_check_arguments => k_is); (case c_check_arguments => k_is); (case k_check_arguments => k_is); (case a_all_reached => k_is); (case l_all_reached => k_is); (case c_all_reached => k_is); (case k_all_reached => k_is); (case a_states_after => k_is); (case l_states_after => k_is); (case c_states_after => k_is); (case k_states_after => k_is); (case a_shows_remaining => k_is); (case l_shows_remaining => k_is); (case c_shows_remaining => k_is); (case k_shows_remaining => k_is); (case a_has_rows => k_is); (case l_has_rows => k_is); (case c_has_rows => k_is); (case k_has_rows => k_is); (case a_is_row => k_is); (case l_is_row => k_is); (case c_is_row => k_is); (case k_is_row => k_is); (case a_is_justified => k_is); (case l_is_justified => k_is); (case c_is_justified => k_is); (case k_is_justified => k_is); (case a_L_s5_hand => k_is); (case l_L_s5_hand => k_is); (case c_L_s5_hand => k_is); (case k_L_s5_hand => k_is); (case a_L_s5_take => k_is); (case l_L_s5_take => k_is); (case c_L_s5_take => k_is); (case k_L_s5_take => k_is); (case a_L_s5_of => k_is); (case l_L_s5_of => k_is); (case c_L_s5_of => k_is); (case k_L_s5_of => k_is); (case a_L_s5_after => k_is); (case l_L_s5_after => k_is); (case c_L_s5_after => k_is); (case k_L_s5_after => k_is); (case a_L_s5_drawn => k_is); (case l_L_s5_drawn => k_is); (case c_L_s5_drawn => k_is); (case k_L_s5_drawn => k_is); (case a_L_s5_raised => k_is); (case l_L_s5_raised => k_is); (case c_L_s5_raised => k_is); (case k_L_s5_raised => k_is); (case a_L_s5_false_tables => k_is); (case l_L_s5_false_tables => k_is); (case c_L_s5_false_tables => k_is); (case k_L_s5_false_tables => k_is); (case a_L_s5_right => k_is); (case l_L_s5_right => k_is); (case c_L_s5_right => k_is); (case k_L_s5_right => k_is); (case a_law => k_is); (case l_law => k_is); (case c_law => k_is); (case k_law => k_is); (case z_isinstance => k_is); (case z_int => k_is); (case z_bool => k_is); (case z_all => k_is); (case z_tuple => k_is); (case z_len => k_is); (case z_max => k_is); (case z_range => k_is); (case z_min => k_is); (case z_sorted => k_is); (case z_zip => k_is); (case z_any => k_is); (case z_abs => k_is); (case z_dict => k_is); (case z_list => k_is); (case z_repr => k_is); (case y_MOST_BUDGET => k_is); (case y_MOST_TABLE_BUDGET => k_is)
